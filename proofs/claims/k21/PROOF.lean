import PyProof.Rows.All
import Wide.All
import OpenK.AllK
import Wide.FinOn
import Lean
import PyProof.EqAt
import PyProof.EqKinds
import PyProof.TupleCall
import PySem.Challenge.RW_ringpop_k21_roads
set_option Elab.async false
set_option linter.all false
set_option maxRecDepth 100000
set_option maxHeartbeats 4000000
/-! THE HAND LAYER, for ints, bools, texts, own classes, LISTS and tuples (index, slices, in, append, pop ..), calls, loops. Paste it whole ahead of your own text; what your proof does not reach may be deleted. -/
namespace L2
open PySem PySem.Spec PyProof.Rows

/-- a key: an int or a str -/
abbrev Key := Sum Int Str
def keyIs : Key → Value → Bool
  | .inl k, v => Value.isInt k v
  | .inr x, v => Value.isStrOf x v
def keyH (w : World) : Key → Int
  | .inl k => hashInt k
  | .inr x => hashStr w x
theorem keyIs_shape : ∀ {k : Key} {v : Value}, keyIs k v = true → (∃ i t, k = Sum.inl i ∧ v = Value.int i t) ∨ (∃ x t, k = Sum.inr x ∧ v = Value.str x t)
  | .inl i, v, h => by
    obtain ⟨t, e⟩ := Value.isInt_shape (k := i) (v := v) h
    exact .inl ⟨i, t, rfl, e⟩
  | .inr x, v, h => by
    obtain ⟨t, e⟩ := Value.isStrOf_shape (x := x) (v := v) h
    exact .inr ⟨x, t, rfl, e⟩
theorem keyIs_int (i : Int) (t : Tok) : keyIs (.inl i) (.int i t) = true := by simp [keyIs, Value.isInt]
theorem keyIs_str (x : Str) (t : Tok) : keyIs (.inr x) (.str x t) = true := by simp [keyIs, Value.isStrOf]
theorem key_ll (a b : Int) : decide ((Sum.inl a : Key) = Sum.inl b) = (a == b) := by
  by_cases e : a = b
  · subst e; simp
  · have h : ¬ (Sum.inl a : Key) = Sum.inl b := fun q => e (Sum.inl.inj q)
    rw [decide_eq_false h]
    exact (beq_eq_false_iff_ne.mpr e).symm
theorem key_rr (a b : Str) : decide ((Sum.inr a : Key) = Sum.inr b) = decide (a = b) := by
  by_cases e : a = b
  · subst e; simp
  · have h : ¬ (Sum.inr a : Key) = Sum.inr b := fun q => e (Sum.inr.inj q)
    rw [decide_eq_false h, decide_eq_false e]
theorem key_lr (a : Int) (b : Str) : decide ((Sum.inl a : Key) = Sum.inr b) = false := decide_eq_false (fun q => nomatch q)
theorem key_rl (a : Str) (b : Int) : decide ((Sum.inr a : Key) = Sum.inl b) = false := decide_eq_false (fun q => nomatch q)

def mixKind (prog : Program) (w : World) : PySem.KeyKind prog w Key where
  is := keyIs
  hash := keyH w
  inj := fun v a b ha hb => by
    rcases keyIs_shape ha with ⟨i, t, rfl, rfl⟩ | ⟨x, t, rfl, rfl⟩
    · rcases keyIs_shape hb with ⟨j, u, rfl, e⟩ | ⟨y, u, rfl, e⟩
      · injection e with e1 _; rw [e1]
      · exact nomatch e
    · rcases keyIs_shape hb with ⟨j, u, rfl, e⟩ | ⟨y, u, rfl, e⟩
      · exact nomatch e
      · injection e with e1 _; rw [e1]
  byValue := fun k v h => by
    rcases keyIs_shape h with ⟨i, t, rfl, rfl⟩ | ⟨x, t, rfl, rfl⟩ <;> rfl
  pyHash := fun hv h => by
    rcases keyIs_shape hv with ⟨i, t, rfl, rfl⟩ | ⟨x, t, rfl, rfl⟩
    · exact wpAny_pyHash_int h
    · exact wpAny_pyHash_str h
  eqBool := fun hu hv h => by
    rcases keyIs_shape hu with ⟨i, t, rfl, rfl⟩ | ⟨x, t, rfl, rfl⟩
    · rcases keyIs_shape hv with ⟨j, u, rfl, rfl⟩ | ⟨y, u, rfl, rfl⟩
      · rw [key_ll] at h; exact wpAny_eqBool_int h
      · rw [key_lr] at h; exact SeqAt.EqAt.int_str i t y u _ _ _ _ h
    · rcases keyIs_shape hv with ⟨j, u, rfl, rfl⟩ | ⟨y, u, rfl, rfl⟩
      · rw [key_rl] at h; exact SeqAt.EqAt.str_int x t j u _ _ _ _ h
      · rw [key_rr] at h; exact wpAny_eqBool_str h
  «strs» := fun k x t v h => by
    rcases keyIs_shape h with ⟨i, u, rfl, e⟩ | ⟨y, u, rfl, e⟩
    · exact nomatch e
    · injection e with e1 _
      subst e1
      cases v <;> rfl

theorem mixKind_int (prog : Program) (w : World) (i : Int) (t : Tok) : (mixKind prog w).is (.inl i) (.int i t) = true := keyIs_int i t
theorem mixKind_str (prog : Program) (w : World) (x : Str) (t : Tok) : (mixKind prog w).is (.inr x) (.str x t) = true := keyIs_str x t
end L2

namespace L2
open PySem PySem.Spec PyProof.Rows

/-- a value, without the heap -/
inductive V where
  | non | bl (b : Bool) | int (i : Int) | str (x : Str) | byt (b : Array UInt8) | flt (b : UInt64) | ref (a : Addr) | ty (n : String)
  deriving DecidableEq

def RelV : V → Value → Prop
  | .non, u => u = Value.none
  | .bl b, u => u = Value.bool b
  | .int i, u => ∃ t, u = Value.int i t
  | .str x, u => ∃ t, u = Value.str x t
  | .byt b, u => ∃ t, u = Value.bytes b t
  | .flt b, u => ∃ t, u = Value.float b t
  | .ref a, u => u = Value.ref a
  | .ty n, u => u = Value.type n

abbrev Vals : List V → List Value → Prop := Paired RelV
theorem Vals.length {xs : List V} {us : List Value} (r : Vals xs us) : xs.length = us.length := Paired.length r
theorem Vals.get : ∀ {xs : List V} {us : List Value} {i : Nat} {x : V}, Vals xs us → xs[i]? = some x → ∃ u, us[i]? = some u ∧ RelV x u
  | _, _, _, _, .nil, e => by simp at e
  | _, _, 0, _, .cons r _, e => by simp at e; subst e; exact ⟨_, rfl, r⟩
  | _, _, i + 1, x, .cons _ t, e => by
    obtain ⟨u, h1, h2⟩ := Vals.get (i := i) (x := x) t (by simpa using e)
    exact ⟨u, by simpa using h1, h2⟩
theorem Vals.set {x : V} {u : Value} (r : RelV x u) : ∀ {xs : List V} {us : List Value} (i : Nat), Vals xs us → Vals (xs.set i x) (us.set i u)
  | _, _, _, .nil => .nil
  | _, _, 0, .cons _ t => .cons r t
  | _, _, i + 1, .cons q t => .cons q (Vals.set r i t)
theorem Vals.append : ∀ {xs ys : List V} {us ws : List Value}, Vals xs us → Vals ys ws → Vals (xs ++ ys) (us ++ ws)
  | _, _, _, _, .nil, s => s
  | _, _, _, _, .cons r t, s => .cons r (Vals.append t s)
theorem Vals.take : ∀ {xs : List V} {us : List Value} (n : Nat), Vals xs us → Vals (xs.take n) (us.take n)
  | _, _, 0, _ => .nil
  | _, _, _ + 1, .nil => .nil
  | _, _, n + 1, .cons r t => .cons r (Vals.take n t)
theorem Vals.drop : ∀ {xs : List V} {us : List Value} (n : Nat), Vals xs us → Vals (xs.drop n) (us.drop n)
  | _, _, 0, r => r
  | _, _, _ + 1, .nil => .nil
  | _, _, n + 1, .cons _ t => Vals.drop n t
theorem Vals.none_of : ∀ {xs : List V} {us : List Value} {i : Nat}, Vals xs us → xs[i]? = none → us[i]? = none := fun {xs us i} r e => by
  have h1 := r.length
  have h2 : xs.length ≤ i := List.getElem?_eq_none_iff.mp e
  exact List.getElem?_eq_none_iff.mpr (by omega)

def RelO : Option V → Option Value → Prop
  | some v, some u => RelV v u
  | none, none => True
  | _, _ => False
def KV {κ : Type} : List (κ × V) → List (κ × Value) → Prop := Paired fun (p : κ × V) (q : κ × Value) => p.1 = q.1 ∧ RelV p.2 q.2

/-- a key of a dict (00_mix): an int or a text -/
def kV : Key → V
  | .inl i => .int i
  | .inr x => .str x

/-- what stands at a tracked address -/
inductive HO where
  /-- a list -/
  | lst (xs : List V)
  /-- a tuple (never changes) -/
  | tup (xs : List V)
  /-- a dict whose keys are ints and texts; one whose keys are tuples of ints and texts (the empty one is both) -/
  | dK (kvs : List (Key × V)) | dT (kvs : List (List Key × V))
  /-- a set of ints: its members, its size -/
  | set (S : Int → Bool) (n : Nat)
  /-- an instance of the class at C, its dict at dx, its attributes -/
  | ins (C dx : Addr) (fs : List (Str × V))
  /-- the dict of the instance at x -/
  | own (x : Addr)
  /-- the dict of an exception -/
  | xd (fs : List (Str × V))
  /-- a bound method, f of x -/
  | met (f x : Addr)
  /-- a range object lo, lo + 1, .. below hi -/
  | rng (lo hi : Int)
  /-- a thing that is known to the object (the script; a dict while a loop walks it): read, never written while it is so -/
  | frz (o : Obj) (u : HO)
  /-- a code object's table -/
  | tbl (ps : Array Value)
  /-- any other thing, by what is true of its one object (a def of one's own: SetO a S n := HO.ext fun h => ..) -/
  | ext (φ : Heap → Prop)

abbrev Hp := Addr → Option HO
def upd (H : Hp) (a : Addr) (o : HO) : Hp := fun b => if b = a then some o else H b
theorem upd_same {H : Hp} {a : Addr} {o : HO} : upd H a o a = some o := by unfold upd; rw [if_pos rfl]
theorem upd_ne {H : Hp} {a b : Addr} {o : HO} (h : b ≠ a) : upd H a o b = H b := by unfold upd; rw [if_neg h]
/-- two objects of different content stand apart -/
theorem ne_of {H : Hp} {a b : Addr} {o u : HO} (h : H a = some o) (h' : H b = some u) (d : o ≠ u) : a ≠ b := by
  intro e; subst e; rw [h] at h'; exact d (Option.some.inj h')
theorem ne_of_none {H : Hp} {a b : Addr} {o : HO} (h : H a = some o) (h' : H b = none) : a ≠ b := by
  intro e; subst e; rw [h] at h'; cases h'

section
variable (P : Program) (w : World)
def ObjOk (H : Hp) (h : Heap) (a : Addr) : HO → Prop
  | .lst xs => xs.length ≤ sizeLine ∧ ∃ (its : List Value) (n : Nat), Vals xs its ∧ h.get? a = some { cls := .type "list", data := .seq its.toArray n }
  | .tup xs => xs.length ≤ sizeLine ∧ ∃ its : List Value, Vals xs its ∧ IsTup h a its.toArray
  | .dK kvs => kvs.length ≤ sizeLine ∧ (a == sysModules) = false ∧ ∃ vs, KV kvs vs ∧ h.DictOf (mixKind P w) a vs
  | .dT kvs => kvs.length ≤ sizeLine ∧ (a == sysModules) = false ∧ ∃ xs : List (List Key × Addr × Value),
      Paired (fun (p : List Key × V) (q : List Key × Addr × Value) => p.1 = q.1 ∧ H q.2.1 = some (.tup (p.1.map kV)) ∧ RelV p.2 q.2.2) kvs xs ∧
      ∃ o es ep, h.get? a = some o ∧ o.ExactDict ∧ o.data = .dict es ep ∧ es.toList = xs.map (entryOfKey (tupleKind (mixKind P w))) ∧ (xs.map (·.1)).Nodup
  | .set S n => h.SetOf (intKind P w) a S n
  | .ins C dx fs => H dx = some (.own a) ∧ fs.length ≤ 1000 ∧ dx ≠ a ∧ h.get? a = some (PySem.W.instObj C dx) ∧
      ∃ mA, h.Ns1 dx mA ∧ (∀ f, RelO (fs.lookup f) (mA f)) ∧ PySem.Within mA (fs.map (·.1))
  | .own _ => ∃ o, h.get? a = some o
  | .xd fs => ∃ mA, h.Ns1 a mA ∧ ∀ f, RelO (fs.lookup f) (mA f)
  | .rng lo hi => ∃ t u v, h.get? a = some { cls := .type "range", data := .fields #[.int lo t, .int hi u, .int 1 v] }
  | .frz o u => h.get? a = some o ∧ ObjOk H h a u
  | .tbl ps => h.get? a = some { cls := .none, data := .fields ps }
  | .met f x => h.get? a = some (PySem.W.methodObj (.ref f) (.ref x))
  | .ext φ => φ h ∧ (∃ o, h.get? a = some o) ∧ ∀ h1 h2 : Heap, φ h1 → (∀ o, h1.get? a = some o → h2.get? a = some o) → φ h2
/-- the abstract heap is held -/
def HOk (H : Hp) (h : Heap) : Prop := ∀ a o, H a = some o → ObjOk P w H h a o
end

section
variable {P : Program} {w : World} {H H' : Hp} {h h' : Heap} {a : Addr} {o : HO}
theorem ObjOk.lt (x : ObjOk P w H h a o) : a < h.objs.size := by
  cases o with
  | lst xs => obtain ⟨_, _, _, _, e⟩ := x; exact Heap.lt_size e
  | tup xs => obtain ⟨_, _, _, p⟩ := x; exact p.lt
  | dK kvs => obtain ⟨_, _, _, _, o, _, _, e, _⟩ := x; exact Heap.lt_size e
  | dT kvs => obtain ⟨_, _, _, _, o, _, _, e, _⟩ := x; exact Heap.lt_size e
  | set S n => obtain ⟨o, _, _, _, e, _⟩ := x; exact Heap.lt_size e
  | ins C dx fs => obtain ⟨_, _, _, e, _⟩ := x; exact Heap.lt_size e
  | own y => obtain ⟨_, e⟩ := x; exact Heap.lt_size e
  | xd fs => obtain ⟨_, ⟨_, _, _, e, _⟩, _⟩ := x; exact Heap.lt_size e
  | rng lo hi => obtain ⟨_, _, _, e⟩ := x; exact Heap.lt_size e
  | frz ob u => obtain ⟨e, _⟩ := x; exact Heap.lt_size e
  | tbl ps => exact Heap.lt_size (show h.get? a = some _ from x)
  | met f y => exact Heap.lt_size (show h.get? a = some _ from x)
  | ext φ => obtain ⟨_, ⟨_, e⟩, _⟩ := x; exact Heap.lt_size e
theorem Paired.mapP {α β : Type} {F G : α → β → Prop} : ∀ {l₁ : List α} {l₂ : List β}, Paired F l₁ l₂ → (∀ a b, F a b → G a b) → Paired G l₁ l₂
  | _, _, .nil, _ => .nil
  | _, _, .cons r t, f => .cons (f _ _ r) (Paired.mapP t f)
/-- what an object's description leans on: its own object, its own dict, the tuples -/
theorem ObjOk.stay (x : ObjOk P w H h a o) (k : ∀ b u, (b = a ∨ H b = some (.own a)) → h.get? b = some u → h'.get? b = some u)
    (ho : ∀ b, H b = some (.own a) → H' b = some (.own a)) (ht : ∀ b xs, H b = some (.tup xs) → H' b = some (.tup xs)) : ObjOk P w H' h' a o := by
  induction o with
  | lst xs => obtain ⟨z, its, n, r, e⟩ := x; exact ⟨z, its, n, r, k _ _ (.inl rfl) e⟩
  | tup xs => obtain ⟨z, its, r, ob, e, c⟩ := x; exact ⟨z, its, r, ob, k _ _ (.inl rfl) e, c⟩
  | dK kvs => obtain ⟨z, y, vs, r, ob, es, ep, e, c⟩ := x; exact ⟨z, y, vs, r, ob, es, ep, k _ _ (.inl rfl) e, c⟩
  | dT kvs =>
    obtain ⟨z, y, xs, r, ob, es, ep, e, c⟩ := x
    exact ⟨z, y, xs, Paired.mapP r fun p q z => ⟨z.1, ht _ _ z.2.1, z.2.2⟩, ob, es, ep, k _ _ (.inl rfl) e, c⟩
  | set S n => obtain ⟨ob, es, ep, t, e, c⟩ := x; exact ⟨ob, es, ep, t, k _ _ (.inl rfl) e, c⟩
  | ins C dx fs =>
    obtain ⟨d, z, ne, e, mA, ⟨od, es, ep, e2, c⟩, r⟩ := x
    exact ⟨ho _ d, z, ne, k _ _ (.inl rfl) e, mA, ⟨od, es, ep, k _ _ (.inr d) e2, c⟩, r⟩
  | own y => obtain ⟨ob, e⟩ := x; exact ⟨ob, k _ _ (.inl rfl) e⟩
  | xd fs => obtain ⟨mA, ⟨od, es, ep, e, c⟩, r⟩ := x; exact ⟨mA, ⟨od, es, ep, k _ _ (.inl rfl) e, c⟩, r⟩
  | rng lo hi => obtain ⟨t, u, v, e⟩ := x; exact ⟨t, u, v, k _ _ (.inl rfl) e⟩
  | frz ob u ih => obtain ⟨e, q⟩ := x; exact ⟨k _ _ (.inl rfl) e, ih q⟩
  | tbl ps =>
    have e : h.get? a = some { cls := .none, data := .fields ps } := x
    show h'.get? a = some { cls := .none, data := .fields ps }
    exact k a _ (.inl rfl) e
  | met f y =>
    have e : h.get? a = some (PySem.W.methodObj (.ref f) (.ref y)) := x
    show h'.get? a = some (PySem.W.methodObj (.ref f) (.ref y))
    exact k a _ (.inl rfl) e
  | ext φ => obtain ⟨p, ⟨o, e⟩, st⟩ := x; exact ⟨st _ _ p fun o q => k _ _ (.inl rfl) q, ⟨o, k _ _ (.inl rfl) e⟩, st⟩
theorem HOk.lt (x : HOk P w H h) (e : H a = some o) : a < h.objs.size := (x a o e).lt
theorem HOk.fresh (x : HOk P w H h) (e : h.objs.size ≤ a) : H a = none := by
  cases q : H a with
  | none => rfl
  | some u => exact absurd (Nat.lt_of_lt_of_le (x.lt q) e) (Nat.lt_irrefl _)
/-- every object of the heap is kept -/
theorem HOk.kept (x : HOk P w H h) (k : ∀ b u, h.get? b = some u → h'.get? b = some u) : HOk P w H h' := fun a o e =>
  (x a o e).stay (fun b u _ q => k b u q) (fun _ q => q) fun _ _ q => q
/-- a new object is laid and tracked -/
theorem HOk.laid (x : HOk P w H h) (k : ∀ b u, h.get? b = some u → h'.get? b = some u) (hp : h.objs.size ≤ a) (new : ObjOk P w (upd H a o) h' a o) : HOk P w (upd H a o) h' := fun b u e => by
  have hn := x.fresh hp
  by_cases hb : b = a
  · subst hb; rw [upd_same] at e; cases e; exact new
  · rw [upd_ne hb] at e
    exact (x b u e).stay (fun c v _ q => k c v q) (fun c q => by rw [upd_ne (ne_of_none q hn)]; exact q) fun c xs q => by rw [upd_ne (ne_of_none q hn)]; exact q
end

/-- what may be read as u: it is u, or a known u -/
def Rd (H : Hp) (a : Addr) (u : HO) : Prop := H a = some u ∨ ∃ o, H a = some (.frz o u)
theorem Rd.of {H : Hp} {a : Addr} {u : HO} (h : H a = some u) : Rd H a u := .inl h
theorem Rd.ok {P : Program} {w : World} {H : Hp} {h : Heap} {a : Addr} {u : HO} (r : Rd H a u) (x : HOk P w H h) : ObjOk P w H h a u := by
  rcases r with r | ⟨o, r⟩
  · exact x a u r
  · obtain ⟨_, q⟩ := x a _ r
    exact q
/-- what may be written -/
def Mut : Option HO → Prop
  | some (.lst _) => True
  | some (.dK _) => True
  | some (.dT _) => True
  | some (.set _ _) => True
  | some (.ins _ _ _) => True
  | some (.ext _) => True
  | _ => False
section
variable {P : Program} {w : World} {H : Hp} {h h' : Heap} {x e : Addr} {o' : HO}
/-- the object at e is changed: x itself, or the dict of the instance x -/
theorem HOk.write (ok : HOk P w H h) (mu : Mut (H x)) (he : e = x ∨ H e = some (.own x)) (k : ∀ b u, b ≠ e → h.get? b = some u → h'.get? b = some u) (heo : ∃ u, h'.get? e = some u)
    (new : ObjOk P w (upd H x o') h' x o') : HOk P w (upd H x o') h' := fun b u q => by
  have nown : ∀ c y, H c = some (.own y) → c ≠ x := fun c y r z => by subst z; rw [r] at mu; exact mu
  have ntup : ∀ c xs, H c = some (.tup xs) → c ≠ x := fun c xs r z => by subst z; rw [r] at mu; exact mu
  by_cases hb : b = x
  · subst hb; rw [upd_same] at q; cases q; exact new
  · rw [upd_ne hb] at q
    by_cases hbe : b = e
    · have q' : H b = some (.own x) := by
        rcases he with z | z
        · exact absurd (hbe.trans z) hb
        · rw [hbe]; exact z
      rw [q] at q'; cases q'
      obtain ⟨v, hv⟩ := heo
      exact ⟨v, by rw [hbe]; exact hv⟩
    · refine (ok b u q).stay (fun c v hc r => k c v ?_ r) (fun c r => by rw [upd_ne (nown c b r)]; exact r) fun c xs r => by rw [upd_ne (ntup c xs r)]; exact r
      rcases hc with rfl | hc
      · exact hbe
      · rintro rfl
        rcases he with z | z
        · exact nown c b hc z
        · rw [hc] at z; cases z; exact hb rfl
end

/-! ### kept unless tracked; of the frames at fs (the callers') the slots may change (an exception that passes writes there); of the records at ex (iterators) nothing is said -/
structure Un (fs ex : List Addr) (H H' : Hp) (h h' : Heap) : Prop where
  keep : ∀ b o, h.get? b = some o → H b = none → b ∉ fs → b ∉ ex → h'.get? b = some o
  slot : ∀ b o, h.get? b = some o → H b = none → b ∈ fs → b ∉ ex → ∃ sl, h'.get? b = some { o with slots := sl }
  free : ∀ b o, h.get? b = some o → H b = none → b ∉ ex → H' b = none
  there : ∀ b o, h.get? b = some o → b ∉ ex → ∃ o', h'.get? b = some o'
  tups : ∀ b xs, H b = some (.tup xs) → H' b = some (.tup xs)
  frzs : ∀ b o u, H b = some (.frz o u) → H' b = some (.frz o u)
  tbls : ∀ b ps, H b = some (.tbl ps) → ∃ more, H' b = some (.tbl (ps ++ more))
section
variable {fs fs' ex ex' : List Addr} {H H1 H2 : Hp} {h h1 h2 h' : Heap} {a x e : Addr} {o : HO}
theorem Un.any (u : Un fs ex H H1 h h1) {b : Addr} {ob : Obj} (q : h.get? b = some ob) (n : H b = none) (hx : b ∉ ex) : ∃ sl, h1.get? b = some { ob with slots := sl } := by
  by_cases hb : b ∈ fs
  · exact u.slot b ob q n hb hx
  · exact ⟨ob.slots, u.keep b ob q n hb hx⟩
theorem Un.trans (a : Un fs ex H H1 h h1) (b : Un fs ex H1 H2 h1 h2) : Un fs ex H H2 h h2 where
  keep := fun c ob q n hc hx => b.keep c ob (a.keep c ob q n hc hx) (a.free c ob q n hx) hc hx
  slot := fun c ob q n hc hx => by
    obtain ⟨sl, e1⟩ := a.slot c ob q n hc hx
    obtain ⟨sl', e2⟩ := b.slot c _ e1 (a.free c ob q n hx) hc hx
    exact ⟨sl', e2⟩
  free := fun c ob q n hx => by
    obtain ⟨o', e1⟩ := a.there c ob q hx
    exact b.free c o' e1 (a.free c ob q n hx) hx
  there := fun c ob q hx => by
    obtain ⟨o', e1⟩ := a.there c ob q hx
    exact b.there c o' e1 hx
  tups := fun c xs q => b.tups c xs (a.tups c xs q)
  frzs := fun c ob xs q => b.frzs c ob xs (a.frzs c ob xs q)
  tbls := fun c ps q => by
    obtain ⟨m1, e1⟩ := a.tbls c ps q
    obtain ⟨m2, e2⟩ := b.tbls c _ e1
    exact ⟨m1 ++ m2, by rw [e2, Array.append_assoc]⟩
theorem Un.kept (k : ∀ b u, h.get? b = some u → h'.get? b = some u) : Un fs ex H H h h' :=
  ⟨fun b ob q _ _ _ => k b ob q, fun b ob q _ _ _ => ⟨ob.slots, k b ob q⟩, fun _ _ _ n _ => n, fun b ob q _ => ⟨ob, k b ob q⟩, fun _ _ q => q, fun _ _ _ q => q, fun _ ps q => ⟨#[], by rw [q]; simp⟩⟩
theorem Un.refl : Un fs ex H H h h := Un.kept fun _ _ q => q
theorem Un.laid (k : ∀ b u, h.get? b = some u → h'.get? b = some u) (hp : h.objs.size ≤ a) (hn : H a = none) : Un fs ex H (upd H a o) h h' where
  keep := fun b u q _ _ _ => k b u q
  slot := fun b u q _ _ _ => ⟨u.slots, k b u q⟩
  free := fun b u q n _ => by rw [upd_ne (Nat.ne_of_lt (Nat.lt_of_lt_of_le (Heap.lt_size q) hp))]; exact n
  there := fun b u q _ => ⟨u, k b u q⟩
  tups := fun b xs q => by rw [upd_ne (ne_of_none q hn)]; exact q
  frzs := fun b u xs q => by rw [upd_ne (ne_of_none q hn)]; exact q
  tbls := fun b ps q => ⟨#[], by rw [upd_ne (ne_of_none q hn), q]; simp⟩
theorem Un.write (mu : Mut (H x)) (he : e = x ∨ H e = some (.own x)) (k : ∀ b u, b ≠ e → h.get? b = some u → h'.get? b = some u) (heo : ∃ u, h'.get? e = some u) : Un fs ex H (upd H x o) h h' := by
  have hx : ∀ b, H b = none → b ≠ x := fun b n z => by subst z; rw [n] at mu; exact mu
  have hb : ∀ b, H b = none → b ≠ e := fun b n z => by
    subst z
    rcases he with r | r
    · exact hx b n r
    · rw [n] at r; cases r
  have hm : ∀ b u, H b = some u → ¬ Mut (some u) → b ≠ x := fun b u q nm z => by subst z; rw [q] at mu; exact nm mu
  refine ⟨fun b u q n _ _ => k b u (hb b n) q, fun b u q n _ _ => ⟨u.slots, k b u (hb b n) q⟩, fun b u q n _ => by rw [upd_ne (hx b n)]; exact n, fun b u q _ => ?_,
    fun b xs q => by rw [upd_ne (hm b _ q fun z => z)]; exact q, fun b u xs q => by rw [upd_ne (hm b _ q fun z => z)]; exact q, fun b ps q => ⟨#[], by rw [upd_ne (hm b _ q fun z => z), q]; simp⟩⟩
  by_cases hbe : b = e
  · subst hbe; exact heo
  · exact ⟨u, k b u hbe q⟩
theorem Un.mono (u : Un fs ex H H1 h h1) (hs : ∀ b ∈ fs, b ∈ fs') (hx : ∀ b ∈ ex, b ∈ ex') : Un fs' ex' H H1 h h1 :=
  ⟨fun b ob q n hb he => u.keep b ob q n (fun z => hb (hs b z)) fun z => he (hx b z), fun _ _ q n _ he => u.any q n fun z => he (hx _ z), fun b ob q n he => u.free b ob q n fun z => he (hx b z), fun b ob q he => u.there b ob q fun z => he (hx b z), u.tups, u.frzs, u.tbls⟩
end

/-! ### the heap without what is tracked -/
def trk (h : Heap) (H : Hp) : List Addr := (List.range h.objs.size).filter fun a => (H a).isSome
def hidT (h : Heap) (H : Hp) : Heap := PySem.W.hideAll h (trk h H)
theorem hidT_size (h : Heap) (H : Hp) : (hidT h H).objs.size = h.objs.size := PySem.W.hideAll_size _ _
theorem hidT_get {h : Heap} {H : Hp} {b : Addr} {o : Obj} (e : h.get? b = some o) (n : H b = none) : (hidT h H).get? b = some o :=
  PySem.W.hideAll_get _ e fun hm => by
    have q : (H b).isSome = true := (List.mem_filter.mp hm).2
    rw [n] at q; simp at q
theorem of_hidT {h : Heap} {H : Hp} {b : Addr} {o : Obj} (e : (hidT h H).get? b = some o) : h.get? b = some o ∧ H b = none := by
  have e' : h.get? b = some o := PySem.W.of_hideAll (trk h H) e
  refine ⟨e', ?_⟩
  cases q : H b with
  | none => rfl
  | some x =>
    have hm : b ∈ trk h H := List.mem_filter.mpr ⟨List.mem_range.mpr (Heap.lt_size e'), by simp [q]⟩
    have z : (hidT h H).get? b = none := PySem.W.hideAll_none (trk h H) hm
    rw [z] at e; cases e

/-! ### OpenK's ledger, filled with every new object but one -/
def allNews (g h : Heap) (L : Addr) : List (Addr × Obj) := (List.range h.objs.size).filterMap fun a => if a = L ∨ (g.get? a).isSome = true then none else (h.get? a).map fun o => (a, o)
def rest (g h : Heap) (L d : Addr) : List (Addr × Obj) := (allNews g h L).filter fun p => decide (p.1 ≠ d)
end L2

namespace L2
open PySem PySem.Spec PyProof.Rows

/-- the module's facts, over the base: the heap at the law's entry without what is tracked there -/
structure Mod (K : PySem.W.Frag) (mg : Str → Option Value) (base : Heap) : Prop where
  kin : K.In base
  glob : base.Ns mainGlobals mg
  blt : ∃ mb, base.Ns builtinsNs mb ∧ ∀ x : Str, x ≠ "__name__" → mb x = bootBuiltins x
  nolimit : base.NoLimit

/-- the context: a def's body (or a comprehension's block) running. base: fixed through the whole law; s₀, H₀: the entry; outer: the frames whose slots others may change (a def's callers); stack: all frames that run;
   ex: iterators that were made ahead of the entry and are walked here (a comprehension's); fn: the names whose cells were made at the entry (a def: all; a comprehension's block: its own); calm: not within an except suite; pn: pins that every state bears; xe: what is wanted of an exception that leaves the code -/
structure Cx where
  prog : Program
  w : World
  K : PySem.W.Frag
  mg : Str → Option Value
  base : Heap
  A : Around
  N : List Str
  s₀ : Shared
  H₀ : Hp
  env : Env
  outer : List Env
  stack : List Env
  ex : List Addr
  fn : Str → Bool
  calm : Bool
  pn : List (Addr × Obj)
  xe : Value → Shared → Prop
/-- the callers' frames -/
def frs (l : List Env) : List Addr := l.filterMap (·.frame)
abbrev Cx.fs (X : Cx) : List Addr := frs X.outer

def Vis (sc : Scope) (x : Str) : Prop := sc.names.lookup x = some .local ∨ sc.names.lookup x = some .cell ∨ sc.names.lookup x = some .free
def Loc (sc : Scope) (x : Str) : Prop := sc.names.lookup x = some .local ∨ sc.names.lookup x = some .cell
def Look (env : Env) (h : Heap) (m : Str → Option Value) (x : Str) (u : Value) : Prop :=
  (env.kindOf x = some .local ∧ m x = some u) ∨ ((env.kindOf x = some .cell ∨ env.kindOf x = some .free) ∧ ∃ c, env.cells.lookup x = some c ∧ h.IsCell c (some u))

structure Cx.Ok (X : Cx) : Prop where
  mod : Mod X.K X.mg X.base
  kind : X.env.scope.kind = .function
  glob : X.env.globals = mainGlobals
  blt : X.env.builtins = builtinsNs
  above : X.s₀.heap.objs.size ≤ X.env.locals
  inj : ∀ x y c, X.env.cells.lookup x = some c → X.env.cells.lookup y = some c → x = y
  has : ∀ x, (X.env.kindOf x = some .cell ∨ X.env.kindOf x = some .free) → ∃ c, X.env.cells.lookup x = some c
  cab : ∀ x c, X.fn x = true → X.env.cells.lookup x = some c → X.s₀.heap.objs.size ≤ c
  hd : X.calm = true → X.A.handled = none
  frames : X.A.frames = some X.stack
  stk : X.stack = X.outer ∨ (X.stack = X.env :: X.outer ∧ X.env.frame = some X.env.locals)
  exf : ∀ b ∈ X.ex, b ≠ X.env.locals ∧ ∀ x c, X.env.cells.lookup x = some c → c ≠ b
  bs : ∀ b o, X.base.get? b = some o → X.s₀.heap.get? b = some o ∧ X.H₀ b = none
  bsz : X.base.objs.size ≤ X.s₀.heap.objs.size
  noex : ∀ b o, X.base.get? b = some o → b ∉ X.ex
  exfs : ∀ b ∈ X.ex, b ∉ X.fs
  funs : X.s₀.heap.FunFrames X.base X.outer
  frf : ∀ b ∈ X.fs, X.H₀ b = none

structure Inv (X : Cx) (pins : List (Addr × Obj)) (σ : List (Option V)) (H : Hp) (s : Shared) : Prop where
  ok : X.Ok
  os : s.os = X.s₀.os
  bare : AllBare s.gens
  base : Un X.fs X.ex X.H₀ H X.s₀.heap s.heap
  loc : ∃ m, s.heap.Ns X.env.locals m ∧ ∀ (i : Nat) (x : Str) (v : V), X.N[i]? = some x → σ[i]? = some (some v) → Vis X.env.scope x → ∃ u, RelV v u ∧ Look X.env s.heap m x u
  cell : ∀ x c, X.env.cells.lookup x = some c → ∃ v, s.heap.IsCell c v
  free : H X.env.locals = none
  freeC : ∀ x c, X.env.cells.lookup x = some c → H c = none
  pin : ∀ p ∈ X.pn ++ pins, s.heap.get? p.1 = some p.2 ∧ H p.1 = none ∧ p.1 ≠ X.env.locals ∧ p.1 ∉ X.fs ∧ ∀ v, p.2.data ≠ .cell v
  hok : HOk X.prog X.w H s.heap
  len : σ.length = X.N.length

section
variable {X : Cx} {pins : List (Addr × Obj)} {σ : List (Option V)} {H H' : Hp} {s : Shared} {h' : Heap}

theorem Cx.Ok.nofr (ok : X.Ok) {b : Addr} {o : Obj} (e : X.base.get? b = some o) : b ∉ X.fs := fun hb => by
  have := (ok.funs.mem hb).1
  rw [e] at this; cases this
theorem Inv.bs (I : Inv X pins σ H s) : ∀ b o, X.base.get? b = some o → s.heap.get? b = some o ∧ H b = none := fun b o e =>
  ⟨I.base.keep b o (I.ok.bs b o e).1 (I.ok.bs b o e).2 (I.ok.nofr e) (I.ok.noex b o e), I.base.free b o (I.ok.bs b o e).1 (I.ok.bs b o e).2 (I.ok.noex b o e)⟩
theorem Inv.bk (I : Inv X pins σ H s) : ∀ b o, X.base.get? b = some o → s.heap.get? b = some o := fun b o e => (I.bs b o e).1
theorem Inv.mod (I : Inv X pins σ H s) : Mod X.K X.mg X.base := I.ok.mod
theorem Inv.kIn (I : Inv X pins σ H s) : X.K.In s.heap := I.ok.mod.kin.keeps I.bk
theorem Inv.nolimit (I : Inv X pins σ H s) : s.heap.NoLimit := I.ok.mod.nolimit.keeps I.bk
/-- the frame over the base: for OpenK's rules (K.In X.base is I.mod.kin) -/
theorem Inv.fr (I : Inv X pins σ H s) : ∃ m, Fr X.base X.env.locals s.heap m :=
  let ⟨m, hn, _⟩ := I.loc
  ⟨m, hn, I.bk, Nat.le_trans I.ok.bsz I.ok.above⟩
theorem Inv.lt (I : Inv X pins σ H s) : X.env.locals < s.heap.objs.size := let ⟨_, hn, _⟩ := I.loc; hn.lt
theorem Inv.sz (I : Inv X pins σ H s) : X.s₀.heap.objs.size ≤ s.heap.objs.size := Nat.le_trans I.ok.above (Nat.le_of_lt I.lt)
theorem Inv.nofs (I : Inv X pins σ H s) {a : Addr} (h : s.heap.objs.size ≤ a) : a ∉ X.fs := fun hb => by
  obtain ⟨_, o, ho, _⟩ := I.ok.funs.mem hb
  exact absurd (Nat.lt_of_lt_of_le (Heap.lt_size ho) (Nat.le_trans I.sz h)) (Nat.lt_irrefl _)
theorem Inv.cne (I : Inv X pins σ H s) : ∀ x c, X.env.cells.lookup x = some c → c ≠ X.env.locals := fun x c e z => by
  obtain ⟨v, o, ho, hd⟩ := I.cell x c e
  obtain ⟨m, ⟨o', es, ep, ho', hd', _⟩, _⟩ := I.loc
  rw [z, ho'] at ho; cases ho; rw [hd'] at hd; cases hd
theorem Inv.funs (I : Inv X pins σ H s) : s.heap.FunFrames X.base X.outer := by
  have all : ∀ (l : List Env), (∀ b ∈ frs l, b ∈ X.fs) → X.s₀.heap.FunFrames X.base l → s.heap.FunFrames X.base l := by
    intro l
    induction l with
    | nil => intro _ _; trivial
    | cons env r ih =>
      intro hs hl
      obtain ⟨hk, ⟨L, o, hf, hn, ho, hd⟩, hr⟩ := hl
      have hL : L ∈ X.fs := hs L (by unfold frs; rw [List.filterMap_cons, hf]; exact List.mem_cons_self)
      obtain ⟨sl, e⟩ := I.base.slot L o ho (I.ok.frf L hL) hL fun z => I.ok.exfs L z hL
      exact ⟨hk, ⟨L, _, hf, hn, e, hd⟩, ih (fun b hb => hs b (by unfold frs; rw [List.filterMap_cons, hf]; exact List.mem_cons_of_mem _ hb)) hr⟩
  exact all X.outer (fun _ hb => hb) I.ok.funs

/-- the frames that run, for a call -/
theorem Inv.stack (I : Inv X pins σ H s) : s.heap.FunFrames X.base X.stack := by
  rcases I.ok.stk with e | ⟨e, hf⟩
  · rw [e]; exact I.funs
  · rw [e]
    obtain ⟨m, hn, _⟩ := I.loc
    refine .cons (by rw [I.ok.kind]; decide) hf hn ?_ I.funs
    exact Heap.get?_none_of_le (Nat.le_trans I.ok.bsz I.ok.above)
theorem Inv.stkSub (I : Inv X pins σ H s) : ∀ b ∈ frs X.stack, b ∈ X.env.locals :: X.fs := fun b hb => by
  rcases I.ok.stk with e | ⟨e, hf⟩
  · rw [e] at hb; exact List.mem_cons_of_mem _ hb
  · rw [e] at hb
    unfold frs at hb
    rw [List.filterMap_cons, hf] at hb
    exact hb
theorem Inv.stkFree (I : Inv X pins σ H s) : ∀ b ∈ frs X.stack, H b = none := fun b hb => by
  rcases List.mem_cons.mp (I.stkSub b hb) with e | hb
  · rw [e]; exact I.free
  · obtain ⟨_, o, ho, _⟩ := I.ok.funs.mem hb
    exact I.base.free b o ho (I.ok.frf b hb) fun z => I.ok.exfs b z hb

/-- THE STEP: the untracked objects but the frame and the records at ch are kept (the callers' frames up to slots), the frame's map is kept, the new abstract heap is held -/
theorem Inv.step {g' : Array GenState} {t' : Nat} {d' : Drawn} {ch : List Addr} (I : Inv X pins σ H s)
    (hch : ∀ b ∈ ch, (b ∈ X.ex ∨ X.s₀.heap.objs.size ≤ b) ∧ b ≠ X.env.locals ∧ (∀ x c, X.env.cells.lookup x = some c → c ≠ b) ∧ ∀ p ∈ X.pn ++ pins, p.1 ≠ b)
    (keep : ∀ b o, b ≠ X.env.locals → b ∉ X.fs → b ∉ ch → s.heap.get? b = some o → H b = none → h'.get? b = some o)
    (slot : ∀ b o, b ≠ X.env.locals → b ∈ X.fs → b ∉ ch → s.heap.get? b = some o → H b = none → ∃ sl, h'.get? b = some { o with slots := sl }) (free : ∀ b o, b ∉ ch → s.heap.get? b = some o → H b = none → H' b = none)
    (there : ∀ b o, b ∉ ch → s.heap.get? b = some o → ∃ o', h'.get? b = some o')
    (tups : ∀ b xs, H b = some (.tup xs) → H' b = some (.tup xs)) (frzs : ∀ b o u, H b = some (.frz o u) → H' b = some (.frz o u)) (tbls : ∀ b ps, H b = some (.tbl ps) → ∃ more, H' b = some (.tbl (ps ++ more)))
    (ns : ∀ m, s.heap.Ns X.env.locals m → h'.Ns X.env.locals m) (hok : HOk X.prog X.w H' h') (hg : AllBare g') :
    Inv X pins σ H' { s with heap := h', gens := g', drawn := d', toks := t' } := by
  have neL : ∀ b o, X.s₀.heap.get? b = some o → b ≠ X.env.locals := fun b o e => Nat.ne_of_lt (Nat.lt_of_lt_of_le (Heap.lt_size e) I.ok.above)
  have neC : ∀ b o, X.s₀.heap.get? b = some o → b ∉ X.ex → b ∉ ch := fun b o e hx hb => by
    rcases (hch b hb).1 with z | z
    · exact hx z
    · exact absurd (Nat.lt_of_lt_of_le (Heap.lt_size e) z) (Nat.lt_irrefl _)
  have cellK : ∀ x c, X.env.cells.lookup x = some c → ∀ v, s.heap.IsCell c v → h'.IsCell c v := fun x c e v ⟨o, ho, hd⟩ => by
    have nch : c ∉ ch := fun z => (hch c z).2.2.1 x c e rfl
    by_cases hc : c ∈ X.fs
    · obtain ⟨sl, q⟩ := slot c o (I.cne x c e) hc nch ho (I.freeC x c e)
      exact ⟨_, q, hd⟩
    · exact ⟨o, keep c o (I.cne x c e) hc nch ho (I.freeC x c e), hd⟩
  refine ⟨I.ok, I.os, hg, ⟨fun b o e n hb hx => ?_, fun b o e n hb hx => ?_, fun b o e n hx => ?_, fun b o e hx => ?_, fun b xs e => tups b xs (I.base.tups b xs e), fun b o xs e => frzs b o xs (I.base.frzs b o xs e), fun b ps e => ?_⟩, ?_, fun x c e => ?_, ?_, fun x c e => ?_, fun p hp => ?_, hok, I.len⟩
  · exact keep b o (neL b o e) hb (neC b o e hx) (I.base.keep b o e n hb hx) (I.base.free b o e n hx)
  · obtain ⟨sl, e1⟩ := I.base.slot b o e n hb hx
    obtain ⟨sl', e2⟩ := slot b _ (neL b o e) hb (neC b o e hx) e1 (I.base.free b o e n hx)
    exact ⟨sl', e2⟩
  · obtain ⟨o', e1⟩ := I.base.there b o e hx
    exact free b o' (neC b o e hx) e1 (I.base.free b o e n hx)
  · obtain ⟨o', e1⟩ := I.base.there b o e hx
    exact there b o' (neC b o e hx) e1
  · obtain ⟨m1, e1⟩ := I.base.tbls b ps e
    obtain ⟨m2, e2⟩ := tbls b _ e1
    exact ⟨m1 ++ m2, by rw [e2, Array.append_assoc]⟩
  · obtain ⟨m, hn, hl⟩ := I.loc
    refine ⟨m, ns m hn, fun i x v e1 e2 e3 => ?_⟩
    obtain ⟨u, r, l⟩ := hl i x v e1 e2 e3
    refine ⟨u, r, ?_⟩
    rcases l with l | ⟨k, c, e, z⟩
    · exact .inl l
    · exact .inr ⟨k, c, e, cellK x c e _ z⟩
  · obtain ⟨v, z⟩ := I.cell x c e
    exact ⟨v, cellK x c e v z⟩
  · obtain ⟨m, ⟨o, _, _, ho, _⟩, _⟩ := I.loc
    exact free _ o (fun z => (hch _ z).2.1 rfl) ho I.free
  · obtain ⟨v, o, ho, hd⟩ := I.cell x c e
    exact free c o (fun z => (hch c z).2.2.1 x c e rfl) ho (I.freeC x c e)
  · obtain ⟨e, n, ne, nf, d⟩ := I.pin p hp
    have nch : p.1 ∉ ch := fun z => (hch p.1 z).2.2.2 p hp rfl
    exact ⟨keep p.1 p.2 ne nf nch e n, free p.1 p.2 nch e n, ne, nf, d⟩
/-- .. where the frame's own object is kept too -/
theorem Inv.un {t' : Nat} (I : Inv X pins σ H s) (u : Un X.fs [] H H' s.heap h') (hok : HOk X.prog X.w H' h') : Inv X pins σ H' { s with heap := h', toks := t' } := by
  obtain ⟨m, ⟨o, es, ep, ho, r⟩, _⟩ := id I.loc
  obtain ⟨sl, hL⟩ := u.any ho I.free (by simp)
  exact I.step (g' := s.gens) (d' := s.drawn) (ch := []) (fun _ z => nomatch z) (fun b o _ hb _ e n => u.keep b o e n hb (by simp)) (fun b o _ hb _ e n => u.slot b o e n hb (by simp)) (fun b o _ e n => u.free b o e n (by simp)) (fun b o _ e => u.there b o e (by simp)) u.tups u.frzs u.tbls (fun m' hm => by
    obtain ⟨o', es', ep', ho', r'⟩ := hm
    rw [ho] at ho'; cases ho'
    exact ⟨_, es', ep', hL, r'⟩) hok I.bare
/-- behind a call (or a comprehension's block): the slots of this frame may have changed too, the records at ch may have turned -/
theorem Inv.call {g' : Array GenState} {t' : Nat} {d' : Drawn} {ch : List Addr} (I : Inv X pins σ H s) (u : Un (frs X.stack) ch H H' s.heap h') (hok : HOk X.prog X.w H' h') (hg : AllBare g')
    (hch : ∀ b ∈ ch, (b ∈ X.ex ∨ X.s₀.heap.objs.size ≤ b) ∧ b ≠ X.env.locals ∧ (∀ x c, X.env.cells.lookup x = some c → c ≠ b) ∧ ∀ p ∈ X.pn ++ pins, p.1 ≠ b) :
    Inv X pins σ H' { s with heap := h', gens := g', drawn := d', toks := t' } := by
  obtain ⟨m, ⟨o, es, ep, ho, r⟩, _⟩ := id I.loc
  obtain ⟨sl, hL⟩ := u.any ho I.free fun z => (hch _ z).2.1 rfl
  exact I.step (ch := ch) hch (fun b o hL hb hc e n => u.keep b o e n (fun z => (List.mem_cons.mp (I.stkSub b z)).elim hL hb) hc) (fun b o _ _ hc e n => u.any e n hc) (fun b o hc e n => u.free b o e n hc) (fun b o hc e => u.there b o e hc) u.tups u.frzs u.tbls (fun m' hm => by
    obtain ⟨o', es', ep', ho', r'⟩ := hm
    rw [ho] at ho'; cases ho'
    exact ⟨_, es', ep', hL, r'⟩) hok hg
/-- an untracked record of ours (an iterator) has turned -/
theorem Inv.turned {t' : Nat} {it : Addr} (I : Inv X pins σ H s) (k : ∀ b o, b ≠ it → s.heap.get? b = some o → h'.get? b = some o) (hn : H it = none) (hL : it ≠ X.env.locals)
    (h1 : it ∈ X.ex ∨ X.s₀.heap.objs.size ≤ it) (h2 : ∀ x c, X.env.cells.lookup x = some c → c ≠ it) (h3 : ∀ p ∈ X.pn ++ pins, p.1 ≠ it) : Inv X pins σ H { s with heap := h', toks := t' } := by
  have nit : ∀ b u, H b = some u → b ≠ it := fun b u e z => by rw [z, hn] at e; cases e
  refine I.step (g' := s.gens) (d' := s.drawn) (ch := [it]) (fun b hb => ?_) (fun b o _ _ hc e _ => k b o (fun z => hc (by simp [z])) e) (fun b o _ _ hc e _ => ⟨o.slots, k b o (fun z => hc (by simp [z])) e⟩) (fun _ _ _ _ n => n)
    (fun b o hc e => ⟨o, k b o (fun z => hc (by simp [z])) e⟩) (fun _ _ e => e) (fun _ _ _ e => e) (fun b ps e => ⟨#[], by rw [e]; simp⟩) (fun m hm => ?_) (fun b u e => ?_) I.bare
  · have e : b = it := by simpa using hb
    subst e
    exact ⟨h1, hL, h2, h3⟩
  · obtain ⟨o, es, ep, ho, r⟩ := hm
    exact ⟨o, es, ep, k _ o (Ne.symm hL) ho, r⟩
  · refine (I.hok b u e).stay (fun c v hc q => k c v ?_ q) (fun _ q => q) fun _ _ q => q
    rcases hc with z | z
    · rw [z]; exact nit b u e
    · exact nit c _ z
theorem Inv.tok (I : Inv X pins σ H s) (t : Nat) : Inv X pins σ H { s with toks := t } := I.un (h' := s.heap) (t' := t) Un.refl I.hok
/-- all objects kept -/
theorem Inv.kept {t' : Nat} (I : Inv X pins σ H s) (k : ∀ b u, s.heap.get? b = some u → h'.get? b = some u) : Inv X pins σ H { s with heap := h', toks := t' } := I.un (Un.kept k) (I.hok.kept k)
/-- a new object laid and tracked -/
theorem Inv.laid {a : Addr} {o : HO} {t' : Nat} (I : Inv X pins σ H s) (k : ∀ b u, s.heap.get? b = some u → h'.get? b = some u) (hp : s.heap.objs.size ≤ a) (new : ObjOk X.prog X.w (upd H a o) h' a o) :
    Inv X pins σ (upd H a o) { s with heap := h', toks := t' } := I.un (Un.laid k hp (I.hok.fresh hp)) (I.hok.laid k hp new)
/-- an object written -/
theorem Inv.write {x e : Addr} {o : HO} {t' : Nat} (I : Inv X pins σ H s) (mu : Mut (H x)) (he : e = x ∨ H e = some (.own x)) (k : ∀ b u, b ≠ e → s.heap.get? b = some u → h'.get? b = some u) (heo : ∃ u, h'.get? e = some u)
    (new : ObjOk X.prog X.w (upd H x o) h' x o) : Inv X pins σ (upd H x o) { s with heap := h', toks := t' } := I.un (Un.write mu he k heo) (I.hok.write mu he k heo new)
/-- forgetting slots, pins -/
theorem Inv.weak {σ' : List (Option V)} (I : Inv X pins σ H s) (hl : σ'.length = σ.length) (w : ∀ (i : Nat) v, σ'[i]? = some (some v) → σ[i]? = some (some v)) : Inv X pins σ' H s :=
  ⟨I.ok, I.os, I.bare, I.base, let ⟨m, hn, hl'⟩ := I.loc; ⟨m, hn, fun i x v e1 e2 e3 => hl' i x v e1 (w i v e2) e3⟩, I.cell, I.free, I.freeC, I.pin, I.hok, hl.trans I.len⟩
theorem Inv.pins_of {pins' : List (Addr × Obj)} (I : Inv X pins σ H s) (h : ∀ p ∈ pins', s.heap.get? p.1 = some p.2 ∧ H p.1 = none ∧ p.1 ≠ X.env.locals ∧ p.1 ∉ X.fs ∧ ∀ v, p.2.data ≠ .cell v) : Inv X pins' σ H s :=
  ⟨I.ok, I.os, I.bare, I.base, I.loc, I.cell, I.free, I.freeC, fun p hp => (List.mem_append.mp hp).elim (fun z => I.pin p (List.mem_append_left _ z)) (h p), I.hok, I.len⟩

theorem nodup_ix {N : List Str} (hN : N.Nodup) {i j : Nat} {x : Str} (a : N[i]? = some x) (b : N[j]? = some x) : i = j := by
  obtain ⟨h1, e1⟩ := List.getElem?_eq_some_iff.mp a
  obtain ⟨h2, e2⟩ := List.getElem?_eq_some_iff.mp b
  exact (List.getElem_inj hN).mp (e1.trans e2.symm)

/-- a name is stored; what changed -/
theorem store_ok2 {M : Model} {A : Around} {E : Value → Shared → Prop} {i : Nat} {x : Str} {v : V} {u : Value} {Q : Unit → Shared → Prop} (I : Inv X pins σ H s) (hN : X.N.Nodup) (hi : X.N[i]? = some x) (hx : Loc X.env.scope x) (r : RelV v u)
    (h : ∀ s', Inv X pins (σ.set i (some v)) H s' → (∃ a, Heap.SameBut a s.heap s'.heap ∧ (a = X.env.locals ∨ X.env.cells.lookup x = some a)) → Q () s') (hf : X.fn x = true ∨ X.env.scope.names.lookup x = some .local := by first | exact .inl rfl | exact .inr rfl | assumption) : wpAny M A (storeName X.env x u) Q E s := by
  obtain ⟨m, hn, hl⟩ := id I.loc
  have hcls : (X.env.scope.kind == .class || (X.env.scope.kind == .module && X.env.locals != X.env.globals)) = false := by rw [I.ok.kind]; rfl
  have hiσ : i < σ.length := by rw [I.len]; exact (List.getElem?_eq_some_iff.mp hi).1
  have cne := I.cne
  have tracked : ∀ {a : Addr} {h' : Heap}, (∃ o, s.heap.get? a = some o ∧ H a = none) → Heap.SameBut a s.heap h' → HOk X.prog X.w H h' := fun {a h'} ha hs b ob e => by
    obtain ⟨_, _, hfree⟩ := ha
    refine (I.hok b ob e).stay (fun c w' hc q => (hs.2 c ?_).trans q) (fun _ q => q) fun _ _ q => q
    rintro rfl
    rcases hc with rfl | hc
    · rw [hfree] at e; cases e
    · rw [hfree] at hc; cases hc
  rcases hx with hk | hk
  · refine wpAny_storeName_local hk hn (fun h' hn' hs => ?_) hcls
    obtain ⟨oL, _, _, hoL, _⟩ := id hn
    refine h _ ⟨I.ok, I.os, I.bare, ⟨fun b o e n hb hx => ?_, fun b o e n hb hx => ?_, I.base.free, fun b o e hx => ?_, I.base.tups, I.base.frzs, I.base.tbls⟩, ⟨_, hn', fun j y v' e1 e2 e3 => ?_⟩, fun y c e => ?_, I.free, I.freeC, fun p hp => ?_, tracked ⟨oL, hoL, I.free⟩ hs, by simpa using I.len⟩ ⟨_, hs, .inl rfl⟩
    · exact (hs.2 b (Nat.ne_of_lt (Nat.lt_of_lt_of_le (Heap.lt_size e) I.ok.above))).trans (I.base.keep b o e n hb hx)
    · obtain ⟨sl, e1⟩ := I.base.slot b o e n hb hx
      exact ⟨sl, (hs.2 b (Nat.ne_of_lt (Nat.lt_of_lt_of_le (Heap.lt_size e) I.ok.above))).trans e1⟩
    · obtain ⟨o', e1⟩ := I.base.there b o e hx
      exact ⟨o', (hs.2 b (Nat.ne_of_lt (Nat.lt_of_lt_of_le (Heap.lt_size e) I.ok.above))).trans e1⟩
    · by_cases hj : j = i
      · subst hj
        rw [hi] at e1; cases e1
        rw [List.getElem?_set_self hiσ] at e2
        cases e2
        exact ⟨u, r, .inl ⟨hk, by simp⟩⟩
      · rw [List.getElem?_set_ne (Ne.symm hj)] at e2
        obtain ⟨u', r', q⟩ := hl j y v' e1 e2 e3
        refine ⟨u', r', ?_⟩
        rcases q with ⟨k, e⟩ | ⟨k, c, e, z⟩
        · refine .inl ⟨k, ?_⟩
          have : y ≠ x := fun e => hj (nodup_ix hN e1 (e ▸ hi))
          simp [this, e]
        · exact .inr ⟨k, c, e, z.sameBut hs (cne y c e)⟩
    · obtain ⟨w', z⟩ := I.cell y c e
      exact ⟨w', z.sameBut hs (cne y c e)⟩
    · obtain ⟨e, n, ne, nf, d⟩ := I.pin p hp
      exact ⟨(hs.2 p.1 ne).trans e, n, ne, nf, d⟩
  · have hfn : X.fn x = true := by
      rcases hf with z | z
      · exact z
      · rw [z] at hk; cases hk
    obtain ⟨c, hc⟩ := I.ok.has x (.inl hk)
    obtain ⟨w', z⟩ := I.cell x c hc
    refine wpAny_storeName_cell I.ok.kind hk hc z (fun h' hc' hs => ?_)
    obtain ⟨oc, hoc, hocd⟩ := id z
    refine h { s with heap := h' } ⟨I.ok, I.os, I.bare, ⟨fun b o e n hb hx => ?_, fun b o e n hb hx => ?_, I.base.free, fun b o e hx => ?_, I.base.tups, I.base.frzs, I.base.tbls⟩, ⟨m, hn.sameBut hs (Ne.symm (cne x c hc)), fun j y v' e1 e2 e3 => ?_⟩, fun y c' e => ?_, I.free, I.freeC, fun p hp => ?_, tracked ⟨oc, hoc, I.freeC x c hc⟩ hs, by simpa using I.len⟩ ⟨c, hs, .inr hc⟩
    · exact (hs.2 b (Nat.ne_of_lt (Nat.lt_of_lt_of_le (Heap.lt_size e) (I.ok.cab x c hfn hc)))).trans (I.base.keep b o e n hb hx)
    · obtain ⟨sl, e1⟩ := I.base.slot b o e n hb hx
      exact ⟨sl, (hs.2 b (Nat.ne_of_lt (Nat.lt_of_lt_of_le (Heap.lt_size e) (I.ok.cab x c hfn hc)))).trans e1⟩
    · obtain ⟨o', e1⟩ := I.base.there b o e hx
      exact ⟨o', (hs.2 b (Nat.ne_of_lt (Nat.lt_of_lt_of_le (Heap.lt_size e) (I.ok.cab x c hfn hc)))).trans e1⟩
    · by_cases hj : j = i
      · subst hj
        rw [hi] at e1; cases e1
        rw [List.getElem?_set_self hiσ] at e2
        cases e2
        exact ⟨u, r, .inr ⟨.inl hk, c, hc, hc'⟩⟩
      · rw [List.getElem?_set_ne (Ne.symm hj)] at e2
        obtain ⟨u', r', q⟩ := hl j y v' e1 e2 e3
        refine ⟨u', r', ?_⟩
        rcases q with q | ⟨k, c', e, z'⟩
        · exact .inl q
        · refine .inr ⟨k, c', e, z'.sameBut hs ?_⟩
          rintro rfl
          exact hj (nodup_ix hN e1 (I.ok.inj _ _ _ e hc ▸ hi))
    · by_cases hcc : c' = c
      · subst hcc; exact ⟨_, hc'⟩
      · obtain ⟨w2, z2⟩ := I.cell y c' e
        exact ⟨w2, z2.sameBut hs hcc⟩
    · obtain ⟨e, n, ne, nf, d⟩ := I.pin p hp
      refine ⟨(hs.2 p.1 ?_).trans e, n, ne, nf, d⟩
      intro q
      rw [q, hoc] at e
      have q' : oc = p.2 := Option.some.inj e
      exact d w' (by rw [← q']; exact hocd)
theorem store_ok {M : Model} {A : Around} {E : Value → Shared → Prop} {i : Nat} {x : Str} {v : V} {u : Value} {Q : Unit → Shared → Prop} (I : Inv X pins σ H s) (hN : X.N.Nodup) (hi : X.N[i]? = some x) (hx : Loc X.env.scope x) (r : RelV v u)
    (h : ∀ s', Inv X pins (σ.set i (some v)) H s' → Q () s') (hf : X.fn x = true ∨ X.env.scope.names.lookup x = some .local := by first | exact .inl rfl | exact .inr rfl | assumption) : wpAny M A (storeName X.env x u) Q E s :=
  store_ok2 I hN hi hx r (fun s' I' _ => h s' I') hf
/-- behind a call or a block, the state as it is -/
theorem Inv.call' {s' : Shared} {ch : List Addr} (I : Inv X pins σ H s) (ho : s'.os = s.os) (u : Un (frs X.stack) ch H H' s.heap s'.heap) (hok : HOk X.prog X.w H' s'.heap) (hg : AllBare s'.gens)
    (hch : ∀ b ∈ ch, (b ∈ X.ex ∨ X.s₀.heap.objs.size ≤ b) ∧ b ≠ X.env.locals ∧ (∀ x c, X.env.cells.lookup x = some c → c ≠ b) ∧ ∀ p ∈ X.pn ++ pins, p.1 ≠ b) : Inv X pins σ H' s' := by
  obtain ⟨h', g', d', t', o'⟩ := s'
  have e : o' = s.os := ho
  subst e
  exact I.call (g' := g') (t' := t') (d' := d') u hok hg hch
end

/-! ### the judgements -/
/-- an exception: its class, its own dict's address (where it has one), the abstract heap behind it -/
abbrev XK := Value → Option Addr → Hp → Prop
abbrev St := List (Option V)
abbrev VK := V → Hp → Prop
/-- an expression's reading; a test's; an argument list's -/
abbrev TE := St → Hp → VK → Prop
abbrev TT := St → Hp → (Bool → Hp → Prop) → Prop
abbrev TA := St → Hp → (List V → Hp → Prop) → Prop
/-- what is wanted behind a statement -/
structure Ends where
  nx : St → Hp → Prop
  rt : VK
  bk : St → Hp → Prop := fun _ _ => False
  ct : St → Hp → Prop := fun _ _ => False
abbrev TS := Ends → St → Hp → Prop

def EP (X : Cx) (pins : List (Addr × Obj)) (σ : St) (Q : VK) (u : Value) (s' : Shared) : Prop := ∃ v H', Inv X pins σ H' s' ∧ RelV v u ∧ Q v H'
def TP (X : Cx) (pins : List (Addr × Obj)) (σ : St) (Q : Bool → Hp → Prop) (b : Bool) (s' : Shared) : Prop := ∃ H', Inv X pins σ H' s' ∧ Q b H'
def AP (X : Cx) (pins : List (Addr × Obj)) (σ : St) (Q : List V → Hp → Prop) (us : List Value) (s' : Shared) : Prop := ∃ vs H', Inv X pins σ H' s' ∧ Vals vs us ∧ Q vs H'
def SP (X : Cx) (pins : List (Addr × Obj)) (D : Ends) (f : Flow) (s' : Shared) : Prop :=
  match f with
  | .next => ∃ σ' H', Inv X pins σ' H' s' ∧ D.nx σ' H'
  | .brk => ∃ σ' H', Inv X pins σ' H' s' ∧ D.bk σ' H'
  | .cont => ∃ σ' H', Inv X pins σ' H' s' ∧ D.ct σ' H'
  | .ret u => ∃ v σ' H', Inv X pins σ' H' s' ∧ RelV v u ∧ D.rt v H'

def PE (X : Cx) (e : Expr) (t : TE) : Prop :=
  ∀ (pins : List (Addr × Obj)) (s : Shared) (σ : St) (H : Hp) (Q : VK), Inv X pins σ H s → t σ H Q → wpAny (model X.prog X.w) X.A (eval e X.env) (EP X pins σ Q) X.xe s
def PT (X : Cx) (e : Expr) (t : TT) : Prop :=
  ∀ (pins : List (Addr × Obj)) (s : Shared) (σ : St) (H : Hp) (Q : Bool → Hp → Prop), Inv X pins σ H s → t σ H Q → wpAny (model X.prog X.w) X.A (isTrue e X.env (eval e X.env)) (TP X pins σ Q) X.xe s
/-- a test whatever its 'whole' is (and, or) -/
def PW (X : Cx) (e : Expr) (t : TT) : Prop :=
  ∀ (whole : Sem Value) (pins : List (Addr × Obj)) (s : Shared) (σ : St) (H : Hp) (Q : Bool → Hp → Prop), Inv X pins σ H s → t σ H Q → wpAny (model X.prog X.w) X.A (isTrue e X.env whole) (TP X pins σ Q) X.xe s
theorem PW.pt {X : Cx} {e : Expr} {t : TT} (h : PW X e t) : PT X e t := h _
/-- an argument list (no star), from the left -/
def PA (X : Cx) (es : List Expr) (t : TA) : Prop :=
  ∀ (pos : Pos) (pins : List (Addr × Obj)) (s : Shared) (σ : St) (H : Hp) (Q : List V → Hp → Prop), Inv X pins σ H s → t σ H Q → wpAny (model X.prog X.w) X.A (spliced (backTo pos (starEach es X.env))) (AP X pins σ Q) X.xe s
def PS (X : Cx) (st : Stmt) (t : TS) : Prop :=
  ∀ (pins : List (Addr × Obj)) (s : Shared) (σ : St) (H : Hp) (D : Ends), Inv X pins σ H s → t D σ H → wpAny (model X.prog X.w) X.A (exec st X.env) (SP X pins D) X.xe s
def PSs (X : Cx) (st : List Stmt) (t : TS) : Prop :=
  ∀ (pins : List (Addr × Obj)) (s : Shared) (σ : St) (H : Hp) (D : Ends), Inv X pins σ H s → t D σ H → wpAny (model X.prog X.w) X.A (execs st X.env) (SP X pins D) X.xe s
/-- weaken the end -/
theorem thn {α : Type} {t : Sem α} {Q Q' : α → Shared → Prop} {M : Model} {A : Around} {E : Value → Shared → Prop} {s : Shared} (h : wpAny M A t Q E s) (hQ : ∀ a s, Q a s → Q' a s) : wpAny M A t Q' E s := wpAny_mono h hQ fun _ _ x => x
end L2

namespace L2
open PySem PySem.Spec PyProof.Rows
section
variable {X : Cx}

/-! ### names and constants -/
def tVar (i : Nat) : TE := fun σ H Q => ∃ v, σ[i]? = some (some v) ∧ Q v H
def tC (v : V) : TE := fun _ H Q => Q v H
theorem pe_var {i : Nat} {x : Str} {pos : Pos} (hN : X.N[i]? = some x) (hv : Vis X.env.scope x) (hd : (x == ("__debug__" : Str)) = false := by decide) (hcd : (x == ("__classdict__" : Str)) = false := by decide) : PE X (.Name x pos) (tVar i) := by
  intro pins s σ H Q I h
  obtain ⟨v, e, h⟩ := h
  obtain ⟨m, hn, hl⟩ := I.loc
  obtain ⟨u, r, l⟩ := hl i x v hN e hv
  have fin : EP X pins σ Q u s := ⟨v, H, I, r, h⟩
  rcases l with ⟨hk, hm⟩ | ⟨hk, c, hc, hcell⟩
  · exact wpAny_Name (wpAny_loadName_local I.ok.kind hk hn hm fin) hd
  · rcases hk with hk | hk
    · exact wpAny_Name (wpAny_loadName_cell I.ok.kind hk hc hcell fin) hd
    · exact wpAny_Name (wpAny_loadName_free I.ok.kind hk hc hcell fin hcd) hd
theorem pe_int {i j pos} : PE X (.Constant (.int i) j pos) (tC (.int i)) := fun _ _ _ H _ I h => wpAny_Constant_int ⟨.int i, H, I.tok _, ⟨_, rfl⟩, h⟩
theorem pe_bl {b j pos} : PE X (.Constant (.bool b) j pos) (tC (.bl b)) := fun _ _ _ H _ I h => Constant_bool ⟨.bl b, H, I, rfl, h⟩
theorem pe_non {j pos} : PE X (.Constant .none j pos) (tC .non) := fun _ _ _ H _ I h => Constant_none ⟨.non, H, I, rfl, h⟩
/-- a global name of the def -/
def Gl (X : Cx) (x : Str) : Prop := X.env.kindOf x = some .globalImplicit
theorem ld_glob {E : Value → Shared → Prop} {pins : List (Addr × Obj)} {s : Shared} {σ : St} {H : Hp} {x : Str} {u : Value} {pos : Pos} {Q : Value → Shared → Prop} (I : Inv X pins σ H s) (hg : Gl X x) (hm : X.mg x = some u) (h : Q u s)
    (hd : (x == ("__debug__" : Str)) = false := by decide) : wpAny (model X.prog X.w) X.A (eval (.Name x pos) X.env) Q E s :=
  Calls.Name_function_global I.ok.kind hg (Calls.loadGlobal_global (by rw [I.ok.glob]; exact I.mod.glob.keeps I.bk) hm h) hd
theorem ld_blt {E : Value → Shared → Prop} {pins : List (Addr × Obj)} {s : Shared} {σ : St} {H : Hp} {x : Str} {u : Value} {pos : Pos} {Q : Value → Shared → Prop} (I : Inv X pins σ H s) (hg : Gl X x) (hm : X.mg x = none) (hv : bootBuiltins x = some u) (h : Q u s)
    (hn : x ≠ "__name__" := by decide) (hd : (x == ("__debug__" : Str)) = false := by decide) : wpAny (model X.prog X.w) X.A (eval (.Name x pos) X.env) Q E s := by
  obtain ⟨mb, h1, h2⟩ := I.mod.blt
  exact Calls.Name_function_global I.ok.kind hg (Calls.loadGlobal_builtin (by rw [I.ok.glob]; exact I.mod.glob.keeps I.bk) hm (by rw [I.ok.blt]; exact h1.keeps I.bk) ((h2 x hn).trans hv) h) hd
theorem pe_bltn {x : Str} {v : V} {u : Value} {pos : Pos} (hg : Gl X x) (hm : X.mg x = none) (hv : bootBuiltins x = some u) (r : RelV v u) (hn : x ≠ "__name__" := by decide) (hd : (x == ("__debug__" : Str)) = false := by decide) : PE X (.Name x pos) (tC v) :=
  fun _ _ _ H _ I h => ld_blt I hg hm hv ⟨v, H, I, r, h⟩ hn hd

/-! ### arithmetic -/
/-- two ints -/
def t2I (ta tb : TE) (k : Int → Int → Hp → Prop) : St → Hp → Prop := fun σ H => ta σ H fun x H1 => tb σ H1 fun y H2 => ∃ i j, x = .int i ∧ y = .int j ∧ k i j H2
def tAdd (ta tb : TE) : TE := fun σ H Q => t2I ta tb (fun i j H2 => Q (.int (i + j)) H2) σ H
def tSub (ta tb : TE) : TE := fun σ H Q => t2I ta tb (fun i j H2 => Q (.int (i - j)) H2) σ H
/-- the left factor below 2^64 -/
def tMul (ta tb : TE) : TE := fun σ H Q => t2I ta tb (fun i j H2 => (-(2 ^ 64) < i ∧ i < 2 ^ 64) ∧ Q (.int (i * j)) H2) σ H
variable {a b : Expr} {ta tb : TE} {pos : Pos}
/-! ### comparisons -/
def PC (X : Cx) (op : CmpOp) (a b : Expr) (t : TE) : Prop :=
  ∀ (pins : List (Addr × Obj)) (s : Shared) (σ : St) (H : Hp) (Q : VK), Inv X pins σ H s → t σ H Q →
    wpAny (model X.prog X.w) X.A (eval a X.env) (fun v s₁ => wpAny (model X.prog X.w) X.A (eval b X.env) (fun u s₂ => wpAny (model X.prog X.w) X.A (compareOp op v u) (EP X pins σ Q) X.xe s₂) X.xe s₁) X.xe s
theorem nobehind (b : Expr) {op : CmpOp} (h : op ≠ .In) (h2 : op ≠ .NotIn) : behindInMarks op b = false := by
  have e1 : (op == CmpOp.In) = false := by cases op <;> first | rfl | exact absurd rfl h
  have e2 : (op == CmpOp.NotIn) = false := by cases op <;> first | rfl | exact absurd rfl h2
  cases b <;> simp [behindInMarks, e1, e2]
def tCmp (p : Int → Int → Bool) (ta tb : TE) : TE := fun σ H Q => t2I ta tb (fun i j H2 => Q (.bl (p i j)) H2) σ H
abbrev tLt : TE → TE → TE := tCmp fun i j => decide (i < j)
abbrev tLe : TE → TE → TE := tCmp fun i j => decide (i ≤ j)
abbrev tGt : TE → TE → TE := tCmp fun i j => decide (j < i)
abbrev tGe : TE → TE → TE := tCmp fun i j => decide (j ≤ i)
abbrev tEqI : TE → TE → TE := tCmp fun i j => decide (i = j)
abbrev tNeI : TE → TE → TE := tCmp fun i j => !decide (i = j)
/-- is None -/
def tIsN (ta : TE) : TE := fun σ H Q => ta σ H fun x H1 => Q (.bl (decide (x = .non))) H1
def tNotN (ta : TE) : TE := fun σ H Q => ta σ H fun x H1 => Q (.bl (!decide (x = .non))) H1
theorem RelV.none_iff {x : V} {v : Value} (r : RelV x v) : (v == Value.none) = decide (x = .non) := by
  cases x with
  | non => cases r; rfl
  | bl _ => cases r; rfl
  | int _ => obtain ⟨t, rfl⟩ := r; rfl
  | str _ => obtain ⟨t, rfl⟩ := r; rfl
  | byt _ => obtain ⟨t, rfl⟩ := r; rfl
  | flt _ => obtain ⟨t, rfl⟩ := r; rfl
  | ref _ => cases r; rfl
  | ty _ => cases r; rfl
theorem pc_isN {j pos'} (ha : PE X a ta) : PC X .Is a (.Constant .none j pos') (tIsN ta) := by
  intro pins s σ H Q I h
  refine thn (ha pins s σ H _ I h) fun v s1 ⟨x, H1, I1, r1, q1⟩ => ?_
  exact Constant_none (is_none_gen ⟨.bl _, H1, I1, by rw [r1.none_iff]; rfl, q1⟩)
/-- a comparison as a value, as a test -/
def tB (t : TE) : TT := fun σ H Q => t σ H fun x H1 => ∃ c, x = .bl c ∧ Q c H1
theorem pt_cmp {op : CmpOp} {t : TE} (h : PC X op a b t) (h1 : behindInMarks op b = false := by first | exact nobehind _ (by decide) (by decide) | rfl) : PT X (.Compare a [op] [b] pos) (tB t) := by
  intro pins s σ H Q I hw
  refine wpAny_isTrue_Compare1 (thn (h pins s σ H _ I hw) fun v s1 h1 => thn h1 fun u s2 h2 => thn h2 fun c s3 ⟨x, H1, I1, r1, q1⟩ => ?_) h1
  obtain ⟨d, rfl, q⟩ := q1
  cases r1
  exact wpAny_truthy_bool ⟨H1, I1, q⟩
/-- an expression whose value is a bool, as a test -/
theorem pt_val {e : Expr} {t : TE} (h : PE X e t) (he : ∀ whole, isTrue e X.env whole = (do let v ← whole; standAt e.pos; holding [v] (truthy v)) := by intro _; rfl) : PT X e (tB t) := by
  intro pins s σ H Q I hw
  refine isTrue_plain (thn (h pins s σ H _ I hw) fun v s1 ⟨x, H1, I1, r1, q1⟩ => ?_) (he _)
  obtain ⟨d, rfl, q⟩ := q1
  cases r1
  exact wpAny_truthy_bool ⟨H1, I1, q⟩

/-! ### and, or, not -/
variable {tA tB' : TT} {rest : List Expr}
def tAnd (t u : TT) : TT := fun σ H Q => t σ H fun c H1 => if c = true then u σ H1 Q else Q false H1
def tOr (t u : TT) : TT := fun σ H Q => t σ H fun c H1 => if c = true then Q true H1 else u σ H1 Q
def tNot (t : TT) : TT := fun σ H Q => t σ H fun c H1 => Q (!c) H1
theorem pw_and1 (ha : PT X a tA) : PW X (.BoolOp .And [a] pos) tA := by
  intro wh pins s σ H Q I h
  refine isTrue_and (thn (ha pins s σ H Q I h) fun c s1 e => ?_)
  cases c with
  | true => exact isTrue_and_nil e
  | false => exact e
theorem pw_or1 (ha : PT X a tA) : PW X (.BoolOp .Or [a] pos) tA := by
  intro wh pins s σ H Q I h
  refine isTrue_or (thn (ha pins s σ H Q I h) fun c s1 e => ?_)
  cases c with
  | false => exact isTrue_or_nil e
  | true => exact e
theorem pw_and (ha : PT X a tA) (hb : PW X (.BoolOp .And (b :: rest) pos) tB') : PW X (.BoolOp .And (a :: b :: rest) pos) (tAnd tA tB') := by
  intro wh pins s σ H Q I h
  refine isTrue_and (thn (ha pins s σ H _ I h) fun c s1 ⟨H1, I1, q1⟩ => ?_)
  cases c with
  | true => exact hb wh pins s1 σ H1 Q I1 q1
  | false => exact ⟨H1, I1, q1⟩
theorem pw_or (ha : PT X a tA) (hb : PW X (.BoolOp .Or (b :: rest) pos) tB') : PW X (.BoolOp .Or (a :: b :: rest) pos) (tOr tA tB') := by
  intro wh pins s σ H Q I h
  refine isTrue_or (thn (ha pins s σ H _ I h) fun c s1 ⟨H1, I1, q1⟩ => ?_)
  cases c with
  | true => exact ⟨H1, I1, q1⟩
  | false => exact hb wh pins s1 σ H1 Q I1 q1
theorem pt_not (ha : PT X a tA) : PT X (.UnaryOp .Not a pos) (tNot tA) := by
  intro pins s σ H Q I h
  exact isTrue_not (ha pins s σ H (fun c H1 => Q (!c) H1) I h)
/-- .. as values (bools) -/
def tAndV (ta tb : TE) : TE := fun σ H Q => ta σ H fun x H1 => ∃ c, x = .bl c ∧ if c = true then tb σ H1 Q else Q (.bl false) H1
def tOrV (ta tb : TE) : TE := fun σ H Q => ta σ H fun x H1 => ∃ c, x = .bl c ∧ if c = true then Q (.bl true) H1 else tb σ H1 Q
def tNotV (ta : TE) : TE := fun σ H Q => ta σ H fun x H1 => ∃ c, x = .bl c ∧ Q (.bl (!c)) H1
theorem pe_one {op} {t : TE} (h : PE X a t) : PE X (.BoolOp op [a] pos) t := fun pins s σ H Q I hw => BoolOp_one (h pins s σ H Q I hw)
theorem pe_and (ha : PE X a ta) (hb : PE X (.BoolOp .And (b :: rest) pos) tb) : PE X (.BoolOp .And (a :: b :: rest) pos) (tAndV ta tb) := by
  intro pins s σ H Q I h
  refine BoolOp_and (thn (ha pins s σ H _ I h) fun v s1 ⟨x, H1, I1, r1, q1⟩ => ?_)
  obtain ⟨c, rfl, q1⟩ := q1
  cases r1
  refine wpAny_truthy_bool ?_
  cases c with
  | true => exact hb pins s1 σ H1 Q I1 q1
  | false => exact ⟨.bl false, H1, I1, rfl, q1⟩
theorem pe_or (ha : PE X a ta) (hb : PE X (.BoolOp .Or (b :: rest) pos) tb) : PE X (.BoolOp .Or (a :: b :: rest) pos) (tOrV ta tb) := by
  intro pins s σ H Q I h
  refine BoolOp_or (thn (ha pins s σ H _ I h) fun v s1 ⟨x, H1, I1, r1, q1⟩ => ?_)
  obtain ⟨c, rfl, q1⟩ := q1
  cases r1
  refine wpAny_truthy_bool ?_
  cases c with
  | false => exact hb pins s1 σ H1 Q I1 q1
  | true => exact ⟨.bl true, H1, I1, rfl, q1⟩
theorem pe_not (ha : PE X a ta) : PE X (.UnaryOp .Not a pos) (tNotV ta) := by
  intro pins s σ H Q I h
  refine UnaryOp_ (thn (ha pins s σ H _ I h) fun v s1 ⟨x, H1, I1, r1, q1⟩ => ?_)
  obtain ⟨c, rfl, q1⟩ := q1
  cases r1
  exact not_of (wpAny_truthy_bool ⟨.bl (!c), H1, I1, rfl, q1⟩)
/-- a if t else b -/
def tIf (t : TT) (ta tb : TE) : TE := fun σ H Q => t σ H fun c H1 => if c = true then ta σ H1 Q else tb σ H1 Q
theorem pe_ifExp {c : Expr} (hc : PT X c tA) (ha : PE X a ta) (hb : PE X b tb) : PE X (.IfExp c a b pos) (tIf tA ta tb) := by
  intro pins s σ H Q I h
  refine wpAny_IfExp (thn (hc pins s σ H _ I h) fun d s1 ⟨H1, I1, q1⟩ => ?_)
  cases d with
  | true => exact ha pins s1 σ H1 Q I1 q1
  | false => exact hb pins s1 σ H1 Q I1 q1
end
end L2

namespace L2
open PySem PySem.Spec PyProof.Rows

/-! ### a list, a tuple that is read: tracked, frozen, or an object of the module -/
def SqL (K : PySem.W.Frag) (H : Hp) (a : Addr) (xs : List V) : Prop :=
  Rd H a (.lst xs) ∨
    ∃ (o : Obj) (its : Array Value) (n : Nat), K.lookup a = some o ∧ o.cls = .type "list" ∧ o.dict = none ∧ o.data = .seq its n ∧ its.size ≤ sizeLine ∧ Vals xs its.toList
def SqT (K : PySem.W.Frag) (H : Hp) (a : Addr) (xs : List V) : Prop :=
  Rd H a (.tup xs) ∨
    ∃ (o : Obj) (its : Array Value) (n : Nat), K.lookup a = some o ∧ o.cls = .type "tuple" ∧ o.data = .seq its n ∧ its.size ≤ sizeLine ∧ Vals xs its.toList
def absV : Value → Option V
  | .none => some .non
  | .bool b => some (.bl b)
  | .int i _ => some (.int i)
  | .str x _ => some (.str x)
  | .bytes b _ => some (.byt b)
  | .float b _ => some (.flt b)
  | .ref a => some (.ref a)
  | .type n => some (.ty n)
  | _ => none
theorem RelV.abs {x : V} {u : Value} (r : RelV x u) : absV u = some x := by
  cases x with
  | non => cases r; rfl
  | bl _ => cases r; rfl
  | int _ => obtain ⟨t, rfl⟩ := r; rfl
  | str _ => obtain ⟨t, rfl⟩ := r; rfl
  | byt _ => obtain ⟨t, rfl⟩ := r; rfl
  | flt _ => obtain ⟨t, rfl⟩ := r; rfl
  | ref _ => cases r; rfl
  | ty _ => cases r; rfl
theorem RelV.inj {x y : V} {u : Value} (r : RelV x u) (q : RelV y u) : x = y := Option.some.inj (r.abs.symm.trans q.abs)
theorem Vals.inj : ∀ {xs ys : List V} {us : List Value}, Vals xs us → Vals ys us → xs = ys
  | _, _, _, .nil, .nil => rfl
  | _, _, _, .cons r t, .cons r' t' => by rw [r.inj r', Vals.inj t t']
section
variable {X : Cx} {pins : List (Addr × Obj)} {σ : St} {H : Hp} {s : Shared} {a : Addr} {xs ys : List V}
theorem SqL.of {K : PySem.W.Frag} (h : H a = some (.lst xs)) : SqL K H a xs := .inl (.inl h)
theorem SqT.of {K : PySem.W.Frag} (h : H a = some (.tup xs)) : SqT K H a xs := .inl (.inl h)
theorem Inv.list (I : Inv X pins σ H s) (h : SqL X.K H a xs) : ∃ its : List Value, Vals xs its ∧ PlainL s.heap a its.toArray ∧ xs.length ≤ sizeLine := by
  rcases h with h | ⟨o, its, n, hk, hc, hd, hs, hz, r⟩
  · obtain ⟨z, its, n, r, e⟩ := h.ok I.hok
    exact ⟨its, r, ⟨_, n, e, rfl, rfl, rfl⟩, z⟩
  · refine ⟨its.toList, r, ⟨o, n, I.kIn a o hk, hc, hd, by simpa using hs⟩, ?_⟩
    have e := r.length
    simp only [Array.length_toList] at e
    omega
theorem Inv.tuple (I : Inv X pins σ H s) (h : SqT X.K H a xs) : ∃ its : List Value, Vals xs its ∧ IsTup s.heap a its.toArray ∧ xs.length ≤ sizeLine := by
  rcases h with h | ⟨o, its, n, hk, hc, hs, hz, r⟩
  · obtain ⟨z, its, r, p⟩ := h.ok I.hok
    exact ⟨its, r, p, z⟩
  · refine ⟨its.toList, r, ⟨o, I.kIn a o hk, hc, n, by simpa using hs⟩, ?_⟩
    have e := r.length
    simp only [Array.length_toList] at e
    omega
theorem Inv.list_inj (I : Inv X pins σ H s) (h : SqL X.K H a xs) (h' : SqL X.K H a ys) : xs = ys := by
  obtain ⟨its, r, ⟨o, n, e, _, _, d⟩, _⟩ := I.list h
  obtain ⟨its', r', ⟨o', n', e', _, _, d'⟩, _⟩ := I.list h'
  rw [e] at e'; cases e'
  rw [d] at d'
  injection d' with d1 _
  have : its = its' := by simpa using congrArg Array.toList d1
  subst this
  exact r.inj r'
theorem Inv.tuple_inj (I : Inv X pins σ H s) (h : SqT X.K H a xs) (h' : SqT X.K H a ys) : xs = ys := by
  obtain ⟨its, r, ⟨o, e, _, n, d⟩, _⟩ := I.tuple h
  obtain ⟨its', r', ⟨o', e', _, n', d'⟩, _⟩ := I.tuple h'
  rw [e] at e'; cases e'
  rw [d] at d'
  injection d' with d1 _
  have : its = its' := by simpa using congrArg Array.toList d1
  subst this
  exact r.inj r'
end

/-! ### another wish about exceptions -/
abbrev Cx.wish (X : Cx) (E : Value → Shared → Prop) : Cx := { X with xe := E }
/-- no exception leaves -/
abbrev Cx.nox (X : Cx) : Cx := X.wish fun _ _ => False
theorem Cx.Ok.wish {X : Cx} (ok : X.Ok) (E : Value → Shared → Prop) : (X.wish E).Ok :=
  ⟨ok.mod, ok.kind, ok.glob, ok.blt, ok.above, ok.inj, ok.has, ok.cab, ok.hd, ok.frames, ok.stk, ok.exf, ok.bs, ok.bsz, ok.noex, ok.exfs, ok.funs, ok.frf⟩
theorem Cx.Ok.unwish {X : Cx} {E : Value → Shared → Prop} (ok : (X.wish E).Ok) : X.Ok :=
  ⟨ok.mod, ok.kind, ok.glob, ok.blt, ok.above, ok.inj, ok.has, ok.cab, ok.hd, ok.frames, ok.stk, ok.exf, ok.bs, ok.bsz, ok.noex, ok.exfs, ok.funs, ok.frf⟩
section
variable {X : Cx} {pins : List (Addr × Obj)} {σ : St} {H : Hp} {s : Shared} {E : Value → Shared → Prop}
theorem Inv.wish (I : Inv X pins σ H s) (E : Value → Shared → Prop) : Inv (X.wish E) pins σ H s := ⟨I.ok.wish E, I.os, I.bare, I.base, I.loc, I.cell, I.free, I.freeC, I.pin, I.hok, I.len⟩
theorem Inv.unwish (I : Inv (X.wish E) pins σ H s) : Inv X pins σ H s := ⟨I.ok.unwish, I.os, I.bare, I.base, I.loc, I.cell, I.free, I.freeC, I.pin, I.hok, I.len⟩
theorem SP.unwish {D : Ends} {f : Flow} {s' : Shared} (h : SP (X.wish E) pins D f s') : SP X pins D f s' := by
  cases f with
  | next => obtain ⟨σ', H', I, q⟩ := h; exact ⟨σ', H', I.unwish, q⟩
  | brk => obtain ⟨σ', H', I, q⟩ := h; exact ⟨σ', H', I.unwish, q⟩
  | cont => obtain ⟨σ', H', I, q⟩ := h; exact ⟨σ', H', I.unwish, q⟩
  | ret u => obtain ⟨v, σ', H', I, r, q⟩ := h; exact ⟨v, σ', H', I.unwish, r, q⟩
theorem PE.nox {e : Expr} {t : TE} (h : PE X.nox e t) : PE X e t := fun pins s σ H Q I hw =>
  wpAny_mono (h pins s σ H Q (I.wish _) hw) (fun _ _ ⟨v, H', I', r, q⟩ => ⟨v, H', I'.unwish, r, q⟩) fun _ _ z => False.elim z
theorem PT.nox {e : Expr} {t : TT} (h : PT X.nox e t) : PT X e t := fun pins s σ H Q I hw =>
  wpAny_mono (h pins s σ H Q (I.wish _) hw) (fun _ _ ⟨H', I', q⟩ => ⟨H', I'.unwish, q⟩) fun _ _ z => False.elim z
theorem PSs.nox {st : List Stmt} {t : TS} (h : PSs X.nox st t) : PSs X st t := fun pins s σ H D I hw =>
  wpAny_mono (h pins s σ H D (I.wish _) hw) (fun _ _ q => q.unwish) fun _ _ z => False.elim z
end

/-! ### blocks and small statements -/
section
variable {X : Cx} {st : Stmt} {rest : List Stmt} {t u : TS} {e : Expr} {te : TE} {pos : Pos}
def tNext : TS := fun D σ H => D.nx σ H
def tSeq (t u : TS) : TS := fun D σ H => t { D with nx := u D } σ H
theorem pss_nil : PSs X [] tNext := fun _ _ σ H _ I h => wpAny_execs_nil ⟨σ, H, I, h⟩
theorem pss_cons (h1 : PS X st t) (h2 : PSs X rest u) : PSs X (st :: rest) (tSeq t u) := by
  intro pins s σ H D I h
  refine wpAny_execs_cons (thn (h1 pins s σ H { D with nx := u D } I h) fun f s1 q => ?_)
  cases f with
  | next =>
    obtain ⟨σ', H', I', q⟩ := q
    exact h2 pins s1 σ' H' D I' q
  | ret v => exact q
  | brk => exact q
  | cont => exact q
theorem pss_one (h1 : PS X st t) : PSs X [st] t := by
  intro pins s σ H D I h
  refine wpAny_execs_cons (thn (h1 pins s σ H D I h) fun f s1 q => ?_)
  cases f with
  | next => exact wpAny_execs_nil q
  | ret v => exact q
  | brk => exact q
  | cont => exact q
def tBreak : TS := fun D σ H => D.bk σ H
def tCont : TS := fun D σ H => D.ct σ H
/-- in a def's body nothing is shown -/
theorem Inv.quiet {pins : List (Addr × Obj)} {σ : St} {H : Hp} {s : Shared} (I : Inv X pins σ H s) : interactive X.env = false := by simp [interactive, I.ok.kind]
/-- an expression whose value is dropped -/
def tDrop (te : TE) : TS := fun D σ H => te σ H fun _ H1 => D.nx σ H1
theorem ps_expr (he : PE X e te) (hs : swapsWith e none pos.line X.env = pure false := by rfl) : PS X (.Expr e pos) (tDrop te) := by
  intro pins s σ H D I h
  exact wpAny_Expr_any (thn (he pins s σ H _ I h) fun v s1 ⟨x, H1, I1, r1, q1⟩ => ⟨σ, H1, I1, q1⟩) I.quiet hs
def tRet (te : TE) : TS := fun D σ H => te σ H D.rt
theorem ps_ret (he : PE X e te) : PS X (.Return (some e) pos) (tRet te) := by
  intro pins s σ H D I h
  exact wpAny_Return_some (thn (he pins s σ H _ I h) fun v s1 ⟨x, H1, I1, r1, q1⟩ => ⟨x, σ, H1, I1, r1, q1⟩)
def tRetN : TS := fun D _ H => D.rt .non H
def tIfS (c : TT) (t u : TS) : TS := fun D σ H => c σ H fun b H1 => if b = true then t D σ H1 else u D σ H1
theorem ps_if {c : Expr} {a b : List Stmt} {tc : TT} (hc : PT X c tc) (ha : PSs X a t) (hb : PSs X b u) : PS X (.If c a b pos) (tIfS tc t u) := by
  intro pins s σ H D I h
  refine wpAny_If (thn (hc pins s σ H _ I h) fun d s1 ⟨H1, I1, q1⟩ => ?_)
  cases d with
  | true => exact ha pins s1 σ H1 D I1 q1
  | false => exact hb pins s1 σ H1 D I1 q1
/-- code that the proof never comes to -/
def tNever : TS := fun _ _ _ => False
end

/-! ### targets -/
abbrev TG := V → St → Hp → (St → Hp → Prop) → Prop
abbrev TGs := List V → St → Hp → (St → Hp → Prop) → Prop
def PG (X : Cx) (target : Expr) (t : TG) : Prop :=
  ∀ (pins : List (Addr × Obj)) (s : Shared) (σ : St) (H : Hp) (v : V) (u : Value) (Q : St → Hp → Prop), Inv X pins σ H s → RelV v u → t v σ H Q →
    wpAny (model X.prog X.w) X.A (assign target X.env u) (fun _ s' => ∃ σ' H', Inv X pins σ' H' s' ∧ Q σ' H') X.xe s
/-- several targets, one after another -/
def PGs (X : Cx) (ts : List Expr) (t : TGs) : Prop :=
  ∀ (pins : List (Addr × Obj)) (s : Shared) (σ : St) (H : Hp) (vs : List V) (us : List Value) (Q : St → Hp → Prop), Inv X pins σ H s → Vals vs us → t vs σ H Q →
    wpAny (model X.prog X.w) X.A (assignInOrder ((assignEach ts X.env).map (·.2)) us) (fun _ s' => ∃ σ' H', Inv X pins σ' H' s' ∧ Q σ' H') X.xe s
/-- o[i] = v, by values -/
abbrev TSet := V → V → V → Hp → (Hp → Prop) → Prop
def PSet (X : Cx) (t : TSet) : Prop :=
  ∀ (pins : List (Addr × Obj)) (s : Shared) (σ : St) (H : Hp) (o i v : V) (ov iv u : Value) (Q : Hp → Prop), Inv X pins σ H s → RelV o ov → RelV i iv → RelV v u → t o i v H Q →
    wpAny (model X.prog X.w) X.A (setItem ov iv u) (fun _ s' => ∃ H', Inv X pins σ H' s' ∧ Q H') X.xe s
/-- a op= b, by values -/
abbrev TIp := V → V → Hp → VK → Prop
def PIp (X : Cx) (op : Operator) (t : TIp) : Prop :=
  ∀ (pins : List (Addr × Obj)) (s : Shared) (σ : St) (H : Hp) (x y : V) (v u : Value) (Q : VK), Inv X pins σ H s → RelV x v → RelV y u → t x y H Q →
    wpAny (model X.prog X.w) X.A (inplaceOp op v u) (EP X pins σ Q) X.xe s
section
variable {X : Cx} {pos : Pos}
def gName (i : Nat) : TG := fun v σ H Q => Q (σ.set i (some v)) H
theorem pg_name {i : Nat} {x : Str} (hN : X.N.Nodup) (hi : X.N[i]? = some x) (hx : Loc X.env.scope x) (hf : X.fn x = true ∨ X.env.scope.names.lookup x = some .local := by first | exact .inl rfl | exact .inr rfl | assumption) : PG X (.Name x pos) (gName i) := by
  intro pins s σ H v u Q I r h
  exact wpAny_assign_Name (store_ok I hN hi hx r (fun s' I' => ⟨_, H, I', h⟩) hf)
def gNil : TGs := fun vs σ H Q => vs = [] ∧ Q σ H
def gCons (t : TG) (u : TGs) : TGs := fun vs σ H Q => ∃ v r, vs = v :: r ∧ t v σ H fun σ' H' => u r σ' H' Q
theorem pgs_nil : PGs X [] gNil := by
  intro pins s σ H vs us Q I r h
  obtain ⟨e, h⟩ := h
  subst e
  cases r
  exact assignInOrder_nil ⟨σ, H, I, h⟩
theorem pgs_cons {e : Expr} {es : List Expr} {t : TG} {u : TGs} (h1 : PG X e t) (h2 : PGs X es u)
    (hs : (assignEach (e :: es) X.env).map (·.2) = assign e X.env :: (assignEach es X.env).map (·.2) := by rfl) : PGs X (e :: es) (gCons t u) := by
  intro pins s σ H vs us Q I r h
  obtain ⟨v, vr, e1, h⟩ := h
  subst e1
  cases r with
  | cons r rr =>
    rw [hs]
    refine assignInOrder_cons (thn (h1 pins s σ H _ _ _ I r h) fun _ s1 ⟨σ1, H1, I1, q1⟩ => ?_)
    exact h2 pins s1 σ1 H1 _ _ Q I1 rr q1
/-- (a, b, ..) = a tuple of that length -/
def gTup (K : PySem.W.Frag) (n : Nat) (t : TGs) : TG := fun v σ H Q => ∃ a xs, v = .ref a ∧ SqT K H a xs ∧ xs.length = n ∧ t xs σ H Q
theorem pg_tup {es : List Expr} {k : Nat} {t : TGs} {n : Nat} (hc : X.calm = true) (h : PGs X es t)
    (hn : (assignEach es X.env).length = n := by rfl) (hst : (assignEach es X.env).findIdx? (·.1) = none := by rfl) : PG X (.Tuple es k pos) (gTup X.K n t) := by
  intro pins s σ H v u Q I r hw
  obtain ⟨a, xs, e1, hq, hl, hw⟩ := hw
  subst e1
  cases r
  obtain ⟨its, rv, ht, hz⟩ := I.tuple hq
  refine assign_Tuple_tuple (I.ok.hd hc) ht (by simp [hn, ← hl, rv.length]) hst fun h' hx => ?_
  have I1 : Inv X pins σ H { s with heap := h' } := I.kept (t' := s.toks) fun b o e => hx b o (Nat.ne_of_lt (Heap.lt_size e)) e
  exact h pins _ σ H xs _ Q I1 (by simpa using rv) hw
/-- o[i] = .. -/
def gSub (to ti : TE) (t : TSet) : TG := fun v σ H Q => to σ H fun o H1 => ti σ H1 fun i H2 => t o i v H2 fun H3 => Q σ H3
theorem pg_sub {o i : Expr} {to ti : TE} {t : TSet} (ho : PE X o to) (hi : PE X i ti) (hs : PSet X t)
    (ha : ∀ v, assign (.Subscript o i pos) X.env v = (do
      let ov ← holding [v] (eval o X.env)
      let iv ← holding [v, ov] (eval i X.env)
      standAt pos
      holding [v, ov, iv] (setItem ov iv v)
      release [v, ov, iv] []) := by intro _; rfl) : PG X (.Subscript o i pos) (gSub to ti t) := by
  intro pins s σ H v u Q I r h
  rw [ha]
  refine wpAny_bind (wpAny_holding (thn (ho pins s σ H _ I h) fun ov s1 ⟨x, H1, I1, r1, q1⟩ => ?_))
  refine wpAny_bind (wpAny_holding (thn (hi pins s1 σ H1 _ I1 q1) fun iv s2 ⟨y, H2, I2, r2, q2⟩ => ?_))
  refine wpAny_bind (wpAny_standAt (wpAny_bind (wpAny_holding (thn (hs pins s2 σ H2 x y v ov iv u _ I2 r1 r2 r q2) fun _ s3 ⟨H3, I3, q3⟩ => ?_))))
  exact wpAny_release ⟨σ, H3, I3, q3⟩
/-- target = value -/
def tAsg (te : TE) (g : TG) : TS := fun D σ H => te σ H fun x H1 => g x σ H1 D.nx
theorem ps_asg {tg e : Expr} {te : TE} {g : TG} (he : PE X e te) (hg : PG X tg g) (hs : swapsWithSole [tg] e pos.line X.env = pure false := by rfl) (hw : swappedStores [tg] e X.env = pure none := by rfl)
    (h1 : (assignEach [tg] X.env).map (·.2) = [assign tg X.env] := by rfl) : PS X (.Assign [tg] e pos) (tAsg te g) := by
  intro pins s σ H D I h
  refine wpAny_Assign_stores (thn (he pins s σ H _ I h) fun v s1 ⟨x, H1, I1, r1, q1⟩ => ?_) hs hw
  rw [h1]
  exact thn (hg pins s1 σ H1 x v _ I1 r1 q1) fun _ s2 q => q
/-- name = value -/
theorem ps_set {i : Nat} {x : Str} {e : Expr} {te : TE} {pos' : Pos} (hN : X.N.Nodup) (hi : X.N[i]? = some x) (hx : Loc X.env.scope x) (he : PE X e te) (hs : swapsWith e (some (.Name x pos')) pos.line X.env = pure false := by rfl) (hf : X.fn x = true ∨ X.env.scope.names.lookup x = some .local := by first | exact .inl rfl | exact .inr rfl | assumption) :
    PS X (.Assign [.Name x pos'] e pos) (tAsg te (gName i)) := by
  intro pins s σ H D I h
  refine wpAny_Assign_Name (thn (he pins s σ H _ I h) fun v s1 ⟨y, H1, I1, r1, q1⟩ => ?_) hs
  exact store_ok I1 hN hi hx r1 (fun s2 I2 => ⟨_, H1, I2, q1⟩) hf
/-- a, b = x, y with plain local names: stored from the right; the pair itself is not tracked (the opening rows as in PyProof/Rows/TupAssign.lean:23) -/
def tPar (i j : Nat) (ta : TA) : TS := fun D σ H => ta σ H fun vs H1 => ∃ v w, vs = [v, w] ∧ D.nx ((σ.set i (some v)).set j (some w)) H1
/-- name op= e -/
def tAug (i : Nat) (te : TE) (ti : TIp) : TS := fun D σ H => ∃ x, σ[i]? = some (some x) ∧ te σ H fun y H1 => ti x y H1 fun z H2 => D.nx (σ.set i (some z)) H2
/-- o[i] op= e -/
def tAugS (to ti te : TE) (tget : V → V → Hp → VK → Prop) (tip : TIp) (tset : TSet) : TS := fun D σ H => to σ H fun o H1 => ti σ H1 fun i H2 => tget o i H2 fun x H3 => te σ H3 fun y H4 => tip x y H4 fun z H5 => tset o i z H5 fun H6 => D.nx σ H6
/-- o[i], by values -/
def PGet (X : Cx) (t : V → V → Hp → VK → Prop) : Prop :=
  ∀ (pins : List (Addr × Obj)) (s : Shared) (σ : St) (H : Hp) (o i : V) (ov iv : Value) (Q : VK), Inv X pins σ H s → RelV o ov → RelV i iv → t o i H Q →
    wpAny (model X.prog X.w) X.A (getItem ov iv) (EP X pins σ Q) X.xe s
/-- ints -/
def ipI (f : Int → Int → Int) : TIp := fun x y H Q => ∃ i j, x = .int i ∧ y = .int j ∧ Q (.int (f i j)) H
end

/-! ### while -/
section
variable {X : Cx} {pos : Pos}
/-- the invariant W with its measure -/
def tWhile (c : TT) (tb : TS) : TS := fun D σ H => ∃ W : Nat → St → Hp → Prop, (∃ m, W m σ H) ∧ ∀ m σ H, W m σ H →
  c σ H fun b H1 => if b = true then ∃ N : St → Hp → Prop, (∀ σ' H', N σ' H' → ∃ m', m' < m ∧ W m' σ' H') ∧ tb { D with nx := N, ct := N, bk := D.nx } σ H1 else D.nx σ H1
theorem ps_while {c : Expr} {body : List Stmt} {tc : TT} {tb : TS} (hp : PassesOwn (model X.prog X.w) X.A X.env X.xe) (hc : PT X c tc) (hb : PSs X body tb) : PS X (.While c body [] pos) (tWhile tc tb) := by
  intro pins s σ H D I h
  obtain ⟨W, ⟨m0, w0⟩, turn⟩ := h
  refine wpAny_While (codeAny_whileLoop (fun n s' => ∃ σ' H', Inv X pins σ' H' s' ∧ W n σ' H') ?_ m0 ⟨σ, H, I, w0⟩)
  rintro n s1 ⟨σ1, H1, I1, w1⟩
  refine wpAny_passesOwn hp (thn (hc pins s1 σ1 H1 _ I1 (turn n σ1 H1 w1)) fun b s2 ⟨H2, I2, q2⟩ => ?_)
  cases b with
  | true =>
    obtain ⟨N, hN, q2⟩ := q2
    rw [if_pos rfl]
    refine wpAny_passesOwn hp (thn (hb pins s2 σ1 H2 _ I2 q2) fun f s3 q3 => ?_)
    cases f with
    | next =>
      obtain ⟨σ3, H3, I3, n3⟩ := q3
      obtain ⟨m', hm, w3⟩ := hN σ3 H3 n3
      exact ⟨m', hm, σ3, H3, I3, w3⟩
    | cont =>
      obtain ⟨σ3, H3, I3, n3⟩ := q3
      obtain ⟨m', hm, w3⟩ := hN σ3 H3 n3
      exact ⟨m', hm, σ3, H3, I3, w3⟩
    | brk => exact q3
    | ret v => exact q3
  | false =>
    rw [if_neg Bool.false_ne_true]
    exact wpAny_execs_nil ⟨σ1, H2, I2, q2⟩
end

/-! ### what a loop or a comprehension walks -/
/-- at turn i: it yields x (the heap may grow), or it stops -/
structure It where
  go : Nat → Hp → Prop
  yld : Nat → Hp → V → Hp → Prop
  stop : Nat → Hp → Prop
/-- the iterator's own objects may turn: they are not the frame's, not pinned, younger than the entry (or a comprehension's own) -/
def FpOk (X : Cx) (pins : List (Addr × Obj)) (H : Hp) (b : Addr) : Prop :=
  H b = none ∧ b ≠ X.env.locals ∧ b ∉ X.fs ∧ (b ∈ X.ex ∨ X.s₀.heap.objs.size ≤ b) ∧ (∀ x c, X.env.cells.lookup x = some c → c ≠ b) ∧ ∀ p ∈ X.pn ++ pins, p.1 ≠ b
theorem Inv.fpOk {X : Cx} {pins : List (Addr × Obj)} {σ : St} {H H' : Hp} {s : Shared} {b : Addr} (I : Inv X pins σ H s) (hb : s.heap.objs.size ≤ b) (hn : H' b = none) : FpOk X pins H' b := by
  refine ⟨hn, Nat.ne_of_gt (Nat.lt_of_lt_of_le I.lt hb), I.nofs hb, .inr (Nat.le_trans I.sz hb), fun x c e z => ?_, fun p hp z => ?_⟩
  · obtain ⟨v, q⟩ := I.cell x c e
    exact absurd (Nat.lt_of_lt_of_le q.lt (by rw [z]; exact hb)) (Nat.lt_irrefl _)
  · exact absurd (Nat.lt_of_lt_of_le (Heap.lt_size (I.pin p hp).1) (by rw [z]; exact hb)) (Nat.lt_irrefl _)
structure Turn (P : Program) (w : World) (K : PySem.W.Frag) (tg : Expr) (J : It) (fp : List Addr) (it : Addr) (tn : Nat → Heap → Prop) : Prop where
  mem : it ∈ fp
  obj : ∀ i h, tn i h → ∀ b ∈ fp, ∃ o, h.get? b = some o ∧ ∀ v, o.data ≠ .cell v
  keep : ∀ i h h', tn i h → (∀ b ∈ fp, ∀ o, h.get? b = some o → h'.get? b = some o) → tn i h'
  item : ∀ (X : Cx), X.prog = P → X.w = w → X.K = K → X.calm = true → ∀ (i : Nat) (pins : List (Addr × Obj)) (s : Shared) (σ : St) (H : Hp) (E : Value → Shared → Prop), Inv X pins σ H s → (∀ b ∈ fp, FpOk X pins H b) → tn i s.heap → J.go i H →
    wpAny (model P w) X.A (pyNext (.ref it)) (fun r s1 => ∃ u, r = some u ∧
      wpAny (model P w) X.A (letOwnedTupleGo tg (.ref it) u) (fun _ s2 => ∃ x H', Inv X pins σ H' s2 ∧ RelV x u ∧ J.yld i H x H' ∧ tn (i + 1) s2.heap ∧ ∀ b ∈ fp, H' b = none) E s1) E s
  done : ∀ (X : Cx), X.prog = P → X.w = w → X.K = K → X.calm = true → ∀ (i : Nat) (pins : List (Addr × Obj)) (s : Shared) (σ : St) (H : Hp) (E : Value → Shared → Prop), Inv X pins σ H s → (∀ b ∈ fp, FpOk X pins H b) → tn i s.heap → J.stop i H →
    wpAny (model P w) X.A (pyNext (.ref it)) (fun r s1 => r = none ∧ Inv X pins σ H s1) E s
  self : ∀ (A : Around) (i : Nat) (s : Shared) (Q : Value → Shared → Prop) (E : Value → Shared → Prop), tn i s.heap → Q (.ref it) s → wpAny (model P w) A (pyIter (.ref it)) Q E s
abbrev TI := St → Hp → (It → Hp → Prop) → Prop
/-- an iterator has come -/
def PIE (X : Cx) (pins : List (Addr × Obj)) (σ : St) (tg : Expr) (R : It → Hp → Prop) (itv : Value) (s2 : Shared) : Prop :=
  ∃ (it : Addr) (fp : List Addr) (tn : Nat → Heap → Prop) (J : It) (H' : Hp), itv = .ref it ∧ Inv X pins σ H' s2 ∧ Turn X.prog X.w X.K tg J fp it tn ∧ tn 0 s2.heap ∧ (∀ b ∈ fp, FpOk X pins H' b) ∧ R J H'
def PI (X : Cx) (tg iter : Expr) (wi : TI) : Prop :=
  ∀ (pins : List (Addr × Obj)) (s : Shared) (σ : St) (H : Hp) (R : It → Hp → Prop), Inv X pins σ H s → wi σ H R →
    wpAny (model X.prog X.w) X.A (eval iter X.env) (fun v s1 => wpAny (model X.prog X.w) X.A (pyIter v) (PIE X pins σ tg R) X.xe s1) X.xe s

/-- the step ahead of the store is nothing for an iterator that keeps no tuple -/
theorem go_of {M : Model} {A : Around} {E : Value → Shared → Prop} {s : Shared} {tg : Expr} {it : Addr} {u : Value} {o : Obj} {n : String} {vs : Array Value} {Q : Unit → Shared → Prop} (ho : s.heap.get? it = some o) (hc : o.cls = .type n) (hd : o.data = .fields vs)
    (hn : ["enumerate", "zip", "dict_itemiterator", "dict_reverseitemiterator", "odict_iterator", "itertools.zip_longest", "itertools.pairwise"].contains n = false) (hQ : Q () s) : wpAny M A (letOwnedTupleGo tg (.ref it) u) Q E s := by
  unfold letOwnedTupleGo
  cases tg <;> first
    | exact wpAny_pure hQ
    | (cases u <;> first
        | exact wpAny_pure hQ
        | (refine wpAny_bind (wpAny_load ho ?_)
           rw [hc, hd]
           show wpAny M A (if (["enumerate", "zip", "dict_itemiterator", "dict_reverseitemiterator", "odict_iterator", "itertools.zip_longest", "itertools.pairwise"].contains n && vs[0]? == some (rawInt _)) = true then _ else _) Q E s
           rw [if_neg (by intro h; rw [hn, Bool.false_and] at h; cases h)]
           exact wpAny_pure hQ))

/-- the list at a, as it stands at each turn (a loop may append to it) -/
def Itl (K : PySem.W.Frag) (a : Addr) : It :=
  ⟨fun i H => ∃ xs x, SqL K H a xs ∧ xs[i]? = some x, fun i H x H' => H' = H ∧ ∀ xs, SqL K H a xs → xs[i]? = some x, fun i H => ∃ xs, SqL K H a xs ∧ xs.length ≤ i⟩
def Itt (K : PySem.W.Frag) (a : Addr) : It :=
  ⟨fun i H => ∃ xs x, SqT K H a xs ∧ xs[i]? = some x, fun i H x H' => H' = H ∧ ∀ xs, SqT K H a xs → xs[i]? = some x, fun i H => ∃ xs, SqT K H a xs ∧ xs.length ≤ i⟩
/-- lo, lo + 1, .. (n of them) -/
def Itr (lo : Int) (n : Nat) : It := ⟨fun i _ => i < n, fun i H x H' => H' = H ∧ x = .int (lo + i), fun i _ => n ≤ i⟩
theorem turn_list {P : Program} {w : World} {K : PySem.W.Frag} {tg : Expr} (a it : Addr) : Turn P w K tg (Itl K a) [it] it (fun i h => h.IsListIter it a i) where
  mem := by simp
  obj := fun i h st b hb => by
    have e : b = it := by simpa using hb
    subst e
    obtain ⟨o, e, c, d⟩ := st
    exact ⟨o, e, fun v z => by rw [d] at z; cases z⟩
  keep := fun i h h' st k => st.at fun o e => k it (by simp) o e
  item := by
    intro X hP hw hK hc i pins s σ H E I hf st hg
    subst hP hw hK
    obtain ⟨xs, x, hq, hx⟩ := hg
    obtain ⟨its, rv, p, hz⟩ := I.list hq
    obtain ⟨u, hu, ru⟩ := rv.get hx
    obtain ⟨f0, f1, f2, f3, f4, f5⟩ := hf it (by simp)
    refine wpAny_pyNext_list_item st p.isList (x := u) (by simpa using hu) fun h' st' sb => ?_
    have I1 : Inv X pins σ H { s with heap := h' } := I.turned (t' := s.toks) (fun b o hb e => (sb.2 b hb).trans e) f0 f1 f3 f4 f5
    obtain ⟨o, e, c, d⟩ := id st'
    exact ⟨u, rfl, go_of (s := { s with heap := h' }) e c d (by decide) ⟨x, H, I1, ru, ⟨rfl, fun ys hy => by rw [I.list_inj hy hq]; exact hx⟩, st', fun b hb => (hf b hb).1⟩⟩
  done := by
    intro X hP hw hK hc i pins s σ H E I hf st hg
    subst hP hw hK
    obtain ⟨xs, hq, hx⟩ := hg
    obtain ⟨its, rv, p, hz⟩ := I.list hq
    obtain ⟨f0, f1, f2, f3, f4, f5⟩ := hf it (by simp)
    have hl := rv.length
    exact wpAny_pyNext_list_end (I.ok.hd hc) st p.isList (by simp; omega) fun h' eb => ⟨rfl, I.turned (t' := s.toks) (fun b o hb e => eb b o hb e) f0 f1 f3 f4 f5⟩
  self := fun _ _ _ _ _ st h => wpAny_pyIter_listiter st h
theorem turn_tuple {P : Program} {w : World} {K : PySem.W.Frag} {tg : Expr} (a it : Addr) : Turn P w K tg (Itt K a) [it] it (fun i h => h.IsTupleIter it a i) where
  mem := by simp
  obj := fun i h st b hb => by
    have e : b = it := by simpa using hb
    subst e
    obtain ⟨o, e, c, d⟩ := st
    exact ⟨o, e, fun v z => by rw [d] at z; cases z⟩
  keep := fun i h h' st k => st.at fun o e => k it (by simp) o e
  item := by
    intro X hP hw hK hc i pins s σ H E I hf st hg
    subst hP hw hK
    obtain ⟨xs, x, hq, hx⟩ := hg
    obtain ⟨its, rv, p, hz⟩ := I.tuple hq
    obtain ⟨u, hu, ru⟩ := rv.get hx
    obtain ⟨f0, f1, f2, f3, f4, f5⟩ := hf it (by simp)
    refine wpAny_pyNext_tuple_item st (show s.heap.IsTuple a its.toArray from p) (x := u) (by simpa using hu) fun h' st' sb => ?_
    have I1 : Inv X pins σ H { s with heap := h' } := I.turned (t' := s.toks) (fun b o hb e => (sb.2 b hb).trans e) f0 f1 f3 f4 f5
    obtain ⟨o, e, c, d⟩ := id st'
    exact ⟨u, rfl, go_of (s := { s with heap := h' }) e c d (by decide) ⟨x, H, I1, ru, ⟨rfl, fun ys hy => by rw [I.tuple_inj hy hq]; exact hx⟩, st', fun b hb => (hf b hb).1⟩⟩
  done := by
    intro X hP hw hK hc i pins s σ H E I hf st hg
    subst hP hw hK
    obtain ⟨xs, hq, hx⟩ := hg
    obtain ⟨its, rv, p, hz⟩ := I.tuple hq
    obtain ⟨f0, f1, f2, f3, f4, f5⟩ := hf it (by simp)
    have hl := rv.length
    exact wpAny_pyNext_tuple_end (I.ok.hd hc) st (show s.heap.IsTuple a its.toArray from p) (by simp; omega) fun h' eb => ⟨rfl, I.turned (t' := s.toks) (fun b o hb e => eb b o hb e) f0 f1 f3 f4 f5⟩
  self := fun _ _ _ _ _ st h => wpAny_pyIter_tupleiter st h
theorem turn_range {P : Program} {w : World} {K : PySem.W.Frag} {tg : Expr} (it : Addr) (lo : Int) (n : Nat) : Turn P w K tg (Itr lo n) [it] it (fun i h => IsRangeIter h it (lo + (i : Nat) * 1) ((n : Int) - (i : Nat)) 1) where
  mem := by simp
  obj := fun i h st b hb => by
    have e : b = it := by simpa using hb
    subst e
    exact ⟨_, st, fun v z => by
      have z' : Data.fields _ = Data.cell v := z
      cases z'⟩
  keep := fun i h h' st k => k it (by simp) _ st
  item := by
    intro X hP hw hK hc i pins s σ H E I hf st hg
    subst hP hw hK
    obtain ⟨f0, f1, f2, f3, f4, f5⟩ := hf it (by simp)
    have W := Walks.range (prog := X.prog) (w := X.w) (I.ok.hd hc) it lo 1 n
    refine W.item i s _ _ hg st fun v h' tk hv st' kk => ?_
    obtain ⟨t, rfl⟩ := hv
    have I1 : Inv X pins σ H { s with heap := h', toks := tk } := I.turned (fun b o hb e => kk b o (by simpa using hb) e) f0 f1 f3 f4 f5
    refine ⟨_, rfl, go_of (s := { s with heap := h', toks := tk }) (n := "range_iterator") st' rfl rfl (by decide) ⟨.int (lo + i), H, I1, ⟨t, ?_⟩, ⟨rfl, rfl⟩, st', fun b hb => (hf b hb).1⟩⟩
    rw [Int.mul_one]
  done := by
    intro X hP hw hK hc i pins s σ H E I hf st hg
    subst hP hw hK
    obtain ⟨f0, f1, f2, f3, f4, f5⟩ := hf it (by simp)
    exact wpAny_pyNext_range_end (I.ok.hd hc) st (by have : n ≤ i := hg; omega) fun h' eb => ⟨rfl, I.turned (t' := s.toks) (fun b o hb e => eb b o hb e) f0 f1 f3 f4 f5⟩
  self := fun _ _ _ _ _ st h => wpAny_pyIter_rangeiter st h
end L2

namespace L2
open PySem PySem.Spec PyProof.Rows
section
variable {X : Cx} {tg : Expr}
def iList (K : PySem.W.Frag) (tl : TE) : TI := fun σ H R => tl σ H fun x H1 => ∃ a, x = .ref a ∧ (∃ xs, SqL K H1 a xs) ∧ R (Itl K a) H1
def iTup (K : PySem.W.Frag) (tl : TE) : TI := fun σ H R => tl σ H fun x H1 => ∃ a, x = .ref a ∧ (∃ xs, SqT K H1 a xs) ∧ R (Itt K a) H1
theorem pi_list {l : Expr} {tl : TE} (hl : PE X l tl) : PI X tg l (iList X.K tl) := by
  intro pins s σ H R I h
  refine thn (hl pins s σ H _ I h) fun v s1 ⟨x, H1, I1, r1, q1⟩ => ?_
  obtain ⟨a, e, ⟨xs, hq⟩, q⟩ := q1
  subst e
  cases r1
  obtain ⟨its, rv, p, hz⟩ := I1.list hq
  refine wpAny_pyIter_list p.isList ?_
  refine ⟨s1.heap.objs.size, [s1.heap.objs.size], _, _, H1, rfl, I1.kept (t' := s1.toks) fun b o e => Heap.get?_push_of_some _ e, turn_list a _, ⟨_, Heap.get?_push_size _ rfl, rfl, rfl⟩, fun b hb => ?_, q⟩
  have e : b = s1.heap.objs.size := by simpa using hb
  subst e
  exact I1.fpOk (Nat.le_refl _) (I1.hok.fresh (Nat.le_refl _))
theorem pi_tup {l : Expr} {tl : TE} (hl : PE X l tl) : PI X tg l (iTup X.K tl) := by
  intro pins s σ H R I h
  refine thn (hl pins s σ H _ I h) fun v s1 ⟨x, H1, I1, r1, q1⟩ => ?_
  obtain ⟨a, e, ⟨xs, hq⟩, q⟩ := q1
  subst e
  cases r1
  obtain ⟨its, rv, p, hz⟩ := I1.tuple hq
  refine wpAny_pyIter_tuple (show s1.heap.IsTuple a its.toArray from p) ?_
  refine ⟨s1.heap.objs.size, [s1.heap.objs.size], _, _, H1, rfl, I1.kept (t' := s1.toks) fun b o e => Heap.get?_push_of_some _ e, turn_tuple a _, ⟨_, Heap.get?_push_size _ rfl, rfl, rfl⟩, fun b hb => ?_, q⟩
  have e : b = s1.heap.objs.size := by simpa using hb
  subst e
  exact I1.fpOk (Nat.le_refl _) (I1.hok.fresh (Nat.le_refl _))
/-- a range object just made, walked -/
theorem range_it {pins : List (Addr × Obj)} {σ : St} {H : Hp} {s : Shared} {R : It → Hp → Prop} {E : Value → Shared → Prop} {lo hi : Int} {t u v : Tok} {tk : Nat} (I : Inv X pins σ H s) (h1 : -(2 ^ 62) ≤ lo) (h2 : lo < 2 ^ 62) (h3 : -(2 ^ 62) ≤ hi) (h4 : hi < 2 ^ 62)
    (q : R (Itr lo (hi - lo).toNat) H) : wpAny (model X.prog X.w) X.A (pyIter (.ref s.heap.objs.size)) (PIE X pins σ tg R) E { s with heap := s.heap.push { cls := .type "range", data := .fields #[.int lo t, .int hi u, .int 1 v] }, toks := tk } := by
  refine wpAny_pyIter_range (IsRange.new ..) (small_one h1 h2 h3 h4) ?_
  have I1 : Inv X pins σ H { s with heap := s.heap.push { cls := .type "range", data := .fields #[.int lo t, .int hi u, .int 1 v] }, toks := tk } := I.kept fun b o e => Heap.get?_push_of_some _ e
  refine ⟨(s.heap.push { cls := .type "range", data := .fields #[.int lo t, .int hi u, .int 1 v] }).objs.size, [(s.heap.push { cls := .type "range", data := .fields #[.int lo t, .int hi u, .int 1 v] }).objs.size], _, _, H, rfl,
    I1.kept (t' := tk) fun b o e => Heap.get?_push_of_some _ e, turn_range _ lo (hi - lo).toNat, ?_, fun b hb => ?_, q⟩
  · have e1 : lo + ((0 : Nat) : Int) * 1 = lo := by simp
    have e2 : (((hi - lo).toNat : Nat) : Int) - ((0 : Nat) : Int) = Builtin.Range.rangeSize lo hi 1 := by rw [rangeSize_one]; split <;> omega
    show IsRangeIter _ _ (lo + ((0 : Nat) : Int) * 1) ((((hi - lo).toNat : Nat) : Int) - ((0 : Nat) : Int)) 1
    rw [e1, e2]
    exact Heap.get?_push_size _ rfl
  · have e : b = (s.heap.push { cls := .type "range", data := .fields #[.int lo t, .int hi u, .int 1 v] }).objs.size := by simpa using hb
    subst e
    exact I1.fpOk (Nat.le_refl _) (I1.hok.fresh (Nat.le_refl _))
def iRng1 (ta : TA) : TI := fun σ H R => ta σ H fun vs H1 => ∃ j : Int, vs = [.int j] ∧ -(2 ^ 62) ≤ j ∧ j < 2 ^ 62 ∧ R (Itr 0 j.toNat) H1
def iRng2 (ta : TA) : TI := fun σ H R => ta σ H fun vs H1 => ∃ i j : Int, vs = [.int i, .int j] ∧ (-(2 ^ 62) ≤ i ∧ i < 2 ^ 62 ∧ -(2 ^ 62) ≤ j ∧ j < 2 ^ 62) ∧ R (Itr i (j - i).toNat) H1
theorem pi_range1 {a : Expr} {ta : TA} {p pos : Pos} (hg : Gl X "range") (hm : X.mg "range" = none) (ha : PA X [a] ta) (hs : starEach [a] X.env = [(false, eval a X.env)] := by rfl) : PI X tg (.Call (.Name "range" p) [a] [] pos) (iRng1 ta) := by
  intro pins s σ H R I h
  refine Call_ (ld_blt I hg hm boot_range (PyProof.Rows.callWith_type1 (thn (ha pos pins s σ H _ I h) fun us s1 ⟨vs, H1, I1, r1, q1⟩ => ?_) hs rfl))
  obtain ⟨j, e, q1, q2, q⟩ := q1
  subst e
  cases r1 with
  | cons r rr =>
    cases rr
    obtain ⟨t, rfl⟩ := r
    exact call_range_1 (range_it I1 (by omega) (by omega) q1 q2 (by simpa using q))
/-! ### for -/
/-- W: the invariant by the turn and a measure; N: what the body is to reach -/
def tFor (wi : TI) (g : TG) (tb : TS) : TS := fun D σ H => wi σ H fun J H1 => ∃ W : Nat → Nat → St → Hp → Prop, (∃ m, W 0 m σ H1) ∧ ∀ i m σ H, W i m σ H →
  (J.stop i H ∧ D.nx σ H) ∨ (J.go i H ∧ ∃ N : St → Hp → Prop, (∀ σ' H', N σ' H' → ∃ m', m' < m ∧ W (i + 1) m' σ' H') ∧ ∀ x H', J.yld i H x H' → g x σ H' fun σ2 H2 => tb { D with nx := N, ct := N, bk := D.nx } σ2 H2)
/-- the records at fp as they stand -/
def pinsAt (fp : List Addr) (h : Heap) : List (Addr × Obj) := fp.filterMap fun b => (h.get? b).map fun o => (b, o)
theorem mem_pinsAt {fp : List Addr} {h : Heap} {b : Addr} {o : Obj} (hb : b ∈ fp) (e : h.get? b = some o) : (b, o) ∈ pinsAt fp h := List.mem_filterMap.mpr ⟨b, hb, by rw [e]; rfl⟩
theorem of_pinsAt {fp : List Addr} {h : Heap} {p : Addr × Obj} (hp : p ∈ pinsAt fp h) : p.1 ∈ fp ∧ h.get? p.1 = some p.2 := by
  obtain ⟨b, hb, e⟩ := List.mem_filterMap.mp hp
  cases q : h.get? b with
  | none => rw [q] at e; cases e
  | some o =>
    rw [q] at e
    have e' : (b, o) = p := Option.some.inj e
    subst e'
    exact ⟨hb, q⟩
theorem Inv.pinned {pins : List (Addr × Obj)} {σ : St} {H : Hp} {s : Shared} {fp : List Addr} (I : Inv X pins σ H s) (hf : ∀ b ∈ fp, FpOk X pins H b) (ho : ∀ b ∈ fp, ∃ o, s.heap.get? b = some o ∧ ∀ v, o.data ≠ .cell v) : Inv X (pins ++ pinsAt fp s.heap) σ H s :=
  I.pins_of fun p hp => (List.mem_append.mp hp).elim (fun z => I.pin p (List.mem_append_right _ z)) fun z => by
    obtain ⟨hb, e⟩ := of_pinsAt z
    obtain ⟨f0, f1, f2, _⟩ := hf p.1 hb
    obtain ⟨o, e', d⟩ := ho p.1 hb
    rw [e] at e'; cases e'
    exact ⟨e, f0, f1, f2, d⟩
theorem Inv.unpinned {pins pl : List (Addr × Obj)} {σ : St} {H : Hp} {s : Shared} (I : Inv X (pins ++ pl) σ H s) : Inv X pins σ H s := I.pins_of fun p hp => I.pin p (List.mem_append_right _ (List.mem_append_left _ hp))
theorem ps_for {iter : Expr} {body : List Stmt} {wi : TI} {g : TG} {tb : TS} {pos : Pos} (hp : PassesOwn (model X.prog X.w) X.A X.env X.xe) (hc : X.calm = true) (hi : PI X tg iter wi) (hg : PG X tg g) (hb : PSs X body tb)
    (hs : ∀ x, foldedSetIterable iter X.env x = pure x := by intro _; rfl) : PS X (.For tg iter body [] pos) (tFor wi g tb) := by
  intro pins s σ H D I h
  refine wpAny_For (thn (hi pins s σ H _ I h) fun v s1 h1 => thn h1 fun itv s2 h2 => ?_) hs
  obtain ⟨it, fp, tn, J, H2, e, I2, T, st2, f2, W, ⟨m0, w0⟩, turn⟩ := h2
  subst e
  -- what stays true of the iterator's objects through the loop
  have stat : ∀ {H' : Hp}, (∀ b ∈ fp, H' b = none) → ∀ b ∈ fp, FpOk X pins H' b := fun hn b hb => ⟨hn b hb, (f2 b hb).2⟩
  refine codeAny_forLoop_any (fun n s' => ∃ i σ' H', Inv X pins σ' H' s' ∧ tn i s'.heap ∧ (∀ b ∈ fp, H' b = none) ∧ W i n σ' H') ?_ m0 ⟨0, σ, H2, I2, st2, fun b hb => (f2 b hb).1, w0⟩
  rintro n s3 ⟨i, σ3, H3, I3, st3, fr3, w3⟩
  rcases turn i n σ3 H3 w3 with ⟨stop, qn⟩ | ⟨go, N, hN, step⟩
  · refine wpAny_passesOwn hp (thn (T.done X rfl rfl rfl hc i pins s3 σ3 H3 X.xe I3 (stat fr3) st3 stop) fun r s4 ⟨hr, I4⟩ => ?_)
    subst hr
    exact wpAny_execs_nil ⟨σ3, H3, I4, qn⟩
  · refine wpAny_passesOwn hp (thn (T.item X rfl rfl rfl hc i pins s3 σ3 H3 X.xe I3 (stat fr3) st3 go) fun r s4 ⟨u, hr, h4⟩ => ?_)
    subst hr
    refine wpAny_passesOwn hp (thn h4 fun _ s5 ⟨x, H5, I5, r5, y5, st5, fr5⟩ => ?_)
    have I5' := I5.pinned (stat fr5) (T.obj _ _ st5)
    refine wpAny_passesOwn hp (thn (hg _ s5 σ3 H5 x u _ I5' r5 (step x H5 y5)) fun _ s6 ⟨σ6, H6, I6, q6⟩ => ?_)
    refine wpAny_passesOwn hp (thn (hb _ s6 σ6 H6 _ I6 q6) fun f s7 q7 => ?_)
    have again : ∀ {σ7 : St} {H7 : Hp}, Inv X (pins ++ pinsAt fp s5.heap) σ7 H7 s7 → N σ7 H7 → ∃ m, m < n ∧ ∃ i σ' H', Inv X pins σ' H' s7 ∧ tn i s7.heap ∧ (∀ b ∈ fp, H' b = none) ∧ W i m σ' H' := fun {σ7 H7} I7 n7 => by
      obtain ⟨m', hm, w7⟩ := hN σ7 H7 n7
      refine ⟨m', hm, i + 1, σ7, H7, I7.unpinned, T.keep _ _ _ st5 fun b hb o e => (I7.pin (b, o) (List.mem_append_right _ (List.mem_append_right _ (mem_pinsAt hb e)))).1, fun b hb => ?_, w7⟩
      obtain ⟨o, e, d⟩ := T.obj _ _ st5 b hb
      exact (I7.pin (b, o) (List.mem_append_right _ (List.mem_append_right _ (mem_pinsAt hb e)))).2.1
    cases f with
    | next => obtain ⟨σ7, H7, I7, n7⟩ := q7; exact again I7 n7
    | cont => obtain ⟨σ7, H7, I7, n7⟩ := q7; exact again I7 n7
    | brk => obtain ⟨σ7, H7, I7, q7⟩ := q7; exact ⟨σ7, H7, I7.unpinned, q7⟩
    | ret v => obtain ⟨x7, σ7, H7, I7, r7, q7⟩ := q7; exact ⟨x7, σ7, H7, I7.unpinned, r7, q7⟩
end

/-! ### the forms one uses -/
/-- over a list that the body leaves as it is -/
theorem for_list {K : PySem.W.Frag} {a : Addr} {xs : List V} {g : TG} {tb : TS} {D : Ends} {σ : St} {H : Hp} (Pv : Nat → St → Hp → Prop) (h0 : Pv 0 σ H) (hl : ∀ i σ H, i ≤ xs.length → Pv i σ H → SqL K H a xs)
    (hs : ∀ i x σ H, xs[i]? = some x → Pv i σ H → g x σ H fun σ2 H2 => tb { D with nx := Pv (i + 1), ct := Pv (i + 1), bk := D.nx } σ2 H2) (hd : ∀ σ H, Pv xs.length σ H → D.nx σ H) :
    ∃ W : Nat → Nat → St → Hp → Prop, (∃ m, W 0 m σ H) ∧ ∀ i m σ H, W i m σ H →
      ((Itl K a).stop i H ∧ D.nx σ H) ∨ ((Itl K a).go i H ∧ ∃ N : St → Hp → Prop, (∀ σ' H', N σ' H' → ∃ m', m' < m ∧ W (i + 1) m' σ' H') ∧ ∀ x H', (Itl K a).yld i H x H' → g x σ H' fun σ2 H2 => tb { D with nx := N, ct := N, bk := D.nx } σ2 H2) := by
  refine ⟨fun i m σ H => m = xs.length - i ∧ i ≤ xs.length ∧ Pv i σ H, ⟨xs.length, by simp, Nat.zero_le _, h0⟩, ?_⟩
  rintro i m σ H ⟨rfl, hi, p⟩
  have q := hl i σ H hi p
  by_cases hlt : i < xs.length
  · refine .inr ⟨⟨xs, xs[i], q, by simp [hlt]⟩, Pv (i + 1), fun σ' H' p' => ⟨xs.length - (i + 1), by omega, rfl, hlt, p'⟩, fun x H' y => ?_⟩
    obtain ⟨e, y⟩ := y
    subst e
    exact hs i x σ _ (y xs q) p
  · have e : i = xs.length := by omega
    subst e
    exact .inl ⟨⟨xs, q, Nat.le_refl _⟩, hd σ H p⟩
theorem for_tup {K : PySem.W.Frag} {a : Addr} {xs : List V} {g : TG} {tb : TS} {D : Ends} {σ : St} {H : Hp} (Pv : Nat → St → Hp → Prop) (h0 : Pv 0 σ H) (hl : ∀ i σ H, i ≤ xs.length → Pv i σ H → SqT K H a xs)
    (hs : ∀ i x σ H, xs[i]? = some x → Pv i σ H → g x σ H fun σ2 H2 => tb { D with nx := Pv (i + 1), ct := Pv (i + 1), bk := D.nx } σ2 H2) (hd : ∀ σ H, Pv xs.length σ H → D.nx σ H) :
    ∃ W : Nat → Nat → St → Hp → Prop, (∃ m, W 0 m σ H) ∧ ∀ i m σ H, W i m σ H →
      ((Itt K a).stop i H ∧ D.nx σ H) ∨ ((Itt K a).go i H ∧ ∃ N : St → Hp → Prop, (∀ σ' H', N σ' H' → ∃ m', m' < m ∧ W (i + 1) m' σ' H') ∧ ∀ x H', (Itt K a).yld i H x H' → g x σ H' fun σ2 H2 => tb { D with nx := N, ct := N, bk := D.nx } σ2 H2) := by
  refine ⟨fun i m σ H => m = xs.length - i ∧ i ≤ xs.length ∧ Pv i σ H, ⟨xs.length, by simp, Nat.zero_le _, h0⟩, ?_⟩
  rintro i m σ H ⟨rfl, hi, p⟩
  have q := hl i σ H hi p
  by_cases hlt : i < xs.length
  · refine .inr ⟨⟨xs, xs[i], q, by simp [hlt]⟩, Pv (i + 1), fun σ' H' p' => ⟨xs.length - (i + 1), by omega, rfl, hlt, p'⟩, fun x H' y => ?_⟩
    obtain ⟨e, y⟩ := y
    subst e
    exact hs i x σ _ (y xs q) p
  · have e : i = xs.length := by omega
    subst e
    exact .inl ⟨⟨xs, q, Nat.le_refl _⟩, hd σ H p⟩
end L2

namespace L2
open PySem PySem.Spec PyProof.Rows

abbrev R2 := V → V → Hp → VK → Prop
/-- a two-place operation on values: f is binaryOp op, inplaceOp op or compareOp op -/
def OpR (X : Cx) (f : Value → Value → Sem Value) (r : R2) : Prop :=
  ∀ (pins : List (Addr × Obj)) (s : Shared) (σ : St) (H : Hp) (x y : V) (v u : Value) (Q : VK), Inv X pins σ H s → RelV x v → RelV y u → r x y H Q →
    wpAny (model X.prog X.w) X.A (f v u) (EP X pins σ Q) X.xe s
/-- a one-place operation -/
def UnR (X : Cx) (f : Value → Sem Value) (r : V → Hp → VK → Prop) : Prop :=
  ∀ (pins : List (Addr × Obj)) (s : Shared) (σ : St) (H : Hp) (x : V) (v : Value) (Q : VK), Inv X pins σ H s → RelV x v → r x H Q →
    wpAny (model X.prog X.w) X.A (f v) (EP X pins σ Q) X.xe s
/-- a call of a value that is known (a builtin, a type) with values -/
def CallR (X : Cx) (f : Value) (r : List V → Hp → VK → Prop) : Prop :=
  ∀ (pins : List (Addr × Obj)) (s : Shared) (σ : St) (H : Hp) (xs : List V) (us : List Value) (Q : VK), Inv X pins σ H s → Vals xs us → r xs H Q →
    wpAny (model X.prog X.w) X.A (call f us) (EP X pins σ Q) X.xe s
/-- a value's truth -/
def TruR (X : Cx) (r : V → Hp → (Bool → Hp → Prop) → Prop) : Prop :=
  ∀ (pins : List (Addr × Obj)) (s : Shared) (σ : St) (H : Hp) (x : V) (v : Value) (Q : Bool → Hp → Prop), Inv X pins σ H s → RelV x v → r x H Q →
    wpAny (model X.prog X.w) X.A (truthy v) (TP X pins σ Q) X.xe s

def tOp (r : R2) (ta tb : TE) : TE := fun σ H Q => ta σ H fun x H1 => tb σ H1 fun y H2 => r x y H2 Q
def tUn (r : V → Hp → VK → Prop) (ta : TE) : TE := fun σ H Q => ta σ H fun x H1 => r x H1 Q
/-- ints in, under C, and a value out -/
def rI (C : Int → Int → Prop) (g : Int → Int → V) : R2 := fun x y H Q => ∃ i j, x = .int i ∧ y = .int j ∧ C i j ∧ Q (g i j) H
def rI0 (g : Int → Int → V) : R2 := fun x y H Q => ∃ i j, x = .int i ∧ y = .int j ∧ Q (g i j) H
def rU (g : Int → V) : V → Hp → VK → Prop := fun x H Q => ∃ i, x = .int i ∧ Q (g i) H

section
variable {X : Cx} {a b c : Expr} {ta tb tc : TE} {pos : Pos}

theorem binT (ha : PE X a ta) (hb : PE X b tb) {pins : List (Addr × Obj)} {s : Shared} {σ : St} {H : Hp} {R : V → V → Hp → Prop} (I : Inv X pins σ H s)
    (h : ta σ H fun x H1 => tb σ H1 fun y H2 => R x y H2) {Q : Value → Shared → Prop} {f : Value → Value → Sem Value}
    (hf : ∀ v u s2 x y H2, Inv X pins σ H2 s2 → RelV x v → RelV y u → R x y H2 → wpAny (model X.prog X.w) X.A (f v u) Q X.xe s2) :
    wpAny (model X.prog X.w) X.A (eval a X.env) (fun v s₁ => wpAny (model X.prog X.w) X.A (eval b X.env) (fun u s₂ => wpAny (model X.prog X.w) X.A (f v u) Q X.xe s₂) X.xe s₁) X.xe s := by
  refine thn (ha pins s σ H _ I h) fun v s1 ⟨x, H1, I1, r1, q1⟩ => ?_
  refine thn (hb pins s1 σ H1 _ I1 q1) fun u s2 ⟨y, H2, I2, r2, q2⟩ => ?_
  exact hf v u s2 x y H2 I2 r1 r2 q2

theorem pe_op {op : Operator} {r : R2} (ho : OpR X (binaryOp op) r) (ha : PE X a ta) (hb : PE X b tb) : PE X (.BinOp a op b pos) (tOp r ta tb) := by
  intro pins s σ H Q I h
  exact wpAny_BinOp (binT ha hb I h fun v u s2 x y H2 I2 rx ry q => ho pins s2 σ H2 x y v u Q I2 rx ry q)
theorem pe_un {op : UnaryOp} {r : V → Hp → VK → Prop} (ho : UnR X (unaryOp op) r) (ha : PE X a ta) : PE X (.UnaryOp op a pos) (tUn r ta) := by
  intro pins s σ H Q I h
  exact UnaryOp_ (thn (ha pins s σ H _ I h) fun v s1 ⟨x, H1, I1, r1, q1⟩ => ho pins s1 σ H1 x v Q I1 r1 q1)
/-! ### ints -/
theorem opI {f : Value → Value → Sem Value} {C : Int → Int → Prop} {g : Int → Int → Int}
    (rule : ∀ (i j : Int) (t u : Tok) (s : Shared) (Q : Value → Shared → Prop) (E : Value → Shared → Prop), C i j → Q (.int (g i j) s.toks) { s with toks := s.toks + 1 } → wpAny (model X.prog X.w) X.A (f (.int i t) (.int j u)) Q E s) :
    OpR X f (rI C fun i j => .int (g i j)) := by
  intro pins s σ H x y v u Q I rx ry h
  obtain ⟨i, j, rfl, rfl, hc, q⟩ := h
  obtain ⟨t, rfl⟩ := rx
  obtain ⟨t', rfl⟩ := ry
  exact rule i j t t' s _ _ hc ⟨.int (g i j), H, I.tok _, ⟨_, rfl⟩, q⟩
theorem opI0 {f : Value → Value → Sem Value} {g : Int → Int → Int}
    (rule : ∀ (i j : Int) (t u : Tok) (s : Shared) (Q : Value → Shared → Prop) (E : Value → Shared → Prop), Q (.int (g i j) s.toks) { s with toks := s.toks + 1 } → wpAny (model X.prog X.w) X.A (f (.int i t) (.int j u)) Q E s) :
    OpR X f (rI0 fun i j => .int (g i j)) := by
  intro pins s σ H x y v u Q I rx ry h
  obtain ⟨i, j, rfl, rfl, q⟩ := h
  obtain ⟨t, rfl⟩ := rx
  obtain ⟨t', rfl⟩ := ry
  exact rule i j t t' s _ _ ⟨.int (g i j), H, I.tok _, ⟨_, rfl⟩, q⟩
theorem opB0 {f : Value → Value → Sem Value} {g : Int → Int → Bool}
    (rule : ∀ (i j : Int) (t u : Tok) (s : Shared) (Q : Value → Shared → Prop) (E : Value → Shared → Prop), Q (.bool (g i j)) s → wpAny (model X.prog X.w) X.A (f (.int i t) (.int j u)) Q E s) :
    OpR X f (rI0 fun i j => .bl (g i j)) := by
  intro pins s σ H x y v u Q I rx ry h
  obtain ⟨i, j, rfl, rfl, q⟩ := h
  obtain ⟨t, rfl⟩ := rx
  obtain ⟨t', rfl⟩ := ry
  exact rule i j t t' s _ _ ⟨.bl (g i j), H, I, rfl, q⟩

def CDiv (i j : Int) : Prop := 0 < j ∧ j < 1073741824
def CDivN (i j : Int) : Prop := j ≠ 0 ∧ j.natAbs < 1073741824
def CPow (i j : Int) : Prop := 0 ≤ j ∧ j ≤ 1000000 ∧ i.natAbs < 2 ^ 64
def CMul (i j : Int) : Prop := (-(2 ^ 64) < i ∧ i < 2 ^ 64) ∨ (-(2 ^ 64) < j ∧ j < 2 ^ 64)
theorem CMul.ok {i j : Int} (h : CMul i j) : IntMulOk i j := by
  rcases h with ⟨h1, h2⟩ | ⟨h1, h2⟩
  · exact .of_left (intBits_le_64 h1 h2)
  · exact .of_right (intBits_le_64 h1 h2)
theorem op_add : OpR X (binaryOp .Add) (rI0 fun i j => .int (i + j)) := opI0 fun _ _ _ _ _ _ _ q => add_int q
theorem op_mul : OpR X (binaryOp .Mult) (rI CMul fun i j => .int (i * j)) := opI fun _ _ _ _ _ _ _ hc q => mul_int q hc.ok
/-- % by a positive divisor of any size -/
theorem op_mod : OpR X (binaryOp .Mod) (rI (fun _ j => 0 < j) fun i j => .int (i % j)) := opI fun i j _ _ _ _ _ hc q => by
  have h1 : (0 : Int) < j := hc
  exact mod_int' (by omega) (by rw [Int.fmod_eq_emod_of_nonneg i (by omega)]; exact q)
theorem op_pow : OpR X (binaryOp .Pow) (rI CPow fun i j => .int (i ^ j.toNat)) := opI fun _ _ _ _ _ _ _ hc q => pow_int_small hc.1 hc.2.1 hc.2.2 q
theorem op_xor : OpR X (binaryOp .BitXor) (rI0 fun i j => .int (Builtin.bitXor i j)) := opI0 fun _ _ _ _ _ _ _ q => xor_int q

theorem unI {f : Value → Sem Value} {g : Int → Int}
    (rule : ∀ (i : Int) (t : Tok) (s : Shared) (Q : Value → Shared → Prop) (E : Value → Shared → Prop), Q (.int (g i) s.toks) { s with toks := s.toks + 1 } → wpAny (model X.prog X.w) X.A (f (.int i t)) Q E s) :
    UnR X f (rU fun i => .int (g i)) := by
  intro pins s σ H x v Q I rx h
  obtain ⟨i, rfl, q⟩ := h
  obtain ⟨t, rfl⟩ := rx
  exact rule i t s _ _ ⟨.int (g i), H, I.tok _, ⟨_, rfl⟩, q⟩
theorem un_neg : UnR X (unaryOp .USub) (rU fun i => .int (-i)) := unI fun _ _ _ _ _ q => neg_int q
/-! ### bools among ints: n += (a < b) -/
end

/-! ### comparisons -/
/-- the scalars that == tells apart as data does -/
def scal : V → V → Bool
  | .non, .non => true | .non, .int _ => true | .int _, .non => true | .non, .bl _ => true | .bl _, .non => true | .non, .str _ => true | .str _, .non => true
  | .int _, .int _ => true | .bl _, .bl _ => true | .str _, .str _ => true | .byt _, .byt _ => true
  | .int _, .str _ => true | .str _, .int _ => true | .bl _, .str _ => true | .str _, .bl _ => true
  | _, _ => false
def rEq : R2 := fun x y H Q => scal x y = true ∧ Q (.bl (decide (x = y))) H
def rNe : R2 := fun x y H Q => scal x y = true ∧ Q (.bl (!decide (x = y))) H

theorem dec_int {i j : Int} : decide (V.int i = V.int j) = (i == j) := by
  rw [Bool.eq_iff_iff]
  simp
theorem dec_bl {i j : Bool} : decide (V.bl i = V.bl j) = (i == j) := by
  rw [Bool.eq_iff_iff]
  simp
theorem dec_str {i j : Str} : decide (V.str i = V.str j) = (i == j) := by
  rw [Bool.eq_iff_iff]
  simp
theorem dec_byt {i j : Array UInt8} : decide (V.byt i = V.byt j) = (i.toList == j.toList) := by
  rw [Bool.eq_iff_iff]
  cases i
  cases j
  simp

section
variable {X : Cx} {a b c : Expr} {ta tb tc : TE} {pos : Pos}
theorem fin_bl {pins : List (Addr × Obj)} {σ : St} {H : Hp} {s : Shared} {Q : VK} {k k' : Bool} (I : Inv X pins σ H s) (q : Q (.bl k) H) (e : k = k') : EP X pins σ Q (.bool k') s := by
  subst e
  exact ⟨.bl k, H, I, rfl, q⟩
theorem op_eq : OpR X (compareOp .Eq) rEq := by
  intro pins s σ H x y v u Q I rx ry h
  obtain ⟨hs, q⟩ := h
  cases x with
  | non =>
    cases rx
    cases y with
    | non => cases ry; exact PySem.EqNone.eq_none_none (fin_bl I q (by simp))
    | bl j => cases ry; exact PySem.EqNone.eq_none_bool (fin_bl I q (by simp))
    | int j => obtain ⟨t', rfl⟩ := ry; exact PySem.EqNone.eq_none_int (fin_bl I q (by simp))
    | str j => obtain ⟨t', rfl⟩ := ry; exact PySem.EqNone.eq_none_str (fin_bl I q (by simp))
    | _ => exact absurd (show false = true from hs) Bool.false_ne_true
  | bl i =>
    cases rx
    cases y with
    | non => cases ry; exact PySem.EqNone.eq_bool_none (fin_bl I q (by simp))
    | bl j => cases ry; exact eq_bool (fin_bl I q dec_bl)
    | str j => obtain ⟨t', rfl⟩ := ry; exact PySem.EqMixed.eq_bool_str (fin_bl I q (by simp))
    | _ => exact absurd (show false = true from hs) Bool.false_ne_true
  | int i =>
    obtain ⟨t, rfl⟩ := rx
    cases y with
    | non => cases ry; exact PySem.EqNone.eq_int_none (fin_bl I q (by simp))
    | int j => obtain ⟨t', rfl⟩ := ry; exact eq_int (fin_bl I q dec_int)
    | str j => obtain ⟨t', rfl⟩ := ry; exact PySem.EqMixed.eq_int_str (fin_bl I q (by simp))
    | _ => exact absurd (show false = true from hs) Bool.false_ne_true
  | str i =>
    obtain ⟨t, rfl⟩ := rx
    cases y with
    | non => cases ry; exact PySem.EqNone.eq_str_none (fin_bl I q (by simp))
    | bl j => cases ry; exact PySem.EqMixed.eq_str_bool (fin_bl I q (by simp))
    | int j => obtain ⟨t', rfl⟩ := ry; exact PySem.EqMixed.eq_str_int (fin_bl I q (by simp))
    | str j => obtain ⟨t', rfl⟩ := ry; exact eq_str (fin_bl I q dec_str)
    | _ => exact absurd (show false = true from hs) Bool.false_ne_true
  | byt i =>
    obtain ⟨t, rfl⟩ := rx
    cases y with
    | byt j => obtain ⟨t', rfl⟩ := ry; exact PySem.W.eq_bytes (fin_bl I q dec_byt)
    | _ => exact absurd (show false = true from hs) Bool.false_ne_true
  | _ => cases y <;> exact absurd (show false = true from hs) Bool.false_ne_true
theorem op_ne : OpR X (compareOp .NotEq) rNe := by
  intro pins s σ H x y v u Q I rx ry h
  obtain ⟨hs, q⟩ := h
  cases x with
  | non =>
    cases rx
    cases y with
    | non => cases ry; exact PySem.EqNone.ne_none_none (fin_bl I q (by simp))
    | bl j => cases ry; exact PySem.EqNone.ne_none_bool (fin_bl I q (by simp))
    | int j => obtain ⟨t', rfl⟩ := ry; exact PySem.EqNone.ne_none_int (fin_bl I q (by simp))
    | str j => obtain ⟨t', rfl⟩ := ry; exact PySem.EqNone.ne_none_str (fin_bl I q (by simp))
    | _ => exact absurd (show false = true from hs) Bool.false_ne_true
  | bl i =>
    cases rx
    cases y with
    | non => cases ry; exact PySem.EqNone.ne_bool_none (fin_bl I q (by simp))
    | bl j => cases ry; exact ne_bool (fin_bl I q (congrArg not dec_bl))
    | str j => obtain ⟨t', rfl⟩ := ry; exact PySem.EqMixed.ne_bool_str (fin_bl I q (by simp))
    | _ => exact absurd (show false = true from hs) Bool.false_ne_true
  | int i =>
    obtain ⟨t, rfl⟩ := rx
    cases y with
    | non => cases ry; exact PySem.EqNone.ne_int_none (fin_bl I q (by simp))
    | int j => obtain ⟨t', rfl⟩ := ry; exact ne_int (fin_bl I q (congrArg not dec_int))
    | str j => obtain ⟨t', rfl⟩ := ry; exact PySem.EqMixed.ne_int_str (fin_bl I q (by simp))
    | _ => exact absurd (show false = true from hs) Bool.false_ne_true
  | str i =>
    obtain ⟨t, rfl⟩ := rx
    cases y with
    | non => cases ry; exact PySem.EqNone.ne_str_none (fin_bl I q (by simp))
    | bl j => cases ry; exact PySem.EqMixed.ne_str_bool (fin_bl I q (by simp))
    | int j => obtain ⟨t', rfl⟩ := ry; exact PySem.EqMixed.ne_str_int (fin_bl I q (by simp))
    | str j => obtain ⟨t', rfl⟩ := ry; exact ne_str (fin_bl I q (congrArg not dec_str))
    | _ => exact absurd (show false = true from hs) Bool.false_ne_true
  | byt i =>
    obtain ⟨t, rfl⟩ := rx
    cases y with
    | byt j => obtain ⟨t', rfl⟩ := ry; exact PySem.W.ne_bytes (fin_bl I q (congrArg not dec_byt))
    | _ => exact absurd (show false = true from hs) Bool.false_ne_true
  | _ => cases y <;> exact absurd (show false = true from hs) Bool.false_ne_true

theorem op_lt : OpR X (compareOp .Lt) (rI0 fun i j => .bl (decide (i < j))) := opB0 fun _ _ _ _ _ _ _ q => lt_int q
/-- is, is not of two objects that are tracked lists or instances -/
def isObj : HO → Bool
  | .lst _ => true
  | .ins _ _ _ => true
  | _ => false
/-- two rules for one operation: by cases -/
theorem OpR.or {f : Value → Value → Sem Value} {r r' : R2} (h : OpR X f r) (h' : OpR X f r') : OpR X f (fun x y H Q => r x y H Q ∨ r' x y H Q) := by
  intro pins s σ H x y v u Q I rx ry q
  rcases q with q | q
  · exact h pins s σ H x y v u Q I rx ry q
  · exact h' pins s σ H x y v u Q I rx ry q

theorem nomark (b : Expr) {op : CmpOp} (h : op ≠ .In := by decide) (h2 : op ≠ .NotIn := by decide) : behindInMarks op b = false := by
  have e1 : (op == CmpOp.In) = false := by cases op <;> first | rfl | exact absurd rfl h
  have e2 : (op == CmpOp.NotIn) = false := by cases op <;> first | rfl | exact absurd rfl h2
  cases b <;> simp [behindInMarks, e1, e2]
/-- a comparison as a value; hm: nomark b, or (for in, not in) by with_unfolding_all rfl -/
theorem pe_cmpR {op : CmpOp} {r : R2} (ho : OpR X (compareOp op) r) (ha : PE X a ta) (hb : PE X b tb) (hm : behindInMarks op b = false) : PE X (.Compare a [op] [b] pos) (tOp r ta tb) := by
  intro pins s σ H Q I h
  exact wpAny_Compare1 (binT ha hb I h fun v u s2 x y H2 I2 rx ry q => ho pins s2 σ H2 x y v u Q I2 rx ry q) hm
/-- a reading of a value as a test -/
def tTest (t : TE) : TT := fun σ H Q => t σ H fun x H' => ∃ k, x = .bl k ∧ Q k H'
theorem pt_cmpR {op : CmpOp} {r : R2} (ho : OpR X (compareOp op) r) (ha : PE X a ta) (hb : PE X b tb) (hm : behindInMarks op b = false) : PT X (.Compare a [op] [b] pos) (tTest (tOp r ta tb)) := by
  intro pins s σ H Q I h
  refine wpAny_isTrue_Compare1 (thn (ha pins s σ H _ I h) fun v s1 ⟨x, H1, I1, r1, q1⟩ => thn (hb pins s1 σ H1 _ I1 q1) fun u s2 ⟨y, H2, I2, r2, q2⟩ =>
    thn (ho pins s2 σ H2 x y v u _ I2 r1 r2 q2) fun c s3 ⟨z, H3, I3, r3, k, e, q3⟩ => ?_) hm
  subst e
  cases r3
  exact wpAny_truthy_bool ⟨H3, I3, q3⟩
/-- a op1 b op2 c -/
def tChain (r r' : R2) (ta tb tc : TE) : TE := fun σ H Q => ta σ H fun x H1 => tb σ H1 fun y H2 => r x y H2 fun z H3 => ∃ k, z = .bl k ∧
  (if k = true then tc σ H3 fun w' H4 => r' y w' H4 Q else Q (.bl false) H3)
/-! ### truth -/
/-- a value's truth by the abstract heap -/
def TruV (K : PySem.W.Frag) (x : V) (H : Hp) (k : Bool) : Prop :=
  match x with
  | .non => k = false
  | .bl b => k = b
  | .int i => k = (i != 0)
  | .str y => y.length ≤ sizeLine ∧ k = ((y.length : Int) != 0)
  | .byt y => y.size ≤ sizeLine ∧ k = ((y.size : Int) != 0)
  | .ref p => (∃ xs, SqL K H p xs ∧ k = !xs.isEmpty) ∨ (∃ xs, SqT K H p xs ∧ k = !xs.isEmpty) ∨ ∃ kvs, H p = some (.dK kvs) ∧ k = !kvs.isEmpty
  | _ => False
theorem line63 : (sizeLine : Nat) < 2 ^ 63 := by rw [sizeLine_eq]; decide
/-! ### strs and bytes -/
def PlainIxT (b : Expr) : Prop := ∀ o i, subscripted b false o i = operate [o, i] (getItem o i)
/-! ### scalar builtins, by CallR -/
theorem vals1 {x : V} {us : List Value} (r : Vals [x] us) : ∃ u, us = [u] ∧ RelV x u := by
  cases r with
  | cons r1 r2 => cases r2; exact ⟨_, rfl, r1⟩
/-- len of a str, a bytes, a list, a tuple -/
def LenV (K : PySem.W.Frag) (x : V) (H : Hp) (n : Nat) : Prop :=
  match x with
  | .str y => y.length ≤ sizeLine ∧ n = y.length
  | .byt y => y.size ≤ sizeLine ∧ n = y.size
  | .ref p => (∃ xs, SqL K H p xs ∧ n = xs.length) ∨ ∃ xs, SqT K H p xs ∧ n = xs.length
  | _ => False
end
end L2

namespace L2
open PySem PySem.Spec PyProof.Rows

/-! ### an instance, its attributes a map -/
structure ObjM (h : Heap) (x dx C : Addr) (mA : Str → Option Value) : Prop where
  obj : h.get? x = some (PySem.W.instObj C dx)
  ns : h.Ns1 dx mA
  ne : dx ≠ x

theorem lookIn_ns {h : Heap} {dx : Addr} {mA : Str → Option Value} (n : h.Ns1 dx mA) : ∃ od, h.get? dx = some od ∧ ∀ name, PySem.W.lookIn name od = some (mA name) := by
  obtain ⟨o, es, ep, ho, hd, hk, _, hm⟩ := n
  refine ⟨o, ho, fun name => ?_⟩
  have e := hm name
  unfold nsFind findBy at e
  rw [← Array.find?_toList] at e
  unfold PySem.W.lookIn
  rw [hd]
  dsimp only
  split
  · rename_i y q
    rw [q] at e
    exact congrArg some e
  · rename_i q
    rw [q] at e
    have a : es.toList.any (·.refKey) = false := by
      rw [List.any_eq_false]
      intro y hy
      obtain ⟨z, t, hkey⟩ := hk y (Array.mem_toList_iff.mp hy)
      simp [DictEntry.refKey, hkey]
    have a' : ¬ es.toList.any (·.refKey) = true := by rw [a]; exact Bool.false_ne_true
    rw [if_neg a']
    exact congrArg some e

theorem ObjM.look {h : Heap} {x dx C : Addr} {mA : Str → Option Value} (I : ObjM h x dx C mA) : ∃ od, PySem.W.InstAt h x (PySem.W.instObj C dx) C (some od) ∧ ∀ name, PySem.W.lookIn name od = some (mA name) :=
  let ⟨od, ho, hl⟩ := lookIn_ns I.ns
  ⟨od, ⟨I.obj, rfl, rfl, ho⟩, hl⟩

section
variable {prog : Program} {w : World} {A : Around} {E : Value → Shared → Prop} {s : Shared} {K : PySem.W.Frag} {x dx C f : Addr} {mA : Str → Option Value} {name : Str} {v : Value}

theorem get_map {expr : Bool} {Q : Value → Shared → Prop} (X : K.In s.heap) (I : ObjM s.heap x dx C mA) (hg : PySem.W.plainGet K C name = true) (hh : PySem.W.hasDictIn K C = true)
    (ha : PySem.W.findIn K (.ref C) name = some none) (hv : mA name = some v) (hv' : PySem.W.handedIn v = true) (h : Q v { s with toks := s.toks + 1 }) :
    wpAny (model prog w) A (getAttr (.ref x) name expr) Q E s := by
  obtain ⟨od, J, hl⟩ := I.look
  exact PySem.W.get_value X J (PySem.W.plainGet_of hg).1 (PySem.W.findObj_own hh ha rfl (by rw [hl, hv])) hv' h

theorem get_meth {pl : Sem Bool} {Q : Value × List Value → Shared → Prop} (X : K.In s.heap) (I : ObjM s.heap x dx C mA) (hg : PySem.W.plainGet K C name = true)
    (hf : PySem.W.findIn K (.ref C) name = some (some (.ref f))) (ht : PySem.W.isFn K (.ref f) = true) (hv : mA name = none) (h : Q (.ref f, [.ref x]) s) :
    wpAny (model prog w) A (getMethod (.ref x) name pl) Q E s := by
  obtain ⟨od, J, hl⟩ := I.look
  exact PySem.W.method_fn X J (PySem.W.plainGet_of hg).1 (PySem.W.plainGet_of hg).2 hf (beq_iff_eq.mp ht) (by show (PySem.W.lookIn name od).map (·.isSome) = some false; rw [hl, hv]; rfl) h

theorem set_map {ns : List Str} {Q : Unit → Shared → Prop} (X : K.In s.heap) (I : ObjM s.heap x dx C mA)
    (hs : PySem.W.findIn K (.ref C) "__setattr__" = some (some (.builtin "object.__setattr__"))) (hp : PySem.W.plainOver K C = true) (ht : PySem.W.takerIn K C name = some none) (hh : PySem.W.hasDictIn K C = true)
    (hw : PySem.Within mA ns) (hsz : ns.length ≤ sizeLine)
    (h : ∀ h', ObjM h' x dx C (fun y => if y = name then some v else mA y) → Heap.SameBut dx s.heap h' → Q () { s with heap := h', toks := s.toks + 2 }) :
    wpAny (model prog w) A (setAttr (.ref x) name v) Q E s := by
  obtain ⟨od, J, hl⟩ := I.look
  refine PySem.W.set_plain X J hs (PySem.W.osa_open (s := { s with toks := s.toks + 1 }) (r := none) X J hp ht fun b => ?_)
  obtain ⟨cd, hc, hd'⟩ := PySem.W.any_some hh
  have hx : s.heap.get? x = some ⟨.ref C, some dx, .plain, #[]⟩ := I.obj
  refine wpAny_bind (wpAny_pure (wpAny_bind (wpAny_bind (wpAny_loadPart hx (wpAny_bind (PySem.W.Looks.here (s := { s with toks := s.toks + 1 }) (PySem.W.looks_clsIn X hc) ?_))))))
  rw [hd']
  refine wpAny_pure (a := some dx) (wpAny_bind (wpAny_pure (wpAny_bind ?_)))
  refine wpAny_nsSet1 (s := { s with toks := s.toks + 1 }) I.ns fun h' hn2 hs2 => ?_
  obtain ⟨oD, esD, epD, hoD, hdD, hcD⟩ := hn2.count (PySem.Within.cons name v hw)
  refine wpAny_bind (wpAny_lookBehind hoD (by rw [hdD]; exact pastItsLine_dict (Nat.le_trans hcD (by rw [List.length_cons]; omega))) ?_)
  exact wpAny_pure (h _ ⟨(hs2.2 _ (Ne.symm I.ne)).trans I.obj, hn2, I.ne⟩ hs2)

/-- C(..): the dict at the heap's end, the instance behind it; then its __init__ -/
theorem make_map {R : Result → Shared → Prop} {vs : List Value} {kw : List (Str × Value)} (X : K.In s.heap) (hm : PySem.W.makesIn K C = true)
    (hi : PySem.W.findIn K (.ref C) "__init__" = some (some (.ref f))) (hf : PySem.W.typeIn K (.ref f) = some (.type "function"))
    (h : codeAny (model prog w) (A.under (.builtin "type.__call__" ⟨.ref C :: vs, kw⟩)) (.call (.ref f) ⟨.ref (s.heap.objs.size + 1) :: vs, kw⟩) (PySem.W.InitBack (s.heap.objs.size + 1) R)
      { s with heap := (s.heap.push PySem.W.emptyDict).push (PySem.W.instObj C s.heap.objs.size) }) :
    codeAny (model prog w) A (.call (.ref C) ⟨vs, kw⟩) R s := by
  obtain ⟨hh, g, d, t, os⟩ := s
  exact PySem.W.make_core (PySem.W.makes_of X hm) (PySem.W.looks_findIn X hi) (fun self => PySem.W.bind_fn X self hf) (.inl rfl) h
end

/-! ### the attributes as a list of pairs -/
def putF (f : Str) (v : V) : List (Str × V) → List (Str × V)
  | [] => [(f, v)]
  | (g, x) :: r => if g = f then (g, v) :: r else (g, x) :: putF f v r
theorem lookup_putF (f g : Str) (v : V) : ∀ fs : List (Str × V), (putF f v fs).lookup g = if g = f then some v else fs.lookup g
  | [] => by
    show List.lookup g [(f, v)] = _
    by_cases h : g = f
    · have hb : (g == f) = true := beq_iff_eq.mpr h
      simp only [List.lookup, hb, if_pos h]
    · have hb : (g == f) = false := beq_eq_false_iff_ne.mpr h
      simp only [List.lookup, hb, if_neg h]
  | (k, x) :: r => by
    have ih := lookup_putF f g v r
    rw [show putF f v ((k, x) :: r) = (if k = f then (k, v) :: r else (k, x) :: putF f v r) from rfl]
    by_cases hk : k = f
    · rw [if_pos hk]
      by_cases h : g = k
      · have hb : (g == k) = true := beq_iff_eq.mpr h
        simp only [List.lookup, hb, if_pos (h.trans hk)]
      · have hb : (g == k) = false := beq_eq_false_iff_ne.mpr h
        simp only [List.lookup, hb, if_neg (fun e : g = f => h (e.trans hk.symm))]
    · rw [if_neg hk]
      by_cases h : g = k
      · have hb : (g == k) = true := beq_iff_eq.mpr h
        simp only [List.lookup, hb, if_neg (fun e : g = f => hk (h.symm.trans e))]
      · have hb : (g == k) = false := beq_eq_false_iff_ne.mpr h
        simp only [List.lookup, hb]
        exact ih
theorem keys_putF (f : Str) (v : V) : ∀ fs : List (Str × V), f ∈ (putF f v fs).map (·.1) ∧ ∀ g, g ∈ fs.map (·.1) → g ∈ (putF f v fs).map (·.1)
  | [] => ⟨by simp [putF], fun g h => by simp at h⟩
  | (k, x) :: r => by
    obtain ⟨i1, i2⟩ := keys_putF f v r
    rw [show putF f v ((k, x) :: r) = (if k = f then (k, v) :: r else (k, x) :: putF f v r) from rfl]
    by_cases hk : k = f
    · rw [if_pos hk]
      subst hk
      exact ⟨by simp, fun g h => by simpa using h⟩
    · rw [if_neg hk]
      refine ⟨?_, fun g h => ?_⟩
      · rw [List.map_cons]
        exact List.mem_cons_of_mem _ i1
      · rw [List.map_cons] at h ⊢
        rcases List.mem_cons.mp h with e | e
        · exact List.mem_cons.mpr (.inl e)
        · exact List.mem_cons_of_mem _ (i2 g e)
theorem length_putF (f : Str) (v : V) : ∀ fs : List (Str × V), (putF f v fs).length ≤ fs.length + 1
  | [] => by simp [putF]
  | (k, x) :: r => by
    have ih := length_putF f v r
    rw [show putF f v ((k, x) :: r) = (if k = f then (k, v) :: r else (k, x) :: putF f v r) from rfl]
    by_cases hk : k = f
    · rw [if_pos hk, List.length_cons, List.length_cons]; omega
    · rw [if_neg hk, List.length_cons, List.length_cons]; omega

theorem RelO.some_of {v : V} {o : Option Value} (r : RelO (some v) o) : ∃ u, o = some u ∧ RelV v u := by
  cases o with
  | none => exact (show False from r).elim
  | some u => exact ⟨u, rfl, r⟩
theorem RelO.none_of {o : Option Value} (r : RelO none o) : o = none := by
  cases o with
  | none => rfl
  | some u => exact (show False from r).elim
theorem handed_of {v : V} {u : Value} (r : RelV v u) : PySem.W.handedIn u = true := by
  cases v with
  | non => cases (show u = Value.none from r); rfl
  | bl b => cases (show u = Value.bool b from r); rfl
  | int i => obtain ⟨t, e⟩ := (show ∃ t, u = Value.int i t from r); cases e; rfl
  | str x => obtain ⟨t, e⟩ := (show ∃ t, u = Value.str x t from r); cases e; rfl
  | byt b => obtain ⟨t, e⟩ := (show ∃ t, u = Value.bytes b t from r); cases e; rfl
  | flt b => obtain ⟨t, e⟩ := (show ∃ t, u = Value.float b t from r); cases e; rfl
  | ref a => cases (show u = Value.ref a from r); rfl
  | ty n => cases (show u = Value.type n from r); rfl

section
variable {P : Program} {w : World} {H H' : Hp} {h h' : Heap} {a C dx : Addr} {fs fs' : List (Str × V)}
theorem ins_get (hok : HOk P w H h) (e : H a = some (.ins C dx fs)) : ∃ mA, ObjM h a dx C mA ∧ (∀ f, RelO (fs.lookup f) (mA f)) ∧ PySem.Within mA (fs.map (·.1)) ∧ fs.length ≤ 1000 ∧ H dx = some (.own a) := by
  obtain ⟨d, z, ne, ob, mA, n, r, q⟩ := (show ObjOk P w H h a (.ins C dx fs) from hok a _ e)
  exact ⟨mA, ⟨ob, n, ne⟩, r, q, z, d⟩
end

/-! ### what of the text a class must have -/
structure Cls (K : PySem.W.Frag) (C : Addr) : Prop where
  pg : PySem.W.plainGet K C Str.empty = true
  hd : PySem.W.hasDictIn K C = true
  po : PySem.W.plainOver K C = true
  sa : PySem.W.findIn K (.ref C) "__setattr__" = some (some (.builtin "object.__setattr__"))
theorem Cls.get {K : PySem.W.Frag} {C : Addr} (c : Cls K C) (f : Str) : PySem.W.plainGet K C f = true := c.pg
/-- no class of it has the name -/
def NoAttr (K : PySem.W.Frag) (C : Addr) (f : Str) : Prop := PySem.W.findIn K (.ref C) f = some none
theorem NoAttr.taker {K : PySem.W.Frag} {C : Addr} {f : Str} (n : NoAttr K C f) : PySem.W.takerIn K C f = some none := by
  unfold PySem.W.takerIn
  rw [show PySem.W.findIn K (.ref C) f = some none from n]
  rfl
/-- a constant of the class -/
structure Con (K : PySem.W.Frag) (C : Addr) (f : Str) (v : V) (u : Value) : Prop where
  at_ : PySem.W.findIn K (.ref C) f = some (some u)
  rel : RelV v u
  get : PySem.W.specialIn K u "__get__" = some none
  cp : PySem.W.copiedNames.contains f = false
/-- a method: a plain def of the class or of one above it -/
structure Meth (K : PySem.W.Frag) (C : Addr) (m : Str) (f : Addr) : Prop where
  at_ : PySem.W.findIn K (.ref C) m = some (some (.ref f))
  fn : PySem.W.isFn K (.ref f) = true
  kp : PySem.W.keepIn K (.ref f) = true

section
variable {X : Cx} {pins : List (Addr × Obj)} {σ : St} {H : Hp} {s : Shared} {a C dx : Addr} {fs : List (Str × V)} {f : Str} {v : V} {A : Around} {E : Value → Shared → Prop}

theorem getattr_ok {b : Bool} {Q : Value → Shared → Prop} (I : Inv X pins σ H s) (e : H a = some (.ins C dx fs)) (c : Cls X.K C) (n : NoAttr X.K C f) (l : fs.lookup f = some v)
    (h : ∀ u s', Inv X pins σ H s' → RelV v u → Q u s') : wpAny (model X.prog X.w) A (getAttr (.ref a) f b) Q E s := by
  obtain ⟨mA, O, r, _, _, _⟩ := ins_get I.hok e
  obtain ⟨u, hu, ru⟩ := RelO.some_of (v := v) (o := mA f) (by rw [← l]; exact r f)
  exact get_map I.kIn O (c.get f) c.hd n hu (handed_of ru) (h u _ (I.tok _) ru)

theorem getmeth_ok {m : Str} {g : Addr} {pl : Sem Bool} {Q : Value × List Value → Shared → Prop} (I : Inv X pins σ H s) (e : H a = some (.ins C dx fs)) (c : Cls X.K C) (k : Meth X.K C m g) (l : fs.lookup m = none)
    (h : Q (.ref g, [.ref a]) s) : wpAny (model X.prog X.w) A (getMethod (.ref a) m pl) Q E s := by
  obtain ⟨mA, O, r, _, _, _⟩ := ins_get I.hok e
  have hn : mA m = none := RelO.none_of (by rw [← l]; exact r m)
  exact get_meth I.kIn O (c.get m) k.at_ k.fn hn h

theorem setattr_ok {y : V} {u : Value} {Q : Unit → Shared → Prop} (I : Inv X pins σ H s) (e : H a = some (.ins C dx fs)) (c : Cls X.K C) (n : NoAttr X.K C f) (hl : fs.length < 1000) (ry : RelV y u)
    (h : ∀ s', Inv X pins σ (upd H a (.ins C dx (putF f y fs))) s' → Q () s') : wpAny (model X.prog X.w) A (setAttr (.ref a) f u) Q E s := by
  obtain ⟨mA, O, r, wi, _, ho⟩ := ins_get I.hok e
  have hz : (fs.map (·.1)).length ≤ sizeLine := by rw [List.length_map, sizeLine_eq]; omega
  refine set_map I.kIn O c.sa c.po n.taker c.hd wi hz fun h' O' sb => h _ ?_
  have hd : ∃ o, h'.get? dx = some o := let ⟨o, _, _, e', _⟩ := O'.ns; ⟨o, e'⟩
  refine I.write (x := a) (e := dx) (by rw [e]; exact True.intro) (.inr ho) (fun b q hb z => (sb.2 b hb).trans z) hd ?_
  refine ⟨by rw [upd_ne O.ne]; exact ho, ?_, O.ne, O'.obj, _, O'.ns, fun g => ?_, fun g hg => ?_⟩
  · have := length_putF f y fs; omega
  · show RelO ((putF f y fs).lookup g) (if g = f then some u else mA g)
    rw [lookup_putF]
    by_cases q : g = f
    · rw [if_pos q, if_pos q]; exact ry
    · rw [if_neg q, if_neg q]; exact r g
  · by_cases q : g = f
    · rw [q]; exact (keys_putF f y fs).1
    · refine (keys_putF f y fs).2 g (wi g fun z => hg ?_)
      show (if g = f then some u else mA g) = none
      rw [if_neg q]; exact z

/-- a new instance, tracked, without attributes -/
theorem Inv.made (I : Inv X pins σ H s) : Inv X pins σ (upd (upd H s.heap.objs.size (.own (s.heap.objs.size + 1))) (s.heap.objs.size + 1) (.ins C s.heap.objs.size []))
    { s with heap := (s.heap.push PySem.W.emptyDict).push (PySem.W.instObj C s.heap.objs.size) } := by
  have e1 : (s.heap.push PySem.W.emptyDict).get? s.heap.objs.size = some PySem.W.emptyDict := Heap.get?_push_size s.heap rfl
  have e2 : ((s.heap.push PySem.W.emptyDict).push (PySem.W.instObj C s.heap.objs.size)).get? (s.heap.objs.size + 1) = some (PySem.W.instObj C s.heap.objs.size) := by
    have := Heap.get?_push_size (s.heap.push PySem.W.emptyDict) (o := PySem.W.instObj C s.heap.objs.size) rfl
    rwa [Heap.size_push] at this
  have e3 : (s.heap.push PySem.W.emptyDict).Ns s.heap.objs.size (fun _ => none) := ⟨PySem.W.emptyDict, #[], _, e1, rfl, (fun e he => absurd he (by simp)), fun _ => rfl⟩
  have I1 := I.laid (a := s.heap.objs.size) (o := .own (s.heap.objs.size + 1)) (h' := s.heap.push PySem.W.emptyDict) (t' := s.toks) (fun b u q => Heap.get?_push_of_some _ q) (Nat.le_refl _) ⟨_, e1⟩
  refine I1.laid (a := s.heap.objs.size + 1) (o := .ins C s.heap.objs.size []) (t' := s.toks) (fun b u q => Heap.get?_push_of_some _ q) (Nat.le_of_eq (Heap.size_push _ _)) ?_
  have ne : s.heap.objs.size ≠ s.heap.objs.size + 1 := Nat.ne_of_lt (Nat.lt_succ_self _)
  refine ⟨by rw [upd_ne ne, upd_same], Nat.zero_le _, ne, e2, fun _ => none, (Heap.Ns1.of_empty e3).at fun o q => Heap.get?_push_of_some _ q, fun _ => True.intro, fun y hy => absurd rfl hy⟩

/-- e.f where nothing but the object is asked: through attributeBase (super) and the last hold -/
theorem attr_of {prog : Program} {w : World} {env : Env} {e : Expr} {f : Str} {pos : Pos} {s : Shared} {Q : Value → Shared → Prop} (hb : attributeBase e f env (eval e env) = eval e env)
    (h : wpAny (model prog w) A (eval e env) (fun o s₁ => wpAny (model prog w) A (getAttr o f true) Q E s₁) E s) : wpAny (model prog w) A (eval (.Attribute e f pos) env) Q E s :=
  Attribute_any_ h (by rw [arm_eval_Attribute, hb])
end

/-! ### readings and rules -/
/-- e.f, an attribute of the instance -/
def tFld (K : PySem.W.Frag) (ta : TE) (f : Str) : TE := fun σ H Q => ta σ H fun x H1 => ∃ a C dx fs v, x = .ref a ∧ H1 a = some (.ins C dx fs) ∧ Cls K C ∧ NoAttr K C f ∧ fs.lookup f = some v ∧ Q v H1
/-- e.f, a constant of the class -/
def tCon (K : PySem.W.Frag) (ta : TE) (f : Str) : TE := fun σ H Q => ta σ H fun x H1 => ∃ a C dx fs v u, x = .ref a ∧ H1 a = some (.ins C dx fs) ∧ Cls K C ∧ Con K C f v u ∧ fs.lookup f = none ∧ Q v H1
/-- e.f = value -/
def sFld (K : PySem.W.Frag) (ta tv : TE) (f : Str) : TS := fun D σ H => tv σ H fun y H1 => ta σ H1 fun x H2 => ∃ a C dx fs, x = .ref a ∧ H2 a = some (.ins C dx fs) ∧ Cls K C ∧ NoAttr K C f ∧ fs.length < 1000 ∧
  D.nx σ (upd H2 a (.ins C dx (putF f y fs)))
/-- an augmented operator on two values -/
def InOp (X : Cx) (op : Operator) (rd : V → V → Hp → VK → Prop) : Prop :=
  ∀ (pins : List (Addr × Obj)) (s : Shared) (σ : St) (H : Hp) (x y : V) (u v : Value) (Q : VK), Inv X pins σ H s → RelV x u → RelV y v → rd x y H Q → wpAny (model X.prog X.w) X.A (inplaceOp op u v) (EP X pins σ Q) X.xe s
/-- e.f op= value -/
def sFldAug (K : PySem.W.Frag) (ta tv : TE) (rd : V → V → Hp → VK → Prop) (f : Str) : TS := fun D σ H => ta σ H fun x H1 => ∃ a C dx fs v, x = .ref a ∧ H1 a = some (.ins C dx fs) ∧ Cls K C ∧ NoAttr K C f ∧ fs.lookup f = some v ∧
  tv σ H1 fun y H2 => rd v y H2 fun z H3 => ∃ dx' fs', H3 a = some (.ins C dx' fs') ∧ fs'.length < 1000 ∧ D.nx σ (upd H3 a (.ins C dx' (putF f z fs')))

section
variable {X : Cx} {o e value : Expr} {f : Str} {pos pos' tpos : Pos} {ta tv : TE}
theorem pe_fld (he : PE X e ta) (hb : attributeBase e f X.env (eval e X.env) = eval e X.env) : PE X (.Attribute e f pos) (tFld X.K ta f) := by
  intro pins s σ H Q I h
  refine attr_of hb (thn (he pins s σ H _ I h) fun u s1 ⟨x, H1, I1, rx, a, C, dx, fs, v, ex, ea, c, n, l, q⟩ => ?_)
  subst ex
  obtain rfl : u = Value.ref a := rx
  exact getattr_ok I1 ea c n l fun u' s2 I2 ru => ⟨v, H1, I2, ru, q⟩
theorem ps_fld (ha : PE X o ta) (hv : PE X value tv) (hs : swapsWith value (some (.Attribute o f pos')) pos.line X.env = pure false) : PS X (.Assign [.Attribute o f pos'] value pos) (sFld X.K ta tv f) := by
  intro pins s σ H D I h
  refine plainObj_wpAny_Assign_Attribute (thn (hv pins s σ H _ I h) fun u s1 ⟨y, H1, I1, ry, q⟩ => thn (ha pins s1 σ H1 _ I1 q) fun ov s2 ⟨x, H2, I2, rx, a, C, dx, fs, ex, ea, c, n, l, q2⟩ => ?_) hs
  subst ex
  obtain rfl : ov = Value.ref a := rx
  exact setattr_ok I2 ea c n l ry fun s3 I3 => ⟨σ, _, I3, q2⟩
def rAdd : V → V → Hp → VK → Prop := fun x y H Q => ∃ i j, x = .int i ∧ y = .int j ∧ Q (.int (i + j)) H
def rSub : V → V → Hp → VK → Prop := fun x y H Q => ∃ i j, x = .int i ∧ y = .int j ∧ Q (.int (i - j)) H
end

/-! ### isinstance -/
section
variable {X : Cx} {pins : List (Addr × Obj)} {σ : St} {H : Hp} {s : Shared} {A : Around} {E : Value → Shared → Prop} {Q : Value → Shared → Prop} {c : Value} {b : Bool}
/-- the type of a value, as the fragment's deciders take it; for an instance its class -/
inductive TyOf (K : PySem.W.Frag) (H : Hp) : V → Value → Prop where
  | non : TyOf K H .non (.type "NoneType")
  | bl (x : Bool) : TyOf K H (.bl x) (.type "bool")
  | int (i : Int) : TyOf K H (.int i) (.type "int")
  | str (x : Str) : TyOf K H (.str x) (.type "str")
  | flt (x : UInt64) : TyOf K H (.flt x) (.type "float")
  | lst {a : Addr} {xs : List V} (e : H a = some (.lst xs)) : TyOf K H (.ref a) (.type "list")
  | frz {a : Addr} {o : Obj} {xs : List V} (e : H a = some (.frz o (.lst xs))) : TyOf K H (.ref a) (.type "list")
  | tup {a : Addr} {xs : List V} (e : H a = some (.tup xs)) : TyOf K H (.ref a) (.type "tuple")
  | dK {a : Addr} {kvs : List (Key × V)} (e : H a = some (.dK kvs)) : TyOf K H (.ref a) (.type "dict")
  | dT {a : Addr} {kvs : List (List Key × V)} (e : H a = some (.dT kvs)) : TyOf K H (.ref a) (.type "dict")
  | ins {a C dx : Addr} {fs : List (Str × V)} (e : H a = some (.ins C dx fs)) (cl : Cls K C) (ha : PySem.W.findIn K (.ref C) "__class__" = some (some (.builtin "object.__class__")))
      (hn : PySem.W.specialIn K (.builtin "object.__class__") "__get__" = some (some (.builtin "getset_descriptor.__get__"))) (htk : PySem.W.takesIn K (.builtin "object.__class__") = some true)
      (hm : PySem.W.mroIn K C (.type "object") = some true) : TyOf K H (.ref a) (.ref C)
/-- isinstance(x, c) for one class c, a built-in or an own one: kitOne's answer -/
theorem isinst_ok {x : V} {u t : Value} (I : Inv X pins σ H s) (rx : RelV x u) (ty : TyOf X.K H x t) (e : PySem.W.kitOne X.K t c = some b) (h : ∀ tk, Q (.bool b) { s with toks := tk }) :
    wpAny (model X.prog X.w) A (call (.builtin "isinstance") [u, c]) Q E s := by
  cases ty with
  | non => cases (show u = Value.none from rx); exact PySem.W.kia_one PySem.W.kitx_none I.kIn True.intro e (fun z => nomatch z) h
  | bl y => cases (show u = Value.bool y from rx); exact PySem.W.kia_one PySem.W.kitx_bool I.kIn True.intro e (fun z => nomatch z) h
  | int i => obtain ⟨t, q⟩ := (show ∃ t, u = Value.int i t from rx); cases q; exact PySem.W.kia_one PySem.W.kitx_int I.kIn True.intro e (fun z => nomatch z) h
  | str y => obtain ⟨t, q⟩ := (show ∃ t, u = Value.str y t from rx); cases q; exact PySem.W.kia_one PySem.W.kitx_str I.kIn True.intro e (fun z => nomatch z) h
  | flt y => obtain ⟨t, q⟩ := (show ∃ t, u = Value.float y t from rx); cases q; exact PySem.W.kia_one PySem.W.kitx_float I.kIn True.intro e (fun z => nomatch z) h
  | @lst a xs ea =>
    cases (show u = Value.ref a from rx)
    obtain ⟨_, _, n, _, h1⟩ := (show ObjOk X.prog X.w H s.heap a (.lst xs) from I.hok a _ ea)
    exact PySem.W.kia_one PySem.W.kitx_list I.kIn ⟨_, h1, rfl⟩ e (fun z => nomatch z) h
  | @frz a ob xs ea =>
    cases (show u = Value.ref a from rx)
    obtain ⟨_, _, _, n, _, h1⟩ := (show ObjOk X.prog X.w H s.heap a (.frz ob (.lst xs)) from I.hok a _ ea)
    exact PySem.W.kia_one PySem.W.kitx_list I.kIn ⟨_, h1, rfl⟩ e (fun z => nomatch z) h
  | @tup a xs ea =>
    cases (show u = Value.ref a from rx)
    obtain ⟨_, _, _, p⟩ := (show ObjOk X.prog X.w H s.heap a (.tup xs) from I.hok a _ ea)
    obtain ⟨o, h1, h2, _⟩ := p
    exact PySem.W.kia_one PySem.W.kitx_tuple I.kIn ⟨o, h1, h2⟩ e (fun z => nomatch z) h
  | @dK a kvs ea =>
    cases (show u = Value.ref a from rx)
    obtain ⟨_, _, vs, _, p⟩ := (show ObjOk X.prog X.w H s.heap a (.dK kvs) from I.hok a _ ea)
    obtain ⟨o, es, ep, h1, h2, _⟩ := p
    exact PySem.W.kia_one PySem.W.kitx_dict I.kIn ⟨o, h1, h2.1⟩ e (fun z => nomatch z) h
  | @dT a kvs ea =>
    cases (show u = Value.ref a from rx)
    obtain ⟨_, _, xs, _, o, es, ep, h1, h2, _⟩ := (show ObjOk X.prog X.w H s.heap a (.dT kvs) from I.hok a _ ea)
    exact PySem.W.kia_one PySem.W.kitx_dict I.kIn ⟨o, h1, h2.1⟩ e (fun z => nomatch z) h
  | @ins a C dx fs ea cl ha hn htk hm =>
    cases (show u = Value.ref a from rx)
    obtain ⟨mA, O, _⟩ := ins_get I.hok ea
    obtain ⟨od, J, _⟩ := O.look
    exact PySem.W.kia_one (PySem.W.kitx_own (cl.get _) cl.hd ha hn htk hm) I.kIn J e (fun z => nomatch z) h
end
end L2

namespace L2
open PySem PySem.Spec PyProof.Rows

/-! ### room -/
structure Room (k : Nat) (A : Around) : Prop where
  hd : A.handled = none
  dp : A.depth + 3 * k + 5 < recursionLimit
  un : A.units + 16 * k + 200 < cLine
theorem Room.mono {j k : Nat} {A : Around} (r : Room k A) (h : j ≤ k) : Room j A := ⟨r.hd, by have := r.dp; omega, by have := r.un; omega⟩
theorem Room.deeper {k : Nat} {A : Around} (r : Room (k + 1) A) (env : Env) : Room k (A.deeper env) :=
  ⟨r.hd, by have := r.dp; show A.depth + 1 + 3 * k + 5 < _; omega, by have := r.un; show A.units + 3 + 16 * k + 200 < _; omega⟩
theorem Room.in1 {k : Nat} {A : Around} (r : Room (k + 1) A) : Room k A.in1 :=
  ⟨r.hd, by have := r.dp; show A.depth + 3 * k + 5 < _; omega, by have := r.un; show A.units + 1 + 16 * k + 200 < _; omega⟩
theorem make_depth {A : Around} {C : Addr} {us : List Value} {kw : List (Str × Value)} : (A.under (.builtin "type.__call__" ⟨.ref C :: us, kw⟩)).depth = A.depth + 1 := by
  first | rfl | simp [Around.under, Code.weight, Code.isCreation, Code.isGuard, Code.isCaller, Code.frames, Code.isFrame, guardIds]
theorem make_units {A : Around} {C : Addr} {us : List Value} {kw : List (Str × Value)} : (A.under (.builtin "type.__call__" ⟨.ref C :: us, kw⟩)).units = A.units + 1 := by
  first | rfl | simp [Around.under, Code.cUnits, Code.frames, Code.isFrame]
theorem Room.make {k : Nat} {A : Around} (r : Room (k + 1) A) (C : Addr) (us : List Value) (kw : List (Str × Value)) : Room k (A.under (.builtin "type.__call__" ⟨.ref C :: us, kw⟩)) :=
  ⟨r.hd, by have := r.dp; rw [make_depth]; omega, by have := r.un; rw [make_units]; omega⟩
theorem Room.depth {k : Nat} {A : Around} (r : Room k A) : A.depth < recursionLimit := by have := r.dp; omega
theorem Room.units {k : Nat} {A : Around} (r : Room k A) : A.units + 64 < cLine := by have := r.un; omega
/-! ### argument lists and displays -/
def tNil : TA := fun _ H Q => Q [] H
def tCons (ta : TE) (tr : TA) : TA := fun σ H Q => ta σ H fun x H1 => tr σ H1 fun xs H2 => Q (x :: xs) H2
section
variable {X : Cx} {e : Expr} {es : List Expr} {te : TE} {t : TA} {pos : Pos}
theorem pa_nil : PA X [] tNil := fun _ _ _ _ H Q I h => Calls.spliced_nil ⟨[], H, I, .nil, h⟩
theorem pa_cons (ha : PE X e te) (hr : PA X es t) (hs : starEach (e :: es) X.env = (false, eval e X.env) :: starEach es X.env := by rfl) : PA X (e :: es) (tCons te t) := by
  intro pos pins s σ H Q I h
  rw [hs]
  show wpAny _ _ (spliced ((false, eval e X.env) :: backTo pos (starEach es X.env))) _ _ s
  refine Calls.spliced_cons (thn (ha pins s σ H _ I h) fun u s1 ⟨x, H1, I1, r1, q1⟩ => ?_)
  exact thn (hr pos pins s1 σ H1 _ I1 q1) fun us s2 ⟨xs, H2, I2, r2, q2⟩ => ⟨x :: xs, H2, I2, .cons r1 r2, q2⟩

/-- a tuple, a list of written items -/
def tTup (t : TA) : TE := fun σ H Q => t σ H fun xs H1 => xs.length ≤ sizeLine ∧ ∀ p, H1 p = none → Q (.ref p) (upd H1 p (.tup xs))
def tLst (t : TA) : TE := fun σ H Q => t σ H fun xs H1 => xs.length ≤ sizeLine ∧ ∀ p, H1 p = none → Q (.ref p) (upd H1 p (.lst xs))
theorem pe_tup {x1} (h : PA X es t) : PE X (.Tuple es x1 pos) (tTup t) := by
  intro pins s σ H Q I hq
  refine wpAny_Tuple_spliced (thn (h pos pins s σ H _ I hq) fun us s1 ⟨xs, H1, I1, r, z, q⟩ => ⟨by rw [← r.length]; exact z, ?_⟩)
  have hf : H1 s1.heap.objs.size = none := I1.hok.fresh (Nat.le_refl _)
  refine ⟨.ref s1.heap.objs.size, upd H1 s1.heap.objs.size (.tup xs), I1.laid (t' := s1.toks) (fun b u e => Heap.get?_push_of_some _ e) (Nat.le_refl _) ?_, rfl, q _ hf⟩
  exact ⟨z, us, r, ⟨_, Heap.get?_push_size _ rfl, rfl, _, rfl⟩⟩
theorem pe_lst (h : PA X es t) : PE X (.List es pos) (tLst t) := by
  intro pins s σ H Q I hq
  refine wpAny_List_spliced (thn (h pos pins s σ H _ I hq) fun us s1 ⟨xs, H1, I1, r, z, q⟩ => ⟨by rw [← r.length]; exact z, ?_⟩)
  have hf : H1 s1.heap.objs.size = none := I1.hok.fresh (Nat.le_refl _)
  refine ⟨.ref s1.heap.objs.size, upd H1 s1.heap.objs.size (.lst xs), I1.laid (t' := s1.toks) (fun b u e => Heap.get?_push_of_some _ e) (Nat.le_refl _) ?_, rfl, q _ hf⟩
  exact ⟨z, us, 0, r, Heap.get?_push_size _ rfl⟩
end

/-! ### what a def promises -/
/-- a def's promise: the bound arguments in the parameters' order, the heap, the wanted end, the wanted exception -/
abbrev Sp := List V → Hp → VK → XK → Prop
/-- how an exception lies behind a call (file 08 gives it): the callers' frames, abstract heap and state ahead of the call, the wish, the exception, the state -/
abbrev CXT := List Env → Hp → Shared → XK → Value → Shared → Prop

/-- the state at a call -/
structure Env0 (P : Program) (w : World) (K : PySem.W.Frag) (mg : Str → Option Value) (base : Heap) (A : Around) (outer : List Env) (s : Shared) (H : Hp) : Prop where
  frames : A.frames = some outer
  mod : Mod K mg base
  bs : ∀ b o, base.get? b = some o → s.heap.get? b = some o ∧ H b = none
  bsz : base.objs.size ≤ s.heap.objs.size
  funs : s.heap.FunFrames base outer
  frf : ∀ b ∈ frs outer, H b = none
  hok : HOk P w H s.heap
  bare : AllBare s.gens
/-- a call's end -/
def CE (outer : List Env) (P : Program) (w : World) (H : Hp) (s : Shared) (Q : VK) (u : Value) (s' : Shared) : Prop :=
  ∃ v H', s'.os = s.os ∧ AllBare s'.gens ∧ Un (frs outer) [] H H' s.heap s'.heap ∧ HOk P w H' s'.heap ∧ RelV v u ∧ Q v H'
def CR (CX : CXT) (outer : List Env) (P : Program) (w : World) (H : Hp) (s : Shared) (Q : VK) (E : XK) (r : Result) (s' : Shared) : Prop :=
  match r with
  | .ok (.ret u) => CE outer P w H s Q u s'
  | .ok _ => False
  | .error e => CX outer H s E e s'
structure FnOk (P : Program) (w : World) (K : PySem.W.Frag) (mg : Str → Option Value) (base : Heap) (CX : CXT) (k : Nat) (f : Addr) (fd : FuncData) (ps : List Str) (sp : Sp) : Prop where
  len : ∀ vs H Q E, sp vs H Q E → vs.length = ps.length
  run : ∀ (A : Around) (outer : List Env) (s : Shared) (H : Hp) (args : Args) (us : List Value) (vs : List V) (Q : VK) (E : XK), Room k A → Env0 P w K mg base A outer s H → BindsTo s fd args (ps.zip us) → Vals vs us → sp vs H Q E →
    codeAny (model P w) A (.call (.ref f) args) (CR CX outer P w H s Q E) s
theorem FnOk.mono {P : Program} {w : World} {K : PySem.W.Frag} {mg : Str → Option Value} {base : Heap} {CX : CXT} {j k : Nat} {f : Addr} {fd : FuncData} {ps : List Str} {sp : Sp} (F : FnOk P w K mg base CX j f fd ps sp) (h : j ≤ k) :
    FnOk P w K mg base CX k f fd ps sp := ⟨F.len, fun A outer s H args us vs Q E hr => F.run A outer s H args us vs Q E (hr.mono h)⟩
theorem Env0.make {P : Program} {w : World} {K : PySem.W.Frag} {mg : Str → Option Value} {base : Heap} {A : Around} {outer : List Env} {s : Shared} {H : Hp} (e : Env0 P w K mg base A outer s H) (C : Addr) (us : List Value) (kw : List (Str × Value)) :
    Env0 P w K mg base (A.under (.builtin "type.__call__" ⟨.ref C :: us, kw⟩)) outer s H := ⟨by first | exact e.frames | (simpa [Around.under, Code.envs, Code.isFrame, pushEnvs] using e.frames), e.mod, e.bs, e.bsz, e.funs, e.frf, e.hok, e.bare⟩
theorem Env0.in1 {P : Program} {w : World} {K : PySem.W.Frag} {mg : Str → Option Value} {base : Heap} {A : Around} {outer : List Env} {s : Shared} {H : Hp} (e : Env0 P w K mg base A outer s H) :
    Env0 P w K mg base A.in1 outer s H := ⟨e.frames, e.mod, e.bs, e.bsz, e.funs, e.frf, e.hok, e.bare⟩

section
variable {X : Cx} {pins : List (Addr × Obj)} {σ : St} {H : Hp} {s s' : Shared}
/-- from a body: what a callee wants -/
theorem Inv.env0 (I : Inv X pins σ H s) : Env0 X.prog X.w X.K X.mg X.base X.A X.stack s H :=
  ⟨I.ok.frames, I.ok.mod, I.bs, Nat.le_trans I.ok.bsz I.sz, I.stack, I.stkFree, I.hok, I.bare⟩
/-- behind a call -/
theorem Inv.after {Q : VK} {u : Value} (I : Inv X pins σ H s) (h : CE X.stack X.prog X.w H s Q u s') : EP X pins σ Q u s' := by
  obtain ⟨v, H', os, bare, un, hok, r, q⟩ := h
  obtain ⟨hh, g, d, t, os'⟩ := s'
  obtain rfl : os' = s.os := os
  exact ⟨v, H', I.call (h' := hh) (g' := g) (d' := d) (t' := t) (ch := []) un hok bare (fun b z => absurd z (by simp)), r, q⟩
end

/-! ### calls -/
/-- f(..): the written arguments, then the defaults dvs; E: what is wanted of an exception -/
def tCall (sp : Sp) (dvs : List V) (E : XK) (t : TA) : TE := fun σ H Q => t σ H fun vs H1 => sp (vs ++ dvs) H1 Q E
/-- o.m(..) of an instance of the class at C -/
def tMeth (C : Addr) (m : Str) (sp : Sp) (dvs : List V) (E : XK) (ta : TE) (t : TA) : TE := fun σ H Q => ta σ H fun x H1 => ∃ a dx fs, x = .ref a ∧ H1 a = some (.ins C dx fs) ∧ fs.lookup m = none ∧
  t σ H1 fun vs H2 => sp (x :: (vs ++ dvs)) H2 Q E
/-- C(..): a new instance and its dict, then __init__ -/
def tMake (C : Addr) (sp : Sp) (dvs : List V) (E : XK) (t : TA) : TE := fun σ H Q => t σ H fun vs H1 => ∀ x dx, H1 x = none → H1 dx = none → dx ≠ x →
  sp (.ref x :: (vs ++ dvs)) (upd (upd H1 dx (.own x)) x (.ins C dx [])) (fun v H2 => v = .non ∧ Q (.ref x) H2) E

/-- how the parameters are bound: us the positional arguments, kw the keywords' values by name, ds the defaults that fill up -/
def Binds (K : PySem.W.Frag) (fd : FuncData) (ps : List Str) (ds : List Value) : Prop :=
  ∀ (s : Shared) (us : List Value), K.In s.heap → (us ++ ds).length = ps.length → BindsTo s fd ⟨us, []⟩ (ps.zip (us ++ ds))
/-- every parameter is given -/
theorem Binds.all {K : PySem.W.Frag} {fd : FuncData} {ps : List Str} (h : ∀ us : List Value, us.length = ps.length → bindArgs fd ⟨us, []⟩ = pure (ps.zip us)) : Binds K fd ps [] := fun s us _ hl => by
  rw [List.append_nil] at hl ⊢
  exact .of_eq (h us hl)

/-- an exception of a callee reaches what this body wants of exceptions -/
def Passes (CX : CXT) (X : Cx) (E : XK) : Prop := ∀ (pins : List (Addr × Obj)) (σ : St) (H : Hp) (s : Shared) (e : Value) (s' : Shared), Inv X pins σ H s → CX X.stack H s E e s' → X.xe e s'

section
variable {X : Cx} {CX : CXT} {k : Nat} {f C : Addr} {fd : FuncData} {ps : List Str} {sp : Sp} {dvs : List V} {ds : List Value} {E : XK} {x m : Str} {p pos apos : Pos} {e o : Expr} {es : List Expr} {ta : TE} {t : TA}

/-- the callee runs -/
theorem run_fn {pins : List (Addr × Obj)} {σ : St} {H : Hp} {s : Shared} {Q : VK} {us : List Value} {vs : List V} (F : FnOk X.prog X.w X.K X.mg X.base CX k f fd ps sp) (hr : Room k X.A) (hb : Binds X.K fd ps ds) (hd : Vals dvs ds) (hx : Passes CX X E)
    (I : Inv X pins σ H s) (r : Vals vs us) (h : sp (vs ++ dvs) H Q E) : wpAny (model X.prog X.w) X.A (call (.ref f) us) (EP X pins σ Q) X.xe s := by
  have r2 : Vals (vs ++ dvs) (us ++ ds) := r.append hd
  have hl : (us ++ ds).length = ps.length := by rw [← r2.length]; exact F.len _ _ _ _ h
  refine wpAny_call (codeAny_mono (F.run X.A X.stack s H ⟨us, []⟩ (us ++ ds) (vs ++ dvs) Q E hr I.env0 (hb s us I.kIn hl) r2 h) fun r s' hq => ?_)
  cases r with
  | error e => exact hx pins σ H s e s' I hq
  | ok fl =>
    cases fl with
    | ret u => exact I.after hq
    | next => exact False.elim hq
    | brk => exact False.elim hq
    | cont => exact False.elim hq

theorem pe_call (F : FnOk X.prog X.w X.K X.mg X.base CX k f fd ps sp) (hr : Room k X.A) (hg : Gl X x) (hm : X.mg x = some (.ref f)) (hk : PySem.W.keepIn X.K (.ref f) = true) (hb : Binds X.K fd ps ds) (hd : Vals dvs ds) (hx : Passes CX X E)
    (ha : PA X (e :: es) t) (hdb : (x == ("__debug__" : Str)) = false := by decide) (he : starEach (e :: es) X.env = (false, eval e X.env) :: starEach es X.env := by rfl) (hpl : (backTo pos (starEach es X.env)).any (·.1) = false := by rfl) :
    PE X (.Call (.Name x p) (e :: es) [] pos) (tCall sp dvs E t) := by
  intro pins s σ H Q I h
  refine wpAny_Call_Name_kw (ld_glob I hg hm ?_ hdb)
  refine PySem.W.callWith_K (h₀ := X.base) I.ok.mod.kin hk (thn (ha pos pins s σ H _ I h) fun us s1 ⟨vs, H1, I1, r, q⟩ => ⟨I1.kIn, ?_⟩) he hpl
  exact run_fn F hr hb hd hx I1 r q
/-- o.m(e, ..) -/
theorem pe_meth {pl : Sem Bool} (he : PE X o ta) (c : Cls X.K C) (hm : Meth X.K C m f) (F : FnOk X.prog X.w X.K X.mg X.base CX k f fd ps sp) (hr : Room k X.A) (hb : Binds X.K fd ps ds) (hd : Vals dvs ds) (hx : Passes CX X E) (ha : PA X (e :: es) t)
    (hst : starEach (e :: es) X.env = (false, eval e X.env) :: starEach es X.env := by rfl) (hpl : (backTo pos (starEach es X.env)).any (·.1) = false := by rfl)
    (ht : eval (.Call (.Attribute o m apos) (e :: es) [] pos) X.env = (do
      let ov ← eval o X.env
      standAt apos.atName
      let (f, first) ← holding [ov] (getMethod ov m pl)
      callWith pos f first (backTo pos (starEach (e :: es) X.env)) (backToKw pos (keywordEach [] X.env))) := by rfl) :
    PE X (.Call (.Attribute o m apos) (e :: es) [] pos) (tMeth C m sp dvs E ta t) := by
  intro pins s σ H Q I h
  refine PySem.W.methodCall_KW (pl := pl) (thn (he pins s σ H _ I h) fun u s1 ⟨x, H1, I1, rx, a, dx, fs, ex, ea, l, q⟩ => ?_) ht
  subst ex
  obtain rfl : u = Value.ref a := rx
  refine getmeth_ok I1 ea c hm l ?_
  refine PySem.W.callWith_K (first := [.ref a]) (h₀ := X.base) I.ok.mod.kin hm.kp (thn (ha pos pins s1 σ H1 _ I1 q) fun us s2 ⟨vs, H2, I2, r, q2⟩ => ⟨I2.kIn, ?_⟩) hst hpl
  exact run_fn (us := .ref a :: us) (vs := .ref a :: vs) F hr hb hd hx I2 (.cons rfl r) q2
/-- what a class must have to be made -/
structure Mk (K : PySem.W.Frag) (C f : Addr) : Prop where
  makes : PySem.W.makesIn K C = true
  init : PySem.W.findIn K (.ref C) "__init__" = some (some (.ref f))
  fn : PySem.W.isFn K (.ref f) = true
  kp : PySem.W.keepIn K (.ref C) = true

theorem run_make {pins : List (Addr × Obj)} {σ : St} {H : Hp} {s : Shared} {Q : VK} {us : List Value} {vs : List V} (M : Mk X.K C f) (F : FnOk X.prog X.w X.K X.mg X.base CX k f fd ps sp) (hr : Room (k + 1) X.A) (hb : Binds X.K fd ps ds) (hd : Vals dvs ds)
    (hx : Passes CX X E) (I : Inv X pins σ H s) (r : Vals vs us)
    (h : ∀ x dx, H x = none → H dx = none → dx ≠ x → sp (.ref x :: (vs ++ dvs)) (upd (upd H dx (.own x)) x (.ins C dx [])) (fun v H2 => v = .non ∧ Q (.ref x) H2) E) :
    wpAny (model X.prog X.w) X.A (call (.ref C) us) (EP X pins σ Q) X.xe s := by
  have hq := h (s.heap.objs.size + 1) s.heap.objs.size (I.hok.fresh (Nat.le_succ _)) (I.hok.fresh (Nat.le_refl _)) (Nat.ne_of_lt (Nat.lt_succ_self _))
  have I2 := Inv.made (C := C) I
  have r2 : Vals (V.ref (s.heap.objs.size + 1) :: (vs ++ dvs)) (Value.ref (s.heap.objs.size + 1) :: (us ++ ds)) := .cons rfl (r.append hd)
  have hl : (Value.ref (s.heap.objs.size + 1) :: us ++ ds).length = ps.length := by
    have e := r2.length
    rw [F.len _ _ _ _ hq] at e
    exact e.symm
  refine wpAny_call (make_map (f := f) I.kIn M.makes M.init (beq_iff_eq.mp M.fn) (codeAny_mono (F.run _ X.stack _ _ ⟨Value.ref (s.heap.objs.size + 1) :: us, []⟩ (Value.ref (s.heap.objs.size + 1) :: (us ++ ds)) _ _ E (hr.make C us [])
    (I2.env0.make C us []) (hb _ (Value.ref (s.heap.objs.size + 1) :: us) I2.kIn hl) r2 hq) fun r s' hq' => ?_))
  cases r with
  | error e => exact hx pins σ _ _ e s' I2 hq'
  | ok fl =>
    cases fl with
    | ret u =>
      obtain ⟨v, H', I3, rv, ev, q3⟩ := I2.after hq'
      subst ev
      exact ⟨rv, ⟨V.ref (s.heap.objs.size + 1), H', I3, rfl, q3⟩⟩
    | next => exact False.elim hq'
    | brk => exact False.elim hq'
    | cont => exact False.elim hq'
theorem pe_make (M : Mk X.K C f) (F : FnOk X.prog X.w X.K X.mg X.base CX k f fd ps sp) (hr : Room (k + 1) X.A) (hg : Gl X x) (hm : X.mg x = some (.ref C)) (hb : Binds X.K fd ps ds) (hd : Vals dvs ds) (hx : Passes CX X E)
    (ha : PA X (e :: es) t) (hdb : (x == ("__debug__" : Str)) = false := by decide) (he : starEach (e :: es) X.env = (false, eval e X.env) :: starEach es X.env := by rfl) (hpl : (backTo pos (starEach es X.env)).any (·.1) = false := by rfl) :
    PE X (.Call (.Name x p) (e :: es) [] pos) (tMake C sp dvs E t) := by
  intro pins s σ H Q I h
  refine wpAny_Call_Name_kw (ld_glob I hg hm ?_ hdb)
  refine PySem.W.callWith_K (h₀ := X.base) I.ok.mod.kin M.kp (thn (ha pos pins s σ H _ I h) fun us s1 ⟨vs, H1, I1, r, q⟩ => ⟨I1.kIn, ?_⟩) he hpl
  exact run_make M F hr hb hd hx I1 r q
end

/-! ### keywords -/
/-- the values of the keywords, from the left -/
def PK (X : Cx) (kws : List Keyword) (t : TA) : Prop :=
  ∀ (pos : Pos) (pins : List (Addr × Obj)) (s : Shared) (σ : St) (H : Hp) (Q : List V → Hp → Prop), Inv X pins σ H s → t σ H Q → wpAny (model X.prog X.w) X.A (evalAll ((backToKw pos (keywordEach kws X.env)).map (·.2))) (AP X pins σ Q) X.xe s
section
variable {X : Cx} {CX : CXT} {k : Nat} {f C : Addr} {fd : FuncData} {ps ks : List Str} {sp : Sp} {E : XK} {x m : Str} {p pos apos kpos : Pos} {e o : Expr} {es : List Expr} {kws : List Keyword} {te ta : TE} {t tk : TA} {nm : Option Str}
/-- how a call with keywords binds: g puts the positional values us and the keywords' values ws (names ks) in the parameters' order, defaults among them -/
structure KBinds (K : PySem.W.Frag) (fd : FuncData) (ps ks : List Str) (g : List Value → List Value → List Value) (gV : List V → List V → List V) : Prop where
  to : ∀ (s : Shared) (us ws : List Value), K.In s.heap → (g us ws).length = ps.length → BindsTo s fd ⟨us, ks.zip ws⟩ (ps.zip (g us ws))
  rel : ∀ {vs : List V} {us : List Value} {zs : List V} {ws : List Value}, Vals vs us → Vals zs ws → Vals (gV vs zs) (g us ws)
def tCallK (sp : Sp) (gV : List V → List V → List V) (E : XK) (t tk : TA) : TE := fun σ H Q => t σ H fun vs H1 => tk σ H1 fun zs H2 => sp (gV vs zs) H2 Q E
variable {g : List Value → List Value → List Value} {gV : List V → List V → List V}
end

/-! ### a def's body keeps its promise -/
/-- names: the parameters first -/
structure FnScope (N P : List Str) (sc : Scope) : Prop where
  kind : sc.kind = .function
  co : sc.isCoroutine = false
  gen : sc.isGenerator = false
  nd : N.Nodup
  pre : N.take P.length = P
  par : ∀ x ∈ P, sc.names.lookup x = some .local ∨ sc.names.lookup x = some .cell
  nofree : ∀ y ∈ sc.names, y.2 ≠ .free

theorem bindL_out {kindOf : Str → Option NameKind} {x : Str} : ∀ {binds : List (Str × Value)} {m : Str → Option Value}, (∀ v, (x, v) ∉ binds) → bindL kindOf binds m x = m x
  | [], _, _ => rfl
  | (n, v) :: r, m, h => by
    unfold bindL
    rw [bindL_out fun w hw => h w (List.mem_cons_of_mem _ hw)]
    split
    · have : x ≠ n := by rintro rfl; exact h v List.mem_cons_self
      simp [this]
    · rfl
theorem bindC_out {kindOf : Str → Option NameKind} {x : Str} : ∀ {binds : List (Str × Value)} {m : Str → Option Value}, (∀ v, (x, v) ∉ binds) → bindC kindOf binds m x = m x
  | [], _, _ => rfl
  | (n, v) :: r, m, h => by
    unfold bindC
    rw [bindC_out fun w hw => h w (List.mem_cons_of_mem _ hw)]
    split
    · rfl
    · have : x ≠ n := by rintro rfl; exact h v List.mem_cons_self
      simp [this]
theorem bindL_get {kindOf : Str → Option NameKind} {x : Str} {v : Value} : ∀ {P : List Str} {vs : List Value} {i : Nat} {m : Str → Option Value}, P.Nodup → P[i]? = some x → vs[i]? = some v → kindOf x = some .local →
    bindL kindOf (P.zip vs) m x = some v
  | [], _, _, _, _, h, _, _ => by simp at h
  | _ :: _, [], _, _, _, _, h, _ => by simp at h
  | p :: P, w :: vs, 0, m, nd, h1, h2, hk => by
    simp at h1 h2; subst h1; subst h2
    show bindL kindOf ((p, w) :: P.zip vs) m p = _
    unfold bindL
    rw [bindL_out fun v hv => (List.nodup_cons.mp nd).1 (List.of_mem_zip hv).1, if_pos hk]
    simp
  | p :: P, w :: vs, i + 1, m, nd, h1, h2, hk => by
    show bindL kindOf ((p, w) :: P.zip vs) m x = _
    unfold bindL
    exact bindL_get (i := i) (List.nodup_cons.mp nd).2 (by simpa using h1) (by simpa using h2) hk
theorem bindC_get {kindOf : Str → Option NameKind} {x : Str} {v : Value} : ∀ {P : List Str} {vs : List Value} {i : Nat} {m : Str → Option Value}, P.Nodup → P[i]? = some x → vs[i]? = some v → kindOf x ≠ some .local →
    bindC kindOf (P.zip vs) m x = some v
  | [], _, _, _, _, h, _, _ => by simp at h
  | _ :: _, [], _, _, _, _, h, _ => by simp at h
  | p :: P, w :: vs, 0, m, nd, h1, h2, hk => by
    simp at h1 h2; subst h1; subst h2
    show bindC kindOf ((p, w) :: P.zip vs) m p = _
    unfold bindC
    rw [bindC_out fun v hv => (List.nodup_cons.mp nd).1 (List.of_mem_zip hv).1, if_neg hk]
    simp
  | p :: P, w :: vs, i + 1, m, nd, h1, h2, hk => by
    show bindC kindOf ((p, w) :: P.zip vs) m x = _
    unfold bindC
    exact bindC_get (i := i) (List.nodup_cons.mp nd).2 (by simpa using h1) (by simpa using h2) hk

/-- the names' values at the entry -/
def start (N : List Str) (vs : List V) : St := vs.map some ++ List.replicate (N.length - vs.length) none

/-- the context of a def's body, at its entry; an exception leaves the frame, then lies as CX says -/
def cxOf (CX : CXT) (P : Program) (w : World) (K : PySem.W.Frag) (mg : Str → Option Value) (base : Heap) (N : List Str) (qual : Str) (scope : Scope) (f : Addr) (cd : Value) (A : Around) (outer : List Env) (s : Shared) (H : Hp) (E : XK) : Cx where
  prog := P
  w := w
  K := K
  mg := mg
  base := base
  A := A.deeper (envOfC qual scope s.heap.objs.size f cd)
  N := N
  s₀ := s
  H₀ := H
  env := envOfC qual scope s.heap.objs.size f cd
  outer := outer
  stack := envOfC qual scope s.heap.objs.size f cd :: outer
  ex := []
  calm := true
  fn := fun _ => true
  pn := []
  xe := fun e s' => wpAny (model P w) (A.deeper (envOfC qual scope s.heap.objs.size f cd)) (leaving (envOfC qual scope s.heap.objs.size f cd) e) (fun _ s'' => CX outer H s E e s'') (fun e' s'' => CX outer H s E e' s'') s'

theorem cell_has {sc : Scope} {n : Nat} {x : Str} (h : sc.names.lookup x = some .cell) : ∃ c, (cellsFrom n sc.names []).lookup x = some c := by
  have q := PySem.W.cellsFrom_some sc.names n [] (.inl h)
  exact Option.isSome_iff_exists.mp q

theorem inv_start {CX : CXT} {P : Program} {w : World} {K : PySem.W.Frag} {mg : Str → Option Value} {base : Heap} {N ps : List Str} {qual : Str} {scope : Scope} {f : Addr} {cd : Value} {A : Around} {outer : List Env} {s s1 : Shared} {H : Hp} {E : XK} {us : List Value} {vs : List V}
    (S : FnScope N ps scope) (hd : A.handled = none) (e0 : Env0 P w K mg base A outer s H) (hl : vs.length = ps.length) (r : Vals vs us)
    (x : InCallC s s.heap.objs.size (bindL (envOfC qual scope s.heap.objs.size f cd).kindOf (ps.zip us) fun _ => none) (cellsFrom (s.heap.objs.size + 1) scope.names []) (bindC (envOfC qual scope s.heap.objs.size f cd).kindOf (ps.zip us) fun _ => none) s1) :
    Inv (cxOf CX P w K mg base N qual scope f cd A outer s H E) [] (start N vs) H s1 := by
  have hpl : ps.length ≤ N.length := by have := congrArg List.length S.pre; rw [List.length_take] at this; omega
  obtain ⟨h1, tk, rfl, hk⟩ := x.done
  have noA : ∀ b : Addr, b ∉ (cxOf CX P w K mg base N qual scope f cd A outer s H E).ex := fun b z => absurd (show b ∈ ([] : List Addr) from z) (by simp)
  refine ⟨⟨e0.mod, S.kind, rfl, rfl, Nat.le_refl _, fun y z c h1 h2 => ?_, fun y hy => ?_, fun y c _ h => ?_, fun _ => hd, Around.frames_deeper e0.frames, .inr ⟨rfl, rfl⟩, fun b z => absurd z (noA b), e0.bs, e0.bsz, fun b _ _ => noA b, fun b z => absurd z (noA b), e0.funs, e0.frf⟩,
    rfl, e0.bare, Un.kept hk, ⟨_, x.toInCall.ns, fun i y v h1 h2 h3 => ?_⟩, fun y c h => ⟨_, x.cell y c h⟩, e0.hok.fresh (Nat.le_refl _), fun y c h => ?_, fun p hp => absurd (show p ∈ ([] : List (Addr × Obj)) from hp) (by simp), e0.hok.kept hk, ?_⟩
  · exact name_of_addr x.apart (PySem.mem_of_lookup h1) (PySem.mem_of_lookup h2)
  · have hy : scope.names.lookup y = some .cell ∨ scope.names.lookup y = some .free := hy
    rcases hy with hy | hy
    · exact cell_has hy
    · exact absurd rfl (S.nofree _ (PySem.mem_of_lookup hy))
  · exact Nat.le_of_lt (x.above y c (PySem.mem_of_lookup h))
  · have hi : i < vs.length := by
      unfold start at h2
      by_cases hi : i < vs.length
      · exact hi
      · rw [List.getElem?_append_right (by simpa using hi)] at h2
        rw [List.getElem?_replicate] at h2
        split at h2 <;> cases h2
    have ha : vs[i]? = some v := by
      unfold start at h2
      rw [List.getElem?_append_left (by simpa using hi), List.getElem?_map] at h2
      cases e : vs[i]? with
      | none => rw [e] at h2; cases h2
      | some a => rw [e] at h2; cases h2; rfl
    obtain ⟨u, hu, rv⟩ := r.get ha
    have hp : ps[i]? = some y := by
      rw [← S.pre, List.getElem?_take_of_lt (by omega)]; exact h1
    have ndP : ps.Nodup := by rw [← S.pre]; exact S.nd.sublist (List.take_sublist _ _)
    refine ⟨u, rv, ?_⟩
    rcases S.par y (List.mem_of_getElem? hp) with k | k
    · exact .inl ⟨k, bindL_get ndP hp hu k⟩
    · obtain ⟨c, e⟩ := cell_has (n := s.heap.objs.size + 1) k
      refine .inr ⟨.inl k, c, e, ?_⟩
      have q := x.cell y c e
      rw [bindC_get ndP hp hu (by show scope.names.lookup y ≠ _; rw [k]; decide)] at q
      exact q
  · exact e0.hok.fresh (Nat.le_of_lt (x.above y c (PySem.mem_of_lookup h)))
  · unfold start
    show _ = N.length
    rw [List.length_append, List.length_map, List.length_replicate]
    omega

/-- THE RULE: a def (or a method) of the text, by its body. The body's reading t is chosen for each entry; it is run at the parameters' values -/
theorem fn_of {CX : CXT} {P : Program} {w : World} {K : PySem.W.Frag} {mg : Str → Option Value} {base : Heap} {k : Nat} {f : Addr} {name qual : Str} {params : Arguments} {body : List Stmt} {scope : Scope} {dV kV doc pm cdv ct oc : Value} {an od : Option Addr}
    {osl : Array (Option Value)} {N ps : List Str} {sp : Sp} (lk : K.lookup f = some ⟨oc, od, .func (PySem.W.fnOf name qual params body scope dV kV doc pm an cdv ct), osl⟩) (hcd : PySem.W.codeIn K cdv qual = true) (S : FnScope N ps scope)
    (len : ∀ vs H Q E, sp vs H Q E → vs.length = ps.length)
    (hbody : ∀ (A : Around) (outer : List Env) (s : Shared) (H : Hp) (vs : List V) (Q : VK) (E : XK), Room k (A.deeper (envOfC qual scope s.heap.objs.size f cdv)) → sp vs H Q E →
      ∃ t, PSs (cxOf CX P w K mg base N qual scope f cdv A outer s H E) body t ∧ t { nx := fun _ H' => Q .non H', rt := Q } (start N vs) H) :
    FnOk P w K mg base CX (k + 1) f (PySem.W.fnOf name qual params body scope dV kV doc pm an cdv ct) ps sp := by
  refine ⟨len, fun A outer s H args us vs Q E hr e0 hb r hsp => ?_⟩
  have hl := len _ _ _ _ hsp
  have KX : K.In s.heap := e0.mod.kin.keeps fun b o e => (e0.bs b o e).1
  have lim : s.heap.NoLimit := e0.mod.nolimit.keeps fun b o e => (e0.bs b o e).1
  have hkind : ∀ y ∈ ps.zip us, scope.names.lookup y.1 = some .local ∨ (scope.names.lookup y.1 = some .cell ∧ ((cellsFrom (s.heap.objs.size + 1) scope.names []).lookup y.1).isSome = true) := fun ⟨n, v⟩ hy => by
    rcases S.par n (List.of_mem_zip hy).1 with q | q
    · exact .inl q
    · exact .inr ⟨q, PySem.W.cellsFrom_some _ _ _ (.inl q)⟩
  refine codeAny_call_function hr.depth (KX _ _ lk) rfl S.co S.gen rfl (PySem.W.codeRec_of KX hcd) (hb _ _ _ _ ?_)
  refine wpAny_newFunctionEnv_cells S.kind hkind fun env he s1 x => ?_
  subst he
  refine ⟨lim.keeps x.toInCall.keep, codeAny_func ?_⟩
  obtain ⟨t, ht, hq⟩ := hbody A outer s H vs Q E (hr.deeper _) hsp
  have I : Inv (cxOf CX P w K mg base N qual scope f cdv A outer s H E) [] (start N vs) H s1 := inv_start S hr.hd e0 hl r x
  refine wpAny_mono (ht [] s1 (start N vs) H _ I hq) (fun fl s' hs => ?_) fun e s' hs => hs
  have fin : ∀ {σ' : St} {H' : Hp} {v : V} {u : Value}, Inv (cxOf CX P w K mg base N qual scope f cdv A outer s H E) [] σ' H' s' → RelV v u → Q v H' → CE outer P w H s Q u s' :=
    fun {σ' H' v u} J rv q => ⟨v, H', J.os, J.bare, J.base, J.hok, rv, q⟩
  cases fl with
  | ret u =>
    obtain ⟨v, σ', H', J, rv, q⟩ := hs
    exact fin J rv q
  | next =>
    obtain ⟨σ', H', J, q⟩ := hs
    exact fin (v := V.non) (u := Value.none) J rfl q
  | brk =>
    obtain ⟨_, _, _, q⟩ := hs
    exact False.elim q
  | cont =>
    obtain ⟨_, _, _, q⟩ := hs
    exact False.elim q
end L2

namespace L2
open PySem PySem.Spec PyProof.Rows
section
variable {X : Cx} {x : Str} {p pos : Pos} {e : Expr} {es : List Expr} {t : TA} {id T : String} {r : List V → Hp → VK → Prop}

def tCB (r : List V → Hp → VK → Prop) (t : TA) : TE := fun σ H Q => t σ H fun vs H1 => r vs H1 Q
/-- f(e, ..), f a built-in function -/
theorem pe_callB (hc : CallR X (.builtin id) r) (hg : Gl X x) (hm : X.mg x = none) (hv : bootBuiltins x = some (.builtin id)) (ha : PA X (e :: es) t) (hn : x ≠ "__name__" := by decide) (hdb : (x == ("__debug__" : Str)) = false := by decide)
    (he : starEach (e :: es) X.env = (false, eval e X.env) :: starEach es X.env := by rfl) (hpl : (backTo pos (starEach es X.env)).any (·.1) = false := by rfl) : PE X (.Call (.Name x p) (e :: es) [] pos) (tCB r t) := by
  intro pins s σ H Q I h
  refine wpAny_Call_Name_kw (ld_blt I hg hm hv ?_ hn hdb)
  exact PyProof.Rows.callWith_builtin1 (thn (ha pos pins s σ H _ I h) fun us s1 ⟨vs, H1, I1, r1, q1⟩ => hc pins s1 σ H1 vs us Q I1 r1 q1) he hpl
/-- T(e, ..), T a built-in type -/
theorem pe_callTy (hc : CallR X (.type T) r) (hg : Gl X x) (hm : X.mg x = none) (hv : bootBuiltins x = some (.type T)) (ha : PA X (e :: es) t) (hn : x ≠ "__name__" := by decide) (hdb : (x == ("__debug__" : Str)) = false := by decide)
    (he : starEach (e :: es) X.env = (false, eval e X.env) :: starEach es X.env := by rfl) (hpl : (backTo pos (starEach es X.env)).any (·.1) = false := by rfl) : PE X (.Call (.Name x p) (e :: es) [] pos) (tCB r t) := by
  intro pins s σ H Q I h
  refine wpAny_Call_Name_kw (ld_blt I hg hm hv ?_ hn hdb)
  exact PyProof.Rows.callWith_type1 (thn (ha pos pins s σ H _ I h) fun us s1 ⟨vs, H1, I1, r1, q1⟩ => hc pins s1 σ H1 vs us Q I1 r1 q1) he hpl
end
end L2

namespace HT
open PySem PyProof.Rows

/-- t < u of tuples of ints -/
def lexLt : List Int → List Int → Bool
  | [], [] => false
  | [], _ :: _ => true
  | _ :: _, [] => false
  | x :: xs, y :: ys => if x = y then lexLt xs ys else decide (x < y)
section
open PySem.SeqAt
open PySem.AutoSeq1 (wpAny_loadPart')
open PySem.MeetsSeq PySem.MeetsSeq2 PySem.MeetsSeq3

end

section
variable {prog : Program} {w : World} {A : Around} {E : Value → Shared → Prop} {s : Shared}

/-! ### t[a:b], not the whole -/
/-- a slice's bound as a place among n (d where it is left out) -/
def sIx (n d : Nat) : Option Int → Nat
  | none => d
  | some v => if v < 0 then (v + (n : Int)).toNat else min v.toNat n
theorem sIx_none (n d : Nat) : sIx n d none = d := rfl
theorem sIx_nat (n d k : Nat) : sIx n d (some (k : Int)) = min k n := by
  show (if (k : Int) < 0 then ((k : Int) + (n : Int)).toNat else min (k : Int).toNat n) = min k n
  rw [if_neg (by omega), Int.toNat_natCast]
end
end HT

namespace L2
open PySem PySem.Spec PyProof.Rows

/-! ### the parts of a slice -/
abbrev TO := St → Hp → (Option Int → Hp → Prop) → Prop
/-- a slice's part (left out, or an int) -/
def PO (X : Cx) (e : Option Expr) (t : TO) : Prop :=
  ∀ (pins : List (Addr × Obj)) (s : Shared) (σ : St) (H : Hp) (Q : Option Int → Hp → Prop), Inv X pins σ H s → t σ H Q →
    wpAny (model X.prog X.w) X.A (evalPart e X.env) (fun u s' => ∃ o H', Inv X pins σ H' s' ∧ IsPart u o ∧ Q o H') X.xe s
def tNoPart : TO := fun _ H Q => Q none H
def tPart (t : TE) : TO := fun σ H Q => t σ H fun x H1 => ∃ i, x = .int i ∧ Q (some i) H1

section
variable {X : Cx} {e : Expr} {te : TE} {lo hi : Option Expr} {tl th : TO} {pos p2 : Pos}

theorem po_none : PO X none tNoPart := by
  intro pins s σ H Q I h
  rw [evalPart_none]
  exact wpAny_pure ⟨none, H, I, .none, h⟩
theorem po_some (h : PE X e te) : PO X (some e) (tPart te) := by
  intro pins s σ H Q I hw
  rw [evalPart_some]
  refine thn (h pins s σ H _ I hw) fun u s1 ⟨x, H1, I1, r1, q1⟩ => ?_
  obtain ⟨i, rfl, q⟩ := q1
  obtain ⟨t, rfl⟩ := r1
  exact ⟨some i, H1, I1, .int i t, q⟩

/-- what a slice of a value is, by values: the slice object stands at sl -/
def SlR (X : Cx) (r : V → Option Int → Option Int → Hp → VK → Prop) : Prop :=
  ∀ (pins : List (Addr × Obj)) (s : Shared) (σ : St) (H : Hp) (x : V) (v vl vu : Value) (lo hi : Option Int) (sl : Addr) (Q : VK), Inv X pins σ H s → RelV x v → s.heap.IsSliceOf sl vl vu .none → IsPart vl lo → IsPart vu hi → r x lo hi H Q →
    ∃ T id, typeLookup (.type T) "__getitem__" = pure (some (.builtin id)) ∧ s.TypeIs v T ∧ wpAny (model X.prog X.w) X.A (getItem v (.ref sl)) (EP X pins σ Q) X.xe s
theorem SlR.or {r r' : V → Option Int → Option Int → Hp → VK → Prop} (h : SlR X r) (h' : SlR X r') : SlR X (fun x lo hi H Q => r x lo hi H Q ∨ r' x lo hi H Q) := by
  intro pins s σ H x v vl vu lo hi sl Q I rx hs pl pu q
  rcases q with q | q
  · exact h pins s σ H x v vl vu lo hi sl Q I rx hs pl pu q
  · exact h' pins s σ H x v vl vu lo hi sl Q I rx hs pl pu q
def tSl (r : V → Option Int → Option Int → Hp → VK → Prop) (te : TE) (tl th : TO) : TE := fun σ H Q => te σ H fun x H1 => tl σ H1 fun l H2 => th σ H2 fun u H3 => r x l u H3 Q
/-- a[lo:hi], any a -/
theorem pe_slice {r : V → Option Int → Option Int → Hp → VK → Prop} (hr : SlR X r) (he : PE X e te) (hl : PO X lo tl) (hu : PO X hi th) : PE X (.Subscript e (.Slice lo hi none p2) pos) (tSl r te tl th) := by
  intro pins s σ H Q I h
  refine Subscript_ (thn (he pins s σ H _ I h) fun v s1 ⟨x, H1, I1, r1, q1⟩ => ?_)
  refine wpAny_Slice (thn (hl pins s1 σ H1 _ I1 q1) fun vl s2 ⟨l, H2, I2, pl, q2⟩ => thn (hu pins s2 σ H2 _ I2 q2) fun vu s3 ⟨u, H3, I3, pu, q3⟩ => ?_)
  rw [evalPart_none]
  refine wpAny_pure ?_
  have I4 : Inv X pins σ H3 { s3 with heap := s3.heap.push { cls := .type "slice", data := .fields #[vl, vu, .none] } } := I3.kept (t' := s3.toks) fun b ob q => Heap.get?_push_of_some _ q
  obtain ⟨T, id, hT, ht, hg⟩ := hr pins { s3 with heap := s3.heap.push { cls := .type "slice", data := .fields #[vl, vu, .none] } } σ H3 x v vl vu l u s3.heap.objs.size Q I4 r1 (Heap.IsSliceOf.new ..) pl pu q3
  show wpAny (model X.prog X.w) X.A (subscriptTail e (.Slice lo hi none p2) v (.ref s3.heap.objs.size)) (EP X pins σ Q) X.xe { s3 with heap := s3.heap.push { cls := .type "slice", data := .fields #[vl, vu, .none] } }
  exact tail_any (ops := [.ref s3.heap.objs.size, v]) ht hT hg (by with_unfolding_all rfl)

/-- the items of xs[lo:hi] -/
def cutV (xs : List V) (lo hi : Option Int) : List V := (xs.drop (HT.sIx xs.length 0 lo)).take (HT.sIx xs.length xs.length hi - HT.sIx xs.length 0 lo)
theorem cutV_length (xs : List V) (lo hi : Option Int) : (cutV xs lo hi).length ≤ xs.length := by
  unfold cutV
  rw [List.length_take, List.length_drop]
  omega
/-- t[lo:hi], not the whole of it (the whole would be t itself) -/
def rSlT (K : PySem.W.Frag) : V → Option Int → Option Int → Hp → VK → Prop := fun x lo hi H Q => ∃ a xs, x = .ref a ∧ SqT K H a xs ∧
  ¬ (HT.sIx xs.length 0 lo = 0 ∧ HT.sIx xs.length xs.length hi = xs.length) ∧ ∀ p, H p = none → Q (.ref p) (upd H p (.tup (cutV xs lo hi)))
/-! ### t < u, t + u -/
def rLtT (K : PySem.W.Frag) : R2 := fun x y H Q => ∃ a b ns ms, x = .ref a ∧ y = .ref b ∧ SqT K H a (ns.map V.int) ∧ SqT K H b (ms.map V.int) ∧ Q (.bl (HT.lexLt ns ms)) H
/-- t + u, t not empty: u empty gives t itself -/
def rCatT (K : PySem.W.Frag) : R2 := fun x y H Q => ∃ a b xs ys, x = .ref a ∧ y = .ref b ∧ SqT K H a xs ∧ SqT K H b ys ∧ xs ≠ [] ∧ xs.length + ys.length ≤ sizeLine ∧
  (ys = [] → Q (.ref a) H) ∧ (ys ≠ [] → ∀ p, H p = none → Q (.ref p) (upd H p (.tup (xs ++ ys))))
end
end L2

namespace L2
open PySem PySem.Spec PyProof.Rows

/-! ### places -/
/-- the place that an index of any sign means -/
def ixN (n : Nat) (i : Int) : Option Nat := if 0 ≤ i then (if i < n then some i.toNat else none) else if -(n : Int) ≤ i then some (i + n).toNat else none
def atI {α : Type} (xs : List α) (i : Int) : Option α := (ixN xs.length i).bind fun j => xs[j]?
theorem ixN_seq {n : Nat} {i : Int} {j : Nat} (h : ixN n i = some j) : seqIndex? i n = some j ∧ j < n ∧ -(n : Int) ≤ i ∧ i < n := by
  unfold ixN at h
  by_cases h0 : 0 ≤ i
  · rw [if_pos h0] at h
    by_cases h1 : i < n
    · rw [if_pos h1] at h
      have e : i.toNat = j := Option.some.inj h
      exact ⟨by rw [seqIndex_of h0 h1, e], by omega, by omega, h1⟩
    · rw [if_neg h1] at h; cases h
  · rw [if_neg h0] at h
    by_cases h1 : -(n : Int) ≤ i
    · rw [if_pos h1] at h
      have e : (i + n).toNat = j := Option.some.inj h
      exact ⟨by rw [seqIndex_neg (by omega) h1, e], by omega, h1, by omega⟩
    · rw [if_neg h1] at h; cases h
theorem atI_get {α : Type} {xs : List α} {i : Int} {v : α} (h : atI xs i = some v) : ∃ j, seqIndex? i xs.length = some j ∧ xs[j]? = some v ∧ j < xs.length ∧ -(xs.length : Int) ≤ i ∧ i < xs.length := by
  unfold atI at h
  cases e : ixN xs.length i with
  | none => rw [e] at h; cases h
  | some j =>
    rw [e] at h
    obtain ⟨h1, h2, h3, h4⟩ := ixN_seq e
    exact ⟨j, h1, h, h2, h3, h4⟩
theorem atI_nat {α : Type} {xs : List α} {j : Nat} {v : α} (h : xs[j]? = some v) : atI xs (j : Int) = some v := by
  have hj : j < xs.length := (List.getElem?_eq_some_iff.mp h).1
  have e : ixN xs.length (j : Int) = some j := by
    unfold ixN
    rw [if_pos (by omega), if_pos (by omega)]; simp
  unfold atI; rw [e]; exact h
theorem atI_last {α : Type} (xs : List α) (v : α) : atI (xs ++ [v]) (-1) = some v := by
  have hl : (xs ++ [v]).length = xs.length + 1 := by simp
  have e : ixN (xs ++ [v]).length (-1) = some xs.length := by
    unfold ixN
    rw [hl, if_neg (by decide), if_pos (by omega)]
    congr 1
    omega
  unfold atI
  rw [e]
  show (xs ++ [v])[xs.length]? = some v
  simp

/-! ### what may be subscripted -/
/-- what stands as an index of a plain subscript -/
def PlainIx (b : Expr) : Prop := ∀ o i, subscripted b false o i = operate [o, i] (getItem o i)
/-- a subscript by values -/
def IxR (X : Cx) (r : R2) : Prop :=
  ∀ (value slice : Expr) (pins : List (Addr × Obj)) (s : Shared) (σ : St) (H : Hp) (x y : V) (v u : Value) (Q : VK), Inv X pins σ H s → RelV x v → RelV y u → r x y H Q →
    subscripted slice false v u = operate [v, u] (getItem v u) → wpAny (model X.prog X.w) X.A (subscriptTail value slice v u) (EP X pins σ Q) X.xe s
/-- a call of a builtin's method by values: the receiver, the arguments -/
def MtR (X : Cx) (id : String) (r : V → List V → Hp → VK → Prop) : Prop :=
  ∀ (pins : List (Addr × Obj)) (s : Shared) (σ : St) (H : Hp) (x : V) (xs : List V) (v : Value) (us : List Value) (Q : VK), Inv X pins σ H s → RelV x v → Vals xs us → r x xs H Q →
    wpAny (model X.prog X.w) X.A (call (.builtin id) (v :: us)) (EP X pins σ Q) X.xe s
section
variable {X : Cx} {a b : Expr} {ta tb : TE} {pos : Pos}
theorem IxR.or {r r' : R2} (h : IxR X r) (h' : IxR X r') : IxR X (fun x y H Q => r x y H Q ∨ r' x y H Q) := by
  intro value slice pins s σ H x y v u Q I rx ry q hs
  rcases q with q | q
  · exact h value slice pins s σ H x y v u Q I rx ry q hs
  · exact h' value slice pins s σ H x y v u Q I rx ry q hs
theorem MtR.or {id : String} {r r' : V → List V → Hp → VK → Prop} (h : MtR X id r) (h' : MtR X id r') : MtR X id (fun x xs H Q => r x xs H Q ∨ r' x xs H Q) := by
  intro pins s σ H x xs v us Q I rx rs q
  rcases q with q | q
  · exact h pins s σ H x xs v us Q I rx rs q
  · exact h' pins s σ H x xs v us Q I rx rs q
/-- a[b] -/
theorem pe_ix {r : R2} (hr : IxR X r) (ha : PE X a ta) (hb : PE X b tb) (hs : PlainIx b) : PE X (.Subscript a b pos) (tOp r ta tb) := by
  intro pins s σ H Q I h
  exact Subscript_ (binT ha hb I h fun v u s2 x y H2 I2 rx ry q => hr a b pins s2 σ H2 x y v u Q I2 rx ry q (hs _ _))

def rIxL (K : PySem.W.Frag) : R2 := fun x y H Q => ∃ p xs i v, x = .ref p ∧ y = .int i ∧ SqL K H p xs ∧ atI xs i = some v ∧ Q v H
def rIxT (K : PySem.W.Frag) : R2 := fun x y H Q => ∃ p xs i v, x = .ref p ∧ y = .int i ∧ SqT K H p xs ∧ atI xs i = some v ∧ Q v H
def rIxS : R2 := fun x y H Q => ∃ z i c, x = .str z ∧ y = .int i ∧ z.length ≤ sizeLine ∧ atI z.cps.toList i = some c ∧ Q (.str ⟨#[c]⟩) H
theorem ix_list : IxR X (rIxL X.K) := by
  intro value slice pins s σ H x y v u Q I rx ry h hs
  obtain ⟨p, xs, i, z, rfl, rfl, hq, he, q⟩ := h
  cases rx
  obtain ⟨t, rfl⟩ := ry
  obtain ⟨its, r, pl, hz⟩ := I.list hq
  obtain ⟨j, h1, h2, h3, h4, h5⟩ := atI_get he
  obtain ⟨w, ew, rw'⟩ := r.get h2
  have hl := r.length
  have hn := line63
  have fin : EP X pins σ Q w s := ⟨z, H, I, rw', q⟩
  by_cases h0 : 0 ≤ i
  · have hj : i.toNat = j := by
      rw [seqIndex_of h0 h5] at h1
      exact Option.some.inj h1
    exact item_listR pl.isList h0 (by omega) (by rw [hj]; simpa using ew) fin hs
  · have hj : (i + (its.toArray.size : Int)).toNat = j := by
      rw [seqIndex_neg (by omega) h4] at h1
      rw [List.size_toArray, ← hl]
      exact Option.some.inj h1
    exact subscriptTail_builtinR (x := w) pl.isList.typeIs slot_list_getitem.lookup
      (wpAny_getItem_list_neg (Q := fun r s' => r = w ∧ EP X pins σ Q r s') pl.isList (by omega) (by rw [List.size_toArray] <;> omega) (by omega) (by rw [hj]; simpa using ew) ⟨rfl, fin⟩) hs
theorem ix_tup : IxR X (rIxT X.K) := by
  intro value slice pins s σ H x y v u Q I rx ry h hs
  obtain ⟨p, xs, i, z, rfl, rfl, hq, he, q⟩ := h
  cases rx
  obtain ⟨t, rfl⟩ := ry
  obtain ⟨its, r, pl, hz⟩ := I.tuple hq
  obtain ⟨j, h1, h2, h3, h4, h5⟩ := atI_get he
  obtain ⟨w, ew, rw'⟩ := r.get h2
  have hl := r.length
  have hn := line63
  have fin : EP X pins σ Q w s := ⟨z, H, I, rw', q⟩
  exact subscriptTail_builtinR (x := w) pl.typeIs slot_tuple_getitem.lookup
    (getItem_tuple (j := j) (Q := fun r s' => r = w ∧ EP X pins σ Q r s') pl (by omega) (by omega) (by rw [List.size_toArray, ← hl]; exact h1) (by simpa using ew) ⟨rfl, fin⟩) hs
/-- list, tuple or str -/
def rIx (K : PySem.W.Frag) : R2 := fun x y H Q => rIxL K x y H Q ∨ rIxT K x y H Q ∨ rIxS x y H Q
/-! ### xs[i] = v, any sign -/
/-- the list's object behind a store -/
theorem mapSeq_set (its : List Value) (n j : Nat) (u : Value) : Obj.mapSeq (·.setIfInBounds j u) { cls := .type "list", data := .seq its.toArray n } = { cls := .type "list", data := .seq (its.set j u).toArray n } := by
  simp [Obj.mapSeq]
theorem Inv.lst {pins : List (Addr × Obj)} {σ : St} {H : Hp} {s : Shared} {p : Addr} {xs : List V} (I : Inv X pins σ H s) (h : H p = some (.lst xs)) :
    ∃ (its : List Value) (n : Nat), Vals xs its ∧ s.heap.get? p = some { cls := .type "list", data := .seq its.toArray n } ∧ xs.length ≤ sizeLine := by
  obtain ⟨z, its, n, r, e⟩ := I.hok p _ h
  exact ⟨its, n, r, e, z⟩
/-- the list at p is written by an update of its object -/
theorem Inv.lstUpd {pins : List (Addr × Obj)} {σ : St} {H : Hp} {s : Shared} {p : Addr} {xs ys : List V} {its its' : List Value} {n n' : Nat} {f : Obj → Obj} (I : Inv X pins σ H s) (h : H p = some (.lst xs))
    (ho : s.heap.get? p = some { cls := .type "list", data := .seq its.toArray n }) (hf : f { cls := .type "list", data := .seq its.toArray n } = { cls := .type "list", data := .seq its'.toArray n' }) (r : Vals ys its') (hz : ys.length ≤ sizeLine) (t : Nat) :
    Inv X pins σ (upd H p (.lst ys)) { s with heap := s.heap.update p f, toks := t } := by
  have e : (s.heap.update p f).get? p = some { cls := .type "list", data := .seq its'.toArray n' } := by
    rw [Heap.get?_update_self f ho (by rw [hf] <;> rfl), hf]
  refine I.write (x := p) (e := p) (by rw [h]; trivial) (.inl rfl) (fun b u hb q => (Heap.get?_update_other _ _ (Ne.symm hb)).trans q) ⟨_, e⟩ ?_
  exact ⟨hz, its', n', r, e⟩
def rSetL : V → V → V → Hp → (Hp → Prop) → Prop := fun o i v H Q => ∃ p xs k j, o = .ref p ∧ i = .int k ∧ H p = some (.lst xs) ∧ ixN xs.length k = some j ∧ Q (upd H p (.lst (xs.set j v)))
theorem set_list : PSet X rSetL := by
  intro pins s σ H o i v ov iv u Q I ro ri rv h
  obtain ⟨p, xs, k, j, rfl, rfl, hp, hj, q⟩ := h
  cases ro
  obtain ⟨t, rfl⟩ := ri
  obtain ⟨its, n, r, ho, hz⟩ := I.lst hp
  obtain ⟨h1, h2, h3, h4⟩ := ixN_seq hj
  have hl := r.length
  have hn := line63
  have I' : Inv X pins σ (upd H p (.lst (xs.set j v))) { s with heap := s.heap.update p (Obj.mapSeq (·.setIfInBounds j u)) } :=
    I.lstUpd hp ho (mapSeq_set its n j u) (r.set rv j) (by rw [List.length_set]; exact hz) s.toks
  by_cases h0 : 0 ≤ k
  · have hk : k.toNat = j := by
      rw [seqIndex_of h0 h4] at h1
      exact Option.some.inj h1
    exact PySem.W.ki_setAt ho h0 (by omega) (by rw [List.size_toArray, ← hl]; exact h4) (by rw [hk]; exact ⟨_, I', q⟩)
  · have hk : (k + (its.toArray.size : Int)).toNat = j := by
      rw [seqIndex_neg (by omega) h3] at h1
      rw [List.size_toArray, ← hl]
      exact Option.some.inj h1
    exact PySem.W.ki_setBack ho (by omega) (by rw [List.size_toArray, ← hl]; exact h3) (by omega) (by rw [hk]; exact ⟨_, I', q⟩)

/-! ### slices -/
theorem slice_bounds (lo hi : Option Int) (n : Nat) : (sliceBounds lo hi none n).1 = ((HT.sIx n 0 lo : Nat) : Int) ∧ (sliceBounds lo hi none n).2.1 = ((HT.sIx n n hi : Nat) : Int) ∧ (sliceBounds lo hi none n).2.2 = 1 := by
  refine ⟨?_, ?_, rfl⟩
  · cases lo with
    | none => simp [sliceBounds, HT.sIx]
    | some i =>
      simp only [sliceBounds, HT.sIx, Option.getD_none, show (1 : Int) > 0 by decide, if_true]
      by_cases h : i < 0
      · simp only [h, if_true] <;> omega
      · simp only [h, if_false] <;> omega
  · cases hi with
    | none => simp [sliceBounds, HT.sIx]
    | some i =>
      simp only [sliceBounds, HT.sIx, Option.getD_none, show (1 : Int) > 0 by decide, if_true]
      by_cases h : i < 0
      · simp only [h, if_true] <;> omega
      · simp only [h, if_false] <;> omega
theorem slicePick_cut (its : List Value) (lo hi : Option Int) : slicePick its.toArray lo hi none = ((its.drop (HT.sIx its.length 0 lo)).take (HT.sIx its.length its.length hi - HT.sIx its.length 0 lo)).toArray := by
  obtain ⟨h1, h2, h3⟩ := slice_bounds lo hi its.toArray.size
  unfold slicePick
  rw [h1, h2, h3]
  simp only [sliceRange_one, pick_run, List.size_toArray] <;> rfl
/-- xs[lo:hi] of a list: a new list -/
def rSlL (K : PySem.W.Frag) : V → Option Int → Option Int → Hp → VK → Prop := fun x lo hi H Q => ∃ a xs, x = .ref a ∧ SqL K H a xs ∧ ∀ p, H p = none → Q (.ref p) (upd H p (.lst (cutV xs lo hi)))
theorem sl_list : SlR X (rSlL X.K) := by
  intro pins s σ H x v vl vu lo hi sl Q I rx hs pl pu h
  obtain ⟨a, xs, rfl, hx, q⟩ := h
  cases rx
  obtain ⟨its, r, ht, hz⟩ := I.list hx
  have hlen := r.length
  refine ⟨"list", _, slot_list_getitem.lookup, ht.isList.typeIs, ?_⟩
  refine wpAny_getItem_list_slice ht.isList hs pl pu .none (by simp) ?_ (by rw [List.size_toArray] <;> omega)
  rw [slicePick_cut, ← hlen]
  refine ⟨.ref s.heap.objs.size, _, I.laid (t' := s.toks) (o := .lst (cutV xs lo hi)) (fun b ob q => Heap.get?_push_of_some _ q) (Nat.le_refl _) ?_, rfl, q _ (I.hok.fresh (Nat.le_refl _))⟩
  exact ⟨Nat.le_trans (cutV_length xs lo hi) hz, _, 0, (r.drop (HT.sIx xs.length 0 lo)).take (HT.sIx xs.length xs.length hi - HT.sIx xs.length 0 lo), Heap.get?_push_size _ rfl⟩

/-! ### in, not in: flat items -/
def flatV : V → Bool
  | .non => true
  | .bl _ => true
  | .int _ => true
  | .str _ => true
  | _ => false
/-- == of flat values -/
def eqV : V → V → Bool
  | .non, .non => true
  | .bl a, .bl b => a == b
  | .bl a, .int b => (if a then 1 else 0) == b
  | .int a, .bl b => a == (if b then 1 else 0)
  | .int a, .int b => a == b
  | .str a, .str b => a == b
  | _, _ => false
theorem eqAt_V {A : Around} {s : Shared} {y x : V} {u v : Value} (ry : RelV y u) (rx : RelV x v) (fy : flatV y = true) (fx : flatV x = true) : SeqAt.EqAt A s u v (eqV y x) := by
  cases y with
  | non =>
    cases ry
    cases x with
    | non => cases rx; exact SeqAt.EqAt.same _
    | bl b => cases rx; exact SeqAt.EqAt.none_bool b
    | int b => obtain ⟨t, rfl⟩ := rx; exact SeqAt.EqAt.none_int b t
    | str b => obtain ⟨t, rfl⟩ := rx; exact SeqAt.EqAt.none_str b t
    | _ => exact absurd (show false = true from fx) Bool.false_ne_true
  | bl a =>
    cases ry
    cases x with
    | non => cases rx; exact SeqAt.EqAt.bool_none a
    | bl b => cases rx; exact SeqAt.EqAt.bool_bool a b
    | int b => obtain ⟨t, rfl⟩ := rx; exact SeqAt.EqAt.bool_int a b t
    | str b => obtain ⟨t, rfl⟩ := rx; exact SeqAt.EqAt.bool_str a b t
    | _ => exact absurd (show false = true from fx) Bool.false_ne_true
  | int a =>
    obtain ⟨t', rfl⟩ := ry
    cases x with
    | non => cases rx; exact SeqAt.EqAt.int_none a t'
    | bl b => cases rx; exact SeqAt.EqAt.int_bool a t' b
    | int b => obtain ⟨t, rfl⟩ := rx; exact SeqAt.EqAt.int_int a t' b t
    | str b => obtain ⟨t, rfl⟩ := rx; exact SeqAt.EqAt.int_str a t' b t
    | _ => exact absurd (show false = true from fx) Bool.false_ne_true
  | str a =>
    obtain ⟨t', rfl⟩ := ry
    cases x with
    | non => cases rx; exact SeqAt.EqAt.str_none a t'
    | bl b => cases rx; exact SeqAt.EqAt.str_bool a t' b
    | int b => obtain ⟨t, rfl⟩ := rx; exact SeqAt.EqAt.str_int a t' b t
    | str b => obtain ⟨t, rfl⟩ := rx; exact SeqAt.EqAt.str_str a t' b t
    | _ => exact absurd (show false = true from fx) Bool.false_ne_true
  | _ => exact absurd (show false = true from fy) Bool.false_ne_true
/-- the items' answers, read off the values (a value's own answer does not lean on its token) -/
def eqU (x : V) (u : Value) : Bool := match u with
  | .none => eqV .non x
  | .bool b => eqV (.bl b) x
  | .int i _ => eqV (.int i) x
  | .str z _ => eqV (.str z) x
  | _ => false
theorem eqU_of {x y : V} {u : Value} (r : RelV y u) (f : flatV y = true) : eqU x u = eqV y x := by
  cases y with
  | non => cases r; rfl
  | bl b => cases r; rfl
  | int i => obtain ⟨t, rfl⟩ := r; rfl
  | str z => obtain ⟨t, rfl⟩ := r; rfl
  | _ => exact absurd (show false = true from f) Bool.false_ne_true
theorem any_eqU {x : V} : ∀ {xs : List V} {us : List Value}, Vals xs us → xs.all flatV = true → us.any (eqU x) = xs.any fun y => eqV y x
  | _, _, .nil, _ => rfl
  | y :: xs, u :: us, .cons r t, f => by
    rw [List.all_cons, Bool.and_eq_true] at f
    rw [List.any_cons, List.any_cons, eqU_of r f.1, any_eqU t f.2]
theorem mem_eqAt {A : Around} {s : Shared} {x : V} {v : Value} (rx : RelV x v) (fx : flatV x = true) : ∀ {xs : List V} {us : List Value}, Vals xs us → xs.all flatV = true → ∀ u ∈ us, SeqAt.EqAt A s u v (eqU x u)
  | _, _, .nil, _ => fun u hu => by cases hu
  | y :: xs, u :: us, .cons r t, f => fun u' hu => by
    rw [List.all_cons, Bool.and_eq_true] at f
    rcases List.mem_cons.mp hu with rfl | hu
    · rw [eqU_of r f.1]; exact eqAt_V r rx f.1 fx
    · exact mem_eqAt rx fx t f.2 u' hu
def inV (x : V) (xs : List V) : Bool := xs.any fun y => eqV y x
/-- x in a list or tuple of flat items -/
def rIn (K : PySem.W.Frag) (neg : Bool) : R2 := fun x y H Q => ∃ p xs, y = .ref p ∧ (SqL K H p xs ∨ SqT K H p xs) ∧ flatV x = true ∧ xs.all flatV = true ∧ Q (.bl (if neg then !inV x xs else inV x xs)) H
theorem op_in_seq : OpR X (compareOp .In) (rIn X.K false) := by
  intro pins s σ H x y v u Q I rx ry h
  obtain ⟨p, xs, rfl, hq, fx, fs, q⟩ := h
  cases ry
  rcases hq with hq | hq
  · obtain ⟨its, r, pl, hz⟩ := I.list hq
    refine SeqAt.in_listAt (eqU x) pl.isList (fun w hw => mem_eqAt rx fx r fs w (by simpa using hw)) ⟨.bl _, H, I, rfl, ?_⟩
    rw [show its.toArray.any (eqU x) = its.any (eqU x) by simp, any_eqU r fs]
    exact q
  · obtain ⟨its, r, pl, hz⟩ := I.tuple hq
    refine SeqAt.in_tupleAt (eqU x) pl (fun w hw => mem_eqAt rx fx r fs w (by simpa using hw)) ⟨.bl _, H, I, rfl, ?_⟩
    rw [show its.toArray.any (eqU x) = its.any (eqU x) by simp, any_eqU r fs]
    exact q
theorem op_notIn_seq : OpR X (compareOp .NotIn) (rIn X.K true) := by
  intro pins s σ H x y v u Q I rx ry h
  obtain ⟨p, xs, rfl, hq, fx, fs, q⟩ := h
  cases ry
  rcases hq with hq | hq
  · obtain ⟨its, r, pl, hz⟩ := I.list hq
    refine SeqAt.notIn_listAt (eqU x) pl.isList (fun w hw => mem_eqAt rx fx r fs w (by simpa using hw)) ⟨.bl _, H, I, rfl, ?_⟩
    rw [show its.toArray.any (eqU x) = its.any (eqU x) by simp, any_eqU r fs]
    exact q
  · obtain ⟨its, r, pl, hz⟩ := I.tuple hq
    refine SeqAt.notIn_tupleAt (eqU x) pl (fun w hw => mem_eqAt rx fx r fs w (by simpa using hw)) ⟨.bl _, H, I, rfl, ?_⟩
    rw [show its.toArray.any (eqU x) = its.any (eqU x) by simp, any_eqU r fs]
    exact q
/-! ### len, list(x), tuple(x) of any list or tuple that is read -/
theorem call_len_seq : CallR X (.builtin "len") (fun xs H Q => ∃ p ys, xs = [.ref p] ∧ (SqL X.K H p ys ∨ SqT X.K H p ys) ∧ Q (.int ys.length) H) := by
  intro pins s σ H xs us Q I r h
  obtain ⟨p, ys, rfl, hq, q⟩ := h
  obtain ⟨u, rfl, rx⟩ := vals1 r
  cases rx
  have hn := line63
  rcases hq with hq | hq
  · obtain ⟨its, r', pl, hz⟩ := I.list hq
    have hlen := r'.length
    exact Calls.call_len_list pl.isList (by simp only [List.size_toArray] <;> omega) ⟨.int ys.length, H, I.tok _, ⟨s.toks + 1, by rw [List.size_toArray, hlen]⟩, q⟩
  · obtain ⟨its, r', pl, hz⟩ := I.tuple hq
    have hlen := r'.length
    exact len_tuple pl (by simp only [List.size_toArray] <;> omega) ⟨.int ys.length, H, I.tok _, ⟨s.toks + 1, by rw [List.size_toArray, hlen]⟩, q⟩
theorem CallR.or {f : Value} {r r' : List V → Hp → VK → Prop} (h : CallR X f r) (h' : CallR X f r') : CallR X f (fun xs H Q => r xs H Q ∨ r' xs H Q) := by
  intro pins s σ H xs us Q I rs q
  rcases q with q | q
  · exact h pins s σ H xs us Q I rs q
  · exact h' pins s σ H xs us Q I rs q
theorem call_list_of : CallR X (.type "list") (fun xs H Q => ∃ p ys, xs = [.ref p] ∧ (SqL X.K H p ys ∨ SqT X.K H p ys) ∧ ∀ l, H l = none → Q (.ref l) (upd H l (.lst ys))) := by
  intro pins s σ H xs us Q I r h
  obtain ⟨p, ys, rfl, hq, q⟩ := h
  obtain ⟨u, rfl, rx⟩ := vals1 r
  cases rx
  have fin : ∀ (its : List Value), Vals ys its → ys.length ≤ sizeLine → ∀ (h' : Heap) (c' : Nat), (∀ b o', s.heap.get? b = some o' → h'.get? b = some o') →
      h'.get? s.heap.objs.size = some { cls := .type "list", dict := none, data := .seq its.toArray c', slots := #[] } → EP X pins σ Q (.ref s.heap.objs.size) { s with heap := h' } := fun its r' hz h' c' kp e =>
    ⟨.ref s.heap.objs.size, _, I.laid (t' := s.toks) kp (Nat.le_refl _) (show ObjOk X.prog X.w _ h' _ (.lst ys) from ⟨hz, its, c', r', e⟩), rfl, q _ (I.hok.fresh (Nat.le_refl _))⟩
  rcases hq with hq | hq
  · obtain ⟨its, r', pl, hz⟩ := I.list hq
    have hlen := r'.length
    obtain ⟨o, ho, hc, n, hd⟩ := pl.isList
    exact call_list_seq p (.inl rfl) ho hc hd (fun h' c' kp e => fin its r' hz h' c' kp e) (by simp only [List.size_toArray] <;> omega)
  · obtain ⟨its, r', pl, hz⟩ := I.tuple hq
    have hlen := r'.length
    obtain ⟨o, ho, hc, n, hd⟩ := pl
    exact call_list_seq p (.inr rfl) ho hc hd (fun h' c' kp e => fin its r' hz h' c' kp e) (by simp only [List.size_toArray] <;> omega)
/-! ### the call of a builtin's method: o.m(..) -/
/-- the value is of that builtin type -/
def tyV (K : PySem.W.Frag) (T : String) (x : V) (H : Hp) : Prop := match x with
  | .str _ => T = "str"
  | .int _ => T = "int"
  | .ref p => (T = "list" ∧ ∃ xs, SqL K H p xs) ∨ (T = "tuple" ∧ ∃ o, K.lookup p = some o ∧ o.cls = .type "tuple" ∧ o.dict = none) ∨
      (T = "dict" ∧ ((∃ kvs, H p = some (.dK kvs)) ∨ ∃ kvs, H p = some (.dT kvs))) ∨ (T = "set" ∧ ∃ S n, H p = some (.set S n))
  | _ => False
theorem tyV_is {pins : List (Addr × Obj)} {σ : St} {H : Hp} {s : Shared} {T : String} {x : V} {v : Value} (I : Inv X pins σ H s) (r : RelV x v) (ty : tyV X.K T x H) :
    s.TypeIs v T ∧ ∀ a, v = .ref a → ∃ ob, s.heap.get? a = some ob ∧ ob.dict = none := by
  cases x with
  | str z =>
    obtain ⟨t, rfl⟩ := r
    cases (show T = "str" from ty)
    exact ⟨typeIs_str s z t, fun _ e => nomatch e⟩
  | int i =>
    obtain ⟨t, rfl⟩ := r
    cases (show T = "int" from ty)
    exact ⟨typeIs_int s i t, fun _ e => nomatch e⟩
  | ref p =>
    cases r
    rcases ty with ⟨rfl, xs, hq⟩ | ⟨rfl, o, hk, hc, hd⟩ | ⟨rfl, hk⟩ | ⟨rfl, S, n, hk⟩
    · obtain ⟨its, _, pl, _⟩ := I.list hq
      refine ⟨pl.isList.typeIs, fun a e => ?_⟩
      cases e
      obtain ⟨o, n, e, c, hd, _⟩ := pl
      exact ⟨o, e, hd⟩
    · refine ⟨⟨o, I.kIn p o hk, hc⟩, fun a e => ?_⟩
      cases e
      exact ⟨o, I.kIn _ o hk, hd⟩
    · have z : ∃ o, s.heap.get? p = some o ∧ o.ExactDict := by
        rcases hk with ⟨kvs, hk⟩ | ⟨kvs, hk⟩
        · obtain ⟨_, _, _, _, o, _, _, e, ex, _⟩ := I.hok p _ hk
          exact ⟨o, e, ex⟩
        · obtain ⟨_, _, _, _, o, _, _, e, ex, _⟩ := I.hok p _ hk
          exact ⟨o, e, ex⟩
      obtain ⟨o, e, ex⟩ := z
      refine ⟨⟨o, e, ex.1⟩, fun a e2 => ?_⟩
      cases e2
      exact ⟨o, e, ex.2.1⟩
    · obtain ⟨o, _, _, _, e, ex, _⟩ := I.hok p _ hk
      refine ⟨⟨o, e, ex.1⟩, fun a e2 => ?_⟩
      cases e2
      exact ⟨o, e, ex.2.1⟩
  | _ => exact False.elim ty
def tBM0 (K : PySem.W.Frag) (T : String) (r : V → List V → Hp → VK → Prop) (to : TE) : TE := fun σ H Q => to σ H fun x H1 => tyV K T x H1 ∧ r x [] H1 Q
def tBM (K : PySem.W.Frag) (T : String) (r : V → List V → Hp → VK → Prop) (to : TE) (t : TA) : TE := fun σ H Q => to σ H fun x H1 => tyV K T x H1 ∧ t σ H1 fun xs H2 => r x xs H2 Q
variable {o e : Expr} {es : List Expr} {to : TE} {t : TA} {name : Str} {apos cpos : Pos} {T id : String} {r : V → List V → Hp → VK → Prop}
theorem pe_bm0 (pa : PlainAttrs T) (slot : Slot T name id) (hty : typeOf (.builtin id) = pure (.type "method_descriptor")) (hm : MtR X id r) (ho : PE X o to)
    (hbase : attributeBase o name X.env (eval o X.env) = eval o X.env := by rfl) (hline : (apos.endLine == cpos.line) = true := by rfl) : PE X (.Call (.Attribute o name apos) [] [] cpos) (tBM0 X.K T r to) := by
  intro pins s σ H Q I h
  refine wpAny_Call_method0_late hbase hline (thn (ho pins s σ H _ I h) fun v s1 ⟨x, H1, I1, r1, ty, q1⟩ => ?_)
  obtain ⟨h1, h2⟩ := tyV_is I1 r1 ty
  exact ⟨T, id, pa, slot, hty, h1, h2, Calls.callWith_builtin rfl (PySem.evalArgs_none (hm pins s1 σ H1 x [] v [] Q I1 r1 .nil q1))⟩
theorem pe_bm (pa : PlainAttrs T) (slot : Slot T name id) (hty : typeOf (.builtin id) = pure (.type "method_descriptor")) (hm : MtR X id r) (ho : PE X o to) (ha : PA X (e :: es) t)
    (hbase : attributeBase o name X.env (eval o X.env) = eval o X.env := by rfl)
    (hfew : ((backTo cpos (starEach (e :: es) X.env)).all (fun x => !x.1) && (backToKw cpos (keywordEach [] X.env)).all (fun x => x.1.isSome)
      && decide ((e :: es).length + ([] : List Keyword).length + (if ([] : List Keyword).isEmpty then 0 else 1) < 30)) = true := by rfl)
    (hline : (apos.endLine == cpos.line) = true := by rfl) (hs : starEach (e :: es) X.env = (false, eval e X.env) :: starEach es X.env := by rfl) (hplain : (backTo cpos (starEach es X.env)).any (·.1) = false := by rfl) :
    PE X (.Call (.Attribute o name apos) (e :: es) [] cpos) (tBM X.K T r to t) := by
  intro pins s σ H Q I h
  refine wpAny_Call_method_late hbase hfew hline rfl (thn (ho pins s σ H _ I h) fun v s1 ⟨x, H1, I1, r1, ty, q1⟩ => ?_)
  obtain ⟨h1, h2⟩ := tyV_is I1 r1 ty
  refine ⟨T, id, pa, slot, hty, h1, h2, ?_⟩
  have hA := ha cpos pins s1 σ H1 _ I1 q1
  rw [hs] at hA ⊢
  refine Calls.callWith_builtin (by show (false || (backTo cpos (starEach es X.env)).any (·.1)) = false; rw [hplain] <;> rfl) (Calls.evalArgs_plain ?_)
  exact thn hA fun us s2 ⟨vs, H2, I2, r2, q2⟩ => hm pins s2 σ H2 x vs v us Q I2 r1 r2 q2
/- xs.append(e), list.index on a module's tuple .. are MtR facts of 06m -/
end
end L2

namespace L2
open PySem PySem.Spec PyProof.Rows

def MtM (X : Cx) (id : String) (r : V → List V → Hp → VK → Prop) : Prop :=
  ∀ (pins : List (Addr × Obj)) (s : Shared) (σ : St) (H : Hp) (x : V) (xs : List V) (v : Value) (us : List Value) (Q : VK), Inv X pins σ H s → RelV x v → Vals xs us → r x xs H Q →
    wpAny (model X.prog X.w) X.A (call (.builtin id) (v :: us)) (EP X pins σ Q) X.xe s

/-! ### lists of values -/
theorem Vals.one : ∀ {x : V} {us : List Value}, Vals [x] us → ∃ u, us = [u] ∧ RelV x u
  | _, _, .cons r .nil => ⟨_, rfl, r⟩
theorem Vals.two : ∀ {x y : V} {us : List Value}, Vals [x, y] us → ∃ u v, us = [u, v] ∧ RelV x u ∧ RelV y v
  | _, _, _, .cons r (.cons q .nil) => ⟨_, _, rfl, r, q⟩
theorem Vals.zero : ∀ {us : List Value}, Vals [] us → us = []
  | _, .nil => rfl
theorem Vals.dropLast {xs : List V} {us : List Value} (h : Vals xs us) : Vals xs.dropLast us.dropLast := by
  induction h with
  | nil => exact .nil
  | cons r t ih =>
    cases t with
    | nil => exact .nil
    | cons q t' => exact .cons r ih
theorem Vals.eraseIdx : ∀ {xs : List V} {us : List Value} (i : Nat), Vals xs us → Vals (xs.eraseIdx i) (us.eraseIdx i)
  | _, _, _, .nil => .nil
  | _, _, 0, .cons _ t => t
  | _, _, i + 1, .cons r t => .cons r (Vals.eraseIdx i t)
theorem Vals.reverse {xs : List V} {us : List Value} (h : Vals xs us) : Vals xs.reverse us.reverse := by
  induction h with
  | nil => exact .nil
  | cons r t ih => rw [List.reverse_cons, List.reverse_cons]; exact Vals.append ih (.cons r .nil)
theorem Vals.rep {xs : List V} {us : List Value} (h : Vals xs us) : ∀ k : Nat, Vals (List.replicate k xs).flatten (List.replicate k us).flatten
  | 0 => .nil
  | k + 1 => by
    rw [List.replicate_succ, List.replicate_succ, List.flatten_cons, List.flatten_cons]
    exact Vals.append h (Vals.rep h k)
section
variable {X : Cx} {pins : List (Addr × Obj)} {σ : St} {H : Hp} {s : Shared} {l b : Addr} {xs ys zs : List V}

/-! ### the two steps: a tracked list is rewritten, a new list is laid -/
theorem Inv.lset {its its' : List Value} {n : Nat} {f : Array Value → Array Value} {t' : Nat} (I : Inv X pins σ H s) (hH : H l = some (.lst xs))
    (e : s.heap.get? l = some { cls := .type "list", data := .seq its.toArray n }) (hf : f its.toArray = its'.toArray) (hv : Vals ys its') (hz : ys.length ≤ sizeLine) :
    Inv X pins σ (upd H l (.lst ys)) { s with heap := s.heap.update l (Obj.mapSeq f), toks := t' } := by
  have q := PySem.IsL.update e f
  rw [hf] at q
  refine I.write (x := l) (e := l) (by rw [hH]; exact trivial) (.inl rfl) (fun b' u hb hu => (Heap.get?_update_other s.heap (Obj.mapSeq f) (Ne.symm hb)).trans hu) ⟨_, q⟩ ?_
  exact ⟨hz, its', _, hv, q⟩
theorem Inv.lnew {its : List Value} {t' : Nat} (I : Inv X pins σ H s) (hv : Vals ys its) (hz : ys.length ≤ sizeLine) :
    Inv X pins σ (upd H s.heap.objs.size (.lst ys)) { s with heap := s.heap.push { cls := .type "list", data := .seq its.toArray }, toks := t' } :=
  I.laid (fun _ _ q => Heap.get?_push_of_some _ q) (Nat.le_refl _) ⟨hz, its, 0, hv, Heap.get?_push_size _ rfl⟩
theorem Inv.fresh (I : Inv X pins σ H s) : H s.heap.objs.size = none := I.hok.fresh (Nat.le_refl _)
theorem Inv.lstM (I : Inv X pins σ H s) (hH : H l = some (.lst xs)) : xs.length ≤ sizeLine ∧ ∃ (its : List Value) (n : Nat), Vals xs its ∧ xs.length = its.length ∧ s.heap.get? l = some { cls := .type "list", data := .seq its.toArray n } := by
  obtain ⟨z, its, n, r, e⟩ := I.hok l _ hH
  exact ⟨z, its, n, r, r.length, e⟩

end

section
variable {X : Cx}

/-! ### methods -/
def rAppend : V → List V → Hp → VK → Prop := fun x vs H Q => ∃ l xs y, x = .ref l ∧ vs = [y] ∧ H l = some (.lst xs) ∧ xs.length < sizeLine ∧ Q .non (upd H l (.lst (xs ++ [y])))
theorem mt_append : MtM X "list.append" rAppend := by
  intro pins s σ H x vs v us Q I rx rv h
  obtain ⟨l, xs, y, rfl, rfl, hH, hz, q⟩ := h
  cases rx
  obtain ⟨u, rfl, ru⟩ := rv.one
  obtain ⟨z, its, n, r, hl, e⟩ := I.lstM hH
  refine call_meets F.slot_list_append ⟨_, e, rfl⟩ F.entry_list_append (F.args_list_append_2 _ _) (PySem.list_append l its.toArray n u (by rw [List.size_toArray]; omega)) ⟨e, ?_⟩
  refine ⟨.non, _, I.lset (its' := its ++ [u]) hH e (by simp) (r.append (.cons ru .nil)) ?_, rfl, q⟩
  rw [List.length_append, List.length_singleton]
  omega

def rExtend : V → List V → Hp → VK → Prop := fun x vs H Q => ∃ l b xs zs, x = .ref l ∧ vs = [.ref b] ∧ H l = some (.lst xs) ∧ H b = some (.lst zs) ∧ xs.length + zs.length ≤ sizeLine ∧ Q .non (upd H l (.lst (xs ++ zs)))
def rPop : V → List V → Hp → VK → Prop := fun x vs H Q => ∃ l xs y, x = .ref l ∧ vs = [] ∧ H l = some (.lst xs) ∧ xs[xs.length - 1]? = some y ∧ Q y (upd H l (.lst xs.dropLast))
def rPopAt : V → List V → Hp → VK → Prop := fun x vs H Q => ∃ l xs i k y, x = .ref l ∧ vs = [.int i] ∧ H l = some (.lst xs) ∧ -(2 ^ 63) ≤ i ∧ i < 2 ^ 63 ∧ seqIndex? i xs.length = some k ∧ xs[k]? = some y ∧ Q y (upd H l (.lst (xs.eraseIdx k)))
def rReverse : V → List V → Hp → VK → Prop := fun x vs H Q => ∃ l xs, x = .ref l ∧ vs = [] ∧ H l = some (.lst xs) ∧ Q .non (upd H l (.lst xs.reverse))
def rClear : V → List V → Hp → VK → Prop := fun x vs H Q => ∃ l xs, x = .ref l ∧ vs = [] ∧ H l = some (.lst xs) ∧ Q .non (upd H l (.lst []))
theorem mt_clear : MtM X "list.clear" rClear := by
  intro pins s σ H x vs v us Q I rx rv h
  obtain ⟨l, xs, rfl, rfl, hH, q⟩ := h
  cases rx
  have hus := rv.zero
  subst hus
  obtain ⟨z, its, n, r, hl, e⟩ := I.lstM hH
  refine call_meets F.slot_list_clear ⟨_, e, rfl⟩ F.entry_list_clear (F.args_list_clear_1 _) (AutoSeq1.list_clear_list_0 l its.toArray n (by rw [List.size_toArray]; omega)) ⟨e, ?_⟩
  exact ⟨.non, _, I.lset (its' := []) (ys := []) hH e rfl .nil (Nat.zero_le _), rfl, q⟩

/-! ### list + list, list += list, list * int -/
def rCat : R2 := fun x y H Q => ∃ l b xs zs, x = .ref l ∧ y = .ref b ∧ H l = some (.lst xs) ∧ H b = some (.lst zs) ∧ xs.length + zs.length ≤ sizeLine ∧ ∀ p, H p = none → Q (.ref p) (upd H p (.lst (xs ++ zs)))
theorem op_cat : OpR X (binaryOp .Add) rCat := by
  intro pins s σ H x y v u Q I rx ry h
  obtain ⟨l, b, xs, zs, rfl, rfl, hH, hB, hz, q⟩ := h
  cases rx
  cases ry
  obtain ⟨z, its, n, r, hl, e⟩ := I.lstM hH
  obtain ⟨z2, its2, n2, r2, hl2, e2⟩ := I.lstM hB
  refine PySem.P.add_list e e2 ?_ (by rw [List.size_toArray, List.size_toArray]; omega)
  have ea : its.toArray ++ its2.toArray = (its ++ its2).toArray := by simp
  rw [ea]
  exact ⟨.ref _, _, I.lnew (t' := s.toks) (r.append r2) (by rw [List.length_append]; omega), rfl, q _ I.fresh⟩
/-- a list times an int (a negative one is nothing) -/
def rRep : R2 := fun x y H Q => ∃ l k xs, x = .ref l ∧ y = .int k ∧ H l = some (.lst xs) ∧ -(2 ^ 63) ≤ k ∧ k < 2 ^ 63 ∧ xs.length * k.toNat ≤ sizeLine ∧
  ∀ p, H p = none → Q (.ref p) (upd H p (.lst (List.replicate k.toNat xs).flatten))
/-! ### del xs[i] -/
end

/-! ### xs[a:b] = ys -/
section
variable {prog : Program} {w : World} {A : Around} {E : Value → Shared → Prop} {s : Shared}
end

section
variable {X : Cx}
end
end L2

namespace L2
open PySem PySem.Spec PyProof.Rows

/-! ### lists of pairs as tables -/
section
variable {κ : Type} [DecidableEq κ]
def valV (kvs : List (κ × V)) (k : κ) : Option V := (kvs.find? fun kv => decide (kv.1 = k)).map (·.2)
/-- in its place, or at the end -/
def putK (kvs : List (κ × V)) (k : κ) (v : V) : List (κ × V) :=
  if (kvs.any fun kv => decide (kv.1 = k)) = true then kvs.map (fun kv => if kv.1 = k then (kv.1, v) else kv) else kvs ++ [(k, v)]
def dropK (kvs : List (κ × V)) (k : κ) : List (κ × V) := kvs.filter fun kv => decide (kv.1 ≠ k)

theorem valV_pos {p : κ × V} {r : List (κ × V)} {k : κ} (e : p.1 = k) : valV (p :: r) k = some p.2 := by simp [valV, List.find?_cons, e]
theorem valV_neg {p : κ × V} {r : List (κ × V)} {k : κ} (e : ¬ p.1 = k) : valV (p :: r) k = valV r k := by simp [valV, List.find?_cons, e]
theorem valV_any (k : κ) : ∀ kvs : List (κ × V), (kvs.any fun kv => decide (kv.1 = k)) = (valV kvs k).isSome
  | [] => rfl
  | p :: r => by
    rw [List.any_cons]
    by_cases e : p.1 = k
    · simp only [valV_pos e, decide_eq_true e, Bool.true_or, Option.isSome_some]
    · rw [valV_neg e, decide_eq_false e, Bool.false_or]; exact valV_any k r
theorem valV_map (k j : κ) (y : V) : ∀ kvs : List (κ × V), valV (kvs.map fun kv => if kv.1 = k then (kv.1, y) else kv) j = (valV kvs j).map fun x => if j = k then y else x
  | [] => rfl
  | p :: r => by
    have ih := valV_map k j y r
    rw [List.map_cons]
    by_cases h : p.1 = k
    · rw [if_pos h]
      by_cases e : p.1 = j
      · rw [valV_pos (p := (p.1, y)) e, valV_pos e, Option.map_some, if_pos (e.symm.trans h)]
      · rw [valV_neg (p := (p.1, y)) e, valV_neg e, ih]
    · rw [if_neg h]
      by_cases e : p.1 = j
      · rw [valV_pos (p := p) e, valV_pos e, Option.map_some, if_neg (fun z => h (e.trans z))]
      · rw [valV_neg (p := p) e, valV_neg e, ih]
theorem valV_snoc (k j : κ) (y : V) : ∀ kvs : List (κ × V), valV kvs k = none → valV (kvs ++ [(k, y)]) j = if j = k then some y else valV kvs j
  | [], _ => by
    by_cases e : k = j
    · rw [if_pos e.symm]; exact valV_pos (p := (k, y)) e
    · rw [if_neg (fun z => e z.symm)]; exact valV_neg (p := (k, y)) e
  | p :: r, hn => by
    rw [List.cons_append]
    have hk : ¬ p.1 = k := fun z => by rw [valV_pos z] at hn; cases hn
    rw [valV_neg hk] at hn
    have ih := valV_snoc k j y r hn
    by_cases e : p.1 = j
    · rw [valV_pos e, valV_pos e, if_neg (fun z => hk (e.trans z))]
    · rw [valV_neg e, valV_neg e, ih]
theorem valV_put (kvs : List (κ × V)) (k j : κ) (y : V) : valV (putK kvs k y) j = if j = k then some y else valV kvs j := by
  unfold putK
  by_cases a : (kvs.any fun kv => decide (kv.1 = k)) = true
  · rw [if_pos a, valV_map]
    rw [valV_any] at a
    by_cases e : j = k
    · obtain ⟨x, hx⟩ := Option.isSome_iff_exists.mp a
      rw [if_pos e, e, hx, Option.map_some, if_pos rfl]
    · rw [if_neg e]
      cases valV kvs j with
      | none => rfl
      | some x => rw [Option.map_some, if_neg e]
  · rw [if_neg a]
    refine valV_snoc k j y kvs ?_
    rw [valV_any] at a
    cases q : valV kvs k with
    | none => rfl
    | some x => rw [q] at a; exact (a rfl).elim
theorem length_putK (kvs : List (κ × V)) (k : κ) (v : V) : (putK kvs k v).length ≤ kvs.length + 1 := by
  unfold putK
  split
  · rw [List.length_map]; omega
  · rw [List.length_append, List.length_cons, List.length_nil]; omega
theorem RelO.isSome_eq {o : Option V} {u : Option Value} (r : RelO o u) : o.isSome = u.isSome := by
  cases o with
  | none => cases u with
    | none => rfl
    | some _ => exact (show False from r).elim
  | some _ => cases u with
    | none => exact (show False from r).elim
    | some _ => rfl
theorem RelO.getD {o : Option V} {u : Option Value} {d : V} {d' : Value} (r : RelO o u) (rd : RelV d d') : RelV (o.getD d) (u.getD d') := by
  cases o with
  | none => cases u with
    | none => exact rd
    | some _ => exact (show False from r).elim
  | some _ => cases u with
    | none => exact (show False from r).elim
    | some _ => exact r

/-- raw tables of the same keys -/
theorem KV.val {kvs : List (κ × V)} {vs : List (κ × Value)} (r : KV kvs vs) (k : κ) : RelO (valV kvs k) (valueAt vs k) := by
  unfold KV at r
  induction r with
  | nil => exact True.intro
  | @cons p q ps qs h t ih =>
    obtain ⟨h1, h2⟩ := h
    by_cases e : p.1 = k
    · have e' : q.1 = k := h1.symm.trans e
      have b : valueAt (q :: qs) k = some q.2 := by simp [valueAt, List.find?_cons, e']
      rw [valV_pos e, b]; exact h2
    · have e' : ¬ q.1 = k := fun z => e (h1.trans z)
      have b : valueAt (q :: qs) k = valueAt qs k := by simp [valueAt, List.find?_cons, e']
      rw [valV_neg e, b]; exact ih
theorem KV.any {kvs : List (κ × V)} {vs : List (κ × Value)} (r : KV kvs vs) (k : κ) : (kvs.any fun kv => decide (kv.1 = k)) = vs.any fun kv => decide (kv.1 = k) := by
  unfold KV at r
  induction r with
  | nil => rfl
  | cons h t ih => rw [List.any_cons, List.any_cons, ih, h.1]
theorem KV.repl {kvs : List (κ × V)} {vs : List (κ × Value)} (r : KV kvs vs) (k : κ) {y : V} {u : Value} (ry : RelV y u) :
    KV (kvs.map fun kv => if kv.1 = k then (kv.1, y) else kv) (vs.map fun kv => if kv.1 = k then (kv.1, u) else kv) := by
  unfold KV at r ⊢
  induction r with
  | nil => exact .nil
  | @cons p q ps qs h t ih =>
    rw [List.map_cons, List.map_cons]
    refine .cons ?_ ih
    obtain ⟨h1, h2⟩ := h
    by_cases e : p.1 = k
    · rw [if_pos e, if_pos (h1.symm.trans e)]; exact ⟨h1, ry⟩
    · rw [if_neg e, if_neg (fun z => e (h1.trans z))]; exact ⟨h1, h2⟩
theorem KV.put {kvs : List (κ × V)} {vs : List (κ × Value)} (r : KV kvs vs) (k : κ) {y : V} {u : Value} (ry : RelV y u) : KV (putK kvs k y) (stored vs k u) := by
  unfold putK stored
  rw [r.any k]
  by_cases e : (vs.any fun kv => decide (kv.1 = k)) = true
  · rw [if_pos e, if_pos e]; exact r.repl k ry
  · rw [if_neg e, if_neg e]; exact Paired.snoc r ⟨rfl, ry⟩
theorem KV.drop {kvs : List (κ × V)} {vs : List (κ × Value)} (r : KV kvs vs) (k : κ) : KV (dropK kvs k) (without vs k) := by
  unfold KV at r ⊢
  unfold dropK without
  induction r with
  | nil => exact .nil
  | @cons p q ps qs h t ih =>
    obtain ⟨h1, h2⟩ := h
    rw [List.filter_cons, List.filter_cons]
    by_cases e : p.1 = k
    · have a : ¬ decide (p.1 ≠ k) = true := by simp [e]
      have b : ¬ decide (q.1 ≠ k) = true := by simp [h1.symm.trans e]
      rw [if_neg a, if_neg b]; exact ih
    · have e' : ¬ q.1 = k := fun z => e (h1.trans z)
      have a : decide (p.1 ≠ k) = true := by simp [e]
      have b : decide (q.1 ≠ k) = true := by simp [e']
      rw [if_pos a, if_pos b]; exact .cons ⟨h1, h2⟩ ih
theorem KV.keys {kvs : List (κ × V)} {vs : List (κ × Value)} (r : KV kvs vs) : kvs.map (·.1) = vs.map (·.1) := by
  unfold KV at r
  induction r with
  | nil => rfl
  | cons h t ih => rw [List.map_cons, List.map_cons, ih, h.1]
theorem KV.length {kvs : List (κ × V)} {vs : List (κ × Value)} (r : KV kvs vs) : kvs.length = vs.length := Paired.length r
end


/-! ### a tracked dict, its keys ints and texts or tuples of these -/
theorem kV_is {P : Program} {w : World} {k : Key} {u : Value} (r : RelV (kV k) u) : (mixKind P w).is k u = true := by
  cases k with
  | inl i => obtain ⟨t, e⟩ := (show ∃ t, u = Value.int i t from r); subst e; exact mixKind_int P w i t
  | inr x => obtain ⟨t, e⟩ := (show ∃ t, u = Value.str x t from r); subst e; exact mixKind_str P w x t
theorem items_are {P : Program} {w : World} : ∀ {ks : List Key} {us : List Value}, Vals (ks.map kV) us → ItemsAre (mixKind P w) ks us
  | [], _, r => by rw [List.map_nil] at r; cases r; exact .nil
  | k :: ks, _, r => by
    rw [List.map_cons] at r
    cases r with
    | cons h t => exact .cons (kV_is h) (items_are t)

/-- raw entries of a dict with tuple keys -/
abbrev KT (H : Hp) : List (List Key × V) → List (List Key × Addr × Value) → Prop := Paired fun p q => p.1 = q.1 ∧ H q.2.1 = some (.tup (p.1.map kV)) ∧ RelV p.2 q.2.2
theorem KT.val {H : Hp} {kvs : List (List Key × V)} {xs : List (List Key × Addr × Value)} (r : KT H kvs xs) (k : List Key) : RelO (valV kvs k) ((atKey xs k).map (·.2)) := by
  induction r with
  | nil => exact True.intro
  | @cons p q ps qs h t ih =>
    obtain ⟨h1, _, h2⟩ := h
    by_cases e : p.1 = k
    · have e' : q.1 = k := h1.symm.trans e
      have b : atKey (q :: qs) k = some q.2 := by simp [atKey, List.find?_cons, e']
      rw [valV_pos e, b]; exact h2
    · have e' : ¬ q.1 = k := fun z => e (h1.trans z)
      have b : atKey (q :: qs) k = atKey qs k := by simp [atKey, List.find?_cons, e']
      rw [valV_neg e, b]; exact ih
theorem KT.repl {H : Hp} {kvs : List (List Key × V)} {xs : List (List Key × Addr × Value)} (r : KT H kvs xs) (k : List Key) {y : V} {u : Value} (ry : RelV y u) :
    KT H (kvs.map fun kv => if kv.1 = k then (kv.1, y) else kv) (xs.map (putAt k u)) := by
  induction r with
  | nil => exact .nil
  | @cons p q ps qs h t ih =>
    rw [List.map_cons, List.map_cons]
    refine .cons ?_ ih
    obtain ⟨h1, h2, h3⟩ := h
    unfold putAt
    by_cases e : p.1 = k
    · rw [if_pos e, if_pos (h1.symm.trans e)]; exact ⟨h1, h2, ry⟩
    · rw [if_neg e, if_neg (fun z => e (h1.trans z))]; exact ⟨h1, h2, h3⟩
theorem KT.put {H : Hp} {kvs : List (List Key × V)} {xs : List (List Key × Addr × Value)} (r : KT H kvs xs) (k : List Key) {b : Addr} {y : V} {u : Value} (hb : H b = some (.tup (k.map kV))) (ry : RelV y u) :
    KT H (putK kvs k y) (storedH xs k b u) := by
  have e : (kvs.any fun kv => decide (kv.1 = k)) = (atKey xs k).isSome := by
    rw [valV_any, (r.val k).isSome_eq, Option.isSome_map]
  unfold putK storedH
  rw [e]
  by_cases q : (atKey xs k).isSome = true
  · rw [if_pos q, if_pos q]; exact r.repl k ry
  · rw [if_neg q, if_neg q]; exact Paired.snoc r ⟨rfl, hb, ry⟩
theorem KT.keeps {H H' : Hp} {kvs : List (List Key × V)} {xs : List (List Key × Addr × Value)} (r : KT H kvs xs) (ht : ∀ b ys, H b = some (.tup ys) → H' b = some (.tup ys)) : KT H' kvs xs :=
  Paired.mapP r fun _ _ z => ⟨z.1, ht _ _ z.2.1, z.2.2⟩

section
variable {P : Program} {w : World} {H : Hp} {h : Heap} {a : Addr}
theorem rd_of {u : HO} (ok : HOk P w H h) (e : Rd H a u) : ObjOk P w H h a u := e.ok ok
theorem dk_rd {kvs : List (Key × V)} (ok : HOk P w H h) (e : Rd H a (.dK kvs)) : kvs.length ≤ sizeLine ∧ (a == sysModules) = false ∧ ∃ vs, KV kvs vs ∧ h.DictOf (mixKind P w) a vs :=
  show ObjOk P w H h a (.dK kvs) from rd_of ok e
theorem dk_of {kvs : List (Key × V)} (ok : HOk P w H h) (e : H a = some (.dK kvs)) : kvs.length ≤ sizeLine ∧ (a == sysModules) = false ∧ ∃ vs, KV kvs vs ∧ h.DictOf (mixKind P w) a vs := dk_rd ok (.inl e)
/-- a tracked tuple of ints and texts is a key -/
theorem key_of {ks : List Key} (ok : HOk P w H h) (e : H a = some (.tup (ks.map kV))) : (tupleKind (mixKind P w)).is h ks a := by
  obtain ⟨_, its, r, o, h1, h2, n, h3⟩ := (show ObjOk P w H h a (.tup (ks.map kV)) from ok a _ e)
  exact ⟨o, its.toArray, n, h1, h2, h3, by simpa using items_are r⟩
theorem dt_rd {kvs : List (List Key × V)} (ok : HOk P w H h) (e : Rd H a (.dT kvs)) : kvs.length ≤ sizeLine ∧ (a == sysModules) = false ∧
    ∃ xs, KT H kvs xs ∧ h.DictOfH (tupleKind (mixKind P w)) a xs := by
  obtain ⟨z, y, xs, r, o, es, ep, h1, h2, h3, h4, h5⟩ := (show ObjOk P w H h a (.dT kvs) from rd_of ok e)
  refine ⟨z, y, xs, r, o, es, ep, h1, h2, h3, h4, fun x hx => ?_, h5⟩
  have all : ∀ {l : List (List Key × V)} {m : List (List Key × Addr × Value)}, KT H l m → ∀ x ∈ m, (tupleKind (mixKind P w)).is h x.1 x.2.1 := by
    intro l m q
    induction q with
    | nil => intro x hx; exact nomatch hx
    | @cons p q ps qs hq t ih =>
      intro x hx
      rcases List.mem_cons.mp hx with e | hx
      · subst e
        exact key_of ok (by rw [← hq.1]; exact hq.2.1)
      · exact ih x hx
  exact all r x hx
theorem dt_of {kvs : List (List Key × V)} (ok : HOk P w H h) (e : H a = some (.dT kvs)) : kvs.length ≤ sizeLine ∧ (a == sysModules) = false ∧
    ∃ xs, KT H kvs xs ∧ h.DictOfH (tupleKind (mixKind P w)) a xs := dt_rd ok (.inl e)
end

/-- what the dict at a holds at the key y -/
def DGet (H : Hp) (a : Addr) (y : V) (r : Option V) : Prop :=
  (∃ kvs k, Rd H a (.dK kvs) ∧ y = kV k ∧ r = valV kvs k) ∨ ∃ kvs k b, Rd H a (.dT kvs) ∧ y = .ref b ∧ H b = some (.tup (k.map kV)) ∧ r = valV kvs k
/-- the heap behind a[y] = v -/
def DPut (H : Hp) (a : Addr) (y v : V) (H' : Hp) : Prop :=
  (∃ kvs k, H a = some (.dK kvs) ∧ y = kV k ∧ kvs.length < sizeLine ∧ H' = upd H a (.dK (putK kvs k v))) ∨
  ∃ kvs k b, H a = some (.dT kvs) ∧ y = .ref b ∧ H b = some (.tup (k.map kV)) ∧ kvs.length < sizeLine ∧ H' = upd H a (.dT (putK kvs k v))
theorem DGet.k {H : Hp} {a : Addr} {kvs : List (Key × V)} {k : Key} (e : H a = some (.dK kvs)) : DGet H a (kV k) (valV kvs k) := .inl ⟨kvs, k, .inl e, rfl, rfl⟩
theorem DGet.t {H : Hp} {a b : Addr} {kvs : List (List Key × V)} {k : List Key} (e : H a = some (.dT kvs)) (eb : H b = some (.tup (k.map kV))) : DGet H a (.ref b) (valV kvs k) := .inr ⟨kvs, k, b, .inl e, rfl, eb, rfl⟩
theorem DPut.k {H : Hp} {a : Addr} {kvs : List (Key × V)} {k : Key} {v : V} (e : H a = some (.dK kvs)) (hl : kvs.length < sizeLine) : DPut H a (kV k) v (upd H a (.dK (putK kvs k v))) := .inl ⟨kvs, k, e, rfl, hl, rfl⟩
theorem DPut.t {H : Hp} {a b : Addr} {kvs : List (List Key × V)} {k : List Key} {v : V} (e : H a = some (.dT kvs)) (eb : H b = some (.tup (k.map kV))) (hl : kvs.length < sizeLine) :
    DPut H a (.ref b) v (upd H a (.dT (putK kvs k v))) := .inr ⟨kvs, k, b, e, rfl, eb, hl, rfl⟩


section
variable {X : Cx} {pins : List (Addr × Obj)} {σ : St} {H : Hp} {s : Shared} {a : Addr} {y v : V} {u r : Value} {o : Option V} {A : Around} {E : Value → Shared → Prop}

theorem Inv.big (I : Inv X pins σ H s) : sysModules < s.heap.objs.size := by
  have h : mainGlobals < s.heap.objs.size := (I.mod.glob.keeps I.bk).lt
  exact Nat.lt_trans (by decide) h

theorem d_notIn {Q : Value → Shared → Prop} (hu : A.units + 1 < cLine) (I : Inv X pins σ H s) (g : DGet H a y o) (ry : RelV y u) (h : ∀ s', Inv X pins σ H s' → Q (.bool (!o.isSome)) s') :
    wpAny (model X.prog X.w) A (compareOp .NotIn u (.ref a)) Q E s := by
  rcases g with ⟨kvs, k, e, ey, l⟩ | ⟨kvs, k, b, e, ey, eb, l⟩
  · subst ey
    obtain ⟨z, hd, vs, rel, dd⟩ := dk_rd I.hok e
    refine wpAny_notIn_of (kV_is ry) hd dd.mapOf ?_
    rw [← (rel.val k).isSome_eq, ← l]
    exact h _ (I.tok _)
  · subst ey
    cases (show u = Value.ref b from ry)
    obtain ⟨z, hd, xs, rel, dd⟩ := dt_rd I.hok e
    refine wpAny_notIn_heap (tupleKind_room_in1 hu) (key_of I.hok eb) hd dd ?_
    have q := (rel.val k).isSome_eq
    rw [Option.isSome_map] at q
    rw [← q, ← l]
    exact h _ (I.tok _)
/-- a dict's object is replaced -/
theorem d_write {h' : Heap} {t' : Nat} {ob : HO} (I : Inv X pins σ H s) (mu : Mut (H a)) (hs : Heap.SameBut a s.heap h') (he : ∃ q, h'.get? a = some q) (new : ObjOk X.prog X.w (upd H a ob) h' a ob) :
    Inv X pins σ (upd H a ob) { s with heap := h', toks := t' } :=
  I.write (x := a) (e := a) mu (.inl rfl) (fun b q hb z => (hs.2 b hb).trans z) he new
theorem dk_new {P : Program} {w : World} {H' : Hp} {h' : Heap} {kvs : List (Key × V)} {vs : List (Key × Value)} (z : kvs.length ≤ sizeLine) (hd : (a == sysModules) = false) (rel : KV kvs vs) (dd : h'.DictOf (mixKind P w) a vs) :
    ObjOk P w H' h' a (.dK kvs) := ⟨z, hd, vs, rel, dd⟩
/-- d[y] = v -/
theorem d_setItem {H' : Hp} {Q : Unit → Shared → Prop} (hu : A.units + 1 < cLine) (I : Inv X pins σ H s) (g : DPut H a y v H') (ry : RelV y u) (rv : RelV v r) (h : ∀ s', Inv X pins σ H' s' → Q () s') :
    wpAny (model X.prog X.w) A (setItem (.ref a) u r) Q E s := by
  rcases g with ⟨kvs, k, e, ey, l, eH⟩ | ⟨kvs, k, b, e, ey, eb, l, eH⟩
  · subst ey eH
    obtain ⟨z, hd, vs, rel, dd⟩ := dk_of I.hok e
    have hz : vs.length ≤ sizeLine := by rw [← rel.length]; exact z
    have hl : (putK kvs k v).length ≤ sizeLine := by have := length_putK kvs k v; omega
    refine wpAny_setItem_pairs (hsz := hz) (kV_is ry) dd fun h' dd' hs => h _ ?_
    have he : ∃ q, h'.get? a = some q := let ⟨q, _, _, hq, _⟩ := dd'; ⟨q, hq⟩
    exact d_write I (by rw [e]; exact True.intro) hs he (dk_new hl hd (rel.put k rv) dd')
  · subst ey eH
    cases (show u = Value.ref b from ry)
    obtain ⟨z, hd, xs, rel, dd⟩ := dt_of I.hok e
    have hz : xs.length ≤ sizeLine := by rw [← Paired.length rel]; exact z
    have hl : (putK kvs k v).length ≤ sizeLine := by have := length_putK kvs k v; omega
    refine wpAny_setItem_heap (hsz := hz) (tupleKind_room_in1 hu) (key_of I.hok eb) dd fun h' dd' hs => h _ ?_
    obtain ⟨q, es, ep, hq, h2, h3, h4, _, h5⟩ := dd'
    refine d_write I (by rw [e]; exact True.intro) hs ⟨q, hq⟩ ⟨hl, hd, _, (rel.put k eb rv).keeps fun c ys ec => ?_, q, es, ep, hq, h2, h3, h4, h5⟩
    rw [upd_ne (ne_of ec e (fun z => nomatch z))]
    exact ec
end

section
variable {X : Cx} {pins : List (Addr × Obj)} {σ : St} {H : Hp} {s : Shared} {a : Addr} {kvs : List (Key × V)} {k : Key} {u : Value} {A : Around} {E : Value → Shared → Prop}
end


/-! ### readings and rules -/
/-- the element of a subscription, not a slice -/
def NoSl (i : Expr) : Prop := ∀ ov iv, subscripted i false ov iv = operate [ov, iv] (getItem ov iv)
/-- d[y] -/
def tDGet (td ty : TE) : TE := fun σ H Q => td σ H fun x H1 => ty σ H1 fun y H2 => ∃ a v, x = .ref a ∧ DGet H2 a y (some v) ∧ Q v H2
/-- y in d, y not in d -/
def tDIn (ty td : TE) : TE := fun σ H Q => ty σ H fun y H1 => td σ H1 fun x H2 => ∃ a o, x = .ref a ∧ DGet H2 a y o ∧ Q (.bl o.isSome) H2
def tDNotIn (ty td : TE) : TE := fun σ H Q => ty σ H fun y H1 => td σ H1 fun x H2 => ∃ a o, x = .ref a ∧ DGet H2 a y o ∧ Q (.bl (!o.isSome)) H2
/-- d[y] = v -/
def sDPut (td ty tv : TE) : TS := fun D σ H => tv σ H fun v H1 => td σ H1 fun x H2 => ty σ H2 fun y H3 => ∃ a H4, x = .ref a ∧ DPut H3 a y v H4 ∧ D.nx σ H4
/-- d[y] op= v -/
def sDAug (td ty tv : TE) (rd : V → V → Hp → VK → Prop) : TS := fun D σ H => td σ H fun x H1 => ty σ H1 fun y H2 => ∃ a v, x = .ref a ∧ DGet H2 a y (some v) ∧
  tv σ H2 fun y2 H3 => rd v y2 H3 fun z H4 => ∃ H5, DPut H4 a y z H5 ∧ D.nx σ H5
/-- del d[y] -/
def sDDel (td ty : TE) : TS := fun D σ H => td σ H fun x H1 => ty σ H1 fun y H2 => ∃ a kvs k, x = .ref a ∧ H2 a = some (.dK kvs) ∧ y = kV k ∧ (valV kvs k).isSome = true ∧ D.nx σ (upd H2 a (.dK (dropK kvs k)))

section
variable {X : Cx} {o i e value : Expr} {pos pos' tpos : Pos} {td ty tv : TE}
end


/-! ### displays -/
theorem dk_empty {P : Program} {w : World} {H : Hp} (h : Heap) (hb : sysModules < h.objs.size) : ObjOk P w H (h.push { cls := .type "dict", data := .dict #[] }) h.objs.size (.dK []) :=
  ⟨Nat.zero_le _, beq_eq_false_iff_ne.mpr (Ne.symm (Nat.ne_of_lt hb)), [], .nil, Heap.DictOf.new h⟩
/-- {}, to be a dict of the kind that is wanted -/
def tDNewK : TE := fun _ H Q => ∀ p, H p = none → Q (.ref p) (upd H p (.dK []))
def tDNewT : TE := fun _ H Q => ∀ p, H p = none → Q (.ref p) (upd H p (.dT []))
section
variable {X : Cx} {pos : Pos}
theorem pe_dnewK : PE X (.Dict [] [] pos) tDNewK := fun pins s σ H Q I h =>
  wpAny_Dict_empty ⟨.ref s.heap.objs.size, _, I.laid (a := s.heap.objs.size) (o := .dK []) (t' := s.toks) (fun _ _ q => Heap.get?_push_of_some _ q) (Nat.le_refl _) (dk_empty s.heap I.big), rfl, h _ (I.hok.fresh (Nat.le_refl _))⟩
end

/-- the pairs of a display, from the left -/
def tPairs : List (TE × TE) → St → Hp → (List (V × V) → Hp → Prop) → Prop
  | [], _, H, Q => Q [] H
  | (tk, tv) :: r, σ, H, Q => tk σ H fun x H1 => tv σ H1 fun y H2 => tPairs r σ H2 fun ps H3 => Q ((x, y) :: ps) H3
abbrev VV : List (V × V) → List (Value × Value) → Prop := Paired fun p q => RelV p.1 q.1 ∧ RelV p.2 q.2
def PPs (X : Cx) (pos : Pos) (keys : List (Option Expr)) (values : List Expr) (trs : List (TE × TE)) : Prop :=
  ∀ (pins : List (Addr × Obj)) (s : Shared) (σ : St) (H : Hp) (Q : List (V × V) → Hp → Prop), Inv X pins σ H s → tPairs trs σ H Q →
    wpAny (model X.prog X.w) X.A (evalPairs (pairTrees keys values X.env pos)) (fun vs s' => ∃ ps H', Inv X pins σ H' s' ∧ VV ps vs ∧ Q ps H') X.xe s
def mergeK (kvs more : List (Key × V)) : List (Key × V) := more.foldl (fun acc kv => putK acc kv.1 kv.2) kvs
/-- {k: v, ..} with keys ints and texts; the new dict stands empty while the pairs are made -/
def tDisp (trs : List (TE × TE)) : TE := fun σ H Q => ∀ p, H p = none → tPairs trs σ (upd H p (.dK [])) fun ps H2 => H2 p = some (.dK []) ∧ ∃ kvs : List (Key × V), ps = kvs.map (fun kv => (kV kv.1, kv.2)) ∧ kvs.length ≤ 15 ∧ Q (.ref p) (upd H2 p (.dK (mergeK [] kvs)))
/-! ### methods -/
/-- a method call o.m(e) of a built-in, with one argument: what must be seen of the text -/
structure M1 (X : Cx) (o : Expr) (m : Str) (apos : Pos) (e : Expr) (cpos : Pos) : Prop where
  base : attributeBase o m X.env (eval o X.env) = eval o X.env
  few : ((backTo cpos (starEach [e] X.env)).all (fun x => !x.1) && (backToKw cpos (keywordEach [] X.env)).all (fun x => x.1.isSome)
    && decide (([e] : List Expr).length + ([] : List Keyword).length + (if ([] : List Keyword).isEmpty then 0 else 1) < 30)) = true
  line : (apos.endLine == cpos.line) = true
  trees : backTo cpos (starEach [e] X.env) = [(false, eval e X.env)]
structure M2 (X : Cx) (o : Expr) (m : Str) (apos : Pos) (e f : Expr) (cpos : Pos) : Prop where
  base : attributeBase o m X.env (eval o X.env) = eval o X.env
  few : ((backTo cpos (starEach [e, f] X.env)).all (fun x => !x.1) && (backToKw cpos (keywordEach [] X.env)).all (fun x => x.1.isSome)
    && decide (([e, f] : List Expr).length + ([] : List Keyword).length + (if ([] : List Keyword).isEmpty then 0 else 1) < 30)) = true
  line : (apos.endLine == cpos.line) = true
  trees : backTo cpos (starEach [e, f] X.env) = [(false, eval e X.env), (false, eval f X.env)]

/-- a is a dict, whatever its keys -/
def IsD (H : Hp) (a : Addr) : Prop := (∃ kvs, Rd H a (.dK kvs)) ∨ ∃ kvs, Rd H a (.dT kvs)
section
variable {X : Cx} {pins : List (Addr × Obj)} {σ : St} {H : Hp} {s : Shared} {a : Addr} {y d : V} {u r : Value} {o : Option V} {A : Around} {E : Value → Shared → Prop}
end

def tDGet1 (td ty : TE) : TE := fun σ H Q => td σ H fun x H1 => ∃ a, x = .ref a ∧ IsD H1 a ∧ ty σ H1 fun y H2 => ∃ o, DGet H2 a y o ∧ Q (o.getD .non) H2
def tDGet2 (td ty tx : TE) : TE := fun σ H Q => td σ H fun x H1 => ∃ a, x = .ref a ∧ IsD H1 a ∧ ty σ H1 fun y H2 => tx σ H2 fun z H3 => ∃ o, DGet H3 a y o ∧ Q (o.getD z) H3
/-- d.pop(k): there; d.pop(k, x): there or not -/
def tDPop1 (td ty : TE) : TE := fun σ H Q => td σ H fun x H1 => ∃ a, x = .ref a ∧ IsD H1 a ∧ ty σ H1 fun y H2 => ∃ kvs k v, H2 a = some (.dK kvs) ∧ y = kV k ∧ valV kvs k = some v ∧ Q v (upd H2 a (.dK (dropK kvs k)))
def tDPop2 (td ty tx : TE) : TE := fun σ H Q => td σ H fun x H1 => ∃ a, x = .ref a ∧ IsD H1 a ∧ ty σ H1 fun y H2 => tx σ H2 fun z H3 => ∃ kvs k, H3 a = some (.dK kvs) ∧ y = kV k ∧
  (∀ v, valV kvs k = some v → Q v (upd H3 a (.dK (dropK kvs k)))) ∧ (valV kvs k = none → Q z H3)
section
variable {X : Cx} {o e f : Expr} {apos cpos : Pos} {td ty tx : TE}
end

/-! ### dict(d): a copy -/
section
variable {X : Cx} {pins : List (Addr × Obj)} {σ : St} {H : Hp} {s : Shared} {a : Addr} {kvs : List (Key × V)} {A : Around} {E : Value → Shared → Prop}
end


section
variable {X : Cx} {pins : List (Addr × Obj)} {σ : St} {H : Hp} {s : Shared} {a : Addr} {y : V} {u : Value} {A : Around} {E : Value → Shared → Prop}
end
end L2


namespace Att
open PySem PySem.W PySem.Calls PyProof.Rows

/-! ### the script -/
theorem ints_of_wellAll {P : Params} {h : Heap} : ∀ (ns : List Int) (vs : List Value), WellAll P h vs (ns.map WData.int) → IntsAre vs ns := by
  intro ns
  induction ns with
  | nil =>
    intro vs w
    rw [List.map_nil] at w
    cases w
    exact .nil
  | cons n ns ih =>
    intro vs w
    rw [List.map_cons] at w
    cases w with
    | cons a b =>
      cases a
      exact .cons _ _ (ih _ b)

theorem script_of {l : OpenLaw} {n : Nat} (hn : l.most = some n) {P : Params} {h : Heap} {args : List WData} {vals : List Value}
    (hpre : l.row.toRowW.claim.pre args = true) (hwl : WellAll P h vals args) :
    ∃ a vs ns, vals = [Value.ref a] ∧ args = [WData.list (ns.map WData.int)] ∧ h.get? a = some { cls := .type "list", data := .seq vs.toArray } ∧ IntsAre vs ns ∧ ns.length ≤ n := by
  have hsh : WShape.hasAll [] args [.list .int] = true := (pre_splitW hpre).1
  have hc : l.pre.holds [] { args := args } = true := (pre_splitW hpre).2
  obtain ⟨d, r, rfl, h1, h2⟩ := hasAllW_cons hsh
  obtain rfl := hasAllW_nil h2
  obtain ⟨xs, rfl, h3⟩ := hasW_list h1
  obtain ⟨ns, rfl⟩ := items_int h3
  have hlen : ns.length ≤ n := by
    unfold OpenLaw.pre at hc
    have h4 : (WTm.not (.lt (.lit (.int (n : Int))) (.len (.arg 0)))).holds [] { args := [.list (ns.map .int)] } = true := by
      have h4 := (holds_andW hc).1
      rw [hn] at h4
      exact h4
    have h5 := condW_of h4 (w_not (w_lt w_lit (w_len_list (w_arg rfl))))
    rw [List.length_map] at h5
    refine Nat.le_of_not_lt fun q => ?_
    have q' : (n : Int) < ((ns.length : Nat) : Int) := by omega
    first
      | (rw [decide_eq_true q'] at h5; exact absurd h5 (by decide))
      | (simp at h5; omega)
  cases hwl with
  | cons w1 w2 =>
    cases w2
    cases w1 with
    | list ho hall => exact ⟨_, _, ns, rfl, rfl, ho, ints_of_wellAll ns _ hall, hlen⟩

theorem post_true (l : OpenLaw) (args : List WData) : l.row.toRowW.claim.post args (.bool true) args = true :=
  postW_of (r := l.row.toRowW) (X := (true == true))
    (show WShape.has [] (.bool true) .bool = true by first | rfl | decide | simp [WShape.has, WShape.arms, WShape.armsAll])
    (show (WTm.eq .res (.lit (.bool true))).value [] { args := args, res := some (.bool true), after := args } = some (.bool (true == true)) from w_eq_bool (w_res rfl) w_lit) rfl

/-! ### the attachment: holds_open's last premise (the goal 'hc' behind k_head) from a wpAny of the law's body -/
/-- the same from a codeAny of the CALL (for a layer whose function contracts speak of calls) -/
theorem attach_call {l : OpenLaw} {n : Nat} {q : Program} {loose : List Str} {XP : (Str → Option Value) → Heap → Prop} {YP : World → Heap → Prop} {d : DefRec}
    (hn : l.most = some n) (hdf : d.params.defaults = [])
    (call : ∀ (w : World) (s₀ s₁ : Shared) (mg mb : Str → Option Value) (fa : Addr) (o : Obj) (pm cd doc : Value) (a : Addr) (vs : List Value) (ns : List Int),
      Ground q loose [] XP w s₀ mg mb s₁.heap → YP w s₁.heap →
      s₁.heap.get? fa = some o → o.data = .func (docDef d.name d.params d.body d.scope pm cd doc) → s₁.heap.CodeRec cd d.name → mg d.name = some (.ref fa) →
      s₁.heap.get? a = some { cls := .type "list", data := .seq vs.toArray } → IntsAre vs ns → ns.length ≤ n → s₁.gens = #[] →
      codeAny (model l.prog w) callerA (.call (.ref fa) ⟨[.ref a], []⟩) (fun r s' => r = .ok (.ret (.bool true)) ∧ OldK s₁.heap s'.heap ∧ s'.os = s₁.os ∧ AllBare s'.gens) s₁) :
    WalkO q loose XP YP l.row.toRowW d [] (fun f vs => PySem.call f vs) := by
  intro w s₀ s₁ mg mb G Y fa o pm cd doc dV kV ho hd hcd hD hmg hg args vals as hpre hlay hrd hwl hlo
  obtain rfl : dV = .none := Dflts.none hD hdf
  obtain rfl : kV = .none := Dflts.noKw hD
  obtain ⟨a, vs, ns, rfl, rfl, hobj, hints, hlen⟩ := script_of hn hpre hwl
  refine enter_call (codeAny_mono (call w s₀ s₁ mg mb fa o pm cd doc a vs ns G Y ho (fd_plain hd) hcd hmg hobj hints hlen hg) fun r s' hq => ?_)
  obtain ⟨rfl, h2, h3, h4⟩ := hq
  exact ⟨.inl ⟨.bool true, .bool true, [], rfl, fun _ => rfl, .bool true, post_true l _, fun _ => ⟨List.Pairwise.nil, fun _ hm => (nomatch hm)⟩⟩, h2, h3, h4⟩

/-! ### rules over ANY heap (no ledger) from facts about the written part K: the library's own take a ledger (News) for what they write -/
section
variable {prog : Program} {w : World} {A : Around} {E : Value → Shared → Prop} {s : Shared} {K : Frag}

/-! the whole heap as the ledger: makes every rule that writes through a ledger a rule over any heap -/
def noObjs (h : Heap) : Heap := { h with objs := #[] }
def ledger (h : Heap) (L d : Addr) : List (Addr × Obj) := (List.range h.objs.size).filterMap fun a => if a = L ∨ a = d then none else (h.get? a).map fun o => (a, o)
end
end Att

namespace L2
open PySem PySem.Spec PyProof.Rows

theorem vals_ints : ∀ {vs : List Value} {ns : List Int}, IntsAre vs ns → Vals (ns.map V.int) vs
  | _, _, .nil => .nil
  | _, _, .cons n t h => .cons ⟨t, rfl⟩ (vals_ints h)

/-- nothing is tracked but the script, known to the object (or it is an object of the module) -/
def Only (H : Hp) : Prop := ∀ b, H b = none ∨ ∃ o xs, H b = some (.frz o (.lst xs))

/-- THE HEAD: the law's promise, at the heap behind the top. F, the promise of the law's def, may use that base is part of the heap (so K.In base, base.Ns mainGlobals mg stand in Mod) -/
theorem law_call {P : Program} {w : World} {K : PySem.W.Frag} {mg mb : Str → Option Value} {CX : CXT} {k : Nat} {fa a : Addr} {fd : FuncData} {x : Str} {sp : Sp} {s₁ : Shared} {vs : List Value} {ns : List Int}
    (KX : K.In s₁.heap) (hns : s₁.heap.Ns mainGlobals mg) (hb : s₁.heap.Ns builtinsNs mb) (hbb : ∀ x : Str, x ≠ "__name__" → mb x = bootBuiltins x) (hlim : s₁.heap.NoLimit) (hg : s₁.gens = #[])
    (ha : s₁.heap.get? a = some { cls := .type "list", data := .seq vs.toArray }) (hi : IntsAre vs ns) (hl : ns.length ≤ sizeLine) (hr : Room k callerA)
    (F : ∀ base : Heap, K.In base → base.Ns mainGlobals mg → FnOk P w K mg base CX k fa fd [x] sp) (hbind : ∀ (s : Shared) (u : Value), BindsTo s fd ⟨[u], []⟩ [(x, u)])
    (hsp : ∀ H : Hp, Only H → SqL K H a (ns.map V.int) → sp [.ref a] H (fun v _ => v = .bl true) fun _ _ _ => False)
    (hCX : ∀ H e s', CX [] H s₁ (fun _ _ _ => False) e s' → False) :
    codeAny (model P w) callerA (.call (.ref fa) ⟨[.ref a], []⟩) (fun r s' => r = .ok (.ret (.bool true)) ∧ OldK s₁.heap s'.heap ∧ s'.os = s₁.os ∧ AllBare s'.gens) s₁ := by
  have rv := vals_ints hi
  have lenV := hi.length
  -- from an abstract heap in which nothing but the script may be tracked
  have core : ∀ H : Hp, Only H → SqL K H a (ns.map V.int) → HOk P w H s₁.heap → (∀ b, H b ≠ none → b = a) → (H a ≠ none → K.lookup a = none) →
      codeAny (model P w) callerA (.call (.ref fa) ⟨[.ref a], []⟩) (fun r s' => r = .ok (.ret (.bool true)) ∧ OldK s₁.heap s'.heap ∧ s'.os = s₁.os ∧ AllBare s'.gens) s₁ := by
    intro H hO hS hok hA hK
    have base_of : ∀ {b : Addr} {o : Obj}, s₁.heap.get? b = some o → H b = none → (hidT s₁.heap H).get? b = some o := fun e n => hidT_get e n
    have noA : ∀ {b : Addr} {o : Obj} {es : Array DictEntry} {ep : Nat}, s₁.heap.get? b = some o → o.data = .dict es ep → H b = none := fun {b o es ep} e d => by
      cases q : H b with
      | none => rfl
      | some u =>
        have e' : b = a := hA b (by rw [q]; simp)
        subst e'
        rw [ha] at e; cases e
        have d' : Data.seq vs.toArray _ = Data.dict es ep := d
        cases d'
    have nsK : ∀ {b : Addr} {m : Str → Option Value}, s₁.heap.Ns b m → (hidT s₁.heap H).Ns b m := fun {b m} ⟨o, es, ep, e, d, r⟩ => ⟨o, es, ep, base_of e (noA e d), d, r⟩
    have hKb : K.In (hidT s₁.heap H) := fun b o e => base_of (KX b o e) (by
      cases q : H b with
      | none => rfl
      | some u =>
        have e' : b = a := hA b (by rw [q]; simp)
        subst e'
        rw [hK (by rw [q]; simp)] at e; cases e)
    have hM : Mod K mg (hidT s₁.heap H) := ⟨hKb, nsK hns, ⟨mb, nsK hb, hbb⟩, let ⟨mc, h1, h2⟩ := hlim; ⟨mc, nsK h1, h2⟩⟩
    have e0 : Env0 P w K mg (hidT s₁.heap H) callerA [] s₁ H := ⟨rfl, hM, fun b o e => of_hidT e, Nat.le_of_eq (hidT_size _ _), trivial, fun b hb => absurd (show b ∈ ([] : List Addr) from hb) (by simp), hok, .of_eq hg⟩
    refine codeAny_mono ((F _ hKb (nsK hns)).run callerA [] s₁ H ⟨[.ref a], []⟩ [.ref a] [.ref a] _ _ hr e0 (hbind s₁ (.ref a)) (.cons rfl .nil) (hsp H hO hS)) fun r s' h => ?_
    cases r with
    | error e => exact (hCX H e s' h).elim
    | ok fl =>
      cases fl with
      | next => exact False.elim h
      | brk => exact False.elim h
      | cont => exact False.elim h
      | ret u =>
        obtain ⟨v, H', os, bare, un, hok', r', q⟩ := h
        have q' : v = .bl true := q
        subst q'
        obtain rfl : u = Value.bool true := r'
        refine ⟨rfl, OldK.of_keep fun b o e => ?_, os, bare⟩
        cases q : H b with
        | none => exact un.keep b o e q (by intro z; exact absurd (show b ∈ ([] : List Addr) from z) (by simp)) (by simp)
        | some u =>
          rcases hO b with z | ⟨ob, xs, z⟩
          · rw [q] at z; cases z
          · have z2 := un.frzs b ob _ z
            obtain ⟨e1, _⟩ := hok b _ z
            obtain ⟨e2, _⟩ := hok' b _ z2
            rw [e] at e1; cases e1
            exact e2
  cases hk : K.lookup a with
  | some o =>
    -- the script is one of the module's own objects
    have e := KX a o hk
    rw [ha] at e
    cases e
    refine core (fun _ => none) (fun _ => .inl rfl) (.inr ⟨_, vs.toArray, _, hk, rfl, rfl, rfl, by rw [List.size_toArray, lenV]; exact hl, by simpa using rv⟩) (fun b u z => by have z' : (none : Option HO) = some u := z; cases z') (fun b z => absurd rfl z) fun z => absurd rfl z
  | none =>
    refine core (fun b => if b = a then some (.frz { cls := .type "list", data := .seq vs.toArray } (.lst (ns.map V.int))) else none) (fun b => ?_) (.inl (.inr ⟨{ cls := .type "list", data := .seq vs.toArray }, if_pos rfl⟩)) (fun b u z => ?_) (fun b z => ?_) fun _ => hk
    · by_cases hb : b = a
      · exact .inr ⟨_, _, if_pos hb⟩
      · exact .inl (if_neg hb)
    · by_cases hb : b = a
      · have z' := (if_pos hb).symm.trans z
        cases z'
        subst hb
        exact ⟨ha, by rw [List.length_map]; exact hl, vs, _, rv, ha⟩
      · have z' := (if_neg hb).symm.trans z
        cases z'
    · by_cases hb : b = a
      · exact hb
      · exact absurd (if_neg hb) z
end L2

namespace L2
open PySem PySem.Spec PyProof.Rows

abbrev KOf {K : PySem.W.Frag} {h : Heap} (_ : K.In h) : PySem.W.Frag := K

/-- the goal that k_head leaves (case hc), from the law's promise. F gives the function object fd (K's own) once, then the promise over every base -/
theorem walk_of {l : PySem.W.OpenLaw} {n k : Nat} {q : Program} {loose : List Str} {XP : (Str → Option Value) → Heap → Prop} {YP : World → Heap → Prop} {d : DefRec} {K : Params → PySem.W.Frag} {CX : World → CXT} {sp : World → Sp} {x : Str}
    (hn : l.most = some n) (hn2 : n ≤ sizeLine) (hdf : d.params.defaults = []) (hr : Room k callerA)
    (hY : ∀ (w : World) (h : Heap), YP w h → (K w.params).In h)
    (F : ∀ (w : World) (mg : Str → Option Value) (fa : Addr) (h : Heap), (K w.params).In h → h.Ns mainGlobals mg → mg d.name = some (.ref fa) →
      ∃ fd : FuncData, (∀ (s : Shared) (u : Value), BindsTo s fd ⟨[u], []⟩ [(x, u)]) ∧
        ∀ base : Heap, (K w.params).In base → base.Ns mainGlobals mg → FnOk l.prog w (K w.params) mg base (CX w) k fa fd [x] (sp w))
    (hsp : ∀ (w : World) (H : Hp) (a : Addr) (ns : List Int), ns.length ≤ n → Only H → SqL (K w.params) H a (ns.map V.int) → sp w [.ref a] H (fun v _ => v = .bl true) fun _ _ _ => False)
    (hCX : ∀ (w : World) (H : Hp) (s : Shared) (e : Value) (s' : Shared), CX w [] H s (fun _ _ _ => False) e s' → False) :
    PySem.W.WalkO q loose XP YP l.row.toRowW d [] (fun f vs => PySem.call f vs) := by
  refine Att.attach_call hn hdf fun w s₀ s₁ mg mb fa o pm cd doc a vs ns G Y ho hd hcd hmg hobj hints hlen hg => ?_
  have KX := hY w _ Y
  obtain ⟨fd, hb, hF⟩ := F w mg fa _ KX G.T.g hmg
  exact law_call KX G.T.g G.T.b G.T.builtins G.T.nolimit hg hobj hints (Nat.le_trans hlen hn2) hr hF hb (fun H hO hS => hsp w H a ns hlen hO hS) fun H e s' => hCX w H s₁ e s'
end L2


/-! SHORT WORDS over the layer: a def of the text, its body, what a loop and a test want. -/
namespace L2
open PySem PySem.Spec PyProof.Rows

/-! ### the text by places -/
/-- the j-th statement of a class's body -/
def inClass (s : Stmt) (j : Nat) : Stmt := match s with
  | .ClassDef _ _ _ body _ _ _ _ _ _ _ => body.getD j (.Pass ⟨0, 0, 0, 0⟩)
  | _ => .Pass ⟨0, 0, 0, 0⟩
def defArgs (s : Stmt) : Arguments := match s with
  | .FunctionDef _ a _ _ _ _ _ _ _ _ => a
  | _ => { posonlyargs := [], args := [], vararg := none, kwonlyargs := [], kw_defaults := [], kwarg := none, defaults := [] }
def defBody (s : Stmt) : List Stmt := match s with
  | .FunctionDef _ _ b _ _ _ _ _ _ _ => b
  | _ => []
def defScope (s : Stmt) : Scope := match s with
  | .FunctionDef _ _ _ _ _ _ sc _ _ _ => sc
  | _ => { kind := .function, names := [], isGenerator := false, isCoroutine := false }

/-! ### no exception leaves a def -/
abbrev CX0 : CXT := fun _ _ _ _ _ _ => False
abbrev E0 : XK := fun _ _ _ => False
theorem pass0 {X : Cx} : Passes CX0 X E0 := fun _ _ _ _ _ _ _ h => h.elim

/-! ### a def (or method) of the text as it stands behind the top -/
structure Fun (K : PySem.W.Frag) (x qual : Str) (st : Stmt) (f : Addr) (fd : FuncData) : Prop where
  ex : ∃ (oc : Value) (od : Option Addr) (kV doc pm : Value) (an : Option Addr) (cdv ct : Value) (osl : Array (Option Value)),
    fd = PySem.W.fnOf x qual (defArgs st) (defBody st) (defScope st) .none kV doc pm an cdv ct ∧ K.lookup f = some ⟨oc, od, .func fd, osl⟩ ∧ PySem.W.codeIn K cdv qual = true
  kp : PySem.W.keepIn K (.ref f) = true
section
variable {P : Program} {w : World} {K : PySem.W.Frag} {mg : Str → Option Value} {base : Heap}
/-- THE RULE for a def: its body as a term of rules, and the reading of that term -/
theorem Fun.ok {x qual : Str} {st : Stmt} {f : Addr} {fd : FuncData} {N ps : List Str} {k : Nat} {sp : Sp} (F : Fun K x qual st f fd) (S : FnScope N ps (defScope st)) (len : ∀ vs H Q E, sp vs H Q E → vs.length = ps.length)
    (hbody : ∀ (cdv : Value) (A : Around) (outer : List Env) (s : Shared) (H : Hp) (vs : List V) (Q : VK) (E : XK), Room k (A.deeper (envOfC qual (defScope st) s.heap.objs.size f cdv)) → sp vs H Q E →
      ∃ t, PSs (cxOf CX0 P w K mg base N qual (defScope st) f cdv A outer s H E).nox (defBody st) t ∧ t { nx := fun _ H' => Q .non H', rt := Q } (start N vs) H) : FnOk P w K mg base CX0 (k + 1) f fd ps sp := by
  obtain ⟨oc, od, kV, doc, pm, an, cdv, ct, osl, rfl, lk, hcd⟩ := F.ex
  refine fn_of lk hcd S len fun A outer s H vs Q E hr hsp => ?_
  obtain ⟨t, h, q⟩ := hbody cdv A outer s H vs Q E hr hsp
  exact ⟨t, h.nox, q⟩
/-- how its arguments bind (no defaults): h is «fun _ _ _ _ _ _ us hl => match us, hl with | [_, _], _ => rfl», one _ a parameter -/
theorem Fun.binds {x qual : Str} {st : Stmt} {f : Addr} {fd : FuncData} {ps : List Str} (F : Fun K x qual st f fd)
    (h : ∀ (kV doc pm : Value) (an : Option Addr) (cdv ct : Value) (us : List Value), us.length = ps.length → bindArgs (PySem.W.fnOf x qual (defArgs st) (defBody st) (defScope st) .none kV doc pm an cdv ct) ⟨us, []⟩ = pure (ps.zip us)) : Binds K fd ps [] := by
  obtain ⟨oc, od, kV, doc, pm, an, cdv, ct, osl, rfl, lk, hcd⟩ := F.ex
  exact .all (h kV doc pm an cdv ct)
theorem fun_mk {x qual : Str} {st : Stmt} {f : Addr} {oc : Value} {od an : Option Addr} {osl : Array (Option Value)} {kV doc pm cdv ct : Value} (l : K.lookup f = some ⟨oc, od, .func (PySem.W.fnOf x qual (defArgs st) (defBody st) (defScope st) .none kV doc pm an cdv ct), osl⟩)
    (c : PySem.W.codeIn K cdv qual = true) (k : PySem.W.keepIn K (.ref f) = true) : Fun K x qual st f (PySem.W.fnOf x qual (defArgs st) (defBody st) (defScope st) .none kV doc pm an cdv ct) := ⟨⟨oc, od, kV, doc, pm, an, cdv, ct, osl, rfl, l, c⟩, k⟩
end
theorem small1000 {n : Nat} (h : n ≤ 1000) : n < sizeLine := Nat.lt_of_le_of_lt h (by decide)

/-! ### expressions in short: the name that stands in the i-th slot -/
section
variable {X : Cx}
theorem pv (i : Nat) {x : Str} {pos : Pos} (hN : X.N[i]? = some x := by rfl) (hv : Vis X.env.scope x := by first | exact Or.inl rfl | exact Or.inr (Or.inl rfl) | exact Or.inr (Or.inr rfl)) (hd : (x == ("__debug__" : Str)) = false := by decide)
    (hcd : (x == ("__classdict__" : Str)) = false := by decide) : PE X (.Name x pos) (tVar i) := pe_var hN hv hd hcd
end

/-! ### tests -/
/-! ### heaps -/
/-- all that was tracked is as it was -/
def Same (H H' : Hp) : Prop := ∀ b o, H b = some o → H' b = some o
theorem Same.refl (H : Hp) : Same H H := fun _ _ h => h
theorem Same.trans {H H1 H2 : Hp} (a : Same H H1) (b : Same H1 H2) : Same H H2 := fun c o h => b c o (a c o h)
theorem Same.free {H H' : Hp} (e : Same H H') {l : Addr} (h : H' l = Option.none) : H l = Option.none := by
  cases q : H l with
  | none => rfl
  | some o =>
    rw [e l o q] at h
    cases h
theorem Same.seq {K : PySem.W.Frag} {H H' : Hp} {a : Addr} {xs : List V} (e : Same H H') (h : SqL K H a xs) : SqL K H' a xs := by
  rcases h with (h | ⟨o, h⟩) | h
  · exact .inl (.inl (e _ _ h))
  · exact .inl (.inr ⟨o, e _ _ h⟩)
  · exact .inr h

section
variable {X : Cx}
end
/-! ### a dict's pairs: keys that differ -/
section
variable {κ : Type} [DecidableEq κ]
end
end L2


/-! ## list comprehensions with one clause, over the hand layer -/
namespace L2
open PySem PySem.Spec PyProof.Rows

theorem clos_go {env : Env} {f : Str × NameKind → List (Str × Addr) → Sem (ForInStep (List (Str × Addr)))}
    (h1 : ∀ n c acc, env.cells.lookup n = some c → f (n, .free) acc = pure (.yield ((n, c) :: acc)))
    (h2 : ∀ n k acc, k ≠ .free → f (n, k) acc = pure (.yield acc)) :
    ∀ (names : List (Str × NameKind)) (acc : List (Str × Addr)), (∀ x ∈ names, x.2 = .free → ∃ c, env.cells.lookup x.1 = some c) → (∀ p ∈ acc, env.cells.lookup p.1 = some p.2) →
      ∃ cl, forIn names acc f = pure cl ∧ (∀ p ∈ cl, env.cells.lookup p.1 = some p.2) ∧ (∀ x ∈ names, x.2 = .free → ∃ c, (x.1, c) ∈ cl) ∧ ∀ p ∈ acc, p ∈ cl := by
  intro names
  induction names with
  | nil => intro acc _ ha; exact ⟨acc, rfl, ha, (fun _ z => nomatch z), fun _ z => z⟩
  | cons x r ih =>
    intro acc hx ha
    obtain ⟨n, k⟩ := x
    by_cases hk : k = .free
    · subst hk
      obtain ⟨c, hc⟩ := hx (n, .free) List.mem_cons_self rfl
      obtain ⟨cl, e, a, b, d⟩ := ih ((n, c) :: acc) (fun y hy => hx y (List.mem_cons_of_mem _ hy)) (fun p hp => by
        rcases List.mem_cons.mp hp with z | z
        · subst z; exact hc
        · exact ha p z)
      refine ⟨cl, ?_, a, fun y hy hyk => ?_, fun p hp => d p (List.mem_cons_of_mem _ hp)⟩
      · rw [List.forIn_cons, h1 n c acc hc, pure_bind]; exact e
      · rcases List.mem_cons.mp hy with z | z
        · subst z; exact ⟨c, d _ List.mem_cons_self⟩
        · exact b y z hyk
    · obtain ⟨cl, e, a, b, d⟩ := ih acc (fun y hy => hx y (List.mem_cons_of_mem _ hy)) ha
      refine ⟨cl, ?_, a, fun y hy hyk => ?_, d⟩
      · rw [List.forIn_cons, h2 n k acc hk, pure_bind]; exact e
      · rcases List.mem_cons.mp hy with z | z
        · subst z; exact absurd hyk hk
        · exact b y z hyk

theorem lookup_mem' {α : Type} : ∀ {l : List (Str × α)} {x : Str} {c : α}, l.lookup x = some c → (x, c) ∈ l
  | [], _, _, h => by simp at h
  | (n, d) :: r, x, c, h => by
    rw [List.lookup_cons] at h
    cases e : x == n with
    | true =>
      rw [e] at h
      have : x = n := by simpa using e
      subst this
      cases h; exact List.mem_cons_self
    | false =>
      rw [e] at h
      exact List.mem_cons_of_mem _ (lookup_mem' h)
theorem lookup_of_mem' {α : Type} : ∀ {l : List (Str × α)} {x : Str} {c : α}, (x, c) ∈ l → ∃ d, l.lookup x = some d
  | [], _, _, h => nomatch h
  | (n, d) :: r, x, c, h => by
    rw [List.lookup_cons]
    cases e : x == n with
    | true => exact ⟨d, rfl⟩
    | false =>
      rcases List.mem_cons.mp h with z | z
      · cases z; simp at e
      · exact lookup_of_mem' z

theorem closureFor_has {scope : Scope} {env : Env} (h : ∀ x ∈ scope.names, x.2 = .free → ∃ c, env.cells.lookup x.1 = some c) :
    ∃ cl : List (Str × Addr), closureFor scope env = pure cl ∧ (∀ x c, cl.lookup x = some c → env.cells.lookup x = some c) ∧ (∀ x ∈ scope.names, x.2 = .free → ∃ c, cl.lookup x.1 = some c) := by
  have key : ∃ cl, closureFor scope env = pure cl ∧ (∀ p ∈ cl, env.cells.lookup p.1 = some p.2) ∧ (∀ x ∈ scope.names, x.2 = .free → ∃ c, (x.1, c) ∈ cl) ∧ ∀ p ∈ ([] : List (Str × Addr)), p ∈ cl := by
    obtain ⟨cl, e, r⟩ := clos_go (env := env) (f := fun x r => match x with
        | (name, kind) => if (kind == NameKind.free) = true then (do let c ← cellOf env name; pure (ForInStep.yield ((name, c) :: r))) else pure (ForInStep.yield r))
      (fun n c acc hc => by simp [cellOf, hc]) (fun n k acc hk => by simp [hk]) scope.names [] h (fun _ z => nomatch z)
    refine ⟨cl, ?_, r⟩
    unfold closureFor
    exact (bind_pure _).trans e
  obtain ⟨cl, e, a, b, _⟩ := key
  refine ⟨cl, e, fun x c hx => a (x, c) (lookup_mem' hx), fun x hx hk => ?_⟩
  obtain ⟨c, hc⟩ := b x hx hk
  exact lookup_of_mem' hc

theorem lookup_relabel_none_or {env : Env} : ∀ {names : List (Str × NameKind)} {x : Str} {k : NameKind},
    (names.map fun (n, k) => if (k == NameKind.free && env.scope.kind == .function && env.kindOf n == some .cell) then (n, NameKind.cell) else (n, k)).lookup x = some k →
    names.lookup x = some k ∨ (k = .cell ∧ names.lookup x = some .free)
  | [], _, _, h => by simp at h
  | (n, k') :: r, x, k, h => by
    have ih := @lookup_relabel_none_or env r x k
    rw [List.map_cons] at h
    by_cases hc : (k' == NameKind.free && env.scope.kind == .function && env.kindOf n == some .cell) = true
    · simp only [hc, if_true] at h
      rw [List.lookup_cons] at h ⊢
      cases hx : x == n with
      | true =>
        rw [hx] at h
        cases h
        simp only [Bool.and_eq_true] at hc
        have : k' = .free := by simpa using hc.1.1
        exact .inr ⟨rfl, by rw [this]⟩
      | false =>
        rw [hx] at h
        exact ih h
    · simp only [hc] at h
      rw [if_neg (by simpa using hc)] at h
      rw [List.lookup_cons] at h ⊢
      cases hx : x == n with
      | true => rw [hx] at h; exact .inl h
      | false => rw [hx] at h; exact ih h
theorem lookup_relabel_free {env : Env} : ∀ {names : List (Str × NameKind)} {x : Str}, names.lookup x = some .free →
    (names.map fun (n, k) => if (k == NameKind.free && env.scope.kind == .function && env.kindOf n == some .cell) then (n, NameKind.cell) else (n, k)).lookup x = some .cell ∨
    (names.map fun (n, k) => if (k == NameKind.free && env.scope.kind == .function && env.kindOf n == some .cell) then (n, NameKind.cell) else (n, k)).lookup x = some .free
  | [], _, h => by simp at h
  | (n, k') :: r, x, h => by
    have ih := @lookup_relabel_free env r x
    rw [List.map_cons]
    dsimp only
    by_cases hc : (k' == NameKind.free && env.scope.kind == .function && env.kindOf n == some .cell) = true
    · simp only [hc, if_true]
      rw [List.lookup_cons] at h
      simp only [List.lookup_cons]
      cases hx : x == n with
      | true => exact .inl rfl
      | false => rw [hx] at h; exact ih h
    · rw [if_neg hc]
      rw [List.lookup_cons] at h
      simp only [List.lookup_cons]
      cases hx : x == n with
      | true => rw [hx] at h; exact .inr h
      | false => rw [hx] at h; exact ih h

/-- the inner slots: none is the block's own, some i the outer slot i that is read there -/
def capt (σ : St) (cap : List (Option Nat)) : St := cap.map fun o => match o with | none => none | some i => (σ[i]?).getD none
def outK (X : Cx) (x : Str) : Bool := X.env.scope.names.lookup x == some .cell || X.env.scope.names.lookup x == some .free
/-- what is asked of a comprehension's scope: a computation -/
structure CompOk (X : Cx) (scope : Scope) (N' : List Str) (cap : List (Option Nat)) : Prop where
  kind : scope.kind = .function
  names : scope.names.all (fun p => p.2 != .local || scope.names.lookup p.1 == some .local) = true
  nocell : scope.names.all (fun p => p.2 != .cell) = true
  out : scope.names.all (fun p => p.2 != .free || outK X p.1) = true
  len : N'.length = cap.length
  cap : (N'.zip cap).all (fun p => match p.2 with | none => true | some i => X.N[i]? == some p.1 && (scope.names.lookup p.1 == some .free && outK X p.1)) = true

def inner (X : Cx) (scope : Scope) (cl : List (Str × Addr)) (C : Addr) (N' : List Str) (fp : List Addr) (s₂ : Shared) (H₂ : Hp) (xe : Value → Shared → Prop) : Cx :=
  { X with N := N', s₀ := s₂, H₀ := H₂, env := compEnvC scope cl C X.env, outer := X.stack, ex := fp, fn := fun _ => false, pn := [], xe := xe }

/-- the tests of a clause -/
def PIfs (X : Cx) (ifs : List Expr) (t : TT) : Prop :=
  ∀ (pins : List (Addr × Obj)) (s : Shared) (σ : St) (H : Hp) (Q : Bool → Hp → Prop), Inv X pins σ H s → t σ H Q →
    wpAny (model X.prog X.w) X.A (forIn ifs true fun c r => if r = true then do let ok ← isTrue c X.env (eval c X.env); pure (ForInStep.yield ok) else pure (ForInStep.yield r)) (TP X pins σ Q) X.xe s
def tTrue : TT := fun _ H Q => Q true H
theorem pifs_nil {X : Cx} : PIfs X [] tTrue := fun _ _ _ H _ I h => by
  rw [List.forIn_nil]
  exact wpAny_pure ⟨H, I, h⟩
theorem pifs_one {X : Cx} {c : Expr} {t : TT} (hc : PT X c t) : PIfs X [c] t := fun pins s σ H Q I h => by
  rw [List.forIn_cons]
  refine wpAny_bind ?_
  rw [if_pos rfl]
  refine wpAny_bind (thn (hc pins s σ H Q I h) fun b s1 q => wpAny_pure ?_)
  show wpAny _ _ (forIn ([] : List Expr) b _) _ _ _
  rw [List.forIn_nil]
  exact wpAny_pure q

/-- a target that stores into the block's own slots alone -/
def KeepsCap (cap : List (Option Nat)) (g : TG) : Prop := ∀ x σ H Q, g x σ H Q → g x σ H fun σ2 H2 => Q σ2 H2 ∧ σ2.length = σ.length ∧ ∀ (j i : Nat), cap[j]? = some (some i) → σ2[j]? = σ[j]?
def KeepsCaps (cap : List (Option Nat)) (g : TGs) : Prop := ∀ xs σ H Q, g xs σ H Q → g xs σ H fun σ2 H2 => Q σ2 H2 ∧ σ2.length = σ.length ∧ ∀ (j i : Nat), cap[j]? = some (some i) → σ2[j]? = σ[j]?
theorem keeps_name {cap : List (Option Nat)} {i : Nat} (h : cap[i]? = some none) : KeepsCap cap (gName i) := fun x σ H Q q => by
  refine ⟨q, by simp, fun j k e => ?_⟩
  have : i ≠ j := by rintro rfl; rw [h] at e; cases e
  rw [List.getElem?_set_ne this]
theorem keeps_two {K : PySem.W.Frag} {cap : List (Option Nat)} {i j : Nat} (hi : cap[i]? = some none) (hj : cap[j]? = some none) : KeepsCap cap (gTup K 2 (gCons (gName i) (gCons (gName j) gNil))) := fun x σ H Q q => by
  obtain ⟨a, xs, e1, h2, h3, v, r, e4, v', r', e5, e6, q⟩ := q
  refine ⟨a, xs, e1, h2, h3, v, r, e4, v', r', e5, e6, q, by simp, fun k l e => ?_⟩
  have n1 : i ≠ k := by rintro rfl; rw [hi] at e; cases e
  have n2 : j ≠ k := by rintro rfl; rw [hj] at e; cases e
  rw [List.getElem?_set_ne n2, List.getElem?_set_ne n1]

/-- the block at an iterator J: W by the turn and a measure, D the list that grows -/
def CompAt (cap : List (Option Nat)) (g : TG) (tt : TT) (te : TE) (σ : St) (Q : VK) (J : It) (H1 : Hp) (D : Addr) : Prop :=
  ∃ W : Nat → Nat → Hp → Prop, (∃ m, W 0 m (upd H1 D (.lst []))) ∧ ∀ i m H, W i m H →
    (J.stop i H ∧ Q (.ref D) H) ∨ (J.go i H ∧ ∃ N : Hp → Prop, (∀ H', N H' → ∃ m', m' < m ∧ W (i + 1) m' H') ∧
      ∀ x H', J.yld i H x H' → g x (capt σ cap) H' fun σ2 H2 => tt σ2 H2 fun b H3 => if b = true then te σ2 H3 fun y H4 => ∃ ys, H4 D = some (.lst ys) ∧ ys.length < sizeLine ∧ N (upd H4 D (.lst (ys ++ [y]))) else N H3)
def tComp (cap : List (Option Nat)) (wi : TI) (g : TG) (tt : TT) (te : TE) : TE := fun σ H Q => wi σ H fun J H1 => ∀ D, H1 D = none → CompAt cap g tt te σ Q J H1 D

section
variable {prog : Program} {w : World} {A : Around} {R : Result → Shared → Prop} {s : Shared}
/-- the block's loop, any target -/
theorem compLoop_go {elt target iter : Expr} {ifs : List Expr} {scope : Scope} {pos : Pos} {it acc : Value} {env : Env} (I : Nat → Shared → Prop)
    (turn : ∀ n s, I n s → wpAny (model prog w) A (pyNext it) (fun r s₁ => match r with
      | none => R (.ok .next) s₁
      | some v => wpAny (model prog w) A (letOwnedTupleGo target it v) (fun _ s₁' => wpAny (model prog w) A (assign target env v) (fun _ s₂ =>
          wpAny (model prog w) A (forIn ifs true fun c r => if r = true then do let ok ← isTrue c env (eval c env); pure (ForInStep.yield ok) else pure (ForInStep.yield r)) (fun ok s₃ =>
            if ok = true then wpAny (model prog w) A (eval elt env) (fun x s₄ =>
              wpAny (model prog w) A (call (.builtin "list.append") [acc, x]) (fun _ s₅ => ∃ m, m < n ∧ I m s₅) (notedBy (model prog w) A env fun e s' => R (.error e) s') s₄) (notedBy (model prog w) A env fun e s' => R (.error e) s') s₃
            else ∃ m, m < n ∧ I m s₃) (notedBy (model prog w) A env fun e s' => R (.error e) s') s₂) (notedBy (model prog w) A env fun e s' => R (.error e) s') s₁') (notedBy (model prog w) A env fun e s' => R (.error e) s') s₁)
      (notedBy (model prog w) A env fun e s' => R (.error e) s') s)
    (n : Nat) (h : I n s) : codeAny (model prog w) A (.compLoop (.ListComp elt [⟨target, iter, ifs, 0⟩] scope pos) 0 it acc env) R s := by
  refine codeAny_loop rfl I (fun n s hI => ?_) n h
  show wpAny _ A ((compTurn (.ListComp elt [⟨target, iter, ifs, 0⟩] scope pos) 0 it acc env).onRaise (fun x => do noteFrame x env; theTreesLotGoes x)) _ _ s
  refine wpAny_noted ?_
  rw [compTurn_list]
  refine wpAny_bind (wpAny_standAt (wpAny_bind (wpAny_mono (turn n s hI) (fun r s₁ h₁ => ?_) fun _ _ h' => h')))
  cases r with
  | none => exact wpAny_pure h₁
  | some v =>
    refine wpAny_bind (wpAny_mono h₁ (fun _ s₁' h₁' => ?_) fun _ _ h' => h')
    refine wpAny_bind (wpAny_mono h₁' (fun _ s₂ h₂ => wpAny_bind (wpAny_mono h₂ (fun ok s₃ h₃ => ?_) fun _ _ h' => h')) fun _ _ h' => h')
    cases ok with
    | false => exact wpAny_pure ⟨rfl, h₃⟩
    | true =>
      exact wpAny_bind (wpAny_bind (wpAny_mono h₃ (fun x s₄ h₄ => wpAny_bind (wpAny_mono h₄ (fun _ s₅ h₅ => wpAny_pure (wpAny_pure ⟨rfl, h₅⟩)) fun _ _ h' => h')) fun _ _ h' => h'))
end

section
variable {X : Cx} {pins : List (Addr × Obj)} {σ : St} {H₂ : Hp} {s₂ : Shared} {N' : List Str} {cap : List (Option Nat)} {scope : Scope} {target iter elt : Expr} {ifs : List Expr} {pos : Pos} {it : Addr} {fp : List Addr} {tn : Nat → Heap → Prop} {J : It}
  {g : TG} {tt : TT} {te : TE} {cl : List (Str × Addr)}

theorem CompOk.nocells (ok : CompOk X scope N' cap) : ∀ y ∈ scope.names, y.2 ≠ .cell := fun y hy z => by
  have := List.all_eq_true.mp ok.nocell y hy
  rw [z] at this
  exact absurd this (by decide)
theorem CompOk.locs (ok : CompOk X scope N' cap) : ∀ y ∈ scope.names, y.2 = .local → scope.names.lookup y.1 = some .local := fun y hy z => by
  have := List.all_eq_true.mp ok.names y hy
  rw [z] at this
  simpa using this
theorem outK_or {x : Str} (h : outK X x = true) : X.env.scope.names.lookup x = some .cell ∨ X.env.scope.names.lookup x = some .free := by
  unfold outK at h
  rw [Bool.or_eq_true] at h
  rcases h with h | h
  · exact .inl (by simpa using h)
  · exact .inr (by simpa using h)
theorem CompOk.outs (ok : CompOk X scope N' cap) : ∀ y ∈ scope.names, y.2 = .free → X.env.scope.names.lookup y.1 = some .cell ∨ X.env.scope.names.lookup y.1 = some .free := fun y hy z => by
  have := List.all_eq_true.mp ok.out y hy
  rw [z] at this
  exact outK_or (by simpa using this)
theorem CompOk.caps (ok : CompOk X scope N' cap) {j i : Nat} {y : Str} (h1 : N'[j]? = some y) (h2 : cap[j]? = some (some i)) :
    X.N[i]? = some y ∧ scope.names.lookup y = some .free ∧ (X.env.scope.names.lookup y = some .cell ∨ X.env.scope.names.lookup y = some .free) := by
  have hm : (y, some i) ∈ N'.zip cap := by
    refine List.mem_of_getElem? (i := j) ?_
    rw [List.getElem?_zip_eq_some]
    exact ⟨h1, h2⟩
  have := List.all_eq_true.mp ok.cap _ hm
  simp only [Bool.and_eq_true] at this
  exact ⟨by simpa using this.1, by simpa using this.2.1, outK_or this.2.2⟩
theorem capt_len : (capt σ cap).length = cap.length := by simp [capt]
theorem capt_get {j : Nat} {v : V} (h : (capt σ cap)[j]? = some (some v)) : ∃ i, cap[j]? = some (some i) ∧ σ[i]? = some (some v) := by
  unfold capt at h
  rw [List.getElem?_map] at h
  cases e : cap[j]? with
  | none => rw [e] at h; cases h
  | some o =>
    rw [e] at h
    cases o with
    | none => cases h
    | some i =>
      refine ⟨i, rfl, ?_⟩
      have h' : (σ[i]?).getD none = some v := Option.some.inj h
      cases e' : σ[i]? with
      | none => rw [e'] at h'; cases h'
      | some z => rw [e'] at h'; exact congrArg some h'

theorem comp_block {Q : VK} {RR : Value → Addr → Result → Shared → Prop} (hc : X.calm = true) (ok : CompOk X scope N' cap) (hcl1 : ∀ x c, cl.lookup x = some c → X.env.cells.lookup x = some c)
    (hcl2 : ∀ x ∈ scope.names, x.2 = .free → ∃ c, cl.lookup x.1 = some c) (I2 : Inv X pins σ H₂ s₂) (T : Turn X.prog X.w X.K target J fp it tn) (st2 : tn 0 s₂.heap) (f2 : ∀ b ∈ fp, FpOk X pins H₂ b)
    (hin : ∀ (cl : List (Str × Addr)) (C : Addr) (fp : List Addr) (s₂ : Shared) (H₂ : Hp) (xe : Value → Shared → Prop), PG (inner X scope cl C N' fp s₂ H₂ xe) target g ∧ PIfs (inner X scope cl C N' fp s₂ H₂ xe) ifs tt ∧ PE (inner X scope cl C N' fp s₂ H₂ xe) elt te)
    (hk : KeepsCap cap g)
    (q : ∀ D, H₂ D = none → CompAt cap g tt te σ Q J H₂ D)
    (fin : ∀ D C H' s', Inv X pins σ H' s' → (∃ m, s'.heap.Ns C m) → FpOk X pins H' C → Q (.ref D) H' → RR (.ref D) C (.ok .next) s') :
    wpAny (model X.prog X.w) X.A (newList []) (fun acc s₃ => wpAny (model X.prog X.w) X.A (newFunctionEnv scope X.env.globals cl [] X.env.qual none .none (some X.env)) (fun cenv s₄ =>
      codeAny (model X.prog X.w) X.A (.compStart (.ListComp elt [⟨target, iter, ifs, 0⟩] scope pos) 0 (.ref it) acc { cenv with scope := relabel scope X.env }) (RR acc cenv.locals) s₄) X.xe s₃) X.xe s₂ := by
  refine wpAny_newObj_type (wpAny_newFunctionEnv ok.nocells (by intro y hy; simp at hy) (fun h₁ hns₁ hsb₁ => ?_) ok.kind)
  dsimp only at hns₁ hsb₁ ⊢
  generalize hH2 : s₂.heap.push { cls := .type "list", dict := none, data := .seq ([] : List Value).toArray } = hp2 at hns₁ hsb₁ ⊢
  have hC : hp2.objs.size = s₂.heap.objs.size + 1 := by rw [← hH2, Heap.size_push]
  have hDC : s₂.heap.objs.size ≠ hp2.objs.size := by rw [hC]; exact Nat.ne_of_lt (Nat.lt_succ_self _)
  have hCle : s₂.heap.objs.size ≤ hp2.objs.size := by rw [hC]; exact Nat.le_succ _
  have below : ∀ b, b < s₂.heap.objs.size → b ≠ hp2.objs.size ∧ b ≠ s₂.heap.objs.size := fun b hb => ⟨by rw [hC]; exact Nat.ne_of_lt (Nat.lt_succ_of_lt hb), Nat.ne_of_lt hb⟩
  have old : ∀ b o, s₂.heap.get? b = some o → h₁.get? b = some o := fun b o e => hsb₁.extBut b o (below b (Heap.lt_size e)).1 (Heap.get?_push_of_some _ (hH2 ▸ Heap.get?_push_of_some _ e))
  have hacc : h₁.get? s₂.heap.objs.size = some { cls := .type "list", dict := none, data := .seq ([] : List Value).toArray } := hsb₁.extBut _ _ hDC (Heap.get?_push_of_some _ (hH2 ▸ Heap.get?_push_size _ rfl))
  have fresh : H₂ s₂.heap.objs.size = none := I2.hok.fresh (Nat.le_refl _)
  have freshC : H₂ hp2.objs.size = none := I2.hok.fresh hCle
  obtain ⟨W, ⟨m0, w0⟩, turn⟩ := q s₂.heap.objs.size fresh
  have fpb : ∀ b ∈ fp, b < s₂.heap.objs.size := fun b hb => by
    obtain ⟨o, e, _⟩ := T.obj 0 _ st2 b hb
    exact Heap.lt_size e
  have ok' : ∀ xe, (inner X scope cl hp2.objs.size N' fp s₂ H₂ xe).Ok := fun xe => {
    mod := I2.ok.mod
    kind := ok.kind
    glob := I2.ok.glob
    blt := I2.ok.blt
    above := hCle
    inj := fun x y c a b => I2.ok.inj x y c (hcl1 x c a) (hcl1 y c b)
    has := fun x hx => by
      have key : ∀ k, (k = NameKind.cell ∨ k = NameKind.free) → (relabel scope X.env).names.lookup x = some k → ∃ c, cl.lookup x = some c := fun k hk hl => by
        rcases lookup_relabel_none_or hl with h | ⟨_, h⟩
        · rcases hk with rfl | rfl
          · exact absurd rfl (ok.nocells _ (lookup_mem' h))
          · exact hcl2 _ (lookup_mem' h) rfl
        · exact hcl2 _ (lookup_mem' h) rfl
      rcases hx with hx | hx
      · exact key _ (.inl rfl) hx
      · exact key _ (.inr rfl) hx
    cab := fun x c h => nomatch h
    hd := I2.ok.hd
    frames := I2.ok.frames
    stk := .inl rfl
    exf := fun b hb => ⟨(below b (fpb b hb)).1, fun x c e => (f2 b hb).2.2.2.2.1 x c (hcl1 x c e)⟩
    bs := I2.bs
    bsz := Nat.le_trans I2.ok.bsz I2.sz
    noex := fun b o e hb => by
      rcases (f2 b hb).2.2.2.1 with z | z
      · exact I2.ok.noex b o e z
      · exact absurd (Nat.lt_of_lt_of_le (Heap.lt_size e) (Nat.le_trans I2.ok.bsz z)) (Nat.lt_irrefl _)
    exfs := fun b hb hs => by
      rcases List.mem_cons.mp (I2.stkSub b hs) with z | z
      · exact (f2 b hb).2.1 z
      · exact (f2 b hb).2.2.1 z
    funs := I2.stack
    frf := I2.stkFree }
  have I4 : ∀ xe tk, Inv (inner X scope cl hp2.objs.size N' fp s₂ H₂ xe) [] (capt σ cap) (upd H₂ s₂.heap.objs.size (.lst [])) { s₂ with heap := h₁, toks := tk } := fun xe tk => {
    ok := ok' xe
    os := rfl
    bare := I2.bare
    base := Un.laid old (Nat.le_refl _) fresh
    loc := ⟨_, hns₁, fun j y v e1 e2 e3 => by
      obtain ⟨i, ec, es⟩ := capt_get e2
      obtain ⟨a1, a2, a3⟩ := ok.caps e1 ec
      obtain ⟨m, hn, hl⟩ := I2.loc
      obtain ⟨u, r, L⟩ := hl i y v a1 es (.inr a3)
      refine ⟨u, r, .inr ⟨lookup_relabel_free a2, ?_⟩⟩
      rcases L with ⟨k, _⟩ | ⟨_, c, e, z⟩
      · have k' : X.env.scope.names.lookup y = some .local := k
        rcases a3 with a3 | a3 <;> · rw [k'] at a3; cases a3
      · obtain ⟨c', hc'⟩ := hcl2 _ (lookup_mem' a2) rfl
        have : c' = c := by
          have e1 := hcl1 _ _ hc'
          have e1' : X.env.cells.lookup y = some c' := e1
          rw [e1'] at e
          exact Option.some.inj e
        subst this
        obtain ⟨o, ho, hd⟩ := z
        exact ⟨c', hc', o, old _ o ho, hd⟩⟩
    cell := fun x c e => by
      obtain ⟨v, o, ho, hd⟩ := I2.cell x c (hcl1 x c e)
      exact ⟨v, o, old _ o ho, hd⟩
    free := by
      show upd H₂ s₂.heap.objs.size (.lst []) hp2.objs.size = none
      rw [upd_ne (Ne.symm hDC)]
      exact freshC
    freeC := fun x c e => by
      obtain ⟨v, o, ho, hd⟩ := I2.cell x c (hcl1 x c e)
      rw [upd_ne (Nat.ne_of_lt (Heap.lt_size ho))]
      exact I2.freeC x c (hcl1 x c e)
    pin := fun p hp => nomatch hp
    hok := I2.hok.laid old (Nat.le_refl _) ⟨Nat.zero_le _, [], 0, .nil, hacc⟩
    len := by rw [capt_len]; exact ok.len.symm }
  have stat : ∀ {xe : Value → Shared → Prop} {H' : Hp}, (∀ b ∈ fp, H' b = none) → ∀ b ∈ fp, FpOk (inner X scope cl hp2.objs.size N' fp s₂ H₂ xe) [] H' b := fun {xe H'} hn b hb =>
    ⟨hn b hb, ((ok' xe).exf b hb).1, (ok' xe).exfs b hb, .inl hb, ((ok' xe).exf b hb).2, fun p hp => nomatch hp⟩
  have st4 : tn 0 h₁ := T.keep _ _ _ st2 fun b _ o e => old b o e
  have loop : ∀ s₃ : Shared, s₃ = { s₂ with heap := h₁, toks := s₂.toks + ([] : List (Str × Value)).length } →
      codeAny (model X.prog X.w) X.A (.compLoop (.ListComp elt [⟨target, iter, ifs, 0⟩] scope pos) 0 (.ref it) (.ref s₂.heap.objs.size) (compEnvC scope cl hp2.objs.size X.env))
        (RR (.ref s₂.heap.objs.size) hp2.objs.size) s₃ := by
    rintro s₃ rfl
    let xe : Value → Shared → Prop := notedBy (model X.prog X.w) X.A (compEnvC scope cl hp2.objs.size X.env) fun e s' => RR (.ref s₂.heap.objs.size) hp2.objs.size (.error e) s'
    obtain ⟨hg, hif, hel⟩ := hin cl hp2.objs.size fp s₂ H₂ xe
    refine compLoop_go (fun n s' => ∃ i H', Inv (inner X scope cl hp2.objs.size N' fp s₂ H₂ xe) [] (capt σ cap) H' s' ∧ tn i s'.heap ∧ (∀ b ∈ fp, H' b = none) ∧ W i n H') ?_ m0
      ⟨0, _, I4 xe _, st4, fun b hb => by rw [upd_ne (below b (fpb b hb)).2]; exact (f2 b hb).1, w0⟩
    rintro n s3 ⟨i, H3, I3, st3, fr3, w3⟩
    rcases turn i n H3 w3 with ⟨stop, qn⟩ | ⟨go, N, hN, step⟩
    · refine thn (T.done (inner X scope cl hp2.objs.size N' fp s₂ H₂ xe) rfl rfl rfl hc i [] s3 _ H3 xe I3 (stat fr3) st3 stop) fun r s4 ⟨hr, I4'⟩ => ?_
      subst hr
      obtain ⟨m, hm, _⟩ := I4'.loc
      refine fin _ _ H3 s4 (I2.call' I4'.os I4'.base I4'.hok I4'.bare fun b hb => ?_) ⟨m, hm⟩ (I2.fpOk hCle I4'.free) qn
      obtain ⟨_, a1, _, a3, a4, a5⟩ := f2 b hb
      exact ⟨a3, a1, a4, a5⟩
    · refine thn (T.item (inner X scope cl hp2.objs.size N' fp s₂ H₂ xe) rfl rfl rfl hc i [] s3 _ H3 xe I3 (stat fr3) st3 go) fun r s4 ⟨u, hr, h4⟩ => ?_
      subst hr
      refine thn h4 fun _ s5 ⟨x, H5, I5, r5, y5, st5, fr5⟩ => ?_
      have I5' := I5.pinned (stat fr5) (T.obj _ _ st5)
      have again : ∀ {σ7 : St} {H7 : Hp} {s7 : Shared}, Inv (inner X scope cl hp2.objs.size N' fp s₂ H₂ xe) ([] ++ pinsAt fp s5.heap) σ7 H7 s7 → (σ7.length = (capt σ cap).length ∧ ∀ j i, cap[j]? = some (some i) → σ7[j]? = (capt σ cap)[j]?) → N H7 →
          ∃ m, m < n ∧ ∃ i H', Inv (inner X scope cl hp2.objs.size N' fp s₂ H₂ xe) [] (capt σ cap) H' s7 ∧ tn i s7.heap ∧ (∀ b ∈ fp, H' b = none) ∧ W i m H' := fun {σ7 H7 s7} I7 k7 n7 => by
        obtain ⟨m', hm, w7⟩ := hN H7 n7
        refine ⟨m', hm, i + 1, H7, I7.unpinned.weak k7.1.symm (fun j v e => ?_), T.keep _ _ _ st5 fun b hb o e => (I7.pin (b, o) (List.mem_append_right _ (List.mem_append_right _ (mem_pinsAt hb e)))).1, fun b hb => ?_, w7⟩
        · obtain ⟨i', ec, _⟩ := capt_get e
          rw [k7.2 j i' ec]
          exact e
        · obtain ⟨o, e, d⟩ := T.obj _ _ st5 b hb
          exact (I7.pin (b, o) (List.mem_append_right _ (List.mem_append_right _ (mem_pinsAt hb e)))).2.1
      refine thn (hg _ s5 _ H5 x u _ I5' r5 (hk _ _ _ _ (step x H5 y5))) fun _ s6 ⟨σ6, H6, I6, q6, k6⟩ => ?_
      refine thn (hif _ s6 σ6 H6 _ I6 q6) fun b s7 ⟨H7, I7, q7⟩ => ?_
      cases b with
      | false =>
        rw [if_neg Bool.false_ne_true] at q7 ⊢
        exact again I7 k6 q7
      | true =>
        rw [if_pos rfl] at q7 ⊢
        refine thn (hel _ s7 σ6 H7 _ I7 q7) fun v s8 ⟨y, H8, I8, r8, ys, hD, hz, q8⟩ => ?_
        exact thn (mt_append _ s8 σ6 H8 (.ref s₂.heap.objs.size) [y] (.ref s₂.heap.objs.size) [v] (fun _ H9 => N H9) I8 rfl (.cons r8 .nil) ⟨_, ys, y, rfl, rfl, hD, hz, q8⟩) fun _ s9 ⟨_, H9, I9, _, n9⟩ => again I9 k6 n9
  exact codeAny_compStart_list (loop _ rfl) (T.self _ 0 _ _ _ st4 (loop _ rfl))

/-- [elt for target in iter if ..] as a value -/
theorem pe_comp {wi : TI} (hc : X.calm = true) (ok : CompOk X scope N' cap) (hi : PI X target iter wi)
    (hin : ∀ (cl : List (Str × Addr)) (C : Addr) (fp : List Addr) (s₂ : Shared) (H₂ : Hp) (xe : Value → Shared → Prop), PG (inner X scope cl C N' fp s₂ H₂ xe) target g ∧ PIfs (inner X scope cl C N' fp s₂ H₂ xe) ifs tt ∧ PE (inner X scope cl C N' fp s₂ H₂ xe) elt te)
    (hk : KeepsCap cap g) (hs : ∀ x, foldedSetIterable iter X.env x = pure x := by intro _; rfl) :
    PE X (.ListComp elt [⟨target, iter, ifs, 0⟩] scope pos) (tComp cap wi g tt te) := by
  intro pins s σ H Q I h
  obtain ⟨cl, hcl, c1, c2⟩ := closureFor_has (scope := scope) (env := X.env) fun x hx hf => I.ok.has x.1 (ok.outs x hx hf)
  rw [eval_ListComp]
  refine wpAny_comprehension_free (use := none) rfl hs hcl ok.kind ok.locs ?_
  refine thn (hi pins s σ H _ I h) fun v s1 h1 => thn h1 fun itv s2 h2 => ?_
  obtain ⟨it, fp, tn, J, H2, e, I2, T, st2, f2, q⟩ := h2
  subst e
  refine comp_block (RR := compPost (model X.prog X.w) X.A X.xe none (EP X pins σ Q)) hc ok c1 c2 I2 T st2 f2 hin hk q ?_
  intro D C H' s' I' hm hC q'
  obtain ⟨m, hm⟩ := hm
  refine ⟨m, hm, fun h' hs' => ⟨.ref D, H', ?_, rfl, q'⟩⟩
  obtain ⟨a0, a1, _, a3, a4, a5⟩ := hC
  exact I'.turned (t' := s'.toks) (fun b o hb e => (hs'.2 b hb).trans e) a0 a1 a3 a4 a5
end
end L2

/-! ## data as trees, ==, isinstance, all, zip, // by great numbers -/
namespace L2
open PySem PySem.Spec PyProof.Rows

/-! ### a value stands for a tree of data in an abstract heap -/
mutual
inductive Rep (G : Hp) : V → PyData → Prop
  | non : Rep G .non .none
  | bl (b : Bool) : Rep G (.bl b) (.bool b)
  | int (i : Int) : Rep G (.int i) (.int i)
  | str (x : Str) : Rep G (.str x) (.str x)
  | lst {a : Addr} {xs : List V} {ds : List PyData} : G a = some (.lst xs) → Reps G xs ds → Rep G (.ref a) (.list ds)
  | tup {a : Addr} {xs : List V} {ds : List PyData} : G a = some (.tup xs) → Reps G xs ds → Rep G (.ref a) (.tuple ds)
  | dct {a : Addr} {kvs : List (Key × V)} : G a = some (.dK kvs) → Rep G (.ref a) (.dict [])
inductive Reps (G : Hp) : List V → List PyData → Prop
  | nil : Reps G [] []
  | cons {v : V} {vs : List V} {d : PyData} {ds : List PyData} : Rep G v d → Reps G vs ds → Reps G (v :: vs) (d :: ds)
end
mutual
theorem Rep.mono {G G' : Hp} (s : Same G G') : ∀ {v : V} {d : PyData}, Rep G v d → Rep G' v d
  | _, _, .non => .non
  | _, _, .bl b => .bl b
  | _, _, .int i => .int i
  | _, _, .str x => .str x
  | _, _, .lst e r => .lst (s _ _ e) (Reps.mono s r)
  | _, _, .tup e r => .tup (s _ _ e) (Reps.mono s r)
  | _, _, .dct e => .dct (s _ _ e)
theorem Reps.mono {G G' : Hp} (s : Same G G') : ∀ {v : List V} {d : List PyData}, Reps G v d → Reps G' v d
  | _, _, .nil => .nil
  | _, _, .cons h t => .cons (Rep.mono s h) (Reps.mono s t)
end
theorem Reps.length {G : Hp} : ∀ {vs : List V} {ds : List PyData}, Reps G vs ds → vs.length = ds.length
  | _, _, .nil => rfl
  | _, _, .cons _ t => by rw [List.length_cons, List.length_cons, Reps.length t]
theorem Reps.get {G : Hp} : ∀ {vs : List V} {ds : List PyData} {i : Nat} {v : V}, Reps G vs ds → vs[i]? = some v → ∃ d, ds[i]? = some d ∧ Rep G v d
  | _, _, _, _, .nil, h => by simp at h
  | _, _, 0, _, .cons r _, h => by simp at h; subst h; exact ⟨_, rfl, r⟩
  | _, _, i + 1, v, .cons _ t, h => by
    obtain ⟨d, e, r⟩ := Reps.get (i := i) (v := v) t (by simpa using h)
    exact ⟨d, by simpa using e, r⟩
theorem Reps.append {G : Hp} : ∀ {vs ws : List V} {ds es : List PyData}, Reps G vs ds → Reps G ws es → Reps G (vs ++ ws) (ds ++ es)
  | _, _, _, _, .nil, s => s
  | _, _, _, _, .cons r t, s => .cons r (Reps.append t s)
theorem Reps.snoc {G : Hp} {vs : List V} {v : V} {ds : List PyData} {d : PyData} (h : Reps G vs ds) (r : Rep G v d) : Reps G (vs ++ [v]) (ds ++ [d]) := h.append (.cons r .nil)
mutual
theorem Rep.reads {P : Program} {w : World} {H : Hp} {h : Heap} (ok : HOk P w H h) : ∀ {v : V} {d : PyData} {u : Value}, Rep H v d → d.canLay0 = true → RelV v u → ∃ as, Reads h u d as
  | _, _, _, .non, _, r => by cases r; exact ⟨_, .none⟩
  | _, _, _, .bl b, _, r => by cases r; exact ⟨_, .bool b⟩
  | _, _, _, .int i, _, r => by obtain ⟨t, rfl⟩ := r; exact ⟨_, .int i t⟩
  | _, _, _, .str x, _, r => by obtain ⟨t, rfl⟩ := r; exact ⟨_, .str x t⟩
  | _, .list ds, _, .lst (a := a) (xs := xs) e q, c, r => by
    cases r
    obtain ⟨_, its, n, rv, g⟩ := (show ObjOk P w H h a (.lst xs) from ok a _ e)
    obtain ⟨as, ra⟩ := Reps.reads ok q (by simpa [PyData.canLay0] using c) rv
    exact ⟨_, .list g rfl rfl (by simpa using ra)⟩
  | _, .tuple ds, _, .tup (a := a) (xs := xs) e q, c, r => by
    cases r
    obtain ⟨_, its, rv, o, g, hc, n, hd⟩ := (show ObjOk P w H h a (.tup xs) from ok a _ e)
    obtain ⟨as, ra⟩ := Reps.reads ok q (by simpa [PyData.canLay0] using c) rv
    exact ⟨_, .tuple g hc hd (by simpa using ra)⟩
  | _, _, _, .dct e, c, r => by simp [PyData.canLay0] at c
theorem Reps.reads {P : Program} {w : World} {H : Hp} {h : Heap} (ok : HOk P w H h) : ∀ {vs : List V} {ds : List PyData} {us : List Value}, Reps H vs ds → PyData.canLayAll0 ds = true → Vals vs us → ∃ as, ReadsAll h us ds as
  | _, _, _, .nil, _, .nil => ⟨_, .nil⟩
  | _, _, _, .cons r t, c, .cons rv rt => by
    have c' := c
    rw [PyData.canLayAll0, Bool.and_eq_true] at c'
    obtain ⟨as, ra⟩ := Rep.reads ok r c'.1 rv
    obtain ⟨bs, rb⟩ := Reps.reads ok t c'.2 rt
    exact ⟨_, .cons ra rb⟩
end

section
variable {X : Cx}
/-- == of two trees -/
def rEqD : R2 := fun x y H Q => ∃ d e, Rep H x d ∧ Rep H y e ∧ SeqAt.shaped d = true ∧ SeqAt.shaped e = true ∧ Q (.bl (PyData.eqv d e)) H
def rNeD : R2 := fun x y H Q => ∃ d e, Rep H x d ∧ Rep H y e ∧ SeqAt.shaped d = true ∧ SeqAt.shaped e = true ∧ Q (.bl (!PyData.eqv d e)) H
theorem op_eqD {k : Nat} (hr : Room k X.A) : OpR X (compareOp .Eq) rEqD := by
  intro pins s σ H x y v u Q I rx ry ⟨d, e, rd, re, sd, se, q⟩
  obtain ⟨as, ra⟩ := rd.reads I.hok (SeqAt.canLay_of_shaped sd) rx
  obtain ⟨bs, rb⟩ := re.reads I.hok (SeqAt.canLay_of_shaped se) ry
  exact eq_dataH ra rb sd se hr.units ⟨.bl _, H, I, rfl, q⟩
theorem op_neD {k : Nat} (hr : Room k X.A) : OpR X (compareOp .NotEq) rNeD := by
  intro pins s σ H x y v u Q I rx ry ⟨d, e, rd, re, sd, se, q⟩
  obtain ⟨as, ra⟩ := rd.reads I.hok (SeqAt.canLay_of_shaped sd) rx
  obtain ⟨bs, rb⟩ := re.reads I.hok (SeqAt.canLay_of_shaped se) ry
  exact ne_dataH ra rb sd se hr.units ⟨.bl _, H, I, rfl, q⟩

/-! ### // by any positive number of at most 8000 bits -/
def CDivB (_ j : Int) : Prop := 0 < j ∧ j.natAbs.log2 < 9000
theorem op_fdivB : OpR X (binaryOp .FloorDiv) (rI CDivB fun i j => .int (i / j)) := opI fun i j _ _ _ _ _ hc q => by
  have h0 : (0 : Int) ≤ j := Int.le_of_lt hc.1
  refine floordiv_int (Int.ne_of_gt hc.1) ?_ (.inl (PyProof.noPylong_of_log2 hc.2))
  rw [Int.fdiv_eq_ediv_of_nonneg _ h0]
  exact q

/-! ### isinstance(x, T), T a built-in class -/
def tyD (H : Hp) : V → Option String
  | .non => some "NoneType"
  | .bl _ => some "bool"
  | .int _ => some "int"
  | .str _ => some "str"
  | .ref a => match H a with
    | some (.lst _) => some "list"
    | some (.frz _ (.lst _)) => some "list"
    | some (.tup _) => some "tuple"
    | some (.dK _) => some "dict"
    | _ => none
  | _ => none
def isB (t T : String) : Bool := t == T || (t == "bool" && T == "int")
theorem tyD_of {K : PySem.W.Frag} {H : Hp} {x : V} {t : String} (h : tyD H x = some t) : TyOf K H x (.type t) ∧ t ∈ ["NoneType", "bool", "int", "str", "list", "tuple", "dict"] := by
  cases x with
  | non => cases h; exact ⟨.non, by decide⟩
  | bl b => cases h; exact ⟨.bl b, by decide⟩
  | int i => cases h; exact ⟨.int i, by decide⟩
  | str y => cases h; exact ⟨.str y, by decide⟩
  | ref a =>
    unfold tyD at h
    cases e : H a with
    | none => simp [e] at h
    | some o =>
      cases o with
      | lst xs => simp [e] at h; subst h; exact ⟨.lst e, by decide⟩
      | tup xs => simp [e] at h; subst h; exact ⟨.tup e, by decide⟩
      | dK kvs => simp [e] at h; subst h; exact ⟨.dK e, by decide⟩
      | frz o u =>
        cases u with
        | lst xs => simp [e] at h; subst h; exact ⟨.frz e, by decide⟩
        | _ => simp [e] at h
      | _ => simp [e] at h
  | byt b => cases h
  | flt b => cases h
  | ty n => cases h
theorem kit_pair {K : PySem.W.Frag} {t T : String} (ht : t ∈ ["NoneType", "bool", "int", "str", "list", "tuple", "dict"]) (hT : T ∈ ["int", "bool", "list", "tuple", "str", "dict"]) : PySem.W.kitOne K (.type t) (.type T) = some (isB t T) := by
  have e : PySem.W.kitOne K (.type t) (.type T) = (if (Value.type t == Value.type T) = true then some true else if PySem.W.kitMeta T = true then (fastBuiltinMro t).map (·.contains (.type T)) else none) := rfl
  rw [e]
  have all : ∀ t ∈ ["NoneType", "bool", "int", "str", "list", "tuple", "dict"], ∀ T ∈ ["int", "bool", "list", "tuple", "str", "dict"],
      (if (Value.type t == Value.type T) = true then some true else if PySem.W.kitMeta T = true then (fastBuiltinMro t).map (·.contains (.type T)) else none) = some (isB t T) := by decide +kernel
  exact all t ht T hT
def rIsi : List V → Hp → VK → Prop := fun xs H Q => ∃ x t T, xs = [x, .ty T] ∧ T ∈ ["int", "bool", "list", "tuple", "str", "dict"] ∧ tyD H x = some t ∧ Q (.bl (isB t T)) H
theorem call_isi : CallR X (.builtin "isinstance") rIsi := by
  intro pins s σ H xs us Q I rv ⟨x, t, T, e, hT, ht, q⟩
  subst e
  obtain ⟨u, v, rfl, ru, rv⟩ := rv.two
  cases (show v = Value.type T from rv)
  obtain ⟨ty, hm⟩ := tyD_of (K := X.K) ht
  exact isinst_ok I ru ty (kit_pair hm hT) fun tk => ⟨.bl _, H, I.tok tk, rfl, q⟩

/-! ### all(..) of a list of bools -/
/-! ### several records turn at once, and a new object is laid -/
theorem Inv.turnedL {pins : List (Addr × Obj)} {σ : St} {H : Hp} {s : Shared} {h' : Heap} {t' : Nat} {ch : List Addr} {a : Addr} {o : HO} (I : Inv X pins σ H s) (hch : ∀ b ∈ ch, FpOk X pins H b)
    (k : ∀ b ob, b ∉ ch → s.heap.get? b = some ob → h'.get? b = some ob) (ha : s.heap.objs.size ≤ a) (new : ObjOk X.prog X.w (upd H a o) h' a o) : Inv X pins σ (upd H a o) { s with heap := h', toks := t' } := by
  have hn : H a = none := I.hok.fresh ha
  have nch : ∀ b u, H b = some u → b ∉ ch := fun b u e hb => by rw [(hch b hb).1] at e; cases e
  have lt : ∀ b ob, s.heap.get? b = some ob → b ≠ a := fun b ob e => Nat.ne_of_lt (Nat.lt_of_lt_of_le (Heap.lt_size e) ha)
  refine I.step (g' := s.gens) (d' := s.drawn) (ch := ch) (fun b hb => ?_) (fun b ob _ _ hc e _ => k b ob hc e) (fun b ob _ _ hc e _ => ⟨ob.slots, k b ob hc e⟩) (fun b ob _ e n => by rw [upd_ne (lt b ob e)]; exact n)
    (fun b ob hc e => ⟨ob, k b ob hc e⟩) (fun b xs e => by rw [upd_ne (ne_of_none e hn)]; exact e) (fun b ob u e => by rw [upd_ne (ne_of_none e hn)]; exact e) (fun b ps e => ⟨#[], by rw [upd_ne (ne_of_none e hn), e]; simp⟩) (fun m hm => ?_) (fun b u e => ?_) I.bare
  · obtain ⟨_, a1, _, a3, a4, a5⟩ := hch b hb
    exact ⟨a3, a1, a4, a5⟩
  · obtain ⟨ob, es, ep, ho, r⟩ := hm
    exact ⟨ob, es, ep, k _ ob (fun hb => (hch _ hb).2.1 rfl) ho, r⟩
  · by_cases hb : b = a
    · subst hb; rw [upd_same] at e; cases e; exact new
    · rw [upd_ne hb] at e
      refine (I.hok b u e).stay (fun c v hc q => k c v ?_ q) (fun c q => by rw [upd_ne (ne_of_none q hn)]; exact q) fun c xs q => by rw [upd_ne (ne_of_none q hn)]; exact q
      rcases hc with rfl | hc
      · exact nch _ _ e
      · exact nch _ _ hc
theorem Inv.turnedL0 {pins : List (Addr × Obj)} {σ : St} {H : Hp} {s : Shared} {h' : Heap} {t' : Nat} {ch : List Addr} (I : Inv X pins σ H s) (hch : ∀ b ∈ ch, FpOk X pins H b)
    (k : ∀ b ob, b ∉ ch → s.heap.get? b = some ob → h'.get? b = some ob) : Inv X pins σ H { s with heap := h', toks := t' } := by
  have nch : ∀ b u, H b = some u → b ∉ ch := fun b u e hb => by rw [(hch b hb).1] at e; cases e
  refine I.step (g' := s.gens) (d' := s.drawn) (ch := ch) (fun b hb => ?_) (fun b ob _ _ hc e _ => k b ob hc e) (fun b ob _ _ hc e _ => ⟨ob.slots, k b ob hc e⟩) (fun b ob _ e n => n)
    (fun b ob hc e => ⟨ob, k b ob hc e⟩) (fun b xs e => e) (fun b ob u e => e) (fun b ps e => ⟨#[], by rw [e]; simp⟩) (fun m hm => ?_) (fun b u e => ?_) I.bare
  · obtain ⟨_, a1, _, a3, a4, a5⟩ := hch b hb
    exact ⟨a3, a1, a4, a5⟩
  · obtain ⟨ob, es, ep, ho, r⟩ := hm
    exact ⟨ob, es, ep, k _ ob (fun hb => (hch _ hb).2.1 rfl) ho, r⟩
  · refine (I.hok b u e).stay (fun c v hc q => k c v ?_ q) (fun c q => q) fun c xs q => q
    rcases hc with rfl | hc
    · exact nch _ _ e
    · exact nch _ _ hc

/-! ### zip of two lists, walked with a tuple of names -/
def Itz (K : PySem.W.Frag) (a b : Addr) : It :=
  ⟨fun i H => ∃ xs ys x y, SqL K H a xs ∧ SqL K H b ys ∧ xs[i]? = some x ∧ ys[i]? = some y,
   fun i H v H' => ∃ T x y, H T = none ∧ v = .ref T ∧ H' = upd H T (.tup [x, y]) ∧ (∀ xs, SqL K H a xs → xs[i]? = some x) ∧ (∀ ys, SqL K H b ys → ys[i]? = some y),
   fun i H => ∃ xs ys, SqL K H a xs ∧ SqL K H b ys ∧ (xs.length ≤ i ∨ ys.length ≤ i)⟩
structure Zip5 (z TI TO i1 i2 : Addr) : Prop where
  TIz : TI ≠ z
  TOz : TO ≠ z
  i1z : i1 ≠ z
  i2z : i2 ≠ z
  TITO : TI ≠ TO
  TIi1 : TI ≠ i1
  TIi2 : TI ≠ i2
  TOi1 : TO ≠ i1
  TOi2 : TO ≠ i2
  i12 : i1 ≠ i2
def ZipAt (z TI TO i1 i2 a b : Addr) (i : Nat) (h : Heap) : Prop := IsZip h z TI TO .none ∧ IsPair h TI (.ref i1) (.ref i2) ∧ (∃ u v, IsPair h TO u v) ∧ h.IsListIter i1 a i ∧ h.IsListIter i2 b i
theorem ne_cls {h : Heap} {a b : Addr} {o o' : Obj} (e : h.get? a = some o) (e' : h.get? b = some o') (d : o.cls ≠ o'.cls) : a ≠ b := by
  rintro rfl
  rw [e] at e'
  cases e'
  exact d rfl
theorem ZipAt.apart {z TI TO i1 i2 a b : Addr} {i : Nat} {h : Heap} {xs ys : Array Value} (D : Zip5 z TI TO i1 i2) (st : ZipAt z TI TO i1 i2 a b i h) (ha : h.IsList a xs) (hb : h.IsList b ys) : ZipApart z TI TO i1 i2 a b := by
  obtain ⟨hz, _, ⟨u, v, hTO⟩, ⟨o1, h1, c1, _⟩, ⟨o2, h2, c2, _⟩⟩ := st
  obtain ⟨oa, ga, ca, _⟩ := ha
  obtain ⟨ob, gb, cb, _⟩ := hb
  exact ⟨D.TIz, D.TOz, D.i1z, D.i2z, D.TITO, D.TIi1, D.TIi2, D.TOi1, D.TOi2, D.i12,
    ne_cls ga hz (by rw [ca]; show Value.type "list" ≠ Value.type "zip"; decide), ne_cls ga hTO (by rw [ca]; show Value.type "list" ≠ Value.type "tuple"; decide), ne_cls ga h1 (by rw [ca, c1]; decide), ne_cls ga h2 (by rw [ca, c2]; decide),
    ne_cls gb hz (by rw [cb]; show Value.type "list" ≠ Value.type "zip"; decide), ne_cls gb hTO (by rw [cb]; show Value.type "list" ≠ Value.type "tuple"; decide), ne_cls gb h1 (by rw [cb, c1]; decide), ne_cls gb h2 (by rw [cb, c2]; decide)⟩
def iZip (K : PySem.W.Frag) (ta : TA) : TI := fun σ H R => ta σ H fun vs H1 => ∃ a b, vs = [.ref a, .ref b] ∧ (∃ xs, SqL K H1 a xs) ∧ (∃ ys, SqL K H1 b ys) ∧ R (Itz K a b) H1
end
end L2

/-! ## what the readings use: calls by a bundle, comprehensions that are stored, loops over zip, accumulators -/
namespace L2
open PySem PySem.Spec PyProof.Rows

/-- a def of the text with its promise -/
def Def (P : Program) (w : World) (K : PySem.W.Frag) (mg : Str → Option Value) (base : Heap) (x : Str) (k : Nat) (ps : List Str) (sp : Sp) : Prop :=
  ∃ f fd, FnOk P w K mg base CX0 k f fd ps sp ∧ mg x = some (.ref f) ∧ PySem.W.keepIn K (.ref f) = true ∧ Binds K fd ps []
section
variable {X : Cx} {x : Str} {k k' : Nat} {ps : List Str} {sp : Sp} {e : Expr} {es : List Expr} {t : TA} {p pos : Pos}
theorem pe_callD (D : Def X.prog X.w X.K X.mg X.base x k ps sp) (hr : Room k' X.A) (hg : Gl X x) (ha : PA X (e :: es) t) (hk : k ≤ k' := by decide) (hdb : (x == ("__debug__" : Str)) = false := by decide)
    (he : starEach (e :: es) X.env = (false, eval e X.env) :: starEach es X.env := by rfl) (hpl : (backTo pos (starEach es X.env)).any (·.1) = false := by rfl) :
    PE X (.Call (.Name x p) (e :: es) [] pos) (tCall sp [] E0 t) := by
  obtain ⟨f, fd, F, m, kp, b⟩ := D
  exact pe_call F (hr.mono hk) hg m kp b .nil pass0 ha hdb he hpl
/-! the rules whose readings name the fragment, with the fragment as a letter (within a comprehension the context is bound) -/
section
variable {K : PySem.W.Frag}
theorem ix_lt (hK : X.K = K := by rfl) : IxR X (fun x y H Q => rIxL K x y H Q ∨ rIxT K x y H Q) := by subst hK; exact ix_list.or ix_tup
theorem call_lenK (hK : X.K = K := by rfl) : CallR X (.builtin "len") (fun xs H Q => ∃ p ys, xs = [.ref p] ∧ (SqL K H p ys ∨ SqT K H p ys) ∧ Q (.int ys.length) H) := by subst hK; exact call_len_seq
theorem op_inK (hK : X.K = K := by rfl) : OpR X (compareOp .In) (rIn K false) := by subst hK; exact op_in_seq
theorem op_notInK (hK : X.K = K := by rfl) : OpR X (compareOp .NotIn) (rIn K true) := by subst hK; exact op_notIn_seq
theorem call_listK (hK : X.K = K := by rfl) : CallR X (.type "list") (fun xs H Q => ∃ p ys, xs = [.ref p] ∧ (SqL K H p ys ∨ SqT K H p ys) ∧ ∀ l, H l = none → Q (.ref l) (upd H l (.lst ys))) := by subst hK; exact call_list_of
theorem sl_listK (hK : X.K = K := by rfl) : SlR X (rSlL K) := by subst hK; exact sl_list
theorem pi_listK {l tg : Expr} {tl : TE} (hl : PE X l tl) (hK : X.K = K := by rfl) : PI X tg l (iList K tl) := by subst hK; exact pi_list hl
theorem pg_tupK {es : List Expr} {k : Nat} {t : TGs} {n : Nat} (hc : X.calm = true) (h : PGs X es t) (hK : X.K = K := by rfl)
    (hn : (assignEach es X.env).length = n := by rfl) (hst : (assignEach es X.env).findIdx? (·.1) = none := by rfl) : PG X (.Tuple es k pos) (gTup K n t) := by subst hK; exact pg_tup hc h hn hst
end
end

/-! ### a draw: n // 2 ** k % m is some number from 0 to below m -/
section
variable {X : Cx} {a m : Expr} {ta tm : TE} {k : Int} {j1 j2 : Nat} {p1 p2 p3 p4 p5 : Pos}
def tDraw (ta tm : TE) : TE := fun σ H Q => ta σ H fun x H1 => ∃ i : Int, x = .int i ∧ tm σ H1 fun y H2 => ∃ j : Int, y = .int j ∧ 0 < j ∧ ∀ r : Int, 0 ≤ r → r < j → Q (.int r) H2
theorem pow2_ok (n : Nat) (h : n < 9000) (i : Int) : CDivB i ((2 : Int) ^ n) := by
  have e : ((2 : Int) ^ n) = ((2 ^ n : Nat) : Int) := by simp
  rw [e]
  refine ⟨?_, ?_⟩
  · have := Nat.two_pow_pos n
    omega
  · rw [Int.natAbs_natCast, Nat.log2_two_pow]
    exact h
theorem pe_draw (ha : PE X a ta) (hm : PE X m tm) (h0 : 0 ≤ k := by decide) (h1 : k < 9000 := by decide) :
    PE X (.BinOp (.BinOp a .FloorDiv (.BinOp (.Constant (.int 2) j1 p1) .Pow (.Constant (.int k) j2 p2) p3) p4) .Mod m p5) (tDraw ta tm) := by
  intro pins s σ H Q I h
  refine wpAny_BinOp (wpAny_BinOp (thn (ha pins s σ H _ I h) fun v s1 ⟨x, H1, I1, r1, i, ex, q1⟩ => ?_))
  subst ex
  refine thn ((pe_op op_pow pe_int pe_int : PE X (.BinOp (.Constant (.int 2) j1 p1) .Pow (.Constant (.int k) j2 p2) p3) _) pins s1 σ H1 (fun z H' => z = .int ((2 : Int) ^ k.toNat) ∧ H' = H1) I1 ⟨_, _, rfl, rfl, ⟨h0, by omega, by decide⟩, rfl, rfl⟩) fun u s2 ⟨z, H2, I2, rz, ez, eH⟩ => ?_
  subst ez eH
  refine thn (op_fdivB pins s2 σ H2 (.int i) (.int ((2 : Int) ^ k.toNat)) v u (fun z H' => (∃ d : Int, z = .int d) ∧ H' = H2) I2 r1 rz ⟨i, _, rfl, rfl, pow2_ok _ (by omega) _, ⟨_, rfl⟩, rfl⟩) fun v3 s3 ⟨z, H3, I3, r3, ⟨d, ez⟩, eH⟩ => ?_
  subst ez eH
  refine thn (hm pins s3 σ H3 _ I3 q1) fun u4 s4 ⟨y, H4, I4, r4, j, ey, hj, q4⟩ => ?_
  subst ey
  exact op_mod pins s4 σ H4 (.int d) (.int j) v3 u4 Q I4 r3 r4 ⟨d, j, rfl, rfl, hj, q4 _ (Int.emod_nonneg _ (by omega)) (Int.emod_lt_of_pos _ hj)⟩
end

/-! ### a % m, of which only the bounds are wanted -/
section
variable {X : Cx} {a m : Expr} {ta tm : TE} {pos : Pos}
def tModA (ta tm : TE) : TE := fun σ H Q => ta σ H fun x H1 => ∃ i : Int, x = .int i ∧ tm σ H1 fun y H2 => ∃ j : Int, y = .int j ∧ 0 < j ∧ ∀ r : Int, 0 ≤ r → r < j → Q (.int r) H2
theorem pe_modA (ha : PE X a ta) (hm : PE X m tm) : PE X (.BinOp a .Mod m pos) (tModA ta tm) := by
  intro pins s σ H Q I h
  refine wpAny_BinOp (thn (ha pins s σ H _ I h) fun v s1 ⟨x, H1, I1, r1, i, ex, q1⟩ => ?_)
  subst ex
  refine thn (hm pins s1 σ H1 _ I1 q1) fun u4 s4 ⟨y, H4, I4, r4, j, ey, hj, q4⟩ => ?_
  subst ey
  exact op_mod pins s4 σ H4 (.int i) (.int j) v u4 Q I4 r1 r4 ⟨i, j, rfl, rfl, hj, q4 _ (Int.emod_nonneg _ (by omega)) (Int.emod_lt_of_pos _ hj)⟩
end

/-! ### a comprehension's value stored at once -/
section
variable {X : Cx} {N' : List Str} {cap : List (Option Nat)} {scope : Scope} {target iter elt : Expr} {ifs : List Expr} {pos spos px : Pos} {g : TG} {tt : TT} {te : TE} {wi : TI} {i : Nat} {x : Str}
theorem ps_setC (hN : X.N.Nodup) (hi : X.N[i]? = some x) (hx : X.env.scope.names.lookup x = some .local) (hc : X.calm = true) (ok : CompOk X scope N' cap) (hit : PI X target iter wi)
    (hin : ∀ (cl : List (Str × Addr)) (C : Addr) (fp : List Addr) (s₂ : Shared) (H₂ : Hp) (xe : Value → Shared → Prop), PG (inner X scope cl C N' fp s₂ H₂ xe) target g ∧ PIfs (inner X scope cl C N' fp s₂ H₂ xe) ifs tt ∧ PE (inner X scope cl C N' fp s₂ H₂ xe) elt te)
    (hk : KeepsCap cap g) (hsw : swapsWith (.ListComp elt [⟨target, iter, ifs, 0⟩] scope pos) (some (.Name x px)) spos.line X.env = pure true := by rfl) (hs : ∀ x, foldedSetIterable iter X.env x = pure x := by intro _; rfl) :
    PS X (.Assign [.Name x px] (.ListComp elt [⟨target, iter, ifs, 0⟩] scope pos) spos) (tAsg (tComp cap wi g tt te) (gName i)) := by
  intro pins s σ H D I h
  obtain ⟨cl, hcl, c1, c2⟩ := closureFor_has (scope := scope) (env := X.env) fun x hx hf => I.ok.has x.1 (ok.outs x hx hf)
  rw [exec_Assign_Name_used _ _ _ _ hsw]
  refine wpAny_bind (wpAny_standAt (wpAny_bind ?_))
  show wpAny _ X.A (do let _ ← comprehension (.ListComp elt [⟨target, iter, ifs, 0⟩] scope pos) scope X.env _ (newList []) false (eval iter X.env) (some (assign (.Name x px) X.env))) _ _ s
  refine wpAny_bind (wpAny_mono (wpAny_comprehension_free (use := some (assign (.Name x px) X.env)) (Q := fun _ s' => SP X pins D .next s') rfl hs hcl ok.kind ok.locs ?_) (fun _ s' hq => wpAny_pure (wpAny_pure hq)) fun _ _ e => e)
  refine thn (hit pins s σ H _ I h) fun v s1 h1 => thn h1 fun itv s2 h2 => ?_
  obtain ⟨it, fp, tn, J, H2, e, I2, T, st2, f2, q⟩ := h2
  subst e
  refine comp_block (Q := fun x H1 => gName i x σ H1 D.nx) (RR := compPost (model X.prog X.w) X.A X.xe (some (assign (.Name x px) X.env)) (fun _ s' => SP X pins D .next s')) hc ok c1 c2 I2 T st2 f2 hin hk q ?_
  intro D' C H' s' I' hm hC q'
  obtain ⟨m, hm⟩ := hm
  obtain ⟨a0, a1, _, a3, a4, a5⟩ := hC
  refine wpAny_assign_Name (store_ok2 I' hN hi (.inl hx) (v := .ref D') rfl (fun s'' I'' ⟨a, hsb, ha⟩ => ?_) (.inr hx))
  have hne : C ≠ a := by
    rcases ha with ha | ha
    · rw [ha]; exact a1
    · exact fun z => a4 _ _ ha z.symm
  refine ⟨m, hm.sameBut hsb hne, fun h' hs' => ⟨_, H', ?_, q'⟩⟩
  exact I''.turned (t' := s''.toks) (fun b o hb e => (hs'.2 b hb).trans e) a0 a1 a3 a4 a5
end

/-! ### for over zip -/
theorem same_upd {H : Hp} {p : Addr} (h : H p = none) (o : HO) : Same H (upd H p o) := fun b u q => by rw [upd_ne (ne_of_none q h)]; exact q
/-! ### accumulators of comprehensions -/
def del (H : Hp) (D : Addr) : Hp := fun b => if b = D then none else H b
theorem del_same {H : Hp} {D : Addr} : del H D D = none := by unfold del; rw [if_pos rfl]
theorem del_ne {H : Hp} {D b : Addr} (h : b ≠ D) : del H D b = H b := by unfold del; rw [if_neg h]
theorem upd_del {H : Hp} {D : Addr} {o : HO} : upd (del H D) D o = upd H D o := by
  funext b
  unfold upd del
  split <;> rfl
theorem upd_del_self {H : Hp} {D : Addr} {o : HO} (h : H D = some o) : upd (del H D) D o = H := by
  rw [upd_del]
  funext b
  unfold upd
  split
  · rename_i e; rw [e, h]
  · rfl
def CAcc (D : Addr) (Pn : Hp → List V → Prop) : Hp → Prop := fun H' => ∃ G ys, G D = none ∧ H' = upd G D (.lst ys) ∧ Pn G ys
def CPut (D : Addr) (Pn : Hp → List V → Prop) : VK := fun y H4 => ∃ ys, H4 D = some (.lst ys) ∧ ys.length < sizeLine ∧ CAcc D Pn (upd H4 D (.lst (ys ++ [y])))
theorem cput {D : Addr} {Pn : Hp → List V → Prop} {y : V} {H4 : Hp} {ys : List V} (h : H4 D = some (.lst ys)) (hl : ys.length ≤ 1000) (p : Pn (del H4 D) (ys ++ [y])) : CPut D Pn y H4 :=
  ⟨ys, h, small1000 hl, del H4 D, ys ++ [y], del_same, upd_del.symm, p⟩
theorem cskip {D : Addr} {Pn : Hp → List V → Prop} {H3 : Hp} {ys : List V} (h : H3 D = some (.lst ys)) (p : Pn (del H3 D) ys) : CAcc D Pn H3 := ⟨del H3 D, ys, del_same, (upd_del_self h).symm, p⟩
/-- what was there ahead of the block is there when the accumulator is left out -/
theorem same_del {H1 G H4 : Hp} {D : Addr} {o : HO} (h1 : Same H1 G) (hG : G D = none) (hs : Same (upd G D o) H4) : Same H1 (del H4 D) := fun b u e => by
  have e1 := h1 b u e
  have nb : b ≠ D := ne_of_none e1 hG
  rw [del_ne nb]
  exact hs b u (by rw [upd_ne nb]; exact e1)

section
variable {K : PySem.W.Frag} {g : TG} {tt : TT} {te : TE} {σ : St} {cap : List (Option Nat)} {Q : VK} {H1 : Hp} {D : Addr}
/-- the block, whatever it walks -/
theorem comp_it {J : It} {n : Nat} (Pv : Nat → Hp → List V → Prop) (hD : H1 D = none) (h0 : Pv 0 H1 []) (hgo : ∀ i G ys, i < n → G D = none → Pv i G ys → J.go i (upd G D (.lst ys)))
    (hst : ∀ G ys, G D = none → Pv n G ys → J.stop n (upd G D (.lst ys)))
    (step : ∀ i G ys x H', i < n → G D = none → Pv i G ys → J.yld i (upd G D (.lst ys)) x H' → g x (capt σ cap) H' fun σ2 H2 => tt σ2 H2 fun b H3 => if b = true then te σ2 H3 (CPut D (Pv (i + 1))) else CAcc D (Pv (i + 1)) H3)
    (fin : ∀ G ys, G D = none → Pv n G ys → Q (.ref D) (upd G D (.lst ys))) :
    CompAt cap g tt te σ Q J H1 D := by
  refine ⟨fun i m H => m = n - i ∧ i ≤ n ∧ CAcc D (Pv i) H, ⟨n, by simp, Nat.zero_le _, H1, [], hD, rfl, h0⟩, ?_⟩
  rintro i m H ⟨rfl, hi, G, ys, hG, rfl, p⟩
  by_cases hlt : i < n
  · exact .inr ⟨hgo i G ys hlt hG p, CAcc D (Pv (i + 1)), fun H' q => ⟨n - (i + 1), by omega, rfl, hlt, q⟩, fun x H' y => step i G ys x H' hlt hG p y⟩
  · have e : i = n := by omega
    subst e
    exact .inl ⟨hst G ys hG p, fin G ys hG p⟩
theorem comp_list {a : Addr} {xs : List V} (Pv : Nat → Hp → List V → Prop) (hD : H1 D = none) (h0 : Pv 0 H1 []) (hl : ∀ i G ys, Pv i G ys → SqL K G a xs)
    (step : ∀ i x G ys, xs[i]? = some x → G D = none → Pv i G ys → g x (capt σ cap) (upd G D (.lst ys)) fun σ2 H2 => tt σ2 H2 fun b H3 => if b = true then te σ2 H3 (CPut D (Pv (i + 1))) else CAcc D (Pv (i + 1)) H3)
    (fin : ∀ G ys, G D = none → Pv xs.length G ys → Q (.ref D) (upd G D (.lst ys))) :
    CompAt cap g tt te σ Q (Itl K a) H1 D := by
  refine comp_it (J := Itl K a) (n := xs.length) Pv hD h0 (fun i G ys hi hG p => ⟨xs, xs[i], (same_upd hG _).seq (hl i G ys p), by simp [hi]⟩) (fun G ys hG p => ⟨xs, (same_upd hG _).seq (hl _ G ys p), Nat.le_refl _⟩) (fun i G ys x H' hi hG p y => ?_) fin
  obtain ⟨e, y⟩ := y
  subst e
  exact step i x G ys (y xs ((same_upd hG _).seq (hl i G ys p))) hG p
theorem comp_range {lo : Int} {n : Nat} (Pv : Nat → Hp → List V → Prop) (hD : H1 D = none) (h0 : Pv 0 H1 [])
    (step : ∀ i G ys, i < n → G D = none → Pv i G ys → g (.int (lo + i)) (capt σ cap) (upd G D (.lst ys)) fun σ2 H2 => tt σ2 H2 fun b H3 => if b = true then te σ2 H3 (CPut D (Pv (i + 1))) else CAcc D (Pv (i + 1)) H3)
    (fin : ∀ G ys, G D = none → Pv n G ys → Q (.ref D) (upd G D (.lst ys))) :
    CompAt cap g tt te σ Q (Itr lo n) H1 D := by
  refine comp_it (J := Itr lo n) (n := n) Pv hD h0 (fun i G ys hi hG p => hi) (fun G ys hG p => Nat.le_refl _) (fun i G ys x H' hi hG p y => ?_) fin
  obtain ⟨e, y⟩ := y
  subst e
  subst y
  exact step i G ys hi hG p
end

/-! ### a block whose items are flat: fl i says the i-th item, none where a test leaves it out -/
def FlatP (H1 : Hp) (fl : Nat → Option V) : Nat → Hp → List V → Prop := fun i G ys => Same H1 G ∧ ys = (List.range i).filterMap fl
theorem FlatP.zero {H1 : Hp} {fl : Nat → Option V} : FlatP H1 fl 0 H1 [] := ⟨Same.refl _, rfl⟩
theorem FlatP.put {H1 G H4 : Hp} {D : Addr} {ys : List V} {fl : Nat → Option V} {i : Nat} {y : V} (p : FlatP H1 fl i G ys) (hG : G D = none) (hs : Same (upd G D (.lst ys)) H4) (hf : fl i = some y) (hi : i ≤ 1000) : CPut D (FlatP H1 fl (i + 1)) y H4 := by
  obtain ⟨h1, hy⟩ := p
  refine cput (hs D _ upd_same) ?_ ⟨same_del h1 hG hs, ?_⟩
  · rw [hy]
    exact Nat.le_trans (List.length_filterMap_le _ _) (by rw [List.length_range]; exact hi)
  · rw [List.range_succ, List.filterMap_append, ← hy]
    simp [hf]
theorem FlatP.skip {H1 G H4 : Hp} {D : Addr} {ys : List V} {fl : Nat → Option V} {i : Nat} (p : FlatP H1 fl i G ys) (hG : G D = none) (hs : Same (upd G D (.lst ys)) H4) (hf : fl i = none) : CAcc D (FlatP H1 fl (i + 1)) H4 := by
  obtain ⟨h1, hy⟩ := p
  refine cskip (hs D _ upd_same) ⟨same_del h1 hG hs, ?_⟩
  rw [List.range_succ, List.filterMap_append, ← hy]
  simp [hf]
theorem flat_list {α : Type} {β : Type} (xs : List α) (h : α → Option β) : (List.range xs.length).filterMap (fun i => (xs[i]?).bind h) = xs.filterMap h := by
  induction xs with
  | nil => rfl
  | cons x r ih =>
    rw [List.length_cons, List.range_succ_eq_map, List.filterMap_cons, List.filterMap_map, List.filterMap_cons]
    have e : ((fun i => ((x :: r)[i]?).bind h) ∘ Nat.succ) = fun i => (r[i]?).bind h := by
      funext i; simp
    rw [e, ih]
    simp
end L2

/-! ## ways along ends: the mathematics of point 5, in plain Lean -/
namespace Ways
theorem nodup_bound : ∀ (n : Nat) (l : List Nat), l.Nodup → (∀ x ∈ l, x < n) → l.length ≤ n
  | 0, l, _, h => by
    cases l with
    | nil => exact Nat.le_refl _
    | cons x r => exact absurd (h x List.mem_cons_self) (Nat.not_lt_zero _)
  | n + 1, l, nd, h => by
    by_cases hm : n ∈ l
    · have ih := nodup_bound n (l.erase n) (nd.erase n) fun x hx => by
        have h1 := (nd.mem_erase_iff).mp hx
        have h2 := h x h1.2
        have h3 := h1.1
        omega
      have e := List.length_erase_of_mem hm
      omega
    · have ih := nodup_bound n l nd fun x hx => by
        have h2 := h x hx
        have h3 : x ≠ n := fun q => hm (q ▸ hx)
        omega
      omega

/-- the end of the arrow at p -/
def nextE (es : List (Option Nat)) (p : Nat) : Option Nat := (es[p]?).join
def walk (es : List (Option Nat)) (p : Nat) : Nat → Nat
  | 0 => p
  | k + 1 => match nextE es (walk es p k) with
    | none => walk es p k
    | some e => e
def rootB (es : List (Option Nat)) (p : Nat) : Bool := (nextE es (walk es p es.length)).isNone
/-- all ends lie within -/
def InB (es : List (Option Nat)) : Prop := ∀ p e, nextE es p = some e → e < es.length
/-- a way: from p on, each next one the end at the one ahead, none twice -/
structure Way (es : List (Option Nat)) (p : Nat) (way : List Nat) : Prop where
  hd : way.head? = some p
  nd : way.Nodup
  bd : ∀ x ∈ way, x < es.length
  ch : ∀ i a b, way[i]? = some a → way[i + 1]? = some b → nextE es a = some b
theorem Way.one {es : List (Option Nat)} {p : Nat} (h : p < es.length) : Way es p [p] :=
  ⟨rfl, by simp, by intro x hx; simp at hx; omega, by intro i a b _ h2; simp at h2⟩
theorem Way.more {es : List (Option Nat)} {p q l : Nat} {way : List Nat} (w : Way es p way) (hl : way.getLast? = some l) (e : nextE es l = some q) (hq : q ∉ way) (hb : InB es) : Way es p (way ++ [q]) := by
  refine ⟨?_, ?_, ?_, ?_⟩
  · have := w.hd
    cases way with
    | nil => simp at this
    | cons a r => simpa using this
  · rw [List.nodup_append]
    refine ⟨w.nd, by simp, fun a ha b hb' => ?_⟩
    simp at hb'
    rintro rfl
    exact hq (hb' ▸ ha)
  · intro x hx
    rcases List.mem_append.mp hx with h | h
    · exact w.bd x h
    · simp at h
      rw [h]
      exact hb _ _ e
  · intro i a b h1 h2
    by_cases hi : i + 1 < way.length
    · rw [List.getElem?_append_left hi] at h2
      rw [List.getElem?_append_left (by omega)] at h1
      exact w.ch i a b h1 h2
    · have hlen : i + 1 = way.length := by
        have := (List.getElem?_eq_some_iff.mp h2).1
        rw [List.length_append, List.length_singleton] at this
        omega
      rw [List.getElem?_append_right (by omega)] at h2
      have hb2 : b = q := by
        rw [hlen, Nat.sub_self] at h2
        simpa using h2.symm
      rw [List.getElem?_append_left (by omega)] at h1
      have hl2 : way.getLast? = some a := by
        rw [List.getLast?_eq_getElem?]
        rw [show way.length - 1 = i by omega]
        exact h1
      rw [hl] at hl2
      cases hl2
      rw [hb2]
      exact e
theorem Way.len {es : List (Option Nat)} {p : Nat} {way : List Nat} (w : Way es p way) : way.length ≤ es.length := nodup_bound _ _ w.nd w.bd
theorem Way.pos {es : List (Option Nat)} {p : Nat} {way : List Nat} (w : Way es p way) : 0 < way.length := by
  have := w.hd
  cases way with
  | nil => simp at this
  | cons a r => simp
/-- the walk goes along the way -/
theorem Way.at {es : List (Option Nat)} {p : Nat} {way : List Nat} (w : Way es p way) : ∀ k, k < way.length → way[k]? = some (walk es p k)
  | 0, h => by
    have := w.hd
    cases way with
    | nil => simp at this
    | cons a r => simpa [walk] using this
  | k + 1, h => by
    have ih := w.at k (by omega)
    have hb : way[k + 1]? = some way[k + 1] := List.getElem?_eq_getElem h
    have e := w.ch k _ _ ih hb
    rw [hb]
    simp only [walk, e]
theorem walk_stays {es : List (Option Nat)} {p k : Nat} (h : nextE es (walk es p k) = none) : ∀ j, walk es p (k + j) = walk es p k
  | 0 => rfl
  | j + 1 => by
    have ih := walk_stays h j
    rw [show k + (j + 1) = (k + j) + 1 by omega]
    simp only [walk, ih, h]
theorem Way.root {es : List (Option Nat)} {p l : Nat} {way : List Nat} (w : Way es p way) (hl : way.getLast? = some l) (e : nextE es l = none) : rootB es p = true := by
  have hp := w.pos
  have hk := w.at (way.length - 1) (by omega)
  rw [List.getLast?_eq_getElem?, hk] at hl
  cases hl
  have := w.len
  have st := walk_stays e (es.length - (way.length - 1))
  rw [show (way.length - 1) + (es.length - (way.length - 1)) = es.length by omega] at st
  unfold rootB
  rw [st, e]
  rfl
theorem Way.ring {es : List (Option Nat)} {p l q : Nat} {way : List Nat} (w : Way es p way) (hl : way.getLast? = some l) (e : nextE es l = some q) (hq : q ∈ way) : rootB es p = false := by
  have hp := w.pos
  have some_of : ∀ x ∈ way, ∃ y ∈ way, nextE es x = some y := fun x hx => by
    obtain ⟨i, hi, rfl⟩ := List.mem_iff_getElem.mp hx
    by_cases h : i + 1 < way.length
    · exact ⟨way[i + 1], List.getElem_mem h, w.ch i _ _ (List.getElem?_eq_getElem hi) (List.getElem?_eq_getElem h)⟩
    · have : way.getLast? = some way[i] := by
        rw [List.getLast?_eq_getElem?, show way.length - 1 = i by omega]
        exact List.getElem?_eq_getElem hi
      rw [hl] at this
      cases this
      exact ⟨q, hq, e⟩
  have inw : ∀ k, walk es p k ∈ way := fun k => by
    induction k with
    | zero =>
      have := w.at 0 hp
      exact List.mem_of_getElem? this
    | succ k ih =>
      obtain ⟨y, hy, ey⟩ := some_of _ ih
      simp only [walk, ey]
      exact hy
  obtain ⟨y, _, ey⟩ := some_of _ (inw es.length)
  unfold rootB
  rw [ey]
  rfl
end Ways

/-! ## nets as data: shapes, equality, fitting -/
namespace Ring
open PySem Ways
abbrev Net := List (List (Int × Int))
def arrD (a : Int × Int) : PyData := .tuple [.int a.1, .int a.2]
def rowD (r : List (Int × Int)) : PyData := .list (r.map arrD)
def netD (n : Net) : PyData := .list (n.map rowD)
/-- a net with one to eight places whose arrows lead to places (what the laws make) -/
structure NetOk (n : Net) : Prop where
  pos : 1 ≤ n.length
  len : n.length ≤ 8
  row : ∀ r ∈ n, r.length ≤ 8 ∧ ∀ a ∈ r, 0 ≤ a.1 ∧ a.1 < n.length
/-- at most so deep, and of texts that can be laid -/
def okTo (k : Nat) (d : PyData) : Prop := d.canLay0 = true ∧ d.depth ≤ k
theorem canLayAll_of {k : Nat} : ∀ {ds : List PyData}, (∀ d ∈ ds, okTo k d) → PyData.canLayAll0 ds = true ∧ PyData.depthAll ds ≤ k
  | [], _ => ⟨by simp [PyData.canLayAll0], by simp [PyData.depthAll]⟩
  | d :: r, h => by
    have h1 := h d List.mem_cons_self
    have h2 := canLayAll_of fun x hx => h x (List.mem_cons_of_mem _ hx)
    refine ⟨by simp [PyData.canLayAll0, h1.1, h2.1], ?_⟩
    simp only [PyData.depthAll]
    have := h1.2
    have := h2.2
    omega
theorem okTo.list {k : Nat} {ds : List PyData} (h : ∀ d ∈ ds, okTo k d) : okTo (k + 1) (.list ds) := by
  have := canLayAll_of h
  exact ⟨by simp [PyData.canLay0, this.1], by simp only [PyData.depth]; omega⟩
theorem okTo.tuple {k : Nat} {ds : List PyData} (h : ∀ d ∈ ds, okTo k d) : okTo (k + 1) (.tuple ds) := by
  have := canLayAll_of h
  exact ⟨by simp [PyData.canLay0, this.1], by simp only [PyData.depth]; omega⟩
theorem okTo.mono {j k : Nat} {d : PyData} (h : okTo j d) (hk : j ≤ k) : okTo k d := ⟨h.1, Nat.le_trans h.2 hk⟩
theorem okTo.int (i : Int) : okTo 0 (.int i) := ⟨by simp [PyData.canLay0], by simp [PyData.depth]⟩
theorem okTo.none : okTo 0 .none := ⟨by simp [PyData.canLay0], by simp [PyData.depth]⟩
theorem okTo.bool (b : Bool) : okTo 0 (.bool b) := ⟨by simp [PyData.canLay0], by simp [PyData.depth]⟩
theorem okTo.shaped {k : Nat} {d : PyData} (h : okTo k d) (hk : k ≤ 64) : SeqAt.shaped d = true := by
  unfold SeqAt.shaped
  rw [h.1, decide_eq_true (Nat.le_trans h.2 hk)]
  rfl
theorem eqvAll_map {α : Type} [DecidableEq α] {f : α → PyData} (hf : ∀ a b, PyData.eqv (f a) (f b) = decide (a = b)) : ∀ xs ys : List α, PyData.eqvAll (xs.map f) (ys.map f) = decide (xs = ys)
  | [], [] => by simp [PyData.eqvAll]
  | [], _ :: _ => by simp [PyData.eqvAll]
  | _ :: _, [] => by simp [PyData.eqvAll]
  | a :: r, b :: t => by
    simp only [List.map_cons, PyData.eqvAll, hf, eqvAll_map hf r t]
    by_cases h : a = b <;> by_cases h' : r = t <;> simp [h, h']
theorem eqv_int (a b : Int) : PyData.eqv (.int a) (.int b) = decide (a = b) := by
  simp only [PyData.eqv]
  by_cases h : a = b <;> simp [h]
/-! ### trees -/
def optE : PyData → Option Nat
  | .int e => some e.toNat
  | _ => none
def fitsD (row : List (Int × Int)) (d : PyData) : Bool :=
  if row = [] then (match d with | .none => true | _ => false) else match d with | .int e => decide (e ∈ row.map (·.1)) | _ => false
def goodD (net : Net) : PyData → Bool
  | .list ds => decide (ds.length = net.length) && (net.zip ds).all (fun p => fitsD p.1 p.2) && (List.range net.length).all (fun p => rootB (ds.map optE) p)
  | _ => false
end Ring

/-! ## trees by hanging place on place -/
namespace Ring
open PySem Ways
def optPy : Option Nat → PyData
  | none => .none
  | some e => .int e
structure TreeOf (net : Net) (tr : List (Option Nat)) : Prop where
  len : tr.length = net.length
  fits : ∀ (p : Nat) row, net[p]? = some row → (row = [] ∧ nextE tr p = none) ∨ (row ≠ [] ∧ ∃ e : Nat, nextE tr p = some e ∧ (e : Int) ∈ row.map (·.1))
  root : ∀ p, p < net.length → rootB tr p = true
structure Hung (net : Net) (tr : List (Option Nat)) (hg : List Nat) : Prop where
  len : tr.length = net.length
  nd : hg.Nodup
  bd : ∀ p ∈ hg, p < net.length
  ok : ∀ (i p : Nat), hg[i]? = some p → (net[p]? = some [] ∧ nextE tr p = none) ∨ (∃ row e j, net[p]? = some row ∧ row ≠ [] ∧ nextE tr p = some e ∧ (e : Int) ∈ row.map (·.1) ∧ hg[j]? = some e ∧ j < i)
theorem Hung.start {net : Net} {tr : List (Option Nat)} {hg : List Nat} (hl : tr.length = net.length) (hn : ∀ p, nextE tr p = none) (nd : hg.Nodup) (hr : ∀ p ∈ hg, net[p]? = some []) : Hung net tr hg :=
  ⟨hl, nd, fun p hp => (List.getElem?_eq_some_iff.mp (hr p hp)).1, fun i p hp => .inl ⟨hr p (List.mem_of_getElem? hp), hn p⟩⟩
/-- n places below n, none twice, are all -/
theorem all_of_full : ∀ (n : Nat) (l : List Nat), l.Nodup → (∀ x ∈ l, x < n) → n ≤ l.length → ∀ p, p < n → p ∈ l := fun n l nd bd hl p hp => by
  by_cases hm : p ∈ l
  · exact hm
  · have h1 : (p :: l).Nodup := List.nodup_cons.mpr ⟨hm, nd⟩
    have h2 := nodup_bound n (p :: l) h1 fun x hx => by
      rcases List.mem_cons.mp hx with rfl | z
      · exact hp
      · exact bd x z
    rw [List.length_cons] at h2
    omega
/-- along a hung tree the places stand ever further ahead -/
theorem Hung.down {net : Net} {tr : List (Option Nat)} {hg : List Nat} (h : Hung net tr hg) : ∀ (k i p : Nat), hg[i]? = some p → nextE tr (walk tr p k) = none ∨ ∃ j, hg[j]? = some (walk tr p k) ∧ j + k ≤ i
  | 0, i, p, hp => .inr ⟨i, hp, Nat.le_refl _⟩
  | k + 1, i, p, hp => by
    rcases h.down k i p hp with z | ⟨j, hj, hk⟩
    · left
      have := walk_stays z 1
      rw [this]
      exact z
    · rcases h.ok j _ hj with ⟨_, z⟩ | ⟨row, e, j', a1, a2, a3, a4, a5, a6⟩
      · left
        have := walk_stays z 1
        rw [this]
        exact z
      · right
        refine ⟨j', ?_, by omega⟩
        simp only [walk, a3]
        exact a5
theorem Hung.tree {net : Net} {tr : List (Option Nat)} {hg : List Nat} (h : Hung net tr hg) (full : net.length ≤ hg.length) : TreeOf net tr := by
  have all := all_of_full net.length hg h.nd h.bd full
  have hlen : hg.length ≤ net.length := nodup_bound _ _ h.nd h.bd
  refine ⟨h.len, fun p row hp => ?_, fun p hp => ?_⟩
  · obtain ⟨i, hi, ei⟩ := List.mem_iff_getElem.mp (all p (List.getElem?_eq_some_iff.mp hp).1)
    rcases h.ok i p (by rw [List.getElem?_eq_getElem hi, ei]) with ⟨z, e⟩ | ⟨row', e, j, a1, a2, a3, a4, _⟩
    · rw [hp] at z
      cases z
      exact .inl ⟨rfl, e⟩
    · rw [hp] at a1
      cases a1
      exact .inr ⟨a2, e, a3, a4⟩
  · obtain ⟨i, hi, ei⟩ := List.mem_iff_getElem.mp (all p hp)
    unfold rootB
    rcases h.down tr.length i p (by rw [List.getElem?_eq_getElem hi, ei]) with z | ⟨j, _, hk⟩
    · rw [z]; rfl
    · rw [h.len] at hk
      omega
theorem optE_optPy (tr : List (Option Nat)) : (tr.map optPy).map optE = tr := by
  rw [List.map_map]
  have : (optE ∘ optPy) = id := by
    funext o
    cases o with
    | none => rfl
    | some e => simp [optE, optPy]
  rw [this, List.map_id]
theorem TreeOf.good {net : Net} {tr : List (Option Nat)} (h : TreeOf net tr) : goodD net (.list (tr.map optPy)) = true := by
  show (decide ((tr.map optPy).length = net.length) && (net.zip (tr.map optPy)).all (fun p => fitsD p.1 p.2) && (List.range net.length).all (fun p => rootB ((tr.map optPy).map optE) p)) = true
  rw [optE_optPy, List.length_map, h.len, decide_eq_true rfl, Bool.true_and, Bool.and_eq_true]
  refine ⟨List.all_eq_true.mpr fun x hx => ?_, List.all_eq_true.mpr fun p hp => h.root p (List.mem_range.mp hp)⟩
  obtain ⟨i, hi, ei⟩ := List.mem_iff_getElem.mp hx
  have hi' := hi
  rw [List.length_zip, List.length_map] at hi'
  have hn1 : i < net.length := by omega
  have hn2 : i < (tr.map optPy).length := by rw [List.length_map]; omega
  have hn3 : i < tr.length := by omega
  have e1 : x = (net[i], (tr.map optPy)[i]) := by rw [← ei, List.getElem_zip]
  rw [e1, List.getElem_map]
  have hn : nextE tr i = tr[i] := by
    unfold nextE
    rw [List.getElem?_eq_getElem (by omega)]
    rfl
  rcases h.fits i net[i] (List.getElem?_eq_getElem (by omega)) with ⟨a, b⟩ | ⟨a, e, b, c⟩
  · rw [hn] at b
    rw [a, b]
    rfl
  · rw [hn] at b
    rw [b]
    unfold fitsD
    rw [if_neg a]
    exact decide_eq_true c
end Ring

/-! ## min, max, sorted, set, len of a set, index, any -/
namespace L2
open PySem PySem.Spec PyProof.Rows
section
variable {X : Cx}
theorem best_mem (bt : Nat → Nat → Bool) : ∀ k, argBest bt k ≤ k
  | 0 => Nat.le_refl _
  | k + 1 => by
    unfold argBest
    split
    · exact Nat.le_refl _
    · exact Nat.le_succ_of_le (best_mem bt k)
theorem best_lt (val : Nat → Int) : ∀ k j, j ≤ k → val (argBest (fun i j => decide (val i < val j)) k) ≤ val j
  | 0, j, h => by
    have : j = 0 := by omega
    subst this
    exact Int.le_refl _
  | k + 1, j, h => by
    have ih := fun j hj => best_lt val k j hj
    unfold argBest
    split
    · rename_i c
      have c' : val (k + 1) < val (argBest (fun i j => decide (val i < val j)) k) := by simpa using c
      by_cases hj : j = k + 1
      · subst hj; exact Int.le_refl _
      · have := ih j (by omega); omega
    · rename_i c
      have c' : ¬ val (k + 1) < val (argBest (fun i j => decide (val i < val j)) k) := by simpa using c
      by_cases hj : j = k + 1
      · subst hj; omega
      · exact ih j (by omega)
theorem valsInts : ∀ {ns : List Int} {its : List Value}, Vals (ns.map V.int) its → IntsAre its ns
  | [], _, .nil => .nil
  | n :: r, _, .cons ⟨t, e⟩ s => by subst e; exact .cons n t (valsInts s)
theorem getD_at {ns : List Int} {i : Nat} (h : i < ns.length) : ns.getD i 0 ∈ ns := by
  rw [List.getD_eq_getElem?_getD, List.getElem?_eq_getElem h]
  exact List.getElem_mem h
def rMin (K : PySem.W.Frag) : List V → Hp → VK → Prop := fun xs H Q => ∃ (p : Addr) (ns : List Int), xs = [.ref p] ∧ SqL K H p (ns.map V.int) ∧ ns ≠ [] ∧ ∀ m, m ∈ ns → (∀ x ∈ ns, m ≤ x) → Q (.int m) H
def rMax (K : PySem.W.Frag) : List V → Hp → VK → Prop := fun xs H Q => ∃ (p : Addr) (ns : List Int), xs = [.ref p] ∧ SqL K H p (ns.map V.int) ∧ ns ≠ [] ∧ ∀ m, m ∈ ns → (∀ x ∈ ns, x ≤ m) → Q (.int m) H
theorem call_minL (hc : X.calm = true) : CallR X (.builtin "min") (rMin X.K) := by
  intro pins s σ H xs us Q I rv ⟨p, ns, e, hq, hne, q⟩
  subst e
  obtain ⟨u, rfl, ru⟩ := rv.one
  cases ru
  obtain ⟨its, r, pl, hz⟩ := I.list hq
  have hi := valsInts r
  have hl := r.length
  rw [List.length_map] at hl
  have hpos : 0 < ns.length := List.length_pos_iff.mpr hne
  refine call_min_walk (wpAny_pyIter_list pl.isList ?_)
  have hp : p ≠ s.heap.objs.size := by
    obtain ⟨_, ho, _⟩ := pl.isList
    exact Nat.ne_of_lt (Heap.lt_size ho)
  have hval : ∀ i v, its.toArray[i]? = some v → ∃ t, v = Value.int (ns.getD i 0) t := fun i v hv => hi.int_at i v (by simpa using hv)
  refine ⟨s.heap.objs.size, _, _, _, _, _, _, rfl, Walks.list (A := X.A.in1) (I.ok.hd hc) s.heap.objs.size p hp its.toArray, ⟨⟨_, Heap.get?_push_size _ rfl, rfl, rfl⟩, pl.isList.push _⟩, ?_, ?_, CmpOf.ints_lt (fun i => ns.getD i 0) hval, fun v h' tk hv hk => ?_⟩
  · intro b hb
    show b < (s.heap.push _).objs.size
    rw [Heap.size_push]
    have hb' : b = s.heap.objs.size ∨ b = p := by simpa using hb
    rcases hb' with rfl | rfl
    · exact Nat.lt_succ_self _
    · obtain ⟨_, ho, _⟩ := pl.isList
      exact Nat.lt_succ_of_lt (Heap.lt_size ho)
  · simp only [List.size_toArray]; omega
  · obtain ⟨t, rfl⟩ := hval _ _ hv
    simp only [List.size_toArray] at hv ⊢
    have hb := best_mem (fun i j => decide (ns.getD i 0 < ns.getD j 0)) (its.length - 1)
    refine ⟨.int _, H, I.kept (t' := tk) fun b o ho => hk b o ?_ (Heap.get?_push_of_some _ ho), ⟨t, rfl⟩, q _ (getD_at (by omega)) fun x hx => ?_⟩
    · intro hb
      have : b = s.heap.objs.size := by simpa using hb
      exact absurd (Heap.lt_size ho) (by rw [this]; exact Nat.lt_irrefl _)
    · obtain ⟨j, hj, rfl⟩ := List.mem_iff_getElem.mp hx
      have := best_lt (fun i => ns.getD i 0) (its.length - 1) j (by omega)
      have e : ns.getD j 0 = ns[j] := by
        rw [List.getD_eq_getElem?_getD, List.getElem?_eq_getElem hj]
        rfl
      rw [e] at this
      exact this
/-- sorted(..) of fewer than 64 ints: a new list -/
def rSorted (K : PySem.W.Frag) : List V → Hp → VK → Prop := fun xs H Q => ∃ (p : Addr) (ns : List Int), xs = [.ref p] ∧ SqL K H p (ns.map V.int) ∧ ns.length < 64 ∧
  ∀ (l : Addr) (ns' : List Int), H l = none → ns'.Perm ns → ns'.Pairwise (· ≤ ·) → Q (.ref l) (upd H l (.lst (ns'.map V.int)))
/-- set(..) of ints: a new set, whose size is told -/
def dedup (ns : List Int) : List Int := firstMet (fun i => ns.getD i 0) ns.length
def rSet (K : PySem.W.Frag) : List V → Hp → VK → Prop := fun xs H Q => ∃ (p : Addr) (ns : List Int), xs = [.ref p] ∧ SqL K H p (ns.map V.int) ∧ ns.length ≤ 1000 ∧
  ∀ l S, H l = none → Q (.ref l) (upd H l (.set S (dedup ns).length))
theorem nodup_inj {α : Type} {l : List α} {i j : Nat} (h : l.Nodup) (hi : i < l.length) (hj : j < l.length) (e : l[i] = l[j]) : i = j := by
  have h' := List.pairwise_iff_getElem.mp h
  rcases Nat.lt_trichotomy i j with z | z | z
  · exact absurd e (h' i j hi hj z)
  · exact z
  · exact absurd e.symm (h' j i hj hi z)
/-- any(..) of a list of bools -/
theorem call_any (hc : X.calm = true) : CallR X (.builtin "any") (fun xs H Q => ∃ (p : Addr) (bs : List Bool), xs = [.ref p] ∧ SqL X.K H p (bs.map V.bl) ∧ Q (.bl (bs.any id)) H) := by
  intro pins s σ H xs us Q I rv ⟨p, bs, e, hq, q⟩
  subst e
  obtain ⟨u, rfl, ru⟩ := rv.one
  cases ru
  obtain ⟨its, r, pl, hz⟩ := I.list hq
  refine call_any_walk (wpAny_pyIter_list pl.isList ?_)
  have hp : p ≠ s.heap.objs.size := by
    obtain ⟨_, ho, _⟩ := pl.isList
    exact Nat.ne_of_lt (Heap.lt_size ho)
  refine ⟨s.heap.objs.size, _, _, _, _, _, fun i => bs.getD i false, rfl, Walks.list (A := X.A.in1) (I.ok.hd hc) s.heap.objs.size p hp its.toArray, ⟨⟨_, Heap.get?_push_size _ rfl, rfl, rfl⟩, pl.isList.push _⟩, ?_, fun h' tk hk => ?_⟩
  · intro i v s' Q' E' hi hQ
    have hi' : its[i]? = some v := by simpa using hi
    have hl := r.length
    have hib : i < bs.length := by
      have := (List.getElem?_eq_some_iff.mp hi').1
      rw [List.length_map] at hl
      omega
    obtain ⟨u', e', r'⟩ := r.get (i := i) (x := .bl bs[i]) (by rw [List.getElem?_map, List.getElem?_eq_getElem hib] <;> rfl)
    rw [hi'] at e'
    cases e'
    cases r'
    refine wpAny_truthy_bool ?_
    have : bs.getD i false = bs[i] := by rw [List.getD_eq_getElem?_getD, List.getElem?_eq_getElem hib]; rfl
    have hQ' : Q' (bs.getD i false) s' := hQ
    rw [this] at hQ'
    exact hQ'
  · have hl := r.length
    rw [List.length_map] at hl
    have e : ((List.range its.toArray.size).any fun i => bs.getD i false) = bs.any id := by
      rw [List.size_toArray, ← hl]
      clear hl q r hk hq pl hz
      induction bs with
      | nil => rfl
      | cons b r ih =>
        rw [List.length_cons, List.range_succ_eq_map, List.any_cons, List.any_map, List.any_cons]
        have : ((fun i => (b :: r).getD i false) ∘ Nat.succ) = fun i => r.getD i false := by
          funext i; simp
        rw [this, ih]
        rfl
    rw [e]
    refine ⟨.bl _, H, I.kept (t' := tk) fun b o ho => hk b o ?_ (Heap.get?_push_of_some _ ho), rfl, q⟩
    intro hb
    have : b = s.heap.objs.size := by simpa using hb
    exact absurd (Heap.lt_size ho) (by rw [this]; exact Nat.lt_irrefl _)
/-- xs.index(k) of ints, where k is there -/
def rIndex (K : PySem.W.Frag) : V → List V → Hp → VK → Prop := fun x vs H Q => ∃ (l : Addr) (ns : List Int) (k : Int), x = .ref l ∧ vs = [.int k] ∧ SqL K H l (ns.map V.int) ∧ ns.length ≤ 1000 ∧ k ∈ ns ∧ Q (.int (ns.idxOf k : Nat)) H
theorem mt_index : MtR X "list.index" (rIndex X.K) := by
  intro pins s σ H x vs v us Q I rx rv ⟨l, ns, k, e1, e2, hq, hl, hk, q⟩
  subst e1 e2
  cases rx
  obtain ⟨u, rfl, t, rfl⟩ := rv.one
  obtain ⟨its, r, pl, hz⟩ := I.list hq
  have hi := valsInts r
  have hlen := hi.length
  have hj : ns.idxOf k < ns.length := List.idxOf_lt_length_iff.mpr hk
  obtain ⟨⟨cls, dd, data, sl⟩, ho, hc, n, hd⟩ := id pl.isList
  simp only at hc hd
  subst hc hd
  refine call_meets PySem.F.slot_list_index ⟨_, ho, rfl⟩ PySem.F.entry_list_index (PySem.F.args_list_index_2 _ _)
    (SeqAt.list_indexAt l its.toArray n dd sl (.int k t) (isInt k) (ns.idxOf k) (by simpa [hlen] using hj) (by omega) ?_ ?_) ⟨ho, fun y hy => (eq_isInt k t hi y (by simpa using hy)).at _ _, ⟨.int _, H, I.tok _, ⟨_, rfl⟩, q⟩⟩
  · show isInt k its[ns.idxOf k] = true
    rw [isInt_at k hi _ (by omega) hj]
    simpa using List.getElem_idxOf hj
  · intro j hjs hlt
    show isInt k its[j] = false
    rw [isInt_at k hi j (by simpa using hjs) (by omega)]
    exact ne_of_lt_idxOf hlt _
/-! with the fragment as a letter -/
section
variable {K : PySem.W.Frag}
theorem call_minK (hc : X.calm = true) (hK : X.K = K := by rfl) : CallR X (.builtin "min") (rMin K) := by subst hK; exact call_minL hc
theorem call_anyK (hc : X.calm = true) (hK : X.K = K := by rfl) : CallR X (.builtin "any") (fun xs H Q => ∃ (p : Addr) (bs : List Bool), xs = [.ref p] ∧ SqL K H p (bs.map V.bl) ∧ Q (.bl (bs.any id)) H) := by subst hK; exact call_any hc
end
end
end L2

/-! ## rings of tops: the mathematics of point 7 -/
namespace Ways
/-- the end of a way: a bare place, or a place of its own again -/
def Done (es : List (Option Nat)) (way : List Nat) : Prop := ∃ l, way.getLast? = some l ∧ (nextE es l = none ∨ ∃ q, nextE es l = some q ∧ q ∈ way)
theorem Way.last {es : List (Option Nat)} {p l : Nat} {way : List Nat} (w : Way es p way) (hl : way.getLast? = some l) : l = walk es p (way.length - 1) := by
  have hp := w.pos
  have := w.at (way.length - 1) (by omega)
  rw [List.getLast?_eq_getElem?, this] at hl
  exact (Option.some.inj hl).symm
theorem Way.short {es : List (Option Nat)} {p : Nat} {w1 w2 : List Nat} (a : Way es p w1) (b : Way es p w2) (d : Done es w1) : w2.length ≤ w1.length := by
  by_cases h : w2.length ≤ w1.length
  · exact h
  exfalso
  have hp := a.pos
  obtain ⟨l, hl, hd⟩ := d
  have e1 := a.last hl
  have e2 := b.at (w1.length - 1) (by omega)
  have e3 : w2[w1.length]? = some w2[w1.length] := List.getElem?_eq_getElem (by omega)
  have e4 := b.ch (w1.length - 1) _ _ e2 (by rw [show w1.length - 1 + 1 = w1.length by omega]; exact e3)
  rw [← e1] at e4
  rcases hd with hd | ⟨q, hq, hm⟩
  · rw [hd] at e4; cases e4
  · rw [hq] at e4
    have e5 := Option.some.inj e4
    obtain ⟨i, hi, ei⟩ := List.mem_iff_getElem.mp hm
    have e6 := a.at i hi
    rw [List.getElem?_eq_getElem hi] at e6
    have e7 := b.at i (by omega)
    rw [List.getElem?_eq_getElem (by omega)] at e7
    have e8 : w2[i] = w2[w1.length] := by
      rw [Option.some.inj e7, ← Option.some.inj e6, ei, e5]
    have := L2.nodup_inj b.nd (by omega) (by omega) e8
    omega
theorem Way.unique {es : List (Option Nat)} {p : Nat} {w1 w2 : List Nat} (a : Way es p w1) (b : Way es p w2) (d1 : Done es w1) (d2 : Done es w2) : w1 = w2 := by
  have h1 := a.short b d1
  have h2 := b.short a d2
  refine List.ext_getElem? fun i => ?_
  by_cases hi : i < w1.length
  · rw [a.at i hi, b.at i (by omega)]
  · rw [List.getElem?_eq_none (by omega), List.getElem?_eq_none (by omega)]
theorem Way.goes {es : List (Option Nat)} {p : Nat} (hb : InB es) : ∀ (k : Nat) (way : List Nat), Way es p way → es.length - way.length = k → ∃ w, Way es p w ∧ Done es w := by
  intro k
  induction k with
  | zero =>
    intro way w hk
    have hlen := w.len
    refine ⟨way, w, ?_⟩
    obtain ⟨l, hl⟩ : ∃ l, way.getLast? = some l := by
      have hp := w.pos
      exact ⟨way.getLast (by intro z; rw [z] at hp; exact Nat.lt_irrefl _ hp), List.getLast?_eq_some_getLast _⟩
    refine ⟨l, hl, ?_⟩
    cases e : nextE es l with
    | none => exact .inl rfl
    | some q =>
      right
      refine ⟨q, rfl, ?_⟩
      by_cases hq : q ∈ way
      · exact hq
      · have := (w.more hl e hq hb).len
        rw [List.length_append, List.length_singleton] at this
        omega
  | succ k ih =>
    intro way w hk
    obtain ⟨l, hl⟩ : ∃ l, way.getLast? = some l := by
      have hp := w.pos
      exact ⟨way.getLast (by intro z; rw [z] at hp; exact Nat.lt_irrefl _ hp), List.getLast?_eq_some_getLast _⟩
    cases e : nextE es l with
    | none => exact ⟨way, w, l, hl, .inl e⟩
    | some q =>
      by_cases hq : q ∈ way
      · exact ⟨way, w, l, hl, .inr ⟨q, e, hq⟩⟩
      · refine ih (way ++ [q]) (w.more hl e hq hb) ?_
        rw [List.length_append, List.length_singleton]
        omega
theorem way_has {es : List (Option Nat)} {p : Nat} (hb : InB es) (hp : p < es.length) : ∃ w, Way es p w ∧ Done es w := Way.goes hb _ [p] (Way.one hp) rfl
open Classical in
/-- the way from a place -/
noncomputable def wayOf (es : List (Option Nat)) (p : Nat) : List Nat := if h : ∃ w, Way es p w ∧ Done es w then h.choose else []
theorem wayOf_way {es : List (Option Nat)} {p : Nat} (hb : InB es) (hp : p < es.length) : Way es p (wayOf es p) ∧ Done es (wayOf es p) := by
  have h := way_has hb hp
  unfold wayOf
  rw [dif_pos h]
  exact h.choose_spec
theorem walk_add (es : List (Option Nat)) (p a : Nat) : ∀ b, walk es p (a + b) = walk es (walk es p a) b
  | 0 => rfl
  | b + 1 => by
    rw [← Nat.add_assoc]
    simp only [walk, walk_add es p a b]
/-- a way's places are just those that are come to -/
theorem Way.mem {es : List (Option Nat)} {p : Nat} {way : List Nat} (w : Way es p way) (d : Done es way) (x : Nat) : x ∈ way ↔ ∃ k, walk es p k = x := by
  have hp := w.pos
  constructor
  · intro h
    obtain ⟨i, hi, rfl⟩ := List.mem_iff_getElem.mp h
    have := w.at i hi
    rw [List.getElem?_eq_getElem hi] at this
    exact ⟨i, (Option.some.inj this).symm⟩
  · rintro ⟨k, rfl⟩
    obtain ⟨l, hl, hd⟩ := d
    have inw : ∀ k, walk es p k ∈ way := fun k => by
      induction k with
      | zero => exact List.mem_of_getElem? (w.at 0 hp)
      | succ k ih =>
        obtain ⟨i, hi, ei⟩ := List.mem_iff_getElem.mp ih
        by_cases h : i + 1 < way.length
        · have := w.ch i _ _ (List.getElem?_eq_getElem hi) (List.getElem?_eq_getElem h)
          simp only [walk, ← ei, this]
          exact List.getElem_mem h
        · have hlast : way.getLast? = some way[i] := by
            rw [List.getLast?_eq_getElem?, show way.length - 1 = i by omega]
            exact List.getElem?_eq_getElem hi
          rw [hl] at hlast
          cases hlast
          rcases hd with hd | ⟨q, hq, hm⟩
          · simp only [walk, ← ei, hd]
            exact List.getElem_mem hi
          · simp only [walk, ← ei, hq]
            exact hm
    exact inw k
/-- a place from which the way along tops comes to that place again -/
def OnRing (es : List (Option Nat)) (p : Nat) : Prop := ∃ q k, nextE es p = some q ∧ walk es q k = p
theorem walk_some {es : List (Option Nat)} {p q : Nat} (e : nextE es p = some q) : ∀ k, walk es p (k + 1) = walk es q k
  | 0 => by simp only [walk, e]
  | k + 1 => by
    have := walk_some e k
    show (match nextE es (walk es p (k + 1)) with | none => walk es p (k + 1) | some e => e) = _
    rw [this]
    rfl
/-- on a ring the way ends where it began -/
theorem Way.closed {es : List (Option Nat)} {p l : Nat} {way : List Nat} (w : Way es p way) (d : Done es way) (hl : way.getLast? = some l) : OnRing es p ↔ nextE es l = some p := by
  have hp := w.pos
  have el := w.last hl
  constructor
  · rintro ⟨q, k, hq, hk⟩
    have per : walk es p (k + 1) = p := by rw [walk_some hq]; exact hk
    have pers : ∀ m, walk es p ((k + 1) * m) = p := fun m => by
      induction m with
      | zero => rfl
      | succ m ih => rw [Nat.mul_succ, walk_add, ih, per]
    obtain ⟨l', hl', hd⟩ := d
    rw [hl] at hl'
    cases hl'
    rcases hd with hd | ⟨r, hr, hm⟩
    · exfalso
      have st := walk_stays (es := es) (p := p) (k := way.length - 1) (by rw [← el]; exact hd)
      have h1 := pers way.length
      have hge : way.length - 1 ≤ (k + 1) * way.length := by
        have : way.length ≤ (k + 1) * way.length := Nat.le_mul_of_pos_left _ (Nat.succ_pos _)
        omega
      have h2 := st ((k + 1) * way.length - (way.length - 1))
      rw [show way.length - 1 + ((k + 1) * way.length - (way.length - 1)) = (k + 1) * way.length by omega, h1, ← el] at h2
      rw [← h2, hq] at hd
      cases hd
    · obtain ⟨i, hi, ei⟩ := List.mem_iff_getElem.mp hm
      have hi' := w.at i hi
      rw [List.getElem?_eq_getElem hi, ei] at hi'
      have hwi : walk es p i = r := (Option.some.inj hi').symm
      have hwl : walk es p way.length = r := by
        have : way.length = way.length - 1 + 1 := by omega
        rw [this]
        simp only [walk, ← el, hr]
      -- all that is come to from turn i on is one of the turns i to below the length
      have late : ∀ m, i ≤ m → ∃ j, i ≤ j ∧ j < way.length ∧ walk es p m = walk es p j := fun m hm => by
        obtain ⟨t, rfl⟩ := Nat.exists_eq_add_of_le hm
        clear hm
        induction t with
        | zero => exact ⟨i, Nat.le_refl _, hi, rfl⟩
        | succ t ih =>
          obtain ⟨j, h1, h2, h3⟩ := ih
          have e : walk es p (i + (t + 1)) = walk es p (j + 1) := by
            rw [← Nat.add_assoc]
            simp only [walk, h3]
          by_cases hj : j + 1 < way.length
          · exact ⟨j + 1, by omega, hj, e⟩
          · refine ⟨i, Nat.le_refl _, hi, ?_⟩
            rw [e, show j + 1 = way.length by omega, hwl, hwi]
      obtain ⟨j, h1, h2, h3⟩ := late ((k + 1) * i) (Nat.le_mul_of_pos_left _ (Nat.succ_pos _))
      rw [pers] at h3
      have e0 := w.at 0 hp
      have ej := w.at j h2
      rw [List.getElem?_eq_getElem hp] at e0
      rw [List.getElem?_eq_getElem h2] at ej
      have : way[0] = way[j] := by rw [Option.some.inj e0, Option.some.inj ej]; exact h3
      have hj0 := L2.nodup_inj w.nd hp h2 this
      have : i = 0 := by omega
      rw [hr, ← hwi, this]
      rfl
  · intro e
    cases hq : nextE es p with
    | none =>
      have st := walk_stays (es := es) (p := p) (k := 0) hq (way.length - 1)
      rw [Nat.zero_add, ← el] at st
      have : l = p := st
      rw [this, hq] at e
      cases e
    | some q =>
      refine ⟨q, way.length - 1, hq, ?_⟩
      have : walk es p (way.length - 1 + 1) = p := by
        simp only [walk, ← el, e]
      exact (walk_some hq _).symm.trans this

/-! ### rings -/
/-- turned by one -/
def rot (r : List Nat) : List Nat := r.drop 1 ++ r.take 1
/-- a ring of tops, told as in 7 -/
structure IsRing (es : List (Option Nat)) (r : List Nat) : Prop where
  ne : r ≠ []
  nd : r.Nodup
  bd : ∀ x ∈ r, x < es.length
  least : ∀ x ∈ r, r.headD 0 ≤ x
  next : r.map (nextE es) = (rot r).map some
open Classical in
/-- the ring whose least place is p, if there is one -/
noncomputable def ringAt (es : List (Option Nat)) (p : Nat) : Option (List Nat) := if OnRing es p ∧ ∀ x ∈ wayOf es p, p ≤ x then some (wayOf es p) else none
/-- the rings of tops -/
noncomputable def ringsN (es : List (Option Nat)) : List (List Nat) := (List.range es.length).filterMap (ringAt es)
theorem ringAt_some {es : List (Option Nat)} {p : Nat} {r : List Nat} (h : ringAt es p = some r) : OnRing es p ∧ (∀ x ∈ wayOf es p, p ≤ x) ∧ r = wayOf es p := by
  unfold ringAt at h
  split at h
  · rename_i c
    exact ⟨c.1, c.2, (Option.some.inj h).symm⟩
  · cases h
theorem way_ring {es : List (Option Nat)} {p : Nat} {way : List Nat} (w : Way es p way) (d : Done es way) (o : OnRing es p) : way.map (nextE es) = (rot way).map some := by
  have hp := w.pos
  obtain ⟨l, hl, _⟩ := id d
  have e := (w.closed d hl).mp o
  have el := w.last hl
  refine List.ext_getElem? fun i => ?_
  rw [List.getElem?_map, List.getElem?_map]
  by_cases hi : i < way.length
  · by_cases h : i + 1 < way.length
    · have := w.ch i _ _ (List.getElem?_eq_getElem hi) (List.getElem?_eq_getElem h)
      rw [List.getElem?_eq_getElem hi]
      unfold rot
      rw [List.getElem?_append_left (by rw [List.length_drop]; omega), List.getElem?_drop, Nat.add_comm 1 i, List.getElem?_eq_getElem h]
      simp [this]
    · have hw := w.at i hi
      have h0 := w.at 0 hp
      rw [hw]
      unfold rot
      rw [List.getElem?_append_right (by rw [List.length_drop]; omega), List.length_drop, show i - (way.length - 1) = 0 by omega, List.getElem?_take_of_lt (by omega), h0]
      have : walk es p i = l := by rw [el, show i = way.length - 1 by omega]
      simp only [Option.map_some, this, e]
      rfl
  · have hr : (rot way).length = way.length := by
      unfold rot
      rw [List.length_append, List.length_drop, List.length_take]
      omega
    rw [List.getElem?_eq_none (by omega), List.getElem?_eq_none (by omega)]
    rfl
theorem Way.head {es : List (Option Nat)} {p : Nat} {way : List Nat} (w : Way es p way) : way.headD 0 = p := by
  have := w.hd
  cases way with
  | nil => simp at this
  | cons a r => simpa using this
theorem ring_is {es : List (Option Nat)} {p : Nat} {r : List Nat} (hb : InB es) (hp : p < es.length) (h : ringAt es p = some r) : IsRing es r ∧ r.headD 0 = p := by
  obtain ⟨o, ls, rfl⟩ := ringAt_some h
  obtain ⟨w, d⟩ := wayOf_way hb hp
  have hh := w.head
  refine ⟨⟨?_, w.nd, w.bd, fun x hx => ?_, way_ring w d o⟩, hh⟩
  · intro z
    have := w.pos
    rw [z] at this
    exact Nat.lt_irrefl _ this
  · rw [hh]
    exact ls x hx
theorem mem_rings {es : List (Option Nat)} {r : List Nat} : r ∈ ringsN es ↔ ∃ p, p < es.length ∧ ringAt es p = some r := by
  unfold ringsN
  rw [List.mem_filterMap]
  constructor
  · rintro ⟨p, hp, h⟩
    exact ⟨p, List.mem_range.mp hp, h⟩
  · rintro ⟨p, hp, h⟩
    exact ⟨p, List.mem_range.mpr hp, h⟩
theorem rings_is {es : List (Option Nat)} {r : List Nat} (hb : InB es) (h : r ∈ ringsN es) : IsRing es r := by
  obtain ⟨p, hp, e⟩ := mem_rings.mp h
  exact (ring_is hb hp e).1
end Ways

/-! ## enumerate of a list, walked with two names; defs with defaults -/
namespace L2
open PySem PySem.Spec PyProof.Rows
def Ite (K : PySem.W.Frag) (a : Addr) : It :=
  ⟨fun i H => ∃ xs x, SqL K H a xs ∧ xs[i]? = some x,
   fun i H v H' => ∃ T x, H T = none ∧ v = .ref T ∧ H' = upd H T (.tup [.int (i : Int), x]) ∧ ∀ xs, SqL K H a xs → xs[i]? = some x,
   fun i H => ∃ xs, SqL K H a xs ∧ xs.length = i⟩
def EnumAt (e it a : Addr) (i : Nat) (h : Heap) : Prop := (∃ old, IsEnum h e it i old) ∧ h.IsListIter it a i
theorem turn_enum {P : Program} {w : World} {K : PySem.W.Frag} {elts : List Expr} {k : Nat} {tpos : Pos} {e it a : Addr} (hne : e ≠ it) :
    Turn P w K (.Tuple elts k tpos) (Ite K a) [e, it] e (EnumAt e it a) where
  mem := by simp
  obj := fun i h st c hc => by
    obtain ⟨⟨old, he⟩, o1, h1, c1, d1⟩ := st
    have hc' : c = e ∨ c = it := by simpa using hc
    rcases hc' with rfl | rfl
    · exact ⟨_, he, fun v q => by cases q⟩
    · exact ⟨_, h1, fun v q => by rw [d1] at q; cases q⟩
  keep := fun i h h' st k => by
    obtain ⟨⟨old, he⟩, h1⟩ := st
    exact ⟨⟨old, k e (by simp) _ he⟩, h1.at fun o q => k it (by simp) o q⟩
  item := by
    intro X hP hw hK hc i pins s σ H E I hf st hg
    subst hP hw hK
    obtain ⟨xs, x, qa, hx⟩ := hg
    obtain ⟨ia, ra, pa, za⟩ := I.list qa
    obtain ⟨u, hu, ru⟩ := ra.get hx
    obtain ⟨⟨old, he⟩, h1⟩ := st
    have hla := pa.isList
    have nai : a ≠ it := by
      obtain ⟨oa, ga, ca, _⟩ := hla
      obtain ⟨o1, g1, c1, _⟩ := h1
      exact ne_cls ga g1 (by rw [ca, c1]; decide)
    have nea : e ≠ a := by
      obtain ⟨oa, ga, ca, _⟩ := hla
      exact ne_cls he ga (by rw [ca]; show Value.type "enumerate" ≠ Value.type "list"; decide)
    have hi : i < ia.toArray.size := by
      have := (List.getElem?_eq_some_iff.mp hu).1
      simpa using this
    refine wpAny_pyNext_enum_itemD (Draws.list (A := X.A.in1) (I.ok.hd hc) it a nai ia.toArray) he ⟨h1, hla⟩ hi hne (by simp [hne, nea]) fun v h' tk hv ho hs' hT hsz hk => ⟨_, rfl, ?_⟩
    have ev : v = u := by
      have : ia[i]? = some v := by simpa using hv
      rw [hu] at this
      exact (Option.some.inj this).symm
    subst ev
    refine wpAny_letOwnedTupleGo_enum ho fun h'' b1 b2 => ?_
    have b2' : Heap.SameBut e h' h'' := b2
    have hTe : s.heap.objs.size ≠ e := Nat.ne_of_gt (Heap.lt_size he)
    have kk : ∀ c o, c ∉ [e, it] → s.heap.get? c = some o → h''.get? c = some o := fun c o hc q => by
      have hc' : ¬ (c = e ∨ c = it) := fun z => hc (by simpa using z)
      exact b2'.extBut c o (fun z => hc' (.inl z)) (hk c o (fun z => hc' (.inl z)) (fun z => hc' (.inr z)) q)
    have hT2 : h''.get? s.heap.objs.size = some { cls := .type "tuple", data := .seq #[.int (i : Int) tk, v] } := b2'.extBut _ _ hTe hT
    refine ⟨.ref s.heap.objs.size, upd H s.heap.objs.size (.tup [.int (i : Int), x]), I.turnedL (t' := tk + 1) (ch := [e, it]) hf kk (Nat.le_refl _) ?_, rfl, ?_, ?_, fun c hc => ?_⟩
    · exact ⟨by show 2 ≤ sizeLine; decide, [_, v], .cons ⟨tk, rfl⟩ (.cons ru .nil), _, hT2, rfl, _, rfl⟩
    · exact ⟨_, x, I.fresh, rfl, rfl, fun xs' q => by rw [I.list_inj q qa]; exact hx⟩
    · refine ⟨⟨v, ?_⟩, hs'.1.at fun o q => b2'.extBut _ o (Ne.symm hne) q⟩
      simpa using b1
    · have hlt : c < s.heap.objs.size := by
        have hc' : c = e ∨ c = it := by simpa using hc
        obtain ⟨o1, g1, _⟩ := h1
        rcases hc' with rfl | rfl
        · exact Heap.lt_size he
        · exact Heap.lt_size g1
      rw [upd_ne (Nat.ne_of_lt hlt)]
      exact (hf c hc).1
  done := by
    intro X hP hw hK hc i pins s σ H E I hf st hg
    subst hP hw hK
    obtain ⟨xs, qa, hx⟩ := hg
    obtain ⟨ia, ra, pa, za⟩ := I.list qa
    obtain ⟨⟨old, he⟩, h1⟩ := st
    have hla := pa.isList
    have nai : a ≠ it := by
      obtain ⟨oa, ga, ca, _⟩ := hla
      obtain ⟨o1, g1, c1, _⟩ := h1
      exact ne_cls ga g1 (by rw [ca, c1]; decide)
    have la := ra.length
    have hi : ia.toArray.size = i := by rw [List.size_toArray]; omega
    refine wpAny_pyNext_enum_endD (Draws.list (A := X.A.in1) (I.ok.hd hc) it a nai ia.toArray) he (by rw [hi]; exact ⟨h1, hla⟩) fun h' eb => ⟨rfl, I.turnedL0 (t' := s.toks) (ch := [e, it]) hf fun c o hc q => ?_⟩
    have hc' : ¬ (c = e ∨ c = it) := fun z => hc (by simpa using z)
    exact eb c o (fun z => hc' (.inr z)) q
  self := fun _ _ _ _ _ st h => by
    obtain ⟨⟨old, he⟩, _⟩ := st
    exact wpAny_pyIter_enum he h
def iEnum (K : PySem.W.Frag) (ta : TA) : TI := fun σ H R => ta σ H fun vs H1 => ∃ a, vs = [.ref a] ∧ (∃ xs, SqL K H1 a xs) ∧ R (Ite K a) H1
section
variable {X : Cx} {K : PySem.W.Frag}
theorem pi_enumK {a : Expr} {ta : TA} {p pos : Pos} {elts : List Expr} {k : Nat} {tpos : Pos} (hg : Gl X "enumerate") (hm : X.mg "enumerate" = none) (ha : PA X [a] ta) (hK : X.K = K := by rfl) (hs : starEach [a] X.env = [(false, eval a X.env)] := by rfl) :
    PI X (.Tuple elts k tpos) (.Call (.Name "enumerate" p) [a] [] pos) (iEnum K ta) := by
  subst hK
  intro pins s σ H R I h
  refine Call_ (ld_blt I hg hm boot_enumerate (PyProof.Rows.callWith_type1 (thn (ha pos pins s σ H _ I h) fun us s1 ⟨vs, H1, I1, r1, q1⟩ => ?_) (by rw [hs]; rfl) (by rfl)))
  obtain ⟨x, e, ⟨xs, qa⟩, q⟩ := q1
  subst e
  obtain ⟨u, rfl, ru⟩ := r1.one
  cases ru
  obtain ⟨ia, ra, pa, za⟩ := I1.list qa
  refine call_enumerate_list pa.isList fun h' b1 b2 b3 b4 => ?_
  refine wpAny_pyIter_enum b1 ?_
  have I2 : Inv X pins σ H1 { s1 with heap := h' } := I1.kept (t' := s1.toks) b4
  have f : ∀ c, s1.heap.objs.size ≤ c → FpOk X pins H1 c := fun c hc => I1.fpOk hc (I1.hok.fresh hc)
  refine ⟨_, _, _, _, H1, rfl, I2, turn_enum (a := x) (e := s1.heap.objs.size + 1) (it := s1.heap.objs.size) (Nat.succ_ne_self _), ⟨⟨_, b1⟩, b2⟩, fun c hc => ?_, q⟩
  have hc' : c = s1.heap.objs.size + 1 ∨ c = s1.heap.objs.size := by simpa using hc
  rcases hc' with rfl | rfl
  · exact f _ (Nat.le_add_right _ _)
  · exact f _ (Nat.le_refl _)
end
section
variable {K : PySem.W.Frag} {g : TG} {tt : TT} {te : TE} {σ : St} {cap : List (Option Nat)} {Q : VK} {H1 : Hp} {D : Addr}
theorem comp_enum {a : Addr} {xs : List V} (Pv : Nat → Hp → List V → Prop) (hD : H1 D = none) (h0 : Pv 0 H1 []) (hl : ∀ i G ys, Pv i G ys → SqL K G a xs)
    (step : ∀ i x T G ys, xs[i]? = some x → G D = none → T ≠ D → G T = none → Pv i G ys → g (.ref T) (capt σ cap) (upd (upd G D (.lst ys)) T (.tup [.int (i : Int), x])) fun σ2 H2 => tt σ2 H2 fun b H3 => if b = true then te σ2 H3 (CPut D (Pv (i + 1))) else CAcc D (Pv (i + 1)) H3)
    (fin : ∀ G ys, G D = none → Pv xs.length G ys → Q (.ref D) (upd G D (.lst ys))) :
    CompAt cap g tt te σ Q (Ite K a) H1 D := by
  refine comp_it (J := Ite K a) (n := xs.length) Pv hD h0 (fun i G ys hi hG p => ⟨xs, xs[i], (same_upd hG _).seq (hl i G ys p), by simp [hi]⟩) (fun G ys hG p => ⟨xs, (same_upd hG _).seq (hl _ G ys p), rfl⟩) (fun i G ys x H' hi hG p y => ?_) fin
  obtain ⟨T, u, hT, rfl, rfl, ya⟩ := y
  have hTD : T ≠ D := by rintro rfl; rw [upd_same] at hT; cases hT
  refine step i u T G ys (ya xs ((same_upd hG _).seq (hl i G ys p))) hG hTD ?_ p
  rw [upd_ne hTD] at hT
  exact hT
end
/-! ### truth, with the fragment as a letter -/
/-! ### defs with defaults -/
structure FunD (K : PySem.W.Frag) (x qual : Str) (st : Stmt) (f : Addr) (fd : FuncData) (ds : List Value) : Prop where
  ex : ∃ (oc : Value) (od : Option Addr) (da : Addr) (dn : Nat) (kV doc pm : Value) (an : Option Addr) (cdv ct : Value) (osl dsl : Array (Option Value)),
    fd = PySem.W.fnOf x qual (defArgs st) (defBody st) (defScope st) (.ref da) kV doc pm an cdv ct ∧ K.lookup f = some ⟨oc, od, .func fd, osl⟩ ∧ K.lookup da = some ⟨.type "tuple", none, .seq ds.toArray dn, dsl⟩ ∧ PySem.W.codeIn K cdv qual = true
  kp : PySem.W.keepIn K (.ref f) = true
section
variable {P : Program} {w : World} {K : PySem.W.Frag} {mg : Str → Option Value} {base : Heap}
theorem FunD.ok {x qual : Str} {st : Stmt} {f : Addr} {fd : FuncData} {ds : List Value} {N ps : List Str} {k : Nat} {sp : Sp} (F : FunD K x qual st f fd ds) (S : FnScope N ps (defScope st)) (len : ∀ vs H Q E, sp vs H Q E → vs.length = ps.length)
    (hbody : ∀ (cdv : Value) (A : Around) (outer : List Env) (s : Shared) (H : Hp) (vs : List V) (Q : VK) (E : XK), Room k (A.deeper (envOfC qual (defScope st) s.heap.objs.size f cdv)) → sp vs H Q E →
      ∃ t, PSs (cxOf CX0 P w K mg base N qual (defScope st) f cdv A outer s H E).nox (defBody st) t ∧ t { nx := fun _ H' => Q .non H', rt := Q } (start N vs) H) : FnOk P w K mg base CX0 (k + 1) f fd ps sp := by
  obtain ⟨oc, od, da, dn, kV, doc, pm, an, cdv, ct, osl, dsl, rfl, lk, ld, hcd⟩ := F.ex
  refine fn_of lk hcd S len fun A outer s H vs Q E hr hsp => ?_
  obtain ⟨t, h, q⟩ := hbody cdv A outer s H vs Q E hr hsp
  exact ⟨t, h.nox, q⟩
theorem FunD.binds {x qual : Str} {st : Stmt} {f : Addr} {fd : FuncData} {ps : List Str} {ds es : List Value} (F : FunD K x qual st f fd ds) (k : Nat) (hk : k + es.length = ps.length)
    (h : ∀ (da : Addr) (kV doc pm : Value) (an : Option Addr) (cdv ct : Value) (us : List Value), us.length = k → ∀ (s : Shared) (o : Obj) (dn : Nat), s.heap.get? da = some o → o.data = .seq ds.toArray dn → BindsTo s (PySem.W.fnOf x qual (defArgs st) (defBody st) (defScope st) (.ref da) kV doc pm an cdv ct) ⟨us, []⟩ (ps.zip (us ++ es))) : Binds K fd ps es := by
  obtain ⟨oc, od, da, dn, kV, doc, pm, an, cdv, ct, osl, dsl, rfl, lk, ld, hcd⟩ := F.ex
  intro s us hK hl
  exact h da kV doc pm an cdv ct us (by rw [List.length_append] at hl; omega) s _ dn (hK _ _ ld) rfl
theorem funD_mk {x qual : Str} {st : Stmt} {f da : Addr} {dn : Nat} {oc : Value} {od an : Option Addr} {osl dsl : Array (Option Value)} {kV doc pm cdv ct : Value} {ds : List Value} (l : K.lookup f = some ⟨oc, od, .func (PySem.W.fnOf x qual (defArgs st) (defBody st) (defScope st) (.ref da) kV doc pm an cdv ct), osl⟩)
    (ld : K.lookup da = some ⟨.type "tuple", none, .seq ds.toArray dn, dsl⟩) (c : PySem.W.codeIn K cdv qual = true) (k : PySem.W.keepIn K (.ref f) = true) : FunD K x qual st f (PySem.W.fnOf x qual (defArgs st) (defBody st) (defScope st) (.ref da) kV doc pm an cdv ct) ds := ⟨⟨oc, od, da, dn, kV, doc, pm, an, cdv, ct, osl, dsl, rfl, l, ld, c⟩, k⟩
end
/-- a def of the text with its promise, called with the last arguments left out -/
def DefS (P : Program) (w : World) (K : PySem.W.Frag) (mg : Str → Option Value) (base : Heap) (x : Str) (k : Nat) (ps : List Str) (ds : List Value) (sp : Sp) : Prop :=
  ∃ f fd, FnOk P w K mg base CX0 k f fd ps sp ∧ mg x = some (.ref f) ∧ PySem.W.keepIn K (.ref f) = true ∧ Binds K fd ps ds
section
variable {X : Cx} {x : Str} {k k' : Nat} {ps : List Str} {sp : Sp} {e : Expr} {es : List Expr} {t : TA} {p pos : Pos} {ds : List Value} {dvs : List V}
theorem pe_callS (D : DefS X.prog X.w X.K X.mg X.base x k ps ds sp) (hd : Vals dvs ds) (hr : Room k' X.A) (hg : Gl X x) (ha : PA X (e :: es) t) (hk : k ≤ k' := by decide) (hdb : (x == ("__debug__" : Str)) = false := by decide)
    (he : starEach (e :: es) X.env = (false, eval e X.env) :: starEach es X.env := by rfl) (hpl : (backTo pos (starEach es X.env)).any (·.1) = false := by rfl) :
    PE X (.Call (.Name x p) (e :: es) [] pos) (tCall sp dvs E0 t) := by
  obtain ⟨f, fd, F, m, kp, b⟩ := D
  exact pe_call F (hr.mono hk) hg m kp b hd pass0 ha hdb he hpl
end
/-- a def with defaults as the top has made it -/
def HereD (K : PySem.W.Frag) (mg : Str → Option Value) (x : Str) (st : Stmt) (ps : List Str) (ds : List Value) : Prop := ∃ f fd, FunD K x x st f fd ds ∧ mg x = some (.ref f) ∧ Binds K fd ps [] ∧ Binds K fd ps ds
theorem HereD.mk {P : Program} {w : World} {K : PySem.W.Frag} {mg : Str → Option Value} {base : Heap} {x : Str} {st : Stmt} {ps : List Str} {ds : List Value} {k : Nat} {sp : Sp} (h : HereD K mg x st ps ds) (ok : ∀ f fd, FunD K x x st f fd ds → FnOk P w K mg base CX0 k f fd ps sp) :
    Def P w K mg base x k ps sp ∧ DefS P w K mg base x k ps ds sp := by
  obtain ⟨f, fd, F, m, b, b'⟩ := h
  exact ⟨⟨f, fd, ok f fd F, m, F.kp, b⟩, ⟨f, fd, ok f fd F, m, F.kp, b'⟩⟩
end L2

/-! ## piles, and rings popped: the mathematics of points 6 to 9 -/
namespace Ways
abbrev Piles := List (List Nat)
def topsN (p : Piles) : List (Option Nat) := p.map List.head?
def sizeN (p : Piles) : Nat := (p.map List.length).sum
structure PilesOk (p : Piles) : Prop where
  pos : 1 ≤ p.length
  len : p.length ≤ 8
  bd : ∀ l ∈ p, ∀ x ∈ l, x < p.length
  few : sizeN p ≤ 400
theorem topsN_len (p : Piles) : (topsN p).length = p.length := List.length_map _
theorem topsN_next {p : Piles} {i : Nat} : nextE (topsN p) i = (p[i]?).bind List.head? := by
  unfold nextE topsN
  rw [List.getElem?_map]
  cases p[i]? <;> rfl
theorem inB_tops {p : Piles} (bd : ∀ l ∈ p, ∀ x ∈ l, x < p.length) : InB (topsN p) := fun i e h => by
  rw [topsN_next] at h
  rw [topsN_len]
  cases c : p[i]? with
  | none => rw [c] at h; cases h
  | some l =>
    rw [c] at h
    have h' : l.head? = some e := h
    exact bd l (List.mem_of_getElem? c) e (List.mem_of_head? h')
def popAux (r : List Nat) : Nat → Piles → Piles
  | _, [] => []
  | k, l :: t => (if k ∈ r then l.drop 1 else l) :: popAux r (k + 1) t
/-- the piles without the tops of these places -/
def popN (p : Piles) (r : List Nat) : Piles := popAux r 0 p
theorem popAux_len (r : List Nat) : ∀ (p : Piles) (k : Nat), (popAux r k p).length = p.length
  | [], _ => rfl
  | l :: t, k => by rw [popAux, List.length_cons, List.length_cons, popAux_len r t]
theorem popN_len (p : Piles) (r : List Nat) : (popN p r).length = p.length := popAux_len r p 0
theorem popAux_at (r : List Nat) : ∀ (p : Piles) (k i : Nat), (popAux r k p)[i]? = (p[i]?).map fun l => if k + i ∈ r then l.drop 1 else l
  | [], _, _ => by simp [popAux]
  | l :: t, k, 0 => by simp [popAux]
  | l :: t, k, i + 1 => by
    rw [popAux, List.getElem?_cons_succ, List.getElem?_cons_succ, popAux_at r t]
    rw [show k + 1 + i = k + (i + 1) by omega]
theorem popN_at (p : Piles) (r : List Nat) (i : Nat) : (popN p r)[i]? = (p[i]?).map fun l => if i ∈ r then l.drop 1 else l := by
  have := popAux_at r p 0 i
  rw [Nat.zero_add] at this
  exact this
theorem popAux_mem (r : List Nat) : ∀ (p : Piles) (k : Nat) (l : List Nat), l ∈ popAux r k p → ∃ m ∈ p, l = m ∨ l = m.drop 1
  | [], _, l, h => by simp [popAux] at h
  | m :: t, k, l, h => by
    rw [popAux] at h
    rcases List.mem_cons.mp h with e | h
    · refine ⟨m, List.mem_cons_self, ?_⟩
      by_cases c : k ∈ r
      · rw [if_pos c] at e; exact .inr e
      · rw [if_neg c] at e; exact .inl e
    · obtain ⟨m', hm, e⟩ := popAux_mem r t (k + 1) l h
      exact ⟨m', List.mem_cons_of_mem _ hm, e⟩
theorem popAux_size (r : List Nat) : ∀ (p : Piles) (k : Nat), sizeN (popAux r k p) ≤ sizeN p
  | [], _ => Nat.le_refl _
  | l :: t, k => by
    have ih := popAux_size r t (k + 1)
    unfold sizeN at ih ⊢
    rw [popAux, List.map_cons, List.map_cons, List.sum_cons, List.sum_cons]
    by_cases c : k ∈ r
    · rw [if_pos c, List.length_drop]; omega
    · rw [if_neg c]; omega
theorem popAux_less (r : List Nat) : ∀ (p : Piles) (k i : Nat), k + i ∈ r → (∃ l, p[i]? = some l ∧ l ≠ []) → sizeN (popAux r k p) < sizeN p
  | [], _, _, _, h => by obtain ⟨l, e, _⟩ := h; simp at e
  | l :: t, k, 0, hr, h => by
    obtain ⟨l', e, hn⟩ := h
    have e' : l = l' := by simpa using e
    subst e'
    have ih := popAux_size r t (k + 1)
    have hp : 0 < l.length := List.length_pos_iff.mpr hn
    unfold sizeN at ih ⊢
    rw [popAux, List.map_cons, List.map_cons, List.sum_cons, List.sum_cons, if_pos (by simpa using hr), List.length_drop]
    omega
  | l :: t, k, i + 1, hr, h => by
    have ih := popAux_less r t (k + 1) i (by rw [show k + 1 + i = k + (i + 1) by omega]; exact hr) (by simpa using h)
    unfold sizeN at ih ⊢
    rw [popAux, List.map_cons, List.map_cons, List.sum_cons, List.sum_cons]
    by_cases c : k ∈ r
    · rw [if_pos c, List.length_drop]; omega
    · rw [if_neg c]; omega
theorem PilesOk.pop {p : Piles} (ok : PilesOk p) (r : List Nat) : PilesOk (popN p r) := by
  refine ⟨by rw [popN_len]; exact ok.pos, by rw [popN_len]; exact ok.len, fun l hl x hx => ?_, Nat.le_trans (popAux_size r p 0) ok.few⟩
  rw [popN_len]
  obtain ⟨m, hm, e⟩ := popAux_mem r p 0 l hl
  rcases e with rfl | rfl
  · exact ok.bd _ hm x hx
  · exact ok.bd m hm x (List.mem_of_mem_drop hx)
theorem PilesOk.inB {p : Piles} (ok : PilesOk p) : InB (topsN p) := inB_tops ok.bd
theorem ring_place {p : Piles} {r : List Nat} (hb : InB (topsN p)) (h : r ∈ ringsN (topsN p)) : ∀ x ∈ r, ∃ l, p[x]? = some l ∧ l ≠ [] := fun x hx => by
  have ring := rings_is hb h
  obtain ⟨i, hi, rfl⟩ := List.mem_iff_getElem.mp hx
  have e := congrArg (fun l => l[i]?) ring.next
  simp only [List.getElem?_map, List.getElem?_eq_getElem hi, Option.map_some] at e
  have hbd := ring.bd _ hx
  rw [topsN_len] at hbd
  refine ⟨p[r[i]], List.getElem?_eq_getElem hbd, fun z => ?_⟩
  rw [topsN_next, List.getElem?_eq_getElem hbd] at e
  simp only [Option.bind_some, z, List.head?_nil] at e
  cases c : (rot r)[i]? with
  | none => rw [c] at e; cases e
  | some y => rw [c] at e; cases e
theorem pop_less {p : Piles} {r : List Nat} (hb : InB (topsN p)) (h : r ∈ ringsN (topsN p)) : sizeN (popN p r) < sizeN p := by
  have ring := rings_is hb h
  obtain ⟨x, hx⟩ := List.exists_mem_of_ne_nil r ring.ne
  exact popAux_less r p 0 x (by rw [Nat.zero_add]; exact hx) (ring_place hb h x hx)
/-! ### popped out by an order -/
noncomputable def pick (num : Nat → Int) (t : Nat) (l : List (List Nat)) : List Nat := l.getD (num t % (l.length : Int)).toNat []
theorem pick_lt {num : Nat → Int} {t : Nat} {l : List (List Nat)} (h : l ≠ []) : (num t % (l.length : Int)).toNat < l.length := by
  have hp : 0 < l.length := List.length_pos_iff.mpr h
  have h1 := Int.emod_nonneg (num t) (show (l.length : Int) ≠ 0 by omega)
  have h2 := Int.emod_lt_of_pos (num t) (show (0 : Int) < l.length by omega)
  omega
theorem pick_mem {num : Nat → Int} {t : Nat} {l : List (List Nat)} (h : l ≠ []) : pick num t l ∈ l := by
  unfold pick
  rw [List.getD_eq_getElem?_getD, List.getElem?_eq_getElem (pick_lt h)]
  exact List.getElem_mem _
inductive Steps (num : Nat → Int) (p0 : Piles) : List (List Nat) → Piles → Prop
  | nil : Steps num p0 [] p0
  | snoc {rs : List (List Nat)} {p : Piles} : Steps num p0 rs p → ringsN (topsN p) ≠ [] → Steps num p0 (rs ++ [pick num rs.length (ringsN (topsN p))]) (popN p (pick num rs.length (ringsN (topsN p))))
def Out (num : Nat → Int) (p0 : Piles) (rs : List (List Nat)) (p : Piles) : Prop := Steps num p0 rs p ∧ ringsN (topsN p) = []
theorem Steps.ok {num : Nat → Int} {p0 : Piles} (ok : PilesOk p0) {rs : List (List Nat)} {p : Piles} (h : Steps num p0 rs p) : PilesOk p ∧ p.length = p0.length ∧ rs.length + sizeN p ≤ sizeN p0 := by
  induction h with
  | nil => exact ⟨ok, rfl, by simp⟩
  | @snoc rs p h hne ih =>
    obtain ⟨a, b, c⟩ := ih
    refine ⟨a.pop _, by rw [popN_len]; exact b, ?_⟩
    have := pop_less a.inB (pick_mem (num := num) (t := rs.length) hne)
    rw [List.length_append, List.length_singleton]
    omega
theorem Steps.last {num : Nat → Int} {p0 : Piles} {rs : List (List Nat)} {p : Piles} (h : Steps num p0 rs p) : (rs = [] ∧ p = p0) ∨ ∃ rs' q, Steps num p0 rs' q ∧ ringsN (topsN q) ≠ [] ∧ rs = rs' ++ [pick num rs'.length (ringsN (topsN q))] ∧ p = popN q (pick num rs'.length (ringsN (topsN q))) := by
  cases h with
  | nil => exact .inl ⟨rfl, rfl⟩
  | snoc h hne => exact .inr ⟨_, _, h, hne, rfl, rfl⟩
theorem Steps.det {num : Nat → Int} {p0 : Piles} : ∀ (n : Nat) {rs rs' : List (List Nat)} {p p' : Piles}, rs.length = n → rs'.length = n → Steps num p0 rs p → Steps num p0 rs' p' → rs = rs' ∧ p = p'
  | 0, rs, rs', p, p', h1, h2, a, b => by
    rcases a.last with ⟨rfl, rfl⟩ | ⟨_, _, _, _, e, _⟩
    · rcases b.last with ⟨rfl, rfl⟩ | ⟨_, _, _, _, e, _⟩
      · exact ⟨rfl, rfl⟩
      · rw [e] at h2; simp at h2
    · rw [e] at h1; simp at h1
  | n + 1, rs, rs', p, p', h1, h2, a, b => by
    rcases a.last with ⟨rfl, rfl⟩ | ⟨r1, q1, a1, n1, e1, f1⟩
    · simp at h1
    · rcases b.last with ⟨rfl, rfl⟩ | ⟨r2, q2, a2, n2, e2, f2⟩
      · simp at h2
      · rw [e1] at h1
        rw [e2] at h2
        rw [List.length_append, List.length_singleton] at h1 h2
        obtain ⟨z1, z2⟩ := Steps.det n (by omega) (by omega) a1 a2
        subst z1 z2
        exact ⟨e1.trans e2.symm, f1.trans f2.symm⟩
/-- ahead of each ring -/
theorem Steps.at {num : Nat → Int} {p0 : Piles} {rs : List (List Nat)} {p : Piles} (h : Steps num p0 rs p) : ∀ k, k < rs.length → ∃ q, Steps num p0 (rs.take k) q ∧ ringsN (topsN q) ≠ [] ∧ rs[k]? = some (pick num k (ringsN (topsN q))) ∧ Steps num p0 (rs.take (k + 1)) (popN q (pick num k (ringsN (topsN q)))) := by
  induction h with
  | nil => intro k hk; simp at hk
  | @snoc rs p h hne ih =>
    intro k hk
    rw [List.length_append, List.length_singleton] at hk
    by_cases hl : k < rs.length
    · obtain ⟨q, a, b, c, d⟩ := ih k hl
      refine ⟨q, ?_, b, ?_, ?_⟩
      · rw [List.take_append_of_le_length (by omega)]; exact a
      · rw [List.getElem?_append_left hl]; exact c
      · rw [List.take_append_of_le_length (by omega)]; exact d
    · have e : k = rs.length := by omega
      subst e
      refine ⟨p, ?_, hne, ?_, ?_⟩
      · rw [List.take_append_of_le_length (Nat.le_refl _), List.take_length]; exact h
      · rw [List.getElem?_append_right (Nat.le_refl _), Nat.sub_self]; rfl
      · rw [List.take_of_length_le (by simp)]; exact .snoc h hne
theorem Out.unique {num : Nat → Int} {p0 : Piles} {rs rs' : List (List Nat)} {p p' : Piles} (a : Out num p0 rs p) (b : Out num p0 rs' p') : rs = rs' ∧ p = p' := by
  have key : ∀ {rs rs' : List (List Nat)} {p p' : Piles}, Out num p0 rs p → Out num p0 rs' p' → ¬ rs.length < rs'.length := fun {rs rs' p p'} a b h => by
    obtain ⟨q, s, hne, _⟩ := b.1.at rs.length h
    have := (Steps.det rs.length rfl (by rw [List.length_take]; omega) a.1 s).2
    subst this
    exact hne a.2
  have h1 := key a b
  have h2 := key b a
  exact Steps.det rs.length rfl (by omega) a.1 b.1
def numN (o : Option (List Int)) (t : Nat) : Int := match o with
  | none => 0
  | some l => l.getD t 0
end Ways

/-! ## dict(a list of pairs) -/
namespace PySem
namespace F
end F
section
variable {prog : Program} {w : World} {A : Around} {E : Value → Shared → Prop} {s : Shared} {R : Result → Shared → Prop}
end
end PySem
namespace L2
open PySem PySem.Spec PyProof.Rows
/-- dict(row): a list of pairs of whole numbers, no first one twice -/
def rDictP : List V → Hp → VK → Prop := fun xs H Q => ∃ p ys, ∃ prs : List (Int × Int), xs = [.ref p] ∧ H p = some (.lst ys) ∧ ys.length = prs.length ∧ (∀ (i : Nat) (q : Int × Int), prs[i]? = some q → ∃ t, ys[i]? = some (.ref t) ∧ H t = some (.tup [.int q.1, .int q.2])) ∧
  (prs.map (·.1)).Nodup ∧ prs.length ≤ 15 ∧ ∀ l, H l = none → Q (.ref l) (upd H l (.dK (prs.map fun q => (Sum.inl q.1, V.int q.2))))
end L2

/-! ## a dict of ints: d[k] = v, sorted(d) -/
namespace L2
open PySem PySem.Spec PyProof.Rows
section
variable {X : Cx}
theorem set_dict (hu : X.A.units + 1 < cLine) : PSet X (fun o i v H Q => ∃ a H', o = .ref a ∧ DPut H a i v H' ∧ Q H') := by
  intro pins s σ H o i v ov iv u Q I ro ri rv ⟨a, H', e, g, q⟩
  subst e
  cases ro
  exact d_setItem hu I g ri rv fun s' I' => ⟨H', I', q⟩
def rSortedD : List V → Hp → VK → Prop := fun xs H Q => ∃ (p : Addr) (kvs : List (Key × V)) (ns : List Int), xs = [.ref p] ∧ H p = some (.dK kvs) ∧ kvs.map (·.1) = ns.map Sum.inl ∧ ns.length < 64 ∧
  ∀ (l : Addr) (ns' : List Int), H l = none → ns'.Perm ns → ns'.Pairwise (· ≤ ·) → Q (.ref l) (upd H l (.lst (ns'.map V.int)))
end
end L2

/-! ## not in, over data -/
namespace L2
open PySem PySem.Spec PyProof.Rows
section
variable {X : Cx}
def rNotInD : R2 := fun x y H Q => ∃ d es, Rep H x d ∧ Rep H y (.list es) ∧ SeqAt.shaped d = true ∧ SeqAt.shaped (.list es) = true ∧ min (PyData.depthAll es) d.depth ≤ 20 ∧ Q (.bl (!es.any fun e => PyData.eqv e d)) H
end
end L2

/-! ## a class of the program's own: its methods, its making -/
namespace L2
open PySem PySem.Spec PyProof.Rows
def MDef (P : Program) (w : World) (K : PySem.W.Frag) (mg : Str → Option Value) (base : Heap) (C : Addr) (m : Str) (k : Nat) (ps : List Str) (sp : Sp) : Prop :=
  ∃ f fd, FnOk P w K mg base CX0 k f fd ps sp ∧ Meth K C m f ∧ Binds K fd ps []
def NDef (P : Program) (w : World) (K : PySem.W.Frag) (mg : Str → Option Value) (base : Heap) (C : Addr) (k : Nat) (ps : List Str) (sp : Sp) : Prop :=
  ∃ f fd, FnOk P w K mg base CX0 k f fd ps sp ∧ Mk K C f ∧ Binds K fd ps []
def MHere (K : PySem.W.Frag) (C : Addr) (m qual : Str) (st : Stmt) (ps : List Str) : Prop := ∃ f fd, Fun K m qual st f fd ∧ Meth K C m f ∧ Binds K fd ps []
def NHere (K : PySem.W.Frag) (C : Addr) (qual : Str) (st : Stmt) (ps : List Str) : Prop := ∃ f fd, Fun K "__init__" qual st f fd ∧ Mk K C f ∧ Binds K fd ps []
theorem MHere.mk {P : Program} {w : World} {K : PySem.W.Frag} {mg : Str → Option Value} {base : Heap} {C : Addr} {m qual : Str} {st : Stmt} {ps : List Str} {k : Nat} {sp : Sp} (h : MHere K C m qual st ps) (ok : ∀ f fd, Fun K m qual st f fd → FnOk P w K mg base CX0 k f fd ps sp) : MDef P w K mg base C m k ps sp := by
  obtain ⟨f, fd, F, m, b⟩ := h
  exact ⟨f, fd, ok f fd F, m, b⟩
theorem NHere.mk {P : Program} {w : World} {K : PySem.W.Frag} {mg : Str → Option Value} {base : Heap} {C : Addr} {qual : Str} {st : Stmt} {ps : List Str} {k : Nat} {sp : Sp} (h : NHere K C qual st ps) (ok : ∀ f fd, Fun K "__init__" qual st f fd → FnOk P w K mg base CX0 k f fd ps sp) : NDef P w K mg base C k ps sp := by
  obtain ⟨f, fd, F, m, b⟩ := h
  exact ⟨f, fd, ok f fd F, m, b⟩
section
variable {X : Cx} {x m : Str} {C : Addr} {k k' : Nat} {ps : List Str} {sp : Sp} {o e : Expr} {es : List Expr} {ta : TE} {t : TA} {p pos apos : Pos}
theorem pe_methD {pl : Sem Bool} (he : PE X o ta) (c : Cls X.K C) (D : MDef X.prog X.w X.K X.mg X.base C m k ps sp) (hr : Room k' X.A) (ha : PA X (e :: es) t) (hk : k ≤ k' := by decide)
    (hst : starEach (e :: es) X.env = (false, eval e X.env) :: starEach es X.env := by rfl) (hpl : (backTo pos (starEach es X.env)).any (·.1) = false := by rfl)
    (ht : eval (.Call (.Attribute o m apos) (e :: es) [] pos) X.env = (do
      let ov ← eval o X.env
      standAt apos.atName
      let (f, first) ← holding [ov] (getMethod ov m pl)
      callWith pos f first (backTo pos (starEach (e :: es) X.env)) (backToKw pos (keywordEach [] X.env))) := by rfl) :
    PE X (.Call (.Attribute o m apos) (e :: es) [] pos) (tMeth C m sp [] E0 ta t) := by
  obtain ⟨f, fd, F, mm, b⟩ := D
  exact pe_meth he c mm F (hr.mono hk) b .nil pass0 ha hst hpl ht
theorem pe_makeD (D : NDef X.prog X.w X.K X.mg X.base C k ps sp) (hr : Room k' X.A) (hg : Gl X x) (hm : X.mg x = some (.ref C)) (ha : PA X (e :: es) t) (hk : k + 1 ≤ k' := by decide) (hdb : (x == ("__debug__" : Str)) = false := by decide)
    (he : starEach (e :: es) X.env = (false, eval e X.env) :: starEach es X.env := by rfl) (hpl : (backTo pos (starEach es X.env)).any (·.1) = false := by rfl) :
    PE X (.Call (.Name x p) (e :: es) [] pos) (tMake C sp [] E0 t) := by
  obtain ⟨f, fd, F, M, b⟩ := D
  exact pe_make M F (hr.mono hk) hg hm b .nil pass0 ha hdb he hpl
theorem pe_fldK {K : PySem.W.Frag} {f : Str} (he : PE X e ta) (hb : attributeBase e f X.env (eval e X.env) = eval e X.env := by rfl) (hK : X.K = K := by rfl) : PE X (.Attribute e f pos) (tFld K ta f) := by subst hK; exact pe_fld he hb
theorem ps_fldK {K : PySem.W.Frag} {f : Str} {value : Expr} {tv : TE} {pos' : Pos} (ha : PE X o ta) (hv : PE X value tv) (hs : swapsWith value (some (.Attribute o f pos')) pos.line X.env = pure false := by rfl) (hK : X.K = K := by rfl) : PS X (.Assign [.Attribute o f pos'] value pos) (sFld K ta tv f) := by subst hK; exact ps_fld ha hv hs
theorem pi_tupK {K : PySem.W.Frag} {tg l : Expr} {tl : TE} (hl : PE X l tl) (hK : X.K = K := by rfl) : PI X tg l (iTup K tl) := by subst hK; exact pi_tup hl
end
end L2

/-! ## a comprehension over a tuple; not in, over a dict -/
namespace L2
open PySem PySem.Spec PyProof.Rows
section
variable {K : PySem.W.Frag} {g : TG} {tt : TT} {te : TE} {σ : St} {cap : List (Option Nat)} {Q : VK} {H1 : Hp} {D : Addr}
theorem seqT_upd {G : Hp} {a : Addr} {xs : List V} {o : HO} (hG : G D = none) (h : G a = some (.tup xs)) : SqT K (upd G D o) a xs := SqT.of (same_upd hG _ _ _ h)
theorem comp_tup {a : Addr} {xs : List V} (Pv : Nat → Hp → List V → Prop) (hD : H1 D = none) (h0 : Pv 0 H1 []) (hl : ∀ i G ys, Pv i G ys → G a = some (.tup xs))
    (step : ∀ i x G ys, xs[i]? = some x → G D = none → Pv i G ys → g x (capt σ cap) (upd G D (.lst ys)) fun σ2 H2 => tt σ2 H2 fun b H3 => if b = true then te σ2 H3 (CPut D (Pv (i + 1))) else CAcc D (Pv (i + 1)) H3)
    (fin : ∀ G ys, G D = none → Pv xs.length G ys → Q (.ref D) (upd G D (.lst ys))) :
    CompAt cap g tt te σ Q (Itt K a) H1 D := by
  refine comp_it (J := Itt K a) (n := xs.length) Pv hD h0 (fun i G ys hi hG p => ⟨xs, xs[i], seqT_upd hG (hl i G ys p), by simp [hi]⟩) (fun G ys hG p => ⟨xs, seqT_upd hG (hl _ G ys p), Nat.le_refl _⟩) (fun i G ys x H' hi hG p y => ?_) fin
  obtain ⟨e, y⟩ := y
  subst e
  exact step i x G ys (y xs (seqT_upd hG (hl i G ys p))) hG p
end
section
variable {X : Cx}
def rNotInM : R2 := fun x y H Q => ∃ a o, y = .ref a ∧ DGet H a x o ∧ Q (.bl (!o.isSome)) H
theorem op_notInM {k : Nat} (hr : Room k X.A) : OpR X (compareOp .NotIn) rNotInM := by
  intro pins s σ H x y v u Q I rx ry ⟨a, o, e, g, q⟩
  subst e
  cases ry
  exact d_notIn (by have := hr.un; omega) I g rx fun s' I' => ⟨.bl _, H, I', rfl, q⟩
end
end L2

/-! ## a list taken apart: (a, b) = [x, y] -/
namespace L2
open PySem PySem.Spec PyProof.Rows
section
variable {pr : Program} {wd : World} {A : Around} {E : Value → Shared → Prop}
theorem draw_lst {I l : Addr} {vs : Array Value} (ne : l ≠ I) : ∀ (n i : Nat) (s : Shared) (Q : List Value → Shared → Prop),
    s.heap.IsListIter I l i → s.heap.IsList l vs → i + n ≤ vs.size → (∀ g, g.IsListIter I l (i + n) → Heap.SameBut I s.heap g → Q ((vs.toList.drop i).take n) { s with heap := g }) →
    wpAny (model pr wd) A (draw (.ref I) n) Q E s
  | 0, i, s, Q, hI, _, _, k => wpAny_pure (by
    have := k s.heap hI (Heap.SameBut.refl ..)
    rwa [List.take_zero] at this)
  | n + 1, i, s, Q, hI, hL, le, k => by
    have lt : i < vs.size := by omega
    have hx : vs[i]? = some vs[i] := by rw [Array.getElem?_eq_getElem lt]
    refine wpAny_bind (m := pyNext (.ref I)) (wpAny_pyNext_list_item hI hL hx fun g1 hI1 e1 => ?_)
    refine wpAny_bind (wpAny_holding (draw_lst ne n (i + 1) _ _ hI1 (hL.extBut e1.extBut ne) (by omega) fun g2 hI2 e2 => wpAny_pure ?_))
    have q := k g2 (by rwa [show i + (n + 1) = i + 1 + n by omega]) (e1.trans e2)
    have cut : vs.toList.drop i = vs[i] :: vs.toList.drop (i + 1) := by simp [List.drop_eq_getElem_cons, lt]
    rwa [cut, List.take_succ_cons] at q
theorem parts_lst {l : Addr} {vs : Array Value} {s : Shared} {Q : List Value → Shared → Prop} (hd : A.handled = none) (hL : s.heap.IsList l vs)
    (k : ∀ g, Heap.ExtBut s.heap.objs.size s.heap g → Q vs.toList { s with heap := g }) : wpAny (model pr wd) A (unpackItems (.ref l) vs.size none) Q E s := by
  have ne : l ≠ s.heap.objs.size := by
    obtain ⟨o, ho, _⟩ := hL
    exact Nat.ne_of_lt (Heap.lt_size ho)
  unfold unpackItems notIterableAtAll
  refine wpAny_bind (wpAny_bind (wpAny_specialOf hL.typeIs slot_list_iter.lookup (wpAny_pure ?_)))
  rw [if_neg Bool.false_ne_true]
  refine wpAny_bind (wpAny_holding (wpAny_pyIter_list hL ?_))
  have hI : (s.heap.push { cls := .type "list_iterator", data := .fields #[.ref l, .int 0 0] }).IsListIter s.heap.objs.size l 0 := ⟨_, Heap.get?_push_size _ rfl, rfl, rfl⟩
  refine wpAny_bind (wpAny_holding (draw_lst ne vs.size 0 _ _ hI (hL.push _) (by omega) fun g1 hI1 e1 => ?_))
  rw [List.drop_zero, List.take_of_length_le (by simp), if_neg (by simp)]
  have hL1 : g1.IsList l vs := (hL.push _).extBut e1.extBut ne
  refine wpAny_bind (wpAny_holding (wpAny_pyNext_list_end hd hI1 hL1 (by simp) fun g2 e2 => ?_))
  simp only [Option.isSome_none, Bool.false_eq_true, if_false]
  exact wpAny_pure (k g2 fun b o hb e => e2 b o hb (e1.extBut b o hb (Heap.get?_push_of_some _ e)))
end
section
variable {X : Cx} {K : PySem.W.Frag} {pos : Pos}
def gLst (K : PySem.W.Frag) (n : Nat) (t : TGs) : TG := fun v σ H Q => ∃ a xs, v = .ref a ∧ SqL K H a xs ∧ xs.length = n ∧ t xs σ H Q
theorem pg_lstK {es : List Expr} {k : Nat} {t : TGs} {n : Nat} (hc : X.calm = true) (h : PGs X es t) (hK : X.K = K := by rfl)
    (hn : (assignEach es X.env).length = n := by rfl) (hst : (assignEach es X.env).findIdx? (·.1) = none := by rfl) : PG X (.Tuple es k pos) (gLst K n t) := by
  subst hK
  intro pins s σ H v u Q I r hw
  obtain ⟨a, xs, rfl, hq, hl, hw⟩ := hw
  cases r
  obtain ⟨its, rv, pl, _⟩ := I.list hq
  have sz : its.toArray.size = n := by rw [List.size_toArray, ← hl, rv.length]
  rw [assign_Tuple]
  refine wpAny_bind (wpAny_standAt ?_)
  unfold unpack
  rw [hn, hst]
  refine wpAny_bind (wpAny_holding ?_)
  rw [← sz]
  refine parts_lst (I.ok.hd hc) pl.isList fun g hx => ?_
  have I1 : Inv X pins σ H { s with heap := g } := I.kept (t' := s.toks) fun b o e => hx b o (Nat.ne_of_lt (Heap.lt_size e)) e
  exact h pins _ σ H xs _ Q I1 (by simpa using rv) hw
end
end L2

/-! ## walks: the mathematics of point 13 -/
namespace Ways
open Ring
/-- turned so that the least is first -/
def minN (r : List Nat) : Nat := r.foldl min (r.headD 0)
def leastN (r : List Nat) : List Nat := r.drop (r.idxOf (minN r)) ++ r.take (r.idxOf (minN r))
theorem fold_min : ∀ (l : List Nat) (a : Nat), (l.foldl min a = a ∨ l.foldl min a ∈ l) ∧ l.foldl min a ≤ a ∧ ∀ x ∈ l, l.foldl min a ≤ x
  | [], a => ⟨.inl rfl, Nat.le_refl _, fun _ m => nomatch m⟩
  | b :: l, a => by
    obtain ⟨h1, h2, h3⟩ := fold_min l (min a b)
    rw [List.foldl_cons]
    refine ⟨?_, by omega, fun x m => ?_⟩
    · rcases h1 with e | e
      · rw [e]
        by_cases c : a ≤ b
        · exact .inl (by omega)
        · exact .inr (by rw [show min a b = b by omega]; exact List.mem_cons_self)
      · exact .inr (List.mem_cons_of_mem _ e)
    · rcases List.mem_cons.mp m with e | m
      · subst e; omega
      · exact h3 x m
theorem min_is {r : List Nat} {m : Nat} (hm : m ∈ r) (le : ∀ x ∈ r, m ≤ x) : minN r = m := by
  obtain ⟨h1, h2, h3⟩ := fold_min r (r.headD 0)
  have hh : r.headD 0 ∈ r := by
    cases r with
    | nil => cases hm
    | cons a r => exact List.mem_cons_self
  have : minN r ∈ r := by
    rcases h1 with e | e
    · unfold minN; rw [e]; exact hh
    · exact e
  have a := le _ this
  have b := h3 m hm
  unfold minN at *
  omega
abbrev WS := List Nat × List (List Nat) × Piles
def lastN (road : List Nat) : Nat := road.getLastD 0
def endedW (early : List Nat) (s : WS) : Prop := s.2.2.getD (lastN s.1) [] = [] ∨ lastN s.1 ∈ early
def toN (s : WS) : Nat := (s.2.2.getD (lastN s.1) []).headD 0
def nextW (s : WS) : WS := if toN s ∈ s.1 then (s.1.take (s.1.idxOf (toN s) + 1), s.2.1 ++ [leastN (s.1.drop (s.1.idxOf (toN s)))], popN s.2.2 (s.1.drop (s.1.idxOf (toN s)))) else (s.1 ++ [toN s], s.2.1, s.2.2)
/-- a walk to its end -/
inductive WRun (early : List Nat) : WS → WS → Prop
  | stop {s : WS} : endedW early s → WRun early s s
  | go {s t : WS} : ¬ endedW early s → WRun early (nextW s) t → WRun early s t
theorem WRun.det {early : List Nat} {s t u : WS} (a : WRun early s t) (b : WRun early s u) : t = u := by
  induction a with
  | stop h =>
    cases b with
    | stop _ => rfl
    | go h' _ => exact absurd h h'
  | go h _ ih =>
    cases b with
    | stop h' => exact absurd h' h
    | go _ b => exact ih b
structure GoodW (s : WS) : Prop where
  ne : s.1 ≠ []
  nd : s.1.Nodup
  bd : ∀ x ∈ s.1, x < s.2.2.length
  ok : PilesOk s.2.2
theorem last_mem {l : List Nat} (h : l ≠ []) : lastN l ∈ l := by
  unfold lastN
  rw [List.getLastD_eq_getLast?, List.getLast?_eq_some_getLast h]
  exact List.getLast_mem h
theorem GoodW.to {s : WS} (g : GoodW s) (h : s.2.2.getD (lastN s.1) [] ≠ []) : toN s < s.2.2.length := by
  have hl := g.bd _ (last_mem g.ne)
  unfold toN
  rw [List.getD_eq_getElem?_getD, List.getElem?_eq_getElem hl] at h ⊢
  have : (s.2.2[lastN s.1]) ≠ [] := h
  show (s.2.2[lastN s.1]).headD 0 < _
  cases e : s.2.2[lastN s.1] with
  | nil => exact absurd e this
  | cons a r => exact g.ok.bd _ (List.getElem_mem hl) a (by rw [e]; exact List.mem_cons_self)
theorem GoodW.next {early : List Nat} {s : WS} (g : GoodW s) (h : ¬ endedW early s) : GoodW (nextW s) ∧ 9 * sizeN (nextW s).2.2 + (8 - (nextW s).1.length) < 9 * sizeN s.2.2 + (8 - s.1.length) ∧ (nextW s).2.2.length = s.2.2.length := by
  have hne : s.2.2.getD (lastN s.1) [] ≠ [] := fun z => h (.inl z)
  have ht := g.to hne
  have l8 : s.1.length ≤ 8 := Nat.le_trans (nodup_bound _ s.1 g.nd g.bd) g.ok.len
  unfold nextW
  by_cases c : toN s ∈ s.1
  · rw [if_pos c]
    have hi := List.idxOf_lt_length_of_mem c
    refine ⟨⟨?_, g.nd.sublist (List.take_sublist _ _), fun x hx => ?_, g.ok.pop _⟩, ?_, popN_len _ _⟩
    · intro z
      have := congrArg List.length z
      rw [List.length_take, List.length_nil] at this
      omega
    · show x < (popN _ _).length
      rw [popN_len]
      exact g.bd x (List.mem_of_mem_take hx)
    · show 9 * sizeN (popN _ _) + (8 - (s.1.take _).length) < _
      have hl : lastN s.1 ∈ s.1.drop (s.1.idxOf (toN s)) := by
        have := last_mem (l := s.1.drop (s.1.idxOf (toN s))) (by intro z; have := congrArg List.length z; rw [List.length_drop] at this; simp at this; omega)
        have e : lastN (s.1.drop (s.1.idxOf (toN s))) = lastN s.1 := by
          unfold lastN
          rw [List.getLastD_eq_getLast?, List.getLastD_eq_getLast?, List.getLast?_drop, if_neg (by omega)]
        rw [e] at this
        exact this
      have lt := g.bd _ (last_mem g.ne)
      have := popAux_less (s.1.drop (s.1.idxOf (toN s))) s.2.2 0 (lastN s.1) (by rw [Nat.zero_add]; exact hl) ⟨_, List.getElem?_eq_getElem lt, by
        rw [List.getD_eq_getElem?_getD, List.getElem?_eq_getElem lt] at hne
        exact hne⟩
      have : sizeN (popN s.2.2 (s.1.drop (s.1.idxOf (toN s)))) < sizeN s.2.2 := this
      have : 0 < s.1.length := List.length_pos_iff.mpr g.ne
      rw [List.length_take]
      omega
  · rw [if_neg c]
    have nd' : (s.1 ++ [toN s]).Nodup := by
      rw [List.nodup_append]
      refine ⟨g.nd, by simp, fun x hx y hy e => ?_⟩
      have : y = toN s := by simpa using hy
      rw [e, this] at hx
      exact c hx
    have bd' : ∀ x ∈ s.1 ++ [toN s], x < s.2.2.length := fun x hx => by
      rcases List.mem_append.mp hx with z | z
      · exact g.bd x z
      · have : x = toN s := by simpa using z
        rw [this]; exact ht
    refine ⟨⟨by simp, nd', bd', g.ok⟩, ?_, rfl⟩
    have l8' : (s.1 ++ [toN s]).length ≤ 8 := Nat.le_trans (nodup_bound _ _ nd' bd') g.ok.len
    show 9 * sizeN s.2.2 + (8 - (s.1 ++ [toN s]).length) < _
    rw [List.length_append, List.length_singleton] at l8' ⊢
    omega
theorem GoodW.start {p : Piles} (ok : PilesOk p) {s : Nat} (h : s < p.length) : GoodW ([s], [], p) where
  ne := by simp
  nd := by simp
  bd := fun x hx => by
    have e : x = s := by simpa using hx
    rw [e]; exact h
  ok := ok
/-- start by start -/
inductive WSteps (p0 : Piles) : List Nat → List (List Nat) → List (List Nat) → Piles → Prop
  | nil : WSteps p0 [] [] [] p0
  | snoc {ss : List Nat} {roads rings rs : List (List Nat)} {p p' : Piles} {s : Nat} {road : List Nat} : WSteps p0 ss roads rings p → WRun roads.flatten ([s], [], p) (road, rs, p') → WSteps p0 (ss ++ [s]) (roads ++ [road]) (rings ++ rs) p'
theorem WSteps.last {p0 p : Piles} {ss : List Nat} {roads rings : List (List Nat)} (h : WSteps p0 ss roads rings p) : (ss = [] ∧ roads = [] ∧ rings = [] ∧ p = p0) ∨
    ∃ ss' s r' g' q road rs, ss = ss' ++ [s] ∧ roads = r' ++ [road] ∧ rings = g' ++ rs ∧ WSteps p0 ss' r' g' q ∧ WRun r'.flatten ([s], [], q) (road, rs, p) := by
  cases h with
  | nil => exact .inl ⟨rfl, rfl, rfl, rfl⟩
  | snoc a b => exact .inr ⟨_, _, _, _, _, _, _, rfl, rfl, rfl, a, b⟩
theorem WSteps.det {p0 : Piles} : ∀ (n : Nat) {ss : List Nat} {roads rings roads' rings' : List (List Nat)} {p p' : Piles}, ss.length = n → WSteps p0 ss roads rings p → WSteps p0 ss roads' rings' p' → roads = roads' ∧ rings = rings' ∧ p = p'
  | 0, ss, roads, rings, roads', rings', p, p', e, a, b => by
    have e0 := List.eq_nil_of_length_eq_zero e
    subst e0
    rcases a.last with ⟨_, rfl, rfl, rfl⟩ | ⟨_, _, _, _, _, _, _, z, _⟩
    · rcases b.last with ⟨_, rfl, rfl, rfl⟩ | ⟨_, _, _, _, _, _, _, z, _⟩
      · exact ⟨rfl, rfl, rfl⟩
      · simp at z
    · simp at z
  | n + 1, ss, roads, rings, roads', rings', p, p', e, a, b => by
    rcases a.last with ⟨rfl, _⟩ | ⟨ss1, s1, r1, g1, q1, road1, rs1, e1, rfl, rfl, a1, w1⟩
    · simp at e
    · rcases b.last with ⟨rfl, _⟩ | ⟨ss2, s2, r2, g2, q2, road2, rs2, e2, rfl, rfl, a2, w2⟩
      · simp at e
      · rw [e1] at e2
        obtain ⟨x1, x2⟩ := List.append_inj' e2 rfl
        cases x2
        subst x1
        rw [e1, List.length_append, List.length_singleton] at e
        obtain ⟨rfl, rfl, rfl⟩ := WSteps.det n (by omega) a1 a2
        have := w1.det w2
        cases this
        exact ⟨rfl, rfl, rfl⟩
end Ways

/-! ## the text, its defs one by one -/
namespace L2
open PySem PySem.Spec PyProof.Rows
/-- a def of the text as the top has made it -/
def Here (K : PySem.W.Frag) (mg : Str → Option Value) (x : Str) (st : Stmt) (ps : List Str) : Prop := ∃ f fd, Fun K x x st f fd ∧ mg x = some (.ref f) ∧ Binds K fd ps []
theorem Here.mk {P : Program} {w : World} {K : PySem.W.Frag} {mg : Str → Option Value} {base : Heap} {x : Str} {st : Stmt} {ps : List Str} {k : Nat} {sp : Sp} (h : Here K mg x st ps) (ok : ∀ f fd, Fun K x x st f fd → FnOk P w K mg base CX0 k f fd ps sp) : Def P w K mg base x k ps sp := by
  obtain ⟨f, fd, F, m, b⟩ := h
  exact ⟨f, fd, ok f fd F, m, F.kp, b⟩
end L2
namespace Law
open PySem L2 Ways Ring PyProof.Rows
def top (i : Nat) : Stmt := PySem.Challenge.pw_ringpop_k21_roads.main.body.getD i (.Pass ⟨0, 0, 0, 0⟩)
abbrev s_copied : Stmt := top 1
theorem sc_copied : FnScope ["piles"] ["piles"] (defScope s_copied) := ⟨rfl, rfl, rfl, by decide +kernel, rfl, by decide +kernel, by decide +kernel⟩
abbrev s_least_first : Stmt := top 2
theorem sc_least_first : FnScope ["ring", "at"] ["ring"] (defScope s_least_first) := ⟨rfl, rfl, rfl, by decide +kernel, rfl, by decide +kernel, by decide +kernel⟩
abbrev s_without_tops : Stmt := top 3
theorem sc_without_tops : FnScope ["piles", "places"] ["piles", "places"] (defScope s_without_tops) := ⟨rfl, rfl, rfl, by decide +kernel, rfl, by decide +kernel, by decide +kernel⟩
abbrev s_walk_out : Stmt := top 6
theorem sc_walk_out : FnScope ["piles", "starts", "asked", "others", "walker", "start"] ["piles", "starts"] (defScope s_walk_out) := ⟨rfl, rfl, rfl, by decide +kernel, rfl, by decide +kernel, by decide +kernel⟩
abbrev s__law_fold : Stmt := top 8
theorem sc__law_fold : FnScope ["_law_script", "_law_number", "_law_cell"] ["_law_script", "_law_number"] (defScope s__law_fold) := ⟨rfl, rfl, rfl, by decide +kernel, rfl, by decide +kernel, by decide +kernel⟩
abbrev s__law_next : Stmt := top 9
abbrev s__law_any : Stmt := top 10
theorem sc__law_any : FnScope ["_law_script", "_law_number", "_law_many", "_law_piles", "_law_bare", "_law_cell", "_law_place"] ["_law_script", "_law_number"] (defScope s__law_any) := ⟨rfl, rfl, rfl, by decide +kernel, rfl, by decide +kernel, by decide +kernel⟩
abbrev s__law_whole : Stmt := top 11
theorem sc__law_whole : FnScope ["_law_found"] ["_law_found"] (defScope s__law_whole) := ⟨rfl, rfl, rfl, by decide +kernel, rfl, by decide +kernel, by decide +kernel⟩
abbrev s__law_one : Stmt := top 12
theorem sc__law_one : FnScope ["_law_start", "_law_left", "_law_earlier", "_law_road", "_law_rings", "_law_there", "_law_ring", "_law_place", "_law_at"] ["_law_start", "_law_left", "_law_earlier"] (defScope s__law_one) := ⟨rfl, rfl, rfl, by decide +kernel, rfl, by decide +kernel, by decide +kernel⟩
abbrev s__law_lists : Stmt := top 13
theorem sc__law_lists : FnScope ["_law_found", "_law_due", "_law_part"] ["_law_found", "_law_due"] (defScope s__law_lists) := ⟨rfl, rfl, rfl, by decide +kernel, rfl, by decide +kernel, by decide +kernel⟩
abbrev s__law_right : Stmt := top 14
theorem sc__law_right : FnScope ["_law_found", "_law_piles", "_law_starts", "_law_left", "_law_roads", "_law_rings", "_law_earlier", "_law_start", "_law_road", "_law_lost", "_law_place"] ["_law_found", "_law_piles", "_law_starts"] (defScope s__law_right) := ⟨rfl, rfl, rfl, by decide +kernel, rfl, by decide +kernel, by decide +kernel⟩
abbrev s_law : Stmt := top 15
theorem sc_law : FnScope ["_law_script", "_law_number", "_law_piles", "_law_starts", "_law_handed", "_law_found", "_law_held", "_law_pile", "_law_parts", "_law_again"] ["_law_script"] (defScope s_law) := ⟨rfl, rfl, rfl, by decide +kernel, rfl, by decide +kernel, by decide +kernel⟩
abbrev s_Walker___init__ : Stmt := inClass (top 5) 0
theorem sc_Walker___init__ : FnScope ["self", "piles"] ["self", "piles"] (defScope s_Walker___init__) := ⟨rfl, rfl, rfl, by decide +kernel, rfl, by decide +kernel, by decide +kernel⟩
abbrev s_Walker_ends_at : Stmt := inClass (top 5) 1
theorem sc_Walker_ends_at : FnScope ["self", "place"] ["self", "place"] (defScope s_Walker_ends_at) := ⟨rfl, rfl, rfl, by decide +kernel, rfl, by decide +kernel, by decide +kernel⟩
abbrev s_Walker_lose : Stmt := inClass (top 5) 2
theorem sc_Walker_lose : FnScope ["self", "ring"] ["self", "ring"] (defScope s_Walker_lose) := ⟨rfl, rfl, rfl, by decide +kernel, rfl, by decide +kernel, by decide +kernel⟩
abbrev s_Walker_walk_from : Stmt := inClass (top 5) 3
theorem sc_Walker_walk_from : FnScope ["self", "start", "road", "to", "at"] ["self", "start"] (defScope s_Walker_walk_from) := ⟨rfl, rfl, rfl, by decide +kernel, rfl, by decide +kernel, by decide +kernel⟩
structure OwnWalker (K : PySem.W.Frag) (mg : Str → Option Value) (C : Addr) : Prop where
  cl : L2.Cls K C
  g : mg "Walker" = some (.ref C)
  n_rest : NoAttr K C "rest"
  n_rings : NoAttr K C "rings"
  n_roads : NoAttr K C "roads"
structure Txt (mg : Str → Option Value) : Prop where
  z_any : mg "any" = none
  z_bool : mg "bool" = none
  z_enumerate : mg "enumerate" = none
  z_int : mg "int" = none
  z_isinstance : mg "isinstance" = none
  z_len : mg "len" = none
  z_list : mg "list" = none
  z_min : mg "min" = none
  z_range : mg "range" = none
  z_tuple : mg "tuple" = none
section
variable {P : Program} {w : World} {K : PySem.W.Frag} {mg : Str → Option Value} {base : Heap}
def tyData : PyData → String
  | .none => "NoneType"
  | .bool _ => "bool"
  | .int _ => "int"
  | .str _ => "str"
  | .list _ => "list"
  | .tuple _ => "tuple"
  | .dict _ => "dict"
theorem rep_ty {H : Hp} {x : V} {d : PyData} (r : Rep H x d) : tyD H x = some (tyData d) := by
  cases r with
  | lst e _ => simp [tyD, e, tyData]
  | tup e _ => simp [tyD, e, tyData]
  | dct e => simp [tyD, e, tyData]
  | _ => rfl
def isIntD : PyData → Bool
  | .int _ => true
  | _ => false

/-! ### taking data apart -/
theorem fm_some {α β : Type} (f : α → β) (l : List α) : l.filterMap (fun a => some (f a)) = l.map f := by
  induction l with
  | nil => rfl
  | cons a r ih => rw [List.filterMap_cons, List.map_cons, ih]
theorem rep_int {H : Hp} {x : V} {i : Int} (r : Rep H x (.int i)) : x = .int i := by cases r; rfl
theorem rep_list {H : Hp} {x : V} {ds : List PyData} (r : Rep H x (.list ds)) : ∃ a xs, x = .ref a ∧ H a = some (.lst xs) ∧ Reps H xs ds := by
  cases r with
  | @lst a xs _ e rs => exact ⟨a, xs, rfl, e, rs⟩
theorem reps_map {α : Type} {H : Hp} {f : α → PyData} {l : List α} {xs : List V} {i : Nat} {x : V} (rs : Reps H xs (l.map f)) (hx : xs[i]? = some x) : ∃ a, l[i]? = some a ∧ Rep H x (f a) := by
  obtain ⟨d, hd, r⟩ := rs.get hx
  rw [List.getElem?_map] at hd
  cases e : l[i]? with
  | none => rw [e] at hd; cases hd
  | some a =>
    rw [e] at hd
    cases hd
    exact ⟨a, rfl, r⟩
theorem iteB {b : Bool} {A B : Prop} (h1 : b = true → A) (h2 : b = false → B) : if b = true then A else B := by
  cases b with
  | true => rw [if_pos rfl]; exact h1 rfl
  | false => rw [if_neg Bool.false_ne_true]; exact h2 rfl
theorem iteD {c A B : Prop} [Decidable c] (h1 : c → A) (h2 : ¬ c → B) : if decide c = true then A else B := iteB (fun h => h1 (of_decide_eq_true h)) (fun h => h2 (of_decide_eq_false h))
theorem atI0 {α : Type} (x : α) (r : List α) : atI (x :: r) 0 = some x := atI_nat (j := 0) rfl
theorem lt_of_get {α : Type} {l : List α} {i : Nat} {x : α} (h : l[i]? = some x) : i < l.length := (List.getElem?_eq_some_iff.mp h).1

theorem inV_ints (e : Int) (l : List Int) : inV (.int e) (l.map V.int) = decide (e ∈ l) := by
  unfold inV
  rw [List.any_map]
  induction l with
  | nil => rfl
  | cons a r ih =>
    rw [List.any_cons, ih]
    show (a == e || decide (e ∈ r)) = decide (e ∈ a :: r)
    by_cases h : a = e
    · simp [h]
    · have h' : ¬ e = a := fun q => h q.symm
      simp [h, h']
/-! ### ways -/
def optV : Option Nat → V
  | none => .non
  | some e => .int e
def natsV (l : List Nat) : List V := l.map fun (n : Nat) => V.int (n : Int)
theorem inV_nats (e : Nat) (l : List Nat) : inV (.int e) (natsV l) = decide (e ∈ l) := by
  have : natsV l = (l.map fun (n : Nat) => (n : Int)).map V.int := by unfold natsV; rw [List.map_map]; rfl
  rw [this, inV_ints]
  congr 1
  apply propext
  constructor
  · intro h
    obtain ⟨a, ha, e'⟩ := List.mem_map.mp h
    have : a = e := by omega
    exact this ▸ ha
  · intro h
    exact List.mem_map.mpr ⟨e, h, rfl⟩
theorem flat_nats (l : List Nat) : (natsV l).all flatV = true := by
  unfold natsV
  rw [List.all_map]
  exact List.all_eq_true.mpr fun _ _ => rfl
structure New (H F H' : Hp) : Prop where
  keep : Same H H'
  sub : Same F H'
  fresh : ∀ b o, F b = some o → H b = none
/-! ### flat lists -/
def flD : V → PyData
  | .bl b => .bool b
  | .int i => .int i
  | .str x => .str x
  | _ => .none
theorem ixN_nat {n j : Nat} (h : j < n) : ixN n (j : Int) = some j := by
  unfold ixN
  rw [if_pos (Int.natCast_nonneg j), if_pos (by omega)]
  simp
/-! ### lists of places -/
def natsD (l : List Nat) : PyData := .list (l.map fun (n : Nat) => .int (n : Int))
def ringsD (l : List (List Nat)) : PyData := .list (l.map natsD)
theorem reps_nats {H : Hp} : ∀ {l : List Nat} {xs : List V}, Reps H xs (l.map fun (n : Nat) => .int (n : Int)) → xs = natsV l
  | [], _, .nil => rfl
  | a :: l, _, .cons r t => by
    rw [rep_int r, reps_nats t]
    rfl
theorem nats_reps {H : Hp} : ∀ (l : List Nat), Reps H (natsV l) (l.map fun (n : Nat) => .int (n : Int))
  | [] => .nil
  | _ :: l => .cons (.int _) (nats_reps l)
theorem rep_nats {H : Hp} {x : V} {l : List Nat} (r : Rep H x (natsD l)) : ∃ b, x = .ref b ∧ H b = some (.lst (natsV l)) := by
  obtain ⟨b, xs, rfl, e, rs⟩ := rep_list r
  exact ⟨b, rfl, by rw [e, reps_nats rs]⟩
theorem nats_rep {H : Hp} {b : Addr} {l : List Nat} (h : H b = some (.lst (natsV l))) : Rep H (.ref b) (natsD l) := .lst h (nats_reps l)
theorem okTo_nats (l : List Nat) : okTo 1 (natsD l) := okTo.list fun d hd => by
  obtain ⟨a, _, rfl⟩ := List.mem_map.mp hd
  exact okTo.int _
theorem okTo_rings (l : List (List Nat)) : okTo 2 (ringsD l) := okTo.list fun d hd => by
  obtain ⟨a, _, rfl⟩ := List.mem_map.mp hd
  exact okTo_nats a
theorem eqv_nat (a b : Nat) : PyData.eqv (.int (a : Int)) (.int (b : Int)) = decide (a = b) := by
  rw [eqv_int]
  by_cases h : a = b
  · simp [h]
  · have : ¬ (a : Int) = b := by omega
    simp [h, this]
theorem eqv_nats (a b : List Nat) : PyData.eqv (natsD a) (natsD b) = decide (a = b) := by
  simp only [natsD, PyData.eqv]
  exact eqvAll_map eqv_nat a b
theorem eqv_rings (a b : List (List Nat)) : PyData.eqv (ringsD a) (ringsD b) = decide (a = b) := by
  simp only [ringsD, PyData.eqv]
  exact eqvAll_map eqv_nats a b
theorem natsV_len (l : List Nat) : (natsV l).length = l.length := by unfold natsV; rw [List.length_map]
theorem natsV_append (a b : List Nat) : natsV (a ++ b) = natsV a ++ natsV b := by unfold natsV; rw [List.map_append]
theorem natsV_get {l : List Nat} {i : Nat} {x : V} (h : (natsV l)[i]? = some x) : ∃ n, l[i]? = some n ∧ x = .int (n : Int) := by
  unfold natsV at h
  rw [List.getElem?_map] at h
  cases e : l[i]? with
  | none => rw [e] at h; cases h
  | some n => rw [e] at h; exact ⟨n, rfl, (Option.some.inj h).symm⟩
/-- a new object joins what a view knows, while a block's list grows -/
theorem New.grow {H F G H4 : Hp} {D r : Addr} {ys : List V} {o : HO} (n : New H F G) (hG : G D = none) (hs : Same (upd G D (.lst ys)) H4) (hr : (upd G D (.lst ys)) r = none) (h4 : H4 r = some o) : New H (upd F r o) (del H4 D) := by
  have hrD : r ≠ D := by rintro rfl; rw [upd_same] at hr; cases hr
  have hGr : G r = none := by rw [upd_ne hrD] at hr; exact hr
  refine ⟨same_del n.keep hG hs, fun b u e => ?_, fun b u e => ?_⟩
  · by_cases hb : b = r
    · subst hb
      rw [upd_same] at e
      cases e
      rw [del_ne hrD]
      exact h4
    · rw [upd_ne hb] at e
      have e1 := n.sub b u e
      have nb : b ≠ D := ne_of_none e1 hG
      rw [del_ne nb]
      exact hs b u (by rw [upd_ne nb]; exact e1)
  · by_cases hb : b = r
    · subst hb
      exact n.keep.free hGr
    · rw [upd_ne hb] at e
      exact n.fresh b u e
theorem New.bare {H F G : Hp} {r : Addr} (n : New H F G) (h : G r = none) : F r = none := n.sub.free h
theorem New.start (H : Hp) : New H (fun _ => none) H := ⟨Same.refl _, (fun _ _ e => nomatch e), (fun _ _ e => nomatch e)⟩
/-- .. and the block's own list at its end -/
theorem New.done {H F G : Hp} {D : Addr} {o : HO} (n : New H F G) (hG : G D = none) : New H (upd F D o) (upd G D o) := by
  refine ⟨n.keep.trans (same_upd hG _), fun b u e => ?_, fun b u e => ?_⟩
  · by_cases hb : b = D
    · subst hb; rw [upd_same] at e ⊢; exact e
    · rw [upd_ne hb] at e ⊢; exact n.sub b u e
  · by_cases hb : b = D
    · subst hb; exact n.keep.free hG
    · rw [upd_ne hb] at e; exact n.fresh b u e
theorem New.more {H F G G' : Hp} (n : New H F G) (h : Same G G') : New H F G' := ⟨n.keep.trans h, n.sub.trans h, n.fresh⟩
end
end Law

namespace Law
open PySem L2 Ways Ring PyProof.Rows
section
variable {P : Program} {w : World} {K : PySem.W.Frag} {mg : Str → Option Value} {base : Heap}
theorem reps_at {H : Hp} {xs : List V} {l : List (List Nat)} (rs : Reps H xs (l.map natsD)) {i : Nat} {x : V} (hx : xs[i]? = some x) : ∃ t b, l[i]? = some t ∧ x = .ref b ∧ H b = some (.lst (natsV t)) := by
  obtain ⟨t, ht, rt⟩ := reps_map rs hx
  obtain ⟨b, rfl, eb⟩ := rep_nats rt
  exact ⟨t, b, ht, rfl, eb⟩
/-! ### copied -/
def sp_copied : Sp := fun vs H Q _ => ∃ x l, vs = [x] ∧ Rep H x (ringsD l) ∧ l.length ≤ 900 ∧ ∀ r F H', New H F H' → Rep F r (ringsD l) → Q r H'
/-- a block of copies -/
theorem copies {cap : List (Option Nat)} {σ : L2.St} {Q : VK} {H : Hp} {a D : Addr} {xs : List V} {l : List (List Nat)} {te : TE} (ea : H a = some (.lst xs)) (rs : Reps H xs (l.map natsD)) (hl : l.length ≤ 900) (hD : H D = none)
    (ht : ∀ x G Q', (∃ b t, x = .ref b ∧ G b = some (.lst (natsV t)) ∧ ∀ c, G c = none → Q' (.ref c) (upd G c (.lst (natsV t)))) → te ((capt σ cap).set 0 (some x)) G Q')
    (fin : ∀ F G ys, G D = none → New H F G → Reps F ys (l.map natsD) → Q (.ref D) (upd G D (.lst ys))) : CompAt cap (gName 0) tTrue te σ Q (Itl K a) H D := by
  have xl : xs.length = l.length := by rw [rs.length, List.length_map]
  refine comp_list (K := K) (xs := xs) (fun i G ys => ∃ F', New H F' G ∧ Reps F' ys ((l.take i).map natsD)) hD ⟨_, New.start _, .nil⟩ (fun i G ys ⟨_, p, _⟩ => SqL.of (p.keep _ _ ea)) (fun i x G ys hx hG p => ?_) (fun G ys hG p => ?_)
  · obtain ⟨F', n', rs'⟩ := p
    obtain ⟨t, b, ht', rfl, eb⟩ := reps_at rs hx
    refine ht _ _ _ ⟨b, t, rfl, same_upd hG _ _ _ (n'.keep _ _ eb), fun c hc => ?_⟩
    refine cput (ys := ys) (same_upd hc _ _ _ upd_same) (by have := rs'.length; rw [List.length_map, List.length_take] at this; omega) ⟨_, n'.grow hG (same_upd hc _) hc upd_same, ?_⟩
    have hcD : c ≠ D := by rintro rfl; rw [upd_same] at hc; cases hc
    rw [upd_ne hcD] at hc
    rw [List.take_succ, ht', Option.toList_some, List.map_append, List.map_singleton]
    exact (rs'.mono (same_upd (n'.bare hc) _)).snoc (nats_rep upd_same)
  · obtain ⟨F', n', rs'⟩ := p
    rw [xl, List.take_length] at rs'
    exact fin F' G ys hG n' rs'
theorem def_copied (T : Txt mg) (h : Here K mg "copied" s_copied ["piles"]) : Def P w K mg base "copied" 1 ["piles"] sp_copied := h.mk fun f fd F => by
  have nd := sc_copied.nd
  refine F.ok sc_copied (fun vs H Q E h => ?_) (fun cdv A outer s H vs Q E hr h => ?_)
  · obtain ⟨x, l, rfl, _⟩ := h
    rfl
  obtain ⟨x, l, rfl, r, hl, q⟩ := h
  refine ⟨_, pss_one (ps_ret (pe_comp (N' := ["pile"]) (cap := [none]) rfl ⟨rfl, rfl, rfl, rfl, rfl, rfl⟩ (pi_listK (K := K) (pv 0)) (fun _ _ _ _ _ _ => ⟨pg_name (i := 0) (show (["pile"] : List Str).Nodup by decide +kernel) rfl (Or.inl rfl) (Or.inr rfl), pifs_nil, pe_callTy (call_listK (K := K)) rfl T.z_list boot_list (pa_cons (pv 0) pa_nil)⟩) (keeps_name rfl))), ?_⟩
  obtain ⟨a, xs, rfl, ea, rs⟩ := rep_list r
  refine ⟨_, rfl, a, rfl, ⟨xs, SqL.of ea⟩, fun D hD => ?_⟩
  refine copies ea rs hl hD (fun x G Q' ⟨b, t, e, eb, q'⟩ => ?_) (fun F G ys hG nw rs' => ?_)
  · subst e
    exact ⟨_, rfl, b, _, rfl, .inl (SqL.of eb), q'⟩
  · exact q _ (upd F D (.lst ys)) _ (nw.done hG) (.lst upd_same (rs'.mono (same_upd (nw.bare hG) _)))
/-! ### tops -/
def sp_tops_of : Sp := fun vs H Q _ => ∃ x l, vs = [x] ∧ Rep H x (ringsD l) ∧ l.length ≤ 900 ∧ ∀ r H', Same H H' → H r = none → H' r = some (.lst ((topsN l).map optV)) → Q (.ref r) H'
/-! ### without the tops of some places -/
theorem cut_one (r : List Nat) : cutV (natsV r) (some 1) none = natsV (r.drop 1) := by
  cases r with
  | nil => rfl
  | cons a r =>
    unfold cutV HT.sIx natsV
    simp
    exact List.take_of_length_le (by simp)
def sp_without_tops : Sp := fun vs H Q _ => ∃ x y l c, vs = [x, y] ∧ Rep H x (ringsD l) ∧ Rep H y (natsD c) ∧ l.length ≤ 900 ∧ ∀ r F H', New H F H' → Rep F r (ringsD (popN l c)) → Q r H'
theorem def_without_tops (T : Txt mg) (h : Here K mg "without_tops" s_without_tops ["piles", "places"]) : Def P w K mg base "without_tops" 1 ["piles", "places"] sp_without_tops := h.mk fun f fd F => by
  have nd := sc_without_tops.nd
  refine F.ok sc_without_tops (fun vs H Q E h => ?_) (fun cdv A outer s H vs Q E hr h => ?_)
  · obtain ⟨x, y, l, c, rfl, _⟩ := h
    rfl
  obtain ⟨x, y, l, c, rfl, r, ry, hl, q⟩ := h
  refine ⟨_, pss_one (ps_ret (pe_comp (N' := ["place", "pile", "places"]) (cap := [none, none, some 1]) rfl ⟨rfl, rfl, rfl, rfl, rfl, rfl⟩ (pi_enumK (K := K) rfl T.z_enumerate (pa_cons (pv 0) pa_nil)) (fun _ _ _ _ _ _ => ⟨pg_tupK (K := K) rfl (pgs_cons (pg_name (i := 0) (show (["place", "pile", "places"] : List Str).Nodup by decide +kernel) rfl (Or.inl rfl) (Or.inr rfl)) (pgs_cons (pg_name (i := 1) (show (["place", "pile", "places"] : List Str).Nodup by decide +kernel) rfl (Or.inl rfl) (Or.inr rfl)) pgs_nil)), pifs_nil, pe_ifExp (pt_cmpR (op_inK (K := K)) (pv 0) (pv 2) rfl) (pe_slice (sl_listK (K := K)) (pv 1) (po_some pe_int) po_none) (pe_callTy (call_listK (K := K)) rfl T.z_list boot_list (pa_cons (pv 1) pa_nil))⟩) (keeps_two rfl rfl))), ?_⟩
  obtain ⟨a, xs, rfl, ea, rs⟩ := rep_list r
  obtain ⟨d, rfl, ed⟩ := rep_nats ry
  have xl : xs.length = l.length := by rw [rs.length, List.length_map]
  refine ⟨_, rfl, a, rfl, ⟨xs, SqL.of ea⟩, fun D hD => ?_⟩
  refine comp_enum (K := K) (xs := xs) (fun i G ys => ∃ F', New H F' G ∧ Reps F' ys (((popN l c).take i).map natsD)) hD ⟨_, New.start _, .nil⟩ (fun i G ys ⟨_, p, _⟩ => SqL.of (p.keep _ _ ea)) (fun i x U G ys hx hG hUD hU p => ?_) (fun G ys hG p => ?_)
  · obtain ⟨F', n', rs'⟩ := p
    obtain ⟨t, b, ht, rfl, eb⟩ := reps_at rs hx
    have hU1 : (upd G D (.lst ys)) U = none := by rw [upd_ne hUD]; exact hU
    have s1 : Same G (upd (upd G D (.lst ys)) U (.tup [.int (i : Int), .ref b])) := (same_upd hG _).trans (same_upd hU1 _)
    have hi := lt_of_get ht
    have yl : ys.length ≤ i := by have := rs'.length; rw [List.length_map, List.length_take, popN_len] at this; omega
    have hat := popN_at l c i
    rw [ht] at hat
    have fin : ∀ e, (upd (upd G D (.lst ys)) U (.tup [.int (i : Int), .ref b])) e = none → ∀ u, (popN l c)[i]? = some u → CPut D (fun G ys => ∃ F', New H F' G ∧ Reps F' ys (((popN l c).take (i + 1)).map natsD)) (.ref e) (upd (upd (upd G D (.lst ys)) U (.tup [.int (i : Int), .ref b])) e (.lst (natsV u))) := fun e he u hu => by
      have he1 : (upd G D (.lst ys)) e = none := (same_upd hU1 _).free he
      have hs : Same (upd G D (.lst ys)) (upd (upd (upd G D (.lst ys)) U (.tup [.int (i : Int), .ref b])) e (.lst (natsV u))) := (same_upd hU1 _).trans (same_upd he _)
      refine cput (ys := ys) (hs _ _ upd_same) (by omega) ⟨_, n'.grow hG hs he1 upd_same, ?_⟩
      have heD : e ≠ D := by rintro rfl; rw [upd_same] at he1; cases he1
      rw [upd_ne heD] at he1
      rw [List.take_succ, hu, Option.toList_some, List.map_append, List.map_singleton]
      exact (rs'.mono (same_upd (n'.bare he1) _)).snoc (nats_rep upd_same)
    refine ⟨U, _, rfl, SqT.of upd_same, rfl, _, _, rfl, _, _, rfl, rfl, ?_⟩
    have ed' := s1 _ _ (n'.keep _ _ ed)
    have eb' := s1 _ _ (n'.keep _ _ eb)
    refine ⟨_, rfl, _, rfl, d, _, rfl, .inl (SqL.of ed'), rfl, flat_nats _, _, rfl, ?_⟩
    show if inV (.int (i : Int)) (natsV c) = true then _ else _
    rw [inV_nats]
    refine iteD (fun hc => ?_) (fun hc => ?_)
    · refine ⟨_, rfl, _, rfl, b, _, rfl, SqL.of eb', fun e he => ?_⟩
      rw [cut_one]
      exact fin e he _ (by rw [hat, Option.map_some, if_pos hc])
    · refine ⟨_, rfl, b, _, rfl, .inl (SqL.of eb'), fun e he => ?_⟩
      exact fin e he _ (by rw [hat, Option.map_some, if_neg hc])
  · obtain ⟨F', n', rs'⟩ := p
    rw [xl, ← popN_len l c, List.take_length] at rs'
    exact q _ (upd F' D (.lst ys)) _ (n'.done hG) (.lst upd_same (rs'.mono (same_upd (n'.bare hG) _)))
/-! ### the rings of the tops of piles -/
theorem New.after {H H1 F H2 : Hp} (s : Same H H1) (n : New H1 F H2) : New H F H2 := ⟨s.trans n.keep, n.sub, fun b o e => s.free (n.fresh b o e)⟩
def sp_top_rings : Sp := fun vs H Q _ => ∃ x p, vs = [x] ∧ Rep H x (ringsD p) ∧ PilesOk p ∧ ∀ r F H', New H F H' → Rep F r (ringsD (ringsN (topsN p))) → Q r H'
/-! ### the order's next number -/
def OrdV (H : Hp) (v : V) (o : Option (List Int)) : Prop := match o with
  | none => v = .non
  | some l => ∃ a, v = .ref a ∧ H a = some (.lst (l.map V.int))
theorem OrdV.mono {H H' : Hp} {v : V} {o : Option (List Int)} (s : Same H H') (h : OrdV H v o) : OrdV H' v o := by
  cases o with
  | none => exact h
  | some l =>
    obtain ⟨a, e, ea⟩ := h
    exact ⟨a, e, s _ _ ea⟩
def sp_number_at : Sp := fun vs H Q _ => ∃ v o t, vs = [v, .int ((t : Nat) : Int)] ∧ OrdV H v o ∧ Q (.int (numN o t)) H
end
end Law

namespace Law
open PySem L2 Ways Ring PyProof.Rows
section
variable {P : Program} {w : World} {K : PySem.W.Frag} {mg : Str → Option Value} {base : Heap}
/-! ### two views in one -/
def both (F G : Hp) : Hp := fun b => match F b with
  | some o => some o
  | none => G b
theorem both_left {F G : Hp} : Same F (both F G) := fun b o e => by unfold both; rw [e]
theorem both_right {F G : Hp} (h : ∀ b o, G b = some o → F b = none) : Same G (both F G) := fun b o e => by unfold both; rw [h b o e]; exact e
theorem both_none {F G : Hp} {b : Addr} (h1 : F b = none) (h2 : G b = none) : both F G b = none := by unfold both; rw [h1]; exact h2
theorem both_or {F G : Hp} {b : Addr} {o : HO} (h : both F G b = some o) : F b = some o ∨ (F b = none ∧ G b = some o) := by
  unfold both at h
  cases e : F b with
  | some u => rw [e] at h; exact .inl h
  | none => rw [e] at h; exact .inr ⟨rfl, h⟩
theorem New.join {H F H1 F2 H2 : Hp} (n : New H F H1) (m : New H1 F2 H2) : New H (both F F2) H2 ∧ Same F2 (both F F2) := by
  have dis : ∀ b o, F2 b = some o → F b = none := fun b o e => n.sub.free (m.fresh b o e)
  refine ⟨⟨n.keep.trans m.keep, fun b o e => ?_, fun b o e => ?_⟩, both_right dis⟩
  · rcases both_or e with z | ⟨_, z⟩
    · exact m.keep _ _ (n.sub _ _ z)
    · exact m.sub _ _ z
  · rcases both_or e with z | ⟨_, z⟩
    · exact n.fresh _ _ z
    · exact n.keep.free (m.fresh _ _ z)
theorem New.write {H F G : Hp} {p : Addr} (n : New H F G) (hF : F p = none) (hH : H p = none) (o : HO) : New H F (upd G p o) :=
  ⟨fun b u e => by rw [upd_ne (ne_of_none e hH)]; exact n.keep b u e, fun b u e => by rw [upd_ne (ne_of_none e hF)]; exact n.sub b u e, n.fresh⟩
theorem New.see {H F G : Hp} {p : Addr} {o : HO} (n : New H F G) (hG : G p = some o) (hF : F p = none) (hH : H p = none) : New H (upd F p o) G := by
  refine ⟨n.keep, fun b u e => ?_, fun b u e => ?_⟩
  · by_cases hb : b = p
    · subst hb; rw [upd_same] at e; cases e; exact hG
    · rw [upd_ne hb] at e; exact n.sub b u e
  · by_cases hb : b = p
    · subst hb; exact hH
    · rw [upd_ne hb] at e; exact n.fresh b u e
theorem New.lay {H F G : Hp} {p : Addr} (n : New H F G) (hG : G p = none) (o : HO) : New H F (upd G p o) := n.more (same_upd hG o)
/-! ### popped out -/
def outD (rs : List (List Nat)) (p : Piles) : PyData := .tuple [ringsD rs, ringsD p]
structure PopAt (H H' : Hp) (num : Nat → Int) (p0 : Piles) (pR : Addr) (rest found : V) (F : Hp) (ys : List V) (rs : List (List Nat)) (p : Piles) : Prop where
  nw : New H F H'
  at' : H' pR = some (.lst ys)
  no : F pR = none
  hno : H pR = none
  rep : Reps F ys (rs.map natsD)
  rest : Rep F rest (ringsD p)
  found : Rep F found (ringsD (ringsN (topsN p)))
  steps : Steps num p0 rs p
def sp_pop_out : Sp := fun vs H Q _ => ∃ x v p o, vs = [x, v] ∧ Rep H x (ringsD p) ∧ PilesOk p ∧ OrdV H v o ∧ ∀ rs rest r F H', Out (numN o) p rs rest → New H F H' → Rep F r (outD rs rest) → Q r H'
end
end Law

namespace Law
open PySem L2 Ways Ring PyProof.Rows
theorem mem_size {p : Piles} {l : List Nat} (h : l ∈ p) : l.length ≤ sizeN p := by
  unfold sizeN
  induction p with
  | nil => cases h
  | cons a t ih =>
    rw [List.map_cons, List.sum_cons]
    rcases List.mem_cons.mp h with rfl | h
    · omega
    · have := ih h; omega
theorem size_set : ∀ {p : Piles} {j k : Nat} {t : List Nat}, p[j]? = some t → sizeN (p.set j (t ++ [k])) = sizeN p + 1
  | [], _, _, _, h => by simp at h
  | a :: p, 0, k, t, h => by
    have e : a = t := by simpa using h
    subst e
    unfold sizeN
    simp
    omega
  | a :: p, j + 1, k, t, h => by
    have ih := size_set (p := p) (j := j) (k := k) (t := t) (by simpa using h)
    unfold sizeN at ih ⊢
    rw [List.set_cons_succ, List.map_cons, List.sum_cons, List.map_cons, List.sum_cons, ih]
    omega
section
variable {P : Program} {w : World} {K : PySem.W.Frag} {mg : Str → Option Value} {base : Heap}
/-! ### piles that are being filled: each in a list of its own -/
structure AnyAt (H H' : Hp) (pP : Addr) (ad : List Addr) (p : Piles) : Prop where
  keep : Same H H'
  at' : H' pP = some (.lst (ad.map V.ref))
  hp : H pP = none
  nd : ad.Nodup
  np : pP ∉ ad
  hn : ∀ b ∈ ad, H b = none
  len : ad.length = p.length
  rep : ∀ (i : Nat) (b : Addr) (t : List Nat), ad[i]? = some b → p[i]? = some t → H' b = some (.lst (natsV t))
theorem AnyAt.put {H H' : Hp} {pP b : Addr} {ad : List Addr} {p : Piles} {j : Nat} {t t' : List Nat} (B : AnyAt H H' pP ad p) (hb : ad[j]? = some b) (ht : p[j]? = some t) : AnyAt H (upd H' b (.lst (natsV t'))) pP ad (p.set j t') := by
  have hm := List.mem_of_getElem? hb
  have hbp : pP ≠ b := fun z => B.np (z ▸ hm)
  refine ⟨fun c u e => ?_, ?_, B.hp, B.nd, B.np, B.hn, by rw [List.length_set]; exact B.len, fun i c u hc hu => ?_⟩
  · rw [upd_ne (ne_of_none e (B.hn b hm))]; exact B.keep c u e
  · rw [upd_ne hbp]; exact B.at'
  · by_cases hij : i = j
    · subst hij
      rw [hb] at hc
      cases hc
      rw [List.getElem?_set_self (lt_of_get ht)] at hu
      cases hu
      rw [upd_same]
    · rw [List.getElem?_set_ne (Ne.symm hij)] at hu
      have hcb : c ≠ b := by
        rintro rfl
        have h1 := lt_of_get hc
        have h2 := lt_of_get hb
        rw [List.getElem?_eq_getElem h1] at hc
        rw [List.getElem?_eq_getElem h2] at hb
        exact hij (nodup_inj B.nd h1 h2 ((Option.some.inj hc).trans (Option.some.inj hb).symm))
      rw [upd_ne hcb]
      exact B.rep i c u hc hu
theorem AnyAt.write {H H' : Hp} {pP b : Addr} {ad : List Addr} {p : Piles} {j k : Nat} {t : List Nat} (B : AnyAt H H' pP ad p) (hb : ad[j]? = some b) (ht : p[j]? = some t) : AnyAt H (upd H' b (.lst (natsV t ++ [.int (k : Int)]))) pP ad (p.set j (t ++ [k])) := by
  have := B.put (t' := t ++ [k]) hb ht
  rw [natsV_append] at this
  exact this
theorem AnyAt.more {H H' H'' : Hp} {pP : Addr} {ad : List Addr} {p : Piles} (B : AnyAt H H' pP ad p) (s : Same H' H'') : AnyAt H H'' pP ad p :=
  ⟨B.keep.trans s, s _ _ B.at', B.hp, B.nd, B.np, B.hn, B.len, fun i b t h1 h2 => s _ _ (B.rep i b t h1 h2)⟩
theorem reps_of {F : Hp} : ∀ {ad : List Addr} {p : Piles}, ad.length = p.length → (∀ (i : Nat) (b : Addr) (t : List Nat), ad[i]? = some b → p[i]? = some t → F b = some (.lst (natsV t))) → Reps F (ad.map V.ref) (p.map natsD)
  | [], [], _, _ => .nil
  | [], _ :: _, h, _ => by simp at h
  | _ :: _, [], h, _ => by simp at h
  | a :: ad, t :: p, h, r => .cons (nats_rep (r 0 a t rfl rfl)) (reps_of (by simpa using h) fun i b t h1 h2 => r (i + 1) b t (by simpa using h1) (by simpa using h2))
open Classical in
theorem AnyAt.view {H H' : Hp} {pP : Addr} {ad : List Addr} {p : Piles} (B : AnyAt H H' pP ad p) : ∃ F, New H F H' ∧ Rep F (.ref pP) (ringsD p) := by
  refine ⟨fun c => if c = pP ∨ c ∈ ad then H' c else none, ⟨B.keep, fun c u e => ?_, fun c u e => ?_⟩, .lst (xs := ad.map V.ref) ?_ (reps_of B.len fun i b t h1 h2 => ?_)⟩
  · by_cases h : c = pP ∨ c ∈ ad
    · simp only [if_pos h] at e; exact e
    · simp only [if_neg h] at e; cases e
  · by_cases h : c = pP ∨ c ∈ ad
    · rcases h with rfl | h
      · exact B.hp
      · exact B.hn c h
    · simp only [if_neg h] at e; cases e
  · simp only [true_or, if_true]; exact B.at'
  · simp only [List.mem_of_getElem? h1, or_true, if_true]; exact B.rep i b t h1 h2

end
end Law

namespace Law
def castI (l : List Nat) : List Int := l.map fun (n : Nat) => (n : Int)
end Law

namespace Law
open PySem L2 Ways Ring PyProof.Rows
section
variable {P : Program} {w : World} {K : PySem.W.Frag} {mg : Str → Option Value} {base : Heap} {C : Addr}
theorem nats_cast (l : List Nat) : natsV l = (castI l).map V.int := by unfold natsV castI; rw [List.map_map]; rfl
theorem idx_cast (x : Nat) : ∀ l : List Nat, (castI l).idxOf (x : Int) = l.idxOf x
  | [] => rfl
  | a :: l => by
    show (((a : Nat) : Int) :: castI l).idxOf (x : Int) = _
    rw [List.idxOf_cons, List.idxOf_cons, idx_cast x l]
    by_cases c : a = x
    · simp [c]
    · have c' : ¬ (a : Int) = (x : Int) := by omega
      have d1 : ((a : Int) == (x : Int)) = false := by simpa using c'
      have d2 : (a == x) = false := by simpa using c
      rw [d1, d2]
theorem mem_cast {x : Nat} {l : List Nat} (h : x ∈ l) : (x : Int) ∈ castI l := List.mem_map.mpr ⟨x, h, rfl⟩
theorem cut_dr (t : List Nat) (n : Nat) (h : n ≤ t.length) : cutV (natsV t) (some (n : Int)) none = natsV (t.drop n) := by
  unfold cutV
  rw [HT.sIx_none, HT.sIx_nat _ 0 n, natsV_len, Nat.min_eq_left h]
  unfold natsV
  rw [List.map_drop]
  exact List.take_of_length_le (by rw [List.length_drop, List.length_map]; omega)
theorem cut_tk (t : List Nat) (n : Nat) (h : n ≤ t.length) : cutV (natsV t) none (some (n : Int)) = natsV (t.take n) := by
  unfold cutV
  rw [HT.sIx_none, HT.sIx_nat _ _ n, natsV_len, Nat.min_eq_left h, List.drop_zero, Nat.sub_zero]
  unfold natsV
  rw [List.map_take]
theorem min_cast {r : List Nat} {m : Int} (hm : m ∈ castI r) (le : ∀ x ∈ castI r, m ≤ x) : (castI r).idxOf m = r.idxOf (minN r) := by
  obtain ⟨n, hn, rfl⟩ := List.mem_map.mp hm
  have e : minN r = n := min_is hn fun x hx => by have := le _ (mem_cast hx); omega
  rw [e]
  exact idx_cast n r
/-! ### the least first -/
def sp_least : Sp := fun vs H Q _ => ∃ b r, vs = [.ref b] ∧ H b = some (.lst (natsV r)) ∧ r ≠ [] ∧ r.length ≤ 400 ∧ ∀ c H', Same H H' → H c = none → H' c = some (.lst (natsV (leastN r))) → Q (.ref c) H'
theorem def_least_first (T : Txt mg) (h : Here K mg "least_first" s_least_first ["ring"]) : Def P w K mg base "least_first" 1 ["ring"] sp_least := h.mk fun f fd F => by
  have nd := sc_least_first.nd
  refine F.ok sc_least_first (fun vs H Q E h => ?_) (fun cdv A outer s H vs Q E hr h => ?_)
  · obtain ⟨b, r, rfl, _⟩ := h
    rfl
  obtain ⟨b, r, rfl, eb, ne, rl, q⟩ := h
  refine ⟨_, pss_cons (ps_set (i := 1) nd rfl (Or.inl rfl) (pe_bm PySem.F.plainAttrs_list PySem.F.slot_list_index PySem.F.type_list_index mt_index (pv 0) (pa_cons (pe_callB (call_minK (K := K) rfl) rfl T.z_min boot_min (pa_cons (pv 0) pa_nil)) pa_nil)))
    (pss_one (ps_ret (pe_op op_cat (pe_slice (sl_listK (K := K)) (pv 0) (po_some (pv 1)) po_none) (pe_slice (sl_listK (K := K)) (pv 0) po_none (po_some (pv 1)))))), ?_⟩
  have eb' : SqL K H b ((castI r).map V.int) := by rw [← nats_cast]; exact SqL.of eb
  have cl : (castI r).length = r.length := by unfold castI; rw [List.length_map]
  refine ⟨_, rfl, .inl ⟨rfl, _, SqL.of eb⟩, _, rfl, b, castI r, rfl, eb', fun z => ne (by have := congrArg List.length z; rw [cl] at this; exact List.eq_nil_of_length_eq_zero this), fun m hm hle => ?_⟩
  refine ⟨b, castI r, m, rfl, rfl, eb', by omega, hm, ?_⟩
  rw [min_cast hm hle]
  have hi : r.idxOf (minN r) ≤ r.length := List.idxOf_le_length
  refine ⟨_, rfl, _, rfl, _, rfl, b, _, rfl, SqL.of eb, fun q1 h1 => ?_⟩
  rw [cut_dr _ _ hi]
  have s1 := same_upd h1 (HO.lst (natsV (r.drop (r.idxOf (minN r)))))
  refine ⟨_, rfl, _, rfl, _, rfl, b, _, rfl, SqL.of (s1 _ _ eb), fun q2 h2 => ?_⟩
  rw [cut_tk _ _ hi]
  have s2 := same_upd h2 (HO.lst (natsV (r.take (r.idxOf (minN r)))))
  refine ⟨q1, q2, _, _, rfl, rfl, s2 _ _ upd_same, upd_same, Nat.le_of_lt (small1000 (by rw [natsV_len, natsV_len, List.length_drop, List.length_take]; omega)), fun q3 h3 => ?_⟩
  refine q q3 _ (s1.trans (s2.trans (same_upd h3 _))) (s1.free (s2.free h3)) ?_
  rw [upd_same, ← natsV_append]
  rfl
/-! ### the walker -/
def fsW (rA gA : Addr) (v : V) : List (Str × V) := [("roads", .ref rA), ("rings", .ref gA), ("rest", v)]
theorem fs_roads (rA gA : Addr) (v : V) : (fsW rA gA v).lookup ("roads" : Str) = some (.ref rA) := by
  unfold fsW
  simp only [List.lookup, beq_self_eq_true]
theorem fs_rings (rA gA : Addr) (v : V) : (fsW rA gA v).lookup ("rings" : Str) = some (.ref gA) := by
  unfold fsW
  have e1 : (("rings" : Str) == ("roads" : Str)) = false := by decide +kernel
  simp only [List.lookup, e1, beq_self_eq_true]
theorem fs_rest (rA gA : Addr) (v : V) : (fsW rA gA v).lookup ("rest" : Str) = some v := by
  unfold fsW
  have e1 : (("rest" : Str) == ("roads" : Str)) = false := by decide +kernel
  have e2 : (("rest" : Str) == ("rings" : Str)) = false := by decide +kernel
  simp only [List.lookup, e1, e2, beq_self_eq_true]
theorem fs_no (rA gA : Addr) (v : V) {m : Str} (e1 : (m == ("roads" : Str)) = false) (e2 : (m == ("rings" : Str)) = false) (e3 : (m == ("rest" : Str)) = false) : (fsW rA gA v).lookup m = none := by
  unfold fsW
  simp only [List.lookup, e1, e2, e3]
theorem fs_put (rA gA : Addr) (v v' : V) : putF "rest" v' (fsW rA gA v) = fsW rA gA v' := by
  unfold fsW putF putF putF
  rw [if_neg (by decide +kernel), if_neg (by decide +kernel), if_pos rfl]
structure WK (C : Addr) (H0 F H' : Hp) (x dx rA gA : Addr) (v : V) (rx gx : List V) (roads rings : List (List Nat)) (p : Piles) : Prop where
  nw : New H0 F H'
  ob : H' x = some (.ins C dx (fsW rA gA v))
  ro : H' rA = some (.lst rx)
  gi : H' gA = some (.lst gx)
  fx : F x = none
  fr : F rA = none
  fg : F gA = none
  hx : H0 x = none
  hr : H0 rA = none
  hg : H0 gA = none
  xr : x ≠ rA
  xg : x ≠ gA
  rg : rA ≠ gA
  rr : Reps F rx (roads.map natsD)
  gr : Reps F gx (rings.map natsD)
  re : Rep F v (ringsD p)
section
variable {H0 F H' H2 F2 : Hp} {x dx rA gA : Addr} {v v' : V} {rx gx : List V} {roads rings : List (List Nat)} {p p' : Piles}
theorem WK.more (W : WK C H0 F H' x dx rA gA v rx gx roads rings p) (s : Same H' H2) : WK C H0 F H2 x dx rA gA v rx gx roads rings p :=
  ⟨W.nw.more s, s _ _ W.ob, s _ _ W.ro, s _ _ W.gi, W.fx, W.fr, W.fg, W.hx, W.hr, W.hg, W.xr, W.xg, W.rg, W.rr, W.gr, W.re⟩
theorem not_new {H1 F2 H2 : Hp} {b : Addr} {o : HO} (n : New H1 F2 H2) (e : H1 b = some o) : F2 b = none := by
  cases z : F2 b with
  | none => rfl
  | some u => have := n.fresh _ _ z; rw [e] at this; cases this
theorem WK.join (W : WK C H0 F H' x dx rA gA v rx gx roads rings p) (n : New H' F2 H2) : WK C H0 (both F F2) H2 x dx rA gA v rx gx roads rings p ∧ Same F2 (both F F2) := by
  obtain ⟨N, k⟩ := W.nw.join n
  exact ⟨⟨N, n.keep _ _ W.ob, n.keep _ _ W.ro, n.keep _ _ W.gi, both_none W.fx (not_new n W.ob), both_none W.fr (not_new n W.ro), both_none W.fg (not_new n W.gi), W.hx, W.hr, W.hg, W.xr, W.xg, W.rg, W.rr.mono both_left, W.gr.mono both_left, W.re.mono both_left⟩, k⟩
theorem WK.rest (W : WK C H0 F H' x dx rA gA v rx gx roads rings p) (r : Rep F v' (ringsD p')) : WK C H0 F (upd H' x (.ins C dx (putF "rest" v' (fsW rA gA v)))) x dx rA gA v' rx gx roads rings p' :=
  ⟨W.nw.write W.fx W.hx _, by rw [upd_same, fs_put], by rw [upd_ne (Ne.symm W.xr)]; exact W.ro, by rw [upd_ne (Ne.symm W.xg)]; exact W.gi, W.fx, W.fr, W.fg, W.hx, W.hr, W.hg, W.xr, W.xg, W.rg, W.rr, W.gr, r⟩
theorem WK.ring (W : WK C H0 F H' x dx rA gA v rx gx roads rings p) {u : V} {t : List Nat} (r : Rep F u (natsD t)) : WK C H0 F (upd H' gA (.lst (gx ++ [u]))) x dx rA gA v rx (gx ++ [u]) roads (rings ++ [t]) p :=
  ⟨W.nw.write W.fg W.hg _, by rw [upd_ne W.xg]; exact W.ob, by rw [upd_ne W.rg]; exact W.ro, upd_same, W.fx, W.fr, W.fg, W.hx, W.hr, W.hg, W.xr, W.xg, W.rg, W.rr, by rw [List.map_append]; exact W.gr.snoc r, W.re⟩
theorem WK.road (W : WK C H0 F H' x dx rA gA v rx gx roads rings p) {u : V} {t : List Nat} (r : Rep F u (natsD t)) : WK C H0 F (upd H' rA (.lst (rx ++ [u]))) x dx rA gA v (rx ++ [u]) gx (roads ++ [t]) rings p :=
  ⟨W.nw.write W.fr W.hr _, by rw [upd_ne W.xr]; exact W.ob, upd_same, by rw [upd_ne (Ne.symm W.rg)]; exact W.gi, W.fx, W.fr, W.fg, W.hx, W.hr, W.hg, W.xr, W.xg, W.rg, by rw [List.map_append]; exact W.rr.snoc r, W.gr, W.re⟩
theorem WK.see (W : WK C H0 F H' x dx rA gA v rx gx roads rings p) {b : Addr} {o : HO} (e : H' b = some o) (h0 : H0 b = none) (fb : F b = none) (n1 : b ≠ x) (n2 : b ≠ rA) (n3 : b ≠ gA) : WK C H0 (upd F b o) H' x dx rA gA v rx gx roads rings p :=
  ⟨W.nw.see e fb h0, W.ob, W.ro, W.gi, by rw [upd_ne (Ne.symm n1)]; exact W.fx, by rw [upd_ne (Ne.symm n2)]; exact W.fr, by rw [upd_ne (Ne.symm n3)]; exact W.fg, W.hx, W.hr, W.hg, W.xr, W.xg, W.rg, W.rr.mono (same_upd fb _), W.gr.mono (same_upd fb _), W.re.mono (same_upd fb _)⟩
end
def sp_init (C : Addr) : Sp := fun vs H Q _ => ∃ x pv H0 dx p, vs = [.ref x, pv] ∧ Same H0 H ∧ H0 x = none ∧ H x = some (.ins C dx []) ∧ Rep H0 pv (ringsD p) ∧ p.length ≤ 900 ∧ ∀ F rA gA v H', WK C H0 F H' x dx rA gA v [] [] [] [] p → Q .non H'
theorem def_Walker___init__ (T : Txt mg) (W : OwnWalker K mg C) (D_copied : Def P w K mg base "copied" 1 ["piles"] sp_copied) (h : NHere K C "Walker.__init__" s_Walker___init__ ["self", "piles"]) : NDef P w K mg base C 2 ["self", "piles"] (sp_init C) := h.mk fun f fd F => by
  have nd := sc_Walker___init__.nd
  refine F.ok sc_Walker___init__ (fun vs H Q E h => ?_) (fun cdv A outer s H vs Q E hr h => ?_)
  · obtain ⟨x, pz, H0, dx, p, rfl, _⟩ := h
    rfl
  obtain ⟨x, pz, H0, dx, p, rfl, s0, hx, ox, rp, pl, q⟩ := h
  refine ⟨_, pss_cons (ps_fldK (K := K) (pv 0) (pe_lst pa_nil))
    (pss_cons (ps_fldK (K := K) (pv 0) (pe_lst pa_nil))
    (pss_one (ps_fldK (K := K) (pv 0) (pe_callD D_copied hr rfl (pa_cons (pv 1) pa_nil))))), ?_⟩
  refine ⟨Nat.zero_le _, fun rA hA => ⟨_, rfl, x, C, dx, _, rfl, same_upd hA _ _ _ ox, W.cl, W.n_roads, by decide, ?_⟩⟩
  have xA : x ≠ rA := ne_of_none ox hA
  have s1 : Same H0 (upd (upd H rA (.lst [])) x (.ins C dx (putF "roads" (.ref rA) []))) := fun b o e => by rw [upd_ne (ne_of_none e hx)]; exact same_upd hA _ _ _ (s0 b o e)
  have eA : (upd (upd H rA (.lst [])) x (.ins C dx (putF "roads" (.ref rA) []))) rA = some (.lst []) := by rw [upd_ne (Ne.symm xA)]; exact upd_same
  have ox1 : (upd (upd H rA (.lst [])) x (.ins C dx (putF "roads" (.ref rA) []))) x = some (.ins C dx (putF "roads" (.ref rA) [])) := upd_same
  have hA0 : H0 rA = none := s0.free hA
  generalize upd (upd H rA (HO.lst [])) x (HO.ins C dx (putF "roads" (V.ref rA) [])) = H1 at s1 eA ox1 ⊢
  refine ⟨Nat.zero_le _, fun gA hG => ⟨_, rfl, x, C, dx, _, rfl, same_upd hG _ _ _ ox1, W.cl, W.n_rings, by show 1 < 1000; decide, ?_⟩⟩
  have xG : x ≠ gA := ne_of_none ox1 hG
  have rG : rA ≠ gA := ne_of_none eA hG
  have s2 : Same H0 (upd (upd H1 gA (.lst [])) x (.ins C dx (putF "rings" (.ref gA) (putF "roads" (.ref rA) [])))) := fun b o e => by rw [upd_ne (ne_of_none e hx)]; exact same_upd hG _ _ _ (s1 b o e)
  have eA2 : (upd (upd H1 gA (.lst [])) x (.ins C dx (putF "rings" (.ref gA) (putF "roads" (.ref rA) [])))) rA = some (.lst []) := by rw [upd_ne (Ne.symm xA), upd_ne rG]; exact eA
  have eG2 : (upd (upd H1 gA (.lst [])) x (.ins C dx (putF "rings" (.ref gA) (putF "roads" (.ref rA) [])))) gA = some (.lst []) := by rw [upd_ne (Ne.symm xG)]; exact upd_same
  have ox2 : (upd (upd H1 gA (.lst [])) x (.ins C dx (putF "rings" (.ref gA) (putF "roads" (.ref rA) [])))) x = some (.ins C dx (putF "rings" (.ref gA) (putF "roads" (.ref rA) []))) := upd_same
  have hG0 : H0 gA = none := s1.free hG
  generalize upd (upd H1 gA (HO.lst [])) x (HO.ins C dx (putF "rings" (V.ref gA) (putF "roads" (V.ref rA) []))) = H3 at s2 eA2 eG2 ox2 ⊢
  refine ⟨_, rfl, pz, p, rfl, rp.mono s2, pl, fun rv F4 H4 n4 r4 => ⟨_, rfl, x, C, dx, _, rfl, n4.keep _ _ ox2, W.cl, W.n_rest, by show 2 < 1000; decide, ?_⟩⟩
  have n5 := New.after s2 n4
  have fx := not_new n4 ox2
  have ef : putF "rest" rv (putF "rings" (.ref gA) (putF "roads" (.ref rA) [])) = fsW rA gA rv := by
    unfold fsW
    show putF "rest" rv (if ("roads" : Str) = "rings" then _ else _) = _
    rw [if_neg (by decide +kernel)]
    show (if ("roads" : Str) = "rest" then _ else _) = _
    rw [if_neg (by decide +kernel)]
    show (("roads" : Str), V.ref rA) :: (if ("rings" : Str) = "rest" then _ else (("rings" : Str), V.ref gA) :: putF "rest" rv []) = _
    rw [if_neg (by decide +kernel)]
    rfl
  rw [ef]
  exact q F4 rA gA rv _ ⟨n5.write fx hx _, upd_same, by rw [upd_ne (Ne.symm xA)]; exact n4.keep _ _ eA2, by rw [upd_ne (Ne.symm xG)]; exact n4.keep _ _ eG2, fx, not_new n4 eA2, not_new n4 eG2, hx, hA0, hG0, xA, xG, rG, .nil, .nil, r4⟩
end
end Law

namespace Law
open PySem L2 Ways Ring PyProof.Rows
section
variable {P : Program} {w : World} {K : PySem.W.Frag} {mg : Str → Option Value} {base : Heap} {C : Addr}
def sp_ends (C : Addr) : Sp := fun vs H Q _ => ∃ H0 F x dx rA gA v rx gx roads rings p m, vs = [.ref x, .int ((m : Nat) : Int)] ∧ WK C H0 F H x dx rA gA v rx gx roads rings p ∧ m < p.length ∧ roads.length ≤ 400 ∧ ∀ H', Same H H' → Q (.bl (decide (p.getD m [] = [] ∨ m ∈ roads.flatten))) H'
theorem def_Walker_ends_at (T : Txt mg) (W : OwnWalker K mg C) (h : MHere K C "ends_at" "Walker.ends_at" s_Walker_ends_at ["self", "place"]) : MDef P w K mg base C "ends_at" 1 ["self", "place"] (sp_ends C) := h.mk fun f fd F => by
  have nd := sc_Walker_ends_at.nd
  refine F.ok sc_Walker_ends_at (fun vs H Q E h => ?_) (fun cdv A outer s H vs Q E hr h => ?_)
  · obtain ⟨H0, F, x, dx, rA, gA, v, rx, gx, roads, rings, p, m, rfl, _⟩ := h
    rfl
  obtain ⟨H0, F, x, dx, rA, gA, v, rx, gx, roads, rings, p, m, rfl, B, hm, rl, q⟩ := h
  refine ⟨_, pss_one (ps_ret (pe_or (pe_cmpR (op_eqD hr) (pe_ix (ix_lt (K := K)) (pe_fldK (K := K) (pv 0)) (pv 1) (fun _ _ => rfl)) (pe_lst pa_nil) (nomark _)) (pe_one (pe_callB (call_anyK (K := K) rfl) rfl T.z_any boot_any (pa_cons (pe_comp (N' := ["road", "place"]) (cap := [none, some 1]) rfl ⟨rfl, rfl, rfl, rfl, rfl, rfl⟩ (pi_listK (K := K) (pe_fldK (K := K) (pv 0))) (fun _ _ _ _ _ _ => ⟨pg_name (i := 0) (show (["road", "place"] : List Str).Nodup by decide +kernel) rfl (Or.inl rfl) (Or.inr rfl), pifs_nil, pe_cmpR (op_inK (K := K)) (pv 1) (pv 0) rfl⟩) (keeps_name rfl)) pa_nil))))), ?_⟩
  obtain ⟨va, vx, rfl, ev, rv⟩ := rep_list B.re
  have vl : vx.length = p.length := by rw [rv.length, List.length_map]
  have hvm : vx[m]? = some vx[m] := List.getElem?_eq_getElem (by omega)
  obtain ⟨l, b, hl, hb, eb⟩ := reps_at rv hvm
  have hat : atI vx (m : Int) = some (.ref b) := by rw [← hb]; exact atI_nat hvm
  have hg : p.getD m [] = l := by rw [List.getD_eq_getElem?_getD, hl]; rfl
  refine ⟨_, rfl, x, C, dx, _, _, rfl, B.ob, W.cl, W.n_rest, fs_rest _ _ _, _, rfl, .inl ⟨va, _, _, _, rfl, rfl, SqL.of (B.nw.sub _ _ ev), hat, Nat.zero_le _, fun p1 hp1 => ?_⟩⟩
  have s1 := same_upd hp1 (HO.lst [])
  refine ⟨natsD l, natsD [], nats_rep (s1 _ _ (B.nw.sub _ _ eb)), .lst upd_same .nil, (okTo_nats _).shaped (by decide), (okTo_nats _).shaped (by decide), ?_⟩
  rw [eqv_nats]
  have B1 := B.more s1
  have q1 : ∀ H', Same (upd H p1 (.lst [])) H' → Q (.bl (decide (p.getD m [] = [] ∨ m ∈ roads.flatten))) H' := fun H' k => q H' (s1.trans k)
  generalize upd H p1 (HO.lst []) = H1 at B1 q1 ⊢
  rw [hg] at q1
  refine ⟨_, rfl, iteD (fun c => ?_) (fun c => ?_)⟩
  · have := q1 H1 (Same.refl _)
    rw [decide_eq_true (.inl c)] at this
    exact this
  refine ⟨_, rfl, x, C, dx, _, _, rfl, B1.ob, W.cl, W.n_roads, fs_roads _ _ _, rA, rfl, ⟨_, SqL.of B1.ro⟩, fun D hD => ?_⟩
  have rlen : rx.length = roads.length := by rw [B.rr.length, List.length_map]
  refine comp_list (K := K) (xs := rx) (FlatP H1 fun i => (roads[i]?).bind fun t => some (V.bl (decide (m ∈ t)))) hD FlatP.zero (fun i G ys pf => SqL.of (pf.1 _ _ B1.ro)) (fun i y G ys hy hG pf => ?_) (fun G ys hG pf => ?_)
  · obtain ⟨t, c, ht, rfl, ec⟩ := reps_at B1.rr hy
    have hi := lt_of_get ht
    refine ⟨_, rfl, _, rfl, c, _, rfl, .inl (SqL.of (same_upd hG _ _ _ (pf.1 _ _ (B1.nw.sub _ _ ec)))), rfl, flat_nats _, ?_⟩
    show CPut _ _ (V.bl (inV (.int (m : Int)) (natsV t))) _
    rw [inV_nats]
    exact pf.put hG (Same.refl _) (by rw [ht]; rfl) (by omega)
  · have ey : ys = (roads.map fun t => decide (m ∈ t)).map V.bl := by
      rw [pf.2, rlen, flat_list, fm_some, List.map_map]
      rfl
    subst ey
    refine ⟨D, roads.map fun t => decide (m ∈ t), rfl, SqL.of upd_same, ?_⟩
    have e : ((roads.map fun t => decide (m ∈ t)).any id) = decide (l = [] ∨ m ∈ roads.flatten) := by
      rw [Bool.eq_iff_iff, List.any_eq_true, decide_eq_true_eq]
      constructor
      · rintro ⟨b, hb, e⟩
        obtain ⟨t, ht, rfl⟩ := List.mem_map.mp hb
        exact .inr (List.mem_flatten.mpr ⟨t, ht, of_decide_eq_true e⟩)
      · rintro (z | z)
        · exact absurd z c
        · obtain ⟨t, ht, hmt⟩ := List.mem_flatten.mp z
          exact ⟨_, List.mem_map_of_mem ht, by simpa using hmt⟩
    rw [e]
    exact q1 _ (pf.1.trans (same_upd hG _))
def sp_lose (C : Addr) : Sp := fun vs H Q _ => ∃ H0 F x dx rA gA v rx gx roads rings p b r, vs = [.ref x, .ref b] ∧ WK C H0 F H x dx rA gA v rx gx roads rings p ∧ H b = some (.lst (natsV r)) ∧ b ≠ gA ∧ r ≠ [] ∧ r.length ≤ 8 ∧ PilesOk p ∧ rings.length ≤ 400 ∧
  ∀ F' v' gx' H', WK C H0 F' H' x dx rA gA v' rx gx' roads (rings ++ [leastN r]) (popN p r) → (∀ c o, c ≠ x → c ≠ gA → H c = some o → H' c = some o) → Same F F' → Q .non H'
theorem def_Walker_lose (T : Txt mg) (W : OwnWalker K mg C) (D_least_first : Def P w K mg base "least_first" 1 ["ring"] sp_least) (D_without_tops : Def P w K mg base "without_tops" 1 ["piles", "places"] sp_without_tops)
    (h : MHere K C "lose" "Walker.lose" s_Walker_lose ["self", "ring"]) : MDef P w K mg base C "lose" 2 ["self", "ring"] (sp_lose C) := h.mk fun f fd F => by
  have nd := sc_Walker_lose.nd
  refine F.ok sc_Walker_lose (fun vs H Q E h => ?_) (fun cdv A outer s H vs Q E hr h => ?_)
  · obtain ⟨H0, F, x, dx, rA, gA, v, rx, gx, roads, rings, p, b, r, rfl, _⟩ := h
    rfl
  obtain ⟨H0, F, x, dx, rA, gA, v, rx, gx, roads, rings, p, b, r, rfl, B, eb, bg, ne, r8, ok, gl, q⟩ := h
  refine ⟨_, pss_cons (ps_expr (pe_bm PySem.F.plainAttrs_list PySem.F.slot_list_append PySem.F.type_list_append mt_append (pe_fldK (K := K) (pv 0)) (pa_cons (pe_callD D_least_first hr rfl (pa_cons (pv 1) pa_nil)) pa_nil)))
    (pss_one (ps_fldK (K := K) (pv 0) (pe_callD D_without_tops hr rfl (pa_cons (pe_fldK (K := K) (pv 0)) (pa_cons (pv 1) pa_nil))))), ?_⟩
  have glen : gx.length = rings.length := by rw [B.gr.length, List.length_map]
  have len8 := ok.len
  refine ⟨_, rfl, x, C, dx, _, _, rfl, B.ob, W.cl, W.n_rings, fs_rings _ _ _, .inl ⟨rfl, _, SqL.of B.gi⟩, _, rfl, b, r, rfl, eb, ne, by omega, fun c H1 k1 hc ec => ?_⟩
  have B1 := B.more k1
  have c0 : H0 c = none := B.nw.keep.free hc
  have fc : F c = none := B.nw.bare hc
  have B2 := B1.see ec c0 fc (Ne.symm (ne_of_none B.ob hc)) (Ne.symm (ne_of_none B.ro hc)) (Ne.symm (ne_of_none B.gi hc))
  have B3 := B2.ring (u := .ref c) (t := leastN r) (nats_rep upd_same)
  refine ⟨gA, gx, _, rfl, rfl, B1.gi, small1000 (by omega), ?_⟩
  have eb3 : (upd H1 gA (.lst (gx ++ [.ref c]))) b = some (.lst (natsV r)) := by rw [upd_ne bg]; exact k1 _ _ eb
  have kk : ∀ c' o, c' ≠ gA → H c' = some o → (upd H1 gA (.lst (gx ++ [.ref c]))) c' = some o := fun c' o n e => by rw [upd_ne n]; exact k1 _ _ e
  generalize upd H1 gA (HO.lst (gx ++ [V.ref c])) = H3 at B3 eb3 kk ⊢
  refine ⟨_, rfl, x, C, dx, _, _, rfl, B3.ob, W.cl, W.n_rest, fs_rest _ _ _, _, rfl, v, .ref b, p, r, rfl, B3.re.mono B3.nw.sub, nats_rep eb3, by omega, fun rv F4 H4 n4 r4 => ?_⟩
  obtain ⟨B4, k4⟩ := B3.join n4
  refine ⟨_, rfl, x, C, dx, _, rfl, B4.ob, W.cl, W.n_rest, by show 3 < 1000; decide, ?_⟩
  refine q _ _ _ _ (B4.rest (r4.mono k4)) (fun c' o n1 n2 e => ?_) ((same_upd fc _).trans both_left)
  rw [upd_ne n1]
  exact n4.keep _ _ (kk c' o n2 e)
end
end Law

namespace Law
open PySem L2 Ways Ring PyProof.Rows
section
variable {P : Program} {w : World} {K : PySem.W.Frag} {mg : Str → Option Value} {base : Heap} {C : Addr}
theorem WK.wr {H0 F H' : Hp} {x dx rA gA b : Addr} {v : V} {rx gx : List V} {roads rings : List (List Nat)} {p : Piles} (W : WK C H0 F H' x dx rA gA v rx gx roads rings p) (fb : F b = none) (h0 : H0 b = none) (n1 : b ≠ x) (n2 : b ≠ rA) (n3 : b ≠ gA) (o : HO) : WK C H0 F (upd H' b o) x dx rA gA v rx gx roads rings p :=
  ⟨W.nw.write fb h0 o, by rw [upd_ne (Ne.symm n1)]; exact W.ob, by rw [upd_ne (Ne.symm n2)]; exact W.ro, by rw [upd_ne (Ne.symm n3)]; exact W.gi, W.fx, W.fr, W.fg, W.hx, W.hr, W.hg, W.xr, W.xg, W.rg, W.rr, W.gr, W.re⟩
theorem last_at {l : List Nat} (h : l ≠ []) : atI (natsV l) (-1) = some (.int ((lastN l : Nat) : Int)) := by
  have e : l = l.dropLast ++ [lastN l] := by
    unfold lastN
    rw [List.getLastD_eq_getLast?, List.getLast?_eq_some_getLast h]
    exact (List.dropLast_concat_getLast h).symm
  rw [e, natsV_append]
  have e2 : lastN (l.dropLast ++ [lastN l]) = lastN l := by rw [← e]
  rw [e2]
  exact atI_last _ _
def sp_walk_from (C : Addr) : Sp := fun vs H Q _ => ∃ H0 F x dx rA gA v rx gx roads rings p s, vs = [.ref x, .int ((s : Nat) : Int)] ∧ WK C H0 F H x dx rA gA v rx gx roads rings p ∧ s < p.length ∧ PilesOk p ∧ roads.length ≤ 100 ∧ rings.length + sizeN p ≤ 400 ∧
  ∀ F' v' rx' gx' road rs p' H', WK C H0 F' H' x dx rA gA v' rx' gx' (roads ++ [road]) (rings ++ rs) p' → WRun roads.flatten ([s], [], p) (road, rs, p') → (∀ c o, c ≠ x → c ≠ rA → c ≠ gA → H c = some o → H' c = some o) → PilesOk p' → p'.length = p.length → (rings ++ rs).length + sizeN p' ≤ 400 → Q .non H'
theorem def_Walker_walk_from (T : Txt mg) (W : OwnWalker K mg C) (D_Walker_ends_at : MDef P w K mg base C "ends_at" 1 ["self", "place"] (sp_ends C)) (D_Walker_lose : MDef P w K mg base C "lose" 2 ["self", "ring"] (sp_lose C))
    (h : MHere K C "walk_from" "Walker.walk_from" s_Walker_walk_from ["self", "start"]) : MDef P w K mg base C "walk_from" 3 ["self", "start"] (sp_walk_from C) := h.mk fun f fd F => by
  have nd := sc_Walker_walk_from.nd
  have W_Walker := W.cl
  refine F.ok sc_Walker_walk_from (fun vs H Q E h => ?_) (fun cdv A outer s H vs Q E hr h => ?_)
  · obtain ⟨H0, F, x, dx, rA, gA, v, rx, gx, roads, rings, p, s, rfl, _⟩ := h
    rfl
  obtain ⟨H0, F0, x, dx, rA, gA, v0, rx, gx0, roads, rings, p0, st, rfl, B0, hst, ok0, rl, few, q⟩ := h
  refine ⟨_, pss_cons (ps_set (i := 2) nd rfl (Or.inl rfl) (pe_lst (pa_cons (pv 1) pa_nil)))
    (pss_cons (ps_while PassesOwn.never (pt_not (pt_val (pe_methD (pv 0) W_Walker D_Walker_ends_at hr (pa_cons (pe_ix (ix_lt (K := K)) (pv 2) (pe_un un_neg pe_int) (fun _ _ => rfl)) pa_nil))))
      (pss_cons (ps_set (i := 3) nd rfl (Or.inl rfl) (pe_ix (ix_lt (K := K)) (pe_ix (ix_lt (K := K)) (pe_fldK (K := K) (pv 0)) (pe_ix (ix_lt (K := K)) (pv 2) (pe_un un_neg pe_int) (fun _ _ => rfl)) (fun _ _ => rfl)) pe_int (fun _ _ => rfl)))
      (pss_one (ps_if (pt_cmpR (op_inK (K := K)) (pv 3) (pv 2) rfl)
        (pss_cons (ps_set (i := 4) nd rfl (Or.inl rfl) (pe_bm PySem.F.plainAttrs_list PySem.F.slot_list_index PySem.F.type_list_index mt_index (pv 2) (pa_cons (pv 3) pa_nil)))
        (pss_cons (ps_expr (pe_methD (pv 0) W_Walker D_Walker_lose hr (pa_cons (pe_slice (sl_listK (K := K)) (pv 2) (po_some (pv 4)) po_none) pa_nil)))
        (pss_one (ps_set (i := 2) nd rfl (Or.inl rfl) (pe_slice (sl_listK (K := K)) (pv 2) po_none (po_some (pe_op op_add (pv 4) pe_int)))))))
        (pss_one (ps_expr (pe_bm PySem.F.plainAttrs_list PySem.F.slot_list_append PySem.F.type_list_append mt_append (pv 2) (pa_cons (pv 3) pa_nil))))))))
    (pss_one (ps_expr (pe_bm PySem.F.plainAttrs_list PySem.F.slot_list_append PySem.F.type_list_append mt_append (pe_fldK (K := K) (pv 0)) (pa_cons (pv 2) pa_nil))))), ?_⟩
  refine ⟨_, rfl, (by show 1 ≤ sizeLine; decide), fun ra0 hra0 => ?_⟩
  have s0 := same_upd hra0 (HO.lst [V.int ((st : Nat) : Int)])
  refine ⟨fun m σ' H' => ∃ (F : Hp) (v : V) (gx : List V) (ra : Addr) (road : List Nat) (rs : List (List Nat)) (p : Piles) (c3 c4 : Option V), σ' = [some (.ref x), some (.int ((st : Nat) : Int)), some (.ref ra), c3, c4] ∧ WK C H0 F H' x dx rA gA v rx gx roads (rings ++ rs) p ∧
    H' ra = some (.lst (natsV road)) ∧ ra ≠ x ∧ ra ≠ rA ∧ ra ≠ gA ∧ F ra = none ∧ H0 ra = none ∧ H ra = none ∧ GoodW (road, rs, p) ∧ (∀ t, WRun roads.flatten (road, rs, p) t → WRun roads.flatten ([st], [], p0) t) ∧ m = 9 * sizeN p + (8 - road.length) ∧
    (∀ c o, c ≠ x → c ≠ gA → H c = some o → H' c = some o) ∧ p.length = p0.length ∧ (rings ++ rs).length + sizeN p ≤ 400,
    ⟨_, F0, v0, gx0, ra0, [st], [], p0, none, none, rfl, by rw [List.append_nil]; exact B0.more s0, upd_same, Ne.symm (ne_of_none B0.ob hra0), Ne.symm (ne_of_none B0.ro hra0), Ne.symm (ne_of_none B0.gi hra0), B0.nw.bare hra0, B0.nw.keep.free hra0, hra0, GoodW.start ok0 hst, fun t z => z, rfl, fun c o _ _ e => s0 _ _ e, rfl, by rw [List.append_nil]; exact few⟩, ?_⟩
  rintro m σ' H' ⟨F, v, gx, ra, road, rs, p, c3, c4, rfl, B, era, nx, nr, ng, fra, h0ra, hra, good, wr, rfl, kept, pl, fw⟩
  have lastlt := good.bd _ (last_mem good.ne)
  have road8 : road.length ≤ 8 := Nat.le_trans (nodup_bound _ road good.nd good.bd) good.ok.len
  refine ⟨_, rfl, x, dx, _, rfl, B.ob, fs_no _ _ _ (by decide +kernel) (by decide +kernel) (by decide +kernel), _, rfl, _, rfl, .inl ⟨ra, _, -1, _, rfl, rfl, SqL.of era, last_at good.ne, ?_⟩⟩
  refine ⟨H0, F, x, dx, rA, gA, v, rx, gx, roads, rings ++ rs, p, lastN road, rfl, B, lastlt, by omega, fun H1 k1 => ⟨_, rfl, ?_⟩⟩
  have B1 := B.more k1
  have era1 := k1 _ _ era
  have kept1 : ∀ c o, c ≠ x → c ≠ gA → H c = some o → H1 c = some o := fun c o a b e => k1 _ _ (kept c o a b e)
  by_cases en : endedW roads.flatten (road, rs, p)
  · rw [decide_eq_true (show p.getD (lastN road) [] = [] ∨ lastN road ∈ roads.flatten from en)]
    have rlen : rx.length = roads.length := by rw [B.rr.length, List.length_map]
    refine ⟨_, rfl, x, C, dx, _, _, rfl, B1.ob, W.cl, W.n_roads, fs_roads _ _ _, .inl ⟨rfl, _, SqL.of B1.ro⟩, _, rfl, rA, rx, _, rfl, rfl, B1.ro, small1000 (by omega), ?_⟩
    have B2 := (B1.see era1 h0ra fra nx nr ng).road (u := .ref ra) (t := road) (nats_rep upd_same)
    refine q _ _ _ _ road rs p _ B2 (wr _ (.stop en)) (fun c o n1 n2 n3 e => ?_) good.ok pl fw
    rw [upd_ne n2]
    exact kept1 c o n1 n3 e
  · rw [decide_eq_false (show ¬ (p.getD (lastN road) [] = [] ∨ lastN road ∈ roads.flatten) from en)]
    have hne : p.getD (lastN road) [] ≠ [] := fun z => en (.inl z)
    obtain ⟨good', less, len'⟩ := good.next en
    obtain ⟨va, vx, rfl, ev, rv⟩ := rep_list B1.re
    have vl : vx.length = p.length := by rw [rv.length, List.length_map]
    have hvm : vx[lastN road]? = some vx[lastN road] := List.getElem?_eq_getElem (by rw [vl]; exact lastlt)
    obtain ⟨l, bl, hl, hbl, ebl⟩ := reps_at rv hvm
    have hatv : atI vx ((lastN road : Nat) : Int) = some (.ref bl) := by rw [← hbl]; exact atI_nat hvm
    have hg : p.getD (lastN road) [] = l := by rw [List.getD_eq_getElem?_getD, hl]; rfl
    have hto : atI (natsV l) 0 = some (.int ((toN (road, rs, p) : Nat) : Int)) := by
      unfold toN
      show atI (natsV l) 0 = some (.int (((p.getD (lastN road) []).headD 0 : Nat) : Int))
      rw [hg] at hne ⊢
      cases l with
      | nil => exact absurd rfl hne
      | cons a l => exact atI0 _ _
    refine ⟨fun σ' H' => ∃ (F : Hp) (v : V) (gx : List V) (ra : Addr) (c3 c4 : Option V), σ' = [some (.ref x), some (.int ((st : Nat) : Int)), some (.ref ra), c3, c4] ∧ WK C H0 F H' x dx rA gA v rx gx roads (rings ++ (nextW (road, rs, p)).2.1) (nextW (road, rs, p)).2.2 ∧
      H' ra = some (.lst (natsV (nextW (road, rs, p)).1)) ∧ ra ≠ x ∧ ra ≠ rA ∧ ra ≠ gA ∧ F ra = none ∧ H0 ra = none ∧ H ra = none ∧ (∀ c o, c ≠ x → c ≠ gA → H c = some o → H' c = some o) ∧ (rings ++ (nextW (road, rs, p)).2.1).length + sizeN (nextW (road, rs, p)).2.2 ≤ 400, ?_, ?_⟩
    · rintro σ2 H2 ⟨F2, v2, gx2, ra2, c3', c4', e, B2, e2, n1, n2, n3, f2, g2, h2, kp2, fw2⟩
      exact ⟨_, less, F2, v2, gx2, ra2, _, _, _, c3', c4', e, B2, e2, n1, n2, n3, f2, g2, h2, good', fun t z => wr t (.go en z), rfl, kp2, len'.trans pl, fw2⟩
    · refine ⟨_, rfl, x, C, dx, _, _, rfl, B1.ob, W.cl, W.n_rest, fs_rest _ _ _, _, rfl, _, rfl, .inl ⟨ra, _, -1, _, rfl, rfl, SqL.of era1, last_at good.ne, .inl ⟨va, _, _, _, rfl, rfl, SqL.of (B1.nw.sub _ _ ev), hatv, .inl ⟨bl, _, 0, _, rfl, rfl, SqL.of (B1.nw.sub _ _ ebl), hto, ?_⟩⟩⟩⟩
      refine ⟨_, rfl, _, rfl, ra, _, rfl, .inl (SqL.of era1), rfl, flat_nats _, _, rfl, ?_⟩
      show if inV (.int ((toN (road, rs, p) : Nat) : Int)) (natsV road) = true then _ else _
      rw [inV_nats]
      generalize hT : toN (road, rs, p) = to at *
      refine iteD (fun c => ?_) (fun c => ?_)
      · have hi := List.idxOf_lt_length_of_mem c
        have enx : nextW (road, rs, p) = (road.take (road.idxOf to + 1), rs ++ [leastN (road.drop (road.idxOf to))], popN p (road.drop (road.idxOf to))) := by unfold nextW; rw [hT]; exact if_pos c
        rw [enx] at len' less
        have rsl : rs.length + 1 + sizeN (popN p (road.drop (road.idxOf to))) ≤ rs.length + sizeN p := by
          have : 9 * sizeN (popN p (road.drop (road.idxOf to))) + (8 - (road.take (road.idxOf to + 1)).length) < 9 * sizeN p + (8 - road.length) := less
          rw [List.length_take] at this
          omega
        refine ⟨_, rfl, .inl ⟨rfl, _, SqL.of era1⟩, _, rfl, ra, castI road, _, rfl, rfl, by rw [← nats_cast]; exact SqL.of era1, by unfold castI; rw [List.length_map]; omega, mem_cast c, ?_⟩
        rw [idx_cast]
        refine ⟨_, rfl, x, dx, _, rfl, B1.ob, fs_no _ _ _ (by decide +kernel) (by decide +kernel) (by decide +kernel), _, rfl, _, rfl, _, rfl, ra, _, rfl, SqL.of era1, fun q1 h1 => ?_⟩
        rw [cut_dr _ _ (by omega)]
        have s2 := same_upd h1 (HO.lst (natsV (road.drop (road.idxOf to))))
        have era2 := s2 _ _ era1
        have B2 := B1.more s2
        have eq2 : (upd H1 q1 (.lst (natsV (road.drop (road.idxOf to))))) q1 = some (.lst (natsV (road.drop (road.idxOf to)))) := upd_same
        have kept2 : ∀ c o, c ≠ x → c ≠ gA → H c = some o → (upd H1 q1 (.lst (natsV (road.drop (road.idxOf to))))) c = some o := fun c o a b e => s2 _ _ (kept1 c o a b e)
        have ngq : q1 ≠ gA := Ne.symm (ne_of_none B1.gi h1)
        generalize upd H1 q1 (HO.lst (natsV (road.drop (road.idxOf to)))) = H2 at B2 era2 eq2 kept2 ⊢
        refine ⟨H0, F, x, dx, rA, gA, _, rx, gx, roads, rings ++ rs, p, q1, _, rfl, B2, eq2, ngq, ?_, by rw [List.length_drop]; omega, good.ok, by omega, fun F' v' gx' H3 B3 kp3 fs3 => ?_⟩
        · intro z
          have := congrArg List.length z
          rw [List.length_drop, List.length_nil] at this
          omega
        have era3 := kp3 _ _ nx ng era2
        refine ⟨_, rfl, _, rfl, _, _, rfl, rfl, _, rfl, ra, _, rfl, SqL.of era3, fun q2 h2 => ?_⟩
        rw [show ((road.idxOf to : Nat) : Int) + 1 = ((road.idxOf to + 1 : Nat) : Int) by omega, cut_tk _ _ (by omega)]
        have s4 := same_upd h2 (HO.lst (natsV (road.take (road.idxOf to + 1))))
        have hHq : H q2 = none := by
          cases z : H q2 with
          | none => rfl
          | some o =>
            exfalso
            have a : q2 ≠ x := Ne.symm (ne_of_none B3.ob h2)
            have b : q2 ≠ gA := Ne.symm (ne_of_none B3.gi h2)
            have := kp3 _ _ a b (kept2 q2 o a b z)
            rw [h2] at this; cases this
        rw [enx]
        refine ⟨F', v', gx', q2, _, _, rfl, ?_, upd_same, Ne.symm (ne_of_none B3.ob h2), Ne.symm (ne_of_none B3.ro h2), Ne.symm (ne_of_none B3.gi h2), B3.nw.bare h2, B3.nw.keep.free h2, hHq, fun c o a b e => s4 _ _ (kp3 _ _ a b (kept2 c o a b e)), ?_⟩
        · have := B3.more s4
          rw [List.append_assoc] at this
          exact this
        · show (rings ++ (rs ++ [_])).length + sizeN (popN p (road.drop (road.idxOf to))) ≤ 400
          rw [List.length_append, List.length_append, List.length_singleton]
          rw [List.length_append] at fw
          omega
      · have enx : nextW (road, rs, p) = (road ++ [to], rs, p) := by unfold nextW; rw [hT]; exact if_neg c
        rw [enx]
        refine ⟨_, rfl, .inl ⟨rfl, _, SqL.of era1⟩, _, rfl, ra, _, _, rfl, rfl, era1, small1000 (by rw [natsV_len]; omega), ?_⟩
        refine ⟨F, _, gx, ra, _, _, rfl, B1.wr fra h0ra nx nr ng _, by rw [upd_same, natsV_append]; rfl, nx, nr, ng, fra, h0ra, hra, fun c o a b e => ?_, fw⟩
        rw [upd_ne (ne_of_none e hra)]
        exact kept1 c o a b e
end
end Law

namespace Law
open PySem L2 Ways Ring PyProof.Rows
section
variable {P : Program} {w : World} {K : PySem.W.Frag} {mg : Str → Option Value} {base : Heap} {C : Addr}
def tripD (roads rings : List (List Nat)) (p : Piles) : PyData := .tuple [ringsD roads, ringsD rings, ringsD p]
theorem okTo_trip (a b : List (List Nat)) (p : Piles) : okTo 3 (tripD a b p) := okTo.tuple fun d hd => by
  have hd' : d = ringsD a ∨ d = ringsD b ∨ d = ringsD p := by simpa using hd
  rcases hd' with rfl | rfl | rfl <;> exact okTo_rings _
theorem eqv_trip (a b a' b' : List (List Nat)) (p p' : Piles) : PyData.eqv (tripD a b p) (tripD a' b' p') = decide (a = a' ∧ b = b' ∧ p = p') := by
  simp only [tripD, PyData.eqv, PyData.eqvAll, eqv_rings, Bool.and_true]
  by_cases h1 : a = a' <;> by_cases h2 : b = b' <;> by_cases h3 : p = p' <;> simp [h1, h2, h3]
theorem rep_trip {H : Hp} {x : V} {a b : List (List Nat)} {p : Piles} (r : Rep H x (tripD a b p)) : ∃ t u v z, x = .ref t ∧ H t = some (.tup [u, v, z]) ∧ Rep H u (ringsD a) ∧ Rep H v (ringsD b) ∧ Rep H z (ringsD p) := by
  unfold tripD at r
  cases r with
  | @tup c xs _ e qs =>
    cases qs with
    | cons r1 qs =>
      cases qs with
      | cons r2 qs =>
        cases qs with
        | cons r3 qs =>
          cases qs
          exact ⟨c, _, _, _, rfl, e, r1, r2, r3⟩
theorem keep_out (as : List Nat) : ∀ l : List Nat, (l.filterMap fun i => if i ∉ as then some (V.int (i : Int)) else none) = natsV (l.filter fun x => decide (x ∉ as))
  | [] => rfl
  | a :: l => by
    by_cases c : a ∈ as
    · rw [List.filterMap_cons_none (by rw [if_neg (fun z => z c)]), List.filter_cons_of_neg (by simpa using c), keep_out as l]
    · rw [List.filterMap_cons_some (b := V.int (a : Int)) (by rw [if_pos c]), List.filter_cons_of_pos (by simpa using c), keep_out as l]
      rfl
def startsN (n : Nat) (as : List Nat) : List Nat := as ++ (List.range n).filter fun x => decide (x ∉ as)
/-- what is handed in as starts -/
def StV (H : Hp) (v : V) (o : Option (List Nat)) : Prop := match o with
  | none => v = .non
  | some l => ∃ a, v = .ref a ∧ H a = some (.lst (natsV l))
def sp_walk_out : Sp := fun vs H Q _ => ∃ x v p o, vs = [x, v] ∧ Rep H x (ringsD p) ∧ PilesOk p ∧ StV H v o ∧ (o.getD []).length ≤ 63 ∧ (∀ s ∈ o.getD [], s < p.length) ∧
  ∀ roads rings p' r F H', WSteps p (startsN p.length (o.getD [])) roads rings p' → PilesOk p' → p'.length = p.length → rings.length + sizeN p' ≤ 400 → New H F H' → Rep F r (tripD roads rings p') → Q r H'
theorem def_walk_out (T : Txt mg) (W : OwnWalker K mg C) (D_Walker___init__ : NDef P w K mg base C 2 ["self", "piles"] (sp_init C)) (D_Walker_walk_from : MDef P w K mg base C "walk_from" 3 ["self", "start"] (sp_walk_from C))
    (h : HereD K mg "walk_out" s_walk_out ["piles", "starts"] [.none]) : Def P w K mg base "walk_out" 4 ["piles", "starts"] sp_walk_out ∧ DefS P w K mg base "walk_out" 4 ["piles", "starts"] [.none] sp_walk_out := h.mk fun f fd F => by
  have nd := sc_walk_out.nd
  have W_Walker := W.cl
  have M_Walker := W.g
  refine F.ok sc_walk_out (fun vs H Q E h => ?_) (fun cdv A outer s H vs Q E hr h => ?_)
  · obtain ⟨x, v, p, o, rfl, _⟩ := h
    rfl
  obtain ⟨x, v, p, o, rfl, rx, ok, ho, o63, ob, q⟩ := h
  obtain ⟨U, hU, rest⟩ : ∃ U, PSs (cxOf CX0 P w K mg base ["piles", "starts", "asked", "others", "walker", "start"] "walk_out" (defScope s_walk_out) f cdv A outer s H E).nox ((defBody s_walk_out).drop 1) U ∧
      ∀ (aA : Addr) (H1 : Hp), Same H H1 → H1 aA = some (.lst (natsV (o.getD []))) → U { nx := fun _ H' => Q .non H', rt := Q } [some x, some v, some (.ref aA), none, none, none] H1 := by
    refine ⟨_, pss_cons (ps_setC (i := 3) nd rfl rfl (N' := ["place", "asked"]) (cap := [none, some 2]) rfl ⟨rfl, rfl, rfl, rfl, rfl, rfl⟩ (pi_range1 rfl T.z_range (pa_cons (pe_callB (call_lenK (K := K)) rfl T.z_len PySem.boot_len (pa_cons (pv 0) pa_nil)) pa_nil)) (fun _ _ _ _ _ _ => ⟨pg_name (i := 0) (show (["place", "asked"] : List Str).Nodup by decide +kernel) rfl (Or.inl rfl) (Or.inr rfl), pifs_one (pt_cmpR (op_notInK (K := K)) (pv 0) (pv 1) rfl), pv 0⟩) (keeps_name rfl))
    (pss_cons (ps_set (i := 4) nd rfl (Or.inl rfl) (pe_makeD D_Walker___init__ hr rfl M_Walker (pa_cons (pv 0) pa_nil)))
    (pss_cons (ps_for PassesOwn.never rfl (pi_listK (K := K) (pe_op op_cat (pv 2) (pv 3))) (pg_name (i := 5) nd rfl (Or.inl rfl))
      (pss_one (ps_expr (pe_methD (pv 4) W_Walker D_Walker_walk_from hr (pa_cons (pv 5) pa_nil)))))
    (pss_one (ps_ret (pe_tup (pa_cons (pe_fldK (K := K) (pv 4)) (pa_cons (pe_fldK (K := K) (pv 4)) (pa_cons (pe_fldK (K := K) (pv 4)) pa_nil)))))))), fun aA H1 k1 eA => ?_⟩
    have len8 := ok.len
    have few := ok.few
    generalize o.getD [] = as at o63 ob eA q
    obtain ⟨xa, xx, rfl, ex, rxx⟩ := rep_list rx
    have xl : xx.length = p.length := by rw [rxx.length, List.length_map]
    have rx1 := rx.mono k1
    -- others
    refine ⟨_, rfl, xa, _, rfl, .inl (SqL.of (k1 _ _ ex)), _, rfl, by omega, by omega, fun D hD => ?_⟩
    refine comp_range (lo := 0) (n := ((xx.length : Nat) : Int).toNat) (FlatP H1 fun i => if i ∉ as then some (V.int (i : Int)) else none) hD FlatP.zero (fun i G ys hi hG pf => ?_) (fun G ys hG pf => ?_)
    · rw [Int.zero_add]
      refine ⟨_, rfl, _, rfl, aA, _, rfl, .inl (SqL.of (same_upd hG _ _ _ (pf.1 _ _ eA))), rfl, flat_nats _, _, rfl, ?_⟩
      show if (!inV (.int (i : Int)) (natsV as)) = true then _ else _
      rw [inV_nats]
      by_cases c : i ∈ as
      · rw [decide_eq_true c]
        exact pf.skip hG (Same.refl _) (if_neg (fun z => z c))
      · rw [decide_eq_false c]
        exact ⟨_, rfl, pf.put hG (Same.refl _) (if_pos c) (by omega)⟩
    have ey : ys = natsV ((List.range p.length).filter fun x => decide (x ∉ as)) := by
      rw [pf.2, xl, show ((p.length : Nat) : Int).toNat = p.length by omega]
      exact keep_out as _
    subst ey
    have fl : ((List.range p.length).filter fun x => decide (x ∉ as)).length ≤ 8 := Nat.le_trans (List.length_filter_le _ _) (by rw [List.length_range]; exact len8)
    have k2 := k1.trans (pf.1.trans (same_upd hG (.lst (natsV ((List.range p.length).filter fun x => decide (x ∉ as))))))
    have eA2 := (pf.1.trans (same_upd hG (.lst (natsV ((List.range p.length).filter fun x => decide (x ∉ as)))))) _ _ eA
    have eO : (upd G D (.lst (natsV ((List.range p.length).filter fun x => decide (x ∉ as))))) D = some (.lst (natsV ((List.range p.length).filter fun x => decide (x ∉ as)))) := upd_same
    generalize upd G D (HO.lst (natsV ((List.range p.length).filter fun x => decide (x ∉ as)))) = H2 at k2 eA2 eO ⊢
    -- the walker
    refine ⟨_, rfl, fun wx dx hx hdx ndx => ?_⟩
    have sM : Same H2 (upd (upd H2 dx (.own wx)) wx (.ins C dx [])) := fun b o e => by rw [upd_ne (ne_of_none e hx), upd_ne (ne_of_none e hdx)]; exact e
    refine ⟨wx, .ref xa, H2, dx, p, rfl, sM, hx, upd_same, rx.mono k2, by omega, fun F3 rA gA v3 H3 B3 => ⟨rfl, ?_⟩⟩
    refine ⟨_, rfl, _, rfl, aA, D, _, _, rfl, rfl, B3.nw.keep _ _ eA2, B3.nw.keep _ _ eO, Nat.le_of_lt (small1000 (by rw [natsV_len, natsV_len]; omega)), fun l hl => ?_⟩
    rw [← natsV_append]
    have eS : as ++ (List.range p.length).filter (fun x => decide (x ∉ as)) = startsN p.length as := rfl
    rw [eS]
    have Sl : (startsN p.length as).length ≤ 71 := by unfold startsN; rw [List.length_append]; omega
    have Sb : ∀ s ∈ startsN p.length as, s < p.length := fun s hs => by
      rcases List.mem_append.mp hs with z | z
      · exact ob s z
      · exact List.mem_range.mp (List.mem_filter.mp z).1
    generalize startsN p.length as = S at Sl Sb q ⊢
    have s4 := same_upd hl (HO.lst (natsV S))
    have el4 : (upd H3 l (.lst (natsV S))) l = some (.lst (natsV S)) := upd_same
    have nlx : l ≠ wx := Ne.symm (ne_of_none B3.ob hl)
    have nlr : l ≠ rA := Ne.symm (ne_of_none B3.ro hl)
    have nlg : l ≠ gA := Ne.symm (ne_of_none B3.gi hl)
    have B4 := B3.more s4
    generalize upd H3 l (HO.lst (natsV S)) = H4 at B4 el4 ⊢
    refine ⟨l, rfl, ⟨_, SqL.of el4⟩, for_list (K := K) (xs := natsV S) (fun i σ' H' => ∃ (F : Hp) (vv : V) (rx gx : List V) (roads rings : List (List Nat)) (p' : Piles) (c5 : Option V), σ' = [some (.ref xa), some v, some (.ref aA), some (.ref D), some (.ref wx), c5] ∧ WK C H2 F H' wx dx rA gA vv rx gx roads rings p' ∧
      WSteps p (S.take i) roads rings p' ∧ PilesOk p' ∧ p'.length = p.length ∧ rings.length + sizeN p' ≤ 400 ∧ roads.length = i ∧ H' l = some (.lst (natsV S)))
      ⟨F3, v3, [], [], [], [], p, none, rfl, B4, .nil, ok, rfl, by rw [List.length_nil]; omega, rfl, el4⟩ (fun i σ' H' _ ⟨_, _, _, _, _, _, _, _, _, _, _, _, _, _, _, e⟩ => SqL.of e) ?_ ?_⟩
    · rintro i y σ' H' hy ⟨F, vv, rx', gx, roads, rings, p', c5, rfl, B, ws, ok', pl, fw, rl, el⟩
      obtain ⟨st, hst, rfl⟩ := natsV_get hy
      have hi := lt_of_get hst
      refine ⟨_, rfl, wx, dx, _, rfl, B.ob, fs_no _ _ _ (by decide +kernel) (by decide +kernel) (by decide +kernel), _, rfl, ?_⟩
      refine ⟨H2, F, wx, dx, rA, gA, vv, rx', gx, roads, rings, p', st, rfl, B, by rw [pl]; exact Sb st (List.mem_of_getElem? hst), ok', by omega, fw, fun F' v' rx2 gx2 road rs p2 H5 B5 wr kept ok2 pl2 fw2 => ?_⟩
      refine ⟨F', v', rx2, gx2, roads ++ [road], rings ++ rs, p2, _, rfl, B5, ?_, ok2, pl2.trans pl, fw2, by rw [List.length_append, List.length_singleton, rl], kept _ _ nlx nlr nlg el⟩
      rw [List.take_succ, hst, Option.toList_some]
      exact .snoc ws wr
    · rintro σ' H' ⟨F, vv, rx', gx, roads, rings, p', c5, rfl, B, ws, ok', pl, fw, rl, el⟩
      rw [natsV_len, List.take_length] at ws
      refine ⟨_, rfl, wx, C, dx, _, _, rfl, B.ob, W.cl, W.n_roads, fs_roads _ _ _, _, rfl, wx, C, dx, _, _, rfl, B.ob, W.cl, W.n_rings, fs_rings _ _ _, _, rfl, wx, C, dx, _, _, rfl, B.ob, W.cl, W.n_rest, fs_rest _ _ _, (by show 3 ≤ sizeLine; decide), fun t ht => ?_⟩
      have n1 := B.nw.see B.ro B.fr B.hr
      have fg1 : (upd F rA (.lst rx')) gA = none := by rw [upd_ne (Ne.symm B.rg)]; exact B.fg
      have n2 := n1.see B.gi fg1 B.hg
      have n3 := (n2.lay ht (.tup [.ref rA, .ref gA, vv])).see upd_same (n2.bare ht) (n2.keep.free ht)
      have sF1 : Same F (upd F rA (.lst rx')) := same_upd B.fr _
      have sF2 : Same (upd F rA (.lst rx')) (upd (upd F rA (.lst rx')) gA (.lst gx)) := same_upd fg1 _
      have sF3 : Same (upd (upd F rA (.lst rx')) gA (.lst gx)) (upd (upd (upd F rA (.lst rx')) gA (.lst gx)) t (.tup [.ref rA, .ref gA, vv])) := same_upd (n2.bare ht) _
      have all := sF1.trans (sF2.trans sF3)
      refine q roads rings p' (.ref t) _ _ ws ok' pl fw (New.after k2 n3) (.tup upd_same (.cons (.lst (sF3 _ _ (sF2 _ _ upd_same)) (B.rr.mono all)) (.cons (.lst (sF3 _ _ upd_same) (B.gr.mono all)) (.cons (B.re.mono all) .nil))))
  refine ⟨_, pss_cons (ps_set (i := 2) nd rfl (Or.inr rfl) (pe_ifExp (pt_cmp (pc_isN (pv 1))) (pe_lst pa_nil) (pe_callTy (call_listK (K := K)) rfl T.z_list boot_list (pa_cons (pv 1) pa_nil))))
    (hU), ?_⟩
  cases o with
  | none =>
    have ev : v = .non := ho
    subst ev
    refine ⟨_, rfl, _, rfl, Nat.zero_le _, fun aA hA => ?_⟩
    exact rest aA _ (same_upd hA _) upd_same
  | some l =>
    obtain ⟨a, rfl, ea⟩ := ho
    refine ⟨_, rfl, _, rfl, _, rfl, a, _, rfl, .inl (SqL.of ea), fun aA hA => ?_⟩
    exact rest aA _ (same_upd hA _) upd_same
end
end Law

namespace Law
open PySem L2 Ways Ring PyProof.Rows
section
variable {P : Program} {w : World} {K : PySem.W.Frag} {mg : Str → Option Value} {base : Heap}
/-! ### the law's numbers: any number will do -/
def sp_next : Sp := fun vs H Q _ => ∃ n : Int, vs = [.int n] ∧ ∀ m : Int, Q (.int m) H
def sp_fold (K : PySem.W.Frag) : Sp := fun vs H Q _ => ∃ (a : Addr) (ns : List Int) (n : Int), vs = [.ref a, .int n] ∧ SqL K H a (ns.map V.int) ∧ ∀ m : Int, Q (.int m) H
theorem def__law_fold (T : Txt mg) (h : Here K mg "_law_fold" s__law_fold ["_law_script", "_law_number"]) : Def P w K mg base "_law_fold" 1 ["_law_script", "_law_number"] (sp_fold K) := h.mk fun f fd F => by
  have nd := sc__law_fold.nd
  refine F.ok sc__law_fold (fun vs H Q E h => ?_) (fun cdv A outer s H vs Q E hr h => ?_)
  · obtain ⟨a, ns, n, rfl, _⟩ := h
    rfl
  obtain ⟨a, ns, n, rfl, hS, q⟩ := h
  refine ⟨_, pss_cons (ps_for PassesOwn.never rfl (pi_listK (K := K) (pv 0)) (pg_name (i := 2) nd rfl (Or.inl rfl))
      (pss_cons (ps_set (i := 1) nd rfl (Or.inl rfl) (pe_op op_mod (pe_op op_mul (pe_op op_add (pv 1) (pe_op op_mod (pv 2) (pe_op op_pow pe_int pe_int))) pe_int) (pe_op op_pow pe_int pe_int)))
      (pss_one (ps_set (i := 1) nd rfl (Or.inl rfl) (pe_op op_xor (pv 1) (pe_op op_fdivB (pv 1) (pe_op op_pow pe_int pe_int)))))))
    (pss_one (ps_ret (pv 1))), ?_⟩
  refine ⟨_, rfl, a, rfl, ⟨_, hS⟩, for_list (xs := ns.map V.int) (fun i σ' H' => ∃ (n : Int) (c : Option V), σ' = [some (.ref a), some (.int n), c] ∧ H' = H) ⟨n, none, rfl, rfl⟩ (fun i σ' H' _ ⟨_, _, _, e⟩ => e ▸ hS) ?_ ?_⟩
  · rintro i x σ' H' hx ⟨n, c, rfl, rfl⟩
    obtain ⟨z, rfl⟩ : ∃ z : Int, x = V.int z := by
      rw [List.getElem?_map] at hx
      cases e : ns[i]? with
      | none => rw [e] at hx; cases hx
      | some z => rw [e] at hx; exact ⟨z, (Option.some.inj hx).symm⟩
    refine ⟨_, rfl, _, rfl, _, _, rfl, rfl, ⟨by decide, by decide, by decide⟩, _, _, rfl, rfl, (pow2_ok _ (by decide) 0).1, _, _, rfl, rfl, _, _, rfl, rfl, .inr ⟨by decide, by decide⟩, _, _, rfl, rfl, ⟨by decide, by decide, by decide⟩, _, _, rfl, rfl, (pow2_ok _ (by decide) 0).1, ?_⟩
    exact ⟨_, rfl, _, rfl, _, _, rfl, rfl, ⟨by decide, by decide, by decide⟩, _, _, rfl, rfl, pow2_ok _ (by decide) _, _, _, rfl, rfl, _, _, rfl, rfl⟩
  · rintro σ' H' ⟨n, c, rfl, rfl⟩
    exact ⟨_, rfl, q _⟩
end
end Law

namespace Law
open PySem L2 Ways Ring PyProof.Rows
section
variable {P : Program} {w : World} {K : PySem.W.Frag} {mg : Str → Option Value} {base : Heap}
theorem log_500 {j : Int} (h0 : 0 < j) (h1 : j ≤ 5000) (i : Int) : CDivB i j := by
  refine ⟨h0, ?_⟩
  have : j.natAbs < 2 ^ 13 := by omega
  have h2 : j.natAbs.log2 < 13 := (Nat.log2_lt (by omega)).mpr this
  omega
def sp_any (K : PySem.W.Frag) : Sp := fun vs H Q _ => ∃ (a : Addr) (ns : List Int) (n : Int), vs = [.ref a, .int n] ∧ SqL K H a (ns.map V.int) ∧ ns.length ≤ 63 ∧ ∀ p r F H', PilesOk p → New H F H' → Rep F r (ringsD p) → Q r H'
theorem def__law_any (T : Txt mg) (h : Here K mg "_law_any" s__law_any ["_law_script", "_law_number"]) : Def P w K mg base "_law_any" 1 ["_law_script", "_law_number"] (sp_any K) := h.mk fun f fd F => by
  have nd := sc__law_any.nd
  refine F.ok sc__law_any (fun vs H Q E h => ?_) (fun cdv A outer s H vs Q E hr h => ?_)
  · obtain ⟨a, ns, n, rfl, _⟩ := h
    rfl
  obtain ⟨a, ns, n, rfl, hS, h63, q⟩ := h
  refine ⟨_, pss_cons (ps_set (i := 2) nd rfl (Or.inl rfl) (pe_op op_add pe_int (pe_draw (pv 1) pe_int)))
    (pss_cons (ps_setC (i := 3) nd rfl rfl (N' := ["_law_place"]) (cap := [none]) rfl ⟨rfl, rfl, rfl, rfl, rfl, rfl⟩ (pi_range1 rfl T.z_range (pa_cons (pv 2) pa_nil)) (fun _ _ _ _ _ _ => ⟨pg_name (i := 0) (show (["_law_place"] : List Str).Nodup by decide +kernel) rfl (Or.inl rfl) (Or.inr rfl), pifs_nil, pe_lst pa_nil⟩) (keeps_name rfl))
    (pss_cons (ps_setC (i := 4) nd rfl rfl (N' := ["_law_place", "_law_number"]) (cap := [none, some 1]) rfl ⟨rfl, rfl, rfl, rfl, rfl, rfl⟩ (pi_range1 rfl T.z_range (pa_cons (pv 2) pa_nil)) (fun _ _ _ _ _ _ => ⟨pg_name (i := 0) (show (["_law_place", "_law_number"] : List Str).Nodup by decide +kernel) rfl (Or.inl rfl) (Or.inr rfl), pifs_one (pt_cmpR op_eq (pe_modA (pe_op op_fdivB (pv 1) (pe_op op_add pe_int (pe_op op_mul pe_int (pv 0)))) pe_int) pe_int (nomark _)), pv 0⟩) (keeps_name rfl))
    (pss_cons (ps_for PassesOwn.never rfl (pi_listK (K := K) (pv 0)) (pg_name (i := 5) nd rfl (Or.inl rfl))
      (pss_cons (ps_set (i := 6) nd rfl (Or.inl rfl) (pe_modA (pv 5) (pv 2)))
      (pss_one (ps_if (PW.pt (pw_and (pt_cmpR (op_notInK (K := K)) (pv 6) (pv 4) rfl) (pw_and1 (pt_cmpR op_lt (pe_callB (call_lenK (K := K)) rfl T.z_len PySem.boot_len (pa_cons (pe_ix (ix_lt (K := K)) (pv 3) (pv 6) (fun _ _ => rfl)) pa_nil)) pe_int (nomark _)))))
        (pss_one (ps_expr (pe_bm PySem.F.plainAttrs_list PySem.F.slot_list_append PySem.F.type_list_append mt_append (pe_ix (ix_lt (K := K)) (pv 3) (pv 6) (fun _ _ => rfl)) (pa_cons (pe_modA (pe_op op_fdivB (pv 5) (pv 2)) (pv 2)) pa_nil))))
        (pss_nil)))))
    (pss_one (ps_ret (pv 3)))))), ?_⟩
  refine ⟨_, rfl, _, rfl, _, rfl, by decide, fun r hr0 hr1 => ⟨_, _, rfl, rfl, ?_⟩⟩
  -- piles
  refine ⟨_, rfl, 1 + r, rfl, by omega, by omega, fun pP hP => ?_⟩
  refine comp_range (lo := 0) (fun i G ys => ∃ ad : List Addr, ys = ad.map V.ref ∧ ad.length = i ∧ ad.Nodup ∧ Same H G ∧ ∀ b ∈ ad, H b = none ∧ G b = some (.lst [])) hP ⟨[], rfl, rfl, .nil, Same.refl _, by simp⟩ (fun i G ys hi hG p => ?_) (fun G ys hG p => ?_)
  · obtain ⟨ad, rfl, hl, hnd, hs, had⟩ := p
    refine ⟨Nat.zero_le _, fun l hln => ?_⟩
    have hlD : l ≠ pP := by rintro rfl; rw [upd_same] at hln; cases hln
    have hlG : G l = none := by rw [upd_ne hlD] at hln; exact hln
    refine cput (ys := ad.map V.ref) (same_upd hln _ _ _ upd_same) (by rw [List.length_map]; omega) ⟨ad ++ [l], by simp, by simp [hl], ?_, same_del hs hG (same_upd hln _), fun b hb => ?_⟩
    · rw [List.nodup_append]
      refine ⟨hnd, by simp, fun x hx y hy e => ?_⟩
      have hy' : y = l := by simpa using hy
      rw [e, hy'] at hx
      have := (had l hx).2
      rw [hlG] at this
      cases this
    · rcases List.mem_append.mp hb with z | z
      · obtain ⟨h1, h2⟩ := had b z
        refine ⟨h1, ?_⟩
        have hbD : b ≠ pP := ne_of_none h2 hG
        rw [del_ne hbD]
        exact same_upd hln _ _ _ (by rw [upd_ne hbD]; exact h2)
      · have z' : b = l := by simpa using z
        subst z'
        exact ⟨hs.free hlG, by rw [del_ne hlD]; exact upd_same⟩
  obtain ⟨ad, rfl, hl, hnd, hs, had⟩ := p
  have B0 : AnyAt H (upd G pP (.lst (ad.map V.ref))) pP ad (List.replicate (1 + r).toNat []) := by
    have np : pP ∉ ad := fun z => by have := (had pP z).2; rw [hG] at this; cases this
    refine ⟨hs.trans (same_upd hG _), upd_same, hP, hnd, np, fun b hb => (had b hb).1, by rw [List.length_replicate]; exact hl, fun i b t h1 h2 => ?_⟩
    have hb := List.mem_of_getElem? h1
    have ht := (List.mem_replicate.mp (List.mem_of_getElem? h2)).2
    have hbp : b ≠ pP := fun z => np (z ▸ hb)
    rw [upd_ne hbp, (had b hb).2, ht]
    rfl
  -- bare
  refine ⟨_, rfl, 1 + r, rfl, by omega, by omega, fun pB hB => ?_⟩
  refine comp_range (lo := 0) (fun i G' ys => Same (upd G pP (.lst (ad.map V.ref))) G' ∧ ∃ bare : List Nat, ys = natsV bare ∧ bare.length ≤ i) hB ⟨Same.refl _, [], rfl, Nat.le_refl _⟩ (fun i G' ys hi hG' p => ?_) (fun G' ys hG' p => ?_)
  · obtain ⟨hs', bare, rfl, hbl⟩ := p
    have hi8 : i < 8 := by omega
    refine ⟨_, rfl, _, rfl, _, _, rfl, rfl, .inl ⟨by decide, by decide⟩, _, _, rfl, rfl, _, _, rfl, rfl, log_500 (by omega) (by omega) _, _, rfl, _, rfl, by decide, fun z _ _ => ⟨rfl, _, rfl, iteB (fun _ => ?_) (fun _ => ?_)⟩⟩
    · refine ⟨_, rfl, cput (ys := natsV bare) upd_same (by rw [natsV_len]; omega) ⟨same_del hs' hG' (Same.refl _), bare ++ [i], ?_, by simp; omega⟩⟩
      rw [natsV_append, Int.zero_add]
      rfl
    · exact cskip (ys := natsV bare) upd_same ⟨same_del hs' hG' (Same.refl _), bare, rfl, by omega⟩
  obtain ⟨hs', bare, rfl, hbl⟩ := p
  have B1 := B0.more (hs'.trans (same_upd hG' (.lst (natsV bare))))
  have hB2 : pB ≠ pP := by rintro rfl; rw [upd_same] at hB; cases hB
  have hBad : pB ∉ ad := fun z => by
    have := (had pB z).2
    have e : (upd G pP (.lst (ad.map V.ref))) pB = some (.lst []) := by rw [upd_ne hB2]; exact this
    rw [e] at hB
    cases hB
  have hS1 := B1.keep.seq hS
  refine ⟨_, rfl, a, rfl, ⟨_, hS1⟩, for_list (K := K) (xs := ns.map V.int) (fun i σ' H' => ∃ (p : Piles) (c5 c6 : Option V), σ' = [some (.ref a), some (.int n), some (.int (1 + r)), some (.ref pP), some (.ref pB), c5, c6] ∧ AnyAt H H' pP ad p ∧ H' pB = some (.lst (natsV bare)) ∧
    p.length = (1 + r).toNat ∧ (∀ l ∈ p, ∀ x ∈ l, x < (1 + r).toNat) ∧ sizeN p ≤ i) ?_ (fun i σ' H' _ ⟨_, _, _, _, B, _⟩ => B.keep.seq hS) ?_ ?_⟩
  · refine ⟨_, none, none, rfl, B1, upd_same, List.length_replicate, fun l hl x hx => ?_, ?_⟩
    · rw [(List.mem_replicate.mp hl).2] at hx
      cases hx
    · unfold sizeN
      rw [List.map_replicate]
      simp
  · rintro i x σ' H' hx ⟨p, c5, c6, rfl, B, hpB, hpl, hpb, hsz⟩
    have hi : i < 63 := by have := lt_of_get hx; rw [List.length_map] at this; omega
    obtain ⟨z, rfl⟩ : ∃ z : Int, x = V.int z := by
      rw [List.getElem?_map] at hx
      cases e : ns[i]? with
      | none => rw [e] at hx; cases hx
      | some z => rw [e] at hx; exact ⟨z, (Option.some.inj hx).symm⟩
    refine ⟨_, rfl, _, rfl, _, rfl, _, rfl, by omega, fun v hv0 hv1 => ?_⟩
    obtain ⟨j, rfl⟩ := Int.eq_ofNat_of_zero_le hv0
    have same : ∃ (p' : Piles) (c5 c6 : Option V), [some (V.ref a), some (V.int n), some (V.int (1 + r)), some (V.ref pP), some (V.ref pB), some (V.int z), some (V.int (j : Int))] = [some (.ref a), some (.int n), some (.int (1 + r)), some (.ref pP), some (.ref pB), c5, c6] ∧ AnyAt H H' pP ad p' ∧ H' pB = some (.lst (natsV bare)) ∧
        p'.length = (1 + r).toNat ∧ (∀ l ∈ p', ∀ x ∈ l, x < (1 + r).toNat) ∧ sizeN p' ≤ i + 1 := ⟨p, _, _, rfl, B, hpB, hpl, hpb, by omega⟩
    refine ⟨_, rfl, _, rfl, pB, _, rfl, .inl (SqL.of hpB), rfl, flat_nats _, _, rfl, iteB (fun _ => ?_) (fun _ => same)⟩
    have hja : j < ad.length := by rw [B.len, hpl]; omega
    have hjp : j < p.length := by rw [hpl]; omega
    have hb : ad[j]? = some ad[j] := List.getElem?_eq_getElem hja
    have ht : p[j]? = some p[j] := List.getElem?_eq_getElem hjp
    have eb := B.rep j _ _ hb ht
    have hat : atI (ad.map V.ref) (j : Int) = some (.ref ad[j]) := atI_nat (by rw [List.getElem?_map, hb]; rfl)
    refine ⟨_, rfl, _, rfl, .inl ⟨pP, _, _, _, rfl, rfl, SqL.of B.at', hat, ad[j], _, rfl, .inl (SqL.of eb), _, _, rfl, rfl, _, rfl, iteD (fun hlt => ?_) (fun _ => same)⟩⟩
    refine ⟨_, rfl, _, rfl, .inl ⟨pP, _, _, _, rfl, rfl, SqL.of B.at', hat, .inl ⟨rfl, _, SqL.of eb⟩, ?_⟩⟩
    refine ⟨_, rfl, _, rfl, _, _, rfl, rfl, log_500 (by omega) (by omega) _, _, rfl, _, rfl, _, rfl, by omega, fun u hu0 hu1 => ?_⟩
    obtain ⟨k, rfl⟩ := Int.eq_ofNat_of_zero_le hu0
    have hl40 : p[j].length < 40 := by rw [natsV_len] at hlt; omega
    refine ⟨ad[j], _, _, rfl, rfl, eb, small1000 (by rw [natsV_len]; omega), p.set j (p[j] ++ [k]), _, _, rfl, B.write hb ht, ?_, by rw [List.length_set]; exact hpl, fun l hl x hx => ?_, ?_⟩
    · have hBj : pB ≠ ad[j] := fun z => hBad (z ▸ List.getElem_mem hja)
      rw [upd_ne hBj]; exact hpB
    · rcases List.mem_or_eq_of_mem_set hl with z | z
      · exact hpb l z x hx
      · rw [z] at hx
        rcases List.mem_append.mp hx with y | y
        · exact hpb _ (List.getElem_mem hjp) x y
        · have : x = k := by simpa using y
          omega
    · rw [size_set ht]; omega
  · rintro σ' H' ⟨p, c5, c6, rfl, B, hpB, hpl, hpb, hsz⟩
    obtain ⟨F, nw, rp⟩ := B.view
    rw [List.length_map] at hsz
    exact ⟨_, rfl, q p _ F H' ⟨by omega, by omega, fun l hl x hx => by rw [hpl]; exact hpb l hl x hx, by omega⟩ nw rp⟩
end
end Law

namespace Law
open PySem L2 Ways Ring PyProof.Rows
section
variable {P : Program} {w : World} {K : PySem.W.Frag} {mg : Str → Option Value} {base : Heap}
def sp_whole : Sp := fun vs H Q _ => ∃ x d, vs = [x] ∧ Rep H x d ∧ Q (.bl (isIntD d)) H
theorem def__law_whole (T : Txt mg) (h : Here K mg "_law_whole" s__law_whole ["_law_found"]) : Def P w K mg base "_law_whole" 1 ["_law_found"] sp_whole := h.mk fun f fd F => by
  have nd := sc__law_whole.nd
  refine F.ok sc__law_whole (fun vs H Q E h => ?_) (fun cdv A outer s H vs Q E hr h => ?_)
  · obtain ⟨x, d, rfl, _⟩ := h
    rfl
  obtain ⟨x, d, rfl, r, q⟩ := h
  refine ⟨_, pss_one (ps_ret (pe_and (pe_callB call_isi rfl T.z_isinstance boot_isinstance (pa_cons (pv 0) (pa_cons (pe_bltn rfl T.z_int boot_int (v := .ty "int") rfl) pa_nil))) (pe_one (pe_not (pe_callB call_isi rfl T.z_isinstance boot_isinstance (pa_cons (pv 0) (pa_cons (pe_bltn rfl T.z_bool boot_bool (v := .ty "bool") rfl) pa_nil))))))), ?_⟩
  have ht := rep_ty r
  refine ⟨_, rfl, _, _, _, rfl, by decide, ht, _, rfl, ?_⟩
  cases d with
  | int i => exact ⟨_, rfl, _, _, _, rfl, by decide, ht, _, rfl, q⟩
  | bool b => exact ⟨_, rfl, _, _, _, rfl, by decide, ht, _, rfl, q⟩
  | _ => exact q
end
end Law

namespace Law
open PySem L2 Ways Ring PyProof.Rows
section
variable {P : Program} {w : World} {K : PySem.W.Frag} {mg : Str → Option Value} {base : Heap}
/-! ### the law's own walk -/
theorem pop_snoc {p : Piles} {r : List Nat} {x : Nat} {l : List Nat} (hx : x ∉ r) (hl : p[x]? = some l) : popN p (r ++ [x]) = (popN p r).set x (l.drop 1) ∧ (popN p r)[x]? = some l := by
  have h2 : (popN p r)[x]? = some l := by rw [popN_at, hl, Option.map_some, if_neg hx]
  refine ⟨List.ext_getElem? fun i => ?_, h2⟩
  rw [popN_at]
  by_cases hi : i = x
  · subst hi
    rw [hl, Option.map_some, if_pos (by simp), List.getElem?_set_self (lt_of_get h2)]
  · rw [List.getElem?_set_ne (Ne.symm hi), popN_at]
    cases p[i]? with
    | none => rfl
    | some t =>
      rw [Option.map_some, Option.map_some]
      by_cases hr : i ∈ r
      · rw [if_pos hr, if_pos (by simp [hr])]
      · rw [if_neg hr, if_neg (by simp [hr, hi])]
theorem reps_set {F : Hp} {x : V} {d : PyData} : ∀ {xs : List V} {ds : List PyData} (i : Nat), Reps F xs ds → Rep F x d → Reps F (xs.set i x) (ds.set i d)
  | _, _, _, .nil, _ => .nil
  | _, _, 0, .cons _ t, r => .cons r t
  | _, _, i + 1, .cons a t, r => .cons a (reps_set i t r)
structure LK (H0 F H' : Hp) (L : Addr) (zs : List V) (p : Piles) : Prop where
  nw : New H0 F H'
  at' : H' L = some (.lst zs)
  no : F L = none
  hn : H0 L = none
  rz : Reps F zs (p.map natsD)
theorem LK.more {H0 F H' H2 : Hp} {L : Addr} {zs : List V} {p : Piles} (B : LK H0 F H' L zs p) (s : Same H' H2) : LK H0 F H2 L zs p := ⟨B.nw.more s, s _ _ B.at', B.no, B.hn, B.rz⟩
theorem LK.wr {H0 F H' : Hp} {L b : Addr} {zs : List V} {p : Piles} (B : LK H0 F H' L zs p) (fb : F b = none) (hb : H0 b = none) (n : b ≠ L) (o : HO) : LK H0 F (upd H' b o) L zs p := ⟨B.nw.write fb hb o, by rw [upd_ne (Ne.symm n)]; exact B.at', B.no, B.hn, B.rz⟩
theorem LK.see {H0 F H' : Hp} {L b : Addr} {zs : List V} {p : Piles} {o : HO} (B : LK H0 F H' L zs p) (e : H' b = some o) (fb : F b = none) (hb : H0 b = none) (n : b ≠ L) : LK H0 (upd F b o) H' L zs p := ⟨B.nw.see e fb hb, B.at', by rw [upd_ne (Ne.symm n)]; exact B.no, B.hn, B.rz.mono (same_upd fb _)⟩
/-- which places were on a road -/
def Ear (kvs : List (Key × V)) (early : List Nat) : Prop := ∀ n : Nat, (valV kvs (Sum.inl (n : Int))).isSome = true ↔ n ∈ early
def pairD (road : List Nat) (rs : List (List Nat)) : PyData := .list [natsD road, ringsD rs]
def sp_one : Sp := fun vs H Q _ => ∃ H0 F L Ed zs p kvs early s, vs = [.int ((s : Nat) : Int), .ref L, .ref Ed] ∧ LK H0 F H L zs p ∧ H Ed = some (.dK kvs) ∧ Ear kvs early ∧ Ed ≠ L ∧ s < p.length ∧ PilesOk p ∧
  ∀ F' zs' road rs p' r H', LK H0 F' H' L zs' p' → Rep F' r (pairD road rs) → WRun early ([s], [], p) (road, rs, p') → (∀ c o, c ≠ L → H c = some o → H' c = some o) → Same F F' → (∀ b o, H b = some o → F b = none → F' b = none) → PilesOk p' → p'.length = p.length → rs.length + sizeN p' ≤ sizeN p → road.length ≤ 8 → Q r H'
theorem def__law_one (T : Txt mg) (h : Here K mg "_law_one" s__law_one ["_law_start", "_law_left", "_law_earlier"]) : Def P w K mg base "_law_one" 1 ["_law_start", "_law_left", "_law_earlier"] sp_one := h.mk fun f fd F => by
  have nd := sc__law_one.nd
  refine F.ok sc__law_one (fun vs H Q E h => ?_) (fun cdv A outer s H vs Q E hr h => ?_)
  · obtain ⟨H0, F, L, Ed, zs, p, kvs, early, s, rfl, _⟩ := h
    rfl
  obtain ⟨H0, F0, L, Ed, zs0, p0, kvs, early, st, rfl, B0, eE, ear, nEL, hst, ok0, q⟩ := h
  refine ⟨_, pss_cons (ps_set (i := 3) nd rfl (Or.inl rfl) (pe_lst (pa_cons (pv 0) pa_nil)))
    (pss_cons (ps_set (i := 4) nd rfl (Or.inl rfl) (pe_lst pa_nil))
    (pss_cons (ps_while PassesOwn.never (PW.pt (pw_and (pt_cmpR (op_notInM hr) (pe_ix (ix_lt (K := K)) (pv 3) (pe_un un_neg pe_int) (fun _ _ => rfl)) (pv 2) rfl) (pw_and1 (pt_cmpR (op_neD hr) (pe_ix (ix_lt (K := K)) (pv 1) (pe_ix (ix_lt (K := K)) (pv 3) (pe_un un_neg pe_int) (fun _ _ => rfl)) (fun _ _ => rfl)) (pe_lst pa_nil) (nomark _)))))
      (pss_cons (ps_set (i := 5) nd rfl (Or.inl rfl) (pe_ix (ix_lt (K := K)) (pe_ix (ix_lt (K := K)) (pv 1) (pe_ix (ix_lt (K := K)) (pv 3) (pe_un un_neg pe_int) (fun _ _ => rfl)) (fun _ _ => rfl)) pe_int (fun _ _ => rfl)))
      (pss_one (ps_if (pt_cmpR (op_inK (K := K)) (pv 5) (pv 3) rfl)
        (pss_cons (ps_set (i := 6) nd rfl (Or.inl rfl) (pe_slice (sl_listK (K := K)) (pv 3) (po_some (pe_bm PySem.F.plainAttrs_list PySem.F.slot_list_index PySem.F.type_list_index mt_index (pv 3) (pa_cons (pv 5) pa_nil))) po_none))
        (pss_cons (ps_for PassesOwn.never rfl (pi_listK (K := K) (pv 6)) (pg_name (i := 7) nd rfl (Or.inl rfl))
          (pss_one (ps_asg (pe_slice (sl_listK (K := K)) (pe_ix (ix_lt (K := K)) (pv 1) (pv 7) (fun _ _ => rfl)) (po_some pe_int) po_none) (pg_sub (pv 1) (pv 7) set_list))))
        (pss_cons (ps_set (i := 8) nd rfl (Or.inl rfl) (pe_bm PySem.F.plainAttrs_list PySem.F.slot_list_index PySem.F.type_list_index mt_index (pv 6) (pa_cons (pe_callB (call_minK (K := K) rfl) rfl T.z_min boot_min (pa_cons (pv 6) pa_nil)) pa_nil)))
        (pss_cons (ps_expr (pe_bm PySem.F.plainAttrs_list PySem.F.slot_list_append PySem.F.type_list_append mt_append (pv 4) (pa_cons (pe_op op_cat (pe_slice (sl_listK (K := K)) (pv 6) (po_some (pv 8)) po_none) (pe_slice (sl_listK (K := K)) (pv 6) po_none (po_some (pv 8)))) pa_nil)))
        (pss_one (ps_set (i := 3) nd rfl (Or.inl rfl) (pe_slice (sl_listK (K := K)) (pv 3) po_none (po_some (pe_op op_add (pe_bm PySem.F.plainAttrs_list PySem.F.slot_list_index PySem.F.type_list_index mt_index (pv 3) (pa_cons (pv 5) pa_nil)) pe_int)))))))))
        (pss_one (ps_expr (pe_bm PySem.F.plainAttrs_list PySem.F.slot_list_append PySem.F.type_list_append mt_append (pv 3) (pa_cons (pv 5) pa_nil))))))))
    (pss_one (ps_ret (pe_lst (pa_cons (pv 3) (pa_cons (pv 4) pa_nil))))))), ?_⟩
  have few := ok0.few
  refine ⟨_, rfl, (by show 1 ≤ sizeLine; decide), fun ra0 hra0 => ?_⟩
  have s0 := same_upd hra0 (HO.lst [V.int ((st : Nat) : Int)])
  have er0 : (upd H ra0 (.lst [V.int ((st : Nat) : Int)])) ra0 = some (.lst (natsV [st])) := upd_same
  refine ⟨Nat.zero_le _, fun ga hga1 => ?_⟩
  have hga : H ga = none := s0.free hga1
  have nrg : ra0 ≠ ga := ne_of_none er0 hga1
  have s1 := s0.trans (same_upd hga1 (HO.lst []))
  have ngL : ga ≠ L := Ne.symm (ne_of_none B0.at' hga)
  have h0ga : H0 ga = none := B0.nw.keep.free hga
  refine ⟨fun m σ' H' => ∃ (F : Hp) (zs : List V) (ra : Addr) (road : List Nat) (gx : List V) (rs : List (List Nat)) (p : Piles) (c5 c6 c7 c8 : Option V), σ' = [some (.int ((st : Nat) : Int)), some (.ref L), some (.ref Ed), some (.ref ra), some (.ref ga), c5, c6, c7, c8] ∧ LK H0 F H' L zs p ∧ Same F0 F ∧ (∀ b o, H b = some o → F0 b = none → F b = none) ∧
    H' ra = some (.lst (natsV road)) ∧ H' ga = some (.lst gx) ∧ Reps F gx (rs.map natsD) ∧ F ra = none ∧ F ga = none ∧ H ra = none ∧ ra ≠ L ∧ ra ≠ ga ∧ GoodW (road, rs, p) ∧ (∀ t, WRun early (road, rs, p) t → WRun early ([st], [], p0) t) ∧ m = 9 * sizeN p + (8 - road.length) ∧
    (∀ c o, c ≠ L → H c = some o → H' c = some o) ∧ p.length = p0.length ∧ rs.length + sizeN p ≤ sizeN p0,
    ⟨_, F0, zs0, ra0, [st], [], [], p0, none, none, none, none, rfl, B0.more s1, Same.refl _, (fun _ _ _ f => f), same_upd hga1 _ _ _ er0, upd_same, .nil, B0.nw.bare hra0, B0.nw.bare hga, hra0, Ne.symm (ne_of_none B0.at' hra0), nrg, GoodW.start ok0 hst, fun t z => z, rfl, fun c o _ e => s1 _ _ e, rfl, by rw [List.length_nil]; omega⟩, ?_⟩
  rintro m σ' H' ⟨F, zs, ra, road, gx, rs, p, c5, c6, c7, c8, rfl, B, sF, oF, era, ega, rg, fra, fga, hra, nrL, nrg', good, wr, rfl, kept, pl, fw⟩
  have lastlt := good.bd _ (last_mem good.ne)
  have road8 : road.length ≤ 8 := Nat.le_trans (nodup_bound _ road good.nd good.bd) good.ok.len
  have h0ra : H0 ra = none := B0.nw.keep.free hra
  have eE' := kept _ _ nEL eE
  -- the way out
  have leave : ∀ H1, Same H' H1 → endedW early (road, rs, p) → ∀ t, H1 t = none → Q (.ref t) (upd H1 t (.lst [.ref ra, .ref ga])) := fun H1 k1 en t ht => by
    have B1 := (((B.more k1).see (k1 _ _ era) fra h0ra nrL).see (b := ga) (k1 _ _ ega) (by rw [upd_ne (Ne.symm nrg')]; exact fga) h0ga ngL)
    have ht' : H' t = none := k1.free ht
    have ht0 : H0 t = none := B.nw.keep.free ht'
    have nt : t ≠ L := Ne.symm (ne_of_none B.at' ht')
    have f2 : (upd (upd F ra (.lst (natsV road))) ga (.lst gx)) t = none := B1.nw.bare ht
    have B2 := (B1.more (same_upd ht (.lst [.ref ra, .ref ga]))).see (b := t) upd_same f2 ht0 nt
    have sA : Same F (upd (upd (upd F ra (.lst (natsV road))) ga (.lst gx)) t (.lst [.ref ra, .ref ga])) := (same_upd fra _).trans ((same_upd (by rw [upd_ne (Ne.symm nrg')]; exact fga) _).trans (same_upd f2 _))
    have s2 : Same (upd F ra (.lst (natsV road))) (upd (upd (upd F ra (.lst (natsV road))) ga (.lst gx)) t (.lst [.ref ra, .ref ga])) := (same_upd (by rw [upd_ne (Ne.symm nrg')]; exact fga) _).trans (same_upd f2 _)
    refine q _ zs road rs p (.ref t) _ B2 (.lst upd_same (.cons (nats_rep (s2 _ _ upd_same)) (.cons (.lst (same_upd f2 _ _ _ upd_same) (rg.mono sA)) .nil))) (wr _ (.stop en)) (fun c o n e => ?_) (sF.trans sA) (fun b o e f => ?_) good.ok pl fw road8
    · exact same_upd ht _ _ _ (k1 _ _ (kept c o n e))
    · have hb := oF b o e f
      have b1 : b ≠ ra := ne_of_none e hra
      have b2 : b ≠ ga := ne_of_none e hga
      have b3 : b ≠ t := fun z => by
        by_cases bL : b = L
        · exact nt (z.symm.trans bL)
        · have := k1 _ _ (kept b o bL e)
          rw [z, ht] at this; cases this
      rw [upd_ne b3, upd_ne b2, upd_ne b1]
      exact hb
  refine ⟨_, rfl, _, rfl, .inl ⟨ra, _, -1, _, rfl, rfl, SqL.of era, last_at good.ne, _, rfl, Ed, _, rfl, DGet.k (k := Sum.inl _) eE', _, rfl, ?_⟩⟩
  by_cases ce : lastN road ∈ early
  · rw [(ear (lastN road)).mpr ce]
    exact ⟨_, rfl, _, rfl, (by show 2 ≤ sizeLine; decide), fun t ht => leave H' (Same.refl _) (.inr ce) t ht⟩
  · have e0 : (valV kvs (Sum.inl ((lastN road : Nat) : Int))).isSome = false := by
      cases z : (valV kvs (Sum.inl ((lastN road : Nat) : Int))).isSome with
      | false => rfl
      | true => exact absurd ((ear _).mp z) ce
    rw [e0]
    have zl : zs.length = p.length := by rw [B.rz.length, List.length_map]
    have hzm : zs[lastN road]? = some zs[lastN road] := List.getElem?_eq_getElem (by rw [zl]; exact lastlt)
    obtain ⟨l, bl, hl, hbl, ebl⟩ := reps_at B.rz hzm
    have hatz : atI zs ((lastN road : Nat) : Int) = some (.ref bl) := by rw [← hbl]; exact atI_nat hzm
    have hg : p.getD (lastN road) [] = l := by rw [List.getD_eq_getElem?_getD, hl]; rfl
    refine ⟨_, rfl, _, rfl, _, rfl, .inl ⟨ra, _, -1, _, rfl, rfl, SqL.of era, last_at good.ne, .inl ⟨L, _, _, _, rfl, rfl, SqL.of B.at', hatz, Nat.zero_le _, fun p1 hp1 => ?_⟩⟩⟩
    have k1 := same_upd hp1 (HO.lst [])
    refine ⟨natsD l, natsD [], nats_rep (k1 _ _ (B.nw.sub _ _ ebl)), .lst upd_same .nil, (okTo_nats _).shaped (by decide), (okTo_nats _).shaped (by decide), _, rfl, ?_⟩
    rw [eqv_nats]
    have B1 := B.more k1
    have era1 := k1 _ _ era
    have ega1 := k1 _ _ ega
    have kept1 : ∀ c o, c ≠ L → H c = some o → (upd H' p1 (.lst [])) c = some o := fun c o a e => k1 _ _ (kept c o a e)
    generalize upd H' p1 (HO.lst []) = H1 at k1 B1 era1 ega1 kept1 ⊢
    by_cases cl : l = []
    · rw [decide_eq_true cl]
      exact ⟨_, rfl, _, rfl, (by show 2 ≤ sizeLine; decide), fun t ht => leave H1 k1 (.inl (hg.trans cl)) t ht⟩
    rw [decide_eq_false cl]
    have hne : p.getD (lastN road) [] ≠ [] := by rw [hg]; exact cl
    have en : ¬ endedW early (road, rs, p) := fun z => z.elim hne ce
    obtain ⟨good', less, len'⟩ := good.next en
    have hto : atI (natsV l) 0 = some (.int ((toN (road, rs, p) : Nat) : Int)) := by
      unfold toN
      show atI (natsV l) 0 = some (.int (((p.getD (lastN road) []).headD 0 : Nat) : Int))
      rw [hg]
      cases l with
      | nil => exact absurd rfl cl
      | cons a l => exact atI0 _ _
    refine ⟨fun σ' H' => ∃ (F : Hp) (zs : List V) (ra : Addr) (gx : List V) (c5 c6 c7 c8 : Option V), σ' = [some (.int ((st : Nat) : Int)), some (.ref L), some (.ref Ed), some (.ref ra), some (.ref ga), c5, c6, c7, c8] ∧ LK H0 F H' L zs (nextW (road, rs, p)).2.2 ∧ Same F0 F ∧ (∀ b o, H b = some o → F0 b = none → F b = none) ∧
      H' ra = some (.lst (natsV (nextW (road, rs, p)).1)) ∧ H' ga = some (.lst gx) ∧ Reps F gx ((nextW (road, rs, p)).2.1.map natsD) ∧ F ra = none ∧ F ga = none ∧ H ra = none ∧ ra ≠ L ∧ ra ≠ ga ∧ (∀ c o, c ≠ L → H c = some o → H' c = some o) ∧ (nextW (road, rs, p)).2.1.length + sizeN (nextW (road, rs, p)).2.2 ≤ sizeN p0, ?_, ?_⟩
    · rintro σ2 H2 ⟨F2, zs2, ra2, gx2, d5, d6, d7, d8, e, B2, sF2, oF2, e2, g2, r2, f2, f2', h2, n1, n2, kp2, fw2⟩
      exact ⟨_, less, F2, zs2, ra2, _, gx2, _, _, d5, d6, d7, d8, e, B2, sF2, oF2, e2, g2, r2, f2, f2', h2, n1, n2, good', fun t z => wr t (.go en z), rfl, kp2, len'.trans pl, fw2⟩
    refine ⟨_, rfl, _, rfl, _, rfl, .inl ⟨ra, _, -1, _, rfl, rfl, SqL.of era1, last_at good.ne, .inl ⟨L, _, _, _, rfl, rfl, SqL.of B1.at', hatz, .inl ⟨bl, _, 0, _, rfl, rfl, SqL.of (B1.nw.sub _ _ ebl), hto, ?_⟩⟩⟩⟩
    refine ⟨_, rfl, _, rfl, ra, _, rfl, .inl (SqL.of era1), rfl, flat_nats _, _, rfl, ?_⟩
    show if inV (.int ((toN (road, rs, p) : Nat) : Int)) (natsV road) = true then _ else _
    rw [inV_nats]
    generalize hT : toN (road, rs, p) = to at *
    refine iteD (fun c => ?_) (fun c => ?_)
    · have hi := List.idxOf_lt_length_of_mem c
      have enx : nextW (road, rs, p) = (road.take (road.idxOf to + 1), rs ++ [leastN (road.drop (road.idxOf to))], popN p (road.drop (road.idxOf to))) := by unfold nextW; rw [hT]; exact if_pos c
      rw [enx] at len' less ⊢
      have rsl : rs.length + 1 + sizeN (popN p (road.drop (road.idxOf to))) ≤ rs.length + sizeN p := by
        have : 9 * sizeN (popN p (road.drop (road.idxOf to))) + (8 - (road.take (road.idxOf to + 1)).length) < 9 * sizeN p + (8 - road.length) := less
        rw [List.length_take] at this
        omega
      have castl : (castI road).length ≤ 1000 := by unfold castI; rw [List.length_map]; omega
      refine ⟨_, rfl, _, rfl, .inl ⟨rfl, _, SqL.of era1⟩, _, rfl, ra, castI road, _, rfl, rfl, by rw [← nats_cast]; exact SqL.of era1, castl, mem_cast c, ?_⟩
      rw [idx_cast]
      refine ⟨_, rfl, ra, _, rfl, SqL.of era1, fun q1 h1 => ?_⟩
      rw [cut_dr _ _ (by omega)]
      generalize hring : road.drop (road.idxOf to) = ring at *
      have ringN : ring.Nodup := by rw [← hring]; exact good.nd.sublist (List.drop_sublist _ _)
      have ringB : ∀ x ∈ ring, x < p.length := fun x hx => good.bd x (by rw [← hring] at hx; exact List.mem_of_mem_drop hx)
      have ring8 : ring.length ≤ 8 := by rw [← hring, List.length_drop]; omega
      have ringE : ring ≠ [] := fun z => by
        have := congrArg List.length z
        rw [← hring, List.length_drop, List.length_nil] at this
        omega
      have s2 := same_upd h1 (HO.lst (natsV ring))
      have eq2 : (upd H1 q1 (.lst (natsV ring))) q1 = some (.lst (natsV ring)) := upd_same
      have hq1 : H q1 = none := by
        cases z : H q1 with
        | none => rfl
        | some o =>
          exfalso
          have a : q1 ≠ L := Ne.symm (ne_of_none B1.at' h1)
          have := kept1 q1 o a z
          rw [h1] at this; cases this
      have nqL : q1 ≠ L := Ne.symm (ne_of_none B1.at' h1)
      have nqr : ra ≠ q1 := ne_of_none era1 h1
      have nqg : ga ≠ q1 := ne_of_none ega1 h1
      have B2 := B1.more s2
      have era2 := s2 _ _ era1
      have ega2 := s2 _ _ ega1
      have kept2 : ∀ c o, c ≠ L → H c = some o → (upd H1 q1 (.lst (natsV ring))) c = some o := fun c o a e => s2 _ _ (kept1 c o a e)
      generalize upd H1 q1 (HO.lst (natsV ring)) = H2 at B2 eq2 era2 ega2 kept2 ⊢
      -- place by place
      refine ⟨_, rfl, q1, rfl, ⟨_, SqL.of eq2⟩, for_list (K := K) (xs := natsV ring) (fun j σ' H3 => ∃ (F3 : Hp) (zs3 : List V) (c7 : Option V), σ' = [some (.int ((st : Nat) : Int)), some (.ref L), some (.ref Ed), some (.ref ra), some (.ref ga), some (.int (to : Int)), some (.ref q1), c7, c8] ∧ LK H0 F3 H3 L zs3 (popN p (ring.take j)) ∧ Same F F3 ∧ (∀ b o, H b = some o → F0 b = none → F3 b = none) ∧
        F3 ra = none ∧ F3 ga = none ∧ F3 q1 = none ∧ H3 q1 = some (.lst (natsV ring)) ∧ H3 ra = some (.lst (natsV road)) ∧ H3 ga = some (.lst gx) ∧ ∀ c o, c ≠ L → H c = some o → H3 c = some o) ?_ (fun j σ' H3 _ ⟨_, _, _, _, _, _, _, _, _, _, e, _⟩ => SqL.of e) ?_ ?_⟩
      · refine ⟨F, zs, c7, rfl, ?_, Same.refl _, oF, fra, fga, B1.nw.bare h1, eq2, era2, ega2, kept2⟩
        rw [List.take_zero, show popN p [] = p from by refine List.ext_getElem? fun i => ?_; rw [popN_at]; cases p[i]? <;> simp]
        exact B2
      · rintro j y σ' H3 hy ⟨F3, zs3, c7', rfl, B3, sF3, oF3, f3r, f3g, f3q, eq3, er3, eg3, kp3⟩
        obtain ⟨mm, hm, rfl⟩ := natsV_get hy
        have hmm := List.mem_of_getElem? hm
        have hmg : mm < p.length := ringB mm hmm
        obtain ⟨u, hu⟩ : ∃ u, p[mm]? = some u := ⟨_, List.getElem?_eq_getElem hmg⟩
        have hnt : mm ∉ ring.take j := fun z => by
          obtain ⟨k, hk, ek⟩ := List.mem_iff_getElem.mp z
          rw [List.length_take] at hk
          rw [List.getElem_take] at ek
          have h1 := lt_of_get hm
          rw [List.getElem?_eq_getElem h1] at hm
          have := nodup_inj ringN (by omega) h1 (ek.trans (Option.some.inj hm).symm)
          omega
        obtain ⟨ps, pl'⟩ := pop_snoc hnt hu
        have hz : zs3.length = p.length := by rw [B3.rz.length, List.length_map, popN_len]
        have hzx : zs3[mm]? = some zs3[mm] := List.getElem?_eq_getElem (by omega)
        obtain ⟨l2, c2, hl2, hc2, ec2⟩ := reps_at B3.rz hzx
        have e2 : l2 = u := by rw [pl'] at hl2; exact (Option.some.inj hl2).symm
        subst e2
        have hatz3 : atI zs3 (mm : Int) = some (.ref c2) := by rw [← hc2]; exact atI_nat hzx
        refine ⟨_, rfl, _, rfl, .inl ⟨L, _, _, _, rfl, rfl, SqL.of B3.at', hatz3, _, rfl, c2, _, rfl, SqL.of (B3.nw.sub _ _ ec2), fun d hd => ?_⟩⟩
        rw [cut_one]
        have hdL : L ≠ d := ne_of_none B3.at' hd
        have hdF : F3 d = none := B3.nw.bare hd
        have hd0 : H0 d = none := B3.nw.keep.free hd
        refine ⟨_, rfl, _, rfl, L, zs3, _, mm, rfl, rfl, (by rw [upd_ne hdL]; exact B3.at'), ixN_nat (by omega), ?_⟩
        refine ⟨upd F3 d (.lst (natsV (l2.drop 1))), _, _, rfl, ⟨((B3.nw.lay hd _).see upd_same hdF hd0).write (by rw [upd_ne hdL]; exact B3.no) B3.hn _, upd_same, by rw [upd_ne hdL]; exact B3.no, B3.hn, ?_⟩, sF3.trans (same_upd hdF _), (fun b o e f => ?_), by rw [upd_ne (ne_of_none er3 hd)]; exact f3r, by rw [upd_ne (ne_of_none eg3 hd)]; exact f3g, by rw [upd_ne (ne_of_none eq3 hd)]; exact f3q, ?_, ?_, ?_, fun c o n e => ?_⟩
        · rw [List.take_succ, hm, Option.toList_some, ps, List.map_set]
          exact reps_set mm (B3.rz.mono (same_upd hdF _)) (nats_rep upd_same)
        · have b1 : b ≠ d := fun z => by
            by_cases bL : b = L
            · exact hdL (bL.symm.trans z)
            · have := kp3 b o bL e
              rw [z, hd] at this; cases this
          rw [upd_ne b1]; exact oF3 b o e f
        · rw [upd_ne nqL]; exact same_upd hd _ _ _ eq3
        · rw [upd_ne nrL]; exact same_upd hd _ _ _ er3
        · rw [upd_ne ngL]; exact same_upd hd _ _ _ eg3
        · rw [upd_ne n]; exact same_upd hd _ _ _ (kp3 c o n e)
      · rintro σ' H3 ⟨F3, zs3, c7', rfl, B3, sF3, oF3, f3r, f3g, f3q, eq3, er3, eg3, kp3⟩
        rw [natsV_len, List.take_length] at B3
        have cring : SqL K H3 q1 ((castI ring).map V.int) := by rw [← nats_cast]; exact SqL.of eq3
        have cl3 : (castI ring).length = ring.length := by unfold castI; rw [List.length_map]
        refine ⟨_, rfl, .inl ⟨rfl, _, SqL.of eq3⟩, _, rfl, q1, castI ring, rfl, cring, fun z => ringE (by have := congrArg List.length z; rw [cl3] at this; exact List.eq_nil_of_length_eq_zero this), fun m hm hle => ?_⟩
        refine ⟨q1, castI ring, m, rfl, rfl, cring, by omega, hm, ?_⟩
        rw [min_cast hm hle]
        have hii : ring.idxOf (minN ring) ≤ ring.length := List.idxOf_le_length
        refine ⟨_, rfl, .inl ⟨rfl, _, SqL.of eg3⟩, ?_⟩
        refine ⟨_, rfl, _, rfl, _, rfl, q1, _, rfl, SqL.of eq3, fun q2 h2 => ?_⟩
        rw [cut_dr _ _ hii]
        have s3 := same_upd h2 (HO.lst (natsV (ring.drop (ring.idxOf (minN ring)))))
        refine ⟨_, rfl, _, rfl, _, rfl, q1, _, rfl, SqL.of (s3 _ _ eq3), fun q3 h3 => ?_⟩
        rw [cut_tk _ _ hii]
        have s4 := same_upd h3 (HO.lst (natsV (ring.take (ring.idxOf (minN ring)))))
        refine ⟨q2, q3, _, _, rfl, rfl, s4 _ _ upd_same, upd_same, Nat.le_of_lt (small1000 (by rw [natsV_len, natsV_len, List.length_drop, List.length_take]; omega)), fun q4 h4 => ?_⟩
        rw [← natsV_append]
        have el : ring.drop (ring.idxOf (minN ring)) ++ ring.take (ring.idxOf (minN ring)) = leastN ring := rfl
        rw [el]
        have s5 := same_upd h4 (HO.lst (natsV (leastN ring)))
        have s35 := s3.trans (s4.trans s5)
        have B5 := B3.more s35
        have eg5 := s35 _ _ eg3
        have er5 := s35 _ _ er3
        have eq5 : (upd (upd (upd H3 q2 (.lst (natsV (ring.drop (ring.idxOf (minN ring)))))) q3 (.lst (natsV (ring.take (ring.idxOf (minN ring)))))) q4 (.lst (natsV (leastN ring)))) q4 = some (.lst (natsV (leastN ring))) := upd_same
        have hq4 : H3 q4 = none := s3.free (s4.free h4)
        have f4 : F3 q4 = none := B3.nw.bare hq4
        have n4L : q4 ≠ L := Ne.symm (ne_of_none B3.at' hq4)
        have n4g : ga ≠ q4 := ne_of_none eg3 hq4
        have n4r : ra ≠ q4 := ne_of_none er3 hq4
        have kp5 : ∀ c o, c ≠ L → H c = some o → (upd (upd (upd H3 q2 (.lst (natsV (ring.drop (ring.idxOf (minN ring)))))) q3 (.lst (natsV (ring.take (ring.idxOf (minN ring)))))) q4 (.lst (natsV (leastN ring)))) c = some o := fun c o n e => s35 _ _ (kp3 c o n e)
        generalize upd (upd (upd H3 q2 (HO.lst (natsV (ring.drop (ring.idxOf (minN ring)))))) q3 (HO.lst (natsV (ring.take (ring.idxOf (minN ring)))))) q4 (HO.lst (natsV (leastN ring))) = H5 at B5 eg5 er5 eq5 kp5 ⊢
        have B6 := B5.see eq5 f4 (B3.nw.keep.free hq4) n4L
        have f6g : (upd F3 q4 (.lst (natsV (leastN ring)))) ga = none := by rw [upd_ne n4g]; exact f3g
        have f6r : (upd F3 q4 (.lst (natsV (leastN ring)))) ra = none := by rw [upd_ne n4r]; exact f3r
        have gl : gx.length = rs.length := by rw [rg.length, List.length_map]
        refine ⟨ga, gx, _, rfl, rfl, eg5, small1000 (by omega), ?_⟩
        have B7 := B6.wr f6g h0ga ngL (.lst (gx ++ [.ref q4]))
        have er7 : (upd H5 ga (.lst (gx ++ [.ref q4]))) ra = some (.lst (natsV road)) := by rw [upd_ne nrg']; exact er5
        have eg7 : (upd H5 ga (.lst (gx ++ [.ref q4]))) ga = some (.lst (gx ++ [.ref q4])) := upd_same
        have kp7 : ∀ c o, c ≠ L → H c = some o → (upd H5 ga (.lst (gx ++ [.ref q4]))) c = some o := fun c o n e => by rw [upd_ne (ne_of_none e hga)]; exact kp5 c o n e
        generalize upd H5 ga (HO.lst (gx ++ [V.ref q4])) = H7 at B7 er7 eg7 kp7 ⊢
        refine ⟨_, rfl, _, rfl, .inl ⟨rfl, _, SqL.of er7⟩, _, rfl, ra, castI road, _, rfl, rfl, by rw [← nats_cast]; exact SqL.of er7, castl, mem_cast c, ?_⟩
        rw [idx_cast]
        refine ⟨_, _, rfl, rfl, _, rfl, ra, _, rfl, SqL.of er7, fun q8 h8 => ?_⟩
        rw [show ((road.idxOf to : Nat) : Int) + 1 = ((road.idxOf to + 1 : Nat) : Int) by omega, cut_tk _ _ (by omega)]
        have s8 := same_upd h8 (HO.lst (natsV (road.take (road.idxOf to + 1))))
        have hH8 : H q8 = none := by
          cases z : H q8 with
          | none => rfl
          | some o =>
            exfalso
            have a : q8 ≠ L := Ne.symm (ne_of_none B7.at' h8)
            have := kp7 q8 o a z
            rw [h8] at this; cases this
        refine ⟨_, zs3, q8, gx ++ [.ref q4], _, _, _, _, rfl, B7.more s8, sF.trans (sF3.trans (same_upd f4 _)), (fun b o e f => ?_), upd_same, s8 _ _ eg7, ?_, B7.nw.bare h8, f6g, hH8, Ne.symm (ne_of_none B7.at' h8), Ne.symm (ne_of_none eg7 h8), fun c o n e => s8 _ _ (kp7 c o n e), ?_⟩
        · have b1 : b ≠ q4 := fun z => by
            by_cases bL : b = L
            · exact n4L (z.symm.trans bL)
            · have := kp3 b o bL e
              rw [z, hq4] at this; cases this
          rw [upd_ne b1]; exact oF3 b o e f
        · show Reps _ _ ((rs ++ [leastN ring]).map natsD)
          rw [List.map_append]
          exact (rg.mono (sF3.trans (same_upd f4 _))).snoc (nats_rep upd_same)
        · show (rs ++ [leastN ring]).length + sizeN (popN p ring) ≤ sizeN p0
          rw [List.length_append, List.length_singleton]
          omega
    · have enx : nextW (road, rs, p) = (road ++ [to], rs, p) := by unfold nextW; rw [hT]; exact if_neg c
      rw [enx]
      refine ⟨_, rfl, .inl ⟨rfl, _, SqL.of era1⟩, _, rfl, ra, _, _, rfl, rfl, era1, small1000 (by rw [natsV_len]; omega), ?_⟩
      refine ⟨F, zs, ra, gx, _, _, _, _, rfl, B1.wr fra h0ra nrL _, sF, oF, by rw [upd_same, natsV_append]; rfl, by rw [upd_ne (Ne.symm nrg')]; exact ega1, rg, fra, fga, hra, nrL, nrg', fun c o a e => ?_, fw⟩
      rw [upd_ne (ne_of_none e hra)]
      exact kept1 c o a e
end
end Law

namespace Law
open PySem L2 Ways Ring PyProof.Rows
section
variable {P : Program} {w : World} {K : PySem.W.Frag} {mg : Str → Option Value} {base : Heap}
theorem room_un {k : Nat} {A : Around} (r : Room k A) : A.units + 1 < cLine := by have := r.un; omega
def sp_lists : Sp := fun vs H Q _ => ∃ x y a, vs = [x, y] ∧ Rep H x (ringsD a) ∧ Rep H y (ringsD a) ∧ (∀ t ∈ a, t.length ≤ 900) ∧ ∀ H', Same H H' → Q (.bl true) H'
theorem def__law_lists (T : Txt mg) (D__law_whole : Def P w K mg base "_law_whole" 1 ["_law_found"] sp_whole) (h : Here K mg "_law_lists" s__law_lists ["_law_found", "_law_due"]) : Def P w K mg base "_law_lists" 2 ["_law_found", "_law_due"] sp_lists := h.mk fun f fd F => by
  have nd := sc__law_lists.nd
  refine F.ok sc__law_lists (fun vs H Q E h => ?_) (fun cdv A outer s H vs Q E hr h => ?_)
  · obtain ⟨x, y, a, rfl, _⟩ := h
    rfl
  obtain ⟨x, y, a, rfl, rx, ry, ha, q⟩ := h
  refine ⟨_, pss_cons (ps_if (PW.pt (pw_or (pt_not (pt_val (pe_callB call_isi rfl T.z_isinstance boot_isinstance (pa_cons (pv 0) (pa_cons (pe_bltn rfl T.z_list boot_list (v := .ty "list") rfl) pa_nil))))) (pw_or1 (pt_cmpR (op_neD hr) (pv 0) (pv 1) (nomark _)))))
      (pss_one (ps_ret pe_bl))
      (pss_nil))
    (pss_cons (ps_for PassesOwn.never rfl (pi_listK (K := K) (pv 0)) (pg_name (i := 2) nd rfl (Or.inl rfl))
      (pss_one (ps_if (PW.pt (pw_or (pt_not (pt_val (pe_callB call_isi rfl T.z_isinstance boot_isinstance (pa_cons (pv 2) (pa_cons (pe_bltn rfl T.z_list boot_list (v := .ty "list") rfl) pa_nil))))) (pw_or1 (pt_cmpR op_ne (pe_callB (call_lenK (K := K)) rfl T.z_len PySem.boot_len (pa_cons (pe_comp (N' := ["_law_place"]) (cap := [none]) rfl ⟨rfl, rfl, rfl, rfl, rfl, rfl⟩ (pi_listK (K := K) (pv 2)) (fun _ _ _ _ _ _ => ⟨pg_name (i := 0) (show (["_law_place"] : List Str).Nodup by decide +kernel) rfl (Or.inl rfl) (Or.inr rfl), pifs_one (pt_val (pe_callD D__law_whole hr rfl (pa_cons (pv 0) pa_nil))), pv 0⟩) (keeps_name rfl)) pa_nil)) (pe_callB (call_lenK (K := K)) rfl T.z_len PySem.boot_len (pa_cons (pv 2) pa_nil)) (nomark _)))))
        (pss_one (ps_ret pe_bl))
        (pss_nil))))
    (pss_one (ps_ret pe_bl))), ?_⟩
  obtain ⟨xa, xx, rfl, ex, rxx⟩ := rep_list rx
  refine ⟨_, rfl, _, _, _, rfl, by decide, rep_ty rx, _, rfl, ?_⟩
  refine ⟨_, rfl, _, rfl, ringsD a, ringsD a, rx, ry, (okTo_rings _).shaped (by decide), (okTo_rings _).shaped (by decide), _, rfl, ?_⟩
  rw [eqv_rings, decide_eq_true rfl]
  refine ⟨_, rfl, xa, rfl, ⟨xx, SqL.of ex⟩, for_list (K := K) (xs := xx) (fun i σ' H' => ∃ c2 : Option V, σ' = [some (.ref xa), some y, c2] ∧ Same H H') ⟨none, rfl, Same.refl _⟩ (fun i σ' H' _ ⟨_, _, k⟩ => SqL.of (k _ _ ex)) ?_ ?_⟩
  · rintro i z σ' H' hz ⟨c2, rfl, k⟩
    obtain ⟨t, b, ht, rfl, eb⟩ := reps_at rxx hz
    have eb' := k _ _ eb
    have tl := ha t (List.mem_of_getElem? ht)
    refine ⟨_, rfl, _, _, _, rfl, by decide, rep_ty (nats_rep eb'), _, rfl, ?_⟩
    refine ⟨_, rfl, b, rfl, ⟨_, SqL.of eb'⟩, fun D hD => ?_⟩
    refine comp_list (K := K) (xs := natsV t) (fun j G ys => Same H' G ∧ ys = (natsV t).take j) hD ⟨Same.refl _, rfl⟩ (fun j G ys ⟨k2, _⟩ => SqL.of (k2 _ _ eb')) (fun j y G ys hy hG pq => ?_) (fun G ys hG pq => ?_)
    · obtain ⟨k2, rfl⟩ := pq
      obtain ⟨n, hn, rfl⟩ := natsV_get hy
      refine ⟨_, rfl, _, .int (n : Int), rfl, .int _, _, rfl, _, rfl, ?_⟩
      exact cput (ys := (natsV t).take j) upd_same (by rw [List.length_take, natsV_len]; omega) ⟨same_del k2 hG (Same.refl _), by rw [List.take_succ, hy]; rfl⟩
    · obtain ⟨k2, rfl⟩ := pq
      rw [List.take_length]
      have sG := k2.trans (same_upd hG (HO.lst (natsV t)))
      refine ⟨D, _, rfl, .inl (SqL.of upd_same), _, rfl, b, _, rfl, .inl (SqL.of (sG _ _ eb')), rfl, _, rfl, ?_⟩
      refine iteB (fun c => absurd c (by simp)) (fun _ => ?_)
      exact ⟨_, rfl, k.trans sG⟩
  · rintro σ' H' ⟨c2, rfl, k⟩
    exact q _ k
theorem Ear.put {kvs : List (Key × V)} {early : List Nat} (h : Ear kvs early) (x : Nat) (v : V) : Ear (putK kvs (Sum.inl (x : Int)) v) (early ++ [x]) := fun n => by
  rw [valV_put, List.mem_append, List.mem_singleton]
  by_cases c : n = x
  · subst c; rw [if_pos rfl]; simp
  · rw [if_neg (fun z => c (by have := Sum.inl.inj z; omega))]
    rw [h n]
    simp [c]
theorem putK_len (kvs : List (Key × V)) (k : Key) (v : V) : (putK kvs k v).length ≤ kvs.length + 1 := by
  unfold putK
  split
  · rw [List.length_map]; omega
  · rw [List.length_append, List.length_singleton]; omega
theorem reps_app {F : Hp} : ∀ {xs ys : List V} {ds es : List PyData}, Reps F xs ds → Reps F ys es → Reps F (xs ++ ys) (ds ++ es)
  | _, _, _, _, .nil, s => s
  | _, _, _, _, .cons a t, s => .cons a (reps_app t s)
theorem run_small {early : List Nat} {s t : WS} (h : WRun early s t) : GoodW s → (∀ r ∈ s.2.1, r.length ≤ 900) → ∀ r ∈ t.2.1, r.length ≤ 900 := by
  induction h with
  | stop _ => intro _ h; exact h
  | @go s t en _ ih =>
    intro g h
    refine ih (g.next en).1 ?_
    have l8 : s.1.length ≤ 8 := Nat.le_trans (nodup_bound _ s.1 g.nd g.bd) g.ok.len
    unfold nextW
    split
    · intro r m
      rcases List.mem_append.mp m with z | z
      · exact h r z
      · rw [List.mem_singleton.mp z]
        unfold leastN
        rw [List.length_append, List.length_drop, List.length_take, List.length_drop]
        omega
    · exact h
theorem run_good {early : List Nat} {s t : WS} (h : WRun early s t) : GoodW s → GoodW t ∧ t.2.2.length = s.2.2.length := by
  induction h with
  | stop _ => intro g; exact ⟨g, rfl⟩
  | go en _ ih =>
    intro g
    obtain ⟨a, _, c⟩ := g.next en
    obtain ⟨d, e⟩ := ih a
    exact ⟨d, e.trans c⟩
theorem steps_ok {p0 p : Piles} {ss : List Nat} {roads rings : List (List Nat)} (ok : PilesOk p0) (h : WSteps p0 ss roads rings p) : (∀ s ∈ ss, s < p0.length) → PilesOk p ∧ p.length = p0.length ∧ ∀ t ∈ rings, t.length ≤ 900 := by
  induction h with
  | nil => intro _; exact ⟨ok, rfl, fun t m => nomatch m⟩
  | @snoc ss roads rings rs p p' s road _ w ih =>
    intro hs
    obtain ⟨a, b, c⟩ := ih fun x m => hs x (List.mem_append_left _ m)
    have g := GoodW.start a (s := s) (by rw [b]; exact hs s (by simp))
    obtain ⟨d, e⟩ := run_good w g
    refine ⟨d.ok, e.trans b, fun t m => ?_⟩
    rcases List.mem_append.mp m with z | z
    · exact c t z
    · exact run_small w g (fun _ m => nomatch m) t z
theorem rep_pair {H : Hp} {x : V} {road : List Nat} {rs : List (List Nat)} (r : Rep H x (pairD road rs)) : ∃ a b v, x = .ref a ∧ H a = some (.lst [.ref b, v]) ∧ H b = some (.lst (natsV road)) ∧ Rep H v (ringsD rs) := by
  obtain ⟨a, xs, rfl, e, q⟩ := rep_list r
  cases q with
  | cons r1 q =>
    cases q with
    | cons r2 q =>
      cases q
      obtain ⟨b, rfl, eb⟩ := rep_nats r1
      exact ⟨a, b, _, rfl, e, eb, r2⟩
def sp_right21 : Sp := fun vs H Q _ => ∃ x y sa p as roads rings p', vs = [x, y, .ref sa] ∧ Rep H x (tripD roads rings p') ∧ Rep H y (ringsD p) ∧ H sa = some (.lst (natsV as)) ∧ PilesOk p ∧ as.length ≤ 63 ∧ (∀ s ∈ as, s < p.length) ∧ WSteps p (startsN p.length as) roads rings p' ∧ ∀ H', Same H H' → Q (.bl true) H'
theorem def__law_right (T : Txt mg) (D__law_one : Def P w K mg base "_law_one" 1 ["_law_start", "_law_left", "_law_earlier"] sp_one) (D__law_lists : Def P w K mg base "_law_lists" 2 ["_law_found", "_law_due"] sp_lists)
    (h : Here K mg "_law_right" s__law_right ["_law_found", "_law_piles", "_law_starts"]) : Def P w K mg base "_law_right" 3 ["_law_found", "_law_piles", "_law_starts"] sp_right21 := h.mk fun f fd F => by
  have nd := sc__law_right.nd
  refine F.ok sc__law_right (fun vs H Q E h => ?_) (fun cdv A outer s H vs Q E hr h => ?_)
  · obtain ⟨x, y, sa, p, as, roads, rings, p', rfl, _⟩ := h
    rfl
  obtain ⟨x, y, sa, p, as, roadsF, ringsF, pF, rfl, rx, ry, es, ok, a63, ab, wsF, q⟩ := h
  refine ⟨_, pss_cons (ps_if (PW.pt (pw_or (pt_not (pt_val (pe_callB call_isi rfl T.z_isinstance boot_isinstance (pa_cons (pv 0) (pa_cons (pe_bltn rfl T.z_tuple boot_tuple (v := .ty "tuple") rfl) pa_nil))))) (pw_or1 (pt_cmpR op_ne (pe_callB (call_lenK (K := K)) rfl T.z_len PySem.boot_len (pa_cons (pv 0) pa_nil)) pe_int (nomark _)))))
      (pss_one (ps_ret pe_bl))
      (pss_nil))
    (pss_cons (ps_setC (i := 3) nd rfl rfl (N' := ["_law_pile"]) (cap := [none]) rfl ⟨rfl, rfl, rfl, rfl, rfl, rfl⟩ (pi_listK (K := K) (pv 1)) (fun _ _ _ _ _ _ => ⟨pg_name (i := 0) (show (["_law_pile"] : List Str).Nodup by decide +kernel) rfl (Or.inl rfl) (Or.inr rfl), pifs_nil, pe_callTy (call_listK (K := K)) rfl T.z_list boot_list (pa_cons (pv 0) pa_nil)⟩) (keeps_name rfl))
    (pss_cons (ps_set (i := 4) nd rfl (Or.inl rfl) (pe_lst pa_nil))
    (pss_cons (ps_set (i := 5) nd rfl (Or.inl rfl) (pe_lst pa_nil))
    (pss_cons (ps_set (i := 6) nd rfl (Or.inl rfl) pe_dnewK)
    (pss_cons (ps_for PassesOwn.never rfl (pi_listK (K := K) (pe_op op_cat (pv 2) (pe_comp (N' := ["_law_place", "_law_starts"]) (cap := [none, some 2]) rfl ⟨rfl, rfl, rfl, rfl, rfl, rfl⟩ (pi_range1 rfl T.z_range (pa_cons (pe_callB (call_lenK (K := K)) rfl T.z_len PySem.boot_len (pa_cons (pv 1) pa_nil)) pa_nil)) (fun _ _ _ _ _ _ => ⟨pg_name (i := 0) (show (["_law_place", "_law_starts"] : List Str).Nodup by decide +kernel) rfl (Or.inl rfl) (Or.inr rfl), pifs_one (pt_cmpR (op_notInK (K := K)) (pv 0) (pv 1) rfl), pv 0⟩) (keeps_name rfl)))) (pg_name (i := 7) nd rfl (Or.inl rfl))
      (pss_cons (ps_asg (pe_callD D__law_one hr rfl (pa_cons (pv 7) (pa_cons (pv 3) (pa_cons (pv 6) pa_nil)))) (pg_lstK (K := K) rfl (pgs_cons (pg_name (i := 8) nd rfl (Or.inl rfl)) (pgs_cons (pg_name (i := 9) nd rfl (Or.inl rfl)) pgs_nil))))
      (pss_cons (ps_expr (pe_bm PySem.F.plainAttrs_list PySem.F.slot_list_append PySem.F.type_list_append mt_append (pv 4) (pa_cons (pv 8) pa_nil)))
      (pss_cons (ps_set (i := 5) nd rfl (Or.inl rfl) (pe_op op_cat (pv 5) (pv 9)))
      (pss_one (ps_for PassesOwn.never rfl (pi_listK (K := K) (pv 8)) (pg_name (i := 10) nd rfl (Or.inl rfl))
        (pss_one (ps_asg pe_bl (pg_sub (pv 6) (pv 10) (set_dict (room_un hr)))))))))))
    (pss_one (ps_ret (pe_and (pe_callD D__law_lists hr rfl (pa_cons (pe_ix (ix_lt (K := K)) (pv 0) pe_int (fun _ _ => rfl)) (pa_cons (pv 4) pa_nil))) (pe_and (pe_callD D__law_lists hr rfl (pa_cons (pe_ix (ix_lt (K := K)) (pv 0) pe_int (fun _ _ => rfl)) (pa_cons (pv 5) pa_nil))) (pe_one (pe_callD D__law_lists hr rfl (pa_cons (pe_ix (ix_lt (K := K)) (pv 0) pe_int (fun _ _ => rfl)) (pa_cons (pv 3) pa_nil))))))))))))), ?_⟩
  have len8 := ok.len
  have few := ok.few
  obtain ⟨ft, u1, u2, u3, rfl, et, ru1, ru2, ru3⟩ := rep_trip rx
  refine ⟨_, rfl, _, _, _, rfl, by decide, rep_ty rx, _, rfl, ?_⟩
  refine ⟨_, rfl, ft, _, rfl, .inr (SqT.of et), rfl, _, rfl, ?_⟩
  obtain ⟨ya, yx, rfl, ey, ryx⟩ := rep_list ry
  have yl : yx.length = p.length := by rw [ryx.length, List.length_map]
  -- left
  refine ⟨_, rfl, ya, rfl, ⟨yx, SqL.of ey⟩, fun D hD => ?_⟩
  refine copies ey ryx (by omega) hD (fun x G Q' ⟨b, t, e, eb, q'⟩ => ?_) (fun F0 G ys hG nw0 rs0 => ?_)
  · subst e
    exact ⟨_, rfl, b, _, rfl, .inl (SqL.of eb), q'⟩
  have B0 : LK H F0 (upd G D (.lst ys)) D ys p := ⟨nw0.lay hG _, upd_same, nw0.bare hG, hD, rs0⟩
  generalize upd G D (HO.lst ys) = H1 at B0 ⊢
  clear nw0 rs0 hG
  refine ⟨Nat.zero_le _, fun pR hR => ?_⟩
  have s1 := same_upd hR (HO.lst [])
  have eR : (upd H1 pR (.lst [])) pR = some (.lst []) := upd_same
  have B1 := B0.more s1
  have nRD : pR ≠ D := Ne.symm (ne_of_none B0.at' hR)
  generalize upd H1 pR (HO.lst []) = H2 at B1 eR s1 ⊢
  refine ⟨Nat.zero_le _, fun pG hG => ?_⟩
  have s2 := same_upd hG (HO.lst [])
  have eG : (upd H2 pG (.lst [])) pG = some (.lst []) := upd_same
  have B2 := B1.more s2
  have eR2 := s2 _ _ eR
  have nGD : pG ≠ D := Ne.symm (ne_of_none B1.at' hG)
  have nGR : pG ≠ pR := Ne.symm (ne_of_none eR hG)
  generalize upd H2 pG (HO.lst []) = H3 at B2 eR2 eG s2 ⊢
  refine fun pE hE => ?_
  have s3 := same_upd hE (HO.dK [])
  have eE : (upd H3 pE (.dK [])) pE = some (.dK []) := upd_same
  have B3 := B2.more s3
  have eR3 := s3 _ _ eR2
  have eG3 := s3 _ _ eG
  have nED : pE ≠ D := Ne.symm (ne_of_none B2.at' hE)
  have nER : pE ≠ pR := Ne.symm (ne_of_none eR2 hE)
  have nEG : pE ≠ pG := Ne.symm (ne_of_none eG hE)
  have hRH : H pR = none := B0.nw.keep.free hR
  have hEH : H pE = none := B2.nw.keep.free hE
  generalize upd H3 pE (HO.dK []) = H4 at B3 eR3 eG3 eE s3 ⊢
  -- the starts
  refine ⟨_, rfl, _, rfl, ya, _, rfl, .inl (SqL.of (B3.nw.keep _ _ ey)), _, rfl, by omega, by omega, fun D2 hD2 => ?_⟩
  refine comp_range (lo := 0) (n := ((yx.length : Nat) : Int).toNat) (FlatP H4 fun i => if i ∉ as then some (V.int (i : Int)) else none) hD2 FlatP.zero (fun i G ys hi hG pf => ?_) (fun G ys2 hG2 pf => ?_)
  · rw [Int.zero_add]
    refine ⟨_, rfl, _, rfl, sa, _, rfl, .inl (SqL.of (same_upd hG _ _ _ (pf.1 _ _ (B3.nw.keep _ _ es)))), rfl, flat_nats _, _, rfl, ?_⟩
    show if (!inV (.int (i : Int)) (natsV as)) = true then _ else _
    rw [inV_nats]
    by_cases c : i ∈ as
    · rw [decide_eq_true c]
      exact pf.skip hG (Same.refl _) (if_neg (fun z => z c))
    · rw [decide_eq_false c]
      exact ⟨_, rfl, pf.put hG (Same.refl _) (if_pos c) (by omega)⟩
  have ey2 : ys2 = natsV ((List.range p.length).filter fun x => decide (x ∉ as)) := by
    rw [pf.2, yl, show ((p.length : Nat) : Int).toNat = p.length by omega]
    exact keep_out as _
  subst ey2
  have fl : ((List.range p.length).filter fun x => decide (x ∉ as)).length ≤ 8 := Nat.le_trans (List.length_filter_le _ _) (by rw [List.length_range]; exact len8)
  have s4 := pf.1.trans (same_upd hG2 (HO.lst (natsV ((List.range p.length).filter fun x => decide (x ∉ as)))))
  refine ⟨sa, D2, _, _, rfl, rfl, s4 _ _ (B3.nw.keep _ _ es), upd_same, Nat.le_of_lt (small1000 (by rw [natsV_len, natsV_len]; omega)), fun l hl => ?_⟩
  rw [← natsV_append]
  have eS : as ++ (List.range p.length).filter (fun x => decide (x ∉ as)) = startsN p.length as := rfl
  rw [eS]
  have Sl : (startsN p.length as).length ≤ 71 := by unfold startsN; rw [List.length_append]; omega
  have Sb : ∀ s ∈ startsN p.length as, s < p.length := fun s hs => by
    rcases List.mem_append.mp hs with z | z
    · exact ab s z
    · exact List.mem_range.mp (List.mem_filter.mp z).1
  generalize startsN p.length as = S at Sl Sb wsF ⊢
  have s5 := s4.trans (same_upd hl (HO.lst (natsV S)))
  have el5 : (upd (upd G D2 (.lst (natsV ((List.range p.length).filter fun x => decide (x ∉ as))))) l (.lst (natsV S))) l = some (.lst (natsV S)) := upd_same
  have hl4 : H4 l = none := s4.free hl
  have nlD : l ≠ D := Ne.symm (ne_of_none B3.at' hl4)
  have nlR : l ≠ pR := Ne.symm (ne_of_none eR3 hl4)
  have nlE : l ≠ pE := Ne.symm (ne_of_none eE hl4)
  generalize upd (upd G D2 (HO.lst (natsV ((List.range p.length).filter fun x => decide (x ∉ as))))) l (HO.lst (natsV S)) = H5 at s5 el5 ⊢
  refine ⟨l, rfl, ⟨_, SqL.of el5⟩, for_list (K := K) (xs := natsV S) (fun i σ' H' => ∃ (F : Hp) (zs rx gx : List V) (gA : Addr) (kvs : List (Key × V)) (roads rings : List (List Nat)) (p' : Piles) (c7 c8 c9 c10 : Option V), σ' = [some (.ref ft), some (.ref ya), some (.ref sa), some (.ref D), some (.ref pR), some (.ref gA), some (.ref pE), c7, c8, c9, c10] ∧
    LK H F H' D zs p' ∧ H' pR = some (.lst rx) ∧ Reps F rx (roads.map natsD) ∧ H' gA = some (.lst gx) ∧ Reps F gx (rings.map natsD) ∧ H' pE = some (.dK kvs) ∧ Ear kvs roads.flatten ∧ kvs.length ≤ 8 * i ∧ F pR = none ∧ F pE = none ∧ gA ≠ D ∧ gA ≠ pR ∧ gA ≠ pE ∧
    WSteps p (S.take i) roads rings p' ∧ PilesOk p' ∧ p'.length = p.length ∧ rings.length + sizeN p' ≤ sizeN p ∧ roads.length = i ∧ (∀ t ∈ roads, t.length ≤ 8) ∧ H' l = some (.lst (natsV S)))
    ⟨F0, ys, [], [], pG, [], [], [], p, none, none, none, none, rfl, B3.more s5, s5 _ _ eR3, .nil, s5 _ _ eG3, .nil, s5 _ _ eE, (fun n => by simp [valV]), Nat.le_refl _, B0.nw.bare hR, B2.nw.bare hE, nGD, nGR, Ne.symm nEG, .nil, ok, rfl, by rw [List.length_nil]; omega, rfl, (fun t m => nomatch m), el5⟩ (fun i σ' H' _ ⟨_, _, _, _, _, _, _, _, _, _, _, _, _, _, _, _, _, _, _, _, _, _, _, _, _, _, _, _, _, _, _, _, _, e⟩ => SqL.of e) ?_ ?_⟩
  · rintro i z σ' H' hz ⟨F, zs, rx', gx, gA, kvs, roads, rings, p', c7, c8, c9, c10, rfl, B, eR', rr, eG', gr, eE', ear, kl, fR, fE, nAD, nAR, nAE, ws, ok', pl, fw, rl, r8, el⟩
    obtain ⟨st, hst, rfl⟩ := natsV_get hz
    have hi := lt_of_get hst
    refine ⟨_, rfl, _, rfl, _, rfl, H, F, D, pE, zs, p', kvs, roads.flatten, st, rfl, B, eE', ear, nED, by rw [pl]; exact Sb st (List.mem_of_getElem? hst), ok', fun F' zs' road rs p2 r H6 B6 rp wr kp sF oF ok2 pl2 fw2 rd8 => ?_⟩
    obtain ⟨ra, rb, rv, rfl, ea, eb, rrs⟩ := rep_pair rp
    refine ⟨ra, _, rfl, SqL.of (B6.nw.sub _ _ ea), rfl, _, _, rfl, _, _, rfl, rfl, ?_⟩
    have eR6 := kp _ _ nRD eR'
    have eE6 := kp _ _ nED eE'
    have eG6 := kp _ _ nAD eG'
    have el6 := kp _ _ nlD el
    have fR6 := oF _ _ eR' fR
    have fE6 := oF _ _ eE' fE
    have rxl : rx'.length = roads.length := by rw [rr.length, List.length_map]
    refine ⟨_, rfl, .inl ⟨rfl, _, SqL.of eR6⟩, _, rfl, pR, rx', _, rfl, rfl, eR6, small1000 (by omega), ?_⟩
    have B7 := B6.wr fR6 hRH nRD (.lst (rx' ++ [.ref rb]))
    have eR7 : (upd H6 pR (.lst (rx' ++ [.ref rb]))) pR = some (.lst (rx' ++ [.ref rb])) := upd_same
    have eE7 : (upd H6 pR (.lst (rx' ++ [.ref rb]))) pE = some (.dK kvs) := by rw [upd_ne nER]; exact eE6
    have eG7 : (upd H6 pR (.lst (rx' ++ [.ref rb]))) gA = some (.lst gx) := by rw [upd_ne nAR]; exact eG6
    have el7 : (upd H6 pR (.lst (rx' ++ [.ref rb]))) l = some (.lst (natsV S)) := by rw [upd_ne nlR]; exact el6
    generalize upd H6 pR (HO.lst (rx' ++ [V.ref rb])) = H7 at B7 eR7 eE7 eG7 el7 ⊢
    obtain ⟨va, vx, rfl, ev, rvx⟩ := rep_list rrs
    have gl : gx.length = rings.length := by rw [gr.length, List.length_map]
    have vl : vx.length = rs.length := by rw [rvx.length, List.length_map]
    refine ⟨_, rfl, _, rfl, gA, va, _, _, rfl, rfl, eG7, B7.nw.sub _ _ ev, Nat.le_of_lt (small1000 (by omega)), fun g2 hg2 => ?_⟩
    have s8 := same_upd hg2 (HO.lst (gx ++ vx))
    have B8 := B7.more s8
    have eR8 := s8 _ _ eR7
    have eE8 := s8 _ _ eE7
    have el8 := s8 _ _ el7
    have eG8 : (upd H7 g2 (.lst (gx ++ vx))) g2 = some (.lst (gx ++ vx)) := upd_same
    have ng1 : g2 ≠ D := Ne.symm (ne_of_none B7.at' hg2)
    have ng2 : g2 ≠ pR := Ne.symm (ne_of_none eR7 hg2)
    have ng3 : g2 ≠ pE := Ne.symm (ne_of_none eE7 hg2)
    have erb := B8.nw.sub _ _ eb
    generalize upd H7 g2 (HO.lst (gx ++ vx)) = H8 at B8 eR8 eE8 el8 eG8 erb ⊢
    have nrbE : rb ≠ pE := fun z => by rw [z, fE6] at eb; cases eb
    refine ⟨_, rfl, rb, rfl, ⟨_, SqL.of erb⟩, for_list (K := K) (xs := natsV road) (fun j σ' H9 => ∃ (kvs2 : List (Key × V)) (c10 : Option V), σ' = [some (.ref ft), some (.ref ya), some (.ref sa), some (.ref D), some (.ref pR), some (.ref g2), some (.ref pE), some (.int ((st : Nat) : Int)), some (.ref rb), some (.ref va), c10] ∧
      LK H F' H9 D zs' p2 ∧ H9 pR = some (.lst (rx' ++ [.ref rb])) ∧ H9 g2 = some (.lst (gx ++ vx)) ∧ H9 pE = some (.dK kvs2) ∧ H9 rb = some (.lst (natsV road)) ∧ H9 l = some (.lst (natsV S)) ∧ Ear kvs2 (roads.flatten ++ road.take j) ∧ kvs2.length ≤ 8 * i + j)
      ⟨kvs, c10, rfl, B8, eR8, eG8, eE8, erb, el8, by rw [List.take_zero, List.append_nil]; exact ear, kl⟩ (fun j σ' H9 _ ⟨_, _, _, _, _, _, _, e, _⟩ => SqL.of e) ?_ ?_⟩
    · rintro j y σ' H9 hy ⟨kvs2, c10', rfl, B9, eR9, eG9, eE9, eb9, el9, ear9, kl9⟩
      obtain ⟨m, hm, rfl⟩ := natsV_get hy
      have hj := lt_of_get hm
      refine ⟨_, rfl, _, rfl, pE, _, rfl, .inl ⟨kvs2, Sum.inl (m : Int), eE9, rfl, Nat.lt_of_le_of_lt (by omega : kvs2.length ≤ 100000) (by decide), rfl⟩, ?_⟩
      refine ⟨_, _, rfl, B9.wr fE6 hEH nED _, by rw [upd_ne (Ne.symm nER)]; exact eR9, by rw [upd_ne ng3]; exact eG9, upd_same, by rw [upd_ne nrbE]; exact eb9, by rw [upd_ne nlE]; exact el9, ?_, by have := putK_len kvs2 (Sum.inl (m : Int)) (V.bl true); omega⟩
      rw [List.take_succ, hm, Option.toList_some, ← List.append_assoc]
      exact ear9.put m _
    · rintro σ' H9 ⟨kvs2, c10', rfl, B9, eR9, eG9, eE9, eb9, el9, ear9, kl9⟩
      rw [natsV_len, List.take_length] at ear9
      rw [natsV_len] at kl9
      refine ⟨F', zs', rx' ++ [.ref rb], gx ++ vx, g2, kvs2, roads ++ [road], rings ++ rs, p2, _, _, _, _, rfl, B9, eR9, ?_, eG9, ?_, eE9, ?_, by omega, fR6, fE6, ng1, ng2, ng3, ?_, ok2, pl2.trans pl, by rw [List.length_append]; omega, by rw [List.length_append, List.length_singleton, rl], fun t m => ?_, el9⟩
      · rw [List.map_append]; exact (rr.mono sF).snoc (nats_rep eb)
      · rw [List.map_append]; exact reps_app (gr.mono sF) rvx
      · rw [List.flatten_append, List.flatten_cons, List.flatten_nil, List.append_nil]; exact ear9
      · rw [List.take_succ, hst, Option.toList_some]
        exact .snoc ws wr
      · rcases List.mem_append.mp m with z | z
        · exact r8 t z
        · rw [List.mem_singleton.mp z]; exact rd8
  · rintro σ' H' ⟨F, zs, rx', gx, gA, kvs, roads, rings, p', c7, c8, c9, c10, rfl, B, eR', rr, eG', gr, eE', ear, kl, fR, fE, nAD, nAR, nAE, ws, ok', pl, fw, rl, r8, el⟩
    rw [natsV_len, List.take_length] at ws
    obtain ⟨e1, e2, e3⟩ := WSteps.det _ rfl ws wsF
    subst e1 e2 e3
    have et' := B.nw.keep _ _ et
    have r9 : ∀ t ∈ rings, t.length ≤ 900 := (steps_ok ok ws Sb).2.2
    refine ⟨_, rfl, .inr ⟨ft, _, 0, _, rfl, rfl, SqT.of et', rfl, _, rfl, u1, .ref pR, roads, rfl, ru1.mono B.nw.keep, .lst eR' (rr.mono B.nw.sub), fun t m => Nat.le_trans (r8 t m) (by decide), fun H1 k1 => ⟨true, rfl, ?_⟩⟩⟩
    refine ⟨_, rfl, .inr ⟨ft, _, 1, _, rfl, rfl, SqT.of (k1 _ _ et'), rfl, _, rfl, u2, .ref gA, rings, rfl, ru2.mono (B.nw.keep.trans k1), .lst (k1 _ _ eG') (gr.mono (B.nw.sub.trans k1)), r9, fun H2 k2 => ⟨true, rfl, ?_⟩⟩⟩
    have k12 := k1.trans k2
    refine ⟨_, rfl, .inr ⟨ft, _, 2, _, rfl, rfl, SqT.of (k12 _ _ et'), rfl, _, rfl, u3, .ref D, p', rfl, ru3.mono (B.nw.keep.trans k12), .lst (k12 _ _ B.at') (B.rz.mono (B.nw.sub.trans k12)), fun t m => Nat.le_trans (mem_size m) (Nat.le_trans ok'.few (by decide)), fun H3 k3 => q _ (B.nw.keep.trans (k12.trans k3))⟩⟩
end
end Law

namespace Law
open PySem L2 Ways Ring PyProof.Rows
section
variable {P : Program} {w : World} {K : PySem.W.Frag} {mg : Str → Option Value} {base : Heap}
theorem New.grow2 {H F G F2 H4 : Hp} {D : Addr} {ys : List V} (n : New H F G) (hG : G D = none) (m : New (upd G D (.lst ys)) F2 H4) : New H (both F F2) (del H4 D) ∧ Same F2 (both F F2) := by
  have dis : ∀ b o, F2 b = some o → b ≠ D ∧ G b = none := fun b o e => by
    have := m.fresh b o e
    have hb : b ≠ D := fun z => by rw [z, upd_same] at this; cases this
    rw [upd_ne hb] at this
    exact ⟨hb, this⟩
  refine ⟨⟨same_del n.keep hG m.keep, fun b o e => ?_, fun b o e => ?_⟩, both_right fun b o e => n.sub.free (dis b o e).2⟩
  · rcases both_or e with z | ⟨_, z⟩
    · have hb : b ≠ D := ne_of_none (n.sub _ _ z) hG
      rw [del_ne hb]
      exact m.keep _ _ (by rw [upd_ne hb]; exact n.sub _ _ z)
    · rw [del_ne (dis b o z).1]
      exact m.sub _ _ z
  · rcases both_or e with z | ⟨_, z⟩
    · exact n.fresh _ _ z
    · exact n.keep.free (dis b o z).2
theorem cut_ints (ds : List Int) (a b : Option Int) : ∃ es : List Int, cutV (ds.map V.int) a b = es.map V.int ∧ es.length ≤ ds.length := by
  unfold cutV
  refine ⟨(ds.drop _).take _, by rw [List.map_take, List.map_drop], ?_⟩
  rw [List.length_take, List.length_drop]
  omega
def bothD (p : Piles) (as : List Nat) : PyData := .list [ringsD p, natsD as]
theorem okTo_both (p : Piles) (as : List Nat) : okTo 3 (bothD p as) := okTo.list fun d hd => by
  have hd' : d = ringsD p ∨ d = natsD as := by simpa using hd
  rcases hd' with rfl | rfl
  · exact okTo_rings p
  · exact (okTo_nats as).mono (by decide)
theorem eqv_both (p : Piles) (as : List Nat) : PyData.eqv (bothD p as) (bothD p as) = true := by
  simp only [bothD, PyData.eqv, PyData.eqvAll, eqv_rings, eqv_nats, decide_true, Bool.and_true]
def threeD (a b c : List (List Nat)) : PyData := .list ([a, b, c].map ringsD)
theorem okTo_three (a b c : List (List Nat)) : okTo 3 (threeD a b c) := okTo.list fun d hd => by
  obtain ⟨l, _, rfl⟩ := List.mem_map.mp hd
  exact okTo_rings l
theorem eqv_three (a b c : List (List Nat)) : PyData.eqv (threeD a b c) (threeD a b c) = true := by
  simp only [threeD, List.map_cons, List.map_nil, PyData.eqv, PyData.eqvAll, eqv_rings, decide_true, Bool.and_true]
/-- list(..) of each part of what was told -/
theorem shallow {cap : List (Option Nat)} {σ : L2.St} {Q : VK} {H : Hp} {t D : Addr} {us : List V} {ls : List (List (List Nat))} {te : TE} (et : H t = some (.tup us)) (rs : Reps H us (ls.map ringsD)) (hl : us.length ≤ 900) (hD : H D = none)
    (ht : ∀ x G Q', (∃ b xs, x = .ref b ∧ G b = some (.lst xs) ∧ ∀ c, G c = none → Q' (.ref c) (upd G c (.lst xs))) → te ((capt σ cap).set 0 (some x)) G Q')
    (fin : ∀ G, Same H G → Rep G (.ref D) (.list (ls.map ringsD)) → Q (.ref D) G) : CompAt cap (gName 0) tTrue te σ Q (Itt K t) H D := by
  have ul : us.length = ls.length := by rw [rs.length, List.length_map]
  refine comp_tup (K := K) (xs := us) (fun i G ys => Same H G ∧ Reps G ys ((ls.take i).map ringsD)) hD ⟨Same.refl _, .nil⟩ (fun i G ys p => p.1 _ _ et) (fun i x G ys hx hG p => ?_) (fun G ys hG p => ?_)
  · obtain ⟨k, ry⟩ := p
    obtain ⟨l, hl2, rl⟩ := reps_map rs hx
    obtain ⟨b, xs, rfl, eb, rb⟩ := rep_list rl
    have hi := lt_of_get hl2
    refine ht _ _ _ ⟨b, xs, rfl, same_upd hG _ _ _ (k _ _ eb), fun c hc => ?_⟩
    have hcD : c ≠ D := by rintro rfl; rw [upd_same] at hc; cases hc
    have hcG : G c = none := by rw [upd_ne hcD] at hc; exact hc
    have yl : ys.length ≤ 900 := by rw [ry.length, List.length_map, List.length_take]; omega
    have sG : Same G (del (upd (upd G D (.lst ys)) c (.lst xs)) D) := same_del (Same.refl _) hG (same_upd hc _)
    refine cput (ys := ys) (same_upd hc _ _ _ upd_same) (by omega) ⟨k.trans sG, ?_⟩
    rw [List.take_succ, hl2, Option.toList_some, List.map_append]
    refine (ry.mono sG).snoc (.lst (xs := xs) ?_ (rb.mono (k.trans sG)))
    rw [del_ne hcD]; exact upd_same
  · obtain ⟨k, ry⟩ := p
    rw [ul, List.take_length] at ry
    exact fin _ (k.trans (same_upd hG _)) (.lst upd_same (ry.mono (same_upd hG _)))
/-- the same, one deeper: all new -/
theorem deeper {cap cap2 : List (Option Nat)} {σ : L2.St} {Q : VK} {H : Hp} {t D : Addr} {us : List V} {ls : List (List (List Nat))} {te : TE} (et : H t = some (.tup us)) (rs : Reps H us (ls.map ringsD)) (hl : us.length ≤ 900) (h9 : ∀ l ∈ ls, l.length ≤ 900) (hD : H D = none)
    (ht : ∀ x G Q', (∃ (b : Addr) (xs : List V) (l : List (List Nat)), x = .ref b ∧ G b = some (.lst xs) ∧ Reps G xs (l.map natsD) ∧ l.length ≤ 900 ∧ ∀ F0 G2 D2, New G F0 G2 → Rep F0 (.ref D2) (ringsD l) → Q' (.ref D2) G2) → te ((capt σ cap).set 0 (some x)) G Q')
    (fin : ∀ F G, New H F G → Rep F (.ref D) (.list (ls.map ringsD)) → Q (.ref D) G) : CompAt cap (gName 0) tTrue te σ Q (Itt K t) H D := by
  have ul : us.length = ls.length := by rw [rs.length, List.length_map]
  refine comp_tup (K := K) (xs := us) (fun i G ys => ∃ F, New H F G ∧ Reps F ys ((ls.take i).map ringsD)) hD ⟨_, New.start _, .nil⟩ (fun i G ys ⟨_, n, _⟩ => n.keep _ _ et) (fun i x G ys hx hG p => ?_) (fun G ys hG p => ?_)
  · obtain ⟨F, n, ry⟩ := p
    obtain ⟨l, hl2, rl⟩ := reps_map rs hx
    obtain ⟨b, xs, rfl, eb, rb⟩ := rep_list rl
    have hi := lt_of_get hl2
    have kG := n.keep.trans (same_upd hG (HO.lst ys))
    refine ht _ _ _ ⟨b, xs, l, rfl, kG _ _ eb, rb.mono kG, h9 l (List.mem_of_getElem? hl2), fun F0 G2 D2 n2 r2 => ?_⟩
    have yl : ys.length ≤ 900 := by rw [ry.length, List.length_map, List.length_take]; omega
    obtain ⟨n3, k3⟩ := New.grow2 n hG n2
    refine cput (ys := ys) (n2.keep _ _ upd_same) (by omega) ⟨_, n3, ?_⟩
    rw [List.take_succ, hl2, Option.toList_some, List.map_append]
    exact (ry.mono both_left).snoc (r2.mono k3)
  · obtain ⟨F, n, ry⟩ := p
    rw [ul, List.take_length] at ry
    exact fin _ _ (n.done (o := .lst ys) hG) (.lst upd_same (ry.mono (same_upd (n.bare hG) _)))
theorem steps_roads {p0 p : Piles} {ss : List Nat} {roads rings : List (List Nat)} (h : WSteps p0 ss roads rings p) : roads.length = ss.length := by
  induction h with
  | nil => rfl
  | snoc _ _ ih => rw [List.length_append, List.length_append, ih]; rfl
def spLaw (K : PySem.W.Frag) : Sp := fun vs H Q _ => ∃ (a : Addr) (ns : List Int), vs = [.ref a] ∧ SqL K H a (ns.map V.int) ∧ ns.length ≤ 63 ∧ ∀ H', Q (.bl true) H'
theorem ok_law {f : Addr} {fd : FuncData} (F : Fun K "law" "law" s_law f fd) (T : Txt mg) (D__law_fold : Def P w K mg base "_law_fold" 1 ["_law_script", "_law_number"] (sp_fold K)) (D__law_any : Def P w K mg base "_law_any" 1 ["_law_script", "_law_number"] (sp_any K))
    (D__law_right : Def P w K mg base "_law_right" 3 ["_law_found", "_law_piles", "_law_starts"] sp_right21) (D_walk_out : Def P w K mg base "walk_out" 4 ["piles", "starts"] sp_walk_out) (S_walk_out : DefS P w K mg base "walk_out" 4 ["piles", "starts"] [.none] sp_walk_out) : FnOk P w K mg base CX0 5 f fd ["_law_script"] (spLaw K) := by
  have nd := sc_law.nd
  refine F.ok sc_law (fun vs H Q E h => ?_) (fun cdv A outer s H vs Q E hr h => ?_)
  · obtain ⟨a, ns, rfl, _⟩ := h
    rfl
  obtain ⟨a, ns, rfl, hS, h63, qq⟩ := h
  refine ⟨_, pss_cons (ps_set (i := 1) nd rfl (Or.inl rfl) (pe_callD D__law_fold hr rfl (pa_cons (pv 0) (pa_cons pe_int pa_nil))))
    (pss_cons (ps_set (i := 2) nd rfl (Or.inr rfl) (pe_callD D__law_any hr rfl (pa_cons (pv 0) (pa_cons (pv 1) pa_nil))))
    (pss_cons (ps_setC (i := 3) nd rfl rfl (N' := ["_law_cell", "_law_piles"]) (cap := [none, some 2]) rfl ⟨rfl, rfl, rfl, rfl, rfl, rfl⟩ (pi_listK (K := K) (pe_slice (sl_listK (K := K)) (pv 0) po_none (po_some (pe_draw (pv 1) pe_int)))) (fun _ _ _ _ _ _ => ⟨pg_name (i := 0) (show (["_law_cell", "_law_piles"] : List Str).Nodup by decide +kernel) rfl (Or.inl rfl) (Or.inr rfl), pifs_nil, pe_modA (pe_op op_fdivB (pv 0) pe_int) (pe_callB (call_lenK (K := K)) rfl T.z_len PySem.boot_len (pa_cons (pv 1) pa_nil))⟩) (keeps_name rfl))
    (pss_cons (ps_set (i := 4) nd rfl (Or.inl rfl) (pe_lst (pa_cons (pe_comp (N' := ["_law_pile"]) (cap := [none]) rfl ⟨rfl, rfl, rfl, rfl, rfl, rfl⟩ (pi_listK (K := K) (pv 2)) (fun _ _ _ _ _ _ => ⟨pg_name (i := 0) (show (["_law_pile"] : List Str).Nodup by decide +kernel) rfl (Or.inl rfl) (Or.inr rfl), pifs_nil, pe_callTy (call_listK (K := K)) rfl T.z_list boot_list (pa_cons (pv 0) pa_nil)⟩) (keeps_name rfl)) (pa_cons (pe_callTy (call_listK (K := K)) rfl T.z_list boot_list (pa_cons (pv 3) pa_nil)) pa_nil))))
    (pss_cons (ps_set (i := 5) nd rfl (Or.inl rfl) (pe_callD D_walk_out hr rfl (pa_cons (pe_ix (ix_lt (K := K)) (pv 4) pe_int (fun _ _ => rfl)) (pa_cons (pe_ix (ix_lt (K := K)) (pv 4) pe_int (fun _ _ => rfl)) pa_nil))))
    (pss_cons (ps_if (PW.pt (pw_or (pt_not (pt_val (pe_callD D__law_right hr rfl (pa_cons (pv 5) (pa_cons (pv 2) (pa_cons (pv 3) pa_nil)))))) (pw_or1 (pt_cmpR (op_neD hr) (pv 4) (pe_lst (pa_cons (pv 2) (pa_cons (pv 3) pa_nil))) (nomark _)))))
      (pss_one (ps_ret pe_bl))
      (pss_nil))
    (pss_cons (ps_setC (i := 6) nd rfl rfl (N' := ["_law_parts"]) (cap := [none]) rfl ⟨rfl, rfl, rfl, rfl, rfl, rfl⟩ (pi_tupK (K := K) (pv 5)) (fun _ _ _ _ _ _ => ⟨pg_name (i := 0) (show (["_law_parts"] : List Str).Nodup by decide +kernel) rfl (Or.inl rfl) (Or.inr rfl), pifs_nil, pe_comp (N' := ["_law_part"]) (cap := [none]) rfl ⟨rfl, rfl, rfl, rfl, rfl, rfl⟩ (pi_listK (K := K) (pv 0)) (fun _ _ _ _ _ _ => ⟨pg_name (i := 0) (show (["_law_part"] : List Str).Nodup by decide +kernel) rfl (Or.inl rfl) (Or.inr rfl), pifs_nil, pe_callTy (call_listK (K := K)) rfl T.z_list boot_list (pa_cons (pv 0) pa_nil)⟩) (keeps_name rfl)⟩) (keeps_name rfl))
    (pss_cons (ps_if (PW.pt (pw_or (pt_not (pt_val (pe_callD D__law_right hr rfl (pa_cons (pe_callS (dvs := [.non]) S_walk_out (.cons rfl (.nil)) hr rfl (pa_cons (pe_ix (ix_lt (K := K)) (pv 4) pe_int (fun _ _ => rfl)) pa_nil)) (pa_cons (pv 2) (pa_cons (pe_lst pa_nil) pa_nil)))))) (pw_or1 (pt_cmpR (op_neD hr) (pe_callD D_walk_out hr rfl (pa_cons (pe_ix (ix_lt (K := K)) (pv 4) pe_int (fun _ _ => rfl)) (pa_cons pe_non pa_nil))) (pe_callD D_walk_out hr rfl (pa_cons (pv 2) (pa_cons (pe_lst pa_nil) pa_nil))) (nomark _)))))
      (pss_one (ps_ret pe_bl))
      (pss_nil))
    (pss_cons (ps_for PassesOwn.never rfl (pi_listK (K := K) (pe_ix (ix_lt (K := K)) (pv 4) pe_int (fun _ _ => rfl))) (pg_name (i := 7) nd rfl (Or.inl rfl))
      (pss_one (ps_expr (pe_bm0 PySem.F.plainAttrs_list PySem.F.slot_list_clear PySem.F.type_list_clear mt_clear (pv 7)))))
    (pss_cons (ps_if (pt_cmpR (op_neD hr) (pe_comp (N' := ["_law_parts"]) (cap := [none]) rfl ⟨rfl, rfl, rfl, rfl, rfl, rfl⟩ (pi_tupK (K := K) (pv 5)) (fun _ _ _ _ _ _ => ⟨pg_name (i := 0) (show (["_law_parts"] : List Str).Nodup by decide +kernel) rfl (Or.inl rfl) (Or.inr rfl), pifs_nil, pe_callTy (call_listK (K := K)) rfl T.z_list boot_list (pa_cons (pv 0) pa_nil)⟩) (keeps_name rfl)) (pv 6) (nomark _))
      (pss_one (ps_ret pe_bl))
      (pss_nil))
    (pss_cons (ps_for PassesOwn.never rfl (pi_tupK (K := K) (pv 5)) (pg_name (i := 8) nd rfl (Or.inl rfl))
      (pss_one (ps_expr (pe_bm PySem.F.plainAttrs_list PySem.F.slot_list_append PySem.F.type_list_append mt_append (pv 8) (pa_cons (pe_lst (pa_cons pe_int pa_nil)) pa_nil)))))
    (pss_cons (ps_set (i := 9) nd rfl (Or.inl rfl) (pe_callD D_walk_out hr rfl (pa_cons (pv 2) (pa_cons (pv 3) pa_nil))))
    (pss_one (ps_ret (pe_cmpR (op_eqD hr) (pe_comp (N' := ["_law_parts"]) (cap := [none]) rfl ⟨rfl, rfl, rfl, rfl, rfl, rfl⟩ (pi_tupK (K := K) (pv 9)) (fun _ _ _ _ _ _ => ⟨pg_name (i := 0) (show (["_law_parts"] : List Str).Nodup by decide +kernel) rfl (Or.inl rfl) (Or.inr rfl), pifs_nil, pe_callTy (call_listK (K := K)) rfl T.z_list boot_list (pa_cons (pv 0) pa_nil)⟩) (keeps_name rfl)) (pv 6) (nomark _))))))))))))))), ?_⟩
  refine ⟨_, rfl, a, ns, _, rfl, hS, fun n => ?_⟩
  refine ⟨_, rfl, _, rfl, a, ns, n, rfl, hS, h63, fun p pz F1 H1 ok n1 rp1 => ?_⟩
  have rp := rp1.mono n1.sub
  have len8 := ok.len
  have pos := ok.pos
  obtain ⟨pa, px, rfl, ep, rpx⟩ := rep_list rp
  have pxl : px.length = p.length := by rw [rpx.length, List.length_map]
  have hS1 := n1.keep.seq hS
  -- starts
  refine ⟨_, rfl, _, rfl, _, rfl, _, rfl, (by decide), fun d _ _ => ?_⟩
  refine ⟨_, rfl, a, _, rfl, hS1, fun l hl => ?_⟩
  obtain ⟨es, ees, esl⟩ := cut_ints ns none (some d)
  rw [ees]
  have sl := same_upd hl (HO.lst (es.map V.int))
  have el : (upd H1 l (.lst (es.map V.int))) l = some (.lst (es.map V.int)) := upd_same
  have ep1 := sl _ _ ep
  generalize upd H1 l (HO.lst (es.map V.int)) = H1a at sl el ep1 ⊢
  refine ⟨l, rfl, ⟨_, SqL.of el⟩, fun S hS0 => ?_⟩
  refine comp_list (K := K) (xs := es.map V.int) (fun i G ys => Same H1a G ∧ ∃ as : List Nat, ys = natsV as ∧ as.length = i ∧ ∀ s ∈ as, s < p.length) hS0 ⟨Same.refl _, [], rfl, rfl, fun _ m => nomatch m⟩ (fun i G ys pq => SqL.of (pq.1 _ _ el)) (fun i x G ys hx hG pq => ?_) (fun G ys hG pq => ?_)
  · obtain ⟨k, as, rfl, al, ab⟩ := pq
    have hi := lt_of_get hx
    rw [List.length_map] at hi
    obtain ⟨z, rfl⟩ : ∃ z : Int, x = V.int z := by
      rw [List.getElem?_map] at hx
      obtain ⟨z, _, e⟩ := Option.map_eq_some_iff.mp hx
      exact ⟨z, e.symm⟩
    refine ⟨_, rfl, _, _, rfl, rfl, log_500 (by decide) (by decide) _, _, rfl, _, rfl, pa, _, rfl, .inl (SqL.of (same_upd hG _ _ _ (k _ _ ep1))), _, rfl, by omega, fun u u0 u1 => ?_⟩
    obtain ⟨m, rfl⟩ := Int.eq_ofNat_of_zero_le u0
    refine cput (ys := natsV as) upd_same (by rw [natsV_len]; omega) ⟨same_del k hG (Same.refl _), as ++ [m], by rw [natsV_append]; rfl, by rw [List.length_append, List.length_singleton, al], fun s hs => ?_⟩
    rcases List.mem_append.mp hs with z | z
    · exact ab s z
    · have : s = m := by simpa using z
      omega
  obtain ⟨k2, as, rfl, al, ab⟩ := pq
  rw [List.length_map] at al
  have a63 : as.length ≤ 63 := by omega
  have kS := sl.trans (k2.trans (same_upd hG (HO.lst (natsV as))))
  have eS : (upd G S (.lst (natsV as))) S = some (.lst (natsV as)) := upd_same
  have rp2 := rp.mono kS
  have ep2 := kS _ _ ep
  have rpx2 := rpx.mono kS
  generalize upd G S (HO.lst (natsV as)) = H2 at kS eS rp2 ep2 rpx2 ⊢
  -- handed
  refine ⟨_, rfl, pa, rfl, ⟨px, SqL.of ep2⟩, fun D hD => ?_⟩
  refine copies ep2 rpx2 (by omega) hD (fun x G Q' ⟨b, t, e, eb, q'⟩ => ?_) (fun F0 G2 ys hG2 nw0 rs0 => ?_)
  · subst e
    exact ⟨_, rfl, b, _, rfl, .inl (SqL.of eb), q'⟩
  have nD := nw0.done (o := .lst ys) hG2
  have eD : (upd F0 D (.lst ys)) D = some (.lst ys) := upd_same
  have rys : Reps (upd F0 D (.lst ys)) ys (p.map natsD) := rs0.mono (same_upd (nw0.bare hG2) _)
  generalize upd G2 D (HO.lst ys) = H3 at nD ⊢
  generalize upd F0 D (HO.lst ys) = F3 at nD eD rys
  clear nw0 rs0 hG2
  refine ⟨_, rfl, S, _, rfl, .inl (SqL.of (nD.keep _ _ eS)), fun qa hqa => ⟨(by show 2 ≤ sizeLine; decide), fun hd hhd => ?_⟩⟩
  have s4 := (same_upd hqa (HO.lst (natsV as))).trans (same_upd hhd (HO.lst [V.ref D, .ref qa]))
  have eqa : (upd (upd H3 qa (.lst (natsV as))) hd (.lst [V.ref D, .ref qa])) qa = some (.lst (natsV as)) := same_upd hhd _ _ _ upd_same
  have ehd : (upd (upd H3 qa (.lst (natsV as))) hd (.lst [V.ref D, .ref qa])) hd = some (.lst [V.ref D, .ref qa]) := upd_same
  have n4 := nD.more s4
  generalize upd (upd H3 qa (HO.lst (natsV as))) hd (HO.lst [V.ref D, .ref qa]) = H4 at n4 eqa ehd ⊢
  have rD4 : Rep H4 (.ref D) (ringsD p) := .lst (n4.sub _ _ eD) (rys.mono n4.sub)
  have k24 := n4.keep
  refine ⟨_, rfl, .inl ⟨hd, _, 0, _, rfl, rfl, SqL.of ehd, atI0 _ _, _, rfl, .inl ⟨hd, _, 1, _, rfl, rfl, SqL.of ehd, rfl, ?_⟩⟩⟩
  refine ⟨.ref D, .ref qa, p, some as, rfl, rD4, ok, ⟨qa, rfl, eqa⟩, a63, ab, fun roads rings p' r5 F5 H5 ws ok' pl fw n5 r5r => ?_⟩
  have ws' : WSteps p (startsN p.length as) roads rings p' := ws
  have k25 := k24.trans n5.keep
  refine ⟨_, rfl, _, rfl, _, rfl, r5, .ref pa, S, p, as, roads, rings, p', rfl, r5r.mono n5.sub, rp2.mono k25, k25 _ _ eS, ok, a63, ab, ws', fun H6 k6 => ⟨_, rfl, ?_⟩⟩
  have k26 := k25.trans k6
  have k46 := n5.keep.trans k6
  refine ⟨_, rfl, _, rfl, _, rfl, (by show 2 ≤ sizeLine; decide), fun c7 hc7 => ?_⟩
  have s7 := same_upd hc7 (HO.lst [V.ref pa, .ref S])
  refine ⟨bothD p as, bothD p as, .lst ((k46.trans s7) _ _ ehd) (.cons (rD4.mono (k46.trans s7)) (.cons (nats_rep ((k46.trans s7) _ _ eqa)) .nil)), .lst upd_same (.cons (rp2.mono (k26.trans s7)) (.cons (nats_rep ((k26.trans s7) _ _ eS)) .nil)), (okTo_both _ _).shaped (by decide), (okTo_both _ _).shaped (by decide), _, rfl, ?_⟩
  rw [eqv_both]
  have k67 := k6.trans s7
  generalize upd H6 c7 (HO.lst [V.ref pa, .ref S]) = H7 at k67 ⊢
  clear s7
  have k47 := n5.keep.trans k67
  have k27 := k25.trans k67
  obtain ⟨ft, u1, u2, u3, rfl, et, ru1, ru2, ru3⟩ := rep_trip r5r
  have k57 : Same F5 H7 := n5.sub.trans k67
  have rus5 : Reps F5 [u1, u2, u3] ([roads, rings, p'].map ringsD) := .cons ru1 (.cons ru2 (.cons ru3 .nil))
  have lens : ∀ l ∈ [roads, rings, p'], l.length ≤ 900 := fun l m => by
    have e : l = roads ∨ l = rings ∨ l = p' := by simpa using m
    have sL : (startsN p.length as).length ≤ 71 := by
      unfold startsN
      rw [List.length_append]
      have : ((List.range p.length).filter fun x => decide (x ∉ as)).length ≤ p.length := Nat.le_trans (List.length_filter_le _ _) (by rw [List.length_range]; exact Nat.le_refl _)
      omega
    rcases e with rfl | rfl | rfl
    · have := steps_roads ws'; omega
    · omega
    · omega
  -- held
  refine ⟨_, rfl, ft, rfl, ⟨_, SqT.of (k57 _ _ et)⟩, fun D8 hD8 => ?_⟩
  refine deeper (ls := [roads, rings, p']) (cap2 := []) (k57 _ _ et) (rus5.mono k57) (by show 3 ≤ 900; decide) lens hD8 (fun x G Q' ⟨b, xs, lq, e, eb, rb, hlq, q'⟩ => ?_) (fun F8 H8 n8 r8 => ?_)
  · subst e
    refine ⟨_, rfl, b, rfl, ⟨xs, SqL.of eb⟩, fun D9 hD9 => ?_⟩
    refine copies eb rb hlq hD9 (fun x G Q' ⟨b, t, e, eb, q'⟩ => ?_) (fun F0 G2 ys hG2 nw0 rs0 => ?_)
    · subst e
      exact ⟨_, rfl, b, _, rfl, .inl (SqL.of eb), q'⟩
    · exact q' _ _ _ (nw0.done (o := .lst ys) hG2) (.lst upd_same (rs0.mono (same_upd (nw0.bare hG2) _)))
  have r8' : Rep F8 (.ref D8) (threeD roads rings p') := r8
  have k48 := k47.trans n8.keep
  have k28 := k27.trans n8.keep
  have k58 := k57.trans n8.keep
  -- without starts
  refine ⟨_, rfl, .inl ⟨hd, _, 0, _, rfl, rfl, SqL.of (k48 _ _ ehd), atI0 _ _, ?_⟩⟩
  refine ⟨.ref D, .non, p, none, rfl, rD4.mono k48, ok, rfl, by show 0 ≤ 63; decide, (fun _ m => nomatch m), fun roads9 rings9 p9 r9 F9 H9 ws9 ok9 pl9 fw9 n9 r9r => ?_⟩
  refine ⟨_, rfl, Nat.zero_le _, fun c9 hc9 => ?_⟩
  have s9 := same_upd hc9 (HO.lst [])
  have ec9 : (upd H9 c9 (.lst [])) c9 = some (.lst (natsV [])) := upd_same
  have k29 := k28.trans (n9.keep.trans s9)
  have k49 := k48.trans (n9.keep.trans s9)
  have k89 := n8.sub.trans (n9.keep.trans s9)
  have k59 := k58.trans (n9.keep.trans s9)
  have r9' := r9r.mono (n9.sub.trans s9)
  generalize upd H9 c9 (HO.lst []) = H9a at ec9 k29 k49 k89 k59 r9' ⊢
  refine ⟨r9, .ref pa, c9, p, [], roads9, rings9, p9, rfl, r9', rp2.mono k29, ec9, ok, by decide, (fun _ m => nomatch m), ws9, fun H10 k10 => ⟨_, rfl, ?_⟩⟩
  have k410 := k49.trans k10
  have k210 := k29.trans k10
  refine ⟨_, rfl, .inl ⟨hd, _, 0, _, rfl, rfl, SqL.of (k410 _ _ ehd), atI0 _ _, ?_⟩⟩
  refine ⟨.ref D, .non, p, none, rfl, rD4.mono k410, ok, rfl, by show 0 ≤ 63; decide, (fun _ m => nomatch m), fun roadsA ringsA pA rA FA HA wsA okA plA fwA nA rAr => ?_⟩
  refine ⟨_, rfl, Nat.zero_le _, fun cB hcB => ?_⟩
  have sB := same_upd hcB (HO.lst [])
  refine ⟨.ref pa, .ref cB, p, some [], rfl, rp2.mono (k210.trans (nA.keep.trans sB)), ok, ⟨cB, rfl, upd_same⟩, by show 0 ≤ 63; decide, (fun _ m => nomatch m), fun roadsB ringsB pB rB FB HB wsB okB plB fwB nB rBr => ?_⟩
  obtain ⟨eB1, eB2, eB3⟩ := WSteps.det _ rfl wsB wsA
  subst eB1 eB2 eB3
  refine ⟨_, _, rAr.mono (nA.sub.trans (sB.trans nB.keep)), rBr.mono nB.sub, (okTo_trip _ _ _).shaped (by decide), (okTo_trip _ _ _).shaped (by decide), _, rfl, ?_⟩
  rw [eqv_trip, decide_eq_true ⟨rfl, rfl, rfl⟩]
  have k10B := nA.keep.trans (sB.trans nB.keep)
  have k2B := k210.trans k10B
  have k4B := k410.trans k10B
  have k8B := (k89.trans k10).trans k10B
  have k5B := (k59.trans k10).trans k10B
  -- the handed ones are cleared
  have f5no : ∀ b o, F3 b = some o → F5 b = none := fun b o e => not_new n5 (n4.sub _ _ e)
  have f8no : ∀ b o, F3 b = some o → F8 b = none := fun b o e => not_new n8 (k47 _ _ (n4.sub _ _ e))
  have f85 : ∀ b o, F5 b = some o → F8 b = none := fun b o e => not_new n8 (k57 _ _ e)
  have h2no : ∀ b o, F3 b = some o → H2 b = none := fun b o e => n4.fresh b o e
  have h25 : ∀ b o, F5 b = some o → H2 b = none := fun b o e => k24.free (n5.fresh b o e)
  refine ⟨_, rfl, .inl ⟨hd, _, 0, _, rfl, rfl, SqL.of (k4B _ _ ehd), atI0 _ _, D, rfl, ⟨ys, SqL.of (k4B _ _ (n4.sub _ _ eD))⟩, for_list (K := K) (xs := ys) (fun i σ' H' => ∃ c7 : Option V, σ' = [some (.ref a), some (.int n), some (.ref pa), some (.ref S), some (.ref hd), some (.ref ft), some (.ref D8), c7, none, none] ∧ Same H2 H' ∧ Same F5 H' ∧ Same F8 H' ∧ H' D = some (.lst ys) ∧
    ∀ j b t, i ≤ j → ys[j]? = some (.ref b) → F3 b = some (.lst (natsV t)) → ∃ zs, H' b = some (.lst zs)) ⟨none, rfl, k2B, k5B, k8B, k4B _ _ (n4.sub _ _ eD), fun j b t _ _ e => ⟨_, k4B _ _ (n4.sub _ _ e)⟩⟩ (fun i σ' H' _ ⟨_, _, _, _, _, e, _⟩ => SqL.of e) ?_ ?_⟩⟩
  · rintro i x σ' H' hx ⟨c7, rfl, g2, g5, g8, gD, gl⟩
    obtain ⟨t, b, ht, rfl, eb⟩ := reps_at rys hx
    obtain ⟨zs, ez⟩ := gl i b t (Nat.le_refl _) hx eb
    have hbD : b ≠ D := by
      rintro rfl
      rw [eD] at eb
      have e1 : ys = natsV t := by injection eb with z; injection z
      rw [e1] at hx
      obtain ⟨_, _, z⟩ := natsV_get hx
      cases z
    refine ⟨_, rfl, .inl ⟨rfl, _, SqL.of ez⟩, b, zs, rfl, rfl, ez, _, rfl, fun c u e => ?_, fun c u e => ?_, fun c u e => ?_, ?_, fun j b' t' hj' hx' e' => ?_⟩
    · rw [upd_ne (ne_of_none e (h2no _ _ eb))]; exact g2 c u e
    · rw [upd_ne (ne_of_none e (f5no _ _ eb))]; exact g5 c u e
    · rw [upd_ne (ne_of_none e (f8no _ _ eb))]; exact g8 c u e
    · rw [upd_ne (Ne.symm hbD)]; exact gD
    · by_cases hbb : b' = b
      · subst hbb; exact ⟨_, upd_same⟩
      · rw [upd_ne hbb]; exact gl j b' t' (by omega) hx' e'
  rintro σ' HC ⟨c7, rfl, g2, g5, g8, _, _⟩
  refine ⟨_, rfl, ft, rfl, ⟨_, SqT.of (g5 _ _ et)⟩, fun Dc hDc => ?_⟩
  refine shallow (ls := [roads, rings, p']) (g5 _ _ et) (rus5.mono g5) (by show 3 ≤ 900; decide) hDc (fun x G Q' ⟨b, xs, e, eb, q'⟩ => ?_) (fun HD kD rDc => ?_)
  · subst e
    exact ⟨_, rfl, b, _, rfl, .inl (SqL.of eb), q'⟩
  refine ⟨_, rfl, threeD roads rings p', threeD roads rings p', rDc, r8'.mono (g8.trans kD), (okTo_three _ _ _).shaped (by decide), (okTo_three _ _ _).shaped (by decide), _, rfl, ?_⟩
  rw [eqv_three]
  have g2D := g2.trans kD
  have g5D := g5.trans kD
  have g8D := g8.trans kD
  -- what was told grows
  have part : ∀ {x : V}, x ∈ [u1, u2, u3] → ∃ b xs, x = .ref b ∧ F5 b = some (.lst xs) ∧ xs.length ≤ 900 := fun {x} m => by
    obtain ⟨i, hi, e⟩ := List.mem_iff_getElem.mp m
    obtain ⟨lq, hlq, rlq⟩ := reps_map rus5 (show [u1, u2, u3][i]? = some x by rw [List.getElem?_eq_getElem hi, e])
    obtain ⟨b, xs, rfl, eb, rb⟩ := rep_list rlq
    exact ⟨b, xs, rfl, eb, by rw [rb.length, List.length_map]; exact lens lq (List.mem_of_getElem? hlq)⟩
  refine ⟨_, rfl, ft, rfl, ⟨_, SqT.of (g5D _ _ et)⟩, for_tup (K := K) (xs := [u1, u2, u3]) (fun i σ' H' => ∃ c8 : Option V, σ' = [some (.ref a), some (.int n), some (.ref pa), some (.ref S), some (.ref hd), some (.ref ft), some (.ref D8), c7, c8, none] ∧ Same H2 H' ∧ Same F8 H' ∧ H' ft = some (.tup [u1, u2, u3]) ∧
    ∀ b, V.ref b ∈ [u1, u2, u3] → ∃ zs, H' b = some (.lst zs) ∧ zs.length ≤ 900 + i) ⟨none, rfl, g2D, g8D, g5D _ _ et, fun b m => ?_⟩ (fun i σ' H' _ ⟨_, _, _, _, e, _⟩ => SqT.of e) ?_ ?_⟩
  · obtain ⟨b', xs, e, eb, xl⟩ := part m
    cases e
    exact ⟨xs, g5D _ _ eb, by omega⟩
  · rintro i x σ' H' hx ⟨c8, rfl, w2, w8, wt, wl⟩
    have hm := List.mem_of_getElem? hx
    have hi := lt_of_get hx
    obtain ⟨b, xs, rfl, eb, xl⟩ := part hm
    obtain ⟨zs, ez, zl⟩ := wl b hm
    have hbt : b ≠ ft := fun z => by rw [z, et] at eb; cases eb
    refine ⟨_, rfl, .inl ⟨rfl, _, SqL.of ez⟩, (by show 1 ≤ sizeLine; decide), fun c hc => ?_⟩
    have hcb : b ≠ c := ne_of_none ez hc
    refine ⟨b, zs, _, rfl, rfl, same_upd hc _ _ _ ez, Nat.lt_of_le_of_lt (by have : i < 3 := hi; omega : zs.length ≤ 100000) (by decide), ?_⟩
    refine ⟨_, rfl, fun c' u e => ?_, fun c' u e => ?_, ?_, fun b' m' => ?_⟩
    · rw [upd_ne (ne_of_none e (h25 _ _ eb))]; exact same_upd hc _ _ _ (w2 c' u e)
    · rw [upd_ne (ne_of_none e (f85 _ _ eb))]; exact same_upd hc _ _ _ (w8 c' u e)
    · rw [upd_ne (Ne.symm hbt)]; exact same_upd hc _ _ _ wt
    · by_cases hbb : b' = b
      · subst hbb
        exact ⟨_, upd_same, by rw [List.length_append, List.length_singleton]; omega⟩
      · rw [upd_ne hbb]
        obtain ⟨zs', ez', zl'⟩ := wl b' m'
        exact ⟨zs', same_upd hc _ _ _ ez', by omega⟩
  · rintro σ' HE ⟨c8, rfl, w2, w8, _, _⟩
    refine ⟨_, rfl, _, rfl, .ref pa, .ref S, p, some as, rfl, rp2.mono w2, ok, ⟨S, rfl, w2 _ _ eS⟩, a63, ab, fun roadsF ringsF pF rF FF HF wsF okF plF fwF nF rFr => ?_⟩
    obtain ⟨x1, x2, x3⟩ := WSteps.det _ rfl wsF ws'
    subst x1 x2 x3
    obtain ⟨ft2, v1, v2, v3, rfl, et2, rv1, rv2, rv3⟩ := rep_trip rFr
    have rusF : Reps FF [v1, v2, v3] ([roadsF, ringsF, pF].map ringsD) := .cons rv1 (.cons rv2 (.cons rv3 .nil))
    refine ⟨_, rfl, ft2, rfl, ⟨_, SqT.of (nF.sub _ _ et2)⟩, fun Dg hDg => ?_⟩
    refine shallow (ls := [roadsF, ringsF, pF]) (nF.sub _ _ et2) (rusF.mono nF.sub) (by show 3 ≤ 900; decide) hDg (fun x G Q' ⟨b, xs, e, eb, q'⟩ => ?_) (fun HG kG rG => ?_)
    · subst e
      exact ⟨_, rfl, b, _, rfl, .inl (SqL.of eb), q'⟩
    refine ⟨_, rfl, threeD roadsF ringsF pF, threeD roadsF ringsF pF, rG, r8'.mono (w8.trans (nF.keep.trans kG)), (okTo_three _ _ _).shaped (by decide), (okTo_three _ _ _).shaped (by decide), ?_⟩
    rw [eqv_three]
    exact qq _
end
theorem law_all {P : Program} {w : World} {K : PySem.W.Frag} {mg : Str → Option Value} {base : Heap} {f : Addr} {fd : FuncData} {C : Addr} (T : Txt mg) (W : OwnWalker K mg C)
    (m_init : NHere K C "Walker.__init__" s_Walker___init__ ["self", "piles"]) (m_ends_at : MHere K C "ends_at" "Walker.ends_at" s_Walker_ends_at ["self", "place"]) (m_lose : MHere K C "lose" "Walker.lose" s_Walker_lose ["self", "ring"]) (m_walk_from : MHere K C "walk_from" "Walker.walk_from" s_Walker_walk_from ["self", "start"])
    (h_copied : Here K mg "copied" s_copied ["piles"]) (h_least_first : Here K mg "least_first" s_least_first ["ring"]) (h_without_tops : Here K mg "without_tops" s_without_tops ["piles", "places"]) (h_walk_out : HereD K mg "walk_out" s_walk_out ["piles", "starts"] [.none])
    (h__law_fold : Here K mg "_law_fold" s__law_fold ["_law_script", "_law_number"]) (h__law_next : Here K mg "_law_next" s__law_next ["_law_number"]) (h__law_any : Here K mg "_law_any" s__law_any ["_law_script", "_law_number"]) (h__law_whole : Here K mg "_law_whole" s__law_whole ["_law_found"])
    (h__law_one : Here K mg "_law_one" s__law_one ["_law_start", "_law_left", "_law_earlier"]) (h__law_lists : Here K mg "_law_lists" s__law_lists ["_law_found", "_law_due"]) (h__law_right : Here K mg "_law_right" s__law_right ["_law_found", "_law_piles", "_law_starts"])
    (F : Fun K "law" "law" s_law f fd) : FnOk P w K mg base CX0 5 f fd ["_law_script"] (spLaw K) :=
  have wf := def_Walker_walk_from (P := P) (w := w) (base := base) T W (def_Walker_ends_at T W m_ends_at) (def_Walker_lose T W (def_least_first T h_least_first) (def_without_tops T h_without_tops) m_lose) m_walk_from
  have wo := def_walk_out (P := P) (w := w) (base := base) T W (def_Walker___init__ T W (def_copied T h_copied) m_init) wf h_walk_out
  ok_law F T (def__law_fold T h__law_fold) (def__law_any T h__law_any) (def__law_right T (def__law_one T h__law_one) (def__law_lists T (def__law_whole T h__law_whole) h__law_lists) h__law_right) wo.1 wo.2
theorem all_mk {l : PySem.W.OpenLaw} {w : World} {K : PySem.W.Frag} {h : Heap} {mg : Str → Option Value} {fa f0 f1 f2 f3 f4 f5 f6 f7 f8 f9 f10 f11 : Addr} (X : K.In h) (G : h.Ns mainGlobals mg) (hfa : mg "law" = some (.ref fa))
    {od0 an0 : Option Addr} {sl0 : Array (Option Value)} {oc0 kV0 dc0 pm0 cd0 ct0 : Value}
    (a0 : PySem.W.nsIn K mainGlobals "copied" = some (some (.ref f0))) (l0 : K.lookup f0 = some ⟨oc0, od0, .func (PySem.W.fnOf "copied" "copied" (defArgs s_copied) (defBody s_copied) (defScope s_copied) (.none) kV0 dc0 pm0 an0 cd0 ct0), sl0⟩) (c0 : PySem.W.codeIn K cd0 "copied" = true) (k0 : PySem.W.keepIn K (.ref f0) = true)
    {od1 an1 : Option Addr} {sl1 : Array (Option Value)} {oc1 kV1 dc1 pm1 cd1 ct1 : Value}
    (a1 : PySem.W.nsIn K mainGlobals "least_first" = some (some (.ref f1))) (l1 : K.lookup f1 = some ⟨oc1, od1, .func (PySem.W.fnOf "least_first" "least_first" (defArgs s_least_first) (defBody s_least_first) (defScope s_least_first) (.none) kV1 dc1 pm1 an1 cd1 ct1), sl1⟩) (c1 : PySem.W.codeIn K cd1 "least_first" = true) (k1 : PySem.W.keepIn K (.ref f1) = true)
    {od2 an2 : Option Addr} {sl2 : Array (Option Value)} {oc2 kV2 dc2 pm2 cd2 ct2 : Value}
    (a2 : PySem.W.nsIn K mainGlobals "without_tops" = some (some (.ref f2))) (l2 : K.lookup f2 = some ⟨oc2, od2, .func (PySem.W.fnOf "without_tops" "without_tops" (defArgs s_without_tops) (defBody s_without_tops) (defScope s_without_tops) (.none) kV2 dc2 pm2 an2 cd2 ct2), sl2⟩) (c2 : PySem.W.codeIn K cd2 "without_tops" = true) (k2 : PySem.W.keepIn K (.ref f2) = true)
    {od3 an3 : Option Addr} {sl3 : Array (Option Value)} {oc3 kV3 dc3 pm3 cd3 ct3 : Value}
    {da3 : Addr} {dn3 : Nat} {dsl3 : Array (Option Value)}
    (a3 : PySem.W.nsIn K mainGlobals "walk_out" = some (some (.ref f3))) (l3 : K.lookup f3 = some ⟨oc3, od3, .func (PySem.W.fnOf "walk_out" "walk_out" (defArgs s_walk_out) (defBody s_walk_out) (defScope s_walk_out) (.ref da3) kV3 dc3 pm3 an3 cd3 ct3), sl3⟩) (c3 : PySem.W.codeIn K cd3 "walk_out" = true) (k3 : PySem.W.keepIn K (.ref f3) = true)
    (d3 : K.lookup da3 = some ⟨.type "tuple", none, .seq #[.none] dn3, dsl3⟩)
    {od4 an4 : Option Addr} {sl4 : Array (Option Value)} {oc4 kV4 dc4 pm4 cd4 ct4 : Value}
    (a4 : PySem.W.nsIn K mainGlobals "_law_fold" = some (some (.ref f4))) (l4 : K.lookup f4 = some ⟨oc4, od4, .func (PySem.W.fnOf "_law_fold" "_law_fold" (defArgs s__law_fold) (defBody s__law_fold) (defScope s__law_fold) (.none) kV4 dc4 pm4 an4 cd4 ct4), sl4⟩) (c4 : PySem.W.codeIn K cd4 "_law_fold" = true) (k4 : PySem.W.keepIn K (.ref f4) = true)
    {od5 an5 : Option Addr} {sl5 : Array (Option Value)} {oc5 kV5 dc5 pm5 cd5 ct5 : Value}
    (a5 : PySem.W.nsIn K mainGlobals "_law_next" = some (some (.ref f5))) (l5 : K.lookup f5 = some ⟨oc5, od5, .func (PySem.W.fnOf "_law_next" "_law_next" (defArgs s__law_next) (defBody s__law_next) (defScope s__law_next) (.none) kV5 dc5 pm5 an5 cd5 ct5), sl5⟩) (c5 : PySem.W.codeIn K cd5 "_law_next" = true) (k5 : PySem.W.keepIn K (.ref f5) = true)
    {od6 an6 : Option Addr} {sl6 : Array (Option Value)} {oc6 kV6 dc6 pm6 cd6 ct6 : Value}
    (a6 : PySem.W.nsIn K mainGlobals "_law_any" = some (some (.ref f6))) (l6 : K.lookup f6 = some ⟨oc6, od6, .func (PySem.W.fnOf "_law_any" "_law_any" (defArgs s__law_any) (defBody s__law_any) (defScope s__law_any) (.none) kV6 dc6 pm6 an6 cd6 ct6), sl6⟩) (c6 : PySem.W.codeIn K cd6 "_law_any" = true) (k6 : PySem.W.keepIn K (.ref f6) = true)
    {od7 an7 : Option Addr} {sl7 : Array (Option Value)} {oc7 kV7 dc7 pm7 cd7 ct7 : Value}
    (a7 : PySem.W.nsIn K mainGlobals "_law_whole" = some (some (.ref f7))) (l7 : K.lookup f7 = some ⟨oc7, od7, .func (PySem.W.fnOf "_law_whole" "_law_whole" (defArgs s__law_whole) (defBody s__law_whole) (defScope s__law_whole) (.none) kV7 dc7 pm7 an7 cd7 ct7), sl7⟩) (c7 : PySem.W.codeIn K cd7 "_law_whole" = true) (k7 : PySem.W.keepIn K (.ref f7) = true)
    {od8 an8 : Option Addr} {sl8 : Array (Option Value)} {oc8 kV8 dc8 pm8 cd8 ct8 : Value}
    (a8 : PySem.W.nsIn K mainGlobals "_law_one" = some (some (.ref f8))) (l8 : K.lookup f8 = some ⟨oc8, od8, .func (PySem.W.fnOf "_law_one" "_law_one" (defArgs s__law_one) (defBody s__law_one) (defScope s__law_one) (.none) kV8 dc8 pm8 an8 cd8 ct8), sl8⟩) (c8 : PySem.W.codeIn K cd8 "_law_one" = true) (k8 : PySem.W.keepIn K (.ref f8) = true)
    {od9 an9 : Option Addr} {sl9 : Array (Option Value)} {oc9 kV9 dc9 pm9 cd9 ct9 : Value}
    (a9 : PySem.W.nsIn K mainGlobals "_law_lists" = some (some (.ref f9))) (l9 : K.lookup f9 = some ⟨oc9, od9, .func (PySem.W.fnOf "_law_lists" "_law_lists" (defArgs s__law_lists) (defBody s__law_lists) (defScope s__law_lists) (.none) kV9 dc9 pm9 an9 cd9 ct9), sl9⟩) (c9 : PySem.W.codeIn K cd9 "_law_lists" = true) (k9 : PySem.W.keepIn K (.ref f9) = true)
    {od10 an10 : Option Addr} {sl10 : Array (Option Value)} {oc10 kV10 dc10 pm10 cd10 ct10 : Value}
    (a10 : PySem.W.nsIn K mainGlobals "_law_right" = some (some (.ref f10))) (l10 : K.lookup f10 = some ⟨oc10, od10, .func (PySem.W.fnOf "_law_right" "_law_right" (defArgs s__law_right) (defBody s__law_right) (defScope s__law_right) (.none) kV10 dc10 pm10 an10 cd10 ct10), sl10⟩) (c10 : PySem.W.codeIn K cd10 "_law_right" = true) (k10 : PySem.W.keepIn K (.ref f10) = true)
    {od11 an11 : Option Addr} {sl11 : Array (Option Value)} {oc11 kV11 dc11 pm11 cd11 ct11 : Value}
    (a11 : PySem.W.nsIn K mainGlobals "law" = some (some (.ref f11))) (l11 : K.lookup f11 = some ⟨oc11, od11, .func (PySem.W.fnOf "law" "law" (defArgs s_law) (defBody s_law) (defScope s_law) (.none) kV11 dc11 pm11 an11 cd11 ct11), sl11⟩) (c11 : PySem.W.codeIn K cd11 "law" = true) (k11 : PySem.W.keepIn K (.ref f11) = true)
    {C_Walker : Addr}
    (oa_Walker : PySem.W.nsIn K mainGlobals "Walker" = some (some (.ref C_Walker)))
    (op_Walker : PySem.W.plainGet K C_Walker Str.empty = true)
    (oh_Walker : PySem.W.hasDictIn K C_Walker = true)
    (oo_Walker : PySem.W.plainOver K C_Walker = true)
    (os_Walker : PySem.W.findIn K (.ref C_Walker) "__setattr__" = some (some (.builtin "object.__setattr__")))
    (om_Walker : PySem.W.makesIn K C_Walker = true)
    (ok_Walker : PySem.W.keepIn K (.ref C_Walker) = true)
    (on_rest_Walker : PySem.W.findIn K (.ref C_Walker) "rest" = some none)
    (on_rings_Walker : PySem.W.findIn K (.ref C_Walker) "rings" = some none)
    (on_roads_Walker : PySem.W.findIn K (.ref C_Walker) "roads" = some none)
    {f_Walker___init__ : Addr} {od_Walker___init__ an_Walker___init__ : Option Addr} {sl_Walker___init__ : Array (Option Value)} {oc_Walker___init__ kV_Walker___init__ dc_Walker___init__ pm_Walker___init__ cd_Walker___init__ ct_Walker___init__ : Value}
    (ma_Walker___init__ : PySem.W.findIn K (.ref C_Walker) "__init__" = some (some (.ref f_Walker___init__))) (mi_Walker___init__ : PySem.W.isFn K (.ref f_Walker___init__) = true) (ml_Walker___init__ : K.lookup f_Walker___init__ = some ⟨oc_Walker___init__, od_Walker___init__, .func (PySem.W.fnOf "__init__" "Walker.__init__" (defArgs s_Walker___init__) (defBody s_Walker___init__) (defScope s_Walker___init__) .none kV_Walker___init__ dc_Walker___init__ pm_Walker___init__ an_Walker___init__ cd_Walker___init__ ct_Walker___init__), sl_Walker___init__⟩) (mc_Walker___init__ : PySem.W.codeIn K cd_Walker___init__ "Walker.__init__" = true) (mk_Walker___init__ : PySem.W.keepIn K (.ref f_Walker___init__) = true)
    {f_Walker_ends_at : Addr} {od_Walker_ends_at an_Walker_ends_at : Option Addr} {sl_Walker_ends_at : Array (Option Value)} {oc_Walker_ends_at kV_Walker_ends_at dc_Walker_ends_at pm_Walker_ends_at cd_Walker_ends_at ct_Walker_ends_at : Value}
    (ma_Walker_ends_at : PySem.W.findIn K (.ref C_Walker) "ends_at" = some (some (.ref f_Walker_ends_at))) (mi_Walker_ends_at : PySem.W.isFn K (.ref f_Walker_ends_at) = true) (ml_Walker_ends_at : K.lookup f_Walker_ends_at = some ⟨oc_Walker_ends_at, od_Walker_ends_at, .func (PySem.W.fnOf "ends_at" "Walker.ends_at" (defArgs s_Walker_ends_at) (defBody s_Walker_ends_at) (defScope s_Walker_ends_at) .none kV_Walker_ends_at dc_Walker_ends_at pm_Walker_ends_at an_Walker_ends_at cd_Walker_ends_at ct_Walker_ends_at), sl_Walker_ends_at⟩) (mc_Walker_ends_at : PySem.W.codeIn K cd_Walker_ends_at "Walker.ends_at" = true) (mk_Walker_ends_at : PySem.W.keepIn K (.ref f_Walker_ends_at) = true)
    {f_Walker_lose : Addr} {od_Walker_lose an_Walker_lose : Option Addr} {sl_Walker_lose : Array (Option Value)} {oc_Walker_lose kV_Walker_lose dc_Walker_lose pm_Walker_lose cd_Walker_lose ct_Walker_lose : Value}
    (ma_Walker_lose : PySem.W.findIn K (.ref C_Walker) "lose" = some (some (.ref f_Walker_lose))) (mi_Walker_lose : PySem.W.isFn K (.ref f_Walker_lose) = true) (ml_Walker_lose : K.lookup f_Walker_lose = some ⟨oc_Walker_lose, od_Walker_lose, .func (PySem.W.fnOf "lose" "Walker.lose" (defArgs s_Walker_lose) (defBody s_Walker_lose) (defScope s_Walker_lose) .none kV_Walker_lose dc_Walker_lose pm_Walker_lose an_Walker_lose cd_Walker_lose ct_Walker_lose), sl_Walker_lose⟩) (mc_Walker_lose : PySem.W.codeIn K cd_Walker_lose "Walker.lose" = true) (mk_Walker_lose : PySem.W.keepIn K (.ref f_Walker_lose) = true)
    {f_Walker_walk_from : Addr} {od_Walker_walk_from an_Walker_walk_from : Option Addr} {sl_Walker_walk_from : Array (Option Value)} {oc_Walker_walk_from kV_Walker_walk_from dc_Walker_walk_from pm_Walker_walk_from cd_Walker_walk_from ct_Walker_walk_from : Value}
    (ma_Walker_walk_from : PySem.W.findIn K (.ref C_Walker) "walk_from" = some (some (.ref f_Walker_walk_from))) (mi_Walker_walk_from : PySem.W.isFn K (.ref f_Walker_walk_from) = true) (ml_Walker_walk_from : K.lookup f_Walker_walk_from = some ⟨oc_Walker_walk_from, od_Walker_walk_from, .func (PySem.W.fnOf "walk_from" "Walker.walk_from" (defArgs s_Walker_walk_from) (defBody s_Walker_walk_from) (defScope s_Walker_walk_from) .none kV_Walker_walk_from dc_Walker_walk_from pm_Walker_walk_from an_Walker_walk_from cd_Walker_walk_from ct_Walker_walk_from), sl_Walker_walk_from⟩) (mc_Walker_walk_from : PySem.W.codeIn K cd_Walker_walk_from "Walker.walk_from" = true) (mk_Walker_walk_from : PySem.W.keepIn K (.ref f_Walker_walk_from) = true)
    (z_any : PySem.W.nsIn K mainGlobals "any" = some none)
    (z_bool : PySem.W.nsIn K mainGlobals "bool" = some none)
    (z_enumerate : PySem.W.nsIn K mainGlobals "enumerate" = some none)
    (z_int : PySem.W.nsIn K mainGlobals "int" = some none)
    (z_isinstance : PySem.W.nsIn K mainGlobals "isinstance" = some none)
    (z_len : PySem.W.nsIn K mainGlobals "len" = some none)
    (z_list : PySem.W.nsIn K mainGlobals "list" = some none)
    (z_min : PySem.W.nsIn K mainGlobals "min" = some none)
    (z_range : PySem.W.nsIn K mainGlobals "range" = some none)
    (z_tuple : PySem.W.nsIn K mainGlobals "tuple" = some none)
    : ∃ fd : FuncData, (∀ (s : Shared) (v : Value), BindsTo s fd ⟨[v], []⟩ [("_law_script", v)]) ∧ ∀ base : Heap, K.In base → base.Ns mainGlobals mg → FnOk l.prog w K mg base CX0 5 fa fd ["_law_script"] (spLaw K) := by
  have e := hfa.symm.trans (PySem.W.mg_of X G a11)
  cases e
  have T : Txt mg := ⟨PySem.W.mg_none_of X G z_any, PySem.W.mg_none_of X G z_bool, PySem.W.mg_none_of X G z_enumerate, PySem.W.mg_none_of X G z_int, PySem.W.mg_none_of X G z_isinstance, PySem.W.mg_none_of X G z_len, PySem.W.mg_none_of X G z_list, PySem.W.mg_none_of X G z_min, PySem.W.mg_none_of X G z_range, PySem.W.mg_none_of X G z_tuple⟩
  have F0 := fun_mk (st := s_copied) l0 c0 k0
  have h_copied : Here K mg "copied" s_copied ["piles"] := ⟨_, _, F0, PySem.W.mg_of X G a0, F0.binds (ps := ["piles"]) fun _ _ _ _ _ _ us hl => match us, hl with | [_], _ => rfl⟩
  have F1 := fun_mk (st := s_least_first) l1 c1 k1
  have h_least_first : Here K mg "least_first" s_least_first ["ring"] := ⟨_, _, F1, PySem.W.mg_of X G a1, F1.binds (ps := ["ring"]) fun _ _ _ _ _ _ us hl => match us, hl with | [_], _ => rfl⟩
  have F2 := fun_mk (st := s_without_tops) l2 c2 k2
  have h_without_tops : Here K mg "without_tops" s_without_tops ["piles", "places"] := ⟨_, _, F2, PySem.W.mg_of X G a2, F2.binds (ps := ["piles", "places"]) fun _ _ _ _ _ _ us hl => match us, hl with | [_, _], _ => rfl⟩
  have F3 := funD_mk (st := s_walk_out) (ds := [.none]) l3 d3 c3 k3
  have h_walk_out : HereD K mg "walk_out" s_walk_out ["piles", "starts"] [.none] := ⟨_, _, F3, PySem.W.mg_of X G a3, F3.binds (ps := ["piles", "starts"]) (es := []) 2 rfl (fun _ _ _ _ _ _ _ us hl _ _ _ e1 e2 => match us, hl with | [_, _], _ => .of_defaults rfl e1 e2 rfl rfl), F3.binds (ps := ["piles", "starts"]) (es := [.none]) 1 rfl (fun _ _ _ _ _ _ _ us hl _ _ _ e1 e2 => match us, hl with | [_], _ => .of_defaults rfl e1 e2 rfl rfl)⟩
  have F4 := fun_mk (st := s__law_fold) l4 c4 k4
  have h__law_fold : Here K mg "_law_fold" s__law_fold ["_law_script", "_law_number"] := ⟨_, _, F4, PySem.W.mg_of X G a4, F4.binds (ps := ["_law_script", "_law_number"]) fun _ _ _ _ _ _ us hl => match us, hl with | [_, _], _ => rfl⟩
  have F5 := fun_mk (st := s__law_next) l5 c5 k5
  have h__law_next : Here K mg "_law_next" s__law_next ["_law_number"] := ⟨_, _, F5, PySem.W.mg_of X G a5, F5.binds (ps := ["_law_number"]) fun _ _ _ _ _ _ us hl => match us, hl with | [_], _ => rfl⟩
  have F6 := fun_mk (st := s__law_any) l6 c6 k6
  have h__law_any : Here K mg "_law_any" s__law_any ["_law_script", "_law_number"] := ⟨_, _, F6, PySem.W.mg_of X G a6, F6.binds (ps := ["_law_script", "_law_number"]) fun _ _ _ _ _ _ us hl => match us, hl with | [_, _], _ => rfl⟩
  have F7 := fun_mk (st := s__law_whole) l7 c7 k7
  have h__law_whole : Here K mg "_law_whole" s__law_whole ["_law_found"] := ⟨_, _, F7, PySem.W.mg_of X G a7, F7.binds (ps := ["_law_found"]) fun _ _ _ _ _ _ us hl => match us, hl with | [_], _ => rfl⟩
  have F8 := fun_mk (st := s__law_one) l8 c8 k8
  have h__law_one : Here K mg "_law_one" s__law_one ["_law_start", "_law_left", "_law_earlier"] := ⟨_, _, F8, PySem.W.mg_of X G a8, F8.binds (ps := ["_law_start", "_law_left", "_law_earlier"]) fun _ _ _ _ _ _ us hl => match us, hl with | [_, _, _], _ => rfl⟩
  have F9 := fun_mk (st := s__law_lists) l9 c9 k9
  have h__law_lists : Here K mg "_law_lists" s__law_lists ["_law_found", "_law_due"] := ⟨_, _, F9, PySem.W.mg_of X G a9, F9.binds (ps := ["_law_found", "_law_due"]) fun _ _ _ _ _ _ us hl => match us, hl with | [_, _], _ => rfl⟩
  have F10 := fun_mk (st := s__law_right) l10 c10 k10
  have h__law_right : Here K mg "_law_right" s__law_right ["_law_found", "_law_piles", "_law_starts"] := ⟨_, _, F10, PySem.W.mg_of X G a10, F10.binds (ps := ["_law_found", "_law_piles", "_law_starts"]) fun _ _ _ _ _ _ us hl => match us, hl with | [_, _, _], _ => rfl⟩
  have F11 := fun_mk (st := s_law) l11 c11 k11
  refine ⟨PySem.W.fnOf "law" "law" (defArgs s_law) (defBody s_law) (defScope s_law) .none kV11 dc11 pm11 an11 cd11 ct11, fun s v => .of_eq rfl, fun base _ _ => ?_⟩
  have W_Walker : OwnWalker K mg C_Walker := ⟨⟨op_Walker, oh_Walker, oo_Walker, os_Walker⟩, PySem.W.mg_of X G oa_Walker, on_rest_Walker, on_rings_Walker, on_roads_Walker⟩
  have FM_Walker___init__ := fun_mk (st := s_Walker___init__) ml_Walker___init__ mc_Walker___init__ mk_Walker___init__
  have m_Walker___init__ : NHere K C_Walker "Walker.__init__" s_Walker___init__ ["self", "piles"] := ⟨_, _, FM_Walker___init__, ⟨om_Walker, ma_Walker___init__, mi_Walker___init__, ok_Walker⟩, FM_Walker___init__.binds (ps := ["self", "piles"]) fun _ _ _ _ _ _ us hl => match us, hl with | [_, _], _ => rfl⟩
  have FM_Walker_ends_at := fun_mk (st := s_Walker_ends_at) ml_Walker_ends_at mc_Walker_ends_at mk_Walker_ends_at
  have m_Walker_ends_at : MHere K C_Walker "ends_at" "Walker.ends_at" s_Walker_ends_at ["self", "place"] := ⟨_, _, FM_Walker_ends_at, ⟨ma_Walker_ends_at, mi_Walker_ends_at, mk_Walker_ends_at⟩, FM_Walker_ends_at.binds (ps := ["self", "place"]) fun _ _ _ _ _ _ us hl => match us, hl with | [_, _], _ => rfl⟩
  have FM_Walker_lose := fun_mk (st := s_Walker_lose) ml_Walker_lose mc_Walker_lose mk_Walker_lose
  have m_Walker_lose : MHere K C_Walker "lose" "Walker.lose" s_Walker_lose ["self", "ring"] := ⟨_, _, FM_Walker_lose, ⟨ma_Walker_lose, mi_Walker_lose, mk_Walker_lose⟩, FM_Walker_lose.binds (ps := ["self", "ring"]) fun _ _ _ _ _ _ us hl => match us, hl with | [_, _], _ => rfl⟩
  have FM_Walker_walk_from := fun_mk (st := s_Walker_walk_from) ml_Walker_walk_from mc_Walker_walk_from mk_Walker_walk_from
  have m_Walker_walk_from : MHere K C_Walker "walk_from" "Walker.walk_from" s_Walker_walk_from ["self", "start"] := ⟨_, _, FM_Walker_walk_from, ⟨ma_Walker_walk_from, mi_Walker_walk_from, mk_Walker_walk_from⟩, FM_Walker_walk_from.binds (ps := ["self", "start"]) fun _ _ _ _ _ _ us hl => match us, hl with | [_, _], _ => rfl⟩
  exact law_all T W_Walker m_Walker___init__ m_Walker_ends_at m_Walker_lose m_Walker_walk_from h_copied h_least_first h_without_tops h_walk_out h__law_fold h__law_next h__law_any h__law_whole h__law_one h__law_lists h__law_right F11
theorem walk {l : PySem.W.OpenLaw} {q : Program} {loose : List Str} {XP : (Str → Option Value) → Heap → Prop} {YP : World → Heap → Prop} {d : DefRec} {K : Params → PySem.W.Frag} (hn : l.most = some 63) (hdf : d.params.defaults = [])
    (hY : ∀ (w : World) (h : Heap), YP w h → (K w.params).In h)
    (F : ∀ (w : World) (mg : Str → Option Value) (fa : Addr) (h : Heap), (K w.params).In h → h.Ns mainGlobals mg → mg d.name = some (.ref fa) →
      ∃ fd : FuncData, (∀ (s : Shared) (u : Value), BindsTo s fd ⟨[u], []⟩ [("_law_script", u)]) ∧ ∀ base : Heap, (K w.params).In base → base.Ns mainGlobals mg → FnOk l.prog w (K w.params) mg base CX0 5 fa fd ["_law_script"] (spLaw (K w.params))) :
    PySem.W.WalkO q loose XP YP l.row.toRowW d [] (fun f vs => PySem.call f vs) :=
  L2.walk_of (n := 63) (k := 5) (x := "_law_script") (CX := fun _ => CX0) (sp := fun w => spLaw (K w.params)) hn (by decide) hdf ⟨rfl, by decide, by decide⟩ hY F (fun _ _ a ns hl _ hS => ⟨a, ns, rfl, hS, hl, fun _ => rfl⟩) fun _ _ _ _ _ z => z
end Law
open PySem PySem.W PyProof.Rows
set_option maxRecDepth 100000 in
set_option maxHeartbeats 0 in
theorem PySem.Challenge.cw_ringpop_k21_roads_holds : PySem.Challenge.rw_ringpop_k21_roads.Holds := by
  w_on; o_law; k_head; (case hw => w_witness2)
  k_fill
  refine Law.walk (l := PySem.Challenge.rw_ringpop_k21_roads) rfl rfl (fun w h Y => PySem.W.kIn_of Y) ?F
  case F =>
    intro w mg fa h KX G hmg
    refine' Law.all_mk KX G hmg ?a0 ?l0 ?c0 ?k0 ?a1 ?l1 ?c1 ?k1 ?a2 ?l2 ?c2 ?k2 ?a3 ?l3 ?c3 ?k3 ?d3 ?a4 ?l4 ?c4 ?k4 ?a5 ?l5 ?c5 ?k5 ?a6 ?l6 ?c6 ?k6 ?a7 ?l7 ?c7 ?k7 ?a8 ?l8 ?c8 ?k8 ?a9 ?l9 ?c9 ?k9 ?a10 ?l10 ?c10 ?k10 ?a11 ?l11 ?c11 ?k11 ?oa_Walker ?op_Walker ?oh_Walker ?oo_Walker ?os_Walker ?om_Walker ?ok_Walker ?on_rest_Walker ?on_rings_Walker ?on_roads_Walker ?ma_Walker___init__ ?mi_Walker___init__ ?ml_Walker___init__ ?mc_Walker___init__ ?mk_Walker___init__ ?ma_Walker_ends_at ?mi_Walker_ends_at ?ml_Walker_ends_at ?mc_Walker_ends_at ?mk_Walker_ends_at ?ma_Walker_lose ?mi_Walker_lose ?ml_Walker_lose ?mc_Walker_lose ?mk_Walker_lose ?ma_Walker_walk_from ?mi_Walker_walk_from ?ml_Walker_walk_from ?mc_Walker_walk_from ?mk_Walker_walk_from ?z_any ?z_bool ?z_enumerate ?z_int ?z_isinstance ?z_len ?z_list ?z_min ?z_range ?z_tuple
    (case a0 => k_is); (case l0 => k_is); (case c0 => k_is); (case k0 => k_is)
    (case a1 => k_is); (case l1 => k_is); (case c1 => k_is); (case k1 => k_is)
    (case a2 => k_is); (case l2 => k_is); (case c2 => k_is); (case k2 => k_is)
    (case a3 => k_is); (case l3 => k_is); (case c3 => k_is); (case k3 => k_is); (case d3 => k_is)
    (case a4 => k_is); (case l4 => k_is); (case c4 => k_is); (case k4 => k_is)
    (case a5 => k_is); (case l5 => k_is); (case c5 => k_is); (case k5 => k_is)
    (case a6 => k_is); (case l6 => k_is); (case c6 => k_is); (case k6 => k_is)
    (case a7 => k_is); (case l7 => k_is); (case c7 => k_is); (case k7 => k_is)
    (case a8 => k_is); (case l8 => k_is); (case c8 => k_is); (case k8 => k_is)
    (case a9 => k_is); (case l9 => k_is); (case c9 => k_is); (case k9 => k_is)
    (case a10 => k_is); (case l10 => k_is); (case c10 => k_is); (case k10 => k_is)
    (case a11 => k_is); (case l11 => k_is); (case c11 => k_is); (case k11 => k_is)
    (case oa_Walker => k_is)
    (case op_Walker => k_is)
    (case oh_Walker => k_is)
    (case oo_Walker => k_is)
    (case os_Walker => k_is)
    (case om_Walker => k_is)
    (case ok_Walker => k_is)
    (case on_rest_Walker => k_is)
    (case on_rings_Walker => k_is)
    (case on_roads_Walker => k_is)
    (case ma_Walker___init__ => k_is)
    (case mi_Walker___init__ => k_is)
    (case ml_Walker___init__ => k_is)
    (case mc_Walker___init__ => k_is)
    (case mk_Walker___init__ => k_is)
    (case ma_Walker_ends_at => k_is)
    (case mi_Walker_ends_at => k_is)
    (case ml_Walker_ends_at => k_is)
    (case mc_Walker_ends_at => k_is)
    (case mk_Walker_ends_at => k_is)
    (case ma_Walker_lose => k_is)
    (case mi_Walker_lose => k_is)
    (case ml_Walker_lose => k_is)
    (case mc_Walker_lose => k_is)
    (case mk_Walker_lose => k_is)
    (case ma_Walker_walk_from => k_is)
    (case mi_Walker_walk_from => k_is)
    (case ml_Walker_walk_from => k_is)
    (case mc_Walker_walk_from => k_is)
    (case mk_Walker_walk_from => k_is)
    (case z_any => k_is)
    (case z_bool => k_is)
    (case z_enumerate => k_is)
    (case z_int => k_is)
    (case z_isinstance => k_is)
    (case z_len => k_is)
    (case z_list => k_is)
    (case z_min => k_is)
    (case z_range => k_is)
    (case z_tuple => k_is)

