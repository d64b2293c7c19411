import PyProof.Rows.All
import Wide.All
import OpenK.AllK
import Wide.FinOn
import Lean
import PyProof.EqAt
import PyProof.EqKinds
import PyProof.TupleCall
import PyProof.ExcClass3
import PyProof.ExcInit
import PySem.Challenge.RW_ringpop_k44_left_tree
set_option Elab.async false
set_option linter.all false
set_option maxRecDepth 100000
set_option maxHeartbeats 4000000
/-! THE HAND LAYER, for ints, bools, texts, own classes, LISTS and tuples (index, slices, in, append, pop ..), calls, loops. Paste it whole ahead of your own text; what your proof does not reach may be deleted. -/
namespace L2
open PySem PySem.Spec PyProof.Rows

/-- a key: an int or a str -/
abbrev Key := Sum Int Str
def keyIs : Key → Value → Bool
  | .inl k, v => Value.isInt k v
  | .inr x, v => Value.isStrOf x v
def keyH (w : World) : Key → Int
  | .inl k => hashInt k
  | .inr x => hashStr w x
theorem keyIs_shape : ∀ {k : Key} {v : Value}, keyIs k v = true → (∃ i t, k = Sum.inl i ∧ v = Value.int i t) ∨ (∃ x t, k = Sum.inr x ∧ v = Value.str x t)
  | .inl i, v, h => by
    obtain ⟨t, e⟩ := Value.isInt_shape (k := i) (v := v) h
    exact .inl ⟨i, t, rfl, e⟩
  | .inr x, v, h => by
    obtain ⟨t, e⟩ := Value.isStrOf_shape (x := x) (v := v) h
    exact .inr ⟨x, t, rfl, e⟩
theorem key_ll (a b : Int) : decide ((Sum.inl a : Key) = Sum.inl b) = (a == b) := by
  by_cases e : a = b
  · subst e; simp
  · have h : ¬ (Sum.inl a : Key) = Sum.inl b := fun q => e (Sum.inl.inj q)
    rw [decide_eq_false h]
    exact (beq_eq_false_iff_ne.mpr e).symm
theorem key_rr (a b : Str) : decide ((Sum.inr a : Key) = Sum.inr b) = decide (a = b) := by
  by_cases e : a = b
  · subst e; simp
  · have h : ¬ (Sum.inr a : Key) = Sum.inr b := fun q => e (Sum.inr.inj q)
    rw [decide_eq_false h, decide_eq_false e]
theorem key_lr (a : Int) (b : Str) : decide ((Sum.inl a : Key) = Sum.inr b) = false := decide_eq_false (fun q => nomatch q)
theorem key_rl (a : Str) (b : Int) : decide ((Sum.inr a : Key) = Sum.inl b) = false := decide_eq_false (fun q => nomatch q)

def mixKind (prog : Program) (w : World) : PySem.KeyKind prog w Key where
  is := keyIs
  hash := keyH w
  inj := fun v a b ha hb => by
    rcases keyIs_shape ha with ⟨i, t, rfl, rfl⟩ | ⟨x, t, rfl, rfl⟩
    · rcases keyIs_shape hb with ⟨j, u, rfl, e⟩ | ⟨y, u, rfl, e⟩
      · injection e with e1 _; rw [e1]
      · exact nomatch e
    · rcases keyIs_shape hb with ⟨j, u, rfl, e⟩ | ⟨y, u, rfl, e⟩
      · exact nomatch e
      · injection e with e1 _; rw [e1]
  byValue := fun k v h => by
    rcases keyIs_shape h with ⟨i, t, rfl, rfl⟩ | ⟨x, t, rfl, rfl⟩ <;> rfl
  pyHash := fun hv h => by
    rcases keyIs_shape hv with ⟨i, t, rfl, rfl⟩ | ⟨x, t, rfl, rfl⟩
    · exact wpAny_pyHash_int h
    · exact wpAny_pyHash_str h
  eqBool := fun hu hv h => by
    rcases keyIs_shape hu with ⟨i, t, rfl, rfl⟩ | ⟨x, t, rfl, rfl⟩
    · rcases keyIs_shape hv with ⟨j, u, rfl, rfl⟩ | ⟨y, u, rfl, rfl⟩
      · rw [key_ll] at h; exact wpAny_eqBool_int h
      · rw [key_lr] at h; exact SeqAt.EqAt.int_str i t y u _ _ _ _ h
    · rcases keyIs_shape hv with ⟨j, u, rfl, rfl⟩ | ⟨y, u, rfl, rfl⟩
      · rw [key_rl] at h; exact SeqAt.EqAt.str_int x t j u _ _ _ _ h
      · rw [key_rr] at h; exact wpAny_eqBool_str h
  «strs» := fun k x t v h => by
    rcases keyIs_shape h with ⟨i, u, rfl, e⟩ | ⟨y, u, rfl, e⟩
    · exact nomatch e
    · injection e with e1 _
      subst e1
      cases v <;> rfl

end L2

namespace L2
open PySem PySem.Spec PyProof.Rows

/-- a value, without the heap -/
inductive V where
  | non | bl (b : Bool) | int (i : Int) | str (x : Str) | byt (b : Array UInt8) | flt (b : UInt64) | ref (a : Addr) | ty (n : String)
  deriving DecidableEq

def RelV : V → Value → Prop
  | .non, u => u = Value.none
  | .bl b, u => u = Value.bool b
  | .int i, u => ∃ t, u = Value.int i t
  | .str x, u => ∃ t, u = Value.str x t
  | .byt b, u => ∃ t, u = Value.bytes b t
  | .flt b, u => ∃ t, u = Value.float b t
  | .ref a, u => u = Value.ref a
  | .ty n, u => u = Value.type n

abbrev Vals : List V → List Value → Prop := Paired RelV
theorem Vals.length {xs : List V} {us : List Value} (r : Vals xs us) : xs.length = us.length := Paired.length r
theorem Vals.get : ∀ {xs : List V} {us : List Value} {i : Nat} {x : V}, Vals xs us → xs[i]? = some x → ∃ u, us[i]? = some u ∧ RelV x u
  | _, _, _, _, .nil, e => by simp at e
  | _, _, 0, _, .cons r _, e => by simp at e; subst e; exact ⟨_, rfl, r⟩
  | _, _, i + 1, x, .cons _ t, e => by
    obtain ⟨u, h1, h2⟩ := Vals.get (i := i) (x := x) t (by simpa using e)
    exact ⟨u, by simpa using h1, h2⟩
theorem Vals.set {x : V} {u : Value} (r : RelV x u) : ∀ {xs : List V} {us : List Value} (i : Nat), Vals xs us → Vals (xs.set i x) (us.set i u)
  | _, _, _, .nil => .nil
  | _, _, 0, .cons _ t => .cons r t
  | _, _, i + 1, .cons q t => .cons q (Vals.set r i t)
theorem Vals.append : ∀ {xs ys : List V} {us ws : List Value}, Vals xs us → Vals ys ws → Vals (xs ++ ys) (us ++ ws)
  | _, _, _, _, .nil, s => s
  | _, _, _, _, .cons r t, s => .cons r (Vals.append t s)
theorem Vals.take : ∀ {xs : List V} {us : List Value} (n : Nat), Vals xs us → Vals (xs.take n) (us.take n)
  | _, _, 0, _ => .nil
  | _, _, _ + 1, .nil => .nil
  | _, _, n + 1, .cons r t => .cons r (Vals.take n t)
theorem Vals.drop : ∀ {xs : List V} {us : List Value} (n : Nat), Vals xs us → Vals (xs.drop n) (us.drop n)
  | _, _, 0, r => r
  | _, _, _ + 1, .nil => .nil
  | _, _, n + 1, .cons _ t => Vals.drop n t
theorem Vals.none_of : ∀ {xs : List V} {us : List Value} {i : Nat}, Vals xs us → xs[i]? = none → us[i]? = none := fun {xs us i} r e => by
  have h1 := r.length
  have h2 : xs.length ≤ i := List.getElem?_eq_none_iff.mp e
  exact List.getElem?_eq_none_iff.mpr (by omega)

def RelO : Option V → Option Value → Prop
  | some v, some u => RelV v u
  | none, none => True
  | _, _ => False
def KV {κ : Type} : List (κ × V) → List (κ × Value) → Prop := Paired fun (p : κ × V) (q : κ × Value) => p.1 = q.1 ∧ RelV p.2 q.2

/-- a key of a dict (00_mix): an int or a text -/
def kV : Key → V
  | .inl i => .int i
  | .inr x => .str x

/-- what stands at a tracked address -/
inductive HO where
  /-- a list -/
  | lst (xs : List V)
  /-- a tuple (never changes) -/
  | tup (xs : List V)
  /-- a dict whose keys are ints and texts; one whose keys are tuples of ints and texts (the empty one is both) -/
  | dK (kvs : List (Key × V)) | dT (kvs : List (List Key × V))
  /-- a set of ints: its members, its size -/
  | set (S : Int → Bool) (n : Nat)
  /-- an instance of the class at C, its dict at dx, its attributes -/
  | ins (C dx : Addr) (fs : List (Str × V))
  /-- the dict of the instance at x -/
  | own (x : Addr)
  /-- the dict of an exception -/
  | xd (fs : List (Str × V))
  /-- a bound method, f of x -/
  | met (f x : Addr)
  /-- a range object lo, lo + 1, .. below hi -/
  | rng (lo hi : Int)
  /-- a thing that is known to the object (the script; a dict while a loop walks it): read, never written while it is so -/
  | frz (o : Obj) (u : HO)
  /-- a code object's table -/
  | tbl (ps : Array Value)
  /-- any other thing, by what is true of its one object (a def of one's own: SetO a S n := HO.ext fun h => ..) -/
  | ext (φ : Heap → Prop)

abbrev Hp := Addr → Option HO
def upd (H : Hp) (a : Addr) (o : HO) : Hp := fun b => if b = a then some o else H b
theorem upd_same {H : Hp} {a : Addr} {o : HO} : upd H a o a = some o := by unfold upd; rw [if_pos rfl]
theorem upd_ne {H : Hp} {a b : Addr} {o : HO} (h : b ≠ a) : upd H a o b = H b := by unfold upd; rw [if_neg h]
theorem ne_of_none {H : Hp} {a b : Addr} {o : HO} (h : H a = some o) (h' : H b = none) : a ≠ b := by
  intro e; subst e; rw [h] at h'; cases h'

section
variable (P : Program) (w : World)
def ObjOk (H : Hp) (h : Heap) (a : Addr) : HO → Prop
  | .lst xs => xs.length ≤ sizeLine ∧ ∃ (its : List Value) (n : Nat), Vals xs its ∧ h.get? a = some { cls := .type "list", data := .seq its.toArray n }
  | .tup xs => xs.length ≤ sizeLine ∧ ∃ its : List Value, Vals xs its ∧ IsTup h a its.toArray
  | .dK kvs => kvs.length ≤ sizeLine ∧ (a == sysModules) = false ∧ ∃ vs, KV kvs vs ∧ h.DictOf (mixKind P w) a vs
  | .dT kvs => kvs.length ≤ sizeLine ∧ (a == sysModules) = false ∧ ∃ xs : List (List Key × Addr × Value),
      Paired (fun (p : List Key × V) (q : List Key × Addr × Value) => p.1 = q.1 ∧ H q.2.1 = some (.tup (p.1.map kV)) ∧ RelV p.2 q.2.2) kvs xs ∧
      ∃ o es ep, h.get? a = some o ∧ o.ExactDict ∧ o.data = .dict es ep ∧ es.toList = xs.map (entryOfKey (tupleKind (mixKind P w))) ∧ (xs.map (·.1)).Nodup
  | .set S n => h.SetOf (intKind P w) a S n
  | .ins C dx fs => H dx = some (.own a) ∧ fs.length ≤ 1000 ∧ dx ≠ a ∧ h.get? a = some (PySem.W.instObj C dx) ∧
      ∃ mA, h.Ns1 dx mA ∧ (∀ f, RelO (fs.lookup f) (mA f)) ∧ PySem.Within mA (fs.map (·.1))
  | .own _ => ∃ o, h.get? a = some o
  | .xd fs => ∃ mA, h.Ns1 a mA ∧ ∀ f, RelO (fs.lookup f) (mA f)
  | .rng lo hi => ∃ t u v, h.get? a = some { cls := .type "range", data := .fields #[.int lo t, .int hi u, .int 1 v] }
  | .frz o u => h.get? a = some o ∧ ObjOk H h a u
  | .tbl ps => h.get? a = some { cls := .none, data := .fields ps }
  | .met f x => h.get? a = some (PySem.W.methodObj (.ref f) (.ref x))
  | .ext φ => φ h ∧ (∃ o, h.get? a = some o) ∧ ∀ h1 h2 : Heap, φ h1 → (∀ o, h1.get? a = some o → h2.get? a = some o) → φ h2
/-- the abstract heap is held -/
def HOk (H : Hp) (h : Heap) : Prop := ∀ a o, H a = some o → ObjOk P w H h a o
end

section
variable {P : Program} {w : World} {H H' : Hp} {h h' : Heap} {a : Addr} {o : HO}
theorem ObjOk.lt (x : ObjOk P w H h a o) : a < h.objs.size := by
  cases o with
  | lst xs => obtain ⟨_, _, _, _, e⟩ := x; exact Heap.lt_size e
  | tup xs => obtain ⟨_, _, _, p⟩ := x; exact p.lt
  | dK kvs => obtain ⟨_, _, _, _, o, _, _, e, _⟩ := x; exact Heap.lt_size e
  | dT kvs => obtain ⟨_, _, _, _, o, _, _, e, _⟩ := x; exact Heap.lt_size e
  | set S n => obtain ⟨o, _, _, _, e, _⟩ := x; exact Heap.lt_size e
  | ins C dx fs => obtain ⟨_, _, _, e, _⟩ := x; exact Heap.lt_size e
  | own y => obtain ⟨_, e⟩ := x; exact Heap.lt_size e
  | xd fs => obtain ⟨_, ⟨_, _, _, e, _⟩, _⟩ := x; exact Heap.lt_size e
  | rng lo hi => obtain ⟨_, _, _, e⟩ := x; exact Heap.lt_size e
  | frz ob u => obtain ⟨e, _⟩ := x; exact Heap.lt_size e
  | tbl ps => exact Heap.lt_size (show h.get? a = some _ from x)
  | met f y => exact Heap.lt_size (show h.get? a = some _ from x)
  | ext φ => obtain ⟨_, ⟨_, e⟩, _⟩ := x; exact Heap.lt_size e
theorem Paired.mapP {α β : Type} {F G : α → β → Prop} : ∀ {l₁ : List α} {l₂ : List β}, Paired F l₁ l₂ → (∀ a b, F a b → G a b) → Paired G l₁ l₂
  | _, _, .nil, _ => .nil
  | _, _, .cons r t, f => .cons (f _ _ r) (Paired.mapP t f)
/-- what an object's description leans on: its own object, its own dict, the tuples -/
theorem ObjOk.stay (x : ObjOk P w H h a o) (k : ∀ b u, (b = a ∨ H b = some (.own a)) → h.get? b = some u → h'.get? b = some u)
    (ho : ∀ b, H b = some (.own a) → H' b = some (.own a)) (ht : ∀ b xs, H b = some (.tup xs) → H' b = some (.tup xs)) : ObjOk P w H' h' a o := by
  induction o with
  | lst xs => obtain ⟨z, its, n, r, e⟩ := x; exact ⟨z, its, n, r, k _ _ (.inl rfl) e⟩
  | tup xs => obtain ⟨z, its, r, ob, e, c⟩ := x; exact ⟨z, its, r, ob, k _ _ (.inl rfl) e, c⟩
  | dK kvs => obtain ⟨z, y, vs, r, ob, es, ep, e, c⟩ := x; exact ⟨z, y, vs, r, ob, es, ep, k _ _ (.inl rfl) e, c⟩
  | dT kvs =>
    obtain ⟨z, y, xs, r, ob, es, ep, e, c⟩ := x
    exact ⟨z, y, xs, Paired.mapP r fun p q z => ⟨z.1, ht _ _ z.2.1, z.2.2⟩, ob, es, ep, k _ _ (.inl rfl) e, c⟩
  | set S n => obtain ⟨ob, es, ep, t, e, c⟩ := x; exact ⟨ob, es, ep, t, k _ _ (.inl rfl) e, c⟩
  | ins C dx fs =>
    obtain ⟨d, z, ne, e, mA, ⟨od, es, ep, e2, c⟩, r⟩ := x
    exact ⟨ho _ d, z, ne, k _ _ (.inl rfl) e, mA, ⟨od, es, ep, k _ _ (.inr d) e2, c⟩, r⟩
  | own y => obtain ⟨ob, e⟩ := x; exact ⟨ob, k _ _ (.inl rfl) e⟩
  | xd fs => obtain ⟨mA, ⟨od, es, ep, e, c⟩, r⟩ := x; exact ⟨mA, ⟨od, es, ep, k _ _ (.inl rfl) e, c⟩, r⟩
  | rng lo hi => obtain ⟨t, u, v, e⟩ := x; exact ⟨t, u, v, k _ _ (.inl rfl) e⟩
  | frz ob u ih => obtain ⟨e, q⟩ := x; exact ⟨k _ _ (.inl rfl) e, ih q⟩
  | tbl ps =>
    have e : h.get? a = some { cls := .none, data := .fields ps } := x
    show h'.get? a = some { cls := .none, data := .fields ps }
    exact k a _ (.inl rfl) e
  | met f y =>
    have e : h.get? a = some (PySem.W.methodObj (.ref f) (.ref y)) := x
    show h'.get? a = some (PySem.W.methodObj (.ref f) (.ref y))
    exact k a _ (.inl rfl) e
  | ext φ => obtain ⟨p, ⟨o, e⟩, st⟩ := x; exact ⟨st _ _ p fun o q => k _ _ (.inl rfl) q, ⟨o, k _ _ (.inl rfl) e⟩, st⟩
theorem HOk.lt (x : HOk P w H h) (e : H a = some o) : a < h.objs.size := (x a o e).lt
theorem HOk.fresh (x : HOk P w H h) (e : h.objs.size ≤ a) : H a = none := by
  cases q : H a with
  | none => rfl
  | some u => exact absurd (Nat.lt_of_lt_of_le (x.lt q) e) (Nat.lt_irrefl _)
/-- every object of the heap is kept -/
theorem HOk.kept (x : HOk P w H h) (k : ∀ b u, h.get? b = some u → h'.get? b = some u) : HOk P w H h' := fun a o e =>
  (x a o e).stay (fun b u _ q => k b u q) (fun _ q => q) fun _ _ q => q
/-- a new object is laid and tracked -/
theorem HOk.laid (x : HOk P w H h) (k : ∀ b u, h.get? b = some u → h'.get? b = some u) (hp : h.objs.size ≤ a) (new : ObjOk P w (upd H a o) h' a o) : HOk P w (upd H a o) h' := fun b u e => by
  have hn := x.fresh hp
  by_cases hb : b = a
  · subst hb; rw [upd_same] at e; cases e; exact new
  · rw [upd_ne hb] at e
    exact (x b u e).stay (fun c v _ q => k c v q) (fun c q => by rw [upd_ne (ne_of_none q hn)]; exact q) fun c xs q => by rw [upd_ne (ne_of_none q hn)]; exact q
end

/-- what may be read as u: it is u, or a known u -/
def Rd (H : Hp) (a : Addr) (u : HO) : Prop := H a = some u ∨ ∃ o, H a = some (.frz o u)
theorem Rd.of {H : Hp} {a : Addr} {u : HO} (h : H a = some u) : Rd H a u := .inl h
theorem Rd.ok {P : Program} {w : World} {H : Hp} {h : Heap} {a : Addr} {u : HO} (r : Rd H a u) (x : HOk P w H h) : ObjOk P w H h a u := by
  rcases r with r | ⟨o, r⟩
  · exact x a u r
  · obtain ⟨_, q⟩ := x a _ r
    exact q
/-- what may be written -/
def Mut : Option HO → Prop
  | some (.lst _) => True
  | some (.dK _) => True
  | some (.dT _) => True
  | some (.set _ _) => True
  | some (.ins _ _ _) => True
  | some (.ext _) => True
  | _ => False
section
variable {P : Program} {w : World} {H : Hp} {h h' : Heap} {x e : Addr} {o' : HO}
/-- the object at e is changed: x itself, or the dict of the instance x -/
theorem HOk.write (ok : HOk P w H h) (mu : Mut (H x)) (he : e = x ∨ H e = some (.own x)) (k : ∀ b u, b ≠ e → h.get? b = some u → h'.get? b = some u) (heo : ∃ u, h'.get? e = some u)
    (new : ObjOk P w (upd H x o') h' x o') : HOk P w (upd H x o') h' := fun b u q => by
  have nown : ∀ c y, H c = some (.own y) → c ≠ x := fun c y r z => by subst z; rw [r] at mu; exact mu
  have ntup : ∀ c xs, H c = some (.tup xs) → c ≠ x := fun c xs r z => by subst z; rw [r] at mu; exact mu
  by_cases hb : b = x
  · subst hb; rw [upd_same] at q; cases q; exact new
  · rw [upd_ne hb] at q
    by_cases hbe : b = e
    · have q' : H b = some (.own x) := by
        rcases he with z | z
        · exact absurd (hbe.trans z) hb
        · rw [hbe]; exact z
      rw [q] at q'; cases q'
      obtain ⟨v, hv⟩ := heo
      exact ⟨v, by rw [hbe]; exact hv⟩
    · refine (ok b u q).stay (fun c v hc r => k c v ?_ r) (fun c r => by rw [upd_ne (nown c b r)]; exact r) fun c xs r => by rw [upd_ne (ntup c xs r)]; exact r
      rcases hc with rfl | hc
      · exact hbe
      · rintro rfl
        rcases he with z | z
        · exact nown c b hc z
        · rw [hc] at z; cases z; exact hb rfl
end

/-! ### kept unless tracked; of the frames at fs (the callers') the slots may change (an exception that passes writes there); of the records at ex (iterators) nothing is said -/
structure Un (fs ex : List Addr) (H H' : Hp) (h h' : Heap) : Prop where
  keep : ∀ b o, h.get? b = some o → H b = none → b ∉ fs → b ∉ ex → h'.get? b = some o
  slot : ∀ b o, h.get? b = some o → H b = none → b ∈ fs → b ∉ ex → ∃ sl, h'.get? b = some { o with slots := sl }
  free : ∀ b o, h.get? b = some o → H b = none → b ∉ ex → H' b = none
  there : ∀ b o, h.get? b = some o → b ∉ ex → ∃ o', h'.get? b = some o'
  tups : ∀ b xs, H b = some (.tup xs) → H' b = some (.tup xs)
  frzs : ∀ b o u, H b = some (.frz o u) → H' b = some (.frz o u)
  tbls : ∀ b ps, H b = some (.tbl ps) → ∃ more, H' b = some (.tbl (ps ++ more))
section
variable {fs fs' ex ex' : List Addr} {H H1 H2 : Hp} {h h1 h2 h' : Heap} {a x e : Addr} {o : HO}
theorem Un.any (u : Un fs ex H H1 h h1) {b : Addr} {ob : Obj} (q : h.get? b = some ob) (n : H b = none) (hx : b ∉ ex) : ∃ sl, h1.get? b = some { ob with slots := sl } := by
  by_cases hb : b ∈ fs
  · exact u.slot b ob q n hb hx
  · exact ⟨ob.slots, u.keep b ob q n hb hx⟩
theorem Un.trans (a : Un fs ex H H1 h h1) (b : Un fs ex H1 H2 h1 h2) : Un fs ex H H2 h h2 where
  keep := fun c ob q n hc hx => b.keep c ob (a.keep c ob q n hc hx) (a.free c ob q n hx) hc hx
  slot := fun c ob q n hc hx => by
    obtain ⟨sl, e1⟩ := a.slot c ob q n hc hx
    obtain ⟨sl', e2⟩ := b.slot c _ e1 (a.free c ob q n hx) hc hx
    exact ⟨sl', e2⟩
  free := fun c ob q n hx => by
    obtain ⟨o', e1⟩ := a.there c ob q hx
    exact b.free c o' e1 (a.free c ob q n hx) hx
  there := fun c ob q hx => by
    obtain ⟨o', e1⟩ := a.there c ob q hx
    exact b.there c o' e1 hx
  tups := fun c xs q => b.tups c xs (a.tups c xs q)
  frzs := fun c ob xs q => b.frzs c ob xs (a.frzs c ob xs q)
  tbls := fun c ps q => by
    obtain ⟨m1, e1⟩ := a.tbls c ps q
    obtain ⟨m2, e2⟩ := b.tbls c _ e1
    exact ⟨m1 ++ m2, by rw [e2, Array.append_assoc]⟩
theorem Un.kept (k : ∀ b u, h.get? b = some u → h'.get? b = some u) : Un fs ex H H h h' :=
  ⟨fun b ob q _ _ _ => k b ob q, fun b ob q _ _ _ => ⟨ob.slots, k b ob q⟩, fun _ _ _ n _ => n, fun b ob q _ => ⟨ob, k b ob q⟩, fun _ _ q => q, fun _ _ _ q => q, fun _ ps q => ⟨#[], by rw [q]; simp⟩⟩
theorem Un.refl : Un fs ex H H h h := Un.kept fun _ _ q => q
theorem Un.laid (k : ∀ b u, h.get? b = some u → h'.get? b = some u) (hp : h.objs.size ≤ a) (hn : H a = none) : Un fs ex H (upd H a o) h h' where
  keep := fun b u q _ _ _ => k b u q
  slot := fun b u q _ _ _ => ⟨u.slots, k b u q⟩
  free := fun b u q n _ => by rw [upd_ne (Nat.ne_of_lt (Nat.lt_of_lt_of_le (Heap.lt_size q) hp))]; exact n
  there := fun b u q _ => ⟨u, k b u q⟩
  tups := fun b xs q => by rw [upd_ne (ne_of_none q hn)]; exact q
  frzs := fun b u xs q => by rw [upd_ne (ne_of_none q hn)]; exact q
  tbls := fun b ps q => ⟨#[], by rw [upd_ne (ne_of_none q hn), q]; simp⟩
theorem Un.write (mu : Mut (H x)) (he : e = x ∨ H e = some (.own x)) (k : ∀ b u, b ≠ e → h.get? b = some u → h'.get? b = some u) (heo : ∃ u, h'.get? e = some u) : Un fs ex H (upd H x o) h h' := by
  have hx : ∀ b, H b = none → b ≠ x := fun b n z => by subst z; rw [n] at mu; exact mu
  have hb : ∀ b, H b = none → b ≠ e := fun b n z => by
    subst z
    rcases he with r | r
    · exact hx b n r
    · rw [n] at r; cases r
  have hm : ∀ b u, H b = some u → ¬ Mut (some u) → b ≠ x := fun b u q nm z => by subst z; rw [q] at mu; exact nm mu
  refine ⟨fun b u q n _ _ => k b u (hb b n) q, fun b u q n _ _ => ⟨u.slots, k b u (hb b n) q⟩, fun b u q n _ => by rw [upd_ne (hx b n)]; exact n, fun b u q _ => ?_,
    fun b xs q => by rw [upd_ne (hm b _ q fun z => z)]; exact q, fun b u xs q => by rw [upd_ne (hm b _ q fun z => z)]; exact q, fun b ps q => ⟨#[], by rw [upd_ne (hm b _ q fun z => z), q]; simp⟩⟩
  by_cases hbe : b = e
  · subst hbe; exact heo
  · exact ⟨u, k b u hbe q⟩
theorem Un.mono (u : Un fs ex H H1 h h1) (hs : ∀ b ∈ fs, b ∈ fs') (hx : ∀ b ∈ ex, b ∈ ex') : Un fs' ex' H H1 h h1 :=
  ⟨fun b ob q n hb he => u.keep b ob q n (fun z => hb (hs b z)) fun z => he (hx b z), fun _ _ q n _ he => u.any q n fun z => he (hx _ z), fun b ob q n he => u.free b ob q n fun z => he (hx b z), fun b ob q he => u.there b ob q fun z => he (hx b z), u.tups, u.frzs, u.tbls⟩
end

/-! ### the heap without what is tracked -/
def trk (h : Heap) (H : Hp) : List Addr := (List.range h.objs.size).filter fun a => (H a).isSome
def hidT (h : Heap) (H : Hp) : Heap := PySem.W.hideAll h (trk h H)
theorem hidT_size (h : Heap) (H : Hp) : (hidT h H).objs.size = h.objs.size := PySem.W.hideAll_size _ _
theorem hidT_get {h : Heap} {H : Hp} {b : Addr} {o : Obj} (e : h.get? b = some o) (n : H b = none) : (hidT h H).get? b = some o :=
  PySem.W.hideAll_get _ e fun hm => by
    have q : (H b).isSome = true := (List.mem_filter.mp hm).2
    rw [n] at q; simp at q
theorem of_hidT {h : Heap} {H : Hp} {b : Addr} {o : Obj} (e : (hidT h H).get? b = some o) : h.get? b = some o ∧ H b = none := by
  have e' : h.get? b = some o := PySem.W.of_hideAll (trk h H) e
  refine ⟨e', ?_⟩
  cases q : H b with
  | none => rfl
  | some x =>
    have hm : b ∈ trk h H := List.mem_filter.mpr ⟨List.mem_range.mpr (Heap.lt_size e'), by simp [q]⟩
    have z : (hidT h H).get? b = none := PySem.W.hideAll_none (trk h H) hm
    rw [z] at e; cases e

/-! ### OpenK's ledger, filled with every new object but one -/
def allNews (g h : Heap) (L : Addr) : List (Addr × Obj) := (List.range h.objs.size).filterMap fun a => if a = L ∨ (g.get? a).isSome = true then none else (h.get? a).map fun o => (a, o)
def rest (g h : Heap) (L d : Addr) : List (Addr × Obj) := (allNews g h L).filter fun p => decide (p.1 ≠ d)
end L2

namespace L2
open PySem PySem.Spec PyProof.Rows

/-- the module's facts, over the base: the heap at the law's entry without what is tracked there -/
structure Mod (K : PySem.W.Frag) (mg : Str → Option Value) (base : Heap) : Prop where
  kin : K.In base
  glob : base.Ns mainGlobals mg
  blt : ∃ mb, base.Ns builtinsNs mb ∧ ∀ x : Str, x ≠ "__name__" → mb x = bootBuiltins x
  nolimit : base.NoLimit

/-- the context: a def's body (or a comprehension's block) running. base: fixed through the whole law; s₀, H₀: the entry; outer: the frames whose slots others may change (a def's callers); stack: all frames that run;
   ex: iterators that were made ahead of the entry and are walked here (a comprehension's); fn: the names whose cells were made at the entry (a def: all; a comprehension's block: its own); calm: not within an except suite; pn: pins that every state bears; xe: what is wanted of an exception that leaves the code -/
structure Cx where
  prog : Program
  w : World
  K : PySem.W.Frag
  mg : Str → Option Value
  base : Heap
  A : Around
  N : List Str
  s₀ : Shared
  H₀ : Hp
  env : Env
  outer : List Env
  stack : List Env
  ex : List Addr
  fn : Str → Bool
  calm : Bool
  pn : List (Addr × Obj)
  xe : Value → Shared → Prop
/-- the callers' frames -/
def frs (l : List Env) : List Addr := l.filterMap (·.frame)
abbrev Cx.fs (X : Cx) : List Addr := frs X.outer

def Vis (sc : Scope) (x : Str) : Prop := sc.names.lookup x = some .local ∨ sc.names.lookup x = some .cell ∨ sc.names.lookup x = some .free
def Loc (sc : Scope) (x : Str) : Prop := sc.names.lookup x = some .local ∨ sc.names.lookup x = some .cell
def Look (env : Env) (h : Heap) (m : Str → Option Value) (x : Str) (u : Value) : Prop :=
  (env.kindOf x = some .local ∧ m x = some u) ∨ ((env.kindOf x = some .cell ∨ env.kindOf x = some .free) ∧ ∃ c, env.cells.lookup x = some c ∧ h.IsCell c (some u))

structure Cx.Ok (X : Cx) : Prop where
  mod : Mod X.K X.mg X.base
  kind : X.env.scope.kind = .function
  glob : X.env.globals = mainGlobals
  blt : X.env.builtins = builtinsNs
  above : X.s₀.heap.objs.size ≤ X.env.locals
  inj : ∀ x y c, X.env.cells.lookup x = some c → X.env.cells.lookup y = some c → x = y
  has : ∀ x, (X.env.kindOf x = some .cell ∨ X.env.kindOf x = some .free) → ∃ c, X.env.cells.lookup x = some c
  cab : ∀ x c, X.fn x = true → X.env.cells.lookup x = some c → X.s₀.heap.objs.size ≤ c
  hd : X.calm = true → X.A.handled = none
  frames : X.A.frames = some X.stack
  stk : X.stack = X.outer ∨ (X.stack = X.env :: X.outer ∧ X.env.frame = some X.env.locals)
  exf : ∀ b ∈ X.ex, b ≠ X.env.locals ∧ ∀ x c, X.env.cells.lookup x = some c → c ≠ b
  bs : ∀ b o, X.base.get? b = some o → X.s₀.heap.get? b = some o ∧ X.H₀ b = none
  bsz : X.base.objs.size ≤ X.s₀.heap.objs.size
  noex : ∀ b o, X.base.get? b = some o → b ∉ X.ex
  exfs : ∀ b ∈ X.ex, b ∉ X.fs
  funs : X.s₀.heap.FunFrames X.base X.outer
  frf : ∀ b ∈ X.fs, X.H₀ b = none

structure Inv (X : Cx) (pins : List (Addr × Obj)) (σ : List (Option V)) (H : Hp) (s : Shared) : Prop where
  ok : X.Ok
  os : s.os = X.s₀.os
  bare : AllBare s.gens
  base : Un X.fs X.ex X.H₀ H X.s₀.heap s.heap
  loc : ∃ m, s.heap.Ns X.env.locals m ∧ ∀ (i : Nat) (x : Str) (v : V), X.N[i]? = some x → σ[i]? = some (some v) → Vis X.env.scope x → ∃ u, RelV v u ∧ Look X.env s.heap m x u
  cell : ∀ x c, X.env.cells.lookup x = some c → ∃ v, s.heap.IsCell c v
  free : H X.env.locals = none
  freeC : ∀ x c, X.env.cells.lookup x = some c → H c = none
  pin : ∀ p ∈ X.pn ++ pins, s.heap.get? p.1 = some p.2 ∧ H p.1 = none ∧ p.1 ≠ X.env.locals ∧ p.1 ∉ X.fs ∧ ∀ v, p.2.data ≠ .cell v
  hok : HOk X.prog X.w H s.heap
  len : σ.length = X.N.length

section
variable {X : Cx} {pins : List (Addr × Obj)} {σ : List (Option V)} {H H' : Hp} {s : Shared} {h' : Heap}

theorem Cx.Ok.nofr (ok : X.Ok) {b : Addr} {o : Obj} (e : X.base.get? b = some o) : b ∉ X.fs := fun hb => by
  have := (ok.funs.mem hb).1
  rw [e] at this; cases this
theorem Inv.bs (I : Inv X pins σ H s) : ∀ b o, X.base.get? b = some o → s.heap.get? b = some o ∧ H b = none := fun b o e =>
  ⟨I.base.keep b o (I.ok.bs b o e).1 (I.ok.bs b o e).2 (I.ok.nofr e) (I.ok.noex b o e), I.base.free b o (I.ok.bs b o e).1 (I.ok.bs b o e).2 (I.ok.noex b o e)⟩
theorem Inv.bk (I : Inv X pins σ H s) : ∀ b o, X.base.get? b = some o → s.heap.get? b = some o := fun b o e => (I.bs b o e).1
theorem Inv.mod (I : Inv X pins σ H s) : Mod X.K X.mg X.base := I.ok.mod
theorem Inv.kIn (I : Inv X pins σ H s) : X.K.In s.heap := I.ok.mod.kin.keeps I.bk
theorem Inv.nolimit (I : Inv X pins σ H s) : s.heap.NoLimit := I.ok.mod.nolimit.keeps I.bk
theorem Inv.lt (I : Inv X pins σ H s) : X.env.locals < s.heap.objs.size := let ⟨_, hn, _⟩ := I.loc; hn.lt
theorem Inv.sz (I : Inv X pins σ H s) : X.s₀.heap.objs.size ≤ s.heap.objs.size := Nat.le_trans I.ok.above (Nat.le_of_lt I.lt)
theorem Inv.nofs (I : Inv X pins σ H s) {a : Addr} (h : s.heap.objs.size ≤ a) : a ∉ X.fs := fun hb => by
  obtain ⟨_, o, ho, _⟩ := I.ok.funs.mem hb
  exact absurd (Nat.lt_of_lt_of_le (Heap.lt_size ho) (Nat.le_trans I.sz h)) (Nat.lt_irrefl _)
theorem Inv.cne (I : Inv X pins σ H s) : ∀ x c, X.env.cells.lookup x = some c → c ≠ X.env.locals := fun x c e z => by
  obtain ⟨v, o, ho, hd⟩ := I.cell x c e
  obtain ⟨m, ⟨o', es, ep, ho', hd', _⟩, _⟩ := I.loc
  rw [z, ho'] at ho; cases ho; rw [hd'] at hd; cases hd
theorem Inv.funs (I : Inv X pins σ H s) : s.heap.FunFrames X.base X.outer := by
  have all : ∀ (l : List Env), (∀ b ∈ frs l, b ∈ X.fs) → X.s₀.heap.FunFrames X.base l → s.heap.FunFrames X.base l := by
    intro l
    induction l with
    | nil => intro _ _; trivial
    | cons env r ih =>
      intro hs hl
      obtain ⟨hk, ⟨L, o, hf, hn, ho, hd⟩, hr⟩ := hl
      have hL : L ∈ X.fs := hs L (by unfold frs; rw [List.filterMap_cons, hf]; exact List.mem_cons_self)
      obtain ⟨sl, e⟩ := I.base.slot L o ho (I.ok.frf L hL) hL fun z => I.ok.exfs L z hL
      exact ⟨hk, ⟨L, _, hf, hn, e, hd⟩, ih (fun b hb => hs b (by unfold frs; rw [List.filterMap_cons, hf]; exact List.mem_cons_of_mem _ hb)) hr⟩
  exact all X.outer (fun _ hb => hb) I.ok.funs

/-- the frames that run, for a call -/
theorem Inv.stack (I : Inv X pins σ H s) : s.heap.FunFrames X.base X.stack := by
  rcases I.ok.stk with e | ⟨e, hf⟩
  · rw [e]; exact I.funs
  · rw [e]
    obtain ⟨m, hn, _⟩ := I.loc
    refine .cons (by rw [I.ok.kind]; decide) hf hn ?_ I.funs
    exact Heap.get?_none_of_le (Nat.le_trans I.ok.bsz I.ok.above)
theorem Inv.stkSub (I : Inv X pins σ H s) : ∀ b ∈ frs X.stack, b ∈ X.env.locals :: X.fs := fun b hb => by
  rcases I.ok.stk with e | ⟨e, hf⟩
  · rw [e] at hb; exact List.mem_cons_of_mem _ hb
  · rw [e] at hb
    unfold frs at hb
    rw [List.filterMap_cons, hf] at hb
    exact hb
theorem Inv.stkFree (I : Inv X pins σ H s) : ∀ b ∈ frs X.stack, H b = none := fun b hb => by
  rcases List.mem_cons.mp (I.stkSub b hb) with e | hb
  · rw [e]; exact I.free
  · obtain ⟨_, o, ho, _⟩ := I.ok.funs.mem hb
    exact I.base.free b o ho (I.ok.frf b hb) fun z => I.ok.exfs b z hb

/-- THE STEP: the untracked objects but the frame and the records at ch are kept (the callers' frames up to slots), the frame's map is kept, the new abstract heap is held -/
theorem Inv.step {g' : Array GenState} {t' : Nat} {d' : Drawn} {ch : List Addr} (I : Inv X pins σ H s)
    (hch : ∀ b ∈ ch, (b ∈ X.ex ∨ X.s₀.heap.objs.size ≤ b) ∧ b ≠ X.env.locals ∧ (∀ x c, X.env.cells.lookup x = some c → c ≠ b) ∧ ∀ p ∈ X.pn ++ pins, p.1 ≠ b)
    (keep : ∀ b o, b ≠ X.env.locals → b ∉ X.fs → b ∉ ch → s.heap.get? b = some o → H b = none → h'.get? b = some o)
    (slot : ∀ b o, b ≠ X.env.locals → b ∈ X.fs → b ∉ ch → s.heap.get? b = some o → H b = none → ∃ sl, h'.get? b = some { o with slots := sl }) (free : ∀ b o, b ∉ ch → s.heap.get? b = some o → H b = none → H' b = none)
    (there : ∀ b o, b ∉ ch → s.heap.get? b = some o → ∃ o', h'.get? b = some o')
    (tups : ∀ b xs, H b = some (.tup xs) → H' b = some (.tup xs)) (frzs : ∀ b o u, H b = some (.frz o u) → H' b = some (.frz o u)) (tbls : ∀ b ps, H b = some (.tbl ps) → ∃ more, H' b = some (.tbl (ps ++ more)))
    (ns : ∀ m, s.heap.Ns X.env.locals m → h'.Ns X.env.locals m) (hok : HOk X.prog X.w H' h') (hg : AllBare g') :
    Inv X pins σ H' { s with heap := h', gens := g', drawn := d', toks := t' } := by
  have neL : ∀ b o, X.s₀.heap.get? b = some o → b ≠ X.env.locals := fun b o e => Nat.ne_of_lt (Nat.lt_of_lt_of_le (Heap.lt_size e) I.ok.above)
  have neC : ∀ b o, X.s₀.heap.get? b = some o → b ∉ X.ex → b ∉ ch := fun b o e hx hb => by
    rcases (hch b hb).1 with z | z
    · exact hx z
    · exact absurd (Nat.lt_of_lt_of_le (Heap.lt_size e) z) (Nat.lt_irrefl _)
  have cellK : ∀ x c, X.env.cells.lookup x = some c → ∀ v, s.heap.IsCell c v → h'.IsCell c v := fun x c e v ⟨o, ho, hd⟩ => by
    have nch : c ∉ ch := fun z => (hch c z).2.2.1 x c e rfl
    by_cases hc : c ∈ X.fs
    · obtain ⟨sl, q⟩ := slot c o (I.cne x c e) hc nch ho (I.freeC x c e)
      exact ⟨_, q, hd⟩
    · exact ⟨o, keep c o (I.cne x c e) hc nch ho (I.freeC x c e), hd⟩
  refine ⟨I.ok, I.os, hg, ⟨fun b o e n hb hx => ?_, fun b o e n hb hx => ?_, fun b o e n hx => ?_, fun b o e hx => ?_, fun b xs e => tups b xs (I.base.tups b xs e), fun b o xs e => frzs b o xs (I.base.frzs b o xs e), fun b ps e => ?_⟩, ?_, fun x c e => ?_, ?_, fun x c e => ?_, fun p hp => ?_, hok, I.len⟩
  · exact keep b o (neL b o e) hb (neC b o e hx) (I.base.keep b o e n hb hx) (I.base.free b o e n hx)
  · obtain ⟨sl, e1⟩ := I.base.slot b o e n hb hx
    obtain ⟨sl', e2⟩ := slot b _ (neL b o e) hb (neC b o e hx) e1 (I.base.free b o e n hx)
    exact ⟨sl', e2⟩
  · obtain ⟨o', e1⟩ := I.base.there b o e hx
    exact free b o' (neC b o e hx) e1 (I.base.free b o e n hx)
  · obtain ⟨o', e1⟩ := I.base.there b o e hx
    exact there b o' (neC b o e hx) e1
  · obtain ⟨m1, e1⟩ := I.base.tbls b ps e
    obtain ⟨m2, e2⟩ := tbls b _ e1
    exact ⟨m1 ++ m2, by rw [e2, Array.append_assoc]⟩
  · obtain ⟨m, hn, hl⟩ := I.loc
    refine ⟨m, ns m hn, fun i x v e1 e2 e3 => ?_⟩
    obtain ⟨u, r, l⟩ := hl i x v e1 e2 e3
    refine ⟨u, r, ?_⟩
    rcases l with l | ⟨k, c, e, z⟩
    · exact .inl l
    · exact .inr ⟨k, c, e, cellK x c e _ z⟩
  · obtain ⟨v, z⟩ := I.cell x c e
    exact ⟨v, cellK x c e v z⟩
  · obtain ⟨m, ⟨o, _, _, ho, _⟩, _⟩ := I.loc
    exact free _ o (fun z => (hch _ z).2.1 rfl) ho I.free
  · obtain ⟨v, o, ho, hd⟩ := I.cell x c e
    exact free c o (fun z => (hch c z).2.2.1 x c e rfl) ho (I.freeC x c e)
  · obtain ⟨e, n, ne, nf, d⟩ := I.pin p hp
    have nch : p.1 ∉ ch := fun z => (hch p.1 z).2.2.2 p hp rfl
    exact ⟨keep p.1 p.2 ne nf nch e n, free p.1 p.2 nch e n, ne, nf, d⟩
/-- .. where the frame's own object is kept too -/
theorem Inv.un {t' : Nat} (I : Inv X pins σ H s) (u : Un X.fs [] H H' s.heap h') (hok : HOk X.prog X.w H' h') : Inv X pins σ H' { s with heap := h', toks := t' } := by
  obtain ⟨m, ⟨o, es, ep, ho, r⟩, _⟩ := id I.loc
  obtain ⟨sl, hL⟩ := u.any ho I.free (by simp)
  exact I.step (g' := s.gens) (d' := s.drawn) (ch := []) (fun _ z => nomatch z) (fun b o _ hb _ e n => u.keep b o e n hb (by simp)) (fun b o _ hb _ e n => u.slot b o e n hb (by simp)) (fun b o _ e n => u.free b o e n (by simp)) (fun b o _ e => u.there b o e (by simp)) u.tups u.frzs u.tbls (fun m' hm => by
    obtain ⟨o', es', ep', ho', r'⟩ := hm
    rw [ho] at ho'; cases ho'
    exact ⟨_, es', ep', hL, r'⟩) hok I.bare
/-- behind a call (or a comprehension's block): the slots of this frame may have changed too, the records at ch may have turned -/
theorem Inv.call {g' : Array GenState} {t' : Nat} {d' : Drawn} {ch : List Addr} (I : Inv X pins σ H s) (u : Un (frs X.stack) ch H H' s.heap h') (hok : HOk X.prog X.w H' h') (hg : AllBare g')
    (hch : ∀ b ∈ ch, (b ∈ X.ex ∨ X.s₀.heap.objs.size ≤ b) ∧ b ≠ X.env.locals ∧ (∀ x c, X.env.cells.lookup x = some c → c ≠ b) ∧ ∀ p ∈ X.pn ++ pins, p.1 ≠ b) :
    Inv X pins σ H' { s with heap := h', gens := g', drawn := d', toks := t' } := by
  obtain ⟨m, ⟨o, es, ep, ho, r⟩, _⟩ := id I.loc
  obtain ⟨sl, hL⟩ := u.any ho I.free fun z => (hch _ z).2.1 rfl
  exact I.step (ch := ch) hch (fun b o hL hb hc e n => u.keep b o e n (fun z => (List.mem_cons.mp (I.stkSub b z)).elim hL hb) hc) (fun b o _ _ hc e n => u.any e n hc) (fun b o hc e n => u.free b o e n hc) (fun b o hc e => u.there b o e hc) u.tups u.frzs u.tbls (fun m' hm => by
    obtain ⟨o', es', ep', ho', r'⟩ := hm
    rw [ho] at ho'; cases ho'
    exact ⟨_, es', ep', hL, r'⟩) hok hg
/-- an untracked record of ours (an iterator) has turned -/
theorem Inv.turned {t' : Nat} {it : Addr} (I : Inv X pins σ H s) (k : ∀ b o, b ≠ it → s.heap.get? b = some o → h'.get? b = some o) (hn : H it = none) (hL : it ≠ X.env.locals)
    (h1 : it ∈ X.ex ∨ X.s₀.heap.objs.size ≤ it) (h2 : ∀ x c, X.env.cells.lookup x = some c → c ≠ it) (h3 : ∀ p ∈ X.pn ++ pins, p.1 ≠ it) : Inv X pins σ H { s with heap := h', toks := t' } := by
  have nit : ∀ b u, H b = some u → b ≠ it := fun b u e z => by rw [z, hn] at e; cases e
  refine I.step (g' := s.gens) (d' := s.drawn) (ch := [it]) (fun b hb => ?_) (fun b o _ _ hc e _ => k b o (fun z => hc (by simp [z])) e) (fun b o _ _ hc e _ => ⟨o.slots, k b o (fun z => hc (by simp [z])) e⟩) (fun _ _ _ _ n => n)
    (fun b o hc e => ⟨o, k b o (fun z => hc (by simp [z])) e⟩) (fun _ _ e => e) (fun _ _ _ e => e) (fun b ps e => ⟨#[], by rw [e]; simp⟩) (fun m hm => ?_) (fun b u e => ?_) I.bare
  · have e : b = it := by simpa using hb
    subst e
    exact ⟨h1, hL, h2, h3⟩
  · obtain ⟨o, es, ep, ho, r⟩ := hm
    exact ⟨o, es, ep, k _ o (Ne.symm hL) ho, r⟩
  · refine (I.hok b u e).stay (fun c v hc q => k c v ?_ q) (fun _ q => q) fun _ _ q => q
    rcases hc with z | z
    · rw [z]; exact nit b u e
    · exact nit c _ z
theorem Inv.tok (I : Inv X pins σ H s) (t : Nat) : Inv X pins σ H { s with toks := t } := I.un (h' := s.heap) (t' := t) Un.refl I.hok
/-- all objects kept -/
theorem Inv.kept {t' : Nat} (I : Inv X pins σ H s) (k : ∀ b u, s.heap.get? b = some u → h'.get? b = some u) : Inv X pins σ H { s with heap := h', toks := t' } := I.un (Un.kept k) (I.hok.kept k)
/-- a new object laid and tracked -/
theorem Inv.laid {a : Addr} {o : HO} {t' : Nat} (I : Inv X pins σ H s) (k : ∀ b u, s.heap.get? b = some u → h'.get? b = some u) (hp : s.heap.objs.size ≤ a) (new : ObjOk X.prog X.w (upd H a o) h' a o) :
    Inv X pins σ (upd H a o) { s with heap := h', toks := t' } := I.un (Un.laid k hp (I.hok.fresh hp)) (I.hok.laid k hp new)
/-- an object written -/
theorem Inv.write {x e : Addr} {o : HO} {t' : Nat} (I : Inv X pins σ H s) (mu : Mut (H x)) (he : e = x ∨ H e = some (.own x)) (k : ∀ b u, b ≠ e → s.heap.get? b = some u → h'.get? b = some u) (heo : ∃ u, h'.get? e = some u)
    (new : ObjOk X.prog X.w (upd H x o) h' x o) : Inv X pins σ (upd H x o) { s with heap := h', toks := t' } := I.un (Un.write mu he k heo) (I.hok.write mu he k heo new)
/-- forgetting slots, pins -/
theorem Inv.weak {σ' : List (Option V)} (I : Inv X pins σ H s) (hl : σ'.length = σ.length) (w : ∀ (i : Nat) v, σ'[i]? = some (some v) → σ[i]? = some (some v)) : Inv X pins σ' H s :=
  ⟨I.ok, I.os, I.bare, I.base, let ⟨m, hn, hl'⟩ := I.loc; ⟨m, hn, fun i x v e1 e2 e3 => hl' i x v e1 (w i v e2) e3⟩, I.cell, I.free, I.freeC, I.pin, I.hok, hl.trans I.len⟩
theorem Inv.pins_of {pins' : List (Addr × Obj)} (I : Inv X pins σ H s) (h : ∀ p ∈ pins', s.heap.get? p.1 = some p.2 ∧ H p.1 = none ∧ p.1 ≠ X.env.locals ∧ p.1 ∉ X.fs ∧ ∀ v, p.2.data ≠ .cell v) : Inv X pins' σ H s :=
  ⟨I.ok, I.os, I.bare, I.base, I.loc, I.cell, I.free, I.freeC, fun p hp => (List.mem_append.mp hp).elim (fun z => I.pin p (List.mem_append_left _ z)) (h p), I.hok, I.len⟩

theorem nodup_ix {N : List Str} (hN : N.Nodup) {i j : Nat} {x : Str} (a : N[i]? = some x) (b : N[j]? = some x) : i = j := by
  obtain ⟨h1, e1⟩ := List.getElem?_eq_some_iff.mp a
  obtain ⟨h2, e2⟩ := List.getElem?_eq_some_iff.mp b
  exact (List.getElem_inj hN).mp (e1.trans e2.symm)

/-- a name is stored; what changed -/
theorem store_ok2 {M : Model} {A : Around} {E : Value → Shared → Prop} {i : Nat} {x : Str} {v : V} {u : Value} {Q : Unit → Shared → Prop} (I : Inv X pins σ H s) (hN : X.N.Nodup) (hi : X.N[i]? = some x) (hx : Loc X.env.scope x) (r : RelV v u)
    (h : ∀ s', Inv X pins (σ.set i (some v)) H s' → (∃ a, Heap.SameBut a s.heap s'.heap ∧ (a = X.env.locals ∨ X.env.cells.lookup x = some a)) → Q () s') (hf : X.fn x = true ∨ X.env.scope.names.lookup x = some .local := by first | exact .inl rfl | exact .inr rfl | assumption) : wpAny M A (storeName X.env x u) Q E s := by
  obtain ⟨m, hn, hl⟩ := id I.loc
  have hcls : (X.env.scope.kind == .class || (X.env.scope.kind == .module && X.env.locals != X.env.globals)) = false := by rw [I.ok.kind]; rfl
  have hiσ : i < σ.length := by rw [I.len]; exact (List.getElem?_eq_some_iff.mp hi).1
  have cne := I.cne
  have tracked : ∀ {a : Addr} {h' : Heap}, (∃ o, s.heap.get? a = some o ∧ H a = none) → Heap.SameBut a s.heap h' → HOk X.prog X.w H h' := fun {a h'} ha hs b ob e => by
    obtain ⟨_, _, hfree⟩ := ha
    refine (I.hok b ob e).stay (fun c w' hc q => (hs.2 c ?_).trans q) (fun _ q => q) fun _ _ q => q
    rintro rfl
    rcases hc with rfl | hc
    · rw [hfree] at e; cases e
    · rw [hfree] at hc; cases hc
  rcases hx with hk | hk
  · refine wpAny_storeName_local hk hn (fun h' hn' hs => ?_) hcls
    obtain ⟨oL, _, _, hoL, _⟩ := id hn
    refine h _ ⟨I.ok, I.os, I.bare, ⟨fun b o e n hb hx => ?_, fun b o e n hb hx => ?_, I.base.free, fun b o e hx => ?_, I.base.tups, I.base.frzs, I.base.tbls⟩, ⟨_, hn', fun j y v' e1 e2 e3 => ?_⟩, fun y c e => ?_, I.free, I.freeC, fun p hp => ?_, tracked ⟨oL, hoL, I.free⟩ hs, by simpa using I.len⟩ ⟨_, hs, .inl rfl⟩
    · exact (hs.2 b (Nat.ne_of_lt (Nat.lt_of_lt_of_le (Heap.lt_size e) I.ok.above))).trans (I.base.keep b o e n hb hx)
    · obtain ⟨sl, e1⟩ := I.base.slot b o e n hb hx
      exact ⟨sl, (hs.2 b (Nat.ne_of_lt (Nat.lt_of_lt_of_le (Heap.lt_size e) I.ok.above))).trans e1⟩
    · obtain ⟨o', e1⟩ := I.base.there b o e hx
      exact ⟨o', (hs.2 b (Nat.ne_of_lt (Nat.lt_of_lt_of_le (Heap.lt_size e) I.ok.above))).trans e1⟩
    · by_cases hj : j = i
      · subst hj
        rw [hi] at e1; cases e1
        rw [List.getElem?_set_self hiσ] at e2
        cases e2
        exact ⟨u, r, .inl ⟨hk, by simp⟩⟩
      · rw [List.getElem?_set_ne (Ne.symm hj)] at e2
        obtain ⟨u', r', q⟩ := hl j y v' e1 e2 e3
        refine ⟨u', r', ?_⟩
        rcases q with ⟨k, e⟩ | ⟨k, c, e, z⟩
        · refine .inl ⟨k, ?_⟩
          have : y ≠ x := fun e => hj (nodup_ix hN e1 (e ▸ hi))
          simp [this, e]
        · exact .inr ⟨k, c, e, z.sameBut hs (cne y c e)⟩
    · obtain ⟨w', z⟩ := I.cell y c e
      exact ⟨w', z.sameBut hs (cne y c e)⟩
    · obtain ⟨e, n, ne, nf, d⟩ := I.pin p hp
      exact ⟨(hs.2 p.1 ne).trans e, n, ne, nf, d⟩
  · have hfn : X.fn x = true := by
      rcases hf with z | z
      · exact z
      · rw [z] at hk; cases hk
    obtain ⟨c, hc⟩ := I.ok.has x (.inl hk)
    obtain ⟨w', z⟩ := I.cell x c hc
    refine wpAny_storeName_cell I.ok.kind hk hc z (fun h' hc' hs => ?_)
    obtain ⟨oc, hoc, hocd⟩ := id z
    refine h { s with heap := h' } ⟨I.ok, I.os, I.bare, ⟨fun b o e n hb hx => ?_, fun b o e n hb hx => ?_, I.base.free, fun b o e hx => ?_, I.base.tups, I.base.frzs, I.base.tbls⟩, ⟨m, hn.sameBut hs (Ne.symm (cne x c hc)), fun j y v' e1 e2 e3 => ?_⟩, fun y c' e => ?_, I.free, I.freeC, fun p hp => ?_, tracked ⟨oc, hoc, I.freeC x c hc⟩ hs, by simpa using I.len⟩ ⟨c, hs, .inr hc⟩
    · exact (hs.2 b (Nat.ne_of_lt (Nat.lt_of_lt_of_le (Heap.lt_size e) (I.ok.cab x c hfn hc)))).trans (I.base.keep b o e n hb hx)
    · obtain ⟨sl, e1⟩ := I.base.slot b o e n hb hx
      exact ⟨sl, (hs.2 b (Nat.ne_of_lt (Nat.lt_of_lt_of_le (Heap.lt_size e) (I.ok.cab x c hfn hc)))).trans e1⟩
    · obtain ⟨o', e1⟩ := I.base.there b o e hx
      exact ⟨o', (hs.2 b (Nat.ne_of_lt (Nat.lt_of_lt_of_le (Heap.lt_size e) (I.ok.cab x c hfn hc)))).trans e1⟩
    · by_cases hj : j = i
      · subst hj
        rw [hi] at e1; cases e1
        rw [List.getElem?_set_self hiσ] at e2
        cases e2
        exact ⟨u, r, .inr ⟨.inl hk, c, hc, hc'⟩⟩
      · rw [List.getElem?_set_ne (Ne.symm hj)] at e2
        obtain ⟨u', r', q⟩ := hl j y v' e1 e2 e3
        refine ⟨u', r', ?_⟩
        rcases q with q | ⟨k, c', e, z'⟩
        · exact .inl q
        · refine .inr ⟨k, c', e, z'.sameBut hs ?_⟩
          rintro rfl
          exact hj (nodup_ix hN e1 (I.ok.inj _ _ _ e hc ▸ hi))
    · by_cases hcc : c' = c
      · subst hcc; exact ⟨_, hc'⟩
      · obtain ⟨w2, z2⟩ := I.cell y c' e
        exact ⟨w2, z2.sameBut hs hcc⟩
    · obtain ⟨e, n, ne, nf, d⟩ := I.pin p hp
      refine ⟨(hs.2 p.1 ?_).trans e, n, ne, nf, d⟩
      intro q
      rw [q, hoc] at e
      have q' : oc = p.2 := Option.some.inj e
      exact d w' (by rw [← q']; exact hocd)
theorem store_ok {M : Model} {A : Around} {E : Value → Shared → Prop} {i : Nat} {x : Str} {v : V} {u : Value} {Q : Unit → Shared → Prop} (I : Inv X pins σ H s) (hN : X.N.Nodup) (hi : X.N[i]? = some x) (hx : Loc X.env.scope x) (r : RelV v u)
    (h : ∀ s', Inv X pins (σ.set i (some v)) H s' → Q () s') (hf : X.fn x = true ∨ X.env.scope.names.lookup x = some .local := by first | exact .inl rfl | exact .inr rfl | assumption) : wpAny M A (storeName X.env x u) Q E s :=
  store_ok2 I hN hi hx r (fun s' I' _ => h s' I') hf
/-- behind a call or a block, the state as it is -/
theorem Inv.call' {s' : Shared} {ch : List Addr} (I : Inv X pins σ H s) (ho : s'.os = s.os) (u : Un (frs X.stack) ch H H' s.heap s'.heap) (hok : HOk X.prog X.w H' s'.heap) (hg : AllBare s'.gens)
    (hch : ∀ b ∈ ch, (b ∈ X.ex ∨ X.s₀.heap.objs.size ≤ b) ∧ b ≠ X.env.locals ∧ (∀ x c, X.env.cells.lookup x = some c → c ≠ b) ∧ ∀ p ∈ X.pn ++ pins, p.1 ≠ b) : Inv X pins σ H' s' := by
  obtain ⟨h', g', d', t', o'⟩ := s'
  have e : o' = s.os := ho
  subst e
  exact I.call (g' := g') (t' := t') (d' := d') u hok hg hch
end

/-! ### the judgements -/
/-- an exception: its class, its own dict's address (where it has one), the abstract heap behind it -/
abbrev XK := Value → Option Addr → Hp → Prop
abbrev St := List (Option V)
abbrev VK := V → Hp → Prop
/-- an expression's reading; a test's; an argument list's -/
abbrev TE := St → Hp → VK → Prop
abbrev TT := St → Hp → (Bool → Hp → Prop) → Prop
abbrev TA := St → Hp → (List V → Hp → Prop) → Prop
/-- what is wanted behind a statement -/
structure Ends where
  nx : St → Hp → Prop
  rt : VK
  bk : St → Hp → Prop := fun _ _ => False
  ct : St → Hp → Prop := fun _ _ => False
abbrev TS := Ends → St → Hp → Prop

def EP (X : Cx) (pins : List (Addr × Obj)) (σ : St) (Q : VK) (u : Value) (s' : Shared) : Prop := ∃ v H', Inv X pins σ H' s' ∧ RelV v u ∧ Q v H'
def TP (X : Cx) (pins : List (Addr × Obj)) (σ : St) (Q : Bool → Hp → Prop) (b : Bool) (s' : Shared) : Prop := ∃ H', Inv X pins σ H' s' ∧ Q b H'
def AP (X : Cx) (pins : List (Addr × Obj)) (σ : St) (Q : List V → Hp → Prop) (us : List Value) (s' : Shared) : Prop := ∃ vs H', Inv X pins σ H' s' ∧ Vals vs us ∧ Q vs H'
def SP (X : Cx) (pins : List (Addr × Obj)) (D : Ends) (f : Flow) (s' : Shared) : Prop :=
  match f with
  | .next => ∃ σ' H', Inv X pins σ' H' s' ∧ D.nx σ' H'
  | .brk => ∃ σ' H', Inv X pins σ' H' s' ∧ D.bk σ' H'
  | .cont => ∃ σ' H', Inv X pins σ' H' s' ∧ D.ct σ' H'
  | .ret u => ∃ v σ' H', Inv X pins σ' H' s' ∧ RelV v u ∧ D.rt v H'

def PE (X : Cx) (e : Expr) (t : TE) : Prop :=
  ∀ (pins : List (Addr × Obj)) (s : Shared) (σ : St) (H : Hp) (Q : VK), Inv X pins σ H s → t σ H Q → wpAny (model X.prog X.w) X.A (eval e X.env) (EP X pins σ Q) X.xe s
def PT (X : Cx) (e : Expr) (t : TT) : Prop :=
  ∀ (pins : List (Addr × Obj)) (s : Shared) (σ : St) (H : Hp) (Q : Bool → Hp → Prop), Inv X pins σ H s → t σ H Q → wpAny (model X.prog X.w) X.A (isTrue e X.env (eval e X.env)) (TP X pins σ Q) X.xe s
/-- a test whatever its 'whole' is (and, or) -/
def PW (X : Cx) (e : Expr) (t : TT) : Prop :=
  ∀ (whole : Sem Value) (pins : List (Addr × Obj)) (s : Shared) (σ : St) (H : Hp) (Q : Bool → Hp → Prop), Inv X pins σ H s → t σ H Q → wpAny (model X.prog X.w) X.A (isTrue e X.env whole) (TP X pins σ Q) X.xe s
theorem PW.pt {X : Cx} {e : Expr} {t : TT} (h : PW X e t) : PT X e t := h _
/-- an argument list (no star), from the left -/
def PA (X : Cx) (es : List Expr) (t : TA) : Prop :=
  ∀ (pos : Pos) (pins : List (Addr × Obj)) (s : Shared) (σ : St) (H : Hp) (Q : List V → Hp → Prop), Inv X pins σ H s → t σ H Q → wpAny (model X.prog X.w) X.A (spliced (backTo pos (starEach es X.env))) (AP X pins σ Q) X.xe s
def PS (X : Cx) (st : Stmt) (t : TS) : Prop :=
  ∀ (pins : List (Addr × Obj)) (s : Shared) (σ : St) (H : Hp) (D : Ends), Inv X pins σ H s → t D σ H → wpAny (model X.prog X.w) X.A (exec st X.env) (SP X pins D) X.xe s
def PSs (X : Cx) (st : List Stmt) (t : TS) : Prop :=
  ∀ (pins : List (Addr × Obj)) (s : Shared) (σ : St) (H : Hp) (D : Ends), Inv X pins σ H s → t D σ H → wpAny (model X.prog X.w) X.A (execs st X.env) (SP X pins D) X.xe s
/-- weaken the end -/
theorem thn {α : Type} {t : Sem α} {Q Q' : α → Shared → Prop} {M : Model} {A : Around} {E : Value → Shared → Prop} {s : Shared} (h : wpAny M A t Q E s) (hQ : ∀ a s, Q a s → Q' a s) : wpAny M A t Q' E s := wpAny_mono h hQ fun _ _ x => x
end L2

namespace L2
open PySem PySem.Spec PyProof.Rows
section
variable {X : Cx}

/-! ### names and constants -/
def tVar (i : Nat) : TE := fun σ H Q => ∃ v, σ[i]? = some (some v) ∧ Q v H
def tC (v : V) : TE := fun _ H Q => Q v H
theorem pe_var {i : Nat} {x : Str} {pos : Pos} (hN : X.N[i]? = some x) (hv : Vis X.env.scope x) (hd : (x == ("__debug__" : Str)) = false := by decide) (hcd : (x == ("__classdict__" : Str)) = false := by decide) : PE X (.Name x pos) (tVar i) := by
  intro pins s σ H Q I h
  obtain ⟨v, e, h⟩ := h
  obtain ⟨m, hn, hl⟩ := I.loc
  obtain ⟨u, r, l⟩ := hl i x v hN e hv
  have fin : EP X pins σ Q u s := ⟨v, H, I, r, h⟩
  rcases l with ⟨hk, hm⟩ | ⟨hk, c, hc, hcell⟩
  · exact wpAny_Name (wpAny_loadName_local I.ok.kind hk hn hm fin) hd
  · rcases hk with hk | hk
    · exact wpAny_Name (wpAny_loadName_cell I.ok.kind hk hc hcell fin) hd
    · exact wpAny_Name (wpAny_loadName_free I.ok.kind hk hc hcell fin hcd) hd
theorem pe_int {i j pos} : PE X (.Constant (.int i) j pos) (tC (.int i)) := fun _ _ _ H _ I h => wpAny_Constant_int ⟨.int i, H, I.tok _, ⟨_, rfl⟩, h⟩
theorem pe_bl {b j pos} : PE X (.Constant (.bool b) j pos) (tC (.bl b)) := fun _ _ _ H _ I h => Constant_bool ⟨.bl b, H, I, rfl, h⟩
theorem pe_non {j pos} : PE X (.Constant .none j pos) (tC .non) := fun _ _ _ H _ I h => Constant_none ⟨.non, H, I, rfl, h⟩
theorem pe_str {x j pos} : PE X (.Constant (.str x) j pos) (tC (.str x)) := fun _ _ _ H _ I h => Calls.Constant_str ⟨.str x, H, I.tok _, ⟨_, rfl⟩, h⟩

/-- a global name of the def -/
def Gl (X : Cx) (x : Str) : Prop := X.env.kindOf x = some .globalImplicit
theorem ld_glob {E : Value → Shared → Prop} {pins : List (Addr × Obj)} {s : Shared} {σ : St} {H : Hp} {x : Str} {u : Value} {pos : Pos} {Q : Value → Shared → Prop} (I : Inv X pins σ H s) (hg : Gl X x) (hm : X.mg x = some u) (h : Q u s)
    (hd : (x == ("__debug__" : Str)) = false := by decide) : wpAny (model X.prog X.w) X.A (eval (.Name x pos) X.env) Q E s :=
  Calls.Name_function_global I.ok.kind hg (Calls.loadGlobal_global (by rw [I.ok.glob]; exact I.mod.glob.keeps I.bk) hm h) hd
theorem ld_blt {E : Value → Shared → Prop} {pins : List (Addr × Obj)} {s : Shared} {σ : St} {H : Hp} {x : Str} {u : Value} {pos : Pos} {Q : Value → Shared → Prop} (I : Inv X pins σ H s) (hg : Gl X x) (hm : X.mg x = none) (hv : bootBuiltins x = some u) (h : Q u s)
    (hn : x ≠ "__name__" := by decide) (hd : (x == ("__debug__" : Str)) = false := by decide) : wpAny (model X.prog X.w) X.A (eval (.Name x pos) X.env) Q E s := by
  obtain ⟨mb, h1, h2⟩ := I.mod.blt
  exact Calls.Name_function_global I.ok.kind hg (Calls.loadGlobal_builtin (by rw [I.ok.glob]; exact I.mod.glob.keeps I.bk) hm (by rw [I.ok.blt]; exact h1.keeps I.bk) ((h2 x hn).trans hv) h) hd
/-- a module's constant, a class, a function, as a value -/
theorem pe_glob {x : Str} {v : V} {u : Value} {pos : Pos} (hg : Gl X x) (hm : X.mg x = some u) (r : RelV v u) (hd : (x == ("__debug__" : Str)) = false := by decide) : PE X (.Name x pos) (tC v) :=
  fun _ _ _ H _ I h => ld_glob I hg hm ⟨v, H, I, r, h⟩ hd
theorem pe_bltn {x : Str} {v : V} {u : Value} {pos : Pos} (hg : Gl X x) (hm : X.mg x = none) (hv : bootBuiltins x = some u) (r : RelV v u) (hn : x ≠ "__name__" := by decide) (hd : (x == ("__debug__" : Str)) = false := by decide) : PE X (.Name x pos) (tC v) :=
  fun _ _ _ H _ I h => ld_blt I hg hm hv ⟨v, H, I, r, h⟩ hn hd

/-! ### arithmetic -/
/-- two ints -/
def t2I (ta tb : TE) (k : Int → Int → Hp → Prop) : St → Hp → Prop := fun σ H => ta σ H fun x H1 => tb σ H1 fun y H2 => ∃ i j, x = .int i ∧ y = .int j ∧ k i j H2
def tAdd (ta tb : TE) : TE := fun σ H Q => t2I ta tb (fun i j H2 => Q (.int (i + j)) H2) σ H
def tSub (ta tb : TE) : TE := fun σ H Q => t2I ta tb (fun i j H2 => Q (.int (i - j)) H2) σ H
/-- the left factor below 2^64 -/
def tMul (ta tb : TE) : TE := fun σ H Q => t2I ta tb (fun i j H2 => (-(2 ^ 64) < i ∧ i < 2 ^ 64) ∧ Q (.int (i * j)) H2) σ H
variable {a b : Expr} {ta tb : TE} {pos : Pos}
/-! ### comparisons -/
def PC (X : Cx) (op : CmpOp) (a b : Expr) (t : TE) : Prop :=
  ∀ (pins : List (Addr × Obj)) (s : Shared) (σ : St) (H : Hp) (Q : VK), Inv X pins σ H s → t σ H Q →
    wpAny (model X.prog X.w) X.A (eval a X.env) (fun v s₁ => wpAny (model X.prog X.w) X.A (eval b X.env) (fun u s₂ => wpAny (model X.prog X.w) X.A (compareOp op v u) (EP X pins σ Q) X.xe s₂) X.xe s₁) X.xe s
theorem nobehind (b : Expr) {op : CmpOp} (h : op ≠ .In) (h2 : op ≠ .NotIn) : behindInMarks op b = false := by
  have e1 : (op == CmpOp.In) = false := by cases op <;> first | rfl | exact absurd rfl h
  have e2 : (op == CmpOp.NotIn) = false := by cases op <;> first | rfl | exact absurd rfl h2
  cases b <;> simp [behindInMarks, e1, e2]
def tCmp (p : Int → Int → Bool) (ta tb : TE) : TE := fun σ H Q => t2I ta tb (fun i j H2 => Q (.bl (p i j)) H2) σ H
abbrev tLt : TE → TE → TE := tCmp fun i j => decide (i < j)
abbrev tLe : TE → TE → TE := tCmp fun i j => decide (i ≤ j)
abbrev tGt : TE → TE → TE := tCmp fun i j => decide (j < i)
abbrev tGe : TE → TE → TE := tCmp fun i j => decide (j ≤ i)
abbrev tEqI : TE → TE → TE := tCmp fun i j => decide (i = j)
abbrev tNeI : TE → TE → TE := tCmp fun i j => !decide (i = j)
/-- is None -/
def tIsN (ta : TE) : TE := fun σ H Q => ta σ H fun x H1 => Q (.bl (decide (x = .non))) H1
def tNotN (ta : TE) : TE := fun σ H Q => ta σ H fun x H1 => Q (.bl (!decide (x = .non))) H1
theorem RelV.none_iff {x : V} {v : Value} (r : RelV x v) : (v == Value.none) = decide (x = .non) := by
  cases x with
  | non => cases r; rfl
  | bl _ => cases r; rfl
  | int _ => obtain ⟨t, rfl⟩ := r; rfl
  | str _ => obtain ⟨t, rfl⟩ := r; rfl
  | byt _ => obtain ⟨t, rfl⟩ := r; rfl
  | flt _ => obtain ⟨t, rfl⟩ := r; rfl
  | ref _ => cases r; rfl
  | ty _ => cases r; rfl
theorem pc_isN {j pos'} (ha : PE X a ta) : PC X .Is a (.Constant .none j pos') (tIsN ta) := by
  intro pins s σ H Q I h
  refine thn (ha pins s σ H _ I h) fun v s1 ⟨x, H1, I1, r1, q1⟩ => ?_
  exact Constant_none (is_none_gen ⟨.bl _, H1, I1, by rw [r1.none_iff]; rfl, q1⟩)
theorem pc_notN {j pos'} (ha : PE X a ta) : PC X .IsNot a (.Constant .none j pos') (tNotN ta) := by
  intro pins s σ H Q I h
  refine thn (ha pins s σ H _ I h) fun v s1 ⟨x, H1, I1, r1, q1⟩ => ?_
  exact Constant_none (isnot_none_gen ⟨.bl _, H1, I1, by rw [r1.none_iff]; rfl, q1⟩)
/-- a comparison as a value, as a test -/
def tB (t : TE) : TT := fun σ H Q => t σ H fun x H1 => ∃ c, x = .bl c ∧ Q c H1
theorem pt_cmp {op : CmpOp} {t : TE} (h : PC X op a b t) (h1 : behindInMarks op b = false := by first | exact nobehind _ (by decide) (by decide) | rfl) : PT X (.Compare a [op] [b] pos) (tB t) := by
  intro pins s σ H Q I hw
  refine wpAny_isTrue_Compare1 (thn (h pins s σ H _ I hw) fun v s1 h1 => thn h1 fun u s2 h2 => thn h2 fun c s3 ⟨x, H1, I1, r1, q1⟩ => ?_) h1
  obtain ⟨d, rfl, q⟩ := q1
  cases r1
  exact wpAny_truthy_bool ⟨H1, I1, q⟩
/-- an expression whose value is a bool, as a test -/
theorem pt_val {e : Expr} {t : TE} (h : PE X e t) (he : ∀ whole, isTrue e X.env whole = (do let v ← whole; standAt e.pos; holding [v] (truthy v)) := by intro _; rfl) : PT X e (tB t) := by
  intro pins s σ H Q I hw
  refine isTrue_plain (thn (h pins s σ H _ I hw) fun v s1 ⟨x, H1, I1, r1, q1⟩ => ?_) (he _)
  obtain ⟨d, rfl, q⟩ := q1
  cases r1
  exact wpAny_truthy_bool ⟨H1, I1, q⟩

/-! ### and, or, not -/
variable {tA tB' : TT} {rest : List Expr}
def tAnd (t u : TT) : TT := fun σ H Q => t σ H fun c H1 => if c = true then u σ H1 Q else Q false H1
def tOr (t u : TT) : TT := fun σ H Q => t σ H fun c H1 => if c = true then Q true H1 else u σ H1 Q
def tNot (t : TT) : TT := fun σ H Q => t σ H fun c H1 => Q (!c) H1
theorem pw_and1 (ha : PT X a tA) : PW X (.BoolOp .And [a] pos) tA := by
  intro wh pins s σ H Q I h
  refine isTrue_and (thn (ha pins s σ H Q I h) fun c s1 e => ?_)
  cases c with
  | true => exact isTrue_and_nil e
  | false => exact e
theorem pw_or1 (ha : PT X a tA) : PW X (.BoolOp .Or [a] pos) tA := by
  intro wh pins s σ H Q I h
  refine isTrue_or (thn (ha pins s σ H Q I h) fun c s1 e => ?_)
  cases c with
  | false => exact isTrue_or_nil e
  | true => exact e
theorem pw_and (ha : PT X a tA) (hb : PW X (.BoolOp .And (b :: rest) pos) tB') : PW X (.BoolOp .And (a :: b :: rest) pos) (tAnd tA tB') := by
  intro wh pins s σ H Q I h
  refine isTrue_and (thn (ha pins s σ H _ I h) fun c s1 ⟨H1, I1, q1⟩ => ?_)
  cases c with
  | true => exact hb wh pins s1 σ H1 Q I1 q1
  | false => exact ⟨H1, I1, q1⟩
theorem pw_or (ha : PT X a tA) (hb : PW X (.BoolOp .Or (b :: rest) pos) tB') : PW X (.BoolOp .Or (a :: b :: rest) pos) (tOr tA tB') := by
  intro wh pins s σ H Q I h
  refine isTrue_or (thn (ha pins s σ H _ I h) fun c s1 ⟨H1, I1, q1⟩ => ?_)
  cases c with
  | true => exact ⟨H1, I1, q1⟩
  | false => exact hb wh pins s1 σ H1 Q I1 q1
theorem pt_not (ha : PT X a tA) : PT X (.UnaryOp .Not a pos) (tNot tA) := by
  intro pins s σ H Q I h
  exact isTrue_not (ha pins s σ H (fun c H1 => Q (!c) H1) I h)
/-- .. as values (bools) -/
def tAndV (ta tb : TE) : TE := fun σ H Q => ta σ H fun x H1 => ∃ c, x = .bl c ∧ if c = true then tb σ H1 Q else Q (.bl false) H1
def tOrV (ta tb : TE) : TE := fun σ H Q => ta σ H fun x H1 => ∃ c, x = .bl c ∧ if c = true then Q (.bl true) H1 else tb σ H1 Q
def tNotV (ta : TE) : TE := fun σ H Q => ta σ H fun x H1 => ∃ c, x = .bl c ∧ Q (.bl (!c)) H1
theorem pe_one {op} {t : TE} (h : PE X a t) : PE X (.BoolOp op [a] pos) t := fun pins s σ H Q I hw => BoolOp_one (h pins s σ H Q I hw)
theorem pe_and (ha : PE X a ta) (hb : PE X (.BoolOp .And (b :: rest) pos) tb) : PE X (.BoolOp .And (a :: b :: rest) pos) (tAndV ta tb) := by
  intro pins s σ H Q I h
  refine BoolOp_and (thn (ha pins s σ H _ I h) fun v s1 ⟨x, H1, I1, r1, q1⟩ => ?_)
  obtain ⟨c, rfl, q1⟩ := q1
  cases r1
  refine wpAny_truthy_bool ?_
  cases c with
  | true => exact hb pins s1 σ H1 Q I1 q1
  | false => exact ⟨.bl false, H1, I1, rfl, q1⟩
theorem pe_not (ha : PE X a ta) : PE X (.UnaryOp .Not a pos) (tNotV ta) := by
  intro pins s σ H Q I h
  refine UnaryOp_ (thn (ha pins s σ H _ I h) fun v s1 ⟨x, H1, I1, r1, q1⟩ => ?_)
  obtain ⟨c, rfl, q1⟩ := q1
  cases r1
  exact not_of (wpAny_truthy_bool ⟨.bl (!c), H1, I1, rfl, q1⟩)
/-- a if t else b -/
def tIf (t : TT) (ta tb : TE) : TE := fun σ H Q => t σ H fun c H1 => if c = true then ta σ H1 Q else tb σ H1 Q
theorem pe_ifExp {c : Expr} (hc : PT X c tA) (ha : PE X a ta) (hb : PE X b tb) : PE X (.IfExp c a b pos) (tIf tA ta tb) := by
  intro pins s σ H Q I h
  refine wpAny_IfExp (thn (hc pins s σ H _ I h) fun d s1 ⟨H1, I1, q1⟩ => ?_)
  cases d with
  | true => exact ha pins s1 σ H1 Q I1 q1
  | false => exact hb pins s1 σ H1 Q I1 q1
end
end L2

namespace L2
open PySem PySem.Spec PyProof.Rows

/-! ### a list, a tuple that is read: tracked, frozen, or an object of the module -/
def SqL (K : PySem.W.Frag) (H : Hp) (a : Addr) (xs : List V) : Prop :=
  Rd H a (.lst xs) ∨
    ∃ (o : Obj) (its : Array Value) (n : Nat), K.lookup a = some o ∧ o.cls = .type "list" ∧ o.dict = none ∧ o.data = .seq its n ∧ its.size ≤ sizeLine ∧ Vals xs its.toList
def SqT (K : PySem.W.Frag) (H : Hp) (a : Addr) (xs : List V) : Prop :=
  Rd H a (.tup xs) ∨
    ∃ (o : Obj) (its : Array Value) (n : Nat), K.lookup a = some o ∧ o.cls = .type "tuple" ∧ o.data = .seq its n ∧ its.size ≤ sizeLine ∧ Vals xs its.toList
def absV : Value → Option V
  | .none => some .non
  | .bool b => some (.bl b)
  | .int i _ => some (.int i)
  | .str x _ => some (.str x)
  | .bytes b _ => some (.byt b)
  | .float b _ => some (.flt b)
  | .ref a => some (.ref a)
  | .type n => some (.ty n)
  | _ => none
theorem RelV.abs {x : V} {u : Value} (r : RelV x u) : absV u = some x := by
  cases x with
  | non => cases r; rfl
  | bl _ => cases r; rfl
  | int _ => obtain ⟨t, rfl⟩ := r; rfl
  | str _ => obtain ⟨t, rfl⟩ := r; rfl
  | byt _ => obtain ⟨t, rfl⟩ := r; rfl
  | flt _ => obtain ⟨t, rfl⟩ := r; rfl
  | ref _ => cases r; rfl
  | ty _ => cases r; rfl
theorem RelV.inj {x y : V} {u : Value} (r : RelV x u) (q : RelV y u) : x = y := Option.some.inj (r.abs.symm.trans q.abs)
theorem Vals.inj : ∀ {xs ys : List V} {us : List Value}, Vals xs us → Vals ys us → xs = ys
  | _, _, _, .nil, .nil => rfl
  | _, _, _, .cons r t, .cons r' t' => by rw [r.inj r', Vals.inj t t']
section
variable {X : Cx} {pins : List (Addr × Obj)} {σ : St} {H : Hp} {s : Shared} {a : Addr} {xs ys : List V}
theorem SqL.of {K : PySem.W.Frag} (h : H a = some (.lst xs)) : SqL K H a xs := .inl (.inl h)
theorem SqT.of {K : PySem.W.Frag} (h : H a = some (.tup xs)) : SqT K H a xs := .inl (.inl h)
theorem Inv.list (I : Inv X pins σ H s) (h : SqL X.K H a xs) : ∃ its : List Value, Vals xs its ∧ PlainL s.heap a its.toArray ∧ xs.length ≤ sizeLine := by
  rcases h with h | ⟨o, its, n, hk, hc, hd, hs, hz, r⟩
  · obtain ⟨z, its, n, r, e⟩ := h.ok I.hok
    exact ⟨its, r, ⟨_, n, e, rfl, rfl, rfl⟩, z⟩
  · refine ⟨its.toList, r, ⟨o, n, I.kIn a o hk, hc, hd, by simpa using hs⟩, ?_⟩
    have e := r.length
    simp only [Array.length_toList] at e
    omega
theorem Inv.tuple (I : Inv X pins σ H s) (h : SqT X.K H a xs) : ∃ its : List Value, Vals xs its ∧ IsTup s.heap a its.toArray ∧ xs.length ≤ sizeLine := by
  rcases h with h | ⟨o, its, n, hk, hc, hs, hz, r⟩
  · obtain ⟨z, its, r, p⟩ := h.ok I.hok
    exact ⟨its, r, p, z⟩
  · refine ⟨its.toList, r, ⟨o, I.kIn a o hk, hc, n, by simpa using hs⟩, ?_⟩
    have e := r.length
    simp only [Array.length_toList] at e
    omega
theorem Inv.list_inj (I : Inv X pins σ H s) (h : SqL X.K H a xs) (h' : SqL X.K H a ys) : xs = ys := by
  obtain ⟨its, r, ⟨o, n, e, _, _, d⟩, _⟩ := I.list h
  obtain ⟨its', r', ⟨o', n', e', _, _, d'⟩, _⟩ := I.list h'
  rw [e] at e'; cases e'
  rw [d] at d'
  injection d' with d1 _
  have : its = its' := by simpa using congrArg Array.toList d1
  subst this
  exact r.inj r'
end

/-! ### another wish about exceptions -/
abbrev Cx.wish (X : Cx) (E : Value → Shared → Prop) : Cx := { X with xe := E }
/-- no exception leaves -/
abbrev Cx.nox (X : Cx) : Cx := X.wish fun _ _ => False
theorem Cx.Ok.wish {X : Cx} (ok : X.Ok) (E : Value → Shared → Prop) : (X.wish E).Ok :=
  ⟨ok.mod, ok.kind, ok.glob, ok.blt, ok.above, ok.inj, ok.has, ok.cab, ok.hd, ok.frames, ok.stk, ok.exf, ok.bs, ok.bsz, ok.noex, ok.exfs, ok.funs, ok.frf⟩
theorem Cx.Ok.unwish {X : Cx} {E : Value → Shared → Prop} (ok : (X.wish E).Ok) : X.Ok :=
  ⟨ok.mod, ok.kind, ok.glob, ok.blt, ok.above, ok.inj, ok.has, ok.cab, ok.hd, ok.frames, ok.stk, ok.exf, ok.bs, ok.bsz, ok.noex, ok.exfs, ok.funs, ok.frf⟩
section
variable {X : Cx} {pins : List (Addr × Obj)} {σ : St} {H : Hp} {s : Shared} {E : Value → Shared → Prop}
theorem Inv.wish (I : Inv X pins σ H s) (E : Value → Shared → Prop) : Inv (X.wish E) pins σ H s := ⟨I.ok.wish E, I.os, I.bare, I.base, I.loc, I.cell, I.free, I.freeC, I.pin, I.hok, I.len⟩
theorem Inv.unwish (I : Inv (X.wish E) pins σ H s) : Inv X pins σ H s := ⟨I.ok.unwish, I.os, I.bare, I.base, I.loc, I.cell, I.free, I.freeC, I.pin, I.hok, I.len⟩
theorem SP.unwish {D : Ends} {f : Flow} {s' : Shared} (h : SP (X.wish E) pins D f s') : SP X pins D f s' := by
  cases f with
  | next => obtain ⟨σ', H', I, q⟩ := h; exact ⟨σ', H', I.unwish, q⟩
  | brk => obtain ⟨σ', H', I, q⟩ := h; exact ⟨σ', H', I.unwish, q⟩
  | cont => obtain ⟨σ', H', I, q⟩ := h; exact ⟨σ', H', I.unwish, q⟩
  | ret u => obtain ⟨v, σ', H', I, r, q⟩ := h; exact ⟨v, σ', H', I.unwish, r, q⟩
theorem PE.nox {e : Expr} {t : TE} (h : PE X.nox e t) : PE X e t := fun pins s σ H Q I hw =>
  wpAny_mono (h pins s σ H Q (I.wish _) hw) (fun _ _ ⟨v, H', I', r, q⟩ => ⟨v, H', I'.unwish, r, q⟩) fun _ _ z => False.elim z
theorem PT.nox {e : Expr} {t : TT} (h : PT X.nox e t) : PT X e t := fun pins s σ H Q I hw =>
  wpAny_mono (h pins s σ H Q (I.wish _) hw) (fun _ _ ⟨H', I', q⟩ => ⟨H', I'.unwish, q⟩) fun _ _ z => False.elim z
theorem PSs.nox {st : List Stmt} {t : TS} (h : PSs X.nox st t) : PSs X st t := fun pins s σ H D I hw =>
  wpAny_mono (h pins s σ H D (I.wish _) hw) (fun _ _ q => q.unwish) fun _ _ z => False.elim z
end

/-! ### blocks and small statements -/
section
variable {X : Cx} {st : Stmt} {rest : List Stmt} {t u : TS} {e : Expr} {te : TE} {pos : Pos}
def tNext : TS := fun D σ H => D.nx σ H
def tSeq (t u : TS) : TS := fun D σ H => t { D with nx := u D } σ H
theorem pss_nil : PSs X [] tNext := fun _ _ σ H _ I h => wpAny_execs_nil ⟨σ, H, I, h⟩
theorem pss_cons (h1 : PS X st t) (h2 : PSs X rest u) : PSs X (st :: rest) (tSeq t u) := by
  intro pins s σ H D I h
  refine wpAny_execs_cons (thn (h1 pins s σ H { D with nx := u D } I h) fun f s1 q => ?_)
  cases f with
  | next =>
    obtain ⟨σ', H', I', q⟩ := q
    exact h2 pins s1 σ' H' D I' q
  | ret v => exact q
  | brk => exact q
  | cont => exact q
theorem pss_one (h1 : PS X st t) : PSs X [st] t := by
  intro pins s σ H D I h
  refine wpAny_execs_cons (thn (h1 pins s σ H D I h) fun f s1 q => ?_)
  cases f with
  | next => exact wpAny_execs_nil q
  | ret v => exact q
  | brk => exact q
  | cont => exact q
def tBreak : TS := fun D σ H => D.bk σ H
def tCont : TS := fun D σ H => D.ct σ H
/-- in a def's body nothing is shown -/
theorem Inv.quiet {pins : List (Addr × Obj)} {σ : St} {H : Hp} {s : Shared} (I : Inv X pins σ H s) : interactive X.env = false := by simp [interactive, I.ok.kind]
/-- an expression whose value is dropped -/
def tDrop (te : TE) : TS := fun D σ H => te σ H fun _ H1 => D.nx σ H1
theorem ps_expr (he : PE X e te) (hs : swapsWith e none pos.line X.env = pure false := by rfl) : PS X (.Expr e pos) (tDrop te) := by
  intro pins s σ H D I h
  exact wpAny_Expr_any (thn (he pins s σ H _ I h) fun v s1 ⟨x, H1, I1, r1, q1⟩ => ⟨σ, H1, I1, q1⟩) I.quiet hs
def tRet (te : TE) : TS := fun D σ H => te σ H D.rt
theorem ps_ret (he : PE X e te) : PS X (.Return (some e) pos) (tRet te) := by
  intro pins s σ H D I h
  exact wpAny_Return_some (thn (he pins s σ H _ I h) fun v s1 ⟨x, H1, I1, r1, q1⟩ => ⟨x, σ, H1, I1, r1, q1⟩)
def tRetN : TS := fun D _ H => D.rt .non H
def tIfS (c : TT) (t u : TS) : TS := fun D σ H => c σ H fun b H1 => if b = true then t D σ H1 else u D σ H1
theorem ps_if {c : Expr} {a b : List Stmt} {tc : TT} (hc : PT X c tc) (ha : PSs X a t) (hb : PSs X b u) : PS X (.If c a b pos) (tIfS tc t u) := by
  intro pins s σ H D I h
  refine wpAny_If (thn (hc pins s σ H _ I h) fun d s1 ⟨H1, I1, q1⟩ => ?_)
  cases d with
  | true => exact ha pins s1 σ H1 D I1 q1
  | false => exact hb pins s1 σ H1 D I1 q1
/-- code that the proof never comes to -/
def tNever : TS := fun _ _ _ => False
end

/-! ### targets -/
abbrev TG := V → St → Hp → (St → Hp → Prop) → Prop
abbrev TGs := List V → St → Hp → (St → Hp → Prop) → Prop
def PG (X : Cx) (target : Expr) (t : TG) : Prop :=
  ∀ (pins : List (Addr × Obj)) (s : Shared) (σ : St) (H : Hp) (v : V) (u : Value) (Q : St → Hp → Prop), Inv X pins σ H s → RelV v u → t v σ H Q →
    wpAny (model X.prog X.w) X.A (assign target X.env u) (fun _ s' => ∃ σ' H', Inv X pins σ' H' s' ∧ Q σ' H') X.xe s
/-- several targets, one after another -/
def PGs (X : Cx) (ts : List Expr) (t : TGs) : Prop :=
  ∀ (pins : List (Addr × Obj)) (s : Shared) (σ : St) (H : Hp) (vs : List V) (us : List Value) (Q : St → Hp → Prop), Inv X pins σ H s → Vals vs us → t vs σ H Q →
    wpAny (model X.prog X.w) X.A (assignInOrder ((assignEach ts X.env).map (·.2)) us) (fun _ s' => ∃ σ' H', Inv X pins σ' H' s' ∧ Q σ' H') X.xe s
/-- o[i] = v, by values -/
abbrev TSet := V → V → V → Hp → (Hp → Prop) → Prop
def PSet (X : Cx) (t : TSet) : Prop :=
  ∀ (pins : List (Addr × Obj)) (s : Shared) (σ : St) (H : Hp) (o i v : V) (ov iv u : Value) (Q : Hp → Prop), Inv X pins σ H s → RelV o ov → RelV i iv → RelV v u → t o i v H Q →
    wpAny (model X.prog X.w) X.A (setItem ov iv u) (fun _ s' => ∃ H', Inv X pins σ H' s' ∧ Q H') X.xe s
/-- a op= b, by values -/
abbrev TIp := V → V → Hp → VK → Prop
def PIp (X : Cx) (op : Operator) (t : TIp) : Prop :=
  ∀ (pins : List (Addr × Obj)) (s : Shared) (σ : St) (H : Hp) (x y : V) (v u : Value) (Q : VK), Inv X pins σ H s → RelV x v → RelV y u → t x y H Q →
    wpAny (model X.prog X.w) X.A (inplaceOp op v u) (EP X pins σ Q) X.xe s
section
variable {X : Cx} {pos : Pos}
def gName (i : Nat) : TG := fun v σ H Q => Q (σ.set i (some v)) H
theorem pg_name {i : Nat} {x : Str} (hN : X.N.Nodup) (hi : X.N[i]? = some x) (hx : Loc X.env.scope x) (hf : X.fn x = true ∨ X.env.scope.names.lookup x = some .local := by first | exact .inl rfl | exact .inr rfl | assumption) : PG X (.Name x pos) (gName i) := by
  intro pins s σ H v u Q I r h
  exact wpAny_assign_Name (store_ok I hN hi hx r (fun s' I' => ⟨_, H, I', h⟩) hf)
def gNil : TGs := fun vs σ H Q => vs = [] ∧ Q σ H
def gCons (t : TG) (u : TGs) : TGs := fun vs σ H Q => ∃ v r, vs = v :: r ∧ t v σ H fun σ' H' => u r σ' H' Q
theorem pgs_nil : PGs X [] gNil := by
  intro pins s σ H vs us Q I r h
  obtain ⟨e, h⟩ := h
  subst e
  cases r
  exact assignInOrder_nil ⟨σ, H, I, h⟩
theorem pgs_cons {e : Expr} {es : List Expr} {t : TG} {u : TGs} (h1 : PG X e t) (h2 : PGs X es u)
    (hs : (assignEach (e :: es) X.env).map (·.2) = assign e X.env :: (assignEach es X.env).map (·.2) := by rfl) : PGs X (e :: es) (gCons t u) := by
  intro pins s σ H vs us Q I r h
  obtain ⟨v, vr, e1, h⟩ := h
  subst e1
  cases r with
  | cons r rr =>
    rw [hs]
    refine assignInOrder_cons (thn (h1 pins s σ H _ _ _ I r h) fun _ s1 ⟨σ1, H1, I1, q1⟩ => ?_)
    exact h2 pins s1 σ1 H1 _ _ Q I1 rr q1
/-- (a, b, ..) = a tuple of that length -/
def gTup (K : PySem.W.Frag) (n : Nat) (t : TGs) : TG := fun v σ H Q => ∃ a xs, v = .ref a ∧ SqT K H a xs ∧ xs.length = n ∧ t xs σ H Q
theorem pg_tup {es : List Expr} {k : Nat} {t : TGs} {n : Nat} (hc : X.calm = true) (h : PGs X es t)
    (hn : (assignEach es X.env).length = n := by rfl) (hst : (assignEach es X.env).findIdx? (·.1) = none := by rfl) : PG X (.Tuple es k pos) (gTup X.K n t) := by
  intro pins s σ H v u Q I r hw
  obtain ⟨a, xs, e1, hq, hl, hw⟩ := hw
  subst e1
  cases r
  obtain ⟨its, rv, ht, hz⟩ := I.tuple hq
  refine assign_Tuple_tuple (I.ok.hd hc) ht (by simp [hn, ← hl, rv.length]) hst fun h' hx => ?_
  have I1 : Inv X pins σ H { s with heap := h' } := I.kept (t' := s.toks) fun b o e => hx b o (Nat.ne_of_lt (Heap.lt_size e)) e
  exact h pins _ σ H xs _ Q I1 (by simpa using rv) hw
/-- o[i] = .. -/
def gSub (to ti : TE) (t : TSet) : TG := fun v σ H Q => to σ H fun o H1 => ti σ H1 fun i H2 => t o i v H2 fun H3 => Q σ H3
theorem pg_sub {o i : Expr} {to ti : TE} {t : TSet} (ho : PE X o to) (hi : PE X i ti) (hs : PSet X t)
    (ha : ∀ v, assign (.Subscript o i pos) X.env v = (do
      let ov ← holding [v] (eval o X.env)
      let iv ← holding [v, ov] (eval i X.env)
      standAt pos
      holding [v, ov, iv] (setItem ov iv v)
      release [v, ov, iv] []) := by intro _; rfl) : PG X (.Subscript o i pos) (gSub to ti t) := by
  intro pins s σ H v u Q I r h
  rw [ha]
  refine wpAny_bind (wpAny_holding (thn (ho pins s σ H _ I h) fun ov s1 ⟨x, H1, I1, r1, q1⟩ => ?_))
  refine wpAny_bind (wpAny_holding (thn (hi pins s1 σ H1 _ I1 q1) fun iv s2 ⟨y, H2, I2, r2, q2⟩ => ?_))
  refine wpAny_bind (wpAny_standAt (wpAny_bind (wpAny_holding (thn (hs pins s2 σ H2 x y v ov iv u _ I2 r1 r2 r q2) fun _ s3 ⟨H3, I3, q3⟩ => ?_))))
  exact wpAny_release ⟨σ, H3, I3, q3⟩
/-- target = value -/
def tAsg (te : TE) (g : TG) : TS := fun D σ H => te σ H fun x H1 => g x σ H1 D.nx
theorem ps_asg {tg e : Expr} {te : TE} {g : TG} (he : PE X e te) (hg : PG X tg g) (hs : swapsWithSole [tg] e pos.line X.env = pure false := by rfl) (hw : swappedStores [tg] e X.env = pure none := by rfl)
    (h1 : (assignEach [tg] X.env).map (·.2) = [assign tg X.env] := by rfl) : PS X (.Assign [tg] e pos) (tAsg te g) := by
  intro pins s σ H D I h
  refine wpAny_Assign_stores (thn (he pins s σ H _ I h) fun v s1 ⟨x, H1, I1, r1, q1⟩ => ?_) hs hw
  rw [h1]
  exact thn (hg pins s1 σ H1 x v _ I1 r1 q1) fun _ s2 q => q
/-- name = value -/
theorem ps_set {i : Nat} {x : Str} {e : Expr} {te : TE} {pos' : Pos} (hN : X.N.Nodup) (hi : X.N[i]? = some x) (hx : Loc X.env.scope x) (he : PE X e te) (hs : swapsWith e (some (.Name x pos')) pos.line X.env = pure false := by rfl) (hf : X.fn x = true ∨ X.env.scope.names.lookup x = some .local := by first | exact .inl rfl | exact .inr rfl | assumption) :
    PS X (.Assign [.Name x pos'] e pos) (tAsg te (gName i)) := by
  intro pins s σ H D I h
  refine wpAny_Assign_Name (thn (he pins s σ H _ I h) fun v s1 ⟨y, H1, I1, r1, q1⟩ => ?_) hs
  exact store_ok I1 hN hi hx r1 (fun s2 I2 => ⟨_, H1, I2, q1⟩) hf
/-- a, b = x, y with plain local names: stored from the right; the pair itself is not tracked (the opening rows as in PyProof/Rows/TupAssign.lean:23) -/
def tPar (i j : Nat) (ta : TA) : TS := fun D σ H => ta σ H fun vs H1 => ∃ v w, vs = [v, w] ∧ D.nx ((σ.set i (some v)).set j (some w)) H1
/-- name op= e -/
def tAug (i : Nat) (te : TE) (ti : TIp) : TS := fun D σ H => ∃ x, σ[i]? = some (some x) ∧ te σ H fun y H1 => ti x y H1 fun z H2 => D.nx (σ.set i (some z)) H2
/-- o[i] op= e -/
def tAugS (to ti te : TE) (tget : V → V → Hp → VK → Prop) (tip : TIp) (tset : TSet) : TS := fun D σ H => to σ H fun o H1 => ti σ H1 fun i H2 => tget o i H2 fun x H3 => te σ H3 fun y H4 => tip x y H4 fun z H5 => tset o i z H5 fun H6 => D.nx σ H6
/-- o[i], by values -/
def PGet (X : Cx) (t : V → V → Hp → VK → Prop) : Prop :=
  ∀ (pins : List (Addr × Obj)) (s : Shared) (σ : St) (H : Hp) (o i : V) (ov iv : Value) (Q : VK), Inv X pins σ H s → RelV o ov → RelV i iv → t o i H Q →
    wpAny (model X.prog X.w) X.A (getItem ov iv) (EP X pins σ Q) X.xe s
/-- ints -/
def ipI (f : Int → Int → Int) : TIp := fun x y H Q => ∃ i j, x = .int i ∧ y = .int j ∧ Q (.int (f i j)) H
end

/-! ### while -/
section
variable {X : Cx} {pos : Pos}
/-- the invariant W with its measure -/
def tWhile (c : TT) (tb : TS) : TS := fun D σ H => ∃ W : Nat → St → Hp → Prop, (∃ m, W m σ H) ∧ ∀ m σ H, W m σ H →
  c σ H fun b H1 => if b = true then ∃ N : St → Hp → Prop, (∀ σ' H', N σ' H' → ∃ m', m' < m ∧ W m' σ' H') ∧ tb { D with nx := N, ct := N, bk := D.nx } σ H1 else D.nx σ H1
theorem ps_while {c : Expr} {body : List Stmt} {tc : TT} {tb : TS} (hp : PassesOwn (model X.prog X.w) X.A X.env X.xe) (hc : PT X c tc) (hb : PSs X body tb) : PS X (.While c body [] pos) (tWhile tc tb) := by
  intro pins s σ H D I h
  obtain ⟨W, ⟨m0, w0⟩, turn⟩ := h
  refine wpAny_While (codeAny_whileLoop (fun n s' => ∃ σ' H', Inv X pins σ' H' s' ∧ W n σ' H') ?_ m0 ⟨σ, H, I, w0⟩)
  rintro n s1 ⟨σ1, H1, I1, w1⟩
  refine wpAny_passesOwn hp (thn (hc pins s1 σ1 H1 _ I1 (turn n σ1 H1 w1)) fun b s2 ⟨H2, I2, q2⟩ => ?_)
  cases b with
  | true =>
    obtain ⟨N, hN, q2⟩ := q2
    rw [if_pos rfl]
    refine wpAny_passesOwn hp (thn (hb pins s2 σ1 H2 _ I2 q2) fun f s3 q3 => ?_)
    cases f with
    | next =>
      obtain ⟨σ3, H3, I3, n3⟩ := q3
      obtain ⟨m', hm, w3⟩ := hN σ3 H3 n3
      exact ⟨m', hm, σ3, H3, I3, w3⟩
    | cont =>
      obtain ⟨σ3, H3, I3, n3⟩ := q3
      obtain ⟨m', hm, w3⟩ := hN σ3 H3 n3
      exact ⟨m', hm, σ3, H3, I3, w3⟩
    | brk => exact q3
    | ret v => exact q3
  | false =>
    rw [if_neg Bool.false_ne_true]
    exact wpAny_execs_nil ⟨σ1, H2, I2, q2⟩
end

/-! ### what a loop or a comprehension walks -/
/-- at turn i: it yields x (the heap may grow), or it stops -/
structure It where
  go : Nat → Hp → Prop
  yld : Nat → Hp → V → Hp → Prop
  stop : Nat → Hp → Prop
/-- the iterator's own objects may turn: they are not the frame's, not pinned, younger than the entry (or a comprehension's own) -/
def FpOk (X : Cx) (pins : List (Addr × Obj)) (H : Hp) (b : Addr) : Prop :=
  H b = none ∧ b ≠ X.env.locals ∧ b ∉ X.fs ∧ (b ∈ X.ex ∨ X.s₀.heap.objs.size ≤ b) ∧ (∀ x c, X.env.cells.lookup x = some c → c ≠ b) ∧ ∀ p ∈ X.pn ++ pins, p.1 ≠ b
theorem Inv.fpOk {X : Cx} {pins : List (Addr × Obj)} {σ : St} {H H' : Hp} {s : Shared} {b : Addr} (I : Inv X pins σ H s) (hb : s.heap.objs.size ≤ b) (hn : H' b = none) : FpOk X pins H' b := by
  refine ⟨hn, Nat.ne_of_gt (Nat.lt_of_lt_of_le I.lt hb), I.nofs hb, .inr (Nat.le_trans I.sz hb), fun x c e z => ?_, fun p hp z => ?_⟩
  · obtain ⟨v, q⟩ := I.cell x c e
    exact absurd (Nat.lt_of_lt_of_le q.lt (by rw [z]; exact hb)) (Nat.lt_irrefl _)
  · exact absurd (Nat.lt_of_lt_of_le (Heap.lt_size (I.pin p hp).1) (by rw [z]; exact hb)) (Nat.lt_irrefl _)
structure Turn (P : Program) (w : World) (K : PySem.W.Frag) (tg : Expr) (J : It) (fp : List Addr) (it : Addr) (tn : Nat → Heap → Prop) : Prop where
  mem : it ∈ fp
  obj : ∀ i h, tn i h → ∀ b ∈ fp, ∃ o, h.get? b = some o ∧ ∀ v, o.data ≠ .cell v
  keep : ∀ i h h', tn i h → (∀ b ∈ fp, ∀ o, h.get? b = some o → h'.get? b = some o) → tn i h'
  item : ∀ (X : Cx), X.prog = P → X.w = w → X.K = K → X.calm = true → ∀ (i : Nat) (pins : List (Addr × Obj)) (s : Shared) (σ : St) (H : Hp) (E : Value → Shared → Prop), Inv X pins σ H s → (∀ b ∈ fp, FpOk X pins H b) → tn i s.heap → J.go i H →
    wpAny (model P w) X.A (pyNext (.ref it)) (fun r s1 => ∃ u, r = some u ∧
      wpAny (model P w) X.A (letOwnedTupleGo tg (.ref it) u) (fun _ s2 => ∃ x H', Inv X pins σ H' s2 ∧ RelV x u ∧ J.yld i H x H' ∧ tn (i + 1) s2.heap ∧ ∀ b ∈ fp, H' b = none) E s1) E s
  done : ∀ (X : Cx), X.prog = P → X.w = w → X.K = K → X.calm = true → ∀ (i : Nat) (pins : List (Addr × Obj)) (s : Shared) (σ : St) (H : Hp) (E : Value → Shared → Prop), Inv X pins σ H s → (∀ b ∈ fp, FpOk X pins H b) → tn i s.heap → J.stop i H →
    wpAny (model P w) X.A (pyNext (.ref it)) (fun r s1 => r = none ∧ Inv X pins σ H s1) E s
  self : ∀ (A : Around) (i : Nat) (s : Shared) (Q : Value → Shared → Prop) (E : Value → Shared → Prop), tn i s.heap → Q (.ref it) s → wpAny (model P w) A (pyIter (.ref it)) Q E s
abbrev TI := St → Hp → (It → Hp → Prop) → Prop
/-- an iterator has come -/
def PIE (X : Cx) (pins : List (Addr × Obj)) (σ : St) (tg : Expr) (R : It → Hp → Prop) (itv : Value) (s2 : Shared) : Prop :=
  ∃ (it : Addr) (fp : List Addr) (tn : Nat → Heap → Prop) (J : It) (H' : Hp), itv = .ref it ∧ Inv X pins σ H' s2 ∧ Turn X.prog X.w X.K tg J fp it tn ∧ tn 0 s2.heap ∧ (∀ b ∈ fp, FpOk X pins H' b) ∧ R J H'
def PI (X : Cx) (tg iter : Expr) (wi : TI) : Prop :=
  ∀ (pins : List (Addr × Obj)) (s : Shared) (σ : St) (H : Hp) (R : It → Hp → Prop), Inv X pins σ H s → wi σ H R →
    wpAny (model X.prog X.w) X.A (eval iter X.env) (fun v s1 => wpAny (model X.prog X.w) X.A (pyIter v) (PIE X pins σ tg R) X.xe s1) X.xe s

/-- the step ahead of the store is nothing for an iterator that keeps no tuple -/
theorem go_of {M : Model} {A : Around} {E : Value → Shared → Prop} {s : Shared} {tg : Expr} {it : Addr} {u : Value} {o : Obj} {n : String} {vs : Array Value} {Q : Unit → Shared → Prop} (ho : s.heap.get? it = some o) (hc : o.cls = .type n) (hd : o.data = .fields vs)
    (hn : ["enumerate", "zip", "dict_itemiterator", "dict_reverseitemiterator", "odict_iterator", "itertools.zip_longest", "itertools.pairwise"].contains n = false) (hQ : Q () s) : wpAny M A (letOwnedTupleGo tg (.ref it) u) Q E s := by
  unfold letOwnedTupleGo
  cases tg <;> first
    | exact wpAny_pure hQ
    | (cases u <;> first
        | exact wpAny_pure hQ
        | (refine wpAny_bind (wpAny_load ho ?_)
           rw [hc, hd]
           show wpAny M A (if (["enumerate", "zip", "dict_itemiterator", "dict_reverseitemiterator", "odict_iterator", "itertools.zip_longest", "itertools.pairwise"].contains n && vs[0]? == some (rawInt _)) = true then _ else _) Q E s
           rw [if_neg (by intro h; rw [hn, Bool.false_and] at h; cases h)]
           exact wpAny_pure hQ))

/-- the list at a, as it stands at each turn (a loop may append to it) -/
def Itl (K : PySem.W.Frag) (a : Addr) : It :=
  ⟨fun i H => ∃ xs x, SqL K H a xs ∧ xs[i]? = some x, fun i H x H' => H' = H ∧ ∀ xs, SqL K H a xs → xs[i]? = some x, fun i H => ∃ xs, SqL K H a xs ∧ xs.length ≤ i⟩
def Itt (K : PySem.W.Frag) (a : Addr) : It :=
  ⟨fun i H => ∃ xs x, SqT K H a xs ∧ xs[i]? = some x, fun i H x H' => H' = H ∧ ∀ xs, SqT K H a xs → xs[i]? = some x, fun i H => ∃ xs, SqT K H a xs ∧ xs.length ≤ i⟩
/-- lo, lo + 1, .. (n of them) -/
def Itr (lo : Int) (n : Nat) : It := ⟨fun i _ => i < n, fun i H x H' => H' = H ∧ x = .int (lo + i), fun i _ => n ≤ i⟩
theorem turn_list {P : Program} {w : World} {K : PySem.W.Frag} {tg : Expr} (a it : Addr) : Turn P w K tg (Itl K a) [it] it (fun i h => h.IsListIter it a i) where
  mem := by simp
  obj := fun i h st b hb => by
    have e : b = it := by simpa using hb
    subst e
    obtain ⟨o, e, c, d⟩ := st
    exact ⟨o, e, fun v z => by rw [d] at z; cases z⟩
  keep := fun i h h' st k => st.at fun o e => k it (by simp) o e
  item := by
    intro X hP hw hK hc i pins s σ H E I hf st hg
    subst hP hw hK
    obtain ⟨xs, x, hq, hx⟩ := hg
    obtain ⟨its, rv, p, hz⟩ := I.list hq
    obtain ⟨u, hu, ru⟩ := rv.get hx
    obtain ⟨f0, f1, f2, f3, f4, f5⟩ := hf it (by simp)
    refine wpAny_pyNext_list_item st p.isList (x := u) (by simpa using hu) fun h' st' sb => ?_
    have I1 : Inv X pins σ H { s with heap := h' } := I.turned (t' := s.toks) (fun b o hb e => (sb.2 b hb).trans e) f0 f1 f3 f4 f5
    obtain ⟨o, e, c, d⟩ := id st'
    exact ⟨u, rfl, go_of (s := { s with heap := h' }) e c d (by decide) ⟨x, H, I1, ru, ⟨rfl, fun ys hy => by rw [I.list_inj hy hq]; exact hx⟩, st', fun b hb => (hf b hb).1⟩⟩
  done := by
    intro X hP hw hK hc i pins s σ H E I hf st hg
    subst hP hw hK
    obtain ⟨xs, hq, hx⟩ := hg
    obtain ⟨its, rv, p, hz⟩ := I.list hq
    obtain ⟨f0, f1, f2, f3, f4, f5⟩ := hf it (by simp)
    have hl := rv.length
    exact wpAny_pyNext_list_end (I.ok.hd hc) st p.isList (by simp; omega) fun h' eb => ⟨rfl, I.turned (t' := s.toks) (fun b o hb e => eb b o hb e) f0 f1 f3 f4 f5⟩
  self := fun _ _ _ _ _ st h => wpAny_pyIter_listiter st h
theorem turn_range {P : Program} {w : World} {K : PySem.W.Frag} {tg : Expr} (it : Addr) (lo : Int) (n : Nat) : Turn P w K tg (Itr lo n) [it] it (fun i h => IsRangeIter h it (lo + (i : Nat) * 1) ((n : Int) - (i : Nat)) 1) where
  mem := by simp
  obj := fun i h st b hb => by
    have e : b = it := by simpa using hb
    subst e
    exact ⟨_, st, fun v z => by
      have z' : Data.fields _ = Data.cell v := z
      cases z'⟩
  keep := fun i h h' st k => k it (by simp) _ st
  item := by
    intro X hP hw hK hc i pins s σ H E I hf st hg
    subst hP hw hK
    obtain ⟨f0, f1, f2, f3, f4, f5⟩ := hf it (by simp)
    have W := Walks.range (prog := X.prog) (w := X.w) (I.ok.hd hc) it lo 1 n
    refine W.item i s _ _ hg st fun v h' tk hv st' kk => ?_
    obtain ⟨t, rfl⟩ := hv
    have I1 : Inv X pins σ H { s with heap := h', toks := tk } := I.turned (fun b o hb e => kk b o (by simpa using hb) e) f0 f1 f3 f4 f5
    refine ⟨_, rfl, go_of (s := { s with heap := h', toks := tk }) (n := "range_iterator") st' rfl rfl (by decide) ⟨.int (lo + i), H, I1, ⟨t, ?_⟩, ⟨rfl, rfl⟩, st', fun b hb => (hf b hb).1⟩⟩
    rw [Int.mul_one]
  done := by
    intro X hP hw hK hc i pins s σ H E I hf st hg
    subst hP hw hK
    obtain ⟨f0, f1, f2, f3, f4, f5⟩ := hf it (by simp)
    exact wpAny_pyNext_range_end (I.ok.hd hc) st (by have : n ≤ i := hg; omega) fun h' eb => ⟨rfl, I.turned (t' := s.toks) (fun b o hb e => eb b o hb e) f0 f1 f3 f4 f5⟩
  self := fun _ _ _ _ _ st h => wpAny_pyIter_rangeiter st h
end L2

namespace L2
open PySem PySem.Spec PyProof.Rows
section
variable {X : Cx} {tg : Expr}
def iList (K : PySem.W.Frag) (tl : TE) : TI := fun σ H R => tl σ H fun x H1 => ∃ a, x = .ref a ∧ (∃ xs, SqL K H1 a xs) ∧ R (Itl K a) H1
def iTup (K : PySem.W.Frag) (tl : TE) : TI := fun σ H R => tl σ H fun x H1 => ∃ a, x = .ref a ∧ (∃ xs, SqT K H1 a xs) ∧ R (Itt K a) H1
theorem pi_list {l : Expr} {tl : TE} (hl : PE X l tl) : PI X tg l (iList X.K tl) := by
  intro pins s σ H R I h
  refine thn (hl pins s σ H _ I h) fun v s1 ⟨x, H1, I1, r1, q1⟩ => ?_
  obtain ⟨a, e, ⟨xs, hq⟩, q⟩ := q1
  subst e
  cases r1
  obtain ⟨its, rv, p, hz⟩ := I1.list hq
  refine wpAny_pyIter_list p.isList ?_
  refine ⟨s1.heap.objs.size, [s1.heap.objs.size], _, _, H1, rfl, I1.kept (t' := s1.toks) fun b o e => Heap.get?_push_of_some _ e, turn_list a _, ⟨_, Heap.get?_push_size _ rfl, rfl, rfl⟩, fun b hb => ?_, q⟩
  have e : b = s1.heap.objs.size := by simpa using hb
  subst e
  exact I1.fpOk (Nat.le_refl _) (I1.hok.fresh (Nat.le_refl _))
/-- a range object just made, walked -/
theorem range_it {pins : List (Addr × Obj)} {σ : St} {H : Hp} {s : Shared} {R : It → Hp → Prop} {E : Value → Shared → Prop} {lo hi : Int} {t u v : Tok} {tk : Nat} (I : Inv X pins σ H s) (h1 : -(2 ^ 62) ≤ lo) (h2 : lo < 2 ^ 62) (h3 : -(2 ^ 62) ≤ hi) (h4 : hi < 2 ^ 62)
    (q : R (Itr lo (hi - lo).toNat) H) : wpAny (model X.prog X.w) X.A (pyIter (.ref s.heap.objs.size)) (PIE X pins σ tg R) E { s with heap := s.heap.push { cls := .type "range", data := .fields #[.int lo t, .int hi u, .int 1 v] }, toks := tk } := by
  refine wpAny_pyIter_range (IsRange.new ..) (small_one h1 h2 h3 h4) ?_
  have I1 : Inv X pins σ H { s with heap := s.heap.push { cls := .type "range", data := .fields #[.int lo t, .int hi u, .int 1 v] }, toks := tk } := I.kept fun b o e => Heap.get?_push_of_some _ e
  refine ⟨(s.heap.push { cls := .type "range", data := .fields #[.int lo t, .int hi u, .int 1 v] }).objs.size, [(s.heap.push { cls := .type "range", data := .fields #[.int lo t, .int hi u, .int 1 v] }).objs.size], _, _, H, rfl,
    I1.kept (t' := tk) fun b o e => Heap.get?_push_of_some _ e, turn_range _ lo (hi - lo).toNat, ?_, fun b hb => ?_, q⟩
  · have e1 : lo + ((0 : Nat) : Int) * 1 = lo := by simp
    have e2 : (((hi - lo).toNat : Nat) : Int) - ((0 : Nat) : Int) = Builtin.Range.rangeSize lo hi 1 := by rw [rangeSize_one]; split <;> omega
    show IsRangeIter _ _ (lo + ((0 : Nat) : Int) * 1) ((((hi - lo).toNat : Nat) : Int) - ((0 : Nat) : Int)) 1
    rw [e1, e2]
    exact Heap.get?_push_size _ rfl
  · have e : b = (s.heap.push { cls := .type "range", data := .fields #[.int lo t, .int hi u, .int 1 v] }).objs.size := by simpa using hb
    subst e
    exact I1.fpOk (Nat.le_refl _) (I1.hok.fresh (Nat.le_refl _))
def iRng1 (ta : TA) : TI := fun σ H R => ta σ H fun vs H1 => ∃ j : Int, vs = [.int j] ∧ -(2 ^ 62) ≤ j ∧ j < 2 ^ 62 ∧ R (Itr 0 j.toNat) H1
def iRng2 (ta : TA) : TI := fun σ H R => ta σ H fun vs H1 => ∃ i j : Int, vs = [.int i, .int j] ∧ (-(2 ^ 62) ≤ i ∧ i < 2 ^ 62 ∧ -(2 ^ 62) ≤ j ∧ j < 2 ^ 62) ∧ R (Itr i (j - i).toNat) H1
theorem pi_range1 {a : Expr} {ta : TA} {p pos : Pos} (hg : Gl X "range") (hm : X.mg "range" = none) (ha : PA X [a] ta) (hs : starEach [a] X.env = [(false, eval a X.env)] := by rfl) : PI X tg (.Call (.Name "range" p) [a] [] pos) (iRng1 ta) := by
  intro pins s σ H R I h
  refine Call_ (ld_blt I hg hm boot_range (PyProof.Rows.callWith_type1 (thn (ha pos pins s σ H _ I h) fun us s1 ⟨vs, H1, I1, r1, q1⟩ => ?_) hs rfl))
  obtain ⟨j, e, q1, q2, q⟩ := q1
  subst e
  cases r1 with
  | cons r rr =>
    cases rr
    obtain ⟨t, rfl⟩ := r
    exact call_range_1 (range_it I1 (by omega) (by omega) q1 q2 (by simpa using q))
theorem pi_range2 {a b : Expr} {ta : TA} {p pos : Pos} (hg : Gl X "range") (hm : X.mg "range" = none) (ha : PA X [a, b] ta) (hs : starEach [a, b] X.env = [(false, eval a X.env), (false, eval b X.env)] := by rfl) (hs2 : starEach [b] X.env = [(false, eval b X.env)] := by rfl) :
    PI X tg (.Call (.Name "range" p) [a, b] [] pos) (iRng2 ta) := by
  intro pins s σ H R I h
  refine Call_ (ld_blt I hg hm boot_range (PyProof.Rows.callWith_type1 (thn (ha pos pins s σ H _ I h) fun us s1 ⟨vs, H1, I1, r1, q1⟩ => ?_) (by rw [hs, hs2]) (by rw [hs2]; rfl)))
  obtain ⟨i, j, e, ⟨q1, q2, q3, q4⟩, q⟩ := q1
  subst e
  cases r1 with
  | cons r rr =>
    cases rr with
    | cons r' rr =>
      cases rr
      obtain ⟨t, rfl⟩ := r
      obtain ⟨t', rfl⟩ := r'
      exact call_range_2 (range_it I1 q1 q2 q3 q4 q)

/-! ### for -/
/-- W: the invariant by the turn and a measure; N: what the body is to reach -/
def tFor (wi : TI) (g : TG) (tb : TS) : TS := fun D σ H => wi σ H fun J H1 => ∃ W : Nat → Nat → St → Hp → Prop, (∃ m, W 0 m σ H1) ∧ ∀ i m σ H, W i m σ H →
  (J.stop i H ∧ D.nx σ H) ∨ (J.go i H ∧ ∃ N : St → Hp → Prop, (∀ σ' H', N σ' H' → ∃ m', m' < m ∧ W (i + 1) m' σ' H') ∧ ∀ x H', J.yld i H x H' → g x σ H' fun σ2 H2 => tb { D with nx := N, ct := N, bk := D.nx } σ2 H2)
/-- the records at fp as they stand -/
def pinsAt (fp : List Addr) (h : Heap) : List (Addr × Obj) := fp.filterMap fun b => (h.get? b).map fun o => (b, o)
theorem mem_pinsAt {fp : List Addr} {h : Heap} {b : Addr} {o : Obj} (hb : b ∈ fp) (e : h.get? b = some o) : (b, o) ∈ pinsAt fp h := List.mem_filterMap.mpr ⟨b, hb, by rw [e]; rfl⟩
theorem of_pinsAt {fp : List Addr} {h : Heap} {p : Addr × Obj} (hp : p ∈ pinsAt fp h) : p.1 ∈ fp ∧ h.get? p.1 = some p.2 := by
  obtain ⟨b, hb, e⟩ := List.mem_filterMap.mp hp
  cases q : h.get? b with
  | none => rw [q] at e; cases e
  | some o =>
    rw [q] at e
    have e' : (b, o) = p := Option.some.inj e
    subst e'
    exact ⟨hb, q⟩
theorem Inv.pinned {pins : List (Addr × Obj)} {σ : St} {H : Hp} {s : Shared} {fp : List Addr} (I : Inv X pins σ H s) (hf : ∀ b ∈ fp, FpOk X pins H b) (ho : ∀ b ∈ fp, ∃ o, s.heap.get? b = some o ∧ ∀ v, o.data ≠ .cell v) : Inv X (pins ++ pinsAt fp s.heap) σ H s :=
  I.pins_of fun p hp => (List.mem_append.mp hp).elim (fun z => I.pin p (List.mem_append_right _ z)) fun z => by
    obtain ⟨hb, e⟩ := of_pinsAt z
    obtain ⟨f0, f1, f2, _⟩ := hf p.1 hb
    obtain ⟨o, e', d⟩ := ho p.1 hb
    rw [e] at e'; cases e'
    exact ⟨e, f0, f1, f2, d⟩
theorem Inv.unpinned {pins pl : List (Addr × Obj)} {σ : St} {H : Hp} {s : Shared} (I : Inv X (pins ++ pl) σ H s) : Inv X pins σ H s := I.pins_of fun p hp => I.pin p (List.mem_append_right _ (List.mem_append_left _ hp))
theorem ps_for {iter : Expr} {body : List Stmt} {wi : TI} {g : TG} {tb : TS} {pos : Pos} (hp : PassesOwn (model X.prog X.w) X.A X.env X.xe) (hc : X.calm = true) (hi : PI X tg iter wi) (hg : PG X tg g) (hb : PSs X body tb)
    (hs : ∀ x, foldedSetIterable iter X.env x = pure x := by intro _; rfl) : PS X (.For tg iter body [] pos) (tFor wi g tb) := by
  intro pins s σ H D I h
  refine wpAny_For (thn (hi pins s σ H _ I h) fun v s1 h1 => thn h1 fun itv s2 h2 => ?_) hs
  obtain ⟨it, fp, tn, J, H2, e, I2, T, st2, f2, W, ⟨m0, w0⟩, turn⟩ := h2
  subst e
  -- what stays true of the iterator's objects through the loop
  have stat : ∀ {H' : Hp}, (∀ b ∈ fp, H' b = none) → ∀ b ∈ fp, FpOk X pins H' b := fun hn b hb => ⟨hn b hb, (f2 b hb).2⟩
  refine codeAny_forLoop_any (fun n s' => ∃ i σ' H', Inv X pins σ' H' s' ∧ tn i s'.heap ∧ (∀ b ∈ fp, H' b = none) ∧ W i n σ' H') ?_ m0 ⟨0, σ, H2, I2, st2, fun b hb => (f2 b hb).1, w0⟩
  rintro n s3 ⟨i, σ3, H3, I3, st3, fr3, w3⟩
  rcases turn i n σ3 H3 w3 with ⟨stop, qn⟩ | ⟨go, N, hN, step⟩
  · refine wpAny_passesOwn hp (thn (T.done X rfl rfl rfl hc i pins s3 σ3 H3 X.xe I3 (stat fr3) st3 stop) fun r s4 ⟨hr, I4⟩ => ?_)
    subst hr
    exact wpAny_execs_nil ⟨σ3, H3, I4, qn⟩
  · refine wpAny_passesOwn hp (thn (T.item X rfl rfl rfl hc i pins s3 σ3 H3 X.xe I3 (stat fr3) st3 go) fun r s4 ⟨u, hr, h4⟩ => ?_)
    subst hr
    refine wpAny_passesOwn hp (thn h4 fun _ s5 ⟨x, H5, I5, r5, y5, st5, fr5⟩ => ?_)
    have I5' := I5.pinned (stat fr5) (T.obj _ _ st5)
    refine wpAny_passesOwn hp (thn (hg _ s5 σ3 H5 x u _ I5' r5 (step x H5 y5)) fun _ s6 ⟨σ6, H6, I6, q6⟩ => ?_)
    refine wpAny_passesOwn hp (thn (hb _ s6 σ6 H6 _ I6 q6) fun f s7 q7 => ?_)
    have again : ∀ {σ7 : St} {H7 : Hp}, Inv X (pins ++ pinsAt fp s5.heap) σ7 H7 s7 → N σ7 H7 → ∃ m, m < n ∧ ∃ i σ' H', Inv X pins σ' H' s7 ∧ tn i s7.heap ∧ (∀ b ∈ fp, H' b = none) ∧ W i m σ' H' := fun {σ7 H7} I7 n7 => by
      obtain ⟨m', hm, w7⟩ := hN σ7 H7 n7
      refine ⟨m', hm, i + 1, σ7, H7, I7.unpinned, T.keep _ _ _ st5 fun b hb o e => (I7.pin (b, o) (List.mem_append_right _ (List.mem_append_right _ (mem_pinsAt hb e)))).1, fun b hb => ?_, w7⟩
      obtain ⟨o, e, d⟩ := T.obj _ _ st5 b hb
      exact (I7.pin (b, o) (List.mem_append_right _ (List.mem_append_right _ (mem_pinsAt hb e)))).2.1
    cases f with
    | next => obtain ⟨σ7, H7, I7, n7⟩ := q7; exact again I7 n7
    | cont => obtain ⟨σ7, H7, I7, n7⟩ := q7; exact again I7 n7
    | brk => obtain ⟨σ7, H7, I7, q7⟩ := q7; exact ⟨σ7, H7, I7.unpinned, q7⟩
    | ret v => obtain ⟨x7, σ7, H7, I7, r7, q7⟩ := q7; exact ⟨x7, σ7, H7, I7.unpinned, r7, q7⟩
end

/-! ### the forms one uses -/
/-- over a list that the body leaves as it is -/
theorem for_list {K : PySem.W.Frag} {a : Addr} {xs : List V} {g : TG} {tb : TS} {D : Ends} {σ : St} {H : Hp} (Pv : Nat → St → Hp → Prop) (h0 : Pv 0 σ H) (hl : ∀ i σ H, i ≤ xs.length → Pv i σ H → SqL K H a xs)
    (hs : ∀ i x σ H, xs[i]? = some x → Pv i σ H → g x σ H fun σ2 H2 => tb { D with nx := Pv (i + 1), ct := Pv (i + 1), bk := D.nx } σ2 H2) (hd : ∀ σ H, Pv xs.length σ H → D.nx σ H) :
    ∃ W : Nat → Nat → St → Hp → Prop, (∃ m, W 0 m σ H) ∧ ∀ i m σ H, W i m σ H →
      ((Itl K a).stop i H ∧ D.nx σ H) ∨ ((Itl K a).go i H ∧ ∃ N : St → Hp → Prop, (∀ σ' H', N σ' H' → ∃ m', m' < m ∧ W (i + 1) m' σ' H') ∧ ∀ x H', (Itl K a).yld i H x H' → g x σ H' fun σ2 H2 => tb { D with nx := N, ct := N, bk := D.nx } σ2 H2) := by
  refine ⟨fun i m σ H => m = xs.length - i ∧ i ≤ xs.length ∧ Pv i σ H, ⟨xs.length, by simp, Nat.zero_le _, h0⟩, ?_⟩
  rintro i m σ H ⟨rfl, hi, p⟩
  have q := hl i σ H hi p
  by_cases hlt : i < xs.length
  · refine .inr ⟨⟨xs, xs[i], q, by simp [hlt]⟩, Pv (i + 1), fun σ' H' p' => ⟨xs.length - (i + 1), by omega, rfl, hlt, p'⟩, fun x H' y => ?_⟩
    obtain ⟨e, y⟩ := y
    subst e
    exact hs i x σ _ (y xs q) p
  · have e : i = xs.length := by omega
    subst e
    exact .inl ⟨⟨xs, q, Nat.le_refl _⟩, hd σ H p⟩
theorem for_range {lo : Int} {n : Nat} {g : TG} {tb : TS} {D : Ends} {σ : St} {H : Hp} (Pv : Nat → St → Hp → Prop) (h0 : Pv 0 σ H)
    (hs : ∀ i σ H, i < n → Pv i σ H → g (.int (lo + i)) σ H fun σ2 H2 => tb { D with nx := Pv (i + 1), ct := Pv (i + 1), bk := D.nx } σ2 H2) (hd : ∀ σ H, Pv n σ H → D.nx σ H) :
    ∃ W : Nat → Nat → St → Hp → Prop, (∃ m, W 0 m σ H) ∧ ∀ i m σ H, W i m σ H →
      ((Itr lo n).stop i H ∧ D.nx σ H) ∨ ((Itr lo n).go i H ∧ ∃ N : St → Hp → Prop, (∀ σ' H', N σ' H' → ∃ m', m' < m ∧ W (i + 1) m' σ' H') ∧ ∀ x H', (Itr lo n).yld i H x H' → g x σ H' fun σ2 H2 => tb { D with nx := N, ct := N, bk := D.nx } σ2 H2) := by
  refine ⟨fun i m σ H => m = n - i ∧ i ≤ n ∧ Pv i σ H, ⟨n, by simp, Nat.zero_le _, h0⟩, ?_⟩
  rintro i m σ H ⟨rfl, hi, p⟩
  by_cases hlt : i < n
  · refine .inr ⟨hlt, Pv (i + 1), fun σ' H' p' => ⟨n - (i + 1), by omega, rfl, hlt, p'⟩, fun x H' y => ?_⟩
    obtain ⟨e, y⟩ := y
    subst e y
    exact hs i σ _ hlt p
  · have e : i = n := by omega
    subst e
    exact .inl ⟨Nat.le_refl _, hd σ H p⟩
end L2

namespace L2
open PySem PySem.Spec PyProof.Rows

abbrev R2 := V → V → Hp → VK → Prop
/-- a two-place operation on values: f is binaryOp op, inplaceOp op or compareOp op -/
def OpR (X : Cx) (f : Value → Value → Sem Value) (r : R2) : Prop :=
  ∀ (pins : List (Addr × Obj)) (s : Shared) (σ : St) (H : Hp) (x y : V) (v u : Value) (Q : VK), Inv X pins σ H s → RelV x v → RelV y u → r x y H Q →
    wpAny (model X.prog X.w) X.A (f v u) (EP X pins σ Q) X.xe s
/-- a one-place operation -/
def UnR (X : Cx) (f : Value → Sem Value) (r : V → Hp → VK → Prop) : Prop :=
  ∀ (pins : List (Addr × Obj)) (s : Shared) (σ : St) (H : Hp) (x : V) (v : Value) (Q : VK), Inv X pins σ H s → RelV x v → r x H Q →
    wpAny (model X.prog X.w) X.A (f v) (EP X pins σ Q) X.xe s
/-- a call of a value that is known (a builtin, a type) with values -/
def CallR (X : Cx) (f : Value) (r : List V → Hp → VK → Prop) : Prop :=
  ∀ (pins : List (Addr × Obj)) (s : Shared) (σ : St) (H : Hp) (xs : List V) (us : List Value) (Q : VK), Inv X pins σ H s → Vals xs us → r xs H Q →
    wpAny (model X.prog X.w) X.A (call f us) (EP X pins σ Q) X.xe s
/-- a value's truth -/
def TruR (X : Cx) (r : V → Hp → (Bool → Hp → Prop) → Prop) : Prop :=
  ∀ (pins : List (Addr × Obj)) (s : Shared) (σ : St) (H : Hp) (x : V) (v : Value) (Q : Bool → Hp → Prop), Inv X pins σ H s → RelV x v → r x H Q →
    wpAny (model X.prog X.w) X.A (truthy v) (TP X pins σ Q) X.xe s

def tOp (r : R2) (ta tb : TE) : TE := fun σ H Q => ta σ H fun x H1 => tb σ H1 fun y H2 => r x y H2 Q
def tUn (r : V → Hp → VK → Prop) (ta : TE) : TE := fun σ H Q => ta σ H fun x H1 => r x H1 Q
/-- ints in, under C, and a value out -/
def rI (C : Int → Int → Prop) (g : Int → Int → V) : R2 := fun x y H Q => ∃ i j, x = .int i ∧ y = .int j ∧ C i j ∧ Q (g i j) H
def rI0 (g : Int → Int → V) : R2 := fun x y H Q => ∃ i j, x = .int i ∧ y = .int j ∧ Q (g i j) H
def rU (g : Int → V) : V → Hp → VK → Prop := fun x H Q => ∃ i, x = .int i ∧ Q (g i) H

section
variable {X : Cx} {a b c : Expr} {ta tb tc : TE} {pos : Pos}

theorem binT (ha : PE X a ta) (hb : PE X b tb) {pins : List (Addr × Obj)} {s : Shared} {σ : St} {H : Hp} {R : V → V → Hp → Prop} (I : Inv X pins σ H s)
    (h : ta σ H fun x H1 => tb σ H1 fun y H2 => R x y H2) {Q : Value → Shared → Prop} {f : Value → Value → Sem Value}
    (hf : ∀ v u s2 x y H2, Inv X pins σ H2 s2 → RelV x v → RelV y u → R x y H2 → wpAny (model X.prog X.w) X.A (f v u) Q X.xe s2) :
    wpAny (model X.prog X.w) X.A (eval a X.env) (fun v s₁ => wpAny (model X.prog X.w) X.A (eval b X.env) (fun u s₂ => wpAny (model X.prog X.w) X.A (f v u) Q X.xe s₂) X.xe s₁) X.xe s := by
  refine thn (ha pins s σ H _ I h) fun v s1 ⟨x, H1, I1, r1, q1⟩ => ?_
  refine thn (hb pins s1 σ H1 _ I1 q1) fun u s2 ⟨y, H2, I2, r2, q2⟩ => ?_
  exact hf v u s2 x y H2 I2 r1 r2 q2

theorem pe_op {op : Operator} {r : R2} (ho : OpR X (binaryOp op) r) (ha : PE X a ta) (hb : PE X b tb) : PE X (.BinOp a op b pos) (tOp r ta tb) := by
  intro pins s σ H Q I h
  exact wpAny_BinOp (binT ha hb I h fun v u s2 x y H2 I2 rx ry q => ho pins s2 σ H2 x y v u Q I2 rx ry q)
theorem pe_un {op : UnaryOp} {r : V → Hp → VK → Prop} (ho : UnR X (unaryOp op) r) (ha : PE X a ta) : PE X (.UnaryOp op a pos) (tUn r ta) := by
  intro pins s σ H Q I h
  exact UnaryOp_ (thn (ha pins s σ H _ I h) fun v s1 ⟨x, H1, I1, r1, q1⟩ => ho pins s1 σ H1 x v Q I1 r1 q1)
/-! ### ints -/
theorem opI {f : Value → Value → Sem Value} {C : Int → Int → Prop} {g : Int → Int → Int}
    (rule : ∀ (i j : Int) (t u : Tok) (s : Shared) (Q : Value → Shared → Prop) (E : Value → Shared → Prop), C i j → Q (.int (g i j) s.toks) { s with toks := s.toks + 1 } → wpAny (model X.prog X.w) X.A (f (.int i t) (.int j u)) Q E s) :
    OpR X f (rI C fun i j => .int (g i j)) := by
  intro pins s σ H x y v u Q I rx ry h
  obtain ⟨i, j, rfl, rfl, hc, q⟩ := h
  obtain ⟨t, rfl⟩ := rx
  obtain ⟨t', rfl⟩ := ry
  exact rule i j t t' s _ _ hc ⟨.int (g i j), H, I.tok _, ⟨_, rfl⟩, q⟩
theorem opI0 {f : Value → Value → Sem Value} {g : Int → Int → Int}
    (rule : ∀ (i j : Int) (t u : Tok) (s : Shared) (Q : Value → Shared → Prop) (E : Value → Shared → Prop), Q (.int (g i j) s.toks) { s with toks := s.toks + 1 } → wpAny (model X.prog X.w) X.A (f (.int i t) (.int j u)) Q E s) :
    OpR X f (rI0 fun i j => .int (g i j)) := by
  intro pins s σ H x y v u Q I rx ry h
  obtain ⟨i, j, rfl, rfl, q⟩ := h
  obtain ⟨t, rfl⟩ := rx
  obtain ⟨t', rfl⟩ := ry
  exact rule i j t t' s _ _ ⟨.int (g i j), H, I.tok _, ⟨_, rfl⟩, q⟩
theorem opB0 {f : Value → Value → Sem Value} {g : Int → Int → Bool}
    (rule : ∀ (i j : Int) (t u : Tok) (s : Shared) (Q : Value → Shared → Prop) (E : Value → Shared → Prop), Q (.bool (g i j)) s → wpAny (model X.prog X.w) X.A (f (.int i t) (.int j u)) Q E s) :
    OpR X f (rI0 fun i j => .bl (g i j)) := by
  intro pins s σ H x y v u Q I rx ry h
  obtain ⟨i, j, rfl, rfl, q⟩ := h
  obtain ⟨t, rfl⟩ := rx
  obtain ⟨t', rfl⟩ := ry
  exact rule i j t t' s _ _ ⟨.bl (g i j), H, I, rfl, q⟩

def CDiv (i j : Int) : Prop := 0 < j ∧ j < 1073741824
def CDivN (i j : Int) : Prop := j ≠ 0 ∧ j.natAbs < 1073741824
def CPow (i j : Int) : Prop := 0 ≤ j ∧ j ≤ 1000000 ∧ i.natAbs < 2 ^ 64
def CMul (i j : Int) : Prop := (-(2 ^ 64) < i ∧ i < 2 ^ 64) ∨ (-(2 ^ 64) < j ∧ j < 2 ^ 64)
theorem CMul.ok {i j : Int} (h : CMul i j) : IntMulOk i j := by
  rcases h with ⟨h1, h2⟩ | ⟨h1, h2⟩
  · exact .of_left (intBits_le_64 h1 h2)
  · exact .of_right (intBits_le_64 h1 h2)
theorem op_add : OpR X (binaryOp .Add) (rI0 fun i j => .int (i + j)) := opI0 fun _ _ _ _ _ _ _ q => add_int q
theorem op_sub : OpR X (binaryOp .Sub) (rI0 fun i j => .int (i - j)) := opI0 fun _ _ _ _ _ _ _ q => sub_int q
theorem op_mul : OpR X (binaryOp .Mult) (rI CMul fun i j => .int (i * j)) := opI fun _ _ _ _ _ _ _ hc q => mul_int q hc.ok
/-- % by a positive divisor of any size -/
theorem op_mod : OpR X (binaryOp .Mod) (rI (fun _ j => 0 < j) fun i j => .int (i % j)) := opI fun i j _ _ _ _ _ hc q => by
  have h1 : (0 : Int) < j := hc
  exact mod_int' (by omega) (by rw [Int.fmod_eq_emod_of_nonneg i (by omega)]; exact q)
theorem op_pow : OpR X (binaryOp .Pow) (rI CPow fun i j => .int (i ^ j.toNat)) := opI fun _ _ _ _ _ _ _ hc q => pow_int_small hc.1 hc.2.1 hc.2.2 q
theorem op_xor : OpR X (binaryOp .BitXor) (rI0 fun i j => .int (Builtin.bitXor i j)) := opI0 fun _ _ _ _ _ _ _ q => xor_int q

theorem unI {f : Value → Sem Value} {g : Int → Int}
    (rule : ∀ (i : Int) (t : Tok) (s : Shared) (Q : Value → Shared → Prop) (E : Value → Shared → Prop), Q (.int (g i) s.toks) { s with toks := s.toks + 1 } → wpAny (model X.prog X.w) X.A (f (.int i t)) Q E s) :
    UnR X f (rU fun i => .int (g i)) := by
  intro pins s σ H x v Q I rx h
  obtain ⟨i, rfl, q⟩ := h
  obtain ⟨t, rfl⟩ := rx
  exact rule i t s _ _ ⟨.int (g i), H, I.tok _, ⟨_, rfl⟩, q⟩
theorem un_neg : UnR X (unaryOp .USub) (rU fun i => .int (-i)) := unI fun _ _ _ _ _ q => neg_int q
/-! ### bools among ints: n += (a < b) -/
end

/-! ### comparisons -/
/-- the scalars that == tells apart as data does -/
def scal : V → V → Bool
  | .non, .non => true | .non, .int _ => true | .int _, .non => true | .non, .bl _ => true | .bl _, .non => true | .non, .str _ => true | .str _, .non => true
  | .int _, .int _ => true | .bl _, .bl _ => true | .str _, .str _ => true | .byt _, .byt _ => true
  | .int _, .str _ => true | .str _, .int _ => true | .bl _, .str _ => true | .str _, .bl _ => true
  | _, _ => false
def rEq : R2 := fun x y H Q => scal x y = true ∧ Q (.bl (decide (x = y))) H
def rNe : R2 := fun x y H Q => scal x y = true ∧ Q (.bl (!decide (x = y))) H

theorem dec_int {i j : Int} : decide (V.int i = V.int j) = (i == j) := by
  rw [Bool.eq_iff_iff]
  simp
theorem dec_bl {i j : Bool} : decide (V.bl i = V.bl j) = (i == j) := by
  rw [Bool.eq_iff_iff]
  simp
theorem dec_str {i j : Str} : decide (V.str i = V.str j) = (i == j) := by
  rw [Bool.eq_iff_iff]
  simp
theorem dec_byt {i j : Array UInt8} : decide (V.byt i = V.byt j) = (i.toList == j.toList) := by
  rw [Bool.eq_iff_iff]
  cases i
  cases j
  simp

section
variable {X : Cx} {a b c : Expr} {ta tb tc : TE} {pos : Pos}
theorem fin_bl {pins : List (Addr × Obj)} {σ : St} {H : Hp} {s : Shared} {Q : VK} {k k' : Bool} (I : Inv X pins σ H s) (q : Q (.bl k) H) (e : k = k') : EP X pins σ Q (.bool k') s := by
  subst e
  exact ⟨.bl k, H, I, rfl, q⟩
theorem op_eq : OpR X (compareOp .Eq) rEq := by
  intro pins s σ H x y v u Q I rx ry h
  obtain ⟨hs, q⟩ := h
  cases x with
  | non =>
    cases rx
    cases y with
    | non => cases ry; exact PySem.EqNone.eq_none_none (fin_bl I q (by simp))
    | bl j => cases ry; exact PySem.EqNone.eq_none_bool (fin_bl I q (by simp))
    | int j => obtain ⟨t', rfl⟩ := ry; exact PySem.EqNone.eq_none_int (fin_bl I q (by simp))
    | str j => obtain ⟨t', rfl⟩ := ry; exact PySem.EqNone.eq_none_str (fin_bl I q (by simp))
    | _ => exact absurd (show false = true from hs) Bool.false_ne_true
  | bl i =>
    cases rx
    cases y with
    | non => cases ry; exact PySem.EqNone.eq_bool_none (fin_bl I q (by simp))
    | bl j => cases ry; exact eq_bool (fin_bl I q dec_bl)
    | str j => obtain ⟨t', rfl⟩ := ry; exact PySem.EqMixed.eq_bool_str (fin_bl I q (by simp))
    | _ => exact absurd (show false = true from hs) Bool.false_ne_true
  | int i =>
    obtain ⟨t, rfl⟩ := rx
    cases y with
    | non => cases ry; exact PySem.EqNone.eq_int_none (fin_bl I q (by simp))
    | int j => obtain ⟨t', rfl⟩ := ry; exact eq_int (fin_bl I q dec_int)
    | str j => obtain ⟨t', rfl⟩ := ry; exact PySem.EqMixed.eq_int_str (fin_bl I q (by simp))
    | _ => exact absurd (show false = true from hs) Bool.false_ne_true
  | str i =>
    obtain ⟨t, rfl⟩ := rx
    cases y with
    | non => cases ry; exact PySem.EqNone.eq_str_none (fin_bl I q (by simp))
    | bl j => cases ry; exact PySem.EqMixed.eq_str_bool (fin_bl I q (by simp))
    | int j => obtain ⟨t', rfl⟩ := ry; exact PySem.EqMixed.eq_str_int (fin_bl I q (by simp))
    | str j => obtain ⟨t', rfl⟩ := ry; exact eq_str (fin_bl I q dec_str)
    | _ => exact absurd (show false = true from hs) Bool.false_ne_true
  | byt i =>
    obtain ⟨t, rfl⟩ := rx
    cases y with
    | byt j => obtain ⟨t', rfl⟩ := ry; exact PySem.W.eq_bytes (fin_bl I q dec_byt)
    | _ => exact absurd (show false = true from hs) Bool.false_ne_true
  | _ => cases y <;> exact absurd (show false = true from hs) Bool.false_ne_true
theorem op_lt : OpR X (compareOp .Lt) (rI0 fun i j => .bl (decide (i < j))) := opB0 fun _ _ _ _ _ _ _ q => lt_int q
theorem op_gt : OpR X (compareOp .Gt) (rI0 fun i j => .bl (decide (j < i))) := opB0 fun _ _ _ _ _ _ _ q => gt_int q
theorem op_ge : OpR X (compareOp .GtE) (rI0 fun i j => .bl (decide (j ≤ i))) := opB0 fun _ _ _ _ _ _ _ q => ge_int q
/-- is, is not of two objects that are tracked lists or instances -/
def isObj : HO → Bool
  | .lst _ => true
  | .ins _ _ _ => true
  | _ => false
/-- two rules for one operation: by cases -/
theorem OpR.or {f : Value → Value → Sem Value} {r r' : R2} (h : OpR X f r) (h' : OpR X f r') : OpR X f (fun x y H Q => r x y H Q ∨ r' x y H Q) := by
  intro pins s σ H x y v u Q I rx ry q
  rcases q with q | q
  · exact h pins s σ H x y v u Q I rx ry q
  · exact h' pins s σ H x y v u Q I rx ry q

theorem nomark (b : Expr) {op : CmpOp} (h : op ≠ .In := by decide) (h2 : op ≠ .NotIn := by decide) : behindInMarks op b = false := by
  have e1 : (op == CmpOp.In) = false := by cases op <;> first | rfl | exact absurd rfl h
  have e2 : (op == CmpOp.NotIn) = false := by cases op <;> first | rfl | exact absurd rfl h2
  cases b <;> simp [behindInMarks, e1, e2]
/-- a comparison as a value; hm: nomark b, or (for in, not in) by with_unfolding_all rfl -/
theorem pe_cmpR {op : CmpOp} {r : R2} (ho : OpR X (compareOp op) r) (ha : PE X a ta) (hb : PE X b tb) (hm : behindInMarks op b = false) : PE X (.Compare a [op] [b] pos) (tOp r ta tb) := by
  intro pins s σ H Q I h
  exact wpAny_Compare1 (binT ha hb I h fun v u s2 x y H2 I2 rx ry q => ho pins s2 σ H2 x y v u Q I2 rx ry q) hm
/-- a reading of a value as a test -/
def tTest (t : TE) : TT := fun σ H Q => t σ H fun x H' => ∃ k, x = .bl k ∧ Q k H'
theorem pt_cmpR {op : CmpOp} {r : R2} (ho : OpR X (compareOp op) r) (ha : PE X a ta) (hb : PE X b tb) (hm : behindInMarks op b = false) : PT X (.Compare a [op] [b] pos) (tTest (tOp r ta tb)) := by
  intro pins s σ H Q I h
  refine wpAny_isTrue_Compare1 (thn (ha pins s σ H _ I h) fun v s1 ⟨x, H1, I1, r1, q1⟩ => thn (hb pins s1 σ H1 _ I1 q1) fun u s2 ⟨y, H2, I2, r2, q2⟩ =>
    thn (ho pins s2 σ H2 x y v u _ I2 r1 r2 q2) fun c s3 ⟨z, H3, I3, r3, k, e, q3⟩ => ?_) hm
  subst e
  cases r3
  exact wpAny_truthy_bool ⟨H3, I3, q3⟩
/-- a op1 b op2 c -/
def tChain (r r' : R2) (ta tb tc : TE) : TE := fun σ H Q => ta σ H fun x H1 => tb σ H1 fun y H2 => r x y H2 fun z H3 => ∃ k, z = .bl k ∧
  (if k = true then tc σ H3 fun w' H4 => r' y w' H4 Q else Q (.bl false) H3)
theorem pt_chain {op op' : CmpOp} {r r' : R2} (ho : OpR X (compareOp op) r) (ho' : OpR X (compareOp op') r') (ha : PE X a ta) (hb : PE X b tb) (hc : PE X c tc)
    (hm : lastMarks [op, op'] [b, c] = false := by with_unfolding_all rfl) : PT X (.Compare a [op, op'] [b, c] pos) (tTest (tChain r r' ta tb tc)) := by
  intro pins s σ H Q I h
  refine isTrue_chain (thn (ha pins s σ H _ I h) fun v s1 ⟨x, H1, I1, r1, q1⟩ => test_link (thn (hb pins s1 σ H1 _ I1 q1) fun u s2 ⟨y, H2, I2, r2, q2⟩ =>
    thn (ho pins s2 σ H2 x y v u _ I2 r1 r2 q2) fun d s3 ⟨z, H3, I3, r3, k, e, q3⟩ => ?_)) hm
  subst e
  cases r3
  refine wpAny_truthy_bool ?_
  cases k with
  | false =>
    obtain ⟨k', e', q'⟩ := q3
    cases e'
    exact ite_ff ⟨H3, I3, q'⟩
  | true =>
    refine ite_tt (test_last (thn (hc pins s3 σ H3 _ I3 q3) fun w' s4 ⟨z', H4, I4, r4, q4⟩ => thn (ho' pins s4 σ H4 y z' u w' _ I4 r2 r4 q4) fun d' s5 ⟨z2, H5, I5, r5, k2, e2, q5⟩ => ?_))
    subst e2
    cases r5
    exact wpAny_truthy_bool ⟨H5, I5, q5⟩

/-! ### truth -/
/-- a value's truth by the abstract heap -/
def TruV (K : PySem.W.Frag) (x : V) (H : Hp) (k : Bool) : Prop :=
  match x with
  | .non => k = false
  | .bl b => k = b
  | .int i => k = (i != 0)
  | .str y => y.length ≤ sizeLine ∧ k = ((y.length : Int) != 0)
  | .byt y => y.size ≤ sizeLine ∧ k = ((y.size : Int) != 0)
  | .ref p => (∃ xs, SqL K H p xs ∧ k = !xs.isEmpty) ∨ (∃ xs, SqT K H p xs ∧ k = !xs.isEmpty) ∨ ∃ kvs, H p = some (.dK kvs) ∧ k = !kvs.isEmpty
  | _ => False
theorem isEmpty_kv {κ : Type} {kvs : List (κ × V)} {vs : List (κ × Value)} (r : KV kvs vs) : (!vs.isEmpty) = !kvs.isEmpty := by
  cases r <;> rfl
theorem isEmpty_of {xs : List V} {its : List Value} (r : Vals xs its) : (!its.toArray.isEmpty) = !xs.isEmpty := by
  cases r <;> simp
theorem line63 : (sizeLine : Nat) < 2 ^ 63 := by rw [sizeLine_eq]; decide
theorem tru_ok : TruR X (fun x H Q => ∃ k, TruV X.K x H k ∧ Q k H) := by
  intro pins s σ H x v Q I rx h
  obtain ⟨k, e, q⟩ := h
  have hl := line63
  have hs : sizeLine = 16777216 := sizeLine_eq
  cases x with
  | non =>
    cases rx
    have e' : k = false := e
    subst e'
    exact truthy_none ⟨H, I, q⟩
  | bl b =>
    cases rx
    have e' : k = b := e
    subst e'
    exact wpAny_truthy_bool ⟨H, I, q⟩
  | int i =>
    obtain ⟨t, rfl⟩ := rx
    have e' : k = (i != 0) := e
    subst e'
    exact PySem.P.truthy_int ⟨H, I, q⟩
  | str y =>
    obtain ⟨t, rfl⟩ := rx
    obtain ⟨hy, e'⟩ : y.length ≤ sizeLine ∧ k = ((y.length : Int) != 0) := e
    subst e'
    exact PySem.P.truthy_str (by omega) ⟨H, I.tok _, q⟩
  | byt y =>
    obtain ⟨t, rfl⟩ := rx
    obtain ⟨hy, e'⟩ : y.size ≤ sizeLine ∧ k = ((y.size : Int) != 0) := e
    subst e'
    exact PySem.W.truthy_bytes (by omega) ⟨H, I.tok _, q⟩
  | ref p =>
    cases rx
    have e' : (∃ xs, SqL X.K H p xs ∧ k = !xs.isEmpty) ∨ (∃ xs, SqT X.K H p xs ∧ k = !xs.isEmpty) ∨ ∃ kvs, H p = some (.dK kvs) ∧ k = !kvs.isEmpty := e
    rcases e' with ⟨xs, hx, e'⟩ | ⟨xs, hx, e'⟩ | ⟨kvs, hx, e'⟩
    · subst e'
      obtain ⟨its, r, pl, hz⟩ := I.list hx
      have hlen := r.length
      exact wpAny_truthy_list pl.isList (by simp only [List.size_toArray]; omega) ⟨H, I.tok _, by rw [isEmpty_of r]; exact q⟩
    · subst e'
      obtain ⟨its, r, pl, hz⟩ := I.tuple hx
      have hlen := r.length
      exact truthy_tuple pl (by simp only [List.size_toArray]; omega) ⟨H, I.tok _, by rw [isEmpty_of r]; exact q⟩
    · subst e'
      obtain ⟨hz, hS, vs, r, m⟩ : kvs.length ≤ sizeLine ∧ (p == sysModules) = false ∧ ∃ vs, KV kvs vs ∧ s.heap.DictOf (mixKind X.prog X.w) p vs := I.hok p _ hx
      have hlen : kvs.length = vs.length := Paired.length r
      exact wpAny_truthy_dict hS m (by omega) ⟨H, I.tok _, by rw [isEmpty_kv r]; exact q⟩
  | _ => exact (show False from e).elim
/-- any expression whose test is its value's truth (a name, a call, a subscript, a field ..: he by fun _ => rfl) -/
theorem pt_truth (ha : PE X a ta) (he : ∀ whole, isTrue a X.env whole = (do let v ← whole; standAt a.pos; holding [v] (truthy v))) :
    PT X a (fun σ H Q => ta σ H fun x H' => ∃ k, TruV X.K x H' k ∧ Q k H') := by
  intro pins s σ H Q I h
  exact isTrue_plain (thn (ha pins s σ H _ I h) fun v s1 ⟨x, H1, I1, r1, q1⟩ => tru_ok pins s1 σ H1 x v Q I1 r1 q1) (he _)

/-! ### strs and bytes -/
def PlainIxT (b : Expr) : Prop := ∀ o i, subscripted b false o i = operate [o, i] (getItem o i)
/-! ### scalar builtins, by CallR -/
theorem vals1 {x : V} {us : List Value} (r : Vals [x] us) : ∃ u, us = [u] ∧ RelV x u := by
  cases r with
  | cons r1 r2 => cases r2; exact ⟨_, rfl, r1⟩
theorem vals2 {x y : V} {us : List Value} (r : Vals [x, y] us) : ∃ u w', us = [u, w'] ∧ RelV x u ∧ RelV y w' := by
  cases r with
  | cons r1 r2 =>
    cases r2 with
    | cons r3 r4 => cases r4; exact ⟨_, _, rfl, r1, r3⟩
theorem call_min2 (hc : X.calm = true) : CallR X (.builtin "min") (fun xs H Q => ∃ i j, xs = [.int i, .int j] ∧ Q (.int (if j < i then j else i)) H) := by
  intro pins s σ H xs us Q I r h
  obtain ⟨i, j, rfl, q⟩ := h
  obtain ⟨u, w', rfl, ⟨t, rfl⟩, ⟨t', rfl⟩⟩ := vals2 r
  refine min_two_ints (I.ok.hd hc) fun h' tk k => ⟨_, H, I.kept k, ?_, q⟩
  by_cases hj : j < i
  · rw [if_pos hj, if_pos hj]; exact ⟨_, rfl⟩
  · rw [if_neg hj, if_neg hj]; exact ⟨_, rfl⟩
theorem call_int1 : CallR X (.type "int") (fun xs H Q => (∃ i, xs = [.int i] ∧ Q (.int i) H) ∨ ∃ k, xs = [.bl k] ∧ Q (.int (if k then 1 else 0)) H) := by
  intro pins s σ H xs us Q I r h
  rcases h with ⟨i, rfl, q⟩ | ⟨k, rfl, q⟩
  · obtain ⟨u, rfl, t, rfl⟩ := vals1 r
    exact call_int_int ⟨.int i, H, I, ⟨_, rfl⟩, q⟩
  · obtain ⟨u, rfl, r1⟩ := vals1 r
    cases r1
    exact call_int_bool ⟨.int (if k then 1 else 0), H, I.tok _, ⟨_, rfl⟩, q⟩
/-- len of a str, a bytes, a list, a tuple -/
def LenV (K : PySem.W.Frag) (x : V) (H : Hp) (n : Nat) : Prop :=
  match x with
  | .str y => y.length ≤ sizeLine ∧ n = y.length
  | .byt y => y.size ≤ sizeLine ∧ n = y.size
  | .ref p => (∃ xs, SqL K H p xs ∧ n = xs.length) ∨ ∃ xs, SqT K H p xs ∧ n = xs.length
  | _ => False
end
end L2

namespace L2
open PySem PySem.Spec PyProof.Rows

/-! ### an instance, its attributes a map -/
structure ObjM (h : Heap) (x dx C : Addr) (mA : Str → Option Value) : Prop where
  obj : h.get? x = some (PySem.W.instObj C dx)
  ns : h.Ns1 dx mA
  ne : dx ≠ x

theorem lookIn_ns {h : Heap} {dx : Addr} {mA : Str → Option Value} (n : h.Ns1 dx mA) : ∃ od, h.get? dx = some od ∧ ∀ name, PySem.W.lookIn name od = some (mA name) := by
  obtain ⟨o, es, ep, ho, hd, hk, _, hm⟩ := n
  refine ⟨o, ho, fun name => ?_⟩
  have e := hm name
  unfold nsFind findBy at e
  rw [← Array.find?_toList] at e
  unfold PySem.W.lookIn
  rw [hd]
  dsimp only
  split
  · rename_i y q
    rw [q] at e
    exact congrArg some e
  · rename_i q
    rw [q] at e
    have a : es.toList.any (·.refKey) = false := by
      rw [List.any_eq_false]
      intro y hy
      obtain ⟨z, t, hkey⟩ := hk y (Array.mem_toList_iff.mp hy)
      simp [DictEntry.refKey, hkey]
    have a' : ¬ es.toList.any (·.refKey) = true := by rw [a]; exact Bool.false_ne_true
    rw [if_neg a']
    exact congrArg some e

theorem ObjM.look {h : Heap} {x dx C : Addr} {mA : Str → Option Value} (I : ObjM h x dx C mA) : ∃ od, PySem.W.InstAt h x (PySem.W.instObj C dx) C (some od) ∧ ∀ name, PySem.W.lookIn name od = some (mA name) :=
  let ⟨od, ho, hl⟩ := lookIn_ns I.ns
  ⟨od, ⟨I.obj, rfl, rfl, ho⟩, hl⟩

section
variable {prog : Program} {w : World} {A : Around} {E : Value → Shared → Prop} {s : Shared} {K : PySem.W.Frag} {x dx C f : Addr} {mA : Str → Option Value} {name : Str} {v : Value}

end

/-! ### the attributes as a list of pairs -/
def putF (f : Str) (v : V) : List (Str × V) → List (Str × V)
  | [] => [(f, v)]
  | (g, x) :: r => if g = f then (g, v) :: r else (g, x) :: putF f v r
theorem RelO.some_of {v : V} {o : Option Value} (r : RelO (some v) o) : ∃ u, o = some u ∧ RelV v u := by
  cases o with
  | none => exact (show False from r).elim
  | some u => exact ⟨u, rfl, r⟩
theorem RelO.none_of {o : Option Value} (r : RelO none o) : o = none := by
  cases o with
  | none => rfl
  | some u => exact (show False from r).elim
theorem handed_of {v : V} {u : Value} (r : RelV v u) : PySem.W.handedIn u = true := by
  cases v with
  | non => cases (show u = Value.none from r); rfl
  | bl b => cases (show u = Value.bool b from r); rfl
  | int i => obtain ⟨t, e⟩ := (show ∃ t, u = Value.int i t from r); cases e; rfl
  | str x => obtain ⟨t, e⟩ := (show ∃ t, u = Value.str x t from r); cases e; rfl
  | byt b => obtain ⟨t, e⟩ := (show ∃ t, u = Value.bytes b t from r); cases e; rfl
  | flt b => obtain ⟨t, e⟩ := (show ∃ t, u = Value.float b t from r); cases e; rfl
  | ref a => cases (show u = Value.ref a from r); rfl
  | ty n => cases (show u = Value.type n from r); rfl

section
variable {P : Program} {w : World} {H H' : Hp} {h h' : Heap} {a C dx : Addr} {fs fs' : List (Str × V)}
theorem ins_get (hok : HOk P w H h) (e : H a = some (.ins C dx fs)) : ∃ mA, ObjM h a dx C mA ∧ (∀ f, RelO (fs.lookup f) (mA f)) ∧ PySem.Within mA (fs.map (·.1)) ∧ fs.length ≤ 1000 ∧ H dx = some (.own a) := by
  obtain ⟨d, z, ne, ob, mA, n, r, q⟩ := (show ObjOk P w H h a (.ins C dx fs) from hok a _ e)
  exact ⟨mA, ⟨ob, n, ne⟩, r, q, z, d⟩
end

/-! ### what of the text a class must have -/
structure Cls (K : PySem.W.Frag) (C : Addr) : Prop where
  pg : PySem.W.plainGet K C Str.empty = true
  hd : PySem.W.hasDictIn K C = true
  po : PySem.W.plainOver K C = true
  sa : PySem.W.findIn K (.ref C) "__setattr__" = some (some (.builtin "object.__setattr__"))
theorem Cls.get {K : PySem.W.Frag} {C : Addr} (c : Cls K C) (f : Str) : PySem.W.plainGet K C f = true := c.pg
/-- no class of it has the name -/
def NoAttr (K : PySem.W.Frag) (C : Addr) (f : Str) : Prop := PySem.W.findIn K (.ref C) f = some none
/-- a constant of the class -/
structure Con (K : PySem.W.Frag) (C : Addr) (f : Str) (v : V) (u : Value) : Prop where
  at_ : PySem.W.findIn K (.ref C) f = some (some u)
  rel : RelV v u
  get : PySem.W.specialIn K u "__get__" = some none
  cp : PySem.W.copiedNames.contains f = false
/-- a method: a plain def of the class or of one above it -/
structure Meth (K : PySem.W.Frag) (C : Addr) (m : Str) (f : Addr) : Prop where
  at_ : PySem.W.findIn K (.ref C) m = some (some (.ref f))
  fn : PySem.W.isFn K (.ref f) = true
  kp : PySem.W.keepIn K (.ref f) = true

section
variable {X : Cx} {pins : List (Addr × Obj)} {σ : St} {H : Hp} {s : Shared} {a C dx : Addr} {fs : List (Str × V)} {f : Str} {v : V} {A : Around} {E : Value → Shared → Prop}

/-- a new instance, tracked, without attributes -/
theorem Inv.made (I : Inv X pins σ H s) : Inv X pins σ (upd (upd H s.heap.objs.size (.own (s.heap.objs.size + 1))) (s.heap.objs.size + 1) (.ins C s.heap.objs.size []))
    { s with heap := (s.heap.push PySem.W.emptyDict).push (PySem.W.instObj C s.heap.objs.size) } := by
  have e1 : (s.heap.push PySem.W.emptyDict).get? s.heap.objs.size = some PySem.W.emptyDict := Heap.get?_push_size s.heap rfl
  have e2 : ((s.heap.push PySem.W.emptyDict).push (PySem.W.instObj C s.heap.objs.size)).get? (s.heap.objs.size + 1) = some (PySem.W.instObj C s.heap.objs.size) := by
    have := Heap.get?_push_size (s.heap.push PySem.W.emptyDict) (o := PySem.W.instObj C s.heap.objs.size) rfl
    rwa [Heap.size_push] at this
  have e3 : (s.heap.push PySem.W.emptyDict).Ns s.heap.objs.size (fun _ => none) := ⟨PySem.W.emptyDict, #[], _, e1, rfl, (fun e he => absurd he (by simp)), fun _ => rfl⟩
  have I1 := I.laid (a := s.heap.objs.size) (o := .own (s.heap.objs.size + 1)) (h' := s.heap.push PySem.W.emptyDict) (t' := s.toks) (fun b u q => Heap.get?_push_of_some _ q) (Nat.le_refl _) ⟨_, e1⟩
  refine I1.laid (a := s.heap.objs.size + 1) (o := .ins C s.heap.objs.size []) (t' := s.toks) (fun b u q => Heap.get?_push_of_some _ q) (Nat.le_of_eq (Heap.size_push _ _)) ?_
  have ne : s.heap.objs.size ≠ s.heap.objs.size + 1 := Nat.ne_of_lt (Nat.lt_succ_self _)
  refine ⟨by rw [upd_ne ne, upd_same], Nat.zero_le _, ne, e2, fun _ => none, (Heap.Ns1.of_empty e3).at fun o q => Heap.get?_push_of_some _ q, fun _ => True.intro, fun y hy => absurd rfl hy⟩

/-- e.f where nothing but the object is asked: through attributeBase (super) and the last hold -/
theorem attr_of {prog : Program} {w : World} {env : Env} {e : Expr} {f : Str} {pos : Pos} {s : Shared} {Q : Value → Shared → Prop} (hb : attributeBase e f env (eval e env) = eval e env)
    (h : wpAny (model prog w) A (eval e env) (fun o s₁ => wpAny (model prog w) A (getAttr o f true) Q E s₁) E s) : wpAny (model prog w) A (eval (.Attribute e f pos) env) Q E s :=
  Attribute_any_ h (by rw [arm_eval_Attribute, hb])
end

/-! ### readings and rules -/
/-- e.f, an attribute of the instance -/
def tFld (K : PySem.W.Frag) (ta : TE) (f : Str) : TE := fun σ H Q => ta σ H fun x H1 => ∃ a C dx fs v, x = .ref a ∧ H1 a = some (.ins C dx fs) ∧ Cls K C ∧ NoAttr K C f ∧ fs.lookup f = some v ∧ Q v H1
/-- e.f, a constant of the class -/
def tCon (K : PySem.W.Frag) (ta : TE) (f : Str) : TE := fun σ H Q => ta σ H fun x H1 => ∃ a C dx fs v u, x = .ref a ∧ H1 a = some (.ins C dx fs) ∧ Cls K C ∧ Con K C f v u ∧ fs.lookup f = none ∧ Q v H1
/-- e.f = value -/
def sFld (K : PySem.W.Frag) (ta tv : TE) (f : Str) : TS := fun D σ H => tv σ H fun y H1 => ta σ H1 fun x H2 => ∃ a C dx fs, x = .ref a ∧ H2 a = some (.ins C dx fs) ∧ Cls K C ∧ NoAttr K C f ∧ fs.length < 1000 ∧
  D.nx σ (upd H2 a (.ins C dx (putF f y fs)))
/-- an augmented operator on two values -/
def InOp (X : Cx) (op : Operator) (rd : V → V → Hp → VK → Prop) : Prop :=
  ∀ (pins : List (Addr × Obj)) (s : Shared) (σ : St) (H : Hp) (x y : V) (u v : Value) (Q : VK), Inv X pins σ H s → RelV x u → RelV y v → rd x y H Q → wpAny (model X.prog X.w) X.A (inplaceOp op u v) (EP X pins σ Q) X.xe s
/-- e.f op= value -/
def sFldAug (K : PySem.W.Frag) (ta tv : TE) (rd : V → V → Hp → VK → Prop) (f : Str) : TS := fun D σ H => ta σ H fun x H1 => ∃ a C dx fs v, x = .ref a ∧ H1 a = some (.ins C dx fs) ∧ Cls K C ∧ NoAttr K C f ∧ fs.lookup f = some v ∧
  tv σ H1 fun y H2 => rd v y H2 fun z H3 => ∃ dx' fs', H3 a = some (.ins C dx' fs') ∧ fs'.length < 1000 ∧ D.nx σ (upd H3 a (.ins C dx' (putF f z fs')))

section
variable {X : Cx} {o e value : Expr} {f : Str} {pos pos' tpos : Pos} {ta tv : TE}
def rAdd : V → V → Hp → VK → Prop := fun x y H Q => ∃ i j, x = .int i ∧ y = .int j ∧ Q (.int (i + j)) H
def rSub : V → V → Hp → VK → Prop := fun x y H Q => ∃ i j, x = .int i ∧ y = .int j ∧ Q (.int (i - j)) H
end

/-! ### isinstance -/
section
variable {X : Cx} {pins : List (Addr × Obj)} {σ : St} {H : Hp} {s : Shared} {A : Around} {E : Value → Shared → Prop} {Q : Value → Shared → Prop} {c : Value} {b : Bool}
/-- the type of a value, as the fragment's deciders take it; for an instance its class -/
inductive TyOf (K : PySem.W.Frag) (H : Hp) : V → Value → Prop where
  | non : TyOf K H .non (.type "NoneType")
  | bl (x : Bool) : TyOf K H (.bl x) (.type "bool")
  | int (i : Int) : TyOf K H (.int i) (.type "int")
  | str (x : Str) : TyOf K H (.str x) (.type "str")
  | flt (x : UInt64) : TyOf K H (.flt x) (.type "float")
  | lst {a : Addr} {xs : List V} (e : H a = some (.lst xs)) : TyOf K H (.ref a) (.type "list")
  | frz {a : Addr} {o : Obj} {xs : List V} (e : H a = some (.frz o (.lst xs))) : TyOf K H (.ref a) (.type "list")
  | tup {a : Addr} {xs : List V} (e : H a = some (.tup xs)) : TyOf K H (.ref a) (.type "tuple")
  | dK {a : Addr} {kvs : List (Key × V)} (e : H a = some (.dK kvs)) : TyOf K H (.ref a) (.type "dict")
  | dT {a : Addr} {kvs : List (List Key × V)} (e : H a = some (.dT kvs)) : TyOf K H (.ref a) (.type "dict")
  | ins {a C dx : Addr} {fs : List (Str × V)} (e : H a = some (.ins C dx fs)) (cl : Cls K C) (ha : PySem.W.findIn K (.ref C) "__class__" = some (some (.builtin "object.__class__")))
      (hn : PySem.W.specialIn K (.builtin "object.__class__") "__get__" = some (some (.builtin "getset_descriptor.__get__"))) (htk : PySem.W.takesIn K (.builtin "object.__class__") = some true)
      (hm : PySem.W.mroIn K C (.type "object") = some true) : TyOf K H (.ref a) (.ref C)
/-- isinstance(x, c) for one class c, a built-in or an own one: kitOne's answer -/
theorem isinst_ok {x : V} {u t : Value} (I : Inv X pins σ H s) (rx : RelV x u) (ty : TyOf X.K H x t) (e : PySem.W.kitOne X.K t c = some b) (h : ∀ tk, Q (.bool b) { s with toks := tk }) :
    wpAny (model X.prog X.w) A (call (.builtin "isinstance") [u, c]) Q E s := by
  cases ty with
  | non => cases (show u = Value.none from rx); exact PySem.W.kia_one PySem.W.kitx_none I.kIn True.intro e (fun z => nomatch z) h
  | bl y => cases (show u = Value.bool y from rx); exact PySem.W.kia_one PySem.W.kitx_bool I.kIn True.intro e (fun z => nomatch z) h
  | int i => obtain ⟨t, q⟩ := (show ∃ t, u = Value.int i t from rx); cases q; exact PySem.W.kia_one PySem.W.kitx_int I.kIn True.intro e (fun z => nomatch z) h
  | str y => obtain ⟨t, q⟩ := (show ∃ t, u = Value.str y t from rx); cases q; exact PySem.W.kia_one PySem.W.kitx_str I.kIn True.intro e (fun z => nomatch z) h
  | flt y => obtain ⟨t, q⟩ := (show ∃ t, u = Value.float y t from rx); cases q; exact PySem.W.kia_one PySem.W.kitx_float I.kIn True.intro e (fun z => nomatch z) h
  | @lst a xs ea =>
    cases (show u = Value.ref a from rx)
    obtain ⟨_, _, n, _, h1⟩ := (show ObjOk X.prog X.w H s.heap a (.lst xs) from I.hok a _ ea)
    exact PySem.W.kia_one PySem.W.kitx_list I.kIn ⟨_, h1, rfl⟩ e (fun z => nomatch z) h
  | @frz a ob xs ea =>
    cases (show u = Value.ref a from rx)
    obtain ⟨_, _, _, n, _, h1⟩ := (show ObjOk X.prog X.w H s.heap a (.frz ob (.lst xs)) from I.hok a _ ea)
    exact PySem.W.kia_one PySem.W.kitx_list I.kIn ⟨_, h1, rfl⟩ e (fun z => nomatch z) h
  | @tup a xs ea =>
    cases (show u = Value.ref a from rx)
    obtain ⟨_, _, _, p⟩ := (show ObjOk X.prog X.w H s.heap a (.tup xs) from I.hok a _ ea)
    obtain ⟨o, h1, h2, _⟩ := p
    exact PySem.W.kia_one PySem.W.kitx_tuple I.kIn ⟨o, h1, h2⟩ e (fun z => nomatch z) h
  | @dK a kvs ea =>
    cases (show u = Value.ref a from rx)
    obtain ⟨_, _, vs, _, p⟩ := (show ObjOk X.prog X.w H s.heap a (.dK kvs) from I.hok a _ ea)
    obtain ⟨o, es, ep, h1, h2, _⟩ := p
    exact PySem.W.kia_one PySem.W.kitx_dict I.kIn ⟨o, h1, h2.1⟩ e (fun z => nomatch z) h
  | @dT a kvs ea =>
    cases (show u = Value.ref a from rx)
    obtain ⟨_, _, xs, _, o, es, ep, h1, h2, _⟩ := (show ObjOk X.prog X.w H s.heap a (.dT kvs) from I.hok a _ ea)
    exact PySem.W.kia_one PySem.W.kitx_dict I.kIn ⟨o, h1, h2.1⟩ e (fun z => nomatch z) h
  | @ins a C dx fs ea cl ha hn htk hm =>
    cases (show u = Value.ref a from rx)
    obtain ⟨mA, O, _⟩ := ins_get I.hok ea
    obtain ⟨od, J, _⟩ := O.look
    exact PySem.W.kia_one (PySem.W.kitx_own (cl.get _) cl.hd ha hn htk hm) I.kIn J e (fun z => nomatch z) h
end
end L2

namespace L2
open PySem PySem.Spec PyProof.Rows

/-! ### room -/
structure Room (k : Nat) (A : Around) : Prop where
  hd : A.handled = none
  dp : A.depth + 3 * k + 5 < recursionLimit
  un : A.units + 16 * k + 200 < cLine
theorem Room.mono {j k : Nat} {A : Around} (r : Room k A) (h : j ≤ k) : Room j A := ⟨r.hd, by have := r.dp; omega, by have := r.un; omega⟩
theorem Room.deeper {k : Nat} {A : Around} (r : Room (k + 1) A) (env : Env) : Room k (A.deeper env) :=
  ⟨r.hd, by have := r.dp; show A.depth + 1 + 3 * k + 5 < _; omega, by have := r.un; show A.units + 3 + 16 * k + 200 < _; omega⟩
theorem Room.in1 {k : Nat} {A : Around} (r : Room (k + 1) A) : Room k A.in1 :=
  ⟨r.hd, by have := r.dp; show A.depth + 3 * k + 5 < _; omega, by have := r.un; show A.units + 1 + 16 * k + 200 < _; omega⟩
theorem make_depth {A : Around} {C : Addr} {us : List Value} {kw : List (Str × Value)} : (A.under (.builtin "type.__call__" ⟨.ref C :: us, kw⟩)).depth = A.depth + 1 := by
  first | rfl | simp [Around.under, Code.weight, Code.isCreation, Code.isGuard, Code.isCaller, Code.frames, Code.isFrame, guardIds]
theorem make_units {A : Around} {C : Addr} {us : List Value} {kw : List (Str × Value)} : (A.under (.builtin "type.__call__" ⟨.ref C :: us, kw⟩)).units = A.units + 1 := by
  first | rfl | simp [Around.under, Code.cUnits, Code.frames, Code.isFrame]
theorem Room.make {k : Nat} {A : Around} (r : Room (k + 1) A) (C : Addr) (us : List Value) (kw : List (Str × Value)) : Room k (A.under (.builtin "type.__call__" ⟨.ref C :: us, kw⟩)) :=
  ⟨r.hd, by have := r.dp; rw [make_depth]; omega, by have := r.un; rw [make_units]; omega⟩
theorem Room.depth {k : Nat} {A : Around} (r : Room k A) : A.depth < recursionLimit := by have := r.dp; omega
theorem Room.units {k : Nat} {A : Around} (r : Room k A) : A.units + 64 < cLine := by have := r.un; omega
/-! ### argument lists and displays -/
def tNil : TA := fun _ H Q => Q [] H
def tCons (ta : TE) (tr : TA) : TA := fun σ H Q => ta σ H fun x H1 => tr σ H1 fun xs H2 => Q (x :: xs) H2
section
variable {X : Cx} {e : Expr} {es : List Expr} {te : TE} {t : TA} {pos : Pos}
theorem pa_nil : PA X [] tNil := fun _ _ _ _ H Q I h => Calls.spliced_nil ⟨[], H, I, .nil, h⟩
theorem pa_cons (ha : PE X e te) (hr : PA X es t) (hs : starEach (e :: es) X.env = (false, eval e X.env) :: starEach es X.env := by rfl) : PA X (e :: es) (tCons te t) := by
  intro pos pins s σ H Q I h
  rw [hs]
  show wpAny _ _ (spliced ((false, eval e X.env) :: backTo pos (starEach es X.env))) _ _ s
  refine Calls.spliced_cons (thn (ha pins s σ H _ I h) fun u s1 ⟨x, H1, I1, r1, q1⟩ => ?_)
  exact thn (hr pos pins s1 σ H1 _ I1 q1) fun us s2 ⟨xs, H2, I2, r2, q2⟩ => ⟨x :: xs, H2, I2, .cons r1 r2, q2⟩

/-- a tuple, a list of written items -/
def tTup (t : TA) : TE := fun σ H Q => t σ H fun xs H1 => xs.length ≤ sizeLine ∧ ∀ p, H1 p = none → Q (.ref p) (upd H1 p (.tup xs))
def tLst (t : TA) : TE := fun σ H Q => t σ H fun xs H1 => xs.length ≤ sizeLine ∧ ∀ p, H1 p = none → Q (.ref p) (upd H1 p (.lst xs))
theorem pe_tup {x1} (h : PA X es t) : PE X (.Tuple es x1 pos) (tTup t) := by
  intro pins s σ H Q I hq
  refine wpAny_Tuple_spliced (thn (h pos pins s σ H _ I hq) fun us s1 ⟨xs, H1, I1, r, z, q⟩ => ⟨by rw [← r.length]; exact z, ?_⟩)
  have hf : H1 s1.heap.objs.size = none := I1.hok.fresh (Nat.le_refl _)
  refine ⟨.ref s1.heap.objs.size, upd H1 s1.heap.objs.size (.tup xs), I1.laid (t' := s1.toks) (fun b u e => Heap.get?_push_of_some _ e) (Nat.le_refl _) ?_, rfl, q _ hf⟩
  exact ⟨z, us, r, ⟨_, Heap.get?_push_size _ rfl, rfl, _, rfl⟩⟩
theorem pe_lst (h : PA X es t) : PE X (.List es pos) (tLst t) := by
  intro pins s σ H Q I hq
  refine wpAny_List_spliced (thn (h pos pins s σ H _ I hq) fun us s1 ⟨xs, H1, I1, r, z, q⟩ => ⟨by rw [← r.length]; exact z, ?_⟩)
  have hf : H1 s1.heap.objs.size = none := I1.hok.fresh (Nat.le_refl _)
  refine ⟨.ref s1.heap.objs.size, upd H1 s1.heap.objs.size (.lst xs), I1.laid (t' := s1.toks) (fun b u e => Heap.get?_push_of_some _ e) (Nat.le_refl _) ?_, rfl, q _ hf⟩
  exact ⟨z, us, 0, r, Heap.get?_push_size _ rfl⟩
end

/-! ### what a def promises -/
/-- a def's promise: the bound arguments in the parameters' order, the heap, the wanted end, the wanted exception -/
abbrev Sp := List V → Hp → VK → XK → Prop
/-- how an exception lies behind a call (file 08 gives it): the callers' frames, abstract heap and state ahead of the call, the wish, the exception, the state -/
abbrev CXT := List Env → Hp → Shared → XK → Value → Shared → Prop

/-- the state at a call -/
structure Env0 (P : Program) (w : World) (K : PySem.W.Frag) (mg : Str → Option Value) (base : Heap) (A : Around) (outer : List Env) (s : Shared) (H : Hp) : Prop where
  frames : A.frames = some outer
  mod : Mod K mg base
  bs : ∀ b o, base.get? b = some o → s.heap.get? b = some o ∧ H b = none
  bsz : base.objs.size ≤ s.heap.objs.size
  funs : s.heap.FunFrames base outer
  frf : ∀ b ∈ frs outer, H b = none
  hok : HOk P w H s.heap
  bare : AllBare s.gens
/-- a call's end -/
def CE (outer : List Env) (P : Program) (w : World) (H : Hp) (s : Shared) (Q : VK) (u : Value) (s' : Shared) : Prop :=
  ∃ v H', s'.os = s.os ∧ AllBare s'.gens ∧ Un (frs outer) [] H H' s.heap s'.heap ∧ HOk P w H' s'.heap ∧ RelV v u ∧ Q v H'
def CR (CX : CXT) (outer : List Env) (P : Program) (w : World) (H : Hp) (s : Shared) (Q : VK) (E : XK) (r : Result) (s' : Shared) : Prop :=
  match r with
  | .ok (.ret u) => CE outer P w H s Q u s'
  | .ok _ => False
  | .error e => CX outer H s E e s'
structure FnOk (P : Program) (w : World) (K : PySem.W.Frag) (mg : Str → Option Value) (base : Heap) (CX : CXT) (k : Nat) (f : Addr) (fd : FuncData) (ps : List Str) (sp : Sp) : Prop where
  len : ∀ vs H Q E, sp vs H Q E → vs.length = ps.length
  run : ∀ (A : Around) (outer : List Env) (s : Shared) (H : Hp) (args : Args) (us : List Value) (vs : List V) (Q : VK) (E : XK), Room k A → Env0 P w K mg base A outer s H → BindsTo s fd args (ps.zip us) → Vals vs us → sp vs H Q E →
    codeAny (model P w) A (.call (.ref f) args) (CR CX outer P w H s Q E) s
theorem FnOk.mono {P : Program} {w : World} {K : PySem.W.Frag} {mg : Str → Option Value} {base : Heap} {CX : CXT} {j k : Nat} {f : Addr} {fd : FuncData} {ps : List Str} {sp : Sp} (F : FnOk P w K mg base CX j f fd ps sp) (h : j ≤ k) :
    FnOk P w K mg base CX k f fd ps sp := ⟨F.len, fun A outer s H args us vs Q E hr => F.run A outer s H args us vs Q E (hr.mono h)⟩
/-- a weaker promise -/
theorem FnOk.imp {P : Program} {w : World} {K : PySem.W.Frag} {mg : Str → Option Value} {base : Heap} {CX : CXT} {k : Nat} {f : Addr} {fd : FuncData} {ps : List Str} {sp sp' : Sp} (F : FnOk P w K mg base CX k f fd ps sp)
    (h : ∀ vs H Q E, sp' vs H Q E → sp vs H Q E) : FnOk P w K mg base CX k f fd ps sp' :=
  ⟨fun vs H Q E q => F.len vs H Q E (h _ _ _ _ q), fun A outer s H args us vs Q E hr he hb hv hs => F.run A outer s H args us vs Q E hr he hb hv (h _ _ _ _ hs)⟩

theorem Env0.make {P : Program} {w : World} {K : PySem.W.Frag} {mg : Str → Option Value} {base : Heap} {A : Around} {outer : List Env} {s : Shared} {H : Hp} (e : Env0 P w K mg base A outer s H) (C : Addr) (us : List Value) (kw : List (Str × Value)) :
    Env0 P w K mg base (A.under (.builtin "type.__call__" ⟨.ref C :: us, kw⟩)) outer s H := ⟨by first | exact e.frames | (simpa [Around.under, Code.envs, Code.isFrame, pushEnvs] using e.frames), e.mod, e.bs, e.bsz, e.funs, e.frf, e.hok, e.bare⟩
theorem Env0.in1 {P : Program} {w : World} {K : PySem.W.Frag} {mg : Str → Option Value} {base : Heap} {A : Around} {outer : List Env} {s : Shared} {H : Hp} (e : Env0 P w K mg base A outer s H) :
    Env0 P w K mg base A.in1 outer s H := ⟨e.frames, e.mod, e.bs, e.bsz, e.funs, e.frf, e.hok, e.bare⟩

section
variable {X : Cx} {pins : List (Addr × Obj)} {σ : St} {H : Hp} {s s' : Shared}
/-- from a body: what a callee wants -/
theorem Inv.env0 (I : Inv X pins σ H s) : Env0 X.prog X.w X.K X.mg X.base X.A X.stack s H :=
  ⟨I.ok.frames, I.ok.mod, I.bs, Nat.le_trans I.ok.bsz I.sz, I.stack, I.stkFree, I.hok, I.bare⟩
/-- behind a call -/
theorem Inv.after {Q : VK} {u : Value} (I : Inv X pins σ H s) (h : CE X.stack X.prog X.w H s Q u s') : EP X pins σ Q u s' := by
  obtain ⟨v, H', os, bare, un, hok, r, q⟩ := h
  obtain ⟨hh, g, d, t, os'⟩ := s'
  obtain rfl : os' = s.os := os
  exact ⟨v, H', I.call (h' := hh) (g' := g) (d' := d) (t' := t) (ch := []) un hok bare (fun b z => absurd z (by simp)), r, q⟩
end

/-! ### calls -/
/-- f(..): the written arguments, then the defaults dvs; E: what is wanted of an exception -/
def tCall (sp : Sp) (dvs : List V) (E : XK) (t : TA) : TE := fun σ H Q => t σ H fun vs H1 => sp (vs ++ dvs) H1 Q E
/-- o.m(..) of an instance of the class at C -/
def tMeth (C : Addr) (m : Str) (sp : Sp) (dvs : List V) (E : XK) (ta : TE) (t : TA) : TE := fun σ H Q => ta σ H fun x H1 => ∃ a dx fs, x = .ref a ∧ H1 a = some (.ins C dx fs) ∧ fs.lookup m = none ∧
  t σ H1 fun vs H2 => sp (x :: (vs ++ dvs)) H2 Q E
/-- C(..): a new instance and its dict, then __init__ -/
def tMake (C : Addr) (sp : Sp) (dvs : List V) (E : XK) (t : TA) : TE := fun σ H Q => t σ H fun vs H1 => ∀ x dx, H1 x = none → H1 dx = none → dx ≠ x →
  sp (.ref x :: (vs ++ dvs)) (upd (upd H1 dx (.own x)) x (.ins C dx [])) (fun v H2 => v = .non ∧ Q (.ref x) H2) E

/-- how the parameters are bound: us the positional arguments, kw the keywords' values by name, ds the defaults that fill up -/
def Binds (K : PySem.W.Frag) (fd : FuncData) (ps : List Str) (ds : List Value) : Prop :=
  ∀ (s : Shared) (us : List Value), K.In s.heap → (us ++ ds).length = ps.length → BindsTo s fd ⟨us, []⟩ (ps.zip (us ++ ds))
/-- every parameter is given -/
theorem Binds.all {K : PySem.W.Frag} {fd : FuncData} {ps : List Str} (h : ∀ us : List Value, us.length = ps.length → bindArgs fd ⟨us, []⟩ = pure (ps.zip us)) : Binds K fd ps [] := fun s us _ hl => by
  rw [List.append_nil] at hl ⊢
  exact .of_eq (h us hl)

/-- an exception of a callee reaches what this body wants of exceptions -/
def Passes (CX : CXT) (X : Cx) (E : XK) : Prop := ∀ (pins : List (Addr × Obj)) (σ : St) (H : Hp) (s : Shared) (e : Value) (s' : Shared), Inv X pins σ H s → CX X.stack H s E e s' → X.xe e s'

section
variable {X : Cx} {CX : CXT} {k : Nat} {f C : Addr} {fd : FuncData} {ps : List Str} {sp : Sp} {dvs : List V} {ds : List Value} {E : XK} {x m : Str} {p pos apos : Pos} {e o : Expr} {es : List Expr} {ta : TE} {t : TA}

/-- the callee runs -/
theorem run_fn {pins : List (Addr × Obj)} {σ : St} {H : Hp} {s : Shared} {Q : VK} {us : List Value} {vs : List V} (F : FnOk X.prog X.w X.K X.mg X.base CX k f fd ps sp) (hr : Room k X.A) (hb : Binds X.K fd ps ds) (hd : Vals dvs ds) (hx : Passes CX X E)
    (I : Inv X pins σ H s) (r : Vals vs us) (h : sp (vs ++ dvs) H Q E) : wpAny (model X.prog X.w) X.A (call (.ref f) us) (EP X pins σ Q) X.xe s := by
  have r2 : Vals (vs ++ dvs) (us ++ ds) := r.append hd
  have hl : (us ++ ds).length = ps.length := by rw [← r2.length]; exact F.len _ _ _ _ h
  refine wpAny_call (codeAny_mono (F.run X.A X.stack s H ⟨us, []⟩ (us ++ ds) (vs ++ dvs) Q E hr I.env0 (hb s us I.kIn hl) r2 h) fun r s' hq => ?_)
  cases r with
  | error e => exact hx pins σ H s e s' I hq
  | ok fl =>
    cases fl with
    | ret u => exact I.after hq
    | next => exact False.elim hq
    | brk => exact False.elim hq
    | cont => exact False.elim hq

theorem pe_call (F : FnOk X.prog X.w X.K X.mg X.base CX k f fd ps sp) (hr : Room k X.A) (hg : Gl X x) (hm : X.mg x = some (.ref f)) (hk : PySem.W.keepIn X.K (.ref f) = true) (hb : Binds X.K fd ps ds) (hd : Vals dvs ds) (hx : Passes CX X E)
    (ha : PA X (e :: es) t) (hdb : (x == ("__debug__" : Str)) = false := by decide) (he : starEach (e :: es) X.env = (false, eval e X.env) :: starEach es X.env := by rfl) (hpl : (backTo pos (starEach es X.env)).any (·.1) = false := by rfl) :
    PE X (.Call (.Name x p) (e :: es) [] pos) (tCall sp dvs E t) := by
  intro pins s σ H Q I h
  refine wpAny_Call_Name_kw (ld_glob I hg hm ?_ hdb)
  refine PySem.W.callWith_K (h₀ := X.base) I.ok.mod.kin hk (thn (ha pos pins s σ H _ I h) fun us s1 ⟨vs, H1, I1, r, q⟩ => ⟨I1.kIn, ?_⟩) he hpl
  exact run_fn F hr hb hd hx I1 r q
/-- what a class must have to be made -/
structure Mk (K : PySem.W.Frag) (C f : Addr) : Prop where
  makes : PySem.W.makesIn K C = true
  init : PySem.W.findIn K (.ref C) "__init__" = some (some (.ref f))
  fn : PySem.W.isFn K (.ref f) = true
  kp : PySem.W.keepIn K (.ref C) = true

end

/-! ### keywords -/
/-- the values of the keywords, from the left -/
def PK (X : Cx) (kws : List Keyword) (t : TA) : Prop :=
  ∀ (pos : Pos) (pins : List (Addr × Obj)) (s : Shared) (σ : St) (H : Hp) (Q : List V → Hp → Prop), Inv X pins σ H s → t σ H Q → wpAny (model X.prog X.w) X.A (evalAll ((backToKw pos (keywordEach kws X.env)).map (·.2))) (AP X pins σ Q) X.xe s
section
variable {X : Cx} {CX : CXT} {k : Nat} {f C : Addr} {fd : FuncData} {ps ks : List Str} {sp : Sp} {E : XK} {x m : Str} {p pos apos kpos : Pos} {e o : Expr} {es : List Expr} {kws : List Keyword} {te ta : TE} {t tk : TA} {nm : Option Str}
/-- how a call with keywords binds: g puts the positional values us and the keywords' values ws (names ks) in the parameters' order, defaults among them -/
structure KBinds (K : PySem.W.Frag) (fd : FuncData) (ps ks : List Str) (g : List Value → List Value → List Value) (gV : List V → List V → List V) : Prop where
  to : ∀ (s : Shared) (us ws : List Value), K.In s.heap → (g us ws).length = ps.length → BindsTo s fd ⟨us, ks.zip ws⟩ (ps.zip (g us ws))
  rel : ∀ {vs : List V} {us : List Value} {zs : List V} {ws : List Value}, Vals vs us → Vals zs ws → Vals (gV vs zs) (g us ws)
def tCallK (sp : Sp) (gV : List V → List V → List V) (E : XK) (t tk : TA) : TE := fun σ H Q => t σ H fun vs H1 => tk σ H1 fun zs H2 => sp (gV vs zs) H2 Q E
variable {g : List Value → List Value → List Value} {gV : List V → List V → List V}
end

/-! ### a def's body keeps its promise -/
/-- names: the parameters first -/
structure FnScope (N P : List Str) (sc : Scope) : Prop where
  kind : sc.kind = .function
  co : sc.isCoroutine = false
  gen : sc.isGenerator = false
  nd : N.Nodup
  pre : N.take P.length = P
  par : ∀ x ∈ P, sc.names.lookup x = some .local ∨ sc.names.lookup x = some .cell
  nofree : ∀ y ∈ sc.names, y.2 ≠ .free

theorem bindL_out {kindOf : Str → Option NameKind} {x : Str} : ∀ {binds : List (Str × Value)} {m : Str → Option Value}, (∀ v, (x, v) ∉ binds) → bindL kindOf binds m x = m x
  | [], _, _ => rfl
  | (n, v) :: r, m, h => by
    unfold bindL
    rw [bindL_out fun w hw => h w (List.mem_cons_of_mem _ hw)]
    split
    · have : x ≠ n := by rintro rfl; exact h v List.mem_cons_self
      simp [this]
    · rfl
theorem bindC_out {kindOf : Str → Option NameKind} {x : Str} : ∀ {binds : List (Str × Value)} {m : Str → Option Value}, (∀ v, (x, v) ∉ binds) → bindC kindOf binds m x = m x
  | [], _, _ => rfl
  | (n, v) :: r, m, h => by
    unfold bindC
    rw [bindC_out fun w hw => h w (List.mem_cons_of_mem _ hw)]
    split
    · rfl
    · have : x ≠ n := by rintro rfl; exact h v List.mem_cons_self
      simp [this]
theorem bindL_get {kindOf : Str → Option NameKind} {x : Str} {v : Value} : ∀ {P : List Str} {vs : List Value} {i : Nat} {m : Str → Option Value}, P.Nodup → P[i]? = some x → vs[i]? = some v → kindOf x = some .local →
    bindL kindOf (P.zip vs) m x = some v
  | [], _, _, _, _, h, _, _ => by simp at h
  | _ :: _, [], _, _, _, _, h, _ => by simp at h
  | p :: P, w :: vs, 0, m, nd, h1, h2, hk => by
    simp at h1 h2; subst h1; subst h2
    show bindL kindOf ((p, w) :: P.zip vs) m p = _
    unfold bindL
    rw [bindL_out fun v hv => (List.nodup_cons.mp nd).1 (List.of_mem_zip hv).1, if_pos hk]
    simp
  | p :: P, w :: vs, i + 1, m, nd, h1, h2, hk => by
    show bindL kindOf ((p, w) :: P.zip vs) m x = _
    unfold bindL
    exact bindL_get (i := i) (List.nodup_cons.mp nd).2 (by simpa using h1) (by simpa using h2) hk
theorem bindC_get {kindOf : Str → Option NameKind} {x : Str} {v : Value} : ∀ {P : List Str} {vs : List Value} {i : Nat} {m : Str → Option Value}, P.Nodup → P[i]? = some x → vs[i]? = some v → kindOf x ≠ some .local →
    bindC kindOf (P.zip vs) m x = some v
  | [], _, _, _, _, h, _, _ => by simp at h
  | _ :: _, [], _, _, _, _, h, _ => by simp at h
  | p :: P, w :: vs, 0, m, nd, h1, h2, hk => by
    simp at h1 h2; subst h1; subst h2
    show bindC kindOf ((p, w) :: P.zip vs) m p = _
    unfold bindC
    rw [bindC_out fun v hv => (List.nodup_cons.mp nd).1 (List.of_mem_zip hv).1, if_neg hk]
    simp
  | p :: P, w :: vs, i + 1, m, nd, h1, h2, hk => by
    show bindC kindOf ((p, w) :: P.zip vs) m x = _
    unfold bindC
    exact bindC_get (i := i) (List.nodup_cons.mp nd).2 (by simpa using h1) (by simpa using h2) hk

/-- the names' values at the entry -/
def start (N : List Str) (vs : List V) : St := vs.map some ++ List.replicate (N.length - vs.length) none

/-- the context of a def's body, at its entry; an exception leaves the frame, then lies as CX says -/
def cxOf (CX : CXT) (P : Program) (w : World) (K : PySem.W.Frag) (mg : Str → Option Value) (base : Heap) (N : List Str) (qual : Str) (scope : Scope) (f : Addr) (cd : Value) (A : Around) (outer : List Env) (s : Shared) (H : Hp) (E : XK) : Cx where
  prog := P
  w := w
  K := K
  mg := mg
  base := base
  A := A.deeper (envOfC qual scope s.heap.objs.size f cd)
  N := N
  s₀ := s
  H₀ := H
  env := envOfC qual scope s.heap.objs.size f cd
  outer := outer
  stack := envOfC qual scope s.heap.objs.size f cd :: outer
  ex := []
  calm := true
  fn := fun _ => true
  pn := []
  xe := fun e s' => wpAny (model P w) (A.deeper (envOfC qual scope s.heap.objs.size f cd)) (leaving (envOfC qual scope s.heap.objs.size f cd) e) (fun _ s'' => CX outer H s E e s'') (fun e' s'' => CX outer H s E e' s'') s'

theorem cell_has {sc : Scope} {n : Nat} {x : Str} (h : sc.names.lookup x = some .cell) : ∃ c, (cellsFrom n sc.names []).lookup x = some c := by
  have q := PySem.W.cellsFrom_some sc.names n [] (.inl h)
  exact Option.isSome_iff_exists.mp q

theorem inv_start {CX : CXT} {P : Program} {w : World} {K : PySem.W.Frag} {mg : Str → Option Value} {base : Heap} {N ps : List Str} {qual : Str} {scope : Scope} {f : Addr} {cd : Value} {A : Around} {outer : List Env} {s s1 : Shared} {H : Hp} {E : XK} {us : List Value} {vs : List V}
    (S : FnScope N ps scope) (hd : A.handled = none) (e0 : Env0 P w K mg base A outer s H) (hl : vs.length = ps.length) (r : Vals vs us)
    (x : InCallC s s.heap.objs.size (bindL (envOfC qual scope s.heap.objs.size f cd).kindOf (ps.zip us) fun _ => none) (cellsFrom (s.heap.objs.size + 1) scope.names []) (bindC (envOfC qual scope s.heap.objs.size f cd).kindOf (ps.zip us) fun _ => none) s1) :
    Inv (cxOf CX P w K mg base N qual scope f cd A outer s H E) [] (start N vs) H s1 := by
  have hpl : ps.length ≤ N.length := by have := congrArg List.length S.pre; rw [List.length_take] at this; omega
  obtain ⟨h1, tk, rfl, hk⟩ := x.done
  have noA : ∀ b : Addr, b ∉ (cxOf CX P w K mg base N qual scope f cd A outer s H E).ex := fun b z => absurd (show b ∈ ([] : List Addr) from z) (by simp)
  refine ⟨⟨e0.mod, S.kind, rfl, rfl, Nat.le_refl _, fun y z c h1 h2 => ?_, fun y hy => ?_, fun y c _ h => ?_, fun _ => hd, Around.frames_deeper e0.frames, .inr ⟨rfl, rfl⟩, fun b z => absurd z (noA b), e0.bs, e0.bsz, fun b _ _ => noA b, fun b z => absurd z (noA b), e0.funs, e0.frf⟩,
    rfl, e0.bare, Un.kept hk, ⟨_, x.toInCall.ns, fun i y v h1 h2 h3 => ?_⟩, fun y c h => ⟨_, x.cell y c h⟩, e0.hok.fresh (Nat.le_refl _), fun y c h => ?_, fun p hp => absurd (show p ∈ ([] : List (Addr × Obj)) from hp) (by simp), e0.hok.kept hk, ?_⟩
  · exact name_of_addr x.apart (PySem.mem_of_lookup h1) (PySem.mem_of_lookup h2)
  · have hy : scope.names.lookup y = some .cell ∨ scope.names.lookup y = some .free := hy
    rcases hy with hy | hy
    · exact cell_has hy
    · exact absurd rfl (S.nofree _ (PySem.mem_of_lookup hy))
  · exact Nat.le_of_lt (x.above y c (PySem.mem_of_lookup h))
  · have hi : i < vs.length := by
      unfold start at h2
      by_cases hi : i < vs.length
      · exact hi
      · rw [List.getElem?_append_right (by simpa using hi)] at h2
        rw [List.getElem?_replicate] at h2
        split at h2 <;> cases h2
    have ha : vs[i]? = some v := by
      unfold start at h2
      rw [List.getElem?_append_left (by simpa using hi), List.getElem?_map] at h2
      cases e : vs[i]? with
      | none => rw [e] at h2; cases h2
      | some a => rw [e] at h2; cases h2; rfl
    obtain ⟨u, hu, rv⟩ := r.get ha
    have hp : ps[i]? = some y := by
      rw [← S.pre, List.getElem?_take_of_lt (by omega)]; exact h1
    have ndP : ps.Nodup := by rw [← S.pre]; exact S.nd.sublist (List.take_sublist _ _)
    refine ⟨u, rv, ?_⟩
    rcases S.par y (List.mem_of_getElem? hp) with k | k
    · exact .inl ⟨k, bindL_get ndP hp hu k⟩
    · obtain ⟨c, e⟩ := cell_has (n := s.heap.objs.size + 1) k
      refine .inr ⟨.inl k, c, e, ?_⟩
      have q := x.cell y c e
      rw [bindC_get ndP hp hu (by show scope.names.lookup y ≠ _; rw [k]; decide)] at q
      exact q
  · exact e0.hok.fresh (Nat.le_of_lt (x.above y c (PySem.mem_of_lookup h)))
  · unfold start
    show _ = N.length
    rw [List.length_append, List.length_map, List.length_replicate]
    omega

/-- THE RULE: a def (or a method) of the text, by its body. The body's reading t is chosen for each entry; it is run at the parameters' values -/
theorem fn_of {CX : CXT} {P : Program} {w : World} {K : PySem.W.Frag} {mg : Str → Option Value} {base : Heap} {k : Nat} {f : Addr} {name qual : Str} {params : Arguments} {body : List Stmt} {scope : Scope} {dV kV doc pm cdv ct oc : Value} {an od : Option Addr}
    {osl : Array (Option Value)} {N ps : List Str} {sp : Sp} (lk : K.lookup f = some ⟨oc, od, .func (PySem.W.fnOf name qual params body scope dV kV doc pm an cdv ct), osl⟩) (hcd : PySem.W.codeIn K cdv qual = true) (S : FnScope N ps scope)
    (len : ∀ vs H Q E, sp vs H Q E → vs.length = ps.length)
    (hbody : ∀ (A : Around) (outer : List Env) (s : Shared) (H : Hp) (vs : List V) (Q : VK) (E : XK), Room k (A.deeper (envOfC qual scope s.heap.objs.size f cdv)) → sp vs H Q E →
      ∃ t, PSs (cxOf CX P w K mg base N qual scope f cdv A outer s H E) body t ∧ t { nx := fun _ H' => Q .non H', rt := Q } (start N vs) H) :
    FnOk P w K mg base CX (k + 1) f (PySem.W.fnOf name qual params body scope dV kV doc pm an cdv ct) ps sp := by
  refine ⟨len, fun A outer s H args us vs Q E hr e0 hb r hsp => ?_⟩
  have hl := len _ _ _ _ hsp
  have KX : K.In s.heap := e0.mod.kin.keeps fun b o e => (e0.bs b o e).1
  have lim : s.heap.NoLimit := e0.mod.nolimit.keeps fun b o e => (e0.bs b o e).1
  have hkind : ∀ y ∈ ps.zip us, scope.names.lookup y.1 = some .local ∨ (scope.names.lookup y.1 = some .cell ∧ ((cellsFrom (s.heap.objs.size + 1) scope.names []).lookup y.1).isSome = true) := fun ⟨n, v⟩ hy => by
    rcases S.par n (List.of_mem_zip hy).1 with q | q
    · exact .inl q
    · exact .inr ⟨q, PySem.W.cellsFrom_some _ _ _ (.inl q)⟩
  refine codeAny_call_function hr.depth (KX _ _ lk) rfl S.co S.gen rfl (PySem.W.codeRec_of KX hcd) (hb _ _ _ _ ?_)
  refine wpAny_newFunctionEnv_cells S.kind hkind fun env he s1 x => ?_
  subst he
  refine ⟨lim.keeps x.toInCall.keep, codeAny_func ?_⟩
  obtain ⟨t, ht, hq⟩ := hbody A outer s H vs Q E (hr.deeper _) hsp
  have I : Inv (cxOf CX P w K mg base N qual scope f cdv A outer s H E) [] (start N vs) H s1 := inv_start S hr.hd e0 hl r x
  refine wpAny_mono (ht [] s1 (start N vs) H _ I hq) (fun fl s' hs => ?_) fun e s' hs => hs
  have fin : ∀ {σ' : St} {H' : Hp} {v : V} {u : Value}, Inv (cxOf CX P w K mg base N qual scope f cdv A outer s H E) [] σ' H' s' → RelV v u → Q v H' → CE outer P w H s Q u s' :=
    fun {σ' H' v u} J rv q => ⟨v, H', J.os, J.bare, J.base, J.hok, rv, q⟩
  cases fl with
  | ret u =>
    obtain ⟨v, σ', H', J, rv, q⟩ := hs
    exact fin J rv q
  | next =>
    obtain ⟨σ', H', J, q⟩ := hs
    exact fin (v := V.non) (u := Value.none) J rfl q
  | brk =>
    obtain ⟨_, _, _, q⟩ := hs
    exact False.elim q
  | cont =>
    obtain ⟨_, _, _, q⟩ := hs
    exact False.elim q
end L2

namespace L2
open PySem PySem.Spec PyProof.Rows
section
variable {X : Cx} {x : Str} {p pos : Pos} {e : Expr} {es : List Expr} {t : TA} {id T : String} {r : List V → Hp → VK → Prop}

def tCB (r : List V → Hp → VK → Prop) (t : TA) : TE := fun σ H Q => t σ H fun vs H1 => r vs H1 Q
/-- f(e, ..), f a built-in function -/
theorem pe_callB (hc : CallR X (.builtin id) r) (hg : Gl X x) (hm : X.mg x = none) (hv : bootBuiltins x = some (.builtin id)) (ha : PA X (e :: es) t) (hn : x ≠ "__name__" := by decide) (hdb : (x == ("__debug__" : Str)) = false := by decide)
    (he : starEach (e :: es) X.env = (false, eval e X.env) :: starEach es X.env := by rfl) (hpl : (backTo pos (starEach es X.env)).any (·.1) = false := by rfl) : PE X (.Call (.Name x p) (e :: es) [] pos) (tCB r t) := by
  intro pins s σ H Q I h
  refine wpAny_Call_Name_kw (ld_blt I hg hm hv ?_ hn hdb)
  exact PyProof.Rows.callWith_builtin1 (thn (ha pos pins s σ H _ I h) fun us s1 ⟨vs, H1, I1, r1, q1⟩ => hc pins s1 σ H1 vs us Q I1 r1 q1) he hpl
/-- T(e, ..), T a built-in type -/
theorem pe_callTy (hc : CallR X (.type T) r) (hg : Gl X x) (hm : X.mg x = none) (hv : bootBuiltins x = some (.type T)) (ha : PA X (e :: es) t) (hn : x ≠ "__name__" := by decide) (hdb : (x == ("__debug__" : Str)) = false := by decide)
    (he : starEach (e :: es) X.env = (false, eval e X.env) :: starEach es X.env := by rfl) (hpl : (backTo pos (starEach es X.env)).any (·.1) = false := by rfl) : PE X (.Call (.Name x p) (e :: es) [] pos) (tCB r t) := by
  intro pins s σ H Q I h
  refine wpAny_Call_Name_kw (ld_blt I hg hm hv ?_ hn hdb)
  exact PyProof.Rows.callWith_type1 (thn (ha pos pins s σ H _ I h) fun us s1 ⟨vs, H1, I1, r1, q1⟩ => hc pins s1 σ H1 vs us Q I1 r1 q1) he hpl
end
end L2

namespace HT
open PySem PyProof.Rows

/-- t < u of tuples of ints -/
def lexLt : List Int → List Int → Bool
  | [], [] => false
  | [], _ :: _ => true
  | _ :: _, [] => false
  | x :: xs, y :: ys => if x = y then lexLt xs ys else decide (x < y)
section
open PySem.SeqAt
open PySem.AutoSeq1 (wpAny_loadPart')
open PySem.MeetsSeq PySem.MeetsSeq2 PySem.MeetsSeq3

end

section
variable {prog : Program} {w : World} {A : Around} {E : Value → Shared → Prop} {s : Shared}

/-! ### t[a:b], not the whole -/
/-- a slice's bound as a place among n (d where it is left out) -/
def sIx (n d : Nat) : Option Int → Nat
  | none => d
  | some v => if v < 0 then (v + (n : Int)).toNat else min v.toNat n
end
end HT

namespace L2
open PySem PySem.Spec PyProof.Rows

/-! ### the parts of a slice -/
abbrev TO := St → Hp → (Option Int → Hp → Prop) → Prop
/-- a slice's part (left out, or an int) -/
def PO (X : Cx) (e : Option Expr) (t : TO) : Prop :=
  ∀ (pins : List (Addr × Obj)) (s : Shared) (σ : St) (H : Hp) (Q : Option Int → Hp → Prop), Inv X pins σ H s → t σ H Q →
    wpAny (model X.prog X.w) X.A (evalPart e X.env) (fun u s' => ∃ o H', Inv X pins σ H' s' ∧ IsPart u o ∧ Q o H') X.xe s
def tNoPart : TO := fun _ H Q => Q none H
def tPart (t : TE) : TO := fun σ H Q => t σ H fun x H1 => ∃ i, x = .int i ∧ Q (some i) H1

section
variable {X : Cx} {e : Expr} {te : TE} {lo hi : Option Expr} {tl th : TO} {pos p2 : Pos}

theorem po_none : PO X none tNoPart := by
  intro pins s σ H Q I h
  rw [evalPart_none]
  exact wpAny_pure ⟨none, H, I, .none, h⟩
theorem po_some (h : PE X e te) : PO X (some e) (tPart te) := by
  intro pins s σ H Q I hw
  rw [evalPart_some]
  refine thn (h pins s σ H _ I hw) fun u s1 ⟨x, H1, I1, r1, q1⟩ => ?_
  obtain ⟨i, rfl, q⟩ := q1
  obtain ⟨t, rfl⟩ := r1
  exact ⟨some i, H1, I1, .int i t, q⟩

/-- what a slice of a value is, by values: the slice object stands at sl -/
def SlR (X : Cx) (r : V → Option Int → Option Int → Hp → VK → Prop) : Prop :=
  ∀ (pins : List (Addr × Obj)) (s : Shared) (σ : St) (H : Hp) (x : V) (v vl vu : Value) (lo hi : Option Int) (sl : Addr) (Q : VK), Inv X pins σ H s → RelV x v → s.heap.IsSliceOf sl vl vu .none → IsPart vl lo → IsPart vu hi → r x lo hi H Q →
    ∃ T id, typeLookup (.type T) "__getitem__" = pure (some (.builtin id)) ∧ s.TypeIs v T ∧ wpAny (model X.prog X.w) X.A (getItem v (.ref sl)) (EP X pins σ Q) X.xe s
theorem SlR.or {r r' : V → Option Int → Option Int → Hp → VK → Prop} (h : SlR X r) (h' : SlR X r') : SlR X (fun x lo hi H Q => r x lo hi H Q ∨ r' x lo hi H Q) := by
  intro pins s σ H x v vl vu lo hi sl Q I rx hs pl pu q
  rcases q with q | q
  · exact h pins s σ H x v vl vu lo hi sl Q I rx hs pl pu q
  · exact h' pins s σ H x v vl vu lo hi sl Q I rx hs pl pu q
def tSl (r : V → Option Int → Option Int → Hp → VK → Prop) (te : TE) (tl th : TO) : TE := fun σ H Q => te σ H fun x H1 => tl σ H1 fun l H2 => th σ H2 fun u H3 => r x l u H3 Q
/-- a[lo:hi], any a -/
theorem pe_slice {r : V → Option Int → Option Int → Hp → VK → Prop} (hr : SlR X r) (he : PE X e te) (hl : PO X lo tl) (hu : PO X hi th) : PE X (.Subscript e (.Slice lo hi none p2) pos) (tSl r te tl th) := by
  intro pins s σ H Q I h
  refine Subscript_ (thn (he pins s σ H _ I h) fun v s1 ⟨x, H1, I1, r1, q1⟩ => ?_)
  refine wpAny_Slice (thn (hl pins s1 σ H1 _ I1 q1) fun vl s2 ⟨l, H2, I2, pl, q2⟩ => thn (hu pins s2 σ H2 _ I2 q2) fun vu s3 ⟨u, H3, I3, pu, q3⟩ => ?_)
  rw [evalPart_none]
  refine wpAny_pure ?_
  have I4 : Inv X pins σ H3 { s3 with heap := s3.heap.push { cls := .type "slice", data := .fields #[vl, vu, .none] } } := I3.kept (t' := s3.toks) fun b ob q => Heap.get?_push_of_some _ q
  obtain ⟨T, id, hT, ht, hg⟩ := hr pins { s3 with heap := s3.heap.push { cls := .type "slice", data := .fields #[vl, vu, .none] } } σ H3 x v vl vu l u s3.heap.objs.size Q I4 r1 (Heap.IsSliceOf.new ..) pl pu q3
  show wpAny (model X.prog X.w) X.A (subscriptTail e (.Slice lo hi none p2) v (.ref s3.heap.objs.size)) (EP X pins σ Q) X.xe { s3 with heap := s3.heap.push { cls := .type "slice", data := .fields #[vl, vu, .none] } }
  exact tail_any (ops := [.ref s3.heap.objs.size, v]) ht hT hg (by with_unfolding_all rfl)

/-- the items of xs[lo:hi] -/
def cutV (xs : List V) (lo hi : Option Int) : List V := (xs.drop (HT.sIx xs.length 0 lo)).take (HT.sIx xs.length xs.length hi - HT.sIx xs.length 0 lo)
theorem cutV_length (xs : List V) (lo hi : Option Int) : (cutV xs lo hi).length ≤ xs.length := by
  unfold cutV
  rw [List.length_take, List.length_drop]
  omega
/-- t[lo:hi], not the whole of it (the whole would be t itself) -/
def rSlT (K : PySem.W.Frag) : V → Option Int → Option Int → Hp → VK → Prop := fun x lo hi H Q => ∃ a xs, x = .ref a ∧ SqT K H a xs ∧
  ¬ (HT.sIx xs.length 0 lo = 0 ∧ HT.sIx xs.length xs.length hi = xs.length) ∧ ∀ p, H p = none → Q (.ref p) (upd H p (.tup (cutV xs lo hi)))
/-! ### t < u, t + u -/
def rLtT (K : PySem.W.Frag) : R2 := fun x y H Q => ∃ a b ns ms, x = .ref a ∧ y = .ref b ∧ SqT K H a (ns.map V.int) ∧ SqT K H b (ms.map V.int) ∧ Q (.bl (HT.lexLt ns ms)) H
/-- t + u, t not empty: u empty gives t itself -/
def rCatT (K : PySem.W.Frag) : R2 := fun x y H Q => ∃ a b xs ys, x = .ref a ∧ y = .ref b ∧ SqT K H a xs ∧ SqT K H b ys ∧ xs ≠ [] ∧ xs.length + ys.length ≤ sizeLine ∧
  (ys = [] → Q (.ref a) H) ∧ (ys ≠ [] → ∀ p, H p = none → Q (.ref p) (upd H p (.tup (xs ++ ys))))
end
end L2

namespace L2
open PySem PySem.Spec PyProof.Rows

/-! ### places -/
/-- the place that an index of any sign means -/
def ixN (n : Nat) (i : Int) : Option Nat := if 0 ≤ i then (if i < n then some i.toNat else none) else if -(n : Int) ≤ i then some (i + n).toNat else none
def atI {α : Type} (xs : List α) (i : Int) : Option α := (ixN xs.length i).bind fun j => xs[j]?
theorem ixN_seq {n : Nat} {i : Int} {j : Nat} (h : ixN n i = some j) : seqIndex? i n = some j ∧ j < n ∧ -(n : Int) ≤ i ∧ i < n := by
  unfold ixN at h
  by_cases h0 : 0 ≤ i
  · rw [if_pos h0] at h
    by_cases h1 : i < n
    · rw [if_pos h1] at h
      have e : i.toNat = j := Option.some.inj h
      exact ⟨by rw [seqIndex_of h0 h1, e], by omega, by omega, h1⟩
    · rw [if_neg h1] at h; cases h
  · rw [if_neg h0] at h
    by_cases h1 : -(n : Int) ≤ i
    · rw [if_pos h1] at h
      have e : (i + n).toNat = j := Option.some.inj h
      exact ⟨by rw [seqIndex_neg (by omega) h1, e], by omega, h1, by omega⟩
    · rw [if_neg h1] at h; cases h
theorem atI_get {α : Type} {xs : List α} {i : Int} {v : α} (h : atI xs i = some v) : ∃ j, seqIndex? i xs.length = some j ∧ xs[j]? = some v ∧ j < xs.length ∧ -(xs.length : Int) ≤ i ∧ i < xs.length := by
  unfold atI at h
  cases e : ixN xs.length i with
  | none => rw [e] at h; cases h
  | some j =>
    rw [e] at h
    obtain ⟨h1, h2, h3, h4⟩ := ixN_seq e
    exact ⟨j, h1, h, h2, h3, h4⟩
theorem atI_nat {α : Type} {xs : List α} {j : Nat} {v : α} (h : xs[j]? = some v) : atI xs (j : Int) = some v := by
  have hj : j < xs.length := (List.getElem?_eq_some_iff.mp h).1
  have e : ixN xs.length (j : Int) = some j := by
    unfold ixN
    rw [if_pos (by omega), if_pos (by omega)]; simp
  unfold atI; rw [e]; exact h
theorem atI_last {α : Type} (xs : List α) (v : α) : atI (xs ++ [v]) (-1) = some v := by
  have hl : (xs ++ [v]).length = xs.length + 1 := by simp
  have e : ixN (xs ++ [v]).length (-1) = some xs.length := by
    unfold ixN
    rw [hl, if_neg (by decide), if_pos (by omega)]
    congr 1
    omega
  unfold atI
  rw [e]
  show (xs ++ [v])[xs.length]? = some v
  simp

/-! ### what may be subscripted -/
/-- what stands as an index of a plain subscript -/
def PlainIx (b : Expr) : Prop := ∀ o i, subscripted b false o i = operate [o, i] (getItem o i)
/-- a subscript by values -/
def IxR (X : Cx) (r : R2) : Prop :=
  ∀ (value slice : Expr) (pins : List (Addr × Obj)) (s : Shared) (σ : St) (H : Hp) (x y : V) (v u : Value) (Q : VK), Inv X pins σ H s → RelV x v → RelV y u → r x y H Q →
    subscripted slice false v u = operate [v, u] (getItem v u) → wpAny (model X.prog X.w) X.A (subscriptTail value slice v u) (EP X pins σ Q) X.xe s
/-- a call of a builtin's method by values: the receiver, the arguments -/
def MtR (X : Cx) (id : String) (r : V → List V → Hp → VK → Prop) : Prop :=
  ∀ (pins : List (Addr × Obj)) (s : Shared) (σ : St) (H : Hp) (x : V) (xs : List V) (v : Value) (us : List Value) (Q : VK), Inv X pins σ H s → RelV x v → Vals xs us → r x xs H Q →
    wpAny (model X.prog X.w) X.A (call (.builtin id) (v :: us)) (EP X pins σ Q) X.xe s
section
variable {X : Cx} {a b : Expr} {ta tb : TE} {pos : Pos}
theorem IxR.or {r r' : R2} (h : IxR X r) (h' : IxR X r') : IxR X (fun x y H Q => r x y H Q ∨ r' x y H Q) := by
  intro value slice pins s σ H x y v u Q I rx ry q hs
  rcases q with q | q
  · exact h value slice pins s σ H x y v u Q I rx ry q hs
  · exact h' value slice pins s σ H x y v u Q I rx ry q hs
theorem MtR.or {id : String} {r r' : V → List V → Hp → VK → Prop} (h : MtR X id r) (h' : MtR X id r') : MtR X id (fun x xs H Q => r x xs H Q ∨ r' x xs H Q) := by
  intro pins s σ H x xs v us Q I rx rs q
  rcases q with q | q
  · exact h pins s σ H x xs v us Q I rx rs q
  · exact h' pins s σ H x xs v us Q I rx rs q
/-- a[b] -/
theorem pe_ix {r : R2} (hr : IxR X r) (ha : PE X a ta) (hb : PE X b tb) (hs : PlainIx b) : PE X (.Subscript a b pos) (tOp r ta tb) := by
  intro pins s σ H Q I h
  exact Subscript_ (binT ha hb I h fun v u s2 x y H2 I2 rx ry q => hr a b pins s2 σ H2 x y v u Q I2 rx ry q (hs _ _))

def rIxL (K : PySem.W.Frag) : R2 := fun x y H Q => ∃ p xs i v, x = .ref p ∧ y = .int i ∧ SqL K H p xs ∧ atI xs i = some v ∧ Q v H
def rIxT (K : PySem.W.Frag) : R2 := fun x y H Q => ∃ p xs i v, x = .ref p ∧ y = .int i ∧ SqT K H p xs ∧ atI xs i = some v ∧ Q v H
def rIxS : R2 := fun x y H Q => ∃ z i c, x = .str z ∧ y = .int i ∧ z.length ≤ sizeLine ∧ atI z.cps.toList i = some c ∧ Q (.str ⟨#[c]⟩) H
theorem ix_list : IxR X (rIxL X.K) := by
  intro value slice pins s σ H x y v u Q I rx ry h hs
  obtain ⟨p, xs, i, z, rfl, rfl, hq, he, q⟩ := h
  cases rx
  obtain ⟨t, rfl⟩ := ry
  obtain ⟨its, r, pl, hz⟩ := I.list hq
  obtain ⟨j, h1, h2, h3, h4, h5⟩ := atI_get he
  obtain ⟨w, ew, rw'⟩ := r.get h2
  have hl := r.length
  have hn := line63
  have fin : EP X pins σ Q w s := ⟨z, H, I, rw', q⟩
  by_cases h0 : 0 ≤ i
  · have hj : i.toNat = j := by
      rw [seqIndex_of h0 h5] at h1
      exact Option.some.inj h1
    exact item_listR pl.isList h0 (by omega) (by rw [hj]; simpa using ew) fin hs
  · have hj : (i + (its.toArray.size : Int)).toNat = j := by
      rw [seqIndex_neg (by omega) h4] at h1
      rw [List.size_toArray, ← hl]
      exact Option.some.inj h1
    exact subscriptTail_builtinR (x := w) pl.isList.typeIs slot_list_getitem.lookup
      (wpAny_getItem_list_neg (Q := fun r s' => r = w ∧ EP X pins σ Q r s') pl.isList (by omega) (by rw [List.size_toArray] <;> omega) (by omega) (by rw [hj]; simpa using ew) ⟨rfl, fin⟩) hs
theorem ix_tup : IxR X (rIxT X.K) := by
  intro value slice pins s σ H x y v u Q I rx ry h hs
  obtain ⟨p, xs, i, z, rfl, rfl, hq, he, q⟩ := h
  cases rx
  obtain ⟨t, rfl⟩ := ry
  obtain ⟨its, r, pl, hz⟩ := I.tuple hq
  obtain ⟨j, h1, h2, h3, h4, h5⟩ := atI_get he
  obtain ⟨w, ew, rw'⟩ := r.get h2
  have hl := r.length
  have hn := line63
  have fin : EP X pins σ Q w s := ⟨z, H, I, rw', q⟩
  exact subscriptTail_builtinR (x := w) pl.typeIs slot_tuple_getitem.lookup
    (getItem_tuple (j := j) (Q := fun r s' => r = w ∧ EP X pins σ Q r s') pl (by omega) (by omega) (by rw [List.size_toArray, ← hl]; exact h1) (by simpa using ew) ⟨rfl, fin⟩) hs
/-- list, tuple or str -/
def rIx (K : PySem.W.Frag) : R2 := fun x y H Q => rIxL K x y H Q ∨ rIxT K x y H Q ∨ rIxS x y H Q
/-! ### xs[i] = v, any sign -/
/-- the list's object behind a store -/
theorem mapSeq_set (its : List Value) (n j : Nat) (u : Value) : Obj.mapSeq (·.setIfInBounds j u) { cls := .type "list", data := .seq its.toArray n } = { cls := .type "list", data := .seq (its.set j u).toArray n } := by
  simp [Obj.mapSeq]
theorem Inv.lst {pins : List (Addr × Obj)} {σ : St} {H : Hp} {s : Shared} {p : Addr} {xs : List V} (I : Inv X pins σ H s) (h : H p = some (.lst xs)) :
    ∃ (its : List Value) (n : Nat), Vals xs its ∧ s.heap.get? p = some { cls := .type "list", data := .seq its.toArray n } ∧ xs.length ≤ sizeLine := by
  obtain ⟨z, its, n, r, e⟩ := I.hok p _ h
  exact ⟨its, n, r, e, z⟩
/-- the list at p is written by an update of its object -/
theorem Inv.lstUpd {pins : List (Addr × Obj)} {σ : St} {H : Hp} {s : Shared} {p : Addr} {xs ys : List V} {its its' : List Value} {n n' : Nat} {f : Obj → Obj} (I : Inv X pins σ H s) (h : H p = some (.lst xs))
    (ho : s.heap.get? p = some { cls := .type "list", data := .seq its.toArray n }) (hf : f { cls := .type "list", data := .seq its.toArray n } = { cls := .type "list", data := .seq its'.toArray n' }) (r : Vals ys its') (hz : ys.length ≤ sizeLine) (t : Nat) :
    Inv X pins σ (upd H p (.lst ys)) { s with heap := s.heap.update p f, toks := t } := by
  have e : (s.heap.update p f).get? p = some { cls := .type "list", data := .seq its'.toArray n' } := by
    rw [Heap.get?_update_self f ho (by rw [hf] <;> rfl), hf]
  refine I.write (x := p) (e := p) (by rw [h]; trivial) (.inl rfl) (fun b u hb q => (Heap.get?_update_other _ _ (Ne.symm hb)).trans q) ⟨_, e⟩ ?_
  exact ⟨hz, its', n', r, e⟩
def rSetL : V → V → V → Hp → (Hp → Prop) → Prop := fun o i v H Q => ∃ p xs k j, o = .ref p ∧ i = .int k ∧ H p = some (.lst xs) ∧ ixN xs.length k = some j ∧ Q (upd H p (.lst (xs.set j v)))
theorem set_list : PSet X rSetL := by
  intro pins s σ H o i v ov iv u Q I ro ri rv h
  obtain ⟨p, xs, k, j, rfl, rfl, hp, hj, q⟩ := h
  cases ro
  obtain ⟨t, rfl⟩ := ri
  obtain ⟨its, n, r, ho, hz⟩ := I.lst hp
  obtain ⟨h1, h2, h3, h4⟩ := ixN_seq hj
  have hl := r.length
  have hn := line63
  have I' : Inv X pins σ (upd H p (.lst (xs.set j v))) { s with heap := s.heap.update p (Obj.mapSeq (·.setIfInBounds j u)) } :=
    I.lstUpd hp ho (mapSeq_set its n j u) (r.set rv j) (by rw [List.length_set]; exact hz) s.toks
  by_cases h0 : 0 ≤ k
  · have hk : k.toNat = j := by
      rw [seqIndex_of h0 h4] at h1
      exact Option.some.inj h1
    exact PySem.W.ki_setAt ho h0 (by omega) (by rw [List.size_toArray, ← hl]; exact h4) (by rw [hk]; exact ⟨_, I', q⟩)
  · have hk : (k + (its.toArray.size : Int)).toNat = j := by
      rw [seqIndex_neg (by omega) h3] at h1
      rw [List.size_toArray, ← hl]
      exact Option.some.inj h1
    exact PySem.W.ki_setBack ho (by omega) (by rw [List.size_toArray, ← hl]; exact h3) (by omega) (by rw [hk]; exact ⟨_, I', q⟩)

/-! ### slices -/
theorem slice_bounds (lo hi : Option Int) (n : Nat) : (sliceBounds lo hi none n).1 = ((HT.sIx n 0 lo : Nat) : Int) ∧ (sliceBounds lo hi none n).2.1 = ((HT.sIx n n hi : Nat) : Int) ∧ (sliceBounds lo hi none n).2.2 = 1 := by
  refine ⟨?_, ?_, rfl⟩
  · cases lo with
    | none => simp [sliceBounds, HT.sIx]
    | some i =>
      simp only [sliceBounds, HT.sIx, Option.getD_none, show (1 : Int) > 0 by decide, if_true]
      by_cases h : i < 0
      · simp only [h, if_true] <;> omega
      · simp only [h, if_false] <;> omega
  · cases hi with
    | none => simp [sliceBounds, HT.sIx]
    | some i =>
      simp only [sliceBounds, HT.sIx, Option.getD_none, show (1 : Int) > 0 by decide, if_true]
      by_cases h : i < 0
      · simp only [h, if_true] <;> omega
      · simp only [h, if_false] <;> omega
theorem slicePick_cut (its : List Value) (lo hi : Option Int) : slicePick its.toArray lo hi none = ((its.drop (HT.sIx its.length 0 lo)).take (HT.sIx its.length its.length hi - HT.sIx its.length 0 lo)).toArray := by
  obtain ⟨h1, h2, h3⟩ := slice_bounds lo hi its.toArray.size
  unfold slicePick
  rw [h1, h2, h3]
  simp only [sliceRange_one, pick_run, List.size_toArray] <;> rfl
/-- xs[lo:hi] of a list: a new list -/
def rSlL (K : PySem.W.Frag) : V → Option Int → Option Int → Hp → VK → Prop := fun x lo hi H Q => ∃ a xs, x = .ref a ∧ SqL K H a xs ∧ ∀ p, H p = none → Q (.ref p) (upd H p (.lst (cutV xs lo hi)))
theorem sl_list : SlR X (rSlL X.K) := by
  intro pins s σ H x v vl vu lo hi sl Q I rx hs pl pu h
  obtain ⟨a, xs, rfl, hx, q⟩ := h
  cases rx
  obtain ⟨its, r, ht, hz⟩ := I.list hx
  have hlen := r.length
  refine ⟨"list", _, slot_list_getitem.lookup, ht.isList.typeIs, ?_⟩
  refine wpAny_getItem_list_slice ht.isList hs pl pu .none (by simp) ?_ (by rw [List.size_toArray] <;> omega)
  rw [slicePick_cut, ← hlen]
  refine ⟨.ref s.heap.objs.size, _, I.laid (t' := s.toks) (o := .lst (cutV xs lo hi)) (fun b ob q => Heap.get?_push_of_some _ q) (Nat.le_refl _) ?_, rfl, q _ (I.hok.fresh (Nat.le_refl _))⟩
  exact ⟨Nat.le_trans (cutV_length xs lo hi) hz, _, 0, (r.drop (HT.sIx xs.length 0 lo)).take (HT.sIx xs.length xs.length hi - HT.sIx xs.length 0 lo), Heap.get?_push_size _ rfl⟩

/-! ### in, not in: flat items -/
def flatV : V → Bool
  | .non => true
  | .bl _ => true
  | .int _ => true
  | .str _ => true
  | _ => false
/-- == of flat values -/
def eqV : V → V → Bool
  | .non, .non => true
  | .bl a, .bl b => a == b
  | .bl a, .int b => (if a then 1 else 0) == b
  | .int a, .bl b => a == (if b then 1 else 0)
  | .int a, .int b => a == b
  | .str a, .str b => a == b
  | _, _ => false
theorem eqAt_V {A : Around} {s : Shared} {y x : V} {u v : Value} (ry : RelV y u) (rx : RelV x v) (fy : flatV y = true) (fx : flatV x = true) : SeqAt.EqAt A s u v (eqV y x) := by
  cases y with
  | non =>
    cases ry
    cases x with
    | non => cases rx; exact SeqAt.EqAt.same _
    | bl b => cases rx; exact SeqAt.EqAt.none_bool b
    | int b => obtain ⟨t, rfl⟩ := rx; exact SeqAt.EqAt.none_int b t
    | str b => obtain ⟨t, rfl⟩ := rx; exact SeqAt.EqAt.none_str b t
    | _ => exact absurd (show false = true from fx) Bool.false_ne_true
  | bl a =>
    cases ry
    cases x with
    | non => cases rx; exact SeqAt.EqAt.bool_none a
    | bl b => cases rx; exact SeqAt.EqAt.bool_bool a b
    | int b => obtain ⟨t, rfl⟩ := rx; exact SeqAt.EqAt.bool_int a b t
    | str b => obtain ⟨t, rfl⟩ := rx; exact SeqAt.EqAt.bool_str a b t
    | _ => exact absurd (show false = true from fx) Bool.false_ne_true
  | int a =>
    obtain ⟨t', rfl⟩ := ry
    cases x with
    | non => cases rx; exact SeqAt.EqAt.int_none a t'
    | bl b => cases rx; exact SeqAt.EqAt.int_bool a t' b
    | int b => obtain ⟨t, rfl⟩ := rx; exact SeqAt.EqAt.int_int a t' b t
    | str b => obtain ⟨t, rfl⟩ := rx; exact SeqAt.EqAt.int_str a t' b t
    | _ => exact absurd (show false = true from fx) Bool.false_ne_true
  | str a =>
    obtain ⟨t', rfl⟩ := ry
    cases x with
    | non => cases rx; exact SeqAt.EqAt.str_none a t'
    | bl b => cases rx; exact SeqAt.EqAt.str_bool a t' b
    | int b => obtain ⟨t, rfl⟩ := rx; exact SeqAt.EqAt.str_int a t' b t
    | str b => obtain ⟨t, rfl⟩ := rx; exact SeqAt.EqAt.str_str a t' b t
    | _ => exact absurd (show false = true from fx) Bool.false_ne_true
  | _ => exact absurd (show false = true from fy) Bool.false_ne_true
/-- the items' answers, read off the values (a value's own answer does not lean on its token) -/
def eqU (x : V) (u : Value) : Bool := match u with
  | .none => eqV .non x
  | .bool b => eqV (.bl b) x
  | .int i _ => eqV (.int i) x
  | .str z _ => eqV (.str z) x
  | _ => false
theorem eqU_of {x y : V} {u : Value} (r : RelV y u) (f : flatV y = true) : eqU x u = eqV y x := by
  cases y with
  | non => cases r; rfl
  | bl b => cases r; rfl
  | int i => obtain ⟨t, rfl⟩ := r; rfl
  | str z => obtain ⟨t, rfl⟩ := r; rfl
  | _ => exact absurd (show false = true from f) Bool.false_ne_true
theorem any_eqU {x : V} : ∀ {xs : List V} {us : List Value}, Vals xs us → xs.all flatV = true → us.any (eqU x) = xs.any fun y => eqV y x
  | _, _, .nil, _ => rfl
  | y :: xs, u :: us, .cons r t, f => by
    rw [List.all_cons, Bool.and_eq_true] at f
    rw [List.any_cons, List.any_cons, eqU_of r f.1, any_eqU t f.2]
theorem mem_eqAt {A : Around} {s : Shared} {x : V} {v : Value} (rx : RelV x v) (fx : flatV x = true) : ∀ {xs : List V} {us : List Value}, Vals xs us → xs.all flatV = true → ∀ u ∈ us, SeqAt.EqAt A s u v (eqU x u)
  | _, _, .nil, _ => fun u hu => by cases hu
  | y :: xs, u :: us, .cons r t, f => fun u' hu => by
    rw [List.all_cons, Bool.and_eq_true] at f
    rcases List.mem_cons.mp hu with rfl | hu
    · rw [eqU_of r f.1]; exact eqAt_V r rx f.1 fx
    · exact mem_eqAt rx fx t f.2 u' hu
def inV (x : V) (xs : List V) : Bool := xs.any fun y => eqV y x
/-- x in a list or tuple of flat items -/
def rIn (K : PySem.W.Frag) (neg : Bool) : R2 := fun x y H Q => ∃ p xs, y = .ref p ∧ (SqL K H p xs ∨ SqT K H p xs) ∧ flatV x = true ∧ xs.all flatV = true ∧ Q (.bl (if neg then !inV x xs else inV x xs)) H
theorem op_in_seq : OpR X (compareOp .In) (rIn X.K false) := by
  intro pins s σ H x y v u Q I rx ry h
  obtain ⟨p, xs, rfl, hq, fx, fs, q⟩ := h
  cases ry
  rcases hq with hq | hq
  · obtain ⟨its, r, pl, hz⟩ := I.list hq
    refine SeqAt.in_listAt (eqU x) pl.isList (fun w hw => mem_eqAt rx fx r fs w (by simpa using hw)) ⟨.bl _, H, I, rfl, ?_⟩
    rw [show its.toArray.any (eqU x) = its.any (eqU x) by simp, any_eqU r fs]
    exact q
  · obtain ⟨its, r, pl, hz⟩ := I.tuple hq
    refine SeqAt.in_tupleAt (eqU x) pl (fun w hw => mem_eqAt rx fx r fs w (by simpa using hw)) ⟨.bl _, H, I, rfl, ?_⟩
    rw [show its.toArray.any (eqU x) = its.any (eqU x) by simp, any_eqU r fs]
    exact q
theorem op_notIn_seq : OpR X (compareOp .NotIn) (rIn X.K true) := by
  intro pins s σ H x y v u Q I rx ry h
  obtain ⟨p, xs, rfl, hq, fx, fs, q⟩ := h
  cases ry
  rcases hq with hq | hq
  · obtain ⟨its, r, pl, hz⟩ := I.list hq
    refine SeqAt.notIn_listAt (eqU x) pl.isList (fun w hw => mem_eqAt rx fx r fs w (by simpa using hw)) ⟨.bl _, H, I, rfl, ?_⟩
    rw [show its.toArray.any (eqU x) = its.any (eqU x) by simp, any_eqU r fs]
    exact q
  · obtain ⟨its, r, pl, hz⟩ := I.tuple hq
    refine SeqAt.notIn_tupleAt (eqU x) pl (fun w hw => mem_eqAt rx fx r fs w (by simpa using hw)) ⟨.bl _, H, I, rfl, ?_⟩
    rw [show its.toArray.any (eqU x) = its.any (eqU x) by simp, any_eqU r fs]
    exact q
/-! ### len, list(x), tuple(x) of any list or tuple that is read -/
theorem call_len_seq : CallR X (.builtin "len") (fun xs H Q => ∃ p ys, xs = [.ref p] ∧ (SqL X.K H p ys ∨ SqT X.K H p ys) ∧ Q (.int ys.length) H) := by
  intro pins s σ H xs us Q I r h
  obtain ⟨p, ys, rfl, hq, q⟩ := h
  obtain ⟨u, rfl, rx⟩ := vals1 r
  cases rx
  have hn := line63
  rcases hq with hq | hq
  · obtain ⟨its, r', pl, hz⟩ := I.list hq
    have hlen := r'.length
    exact Calls.call_len_list pl.isList (by simp only [List.size_toArray] <;> omega) ⟨.int ys.length, H, I.tok _, ⟨s.toks + 1, by rw [List.size_toArray, hlen]⟩, q⟩
  · obtain ⟨its, r', pl, hz⟩ := I.tuple hq
    have hlen := r'.length
    exact len_tuple pl (by simp only [List.size_toArray] <;> omega) ⟨.int ys.length, H, I.tok _, ⟨s.toks + 1, by rw [List.size_toArray, hlen]⟩, q⟩
theorem CallR.or {f : Value} {r r' : List V → Hp → VK → Prop} (h : CallR X f r) (h' : CallR X f r') : CallR X f (fun xs H Q => r xs H Q ∨ r' xs H Q) := by
  intro pins s σ H xs us Q I rs q
  rcases q with q | q
  · exact h pins s σ H xs us Q I rs q
  · exact h' pins s σ H xs us Q I rs q
theorem call_list_of : CallR X (.type "list") (fun xs H Q => ∃ p ys, xs = [.ref p] ∧ (SqL X.K H p ys ∨ SqT X.K H p ys) ∧ ∀ l, H l = none → Q (.ref l) (upd H l (.lst ys))) := by
  intro pins s σ H xs us Q I r h
  obtain ⟨p, ys, rfl, hq, q⟩ := h
  obtain ⟨u, rfl, rx⟩ := vals1 r
  cases rx
  have fin : ∀ (its : List Value), Vals ys its → ys.length ≤ sizeLine → ∀ (h' : Heap) (c' : Nat), (∀ b o', s.heap.get? b = some o' → h'.get? b = some o') →
      h'.get? s.heap.objs.size = some { cls := .type "list", dict := none, data := .seq its.toArray c', slots := #[] } → EP X pins σ Q (.ref s.heap.objs.size) { s with heap := h' } := fun its r' hz h' c' kp e =>
    ⟨.ref s.heap.objs.size, _, I.laid (t' := s.toks) kp (Nat.le_refl _) (show ObjOk X.prog X.w _ h' _ (.lst ys) from ⟨hz, its, c', r', e⟩), rfl, q _ (I.hok.fresh (Nat.le_refl _))⟩
  rcases hq with hq | hq
  · obtain ⟨its, r', pl, hz⟩ := I.list hq
    have hlen := r'.length
    obtain ⟨o, ho, hc, n, hd⟩ := pl.isList
    exact call_list_seq p (.inl rfl) ho hc hd (fun h' c' kp e => fin its r' hz h' c' kp e) (by simp only [List.size_toArray] <;> omega)
  · obtain ⟨its, r', pl, hz⟩ := I.tuple hq
    have hlen := r'.length
    obtain ⟨o, ho, hc, n, hd⟩ := pl
    exact call_list_seq p (.inr rfl) ho hc hd (fun h' c' kp e => fin its r' hz h' c' kp e) (by simp only [List.size_toArray] <;> omega)
/-! ### the call of a builtin's method: o.m(..) -/
/-- the value is of that builtin type -/
def tyV (K : PySem.W.Frag) (T : String) (x : V) (H : Hp) : Prop := match x with
  | .str _ => T = "str"
  | .int _ => T = "int"
  | .ref p => (T = "list" ∧ ∃ xs, SqL K H p xs) ∨ (T = "tuple" ∧ ∃ o, K.lookup p = some o ∧ o.cls = .type "tuple" ∧ o.dict = none) ∨
      (T = "dict" ∧ ((∃ kvs, H p = some (.dK kvs)) ∨ ∃ kvs, H p = some (.dT kvs))) ∨ (T = "set" ∧ ∃ S n, H p = some (.set S n))
  | _ => False
theorem tyV_is {pins : List (Addr × Obj)} {σ : St} {H : Hp} {s : Shared} {T : String} {x : V} {v : Value} (I : Inv X pins σ H s) (r : RelV x v) (ty : tyV X.K T x H) :
    s.TypeIs v T ∧ ∀ a, v = .ref a → ∃ ob, s.heap.get? a = some ob ∧ ob.dict = none := by
  cases x with
  | str z =>
    obtain ⟨t, rfl⟩ := r
    cases (show T = "str" from ty)
    exact ⟨typeIs_str s z t, fun _ e => nomatch e⟩
  | int i =>
    obtain ⟨t, rfl⟩ := r
    cases (show T = "int" from ty)
    exact ⟨typeIs_int s i t, fun _ e => nomatch e⟩
  | ref p =>
    cases r
    rcases ty with ⟨rfl, xs, hq⟩ | ⟨rfl, o, hk, hc, hd⟩ | ⟨rfl, hk⟩ | ⟨rfl, S, n, hk⟩
    · obtain ⟨its, _, pl, _⟩ := I.list hq
      refine ⟨pl.isList.typeIs, fun a e => ?_⟩
      cases e
      obtain ⟨o, n, e, c, hd, _⟩ := pl
      exact ⟨o, e, hd⟩
    · refine ⟨⟨o, I.kIn p o hk, hc⟩, fun a e => ?_⟩
      cases e
      exact ⟨o, I.kIn _ o hk, hd⟩
    · have z : ∃ o, s.heap.get? p = some o ∧ o.ExactDict := by
        rcases hk with ⟨kvs, hk⟩ | ⟨kvs, hk⟩
        · obtain ⟨_, _, _, _, o, _, _, e, ex, _⟩ := I.hok p _ hk
          exact ⟨o, e, ex⟩
        · obtain ⟨_, _, _, _, o, _, _, e, ex, _⟩ := I.hok p _ hk
          exact ⟨o, e, ex⟩
      obtain ⟨o, e, ex⟩ := z
      refine ⟨⟨o, e, ex.1⟩, fun a e2 => ?_⟩
      cases e2
      exact ⟨o, e, ex.2.1⟩
    · obtain ⟨o, _, _, _, e, ex, _⟩ := I.hok p _ hk
      refine ⟨⟨o, e, ex.1⟩, fun a e2 => ?_⟩
      cases e2
      exact ⟨o, e, ex.2.1⟩
  | _ => exact False.elim ty
def tBM0 (K : PySem.W.Frag) (T : String) (r : V → List V → Hp → VK → Prop) (to : TE) : TE := fun σ H Q => to σ H fun x H1 => tyV K T x H1 ∧ r x [] H1 Q
def tBM (K : PySem.W.Frag) (T : String) (r : V → List V → Hp → VK → Prop) (to : TE) (t : TA) : TE := fun σ H Q => to σ H fun x H1 => tyV K T x H1 ∧ t σ H1 fun xs H2 => r x xs H2 Q
variable {o e : Expr} {es : List Expr} {to : TE} {t : TA} {name : Str} {apos cpos : Pos} {T id : String} {r : V → List V → Hp → VK → Prop}
theorem pe_bm0 (pa : PlainAttrs T) (slot : Slot T name id) (hty : typeOf (.builtin id) = pure (.type "method_descriptor")) (hm : MtR X id r) (ho : PE X o to)
    (hbase : attributeBase o name X.env (eval o X.env) = eval o X.env := by rfl) (hline : (apos.endLine == cpos.line) = true := by rfl) : PE X (.Call (.Attribute o name apos) [] [] cpos) (tBM0 X.K T r to) := by
  intro pins s σ H Q I h
  refine wpAny_Call_method0_late hbase hline (thn (ho pins s σ H _ I h) fun v s1 ⟨x, H1, I1, r1, ty, q1⟩ => ?_)
  obtain ⟨h1, h2⟩ := tyV_is I1 r1 ty
  exact ⟨T, id, pa, slot, hty, h1, h2, Calls.callWith_builtin rfl (PySem.evalArgs_none (hm pins s1 σ H1 x [] v [] Q I1 r1 .nil q1))⟩
theorem pe_bm (pa : PlainAttrs T) (slot : Slot T name id) (hty : typeOf (.builtin id) = pure (.type "method_descriptor")) (hm : MtR X id r) (ho : PE X o to) (ha : PA X (e :: es) t)
    (hbase : attributeBase o name X.env (eval o X.env) = eval o X.env := by rfl)
    (hfew : ((backTo cpos (starEach (e :: es) X.env)).all (fun x => !x.1) && (backToKw cpos (keywordEach [] X.env)).all (fun x => x.1.isSome)
      && decide ((e :: es).length + ([] : List Keyword).length + (if ([] : List Keyword).isEmpty then 0 else 1) < 30)) = true := by rfl)
    (hline : (apos.endLine == cpos.line) = true := by rfl) (hs : starEach (e :: es) X.env = (false, eval e X.env) :: starEach es X.env := by rfl) (hplain : (backTo cpos (starEach es X.env)).any (·.1) = false := by rfl) :
    PE X (.Call (.Attribute o name apos) (e :: es) [] cpos) (tBM X.K T r to t) := by
  intro pins s σ H Q I h
  refine wpAny_Call_method_late hbase hfew hline rfl (thn (ho pins s σ H _ I h) fun v s1 ⟨x, H1, I1, r1, ty, q1⟩ => ?_)
  obtain ⟨h1, h2⟩ := tyV_is I1 r1 ty
  refine ⟨T, id, pa, slot, hty, h1, h2, ?_⟩
  have hA := ha cpos pins s1 σ H1 _ I1 q1
  rw [hs] at hA ⊢
  refine Calls.callWith_builtin (by show (false || (backTo cpos (starEach es X.env)).any (·.1)) = false; rw [hplain] <;> rfl) (Calls.evalArgs_plain ?_)
  exact thn hA fun us s2 ⟨vs, H2, I2, r2, q2⟩ => hm pins s2 σ H2 x vs v us Q I2 r1 r2 q2
/- xs.append(e), list.index on a module's tuple .. are MtR facts of 06m -/
end
end L2

namespace L2
open PySem PySem.Spec PyProof.Rows

def MtM (X : Cx) (id : String) (r : V → List V → Hp → VK → Prop) : Prop :=
  ∀ (pins : List (Addr × Obj)) (s : Shared) (σ : St) (H : Hp) (x : V) (xs : List V) (v : Value) (us : List Value) (Q : VK), Inv X pins σ H s → RelV x v → Vals xs us → r x xs H Q →
    wpAny (model X.prog X.w) X.A (call (.builtin id) (v :: us)) (EP X pins σ Q) X.xe s

/-! ### lists of values -/
theorem Vals.one : ∀ {x : V} {us : List Value}, Vals [x] us → ∃ u, us = [u] ∧ RelV x u
  | _, _, .cons r .nil => ⟨_, rfl, r⟩
theorem Vals.two : ∀ {x y : V} {us : List Value}, Vals [x, y] us → ∃ u v, us = [u, v] ∧ RelV x u ∧ RelV y v
  | _, _, _, .cons r (.cons q .nil) => ⟨_, _, rfl, r, q⟩
theorem Vals.zero : ∀ {us : List Value}, Vals [] us → us = []
  | _, .nil => rfl
theorem Vals.dropLast {xs : List V} {us : List Value} (h : Vals xs us) : Vals xs.dropLast us.dropLast := by
  induction h with
  | nil => exact .nil
  | cons r t ih =>
    cases t with
    | nil => exact .nil
    | cons q t' => exact .cons r ih
theorem Vals.eraseIdx : ∀ {xs : List V} {us : List Value} (i : Nat), Vals xs us → Vals (xs.eraseIdx i) (us.eraseIdx i)
  | _, _, _, .nil => .nil
  | _, _, 0, .cons _ t => t
  | _, _, i + 1, .cons r t => .cons r (Vals.eraseIdx i t)
theorem Vals.reverse {xs : List V} {us : List Value} (h : Vals xs us) : Vals xs.reverse us.reverse := by
  induction h with
  | nil => exact .nil
  | cons r t ih => rw [List.reverse_cons, List.reverse_cons]; exact Vals.append ih (.cons r .nil)
theorem Vals.rep {xs : List V} {us : List Value} (h : Vals xs us) : ∀ k : Nat, Vals (List.replicate k xs).flatten (List.replicate k us).flatten
  | 0 => .nil
  | k + 1 => by
    rw [List.replicate_succ, List.replicate_succ, List.flatten_cons, List.flatten_cons]
    exact Vals.append h (Vals.rep h k)
theorem len_erase {α : Type} : ∀ (l : List α) (i : Nat), (l.eraseIdx i).length ≤ l.length
  | [], _ => Nat.le_refl _
  | _ :: _, 0 => Nat.le_succ _
  | _ :: r, i + 1 => Nat.succ_le_succ (len_erase r i)
theorem foldl_rep (its : List Value) : ∀ (k : Nat) (acc : List Value),
    List.foldl (fun x1 x2 => x1 ++ x2) acc.toArray (List.replicate k its.toArray) = (acc ++ (List.replicate k its).flatten).toArray
  | 0, acc => by simp
  | k + 1, acc => by
    have e : acc.toArray ++ its.toArray = (acc ++ its).toArray := by simp
    have e2 : (acc ++ its) ++ (List.replicate k its).flatten = acc ++ (List.replicate (k + 1) its).flatten := by
      rw [List.replicate_succ, List.flatten_cons, List.append_assoc]
    rw [← e2, ← foldl_rep its k (acc ++ its), ← e, List.replicate_succ, List.foldl_cons]

section
variable {X : Cx} {pins : List (Addr × Obj)} {σ : St} {H : Hp} {s : Shared} {l b : Addr} {xs ys zs : List V}

/-! ### the two steps: a tracked list is rewritten, a new list is laid -/
theorem Inv.lset {its its' : List Value} {n : Nat} {f : Array Value → Array Value} {t' : Nat} (I : Inv X pins σ H s) (hH : H l = some (.lst xs))
    (e : s.heap.get? l = some { cls := .type "list", data := .seq its.toArray n }) (hf : f its.toArray = its'.toArray) (hv : Vals ys its') (hz : ys.length ≤ sizeLine) :
    Inv X pins σ (upd H l (.lst ys)) { s with heap := s.heap.update l (Obj.mapSeq f), toks := t' } := by
  have q := PySem.IsL.update e f
  rw [hf] at q
  refine I.write (x := l) (e := l) (by rw [hH]; exact trivial) (.inl rfl) (fun b' u hb hu => (Heap.get?_update_other s.heap (Obj.mapSeq f) (Ne.symm hb)).trans hu) ⟨_, q⟩ ?_
  exact ⟨hz, its', _, hv, q⟩
theorem Inv.lnew {its : List Value} {t' : Nat} (I : Inv X pins σ H s) (hv : Vals ys its) (hz : ys.length ≤ sizeLine) :
    Inv X pins σ (upd H s.heap.objs.size (.lst ys)) { s with heap := s.heap.push { cls := .type "list", data := .seq its.toArray }, toks := t' } :=
  I.laid (fun _ _ q => Heap.get?_push_of_some _ q) (Nat.le_refl _) ⟨hz, its, 0, hv, Heap.get?_push_size _ rfl⟩
theorem Inv.fresh (I : Inv X pins σ H s) : H s.heap.objs.size = none := I.hok.fresh (Nat.le_refl _)
theorem Inv.lstM (I : Inv X pins σ H s) (hH : H l = some (.lst xs)) : xs.length ≤ sizeLine ∧ ∃ (its : List Value) (n : Nat), Vals xs its ∧ xs.length = its.length ∧ s.heap.get? l = some { cls := .type "list", data := .seq its.toArray n } := by
  obtain ⟨z, its, n, r, e⟩ := I.hok l _ hH
  exact ⟨z, its, n, r, r.length, e⟩

theorem notLongL {n : Nat} (h : n ≤ sizeLine) : Builtin.List.listTooLong n = false := by
  unfold Builtin.List.listTooLong
  exact decide_eq_false (by omega)
end

section
variable {X : Cx}

/-! ### methods -/
def rAppend : V → List V → Hp → VK → Prop := fun x vs H Q => ∃ l xs y, x = .ref l ∧ vs = [y] ∧ H l = some (.lst xs) ∧ xs.length < sizeLine ∧ Q .non (upd H l (.lst (xs ++ [y])))
theorem mt_append : MtM X "list.append" rAppend := by
  intro pins s σ H x vs v us Q I rx rv h
  obtain ⟨l, xs, y, rfl, rfl, hH, hz, q⟩ := h
  cases rx
  obtain ⟨u, rfl, ru⟩ := rv.one
  obtain ⟨z, its, n, r, hl, e⟩ := I.lstM hH
  refine call_meets F.slot_list_append ⟨_, e, rfl⟩ F.entry_list_append (F.args_list_append_2 _ _) (PySem.list_append l its.toArray n u (by rw [List.size_toArray]; omega)) ⟨e, ?_⟩
  refine ⟨.non, _, I.lset (its' := its ++ [u]) hH e (by simp) (r.append (.cons ru .nil)) ?_, rfl, q⟩
  rw [List.length_append, List.length_singleton]
  omega

def rExtend : V → List V → Hp → VK → Prop := fun x vs H Q => ∃ l b xs zs, x = .ref l ∧ vs = [.ref b] ∧ H l = some (.lst xs) ∧ H b = some (.lst zs) ∧ xs.length + zs.length ≤ sizeLine ∧ Q .non (upd H l (.lst (xs ++ zs)))
def rPop : V → List V → Hp → VK → Prop := fun x vs H Q => ∃ l xs y, x = .ref l ∧ vs = [] ∧ H l = some (.lst xs) ∧ xs[xs.length - 1]? = some y ∧ Q y (upd H l (.lst xs.dropLast))
def rPopAt : V → List V → Hp → VK → Prop := fun x vs H Q => ∃ l xs i k y, x = .ref l ∧ vs = [.int i] ∧ H l = some (.lst xs) ∧ -(2 ^ 63) ≤ i ∧ i < 2 ^ 63 ∧ seqIndex? i xs.length = some k ∧ xs[k]? = some y ∧ Q y (upd H l (.lst (xs.eraseIdx k)))
theorem mt_popAt : MtM X "list.pop" rPopAt := by
  intro pins s σ H x vs v us Q I rx rv h
  obtain ⟨l, xs, i, k, y, rfl, rfl, hH, h1, h2, hk, hy, q⟩ := h
  cases rx
  obtain ⟨u, rfl, ru⟩ := rv.one
  obtain ⟨t, rfl⟩ := ru
  obtain ⟨z, its, n, r, hl, e⟩ := I.lstM hH
  obtain ⟨w, hw, rw'⟩ := r.get hy
  refine call_meets F.slot_list_pop ⟨_, e, rfl⟩ F.entry_list_pop (F.args_list_pop_2 _ _)
    (MeetsSeq.list_pop_at l its.toArray n i t k w (fitsIndex_both h1 h2) (by rw [List.size_toArray, ← hl]; exact hk) (by rw [← Array.getElem?_toList]; exact hw) (by rw [List.size_toArray]; omega)) ⟨e, ?_⟩
  refine ⟨y, _, I.lset (its' := its.eraseIdx k) hH e ?_ (r.eraseIdx k) ?_, rw', q⟩
  · show its.toArray.eraseIdxIfInBounds k = (its.eraseIdx k).toArray
    rw [List.eraseIdxIfInBounds_toArray]
  · have := len_erase xs k
    omega

def rReverse : V → List V → Hp → VK → Prop := fun x vs H Q => ∃ l xs, x = .ref l ∧ vs = [] ∧ H l = some (.lst xs) ∧ Q .non (upd H l (.lst xs.reverse))
def rClear : V → List V → Hp → VK → Prop := fun x vs H Q => ∃ l xs, x = .ref l ∧ vs = [] ∧ H l = some (.lst xs) ∧ Q .non (upd H l (.lst []))
theorem mt_clear : MtM X "list.clear" rClear := by
  intro pins s σ H x vs v us Q I rx rv h
  obtain ⟨l, xs, rfl, rfl, hH, q⟩ := h
  cases rx
  have hus := rv.zero
  subst hus
  obtain ⟨z, its, n, r, hl, e⟩ := I.lstM hH
  refine call_meets F.slot_list_clear ⟨_, e, rfl⟩ F.entry_list_clear (F.args_list_clear_1 _) (AutoSeq1.list_clear_list_0 l its.toArray n (by rw [List.size_toArray]; omega)) ⟨e, ?_⟩
  exact ⟨.non, _, I.lset (its' := []) (ys := []) hH e rfl .nil (Nat.zero_le _), rfl, q⟩

/-! ### list + list, list += list, list * int -/
def rCat : R2 := fun x y H Q => ∃ l b xs zs, x = .ref l ∧ y = .ref b ∧ H l = some (.lst xs) ∧ H b = some (.lst zs) ∧ xs.length + zs.length ≤ sizeLine ∧ ∀ p, H p = none → Q (.ref p) (upd H p (.lst (xs ++ zs)))
theorem op_cat : OpR X (binaryOp .Add) rCat := by
  intro pins s σ H x y v u Q I rx ry h
  obtain ⟨l, b, xs, zs, rfl, rfl, hH, hB, hz, q⟩ := h
  cases rx
  cases ry
  obtain ⟨z, its, n, r, hl, e⟩ := I.lstM hH
  obtain ⟨z2, its2, n2, r2, hl2, e2⟩ := I.lstM hB
  refine PySem.P.add_list e e2 ?_ (by rw [List.size_toArray, List.size_toArray]; omega)
  have ea : its.toArray ++ its2.toArray = (its ++ its2).toArray := by simp
  rw [ea]
  exact ⟨.ref _, _, I.lnew (t' := s.toks) (r.append r2) (by rw [List.length_append]; omega), rfl, q _ I.fresh⟩
/-- a list times an int (a negative one is nothing) -/
def rRep : R2 := fun x y H Q => ∃ l k xs, x = .ref l ∧ y = .int k ∧ H l = some (.lst xs) ∧ -(2 ^ 63) ≤ k ∧ k < 2 ^ 63 ∧ xs.length * k.toNat ≤ sizeLine ∧
  ∀ p, H p = none → Q (.ref p) (upd H p (.lst (List.replicate k.toNat xs).flatten))
theorem len_rep {α : Type} (xs : List α) (k : Nat) : (List.replicate k xs).flatten.length = k * xs.length := by
  induction k with
  | zero => simp
  | succ k ih => rw [List.replicate_succ, List.flatten_cons, List.length_append, ih, Nat.succ_mul, Nat.add_comm]
theorem op_rep : OpR X (binaryOp .Mult) rRep := by
  intro pins s σ H x y v u Q I rx ry h
  obtain ⟨l, k, xs, rfl, rfl, hH, h1, h2, hz, q⟩ := h
  cases rx
  obtain ⟨t, rfl⟩ := ry
  obtain ⟨z, its, n, r, hl, e⟩ := I.lstM hH
  have hlen : its.toArray.size * k.toNat ≤ sizeLine := by rw [List.size_toArray, ← hl]; exact hz
  have hcap : ¬ its.toArray.size * k.toNat > (2 ^ 63 - 1) / 8 := by
    have : (sizeLine : Nat) ≤ (2 ^ 63 - 1) / 8 := by decide
    omega
  have hfit : ¬ (!Builtin.List.listFitsIndex k) = true := by
    rw [fitsIndex_both h1 h2]
    exact Bool.false_ne_true
  have hlong : ¬ Builtin.List.listTooLong (its.toArray.size * k.toNat) = true := by
    rw [notLongL hlen]
    exact Bool.false_ne_true
  have hnew : List.foldl (fun x1 x2 => x1 ++ x2) #[] (List.replicate (if its.toArray.isEmpty = true then 0 else k.toNat) its.toArray) = (List.replicate k.toNat its).flatten.toArray := by
    have f0 : ∀ m : Nat, List.foldl (fun x1 x2 => x1 ++ x2) #[] (List.replicate m its.toArray) = (List.replicate m its).flatten.toArray := fun m => by
      have := foldl_rep its m []
      rw [List.nil_append] at this
      exact this
    rw [f0]
    cases its with
    | nil => simp
    | cons a r' => rw [if_neg (by simp)]
  refine wpAny_binaryOp_repeat_ref (T := "list") (U := "int") (by decide) ⟨_, e, rfl⟩ (fun s' => typeIs_int s' k t) noFill_list_mul F.fills_int_mul F.slot_int_rmul repeat_list F.slot_int_index.lookup
    (call_meets F.slot_int_rmul (typeIs_int s k t) F.entry_int_rmul (F.args_int_rmul_2 _ _) (int___rmul___int_list k t l its.toArray n)
      ⟨e, rfl, ⟨_, e, rfl⟩, call_meets F.slot_list_mul ⟨_, e, rfl⟩ F.entry_list_mul (F.args_list_mul_2 _ _) (AutoListH.list___mul___list_int_3 l its.toArray n k t hfit hcap hlong) ⟨e, ?_⟩⟩)
  rw [hnew]
  exact ⟨.ref _, _, I.lnew (t' := s.toks) (r.rep k.toNat) (by rw [len_rep, Nat.mul_comm]; exact hz), rfl, q _ I.fresh⟩

/-! ### del xs[i] -/
end

/-! ### xs[a:b] = ys -/
section
variable {prog : Program} {w : World} {A : Around} {E : Value → Shared → Prop} {s : Shared}
end

section
variable {X : Cx}
end
end L2

namespace L2
open PySem PySem.Spec PyProof.Rows

/-! ### lists of pairs as tables -/
section
variable {κ : Type} [DecidableEq κ]
def valV (kvs : List (κ × V)) (k : κ) : Option V := (kvs.find? fun kv => decide (kv.1 = k)).map (·.2)
/-- in its place, or at the end -/
def putK (kvs : List (κ × V)) (k : κ) (v : V) : List (κ × V) :=
  if (kvs.any fun kv => decide (kv.1 = k)) = true then kvs.map (fun kv => if kv.1 = k then (kv.1, v) else kv) else kvs ++ [(k, v)]
def dropK (kvs : List (κ × V)) (k : κ) : List (κ × V) := kvs.filter fun kv => decide (kv.1 ≠ k)

theorem valV_pos {p : κ × V} {r : List (κ × V)} {k : κ} (e : p.1 = k) : valV (p :: r) k = some p.2 := by simp [valV, List.find?_cons, e]
theorem valV_neg {p : κ × V} {r : List (κ × V)} {k : κ} (e : ¬ p.1 = k) : valV (p :: r) k = valV r k := by simp [valV, List.find?_cons, e]
theorem valV_any (k : κ) : ∀ kvs : List (κ × V), (kvs.any fun kv => decide (kv.1 = k)) = (valV kvs k).isSome
  | [] => rfl
  | p :: r => by
    rw [List.any_cons]
    by_cases e : p.1 = k
    · simp only [valV_pos e, decide_eq_true e, Bool.true_or, Option.isSome_some]
    · rw [valV_neg e, decide_eq_false e, Bool.false_or]; exact valV_any k r
theorem RelO.isSome_eq {o : Option V} {u : Option Value} (r : RelO o u) : o.isSome = u.isSome := by
  cases o with
  | none => cases u with
    | none => rfl
    | some _ => exact (show False from r).elim
  | some _ => cases u with
    | none => exact (show False from r).elim
    | some _ => rfl
theorem RelO.getD {o : Option V} {u : Option Value} {d : V} {d' : Value} (r : RelO o u) (rd : RelV d d') : RelV (o.getD d) (u.getD d') := by
  cases o with
  | none => cases u with
    | none => exact rd
    | some _ => exact (show False from r).elim
  | some _ => cases u with
    | none => exact (show False from r).elim
    | some _ => exact r

/-- raw tables of the same keys -/
theorem KV.val {kvs : List (κ × V)} {vs : List (κ × Value)} (r : KV kvs vs) (k : κ) : RelO (valV kvs k) (valueAt vs k) := by
  unfold KV at r
  induction r with
  | nil => exact True.intro
  | @cons p q ps qs h t ih =>
    obtain ⟨h1, h2⟩ := h
    by_cases e : p.1 = k
    · have e' : q.1 = k := h1.symm.trans e
      have b : valueAt (q :: qs) k = some q.2 := by simp [valueAt, List.find?_cons, e']
      rw [valV_pos e, b]; exact h2
    · have e' : ¬ q.1 = k := fun z => e (h1.trans z)
      have b : valueAt (q :: qs) k = valueAt qs k := by simp [valueAt, List.find?_cons, e']
      rw [valV_neg e, b]; exact ih
theorem KV.any {kvs : List (κ × V)} {vs : List (κ × Value)} (r : KV kvs vs) (k : κ) : (kvs.any fun kv => decide (kv.1 = k)) = vs.any fun kv => decide (kv.1 = k) := by
  unfold KV at r
  induction r with
  | nil => rfl
  | cons h t ih => rw [List.any_cons, List.any_cons, ih, h.1]
theorem KV.repl {kvs : List (κ × V)} {vs : List (κ × Value)} (r : KV kvs vs) (k : κ) {y : V} {u : Value} (ry : RelV y u) :
    KV (kvs.map fun kv => if kv.1 = k then (kv.1, y) else kv) (vs.map fun kv => if kv.1 = k then (kv.1, u) else kv) := by
  unfold KV at r ⊢
  induction r with
  | nil => exact .nil
  | @cons p q ps qs h t ih =>
    rw [List.map_cons, List.map_cons]
    refine .cons ?_ ih
    obtain ⟨h1, h2⟩ := h
    by_cases e : p.1 = k
    · rw [if_pos e, if_pos (h1.symm.trans e)]; exact ⟨h1, ry⟩
    · rw [if_neg e, if_neg (fun z => e (h1.trans z))]; exact ⟨h1, h2⟩
theorem KV.put {kvs : List (κ × V)} {vs : List (κ × Value)} (r : KV kvs vs) (k : κ) {y : V} {u : Value} (ry : RelV y u) : KV (putK kvs k y) (stored vs k u) := by
  unfold putK stored
  rw [r.any k]
  by_cases e : (vs.any fun kv => decide (kv.1 = k)) = true
  · rw [if_pos e, if_pos e]; exact r.repl k ry
  · rw [if_neg e, if_neg e]; exact Paired.snoc r ⟨rfl, ry⟩
theorem KV.drop {kvs : List (κ × V)} {vs : List (κ × Value)} (r : KV kvs vs) (k : κ) : KV (dropK kvs k) (without vs k) := by
  unfold KV at r ⊢
  unfold dropK without
  induction r with
  | nil => exact .nil
  | @cons p q ps qs h t ih =>
    obtain ⟨h1, h2⟩ := h
    rw [List.filter_cons, List.filter_cons]
    by_cases e : p.1 = k
    · have a : ¬ decide (p.1 ≠ k) = true := by simp [e]
      have b : ¬ decide (q.1 ≠ k) = true := by simp [h1.symm.trans e]
      rw [if_neg a, if_neg b]; exact ih
    · have e' : ¬ q.1 = k := fun z => e (h1.trans z)
      have a : decide (p.1 ≠ k) = true := by simp [e]
      have b : decide (q.1 ≠ k) = true := by simp [e']
      rw [if_pos a, if_pos b]; exact .cons ⟨h1, h2⟩ ih
theorem KV.keys {kvs : List (κ × V)} {vs : List (κ × Value)} (r : KV kvs vs) : kvs.map (·.1) = vs.map (·.1) := by
  unfold KV at r
  induction r with
  | nil => rfl
  | cons h t ih => rw [List.map_cons, List.map_cons, ih, h.1]
theorem KV.length {kvs : List (κ × V)} {vs : List (κ × Value)} (r : KV kvs vs) : kvs.length = vs.length := Paired.length r
end


/-! ### a tracked dict, its keys ints and texts or tuples of these -/
/-- raw entries of a dict with tuple keys -/
abbrev KT (H : Hp) : List (List Key × V) → List (List Key × Addr × Value) → Prop := Paired fun p q => p.1 = q.1 ∧ H q.2.1 = some (.tup (p.1.map kV)) ∧ RelV p.2 q.2.2
theorem KT.val {H : Hp} {kvs : List (List Key × V)} {xs : List (List Key × Addr × Value)} (r : KT H kvs xs) (k : List Key) : RelO (valV kvs k) ((atKey xs k).map (·.2)) := by
  induction r with
  | nil => exact True.intro
  | @cons p q ps qs h t ih =>
    obtain ⟨h1, _, h2⟩ := h
    by_cases e : p.1 = k
    · have e' : q.1 = k := h1.symm.trans e
      have b : atKey (q :: qs) k = some q.2 := by simp [atKey, List.find?_cons, e']
      rw [valV_pos e, b]; exact h2
    · have e' : ¬ q.1 = k := fun z => e (h1.trans z)
      have b : atKey (q :: qs) k = atKey qs k := by simp [atKey, List.find?_cons, e']
      rw [valV_neg e, b]; exact ih
theorem KT.repl {H : Hp} {kvs : List (List Key × V)} {xs : List (List Key × Addr × Value)} (r : KT H kvs xs) (k : List Key) {y : V} {u : Value} (ry : RelV y u) :
    KT H (kvs.map fun kv => if kv.1 = k then (kv.1, y) else kv) (xs.map (putAt k u)) := by
  induction r with
  | nil => exact .nil
  | @cons p q ps qs h t ih =>
    rw [List.map_cons, List.map_cons]
    refine .cons ?_ ih
    obtain ⟨h1, h2, h3⟩ := h
    unfold putAt
    by_cases e : p.1 = k
    · rw [if_pos e, if_pos (h1.symm.trans e)]; exact ⟨h1, h2, ry⟩
    · rw [if_neg e, if_neg (fun z => e (h1.trans z))]; exact ⟨h1, h2, h3⟩
theorem KT.put {H : Hp} {kvs : List (List Key × V)} {xs : List (List Key × Addr × Value)} (r : KT H kvs xs) (k : List Key) {b : Addr} {y : V} {u : Value} (hb : H b = some (.tup (k.map kV))) (ry : RelV y u) :
    KT H (putK kvs k y) (storedH xs k b u) := by
  have e : (kvs.any fun kv => decide (kv.1 = k)) = (atKey xs k).isSome := by
    rw [valV_any, (r.val k).isSome_eq, Option.isSome_map]
  unfold putK storedH
  rw [e]
  by_cases q : (atKey xs k).isSome = true
  · rw [if_pos q, if_pos q]; exact r.repl k ry
  · rw [if_neg q, if_neg q]; exact Paired.snoc r ⟨rfl, hb, ry⟩
theorem KT.keeps {H H' : Hp} {kvs : List (List Key × V)} {xs : List (List Key × Addr × Value)} (r : KT H kvs xs) (ht : ∀ b ys, H b = some (.tup ys) → H' b = some (.tup ys)) : KT H' kvs xs :=
  Paired.mapP r fun _ _ z => ⟨z.1, ht _ _ z.2.1, z.2.2⟩

section
variable {P : Program} {w : World} {H : Hp} {h : Heap} {a : Addr}
end

/-- what the dict at a holds at the key y -/
def DGet (H : Hp) (a : Addr) (y : V) (r : Option V) : Prop :=
  (∃ kvs k, Rd H a (.dK kvs) ∧ y = kV k ∧ r = valV kvs k) ∨ ∃ kvs k b, Rd H a (.dT kvs) ∧ y = .ref b ∧ H b = some (.tup (k.map kV)) ∧ r = valV kvs k
/-- the heap behind a[y] = v -/
def DPut (H : Hp) (a : Addr) (y v : V) (H' : Hp) : Prop :=
  (∃ kvs k, H a = some (.dK kvs) ∧ y = kV k ∧ kvs.length < sizeLine ∧ H' = upd H a (.dK (putK kvs k v))) ∨
  ∃ kvs k b, H a = some (.dT kvs) ∧ y = .ref b ∧ H b = some (.tup (k.map kV)) ∧ kvs.length < sizeLine ∧ H' = upd H a (.dT (putK kvs k v))
theorem DGet.k {H : Hp} {a : Addr} {kvs : List (Key × V)} {k : Key} (e : H a = some (.dK kvs)) : DGet H a (kV k) (valV kvs k) := .inl ⟨kvs, k, .inl e, rfl, rfl⟩
theorem DGet.t {H : Hp} {a b : Addr} {kvs : List (List Key × V)} {k : List Key} (e : H a = some (.dT kvs)) (eb : H b = some (.tup (k.map kV))) : DGet H a (.ref b) (valV kvs k) := .inr ⟨kvs, k, b, .inl e, rfl, eb, rfl⟩
theorem DPut.k {H : Hp} {a : Addr} {kvs : List (Key × V)} {k : Key} {v : V} (e : H a = some (.dK kvs)) (hl : kvs.length < sizeLine) : DPut H a (kV k) v (upd H a (.dK (putK kvs k v))) := .inl ⟨kvs, k, e, rfl, hl, rfl⟩
theorem DPut.t {H : Hp} {a b : Addr} {kvs : List (List Key × V)} {k : List Key} {v : V} (e : H a = some (.dT kvs)) (eb : H b = some (.tup (k.map kV))) (hl : kvs.length < sizeLine) :
    DPut H a (.ref b) v (upd H a (.dT (putK kvs k v))) := .inr ⟨kvs, k, b, e, rfl, eb, hl, rfl⟩


section
variable {X : Cx} {pins : List (Addr × Obj)} {σ : St} {H : Hp} {s : Shared} {a : Addr} {y v : V} {u r : Value} {o : Option V} {A : Around} {E : Value → Shared → Prop}

end

section
variable {X : Cx} {pins : List (Addr × Obj)} {σ : St} {H : Hp} {s : Shared} {a : Addr} {kvs : List (Key × V)} {k : Key} {u : Value} {A : Around} {E : Value → Shared → Prop}
end


/-! ### readings and rules -/
/-- the element of a subscription, not a slice -/
def NoSl (i : Expr) : Prop := ∀ ov iv, subscripted i false ov iv = operate [ov, iv] (getItem ov iv)
/-- d[y] -/
def tDGet (td ty : TE) : TE := fun σ H Q => td σ H fun x H1 => ty σ H1 fun y H2 => ∃ a v, x = .ref a ∧ DGet H2 a y (some v) ∧ Q v H2
/-- y in d, y not in d -/
def tDIn (ty td : TE) : TE := fun σ H Q => ty σ H fun y H1 => td σ H1 fun x H2 => ∃ a o, x = .ref a ∧ DGet H2 a y o ∧ Q (.bl o.isSome) H2
def tDNotIn (ty td : TE) : TE := fun σ H Q => ty σ H fun y H1 => td σ H1 fun x H2 => ∃ a o, x = .ref a ∧ DGet H2 a y o ∧ Q (.bl (!o.isSome)) H2
/-- d[y] = v -/
def sDPut (td ty tv : TE) : TS := fun D σ H => tv σ H fun v H1 => td σ H1 fun x H2 => ty σ H2 fun y H3 => ∃ a H4, x = .ref a ∧ DPut H3 a y v H4 ∧ D.nx σ H4
/-- d[y] op= v -/
def sDAug (td ty tv : TE) (rd : V → V → Hp → VK → Prop) : TS := fun D σ H => td σ H fun x H1 => ty σ H1 fun y H2 => ∃ a v, x = .ref a ∧ DGet H2 a y (some v) ∧
  tv σ H2 fun y2 H3 => rd v y2 H3 fun z H4 => ∃ H5, DPut H4 a y z H5 ∧ D.nx σ H5
/-- del d[y] -/
def sDDel (td ty : TE) : TS := fun D σ H => td σ H fun x H1 => ty σ H1 fun y H2 => ∃ a kvs k, x = .ref a ∧ H2 a = some (.dK kvs) ∧ y = kV k ∧ (valV kvs k).isSome = true ∧ D.nx σ (upd H2 a (.dK (dropK kvs k)))

section
variable {X : Cx} {o i e value : Expr} {pos pos' tpos : Pos} {td ty tv : TE}
end


/-! ### displays -/
/-- {}, to be a dict of the kind that is wanted -/
def tDNewK : TE := fun _ H Q => ∀ p, H p = none → Q (.ref p) (upd H p (.dK []))
def tDNewT : TE := fun _ H Q => ∀ p, H p = none → Q (.ref p) (upd H p (.dT []))
section
variable {X : Cx} {pos : Pos}
end

/-- the pairs of a display, from the left -/
def tPairs : List (TE × TE) → St → Hp → (List (V × V) → Hp → Prop) → Prop
  | [], _, H, Q => Q [] H
  | (tk, tv) :: r, σ, H, Q => tk σ H fun x H1 => tv σ H1 fun y H2 => tPairs r σ H2 fun ps H3 => Q ((x, y) :: ps) H3
abbrev VV : List (V × V) → List (Value × Value) → Prop := Paired fun p q => RelV p.1 q.1 ∧ RelV p.2 q.2
def PPs (X : Cx) (pos : Pos) (keys : List (Option Expr)) (values : List Expr) (trs : List (TE × TE)) : Prop :=
  ∀ (pins : List (Addr × Obj)) (s : Shared) (σ : St) (H : Hp) (Q : List (V × V) → Hp → Prop), Inv X pins σ H s → tPairs trs σ H Q →
    wpAny (model X.prog X.w) X.A (evalPairs (pairTrees keys values X.env pos)) (fun vs s' => ∃ ps H', Inv X pins σ H' s' ∧ VV ps vs ∧ Q ps H') X.xe s
def mergeK (kvs more : List (Key × V)) : List (Key × V) := more.foldl (fun acc kv => putK acc kv.1 kv.2) kvs
/-- {k: v, ..} with keys ints and texts; the new dict stands empty while the pairs are made -/
def tDisp (trs : List (TE × TE)) : TE := fun σ H Q => ∀ p, H p = none → tPairs trs σ (upd H p (.dK [])) fun ps H2 => H2 p = some (.dK []) ∧ ∃ kvs : List (Key × V), ps = kvs.map (fun kv => (kV kv.1, kv.2)) ∧ kvs.length ≤ 15 ∧ Q (.ref p) (upd H2 p (.dK (mergeK [] kvs)))
/-! ### methods -/
/-- a method call o.m(e) of a built-in, with one argument: what must be seen of the text -/
structure M1 (X : Cx) (o : Expr) (m : Str) (apos : Pos) (e : Expr) (cpos : Pos) : Prop where
  base : attributeBase o m X.env (eval o X.env) = eval o X.env
  few : ((backTo cpos (starEach [e] X.env)).all (fun x => !x.1) && (backToKw cpos (keywordEach [] X.env)).all (fun x => x.1.isSome)
    && decide (([e] : List Expr).length + ([] : List Keyword).length + (if ([] : List Keyword).isEmpty then 0 else 1) < 30)) = true
  line : (apos.endLine == cpos.line) = true
  trees : backTo cpos (starEach [e] X.env) = [(false, eval e X.env)]
structure M2 (X : Cx) (o : Expr) (m : Str) (apos : Pos) (e f : Expr) (cpos : Pos) : Prop where
  base : attributeBase o m X.env (eval o X.env) = eval o X.env
  few : ((backTo cpos (starEach [e, f] X.env)).all (fun x => !x.1) && (backToKw cpos (keywordEach [] X.env)).all (fun x => x.1.isSome)
    && decide (([e, f] : List Expr).length + ([] : List Keyword).length + (if ([] : List Keyword).isEmpty then 0 else 1) < 30)) = true
  line : (apos.endLine == cpos.line) = true
  trees : backTo cpos (starEach [e, f] X.env) = [(false, eval e X.env), (false, eval f X.env)]

/-- a is a dict, whatever its keys -/
def IsD (H : Hp) (a : Addr) : Prop := (∃ kvs, Rd H a (.dK kvs)) ∨ ∃ kvs, Rd H a (.dT kvs)
section
variable {X : Cx} {pins : List (Addr × Obj)} {σ : St} {H : Hp} {s : Shared} {a : Addr} {y d : V} {u r : Value} {o : Option V} {A : Around} {E : Value → Shared → Prop}
end

def tDGet1 (td ty : TE) : TE := fun σ H Q => td σ H fun x H1 => ∃ a, x = .ref a ∧ IsD H1 a ∧ ty σ H1 fun y H2 => ∃ o, DGet H2 a y o ∧ Q (o.getD .non) H2
def tDGet2 (td ty tx : TE) : TE := fun σ H Q => td σ H fun x H1 => ∃ a, x = .ref a ∧ IsD H1 a ∧ ty σ H1 fun y H2 => tx σ H2 fun z H3 => ∃ o, DGet H3 a y o ∧ Q (o.getD z) H3
/-- d.pop(k): there; d.pop(k, x): there or not -/
def tDPop1 (td ty : TE) : TE := fun σ H Q => td σ H fun x H1 => ∃ a, x = .ref a ∧ IsD H1 a ∧ ty σ H1 fun y H2 => ∃ kvs k v, H2 a = some (.dK kvs) ∧ y = kV k ∧ valV kvs k = some v ∧ Q v (upd H2 a (.dK (dropK kvs k)))
def tDPop2 (td ty tx : TE) : TE := fun σ H Q => td σ H fun x H1 => ∃ a, x = .ref a ∧ IsD H1 a ∧ ty σ H1 fun y H2 => tx σ H2 fun z H3 => ∃ kvs k, H3 a = some (.dK kvs) ∧ y = kV k ∧
  (∀ v, valV kvs k = some v → Q v (upd H3 a (.dK (dropK kvs k)))) ∧ (valV kvs k = none → Q z H3)
section
variable {X : Cx} {o e f : Expr} {apos cpos : Pos} {td ty tx : TE}
end

/-! ### dict(d): a copy -/
section
variable {X : Cx} {pins : List (Addr × Obj)} {σ : St} {H : Hp} {s : Shared} {a : Addr} {kvs : List (Key × V)} {A : Around} {E : Value → Shared → Prop}
end


section
variable {X : Cx} {pins : List (Addr × Obj)} {σ : St} {H : Hp} {s : Shared} {a : Addr} {y : V} {u : Value} {A : Around} {E : Value → Shared → Prop}
end
end L2


namespace Att
open PySem PySem.W PySem.Calls PyProof.Rows

/-! ### the script -/
theorem ints_of_wellAll {P : Params} {h : Heap} : ∀ (ns : List Int) (vs : List Value), WellAll P h vs (ns.map WData.int) → IntsAre vs ns := by
  intro ns
  induction ns with
  | nil =>
    intro vs w
    rw [List.map_nil] at w
    cases w
    exact .nil
  | cons n ns ih =>
    intro vs w
    rw [List.map_cons] at w
    cases w with
    | cons a b =>
      cases a
      exact .cons _ _ (ih _ b)

theorem script_of {l : OpenLaw} {n : Nat} (hn : l.most = some n) {P : Params} {h : Heap} {args : List WData} {vals : List Value}
    (hpre : l.row.toRowW.claim.pre args = true) (hwl : WellAll P h vals args) :
    ∃ a vs ns, vals = [Value.ref a] ∧ args = [WData.list (ns.map WData.int)] ∧ h.get? a = some { cls := .type "list", data := .seq vs.toArray } ∧ IntsAre vs ns ∧ ns.length ≤ n := by
  have hsh : WShape.hasAll [] args [.list .int] = true := (pre_splitW hpre).1
  have hc : l.pre.holds [] { args := args } = true := (pre_splitW hpre).2
  obtain ⟨d, r, rfl, h1, h2⟩ := hasAllW_cons hsh
  obtain rfl := hasAllW_nil h2
  obtain ⟨xs, rfl, h3⟩ := hasW_list h1
  obtain ⟨ns, rfl⟩ := items_int h3
  have hlen : ns.length ≤ n := by
    unfold OpenLaw.pre at hc
    have h4 : (WTm.not (.lt (.lit (.int (n : Int))) (.len (.arg 0)))).holds [] { args := [.list (ns.map .int)] } = true := by
      have h4 := (holds_andW hc).1
      rw [hn] at h4
      exact h4
    have h5 := condW_of h4 (w_not (w_lt w_lit (w_len_list (w_arg rfl))))
    rw [List.length_map] at h5
    refine Nat.le_of_not_lt fun q => ?_
    have q' : (n : Int) < ((ns.length : Nat) : Int) := by omega
    first
      | (rw [decide_eq_true q'] at h5; exact absurd h5 (by decide))
      | (simp at h5; omega)
  cases hwl with
  | cons w1 w2 =>
    cases w2
    cases w1 with
    | list ho hall => exact ⟨_, _, ns, rfl, rfl, ho, ints_of_wellAll ns _ hall, hlen⟩

theorem post_true (l : OpenLaw) (args : List WData) : l.row.toRowW.claim.post args (.bool true) args = true :=
  postW_of (r := l.row.toRowW) (X := (true == true))
    (show WShape.has [] (.bool true) .bool = true by first | rfl | decide | simp [WShape.has, WShape.arms, WShape.armsAll])
    (show (WTm.eq .res (.lit (.bool true))).value [] { args := args, res := some (.bool true), after := args } = some (.bool (true == true)) from w_eq_bool (w_res rfl) w_lit) rfl

/-! ### the attachment: holds_open's last premise (the goal 'hc' behind k_head) from a wpAny of the law's body -/
/-- the same from a codeAny of the CALL (for a layer whose function contracts speak of calls) -/
theorem attach_call {l : OpenLaw} {n : Nat} {q : Program} {loose : List Str} {XP : (Str → Option Value) → Heap → Prop} {YP : World → Heap → Prop} {d : DefRec}
    (hn : l.most = some n) (hdf : d.params.defaults = [])
    (call : ∀ (w : World) (s₀ s₁ : Shared) (mg mb : Str → Option Value) (fa : Addr) (o : Obj) (pm cd doc : Value) (a : Addr) (vs : List Value) (ns : List Int),
      Ground q loose [] XP w s₀ mg mb s₁.heap → YP w s₁.heap →
      s₁.heap.get? fa = some o → o.data = .func (docDef d.name d.params d.body d.scope pm cd doc) → s₁.heap.CodeRec cd d.name → mg d.name = some (.ref fa) →
      s₁.heap.get? a = some { cls := .type "list", data := .seq vs.toArray } → IntsAre vs ns → ns.length ≤ n → s₁.gens = #[] →
      codeAny (model l.prog w) callerA (.call (.ref fa) ⟨[.ref a], []⟩) (fun r s' => r = .ok (.ret (.bool true)) ∧ OldK s₁.heap s'.heap ∧ s'.os = s₁.os ∧ AllBare s'.gens) s₁) :
    WalkO q loose XP YP l.row.toRowW d [] (fun f vs => PySem.call f vs) := by
  intro w s₀ s₁ mg mb G Y fa o pm cd doc dV kV ho hd hcd hD hmg hg args vals as hpre hlay hrd hwl hlo
  obtain rfl : dV = .none := Dflts.none hD hdf
  obtain rfl : kV = .none := Dflts.noKw hD
  obtain ⟨a, vs, ns, rfl, rfl, hobj, hints, hlen⟩ := script_of hn hpre hwl
  refine enter_call (codeAny_mono (call w s₀ s₁ mg mb fa o pm cd doc a vs ns G Y ho (fd_plain hd) hcd hmg hobj hints hlen hg) fun r s' hq => ?_)
  obtain ⟨rfl, h2, h3, h4⟩ := hq
  exact ⟨.inl ⟨.bool true, .bool true, [], rfl, fun _ => rfl, .bool true, post_true l _, fun _ => ⟨List.Pairwise.nil, fun _ hm => (nomatch hm)⟩⟩, h2, h3, h4⟩

/-! ### rules over ANY heap (no ledger) from facts about the written part K: the library's own take a ledger (News) for what they write -/
section
variable {prog : Program} {w : World} {A : Around} {E : Value → Shared → Prop} {s : Shared} {K : Frag}

/-! the whole heap as the ledger: makes every rule that writes through a ledger a rule over any heap -/
def noObjs (h : Heap) : Heap := { h with objs := #[] }
def ledger (h : Heap) (L d : Addr) : List (Addr × Obj) := (List.range h.objs.size).filterMap fun a => if a = L ∨ a = d then none else (h.get? a).map fun o => (a, o)
end
end Att

namespace L2
open PySem PySem.Spec PyProof.Rows

theorem vals_ints : ∀ {vs : List Value} {ns : List Int}, IntsAre vs ns → Vals (ns.map V.int) vs
  | _, _, .nil => .nil
  | _, _, .cons n t h => .cons ⟨t, rfl⟩ (vals_ints h)

/-- nothing is tracked but the script, known to the object (or it is an object of the module) -/
def Only (H : Hp) : Prop := ∀ b, H b = none ∨ ∃ o xs, H b = some (.frz o (.lst xs))

/-- THE HEAD: the law's promise, at the heap behind the top. F, the promise of the law's def, may use that base is part of the heap (so K.In base, base.Ns mainGlobals mg stand in Mod) -/
theorem law_call {P : Program} {w : World} {K : PySem.W.Frag} {mg mb : Str → Option Value} {CX : CXT} {k : Nat} {fa a : Addr} {fd : FuncData} {x : Str} {sp : Sp} {s₁ : Shared} {vs : List Value} {ns : List Int}
    (KX : K.In s₁.heap) (hns : s₁.heap.Ns mainGlobals mg) (hb : s₁.heap.Ns builtinsNs mb) (hbb : ∀ x : Str, x ≠ "__name__" → mb x = bootBuiltins x) (hlim : s₁.heap.NoLimit) (hg : s₁.gens = #[])
    (ha : s₁.heap.get? a = some { cls := .type "list", data := .seq vs.toArray }) (hi : IntsAre vs ns) (hl : ns.length ≤ sizeLine) (hr : Room k callerA)
    (F : ∀ base : Heap, K.In base → base.Ns mainGlobals mg → FnOk P w K mg base CX k fa fd [x] sp) (hbind : ∀ (s : Shared) (u : Value), BindsTo s fd ⟨[u], []⟩ [(x, u)])
    (hsp : ∀ H : Hp, Only H → SqL K H a (ns.map V.int) → sp [.ref a] H (fun v _ => v = .bl true) fun _ _ _ => False)
    (hCX : ∀ H e s', CX [] H s₁ (fun _ _ _ => False) e s' → False) :
    codeAny (model P w) callerA (.call (.ref fa) ⟨[.ref a], []⟩) (fun r s' => r = .ok (.ret (.bool true)) ∧ OldK s₁.heap s'.heap ∧ s'.os = s₁.os ∧ AllBare s'.gens) s₁ := by
  have rv := vals_ints hi
  have lenV := hi.length
  -- from an abstract heap in which nothing but the script may be tracked
  have core : ∀ H : Hp, Only H → SqL K H a (ns.map V.int) → HOk P w H s₁.heap → (∀ b, H b ≠ none → b = a) → (H a ≠ none → K.lookup a = none) →
      codeAny (model P w) callerA (.call (.ref fa) ⟨[.ref a], []⟩) (fun r s' => r = .ok (.ret (.bool true)) ∧ OldK s₁.heap s'.heap ∧ s'.os = s₁.os ∧ AllBare s'.gens) s₁ := by
    intro H hO hS hok hA hK
    have base_of : ∀ {b : Addr} {o : Obj}, s₁.heap.get? b = some o → H b = none → (hidT s₁.heap H).get? b = some o := fun e n => hidT_get e n
    have noA : ∀ {b : Addr} {o : Obj} {es : Array DictEntry} {ep : Nat}, s₁.heap.get? b = some o → o.data = .dict es ep → H b = none := fun {b o es ep} e d => by
      cases q : H b with
      | none => rfl
      | some u =>
        have e' : b = a := hA b (by rw [q]; simp)
        subst e'
        rw [ha] at e; cases e
        have d' : Data.seq vs.toArray _ = Data.dict es ep := d
        cases d'
    have nsK : ∀ {b : Addr} {m : Str → Option Value}, s₁.heap.Ns b m → (hidT s₁.heap H).Ns b m := fun {b m} ⟨o, es, ep, e, d, r⟩ => ⟨o, es, ep, base_of e (noA e d), d, r⟩
    have hKb : K.In (hidT s₁.heap H) := fun b o e => base_of (KX b o e) (by
      cases q : H b with
      | none => rfl
      | some u =>
        have e' : b = a := hA b (by rw [q]; simp)
        subst e'
        rw [hK (by rw [q]; simp)] at e; cases e)
    have hM : Mod K mg (hidT s₁.heap H) := ⟨hKb, nsK hns, ⟨mb, nsK hb, hbb⟩, let ⟨mc, h1, h2⟩ := hlim; ⟨mc, nsK h1, h2⟩⟩
    have e0 : Env0 P w K mg (hidT s₁.heap H) callerA [] s₁ H := ⟨rfl, hM, fun b o e => of_hidT e, Nat.le_of_eq (hidT_size _ _), trivial, fun b hb => absurd (show b ∈ ([] : List Addr) from hb) (by simp), hok, .of_eq hg⟩
    refine codeAny_mono ((F _ hKb (nsK hns)).run callerA [] s₁ H ⟨[.ref a], []⟩ [.ref a] [.ref a] _ _ hr e0 (hbind s₁ (.ref a)) (.cons rfl .nil) (hsp H hO hS)) fun r s' h => ?_
    cases r with
    | error e => exact (hCX H e s' h).elim
    | ok fl =>
      cases fl with
      | next => exact False.elim h
      | brk => exact False.elim h
      | cont => exact False.elim h
      | ret u =>
        obtain ⟨v, H', os, bare, un, hok', r', q⟩ := h
        have q' : v = .bl true := q
        subst q'
        obtain rfl : u = Value.bool true := r'
        refine ⟨rfl, OldK.of_keep fun b o e => ?_, os, bare⟩
        cases q : H b with
        | none => exact un.keep b o e q (by intro z; exact absurd (show b ∈ ([] : List Addr) from z) (by simp)) (by simp)
        | some u =>
          rcases hO b with z | ⟨ob, xs, z⟩
          · rw [q] at z; cases z
          · have z2 := un.frzs b ob _ z
            obtain ⟨e1, _⟩ := hok b _ z
            obtain ⟨e2, _⟩ := hok' b _ z2
            rw [e] at e1; cases e1
            exact e2
  cases hk : K.lookup a with
  | some o =>
    -- the script is one of the module's own objects
    have e := KX a o hk
    rw [ha] at e
    cases e
    refine core (fun _ => none) (fun _ => .inl rfl) (.inr ⟨_, vs.toArray, _, hk, rfl, rfl, rfl, by rw [List.size_toArray, lenV]; exact hl, by simpa using rv⟩) (fun b u z => by have z' : (none : Option HO) = some u := z; cases z') (fun b z => absurd rfl z) fun z => absurd rfl z
  | none =>
    refine core (fun b => if b = a then some (.frz { cls := .type "list", data := .seq vs.toArray } (.lst (ns.map V.int))) else none) (fun b => ?_) (.inl (.inr ⟨{ cls := .type "list", data := .seq vs.toArray }, if_pos rfl⟩)) (fun b u z => ?_) (fun b z => ?_) fun _ => hk
    · by_cases hb : b = a
      · exact .inr ⟨_, _, if_pos hb⟩
      · exact .inl (if_neg hb)
    · by_cases hb : b = a
      · have z' := (if_pos hb).symm.trans z
        cases z'
        subst hb
        exact ⟨ha, by rw [List.length_map]; exact hl, vs, _, rv, ha⟩
      · have z' := (if_neg hb).symm.trans z
        cases z'
    · by_cases hb : b = a
      · exact hb
      · exact absurd (if_neg hb) z
end L2

namespace L2
open PySem PySem.Spec PyProof.Rows

abbrev KOf {K : PySem.W.Frag} {h : Heap} (_ : K.In h) : PySem.W.Frag := K

/-- the goal that k_head leaves (case hc), from the law's promise. F gives the function object fd (K's own) once, then the promise over every base -/
theorem walk_of {l : PySem.W.OpenLaw} {n k : Nat} {q : Program} {loose : List Str} {XP : (Str → Option Value) → Heap → Prop} {YP : World → Heap → Prop} {d : DefRec} {K : Params → PySem.W.Frag} {CX : World → CXT} {sp : World → Sp} {x : Str}
    (hn : l.most = some n) (hn2 : n ≤ sizeLine) (hdf : d.params.defaults = []) (hr : Room k callerA)
    (hY : ∀ (w : World) (h : Heap), YP w h → (K w.params).In h)
    (F : ∀ (w : World) (mg : Str → Option Value) (fa : Addr) (h : Heap), (K w.params).In h → h.Ns mainGlobals mg → mg d.name = some (.ref fa) →
      ∃ fd : FuncData, (∀ (s : Shared) (u : Value), BindsTo s fd ⟨[u], []⟩ [(x, u)]) ∧
        ∀ base : Heap, (K w.params).In base → base.Ns mainGlobals mg → FnOk l.prog w (K w.params) mg base (CX w) k fa fd [x] (sp w))
    (hsp : ∀ (w : World) (H : Hp) (a : Addr) (ns : List Int), ns.length ≤ n → Only H → SqL (K w.params) H a (ns.map V.int) → sp w [.ref a] H (fun v _ => v = .bl true) fun _ _ _ => False)
    (hCX : ∀ (w : World) (H : Hp) (s : Shared) (e : Value) (s' : Shared), CX w [] H s (fun _ _ _ => False) e s' → False) :
    PySem.W.WalkO q loose XP YP l.row.toRowW d [] (fun f vs => PySem.call f vs) := by
  refine Att.attach_call hn hdf fun w s₀ s₁ mg mb fa o pm cd doc a vs ns G Y ho hd hcd hmg hobj hints hlen hg => ?_
  have KX := hY w _ Y
  obtain ⟨fd, hb, hF⟩ := F w mg fa _ KX G.T.g hmg
  exact law_call KX G.T.g G.T.b G.T.builtins G.T.nolimit hg hobj hints (Nat.le_trans hlen hn2) hr hF hb (fun H hO hS => hsp w H a ns hlen hO hS) fun H e s' => hCX w H s₁ e s'
end L2


/-! SHORT WORDS over the layer: a def of the text, its body, what a loop and a test want. -/
namespace L2
open PySem PySem.Spec PyProof.Rows

/-! ### the text by places -/
/-- the j-th statement of a class's body -/
def inClass (s : Stmt) (j : Nat) : Stmt := match s with
  | .ClassDef _ _ _ body _ _ _ _ _ _ _ => body.getD j (.Pass ⟨0, 0, 0, 0⟩)
  | _ => .Pass ⟨0, 0, 0, 0⟩
def defArgs (s : Stmt) : Arguments := match s with
  | .FunctionDef _ a _ _ _ _ _ _ _ _ => a
  | _ => { posonlyargs := [], args := [], vararg := none, kwonlyargs := [], kw_defaults := [], kwarg := none, defaults := [] }
def defBody (s : Stmt) : List Stmt := match s with
  | .FunctionDef _ _ b _ _ _ _ _ _ _ => b
  | _ => []
def defScope (s : Stmt) : Scope := match s with
  | .FunctionDef _ _ _ _ _ _ sc _ _ _ => sc
  | _ => { kind := .function, names := [], isGenerator := false, isCoroutine := false }

/-! ### no exception leaves a def -/
abbrev CX0 : CXT := fun _ _ _ _ _ _ => False
abbrev E0 : XK := fun _ _ _ => False
theorem pass0 {X : Cx} : Passes CX0 X E0 := fun _ _ _ _ _ _ _ h => h.elim

/-! ### a def (or method) of the text as it stands behind the top -/
structure Fun (K : PySem.W.Frag) (x qual : Str) (st : Stmt) (f : Addr) (fd : FuncData) : Prop where
  ex : ∃ (oc : Value) (od : Option Addr) (kV doc pm : Value) (an : Option Addr) (cdv ct : Value) (osl : Array (Option Value)),
    fd = PySem.W.fnOf x qual (defArgs st) (defBody st) (defScope st) .none kV doc pm an cdv ct ∧ K.lookup f = some ⟨oc, od, .func fd, osl⟩ ∧ PySem.W.codeIn K cdv qual = true
  kp : PySem.W.keepIn K (.ref f) = true
section
variable {P : Program} {w : World} {K : PySem.W.Frag} {mg : Str → Option Value} {base : Heap}
/-- THE RULE for a def: its body as a term of rules, and the reading of that term -/
theorem Fun.ok {x qual : Str} {st : Stmt} {f : Addr} {fd : FuncData} {N ps : List Str} {k : Nat} {sp : Sp} (F : Fun K x qual st f fd) (S : FnScope N ps (defScope st)) (len : ∀ vs H Q E, sp vs H Q E → vs.length = ps.length)
    (hbody : ∀ (cdv : Value) (A : Around) (outer : List Env) (s : Shared) (H : Hp) (vs : List V) (Q : VK) (E : XK), Room k (A.deeper (envOfC qual (defScope st) s.heap.objs.size f cdv)) → sp vs H Q E →
      ∃ t, PSs (cxOf CX0 P w K mg base N qual (defScope st) f cdv A outer s H E).nox (defBody st) t ∧ t { nx := fun _ H' => Q .non H', rt := Q } (start N vs) H) : FnOk P w K mg base CX0 (k + 1) f fd ps sp := by
  obtain ⟨oc, od, kV, doc, pm, an, cdv, ct, osl, rfl, lk, hcd⟩ := F.ex
  refine fn_of lk hcd S len fun A outer s H vs Q E hr hsp => ?_
  obtain ⟨t, h, q⟩ := hbody cdv A outer s H vs Q E hr hsp
  exact ⟨t, h.nox, q⟩
/-- how its arguments bind (no defaults): h is «fun _ _ _ _ _ _ us hl => match us, hl with | [_, _], _ => rfl», one _ a parameter -/
theorem Fun.binds {x qual : Str} {st : Stmt} {f : Addr} {fd : FuncData} {ps : List Str} (F : Fun K x qual st f fd)
    (h : ∀ (kV doc pm : Value) (an : Option Addr) (cdv ct : Value) (us : List Value), us.length = ps.length → bindArgs (PySem.W.fnOf x qual (defArgs st) (defBody st) (defScope st) .none kV doc pm an cdv ct) ⟨us, []⟩ = pure (ps.zip us)) : Binds K fd ps [] := by
  obtain ⟨oc, od, kV, doc, pm, an, cdv, ct, osl, rfl, lk, hcd⟩ := F.ex
  exact .all (h kV doc pm an cdv ct)
theorem fun_mk {x qual : Str} {st : Stmt} {f : Addr} {oc : Value} {od an : Option Addr} {osl : Array (Option Value)} {kV doc pm cdv ct : Value} (l : K.lookup f = some ⟨oc, od, .func (PySem.W.fnOf x qual (defArgs st) (defBody st) (defScope st) .none kV doc pm an cdv ct), osl⟩)
    (c : PySem.W.codeIn K cdv qual = true) (k : PySem.W.keepIn K (.ref f) = true) : Fun K x qual st f (PySem.W.fnOf x qual (defArgs st) (defBody st) (defScope st) .none kV doc pm an cdv ct) := ⟨⟨oc, od, kV, doc, pm, an, cdv, ct, osl, rfl, l, c⟩, k⟩
end
theorem small1000 {n : Nat} (h : n ≤ 1000) : n < sizeLine := Nat.lt_of_le_of_lt h (by decide)

/-! ### expressions in short: the name that stands in the i-th slot -/
section
variable {X : Cx}
theorem pv (i : Nat) {x : Str} {pos : Pos} (hN : X.N[i]? = some x := by rfl) (hv : Vis X.env.scope x := by first | exact Or.inl rfl | exact Or.inr (Or.inl rfl) | exact Or.inr (Or.inr rfl)) (hd : (x == ("__debug__" : Str)) = false := by decide)
    (hcd : (x == ("__classdict__" : Str)) = false := by decide) : PE X (.Name x pos) (tVar i) := pe_var hN hv hd hcd
end

/-! ### tests -/
/-! ### heaps -/
/-- all that was tracked is as it was -/
def Same (H H' : Hp) : Prop := ∀ b o, H b = some o → H' b = some o
theorem Same.refl (H : Hp) : Same H H := fun _ _ h => h
theorem Same.trans {H H1 H2 : Hp} (a : Same H H1) (b : Same H1 H2) : Same H H2 := fun c o h => b c o (a c o h)
theorem Same.free {H H' : Hp} (e : Same H H') {l : Addr} (h : H' l = Option.none) : H l = Option.none := by
  cases q : H l with
  | none => rfl
  | some o =>
    rw [e l o q] at h
    cases h
theorem Same.seq {K : PySem.W.Frag} {H H' : Hp} {a : Addr} {xs : List V} (e : Same H H') (h : SqL K H a xs) : SqL K H' a xs := by
  rcases h with (h | ⟨o, h⟩) | h
  · exact .inl (.inl (e _ _ h))
  · exact .inl (.inr ⟨o, e _ _ h⟩)
  · exact .inr h

section
variable {X : Cx}
end
/-! ### a dict's pairs: keys that differ -/
section
variable {κ : Type} [DecidableEq κ]
end
end L2


/-! ## list comprehensions with one clause, over the hand layer -/
namespace L2
open PySem PySem.Spec PyProof.Rows

theorem clos_go {env : Env} {f : Str × NameKind → List (Str × Addr) → Sem (ForInStep (List (Str × Addr)))}
    (h1 : ∀ n c acc, env.cells.lookup n = some c → f (n, .free) acc = pure (.yield ((n, c) :: acc)))
    (h2 : ∀ n k acc, k ≠ .free → f (n, k) acc = pure (.yield acc)) :
    ∀ (names : List (Str × NameKind)) (acc : List (Str × Addr)), (∀ x ∈ names, x.2 = .free → ∃ c, env.cells.lookup x.1 = some c) → (∀ p ∈ acc, env.cells.lookup p.1 = some p.2) →
      ∃ cl, forIn names acc f = pure cl ∧ (∀ p ∈ cl, env.cells.lookup p.1 = some p.2) ∧ (∀ x ∈ names, x.2 = .free → ∃ c, (x.1, c) ∈ cl) ∧ ∀ p ∈ acc, p ∈ cl := by
  intro names
  induction names with
  | nil => intro acc _ ha; exact ⟨acc, rfl, ha, (fun _ z => nomatch z), fun _ z => z⟩
  | cons x r ih =>
    intro acc hx ha
    obtain ⟨n, k⟩ := x
    by_cases hk : k = .free
    · subst hk
      obtain ⟨c, hc⟩ := hx (n, .free) List.mem_cons_self rfl
      obtain ⟨cl, e, a, b, d⟩ := ih ((n, c) :: acc) (fun y hy => hx y (List.mem_cons_of_mem _ hy)) (fun p hp => by
        rcases List.mem_cons.mp hp with z | z
        · subst z; exact hc
        · exact ha p z)
      refine ⟨cl, ?_, a, fun y hy hyk => ?_, fun p hp => d p (List.mem_cons_of_mem _ hp)⟩
      · rw [List.forIn_cons, h1 n c acc hc, pure_bind]; exact e
      · rcases List.mem_cons.mp hy with z | z
        · subst z; exact ⟨c, d _ List.mem_cons_self⟩
        · exact b y z hyk
    · obtain ⟨cl, e, a, b, d⟩ := ih acc (fun y hy => hx y (List.mem_cons_of_mem _ hy)) ha
      refine ⟨cl, ?_, a, fun y hy hyk => ?_, d⟩
      · rw [List.forIn_cons, h2 n k acc hk, pure_bind]; exact e
      · rcases List.mem_cons.mp hy with z | z
        · subst z; exact absurd hyk hk
        · exact b y z hyk

theorem lookup_mem' {α : Type} : ∀ {l : List (Str × α)} {x : Str} {c : α}, l.lookup x = some c → (x, c) ∈ l
  | [], _, _, h => by simp at h
  | (n, d) :: r, x, c, h => by
    rw [List.lookup_cons] at h
    cases e : x == n with
    | true =>
      rw [e] at h
      have : x = n := by simpa using e
      subst this
      cases h; exact List.mem_cons_self
    | false =>
      rw [e] at h
      exact List.mem_cons_of_mem _ (lookup_mem' h)
theorem lookup_of_mem' {α : Type} : ∀ {l : List (Str × α)} {x : Str} {c : α}, (x, c) ∈ l → ∃ d, l.lookup x = some d
  | [], _, _, h => nomatch h
  | (n, d) :: r, x, c, h => by
    rw [List.lookup_cons]
    cases e : x == n with
    | true => exact ⟨d, rfl⟩
    | false =>
      rcases List.mem_cons.mp h with z | z
      · cases z; simp at e
      · exact lookup_of_mem' z

theorem closureFor_has {scope : Scope} {env : Env} (h : ∀ x ∈ scope.names, x.2 = .free → ∃ c, env.cells.lookup x.1 = some c) :
    ∃ cl : List (Str × Addr), closureFor scope env = pure cl ∧ (∀ x c, cl.lookup x = some c → env.cells.lookup x = some c) ∧ (∀ x ∈ scope.names, x.2 = .free → ∃ c, cl.lookup x.1 = some c) := by
  have key : ∃ cl, closureFor scope env = pure cl ∧ (∀ p ∈ cl, env.cells.lookup p.1 = some p.2) ∧ (∀ x ∈ scope.names, x.2 = .free → ∃ c, (x.1, c) ∈ cl) ∧ ∀ p ∈ ([] : List (Str × Addr)), p ∈ cl := by
    obtain ⟨cl, e, r⟩ := clos_go (env := env) (f := fun x r => match x with
        | (name, kind) => if (kind == NameKind.free) = true then (do let c ← cellOf env name; pure (ForInStep.yield ((name, c) :: r))) else pure (ForInStep.yield r))
      (fun n c acc hc => by simp [cellOf, hc]) (fun n k acc hk => by simp [hk]) scope.names [] h (fun _ z => nomatch z)
    refine ⟨cl, ?_, r⟩
    unfold closureFor
    exact (bind_pure _).trans e
  obtain ⟨cl, e, a, b, _⟩ := key
  refine ⟨cl, e, fun x c hx => a (x, c) (lookup_mem' hx), fun x hx hk => ?_⟩
  obtain ⟨c, hc⟩ := b x hx hk
  exact lookup_of_mem' hc

theorem lookup_relabel_none_or {env : Env} : ∀ {names : List (Str × NameKind)} {x : Str} {k : NameKind},
    (names.map fun (n, k) => if (k == NameKind.free && env.scope.kind == .function && env.kindOf n == some .cell) then (n, NameKind.cell) else (n, k)).lookup x = some k →
    names.lookup x = some k ∨ (k = .cell ∧ names.lookup x = some .free)
  | [], _, _, h => by simp at h
  | (n, k') :: r, x, k, h => by
    have ih := @lookup_relabel_none_or env r x k
    rw [List.map_cons] at h
    by_cases hc : (k' == NameKind.free && env.scope.kind == .function && env.kindOf n == some .cell) = true
    · simp only [hc, if_true] at h
      rw [List.lookup_cons] at h ⊢
      cases hx : x == n with
      | true =>
        rw [hx] at h
        cases h
        simp only [Bool.and_eq_true] at hc
        have : k' = .free := by simpa using hc.1.1
        exact .inr ⟨rfl, by rw [this]⟩
      | false =>
        rw [hx] at h
        exact ih h
    · simp only [hc] at h
      rw [if_neg (by simpa using hc)] at h
      rw [List.lookup_cons] at h ⊢
      cases hx : x == n with
      | true => rw [hx] at h; exact .inl h
      | false => rw [hx] at h; exact ih h
theorem lookup_relabel_free {env : Env} : ∀ {names : List (Str × NameKind)} {x : Str}, names.lookup x = some .free →
    (names.map fun (n, k) => if (k == NameKind.free && env.scope.kind == .function && env.kindOf n == some .cell) then (n, NameKind.cell) else (n, k)).lookup x = some .cell ∨
    (names.map fun (n, k) => if (k == NameKind.free && env.scope.kind == .function && env.kindOf n == some .cell) then (n, NameKind.cell) else (n, k)).lookup x = some .free
  | [], _, h => by simp at h
  | (n, k') :: r, x, h => by
    have ih := @lookup_relabel_free env r x
    rw [List.map_cons]
    dsimp only
    by_cases hc : (k' == NameKind.free && env.scope.kind == .function && env.kindOf n == some .cell) = true
    · simp only [hc, if_true]
      rw [List.lookup_cons] at h
      simp only [List.lookup_cons]
      cases hx : x == n with
      | true => exact .inl rfl
      | false => rw [hx] at h; exact ih h
    · rw [if_neg hc]
      rw [List.lookup_cons] at h
      simp only [List.lookup_cons]
      cases hx : x == n with
      | true => rw [hx] at h; exact .inr h
      | false => rw [hx] at h; exact ih h

/-- the inner slots: none is the block's own, some i the outer slot i that is read there -/
def capt (σ : St) (cap : List (Option Nat)) : St := cap.map fun o => match o with | none => none | some i => (σ[i]?).getD none
def outK (X : Cx) (x : Str) : Bool := X.env.scope.names.lookup x == some .cell || X.env.scope.names.lookup x == some .free
/-- what is asked of a comprehension's scope: a computation -/
structure CompOk (X : Cx) (scope : Scope) (N' : List Str) (cap : List (Option Nat)) : Prop where
  kind : scope.kind = .function
  names : scope.names.all (fun p => p.2 != .local || scope.names.lookup p.1 == some .local) = true
  nocell : scope.names.all (fun p => p.2 != .cell) = true
  out : scope.names.all (fun p => p.2 != .free || outK X p.1) = true
  len : N'.length = cap.length
  cap : (N'.zip cap).all (fun p => match p.2 with | none => true | some i => X.N[i]? == some p.1 && (scope.names.lookup p.1 == some .free && outK X p.1)) = true

def inner (X : Cx) (scope : Scope) (cl : List (Str × Addr)) (C : Addr) (N' : List Str) (fp : List Addr) (s₂ : Shared) (H₂ : Hp) (xe : Value → Shared → Prop) : Cx :=
  { X with N := N', s₀ := s₂, H₀ := H₂, env := compEnvC scope cl C X.env, outer := X.stack, ex := fp, fn := fun _ => false, pn := [], xe := xe }

/-- the tests of a clause -/
def PIfs (X : Cx) (ifs : List Expr) (t : TT) : Prop :=
  ∀ (pins : List (Addr × Obj)) (s : Shared) (σ : St) (H : Hp) (Q : Bool → Hp → Prop), Inv X pins σ H s → t σ H Q →
    wpAny (model X.prog X.w) X.A (forIn ifs true fun c r => if r = true then do let ok ← isTrue c X.env (eval c X.env); pure (ForInStep.yield ok) else pure (ForInStep.yield r)) (TP X pins σ Q) X.xe s
def tTrue : TT := fun _ H Q => Q true H
theorem pifs_nil {X : Cx} : PIfs X [] tTrue := fun _ _ _ H _ I h => by
  rw [List.forIn_nil]
  exact wpAny_pure ⟨H, I, h⟩
theorem pifs_one {X : Cx} {c : Expr} {t : TT} (hc : PT X c t) : PIfs X [c] t := fun pins s σ H Q I h => by
  rw [List.forIn_cons]
  refine wpAny_bind ?_
  rw [if_pos rfl]
  refine wpAny_bind (thn (hc pins s σ H Q I h) fun b s1 q => wpAny_pure ?_)
  show wpAny _ _ (forIn ([] : List Expr) b _) _ _ _
  rw [List.forIn_nil]
  exact wpAny_pure q

/-- a target that stores into the block's own slots alone -/
def KeepsCap (cap : List (Option Nat)) (g : TG) : Prop := ∀ x σ H Q, g x σ H Q → g x σ H fun σ2 H2 => Q σ2 H2 ∧ σ2.length = σ.length ∧ ∀ (j i : Nat), cap[j]? = some (some i) → σ2[j]? = σ[j]?
def KeepsCaps (cap : List (Option Nat)) (g : TGs) : Prop := ∀ xs σ H Q, g xs σ H Q → g xs σ H fun σ2 H2 => Q σ2 H2 ∧ σ2.length = σ.length ∧ ∀ (j i : Nat), cap[j]? = some (some i) → σ2[j]? = σ[j]?
theorem keeps_name {cap : List (Option Nat)} {i : Nat} (h : cap[i]? = some none) : KeepsCap cap (gName i) := fun x σ H Q q => by
  refine ⟨q, by simp, fun j k e => ?_⟩
  have : i ≠ j := by rintro rfl; rw [h] at e; cases e
  rw [List.getElem?_set_ne this]
theorem keeps_two {K : PySem.W.Frag} {cap : List (Option Nat)} {i j : Nat} (hi : cap[i]? = some none) (hj : cap[j]? = some none) : KeepsCap cap (gTup K 2 (gCons (gName i) (gCons (gName j) gNil))) := fun x σ H Q q => by
  obtain ⟨a, xs, e1, h2, h3, v, r, e4, v', r', e5, e6, q⟩ := q
  refine ⟨a, xs, e1, h2, h3, v, r, e4, v', r', e5, e6, q, by simp, fun k l e => ?_⟩
  have n1 : i ≠ k := by rintro rfl; rw [hi] at e; cases e
  have n2 : j ≠ k := by rintro rfl; rw [hj] at e; cases e
  rw [List.getElem?_set_ne n2, List.getElem?_set_ne n1]

/-- the block at an iterator J: W by the turn and a measure, D the list that grows -/
def CompAt (cap : List (Option Nat)) (g : TG) (tt : TT) (te : TE) (σ : St) (Q : VK) (J : It) (H1 : Hp) (D : Addr) : Prop :=
  ∃ W : Nat → Nat → Hp → Prop, (∃ m, W 0 m (upd H1 D (.lst []))) ∧ ∀ i m H, W i m H →
    (J.stop i H ∧ Q (.ref D) H) ∨ (J.go i H ∧ ∃ N : Hp → Prop, (∀ H', N H' → ∃ m', m' < m ∧ W (i + 1) m' H') ∧
      ∀ x H', J.yld i H x H' → g x (capt σ cap) H' fun σ2 H2 => tt σ2 H2 fun b H3 => if b = true then te σ2 H3 fun y H4 => ∃ ys, H4 D = some (.lst ys) ∧ ys.length < sizeLine ∧ N (upd H4 D (.lst (ys ++ [y]))) else N H3)
def tComp (cap : List (Option Nat)) (wi : TI) (g : TG) (tt : TT) (te : TE) : TE := fun σ H Q => wi σ H fun J H1 => ∀ D, H1 D = none → CompAt cap g tt te σ Q J H1 D

section
variable {prog : Program} {w : World} {A : Around} {R : Result → Shared → Prop} {s : Shared}
/-- the block's loop, any target -/
theorem compLoop_go {elt target iter : Expr} {ifs : List Expr} {scope : Scope} {pos : Pos} {it acc : Value} {env : Env} (I : Nat → Shared → Prop)
    (turn : ∀ n s, I n s → wpAny (model prog w) A (pyNext it) (fun r s₁ => match r with
      | none => R (.ok .next) s₁
      | some v => wpAny (model prog w) A (letOwnedTupleGo target it v) (fun _ s₁' => wpAny (model prog w) A (assign target env v) (fun _ s₂ =>
          wpAny (model prog w) A (forIn ifs true fun c r => if r = true then do let ok ← isTrue c env (eval c env); pure (ForInStep.yield ok) else pure (ForInStep.yield r)) (fun ok s₃ =>
            if ok = true then wpAny (model prog w) A (eval elt env) (fun x s₄ =>
              wpAny (model prog w) A (call (.builtin "list.append") [acc, x]) (fun _ s₅ => ∃ m, m < n ∧ I m s₅) (notedBy (model prog w) A env fun e s' => R (.error e) s') s₄) (notedBy (model prog w) A env fun e s' => R (.error e) s') s₃
            else ∃ m, m < n ∧ I m s₃) (notedBy (model prog w) A env fun e s' => R (.error e) s') s₂) (notedBy (model prog w) A env fun e s' => R (.error e) s') s₁') (notedBy (model prog w) A env fun e s' => R (.error e) s') s₁)
      (notedBy (model prog w) A env fun e s' => R (.error e) s') s)
    (n : Nat) (h : I n s) : codeAny (model prog w) A (.compLoop (.ListComp elt [⟨target, iter, ifs, 0⟩] scope pos) 0 it acc env) R s := by
  refine codeAny_loop rfl I (fun n s hI => ?_) n h
  show wpAny _ A ((compTurn (.ListComp elt [⟨target, iter, ifs, 0⟩] scope pos) 0 it acc env).onRaise (fun x => do noteFrame x env; theTreesLotGoes x)) _ _ s
  refine wpAny_noted ?_
  rw [compTurn_list]
  refine wpAny_bind (wpAny_standAt (wpAny_bind (wpAny_mono (turn n s hI) (fun r s₁ h₁ => ?_) fun _ _ h' => h')))
  cases r with
  | none => exact wpAny_pure h₁
  | some v =>
    refine wpAny_bind (wpAny_mono h₁ (fun _ s₁' h₁' => ?_) fun _ _ h' => h')
    refine wpAny_bind (wpAny_mono h₁' (fun _ s₂ h₂ => wpAny_bind (wpAny_mono h₂ (fun ok s₃ h₃ => ?_) fun _ _ h' => h')) fun _ _ h' => h')
    cases ok with
    | false => exact wpAny_pure ⟨rfl, h₃⟩
    | true =>
      exact wpAny_bind (wpAny_bind (wpAny_mono h₃ (fun x s₄ h₄ => wpAny_bind (wpAny_mono h₄ (fun _ s₅ h₅ => wpAny_pure (wpAny_pure ⟨rfl, h₅⟩)) fun _ _ h' => h')) fun _ _ h' => h'))
end

section
variable {X : Cx} {pins : List (Addr × Obj)} {σ : St} {H₂ : Hp} {s₂ : Shared} {N' : List Str} {cap : List (Option Nat)} {scope : Scope} {target iter elt : Expr} {ifs : List Expr} {pos : Pos} {it : Addr} {fp : List Addr} {tn : Nat → Heap → Prop} {J : It}
  {g : TG} {tt : TT} {te : TE} {cl : List (Str × Addr)}

theorem CompOk.nocells (ok : CompOk X scope N' cap) : ∀ y ∈ scope.names, y.2 ≠ .cell := fun y hy z => by
  have := List.all_eq_true.mp ok.nocell y hy
  rw [z] at this
  exact absurd this (by decide)
theorem CompOk.locs (ok : CompOk X scope N' cap) : ∀ y ∈ scope.names, y.2 = .local → scope.names.lookup y.1 = some .local := fun y hy z => by
  have := List.all_eq_true.mp ok.names y hy
  rw [z] at this
  simpa using this
theorem outK_or {x : Str} (h : outK X x = true) : X.env.scope.names.lookup x = some .cell ∨ X.env.scope.names.lookup x = some .free := by
  unfold outK at h
  rw [Bool.or_eq_true] at h
  rcases h with h | h
  · exact .inl (by simpa using h)
  · exact .inr (by simpa using h)
theorem CompOk.outs (ok : CompOk X scope N' cap) : ∀ y ∈ scope.names, y.2 = .free → X.env.scope.names.lookup y.1 = some .cell ∨ X.env.scope.names.lookup y.1 = some .free := fun y hy z => by
  have := List.all_eq_true.mp ok.out y hy
  rw [z] at this
  exact outK_or (by simpa using this)
theorem CompOk.caps (ok : CompOk X scope N' cap) {j i : Nat} {y : Str} (h1 : N'[j]? = some y) (h2 : cap[j]? = some (some i)) :
    X.N[i]? = some y ∧ scope.names.lookup y = some .free ∧ (X.env.scope.names.lookup y = some .cell ∨ X.env.scope.names.lookup y = some .free) := by
  have hm : (y, some i) ∈ N'.zip cap := by
    refine List.mem_of_getElem? (i := j) ?_
    rw [List.getElem?_zip_eq_some]
    exact ⟨h1, h2⟩
  have := List.all_eq_true.mp ok.cap _ hm
  simp only [Bool.and_eq_true] at this
  exact ⟨by simpa using this.1, by simpa using this.2.1, outK_or this.2.2⟩
theorem capt_len : (capt σ cap).length = cap.length := by simp [capt]
theorem capt_get {j : Nat} {v : V} (h : (capt σ cap)[j]? = some (some v)) : ∃ i, cap[j]? = some (some i) ∧ σ[i]? = some (some v) := by
  unfold capt at h
  rw [List.getElem?_map] at h
  cases e : cap[j]? with
  | none => rw [e] at h; cases h
  | some o =>
    rw [e] at h
    cases o with
    | none => cases h
    | some i =>
      refine ⟨i, rfl, ?_⟩
      have h' : (σ[i]?).getD none = some v := Option.some.inj h
      cases e' : σ[i]? with
      | none => rw [e'] at h'; cases h'
      | some z => rw [e'] at h'; exact congrArg some h'

theorem comp_block {Q : VK} {RR : Value → Addr → Result → Shared → Prop} (hc : X.calm = true) (ok : CompOk X scope N' cap) (hcl1 : ∀ x c, cl.lookup x = some c → X.env.cells.lookup x = some c)
    (hcl2 : ∀ x ∈ scope.names, x.2 = .free → ∃ c, cl.lookup x.1 = some c) (I2 : Inv X pins σ H₂ s₂) (T : Turn X.prog X.w X.K target J fp it tn) (st2 : tn 0 s₂.heap) (f2 : ∀ b ∈ fp, FpOk X pins H₂ b)
    (hin : ∀ (cl : List (Str × Addr)) (C : Addr) (fp : List Addr) (s₂ : Shared) (H₂ : Hp) (xe : Value → Shared → Prop), PG (inner X scope cl C N' fp s₂ H₂ xe) target g ∧ PIfs (inner X scope cl C N' fp s₂ H₂ xe) ifs tt ∧ PE (inner X scope cl C N' fp s₂ H₂ xe) elt te)
    (hk : KeepsCap cap g)
    (q : ∀ D, H₂ D = none → CompAt cap g tt te σ Q J H₂ D)
    (fin : ∀ D C H' s', Inv X pins σ H' s' → (∃ m, s'.heap.Ns C m) → FpOk X pins H' C → Q (.ref D) H' → RR (.ref D) C (.ok .next) s') :
    wpAny (model X.prog X.w) X.A (newList []) (fun acc s₃ => wpAny (model X.prog X.w) X.A (newFunctionEnv scope X.env.globals cl [] X.env.qual none .none (some X.env)) (fun cenv s₄ =>
      codeAny (model X.prog X.w) X.A (.compStart (.ListComp elt [⟨target, iter, ifs, 0⟩] scope pos) 0 (.ref it) acc { cenv with scope := relabel scope X.env }) (RR acc cenv.locals) s₄) X.xe s₃) X.xe s₂ := by
  refine wpAny_newObj_type (wpAny_newFunctionEnv ok.nocells (by intro y hy; simp at hy) (fun h₁ hns₁ hsb₁ => ?_) ok.kind)
  dsimp only at hns₁ hsb₁ ⊢
  generalize hH2 : s₂.heap.push { cls := .type "list", dict := none, data := .seq ([] : List Value).toArray } = hp2 at hns₁ hsb₁ ⊢
  have hC : hp2.objs.size = s₂.heap.objs.size + 1 := by rw [← hH2, Heap.size_push]
  have hDC : s₂.heap.objs.size ≠ hp2.objs.size := by rw [hC]; exact Nat.ne_of_lt (Nat.lt_succ_self _)
  have hCle : s₂.heap.objs.size ≤ hp2.objs.size := by rw [hC]; exact Nat.le_succ _
  have below : ∀ b, b < s₂.heap.objs.size → b ≠ hp2.objs.size ∧ b ≠ s₂.heap.objs.size := fun b hb => ⟨by rw [hC]; exact Nat.ne_of_lt (Nat.lt_succ_of_lt hb), Nat.ne_of_lt hb⟩
  have old : ∀ b o, s₂.heap.get? b = some o → h₁.get? b = some o := fun b o e => hsb₁.extBut b o (below b (Heap.lt_size e)).1 (Heap.get?_push_of_some _ (hH2 ▸ Heap.get?_push_of_some _ e))
  have hacc : h₁.get? s₂.heap.objs.size = some { cls := .type "list", dict := none, data := .seq ([] : List Value).toArray } := hsb₁.extBut _ _ hDC (Heap.get?_push_of_some _ (hH2 ▸ Heap.get?_push_size _ rfl))
  have fresh : H₂ s₂.heap.objs.size = none := I2.hok.fresh (Nat.le_refl _)
  have freshC : H₂ hp2.objs.size = none := I2.hok.fresh hCle
  obtain ⟨W, ⟨m0, w0⟩, turn⟩ := q s₂.heap.objs.size fresh
  have fpb : ∀ b ∈ fp, b < s₂.heap.objs.size := fun b hb => by
    obtain ⟨o, e, _⟩ := T.obj 0 _ st2 b hb
    exact Heap.lt_size e
  have ok' : ∀ xe, (inner X scope cl hp2.objs.size N' fp s₂ H₂ xe).Ok := fun xe => {
    mod := I2.ok.mod
    kind := ok.kind
    glob := I2.ok.glob
    blt := I2.ok.blt
    above := hCle
    inj := fun x y c a b => I2.ok.inj x y c (hcl1 x c a) (hcl1 y c b)
    has := fun x hx => by
      have key : ∀ k, (k = NameKind.cell ∨ k = NameKind.free) → (relabel scope X.env).names.lookup x = some k → ∃ c, cl.lookup x = some c := fun k hk hl => by
        rcases lookup_relabel_none_or hl with h | ⟨_, h⟩
        · rcases hk with rfl | rfl
          · exact absurd rfl (ok.nocells _ (lookup_mem' h))
          · exact hcl2 _ (lookup_mem' h) rfl
        · exact hcl2 _ (lookup_mem' h) rfl
      rcases hx with hx | hx
      · exact key _ (.inl rfl) hx
      · exact key _ (.inr rfl) hx
    cab := fun x c h => nomatch h
    hd := I2.ok.hd
    frames := I2.ok.frames
    stk := .inl rfl
    exf := fun b hb => ⟨(below b (fpb b hb)).1, fun x c e => (f2 b hb).2.2.2.2.1 x c (hcl1 x c e)⟩
    bs := I2.bs
    bsz := Nat.le_trans I2.ok.bsz I2.sz
    noex := fun b o e hb => by
      rcases (f2 b hb).2.2.2.1 with z | z
      · exact I2.ok.noex b o e z
      · exact absurd (Nat.lt_of_lt_of_le (Heap.lt_size e) (Nat.le_trans I2.ok.bsz z)) (Nat.lt_irrefl _)
    exfs := fun b hb hs => by
      rcases List.mem_cons.mp (I2.stkSub b hs) with z | z
      · exact (f2 b hb).2.1 z
      · exact (f2 b hb).2.2.1 z
    funs := I2.stack
    frf := I2.stkFree }
  have I4 : ∀ xe tk, Inv (inner X scope cl hp2.objs.size N' fp s₂ H₂ xe) [] (capt σ cap) (upd H₂ s₂.heap.objs.size (.lst [])) { s₂ with heap := h₁, toks := tk } := fun xe tk => {
    ok := ok' xe
    os := rfl
    bare := I2.bare
    base := Un.laid old (Nat.le_refl _) fresh
    loc := ⟨_, hns₁, fun j y v e1 e2 e3 => by
      obtain ⟨i, ec, es⟩ := capt_get e2
      obtain ⟨a1, a2, a3⟩ := ok.caps e1 ec
      obtain ⟨m, hn, hl⟩ := I2.loc
      obtain ⟨u, r, L⟩ := hl i y v a1 es (.inr a3)
      refine ⟨u, r, .inr ⟨lookup_relabel_free a2, ?_⟩⟩
      rcases L with ⟨k, _⟩ | ⟨_, c, e, z⟩
      · have k' : X.env.scope.names.lookup y = some .local := k
        rcases a3 with a3 | a3 <;> · rw [k'] at a3; cases a3
      · obtain ⟨c', hc'⟩ := hcl2 _ (lookup_mem' a2) rfl
        have : c' = c := by
          have e1 := hcl1 _ _ hc'
          have e1' : X.env.cells.lookup y = some c' := e1
          rw [e1'] at e
          exact Option.some.inj e
        subst this
        obtain ⟨o, ho, hd⟩ := z
        exact ⟨c', hc', o, old _ o ho, hd⟩⟩
    cell := fun x c e => by
      obtain ⟨v, o, ho, hd⟩ := I2.cell x c (hcl1 x c e)
      exact ⟨v, o, old _ o ho, hd⟩
    free := by
      show upd H₂ s₂.heap.objs.size (.lst []) hp2.objs.size = none
      rw [upd_ne (Ne.symm hDC)]
      exact freshC
    freeC := fun x c e => by
      obtain ⟨v, o, ho, hd⟩ := I2.cell x c (hcl1 x c e)
      rw [upd_ne (Nat.ne_of_lt (Heap.lt_size ho))]
      exact I2.freeC x c (hcl1 x c e)
    pin := fun p hp => nomatch hp
    hok := I2.hok.laid old (Nat.le_refl _) ⟨Nat.zero_le _, [], 0, .nil, hacc⟩
    len := by rw [capt_len]; exact ok.len.symm }
  have stat : ∀ {xe : Value → Shared → Prop} {H' : Hp}, (∀ b ∈ fp, H' b = none) → ∀ b ∈ fp, FpOk (inner X scope cl hp2.objs.size N' fp s₂ H₂ xe) [] H' b := fun {xe H'} hn b hb =>
    ⟨hn b hb, ((ok' xe).exf b hb).1, (ok' xe).exfs b hb, .inl hb, ((ok' xe).exf b hb).2, fun p hp => nomatch hp⟩
  have st4 : tn 0 h₁ := T.keep _ _ _ st2 fun b _ o e => old b o e
  have loop : ∀ s₃ : Shared, s₃ = { s₂ with heap := h₁, toks := s₂.toks + ([] : List (Str × Value)).length } →
      codeAny (model X.prog X.w) X.A (.compLoop (.ListComp elt [⟨target, iter, ifs, 0⟩] scope pos) 0 (.ref it) (.ref s₂.heap.objs.size) (compEnvC scope cl hp2.objs.size X.env))
        (RR (.ref s₂.heap.objs.size) hp2.objs.size) s₃ := by
    rintro s₃ rfl
    let xe : Value → Shared → Prop := notedBy (model X.prog X.w) X.A (compEnvC scope cl hp2.objs.size X.env) fun e s' => RR (.ref s₂.heap.objs.size) hp2.objs.size (.error e) s'
    obtain ⟨hg, hif, hel⟩ := hin cl hp2.objs.size fp s₂ H₂ xe
    refine compLoop_go (fun n s' => ∃ i H', Inv (inner X scope cl hp2.objs.size N' fp s₂ H₂ xe) [] (capt σ cap) H' s' ∧ tn i s'.heap ∧ (∀ b ∈ fp, H' b = none) ∧ W i n H') ?_ m0
      ⟨0, _, I4 xe _, st4, fun b hb => by rw [upd_ne (below b (fpb b hb)).2]; exact (f2 b hb).1, w0⟩
    rintro n s3 ⟨i, H3, I3, st3, fr3, w3⟩
    rcases turn i n H3 w3 with ⟨stop, qn⟩ | ⟨go, N, hN, step⟩
    · refine thn (T.done (inner X scope cl hp2.objs.size N' fp s₂ H₂ xe) rfl rfl rfl hc i [] s3 _ H3 xe I3 (stat fr3) st3 stop) fun r s4 ⟨hr, I4'⟩ => ?_
      subst hr
      obtain ⟨m, hm, _⟩ := I4'.loc
      refine fin _ _ H3 s4 (I2.call' I4'.os I4'.base I4'.hok I4'.bare fun b hb => ?_) ⟨m, hm⟩ (I2.fpOk hCle I4'.free) qn
      obtain ⟨_, a1, _, a3, a4, a5⟩ := f2 b hb
      exact ⟨a3, a1, a4, a5⟩
    · refine thn (T.item (inner X scope cl hp2.objs.size N' fp s₂ H₂ xe) rfl rfl rfl hc i [] s3 _ H3 xe I3 (stat fr3) st3 go) fun r s4 ⟨u, hr, h4⟩ => ?_
      subst hr
      refine thn h4 fun _ s5 ⟨x, H5, I5, r5, y5, st5, fr5⟩ => ?_
      have I5' := I5.pinned (stat fr5) (T.obj _ _ st5)
      have again : ∀ {σ7 : St} {H7 : Hp} {s7 : Shared}, Inv (inner X scope cl hp2.objs.size N' fp s₂ H₂ xe) ([] ++ pinsAt fp s5.heap) σ7 H7 s7 → (σ7.length = (capt σ cap).length ∧ ∀ j i, cap[j]? = some (some i) → σ7[j]? = (capt σ cap)[j]?) → N H7 →
          ∃ m, m < n ∧ ∃ i H', Inv (inner X scope cl hp2.objs.size N' fp s₂ H₂ xe) [] (capt σ cap) H' s7 ∧ tn i s7.heap ∧ (∀ b ∈ fp, H' b = none) ∧ W i m H' := fun {σ7 H7 s7} I7 k7 n7 => by
        obtain ⟨m', hm, w7⟩ := hN H7 n7
        refine ⟨m', hm, i + 1, H7, I7.unpinned.weak k7.1.symm (fun j v e => ?_), T.keep _ _ _ st5 fun b hb o e => (I7.pin (b, o) (List.mem_append_right _ (List.mem_append_right _ (mem_pinsAt hb e)))).1, fun b hb => ?_, w7⟩
        · obtain ⟨i', ec, _⟩ := capt_get e
          rw [k7.2 j i' ec]
          exact e
        · obtain ⟨o, e, d⟩ := T.obj _ _ st5 b hb
          exact (I7.pin (b, o) (List.mem_append_right _ (List.mem_append_right _ (mem_pinsAt hb e)))).2.1
      refine thn (hg _ s5 _ H5 x u _ I5' r5 (hk _ _ _ _ (step x H5 y5))) fun _ s6 ⟨σ6, H6, I6, q6, k6⟩ => ?_
      refine thn (hif _ s6 σ6 H6 _ I6 q6) fun b s7 ⟨H7, I7, q7⟩ => ?_
      cases b with
      | false =>
        rw [if_neg Bool.false_ne_true] at q7 ⊢
        exact again I7 k6 q7
      | true =>
        rw [if_pos rfl] at q7 ⊢
        refine thn (hel _ s7 σ6 H7 _ I7 q7) fun v s8 ⟨y, H8, I8, r8, ys, hD, hz, q8⟩ => ?_
        exact thn (mt_append _ s8 σ6 H8 (.ref s₂.heap.objs.size) [y] (.ref s₂.heap.objs.size) [v] (fun _ H9 => N H9) I8 rfl (.cons r8 .nil) ⟨_, ys, y, rfl, rfl, hD, hz, q8⟩) fun _ s9 ⟨_, H9, I9, _, n9⟩ => again I9 k6 n9
  exact codeAny_compStart_list (loop _ rfl) (T.self _ 0 _ _ _ st4 (loop _ rfl))

/-- [elt for target in iter if ..] as a value -/
theorem pe_comp {wi : TI} (hc : X.calm = true) (ok : CompOk X scope N' cap) (hi : PI X target iter wi)
    (hin : ∀ (cl : List (Str × Addr)) (C : Addr) (fp : List Addr) (s₂ : Shared) (H₂ : Hp) (xe : Value → Shared → Prop), PG (inner X scope cl C N' fp s₂ H₂ xe) target g ∧ PIfs (inner X scope cl C N' fp s₂ H₂ xe) ifs tt ∧ PE (inner X scope cl C N' fp s₂ H₂ xe) elt te)
    (hk : KeepsCap cap g) (hs : ∀ x, foldedSetIterable iter X.env x = pure x := by intro _; rfl) :
    PE X (.ListComp elt [⟨target, iter, ifs, 0⟩] scope pos) (tComp cap wi g tt te) := by
  intro pins s σ H Q I h
  obtain ⟨cl, hcl, c1, c2⟩ := closureFor_has (scope := scope) (env := X.env) fun x hx hf => I.ok.has x.1 (ok.outs x hx hf)
  rw [eval_ListComp]
  refine wpAny_comprehension_free (use := none) rfl hs hcl ok.kind ok.locs ?_
  refine thn (hi pins s σ H _ I h) fun v s1 h1 => thn h1 fun itv s2 h2 => ?_
  obtain ⟨it, fp, tn, J, H2, e, I2, T, st2, f2, q⟩ := h2
  subst e
  refine comp_block (RR := compPost (model X.prog X.w) X.A X.xe none (EP X pins σ Q)) hc ok c1 c2 I2 T st2 f2 hin hk q ?_
  intro D C H' s' I' hm hC q'
  obtain ⟨m, hm⟩ := hm
  refine ⟨m, hm, fun h' hs' => ⟨.ref D, H', ?_, rfl, q'⟩⟩
  obtain ⟨a0, a1, _, a3, a4, a5⟩ := hC
  exact I'.turned (t' := s'.toks) (fun b o hb e => (hs'.2 b hb).trans e) a0 a1 a3 a4 a5
end
end L2

/-! ## data as trees, ==, isinstance, all, zip, // by great numbers -/
namespace L2
open PySem PySem.Spec PyProof.Rows

/-! ### a value stands for a tree of data in an abstract heap -/
mutual
inductive Rep (G : Hp) : V → PyData → Prop
  | non : Rep G .non .none
  | bl (b : Bool) : Rep G (.bl b) (.bool b)
  | int (i : Int) : Rep G (.int i) (.int i)
  | str (x : Str) : Rep G (.str x) (.str x)
  | lst {a : Addr} {xs : List V} {ds : List PyData} : G a = some (.lst xs) → Reps G xs ds → Rep G (.ref a) (.list ds)
  | tup {a : Addr} {xs : List V} {ds : List PyData} : G a = some (.tup xs) → Reps G xs ds → Rep G (.ref a) (.tuple ds)
  | dct {a : Addr} {kvs : List (Key × V)} : G a = some (.dK kvs) → Rep G (.ref a) (.dict [])
inductive Reps (G : Hp) : List V → List PyData → Prop
  | nil : Reps G [] []
  | cons {v : V} {vs : List V} {d : PyData} {ds : List PyData} : Rep G v d → Reps G vs ds → Reps G (v :: vs) (d :: ds)
end
mutual
theorem Rep.mono {G G' : Hp} (s : Same G G') : ∀ {v : V} {d : PyData}, Rep G v d → Rep G' v d
  | _, _, .non => .non
  | _, _, .bl b => .bl b
  | _, _, .int i => .int i
  | _, _, .str x => .str x
  | _, _, .lst e r => .lst (s _ _ e) (Reps.mono s r)
  | _, _, .tup e r => .tup (s _ _ e) (Reps.mono s r)
  | _, _, .dct e => .dct (s _ _ e)
theorem Reps.mono {G G' : Hp} (s : Same G G') : ∀ {v : List V} {d : List PyData}, Reps G v d → Reps G' v d
  | _, _, .nil => .nil
  | _, _, .cons h t => .cons (Rep.mono s h) (Reps.mono s t)
end
theorem Reps.length {G : Hp} : ∀ {vs : List V} {ds : List PyData}, Reps G vs ds → vs.length = ds.length
  | _, _, .nil => rfl
  | _, _, .cons _ t => by rw [List.length_cons, List.length_cons, Reps.length t]
theorem Reps.get {G : Hp} : ∀ {vs : List V} {ds : List PyData} {i : Nat} {v : V}, Reps G vs ds → vs[i]? = some v → ∃ d, ds[i]? = some d ∧ Rep G v d
  | _, _, _, _, .nil, h => by simp at h
  | _, _, 0, _, .cons r _, h => by simp at h; subst h; exact ⟨_, rfl, r⟩
  | _, _, i + 1, v, .cons _ t, h => by
    obtain ⟨d, e, r⟩ := Reps.get (i := i) (v := v) t (by simpa using h)
    exact ⟨d, by simpa using e, r⟩
theorem Reps.append {G : Hp} : ∀ {vs ws : List V} {ds es : List PyData}, Reps G vs ds → Reps G ws es → Reps G (vs ++ ws) (ds ++ es)
  | _, _, _, _, .nil, s => s
  | _, _, _, _, .cons r t, s => .cons r (Reps.append t s)
theorem Reps.snoc {G : Hp} {vs : List V} {v : V} {ds : List PyData} {d : PyData} (h : Reps G vs ds) (r : Rep G v d) : Reps G (vs ++ [v]) (ds ++ [d]) := h.append (.cons r .nil)
mutual
theorem Rep.reads {P : Program} {w : World} {H : Hp} {h : Heap} (ok : HOk P w H h) : ∀ {v : V} {d : PyData} {u : Value}, Rep H v d → d.canLay0 = true → RelV v u → ∃ as, Reads h u d as
  | _, _, _, .non, _, r => by cases r; exact ⟨_, .none⟩
  | _, _, _, .bl b, _, r => by cases r; exact ⟨_, .bool b⟩
  | _, _, _, .int i, _, r => by obtain ⟨t, rfl⟩ := r; exact ⟨_, .int i t⟩
  | _, _, _, .str x, _, r => by obtain ⟨t, rfl⟩ := r; exact ⟨_, .str x t⟩
  | _, .list ds, _, .lst (a := a) (xs := xs) e q, c, r => by
    cases r
    obtain ⟨_, its, n, rv, g⟩ := (show ObjOk P w H h a (.lst xs) from ok a _ e)
    obtain ⟨as, ra⟩ := Reps.reads ok q (by simpa [PyData.canLay0] using c) rv
    exact ⟨_, .list g rfl rfl (by simpa using ra)⟩
  | _, .tuple ds, _, .tup (a := a) (xs := xs) e q, c, r => by
    cases r
    obtain ⟨_, its, rv, o, g, hc, n, hd⟩ := (show ObjOk P w H h a (.tup xs) from ok a _ e)
    obtain ⟨as, ra⟩ := Reps.reads ok q (by simpa [PyData.canLay0] using c) rv
    exact ⟨_, .tuple g hc hd (by simpa using ra)⟩
  | _, _, _, .dct e, c, r => by simp [PyData.canLay0] at c
theorem Reps.reads {P : Program} {w : World} {H : Hp} {h : Heap} (ok : HOk P w H h) : ∀ {vs : List V} {ds : List PyData} {us : List Value}, Reps H vs ds → PyData.canLayAll0 ds = true → Vals vs us → ∃ as, ReadsAll h us ds as
  | _, _, _, .nil, _, .nil => ⟨_, .nil⟩
  | _, _, _, .cons r t, c, .cons rv rt => by
    have c' := c
    rw [PyData.canLayAll0, Bool.and_eq_true] at c'
    obtain ⟨as, ra⟩ := Rep.reads ok r c'.1 rv
    obtain ⟨bs, rb⟩ := Reps.reads ok t c'.2 rt
    exact ⟨_, .cons ra rb⟩
end

section
variable {X : Cx}
/-- == of two trees -/
def rEqD : R2 := fun x y H Q => ∃ d e, Rep H x d ∧ Rep H y e ∧ SeqAt.shaped d = true ∧ SeqAt.shaped e = true ∧ Q (.bl (PyData.eqv d e)) H
def rNeD : R2 := fun x y H Q => ∃ d e, Rep H x d ∧ Rep H y e ∧ SeqAt.shaped d = true ∧ SeqAt.shaped e = true ∧ Q (.bl (!PyData.eqv d e)) H
theorem op_eqD {k : Nat} (hr : Room k X.A) : OpR X (compareOp .Eq) rEqD := by
  intro pins s σ H x y v u Q I rx ry ⟨d, e, rd, re, sd, se, q⟩
  obtain ⟨as, ra⟩ := rd.reads I.hok (SeqAt.canLay_of_shaped sd) rx
  obtain ⟨bs, rb⟩ := re.reads I.hok (SeqAt.canLay_of_shaped se) ry
  exact eq_dataH ra rb sd se hr.units ⟨.bl _, H, I, rfl, q⟩
theorem op_neD {k : Nat} (hr : Room k X.A) : OpR X (compareOp .NotEq) rNeD := by
  intro pins s σ H x y v u Q I rx ry ⟨d, e, rd, re, sd, se, q⟩
  obtain ⟨as, ra⟩ := rd.reads I.hok (SeqAt.canLay_of_shaped sd) rx
  obtain ⟨bs, rb⟩ := re.reads I.hok (SeqAt.canLay_of_shaped se) ry
  exact ne_dataH ra rb sd se hr.units ⟨.bl _, H, I, rfl, q⟩

/-! ### // by any positive number of at most 8000 bits -/
def CDivB (_ j : Int) : Prop := 0 < j ∧ j.natAbs.log2 < 9000
theorem op_fdivB : OpR X (binaryOp .FloorDiv) (rI CDivB fun i j => .int (i / j)) := opI fun i j _ _ _ _ _ hc q => by
  have h0 : (0 : Int) ≤ j := Int.le_of_lt hc.1
  refine floordiv_int (Int.ne_of_gt hc.1) ?_ (.inl (PyProof.noPylong_of_log2 hc.2))
  rw [Int.fdiv_eq_ediv_of_nonneg _ h0]
  exact q

/-! ### isinstance(x, T), T a built-in class -/
def tyD (H : Hp) : V → Option String
  | .non => some "NoneType"
  | .bl _ => some "bool"
  | .int _ => some "int"
  | .str _ => some "str"
  | .ref a => match H a with
    | some (.lst _) => some "list"
    | some (.frz _ (.lst _)) => some "list"
    | some (.tup _) => some "tuple"
    | some (.dK _) => some "dict"
    | _ => none
  | _ => none
def isB (t T : String) : Bool := t == T || (t == "bool" && T == "int")
theorem tyD_of {K : PySem.W.Frag} {H : Hp} {x : V} {t : String} (h : tyD H x = some t) : TyOf K H x (.type t) ∧ t ∈ ["NoneType", "bool", "int", "str", "list", "tuple", "dict"] := by
  cases x with
  | non => cases h; exact ⟨.non, by decide⟩
  | bl b => cases h; exact ⟨.bl b, by decide⟩
  | int i => cases h; exact ⟨.int i, by decide⟩
  | str y => cases h; exact ⟨.str y, by decide⟩
  | ref a =>
    unfold tyD at h
    cases e : H a with
    | none => simp [e] at h
    | some o =>
      cases o with
      | lst xs => simp [e] at h; subst h; exact ⟨.lst e, by decide⟩
      | tup xs => simp [e] at h; subst h; exact ⟨.tup e, by decide⟩
      | dK kvs => simp [e] at h; subst h; exact ⟨.dK e, by decide⟩
      | frz o u =>
        cases u with
        | lst xs => simp [e] at h; subst h; exact ⟨.frz e, by decide⟩
        | _ => simp [e] at h
      | _ => simp [e] at h
  | byt b => cases h
  | flt b => cases h
  | ty n => cases h
theorem kit_pair {K : PySem.W.Frag} {t T : String} (ht : t ∈ ["NoneType", "bool", "int", "str", "list", "tuple", "dict"]) (hT : T ∈ ["int", "bool", "list", "tuple", "str", "dict"]) : PySem.W.kitOne K (.type t) (.type T) = some (isB t T) := by
  have e : PySem.W.kitOne K (.type t) (.type T) = (if (Value.type t == Value.type T) = true then some true else if PySem.W.kitMeta T = true then (fastBuiltinMro t).map (·.contains (.type T)) else none) := rfl
  rw [e]
  have all : ∀ t ∈ ["NoneType", "bool", "int", "str", "list", "tuple", "dict"], ∀ T ∈ ["int", "bool", "list", "tuple", "str", "dict"],
      (if (Value.type t == Value.type T) = true then some true else if PySem.W.kitMeta T = true then (fastBuiltinMro t).map (·.contains (.type T)) else none) = some (isB t T) := by decide +kernel
  exact all t ht T hT
def rIsi : List V → Hp → VK → Prop := fun xs H Q => ∃ x t T, xs = [x, .ty T] ∧ T ∈ ["int", "bool", "list", "tuple", "str", "dict"] ∧ tyD H x = some t ∧ Q (.bl (isB t T)) H
theorem call_isi : CallR X (.builtin "isinstance") rIsi := by
  intro pins s σ H xs us Q I rv ⟨x, t, T, e, hT, ht, q⟩
  subst e
  obtain ⟨u, v, rfl, ru, rv⟩ := rv.two
  cases (show v = Value.type T from rv)
  obtain ⟨ty, hm⟩ := tyD_of (K := X.K) ht
  exact isinst_ok I ru ty (kit_pair hm hT) fun tk => ⟨.bl _, H, I.tok tk, rfl, q⟩

/-! ### all(..) of a list of bools -/
/-! ### several records turn at once, and a new object is laid -/
theorem Inv.turnedL {pins : List (Addr × Obj)} {σ : St} {H : Hp} {s : Shared} {h' : Heap} {t' : Nat} {ch : List Addr} {a : Addr} {o : HO} (I : Inv X pins σ H s) (hch : ∀ b ∈ ch, FpOk X pins H b)
    (k : ∀ b ob, b ∉ ch → s.heap.get? b = some ob → h'.get? b = some ob) (ha : s.heap.objs.size ≤ a) (new : ObjOk X.prog X.w (upd H a o) h' a o) : Inv X pins σ (upd H a o) { s with heap := h', toks := t' } := by
  have hn : H a = none := I.hok.fresh ha
  have nch : ∀ b u, H b = some u → b ∉ ch := fun b u e hb => by rw [(hch b hb).1] at e; cases e
  have lt : ∀ b ob, s.heap.get? b = some ob → b ≠ a := fun b ob e => Nat.ne_of_lt (Nat.lt_of_lt_of_le (Heap.lt_size e) ha)
  refine I.step (g' := s.gens) (d' := s.drawn) (ch := ch) (fun b hb => ?_) (fun b ob _ _ hc e _ => k b ob hc e) (fun b ob _ _ hc e _ => ⟨ob.slots, k b ob hc e⟩) (fun b ob _ e n => by rw [upd_ne (lt b ob e)]; exact n)
    (fun b ob hc e => ⟨ob, k b ob hc e⟩) (fun b xs e => by rw [upd_ne (ne_of_none e hn)]; exact e) (fun b ob u e => by rw [upd_ne (ne_of_none e hn)]; exact e) (fun b ps e => ⟨#[], by rw [upd_ne (ne_of_none e hn), e]; simp⟩) (fun m hm => ?_) (fun b u e => ?_) I.bare
  · obtain ⟨_, a1, _, a3, a4, a5⟩ := hch b hb
    exact ⟨a3, a1, a4, a5⟩
  · obtain ⟨ob, es, ep, ho, r⟩ := hm
    exact ⟨ob, es, ep, k _ ob (fun hb => (hch _ hb).2.1 rfl) ho, r⟩
  · by_cases hb : b = a
    · subst hb; rw [upd_same] at e; cases e; exact new
    · rw [upd_ne hb] at e
      refine (I.hok b u e).stay (fun c v hc q => k c v ?_ q) (fun c q => by rw [upd_ne (ne_of_none q hn)]; exact q) fun c xs q => by rw [upd_ne (ne_of_none q hn)]; exact q
      rcases hc with rfl | hc
      · exact nch _ _ e
      · exact nch _ _ hc
theorem Inv.turnedL0 {pins : List (Addr × Obj)} {σ : St} {H : Hp} {s : Shared} {h' : Heap} {t' : Nat} {ch : List Addr} (I : Inv X pins σ H s) (hch : ∀ b ∈ ch, FpOk X pins H b)
    (k : ∀ b ob, b ∉ ch → s.heap.get? b = some ob → h'.get? b = some ob) : Inv X pins σ H { s with heap := h', toks := t' } := by
  have nch : ∀ b u, H b = some u → b ∉ ch := fun b u e hb => by rw [(hch b hb).1] at e; cases e
  refine I.step (g' := s.gens) (d' := s.drawn) (ch := ch) (fun b hb => ?_) (fun b ob _ _ hc e _ => k b ob hc e) (fun b ob _ _ hc e _ => ⟨ob.slots, k b ob hc e⟩) (fun b ob _ e n => n)
    (fun b ob hc e => ⟨ob, k b ob hc e⟩) (fun b xs e => e) (fun b ob u e => e) (fun b ps e => ⟨#[], by rw [e]; simp⟩) (fun m hm => ?_) (fun b u e => ?_) I.bare
  · obtain ⟨_, a1, _, a3, a4, a5⟩ := hch b hb
    exact ⟨a3, a1, a4, a5⟩
  · obtain ⟨ob, es, ep, ho, r⟩ := hm
    exact ⟨ob, es, ep, k _ ob (fun hb => (hch _ hb).2.1 rfl) ho, r⟩
  · refine (I.hok b u e).stay (fun c v hc q => k c v ?_ q) (fun c q => q) fun c xs q => q
    rcases hc with rfl | hc
    · exact nch _ _ e
    · exact nch _ _ hc

/-! ### zip of two lists, walked with a tuple of names -/
def Itz (K : PySem.W.Frag) (a b : Addr) : It :=
  ⟨fun i H => ∃ xs ys x y, SqL K H a xs ∧ SqL K H b ys ∧ xs[i]? = some x ∧ ys[i]? = some y,
   fun i H v H' => ∃ T x y, H T = none ∧ v = .ref T ∧ H' = upd H T (.tup [x, y]) ∧ (∀ xs, SqL K H a xs → xs[i]? = some x) ∧ (∀ ys, SqL K H b ys → ys[i]? = some y),
   fun i H => ∃ xs ys, SqL K H a xs ∧ SqL K H b ys ∧ (xs.length ≤ i ∨ ys.length ≤ i)⟩
structure Zip5 (z TI TO i1 i2 : Addr) : Prop where
  TIz : TI ≠ z
  TOz : TO ≠ z
  i1z : i1 ≠ z
  i2z : i2 ≠ z
  TITO : TI ≠ TO
  TIi1 : TI ≠ i1
  TIi2 : TI ≠ i2
  TOi1 : TO ≠ i1
  TOi2 : TO ≠ i2
  i12 : i1 ≠ i2
def ZipAt (z TI TO i1 i2 a b : Addr) (i : Nat) (h : Heap) : Prop := IsZip h z TI TO .none ∧ IsPair h TI (.ref i1) (.ref i2) ∧ (∃ u v, IsPair h TO u v) ∧ h.IsListIter i1 a i ∧ h.IsListIter i2 b i
theorem ne_cls {h : Heap} {a b : Addr} {o o' : Obj} (e : h.get? a = some o) (e' : h.get? b = some o') (d : o.cls ≠ o'.cls) : a ≠ b := by
  rintro rfl
  rw [e] at e'
  cases e'
  exact d rfl
theorem ZipAt.apart {z TI TO i1 i2 a b : Addr} {i : Nat} {h : Heap} {xs ys : Array Value} (D : Zip5 z TI TO i1 i2) (st : ZipAt z TI TO i1 i2 a b i h) (ha : h.IsList a xs) (hb : h.IsList b ys) : ZipApart z TI TO i1 i2 a b := by
  obtain ⟨hz, _, ⟨u, v, hTO⟩, ⟨o1, h1, c1, _⟩, ⟨o2, h2, c2, _⟩⟩ := st
  obtain ⟨oa, ga, ca, _⟩ := ha
  obtain ⟨ob, gb, cb, _⟩ := hb
  exact ⟨D.TIz, D.TOz, D.i1z, D.i2z, D.TITO, D.TIi1, D.TIi2, D.TOi1, D.TOi2, D.i12,
    ne_cls ga hz (by rw [ca]; show Value.type "list" ≠ Value.type "zip"; decide), ne_cls ga hTO (by rw [ca]; show Value.type "list" ≠ Value.type "tuple"; decide), ne_cls ga h1 (by rw [ca, c1]; decide), ne_cls ga h2 (by rw [ca, c2]; decide),
    ne_cls gb hz (by rw [cb]; show Value.type "list" ≠ Value.type "zip"; decide), ne_cls gb hTO (by rw [cb]; show Value.type "list" ≠ Value.type "tuple"; decide), ne_cls gb h1 (by rw [cb, c1]; decide), ne_cls gb h2 (by rw [cb, c2]; decide)⟩
def iZip (K : PySem.W.Frag) (ta : TA) : TI := fun σ H R => ta σ H fun vs H1 => ∃ a b, vs = [.ref a, .ref b] ∧ (∃ xs, SqL K H1 a xs) ∧ (∃ ys, SqL K H1 b ys) ∧ R (Itz K a b) H1
end
end L2

/-! ## what the readings use: calls by a bundle, comprehensions that are stored, loops over zip, accumulators -/
namespace L2
open PySem PySem.Spec PyProof.Rows

/-- a def of the text with its promise -/
def Def (P : Program) (w : World) (K : PySem.W.Frag) (mg : Str → Option Value) (base : Heap) (x : Str) (k : Nat) (ps : List Str) (sp : Sp) : Prop :=
  ∃ f fd, FnOk P w K mg base CX0 k f fd ps sp ∧ mg x = some (.ref f) ∧ PySem.W.keepIn K (.ref f) = true ∧ Binds K fd ps []
section
variable {X : Cx} {x : Str} {k k' : Nat} {ps : List Str} {sp : Sp} {e : Expr} {es : List Expr} {t : TA} {p pos : Pos}
theorem pe_callD (D : Def X.prog X.w X.K X.mg X.base x k ps sp) (hr : Room k' X.A) (hg : Gl X x) (ha : PA X (e :: es) t) (hk : k ≤ k' := by decide) (hdb : (x == ("__debug__" : Str)) = false := by decide)
    (he : starEach (e :: es) X.env = (false, eval e X.env) :: starEach es X.env := by rfl) (hpl : (backTo pos (starEach es X.env)).any (·.1) = false := by rfl) :
    PE X (.Call (.Name x p) (e :: es) [] pos) (tCall sp [] E0 t) := by
  obtain ⟨f, fd, F, m, kp, b⟩ := D
  exact pe_call F (hr.mono hk) hg m kp b .nil pass0 ha hdb he hpl
/-! the rules whose readings name the fragment, with the fragment as a letter (within a comprehension the context is bound) -/
section
variable {K : PySem.W.Frag}
theorem ix_lt (hK : X.K = K := by rfl) : IxR X (fun x y H Q => rIxL K x y H Q ∨ rIxT K x y H Q) := by subst hK; exact ix_list.or ix_tup
theorem call_lenK (hK : X.K = K := by rfl) : CallR X (.builtin "len") (fun xs H Q => ∃ p ys, xs = [.ref p] ∧ (SqL K H p ys ∨ SqT K H p ys) ∧ Q (.int ys.length) H) := by subst hK; exact call_len_seq
theorem op_inK (hK : X.K = K := by rfl) : OpR X (compareOp .In) (rIn K false) := by subst hK; exact op_in_seq
theorem op_notInK (hK : X.K = K := by rfl) : OpR X (compareOp .NotIn) (rIn K true) := by subst hK; exact op_notIn_seq
theorem call_listK (hK : X.K = K := by rfl) : CallR X (.type "list") (fun xs H Q => ∃ p ys, xs = [.ref p] ∧ (SqL K H p ys ∨ SqT K H p ys) ∧ ∀ l, H l = none → Q (.ref l) (upd H l (.lst ys))) := by subst hK; exact call_list_of
theorem sl_listK (hK : X.K = K := by rfl) : SlR X (rSlL K) := by subst hK; exact sl_list
theorem pi_listK {l tg : Expr} {tl : TE} (hl : PE X l tl) (hK : X.K = K := by rfl) : PI X tg l (iList K tl) := by subst hK; exact pi_list hl
theorem pg_tupK {es : List Expr} {k : Nat} {t : TGs} {n : Nat} (hc : X.calm = true) (h : PGs X es t) (hK : X.K = K := by rfl)
    (hn : (assignEach es X.env).length = n := by rfl) (hst : (assignEach es X.env).findIdx? (·.1) = none := by rfl) : PG X (.Tuple es k pos) (gTup K n t) := by subst hK; exact pg_tup hc h hn hst
end
end

/-! ### a draw: n // 2 ** k % m is some number from 0 to below m -/
section
variable {X : Cx} {a m : Expr} {ta tm : TE} {k : Int} {j1 j2 : Nat} {p1 p2 p3 p4 p5 : Pos}
def tDraw (ta tm : TE) : TE := fun σ H Q => ta σ H fun x H1 => ∃ i : Int, x = .int i ∧ tm σ H1 fun y H2 => ∃ j : Int, y = .int j ∧ 0 < j ∧ ∀ r : Int, 0 ≤ r → r < j → Q (.int r) H2
theorem pow2_ok (n : Nat) (h : n < 9000) (i : Int) : CDivB i ((2 : Int) ^ n) := by
  have e : ((2 : Int) ^ n) = ((2 ^ n : Nat) : Int) := by simp
  rw [e]
  refine ⟨?_, ?_⟩
  · have := Nat.two_pow_pos n
    omega
  · rw [Int.natAbs_natCast, Nat.log2_two_pow]
    exact h
theorem pe_draw (ha : PE X a ta) (hm : PE X m tm) (h0 : 0 ≤ k := by decide) (h1 : k < 9000 := by decide) :
    PE X (.BinOp (.BinOp a .FloorDiv (.BinOp (.Constant (.int 2) j1 p1) .Pow (.Constant (.int k) j2 p2) p3) p4) .Mod m p5) (tDraw ta tm) := by
  intro pins s σ H Q I h
  refine wpAny_BinOp (wpAny_BinOp (thn (ha pins s σ H _ I h) fun v s1 ⟨x, H1, I1, r1, i, ex, q1⟩ => ?_))
  subst ex
  refine thn ((pe_op op_pow pe_int pe_int : PE X (.BinOp (.Constant (.int 2) j1 p1) .Pow (.Constant (.int k) j2 p2) p3) _) pins s1 σ H1 (fun z H' => z = .int ((2 : Int) ^ k.toNat) ∧ H' = H1) I1 ⟨_, _, rfl, rfl, ⟨h0, by omega, by decide⟩, rfl, rfl⟩) fun u s2 ⟨z, H2, I2, rz, ez, eH⟩ => ?_
  subst ez eH
  refine thn (op_fdivB pins s2 σ H2 (.int i) (.int ((2 : Int) ^ k.toNat)) v u (fun z H' => (∃ d : Int, z = .int d) ∧ H' = H2) I2 r1 rz ⟨i, _, rfl, rfl, pow2_ok _ (by omega) _, ⟨_, rfl⟩, rfl⟩) fun v3 s3 ⟨z, H3, I3, r3, ⟨d, ez⟩, eH⟩ => ?_
  subst ez eH
  refine thn (hm pins s3 σ H3 _ I3 q1) fun u4 s4 ⟨y, H4, I4, r4, j, ey, hj, q4⟩ => ?_
  subst ey
  exact op_mod pins s4 σ H4 (.int d) (.int j) v3 u4 Q I4 r3 r4 ⟨d, j, rfl, rfl, hj, q4 _ (Int.emod_nonneg _ (by omega)) (Int.emod_lt_of_pos _ hj)⟩
end

/-! ### a % m, of which only the bounds are wanted -/
section
variable {X : Cx} {a m : Expr} {ta tm : TE} {pos : Pos}
def tModA (ta tm : TE) : TE := fun σ H Q => ta σ H fun x H1 => ∃ i : Int, x = .int i ∧ tm σ H1 fun y H2 => ∃ j : Int, y = .int j ∧ 0 < j ∧ ∀ r : Int, 0 ≤ r → r < j → Q (.int r) H2
theorem pe_modA (ha : PE X a ta) (hm : PE X m tm) : PE X (.BinOp a .Mod m pos) (tModA ta tm) := by
  intro pins s σ H Q I h
  refine wpAny_BinOp (thn (ha pins s σ H _ I h) fun v s1 ⟨x, H1, I1, r1, i, ex, q1⟩ => ?_)
  subst ex
  refine thn (hm pins s1 σ H1 _ I1 q1) fun u4 s4 ⟨y, H4, I4, r4, j, ey, hj, q4⟩ => ?_
  subst ey
  exact op_mod pins s4 σ H4 (.int i) (.int j) v u4 Q I4 r1 r4 ⟨i, j, rfl, rfl, hj, q4 _ (Int.emod_nonneg _ (by omega)) (Int.emod_lt_of_pos _ hj)⟩
end

/-! ### a comprehension's value stored at once -/
section
variable {X : Cx} {N' : List Str} {cap : List (Option Nat)} {scope : Scope} {target iter elt : Expr} {ifs : List Expr} {pos spos px : Pos} {g : TG} {tt : TT} {te : TE} {wi : TI} {i : Nat} {x : Str}
theorem ps_setC (hN : X.N.Nodup) (hi : X.N[i]? = some x) (hx : X.env.scope.names.lookup x = some .local) (hc : X.calm = true) (ok : CompOk X scope N' cap) (hit : PI X target iter wi)
    (hin : ∀ (cl : List (Str × Addr)) (C : Addr) (fp : List Addr) (s₂ : Shared) (H₂ : Hp) (xe : Value → Shared → Prop), PG (inner X scope cl C N' fp s₂ H₂ xe) target g ∧ PIfs (inner X scope cl C N' fp s₂ H₂ xe) ifs tt ∧ PE (inner X scope cl C N' fp s₂ H₂ xe) elt te)
    (hk : KeepsCap cap g) (hsw : swapsWith (.ListComp elt [⟨target, iter, ifs, 0⟩] scope pos) (some (.Name x px)) spos.line X.env = pure true := by rfl) (hs : ∀ x, foldedSetIterable iter X.env x = pure x := by intro _; rfl) :
    PS X (.Assign [.Name x px] (.ListComp elt [⟨target, iter, ifs, 0⟩] scope pos) spos) (tAsg (tComp cap wi g tt te) (gName i)) := by
  intro pins s σ H D I h
  obtain ⟨cl, hcl, c1, c2⟩ := closureFor_has (scope := scope) (env := X.env) fun x hx hf => I.ok.has x.1 (ok.outs x hx hf)
  rw [exec_Assign_Name_used _ _ _ _ hsw]
  refine wpAny_bind (wpAny_standAt (wpAny_bind ?_))
  show wpAny _ X.A (do let _ ← comprehension (.ListComp elt [⟨target, iter, ifs, 0⟩] scope pos) scope X.env _ (newList []) false (eval iter X.env) (some (assign (.Name x px) X.env))) _ _ s
  refine wpAny_bind (wpAny_mono (wpAny_comprehension_free (use := some (assign (.Name x px) X.env)) (Q := fun _ s' => SP X pins D .next s') rfl hs hcl ok.kind ok.locs ?_) (fun _ s' hq => wpAny_pure (wpAny_pure hq)) fun _ _ e => e)
  refine thn (hit pins s σ H _ I h) fun v s1 h1 => thn h1 fun itv s2 h2 => ?_
  obtain ⟨it, fp, tn, J, H2, e, I2, T, st2, f2, q⟩ := h2
  subst e
  refine comp_block (Q := fun x H1 => gName i x σ H1 D.nx) (RR := compPost (model X.prog X.w) X.A X.xe (some (assign (.Name x px) X.env)) (fun _ s' => SP X pins D .next s')) hc ok c1 c2 I2 T st2 f2 hin hk q ?_
  intro D' C H' s' I' hm hC q'
  obtain ⟨m, hm⟩ := hm
  obtain ⟨a0, a1, _, a3, a4, a5⟩ := hC
  refine wpAny_assign_Name (store_ok2 I' hN hi (.inl hx) (v := .ref D') rfl (fun s'' I'' ⟨a, hsb, ha⟩ => ?_) (.inr hx))
  have hne : C ≠ a := by
    rcases ha with ha | ha
    · rw [ha]; exact a1
    · exact fun z => a4 _ _ ha z.symm
  refine ⟨m, hm.sameBut hsb hne, fun h' hs' => ⟨_, H', ?_, q'⟩⟩
  exact I''.turned (t' := s''.toks) (fun b o hb e => (hs'.2 b hb).trans e) a0 a1 a3 a4 a5
end

/-! ### for over zip -/
theorem same_upd {H : Hp} {p : Addr} (h : H p = none) (o : HO) : Same H (upd H p o) := fun b u q => by rw [upd_ne (ne_of_none q h)]; exact q
/-! ### accumulators of comprehensions -/
def del (H : Hp) (D : Addr) : Hp := fun b => if b = D then none else H b
theorem del_same {H : Hp} {D : Addr} : del H D D = none := by unfold del; rw [if_pos rfl]
theorem del_ne {H : Hp} {D b : Addr} (h : b ≠ D) : del H D b = H b := by unfold del; rw [if_neg h]
theorem upd_del {H : Hp} {D : Addr} {o : HO} : upd (del H D) D o = upd H D o := by
  funext b
  unfold upd del
  split <;> rfl
theorem upd_del_self {H : Hp} {D : Addr} {o : HO} (h : H D = some o) : upd (del H D) D o = H := by
  rw [upd_del]
  funext b
  unfold upd
  split
  · rename_i e; rw [e, h]
  · rfl
def CAcc (D : Addr) (Pn : Hp → List V → Prop) : Hp → Prop := fun H' => ∃ G ys, G D = none ∧ H' = upd G D (.lst ys) ∧ Pn G ys
def CPut (D : Addr) (Pn : Hp → List V → Prop) : VK := fun y H4 => ∃ ys, H4 D = some (.lst ys) ∧ ys.length < sizeLine ∧ CAcc D Pn (upd H4 D (.lst (ys ++ [y])))
theorem cput {D : Addr} {Pn : Hp → List V → Prop} {y : V} {H4 : Hp} {ys : List V} (h : H4 D = some (.lst ys)) (hl : ys.length ≤ 1000) (p : Pn (del H4 D) (ys ++ [y])) : CPut D Pn y H4 :=
  ⟨ys, h, small1000 hl, del H4 D, ys ++ [y], del_same, upd_del.symm, p⟩
theorem cskip {D : Addr} {Pn : Hp → List V → Prop} {H3 : Hp} {ys : List V} (h : H3 D = some (.lst ys)) (p : Pn (del H3 D) ys) : CAcc D Pn H3 := ⟨del H3 D, ys, del_same, (upd_del_self h).symm, p⟩
/-- what was there ahead of the block is there when the accumulator is left out -/
theorem same_del {H1 G H4 : Hp} {D : Addr} {o : HO} (h1 : Same H1 G) (hG : G D = none) (hs : Same (upd G D o) H4) : Same H1 (del H4 D) := fun b u e => by
  have e1 := h1 b u e
  have nb : b ≠ D := ne_of_none e1 hG
  rw [del_ne nb]
  exact hs b u (by rw [upd_ne nb]; exact e1)

section
variable {K : PySem.W.Frag} {g : TG} {tt : TT} {te : TE} {σ : St} {cap : List (Option Nat)} {Q : VK} {H1 : Hp} {D : Addr}
/-- the block, whatever it walks -/
theorem comp_it {J : It} {n : Nat} (Pv : Nat → Hp → List V → Prop) (hD : H1 D = none) (h0 : Pv 0 H1 []) (hgo : ∀ i G ys, i < n → G D = none → Pv i G ys → J.go i (upd G D (.lst ys)))
    (hst : ∀ G ys, G D = none → Pv n G ys → J.stop n (upd G D (.lst ys)))
    (step : ∀ i G ys x H', i < n → G D = none → Pv i G ys → J.yld i (upd G D (.lst ys)) x H' → g x (capt σ cap) H' fun σ2 H2 => tt σ2 H2 fun b H3 => if b = true then te σ2 H3 (CPut D (Pv (i + 1))) else CAcc D (Pv (i + 1)) H3)
    (fin : ∀ G ys, G D = none → Pv n G ys → Q (.ref D) (upd G D (.lst ys))) :
    CompAt cap g tt te σ Q J H1 D := by
  refine ⟨fun i m H => m = n - i ∧ i ≤ n ∧ CAcc D (Pv i) H, ⟨n, by simp, Nat.zero_le _, H1, [], hD, rfl, h0⟩, ?_⟩
  rintro i m H ⟨rfl, hi, G, ys, hG, rfl, p⟩
  by_cases hlt : i < n
  · exact .inr ⟨hgo i G ys hlt hG p, CAcc D (Pv (i + 1)), fun H' q => ⟨n - (i + 1), by omega, rfl, hlt, q⟩, fun x H' y => step i G ys x H' hlt hG p y⟩
  · have e : i = n := by omega
    subst e
    exact .inl ⟨hst G ys hG p, fin G ys hG p⟩
theorem comp_list {a : Addr} {xs : List V} (Pv : Nat → Hp → List V → Prop) (hD : H1 D = none) (h0 : Pv 0 H1 []) (hl : ∀ i G ys, Pv i G ys → SqL K G a xs)
    (step : ∀ i x G ys, xs[i]? = some x → G D = none → Pv i G ys → g x (capt σ cap) (upd G D (.lst ys)) fun σ2 H2 => tt σ2 H2 fun b H3 => if b = true then te σ2 H3 (CPut D (Pv (i + 1))) else CAcc D (Pv (i + 1)) H3)
    (fin : ∀ G ys, G D = none → Pv xs.length G ys → Q (.ref D) (upd G D (.lst ys))) :
    CompAt cap g tt te σ Q (Itl K a) H1 D := by
  refine comp_it (J := Itl K a) (n := xs.length) Pv hD h0 (fun i G ys hi hG p => ⟨xs, xs[i], (same_upd hG _).seq (hl i G ys p), by simp [hi]⟩) (fun G ys hG p => ⟨xs, (same_upd hG _).seq (hl _ G ys p), Nat.le_refl _⟩) (fun i G ys x H' hi hG p y => ?_) fin
  obtain ⟨e, y⟩ := y
  subst e
  exact step i x G ys (y xs ((same_upd hG _).seq (hl i G ys p))) hG p
theorem comp_range {lo : Int} {n : Nat} (Pv : Nat → Hp → List V → Prop) (hD : H1 D = none) (h0 : Pv 0 H1 [])
    (step : ∀ i G ys, i < n → G D = none → Pv i G ys → g (.int (lo + i)) (capt σ cap) (upd G D (.lst ys)) fun σ2 H2 => tt σ2 H2 fun b H3 => if b = true then te σ2 H3 (CPut D (Pv (i + 1))) else CAcc D (Pv (i + 1)) H3)
    (fin : ∀ G ys, G D = none → Pv n G ys → Q (.ref D) (upd G D (.lst ys))) :
    CompAt cap g tt te σ Q (Itr lo n) H1 D := by
  refine comp_it (J := Itr lo n) (n := n) Pv hD h0 (fun i G ys hi hG p => hi) (fun G ys hG p => Nat.le_refl _) (fun i G ys x H' hi hG p y => ?_) fin
  obtain ⟨e, y⟩ := y
  subst e
  subst y
  exact step i G ys hi hG p
end

/-! ### a block whose items are flat: fl i says the i-th item, none where a test leaves it out -/
def FlatP (H1 : Hp) (fl : Nat → Option V) : Nat → Hp → List V → Prop := fun i G ys => Same H1 G ∧ ys = (List.range i).filterMap fl
theorem FlatP.zero {H1 : Hp} {fl : Nat → Option V} : FlatP H1 fl 0 H1 [] := ⟨Same.refl _, rfl⟩
theorem FlatP.put {H1 G H4 : Hp} {D : Addr} {ys : List V} {fl : Nat → Option V} {i : Nat} {y : V} (p : FlatP H1 fl i G ys) (hG : G D = none) (hs : Same (upd G D (.lst ys)) H4) (hf : fl i = some y) (hi : i ≤ 1000) : CPut D (FlatP H1 fl (i + 1)) y H4 := by
  obtain ⟨h1, hy⟩ := p
  refine cput (hs D _ upd_same) ?_ ⟨same_del h1 hG hs, ?_⟩
  · rw [hy]
    exact Nat.le_trans (List.length_filterMap_le _ _) (by rw [List.length_range]; exact hi)
  · rw [List.range_succ, List.filterMap_append, ← hy]
    simp [hf]
theorem FlatP.skip {H1 G H4 : Hp} {D : Addr} {ys : List V} {fl : Nat → Option V} {i : Nat} (p : FlatP H1 fl i G ys) (hG : G D = none) (hs : Same (upd G D (.lst ys)) H4) (hf : fl i = none) : CAcc D (FlatP H1 fl (i + 1)) H4 := by
  obtain ⟨h1, hy⟩ := p
  refine cskip (hs D _ upd_same) ⟨same_del h1 hG hs, ?_⟩
  rw [List.range_succ, List.filterMap_append, ← hy]
  simp [hf]
theorem flat_list {α : Type} {β : Type} (xs : List α) (h : α → Option β) : (List.range xs.length).filterMap (fun i => (xs[i]?).bind h) = xs.filterMap h := by
  induction xs with
  | nil => rfl
  | cons x r ih =>
    rw [List.length_cons, List.range_succ_eq_map, List.filterMap_cons, List.filterMap_map, List.filterMap_cons]
    have e : ((fun i => ((x :: r)[i]?).bind h) ∘ Nat.succ) = fun i => (r[i]?).bind h := by
      funext i; simp
    rw [e, ih]
    simp
end L2

/-! ## ways along ends: the mathematics of point 5, in plain Lean -/
namespace Ways
theorem nodup_bound : ∀ (n : Nat) (l : List Nat), l.Nodup → (∀ x ∈ l, x < n) → l.length ≤ n
  | 0, l, _, h => by
    cases l with
    | nil => exact Nat.le_refl _
    | cons x r => exact absurd (h x List.mem_cons_self) (Nat.not_lt_zero _)
  | n + 1, l, nd, h => by
    by_cases hm : n ∈ l
    · have ih := nodup_bound n (l.erase n) (nd.erase n) fun x hx => by
        have h1 := (nd.mem_erase_iff).mp hx
        have h2 := h x h1.2
        have h3 := h1.1
        omega
      have e := List.length_erase_of_mem hm
      omega
    · have ih := nodup_bound n l nd fun x hx => by
        have h2 := h x hx
        have h3 : x ≠ n := fun q => hm (q ▸ hx)
        omega
      omega

/-- the end of the arrow at p -/
def nextE (es : List (Option Nat)) (p : Nat) : Option Nat := (es[p]?).join
def walk (es : List (Option Nat)) (p : Nat) : Nat → Nat
  | 0 => p
  | k + 1 => match nextE es (walk es p k) with
    | none => walk es p k
    | some e => e
def rootB (es : List (Option Nat)) (p : Nat) : Bool := (nextE es (walk es p es.length)).isNone
/-- all ends lie within -/
def InB (es : List (Option Nat)) : Prop := ∀ p e, nextE es p = some e → e < es.length
/-- a way: from p on, each next one the end at the one ahead, none twice -/
structure Way (es : List (Option Nat)) (p : Nat) (way : List Nat) : Prop where
  hd : way.head? = some p
  nd : way.Nodup
  bd : ∀ x ∈ way, x < es.length
  ch : ∀ i a b, way[i]? = some a → way[i + 1]? = some b → nextE es a = some b
theorem Way.one {es : List (Option Nat)} {p : Nat} (h : p < es.length) : Way es p [p] :=
  ⟨rfl, by simp, by intro x hx; simp at hx; omega, by intro i a b _ h2; simp at h2⟩
theorem Way.more {es : List (Option Nat)} {p q l : Nat} {way : List Nat} (w : Way es p way) (hl : way.getLast? = some l) (e : nextE es l = some q) (hq : q ∉ way) (hb : InB es) : Way es p (way ++ [q]) := by
  refine ⟨?_, ?_, ?_, ?_⟩
  · have := w.hd
    cases way with
    | nil => simp at this
    | cons a r => simpa using this
  · rw [List.nodup_append]
    refine ⟨w.nd, by simp, fun a ha b hb' => ?_⟩
    simp at hb'
    rintro rfl
    exact hq (hb' ▸ ha)
  · intro x hx
    rcases List.mem_append.mp hx with h | h
    · exact w.bd x h
    · simp at h
      rw [h]
      exact hb _ _ e
  · intro i a b h1 h2
    by_cases hi : i + 1 < way.length
    · rw [List.getElem?_append_left hi] at h2
      rw [List.getElem?_append_left (by omega)] at h1
      exact w.ch i a b h1 h2
    · have hlen : i + 1 = way.length := by
        have := (List.getElem?_eq_some_iff.mp h2).1
        rw [List.length_append, List.length_singleton] at this
        omega
      rw [List.getElem?_append_right (by omega)] at h2
      have hb2 : b = q := by
        rw [hlen, Nat.sub_self] at h2
        simpa using h2.symm
      rw [List.getElem?_append_left (by omega)] at h1
      have hl2 : way.getLast? = some a := by
        rw [List.getLast?_eq_getElem?]
        rw [show way.length - 1 = i by omega]
        exact h1
      rw [hl] at hl2
      cases hl2
      rw [hb2]
      exact e
theorem Way.len {es : List (Option Nat)} {p : Nat} {way : List Nat} (w : Way es p way) : way.length ≤ es.length := nodup_bound _ _ w.nd w.bd
theorem Way.pos {es : List (Option Nat)} {p : Nat} {way : List Nat} (w : Way es p way) : 0 < way.length := by
  have := w.hd
  cases way with
  | nil => simp at this
  | cons a r => simp
/-- the walk goes along the way -/
theorem Way.at {es : List (Option Nat)} {p : Nat} {way : List Nat} (w : Way es p way) : ∀ k, k < way.length → way[k]? = some (walk es p k)
  | 0, h => by
    have := w.hd
    cases way with
    | nil => simp at this
    | cons a r => simpa [walk] using this
  | k + 1, h => by
    have ih := w.at k (by omega)
    have hb : way[k + 1]? = some way[k + 1] := List.getElem?_eq_getElem h
    have e := w.ch k _ _ ih hb
    rw [hb]
    simp only [walk, e]
theorem walk_stays {es : List (Option Nat)} {p k : Nat} (h : nextE es (walk es p k) = none) : ∀ j, walk es p (k + j) = walk es p k
  | 0 => rfl
  | j + 1 => by
    have ih := walk_stays h j
    rw [show k + (j + 1) = (k + j) + 1 by omega]
    simp only [walk, ih, h]
theorem Way.root {es : List (Option Nat)} {p l : Nat} {way : List Nat} (w : Way es p way) (hl : way.getLast? = some l) (e : nextE es l = none) : rootB es p = true := by
  have hp := w.pos
  have hk := w.at (way.length - 1) (by omega)
  rw [List.getLast?_eq_getElem?, hk] at hl
  cases hl
  have := w.len
  have st := walk_stays e (es.length - (way.length - 1))
  rw [show (way.length - 1) + (es.length - (way.length - 1)) = es.length by omega] at st
  unfold rootB
  rw [st, e]
  rfl
theorem Way.ring {es : List (Option Nat)} {p l q : Nat} {way : List Nat} (w : Way es p way) (hl : way.getLast? = some l) (e : nextE es l = some q) (hq : q ∈ way) : rootB es p = false := by
  have hp := w.pos
  have some_of : ∀ x ∈ way, ∃ y ∈ way, nextE es x = some y := fun x hx => by
    obtain ⟨i, hi, rfl⟩ := List.mem_iff_getElem.mp hx
    by_cases h : i + 1 < way.length
    · exact ⟨way[i + 1], List.getElem_mem h, w.ch i _ _ (List.getElem?_eq_getElem hi) (List.getElem?_eq_getElem h)⟩
    · have : way.getLast? = some way[i] := by
        rw [List.getLast?_eq_getElem?, show way.length - 1 = i by omega]
        exact List.getElem?_eq_getElem hi
      rw [hl] at this
      cases this
      exact ⟨q, hq, e⟩
  have inw : ∀ k, walk es p k ∈ way := fun k => by
    induction k with
    | zero =>
      have := w.at 0 hp
      exact List.mem_of_getElem? this
    | succ k ih =>
      obtain ⟨y, hy, ey⟩ := some_of _ ih
      simp only [walk, ey]
      exact hy
  obtain ⟨y, _, ey⟩ := some_of _ (inw es.length)
  unfold rootB
  rw [ey]
  rfl
end Ways

/-! ## nets as data: shapes, equality, fitting -/
namespace Ring
open PySem Ways
abbrev Net := List (List (Int × Int))
def arrD (a : Int × Int) : PyData := .tuple [.int a.1, .int a.2]
def rowD (r : List (Int × Int)) : PyData := .list (r.map arrD)
def netD (n : Net) : PyData := .list (n.map rowD)
/-- a net with one to eight places whose arrows lead to places (what the laws make) -/
structure NetOk (n : Net) : Prop where
  pos : 1 ≤ n.length
  len : n.length ≤ 8
  row : ∀ r ∈ n, r.length ≤ 8 ∧ ∀ a ∈ r, 0 ≤ a.1 ∧ a.1 < n.length
/-- at most so deep, and of texts that can be laid -/
def okTo (k : Nat) (d : PyData) : Prop := d.canLay0 = true ∧ d.depth ≤ k
theorem canLayAll_of {k : Nat} : ∀ {ds : List PyData}, (∀ d ∈ ds, okTo k d) → PyData.canLayAll0 ds = true ∧ PyData.depthAll ds ≤ k
  | [], _ => ⟨by simp [PyData.canLayAll0], by simp [PyData.depthAll]⟩
  | d :: r, h => by
    have h1 := h d List.mem_cons_self
    have h2 := canLayAll_of fun x hx => h x (List.mem_cons_of_mem _ hx)
    refine ⟨by simp [PyData.canLayAll0, h1.1, h2.1], ?_⟩
    simp only [PyData.depthAll]
    have := h1.2
    have := h2.2
    omega
theorem okTo.list {k : Nat} {ds : List PyData} (h : ∀ d ∈ ds, okTo k d) : okTo (k + 1) (.list ds) := by
  have := canLayAll_of h
  exact ⟨by simp [PyData.canLay0, this.1], by simp only [PyData.depth]; omega⟩
theorem okTo.tuple {k : Nat} {ds : List PyData} (h : ∀ d ∈ ds, okTo k d) : okTo (k + 1) (.tuple ds) := by
  have := canLayAll_of h
  exact ⟨by simp [PyData.canLay0, this.1], by simp only [PyData.depth]; omega⟩
theorem okTo.mono {j k : Nat} {d : PyData} (h : okTo j d) (hk : j ≤ k) : okTo k d := ⟨h.1, Nat.le_trans h.2 hk⟩
theorem okTo.int (i : Int) : okTo 0 (.int i) := ⟨by simp [PyData.canLay0], by simp [PyData.depth]⟩
theorem okTo.none : okTo 0 .none := ⟨by simp [PyData.canLay0], by simp [PyData.depth]⟩
theorem okTo.bool (b : Bool) : okTo 0 (.bool b) := ⟨by simp [PyData.canLay0], by simp [PyData.depth]⟩
theorem okTo.shaped {k : Nat} {d : PyData} (h : okTo k d) (hk : k ≤ 64) : SeqAt.shaped d = true := by
  unfold SeqAt.shaped
  rw [h.1, decide_eq_true (Nat.le_trans h.2 hk)]
  rfl
theorem okTo_arr (a : Int × Int) : okTo 1 (arrD a) := okTo.tuple fun d hd => by
  have hd' : d = .int a.1 ∨ d = .int a.2 := by simpa using hd
  rcases hd' with rfl | rfl <;> exact okTo.int _
theorem okTo_row (r : List (Int × Int)) : okTo 2 (rowD r) := okTo.list fun d hd => by
  obtain ⟨a, _, rfl⟩ := List.mem_map.mp hd
  exact okTo_arr a
theorem okTo_net (n : Net) : okTo 3 (netD n) := okTo.list fun d hd => by
  obtain ⟨a, _, rfl⟩ := List.mem_map.mp hd
  exact okTo_row a
theorem eqv_arr (a b : Int × Int) : PyData.eqv (arrD a) (arrD b) = decide (a = b) := by
  obtain ⟨x, y⟩ := a
  obtain ⟨z, w⟩ := b
  simp only [arrD, PyData.eqv, PyData.eqvAll, Bool.and_true]
  by_cases h1 : x = z <;> by_cases h2 : y = w <;> simp [h1, h2]
theorem eqvAll_map {α : Type} [DecidableEq α] {f : α → PyData} (hf : ∀ a b, PyData.eqv (f a) (f b) = decide (a = b)) : ∀ xs ys : List α, PyData.eqvAll (xs.map f) (ys.map f) = decide (xs = ys)
  | [], [] => by simp [PyData.eqvAll]
  | [], _ :: _ => by simp [PyData.eqvAll]
  | _ :: _, [] => by simp [PyData.eqvAll]
  | a :: r, b :: t => by
    simp only [List.map_cons, PyData.eqvAll, hf, eqvAll_map hf r t]
    by_cases h : a = b <;> by_cases h' : r = t <;> simp [h, h']
theorem eqv_row (r t : List (Int × Int)) : PyData.eqv (rowD r) (rowD t) = decide (r = t) := by
  simp only [rowD, PyData.eqv]
  exact eqvAll_map eqv_arr r t
theorem eqv_net (n m : Net) : PyData.eqv (netD n) (netD m) = decide (n = m) := by
  simp only [netD, PyData.eqv]
  exact eqvAll_map eqv_row n m
theorem eqv_row_nil (r : List (Int × Int)) : PyData.eqv (rowD r) (.list []) = decide (r = []) := eqv_row r []
theorem eqv_int (a b : Int) : PyData.eqv (.int a) (.int b) = decide (a = b) := by
  simp only [PyData.eqv]
  by_cases h : a = b <;> simp [h]
/-! ### trees -/
def optE : PyData → Option Nat
  | .int e => some e.toNat
  | _ => none
def fitsD (row : List (Int × Int)) (d : PyData) : Bool :=
  if row = [] then (match d with | .none => true | _ => false) else match d with | .int e => decide (e ∈ row.map (·.1)) | _ => false
def goodD (net : Net) : PyData → Bool
  | .list ds => decide (ds.length = net.length) && (net.zip ds).all (fun p => fitsD p.1 p.2) && (List.range net.length).all (fun p => rootB (ds.map optE) p)
  | _ => false
end Ring

/-! ## trees by hanging place on place -/
namespace Ring
open PySem Ways
def optPy : Option Nat → PyData
  | none => .none
  | some e => .int e
structure TreeOf (net : Net) (tr : List (Option Nat)) : Prop where
  len : tr.length = net.length
  fits : ∀ (p : Nat) row, net[p]? = some row → (row = [] ∧ nextE tr p = none) ∨ (row ≠ [] ∧ ∃ e : Nat, nextE tr p = some e ∧ (e : Int) ∈ row.map (·.1))
  root : ∀ p, p < net.length → rootB tr p = true
structure Hung (net : Net) (tr : List (Option Nat)) (hg : List Nat) : Prop where
  len : tr.length = net.length
  nd : hg.Nodup
  bd : ∀ p ∈ hg, p < net.length
  ok : ∀ (i p : Nat), hg[i]? = some p → (net[p]? = some [] ∧ nextE tr p = none) ∨ (∃ row e j, net[p]? = some row ∧ row ≠ [] ∧ nextE tr p = some e ∧ (e : Int) ∈ row.map (·.1) ∧ hg[j]? = some e ∧ j < i)
theorem nextE_set_self {tr : List (Option Nat)} {p e : Nat} (h : p < tr.length) : nextE (tr.set p (some e)) p = some e := by
  unfold nextE
  rw [List.getElem?_set_self h]
  rfl
theorem nextE_set_ne {tr : List (Option Nat)} {p q : Nat} {o : Option Nat} (h : p ≠ q) : nextE (tr.set p o) q = nextE tr q := by
  unfold nextE
  rw [List.getElem?_set_ne h]
theorem Hung.start {net : Net} {tr : List (Option Nat)} {hg : List Nat} (hl : tr.length = net.length) (hn : ∀ p, nextE tr p = none) (nd : hg.Nodup) (hr : ∀ p ∈ hg, net[p]? = some []) : Hung net tr hg :=
  ⟨hl, nd, fun p hp => (List.getElem?_eq_some_iff.mp (hr p hp)).1, fun i p hp => .inl ⟨hr p (List.mem_of_getElem? hp), hn p⟩⟩
/-- n places below n, none twice, are all -/
theorem all_of_full : ∀ (n : Nat) (l : List Nat), l.Nodup → (∀ x ∈ l, x < n) → n ≤ l.length → ∀ p, p < n → p ∈ l := fun n l nd bd hl p hp => by
  by_cases hm : p ∈ l
  · exact hm
  · have h1 : (p :: l).Nodup := List.nodup_cons.mpr ⟨hm, nd⟩
    have h2 := nodup_bound n (p :: l) h1 fun x hx => by
      rcases List.mem_cons.mp hx with rfl | z
      · exact hp
      · exact bd x z
    rw [List.length_cons] at h2
    omega
/-- along a hung tree the places stand ever further ahead -/
theorem Hung.down {net : Net} {tr : List (Option Nat)} {hg : List Nat} (h : Hung net tr hg) : ∀ (k i p : Nat), hg[i]? = some p → nextE tr (walk tr p k) = none ∨ ∃ j, hg[j]? = some (walk tr p k) ∧ j + k ≤ i
  | 0, i, p, hp => .inr ⟨i, hp, Nat.le_refl _⟩
  | k + 1, i, p, hp => by
    rcases h.down k i p hp with z | ⟨j, hj, hk⟩
    · left
      have := walk_stays z 1
      rw [this]
      exact z
    · rcases h.ok j _ hj with ⟨_, z⟩ | ⟨row, e, j', a1, a2, a3, a4, a5, a6⟩
      · left
        have := walk_stays z 1
        rw [this]
        exact z
      · right
        refine ⟨j', ?_, by omega⟩
        simp only [walk, a3]
        exact a5
theorem Hung.tree {net : Net} {tr : List (Option Nat)} {hg : List Nat} (h : Hung net tr hg) (full : net.length ≤ hg.length) : TreeOf net tr := by
  have all := all_of_full net.length hg h.nd h.bd full
  have hlen : hg.length ≤ net.length := nodup_bound _ _ h.nd h.bd
  refine ⟨h.len, fun p row hp => ?_, fun p hp => ?_⟩
  · obtain ⟨i, hi, ei⟩ := List.mem_iff_getElem.mp (all p (List.getElem?_eq_some_iff.mp hp).1)
    rcases h.ok i p (by rw [List.getElem?_eq_getElem hi, ei]) with ⟨z, e⟩ | ⟨row', e, j, a1, a2, a3, a4, _⟩
    · rw [hp] at z
      cases z
      exact .inl ⟨rfl, e⟩
    · rw [hp] at a1
      cases a1
      exact .inr ⟨a2, e, a3, a4⟩
  · obtain ⟨i, hi, ei⟩ := List.mem_iff_getElem.mp (all p hp)
    unfold rootB
    rcases h.down tr.length i p (by rw [List.getElem?_eq_getElem hi, ei]) with z | ⟨j, _, hk⟩
    · rw [z]; rfl
    · rw [h.len] at hk
      omega
end Ring

/-! ## min, max, sorted, set, len of a set, index, any -/
namespace L2
open PySem PySem.Spec PyProof.Rows
section
variable {X : Cx}
theorem best_mem (bt : Nat → Nat → Bool) : ∀ k, argBest bt k ≤ k
  | 0 => Nat.le_refl _
  | k + 1 => by
    unfold argBest
    split
    · exact Nat.le_refl _
    · exact Nat.le_succ_of_le (best_mem bt k)
theorem best_lt (val : Nat → Int) : ∀ k j, j ≤ k → val (argBest (fun i j => decide (val i < val j)) k) ≤ val j
  | 0, j, h => by
    have : j = 0 := by omega
    subst this
    exact Int.le_refl _
  | k + 1, j, h => by
    have ih := fun j hj => best_lt val k j hj
    unfold argBest
    split
    · rename_i c
      have c' : val (k + 1) < val (argBest (fun i j => decide (val i < val j)) k) := by simpa using c
      by_cases hj : j = k + 1
      · subst hj; exact Int.le_refl _
      · have := ih j (by omega); omega
    · rename_i c
      have c' : ¬ val (k + 1) < val (argBest (fun i j => decide (val i < val j)) k) := by simpa using c
      by_cases hj : j = k + 1
      · subst hj; omega
      · exact ih j (by omega)
theorem valsInts : ∀ {ns : List Int} {its : List Value}, Vals (ns.map V.int) its → IntsAre its ns
  | [], _, .nil => .nil
  | n :: r, _, .cons ⟨t, e⟩ s => by subst e; exact .cons n t (valsInts s)
theorem getD_at {ns : List Int} {i : Nat} (h : i < ns.length) : ns.getD i 0 ∈ ns := by
  rw [List.getD_eq_getElem?_getD, List.getElem?_eq_getElem h]
  exact List.getElem_mem h
def rMin (K : PySem.W.Frag) : List V → Hp → VK → Prop := fun xs H Q => ∃ (p : Addr) (ns : List Int), xs = [.ref p] ∧ SqL K H p (ns.map V.int) ∧ ns ≠ [] ∧ ∀ m, m ∈ ns → (∀ x ∈ ns, m ≤ x) → Q (.int m) H
def rMax (K : PySem.W.Frag) : List V → Hp → VK → Prop := fun xs H Q => ∃ (p : Addr) (ns : List Int), xs = [.ref p] ∧ SqL K H p (ns.map V.int) ∧ ns ≠ [] ∧ ∀ m, m ∈ ns → (∀ x ∈ ns, x ≤ m) → Q (.int m) H
theorem call_minL (hc : X.calm = true) : CallR X (.builtin "min") (rMin X.K) := by
  intro pins s σ H xs us Q I rv ⟨p, ns, e, hq, hne, q⟩
  subst e
  obtain ⟨u, rfl, ru⟩ := rv.one
  cases ru
  obtain ⟨its, r, pl, hz⟩ := I.list hq
  have hi := valsInts r
  have hl := r.length
  rw [List.length_map] at hl
  have hpos : 0 < ns.length := List.length_pos_iff.mpr hne
  refine call_min_walk (wpAny_pyIter_list pl.isList ?_)
  have hp : p ≠ s.heap.objs.size := by
    obtain ⟨_, ho, _⟩ := pl.isList
    exact Nat.ne_of_lt (Heap.lt_size ho)
  have hval : ∀ i v, its.toArray[i]? = some v → ∃ t, v = Value.int (ns.getD i 0) t := fun i v hv => hi.int_at i v (by simpa using hv)
  refine ⟨s.heap.objs.size, _, _, _, _, _, _, rfl, Walks.list (A := X.A.in1) (I.ok.hd hc) s.heap.objs.size p hp its.toArray, ⟨⟨_, Heap.get?_push_size _ rfl, rfl, rfl⟩, pl.isList.push _⟩, ?_, ?_, CmpOf.ints_lt (fun i => ns.getD i 0) hval, fun v h' tk hv hk => ?_⟩
  · intro b hb
    show b < (s.heap.push _).objs.size
    rw [Heap.size_push]
    have hb' : b = s.heap.objs.size ∨ b = p := by simpa using hb
    rcases hb' with rfl | rfl
    · exact Nat.lt_succ_self _
    · obtain ⟨_, ho, _⟩ := pl.isList
      exact Nat.lt_succ_of_lt (Heap.lt_size ho)
  · simp only [List.size_toArray]; omega
  · obtain ⟨t, rfl⟩ := hval _ _ hv
    simp only [List.size_toArray] at hv ⊢
    have hb := best_mem (fun i j => decide (ns.getD i 0 < ns.getD j 0)) (its.length - 1)
    refine ⟨.int _, H, I.kept (t' := tk) fun b o ho => hk b o ?_ (Heap.get?_push_of_some _ ho), ⟨t, rfl⟩, q _ (getD_at (by omega)) fun x hx => ?_⟩
    · intro hb
      have : b = s.heap.objs.size := by simpa using hb
      exact absurd (Heap.lt_size ho) (by rw [this]; exact Nat.lt_irrefl _)
    · obtain ⟨j, hj, rfl⟩ := List.mem_iff_getElem.mp hx
      have := best_lt (fun i => ns.getD i 0) (its.length - 1) j (by omega)
      have e : ns.getD j 0 = ns[j] := by
        rw [List.getD_eq_getElem?_getD, List.getElem?_eq_getElem hj]
        rfl
      rw [e] at this
      exact this
/-- sorted(..) of fewer than 64 ints: a new list -/
def rSorted (K : PySem.W.Frag) : List V → Hp → VK → Prop := fun xs H Q => ∃ (p : Addr) (ns : List Int), xs = [.ref p] ∧ SqL K H p (ns.map V.int) ∧ ns.length < 64 ∧
  ∀ (l : Addr) (ns' : List Int), H l = none → ns'.Perm ns → ns'.Pairwise (· ≤ ·) → Q (.ref l) (upd H l (.lst (ns'.map V.int)))
/-- set(..) of ints: a new set, whose size is told -/
def dedup (ns : List Int) : List Int := firstMet (fun i => ns.getD i 0) ns.length
def rSet (K : PySem.W.Frag) : List V → Hp → VK → Prop := fun xs H Q => ∃ (p : Addr) (ns : List Int), xs = [.ref p] ∧ SqL K H p (ns.map V.int) ∧ ns.length ≤ 1000 ∧
  ∀ l S, H l = none → Q (.ref l) (upd H l (.set S (dedup ns).length))
theorem nodup_inj {α : Type} {l : List α} {i j : Nat} (h : l.Nodup) (hi : i < l.length) (hj : j < l.length) (e : l[i] = l[j]) : i = j := by
  have h' := List.pairwise_iff_getElem.mp h
  rcases Nat.lt_trichotomy i j with z | z | z
  · exact absurd e (h' i j hi hj z)
  · exact z
  · exact absurd e.symm (h' j i hj hi z)
/-- xs.index(k) of ints, where k is there -/
def rIndex (K : PySem.W.Frag) : V → List V → Hp → VK → Prop := fun x vs H Q => ∃ (l : Addr) (ns : List Int) (k : Int), x = .ref l ∧ vs = [.int k] ∧ SqL K H l (ns.map V.int) ∧ ns.length ≤ 1000 ∧ k ∈ ns ∧ Q (.int (ns.idxOf k : Nat)) H
/-! with the fragment as a letter -/
section
variable {K : PySem.W.Frag}
theorem call_minK (hc : X.calm = true) (hK : X.K = K := by rfl) : CallR X (.builtin "min") (rMin K) := by subst hK; exact call_minL hc
end
end
end L2

/-! ## rings of tops: the mathematics of point 7 -/
namespace Ways
/-- the end of a way: a bare place, or a place of its own again -/
def Done (es : List (Option Nat)) (way : List Nat) : Prop := ∃ l, way.getLast? = some l ∧ (nextE es l = none ∨ ∃ q, nextE es l = some q ∧ q ∈ way)
theorem Way.last {es : List (Option Nat)} {p l : Nat} {way : List Nat} (w : Way es p way) (hl : way.getLast? = some l) : l = walk es p (way.length - 1) := by
  have hp := w.pos
  have := w.at (way.length - 1) (by omega)
  rw [List.getLast?_eq_getElem?, this] at hl
  exact (Option.some.inj hl).symm
theorem Way.short {es : List (Option Nat)} {p : Nat} {w1 w2 : List Nat} (a : Way es p w1) (b : Way es p w2) (d : Done es w1) : w2.length ≤ w1.length := by
  by_cases h : w2.length ≤ w1.length
  · exact h
  exfalso
  have hp := a.pos
  obtain ⟨l, hl, hd⟩ := d
  have e1 := a.last hl
  have e2 := b.at (w1.length - 1) (by omega)
  have e3 : w2[w1.length]? = some w2[w1.length] := List.getElem?_eq_getElem (by omega)
  have e4 := b.ch (w1.length - 1) _ _ e2 (by rw [show w1.length - 1 + 1 = w1.length by omega]; exact e3)
  rw [← e1] at e4
  rcases hd with hd | ⟨q, hq, hm⟩
  · rw [hd] at e4; cases e4
  · rw [hq] at e4
    have e5 := Option.some.inj e4
    obtain ⟨i, hi, ei⟩ := List.mem_iff_getElem.mp hm
    have e6 := a.at i hi
    rw [List.getElem?_eq_getElem hi] at e6
    have e7 := b.at i (by omega)
    rw [List.getElem?_eq_getElem (by omega)] at e7
    have e8 : w2[i] = w2[w1.length] := by
      rw [Option.some.inj e7, ← Option.some.inj e6, ei, e5]
    have := L2.nodup_inj b.nd (by omega) (by omega) e8
    omega
theorem Way.unique {es : List (Option Nat)} {p : Nat} {w1 w2 : List Nat} (a : Way es p w1) (b : Way es p w2) (d1 : Done es w1) (d2 : Done es w2) : w1 = w2 := by
  have h1 := a.short b d1
  have h2 := b.short a d2
  refine List.ext_getElem? fun i => ?_
  by_cases hi : i < w1.length
  · rw [a.at i hi, b.at i (by omega)]
  · rw [List.getElem?_eq_none (by omega), List.getElem?_eq_none (by omega)]
theorem Way.goes {es : List (Option Nat)} {p : Nat} (hb : InB es) : ∀ (k : Nat) (way : List Nat), Way es p way → es.length - way.length = k → ∃ w, Way es p w ∧ Done es w := by
  intro k
  induction k with
  | zero =>
    intro way w hk
    have hlen := w.len
    refine ⟨way, w, ?_⟩
    obtain ⟨l, hl⟩ : ∃ l, way.getLast? = some l := by
      have hp := w.pos
      exact ⟨way.getLast (by intro z; rw [z] at hp; exact Nat.lt_irrefl _ hp), List.getLast?_eq_some_getLast _⟩
    refine ⟨l, hl, ?_⟩
    cases e : nextE es l with
    | none => exact .inl rfl
    | some q =>
      right
      refine ⟨q, rfl, ?_⟩
      by_cases hq : q ∈ way
      · exact hq
      · have := (w.more hl e hq hb).len
        rw [List.length_append, List.length_singleton] at this
        omega
  | succ k ih =>
    intro way w hk
    obtain ⟨l, hl⟩ : ∃ l, way.getLast? = some l := by
      have hp := w.pos
      exact ⟨way.getLast (by intro z; rw [z] at hp; exact Nat.lt_irrefl _ hp), List.getLast?_eq_some_getLast _⟩
    cases e : nextE es l with
    | none => exact ⟨way, w, l, hl, .inl e⟩
    | some q =>
      by_cases hq : q ∈ way
      · exact ⟨way, w, l, hl, .inr ⟨q, e, hq⟩⟩
      · refine ih (way ++ [q]) (w.more hl e hq hb) ?_
        rw [List.length_append, List.length_singleton]
        omega
theorem way_has {es : List (Option Nat)} {p : Nat} (hb : InB es) (hp : p < es.length) : ∃ w, Way es p w ∧ Done es w := Way.goes hb _ [p] (Way.one hp) rfl
open Classical in
/-- the way from a place -/
noncomputable def wayOf (es : List (Option Nat)) (p : Nat) : List Nat := if h : ∃ w, Way es p w ∧ Done es w then h.choose else []
theorem wayOf_is {es : List (Option Nat)} {p : Nat} {way : List Nat} (w : Way es p way) (d : Done es way) : wayOf es p = way := by
  have h : ∃ w, Way es p w ∧ Done es w := ⟨way, w, d⟩
  unfold wayOf
  rw [dif_pos h]
  exact h.choose_spec.1.unique w h.choose_spec.2 d
theorem wayOf_way {es : List (Option Nat)} {p : Nat} (hb : InB es) (hp : p < es.length) : Way es p (wayOf es p) ∧ Done es (wayOf es p) := by
  have h := way_has hb hp
  unfold wayOf
  rw [dif_pos h]
  exact h.choose_spec
theorem walk_add (es : List (Option Nat)) (p a : Nat) : ∀ b, walk es p (a + b) = walk es (walk es p a) b
  | 0 => rfl
  | b + 1 => by
    rw [← Nat.add_assoc]
    simp only [walk, walk_add es p a b]
/-- a way's places are just those that are come to -/
theorem Way.mem {es : List (Option Nat)} {p : Nat} {way : List Nat} (w : Way es p way) (d : Done es way) (x : Nat) : x ∈ way ↔ ∃ k, walk es p k = x := by
  have hp := w.pos
  constructor
  · intro h
    obtain ⟨i, hi, rfl⟩ := List.mem_iff_getElem.mp h
    have := w.at i hi
    rw [List.getElem?_eq_getElem hi] at this
    exact ⟨i, (Option.some.inj this).symm⟩
  · rintro ⟨k, rfl⟩
    obtain ⟨l, hl, hd⟩ := d
    have inw : ∀ k, walk es p k ∈ way := fun k => by
      induction k with
      | zero => exact List.mem_of_getElem? (w.at 0 hp)
      | succ k ih =>
        obtain ⟨i, hi, ei⟩ := List.mem_iff_getElem.mp ih
        by_cases h : i + 1 < way.length
        · have := w.ch i _ _ (List.getElem?_eq_getElem hi) (List.getElem?_eq_getElem h)
          simp only [walk, ← ei, this]
          exact List.getElem_mem h
        · have hlast : way.getLast? = some way[i] := by
            rw [List.getLast?_eq_getElem?, show way.length - 1 = i by omega]
            exact List.getElem?_eq_getElem hi
          rw [hl] at hlast
          cases hlast
          rcases hd with hd | ⟨q, hq, hm⟩
          · simp only [walk, ← ei, hd]
            exact List.getElem_mem hi
          · simp only [walk, ← ei, hq]
            exact hm
    exact inw k
/-- a place from which the way along tops comes to that place again -/
def OnRing (es : List (Option Nat)) (p : Nat) : Prop := ∃ q k, nextE es p = some q ∧ walk es q k = p
theorem walk_some {es : List (Option Nat)} {p q : Nat} (e : nextE es p = some q) : ∀ k, walk es p (k + 1) = walk es q k
  | 0 => by simp only [walk, e]
  | k + 1 => by
    have := walk_some e k
    show (match nextE es (walk es p (k + 1)) with | none => walk es p (k + 1) | some e => e) = _
    rw [this]
    rfl
/-- on a ring the way ends where it began -/
theorem Way.closed {es : List (Option Nat)} {p l : Nat} {way : List Nat} (w : Way es p way) (d : Done es way) (hl : way.getLast? = some l) : OnRing es p ↔ nextE es l = some p := by
  have hp := w.pos
  have el := w.last hl
  constructor
  · rintro ⟨q, k, hq, hk⟩
    have per : walk es p (k + 1) = p := by rw [walk_some hq]; exact hk
    have pers : ∀ m, walk es p ((k + 1) * m) = p := fun m => by
      induction m with
      | zero => rfl
      | succ m ih => rw [Nat.mul_succ, walk_add, ih, per]
    obtain ⟨l', hl', hd⟩ := d
    rw [hl] at hl'
    cases hl'
    rcases hd with hd | ⟨r, hr, hm⟩
    · exfalso
      have st := walk_stays (es := es) (p := p) (k := way.length - 1) (by rw [← el]; exact hd)
      have h1 := pers way.length
      have hge : way.length - 1 ≤ (k + 1) * way.length := by
        have : way.length ≤ (k + 1) * way.length := Nat.le_mul_of_pos_left _ (Nat.succ_pos _)
        omega
      have h2 := st ((k + 1) * way.length - (way.length - 1))
      rw [show way.length - 1 + ((k + 1) * way.length - (way.length - 1)) = (k + 1) * way.length by omega, h1, ← el] at h2
      rw [← h2, hq] at hd
      cases hd
    · obtain ⟨i, hi, ei⟩ := List.mem_iff_getElem.mp hm
      have hi' := w.at i hi
      rw [List.getElem?_eq_getElem hi, ei] at hi'
      have hwi : walk es p i = r := (Option.some.inj hi').symm
      have hwl : walk es p way.length = r := by
        have : way.length = way.length - 1 + 1 := by omega
        rw [this]
        simp only [walk, ← el, hr]
      -- all that is come to from turn i on is one of the turns i to below the length
      have late : ∀ m, i ≤ m → ∃ j, i ≤ j ∧ j < way.length ∧ walk es p m = walk es p j := fun m hm => by
        obtain ⟨t, rfl⟩ := Nat.exists_eq_add_of_le hm
        clear hm
        induction t with
        | zero => exact ⟨i, Nat.le_refl _, hi, rfl⟩
        | succ t ih =>
          obtain ⟨j, h1, h2, h3⟩ := ih
          have e : walk es p (i + (t + 1)) = walk es p (j + 1) := by
            rw [← Nat.add_assoc]
            simp only [walk, h3]
          by_cases hj : j + 1 < way.length
          · exact ⟨j + 1, by omega, hj, e⟩
          · refine ⟨i, Nat.le_refl _, hi, ?_⟩
            rw [e, show j + 1 = way.length by omega, hwl, hwi]
      obtain ⟨j, h1, h2, h3⟩ := late ((k + 1) * i) (Nat.le_mul_of_pos_left _ (Nat.succ_pos _))
      rw [pers] at h3
      have e0 := w.at 0 hp
      have ej := w.at j h2
      rw [List.getElem?_eq_getElem hp] at e0
      rw [List.getElem?_eq_getElem h2] at ej
      have : way[0] = way[j] := by rw [Option.some.inj e0, Option.some.inj ej]; exact h3
      have hj0 := L2.nodup_inj w.nd hp h2 this
      have : i = 0 := by omega
      rw [hr, ← hwi, this]
      rfl
  · intro e
    cases hq : nextE es p with
    | none =>
      have st := walk_stays (es := es) (p := p) (k := 0) hq (way.length - 1)
      rw [Nat.zero_add, ← el] at st
      have : l = p := st
      rw [this, hq] at e
      cases e
    | some q =>
      refine ⟨q, way.length - 1, hq, ?_⟩
      have : walk es p (way.length - 1 + 1) = p := by
        simp only [walk, ← el, e]
      exact (walk_some hq _).symm.trans this

/-! ### rings -/
/-- turned by one -/
def rot (r : List Nat) : List Nat := r.drop 1 ++ r.take 1
/-- a ring of tops, told as in 7 -/
structure IsRing (es : List (Option Nat)) (r : List Nat) : Prop where
  ne : r ≠ []
  nd : r.Nodup
  bd : ∀ x ∈ r, x < es.length
  least : ∀ x ∈ r, r.headD 0 ≤ x
  next : r.map (nextE es) = (rot r).map some
open Classical in
/-- the ring whose least place is p, if there is one -/
noncomputable def ringAt (es : List (Option Nat)) (p : Nat) : Option (List Nat) := if OnRing es p ∧ ∀ x ∈ wayOf es p, p ≤ x then some (wayOf es p) else none
/-- the rings of tops -/
noncomputable def ringsN (es : List (Option Nat)) : List (List Nat) := (List.range es.length).filterMap (ringAt es)
theorem ringAt_some {es : List (Option Nat)} {p : Nat} {r : List Nat} (h : ringAt es p = some r) : OnRing es p ∧ (∀ x ∈ wayOf es p, p ≤ x) ∧ r = wayOf es p := by
  unfold ringAt at h
  split at h
  · rename_i c
    exact ⟨c.1, c.2, (Option.some.inj h).symm⟩
  · cases h
theorem way_ring {es : List (Option Nat)} {p : Nat} {way : List Nat} (w : Way es p way) (d : Done es way) (o : OnRing es p) : way.map (nextE es) = (rot way).map some := by
  have hp := w.pos
  obtain ⟨l, hl, _⟩ := id d
  have e := (w.closed d hl).mp o
  have el := w.last hl
  refine List.ext_getElem? fun i => ?_
  rw [List.getElem?_map, List.getElem?_map]
  by_cases hi : i < way.length
  · by_cases h : i + 1 < way.length
    · have := w.ch i _ _ (List.getElem?_eq_getElem hi) (List.getElem?_eq_getElem h)
      rw [List.getElem?_eq_getElem hi]
      unfold rot
      rw [List.getElem?_append_left (by rw [List.length_drop]; omega), List.getElem?_drop, Nat.add_comm 1 i, List.getElem?_eq_getElem h]
      simp [this]
    · have hw := w.at i hi
      have h0 := w.at 0 hp
      rw [hw]
      unfold rot
      rw [List.getElem?_append_right (by rw [List.length_drop]; omega), List.length_drop, show i - (way.length - 1) = 0 by omega, List.getElem?_take_of_lt (by omega), h0]
      have : walk es p i = l := by rw [el, show i = way.length - 1 by omega]
      simp only [Option.map_some, this, e]
      rfl
  · have hr : (rot way).length = way.length := by
      unfold rot
      rw [List.length_append, List.length_drop, List.length_take]
      omega
    rw [List.getElem?_eq_none (by omega), List.getElem?_eq_none (by omega)]
    rfl
theorem Way.head {es : List (Option Nat)} {p : Nat} {way : List Nat} (w : Way es p way) : way.headD 0 = p := by
  have := w.hd
  cases way with
  | nil => simp at this
  | cons a r => simpa using this
theorem ring_is {es : List (Option Nat)} {p : Nat} {r : List Nat} (hb : InB es) (hp : p < es.length) (h : ringAt es p = some r) : IsRing es r ∧ r.headD 0 = p := by
  obtain ⟨o, ls, rfl⟩ := ringAt_some h
  obtain ⟨w, d⟩ := wayOf_way hb hp
  have hh := w.head
  refine ⟨⟨?_, w.nd, w.bd, fun x hx => ?_, way_ring w d o⟩, hh⟩
  · intro z
    have := w.pos
    rw [z] at this
    exact Nat.lt_irrefl _ this
  · rw [hh]
    exact ls x hx
/-- along a ring one comes to each of its places -/
theorem OnRing.back {es : List (Option Nat)} {p x : Nat} (o : OnRing es p) (h : ∃ k, walk es p k = x) : OnRing es x ∧ ∃ k, walk es x k = p := by
  obtain ⟨q, k, hq, hk⟩ := o
  obtain ⟨m, rfl⟩ := h
  have per : walk es p (k + 1) = p := by rw [walk_some hq]; exact hk
  have pers : ∀ m, walk es p ((k + 1) * m) = p := fun m => by
    induction m with
    | zero => rfl
    | succ m ih => rw [Nat.mul_succ, walk_add, ih, per]
  have back : walk es (walk es p m) ((k + 1) * (m + 1) - m) = p := by
    rw [← walk_add, show m + ((k + 1) * (m + 1) - m) = (k + 1) * (m + 1) by
      have : m + 1 ≤ (k + 1) * (m + 1) := Nat.le_mul_of_pos_left _ (Nat.succ_pos _)
      omega]
    exact pers _
  refine ⟨?_, _, back⟩
  cases e : nextE es (walk es p m) with
  | none =>
    have st := walk_stays (es := es) (p := walk es p m) (k := 0) e ((k + 1) * (m + 1) - m)
    rw [Nat.zero_add, back] at st
    have : p = walk es p m := st
    rw [← this, hq] at e
    cases e
  | some r =>
    refine ⟨r, (k + 1) * (m + 1) - m - 1 + m, e, ?_⟩
    rw [walk_add]
    have h1 : 0 < (k + 1) * (m + 1) - m := by
      have : m + 1 ≤ (k + 1) * (m + 1) := Nat.le_mul_of_pos_left _ (Nat.succ_pos _)
      omega
    have h2 := walk_some e ((k + 1) * (m + 1) - m - 1)
    rw [show (k + 1) * (m + 1) - m - 1 + 1 = (k + 1) * (m + 1) - m by omega, back] at h2
    rw [← h2]
theorem minOf : ∀ (l : List Nat), l ≠ [] → ∃ m ∈ l, ∀ x ∈ l, m ≤ x
  | [a], _ => ⟨a, by simp, by simp⟩
  | a :: b :: r, _ => by
    obtain ⟨m, hm, hl⟩ := minOf (b :: r) (by simp)
    by_cases h : a ≤ m
    · refine ⟨a, by simp, fun x hx => ?_⟩
      rcases List.mem_cons.mp hx with rfl | hx
      · exact Nat.le_refl _
      · exact Nat.le_trans h (hl x hx)
    · refine ⟨m, List.mem_cons_of_mem _ hm, fun x hx => ?_⟩
      rcases List.mem_cons.mp hx with rfl | hx
      · omega
      · exact hl x hx
theorem on_has {es : List (Option Nat)} {p : Nat} (hb : InB es) (hp : p < es.length) (o : OnRing es p) : ∃ m r, m < es.length ∧ ringAt es m = some r ∧ p ∈ r := by
  obtain ⟨w, d⟩ := wayOf_way hb hp
  obtain ⟨m, hm, hl⟩ := minOf (wayOf es p) (by intro z; have := w.pos; rw [z] at this; exact Nat.lt_irrefl _ this)
  have hml := w.bd m hm
  obtain ⟨w', d'⟩ := wayOf_way hb hml
  obtain ⟨om, k, hk⟩ := o.back ((w.mem d m).mp hm)
  refine ⟨m, wayOf es m, hml, ?_, (w'.mem d' p).mpr ⟨k, hk⟩⟩
  have c : OnRing es m ∧ ∀ x ∈ wayOf es m, m ≤ x := ⟨om, fun x hx => by
    obtain ⟨j, hj⟩ := (w'.mem d' x).mp hx
    refine hl x ((w.mem d x).mpr ?_)
    obtain ⟨i, hi⟩ := (w.mem d m).mp hm
    exact ⟨i + j, by rw [walk_add, hi, hj]⟩⟩
  unfold ringAt
  rw [if_pos c]
/-- two rings with a place in common are one -/
theorem ring_one {es : List (Option Nat)} {m n x : Nat} {r t : List Nat} (hb : InB es) (hm : m < es.length) (hn : n < es.length) (h1 : ringAt es m = some r) (h2 : ringAt es n = some t) (x1 : x ∈ r) (x2 : x ∈ t) : m = n := by
  obtain ⟨o1, l1, rfl⟩ := ringAt_some h1
  obtain ⟨o2, l2, rfl⟩ := ringAt_some h2
  obtain ⟨w, d⟩ := wayOf_way hb hm
  obtain ⟨w', d'⟩ := wayOf_way hb hn
  have hx1 := (w.mem d x).mp x1
  have hx2 := (w'.mem d' x).mp x2
  obtain ⟨_, k1, b1⟩ := o1.back hx1
  obtain ⟨_, k2, b2⟩ := o2.back hx2
  obtain ⟨i1, e1⟩ := hx1
  obtain ⟨i2, e2⟩ := hx2
  have a1 := l1 n ((w.mem d n).mpr ⟨i1 + k2, by rw [walk_add, e1, b2]⟩)
  have a2 := l2 m ((w'.mem d' m).mpr ⟨i2 + k1, by rw [walk_add, e2, b1]⟩)
  omega
theorem mem_rings {es : List (Option Nat)} {r : List Nat} : r ∈ ringsN es ↔ ∃ p, p < es.length ∧ ringAt es p = some r := by
  unfold ringsN
  rw [List.mem_filterMap]
  constructor
  · rintro ⟨p, hp, h⟩
    exact ⟨p, List.mem_range.mp hp, h⟩
  · rintro ⟨p, hp, h⟩
    exact ⟨p, List.mem_range.mpr hp, h⟩
theorem rings_is {es : List (Option Nat)} {r : List Nat} (hb : InB es) (h : r ∈ ringsN es) : IsRing es r := by
  obtain ⟨p, hp, e⟩ := mem_rings.mp h
  exact (ring_is hb hp e).1
/-- no place is on two rings -/
theorem rings_apart {es : List (Option Nat)} (hb : InB es) : (ringsN es).Pairwise fun a b => ∀ x ∈ a, x ∉ b := by
  unfold ringsN
  rw [List.pairwise_filterMap]
  refine List.Pairwise.imp_of_mem ?_ List.pairwise_lt_range
  intro a b ha hb' hab r hr t ht x h1 h2
  have := ring_one hb (List.mem_range.mp ha) (List.mem_range.mp hb') hr ht h1 h2
  omega
end Ways

/-! ## enumerate of a list, walked with two names; defs with defaults -/
namespace L2
open PySem PySem.Spec PyProof.Rows
def Ite (K : PySem.W.Frag) (a : Addr) : It :=
  ⟨fun i H => ∃ xs x, SqL K H a xs ∧ xs[i]? = some x,
   fun i H v H' => ∃ T x, H T = none ∧ v = .ref T ∧ H' = upd H T (.tup [.int (i : Int), x]) ∧ ∀ xs, SqL K H a xs → xs[i]? = some x,
   fun i H => ∃ xs, SqL K H a xs ∧ xs.length = i⟩
def EnumAt (e it a : Addr) (i : Nat) (h : Heap) : Prop := (∃ old, IsEnum h e it i old) ∧ h.IsListIter it a i
theorem turn_enum {P : Program} {w : World} {K : PySem.W.Frag} {elts : List Expr} {k : Nat} {tpos : Pos} {e it a : Addr} (hne : e ≠ it) :
    Turn P w K (.Tuple elts k tpos) (Ite K a) [e, it] e (EnumAt e it a) where
  mem := by simp
  obj := fun i h st c hc => by
    obtain ⟨⟨old, he⟩, o1, h1, c1, d1⟩ := st
    have hc' : c = e ∨ c = it := by simpa using hc
    rcases hc' with rfl | rfl
    · exact ⟨_, he, fun v q => by cases q⟩
    · exact ⟨_, h1, fun v q => by rw [d1] at q; cases q⟩
  keep := fun i h h' st k => by
    obtain ⟨⟨old, he⟩, h1⟩ := st
    exact ⟨⟨old, k e (by simp) _ he⟩, h1.at fun o q => k it (by simp) o q⟩
  item := by
    intro X hP hw hK hc i pins s σ H E I hf st hg
    subst hP hw hK
    obtain ⟨xs, x, qa, hx⟩ := hg
    obtain ⟨ia, ra, pa, za⟩ := I.list qa
    obtain ⟨u, hu, ru⟩ := ra.get hx
    obtain ⟨⟨old, he⟩, h1⟩ := st
    have hla := pa.isList
    have nai : a ≠ it := by
      obtain ⟨oa, ga, ca, _⟩ := hla
      obtain ⟨o1, g1, c1, _⟩ := h1
      exact ne_cls ga g1 (by rw [ca, c1]; decide)
    have nea : e ≠ a := by
      obtain ⟨oa, ga, ca, _⟩ := hla
      exact ne_cls he ga (by rw [ca]; show Value.type "enumerate" ≠ Value.type "list"; decide)
    have hi : i < ia.toArray.size := by
      have := (List.getElem?_eq_some_iff.mp hu).1
      simpa using this
    refine wpAny_pyNext_enum_itemD (Draws.list (A := X.A.in1) (I.ok.hd hc) it a nai ia.toArray) he ⟨h1, hla⟩ hi hne (by simp [hne, nea]) fun v h' tk hv ho hs' hT hsz hk => ⟨_, rfl, ?_⟩
    have ev : v = u := by
      have : ia[i]? = some v := by simpa using hv
      rw [hu] at this
      exact (Option.some.inj this).symm
    subst ev
    refine wpAny_letOwnedTupleGo_enum ho fun h'' b1 b2 => ?_
    have b2' : Heap.SameBut e h' h'' := b2
    have hTe : s.heap.objs.size ≠ e := Nat.ne_of_gt (Heap.lt_size he)
    have kk : ∀ c o, c ∉ [e, it] → s.heap.get? c = some o → h''.get? c = some o := fun c o hc q => by
      have hc' : ¬ (c = e ∨ c = it) := fun z => hc (by simpa using z)
      exact b2'.extBut c o (fun z => hc' (.inl z)) (hk c o (fun z => hc' (.inl z)) (fun z => hc' (.inr z)) q)
    have hT2 : h''.get? s.heap.objs.size = some { cls := .type "tuple", data := .seq #[.int (i : Int) tk, v] } := b2'.extBut _ _ hTe hT
    refine ⟨.ref s.heap.objs.size, upd H s.heap.objs.size (.tup [.int (i : Int), x]), I.turnedL (t' := tk + 1) (ch := [e, it]) hf kk (Nat.le_refl _) ?_, rfl, ?_, ?_, fun c hc => ?_⟩
    · exact ⟨by show 2 ≤ sizeLine; decide, [_, v], .cons ⟨tk, rfl⟩ (.cons ru .nil), _, hT2, rfl, _, rfl⟩
    · exact ⟨_, x, I.fresh, rfl, rfl, fun xs' q => by rw [I.list_inj q qa]; exact hx⟩
    · refine ⟨⟨v, ?_⟩, hs'.1.at fun o q => b2'.extBut _ o (Ne.symm hne) q⟩
      simpa using b1
    · have hlt : c < s.heap.objs.size := by
        have hc' : c = e ∨ c = it := by simpa using hc
        obtain ⟨o1, g1, _⟩ := h1
        rcases hc' with rfl | rfl
        · exact Heap.lt_size he
        · exact Heap.lt_size g1
      rw [upd_ne (Nat.ne_of_lt hlt)]
      exact (hf c hc).1
  done := by
    intro X hP hw hK hc i pins s σ H E I hf st hg
    subst hP hw hK
    obtain ⟨xs, qa, hx⟩ := hg
    obtain ⟨ia, ra, pa, za⟩ := I.list qa
    obtain ⟨⟨old, he⟩, h1⟩ := st
    have hla := pa.isList
    have nai : a ≠ it := by
      obtain ⟨oa, ga, ca, _⟩ := hla
      obtain ⟨o1, g1, c1, _⟩ := h1
      exact ne_cls ga g1 (by rw [ca, c1]; decide)
    have la := ra.length
    have hi : ia.toArray.size = i := by rw [List.size_toArray]; omega
    refine wpAny_pyNext_enum_endD (Draws.list (A := X.A.in1) (I.ok.hd hc) it a nai ia.toArray) he (by rw [hi]; exact ⟨h1, hla⟩) fun h' eb => ⟨rfl, I.turnedL0 (t' := s.toks) (ch := [e, it]) hf fun c o hc q => ?_⟩
    have hc' : ¬ (c = e ∨ c = it) := fun z => hc (by simpa using z)
    exact eb c o (fun z => hc' (.inr z)) q
  self := fun _ _ _ _ _ st h => by
    obtain ⟨⟨old, he⟩, _⟩ := st
    exact wpAny_pyIter_enum he h
def iEnum (K : PySem.W.Frag) (ta : TA) : TI := fun σ H R => ta σ H fun vs H1 => ∃ a, vs = [.ref a] ∧ (∃ xs, SqL K H1 a xs) ∧ R (Ite K a) H1
section
variable {X : Cx} {K : PySem.W.Frag}
theorem pi_enumK {a : Expr} {ta : TA} {p pos : Pos} {elts : List Expr} {k : Nat} {tpos : Pos} (hg : Gl X "enumerate") (hm : X.mg "enumerate" = none) (ha : PA X [a] ta) (hK : X.K = K := by rfl) (hs : starEach [a] X.env = [(false, eval a X.env)] := by rfl) :
    PI X (.Tuple elts k tpos) (.Call (.Name "enumerate" p) [a] [] pos) (iEnum K ta) := by
  subst hK
  intro pins s σ H R I h
  refine Call_ (ld_blt I hg hm boot_enumerate (PyProof.Rows.callWith_type1 (thn (ha pos pins s σ H _ I h) fun us s1 ⟨vs, H1, I1, r1, q1⟩ => ?_) (by rw [hs]; rfl) (by rfl)))
  obtain ⟨x, e, ⟨xs, qa⟩, q⟩ := q1
  subst e
  obtain ⟨u, rfl, ru⟩ := r1.one
  cases ru
  obtain ⟨ia, ra, pa, za⟩ := I1.list qa
  refine call_enumerate_list pa.isList fun h' b1 b2 b3 b4 => ?_
  refine wpAny_pyIter_enum b1 ?_
  have I2 : Inv X pins σ H1 { s1 with heap := h' } := I1.kept (t' := s1.toks) b4
  have f : ∀ c, s1.heap.objs.size ≤ c → FpOk X pins H1 c := fun c hc => I1.fpOk hc (I1.hok.fresh hc)
  refine ⟨_, _, _, _, H1, rfl, I2, turn_enum (a := x) (e := s1.heap.objs.size + 1) (it := s1.heap.objs.size) (Nat.succ_ne_self _), ⟨⟨_, b1⟩, b2⟩, fun c hc => ?_, q⟩
  have hc' : c = s1.heap.objs.size + 1 ∨ c = s1.heap.objs.size := by simpa using hc
  rcases hc' with rfl | rfl
  · exact f _ (Nat.le_add_right _ _)
  · exact f _ (Nat.le_refl _)
end
section
variable {K : PySem.W.Frag} {g : TG} {tt : TT} {te : TE} {σ : St} {cap : List (Option Nat)} {Q : VK} {H1 : Hp} {D : Addr}
theorem comp_enum {a : Addr} {xs : List V} (Pv : Nat → Hp → List V → Prop) (hD : H1 D = none) (h0 : Pv 0 H1 []) (hl : ∀ i G ys, Pv i G ys → SqL K G a xs)
    (step : ∀ i x T G ys, xs[i]? = some x → G D = none → T ≠ D → G T = none → Pv i G ys → g (.ref T) (capt σ cap) (upd (upd G D (.lst ys)) T (.tup [.int (i : Int), x])) fun σ2 H2 => tt σ2 H2 fun b H3 => if b = true then te σ2 H3 (CPut D (Pv (i + 1))) else CAcc D (Pv (i + 1)) H3)
    (fin : ∀ G ys, G D = none → Pv xs.length G ys → Q (.ref D) (upd G D (.lst ys))) :
    CompAt cap g tt te σ Q (Ite K a) H1 D := by
  refine comp_it (J := Ite K a) (n := xs.length) Pv hD h0 (fun i G ys hi hG p => ⟨xs, xs[i], (same_upd hG _).seq (hl i G ys p), by simp [hi]⟩) (fun G ys hG p => ⟨xs, (same_upd hG _).seq (hl _ G ys p), rfl⟩) (fun i G ys x H' hi hG p y => ?_) fin
  obtain ⟨T, u, hT, rfl, rfl, ya⟩ := y
  have hTD : T ≠ D := by rintro rfl; rw [upd_same] at hT; cases hT
  refine step i u T G ys (ya xs ((same_upd hG _).seq (hl i G ys p))) hG hTD ?_ p
  rw [upd_ne hTD] at hT
  exact hT
end
/-! ### truth, with the fragment as a letter -/
theorem pt_truthK {X : Cx} {K : PySem.W.Frag} {a : Expr} {ta : TE} (ha : PE X a ta) (he : ∀ whole, isTrue a X.env whole = (do let v ← whole; standAt a.pos; holding [v] (truthy v))) (hK : X.K = K := by rfl) :
    PT X a (fun σ H Q => ta σ H fun x H' => ∃ k, TruV K x H' k ∧ Q k H') := by subst hK; exact pt_truth ha he
/-! ### defs with defaults -/
structure FunD (K : PySem.W.Frag) (x qual : Str) (st : Stmt) (f : Addr) (fd : FuncData) (ds : List Value) : Prop where
  ex : ∃ (oc : Value) (od : Option Addr) (da : Addr) (dn : Nat) (kV doc pm : Value) (an : Option Addr) (cdv ct : Value) (osl dsl : Array (Option Value)),
    fd = PySem.W.fnOf x qual (defArgs st) (defBody st) (defScope st) (.ref da) kV doc pm an cdv ct ∧ K.lookup f = some ⟨oc, od, .func fd, osl⟩ ∧ K.lookup da = some ⟨.type "tuple", none, .seq ds.toArray dn, dsl⟩ ∧ PySem.W.codeIn K cdv qual = true
  kp : PySem.W.keepIn K (.ref f) = true
section
variable {P : Program} {w : World} {K : PySem.W.Frag} {mg : Str → Option Value} {base : Heap}
theorem FunD.ok {x qual : Str} {st : Stmt} {f : Addr} {fd : FuncData} {ds : List Value} {N ps : List Str} {k : Nat} {sp : Sp} (F : FunD K x qual st f fd ds) (S : FnScope N ps (defScope st)) (len : ∀ vs H Q E, sp vs H Q E → vs.length = ps.length)
    (hbody : ∀ (cdv : Value) (A : Around) (outer : List Env) (s : Shared) (H : Hp) (vs : List V) (Q : VK) (E : XK), Room k (A.deeper (envOfC qual (defScope st) s.heap.objs.size f cdv)) → sp vs H Q E →
      ∃ t, PSs (cxOf CX0 P w K mg base N qual (defScope st) f cdv A outer s H E).nox (defBody st) t ∧ t { nx := fun _ H' => Q .non H', rt := Q } (start N vs) H) : FnOk P w K mg base CX0 (k + 1) f fd ps sp := by
  obtain ⟨oc, od, da, dn, kV, doc, pm, an, cdv, ct, osl, dsl, rfl, lk, ld, hcd⟩ := F.ex
  refine fn_of lk hcd S len fun A outer s H vs Q E hr hsp => ?_
  obtain ⟨t, h, q⟩ := hbody cdv A outer s H vs Q E hr hsp
  exact ⟨t, h.nox, q⟩
theorem FunD.binds {x qual : Str} {st : Stmt} {f : Addr} {fd : FuncData} {ps : List Str} {ds es : List Value} (F : FunD K x qual st f fd ds) (k : Nat) (hk : k + es.length = ps.length)
    (h : ∀ (da : Addr) (kV doc pm : Value) (an : Option Addr) (cdv ct : Value) (us : List Value), us.length = k → ∀ (s : Shared) (o : Obj) (dn : Nat), s.heap.get? da = some o → o.data = .seq ds.toArray dn → BindsTo s (PySem.W.fnOf x qual (defArgs st) (defBody st) (defScope st) (.ref da) kV doc pm an cdv ct) ⟨us, []⟩ (ps.zip (us ++ es))) : Binds K fd ps es := by
  obtain ⟨oc, od, da, dn, kV, doc, pm, an, cdv, ct, osl, dsl, rfl, lk, ld, hcd⟩ := F.ex
  intro s us hK hl
  exact h da kV doc pm an cdv ct us (by rw [List.length_append] at hl; omega) s _ dn (hK _ _ ld) rfl
theorem funD_mk {x qual : Str} {st : Stmt} {f da : Addr} {dn : Nat} {oc : Value} {od an : Option Addr} {osl dsl : Array (Option Value)} {kV doc pm cdv ct : Value} {ds : List Value} (l : K.lookup f = some ⟨oc, od, .func (PySem.W.fnOf x qual (defArgs st) (defBody st) (defScope st) (.ref da) kV doc pm an cdv ct), osl⟩)
    (ld : K.lookup da = some ⟨.type "tuple", none, .seq ds.toArray dn, dsl⟩) (c : PySem.W.codeIn K cdv qual = true) (k : PySem.W.keepIn K (.ref f) = true) : FunD K x qual st f (PySem.W.fnOf x qual (defArgs st) (defBody st) (defScope st) (.ref da) kV doc pm an cdv ct) ds := ⟨⟨oc, od, da, dn, kV, doc, pm, an, cdv, ct, osl, dsl, rfl, l, ld, c⟩, k⟩
end
/-- a def of the text with its promise, called with the last arguments left out -/
def DefS (P : Program) (w : World) (K : PySem.W.Frag) (mg : Str → Option Value) (base : Heap) (x : Str) (k : Nat) (ps : List Str) (ds : List Value) (sp : Sp) : Prop :=
  ∃ f fd, FnOk P w K mg base CX0 k f fd ps sp ∧ mg x = some (.ref f) ∧ PySem.W.keepIn K (.ref f) = true ∧ Binds K fd ps ds
section
variable {X : Cx} {x : Str} {k k' : Nat} {ps : List Str} {sp : Sp} {e : Expr} {es : List Expr} {t : TA} {p pos : Pos} {ds : List Value} {dvs : List V}
theorem pe_callS (D : DefS X.prog X.w X.K X.mg X.base x k ps ds sp) (hd : Vals dvs ds) (hr : Room k' X.A) (hg : Gl X x) (ha : PA X (e :: es) t) (hk : k ≤ k' := by decide) (hdb : (x == ("__debug__" : Str)) = false := by decide)
    (he : starEach (e :: es) X.env = (false, eval e X.env) :: starEach es X.env := by rfl) (hpl : (backTo pos (starEach es X.env)).any (·.1) = false := by rfl) :
    PE X (.Call (.Name x p) (e :: es) [] pos) (tCall sp dvs E0 t) := by
  obtain ⟨f, fd, F, m, kp, b⟩ := D
  exact pe_call F (hr.mono hk) hg m kp b hd pass0 ha hdb he hpl
end
/-- a def with defaults as the top has made it -/
def HereD (K : PySem.W.Frag) (mg : Str → Option Value) (x : Str) (st : Stmt) (ps : List Str) (ds : List Value) : Prop := ∃ f fd, FunD K x x st f fd ds ∧ mg x = some (.ref f) ∧ Binds K fd ps [] ∧ Binds K fd ps ds
theorem HereD.mk {P : Program} {w : World} {K : PySem.W.Frag} {mg : Str → Option Value} {base : Heap} {x : Str} {st : Stmt} {ps : List Str} {ds : List Value} {k : Nat} {sp : Sp} (h : HereD K mg x st ps ds) (ok : ∀ f fd, FunD K x x st f fd ds → FnOk P w K mg base CX0 k f fd ps sp) :
    Def P w K mg base x k ps sp ∧ DefS P w K mg base x k ps ds sp := by
  obtain ⟨f, fd, F, m, b, b'⟩ := h
  exact ⟨⟨f, fd, ok f fd F, m, F.kp, b⟩, ⟨f, fd, ok f fd F, m, F.kp, b'⟩⟩
end L2

/-! ## piles, and rings popped: the mathematics of points 6 to 9 -/
namespace Ways
abbrev Piles := List (List Nat)
def topsN (p : Piles) : List (Option Nat) := p.map List.head?
def sizeN (p : Piles) : Nat := (p.map List.length).sum
structure PilesOk (p : Piles) : Prop where
  pos : 1 ≤ p.length
  len : p.length ≤ 8
  bd : ∀ l ∈ p, ∀ x ∈ l, x < p.length
  few : sizeN p ≤ 400
theorem topsN_len (p : Piles) : (topsN p).length = p.length := List.length_map _
theorem topsN_next {p : Piles} {i : Nat} : nextE (topsN p) i = (p[i]?).bind List.head? := by
  unfold nextE topsN
  rw [List.getElem?_map]
  cases p[i]? <;> rfl
theorem inB_tops {p : Piles} (bd : ∀ l ∈ p, ∀ x ∈ l, x < p.length) : InB (topsN p) := fun i e h => by
  rw [topsN_next] at h
  rw [topsN_len]
  cases c : p[i]? with
  | none => rw [c] at h; cases h
  | some l =>
    rw [c] at h
    have h' : l.head? = some e := h
    exact bd l (List.mem_of_getElem? c) e (List.mem_of_head? h')
def popAux (r : List Nat) : Nat → Piles → Piles
  | _, [] => []
  | k, l :: t => (if k ∈ r then l.drop 1 else l) :: popAux r (k + 1) t
/-- the piles without the tops of these places -/
def popN (p : Piles) (r : List Nat) : Piles := popAux r 0 p
theorem popAux_len (r : List Nat) : ∀ (p : Piles) (k : Nat), (popAux r k p).length = p.length
  | [], _ => rfl
  | l :: t, k => by rw [popAux, List.length_cons, List.length_cons, popAux_len r t]
theorem popN_len (p : Piles) (r : List Nat) : (popN p r).length = p.length := popAux_len r p 0
theorem popAux_at (r : List Nat) : ∀ (p : Piles) (k i : Nat), (popAux r k p)[i]? = (p[i]?).map fun l => if k + i ∈ r then l.drop 1 else l
  | [], _, _ => by simp [popAux]
  | l :: t, k, 0 => by simp [popAux]
  | l :: t, k, i + 1 => by
    rw [popAux, List.getElem?_cons_succ, List.getElem?_cons_succ, popAux_at r t]
    rw [show k + 1 + i = k + (i + 1) by omega]
theorem popN_at (p : Piles) (r : List Nat) (i : Nat) : (popN p r)[i]? = (p[i]?).map fun l => if i ∈ r then l.drop 1 else l := by
  have := popAux_at r p 0 i
  rw [Nat.zero_add] at this
  exact this
theorem popAux_mem (r : List Nat) : ∀ (p : Piles) (k : Nat) (l : List Nat), l ∈ popAux r k p → ∃ m ∈ p, l = m ∨ l = m.drop 1
  | [], _, l, h => by simp [popAux] at h
  | m :: t, k, l, h => by
    rw [popAux] at h
    rcases List.mem_cons.mp h with e | h
    · refine ⟨m, List.mem_cons_self, ?_⟩
      by_cases c : k ∈ r
      · rw [if_pos c] at e; exact .inr e
      · rw [if_neg c] at e; exact .inl e
    · obtain ⟨m', hm, e⟩ := popAux_mem r t (k + 1) l h
      exact ⟨m', List.mem_cons_of_mem _ hm, e⟩
theorem popAux_size (r : List Nat) : ∀ (p : Piles) (k : Nat), sizeN (popAux r k p) ≤ sizeN p
  | [], _ => Nat.le_refl _
  | l :: t, k => by
    have ih := popAux_size r t (k + 1)
    unfold sizeN at ih ⊢
    rw [popAux, List.map_cons, List.map_cons, List.sum_cons, List.sum_cons]
    by_cases c : k ∈ r
    · rw [if_pos c, List.length_drop]; omega
    · rw [if_neg c]; omega
theorem popAux_less (r : List Nat) : ∀ (p : Piles) (k i : Nat), k + i ∈ r → (∃ l, p[i]? = some l ∧ l ≠ []) → sizeN (popAux r k p) < sizeN p
  | [], _, _, _, h => by obtain ⟨l, e, _⟩ := h; simp at e
  | l :: t, k, 0, hr, h => by
    obtain ⟨l', e, hn⟩ := h
    have e' : l = l' := by simpa using e
    subst e'
    have ih := popAux_size r t (k + 1)
    have hp : 0 < l.length := List.length_pos_iff.mpr hn
    unfold sizeN at ih ⊢
    rw [popAux, List.map_cons, List.map_cons, List.sum_cons, List.sum_cons, if_pos (by simpa using hr), List.length_drop]
    omega
  | l :: t, k, i + 1, hr, h => by
    have ih := popAux_less r t (k + 1) i (by rw [show k + 1 + i = k + (i + 1) by omega]; exact hr) (by simpa using h)
    unfold sizeN at ih ⊢
    rw [popAux, List.map_cons, List.map_cons, List.sum_cons, List.sum_cons]
    by_cases c : k ∈ r
    · rw [if_pos c, List.length_drop]; omega
    · rw [if_neg c]; omega
theorem PilesOk.pop {p : Piles} (ok : PilesOk p) (r : List Nat) : PilesOk (popN p r) := by
  refine ⟨by rw [popN_len]; exact ok.pos, by rw [popN_len]; exact ok.len, fun l hl x hx => ?_, Nat.le_trans (popAux_size r p 0) ok.few⟩
  rw [popN_len]
  obtain ⟨m, hm, e⟩ := popAux_mem r p 0 l hl
  rcases e with rfl | rfl
  · exact ok.bd _ hm x hx
  · exact ok.bd m hm x (List.mem_of_mem_drop hx)
theorem PilesOk.inB {p : Piles} (ok : PilesOk p) : InB (topsN p) := inB_tops ok.bd
theorem ring_place {p : Piles} {r : List Nat} (hb : InB (topsN p)) (h : r ∈ ringsN (topsN p)) : ∀ x ∈ r, ∃ l, p[x]? = some l ∧ l ≠ [] := fun x hx => by
  have ring := rings_is hb h
  obtain ⟨i, hi, rfl⟩ := List.mem_iff_getElem.mp hx
  have e := congrArg (fun l => l[i]?) ring.next
  simp only [List.getElem?_map, List.getElem?_eq_getElem hi, Option.map_some] at e
  have hbd := ring.bd _ hx
  rw [topsN_len] at hbd
  refine ⟨p[r[i]], List.getElem?_eq_getElem hbd, fun z => ?_⟩
  rw [topsN_next, List.getElem?_eq_getElem hbd] at e
  simp only [Option.bind_some, z, List.head?_nil] at e
  cases c : (rot r)[i]? with
  | none => rw [c] at e; cases e
  | some y => rw [c] at e; cases e
theorem pop_less {p : Piles} {r : List Nat} (hb : InB (topsN p)) (h : r ∈ ringsN (topsN p)) : sizeN (popN p r) < sizeN p := by
  have ring := rings_is hb h
  obtain ⟨x, hx⟩ := List.exists_mem_of_ne_nil r ring.ne
  exact popAux_less r p 0 x (by rw [Nat.zero_add]; exact hx) (ring_place hb h x hx)
/-! ### popped out by an order -/
noncomputable def pick (num : Nat → Int) (t : Nat) (l : List (List Nat)) : List Nat := l.getD (num t % (l.length : Int)).toNat []
theorem pick_lt {num : Nat → Int} {t : Nat} {l : List (List Nat)} (h : l ≠ []) : (num t % (l.length : Int)).toNat < l.length := by
  have hp : 0 < l.length := List.length_pos_iff.mpr h
  have h1 := Int.emod_nonneg (num t) (show (l.length : Int) ≠ 0 by omega)
  have h2 := Int.emod_lt_of_pos (num t) (show (0 : Int) < l.length by omega)
  omega
theorem pick_mem {num : Nat → Int} {t : Nat} {l : List (List Nat)} (h : l ≠ []) : pick num t l ∈ l := by
  unfold pick
  rw [List.getD_eq_getElem?_getD, List.getElem?_eq_getElem (pick_lt h)]
  exact List.getElem_mem _
inductive Steps (num : Nat → Int) (p0 : Piles) : List (List Nat) → Piles → Prop
  | nil : Steps num p0 [] p0
  | snoc {rs : List (List Nat)} {p : Piles} : Steps num p0 rs p → ringsN (topsN p) ≠ [] → Steps num p0 (rs ++ [pick num rs.length (ringsN (topsN p))]) (popN p (pick num rs.length (ringsN (topsN p))))
def Out (num : Nat → Int) (p0 : Piles) (rs : List (List Nat)) (p : Piles) : Prop := Steps num p0 rs p ∧ ringsN (topsN p) = []
theorem Steps.ok {num : Nat → Int} {p0 : Piles} (ok : PilesOk p0) {rs : List (List Nat)} {p : Piles} (h : Steps num p0 rs p) : PilesOk p ∧ p.length = p0.length ∧ rs.length + sizeN p ≤ sizeN p0 := by
  induction h with
  | nil => exact ⟨ok, rfl, by simp⟩
  | @snoc rs p h hne ih =>
    obtain ⟨a, b, c⟩ := ih
    refine ⟨a.pop _, by rw [popN_len]; exact b, ?_⟩
    have := pop_less a.inB (pick_mem (num := num) (t := rs.length) hne)
    rw [List.length_append, List.length_singleton]
    omega
theorem Steps.last {num : Nat → Int} {p0 : Piles} {rs : List (List Nat)} {p : Piles} (h : Steps num p0 rs p) : (rs = [] ∧ p = p0) ∨ ∃ rs' q, Steps num p0 rs' q ∧ ringsN (topsN q) ≠ [] ∧ rs = rs' ++ [pick num rs'.length (ringsN (topsN q))] ∧ p = popN q (pick num rs'.length (ringsN (topsN q))) := by
  cases h with
  | nil => exact .inl ⟨rfl, rfl⟩
  | snoc h hne => exact .inr ⟨_, _, h, hne, rfl, rfl⟩
theorem Steps.det {num : Nat → Int} {p0 : Piles} : ∀ (n : Nat) {rs rs' : List (List Nat)} {p p' : Piles}, rs.length = n → rs'.length = n → Steps num p0 rs p → Steps num p0 rs' p' → rs = rs' ∧ p = p'
  | 0, rs, rs', p, p', h1, h2, a, b => by
    rcases a.last with ⟨rfl, rfl⟩ | ⟨_, _, _, _, e, _⟩
    · rcases b.last with ⟨rfl, rfl⟩ | ⟨_, _, _, _, e, _⟩
      · exact ⟨rfl, rfl⟩
      · rw [e] at h2; simp at h2
    · rw [e] at h1; simp at h1
  | n + 1, rs, rs', p, p', h1, h2, a, b => by
    rcases a.last with ⟨rfl, rfl⟩ | ⟨r1, q1, a1, n1, e1, f1⟩
    · simp at h1
    · rcases b.last with ⟨rfl, rfl⟩ | ⟨r2, q2, a2, n2, e2, f2⟩
      · simp at h2
      · rw [e1] at h1
        rw [e2] at h2
        rw [List.length_append, List.length_singleton] at h1 h2
        obtain ⟨z1, z2⟩ := Steps.det n (by omega) (by omega) a1 a2
        subst z1 z2
        exact ⟨e1.trans e2.symm, f1.trans f2.symm⟩
/-- ahead of each ring -/
theorem Steps.at {num : Nat → Int} {p0 : Piles} {rs : List (List Nat)} {p : Piles} (h : Steps num p0 rs p) : ∀ k, k < rs.length → ∃ q, Steps num p0 (rs.take k) q ∧ ringsN (topsN q) ≠ [] ∧ rs[k]? = some (pick num k (ringsN (topsN q))) ∧ Steps num p0 (rs.take (k + 1)) (popN q (pick num k (ringsN (topsN q)))) := by
  induction h with
  | nil => intro k hk; simp at hk
  | @snoc rs p h hne ih =>
    intro k hk
    rw [List.length_append, List.length_singleton] at hk
    by_cases hl : k < rs.length
    · obtain ⟨q, a, b, c, d⟩ := ih k hl
      refine ⟨q, ?_, b, ?_, ?_⟩
      · rw [List.take_append_of_le_length (by omega)]; exact a
      · rw [List.getElem?_append_left hl]; exact c
      · rw [List.take_append_of_le_length (by omega)]; exact d
    · have e : k = rs.length := by omega
      subst e
      refine ⟨p, ?_, hne, ?_, ?_⟩
      · rw [List.take_append_of_le_length (Nat.le_refl _), List.take_length]; exact h
      · rw [List.getElem?_append_right (Nat.le_refl _), Nat.sub_self]; rfl
      · rw [List.take_of_length_le (by simp)]; exact .snoc h hne
theorem Out.unique {num : Nat → Int} {p0 : Piles} {rs rs' : List (List Nat)} {p p' : Piles} (a : Out num p0 rs p) (b : Out num p0 rs' p') : rs = rs' ∧ p = p' := by
  have key : ∀ {rs rs' : List (List Nat)} {p p' : Piles}, Out num p0 rs p → Out num p0 rs' p' → ¬ rs.length < rs'.length := fun {rs rs' p p'} a b h => by
    obtain ⟨q, s, hne, _⟩ := b.1.at rs.length h
    have := (Steps.det rs.length rfl (by rw [List.length_take]; omega) a.1 s).2
    subst this
    exact hne a.2
  have h1 := key a b
  have h2 := key b a
  exact Steps.det rs.length rfl (by omega) a.1 b.1
def numN (o : Option (List Int)) (t : Nat) : Int := match o with
  | none => 0
  | some l => l.getD t 0
end Ways

/-! ## isinstance of a caught error of the program's own classes -/
namespace PySem.W
open PySem PySem.Spec PySem.Calls PyProof.Rows
section
variable {prog : Program} {w : World} {A : Around} {E : Value → Shared → Prop} {s : Shared} {K : Frag} {x C : Addr} {ox : Obj} {od : Option Obj}
/-- what is asked of an error class as the top has made it -/
structure ExcK (K : Frag) (C : Addr) : Prop where
  ga : findIn K (.ref C) "__getattribute__" = some (some (.builtin "BaseException.__getattribute__"))
  gt : findIn K (.ref C) "__getattr__" = some none
  cl : findIn K (.ref C) "__class__" = some (some (.builtin "object.__class__"))
  gs : specialIn K (.builtin "object.__class__") "__get__" = some (some (.builtin "getset_descriptor.__get__"))
  tk : takesIn K (.builtin "object.__class__") = some true
  mo : mroIn K C (.type "object") = some true
  mb : mroIn K C (.type "BaseException") = some true
  is : (clsIn K C).isSome = true
theorem check_ga_exc {M : Model} {nameV : Value} {Q : Unit → Shared → Prop} (X : K.In s.heap) (I : InstAt s.heap x ox C od) (k : ExcK K C) (hq : Q () s) : wpAny M A (checkBuiltinCall "BaseException.__getattribute__" ⟨[.ref x, nameV], []⟩) Q E s := by
  obtain ⟨h, g, d, t, os⟩ := s
  have hk : builtinKind "BaseException.__getattribute__" = some .slot := by decide +kernel
  have hsplit : splitId "BaseException.__getattribute__" = some ("BaseException", "__getattribute__") := by decide +kernel
  have ha := F.args_bexc_ga (.ref x) nameV
  have L0 := I.type (M := M)
  have L1 := looks_mroIn (M := M) X k.mb
  simp only [checkBuiltinCall, hk, hsplit]
  refine wpAny_bind ?_
  unfold isInstance
  refine wpAny_bind (L0.at (L1.at ?_))
  repeat (first | assumption | wp_step)
theorem exc_class {Q : Option Value → Shared → Prop} (X : K.In s.heap) (I : InstAt s.heap x ox C od) (k : ExcK K C)
    (h : Q (some (.ref C)) { s with toks := s.toks + 1 }) : wpAny (model prog w) A (getAttr? (.ref x) "__class__") Q E s := by
  obtain ⟨hh, g, d, t, os⟩ := s
  have L0 := I.type (M := model prog w)
  have L1 := looks_findIn (M := model prog w) X k.ga
  have L2 := looks_findIn (M := model prog w) X k.gt
  have cdx : ∃ cd, clsIn K C = some cd := Option.isSome_iff_exists.mp k.is
  have hf : findObj K C od "__class__" = some (.bind (.builtin "getset_descriptor.__get__") (.builtin "object.__class__")) := by
    obtain ⟨cd, hc⟩ := cdx
    unfold findObj
    rw [hc, Option.bind_some, k.cl, Option.bind_some]
    simp [k.gs, k.tk]
  have L3 := looks_find (M := model prog w) X I hf
  have hbind := PySem.F.excAttr_ValueError.ga.bind (.ref x)
  unfold getAttr? getAttrBy? getAttrBy
  refine wpAny_bind (wpAny_mkText (wpAny_bind (wpAny_attempt (wpAny_holding (wpAny_bind (L0.at (wpAny_bind (L1.at ?_))))))))
  dsimp only
  rw [if_neg (by intro z; rw [Bool.and_eq_true] at z; exact absurd z.2 (by decide +kernel))]
  unfold getAttrByItsOwn hookBefore
  rw [if_pos (show onTheHeap (Value.ref C) = true from rfl)]
  refine wpAny_bind (L2.at (wpAny_bind (wpAny_attempt (wpAny_holding ?_))))
  unfold callGetattribute boundAndCalled
  rw [if_neg (by decide)]
  refine wpAny_bind (wpAny_of_eq hbind ?_)
  refine wpAny_call (codeAny_call_builtin PySem.F.excAttr_ValueError.ga.plain F.entry_bexc_ga (check_ga_exc (s := ⟨hh, g, d, t + 1, os⟩) X I k ?_))
  refine wpAny_bind (wpAny_pure (wpAny_bind (wpAny_pure (wpAny_bind (L0.at (wpAny_bind (L3.at ?_)))))))
  show wpAny _ _ (Builtin.ObjectAttr.bindTo _ _ _ _) _ _ _
  show wpAny _ _ (holding [Value.builtin "object.__class__"] (call (Value.builtin "getset_descriptor.__get__") [Value.builtin "object.__class__", Value.ref x, Value.ref C]) >>= fun v => ret v) _ _ _
  refine wpAny_bind (wpAny_holding (wpAny_call (class_get (s := ⟨hh, g, d, t + 1, os⟩) (ox := ox) (od := od) X I k.mo ?_)))
  refine wpAny_pure ?_
  exact handed_on rfl (wpAny_pure h)
/-- an error that lies there, with its class and its dict -/
def ExcIs (d : Option Addr) (e C : Addr) (h : Heap) : Prop := ∃ o vs, h.get? e = some o ∧ o.cls = .ref C ∧ o.dict = d ∧ o.data = .fields vs
/-- one that has none -/
abbrev ExcAt (e C : Addr) : Heap → Prop := ExcIs none e C
theorem ExcAt.inst {e C : Addr} {h : Heap} (p : ExcAt e C h) : ∃ o, InstAt h e o C none := by
  obtain ⟨o, vs, h1, h2, h3, h4⟩ := p
  exact ⟨o, h1, h2, by unfold notCls; rw [h4], by rw [h3]; trivial⟩
theorem ExcIs.instD {e C d : Addr} {h : Heap} {od : Obj} (p : ExcIs (some d) e C h) (q : h.get? d = some od) : ∃ o, InstAt h e o C (some od) := by
  obtain ⟨o, vs, h1, h2, h3, h4⟩ := p
  exact ⟨o, h1, h2, by unfold notCls; rw [h4], by rw [h3]; exact q⟩
theorem kitx_inst {e : Addr} {Φ : Heap → Prop} (hI : ∀ h, Φ h → ∃ o od, InstAt h e o C od) (k : ExcK K C) : KitX K (.ref e) (.ref C) Φ where
  ty := fun M h _ p => by
    obtain ⟨o, od, I⟩ := hI h p
    exact I.type
  it := fun M h X _ => by
    obtain ⟨cd, hc⟩ := Option.isSome_iff_exists.mp k.is
    unfold clsIn at hc
    split at hc
    · rename_i c' d' cd' sl' ho
      intro A' Q' E' s' kk q
      unfold isType loadHead
      exact wpAny_bind (wpAny_loadPart (kk _ _ (X _ _ ho)) (wpAny_pure q))
    · cases hc
  ne := fun h tp dd its n sl X htp => by
    obtain ⟨cd, hc⟩ := Option.isSome_iff_exists.mp k.is
    refine Bool.eq_false_iff.mpr fun q => ?_
    have e : C = tp := Value.ref.inj (beq_iff_eq.mp q)
    subst e
    unfold clsIn at hc
    split at hc
    · rename_i c' d' cd' sl' ho
      have z := (X _ _ ho).symm.trans htp
      cases z
    · cases hc
  ca := fun X p q => by
    obtain ⟨o, od, I⟩ := hI _ p
    exact exc_class X I k q
end
end PySem.W

/-! ## errors: how one lies in the heap, how it leaves a frame, how it is noted -/
namespace L2
open PySem PySem.Spec PyProof.Rows

/-- an error with its class, its own dict, its newest record and that record's mark -/
def ErrO (h : Heap) (e : Addr) (c : Value) (d : Option Addr) (T : Addr) (fl : Value) : Prop :=
  ∃ oe vs oT ts, h.get? e = some oe ∧ oe.cls = c ∧ oe.dict = d ∧ oe.data = .fields vs ∧ vs[1]? = some (.ref T) ∧ T ≠ e ∧ h.get? T = some oT ∧ oT.data = .fields ts ∧ ts[3]? = some fl
/-- an error just made: no record yet -/
def ErrN (h : Heap) (e : Addr) (c : Value) (d : Option Addr) : Prop := ∃ oe vs, h.get? e = some oe ∧ oe.cls = c ∧ oe.dict = d ∧ oe.data = .fields vs ∧ vs[1]? = some Value.none
/-- of the frames the slots may change, of ex anything -/
def Moved (fs ex : List Addr) (h h' : Heap) : Prop :=
  (∀ b o, b ∉ fs → b ∉ ex → h.get? b = some o → h'.get? b = some o) ∧ ∀ b o, b ∈ fs → h.get? b = some o → ∃ sl, h'.get? b = some { o with slots := sl }
theorem Moved.any {fs ex : List Addr} {h h' : Heap} (m : Moved fs ex h h') {b : Addr} {o : Obj} (e : h.get? b = some o) (hx : b ∉ ex) : ∃ sl, h'.get? b = some { o with slots := sl } := by
  by_cases hb : b ∈ fs
  · exact m.2 b o hb e
  · exact ⟨o.slots, m.1 b o hb hx e⟩
theorem Moved.then {fs ex : List Addr} {h h1 h2 : Heap} {T : Addr} (a : Moved fs ex h h1) (b : Moved [] [T] h1 h2) (hT : h.get? T = none) (hf : ∀ c ∈ fs, c ∉ ex) : Moved fs ex h h2 := by
  have ne : ∀ c o, h.get? c = some o → c ∉ [T] := fun c o e z => by
    rw [List.mem_singleton.mp z, hT] at e
    cases e
  refine ⟨fun c o h1 h2 e => b.1 c o (by simp) (ne c o e) (a.1 c o h1 h2 e), fun c o hc e => ?_⟩
  obtain ⟨sl, q⟩ := a.2 c o hc e
  exact ⟨sl, b.1 c _ (by simp) (ne c o e) q⟩

section
variable {M : Model} {A : Around} {E : Value → Shared → Prop} {s : Shared} {base : Heap} {env : Env} {outer : List Env} {L e T : Addr} {c : Value} {d : Option Addr}
theorem fr_fields {h : Heap} {l : List Env} {ob : Obj} {vs : Array Value} (hl : h.FunFrames base l) (he : h.get? e = some ob) (hd : ob.data = .fields vs) : e ∉ frs l := fun z => by
  obtain ⟨_, o, ho, q⟩ := hl.mem z
  rw [ho] at he
  cases he
  exact q vs hd
theorem entry_ok {oe : Obj} {vs : Array Value} {head : Value} {hadNext : Bool} {Q : Unit → Shared → Prop} (hfr : A.frames = some (env :: outer)) (hl : s.heap.FunFrames base (env :: outer)) (hf : env.frame = some L)
    (he : s.heap.get? e = some oe) (hd : oe.data = .fields vs) (hz : 1 < vs.size)
    (h : ∀ h' T, ErrO h' e oe.cls oe.dict T (rawInt L) → Moved (frs (env :: outer)) [e] s.heap h' → s.heap.get? T = none → Q () { s with heap := h' }) :
    wpAny M A (do let a ← frameOf env; let pl ← entryPlaceOf L hadNext; let b ← EntryCells.newEntry head a .none (rawInt L) .none pl; setField (.ref e) 1 b) Q E s := by
  have hn := fr_fields hl he hd
  refine wpAny_bind (wpAny_frameOf_fun hfr hl hf fun g hg => wpAny_bind (wpAny_entryPlaceOf fun pl hpl => ?_))
  have e1 : g.get? e = some oe := (hg.2.1 e hn).trans he
  unfold EntryCells.newEntry PySem.newFields; refine wpAny_bind (wpAny_newObj_type ?_ (hpl.sizeOk5 _ _ _ _ _))
  generalize harr : ([head, Value.ref L, .none, rawInt L, .none] ++ (if pl.isEmpty then List.replicate 6 Value.none else pl)).toArray = arr
  have h3 : arr[3]? = some (rawInt L) := by rw [← harr]; simp
  have e2 := Heap.get?_push_of_some (h := g) ⟨Value.type "traceback", none, Data.fields arr, #[]⟩ e1
  have hTe : g.objs.size ≠ e := Nat.ne_of_gt (Heap.lt_size e1)
  have dat := Obj.data_mapFields hd (·.setIfInBounds 1 (Value.ref g.objs.size))
  refine wpAny_setField e2 hd hz (h _ g.objs.size ⟨_, _, ⟨Value.type "traceback", none, Data.fields arr, #[]⟩, arr, Heap.get?_update_self _ e2 (Obj.isFreed_of_fields dat), Obj.cls_mapFields _ _, ?_, dat, by simp [hz], hTe, ?_, rfl, h3⟩ ⟨fun b o hb hx q => ?_, fun b o hb q => ?_⟩ ?_)
  · obtain ⟨oc, od, oda, osl⟩ := oe
    cases hd
    rfl
  · exact (Heap.get?_update_other _ _ (Ne.symm hTe)).trans (Heap.get?_push_size g rfl)
  · have nb : e ≠ b := fun z => hx (by simp [z])
    exact (Heap.get?_update_other _ _ nb).trans (Heap.get?_push_of_some _ ((hg.2.1 b hb).trans q))
  · obtain ⟨sl, r⟩ := hg.2.2 b o q
    have nb : e ≠ b := fun z => hn (z ▸ hb)
    exact ⟨sl, (Heap.get?_update_other _ _ nb).trans (Heap.get?_push_of_some _ r)⟩
  · cases q : s.heap.get? g.objs.size with
    | none => rfl
    | some o =>
      have z := Heap.lt_size q
      rw [← hg.1] at z
      exact absurd z (Nat.lt_irrefl _)
/-- the record of this frame, of an error just made -/
theorem note_new {Q : Unit → Shared → Prop} (hfr : A.frames = some (env :: outer)) (hl : s.heap.FunFrames base (env :: outer)) (hf : env.frame = some L) (hE : ErrN s.heap e c d)
    (h : ∀ h' T, ErrO h' e c d T (rawInt L) → Moved (frs (env :: outer)) [e] s.heap h' → s.heap.get? T = none → Q () { s with heap := h' }) : wpAny M A (noteFrame (.ref e) env) Q E s := by
  obtain ⟨oe, vs, he, rfl, rfl, hd, h1⟩ := hE
  unfold noteFrame; simp only [hf]; refine wpAny_bind (wpAny_field he hd h1 ?_)
  rw [if_neg (by decide)]; exact entry_ok hfr hl hf he hd (Array.getElem?_eq_some_iff.mp h1).1 h
/-- the record of this frame, of an error that came from below -/
theorem note_next {Q : Unit → Shared → Prop} (hfr : A.frames = some (env :: outer)) (hl : s.heap.FunFrames base (env :: outer)) (hf : env.frame = some L) (hE : ErrO s.heap e c d T .none)
    (h : ∀ h' T', ErrO h' e c d T' (rawInt L) → Moved (frs (env :: outer)) [e, T] s.heap h' → s.heap.get? T' = none → Q () { s with heap := h' }) : wpAny M A (noteFrame (.ref e) env) Q E s := by
  obtain ⟨oe, vs, oT, ts, he, rfl, rfl, hd, h1, hTe, hT, hdT, h3⟩ := hE
  have nT := fr_fields hl hT hdT
  unfold noteFrame; simp only [hf]; refine wpAny_bind (wpAny_field he hd h1 ?_)
  rw [if_pos (show (Value.ref T != Value.none) = true by simp)]; refine wpAny_bind (wpAny_field hT hdT h3 ?_)
  rw [if_neg (show ¬ (Value.none == rawInt L) = true by simp [rawInt])]; refine wpAny_bind (wpAny_setField hT hdT (Array.getElem?_eq_some_iff.mp h3).1 ?_)
  have oth : ∀ b, b ≠ T → (s.heap.update T (Obj.mapFields (·.setIfInBounds 3 Value.none))).get? b = s.heap.get? b := fun b hb => Heap.get?_update_other _ _ fun z => hb z.symm
  have hl2 : (s.heap.update T (Obj.mapFields (·.setIfInBounds 3 Value.none))).FunFrames base (env :: outer) := hl.of_keeps fun b o hb q => ⟨o, (oth b fun z => by subst z; rw [hT] at hb; cases hb; exact q ts hdT).trans hb, rfl⟩
  refine entry_ok (s := { s with heap := s.heap.update T (Obj.mapFields (·.setIfInBounds 3 Value.none)) }) hfr hl2 hf ((oth e fun z => hTe z.symm).trans he) hd (Array.getElem?_eq_some_iff.mp h1).1 fun h' T' x y z => h h' T' x ⟨fun b o hb hx q => ?_, fun b o hb q => ?_⟩ ?_
  · have nb : b ≠ T := fun w => hx (by simp [w])
    exact y.1 b o hb (fun w => hx (by simp [List.mem_singleton.mp w])) ((oth b nb).trans q)
  · have nb : b ≠ T := fun w => nT (w ▸ hb)
    exact y.2 b o hb ((oth b nb).trans q)
  · by_cases w : T' = T
    · subst w
      have q := Heap.get?_update_self (Obj.mapFields (·.setIfInBounds 3 Value.none)) hT (Obj.isFreed_of_fields (Obj.data_mapFields hdT _))
      have z' : (s.heap.update T' (Obj.mapFields (·.setIfInBounds 3 Value.none))).get? T' = none := z
      rw [z'] at q
      cases q
    · exact (oth T' w).symm.trans z
/-- its mark goes -/
theorem flight_ok {fl : Value} {Q : Unit → Shared → Prop} (hE : ErrO s.heap e c d T fl) (h : ∀ h', ErrO h' e c d T .none → Moved [] [T] s.heap h' → Q () { s with heap := h' }) : wpAny M A (setFlight (.ref e) none) Q E s := by
  obtain ⟨oe, vs, oT, ts, he, hc, hdi, hd, h1, hTe, hT, hdT, h3⟩ := hE
  have hz : 3 < ts.size := (Array.getElem?_eq_some_iff.mp h3).1
  refine wpAny_setFlight_none he hd h1 hT hdT hz (h _ ⟨oe, vs, _, _, (Heap.get?_update_other _ _ hTe).trans he, hc, hdi, hd, h1, hTe, Heap.get?_update_self _ hT (Obj.isFreed_of_fields (Obj.data_mapFields hdT _)), Obj.data_mapFields hdT _, by simp [hz]⟩ ⟨fun b o _ hb q => ?_, fun b _ hb => absurd hb (by simp)⟩)
  have nb : T ≠ b := fun z => hb (by simp [z])
  exact (Heap.get?_update_other _ _ nb).trans q
theorem leave_new {Q : Unit → Shared → Prop} (hfr : A.frames = some (env :: outer)) (hl : s.heap.FunFrames base (env :: outer)) (hf : env.frame = some L) (hE : ErrN s.heap e c d)
    (h : ∀ h' T, ErrO h' e c d T .none → Moved (frs (env :: outer)) [e] s.heap h' → s.heap.get? T = none → Q () { s with heap := h' }) : wpAny M A (leaving env (.ref e)) Q E s := by
  have ne : ∀ b ∈ frs (env :: outer), b ∉ [e] := fun b hb z => by
    obtain ⟨oe, vs, he, _, _, hd, _⟩ := hE
    exact fr_fields hl he hd (List.mem_singleton.mp z ▸ hb)
  unfold leaving; refine wpAny_bind (note_new hfr hl hf hE fun h1 T x y z => flight_ok (s := { s with heap := h1 }) x fun h2 u v => h h2 T u (y.then v z ne) z)
theorem leave_next {Q : Unit → Shared → Prop} (hfr : A.frames = some (env :: outer)) (hl : s.heap.FunFrames base (env :: outer)) (hf : env.frame = some L) (hE : ErrO s.heap e c d T .none)
    (h : ∀ h' T', ErrO h' e c d T' .none → Moved (frs (env :: outer)) [e, T] s.heap h' → s.heap.get? T' = none → Q () { s with heap := h' }) : wpAny M A (leaving env (.ref e)) Q E s := by
  have ne : ∀ b ∈ frs (env :: outer), b ∉ [e, T] := fun b hb z => by
    obtain ⟨oe, vs, oT, ts, he, _, _, hd, _, _, hT, hdT, _⟩ := hE
    rcases List.mem_cons.mp z with z | z
    · exact fr_fields hl he hd (z ▸ hb)
    · exact fr_fields hl hT hdT (List.mem_singleton.mp z ▸ hb)
  unfold leaving; refine wpAny_bind (note_next hfr hl hf hE fun h1 T' x y z => flight_ok (s := { s with heap := h1 }) x fun h2 u v => h h2 T' u (y.then v z ne) z)
end

/-! ### what is tracked stays -/
section
variable {P : Program} {w : World}
theorem ObjOk.get {H : Hp} {h : Heap} {a : Addr} {o : HO} (x : ObjOk P w H h a o) : ∃ ob, h.get? a = some ob := by
  cases o with
  | lst xs => obtain ⟨_, _, _, _, e⟩ := x; exact ⟨_, e⟩
  | tup xs => obtain ⟨_, _, _, _, e, _⟩ := x; exact ⟨_, e⟩
  | dK kvs => obtain ⟨_, _, _, _, o, _, _, e, _⟩ := x; exact ⟨_, e⟩
  | dT kvs => obtain ⟨_, _, _, _, o, _, _, e, _⟩ := x; exact ⟨_, e⟩
  | set S n => obtain ⟨o, _, _, _, e, _⟩ := x; exact ⟨_, e⟩
  | ins C dx fs => obtain ⟨_, _, _, e, _⟩ := x; exact ⟨_, e⟩
  | own y => exact x
  | xd fs => obtain ⟨_, ⟨_, _, _, e, _⟩, _⟩ := x; exact ⟨_, e⟩
  | rng lo hi => obtain ⟨_, _, _, e⟩ := x; exact ⟨_, e⟩
  | frz ob u => obtain ⟨e, _⟩ := x; exact ⟨_, e⟩
  | tbl ps => exact ⟨_, x⟩
  | met f y => exact ⟨_, x⟩
  | ext φ => obtain ⟨_, e, _⟩ := x; exact e
theorem HOk.gone {H : Hp} {h : Heap} {a : Addr} (x : HOk P w H h) (e : h.get? a = none) : H a = none := by
  cases q : H a with
  | none => rfl
  | some o =>
    obtain ⟨ob, r⟩ := (x a o q).get
    rw [e] at r
    cases r
theorem HOk.moved {H : Hp} {h h' : Heap} {fs ex : List Addr} (x : HOk P w H h) (m : Moved fs ex h h') (hf : ∀ b ∈ fs, H b = none) (hx : ∀ b ∈ ex, H b = none) : HOk P w H h' := fun a o e => by
  have nn : ∀ {b : Addr} {u : HO}, H b = some u → b ∉ fs ∧ b ∉ ex := fun {b u} q => ⟨fun z => (by rw [hf b z] at q; cases q), fun z => (by rw [hx b z] at q; cases q)⟩
  refine (x a o e).stay (fun b u hb q => ?_) (fun _ q => q) fun _ _ q => q
  rcases hb with rfl | hb
  · exact m.1 _ _ (nn e).1 (nn e).2 q
  · exact m.1 _ _ (nn hb).1 (nn hb).2 q
theorem Un.moved {fs0 ex0 fs ex : List Addr} {H H' : Hp} {g h h' : Heap} (u : Un fs0 ex0 H H' g h) (m : Moved fs ex h h') (hf : ∀ b ∈ fs, b ∈ fs0 ∨ g.get? b = none) (hx : ∀ b ∈ ex, g.get? b = none) : Un fs0 ex0 H H' g h' := by
  have nx : ∀ {b : Addr} {o : Obj}, g.get? b = some o → b ∉ ex := fun {b o} q z => by rw [hx b z] at q; cases q
  refine ⟨fun b o q n h1 h2 => ?_, fun b o q n h1 h2 => ?_, u.free, fun b o q h2 => ?_, u.tups, u.frzs, u.tbls⟩
  · refine m.1 b o (fun z => ?_) (nx q) (u.keep b o q n h1 h2)
    rcases hf b z with r | r
    · exact h1 r
    · rw [r] at q; cases q
  · obtain ⟨sl, e1⟩ := u.slot b o q n h1 h2
    obtain ⟨sl', e2⟩ := m.any e1 (nx q)
    exact ⟨sl', e2⟩
  · obtain ⟨o', e1⟩ := u.there b o q h2
    obtain ⟨sl, e2⟩ := m.any e1 (nx q)
    exact ⟨_, e2⟩
/-- the state of a body behind such a move -/
theorem Inv.moved {X : Cx} {pins : List (Addr × Obj)} {σ : St} {H : Hp} {s : Shared} {h' : Heap} {ex : List Addr} {t' : Nat} (I : Inv X pins σ H s) (m : Moved (frs X.stack) ex s.heap h')
    (hx : ∀ b ∈ ex, X.s₀.heap.get? b = none ∧ H b = none ∧ b ≠ X.env.locals ∧ (∀ x c, X.env.cells.lookup x = some c → c ≠ b) ∧ ∀ p ∈ X.pn ++ pins, p.1 ≠ b) : Inv X pins σ H { s with heap := h', toks := t' } := by
  have hs : ∀ b ∈ frs X.stack, b ∈ X.fs ∨ X.s₀.heap.get? b = none := fun b hb => by
    rcases List.mem_cons.mp (I.stkSub b hb) with r | r
    · exact .inr (by rw [r]; exact Heap.get?_none_of_le I.ok.above)
    · exact .inl r
  have cK : ∀ x c, X.env.cells.lookup x = some c → ∀ v, s.heap.IsCell c v → h'.IsCell c v := fun x c e v ⟨o, ho, hd⟩ => by
    obtain ⟨sl, q⟩ := m.any ho fun z => (hx c z).2.2.2.1 x c e rfl
    exact ⟨_, q, hd⟩
  refine ⟨I.ok, I.os, I.bare, I.base.moved m hs fun b hb => (hx b hb).1, ?_, fun x c e => ?_, I.free, I.freeC, fun p hp => ?_, I.hok.moved m I.stkFree fun b hb => (hx b hb).2.1, I.len⟩
  · obtain ⟨mm, ⟨o, es, ep, ho, r⟩, hl⟩ := I.loc
    obtain ⟨sl, q⟩ := m.any ho fun z => (hx _ z).2.2.1 rfl
    refine ⟨mm, ⟨_, es, ep, q, r⟩, fun i x v e1 e2 e3 => ?_⟩
    obtain ⟨u, ru, l⟩ := hl i x v e1 e2 e3
    refine ⟨u, ru, l.imp id fun ⟨k, c, e, z⟩ => ⟨k, c, e, cK x c e _ z⟩⟩
  · obtain ⟨v, z⟩ := I.cell x c e
    exact ⟨v, cK x c e v z⟩
  · obtain ⟨e, n, ne, nf, dd⟩ := I.pin p hp
    refine ⟨m.1 _ _ (fun z => ?_) (fun z => (hx _ z).2.2.2.2 p hp rfl) e, n, ne, nf, dd⟩
    exact (List.mem_cons.mp (I.stkSub _ z)).elim ne nf
end
end L2

/-! ## errors of the program's own classes: raised, passed on, caught -/
namespace L2
open PySem PySem.Spec PyProof.Rows

def baseVE : List Value := [.type "ValueError", .type "Exception", .type "BaseException", .type "object"]
/-- an error class of the program's own, as the top has made it -/
structure Err (K : PySem.W.Frag) (mg : Str → Option Value) (x : Str) (C : Addr) : Prop where
  bound : mg x = some (.ref C)
  ex : PySem.W.excIn K C baseVE "ValueError.__new__" = true
  kx : PySem.W.ExcK K C
theorem exc_obj {K : PySem.W.Frag} {h : Heap} {C : Addr} (X : K.In h) (q : PySem.W.excIn K C baseVE "ValueError.__new__" = true) :
    ∃ bm N nm qn bs hdct sn sub ab col dd k0 k1 k2 k3 k5 mN, h.get? C = some (excClassObj nm qn C N bs bm hdct sn sub ab col dd k0 k1 k2 k3 k5 "ValueError.__new__") ∧ h.Ns N mN ∧ mN "__init__" = none ∧ OwnTail h baseVE bm := by
  unfold PySem.W.excIn at q
  split at q
  · rename_i dd cd sl ho
    split at q
    · rename_i C' bm k0 k1 k2 k3 n k5 hm hs
      simp only [Bool.and_eq_true, beq_iff_eq, Bool.not_eq_true'] at q
      obtain ⟨⟨⟨⟨⟨rfl, rfl⟩, hdel⟩, ht⟩, hok⟩, hni⟩ := q
      obtain ⟨nm, bs, mro, ns, qn, hd, sn, sub, ab, col, del⟩ := cd
      dsimp only at hm hdel hok hni
      subst hm hdel
      have hsl : sl = #[k0, k1, k2, k3, some (.builtin "ValueError.__new__"), k5] := by
        obtain ⟨l⟩ := sl
        simp only at hs
        rw [hs]
      subst hsl
      exact ⟨bm, ns, nm, qn, bs, hd, sn, sub, ab, col, dd, k0, k1, k2, k3, k5, _, X _ _ ho, .of_isNs (PySem.W.isNs_of_in X hok), PySem.W.nsMap_none_of_in X hok hni, PySem.W.tail_of_in X ht⟩
    · cases q
  · cases q

/-- an error class that lies there -/
def IsExc (h : Heap) (C : Addr) : Prop := ∃ bm N nm qn bs hdct sn sub ab col dd k0 k1 k2 k3 k5, h.get? C = some (excClassObj nm qn C N bs bm hdct sn sub ab col dd k0 k1 k2 k3 k5 "ValueError.__new__") ∧ OwnTail h baseVE bm
theorem is_exc {K : PySem.W.Frag} {C : Addr} (q : PySem.W.excIn K C baseVE "ValueError.__new__" = true) (h : Heap) (X : K.In h) : IsExc h C := by
  obtain ⟨bm, N, nm, qn, bs, hdct, sn, sub, ab, col, dd, k0, k1, k2, k3, k5, mN, hC, _, _, T⟩ := exc_obj X q
  exact ⟨bm, N, nm, qn, bs, hdct, sn, sub, ab, col, dd, k0, k1, k2, k3, k5, hC, T⟩
/-- an error class of the program's own, whether or not it has an __init__ of its own -/
structure ErrB (K : PySem.W.Frag) (mg : Str → Option Value) (x : Str) (C : Addr) : Prop where
  bound : mg x = some (.ref C)
  ex : ∀ h, K.In h → IsExc h C
  kx : PySem.W.ExcK K C
theorem Err.b {K : PySem.W.Frag} {mg : Str → Option Value} {x : Str} {C : Addr} (T : Err K mg x C) : ErrB K mg x C := ⟨T.bound, is_exc T.ex, T.kx⟩
/-- how an error lies behind a call -/
def CX1 (P : Program) (w : World) : CXT := fun outer H s E e s' =>
  ∃ (ea T : Addr) (c : Value) (d : Option Addr) (H' : Hp), e = .ref ea ∧ s'.os = s.os ∧ AllBare s'.gens ∧ Un (frs outer) [] H H' s.heap s'.heap ∧ HOk P w H' s'.heap ∧ ErrO s'.heap ea c d T .none ∧ s.heap.get? ea = none ∧ s.heap.get? T = none ∧ H' ea = none ∧ H' T = none ∧ E c d H'

theorem Inv.none0 {X : Cx} {pins : List (Addr × Obj)} {σ : St} {H : Hp} {s : Shared} {b : Addr} (I : Inv X pins σ H s) (hx : b ∉ X.ex) (e : s.heap.get? b = none) : X.s₀.heap.get? b = none := by
  cases q : X.s₀.heap.get? b with
  | none => rfl
  | some o =>
    obtain ⟨o', r⟩ := I.base.there b o q hx
    rw [e] at r
    cases r

section
variable {P : Program} {w : World} {K : PySem.W.Frag} {mg : Str → Option Value} {base : Heap} {N : List Str} {qual : Str} {scope : Scope} {f : Addr} {cdv : Value} {A : Around} {outer : List Env} {s₀ : Shared} {H₀ : Hp} {E : XK}
/-- an error just made leaves a def's body -/
theorem xe_new {pins : List (Addr × Obj)} {σ : St} {H : Hp} {s : Shared} {e : Addr} {c : Value} {d : Option Addr} (I : Inv (cxOf (CX1 P w) P w K mg base N qual scope f cdv A outer s₀ H₀ E) pins σ H s) (he : ErrN s.heap e c d) (h0 : s₀.heap.get? e = none) (hH : H e = none) (hE : E c d H) :
    (cxOf (CX1 P w) P w K mg base N qual scope f cdv A outer s₀ H₀ E).xe (.ref e) s := by
  show wpAny _ _ (leaving _ (.ref e)) _ _ s
  refine leave_new I.ok.frames I.stack rfl he fun h' T eo mv hT => ?_
  refine ⟨e, T, c, d, H, rfl, I.os, I.bare, ?_, ?_, eo, h0, I.none0 (fun z => by cases z) hT, hH, I.hok.gone hT, hE⟩
  · refine Un.moved (show Un (frs outer) [] H₀ H s₀.heap s.heap from I.base) mv (fun b hb => ?_) fun b hb => ?_
    · rcases List.mem_cons.mp (show b ∈ s₀.heap.objs.size :: frs outer from hb) with z | z
      · exact .inr (by rw [z]; exact Heap.get?_none_of_le (Nat.le_refl _))
      · exact .inl z
    · rw [List.mem_singleton.mp hb]; exact h0
  · refine I.hok.moved mv I.stkFree fun b hb => ?_
    rw [List.mem_singleton.mp hb]; exact hH
/-- an error from below leaves a def's body -/
theorem xe_next {pins : List (Addr × Obj)} {σ : St} {H : Hp} {s : Shared} {E2 : XK} {e : Value} {s' : Shared} (hE : ∀ c d H', E2 c d H' → E c d H') (I : Inv (cxOf (CX1 P w) P w K mg base N qual scope f cdv A outer s₀ H₀ E) pins σ H s) (h : CX1 P w (cxOf (CX1 P w) P w K mg base N qual scope f cdv A outer s₀ H₀ E).stack H s E2 e s') :
    (cxOf (CX1 P w) P w K mg base N qual scope f cdv A outer s₀ H₀ E).xe e s' := by
  obtain ⟨ea, T, c, d, H', rfl, os, bare, un, hok, eo, n1, n2, m1, m2, q⟩ := h
  have I' := I.call' (ch := []) os un hok bare (fun b z => by cases z)
  show wpAny _ _ (leaving _ (.ref ea)) _ _ s'
  refine leave_next I'.ok.frames I'.stack rfl eo fun h' T' eo' mv hT => ?_
  have z1 := I.none0 (b := ea) (fun z => by cases z) n1
  have z2 := I.none0 (b := T) (fun z => by cases z) n2
  refine ⟨ea, T', c, d, H', rfl, I'.os, I'.bare, ?_, ?_, eo', z1, I'.none0 (fun z => by cases z) hT, m1, I'.hok.gone hT, hE _ _ _ q⟩
  · refine Un.moved (show Un (frs outer) [] H₀ H' s₀.heap s'.heap from I'.base) mv (fun b hb => ?_) fun b hb => ?_
    · rcases List.mem_cons.mp (show b ∈ s₀.heap.objs.size :: frs outer from hb) with z | z
      · exact .inr (by rw [z]; exact Heap.get?_none_of_le (Nat.le_refl _))
      · exact .inl z
    · have hb' : b = ea ∨ b = T := by simpa using hb
      rcases hb' with rfl | rfl
      · exact z1
      · exact z2
  · refine I'.hok.moved mv I'.stkFree fun b hb => ?_
    have hb' : b = ea ∨ b = T := by simpa using hb
    rcases hb' with rfl | rfl
    · exact m1
    · exact m2
end

/-! ### matching -/
theorem excMatches_own {M : Model} {A : Around} {E : Value → Shared → Prop} {nm q nm' q' : Str} {C N D N' : Addr} {bs bm bs' bm' : List Value} {hdct hdct' : Bool} {sn sn' : List Str} {sub sub' : List Value} {ab ab' : Bool} {col col' : Option Bool} {dd dd' : Option Addr}
    {k0 k1 k2 k3 k5 j0 j1 j2 j3 j5 : Option Value} {newId : String} {h : Heap} {g : Array GenState} {d : Drawn} {t : Nat} {os : OsState} {e : Addr} {oe : Obj} {Q : Bool → Shared → Prop}
    (hC : h.get? C = some (excClassObj nm q C N bs bm hdct sn sub ab col dd k0 k1 k2 k3 k5 newId)) (hD : h.get? D = some (excClassObj nm' q' D N' bs' bm' hdct' sn' sub' ab' col' dd' j0 j1 j2 j3 j5 newId)) (he : h.get? e = some oe) (hcls : oe.cls = .ref C)
    (hbase : bm'.contains (.type "BaseException") = true) (hc : (Value.ref C :: bm).contains (.ref D) = true)
    (hq : Q true ⟨h, g, d, t, os⟩) : wpAny M A (excMatches (.ref e) (.ref D)) Q E ⟨h, g, d, t, os⟩ := by
  have hcB : (Value.ref D :: bm').contains (.type "BaseException") = true := by rw [List.contains_cons, hbase, Bool.or_true]
  have f := tc_notTuple
  unfold excMatches
  repeat (first | (with_reducible refine wpAny_loadPart_at he ?_; rw [hcls]) | with_reducible refine wpAny_loadPart_at hD ?_ | (with_reducible refine wpAny_isSubtype_exc hD ?_; rw [hcB]) | (with_reducible refine wpAny_isSubtype_exc hC ?_; rw [hc]) | wp_step)
  exact hq
/-- the class at C is under the one at D -/
structure Under (K : PySem.W.Frag) (C D : Addr) : Prop where
  ex : ∀ h, K.In h → IsExc h C
  kx : PySem.W.ExcK K C
  sub : PySem.W.mroIn K C (.ref D) = some true
theorem mro_of {K : PySem.W.Frag} {h : Heap} {C D : Addr} {nm q : Str} {N : Addr} {bs bm : List Value} {hdct : Bool} {sn : List Str} {sub : List Value} {ab : Bool} {col : Option Bool} {dd : Option Addr} {k0 k1 k2 k3 k5 : Option Value} {newId : String}
    (X : K.In h) (hC : h.get? C = some (excClassObj nm q C N bs bm hdct sn sub ab col dd k0 k1 k2 k3 k5 newId)) (e : PySem.W.mroIn K C (.ref D) = some true) : (Value.ref C :: bm).contains (.ref D) = true := by
  unfold PySem.W.mroIn PySem.W.clsIn at e
  split at e
  · rename_i c' d' cd' sl' ho
    have z := X _ _ ho
    rw [hC] at z
    unfold excClassObj at z
    injection z with z
    injection z with z1 z2 z3 z4
    injection z3 with z3
    subst z3
    simp only [Option.bind_some] at e
    split at e
    · cases e
    · exact Option.some.inj e
  · cases e
theorem match_ok {K : PySem.W.Frag} {mg : Str → Option Value} {M : Model} {A : Around} {E : Value → Shared → Prop} {s : Shared} {e C D : Addr} {x : Str} {oe : Obj} {Q : Bool → Shared → Prop} (X : K.In s.heap) (u : Under K C D) (T : ErrB K mg x D) (he : s.heap.get? e = some oe) (hcls : oe.cls = .ref C) (hq : Q true s) :
    wpAny M A (excMatches (.ref e) (.ref D)) Q E s := by
  obtain ⟨h, g, d, t, os⟩ := s
  obtain ⟨bm, N, nm, qn, bs, hdct, sn, sub, ab, col, dd, k0, k1, k2, k3, k5, hC, _⟩ := u.ex _ X
  obtain ⟨bm', N', nm', qn', bs', hdct', sn', sub', ab', col', dd', j0, j1, j2, j3, j5, hD, TL⟩ := T.ex _ X
  exact excMatches_own hC hD he hcls (TL.hasType (X := "BaseException") (b := true) (by decide)) (mro_of X hC u.sub) hq

/-! ### within an except suite -/
abbrev Cx.caught (X : Cx) (e : Addr) : Cx := { X with A := X.A.mark (some (.ref e)), calm := false, xe := fun _ _ => False }
section
variable {X : Cx} {pins : List (Addr × Obj)} {σ : St} {H : Hp} {s : Shared} {e : Addr}
theorem Inv.caught (I : Inv X pins σ H s) (e : Addr) : Inv (X.caught e) pins σ H s :=
  ⟨⟨I.ok.mod, I.ok.kind, I.ok.glob, I.ok.blt, I.ok.above, I.ok.inj, I.ok.has, I.ok.cab, (fun z => by cases z), I.ok.frames, I.ok.stk, I.ok.exf, I.ok.bs, I.ok.bsz, I.ok.noex, I.ok.exfs, I.ok.funs, I.ok.frf⟩, I.os, I.bare, I.base, I.loc, I.cell, I.free, I.freeC, I.pin, I.hok, I.len⟩
theorem Inv.uncaught (ok : X.Ok) (I : Inv (X.caught e) pins σ H s) : Inv X pins σ H s := ⟨ok, I.os, I.bare, I.base, I.loc, I.cell, I.free, I.freeC, I.pin, I.hok, I.len⟩
/-- an object that lies there is tracked from now on -/
theorem Inv.track {o : HO} (I : Inv X pins σ H s) (hn : H e = none) (h0 : X.s₀.heap.get? e = none) (hl : e ≠ X.env.locals) (hc : ∀ x c, X.env.cells.lookup x = some c → c ≠ e) (hp : ∀ p ∈ X.pn ++ pins, p.1 ≠ e) (ob : ObjOk X.prog X.w (upd H e o) s.heap e o) : Inv X pins σ (upd H e o) s := by
  have ne : ∀ b u, X.s₀.heap.get? b = some u → b ≠ e := fun b u q z => by rw [z, h0] at q; cases q
  refine ⟨I.ok, I.os, I.bare, ⟨I.base.keep, I.base.slot, fun b u q n hx => ?_, I.base.there, fun b xs q => ?_, fun b u xs q => ?_, fun b ps q => ?_⟩, I.loc, I.cell, ?_, fun x c q => ?_, fun p hpp => ?_, fun b u q => ?_, I.len⟩
  · rw [upd_ne (ne b u q)]; exact I.base.free b u q n hx
  · have := I.base.tups b xs q
    rw [upd_ne (ne_of_none this hn)]; exact this
  · have := I.base.frzs b u xs q
    rw [upd_ne (ne_of_none this hn)]; exact this
  · obtain ⟨more, this⟩ := I.base.tbls b ps q
    exact ⟨more, by rw [upd_ne (ne_of_none this hn)]; exact this⟩
  · rw [upd_ne (Ne.symm hl)]; exact I.free
  · rw [upd_ne (hc x c q)]; exact I.freeC x c q
  · obtain ⟨a, b, c, d, f⟩ := I.pin p hpp
    exact ⟨a, by rw [upd_ne (hp p hpp)]; exact b, c, d, f⟩
  · by_cases hb : b = e
    · subst hb; rw [upd_same] at q; cases q; exact ob
    · rw [upd_ne hb] at q
      exact (I.hok b u q).stay (fun _ _ _ z => z) (fun c z => by rw [upd_ne (ne_of_none z hn)]; exact z) fun c xs z => by rw [upd_ne (ne_of_none z hn)]; exact z
end
end L2

namespace L2
open PySem PySem.Spec PyProof.Rows
/-! ### try: f(..) except D as n: suite -/
def tTry (K : PySem.W.Frag) (D : Addr) (i : Nat) (sp : Sp) (ta : TA) (th : TS) : TS := fun Ds σ H => ta σ H fun vs H1 => sp vs H1 (fun _ H2 => Ds.nx σ H2) (fun c d H2 => ∃ C, c = .ref C ∧ Under K C D ∧
  ∀ ea, H2 ea = none → th { nx := fun σ2 H3 => Ds.nx (σ2.set i none) H3, rt := Ds.rt, bk := fun σ2 H3 => Ds.bk (σ2.set i none) H3, ct := fun σ2 H3 => Ds.ct (σ2.set i none) H3 } (σ.set i (some (.ref ea))) (upd H2 ea (.ext (PySem.W.ExcIs d ea C))))
section
variable {X : Cx} {k : Nat} {f D : Addr} {fd : FuncData} {ps : List Str} {sp : Sp} {fx xd n : Str} {i : Nat} {p cpos epos np hpos pos : Pos} {e : Expr} {es : List Expr} {ta : TA} {b₀ : Stmt} {suite : List Stmt} {th : TS}
theorem set_weak {σ : St} {i : Nat} : ∀ (j : Nat) (v : V), (σ.set i none)[j]? = some (some v) → σ[j]? = some (some v) := fun j v h => by
  by_cases hj : i = j
  · subst hj
    by_cases hl : i < σ.length
    · rw [List.getElem?_set_self hl] at h
      cases h
    · rw [List.getElem?_eq_none (by rw [List.length_set]; omega)] at h
      cases h
  · rw [List.getElem?_set_ne hj] at h
    exact h
/-- behind the suite its name is gone -/
theorem gone_ok {M : Model} {A : Around} {E : Value → Shared → Prop} {pins : List (Addr × Obj)} {σ : St} {H : Hp} {s : Shared} {Q : Unit → Shared → Prop} (I : Inv X pins σ H s) (hi : X.N[i]? = some n) (hN : X.N.Nodup) (hl : X.env.scope.names.lookup n = some .local)
    (h : ∀ s', Inv X pins (σ.set i none) H s' → Q () s') : wpAny M A (do bindName X.env n .none; unbindBehindTheSuite X.env n hpos) Q E s := by
  obtain ⟨m, hn, hlk⟩ := id I.loc
  have hcls : (X.env.scope.kind == .class || (X.env.scope.kind == .module && X.env.locals != X.env.globals)) = false := by rw [I.ok.kind]; rfl
  refine PySem.wpAny_nameGoes_keeps hl hn hcls fun h' v hn' hs => ?_
  obtain ⟨oL, _, _, hoL, _⟩ := id hn
  have neL : ∀ b o, X.s₀.heap.get? b = some o → b ≠ X.env.locals := fun b o e => Nat.ne_of_lt (Nat.lt_of_lt_of_le (Heap.lt_size e) I.ok.above)
  refine h _ ⟨I.ok, I.os, I.bare, ⟨fun b o e q hb hx => (hs.2 b (neL b o e)).trans (I.base.keep b o e q hb hx), fun b o e q hb hx => ?_, I.base.free, fun b o e hx => ?_, I.base.tups, I.base.frzs, I.base.tbls⟩, ⟨_, hn', fun j y v' e1 e2 e3 => ?_⟩, fun y c e => ?_, I.free, I.freeC, fun q hq => ?_, fun b ob e => ?_, by rw [List.length_set]; exact I.len⟩
  · obtain ⟨sl, e1⟩ := I.base.slot b o e q hb hx
    exact ⟨sl, (hs.2 b (neL b o e)).trans e1⟩
  · obtain ⟨o', e1⟩ := I.base.there b o e hx
    exact ⟨o', (hs.2 b (neL b o e)).trans e1⟩
  · have e2' := set_weak j v' e2
    obtain ⟨u, ru, lk⟩ := hlk j y v' e1 e2' e3
    have hjy : y ≠ n := fun z => by
      subst z
      have hij : i = j := by
        have h1 := (List.getElem?_eq_some_iff.mp hi).1
        have h2 := (List.getElem?_eq_some_iff.mp e1).1
        rw [List.getElem?_eq_getElem h1] at hi
        rw [List.getElem?_eq_getElem h2] at e1
        exact nodup_inj hN h1 h2 ((Option.some.inj hi).trans (Option.some.inj e1).symm)
      subst hij
      have hl' : i < σ.length := (List.getElem?_eq_some_iff.mp e2').1
      rw [List.getElem?_set_self hl'] at e2
      cases e2
    refine ⟨u, ru, ?_⟩
    rcases lk with ⟨a, b⟩ | ⟨a, c, b, d⟩
    · exact .inl ⟨a, by show (if y = n then v else m y) = some u; rw [if_neg hjy]; exact b⟩
    · refine .inr ⟨a, c, b, ?_⟩
      obtain ⟨o, ho, hd⟩ := d
      exact ⟨o, (hs.2 c (I.cne y c b)).trans ho, hd⟩
  · obtain ⟨v, o, ho, hd⟩ := I.cell y c e
    exact ⟨v, o, (hs.2 c (I.cne y c e)).trans ho, hd⟩
  · obtain ⟨a, b, c, d, g⟩ := I.pin q hq
    exact ⟨(hs.2 _ c).trans a, b, c, d, g⟩
  · refine (I.hok b ob e).stay (fun c w' hc q => (hs.2 c ?_).trans q) (fun _ q => q) fun _ _ q => q
    rintro rfl
    rcases hc with rfl | hc
    · rw [I.free] at e; cases e
    · rw [I.free] at hc; cases hc

theorem Moved.wide {fs ex : List Addr} {h h' : Heap} (m : Moved [] ex h h') (hf : ∀ b ∈ fs, b ∉ ex) : Moved fs ex h h' :=
  ⟨fun b o _ hx e => m.1 b o (by simp) hx e, fun b o hb e => ⟨o.slots, m.1 b o (by simp) (hf b hb) e⟩⟩
/-- what is not there is nobody's -/
theorem Inv.out {pins : List (Addr × Obj)} {σ : St} {H : Hp} {s : Shared} {b : Addr} (I : Inv X pins σ H s) (hex : X.ex = []) (hb : s.heap.get? b = none) :
    X.s₀.heap.get? b = none ∧ H b = none ∧ b ≠ X.env.locals ∧ (∀ x c, X.env.cells.lookup x = some c → c ≠ b) ∧ ∀ p ∈ X.pn ++ pins, p.1 ≠ b := by
  refine ⟨I.none0 (by rw [hex]; simp) hb, I.hok.gone hb, fun z => ?_, fun x c q z => ?_, fun p hp z => ?_⟩
  · obtain ⟨m, ⟨o, es, ep, ho, _⟩, _⟩ := I.loc
    rw [z, ho] at hb; cases hb
  · obtain ⟨v, o, ho, _⟩ := I.cell x c q
    rw [z, hb] at ho; cases ho
  · have := (I.pin p hp).1
    rw [z, hb] at this; cases this
/-- a call under a wish about errors -/
theorem call_at {CX : CXT} {x : Str} {E2 : XK} {pins : List (Addr × Obj)} {σ : St} {H : Hp} {s : Shared} {Q : VK} (I : Inv X pins σ H s) (F : FnOk X.prog X.w X.K X.mg X.base CX k f fd ps sp) (hr : Room k X.A) (hg : Gl X x) (hm : X.mg x = some (.ref f)) (hk : PySem.W.keepIn X.K (.ref f) = true) (hb : Binds X.K fd ps [])
    (hx : ∀ (H : Hp) (s : Shared) (e : Value) (s' : Shared), Inv X pins σ H s → CX X.stack H s E2 e s' → X.xe e s')
    (ha : PA X (e :: es) ta) (h : ta σ H fun vs H1 => sp vs H1 Q E2) (hdb : (x == ("__debug__" : Str)) = false := by decide) (he : starEach (e :: es) X.env = (false, eval e X.env) :: starEach es X.env := by rfl) (hpl : (backTo pos (starEach es X.env)).any (·.1) = false := by rfl) :
    wpAny (model X.prog X.w) X.A (eval (.Call (.Name x p) (e :: es) [] pos) X.env) (EP X pins σ Q) X.xe s := by
  refine wpAny_Call_Name_kw (ld_glob I hg hm ?_ hdb)
  refine PySem.W.callWith_K (h₀ := X.base) I.ok.mod.kin hk (thn (ha pos pins s σ H _ I h) fun us s1 ⟨vs, H1, I1, r, q⟩ => ⟨I1.kIn, ?_⟩) he hpl
  have hl : us.length = ps.length := by rw [← r.length]; exact F.len _ _ _ _ q
  have hb' := hb s1 us I1.kIn (by rw [List.append_nil]; exact hl)
  rw [List.append_nil] at hb'
  refine wpAny_call (codeAny_mono (F.run X.A X.stack s1 H1 ⟨us, []⟩ us vs Q E2 hr I1.env0 hb' r q) fun r s' hq => ?_)
  cases r with
  | error e => exact hx H1 s1 e s' I1 hq
  | ok fl =>
    cases fl with
    | ret u => exact I1.after hq
    | next => exact False.elim hq
    | brk => exact False.elim hq
    | cont => exact False.elim hq
theorem ps_tryAs (hex : X.ex = []) (hst : X.stack = X.env :: X.outer) (hfr : X.env.frame = some X.env.locals) (F : FnOk X.prog X.w X.K X.mg X.base (CX1 X.prog X.w) k f fd ps sp) (hr : Room k X.A) (hg : Gl X fx) (hm : X.mg fx = some (.ref f)) (hk : PySem.W.keepIn X.K (.ref f) = true) (hb : Binds X.K fd ps [])
    (ha : ∀ Ex, PA (X.wish Ex) (e :: es) ta) (TD : ErrB X.K X.mg xd D) (hgd : Gl X xd) (hN : X.N.Nodup) (hi : X.N[i]? = some n) (hloc : X.env.scope.names.lookup n = some .local) (hs : ∀ ea, PSs (X.caught ea) (b₀ :: suite) th)
    (hdb : (fx == ("__debug__" : Str)) = false := by decide) (hdd : (xd == ("__debug__" : Str)) = false := by decide) (he : starEach (e :: es) X.env = (false, eval e X.env) :: starEach es X.env := by rfl) (hpl : (backTo cpos (starEach es X.env)).any (·.1) = false := by rfl) (hsw : swapsWith (.Call (.Name fx p) (e :: es) [] cpos) none epos.line X.env = pure false := by rfl) :
    PS X (.Try [.Expr (.Call (.Name fx p) (e :: es) [] cpos) epos] [.ExceptHandler (some (.Name xd np)) (some n) (b₀ :: suite) hpos] [] [] pos) (tTry X.K D i sp ta th) := by
  intro pins s σ H Ds I h
  refine wpAny_Try_except ?_
  have key : ∀ (e : Value) (s1 : Shared), (∃ (H1 : Hp) (s0 : Shared), Inv X pins σ H1 s0 ∧ CX1 X.prog X.w X.stack H1 s0 (fun c d H2 => ∃ C, c = .ref C ∧ Under X.K C D ∧ ∀ ea, H2 ea = none → th { nx := fun σ2 H3 => Ds.nx (σ2.set i none) H3, rt := Ds.rt, bk := fun σ2 H3 => Ds.bk (σ2.set i none) H3, ct := fun σ2 H3 => Ds.ct (σ2.set i none) H3 } (σ.set i (some (.ref ea))) (upd H2 ea (.ext (PySem.W.ExcIs d ea C)))) e s1) →
      wpAny (model X.prog X.w) X.A (noteFrame e X.env) (fun _ s₂ => wpAny (model X.prog X.w) X.A (setFlight e none) (fun _ s₃ => wpAny (model X.prog X.w) X.A (handleBy e X.env [.ExceptHandler (some (.Name xd np)) (some n) (b₀ :: suite) hpos]) (SP X pins Ds) X.xe s₃) X.xe s₂) X.xe s1 := by
    rintro e s1 ⟨H1, s0, I0, ea, T, c, d, H2, rfl, os, bare, un, hok, eo, n1, n2, m1, m2, C, rfl, und, hth⟩
    have I1 := I0.call' (ch := []) os un hok bare (fun b z => by cases z)
    obtain ⟨z1, _, z2, z3, z4⟩ := I0.out hex n1
    obtain ⟨y1, _, y2, y3, y4⟩ := I0.out hex n2
    refine note_next (by rw [I1.ok.frames, hst]) (by rw [← hst]; exact I1.stack) hfr eo fun h' T' eo' mv hT' => ?_
    rw [← hst] at mv
    have I2 : Inv X pins σ H2 { s1 with heap := h' } := I1.moved (t' := s1.toks) mv fun b hb => by
      have hb' : b = ea ∨ b = T := by simpa using hb
      rcases hb' with rfl | rfl
      · exact ⟨z1, m1, z2, z3, z4⟩
      · exact ⟨y1, m2, y2, y3, y4⟩
    have oT := I1.out hex hT'
    have fT : ∀ b ∈ frs X.stack, b ∉ [T'] := fun b hb q => by
      have q' := List.mem_singleton.mp q
      subst q'
      obtain ⟨_, o, ho, _⟩ := I1.stack.mem hb
      rw [hT'] at ho; cases ho
    refine flight_ok (s := { s1 with heap := h' }) eo' fun h2 eo2 mv2 => ?_
    have I3 : Inv X pins σ H2 { s1 with heap := h2 } := I2.moved (t' := s1.toks) (mv2.wide fT) fun b hb => by rw [List.mem_singleton.mp hb]; exact oT
    refine wpAny_handleBy_cons (codeAny_handlers_test ?_) (by intro q; cases q)
    refine ld_glob (X := X.caught ea) (I3.caught ea) hgd TD.bound ?_ hdd
    obtain ⟨oe, vs, oT2, ts, he2, hcls, hdct, hdat, _⟩ := id eo2
    refine match_ok (s := { s1 with heap := h2 }) I3.kIn und TD he2 hcls ?_
    refine codeAny_handlers_suite_as ?_
    refine flight_ok (s := { s1 with heap := h2 }) eo2 fun h3 eo3 mv3 => ?_
    have I4 : Inv X pins σ H2 { s1 with heap := h3 } := I3.moved (t' := s1.toks) (mv3.wide fT) fun b hb => by rw [List.mem_singleton.mp hb]; exact oT
    obtain ⟨oe3, vs3, _, _, he3, hcls3, hdct3, hdat3, _⟩ := id eo3
    have I5 : Inv X pins σ (upd H2 ea (.ext (PySem.W.ExcIs d ea C))) { s1 with heap := h3 } := I4.track m1 z1 z2 z3 z4 ⟨⟨oe3, vs3, he3, hcls3, hdct3, hdat3⟩, ⟨oe3, he3⟩, fun g1 g2 ⟨o, v, a, b, c, e⟩ q => ⟨o, v, q o a, b, c, e⟩⟩
    refine store_ok (X := X.caught ea) (I5.caught ea) hN hi (.inl hloc) (v := .ref ea) rfl (fun s4 I6 => ?_) (.inr hloc)
    refine wpAny_mono (hs ea pins s4 _ _ _ I6 (hth ea m1)) (fun fl s5 hq => ?_) fun _ _ z => False.elim z
    cases fl with
    | next =>
      obtain ⟨σ', H', I7, q⟩ := hq
      exact gone_ok (I7.uncaught I.ok) hi hN hloc fun s6 I8 => ⟨_, _, I8, q⟩
    | brk =>
      obtain ⟨σ', H', I7, q⟩ := hq
      exact gone_ok (I7.uncaught I.ok) hi hN hloc fun s6 I8 => ⟨_, _, I8, q⟩
    | cont =>
      obtain ⟨σ', H', I7, q⟩ := hq
      exact gone_ok (I7.uncaught I.ok) hi hN hloc fun s6 I8 => ⟨_, _, I8, q⟩
    | ret u =>
      obtain ⟨v, σ', H', I7, r, q⟩ := hq
      exact gone_ok (I7.uncaught I.ok) hi hN hloc fun s6 I8 => ⟨v, _, _, I8, r, q⟩
  refine wpAny_execs_cons (wpAny_Expr_any ?_ I.quiet hsw)
  refine wpAny_mono (call_at (X := X.wish fun e s1 => wpAny (model X.prog X.w) X.A (noteFrame e X.env) (fun _ s₂ => wpAny (model X.prog X.w) X.A (setFlight e none) (fun _ s₃ => wpAny (model X.prog X.w) X.A (handleBy e X.env [.ExceptHandler (some (.Name xd np)) (some n) (b₀ :: suite) hpos]) (SP X pins Ds) X.xe s₃) X.xe s₂) X.xe s1)
    (I.wish _) F hr hg hm hk hb (fun H1 s1 e s' I1 hc => key e s' ⟨H1, s1, I1.unwish, hc⟩) (ha _) h hdb he hpl) (fun v s1 hq => ?_) fun _ _ z => z
  obtain ⟨x, H1, I1, r1, q1⟩ := hq
  exact wpAny_execs_nil (wpAny_execs_nil ⟨σ, H1, I1.unwish, q1⟩)
end
end L2

/-! ## calls within an except suite; isinstance of a caught error -/
namespace L2
open PySem PySem.Spec PyProof.Rows
structure RoomH (k : Nat) (A : Around) : Prop where
  dp : A.depth + 3 * k + 5 < recursionLimit
  un : A.units + 16 * k + 200 < cLine
theorem Room.h {k : Nat} {A : Around} (r : Room k A) (e : Option Value) : RoomH k (A.mark e) := ⟨r.dp, r.un⟩
theorem RoomH.mono {j k : Nat} {A : Around} (r : RoomH k A) (h : j ≤ k) : RoomH j A := ⟨by have := r.dp; omega, by have := r.un; omega⟩
def cxH (P : Program) (w : World) (K : PySem.W.Frag) (mg : Str → Option Value) (base : Heap) (N : List Str) (qual : Str) (scope : Scope) (f : Addr) (cd : Value) (A : Around) (outer : List Env) (s : Shared) (H : Hp) : Cx :=
  { cxOf CX0 P w K mg base N qual scope f cd A outer s H E0 with calm := false, xe := fun _ _ => False }
/-- a def that raises nothing, called anywhere -/
structure FnOkH (P : Program) (w : World) (K : PySem.W.Frag) (mg : Str → Option Value) (base : Heap) (k : Nat) (f : Addr) (fd : FuncData) (ps : List Str) (sp : Sp) : Prop where
  len : ∀ vs H Q E, sp vs H Q E → vs.length = ps.length
  run : ∀ (A : Around) (outer : List Env) (s : Shared) (H : Hp) (args : Args) (us : List Value) (vs : List V) (Q : VK), RoomH k A → Env0 P w K mg base A outer s H → BindsTo s fd args (ps.zip us) → Vals vs us → sp vs H Q E0 →
    codeAny (model P w) A (.call (.ref f) args) (CR CX0 outer P w H s Q E0) s
theorem fn_ofH {P : Program} {w : World} {K : PySem.W.Frag} {mg : Str → Option Value} {base : Heap} {k : Nat} {f : Addr} {name qual : Str} {params : Arguments} {body : List Stmt} {scope : Scope} {dV kV doc pm cdv ct oc : Value} {an od : Option Addr}
    {osl : Array (Option Value)} {N ps : List Str} {sp : Sp} (lk : K.lookup f = some ⟨oc, od, .func (PySem.W.fnOf name qual params body scope dV kV doc pm an cdv ct), osl⟩) (hcd : PySem.W.codeIn K cdv qual = true) (S : FnScope N ps scope)
    (len : ∀ vs H Q E, sp vs H Q E → vs.length = ps.length)
    (hbody : ∀ (A : Around) (outer : List Env) (s : Shared) (H : Hp) (vs : List V) (Q : VK), RoomH k (A.deeper (envOfC qual scope s.heap.objs.size f cdv)) → sp vs H Q E0 →
      ∃ t, PSs (cxH P w K mg base N qual scope f cdv A outer s H) body t ∧ t { nx := fun _ H' => Q .non H', rt := Q } (start N vs) H) :
    FnOkH P w K mg base (k + 1) f (PySem.W.fnOf name qual params body scope dV kV doc pm an cdv ct) ps sp := by
  refine ⟨len, fun A outer s H args us vs Q hr e0 hb r hsp => ?_⟩
  have hl := len _ _ _ _ hsp
  have KX : K.In s.heap := e0.mod.kin.keeps fun b o e => (e0.bs b o e).1
  have lim : s.heap.NoLimit := e0.mod.nolimit.keeps fun b o e => (e0.bs b o e).1
  have hkind : ∀ y ∈ ps.zip us, scope.names.lookup y.1 = some .local ∨ (scope.names.lookup y.1 = some .cell ∧ ((cellsFrom (s.heap.objs.size + 1) scope.names []).lookup y.1).isSome = true) := fun ⟨n, v⟩ hy => by
    rcases S.par n (List.of_mem_zip hy).1 with q | q
    · exact .inl q
    · exact .inr ⟨q, PySem.W.cellsFrom_some _ _ _ (.inl q)⟩
  have hdep : A.depth < recursionLimit := by have := hr.dp; omega
  refine codeAny_call_function hdep (KX _ _ lk) rfl S.co S.gen rfl (PySem.W.codeRec_of KX hcd) (hb _ _ _ _ ?_)
  refine wpAny_newFunctionEnv_cells S.kind hkind fun env he s1 x => ?_
  subst he
  refine ⟨lim.keeps x.toInCall.keep, codeAny_func ?_⟩
  have hr2 : RoomH k (A.deeper (envOfC qual scope s.heap.objs.size f cdv)) := ⟨by have := hr.dp; show A.depth + 1 + 3 * k + 5 < _; omega, by have := hr.un; show A.units + 3 + 16 * k + 200 < _; omega⟩
  obtain ⟨t, ht, hq⟩ := hbody A outer s H vs Q hr2 hsp
  have e0' : Env0 P w K mg base { A with handled := none } outer s H := ⟨e0.frames, e0.mod, e0.bs, e0.bsz, e0.funs, e0.frf, e0.hok, e0.bare⟩
  have I0 : Inv (cxOf CX0 P w K mg base N qual scope f cdv { A with handled := none } outer s H E0) [] (start N vs) H s1 := inv_start S rfl e0' hl r x
  have I : Inv (cxH P w K mg base N qual scope f cdv A outer s H) [] (start N vs) H s1 :=
    ⟨⟨I0.ok.mod, I0.ok.kind, I0.ok.glob, I0.ok.blt, I0.ok.above, I0.ok.inj, I0.ok.has, I0.ok.cab, (fun z => by cases z), Around.frames_deeper e0.frames, I0.ok.stk, I0.ok.exf, I0.ok.bs, I0.ok.bsz, I0.ok.noex, I0.ok.exfs, I0.ok.funs, I0.ok.frf⟩, I0.os, I0.bare, I0.base, I0.loc, I0.cell, I0.free, I0.freeC, I0.pin, I0.hok, I0.len⟩
  refine wpAny_mono (ht [] s1 (start N vs) H _ I hq) (fun fl s' hs => ?_) fun e s' hs => hs.elim
  have fin : ∀ {σ' : St} {H' : Hp} {v : V} {u : Value}, Inv (cxH P w K mg base N qual scope f cdv A outer s H) [] σ' H' s' → RelV v u → Q v H' → CE outer P w H s Q u s' :=
    fun {σ' H' v u} J rv q => ⟨v, H', J.os, J.bare, J.base, J.hok, rv, q⟩
  cases fl with
  | ret u =>
    obtain ⟨v, σ', H', J, rv, q⟩ := hs
    exact fin J rv q
  | next =>
    obtain ⟨σ', H', J, q⟩ := hs
    exact fin (v := V.non) (u := Value.none) J rfl q
  | brk =>
    obtain ⟨_, _, _, q⟩ := hs
    exact False.elim q
  | cont =>
    obtain ⟨_, _, _, q⟩ := hs
    exact False.elim q
theorem Fun.okH {P : Program} {w : World} {K : PySem.W.Frag} {mg : Str → Option Value} {base : Heap} {x qual : Str} {st : Stmt} {f : Addr} {fd : FuncData} {N ps : List Str} {k : Nat} {sp : Sp} (F : Fun K x qual st f fd) (S : FnScope N ps (defScope st)) (len : ∀ vs H Q E, sp vs H Q E → vs.length = ps.length)
    (hbody : ∀ (cdv : Value) (A : Around) (outer : List Env) (s : Shared) (H : Hp) (vs : List V) (Q : VK), RoomH k (A.deeper (envOfC qual (defScope st) s.heap.objs.size f cdv)) → sp vs H Q E0 →
      ∃ t, PSs (cxH P w K mg base N qual (defScope st) f cdv A outer s H) (defBody st) t ∧ t { nx := fun _ H' => Q .non H', rt := Q } (start N vs) H) : FnOkH P w K mg base (k + 1) f fd ps sp := by
  obtain ⟨oc, od, kV, doc, pm, an, cdv, ct, osl, rfl, lk, hcd⟩ := F.ex
  exact fn_ofH lk hcd S len fun A outer s H vs Q hr hsp => hbody cdv A outer s H vs Q hr hsp
/-- the same with errors that leave -/
theorem Fun.okE {P : Program} {w : World} {K : PySem.W.Frag} {mg : Str → Option Value} {base : Heap} {x qual : Str} {st : Stmt} {f : Addr} {fd : FuncData} {N ps : List Str} {k : Nat} {sp : Sp} (F : Fun K x qual st f fd) (S : FnScope N ps (defScope st)) (len : ∀ vs H Q E, sp vs H Q E → vs.length = ps.length)
    (hbody : ∀ (cdv : Value) (A : Around) (outer : List Env) (s : Shared) (H : Hp) (vs : List V) (Q : VK) (E : XK), Room k (A.deeper (envOfC qual (defScope st) s.heap.objs.size f cdv)) → sp vs H Q E →
      ∃ t, PSs (cxOf (CX1 P w) P w K mg base N qual (defScope st) f cdv A outer s H E) (defBody st) t ∧ t { nx := fun _ H' => Q .non H', rt := Q } (start N vs) H) : FnOk P w K mg base (CX1 P w) (k + 1) f fd ps sp := by
  obtain ⟨oc, od, kV, doc, pm, an, cdv, ct, osl, rfl, lk, hcd⟩ := F.ex
  exact fn_of lk hcd S len fun A outer s H vs Q E hr hsp => hbody cdv A outer s H vs Q E hr hsp
def DefE (P : Program) (w : World) (K : PySem.W.Frag) (mg : Str → Option Value) (base : Heap) (x : Str) (k : Nat) (ps : List Str) (sp : Sp) : Prop :=
  ∃ f fd, FnOk P w K mg base (CX1 P w) k f fd ps sp ∧ mg x = some (.ref f) ∧ PySem.W.keepIn K (.ref f) = true ∧ Binds K fd ps []
def DefH (P : Program) (w : World) (K : PySem.W.Frag) (mg : Str → Option Value) (base : Heap) (x : Str) (k : Nat) (ps : List Str) (sp : Sp) : Prop :=
  ∃ f fd, FnOkH P w K mg base k f fd ps sp ∧ mg x = some (.ref f) ∧ PySem.W.keepIn K (.ref f) = true ∧ Binds K fd ps []
section
variable {X : Cx} {x : Str} {k k' : Nat} {ps : List Str} {sp : Sp} {e : Expr} {es : List Expr} {t : TA} {p pos : Pos}
theorem pe_callH (D : DefH X.prog X.w X.K X.mg X.base x k ps sp) (hr : RoomH k' X.A) (hg : Gl X x) (ha : PA X (e :: es) t) (hk : k ≤ k' := by decide) (hdb : (x == ("__debug__" : Str)) = false := by decide)
    (he : starEach (e :: es) X.env = (false, eval e X.env) :: starEach es X.env := by rfl) (hpl : (backTo pos (starEach es X.env)).any (·.1) = false := by rfl) :
    PE X (.Call (.Name x p) (e :: es) [] pos) (tCall sp [] E0 t) := by
  obtain ⟨f, fd, F, m, kp, b⟩ := D
  intro pins s σ H Q I h
  refine wpAny_Call_Name_kw (ld_glob I hg m ?_ hdb)
  refine PySem.W.callWith_K (h₀ := X.base) I.ok.mod.kin kp (thn (ha pos pins s σ H _ I h) fun us s1 ⟨vs, H1, I1, r, q⟩ => ⟨I1.kIn, ?_⟩) he hpl
  have q : sp (vs ++ []) H1 Q E0 := q
  rw [List.append_nil] at q
  have hl : us.length = ps.length := by rw [← r.length]; exact F.len _ _ _ _ q
  have hb' := b s1 us I1.kIn (by rw [List.append_nil]; exact hl)
  rw [List.append_nil] at hb'
  refine wpAny_call (codeAny_mono (F.run X.A X.stack s1 H1 ⟨us, []⟩ us vs Q (hr.mono hk) I1.env0 hb' r q) fun r s' hq => ?_)
  cases r with
  | error e => exact False.elim hq
  | ok fl =>
    cases fl with
    | ret u => exact I1.after hq
    | next => exact False.elim hq
    | brk => exact False.elim hq
    | cont => exact False.elim hq
/-- a call of a def whose errors pass on -/
theorem pe_callE {P : Program} {w : World} {K : PySem.W.Frag} {mg : Str → Option Value} {base : Heap} {N : List Str} {qual : Str} {scope : Scope} {f : Addr} {cdv : Value} {A : Around} {outer : List Env} {s₀ : Shared} {H₀ : Hp} {E : XK}
    (D : DefE P w K mg base x k ps sp) (hr : Room k' (cxOf (CX1 P w) P w K mg base N qual scope f cdv A outer s₀ H₀ E).A) (hg : Gl (cxOf (CX1 P w) P w K mg base N qual scope f cdv A outer s₀ H₀ E) x) (ha : PA (cxOf (CX1 P w) P w K mg base N qual scope f cdv A outer s₀ H₀ E) (e :: es) t) (hk : k ≤ k' := by decide) (hdb : (x == ("__debug__" : Str)) = false := by decide)
    (he : starEach (e :: es) (cxOf (CX1 P w) P w K mg base N qual scope f cdv A outer s₀ H₀ E).env = (false, eval e (cxOf (CX1 P w) P w K mg base N qual scope f cdv A outer s₀ H₀ E).env) :: starEach es (cxOf (CX1 P w) P w K mg base N qual scope f cdv A outer s₀ H₀ E).env := by rfl)
    (hpl : (backTo pos (starEach es (cxOf (CX1 P w) P w K mg base N qual scope f cdv A outer s₀ H₀ E).env)).any (·.1) = false := by rfl) :
    PE (cxOf (CX1 P w) P w K mg base N qual scope f cdv A outer s₀ H₀ E) (.Call (.Name x p) (e :: es) [] pos) (tCall sp [] E t) := by
  obtain ⟨f', fd, F, m, kp, b⟩ := D
  exact pe_call F (hr.mono hk) hg m kp b .nil (fun pins σ H s e s' I hc => xe_next (fun _ _ _ z => z) I hc) ha hdb he hpl
end
/-! ### isinstance(e, ..) of a caught error -/
structure Not (K : PySem.W.Frag) (mg : Str → Option Value) (x : Str) (D C : Addr) : Prop where
  bound : mg x = some (.ref D)
  cl : PySem.W.isClsIn K D = true
  ty : PySem.W.typeIn K (.ref D) = some (.type "type")
  no : PySem.W.mroIn K C (.ref D) = some false
theorem kit_VE {K : PySem.W.Frag} {C : Addr} (h : PySem.W.mroIn K C (.type "ValueError") = some true) : PySem.W.kitOne K (.ref C) (.type "ValueError") = some true := by
  unfold PySem.W.kitOne
  rw [if_neg (by intro z; cases beq_iff_eq.mp z)]
  show (if PySem.W.kitMeta "ValueError" = true then PySem.W.subIn K (.ref C) (.type "ValueError") else none) = some true
  rw [if_pos (by decide +kernel)]
  exact h
section
variable {X : Cx} {K : PySem.W.Frag}
def rIsiT (K : PySem.W.Frag) : List V → Hp → VK → Prop := fun xs H Q => ∃ (ea C tp : Addr) (ds : List Addr) (b : Bool), xs = [.ref ea, .ref tp] ∧ H ea = some (.ext (PySem.W.ExcAt ea C)) ∧ PySem.W.ExcK K C ∧ H tp = some (.tup (ds.map V.ref)) ∧ PySem.W.kitAny K (.ref C) (ds.map Value.ref) = some b ∧ Q (.bl b) H
def rIsiV (K : PySem.W.Frag) : List V → Hp → VK → Prop := fun xs H Q => ∃ ea C T b, xs = [.ref ea, .ty T] ∧ H ea = some (.ext (PySem.W.ExcAt ea C)) ∧ PySem.W.ExcK K C ∧ PySem.W.kitOne K (.ref C) (.type T) = some b ∧ Q (.bl b) H
end
end L2

/-! ## in over lists of data; list(reversed(..)); try with a def that raises -/
namespace L2
open PySem PySem.Spec PyProof.Rows
section
variable {X : Cx} {K : PySem.W.Frag}
def rInD : R2 := fun x y H Q => ∃ d es, Rep H x d ∧ Rep H y (.list es) ∧ SeqAt.shaped d = true ∧ SeqAt.shaped (.list es) = true ∧ min (PyData.depthAll es) d.depth ≤ 20 ∧ Q (.bl (es.any fun e => PyData.eqv e d)) H
end
end L2
namespace PySem
namespace F
end F
section
variable {prog : Program} {w : World} {A : Around} {E : Value → Shared → Prop} {s : Shared}
variable {R : Result → Shared → Prop}
end
end PySem
namespace L2
open PySem PySem.Spec PyProof.Rows
theorem vals_get : ∀ {xs : List V} {us : List Value}, xs.length = us.length → (∀ (i : Nat) (v : V), xs[i]? = some v → ∃ u, us[i]? = some u ∧ RelV v u) → Vals xs us
  | [], [], _, _ => .nil
  | [], _ :: _, h, _ => nomatch h
  | _ :: _, [], h, _ => nomatch h
  | x :: xs, u :: us, h, p => by
    obtain ⟨w, hw, r⟩ := p 0 x rfl
    cases hw
    exact .cons r (vals_get (Nat.succ.inj h) fun i v hv => p (i + 1) v hv)
def tLR (K : PySem.W.Frag) (ta : TA) : TE := fun σ H Q => ta σ H fun vs H1 => ∃ a xs, vs = [.ref a] ∧ SqL K H1 a xs ∧ ∀ l, H1 l = none → Q (.ref l) (upd H1 l (.lst xs.reverse))
section
variable {X : Cx} {K : PySem.W.Frag}
/-- a call of a def that raises, where it doesn't -/
theorem pe_callN {x : Str} {k k' : Nat} {ps : List Str} {sp : Sp} {e : Expr} {es : List Expr} {t : TA} {p pos : Pos} (D : DefE X.prog X.w X.K X.mg X.base x k ps sp) (hr : Room k' X.A) (hg : Gl X x) (ha : PA X (e :: es) t) (hk : k ≤ k' := by decide) (hdb : (x == ("__debug__" : Str)) = false := by decide)
    (he : starEach (e :: es) X.env = (false, eval e X.env) :: starEach es X.env := by rfl) (hpl : (backTo pos (starEach es X.env)).any (·.1) = false := by rfl) :
    PE X (.Call (.Name x p) (e :: es) [] pos) (tCall sp [] E0 t) := by
  obtain ⟨f, fd, F, m, kp, b⟩ := D
  exact pe_call F (hr.mono hk) hg m kp b .nil (fun _ _ _ _ _ _ _ h => by obtain ⟨_, _, _, _, _, _, _, _, _, _, _, _, _, _, _, q⟩ := h; exact q.elim) ha hdb he hpl
theorem boot_ValueError : bootBuiltins "ValueError" = some (.type "ValueError") := by decide +kernel
/-! ### try: f(..) except D as n: .. -/
section
variable {X : Cx} {x : Str} {k k' : Nat} {ps : List Str} {sp : Sp} {fx xd n : Str} {i : Nat} {p cpos epos np hpos pos : Pos} {e : Expr} {es : List Expr} {ta : TA} {b₀ : Stmt} {suite : List Stmt} {th : TS} {D : Addr}
theorem ps_tryD (DE : DefE X.prog X.w X.K X.mg X.base fx k ps sp) (hr : Room k' X.A) (hex : X.ex = []) (hst : X.stack = X.env :: X.outer) (hfr : X.env.frame = some X.env.locals) (hg : Gl X fx)
    (ha : ∀ Ex, PA (X.wish Ex) (e :: es) ta) (TD : ErrB X.K X.mg xd D) (hgd : Gl X xd) (hN : X.N.Nodup) (hi : X.N[i]? = some n) (hloc : X.env.scope.names.lookup n = some .local) (hs : ∀ ea, PSs (X.caught ea) (b₀ :: suite) th)
    (hk : k ≤ k' := by decide) (hdb : (fx == ("__debug__" : Str)) = false := by decide) (hdd : (xd == ("__debug__" : Str)) = false := by decide) (he : starEach (e :: es) X.env = (false, eval e X.env) :: starEach es X.env := by rfl) (hpl : (backTo cpos (starEach es X.env)).any (·.1) = false := by rfl) (hsw : swapsWith (.Call (.Name fx p) (e :: es) [] cpos) none epos.line X.env = pure false := by rfl) :
    PS X (.Try [.Expr (.Call (.Name fx p) (e :: es) [] cpos) epos] [.ExceptHandler (some (.Name xd np)) (some n) (b₀ :: suite) hpos] [] [] pos) (tTry X.K D i sp ta th) := by
  obtain ⟨f, fd, F, m, kp, b⟩ := DE
  exact ps_tryAs hex hst hfr F (hr.mono hk) hg m kp b ha TD hgd hN hi hloc hs hdb hdd he hpl hsw
end
end
end L2

/-! ## what is a ring of tops -/
namespace L2
open PySem PyProof.Rows
end L2
namespace Ring
open Ways
theorem rot_at {r : List Nat} {i : Nat} (h : i + 1 < r.length) : (rot r)[i]? = r[i + 1]? := by
  unfold rot
  rw [List.getElem?_append_left (by rw [List.length_drop]; omega), List.getElem?_drop, Nat.add_comm 1 i]
theorem rot_last {r : List Nat} (h : 0 < r.length) : (rot r)[r.length - 1]? = r[0]? := by
  unfold rot
  rw [List.getElem?_append_right (by rw [List.length_drop]; omega), List.length_drop, show r.length - 1 - (r.length - 1) = 0 by omega, List.getElem?_take_of_lt (by omega)]
theorem IsRing.mem {es : List (Option Nat)} {r : List Nat} (hb : InB es) (h : IsRing es r) : r ∈ ringsN es := by
  obtain ⟨p, t, rfl⟩ : ∃ p t, r = p :: t := by
    cases r with
    | nil => exact absurd rfl h.ne
    | cons p t => exact ⟨p, t, rfl⟩
  have at_ : ∀ (i q : Nat), (p :: t)[i]? = some q → ∃ u, (rot (p :: t))[i]? = some u ∧ nextE es q = some u := fun i q hq => by
    have := congrArg (fun (l : List (Option Nat)) => l[i]?) h.next
    simp only [List.getElem?_map, hq, Option.map_some] at this
    cases e : (rot (p :: t))[i]? with
    | none => rw [e] at this; cases this
    | some u => rw [e] at this; exact ⟨u, rfl, Option.some.inj this⟩
  have wy : Way es p (p :: t) := by
    refine ⟨rfl, h.nd, h.bd, fun i a b ha hb' => ?_⟩
    obtain ⟨u, hu, e⟩ := at_ i a ha
    have hi := (List.getElem?_eq_some_iff.mp hb').1
    rw [rot_at hi, hb'] at hu
    cases hu
    exact e
  have hl : (p :: t).getLast? = (p :: t)[(p :: t).length - 1]? := by rw [List.getLast?_eq_getElem?]
  have hlt : (p :: t).length - 1 < (p :: t).length := by simp
  have hl2 : (p :: t).getLast? = some ((p :: t)[(p :: t).length - 1]) := by rw [hl, List.getElem?_eq_getElem hlt]
  obtain ⟨u, hu, e⟩ := at_ _ _ (List.getElem?_eq_getElem hlt)
  rw [rot_last (by simp)] at hu
  have hup : p = u := by simpa using hu
  subst hup
  have dn : Done es (p :: t) := ⟨_, hl2, .inr ⟨p, e, List.mem_cons_self⟩⟩
  have on : OnRing es p := (wy.closed dn hl2).mpr e
  have hw := wayOf_is wy dn
  refine mem_rings.mpr ⟨p, h.bd p List.mem_cons_self, ?_⟩
  have cc : OnRing es p ∧ ∀ x ∈ wayOf es p, p ≤ x := ⟨on, fun x hx => h.least x (hw ▸ hx)⟩
  unfold ringAt
  rw [if_pos cc, hw]
end Ring

/-! ## errors that leave a comprehension -/
namespace L2
open PySem PySem.Spec PyProof.Rows
section
variable {M : Model} {A : Around} {E : Value → Shared → Prop} {s : Shared} {base : Heap} {env : Env} {outer : List Env} {L e T : Addr} {c : Value} {d : Option Addr}
end
section
variable {P : Program} {w : World} {K : PySem.W.Frag} {mg : Str → Option Value} {base : Heap} {N : List Str} {qual : Str} {scope₀ : Scope} {f : Addr} {cdv : Value} {A : Around} {outer : List Env} {s₀ : Shared} {H₀ : Hp} {E : XK}
  {pins pins' : List (Addr × Obj)} {σ σ' : St} {H₂ H : Hp} {s₂ s s' : Shared} {N' : List Str} {cl : List (Str × Addr)} {C : Addr} {fp : List Addr} {xe : Value → Shared → Prop} {scope : Scope} {acc e : Value} {Q : Value → Shared → Prop}
end
section
variable {X : Cx} {pins : List (Addr × Obj)} {σ : St} {H₂ : Hp} {s₂ : Shared} {N' : List Str} {cap : List (Option Nat)} {scope : Scope} {target iter elt : Expr} {ifs : List Expr} {pos : Pos} {it : Addr} {fp : List Addr} {tn : Nat → Heap → Prop} {J : It}
  {g : TG} {tt : TT} {te : TE} {cl : List (Str × Addr)}

end
section
variable {P : Program} {w : World} {K : PySem.W.Frag} {mg : Str → Option Value} {base : Heap} {N : List Str} {qual : Str} {scope₀ : Scope} {f : Addr} {cdv : Value} {A : Around} {outer : List Env} {s₀ : Shared} {H₀ : Hp} {E : XK}
  {N' : List Str} {cap : List (Option Nat)} {scope : Scope} {target iter elt : Expr} {ifs : List Expr} {pos : Pos} {g : TG} {tt : TT} {te : TE}
end
section
variable {X : Cx}
end
end L2
namespace L2
open PySem PySem.Spec PyProof.Rows
/-- xs.insert(k, e), k within -/
def rInsert : V → List V → Hp → VK → Prop := fun x vs H Q => ∃ l xs y, ∃ k : Int, x = .ref l ∧ vs = [.int k, y] ∧ H l = some (.lst xs) ∧ 0 ≤ k ∧ k ≤ xs.length ∧ xs.length ≤ 1000 ∧ Q .non (upd H l (.lst (xs.take k.toNat ++ y :: xs.drop k.toNat)))
end L2

/-! ## dict(a list of pairs) -/
namespace PySem
namespace F
end F
section
variable {prog : Program} {w : World} {A : Around} {E : Value → Shared → Prop} {s : Shared} {R : Result → Shared → Prop}
end
end PySem
namespace L2
open PySem PySem.Spec PyProof.Rows
/-- dict(row): a list of pairs of whole numbers, no first one twice -/
def rDictP : List V → Hp → VK → Prop := fun xs H Q => ∃ p ys, ∃ prs : List (Int × Int), xs = [.ref p] ∧ H p = some (.lst ys) ∧ ys.length = prs.length ∧ (∀ (i : Nat) (q : Int × Int), prs[i]? = some q → ∃ t, ys[i]? = some (.ref t) ∧ H t = some (.tup [.int q.1, .int q.2])) ∧
  (prs.map (·.1)).Nodup ∧ prs.length ≤ 15 ∧ ∀ l, H l = none → Q (.ref l) (upd H l (.dK (prs.map fun q => (Sum.inl q.1, V.int q.2))))
end L2

/-! ## for over an enumerate -/
namespace L2
open PySem PySem.Spec PyProof.Rows
theorem for_enum {K : PySem.W.Frag} {a : Addr} {xs : List V} {g : TG} {tb : TS} {D : Ends} {σ : St} {H : Hp} (Pv : Nat → St → Hp → Prop) (h0 : Pv 0 σ H) (hl : ∀ i σ H, Pv i σ H → SqL K H a xs)
    (hs : ∀ i x T σ H, xs[i]? = some x → H T = none → Pv i σ H → g (.ref T) σ (upd H T (.tup [.int (i : Int), x])) fun σ2 H2 => tb { D with nx := Pv (i + 1), ct := Pv (i + 1), bk := D.nx } σ2 H2)
    (hd : ∀ σ H, Pv xs.length σ H → D.nx σ H) :
    ∃ W : Nat → Nat → St → Hp → Prop, (∃ m, W 0 m σ H) ∧ ∀ i m σ H, W i m σ H →
      ((Ite K a).stop i H ∧ D.nx σ H) ∨ ((Ite K a).go i H ∧ ∃ N : St → Hp → Prop, (∀ σ' H', N σ' H' → ∃ m', m' < m ∧ W (i + 1) m' σ' H') ∧ ∀ x H', (Ite K a).yld i H x H' → g x σ H' fun σ2 H2 => tb { D with nx := N, ct := N, bk := D.nx } σ2 H2) := by
  refine ⟨fun i m σ H => m = xs.length - i ∧ i ≤ xs.length ∧ Pv i σ H, ⟨xs.length, by simp, Nat.zero_le _, h0⟩, ?_⟩
  rintro i m σ H ⟨rfl, hi, p⟩
  have q := hl i σ H p
  by_cases hlt : i < xs.length
  · refine .inr ⟨⟨xs, xs[i], q, by simp [hlt]⟩, Pv (i + 1), fun σ' H' p' => ⟨xs.length - (i + 1), by omega, rfl, hlt, p'⟩, fun v H' y => ?_⟩
    obtain ⟨T, x, hT, rfl, rfl, ya⟩ := y
    exact hs i x T σ H (ya xs q) hT p
  · have e : i = xs.length := by omega
    subst e
    exact .inl ⟨⟨xs, q, rfl⟩, hd σ H p⟩
end L2

/-! ## list(range(n)) -/
namespace L2
open PySem PySem.Spec PyProof.Rows
def upV (n : Nat) : List V := (List.range n).map fun (i : Nat) => V.int (i : Int)
def tLUp (ta : TA) : TE := fun σ H Q => ta σ H fun vs H1 => ∃ n : Nat, vs = [.int (n : Int)] ∧ n ≤ 1000 ∧ ∀ l, H1 l = none → Q (.ref l) (upd H1 l (.lst (upV n)))
section
variable {X : Cx} {K : PySem.W.Frag}
theorem size_up (n : Nat) : Builtin.Range.rangeSize 0 (n : Int) 1 = n := by
  unfold Builtin.Range.rangeSize
  simp only [show (1 : Int) > 0 by decide, if_true]
  split <;> omega
theorem pe_listRng {a : Expr} {ta : TA} {p p3 pos pos3 : Pos} (hc : X.calm = true) (hg : Gl X "list") (hm : X.mg "list" = none) (hg3 : Gl X "range") (hm3 : X.mg "range" = none) (ha : PA X [a] ta) (hs : starEach [a] X.env = [(false, eval a X.env)] := by rfl)
    (hs2 : starEach [.Call (.Name "range" p3) [a] [] pos3] X.env = [(false, eval (.Call (.Name "range" p3) [a] [] pos3) X.env)] := by rfl) :
    PE X (.Call (.Name "list" p) [.Call (.Name "range" p3) [a] [] pos3] [] pos) (tLUp ta) := by
  intro pins s σ H Q I h
  refine wpAny_Call_Name_kw (ld_blt I hg hm boot_list ?_)
  refine PyProof.Rows.callWith_type1 ?_ (by rw [hs2]; rfl) (by rfl)
  rw [hs2]
  show wpAny _ _ (spliced [(false, eval (.Call (.Name "range" p3) [a] [] pos3) X.env)]) _ _ s
  refine Calls.spliced_cons ?_
  refine Call_ (ld_blt I hg3 hm3 boot_range (PyProof.Rows.callWith_type1 (thn (ha pos3 pins s σ H _ I h) fun us s1 ⟨vs, H1, I1, r1, q1⟩ => ?_) (by rw [hs]; rfl) (by rfl)))
  obtain ⟨n, e, hn, q⟩ := q1
  subst e
  obtain ⟨u, rfl, ru⟩ := r1.one
  obtain ⟨t, rfl⟩ := ru
  refine call_range_1 (Calls.spliced_nil ?_)
  have I2 : Inv X pins σ H1 { s1 with heap := s1.heap.push { cls := .type "range", data := .fields #[.int 0 s1.toks, .int (n : Int) t, .int 1 (s1.toks + 1)] }, toks := s1.toks + 1 + 1 } := I1.kept fun b o e => Heap.get?_push_of_some _ e
  have hr := IsRange.new s1.heap 0 (n : Int) 1 s1.toks t (s1.toks + 1)
  generalize hs4 : ({ s1 with heap := s1.heap.push { cls := .type "range", data := .fields #[.int 0 s1.toks, .int (n : Int) t, .int 1 (s1.toks + 1)] }, toks := s1.toks + 1 + 1 } : Shared) = s4 at I2 ⊢
  have hr4 : IsRange s4.heap s1.heap.objs.size 0 (n : Int) 1 s1.toks t (s1.toks + 1) := by rw [← hs4]; exact hr
  refine call_list_range (I2.ok.hd hc) hr4 (small_one (by omega) (by omega) (by omega) (by omega)) (size_up n) (by omega) fun h' tk acc' c' kp eS hacc => ?_
  have hv : Vals (upV n) acc'.toList := by
    have hz := hacc.1
    unfold upV
    refine vals_get (by rw [List.length_map, List.length_range, Array.length_toList, hz]) fun i v hv => ?_
    rw [List.getElem?_map] at hv
    obtain ⟨j, hj, rfl⟩ := Option.map_eq_some_iff.mp hv
    have hi : i < n := by have := (List.getElem?_eq_some_iff.mp hj).1; rwa [List.length_range] at this
    rw [List.getElem?_range hi] at hj
    cases hj
    have hlt : i < acc'.size := by rw [hz]; exact hi
    obtain ⟨t', et⟩ := hacc.2 i acc'[i] (Array.getElem?_eq_getElem hlt)
    refine ⟨acc'[i], by rw [Array.getElem?_toList, Array.getElem?_eq_getElem hlt], t', ?_⟩
    rw [et]
    congr 1
    omega
  have I4 : Inv X pins σ H1 { s4 with heap := h', toks := tk } := I2.kept fun b o e => kp b o e
  have hnew := I2.hok.fresh (Nat.le_refl s4.heap.objs.size)
  obtain ⟨g0, g1, g2, g3, g4, g5⟩ := I2.fpOk (Nat.le_refl s4.heap.objs.size) hnew
  have n0 : X.s₀.heap.get? s4.heap.objs.size = none := Heap.get?_none_of_le I2.sz
  exact ⟨.ref _, _, I4.track (o := .lst (upV n)) hnew n0 g1 g4 g5 (show ObjOk X.prog X.w _ h' _ (.lst (upV n)) from ⟨by unfold upV; rw [List.length_map, List.length_range]; exact Nat.le_of_lt (small1000 (by omega)), acc'.toList, c', hv, eS⟩), rfl, q _ hnew⟩
end
end L2

/-! ## isinstance(e, C) of a caught error and a class of the program's own -/
namespace L2
open PySem PySem.Spec PyProof.Rows
theorem kit_no {K : PySem.W.Frag} {mg : Str → Option Value} {x : Str} {C D : Addr} (self : PySem.W.mroIn K C (.ref C) = some true) (n : Not K mg x D C) : PySem.W.kitOne K (.ref C) (.ref D) = some false := by
  have h3 := n.no
  have ne : (Value.ref C == Value.ref D) = false := by
    refine Bool.eq_false_iff.mpr fun q => ?_
    have e : C = D := Value.ref.inj (beq_iff_eq.mp q)
    subst e
    rw [self] at h3
    cases h3
  unfold PySem.W.kitOne
  rw [ne]
  show PySem.W.kitCls K (.ref C) (.ref D) = some false
  show (if ((PySem.W.clsIn K D).isSome && PySem.W.typeIn K (.ref D) == some (.type "type")) = true then PySem.W.subIn K (.ref C) (.ref D) else none) = some false
  rw [show (PySem.W.clsIn K D).isSome = true from n.cl, n.ty]
  exact h3
theorem kit_self (K : PySem.W.Frag) (C : Addr) : PySem.W.kitOne K (.ref C) (.ref C) = some true := by
  unfold PySem.W.kitOne
  rw [if_pos (beq_self_eq_true _)]
section
variable {X : Cx} {K : PySem.W.Frag}
def rIsiC (K : PySem.W.Frag) : List V → Hp → VK → Prop := fun xs H Q => ∃ (ea C D : Addr) (b : Bool), xs = [.ref ea, .ref D] ∧ H ea = some (.ext (PySem.W.ExcAt ea C)) ∧ PySem.W.ExcK K C ∧ PySem.W.kitOne K (.ref C) (.ref D) = some b ∧ Q (.bl b) H
end
end L2

/-! ## an end exchanged: what closes a ring, what hangs -/
namespace Ring
open PySem Ways
/-- step by step, None behind a root -/
def hereN (es : List (Option Nat)) (q : Nat) : Nat → Option Nat
  | 0 => some q
  | k + 1 => (hereN es q k).bind (nextE es)
end Ring

/-! ## walks: the mathematics of point 13 -/
namespace Ways
open Ring
/-- turned so that the least is first -/
def minN (r : List Nat) : Nat := r.foldl min (r.headD 0)
def leastN (r : List Nat) : List Nat := r.drop (r.idxOf (minN r)) ++ r.take (r.idxOf (minN r))
end Ways

/-! ## rounds, and the same rings in any order: the mathematics of points 3, 11 and 12 -/
namespace Ways
open Ring
/-- rings with how deep each place was popped, from d on -/
def marksF : (Nat → Nat) → List (List Nat) → List (List (Nat × Nat))
  | _, [] => []
  | d, r :: rs => (r.map fun x => (x, d x)) :: marksF (fun x => d x + r.count x) rs
/-- rings popped one by one -/
inductive Pops : Piles → List (List Nat) → Piles → Prop
  | nil {p : Piles} : Pops p [] p
  | cons {p q : Piles} {r : List Nat} {rs : List (List Nat)} : r ∈ ringsN (topsN p) → Pops (popN p r) rs q → Pops p (r :: rs) q
theorem Pops.append {p q u : Piles} {rs ts : List (List Nat)} (a : Pops p rs q) (b : Pops q ts u) : Pops p (rs ++ ts) u := by
  induction a with
  | nil => exact b
  | cons h _ ih => exact .cons h (ih b)
theorem Pops.ok {p q : Piles} {rs : List (List Nat)} (a : Pops p rs q) : PilesOk p → PilesOk q ∧ q.length = p.length ∧ rs.length + sizeN q ≤ sizeN p := by
  induction a with
  | nil => intro ok; exact ⟨ok, rfl, by simp⟩
  | cons h _ ih =>
    intro ok
    obtain ⟨o, l, s⟩ := ih (ok.pop _)
    have := pop_less ok.inB h
    exact ⟨o, l.trans (popN_len _ _), by rw [List.length_cons]; omega⟩
theorem Pops.of_steps {num : Nat → Int} {p0 p : Piles} {rs : List (List Nat)} (h : Steps num p0 rs p) : Pops p0 rs p := by
  induction h with
  | nil => exact .nil
  | snoc _ hne ih => exact ih.append (.cons (pick_mem hne) .nil)
/-- rings with a place in common are one -/
theorem rings_meet {es : List (Option Nat)} (hb : InB es) {r t : List Nat} (h1 : r ∈ ringsN es) (h2 : t ∈ ringsN es) {x : Nat} (x1 : x ∈ r) (x2 : x ∈ t) : r = t := by
  obtain ⟨m, hm, e1⟩ := mem_rings.mp h1
  obtain ⟨n, hn, e2⟩ := mem_rings.mp h2
  have := ring_one hb hm hn e1 e2 x1 x2
  subst this
  rw [e1] at e2
  exact Option.some.inj e2
/-- tops where nothing was popped -/
theorem ring_keeps {p q : Piles} (ok : PilesOk p) (okq : PilesOk q) (hl : q.length = p.length) {r : List Nat} (h : r ∈ ringsN (topsN p)) (same : ∀ x ∈ r, q[x]? = p[x]?) : r ∈ ringsN (topsN q) := by
  have i := rings_is ok.inB h
  refine IsRing.mem okq.inB ⟨i.ne, i.nd, fun x hx => ?_, i.least, ?_⟩
  · rw [topsN_len, hl, ← topsN_len p]; exact i.bd x hx
  · rw [← i.next]
    refine List.map_congr_left fun x hx => ?_
    rw [topsN_next, topsN_next, same x hx]
theorem pop_off {p : Piles} {r : List Nat} {x : Nat} (h : x ∉ r) : (popN p r)[x]? = p[x]? := by
  rw [popN_at]
  cases p[x]? with
  | none => rfl
  | some l => rw [Option.map_some, if_neg h]
theorem ring_stays {p : Piles} (ok : PilesOk p) {r t : List Nat} (h : r ∈ ringsN (topsN p)) (ap : ∀ x ∈ r, x ∉ t) : r ∈ ringsN (topsN (popN p t)) :=
  ring_keeps ok (ok.pop t) (popN_len _ _) h fun x hx => pop_off (ap x hx)
theorem pop_comm (p : Piles) (r t : List Nat) : popN (popN p r) t = popN (popN p t) r := by
  refine List.ext_getElem? fun i => ?_
  rw [popN_at, popN_at, popN_at, popN_at]
  cases p[i]? with
  | none => rfl
  | some l => by_cases h1 : i ∈ r <;> by_cases h2 : i ∈ t <;> simp [h1, h2]
theorem marks_off {r t : List Nat} {d : Nat → Nat} (ap : ∀ x ∈ r, x ∉ t) : (r.map fun x => (x, d x + t.count x)) = r.map fun x => (x, d x) :=
  List.map_congr_left fun x hx => by rw [List.count_eq_zero.mpr (ap x hx)]; rfl
/-- a ring that is there can be popped first -/
theorem Pops.front {r : List Nat} : ∀ {ts : List (List Nat)} {p u : Piles}, PilesOk p → Pops p ts u → ringsN (topsN u) = [] → r ∈ ringsN (topsN p) →
    ∃ ts', Pops (popN p r) ts' u ∧ ∀ d, (marksF d ts).Perm ((r.map fun x => (x, d x)) :: marksF (fun x => d x + r.count x) ts')
  | [], p, u, ok, a, e, h => by
    cases a
    rw [e] at h
    cases h
  | t :: ts, p, u, ok, a, e, h => by
    cases a with
    | cons ht a =>
      by_cases c : r = t
      · subst c
        exact ⟨ts, a, fun d => List.Perm.refl _⟩
      · have ap : ∀ x ∈ r, x ∉ t := fun x x1 x2 => c (rings_meet ok.inB h ht x1 x2)
        have ap' : ∀ x ∈ t, x ∉ r := fun x x1 x2 => ap x x2 x1
        obtain ⟨ts', b, pm⟩ := Pops.front (ok.pop t) a e (ring_stays ok h ap)
        rw [pop_comm] at b
        refine ⟨t :: ts', .cons (ring_stays ok ht ap') b, fun d => ?_⟩
        have z := (pm fun x => d x + t.count x).cons (t.map fun x => (x, d x))
        rw [marks_off ap] at z
        refine (z.trans (List.Perm.swap _ _ _)).trans (List.Perm.of_eq ?_)
        show _ = (r.map fun x => (x, d x)) :: (t.map fun x => (x, d x + r.count x)) :: _
        rw [marks_off ap']
        have e2 : (fun x => d x + t.count x + r.count x) = fun x => d x + r.count x + t.count x := by funext x; omega
        rw [e2]
/-- the same rings, marked, in any order; and the same piles -/
theorem Pops.same : ∀ {rs ts : List (List Nat)} {p q u : Piles}, PilesOk p → Pops p rs q → ringsN (topsN q) = [] → Pops p ts u → ringsN (topsN u) = [] → (∀ d, (marksF d rs).Perm (marksF d ts)) ∧ q = u
  | [], ts, p, q, u, ok, a, e, b, f => by
    cases a
    cases b with
    | nil => exact ⟨fun _ => List.Perm.refl _, rfl⟩
    | cons h _ => rw [e] at h; cases h
  | r :: rs, ts, p, q, u, ok, a, e, b, f => by
    cases a with
    | cons h a =>
      obtain ⟨ts', b', pm⟩ := Pops.front ok b f h
      obtain ⟨pm2, eq⟩ := Pops.same (ok.pop r) a e b' f
      exact ⟨fun d => ((pm2 _).cons _).trans (pm d).symm, eq⟩
/-! ### rounds -/
noncomputable def stN (p : Piles) : Nat → Piles
  | 0 => p
  | k + 1 => (ringsN (topsN (stN p k))).foldl popN (stN p k)
noncomputable def rndN (p : Piles) (k : Nat) : List (List Nat) := ringsN (topsN (stN p k))
theorem foldl_ok : ∀ (l : List (List Nat)) {q : Piles}, PilesOk q → PilesOk (l.foldl popN q)
  | [], _, ok => ok
  | r :: l, _, ok => foldl_ok l (ok.pop r)
theorem stN_ok {p : Piles} (ok : PilesOk p) : ∀ k, PilesOk (stN p k)
  | 0 => ok
  | k + 1 => foldl_ok _ (stN_ok ok k)
theorem Pops.all : ∀ {l : List (List Nat)} {q : Piles}, PilesOk q → (∀ r ∈ l, r ∈ ringsN (topsN q)) → (l.Pairwise fun a b => ∀ x ∈ a, x ∉ b) → Pops q l (l.foldl popN q)
  | [], _, _, _, _ => .nil
  | r :: l, q, ok, h, ap => by
    obtain ⟨a1, a2⟩ := List.pairwise_cons.mp ap
    exact .cons (h r List.mem_cons_self) (Pops.all (ok.pop r) (fun t ht => ring_stays ok (h t (List.mem_cons_of_mem _ ht)) fun x x1 x2 => a1 t ht x x2 x1) a2)
theorem Pops.rounds {p : Piles} (ok : PilesOk p) : ∀ n, Pops p ((List.range n).map (rndN p)).flatten (stN p n)
  | 0 => .nil
  | n + 1 => by
    rw [List.range_succ, List.map_append, List.flatten_append]
    refine (Pops.rounds ok n).append ?_
    rw [List.map_cons, List.map_nil, List.flatten_cons, List.flatten_nil, List.append_nil]
    exact Pops.all (stN_ok ok n) (fun _ h => h) (rings_apart (stN_ok ok n).inB)
/-- as many rounds as there are -/
structure RndTo (p : Piles) (n : Nat) : Prop where
  some' : ∀ k, k < n → rndN p k ≠ []
  last : rndN p n = []
theorem RndTo.one {p : Piles} {m n : Nat} (a : RndTo p m) (b : RndTo p n) : m = n := by
  rcases Nat.lt_trichotomy m n with h | h | h
  · exact absurd a.last (b.some' m h)
  · exact h
  · exact absurd b.last (a.some' n h)
end Ways

/-! ## a field of an error: stored where it has none yet -/
namespace PySem.W
open PySem PySem.Spec PySem.Calls PyProof.Rows
theorem refuse_ve (self : Value) : refuseLoop self "__setattr__" [.type "ValueError", .type "Exception", .type "BaseException", .type "object"] = pure () := by kernel_rfl
/-- classes of the program's own, then ValueError and what is above it -/
def overVE : List Value → Bool
  | .ref _ :: r => overVE r
  | l => l == [.type "ValueError", .type "Exception", .type "BaseException", .type "object"]
theorem over_split : ∀ {l : List Value}, overVE l = true → ∃ cs : List Addr, l = cs.map Value.ref ++ [.type "ValueError", .type "Exception", .type "BaseException", .type "object"]
  | [], e => by cases e
  | y :: r, e => by
    by_cases c : ∃ a, y = .ref a
    · obtain ⟨a, rfl⟩ := c
      obtain ⟨cs, rfl⟩ := over_split (l := r) e
      exact ⟨a :: cs, rfl⟩
    · refine ⟨[], ?_⟩
      have : (y :: r) == [.type "ValueError", .type "Exception", .type "BaseException", .type "object"] := by
        unfold overVE at e
        split at e
        · rename_i a r' h
          exact absurd ⟨a, (List.cons.inj h).1⟩ c
        · exact e
      exact eq_of_beq this
theorem refuse_over (self : Value) {l : List Value} (e : overVE l = true) : refuseLoop self "__setattr__" l = pure () := by
  obtain ⟨cs, rfl⟩ := over_split e
  induction cs with
  | nil => exact refuse_ve self
  | cons c cs ih => rw [List.map_cons, List.cons_append, refuseLoop_ref]; exact ih e
theorem over_has {l : List Value} (e : overVE l = true) : l.contains (.type "object") = true := by
  obtain ⟨cs, rfl⟩ := over_split e
  simp
section
variable {prog : Program} {w : World} {A : Around} {R : Result → Shared → Prop} {s : Shared} {K : Frag} {x C : Addr} {ox : Obj}
def errOver (K : Frag) (C : Addr) : Bool := (clsIn K C).any fun cd => overVE cd.mro && cd.hasDict
theorem exc_store {name : Str} {tk : Tok} {v : Value} {vs : Array Value} (X : K.In s.heap) (I : InstAt s.heap x ox C none) (hdt : ox.dict = none) (hda : ox.data = .fields vs) (hp : errOver K C = true) (ht : findIn K (.ref C) name = some none)
    (h : ∀ (h' : Heap) (d : Addr), (∀ b o, b ≠ x → s.heap.get? b = some o → h'.get? b = some o) → h'.get? x = some { ox with dict := some d } → s.heap.get? d = none → d ≠ x →
      h'.get? d = some { cls := .type "dict", data := .dict #[⟨if name.cps.isEmpty = true then 0 else reduceHash (w.params.strHash name.cps), .str name s.toks, v⟩] 1 } → R (.ok (.ret .none)) { s with heap := h', toks := s.toks + 1 }) :
    codeAny (model prog w) A (.call (.builtin "object.__setattr__") ⟨[.ref x, .str name tk, v], []⟩) R s := by
  obtain ⟨cd, hc, ho⟩ := any_some hp
  rw [Bool.and_eq_true] at ho
  have st := PySem.F.store_object
  have ne : cd.mro.isEmpty = false := by cases q : cd.mro with | nil => rw [q] at ho; cases ho.1 | cons _ _ => rfl
  have sub : Looks (model prog w) s.heap (isInstance (.ref x) (.type "object")) true := I.type.andThen (looks_mroIn X (by unfold mroIn; rw [hc, Option.bind_some, if_neg (by rw [ne]; decide), over_has ho.1]))
  refine codeAny_call_builtin st.slot.plain st.entry (@check_slot (model prog w) _ _ s "object.__setattr__" "object" "__setattr__" (.ref x) [.str name tk, v] [] _ st.kind st.split sub (st.args (.ref x) (.str name tk) v) ?_)
  have hm : Looks (model prog w) s.heap (mroOf (.ref C)) cd.mro := (looks_clsIn X hc).andThen .now
  rw [osa_eq, refuse_eq]
  refine wpAny_bind (wpAny_bind (I.type.here (wpAny_bind (hm.here ?_))))
  rw [refuse_over _ ho.1]
  refine wpAny_pure (wpAny_bind (I.type.here (wpAny_bind ((looks_findIn X ht).here (wpAny_bind (wpAny_pure ?_))))))
  show wpAny _ _ (Builtin.ObjectAttr.storeInOwnDict _ _ _ _ _ _) _ _ _
  obtain ⟨hx, hcl, hn, -⟩ := I
  obtain ⟨oc, odi, oda, osl⟩ := ox
  dsimp only at hcl hdt hda
  subst hcl hdt hda
  refine wpAny_bind (wpAny_pure (wpAny_bind (wpAny_bind (wpAny_loadPart hx (wpAny_bind ((looks_clsIn X hc).here ?_))))))
  rw [ho.2]
  rw [if_neg (by decide)]
  dsimp only
  rw [if_neg (show ¬ (!true || !typeHasDict (Value.ref C)) = true from by rw [show typeHasDict (Value.ref C) = true from rfl]; decide)]
  have hx1 := Heap.get?_push_of_some (h := s.heap) ({ cls := Value.type "dict", data := Data.dict #[] } : Obj) hx
  refine wpAny_bind (wpAny_alloc (wpAny_bind (wpAny_update hx1 ?_)))
  refine wpAny_pure ?_
  have hdx : s.heap.objs.size ≠ x := Nat.ne_of_gt (Heap.lt_size hx)
  have hx2 := Heap.get?_update_self (fun o : Obj => { cls := o.cls, dict := some s.heap.objs.size, data := o.data, slots := o.slots }) hx1 (by rfl)
  have hd2 := (Heap.get?_update_other (h := s.heap.push ({ cls := Value.type "dict", data := Data.dict #[] } : Obj)) (fun o : Obj => { cls := o.cls, dict := some s.heap.objs.size, data := o.data, slots := o.slots }) (b := s.heap.objs.size) (a := x) (Ne.symm hdx)).trans (Heap.get?_push_size _ rfl)
  dsimp only
  show wpAny _ _ (Builtin.ObjectAttr.storeInDict _ _ _ _) _ _ _
  unfold Builtin.ObjectAttr.storeInDict
  refine wpAny_bind (wpAny_pure (wpAny_bind ?_))
  unfold nsSet
  refine wpAny_bind (wpAny_bind (wpAny_askSetting (wpAny_pure (wpAny_bind (wpAny_mkText (wpAny_bind (wpAny_loadPart hd2 ?_)))))))
  dsimp only
  rw [if_neg (show ¬ aRefKeyMayBeTheName name #[] = true from by rw [aRefKeyMayBeTheName_at]; simp)]
  refine wpAny_updatePart hd2 ?_
  have hput : ∀ hh : Int, Obj.putName name hh (.str name s.toks) v ({ cls := Value.type "dict", data := Data.dict #[] } : Obj) = { cls := Value.type "dict", data := Data.dict #[⟨hh, .str name s.toks, v⟩] 1 } := fun hh => by rfl
  have hd3 := Heap.get?_update_self (Obj.putName name (if name.cps.isEmpty = true then 0 else reduceHash ((model prog w).w.params.strHash name.cps)) (Value.str name s.toks) v) hd2 (by rw [hput]; rfl)
  rw [hput] at hd3
  have hx3 := (Heap.get?_update_other (Obj.putName name (if name.cps.isEmpty = true then 0 else reduceHash ((model prog w).w.params.strHash name.cps)) (Value.str name s.toks) v) (h := (s.heap.push ({ cls := Value.type "dict", data := Data.dict #[] } : Obj)).update x fun o : Obj => { cls := o.cls, dict := some s.heap.objs.size, data := o.data, slots := o.slots }) (a := s.heap.objs.size) (b := x) hdx).trans hx2
  refine wpAny_bind (wpAny_lookBehind hd3 (pastItsLine_dict (show 1 ≤ sizeLine + 1 from by decide)) (wpAny_pure ?_))
  refine h _ s.heap.objs.size (fun b o hb hbo => ?_) hx3 (Heap.get?_none_of_le (Nat.le_refl _)) hdx hd3
  have hbd : s.heap.objs.size ≠ b := Nat.ne_of_gt (Heap.lt_size hbo)
  exact (Heap.get?_update_other _ _ hbd).trans ((Heap.get?_update_other _ _ (Ne.symm hb)).trans (Heap.get?_push_of_some _ hbo))
end
end PySem.W

/-! ## B.__init__(self, text) of an error -/
namespace PySem.W
open PySem PySem.Spec PySem.Calls PyProof.Rows
section
variable {prog : Program} {w : World} {A : Around} {E : Value → Shared → Prop} {h : Heap} {g : Array GenState} {d : Drawn} {t : Nat} {os : OsState} {nm q : Str} {C N e a0 : Addr} {bs bm : List Value} {hdct : Bool} {sn : List Str} {sub : List Value} {ab : Bool} {col : Option Bool} {dd : Option Addr} {k0 k1 k2 k3 k5 : Option Value} {newId : String}
theorem ve_init {bmB : List Value} (F : ExcBaseFacts "ValueError" newId "ValueError.__init__" bmB) (T : OwnTail h bmB bm) {u : Value} {Q : Value → Shared → Prop} (hC : h.get? C = some (excClassObj nm q C N bs bm hdct sn sub ab col dd k0 k1 k2 k3 k5 newId))
    (he : h.get? e = some { cls := .ref C, data := .fields #[.ref a0, .none, .none, .none, .bool false, .none] })
    (hq : ∀ (h' : Heap) (tu : Addr), (∀ b o, b ≠ e → h.get? b = some o → h'.get? b = some o) → h'.get? e = some { cls := .ref C, data := .fields #[.ref tu, .none, .none, .none, .bool false, .none] } → Q .none ⟨h', g, d, t, os⟩) :
    wpAny (model prog w) A (call (.builtin "ValueError.__init__") [.ref e, u]) Q E ⟨h, g, d, t, os⟩ := by
  refine wpAny_call (codeAny_call_builtin F.init.plain F.initEntry (wpAny_check_init_subU (rest := [u]) F T hC he rfl ?_))
  wp_walk
  have he1 := Heap.get?_push_of_some (h := h) ({ cls := Value.type "tuple", data := Data.seq #[u] } : Obj) he
  refine hq _ h.objs.size (fun b o hb hbo => (Heap.get?_update_other _ _ (Ne.symm hb)).trans (Heap.get?_push_of_some _ hbo)) ?_
  rw [Heap.get?_update_self _ he1 rfl]
  rfl
end
end PySem.W

/-! ## an error class of the program's own, below another of its own, with an __init__ of its own: C(..)
(the steps of making are those of the library's theorems for such classes without an __init__; what is new is that the lookup finds a def) -/
namespace PySem.W
open PySem PySem.Spec PySem.Calls PyProof.Rows
section
variable {prog : Program} {w : World} {A : Around} {E : Value → Shared → Prop} {h : Heap} {g : Array GenState} {d : Drawn} {t : Nat} {os : OsState}
variable {nm q : Str} {C N f : Addr} {bs bm up : List Value} {hdct : Bool} {sn : List Str} {sub : List Value} {ab : Bool} {col : Option Bool} {dd : Option Addr} {k0 k1 k2 k3 k5 : Option Value} {B nw nid ini inN Bn : String} {upN : List Value} {names : Str → Option Value} {us : List Value} {of : Obj}
theorem made_init (Fn : ExcBaseFacts Bn nw inN upN) (hBn : up.contains (.type Bn) = true) (F : ExcBaseFacts B nid ini up) (T : OwnTail h up bm) {Q : Fin → Shared → Prop}
    (hC : h.get? C = some (excClassObj nm q C N bs bm hdct sn sub ab col dd k0 k1 k2 k3 k5 nw)) (hN : h.Ns N names) (hf : names "__init__" = some (.ref f)) (ho : h.get? f = some of) (hcl : of.cls = .type "function") (hu : us.length ≤ sizeLine)
    (run : ∀ h' e, Heap.MadeExcOf h h' e (.ref C) us → wpAny (model prog w) A (call (.ref f) (.ref e :: us)) (fun r s' => r = .none ∧ Q (.done (.ret (.ref e))) s') E ⟨h', g, d, t, os⟩) :
    wpAny (model prog w) A (Builtin.«type.__call__» ⟨.ref C :: us, []⟩) Q E ⟨h, g, d, t, os⟩ := by
  have keep : ∀ {b : Addr} {o : Obj} (x y : Obj), h.get? b = some o → ((h.push x).push y).get? b = some o := fun x y z => Heap.get?_push_of_some y (Heap.get?_push_of_some x z)
  repeat
    first
    | with_reducible refine wpAny_loadPart_at hC ?_
    | with_reducible refine wpAny_madeBy_exc hC ?_
    | wp_step
  refine codeAny_call_builtin_code (Code.quiet_builtin _ Fn.quiet) ?_
  refine wpAny_check_new_subU Fn hBn T hC ?_
  refine codeAny_exc_new_subU (rest := us) Fn hBn F T hC ?_ hu
  show wpAny _ _ _ _ _ _
  generalize htu : ({ cls := Value.type "tuple", data := .seq us.toArray } : Obj) = tu
  have atE : ((h.push tu).push { cls := .ref C, data := .fields #[.ref h.objs.size, .none, .none, .none, .bool false, .none] }).get? (h.objs.size + 1) = some { cls := .ref C, data := .fields #[.ref h.objs.size, .none, .none, .none, .bool false, .none] } := by rw [← htu]; heap_get
  have atT : ((h.push tu).push { cls := .ref C, data := .fields #[.ref h.objs.size, .none, .none, .none, .bool false, .none] }).get? h.objs.size = some tu := Heap.get?_push_of_some _ (Heap.get?_push_size _ (by rw [← htu]; rfl))
  generalize hex : ({ cls := Value.ref C, data := .fields #[.ref h.objs.size, .none, .none, .none, .bool false, .none] } : Obj) = ex at atE atT ⊢
  have k := keep (b := C) tu ex hC
  have kf := keep tu ex ho
  have kN : ((h.push tu).push ex).Ns N names := by
    obtain ⟨o, es, ep, z, r⟩ := hN
    exact ⟨o, es, ep, keep tu ex z, r⟩
  have kT := T.keeps (h' := (h.push tu).push ex) fun b o z => keep tu ex z
  have own : (Value.ref C :: bm).contains (.ref C) = true := by simp
  have cE : ex.cls = .ref C := by rw [← hex]
  unfold isInstance
  repeat
    first
    | (with_reducible refine wpAny_loadPart_at atE ?_; rw [cE])
    | (with_reducible refine wpAny_isSubtype_exc k ?_; rw [own])
    | wp_step
  show wpAny _ _ (typeLookup (.ref C) _) _ _ _
  refine wpAny_typeLookup_tail k kN kT F.mroIs F.init.lookup ?_
  rw [hf]
  refine wpAny_holding (wpAny_bind ?_)
  unfold bindSpecial
  refine wpAny_bind (wpAny_typeOf (T := "function") ⟨of, kf, hcl⟩ ?_)
  rw [if_pos (by decide)]
  have made : Heap.MadeExcOf h ((h.push tu).push ex) (h.objs.size + 1) (.ref C) us := by
    subst htu hex
    exact ⟨fun b o z => keep _ _ z, Heap.get?_none_of_le (Nat.le_succ _), h.objs.size, atE, Heap.get?_none_of_le (Nat.le_refl _), atT⟩
  refine wpAny_pure (wpAny_bind (wpAny_mono (run _ _ made) (fun r s' z => ?_) fun _ _ z => z))
  obtain ⟨rfl, z⟩ := z
  wp_walk
  exact z
/-- the call of the class -/
theorem call_init (Fn : ExcBaseFacts Bn nw inN upN) (hBn : up.contains (.type Bn) = true) (F : ExcBaseFacts B nid ini up) (T : OwnTail h up bm) {Q : Value → Shared → Prop}
    (hC : h.get? C = some (excClassObj nm q C N bs bm hdct sn sub ab col dd k0 k1 k2 k3 k5 nw)) (hN : h.Ns N names) (hf : names "__init__" = some (.ref f)) (ho : h.get? f = some of) (hcl : of.cls = .type "function") (hu : us.length ≤ sizeLine)
    (run : ∀ h' e, Heap.MadeExcOf h h' e (.ref C) us → wpAny (model prog w) (A.under (.builtin "type.__call__" ⟨.ref C :: us, []⟩)) (call (.ref f) (.ref e :: us)) (fun r s' => r = .none ∧ Q (.ref e) s') E ⟨h', g, d, t, os⟩) :
    wpAny (model prog w) A (call (.ref C) us) Q E ⟨h, g, d, t, os⟩ := by
  have l1 := tc_lookup
  have l2 := tc_bind (.ref C)
  have ty : (⟨h, g, d, t, os⟩ : Shared).TypeIs (.ref C) "type" := ⟨_, hC, rfl⟩
  refine wpAny_call (codeAny_of_tree ?_)
  show wpAny _ _ (callAny (.ref C) _) _ _ _
  repeat
    any_goals
      first
      | assumption
      | with_reducible refine wpAny_loadPart_at hC ?_
      | wp_step
  refine ⟨rfl, codeAny_call_builtin_at (Code.quiet_builtin _ (by decide +kernel)) entry_typeCall ?_⟩
  refine wpAny_check_type_call_sub hC (made_init Fn hBn F T hC hN hf ho hcl hu fun h' e m => ?_)
  exact run h' e m
end
end PySem.W

/-! ## errors with an __init__ and a field of their own: made, raised, their field read
(the raising and the reading of an attribute run alongside the library's wpAny_raiseStmt_made_sub and cls_open, which speak of other objects) -/
namespace PySem.W
open PySem PySem.Spec PySem.Calls PyProof.Rows
/-- an error as it is made, before it has been raised -/
def ExcRaw (d : Option Addr) (e C : Addr) (h : Heap) : Prop := ∃ a0 : Addr, h.get? e = some { cls := .ref C, dict := d, data := .fields #[.ref a0, .none, .none, .none, .bool false, .none] }
section
variable {prog : Program} {w : World} {A : Around} {E : Value → Shared → Prop} {s : Shared} {K : Frag} {x C : Addr} {ox : Obj} {od : Option Obj} {name : Str}
theorem exc_attr {v : Value} {expr : Bool} {Q : Value → Shared → Prop} (X : K.In s.heap) (I : InstAt s.heap x ox C od) (k : ExcK K C) (hf : findObj K C od name = some (.value v)) (hh : handedIn v = true)
    (h : Q v { s with toks := s.toks + 1 }) : wpAny (model prog w) A (getAttr (.ref x) name expr) Q E s := by
  obtain ⟨hp, g, d, t, os⟩ := s
  have L0 := I.type (M := model prog w)
  have L1 := looks_findIn (M := model prog w) X k.ga
  have L2 := looks_findIn (M := model prog w) X k.gt
  have L3 := looks_find (M := model prog w) X I hf
  have hbind := PySem.F.excAttr_ValueError.ga.bind (.ref x)
  unfold getAttr getAttrBy
  refine wpAny_bind (wpAny_mkText (wpAny_holding (wpAny_bind (L0.at (wpAny_bind (L1.at ?_))))))
  dsimp only
  rw [if_neg (by intro z; rw [Bool.and_eq_true] at z; exact absurd z.2 (by decide +kernel))]
  unfold getAttrByItsOwn hookBefore
  rw [if_pos (show onTheHeap (Value.ref C) = true from rfl)]
  refine wpAny_bind (L2.at (wpAny_bind (wpAny_attempt (wpAny_holding ?_))))
  unfold callGetattribute boundAndCalled
  rw [if_neg (by intro z; rw [Bool.and_eq_true] at z; exact absurd z.2 (by decide))]
  refine wpAny_bind (wpAny_of_eq hbind ?_)
  refine wpAny_call (codeAny_call_builtin PySem.F.excAttr_ValueError.ga.plain F.entry_bexc_ga (check_ga_exc (s := ⟨hp, g, d, t + 1, os⟩) X I k ?_))
  refine wpAny_bind (wpAny_pure (wpAny_bind (wpAny_pure (wpAny_bind (L0.at (wpAny_bind (L3.at ?_)))))))
  refine wpAny_pure ?_
  exact handed_on hh h
theorem raise_made {M : Model} {nm q : Str} {N : Addr} {bs bm : List Value} {hdct : Bool} {sn : List Str} {sub : List Value} {ab : Bool} {col : Option Bool} {dd : Option Addr} {k0 k1 k2 k3 k5 : Option Value} {newId : String} {env : Env} {m : Sem Value} {Q : Flow → Shared → Prop}
    (hbase : bm.contains (.type "BaseException") = true) (hh : A.handled = none)
    (h : wpAny M A m (fun v s₁ => ∃ e de, v = .ref e ∧ s₁.heap.get? C = some (excClassObj nm q C N bs bm hdct sn sub ab col dd k0 k1 k2 k3 k5 newId) ∧ ExcRaw de e C s₁.heap ∧ E (.ref e) s₁) E s) :
    wpAny M A (raiseStmt env (some m) none) Q E s := by
  have own : (Value.ref C :: bm).contains (.type "BaseException") = true := by rw [List.contains_cons, hbase, Bool.or_true]
  unfold raiseStmt
  refine wpAny_bind (wpAny_mono h (fun v s₁ z => ?_) fun _ _ y => y)
  obtain ⟨e, de, rfl, hC, ⟨a0, he⟩, hE⟩ := z
  obtain ⟨hp, g, d, t, os⟩ := s₁
  repeat (first | with_reducible refine wpAny_loadPart_at he ?_ | with_reducible refine wpAny_loadPart_at hC ?_ | (with_reducible refine wpAny_isSubtype_exc hC ?_; rw [own]) | wp_step)
  exact wpAny_raiseNew_none hh hE
end
end PySem.W
namespace L2
open PySem PySem.Spec PyProof.Rows
/-- the class R whose __init__ is ValueError's -/
structure RootK (K : PySem.W.Frag) (mg : Str → Option Value) (x : Str) (R : Addr) : Prop where
  bound : mg x = some (.ref R)
  sp : PySem.W.specialIn K (.ref R) "__getattribute__" = some (some (.builtin "type.__getattribute__"))
  rd : PySem.W.readsIn K R (.type "type") = true
  fi : PySem.W.findCls K (.ref R) (.type "type") "__init__" = some (.val (.builtin "ValueError.__init__"))
/-- a class whose instances take a field -/
structure FldK (K : PySem.W.Frag) (C : Addr) (fld : Str) : Prop where
  ex : ∀ h, K.In h → IsExc h C
  kx : PySem.W.ExcK K C
  sa : PySem.W.findIn K (.ref C) "__setattr__" = some (some (.builtin "object.__setattr__"))
  ov : PySem.W.errOver K C = true
  nf : PySem.W.findIn K (.ref C) fld = some none
  hd : PySem.W.hasDictIn K C = true
/-- an error class with an __init__ of its own -/
structure ErrI (K : PySem.W.Frag) (mg : Str → Option Value) (x : Str) (C f : Addr) : Prop where
  b : ErrB K mg x C
  ini : ∀ h, K.In h → ∃ bm N nm qn bs hdct sn sub ab col dd k0 k1 k2 k3 k5 mN, h.get? C = some (excClassObj nm qn C N bs bm hdct sn sub ab col dd k0 k1 k2 k3 k5 "ValueError.__new__") ∧ h.Ns N mN ∧ mN "__init__" = some (.ref f) ∧ OwnTail h baseVE bm
  fn : ∀ h, K.In h → ∃ o : Obj, h.get? f = some o ∧ o.cls = .type "function"
  kp : PySem.W.keepIn K (.ref C) = true
theorem upd_eq {H : Hp} {a : Addr} {o : HO} (e : H a = some o) : upd H a o = H := funext fun b => by
  by_cases c : b = a
  · rw [c, upd_same, e]
  · exact upd_ne c
theorem raw_ext {P : Program} {w : World} {H : Hp} {h : Heap} {d : Option Addr} {a C : Addr} (p : PySem.W.ExcRaw d a C h) : ObjOk P w H h a (.ext (PySem.W.ExcRaw d a C)) :=
  ⟨p, let ⟨_, e⟩ := p; ⟨_, e⟩, fun _ _ ⟨a0, e⟩ k => ⟨a0, k _ e⟩⟩
section
variable {X : Cx} {Rn f : Str} {R : Addr} {o e value : Expr} {es : List Expr} {p pos apos pos' : Pos} {t : TA} {ta tv : TE} {pl : Sem Bool}
/-- R.__init__(self, text) -/
def tInitV (K : PySem.W.Frag) (t : TA) : TE := fun σ H Q => t σ H fun vs H1 => ∃ ea C u, vs = [.ref ea, u] ∧ H1 ea = some (.ext (PySem.W.ExcRaw none ea C)) ∧ (∀ h, K.In h → IsExc h C) ∧ Q .non H1
theorem pe_initV {K : PySem.W.Frag} (O : RootK X.K X.mg Rn R) (hg : Gl X Rn) (ha : PA X (e :: es) t) (hdb : (Rn == ("__debug__" : Str)) = false := by decide) (hK : X.K = K := by rfl)
    (hst : starEach (e :: es) X.env = (false, eval e X.env) :: starEach es X.env := by rfl) (hpl : (backTo pos (starEach es X.env)).any (·.1) = false := by rfl)
    (ht : eval (.Call (.Attribute (.Name Rn p) "__init__" apos) (e :: es) [] pos) X.env = (do
      let ov ← eval (.Name Rn p) X.env
      standAt apos.atName
      let (f, first) ← holding [ov] (getMethod ov "__init__" pl)
      callWith pos f first (backTo pos (starEach (e :: es) X.env)) (backToKw pos (keywordEach [] X.env))) := by rfl) :
    PE X (.Call (.Attribute (.Name Rn p) "__init__" apos) (e :: es) [] pos) (tInitV K t) := by
  subst hK
  intro pins s σ H Q I h
  refine PySem.W.methodCall_KW (pl := pl) (ld_glob I hg O.bound ?_ hdb) ht
  refine PySem.W.method_cls I.kIn O.sp (PySem.W.cls_value I.kIn O.rd O.fi (by decide +kernel) ?_)
  refine PyProof.Rows.callWith_builtin1 (thn (ha pos pins _ σ H _ (I.tok _) h) fun us s1 ⟨vs, H1, I1, r, q⟩ => ?_) hst hpl
  obtain ⟨ea, C, u, rfl, e1, ex, q⟩ := q
  obtain ⟨v1, v2, rfl, r1, r2⟩ := r.two
  obtain rfl : v1 = Value.ref ea := r1
  obtain ⟨⟨a0, h1⟩, _, _⟩ := (show ObjOk X.prog X.w H1 s1.heap ea (.ext (PySem.W.ExcRaw none ea C)) from I1.hok ea _ e1)
  obtain ⟨bm, N, nm, qn, bs, hdct, sn, sub, ab, col, dd, k0, k1, k2, k3, k5, hC, TL⟩ := ex _ I1.kIn
  obtain ⟨hp, g, d, tk, os⟩ := s1
  refine PySem.W.ve_init (a0 := a0) PySem.F.excBase_ValueError TL hC h1 fun h' tu keep at_ => ?_
  have I2 := Inv.write (t' := tk) (h' := h') (x := ea) (e := ea) (o := .ext (PySem.W.ExcRaw none ea C)) I1 (by rw [e1]; exact True.intro) (.inl rfl) keep ⟨_, at_⟩ (raw_ext ⟨tu, at_⟩)
  rw [upd_eq e1] at I2
  exact ⟨.non, H1, I2, rfl, q⟩
/-- self.f = value, the first field of an error -/
def sFldX (K : PySem.W.Frag) (ta tv : TE) (f : Str) : TS := fun D σ H => tv σ H fun y H1 => ta σ H1 fun x H2 => ∃ a C, x = .ref a ∧ H2 a = some (.ext (PySem.W.ExcRaw none a C)) ∧ FldK K C f ∧
  ∀ d, H2 d = none → D.nx σ (upd (upd H2 a (.ext (PySem.W.ExcRaw (some d) a C))) d (.xd [(f, y)]))
theorem ns1_one {h : Heap} {d : Addr} {hs : Int} {name : Str} {tk : Tok} {v : Value} (e : h.get? d = some { cls := .type "dict", data := .dict #[⟨hs, .str name tk, v⟩] 1 }) : h.Ns1 d fun g => if g = name then some v else none := by
  refine ⟨_, _, _, e, rfl, fun x hx => ?_, ?_, fun g => ?_⟩
  · have : x = ⟨hs, .str name tk, v⟩ := by simpa using hx
    exact ⟨name, tk, by rw [this]⟩
  · unfold UniqKeys
    simp
  · unfold nsFind findBy
    by_cases c : g = name
    · subst c
      simp [Value.isStr]
    · have c' : ¬ name = g := fun z => c z.symm
      simp [Value.isStr, c, c']
theorem ps_fldX {K : PySem.W.Frag} (ha : PE X o ta) (hv : PE X value tv) (hex : X.ex = [] := by rfl) (hs : swapsWith value (some (.Attribute o f pos')) pos.line X.env = pure false := by rfl) (hK : X.K = K := by rfl) :
    PS X (.Assign [.Attribute o f pos'] value pos) (sFldX K ta tv f) := by
  subst hK
  intro pins s σ H D I h
  refine plainObj_wpAny_Assign_Attribute (thn (hv pins s σ H _ I h) fun u s1 ⟨y, H1, I1, ry, q⟩ => thn (ha pins s1 σ H1 _ I1 q) fun ov s2 ⟨x, H2, I2, rx, a, C, ex, ea, c, q2⟩ => ?_) hs
  subst ex
  obtain rfl : ov = Value.ref a := rx
  obtain ⟨⟨a0, h1⟩, _, _⟩ := (show ObjOk X.prog X.w H2 s2.heap a (.ext (PySem.W.ExcRaw none a C)) from I2.hok a _ ea)
  have IA : PySem.W.InstAt s2.heap a { cls := .ref C, dict := none, data := .fields #[.ref a0, .none, .none, .none, .bool false, .none] } C none := ⟨h1, rfl, rfl, trivial⟩
  refine PySem.W.set_plain I2.kIn IA c.sa (PySem.W.exc_store (s := { s2 with toks := s2.toks + 1 }) I2.kIn IA rfl rfl c.ov c.nf fun h' d keep at_ dn dx dat => ?_)
  obtain ⟨z1, z2, z3, z4, z5⟩ := I2.out hex dn
  have I3 := Inv.write (t' := s2.toks + 1 + 1) (h' := h') (x := a) (e := a) (o := .ext (PySem.W.ExcRaw (some d) a C)) I2 (by rw [ea]; exact True.intro) (.inl rfl) keep ⟨_, at_⟩ (raw_ext ⟨a0, at_⟩)
  have hn : (upd H2 a (HO.ext (PySem.W.ExcRaw (some d) a C))) d = none := by rw [upd_ne dx]; exact z2
  have I4 := I3.track (o := .xd [(f, y)]) hn z1 z3 z4 z5 ⟨_, ns1_one dat, fun g => ?_⟩
  · exact ⟨σ, _, I4, q2 d z2⟩
  · by_cases c : g = f
    · subst c
      simp only [List.lookup, beq_self_eq_true, if_true]
      exact ry
    · have c' : (g == f) = false := by simpa using c
      simp only [List.lookup, c', if_neg c]
      exact True.intro
/-- e.f of a caught error -/
def tFldX (K : PySem.W.Frag) (ta : TE) (f : Str) : TE := fun σ H Q => ta σ H fun x H1 => ∃ a C d fs v, x = .ref a ∧ H1 a = some (.ext (PySem.W.ExcIs (some d) a C)) ∧ H1 d = some (.xd fs) ∧ FldK K C f ∧ fs.lookup f = some v ∧ Q v H1
theorem pe_fldX {K : PySem.W.Frag} (he : PE X e ta) (hb : attributeBase e f X.env (eval e X.env) = eval e X.env := by rfl) (hK : X.K = K := by rfl) : PE X (.Attribute e f pos) (tFldX K ta f) := by
  subst hK
  intro pins s σ H Q I h
  refine attr_of hb (thn (he pins s σ H _ I h) fun u s1 ⟨x, H1, I1, rx, a, C, d, fs, v, ex, ea, ed, c, l, q⟩ => ?_)
  subst ex
  obtain rfl : u = Value.ref a := rx
  obtain ⟨p1, _, _⟩ := (show ObjOk X.prog X.w H1 s1.heap a (.ext (PySem.W.ExcIs (some d) a C)) from I1.hok a _ ea)
  obtain ⟨mA, n, r⟩ := (show ObjOk X.prog X.w H1 s1.heap d (.xd fs) from I1.hok d _ ed)
  obtain ⟨od, ho, hl⟩ := lookIn_ns n
  obtain ⟨oe, IA⟩ := p1.instD ho
  obtain ⟨u', hu, ru⟩ := RelO.some_of (v := v) (o := mA f) (by rw [← l]; exact r f)
  exact PySem.W.exc_attr I1.kIn IA c.kx (PySem.W.findObj_own c.hd c.nf rfl (by rw [hl, hu])) (handed_of ru) ⟨v, H1, I1.tok _, ru, q⟩
end
/-! ### isinstance of a caught error that may have a dict -/
def ErrAt (H : Hp) (ea C : Addr) : Prop := H ea = some (.ext (PySem.W.ExcAt ea C)) ∨ ∃ d fs, H ea = some (.ext (PySem.W.ExcIs (some d) ea C)) ∧ H d = some (.xd fs)
theorem ErrAt.inst {P : Program} {w : World} {H : Hp} {h : Heap} {ea C : Addr} (hok : HOk P w H h) (e : ErrAt H ea C) : ∃ o od, PySem.W.InstAt h ea o C od := by
  rcases e with e | ⟨d, fs, e, ed⟩
  · obtain ⟨p, _, _⟩ := (show ObjOk P w H h ea (.ext (PySem.W.ExcAt ea C)) from hok ea _ e)
    obtain ⟨o, I⟩ := PySem.W.ExcAt.inst p
    exact ⟨o, none, I⟩
  · obtain ⟨p, _, _⟩ := (show ObjOk P w H h ea (.ext (PySem.W.ExcIs (some d) ea C)) from hok ea _ e)
    obtain ⟨mA, n, r⟩ := (show ObjOk P w H h d (.xd fs) from hok d _ ed)
    obtain ⟨od, ho, hl⟩ := lookIn_ns n
    obtain ⟨o, I⟩ := p.instD ho
    exact ⟨o, some od, I⟩
section
variable {X : Cx} {K : PySem.W.Frag}
def rIsiCD (K : PySem.W.Frag) : List V → Hp → VK → Prop := fun xs H Q => ∃ (ea C D : Addr) (b : Bool), xs = [.ref ea, .ref D] ∧ ErrAt H ea C ∧ PySem.W.ExcK K C ∧ PySem.W.kitOne K (.ref C) (.ref D) = some b ∧ Q (.bl b) H
theorem call_isiCD (hK : X.K = K := by rfl) : CallR X (.builtin "isinstance") (rIsiCD K) := by
  subst hK
  intro pins s σ H xs us Q I rv ⟨ea, C, D, b, e, h1, k, ka, q⟩
  subst e
  obtain ⟨u, v, rfl, ru, rw'⟩ := rv.two
  cases ru
  cases rw'
  exact PySem.W.kia_one (H := fun h => ∃ o od, PySem.W.InstAt h ea o C od) (PySem.W.kitx_inst (fun _ p => p) k) I.kIn (h1.inst I.hok) ka (fun z => by cases z) fun tk => ⟨.bl b, H, I.tok tk, rfl, q⟩
def rIsiVD (K : PySem.W.Frag) : List V → Hp → VK → Prop := fun xs H Q => ∃ ea C T b, xs = [.ref ea, .ty T] ∧ ErrAt H ea C ∧ PySem.W.ExcK K C ∧ PySem.W.kitOne K (.ref C) (.type T) = some b ∧ Q (.bl b) H
theorem call_isiVD (hK : X.K = K := by rfl) : CallR X (.builtin "isinstance") (rIsiVD K) := by
  subst hK
  intro pins s σ H xs us Q I rv ⟨ea, C, T, b, e, h1, k, ka, q⟩
  subst e
  obtain ⟨u, v, rfl, ru, rw'⟩ := rv.two
  cases ru
  cases (show v = Value.type T from rw')
  exact PySem.W.kia_one (H := fun h => ∃ o od, PySem.W.InstAt h ea o C od) (PySem.W.kitx_inst (fun _ p => p) k) I.kIn (h1.inst I.hok) ka (fun z => by cases z) fun tk => ⟨.bl b, H, I.tok tk, rfl, q⟩
end
/-! ### raise C(..) -/
theorem Inv.untrack {X : Cx} {pins : List (Addr × Obj)} {σ : St} {H : Hp} {s : Shared} {e : Addr} {φ : Heap → Prop} (I : Inv X pins σ H s) (he : H e = some (.ext φ)) (h0 : X.s₀.heap.get? e = none) : Inv X pins σ (del H e) s := by
  have ne : ∀ b u, X.s₀.heap.get? b = some u → b ≠ e := fun b u q z => by rw [z, h0] at q; cases q
  refine ⟨I.ok, I.os, I.bare, ⟨I.base.keep, I.base.slot, fun b u q n hx => ?_, I.base.there, fun b xs q => ?_, fun b u xs q => ?_, fun b ps q => ?_⟩, I.loc, I.cell, ?_, fun x c q => ?_, fun p hpp => ?_, fun b u q => ?_, I.len⟩
  · rw [del_ne (ne b u q)]; exact I.base.free b u q n hx
  · have z := I.base.tups b xs q
    rw [del_ne fun y => by rw [y, he] at z; cases z]; exact z
  · have z := I.base.frzs b u xs q
    rw [del_ne fun y => by rw [y, he] at z; cases z]; exact z
  · obtain ⟨more, z⟩ := I.base.tbls b ps q
    exact ⟨more, by rw [del_ne fun y => by rw [y, he] at z; cases z]; exact z⟩
  · rw [del_ne fun y => by have z := I.free; rw [y, he] at z; cases z]; exact I.free
  · rw [del_ne fun y => by have z := I.freeC x c q; rw [y, he] at z; cases z]; exact I.freeC x c q
  · obtain ⟨a, b, c, d, f⟩ := I.pin p hpp
    exact ⟨a, by rw [del_ne fun y => by rw [y, he] at b; cases b]; exact b, c, d, f⟩
  · have hb : b ≠ e := fun z => by rw [z, del_same] at q; cases q
    rw [del_ne hb] at q
    exact (I.hok b u q).stay (fun _ _ _ z => z) (fun c z => by rw [del_ne fun y => by rw [y, he] at z; cases z]; exact z) fun c xs z => by rw [del_ne fun y => by rw [y, he] at z; cases z]; exact z
def tRaiseI (C : Addr) (sp : Sp) (E : XK) (ta : TA) : TS := fun _ σ H => ta σ H fun vs H1 => ∀ ea, H1 ea = none → sp (.ref ea :: vs) (upd H1 ea (.ext (PySem.W.ExcRaw none ea C))) (fun v H2 => v = .non ∧ ∃ d, H2 ea = some (.ext (PySem.W.ExcRaw d ea C)) ∧ E (.ref C) d (del H2 ea)) E0
section
variable {P : Program} {w : World} {K : PySem.W.Frag} {mg : Str → Option Value} {base : Heap} {N : List Str} {qual : Str} {scope : Scope} {f : Addr} {cdv : Value} {A : Around} {outer : List Env} {s₀ : Shared} {H₀ : Hp} {E : XK}
theorem ps_raiseI {x : Str} {C g : Addr} {np cpos pos : Pos} {k k' : Nat} {e : Expr} {es : List Expr} {fd : FuncData} {ps : List Str} {sp : Sp} {ta : TA} (T : ErrI K mg x C g) (F : FnOk P w K mg base CX0 k g fd ps sp) (hb : Binds K fd ps [])
    (hr : Room k' (cxOf (CX1 P w) P w K mg base N qual scope f cdv A outer s₀ H₀ E).A) (hg : Gl (cxOf (CX1 P w) P w K mg base N qual scope f cdv A outer s₀ H₀ E) x) (ha : PA (cxOf (CX1 P w) P w K mg base N qual scope f cdv A outer s₀ H₀ E) (e :: es) ta) (hk : k + 1 ≤ k' := by decide) (hd : (x == ("__debug__" : Str)) = false := by decide)
    (he : starEach (e :: es) (cxOf (CX1 P w) P w K mg base N qual scope f cdv A outer s₀ H₀ E).env = (false, eval e (cxOf (CX1 P w) P w K mg base N qual scope f cdv A outer s₀ H₀ E).env) :: starEach es (cxOf (CX1 P w) P w K mg base N qual scope f cdv A outer s₀ H₀ E).env := by rfl)
    (hpl : (backTo cpos (starEach es (cxOf (CX1 P w) P w K mg base N qual scope f cdv A outer s₀ H₀ E).env)).any (·.1) = false := by rfl) (hps : ps.length ≤ 9 := by decide) :
    PS (cxOf (CX1 P w) P w K mg base N qual scope f cdv A outer s₀ H₀ E) (.Raise (some (.Call (.Name x np) (e :: es) [] cpos)) none pos) (tRaiseI C sp E ta) := by
  intro pins s σ H D I h
  obtain ⟨bm, N', nm, qn, bs, hdct, sn, sub, ab, col, dd, k0, k1, k2, k3, k5, mN, hC, hN, hf, TL⟩ := T.ini _ I.ok.mod.kin
  rw [arm_exec_Raise]
  refine wpAny_bind (wpAny_standAt (PySem.W.raise_made (C := C) (nm := nm) (q := qn) (N := N') (bs := bs) (bm := bm) (hdct := hdct) (sn := sn) (sub := sub) (ab := ab) (col := col) (dd := dd) (k0 := k0) (k1 := k1) (k2 := k2) (k3 := k3) (k5 := k5) (newId := "ValueError.__new__") (TL.hasType (X := "BaseException") (b := true) (by decide)) hr.hd ?_))
  refine wpAny_bind (wpAny_mono ?_ (fun v s₃ h₃ => wpAny_bind (wpAny_standAt (wpAny_pure h₃))) fun _ _ x => x)
  refine wpAny_Call_Name_kw (ld_glob I hg T.b.bound ?_ hd)
  refine PySem.W.callWith_K (h₀ := base) I.ok.mod.kin T.kp (thn (ha cpos pins s σ H _ I h) fun us s1 ⟨vs, H1, I1, r, q⟩ => ⟨I1.kIn, ?_⟩) he hpl
  obtain ⟨of, ho, hcl⟩ := T.fn _ I1.kIn
  have hl0 : (V.ref s1.heap.objs.size :: vs).length = ps.length := F.len _ _ _ _ (q s1.heap.objs.size (I1.hok.fresh (Nat.le_refl _)))
  have hu : us.length ≤ sizeLine := by
    have e1 := r.length
    rw [List.length_cons] at hl0
    have : (9 : Nat) ≤ sizeLine := by decide
    omega
  have hC1 := I1.bk _ _ hC
  have hN1 := hN.keeps I1.bk
  have TL1 := TL.keeps I1.bk
  obtain ⟨hp, gg, dr, tk, os⟩ := s1
  refine PySem.W.call_init PySem.F.excBase_ValueError (by decide) PySem.F.excBase_ValueError TL1 hC1 hN1 hf ho hcl hu fun h' ea m => ?_
  obtain ⟨z1, z2, z3, z4, z5⟩ := I1.out (b := ea) rfl m.new
  obtain ⟨tt, ht, _, _⟩ := m.there
  have I2 := (Inv.kept (t' := tk) I1 m.keeps).track (o := .ext (PySem.W.ExcRaw none ea C)) z2 z1 z3 z4 z5 (raw_ext ⟨tt, ht⟩)
  have hq := q ea z2
  have hl : (Value.ref ea :: us).length = ps.length := by
    have e1 := r.length
    rw [List.length_cons] at hl0 ⊢
    omega
  have hb' := hb ⟨h', gg, dr, tk, os⟩ (Value.ref ea :: us) I2.kIn (by rw [List.append_nil]; exact hl)
  rw [List.append_nil] at hb'
  refine wpAny_call (codeAny_mono (F.run _ (cxOf (CX1 P w) P w K mg base N qual scope f cdv A outer s₀ H₀ E).stack _ _ ⟨Value.ref ea :: us, []⟩ (Value.ref ea :: us) (V.ref ea :: vs) _ E0 ((hr.mono hk).make C us []) (I2.env0.make C us []) hb' (.cons (show RelV (.ref ea) (Value.ref ea) from rfl) r) hq) fun rr s' hq' => ?_)
  cases rr with
  | error e => exact False.elim hq'
  | ok fl =>
    cases fl with
    | ret u =>
      obtain ⟨v, H', I3, rv, ev, d, hd', q3⟩ := I2.after hq'
      subst ev
      obtain ⟨⟨a0, e3⟩, _, _⟩ := (show ObjOk P w H' s'.heap ea (.ext (PySem.W.ExcRaw d ea C)) from I3.hok ea _ hd')
      refine ⟨rv, ea, d, rfl, I3.bk _ _ hC, ⟨a0, e3⟩, ?_⟩
      exact xe_new (I3.untrack hd' z1) ⟨_, _, e3, rfl, rfl, rfl, rfl⟩ z1 del_same q3
    | next => exact False.elim hq'
    | brk => exact False.elim hq'
    | cont => exact False.elim hq'
end
theorem ErrB.b {K : PySem.W.Frag} {mg : Str → Option Value} {x : Str} {C : Addr} (T : ErrB K mg x C) : ErrB K mg x C := T
theorem ns_at {K : PySem.W.Frag} {h : Heap} {N : Addr} {m : Str → Option Value} {n : Str} {v : Value} (X : K.In h) (G : h.Ns N m) (e : PySem.W.nsIn K N n = some (some v)) : m n = some v := by
  obtain ⟨o, es, ep, ho, hd, _, hf⟩ := G
  unfold PySem.W.nsIn at e
  split at e
  · rename_i c d es' n' sl q
    have z := X _ _ q
    rw [ho] at z
    cases z
    cases hd
    split at e
    · rename_i en he
      cases e
      rw [← hf]
      unfold nsFind findBy
      rw [← Array.find?_toList, he]
      rfl
    · split at e <;> cases e
  · cases e
section
variable {K : PySem.W.Frag} {mg : Str → Option Value} {x : Str} {C f N : Addr} {nm qn : Str} {bs bm : List Value} {hdct : Bool} {sn : List Str} {sub : List Value} {ab : Bool} {col : Option Bool} {dd od : Option Addr} {k0 k1 k2 k3 k5 : Option Value} {fd : FuncData} {sl : Array (Option Value)}
theorem errB_mk (hb : mg x = some (.ref C)) (lk : K.lookup C = some (excClassObj nm qn C N bs bm hdct sn sub ab col dd k0 k1 k2 k3 k5 "ValueError.__new__")) (lt : PySem.W.tailIn K baseVE bm = true) (kx : PySem.W.ExcK K C) : ErrB K mg x C :=
  ⟨hb, fun _ X => ⟨bm, N, nm, qn, bs, hdct, sn, sub, ab, col, dd, k0, k1, k2, k3, k5, X _ _ lk, PySem.W.tail_of_in X lt⟩, kx⟩
theorem errI_mk (b : ErrB K mg x C) (lk : K.lookup C = some (excClassObj nm qn C N bs bm hdct sn sub ab col dd k0 k1 k2 k3 k5 "ValueError.__new__")) (lt : PySem.W.tailIn K baseVE bm = true) (ln : PySem.W.nsOkIn K N = true) (li : PySem.W.nsIn K N "__init__" = some (some (.ref f)))
    (lf : K.lookup f = some ⟨.type "function", od, .func fd, sl⟩) (kp : PySem.W.keepIn K (.ref C) = true) : ErrI K mg x C f :=
  ⟨b, fun h X => ⟨bm, N, nm, qn, bs, hdct, sn, sub, ab, col, dd, k0, k1, k2, k3, k5, _, X _ _ lk, .of_isNs (PySem.W.isNs_of_in X ln), ns_at X (.of_isNs (PySem.W.isNs_of_in X ln)) li, PySem.W.tail_of_in X lt⟩, fun _ X => ⟨_, X _ _ lf, rfl⟩, kp⟩
end
/-- the __init__ of an error class, read -/
def IDef (P : Program) (w : World) (K : PySem.W.Frag) (mg : Str → Option Value) (base : Heap) (x : Str) (C : Addr) (k : Nat) (ps : List Str) (sp : Sp) : Prop :=
  ∃ f fd, FnOk P w K mg base CX0 k f fd ps sp ∧ ErrI K mg x C f ∧ Binds K fd ps []
def IHere (K : PySem.W.Frag) (mg : Str → Option Value) (x : Str) (C : Addr) (qual : Str) (st : Stmt) (ps : List Str) : Prop := ∃ f fd, Fun K "__init__" qual st f fd ∧ ErrI K mg x C f ∧ Binds K fd ps []
theorem IHere.mk {P : Program} {w : World} {K : PySem.W.Frag} {mg : Str → Option Value} {base : Heap} {x : Str} {C : Addr} {qual : Str} {st : Stmt} {ps : List Str} {k : Nat} {sp : Sp} (h : IHere K mg x C qual st ps) (ok : ∀ f fd, Fun K "__init__" qual st f fd → FnOk P w K mg base CX0 k f fd ps sp) : IDef P w K mg base x C k ps sp := by
  obtain ⟨f, fd, F, m, b⟩ := h
  exact ⟨f, fd, ok f fd F, m, b⟩
section
variable {P : Program} {w : World} {K : PySem.W.Frag} {mg : Str → Option Value} {base : Heap} {N : List Str} {qual : Str} {scope : Scope} {f : Addr} {cdv : Value} {A : Around} {outer : List Env} {s₀ : Shared} {H₀ : Hp} {E : XK}
theorem ps_raiseD {x : Str} {C : Addr} {np cpos pos : Pos} {k k' : Nat} {e : Expr} {es : List Expr} {ps : List Str} {sp : Sp} {ta : TA} (D : IDef P w K mg base x C k ps sp)
    (hr : Room k' (cxOf (CX1 P w) P w K mg base N qual scope f cdv A outer s₀ H₀ E).A) (hg : Gl (cxOf (CX1 P w) P w K mg base N qual scope f cdv A outer s₀ H₀ E) x) (ha : PA (cxOf (CX1 P w) P w K mg base N qual scope f cdv A outer s₀ H₀ E) (e :: es) ta) (hk : k + 1 ≤ k' := by decide) (hd : (x == ("__debug__" : Str)) = false := by decide)
    (he : starEach (e :: es) (cxOf (CX1 P w) P w K mg base N qual scope f cdv A outer s₀ H₀ E).env = (false, eval e (cxOf (CX1 P w) P w K mg base N qual scope f cdv A outer s₀ H₀ E).env) :: starEach es (cxOf (CX1 P w) P w K mg base N qual scope f cdv A outer s₀ H₀ E).env := by rfl)
    (hpl : (backTo cpos (starEach es (cxOf (CX1 P w) P w K mg base N qual scope f cdv A outer s₀ H₀ E).env)).any (·.1) = false := by rfl) (hps : ps.length ≤ 9 := by decide) :
    PS (cxOf (CX1 P w) P w K mg base N qual scope f cdv A outer s₀ H₀ E) (.Raise (some (.Call (.Name x np) (e :: es) [] cpos)) none pos) (tRaiseI C sp E ta) := by
  obtain ⟨g, fd, F, T, b⟩ := D
  exact ps_raiseI T F b hr hg ha hk hd he hpl hps
end
end L2

/-! ## a list taken apart: (a, b) = [x, y] -/
namespace L2
open PySem PySem.Spec PyProof.Rows
section
variable {pr : Program} {wd : World} {A : Around} {E : Value → Shared → Prop}
theorem draw_lst {I l : Addr} {vs : Array Value} (ne : l ≠ I) : ∀ (n i : Nat) (s : Shared) (Q : List Value → Shared → Prop),
    s.heap.IsListIter I l i → s.heap.IsList l vs → i + n ≤ vs.size → (∀ g, g.IsListIter I l (i + n) → Heap.SameBut I s.heap g → Q ((vs.toList.drop i).take n) { s with heap := g }) →
    wpAny (model pr wd) A (draw (.ref I) n) Q E s
  | 0, i, s, Q, hI, _, _, k => wpAny_pure (by
    have := k s.heap hI (Heap.SameBut.refl ..)
    rwa [List.take_zero] at this)
  | n + 1, i, s, Q, hI, hL, le, k => by
    have lt : i < vs.size := by omega
    have hx : vs[i]? = some vs[i] := by rw [Array.getElem?_eq_getElem lt]
    refine wpAny_bind (m := pyNext (.ref I)) (wpAny_pyNext_list_item hI hL hx fun g1 hI1 e1 => ?_)
    refine wpAny_bind (wpAny_holding (draw_lst ne n (i + 1) _ _ hI1 (hL.extBut e1.extBut ne) (by omega) fun g2 hI2 e2 => wpAny_pure ?_))
    have q := k g2 (by rwa [show i + (n + 1) = i + 1 + n by omega]) (e1.trans e2)
    have cut : vs.toList.drop i = vs[i] :: vs.toList.drop (i + 1) := by simp [List.drop_eq_getElem_cons, lt]
    rwa [cut, List.take_succ_cons] at q
theorem parts_lst {l : Addr} {vs : Array Value} {s : Shared} {Q : List Value → Shared → Prop} (hd : A.handled = none) (hL : s.heap.IsList l vs)
    (k : ∀ g, Heap.ExtBut s.heap.objs.size s.heap g → Q vs.toList { s with heap := g }) : wpAny (model pr wd) A (unpackItems (.ref l) vs.size none) Q E s := by
  have ne : l ≠ s.heap.objs.size := by
    obtain ⟨o, ho, _⟩ := hL
    exact Nat.ne_of_lt (Heap.lt_size ho)
  unfold unpackItems notIterableAtAll
  refine wpAny_bind (wpAny_bind (wpAny_specialOf hL.typeIs slot_list_iter.lookup (wpAny_pure ?_)))
  rw [if_neg Bool.false_ne_true]
  refine wpAny_bind (wpAny_holding (wpAny_pyIter_list hL ?_))
  have hI : (s.heap.push { cls := .type "list_iterator", data := .fields #[.ref l, .int 0 0] }).IsListIter s.heap.objs.size l 0 := ⟨_, Heap.get?_push_size _ rfl, rfl, rfl⟩
  refine wpAny_bind (wpAny_holding (draw_lst ne vs.size 0 _ _ hI (hL.push _) (by omega) fun g1 hI1 e1 => ?_))
  rw [List.drop_zero, List.take_of_length_le (by simp), if_neg (by simp)]
  have hL1 : g1.IsList l vs := (hL.push _).extBut e1.extBut ne
  refine wpAny_bind (wpAny_holding (wpAny_pyNext_list_end hd hI1 hL1 (by simp) fun g2 e2 => ?_))
  simp only [Option.isSome_none, Bool.false_eq_true, if_false]
  exact wpAny_pure (k g2 fun b o hb e => e2 b o hb (e1.extBut b o hb (Heap.get?_push_of_some _ e)))
end
section
variable {X : Cx} {K : PySem.W.Frag} {pos : Pos}
def gLst (K : PySem.W.Frag) (n : Nat) (t : TGs) : TG := fun v σ H Q => ∃ a xs, v = .ref a ∧ SqL K H a xs ∧ xs.length = n ∧ t xs σ H Q
theorem pg_lstK {es : List Expr} {k : Nat} {t : TGs} {n : Nat} (hc : X.calm = true) (h : PGs X es t) (hK : X.K = K := by rfl)
    (hn : (assignEach es X.env).length = n := by rfl) (hst : (assignEach es X.env).findIdx? (·.1) = none := by rfl) : PG X (.Tuple es k pos) (gLst K n t) := by
  subst hK
  intro pins s σ H v u Q I r hw
  obtain ⟨a, xs, rfl, hq, hl, hw⟩ := hw
  cases r
  obtain ⟨its, rv, pl, _⟩ := I.list hq
  have sz : its.toArray.size = n := by rw [List.size_toArray, ← hl, rv.length]
  rw [assign_Tuple]
  refine wpAny_bind (wpAny_standAt ?_)
  unfold unpack
  rw [hn, hst]
  refine wpAny_bind (wpAny_holding ?_)
  rw [← sz]
  refine parts_lst (I.ok.hd hc) pl.isList fun g hx => ?_
  have I1 : Inv X pins σ H { s with heap := g } := I.kept (t' := s.toks) fun b o e => hx b o (Nat.ne_of_lt (Heap.lt_size e)) e
  exact h pins _ σ H xs _ Q I1 (by simpa using rv) hw
end
end L2

/-! ## the text, its defs one by one -/
namespace L2
open PySem PySem.Spec PyProof.Rows
/-- a def of the text as the top has made it -/
def Here (K : PySem.W.Frag) (mg : Str → Option Value) (x : Str) (st : Stmt) (ps : List Str) : Prop := ∃ f fd, Fun K x x st f fd ∧ mg x = some (.ref f) ∧ Binds K fd ps []
theorem Here.mk {P : Program} {w : World} {K : PySem.W.Frag} {mg : Str → Option Value} {base : Heap} {x : Str} {st : Stmt} {ps : List Str} {k : Nat} {sp : Sp} (h : Here K mg x st ps) (ok : ∀ f fd, Fun K x x st f fd → FnOk P w K mg base CX0 k f fd ps sp) : Def P w K mg base x k ps sp := by
  obtain ⟨f, fd, F, m, b⟩ := h
  exact ⟨f, fd, ok f fd F, m, F.kp, b⟩
end L2
namespace Law
open PySem L2 Ways Ring PyProof.Rows
def top (i : Nat) : Stmt := PySem.Challenge.pw_ringpop_k44_left_tree.main.body.getD i (.Pass ⟨0, 0, 0, 0⟩)
abbrev s_way_along : Stmt := top 14
theorem sc_way_along : FnScope ["ends", "place", "way"] ["ends", "place"] (defScope s_way_along) := ⟨rfl, rfl, rfl, by decide +kernel, rfl, by decide +kernel, by decide +kernel⟩
abbrev s_copied : Stmt := top 16
theorem sc_copied : FnScope ["piles"] ["piles"] (defScope s_copied) := ⟨rfl, rfl, rfl, by decide +kernel, rfl, by decide +kernel, by decide +kernel⟩
abbrev s_tops_of : Stmt := top 17
theorem sc_tops_of : FnScope ["piles"] ["piles"] (defScope s_tops_of) := ⟨rfl, rfl, rfl, by decide +kernel, rfl, by decide +kernel, by decide +kernel⟩
abbrev s_rings_of : Stmt := top 18
theorem sc_rings_of : FnScope ["tops", "ways"] ["tops"] (defScope s_rings_of) := ⟨rfl, rfl, rfl, by decide +kernel, rfl, by decide +kernel, by decide +kernel⟩
abbrev s_without_tops : Stmt := top 19
theorem sc_without_tops : FnScope ["piles", "places"] ["piles", "places"] (defScope s_without_tops) := ⟨rfl, rfl, rfl, by decide +kernel, rfl, by decide +kernel, by decide +kernel⟩
abbrev s_top_rings : Stmt := top 21
theorem sc_top_rings : FnScope ["piles"] ["piles"] (defScope s_top_rings) := ⟨rfl, rfl, rfl, by decide +kernel, rfl, by decide +kernel, by decide +kernel⟩
abbrev s_number_at : Stmt := top 22
theorem sc_number_at : FnScope ["order", "turn"] ["order", "turn"] (defScope s_number_at) := ⟨rfl, rfl, rfl, by decide +kernel, rfl, by decide +kernel, by decide +kernel⟩
abbrev s_pop_out : Stmt := top 23
theorem sc_pop_out : FnScope ["piles", "order", "rings", "rest", "found", "ring"] ["piles", "order"] (defScope s_pop_out) := ⟨rfl, rfl, rfl, by decide +kernel, rfl, by decide +kernel, by decide +kernel⟩
abbrev s_tree_on : Stmt := top 25
theorem sc_tree_on : FnScope ["net", "rest", "tops", "place", "row"] ["net", "rest"] (defScope s_tree_on) := ⟨rfl, rfl, rfl, by decide +kernel, rfl, by decide +kernel, by decide +kernel⟩
abbrev s_left_tree : Stmt := top 26
theorem sc_left_tree : FnScope ["net", "piles"] ["net", "piles"] (defScope s_left_tree) := ⟨rfl, rfl, rfl, by decide +kernel, rfl, by decide +kernel, by decide +kernel⟩
abbrev s__law_fold : Stmt := top 28
theorem sc__law_fold : FnScope ["_law_script", "_law_number", "_law_cell"] ["_law_script", "_law_number"] (defScope s__law_fold) := ⟨rfl, rfl, rfl, by decide +kernel, rfl, by decide +kernel, by decide +kernel⟩
abbrev s__law_next : Stmt := top 29
theorem sc__law_next : FnScope ["_law_number"] ["_law_number"] (defScope s__law_next) := ⟨rfl, rfl, rfl, by decide +kernel, rfl, by decide +kernel, by decide +kernel⟩
abbrev s__law_whole : Stmt := top 30
theorem sc__law_whole : FnScope ["_law_found"] ["_law_found"] (defScope s__law_whole) := ⟨rfl, rfl, rfl, by decide +kernel, rfl, by decide +kernel, by decide +kernel⟩
abbrev s__law_turned : Stmt := top 31
theorem sc__law_turned : FnScope ["_law_number", "_law_many", "_law_left", "_law_order"] ["_law_number", "_law_many"] (defScope s__law_turned) := ⟨rfl, rfl, rfl, by decide +kernel, rfl, by decide +kernel, by decide +kernel⟩
abbrev s__law_grown : Stmt := top 32
theorem sc__law_grown : FnScope ["_law_number", "_law_order", "_law_roots", "_law_tree", "_law_k"] ["_law_number", "_law_order", "_law_roots"] (defScope s__law_grown) := ⟨rfl, rfl, rfl, by decide +kernel, rfl, by decide +kernel, by decide +kernel⟩
abbrev s__law_hung : Stmt := top 33
theorem sc__law_hung : FnScope ["_law_number", "_law_most", "_law_many", "_law_scale", "_law_dense", "_law_tree", "_law_net", "_law_place", "_law_row", "_law_to"] ["_law_number", "_law_most"] (defScope s__law_hung) := ⟨rfl, rfl, rfl, by decide +kernel, rfl, by decide +kernel, by decide +kernel⟩
abbrev s__law_copy : Stmt := top 34
theorem sc__law_copy : FnScope ["_law_net"] ["_law_net"] (defScope s__law_copy) := ⟨rfl, rfl, rfl, by decide +kernel, rfl, by decide +kernel, by decide +kernel⟩
abbrev s__law_alone : Stmt := top 35
theorem sc__law_alone : FnScope ["_law_error", "_law_many"] ["_law_error"] (defScope s__law_alone) := ⟨rfl, rfl, rfl, by decide +kernel, rfl, by decide +kernel, by decide +kernel⟩
abbrev s__law_piled : Stmt := top 36
theorem sc__law_piled : FnScope ["_law_script", "_law_net", "_law_tree", "_law_number", "_law_piles", "_law_cell", "_law_place", "_law_row"] ["_law_script", "_law_net", "_law_tree", "_law_number"] (defScope s__law_piled) := ⟨rfl, rfl, rfl, by decide +kernel, rfl, by decide +kernel, by decide +kernel⟩
abbrev s__law_popped : Stmt := top 37
theorem sc__law_popped : FnScope ["_law_piles", "_law_left", "_law_going", "_law_place", "_law_ring", "_law_spot"] ["_law_piles"] (defScope s__law_popped) := ⟨rfl, rfl, rfl, by decide +kernel, rfl, by decide +kernel, by decide +kernel⟩
abbrev s__law_bare : Stmt := top 38
theorem sc__law_bare : FnScope ["_law_net", "_law_left", "_law_place"] ["_law_net", "_law_left"] (defScope s__law_bare) := ⟨rfl, rfl, rfl, by decide +kernel, rfl, by decide +kernel, by decide +kernel⟩
abbrev s__law_tops : Stmt := top 39
theorem sc__law_tops : FnScope ["_law_left"] ["_law_left"] (defScope s__law_tops) := ⟨rfl, rfl, rfl, by decide +kernel, rfl, by decide +kernel, by decide +kernel⟩
abbrev s__law_alike : Stmt := top 40
theorem sc__law_alike : FnScope ["_law_found", "_law_due"] ["_law_found", "_law_due"] (defScope s__law_alike) := ⟨rfl, rfl, rfl, by decide +kernel, rfl, by decide +kernel, by decide +kernel⟩
abbrev s__law_ran_out : Stmt := top 41
theorem sc__law_ran_out : FnScope ["_law_net", "_law_piles", "_law_place", "_law_seen", "_law_alone_here", "_law_error", "_law_caught"] ["_law_net", "_law_piles", "_law_place"] (defScope s__law_ran_out) := ⟨rfl, rfl, rfl, by decide +kernel, rfl, by decide +kernel, by decide +kernel⟩
abbrev s_law : Stmt := top 42
theorem sc_law : FnScope ["_law_script", "_law_number", "_law_net", "_law_tree", "_law_piles", "_law_left", "_law_bare_here", "_law_handed", "_law_found", "_law_due", "_law_pile"] ["_law_script"] (defScope s_law) := ⟨rfl, rfl, rfl, by decide +kernel, rfl, by decide +kernel, by decide +kernel⟩
abbrev s_RanOut___init__ : Stmt := inClass (top 10) 0
theorem sc_RanOut___init__ : FnScope ["self", "place"] ["self", "place"] (defScope s_RanOut___init__) := ⟨rfl, rfl, rfl, by decide +kernel, rfl, by decide +kernel, by decide +kernel⟩
structure Txt (mg : Str → Option Value) : Prop where
  z_ValueError : mg "ValueError" = none
  z_bool : mg "bool" = none
  z_enumerate : mg "enumerate" = none
  z_int : mg "int" = none
  z_isinstance : mg "isinstance" = none
  z_len : mg "len" = none
  z_list : mg "list" = none
  z_min : mg "min" = none
  z_range : mg "range" = none
structure Cls (K : PySem.W.Frag) (mg : Str → Option Value) where
  a_RingError : Addr
  a_NoNet : Addr
  a_NoTree : Addr
  a_NoPiles : Addr
  a_NoRing : Addr
  a_NoPlace : Addr
  a_NoNumber : Addr
  a_NoArrow : Addr
  a_MakesRing : Addr
  a_RanOut : Addr
  a_TooGreat : Addr
  a_NoText : Addr
  g_RingError : mg "RingError" = some (.ref a_RingError)
  g_NoNet : mg "NoNet" = some (.ref a_NoNet)
  g_NoTree : mg "NoTree" = some (.ref a_NoTree)
  g_NoPiles : mg "NoPiles" = some (.ref a_NoPiles)
  g_NoRing : mg "NoRing" = some (.ref a_NoRing)
  g_NoPlace : mg "NoPlace" = some (.ref a_NoPlace)
  g_NoNumber : mg "NoNumber" = some (.ref a_NoNumber)
  g_NoArrow : mg "NoArrow" = some (.ref a_NoArrow)
  g_MakesRing : mg "MakesRing" = some (.ref a_MakesRing)
  g_RanOut : mg "RanOut" = some (.ref a_RanOut)
  g_TooGreat : mg "TooGreat" = some (.ref a_TooGreat)
  g_NoText : mg "NoText" = some (.ref a_NoText)
  e_RingError : Err K mg "RingError" a_RingError
  e_RanOut : ErrB K mg "RanOut" a_RanOut
  f_RanOut_place : FldK K a_RanOut "place"
  r_RingError : RootK K mg "RingError" a_RingError
  s_RanOut : PySem.W.mroIn K a_RanOut (.ref a_RanOut) = some true
  v_RanOut : PySem.W.mroIn K a_RanOut (.type "ValueError") = some true
  u_RanOut_RingError : Under K a_RanOut a_RingError
  n_RanOut_NoNet : Not K mg "NoNet" a_NoNet a_RanOut
  n_RanOut_NoTree : Not K mg "NoTree" a_NoTree a_RanOut
  n_RanOut_NoPiles : Not K mg "NoPiles" a_NoPiles a_RanOut
  n_RanOut_NoRing : Not K mg "NoRing" a_NoRing a_RanOut
  n_RanOut_NoPlace : Not K mg "NoPlace" a_NoPlace a_RanOut
  n_RanOut_NoNumber : Not K mg "NoNumber" a_NoNumber a_RanOut
  n_RanOut_NoArrow : Not K mg "NoArrow" a_NoArrow a_RanOut
  n_RanOut_MakesRing : Not K mg "MakesRing" a_MakesRing a_RanOut
  u_RanOut_RanOut : Under K a_RanOut a_RanOut
  n_RanOut_TooGreat : Not K mg "TooGreat" a_TooGreat a_RanOut
  n_RanOut_NoText : Not K mg "NoText" a_NoText a_RanOut
section
variable {P : Program} {w : World} {K : PySem.W.Frag} {mg : Str → Option Value} {base : Heap}
def tyData : PyData → String
  | .none => "NoneType"
  | .bool _ => "bool"
  | .int _ => "int"
  | .str _ => "str"
  | .list _ => "list"
  | .tuple _ => "tuple"
  | .dict _ => "dict"
theorem rep_ty {H : Hp} {x : V} {d : PyData} (r : Rep H x d) : tyD H x = some (tyData d) := by
  cases r with
  | lst e _ => simp [tyD, e, tyData]
  | tup e _ => simp [tyD, e, tyData]
  | dct e => simp [tyD, e, tyData]
  | _ => rfl
def isIntD : PyData → Bool
  | .int _ => true
  | _ => false

/-! ### taking data apart -/
theorem fm_some {α β : Type} (f : α → β) (l : List α) : l.filterMap (fun a => some (f a)) = l.map f := by
  induction l with
  | nil => rfl
  | cons a r ih => rw [List.filterMap_cons, List.map_cons, ih]
theorem rep_int {H : Hp} {x : V} {i : Int} (r : Rep H x (.int i)) : x = .int i := by cases r; rfl
theorem rep_list {H : Hp} {x : V} {ds : List PyData} (r : Rep H x (.list ds)) : ∃ a xs, x = .ref a ∧ H a = some (.lst xs) ∧ Reps H xs ds := by
  cases r with
  | @lst a xs _ e rs => exact ⟨a, xs, rfl, e, rs⟩
theorem rep_arr {H : Hp} {x : V} {a : Int × Int} (r : Rep H x (arrD a)) : ∃ b, x = .ref b ∧ H b = some (.tup [.int a.1, .int a.2]) := by
  unfold arrD at r
  cases r with
  | @tup b xs _ e rs =>
    cases rs with
    | cons r1 rs =>
      cases rs with
      | cons r2 rs =>
        cases rs
        rw [rep_int r1, rep_int r2] at e
        exact ⟨b, rfl, e⟩
theorem reps_map {α : Type} {H : Hp} {f : α → PyData} {l : List α} {xs : List V} {i : Nat} {x : V} (rs : Reps H xs (l.map f)) (hx : xs[i]? = some x) : ∃ a, l[i]? = some a ∧ Rep H x (f a) := by
  obtain ⟨d, hd, r⟩ := rs.get hx
  rw [List.getElem?_map] at hd
  cases e : l[i]? with
  | none => rw [e] at hd; cases hd
  | some a =>
    rw [e] at hd
    cases hd
    exact ⟨a, rfl, r⟩
theorem iteB {b : Bool} {A B : Prop} (h1 : b = true → A) (h2 : b = false → B) : if b = true then A else B := by
  cases b with
  | true => rw [if_pos rfl]; exact h1 rfl
  | false => rw [if_neg Bool.false_ne_true]; exact h2 rfl
theorem iteD {c A B : Prop} [Decidable c] (h1 : c → A) (h2 : ¬ c → B) : if decide c = true then A else B := iteB (fun h => h1 (of_decide_eq_true h)) (fun h => h2 (of_decide_eq_false h))
theorem atI0 {α : Type} (x : α) (r : List α) : atI (x :: r) 0 = some x := atI_nat (j := 0) rfl
theorem lt_of_get {α : Type} {l : List α} {i : Nat} {x : α} (h : l[i]? = some x) : i < l.length := (List.getElem?_eq_some_iff.mp h).1

theorem inV_ints (e : Int) (l : List Int) : inV (.int e) (l.map V.int) = decide (e ∈ l) := by
  unfold inV
  rw [List.any_map]
  induction l with
  | nil => rfl
  | cons a r ih =>
    rw [List.any_cons, ih]
    show (a == e || decide (e ∈ r)) = decide (e ∈ a :: r)
    by_cases h : a = e
    · simp [h]
    · have h' : ¬ e = a := fun q => h q.symm
      simp [h, h']
theorem shaped_nil : SeqAt.shaped (.list []) = true := (okTo.list (k := 0) (ds := []) (by intro d h; cases h)).shaped (by decide)
/-! ### ways -/
def optV : Option Nat → V
  | none => .non
  | some e => .int e
def natsV (l : List Nat) : List V := l.map fun (n : Nat) => V.int (n : Int)
theorem optV_at {es : List (Option Nat)} {p : Nat} (h : p < es.length) : (es.map optV)[p]? = some (optV (nextE es p)) := by
  rw [List.getElem?_map, List.getElem?_eq_getElem h]
  unfold nextE
  rw [List.getElem?_eq_getElem h]
  rfl
theorem last_of {es : List (Option Nat)} {p : Nat} {way : List Nat} (wy : Way es p way) : ∃ l, way.getLast? = some l ∧ l < es.length ∧ atI (natsV way) (-1) = some (.int l) := by
  have hp := wy.pos
  obtain ⟨r, l, rfl⟩ : ∃ r l, way = r ++ [l] := by
    refine ⟨way.dropLast, way.getLast (by intro z; rw [z] at hp; exact Nat.lt_irrefl _ hp), ?_⟩
    exact (List.dropLast_concat_getLast _).symm
  refine ⟨l, by simp, wy.bd l (by simp), ?_⟩
  unfold natsV
  rw [List.map_append]
  exact atI_last _ _
theorem inV_nats (e : Nat) (l : List Nat) : inV (.int e) (natsV l) = decide (e ∈ l) := by
  have : natsV l = (l.map fun (n : Nat) => (n : Int)).map V.int := by unfold natsV; rw [List.map_map]; rfl
  rw [this, inV_ints]
  congr 1
  apply propext
  constructor
  · intro h
    obtain ⟨a, ha, e'⟩ := List.mem_map.mp h
    have : a = e := by omega
    exact this ▸ ha
  · intro h
    exact List.mem_map.mpr ⟨e, h, rfl⟩
theorem flat_nats (l : List Nat) : (natsV l).all flatV = true := by
  unfold natsV
  rw [List.all_map]
  exact List.all_eq_true.mpr fun _ _ => rfl
structure New (H F H' : Hp) : Prop where
  keep : Same H H'
  sub : Same F H'
  fresh : ∀ b o, F b = some o → H b = none
/-! ### flat lists -/
def flD : V → PyData
  | .bl b => .bool b
  | .int i => .int i
  | .str x => .str x
  | _ => .none
theorem ixN_nat {n j : Nat} (h : j < n) : ixN n (j : Int) = some j := by
  unfold ixN
  rw [if_pos (Int.natCast_nonneg j), if_pos (by omega)]
  simp
/-! ### lists of places -/
def natsD (l : List Nat) : PyData := .list (l.map fun (n : Nat) => .int (n : Int))
def ringsD (l : List (List Nat)) : PyData := .list (l.map natsD)
theorem reps_nats {H : Hp} : ∀ {l : List Nat} {xs : List V}, Reps H xs (l.map fun (n : Nat) => .int (n : Int)) → xs = natsV l
  | [], _, .nil => rfl
  | a :: l, _, .cons r t => by
    rw [rep_int r, reps_nats t]
    rfl
theorem nats_reps {H : Hp} : ∀ (l : List Nat), Reps H (natsV l) (l.map fun (n : Nat) => .int (n : Int))
  | [] => .nil
  | _ :: l => .cons (.int _) (nats_reps l)
theorem rep_nats {H : Hp} {x : V} {l : List Nat} (r : Rep H x (natsD l)) : ∃ b, x = .ref b ∧ H b = some (.lst (natsV l)) := by
  obtain ⟨b, xs, rfl, e, rs⟩ := rep_list r
  exact ⟨b, rfl, by rw [e, reps_nats rs]⟩
theorem nats_rep {H : Hp} {b : Addr} {l : List Nat} (h : H b = some (.lst (natsV l))) : Rep H (.ref b) (natsD l) := .lst h (nats_reps l)
theorem okTo_nats (l : List Nat) : okTo 1 (natsD l) := okTo.list fun d hd => by
  obtain ⟨a, _, rfl⟩ := List.mem_map.mp hd
  exact okTo.int _
theorem okTo_rings (l : List (List Nat)) : okTo 2 (ringsD l) := okTo.list fun d hd => by
  obtain ⟨a, _, rfl⟩ := List.mem_map.mp hd
  exact okTo_nats a
theorem eqv_nat (a b : Nat) : PyData.eqv (.int (a : Int)) (.int (b : Int)) = decide (a = b) := by
  rw [eqv_int]
  by_cases h : a = b
  · simp [h]
  · have : ¬ (a : Int) = b := by omega
    simp [h, this]
theorem eqv_nats (a b : List Nat) : PyData.eqv (natsD a) (natsD b) = decide (a = b) := by
  simp only [natsD, PyData.eqv]
  exact eqvAll_map eqv_nat a b
theorem eqv_rings (a b : List (List Nat)) : PyData.eqv (ringsD a) (ringsD b) = decide (a = b) := by
  simp only [ringsD, PyData.eqv]
  exact eqvAll_map eqv_nats a b
theorem optV_rep {H : Hp} : ∀ (o : Option Nat), Rep H (optV o) (optPy o)
  | none => .non
  | some e => .int e
theorem opts_reps {H : Hp} : ∀ (es : List (Option Nat)), Reps H (es.map optV) (es.map optPy)
  | [] => .nil
  | o :: r => .cons (optV_rep o) (opts_reps r)
theorem opts_rep {H : Hp} {a : Addr} {es : List (Option Nat)} (h : H a = some (.lst (es.map optV))) : Rep H (.ref a) (.list (es.map optPy)) := .lst h (opts_reps es)
theorem okTo_opt : ∀ (o : Option Nat), okTo 0 (optPy o)
  | none => okTo.none
  | some _ => okTo.int _
theorem okTo_opts (es : List (Option Nat)) : okTo 1 (.list (es.map optPy)) := okTo.list fun d hd => by
  obtain ⟨a, _, rfl⟩ := List.mem_map.mp hd
  exact okTo_opt a
theorem eqv_opt (a b : Option Nat) : PyData.eqv (optPy a) (optPy b) = decide (a = b) := by
  cases a with
  | none => cases b <;> simp [optPy, PyData.eqv]
  | some a =>
    cases b with
    | none => simp [optPy, PyData.eqv]
    | some b =>
      rw [optPy, optPy, eqv_nat]
      simp
theorem eqv_opts (a b : List (Option Nat)) : PyData.eqv (.list (a.map optPy)) (.list (b.map optPy)) = decide (a = b) := by
  simp only [PyData.eqv]
  exact eqvAll_map eqv_opt a b
theorem natsV_len (l : List Nat) : (natsV l).length = l.length := by unfold natsV; rw [List.length_map]
theorem natsV_ints (l : List Nat) : natsV l = (l.map fun (n : Nat) => (n : Int)).map V.int := by unfold natsV; rw [List.map_map]; rfl
theorem natsV_append (a b : List Nat) : natsV (a ++ b) = natsV a ++ natsV b := by unfold natsV; rw [List.map_append]
theorem natsV_get {l : List Nat} {i : Nat} {x : V} (h : (natsV l)[i]? = some x) : ∃ n, l[i]? = some n ∧ x = .int (n : Int) := by
  unfold natsV at h
  rw [List.getElem?_map] at h
  cases e : l[i]? with
  | none => rw [e] at h; cases h
  | some n => rw [e] at h; exact ⟨n, rfl, (Option.some.inj h).symm⟩
/-- a new object joins what a view knows, while a block's list grows -/
theorem New.grow {H F G H4 : Hp} {D r : Addr} {ys : List V} {o : HO} (n : New H F G) (hG : G D = none) (hs : Same (upd G D (.lst ys)) H4) (hr : (upd G D (.lst ys)) r = none) (h4 : H4 r = some o) : New H (upd F r o) (del H4 D) := by
  have hrD : r ≠ D := by rintro rfl; rw [upd_same] at hr; cases hr
  have hGr : G r = none := by rw [upd_ne hrD] at hr; exact hr
  refine ⟨same_del n.keep hG hs, fun b u e => ?_, fun b u e => ?_⟩
  · by_cases hb : b = r
    · subst hb
      rw [upd_same] at e
      cases e
      rw [del_ne hrD]
      exact h4
    · rw [upd_ne hb] at e
      have e1 := n.sub b u e
      have nb : b ≠ D := ne_of_none e1 hG
      rw [del_ne nb]
      exact hs b u (by rw [upd_ne nb]; exact e1)
  · by_cases hb : b = r
    · subst hb
      exact n.keep.free hGr
    · rw [upd_ne hb] at e
      exact n.fresh b u e
theorem New.bare {H F G : Hp} {r : Addr} (n : New H F G) (h : G r = none) : F r = none := n.sub.free h
theorem New.start (H : Hp) : New H (fun _ => none) H := ⟨Same.refl _, (fun _ _ e => nomatch e), (fun _ _ e => nomatch e)⟩
/-- .. and the block's own list at its end -/
theorem New.done {H F G : Hp} {D : Addr} {o : HO} (n : New H F G) (hG : G D = none) : New H (upd F D o) (upd G D o) := by
  refine ⟨n.keep.trans (same_upd hG _), fun b u e => ?_, fun b u e => ?_⟩
  · by_cases hb : b = D
    · subst hb; rw [upd_same] at e ⊢; exact e
    · rw [upd_ne hb] at e ⊢; exact n.sub b u e
  · by_cases hb : b = D
    · subst hb; exact n.keep.free hG
    · rw [upd_ne hb] at e; exact n.fresh b u e
theorem New.more {H F G G' : Hp} (n : New H F G) (h : Same G G') : New H F G' := ⟨n.keep.trans h, n.sub.trans h, n.fresh⟩
end
end Law

namespace L2
open PySem PySem.Spec PyProof.Rows
theorem Here.mkE {P : Program} {w : World} {K : PySem.W.Frag} {mg : Str → Option Value} {base : Heap} {x : Str} {st : Stmt} {ps : List Str} {k : Nat} {sp : Sp} (h : Here K mg x st ps) (ok : ∀ f fd, Fun K x x st f fd → FnOk P w K mg base (CX1 P w) k f fd ps sp) : DefE P w K mg base x k ps sp := by
  obtain ⟨f, fd, F, m, b⟩ := h
  exact ⟨f, fd, ok f fd F, m, F.kp, b⟩
theorem Here.mkH {P : Program} {w : World} {K : PySem.W.Frag} {mg : Str → Option Value} {base : Heap} {x : Str} {st : Stmt} {ps : List Str} {k : Nat} {sp : Sp} (h : Here K mg x st ps) (ok : ∀ f fd, Fun K x x st f fd → FnOkH P w K mg base k f fd ps sp) : DefH P w K mg base x k ps sp := by
  obtain ⟨f, fd, F, m, b⟩ := h
  exact ⟨f, fd, ok f fd F, m, F.kp, b⟩
end L2

namespace Law
open PySem L2 Ways Ring PyProof.Rows
section
variable {P : Program} {w : World} {K : PySem.W.Frag} {mg : Str → Option Value} {base : Heap}
def sp_way_along : Sp := fun vs H Q _ => ∃ a es p, vs = [.ref a, .int ((p : Nat) : Int)] ∧ H a = some (.lst (es.map optV)) ∧ InB es ∧ p < es.length ∧ es.length ≤ 8 ∧
  ∀ r H' way, Same H H' → H r = none → H' r = some (.lst (natsV way)) → Way es p way → Done es way → Q (.ref r) H'
theorem def_way_along (T : Txt mg) (h : Here K mg "way_along" s_way_along ["ends", "place"]) : Def P w K mg base "way_along" 1 ["ends", "place"] sp_way_along := h.mk fun f fd F => by
  have nd := sc_way_along.nd
  refine F.ok sc_way_along (fun vs H Q E h => ?_) (fun cdv A outer s H vs Q E hr h => ?_)
  · obtain ⟨a, es, p, rfl, _⟩ := h
    rfl
  obtain ⟨a, es, p, rfl, ha, hb, hp, hl, q⟩ := h
  refine ⟨_, pss_cons (ps_set (i := 2) nd rfl (Or.inl rfl) (pe_lst (pa_cons (pv 1) pa_nil)))
    (pss_cons (ps_while PassesOwn.never (PW.pt (pw_and (pt_cmp (pc_notN (pe_ix (ix_lt (K := K)) (pv 0) (pe_ix (ix_lt (K := K)) (pv 2) (pe_un un_neg pe_int) (fun _ _ => rfl)) (fun _ _ => rfl)))) (pw_and1 (pt_cmpR (op_notInK (K := K)) (pe_ix (ix_lt (K := K)) (pv 0) (pe_ix (ix_lt (K := K)) (pv 2) (pe_un un_neg pe_int) (fun _ _ => rfl)) (fun _ _ => rfl)) (pv 2) rfl))))
      (pss_one (ps_expr (pe_bm PySem.F.plainAttrs_list PySem.F.slot_list_append PySem.F.type_list_append mt_append (pv 2) (pa_cons (pe_ix (ix_lt (K := K)) (pv 0) (pe_ix (ix_lt (K := K)) (pv 2) (pe_un un_neg pe_int) (fun _ _ => rfl)) (fun _ _ => rfl)) pa_nil)))))
    (pss_one (ps_ret (pv 2)))), ?_⟩
  refine ⟨_, rfl, (by show 1 ≤ sizeLine; decide), fun r hr => ?_⟩
  have hne : ∀ {H' : Hp}, Same H H' → H' a = some (.lst (es.map optV)) := fun hs => hs _ _ ha
  refine ⟨fun m σ' H' => ∃ way, σ' = [some (.ref a), some (.int p), some (.ref r)] ∧ Same H H' ∧ H' r = some (.lst (natsV way)) ∧ Way es p way ∧ m = es.length - way.length,
    ⟨es.length - 1, [p], rfl, same_upd hr _, upd_same, Way.one hp, rfl⟩, ?_⟩
  rintro m σ' H' ⟨way, rfl, hs, hw, wy, rfl⟩
  obtain ⟨l, hlast, hlt, hat⟩ := last_of wy
  have ha' := hne hs
  have hen := optV_at hlt
  refine ⟨_, rfl, _, rfl, _, rfl, .inl ⟨r, _, -1, _, rfl, rfl, SqL.of hw, hat, .inl ⟨a, _, _, _, rfl, rfl, SqL.of ha', atI_nat hen, _, rfl, ?_⟩⟩⟩
  cases hn : nextE es l with
  | none => exact ⟨_, rfl, q r H' way hs hr hw wy ⟨l, hlast, .inl hn⟩⟩
  | some e =>
    rw [hn] at hen
    refine ⟨_, rfl, _, rfl, _, rfl, .inl ⟨r, _, -1, _, rfl, rfl, SqL.of hw, hat, .inl ⟨a, _, _, _, rfl, rfl, SqL.of ha', atI_nat hen, _, rfl, r, _, rfl, .inl (SqL.of hw), rfl, flat_nats _, _, rfl, ?_⟩⟩⟩
    show if (!inV (.int e) (natsV way)) = true then _ else _
    rw [inV_nats]
    refine iteB (fun c => ?_) (fun c => ?_)
    · have hq : e ∉ way := by simpa using c
      have wy2 := wy.more hlast hn hq hb
      have hl2 := wy2.len
      rw [List.length_append, List.length_singleton] at hl2
      refine ⟨fun σ' H' => ∃ way', σ' = [some (.ref a), some (.int p), some (.ref r)] ∧ Same H H' ∧ H' r = some (.lst (natsV way')) ∧ Way es p way' ∧ way'.length = way.length + 1, ?_, ?_⟩
      · rintro σ2 H2 ⟨way', e1, e2, e3, e4, e5⟩
        exact ⟨_, by omega, way', e1, e2, e3, e4, rfl⟩
      · refine ⟨_, rfl, .inl ⟨rfl, _, SqL.of hw⟩, _, rfl, _, rfl, _, rfl, .inl ⟨r, _, -1, _, rfl, rfl, SqL.of hw, hat, .inl ⟨a, _, _, _, rfl, rfl, SqL.of ha', atI_nat hen, r, _, _, rfl, rfl, hw, ?_, ?_⟩⟩⟩
        · unfold natsV
          rw [List.length_map]
          exact small1000 (by omega)
        · refine ⟨way ++ [e], rfl, ?_, ?_, wy2, by simp⟩
          · intro b o hbo
            rw [upd_ne (ne_of_none hbo hr)]
            exact hs b o hbo
          · rw [upd_same]
            unfold natsV
            rw [List.map_append]
            rfl
    · have hq : e ∈ way := by simpa using c
      exact ⟨_, rfl, q r H' way hs hr hw wy ⟨l, hlast, .inr ⟨e, hn, hq⟩⟩⟩

end
end Law

namespace Law
open PySem L2 Ways Ring PyProof.Rows
section
variable {P : Program} {w : World} {K : PySem.W.Frag} {mg : Str → Option Value} {base : Heap}
/-! ### the rings of tops -/
def sp_rings_of : Sp := fun vs H Q _ => ∃ a es, vs = [.ref a] ∧ H a = some (.lst (es.map optV)) ∧ InB es ∧ es.length ≤ 8 ∧ ∀ r F H', New H F H' → Rep F r (ringsD (ringsN es)) → Q r H'
theorem head_at {es : List (Option Nat)} {p : Nat} {way : List Nat} (w : Way es p way) : atI (natsV way) 0 = some (.int (p : Int)) := by
  have h := w.at 0 w.pos
  refine atI_nat (j := 0) ?_
  unfold natsV
  rw [List.getElem?_map, h]
  rfl
theorem def_rings_of (T : Txt mg) (D_way_along : Def P w K mg base "way_along" 1 ["ends", "place"] sp_way_along) (h : Here K mg "rings_of" s_rings_of ["tops"]) : Def P w K mg base "rings_of" 2 ["tops"] sp_rings_of := h.mk fun f fd F => by
  have nd := sc_rings_of.nd
  refine F.ok sc_rings_of (fun vs H Q E h => ?_) (fun cdv A outer s H vs Q E hr h => ?_)
  · obtain ⟨a, es, rfl, _⟩ := h
    rfl
  obtain ⟨a, es, rfl, ha, hb, hl, q⟩ := h
  refine ⟨_, pss_cons (ps_setC (i := 1) nd rfl rfl (N' := ["place", "tops"]) (cap := [none, some 0]) rfl ⟨rfl, rfl, rfl, rfl, rfl, rfl⟩ (pi_range1 rfl T.z_range (pa_cons (pe_callB (call_lenK (K := K)) rfl T.z_len PySem.boot_len (pa_cons (pv 0) pa_nil)) pa_nil)) (fun _ _ _ _ _ _ => ⟨pg_name (i := 0) (show (["place", "tops"] : List Str).Nodup by decide +kernel) rfl (Or.inl rfl) (Or.inr rfl), pifs_nil, pe_callD D_way_along hr rfl (pa_cons (pv 1) (pa_cons (pv 0) pa_nil))⟩) (keeps_name rfl))
    (pss_one (ps_ret (pe_comp (N' := ["way", "tops"]) (cap := [none, some 0]) rfl ⟨rfl, rfl, rfl, rfl, rfl, rfl⟩ (pi_listK (K := K) (pv 1)) (fun _ _ _ _ _ _ => ⟨pg_name (i := 0) (show (["way", "tops"] : List Str).Nodup by decide +kernel) rfl (Or.inl rfl) (Or.inr rfl), pifs_one (pt_chain (op_eqD hr) op_eq (pe_ix (ix_lt (K := K)) (pv 1) (pe_ix (ix_lt (K := K)) (pv 0) (pe_un un_neg pe_int) (fun _ _ => rfl)) (fun _ _ => rfl)) (pe_ix (ix_lt (K := K)) (pv 0) pe_int (fun _ _ => rfl)) (pe_callB (call_minK (K := K) rfl) rfl T.z_min boot_min (pa_cons (pv 0) pa_nil))), pv 0⟩) (keeps_name rfl)))), ?_⟩
  have hlen : (es.map optV).length = es.length := List.length_map _
  refine ⟨_, rfl, a, _, rfl, .inl (SqL.of ha), _, rfl, by omega, by omega, fun D hD => ?_⟩
  refine comp_range (lo := 0) (fun i G ys => ∃ F, New H F G ∧ Reps F ys ((List.range i).map fun p => natsD (wayOf es p))) hD ⟨_, New.start H, .nil⟩ (fun i G ys hi hG p => ?_) (fun G ys hG p => ?_)
  · obtain ⟨F, nw, rs⟩ := p
    rw [Int.zero_add]
    have hi' : i < es.length := by omega
    refine ⟨_, rfl, _, rfl, a, es, i, rfl, (nw.keep.trans (same_upd hG _)) _ _ ha, hb, hi', hl, fun r H' way hs hn hw wy dn => ?_⟩
    refine cput (ys := ys) (hs _ _ upd_same) (by have := rs.length; rw [List.length_map, List.length_range] at this; omega) ⟨_, nw.grow hG hs hn hw, ?_⟩
    have hrD : r ≠ D := by rintro rfl; rw [upd_same] at hn; cases hn
    rw [upd_ne hrD] at hn
    rw [List.range_succ, List.map_append, List.map_singleton, wayOf_is wy dn]
    exact (rs.mono (same_upd (nw.bare hn) _)).snoc (nats_rep upd_same)
  · obtain ⟨F, nw, rs⟩ := p
    have e : ((es.length : Nat) : Int).toNat = es.length := by omega
    rw [hlen, e] at rs
    have yl : ys.length = es.length := by rw [rs.length, List.length_map, List.length_range]
    refine ⟨_, rfl, D, rfl, ⟨ys, SqL.of upd_same⟩, fun D2 hD2 => ?_⟩
    have hG2 : G D2 = none := (same_upd hG _).free hD2
    refine comp_list (K := K) (xs := ys) (fun i G' ys' => Same (upd G D (.lst ys)) G' ∧ Reps F ys' (((List.range i).filterMap (ringAt es)).map natsD)) hD2 ⟨Same.refl _, .nil⟩ (fun i G' ys' p => SqL.of (p.1 _ _ upd_same)) (fun i x G' ys' hx hG' p => ?_) (fun G' ys' hG' p => ?_)
    · have hi : i < es.length := by have := lt_of_get hx; omega
      have hx' := rs.get hx
      rw [List.getElem?_map, List.getElem?_range hi] at hx'
      obtain ⟨d, hd, rx⟩ := hx'
      cases hd
      obtain ⟨b, rfl, eb⟩ := rep_nats rx
      obtain ⟨wy, dn⟩ := wayOf_way hb hi
      obtain ⟨l, hlast, hlt, hat⟩ := last_of wy
      have s1 : Same (upd G D (.lst ys)) (upd G' D2 (.lst ys')) := p.1.trans (same_upd hG' _)
      have sF : Same F (upd G' D2 (.lst ys')) := (nw.sub.trans (same_upd hG _)).trans s1
      have eb' := sF _ _ eb
      have ea' : (upd G' D2 (.lst ys')) a = some (.lst (es.map optV)) := s1 _ _ (same_upd hG _ _ _ (nw.keep _ _ ha))
      refine ⟨_, rfl, _, rfl, _, rfl, .inl ⟨b, _, -1, _, rfl, rfl, SqL.of eb', hat, .inl ⟨a, _, _, _, rfl, rfl, SqL.of ea', atI_nat (optV_at hlt), ?_⟩⟩⟩
      refine ⟨_, rfl, .inl ⟨b, _, 0, _, rfl, rfl, SqL.of eb', head_at wy, ?_⟩⟩
      refine ⟨optPy (nextE es l), .int (i : Int), optV_rep _, .int _, (okTo_opt _).shaped (by decide), (okTo.int _).shaped (by decide), _, rfl, ?_⟩
      have hc := wy.closed dn hlast
      rw [show (PyData.int (i : Int)) = optPy (some i) from rfl, eqv_opt]
      have yl' : ys'.length ≤ i := by
        rw [p.2.length, List.length_map]
        exact Nat.le_trans (List.length_filterMap_le _ _) (by rw [List.length_range]; exact Nat.le_refl _)
      have skip : ringAt es i = none → CAcc D2 (fun G' ys' => Same (upd G D (.lst ys)) G' ∧ Reps F ys' (((List.range (i + 1)).filterMap (ringAt es)).map natsD)) (upd G' D2 (.lst ys')) := fun hn => by
        refine cskip (ys := ys') upd_same ⟨same_del p.1 hG' (Same.refl _), ?_⟩
        rw [List.range_succ, List.filterMap_append]
        simp [hn]
        exact p.2
      refine iteD (fun c => ?_) (fun c => ?_)
      · have on := hc.mpr c
        refine ⟨_, rfl, b, (wayOf es i).map (fun (n : Nat) => (n : Int)), rfl, ?_, ?_, fun m hm hle => ?_⟩
        · rw [← natsV_ints]; exact SqL.of eb'
        · have := wy.pos
          intro z
          rw [List.map_eq_nil_iff] at z
          rw [z] at this
          exact Nat.lt_irrefl _ this
        obtain ⟨m, hm', rfl⟩ := List.mem_map.mp hm
        refine ⟨rfl, _, rfl, iteD (fun c2 => ?_) (fun c2 => ?_)⟩
        · have em : i = m := by injection c2 with z; omega
          subst em
          have hring : ringAt es i = some (wayOf es i) := by
            have cc : OnRing es i ∧ ∀ x ∈ wayOf es i, i ≤ x := ⟨on, fun x hx => by have := hle x (List.mem_map.mpr ⟨x, hx, rfl⟩); omega⟩
            unfold ringAt
            rw [if_pos cc]
          refine ⟨_, rfl, cput (ys := ys') upd_same (by omega) ⟨same_del p.1 hG' (Same.refl _), ?_⟩⟩
          rw [List.range_succ, List.filterMap_append]
          simp only [List.filterMap_cons, List.filterMap_nil, hring, List.map_append, List.map_cons, List.map_nil]
          exact p.2.snoc rx
        · refine skip ?_
          cases e : ringAt es i with
          | none => rfl
          | some r =>
            exfalso
            obtain ⟨_, ls, _⟩ := ringAt_some e
            have h1 := ls m hm'
            have h2 := hle i (List.mem_map.mpr ⟨i, List.mem_of_getElem? (wy.at 0 wy.pos), rfl⟩)
            exact c2 (by congr 1; omega)
      · refine ⟨_, rfl, skip ?_⟩
        cases e : ringAt es i with
        | none => rfl
        | some r => exact absurd (hc.mp (ringAt_some e).1) c
    · rw [yl] at p
      refine q _ (upd F D2 (.lst ys')) _ ?_ (.lst upd_same (p.2.mono (same_upd (nw.bare hG2) _)))
      exact (nw.more ((same_upd hG _).trans p.1)).done hG'
end
end Law

namespace Law
open PySem L2 Ways Ring PyProof.Rows
section
variable {P : Program} {w : World} {K : PySem.W.Frag} {mg : Str → Option Value} {base : Heap}
theorem reps_at {H : Hp} {xs : List V} {l : List (List Nat)} (rs : Reps H xs (l.map natsD)) {i : Nat} {x : V} (hx : xs[i]? = some x) : ∃ t b, l[i]? = some t ∧ x = .ref b ∧ H b = some (.lst (natsV t)) := by
  obtain ⟨t, ht, rt⟩ := reps_map rs hx
  obtain ⟨b, rfl, eb⟩ := rep_nats rt
  exact ⟨t, b, ht, rfl, eb⟩
/-! ### copied -/
def sp_copied : Sp := fun vs H Q _ => ∃ x l, vs = [x] ∧ Rep H x (ringsD l) ∧ l.length ≤ 900 ∧ ∀ r F H', New H F H' → Rep F r (ringsD l) → Q r H'
/-- a block of copies -/
theorem copies {cap : List (Option Nat)} {σ : L2.St} {Q : VK} {H : Hp} {a D : Addr} {xs : List V} {l : List (List Nat)} {te : TE} (ea : H a = some (.lst xs)) (rs : Reps H xs (l.map natsD)) (hl : l.length ≤ 900) (hD : H D = none)
    (ht : ∀ x G Q', (∃ b t, x = .ref b ∧ G b = some (.lst (natsV t)) ∧ ∀ c, G c = none → Q' (.ref c) (upd G c (.lst (natsV t)))) → te ((capt σ cap).set 0 (some x)) G Q')
    (fin : ∀ F G ys, G D = none → New H F G → Reps F ys (l.map natsD) → Q (.ref D) (upd G D (.lst ys))) : CompAt cap (gName 0) tTrue te σ Q (Itl K a) H D := by
  have xl : xs.length = l.length := by rw [rs.length, List.length_map]
  refine comp_list (K := K) (xs := xs) (fun i G ys => ∃ F', New H F' G ∧ Reps F' ys ((l.take i).map natsD)) hD ⟨_, New.start _, .nil⟩ (fun i G ys ⟨_, p, _⟩ => SqL.of (p.keep _ _ ea)) (fun i x G ys hx hG p => ?_) (fun G ys hG p => ?_)
  · obtain ⟨F', n', rs'⟩ := p
    obtain ⟨t, b, ht', rfl, eb⟩ := reps_at rs hx
    refine ht _ _ _ ⟨b, t, rfl, same_upd hG _ _ _ (n'.keep _ _ eb), fun c hc => ?_⟩
    refine cput (ys := ys) (same_upd hc _ _ _ upd_same) (by have := rs'.length; rw [List.length_map, List.length_take] at this; omega) ⟨_, n'.grow hG (same_upd hc _) hc upd_same, ?_⟩
    have hcD : c ≠ D := by rintro rfl; rw [upd_same] at hc; cases hc
    rw [upd_ne hcD] at hc
    rw [List.take_succ, ht', Option.toList_some, List.map_append, List.map_singleton]
    exact (rs'.mono (same_upd (n'.bare hc) _)).snoc (nats_rep upd_same)
  · obtain ⟨F', n', rs'⟩ := p
    rw [xl, List.take_length] at rs'
    exact fin F' G ys hG n' rs'
theorem def_copied (T : Txt mg) (h : Here K mg "copied" s_copied ["piles"]) : Def P w K mg base "copied" 1 ["piles"] sp_copied := h.mk fun f fd F => by
  have nd := sc_copied.nd
  refine F.ok sc_copied (fun vs H Q E h => ?_) (fun cdv A outer s H vs Q E hr h => ?_)
  · obtain ⟨x, l, rfl, _⟩ := h
    rfl
  obtain ⟨x, l, rfl, r, hl, q⟩ := h
  refine ⟨_, pss_one (ps_ret (pe_comp (N' := ["pile"]) (cap := [none]) rfl ⟨rfl, rfl, rfl, rfl, rfl, rfl⟩ (pi_listK (K := K) (pv 0)) (fun _ _ _ _ _ _ => ⟨pg_name (i := 0) (show (["pile"] : List Str).Nodup by decide +kernel) rfl (Or.inl rfl) (Or.inr rfl), pifs_nil, pe_callTy (call_listK (K := K)) rfl T.z_list boot_list (pa_cons (pv 0) pa_nil)⟩) (keeps_name rfl))), ?_⟩
  obtain ⟨a, xs, rfl, ea, rs⟩ := rep_list r
  refine ⟨_, rfl, a, rfl, ⟨xs, SqL.of ea⟩, fun D hD => ?_⟩
  refine copies ea rs hl hD (fun x G Q' ⟨b, t, e, eb, q'⟩ => ?_) (fun F G ys hG nw rs' => ?_)
  · subst e
    exact ⟨_, rfl, b, _, rfl, .inl (SqL.of eb), q'⟩
  · exact q _ (upd F D (.lst ys)) _ (nw.done hG) (.lst upd_same (rs'.mono (same_upd (nw.bare hG) _)))
/-! ### tops -/
def sp_tops_of : Sp := fun vs H Q _ => ∃ x l, vs = [x] ∧ Rep H x (ringsD l) ∧ l.length ≤ 900 ∧ ∀ r H', Same H H' → H r = none → H' r = some (.lst ((topsN l).map optV)) → Q (.ref r) H'
theorem def_tops_of (T : Txt mg) (h : Here K mg "tops_of" s_tops_of ["piles"]) : Def P w K mg base "tops_of" 1 ["piles"] sp_tops_of := h.mk fun f fd F => by
  have nd := sc_tops_of.nd
  refine F.ok sc_tops_of (fun vs H Q E h => ?_) (fun cdv A outer s H vs Q E hr h => ?_)
  · obtain ⟨x, l, rfl, _⟩ := h
    rfl
  obtain ⟨x, l, rfl, r, hl, q⟩ := h
  refine ⟨_, pss_one (ps_ret (pe_comp (N' := ["pile"]) (cap := [none]) rfl ⟨rfl, rfl, rfl, rfl, rfl, rfl⟩ (pi_listK (K := K) (pv 0)) (fun _ _ _ _ _ _ => ⟨pg_name (i := 0) (show (["pile"] : List Str).Nodup by decide +kernel) rfl (Or.inl rfl) (Or.inr rfl), pifs_nil, pe_ifExp (pt_truthK (K := K) (pv 0) (fun _ => rfl)) (pe_ix (ix_lt (K := K)) (pv 0) pe_int (fun _ _ => rfl)) pe_non⟩) (keeps_name rfl))), ?_⟩
  obtain ⟨a, xs, rfl, ea, rs⟩ := rep_list r
  have xl : xs.length = l.length := by rw [rs.length, List.length_map]
  refine ⟨_, rfl, a, rfl, ⟨xs, SqL.of ea⟩, fun D hD => ?_⟩
  refine comp_list (K := K) (xs := xs) (FlatP H fun i => (l[i]?).bind fun t => some (optV t.head?)) hD FlatP.zero (fun i G ys p => SqL.of (p.1 _ _ ea)) (fun i x G ys hx hG p => ?_) (fun G ys hG p => ?_)
  · obtain ⟨t, b, ht, rfl, eb⟩ := reps_at rs hx
    have eb' := same_upd hG (.lst ys) _ _ (p.1 _ _ eb)
    have hi := lt_of_get ht
    refine ⟨_, rfl, _, .inl ⟨_, SqL.of eb', rfl⟩, ?_⟩
    cases t with
    | nil => exact p.put hG (Same.refl _) (by rw [ht]; rfl) (by omega)
    | cons c t => exact ⟨_, rfl, .inl ⟨b, _, 0, _, rfl, rfl, SqL.of eb', atI0 _ _, p.put hG (Same.refl _) (by rw [ht]; rfl) (by omega)⟩⟩
  · refine q D _ (p.1.trans (same_upd hG _)) hD ?_
    rw [upd_same, p.2, xl, flat_list, fm_some]
    unfold topsN
    rw [List.map_map]
    rfl
/-! ### without the tops of some places -/
theorem cut_one (r : List Nat) : cutV (natsV r) (some 1) none = natsV (r.drop 1) := by
  cases r with
  | nil => rfl
  | cons a r =>
    unfold cutV HT.sIx natsV
    simp
    exact List.take_of_length_le (by simp)
def sp_without_tops : Sp := fun vs H Q _ => ∃ x y l c, vs = [x, y] ∧ Rep H x (ringsD l) ∧ Rep H y (natsD c) ∧ l.length ≤ 900 ∧ ∀ r F H', New H F H' → Rep F r (ringsD (popN l c)) → Q r H'
theorem def_without_tops (T : Txt mg) (h : Here K mg "without_tops" s_without_tops ["piles", "places"]) : Def P w K mg base "without_tops" 1 ["piles", "places"] sp_without_tops := h.mk fun f fd F => by
  have nd := sc_without_tops.nd
  refine F.ok sc_without_tops (fun vs H Q E h => ?_) (fun cdv A outer s H vs Q E hr h => ?_)
  · obtain ⟨x, y, l, c, rfl, _⟩ := h
    rfl
  obtain ⟨x, y, l, c, rfl, r, ry, hl, q⟩ := h
  refine ⟨_, pss_one (ps_ret (pe_comp (N' := ["place", "pile", "places"]) (cap := [none, none, some 1]) rfl ⟨rfl, rfl, rfl, rfl, rfl, rfl⟩ (pi_enumK (K := K) rfl T.z_enumerate (pa_cons (pv 0) pa_nil)) (fun _ _ _ _ _ _ => ⟨pg_tupK (K := K) rfl (pgs_cons (pg_name (i := 0) (show (["place", "pile", "places"] : List Str).Nodup by decide +kernel) rfl (Or.inl rfl) (Or.inr rfl)) (pgs_cons (pg_name (i := 1) (show (["place", "pile", "places"] : List Str).Nodup by decide +kernel) rfl (Or.inl rfl) (Or.inr rfl)) pgs_nil)), pifs_nil, pe_ifExp (pt_cmpR (op_inK (K := K)) (pv 0) (pv 2) rfl) (pe_slice (sl_listK (K := K)) (pv 1) (po_some pe_int) po_none) (pe_callTy (call_listK (K := K)) rfl T.z_list boot_list (pa_cons (pv 1) pa_nil))⟩) (keeps_two rfl rfl))), ?_⟩
  obtain ⟨a, xs, rfl, ea, rs⟩ := rep_list r
  obtain ⟨d, rfl, ed⟩ := rep_nats ry
  have xl : xs.length = l.length := by rw [rs.length, List.length_map]
  refine ⟨_, rfl, a, rfl, ⟨xs, SqL.of ea⟩, fun D hD => ?_⟩
  refine comp_enum (K := K) (xs := xs) (fun i G ys => ∃ F', New H F' G ∧ Reps F' ys (((popN l c).take i).map natsD)) hD ⟨_, New.start _, .nil⟩ (fun i G ys ⟨_, p, _⟩ => SqL.of (p.keep _ _ ea)) (fun i x U G ys hx hG hUD hU p => ?_) (fun G ys hG p => ?_)
  · obtain ⟨F', n', rs'⟩ := p
    obtain ⟨t, b, ht, rfl, eb⟩ := reps_at rs hx
    have hU1 : (upd G D (.lst ys)) U = none := by rw [upd_ne hUD]; exact hU
    have s1 : Same G (upd (upd G D (.lst ys)) U (.tup [.int (i : Int), .ref b])) := (same_upd hG _).trans (same_upd hU1 _)
    have hi := lt_of_get ht
    have yl : ys.length ≤ i := by have := rs'.length; rw [List.length_map, List.length_take, popN_len] at this; omega
    have hat := popN_at l c i
    rw [ht] at hat
    have fin : ∀ e, (upd (upd G D (.lst ys)) U (.tup [.int (i : Int), .ref b])) e = none → ∀ u, (popN l c)[i]? = some u → CPut D (fun G ys => ∃ F', New H F' G ∧ Reps F' ys (((popN l c).take (i + 1)).map natsD)) (.ref e) (upd (upd (upd G D (.lst ys)) U (.tup [.int (i : Int), .ref b])) e (.lst (natsV u))) := fun e he u hu => by
      have he1 : (upd G D (.lst ys)) e = none := (same_upd hU1 _).free he
      have hs : Same (upd G D (.lst ys)) (upd (upd (upd G D (.lst ys)) U (.tup [.int (i : Int), .ref b])) e (.lst (natsV u))) := (same_upd hU1 _).trans (same_upd he _)
      refine cput (ys := ys) (hs _ _ upd_same) (by omega) ⟨_, n'.grow hG hs he1 upd_same, ?_⟩
      have heD : e ≠ D := by rintro rfl; rw [upd_same] at he1; cases he1
      rw [upd_ne heD] at he1
      rw [List.take_succ, hu, Option.toList_some, List.map_append, List.map_singleton]
      exact (rs'.mono (same_upd (n'.bare he1) _)).snoc (nats_rep upd_same)
    refine ⟨U, _, rfl, SqT.of upd_same, rfl, _, _, rfl, _, _, rfl, rfl, ?_⟩
    have ed' := s1 _ _ (n'.keep _ _ ed)
    have eb' := s1 _ _ (n'.keep _ _ eb)
    refine ⟨_, rfl, _, rfl, d, _, rfl, .inl (SqL.of ed'), rfl, flat_nats _, _, rfl, ?_⟩
    show if inV (.int (i : Int)) (natsV c) = true then _ else _
    rw [inV_nats]
    refine iteD (fun hc => ?_) (fun hc => ?_)
    · refine ⟨_, rfl, _, rfl, b, _, rfl, SqL.of eb', fun e he => ?_⟩
      rw [cut_one]
      exact fin e he _ (by rw [hat, Option.map_some, if_pos hc])
    · refine ⟨_, rfl, b, _, rfl, .inl (SqL.of eb'), fun e he => ?_⟩
      exact fin e he _ (by rw [hat, Option.map_some, if_neg hc])
  · obtain ⟨F', n', rs'⟩ := p
    rw [xl, ← popN_len l c, List.take_length] at rs'
    exact q _ (upd F' D (.lst ys)) _ (n'.done hG) (.lst upd_same (rs'.mono (same_upd (n'.bare hG) _)))
/-! ### the rings of the tops of piles -/
theorem New.after {H H1 F H2 : Hp} (s : Same H H1) (n : New H1 F H2) : New H F H2 := ⟨s.trans n.keep, n.sub, fun b o e => s.free (n.fresh b o e)⟩
def sp_top_rings : Sp := fun vs H Q _ => ∃ x p, vs = [x] ∧ Rep H x (ringsD p) ∧ PilesOk p ∧ ∀ r F H', New H F H' → Rep F r (ringsD (ringsN (topsN p))) → Q r H'
theorem def_top_rings (T : Txt mg) (D_rings_of : Def P w K mg base "rings_of" 2 ["tops"] sp_rings_of) (D_tops_of : Def P w K mg base "tops_of" 1 ["piles"] sp_tops_of) (h : Here K mg "top_rings" s_top_rings ["piles"]) : Def P w K mg base "top_rings" 3 ["piles"] sp_top_rings := h.mk fun f fd F => by
  have nd := sc_top_rings.nd
  refine F.ok sc_top_rings (fun vs H Q E h => ?_) (fun cdv A outer s H vs Q E hr h => ?_)
  · obtain ⟨x, p, rfl, _⟩ := h
    rfl
  obtain ⟨x, p, rfl, r, ok, q⟩ := h
  refine ⟨_, pss_one (ps_ret (pe_callD D_rings_of hr rfl (pa_cons (pe_callD D_tops_of hr rfl (pa_cons (pv 0) pa_nil)) pa_nil))), ?_⟩
  have len8 := ok.len
  refine ⟨_, rfl, x, p, rfl, r, by omega, fun a H1 s1 hn ea => ?_⟩
  exact ⟨a, topsN p, rfl, ea, ok.inB, by rw [topsN_len]; exact ok.len, fun t F H2 nw rt => q t F H2 (New.after s1 nw) rt⟩
/-! ### the order's next number -/
def OrdV (H : Hp) (v : V) (o : Option (List Int)) : Prop := match o with
  | none => v = .non
  | some l => ∃ a, v = .ref a ∧ H a = some (.lst (l.map V.int))
theorem OrdV.mono {H H' : Hp} {v : V} {o : Option (List Int)} (s : Same H H') (h : OrdV H v o) : OrdV H' v o := by
  cases o with
  | none => exact h
  | some l =>
    obtain ⟨a, e, ea⟩ := h
    exact ⟨a, e, s _ _ ea⟩
def sp_number_at : Sp := fun vs H Q _ => ∃ v o t, vs = [v, .int ((t : Nat) : Int)] ∧ OrdV H v o ∧ Q (.int (numN o t)) H
theorem def_number_at (T : Txt mg) (h : Here K mg "number_at" s_number_at ["order", "turn"]) : Def P w K mg base "number_at" 1 ["order", "turn"] sp_number_at := h.mk fun f fd F => by
  have nd := sc_number_at.nd
  refine F.ok sc_number_at (fun vs H Q E h => ?_) (fun cdv A outer s H vs Q E hr h => ?_)
  · obtain ⟨v, o, t, rfl, _⟩ := h
    rfl
  obtain ⟨v, o, t, rfl, ho, q⟩ := h
  refine ⟨_, pss_cons (ps_if (PW.pt (pw_or (pt_cmp (pc_isN (pv 0))) (pw_or1 (pt_cmpR op_ge (pv 1) (pe_callB (call_lenK (K := K)) rfl T.z_len PySem.boot_len (pa_cons (pv 0) pa_nil)) (nomark _)))))
      (pss_one (ps_ret pe_int))
      (pss_nil))
    (pss_one (ps_ret (pe_ix (ix_lt (K := K)) (pv 0) (pv 1) (fun _ _ => rfl)))), ?_⟩
  cases o with
  | none =>
    cases (show v = .non from ho)
    exact ⟨_, rfl, _, rfl, q⟩
  | some l =>
    obtain ⟨a, rfl, ea⟩ := ho
    refine ⟨_, rfl, _, rfl, ?_⟩
    refine ⟨_, rfl, _, rfl, a, _, rfl, .inl (SqL.of ea), _, _, rfl, rfl, _, rfl, ?_⟩
    rw [List.length_map]
    have q' : Q (.int (l.getD t 0)) H := q
    refine iteD (fun c => ?_) (fun c => ?_)
    · rw [List.getD_eq_getElem?_getD, List.getElem?_eq_none (by omega)] at q'
      exact q'
    · have ht : t < l.length := by omega
      rw [List.getD_eq_getElem?_getD, List.getElem?_eq_getElem ht] at q'
      exact ⟨_, rfl, _, rfl, .inl ⟨a, _, _, _, rfl, rfl, SqL.of ea, atI_nat (j := t) (by rw [List.getElem?_map, List.getElem?_eq_getElem ht]; rfl), q'⟩⟩
end
end Law

namespace Law
open PySem L2 Ways Ring PyProof.Rows
section
variable {P : Program} {w : World} {K : PySem.W.Frag} {mg : Str → Option Value} {base : Heap}
/-! ### two views in one -/
def both (F G : Hp) : Hp := fun b => match F b with
  | some o => some o
  | none => G b
theorem both_left {F G : Hp} : Same F (both F G) := fun b o e => by unfold both; rw [e]
theorem both_right {F G : Hp} (h : ∀ b o, G b = some o → F b = none) : Same G (both F G) := fun b o e => by unfold both; rw [h b o e]; exact e
theorem both_none {F G : Hp} {b : Addr} (h1 : F b = none) (h2 : G b = none) : both F G b = none := by unfold both; rw [h1]; exact h2
theorem both_or {F G : Hp} {b : Addr} {o : HO} (h : both F G b = some o) : F b = some o ∨ (F b = none ∧ G b = some o) := by
  unfold both at h
  cases e : F b with
  | some u => rw [e] at h; exact .inl h
  | none => rw [e] at h; exact .inr ⟨rfl, h⟩
theorem New.join {H F H1 F2 H2 : Hp} (n : New H F H1) (m : New H1 F2 H2) : New H (both F F2) H2 ∧ Same F2 (both F F2) := by
  have dis : ∀ b o, F2 b = some o → F b = none := fun b o e => n.sub.free (m.fresh b o e)
  refine ⟨⟨n.keep.trans m.keep, fun b o e => ?_, fun b o e => ?_⟩, both_right dis⟩
  · rcases both_or e with z | ⟨_, z⟩
    · exact m.keep _ _ (n.sub _ _ z)
    · exact m.sub _ _ z
  · rcases both_or e with z | ⟨_, z⟩
    · exact n.fresh _ _ z
    · exact n.keep.free (m.fresh _ _ z)
theorem New.write {H F G : Hp} {p : Addr} (n : New H F G) (hF : F p = none) (hH : H p = none) (o : HO) : New H F (upd G p o) :=
  ⟨fun b u e => by rw [upd_ne (ne_of_none e hH)]; exact n.keep b u e, fun b u e => by rw [upd_ne (ne_of_none e hF)]; exact n.sub b u e, n.fresh⟩
theorem New.see {H F G : Hp} {p : Addr} {o : HO} (n : New H F G) (hG : G p = some o) (hF : F p = none) (hH : H p = none) : New H (upd F p o) G := by
  refine ⟨n.keep, fun b u e => ?_, fun b u e => ?_⟩
  · by_cases hb : b = p
    · subst hb; rw [upd_same] at e; cases e; exact hG
    · rw [upd_ne hb] at e; exact n.sub b u e
  · by_cases hb : b = p
    · subst hb; exact hH
    · rw [upd_ne hb] at e; exact n.fresh b u e
theorem New.lay {H F G : Hp} {p : Addr} (n : New H F G) (hG : G p = none) (o : HO) : New H F (upd G p o) := n.more (same_upd hG o)
/-! ### popped out -/
def outD (rs : List (List Nat)) (p : Piles) : PyData := .tuple [ringsD rs, ringsD p]
structure PopAt (H H' : Hp) (num : Nat → Int) (p0 : Piles) (pR : Addr) (rest found : V) (F : Hp) (ys : List V) (rs : List (List Nat)) (p : Piles) : Prop where
  nw : New H F H'
  at' : H' pR = some (.lst ys)
  no : F pR = none
  hno : H pR = none
  rep : Reps F ys (rs.map natsD)
  rest : Rep F rest (ringsD p)
  found : Rep F found (ringsD (ringsN (topsN p)))
  steps : Steps num p0 rs p
def sp_pop_out : Sp := fun vs H Q _ => ∃ x v p o, vs = [x, v] ∧ Rep H x (ringsD p) ∧ PilesOk p ∧ OrdV H v o ∧ ∀ rs rest r F H', Out (numN o) p rs rest → New H F H' → Rep F r (outD rs rest) → Q r H'
theorem def_pop_out (T : Txt mg) (D_copied : Def P w K mg base "copied" 1 ["piles"] sp_copied) (D_top_rings : Def P w K mg base "top_rings" 3 ["piles"] sp_top_rings) (D_number_at : Def P w K mg base "number_at" 1 ["order", "turn"] sp_number_at)
    (D_without_tops : Def P w K mg base "without_tops" 1 ["piles", "places"] sp_without_tops) (h : HereD K mg "pop_out" s_pop_out ["piles", "order"] [.none]) : Def P w K mg base "pop_out" 4 ["piles", "order"] sp_pop_out ∧ DefS P w K mg base "pop_out" 4 ["piles", "order"] [.none] sp_pop_out := h.mk fun f fd F => by
  have nd := sc_pop_out.nd
  refine F.ok sc_pop_out (fun vs H Q E h => ?_) (fun cdv A outer s H vs Q E hr h => ?_)
  · obtain ⟨x, v, p, o, rfl, _⟩ := h
    rfl
  obtain ⟨x, v, p0, o, rfl, r, ok, ho, q⟩ := h
  refine ⟨_, pss_cons (ps_set (i := 2) nd rfl (Or.inl rfl) (pe_lst pa_nil))
    (pss_cons (ps_set (i := 3) nd rfl (Or.inl rfl) (pe_callD D_copied hr rfl (pa_cons (pv 0) pa_nil)))
    (pss_cons (ps_set (i := 4) nd rfl (Or.inl rfl) (pe_callD D_top_rings hr rfl (pa_cons (pv 3) pa_nil)))
    (pss_cons (ps_while PassesOwn.never (pt_truthK (K := K) (pv 4) (fun _ => rfl))
      (pss_cons (ps_set (i := 5) nd rfl (Or.inl rfl) (pe_ix (ix_lt (K := K)) (pv 4) (pe_op op_mod (pe_callD D_number_at hr rfl (pa_cons (pv 1) (pa_cons (pe_callB (call_lenK (K := K)) rfl T.z_len PySem.boot_len (pa_cons (pv 2) pa_nil)) pa_nil))) (pe_callB (call_lenK (K := K)) rfl T.z_len PySem.boot_len (pa_cons (pv 4) pa_nil))) (fun _ _ => rfl)))
      (pss_cons (ps_expr (pe_bm PySem.F.plainAttrs_list PySem.F.slot_list_append PySem.F.type_list_append mt_append (pv 2) (pa_cons (pv 5) pa_nil)))
      (pss_cons (ps_set (i := 3) nd rfl (Or.inl rfl) (pe_callD D_without_tops hr rfl (pa_cons (pv 3) (pa_cons (pv 5) pa_nil))))
      (pss_one (ps_set (i := 4) nd rfl (Or.inl rfl) (pe_callD D_top_rings hr rfl (pa_cons (pv 3) pa_nil))))))))
    (pss_one (ps_ret (pe_tup (pa_cons (pv 2) (pa_cons (pv 3) pa_nil)))))))), ?_⟩
  have len8 := ok.len
  refine ⟨Nat.zero_le _, fun pR hR => ?_⟩
  have s1 := same_upd hR (HO.lst [])
  refine ⟨_, rfl, x, p0, rfl, r.mono s1, by omega, fun rv F1 H1 n1 r1 => ?_⟩
  have eR1 := n1.keep pR (HO.lst []) upd_same
  refine ⟨_, rfl, rv, p0, rfl, r1.mono n1.sub, ok, fun fv F2 H2 n2 r2 => ?_⟩
  obtain ⟨n12, k2⟩ := n1.join n2
  have start : PopAt H H2 (numN o) p0 pR rv fv (both F1 F2) [] [] p0 := by
    refine ⟨New.after s1 n12, n2.keep _ _ eR1, ?_, hR, .nil, r1.mono both_left, r2.mono k2, .nil⟩
    refine both_none ?_ ?_
    · cases e : F1 pR with
      | none => rfl
      | some u => have := n1.fresh _ _ e; rw [upd_same] at this; cases this
    · cases e : F2 pR with
      | none => rfl
      | some u => have := n2.fresh _ _ e; rw [eR1] at this; cases this
  refine ⟨fun m σ' H' => ∃ (rest found : V) (c5 : Option V) (F : Hp) (ys : List V) (rs : List (List Nat)) (p : Piles), σ' = [some x, some v, some (.ref pR), some rest, some found, c5] ∧ PopAt H H' (numN o) p0 pR rest found F ys rs p ∧ m = sizeN p,
    ⟨sizeN p0, rv, fv, none, _, _, _, _, rfl, start, rfl⟩, ?_⟩
  clear start n12 k2 r2 n2 eR1 r1 n1 F1 F2 H1 H2
  rintro m σ' H' ⟨rest, found, c5, F, ys, rs, p, rfl, B, rfl⟩
  obtain ⟨okp, _, hsz⟩ := B.steps.ok ok
  obtain ⟨fa, fx, rfl, ef, rf⟩ := rep_list B.found
  have ef' := B.nw.sub _ _ ef
  have fl : fx.length = (ringsN (topsN p)).length := by rw [rf.length, List.length_map]
  have few := ok.few
  have rsl : ys.length = rs.length := by rw [B.rep.length, List.length_map]
  refine ⟨_, rfl, _, .inl ⟨_, SqL.of ef', rfl⟩, ?_⟩
  refine iteB (fun c => ?_) (fun c => ?_)
  · have hne : ringsN (topsN p) ≠ [] := by
      intro z
      rw [z] at fl
      cases fx with
      | nil => simp at c
      | cons _ _ => simp at fl
    have hlt := pick_lt (num := numN o) (t := rs.length) hne
    have hpos : 0 < (ringsN (topsN p)).length := List.length_pos_iff.mpr hne
    refine ⟨fun σ' H' => ∃ (rest found : V) (c5 : Option V) (F : Hp) (ys : List V) (rs : List (List Nat)) (p' : Piles), σ' = [some x, some v, some (.ref pR), some rest, some found, c5] ∧ PopAt H H' (numN o) p0 pR rest found F ys rs p' ∧ sizeN p' < sizeN p, ?_, ?_⟩
    · rintro σ2 H2 ⟨rest, found, c5, F, ys, rs, p', e, B', hl⟩
      exact ⟨_, hl, rest, found, c5, F, ys, rs, p', e, B', rfl⟩
    · refine ⟨_, rfl, _, rfl, _, rfl, pR, _, rfl, .inl (SqL.of B.at'), v, o, _, rfl, ho.mono B.nw.keep, ?_⟩
      refine ⟨_, rfl, fa, _, rfl, .inl (SqL.of ef'), _, _, rfl, rfl, by omega, ?_⟩
      have hidx : numN o ys.length % (fx.length : Int) = (((numN o rs.length % ((ringsN (topsN p)).length : Int)).toNat : Nat) : Int) := by
        rw [rsl, fl]
        have := Int.emod_nonneg (numN o rs.length) (show ((ringsN (topsN p)).length : Int) ≠ 0 by omega)
        omega
      have hx : fx[(numN o rs.length % ((ringsN (topsN p)).length : Int)).toNat]? = some fx[(numN o rs.length % ((ringsN (topsN p)).length : Int)).toNat] := List.getElem?_eq_getElem (by omega)
      obtain ⟨t, b, ht, hb, eb⟩ := reps_at rf hx
      have hpick : pick (numN o) rs.length (ringsN (topsN p)) = t := by
        unfold pick
        rw [List.getD_eq_getElem?_getD, ht]
        rfl
      have hat : atI fx (numN o ys.length % (fx.length : Int)) = some (.ref b) := by rw [hidx, ← hb]; exact atI_nat hx
      refine .inl ⟨fa, _, _, _, rfl, rfl, SqL.of ef', hat, ?_⟩
      -- rings.append(ring)
      refine ⟨_, rfl, .inl ⟨rfl, _, SqL.of B.at'⟩, _, rfl, pR, _, _, rfl, rfl, B.at', small1000 (by omega), ?_⟩
      have nA := B.nw.write B.no B.hno (.lst (ys ++ [.ref b]))
      have eA : (upd H' pR (.lst (ys ++ [.ref b]))) pR = some (.lst (ys ++ [.ref b])) := upd_same
      -- rest
      refine ⟨_, rfl, _, rfl, rest, .ref b, p, t, rfl, B.rest.mono nA.sub, nats_rep (nA.sub _ _ eb), by have := okp.len; omega, fun rv F1 H1 n1 r1 => ?_⟩
      obtain ⟨n2, k2⟩ := nA.join n1
      have okt : PilesOk (popN p t) := okp.pop t
      refine ⟨_, rfl, rv, popN p t, rfl, r1.mono n1.sub, okt, fun fv F3 H3 n3 r3 => ?_⟩
      obtain ⟨n4, k4⟩ := n2.join n3
      refine ⟨rv, fv, _, both (both F F1) F3, _, rs ++ [t], popN p t, rfl, ⟨n4, n3.keep _ _ (n1.keep _ _ eA), ?_, B.hno, ?_, r1.mono (k2.trans both_left), r3.mono k4, ?_⟩, ?_⟩
      · refine both_none (both_none B.no ?_) ?_
        · cases e : F1 pR with
          | none => rfl
          | some u => have := n1.fresh _ _ e; rw [eA] at this; cases this
        · cases e : F3 pR with
          | none => rfl
          | some u => have := n3.fresh _ _ e; rw [n1.keep _ _ eA] at this; cases this
      · rw [List.map_append]
        exact (B.rep.mono (both_left.trans both_left)).snoc ((nats_rep eb).mono (both_left.trans both_left))
      · have := B.steps.snoc hne
        rw [hpick] at this
        exact this
      · have := pop_less okp.inB (pick_mem (num := numN o) (t := rs.length) hne)
        rw [hpick] at this
        exact this
  · have hnil : ringsN (topsN p) = [] := by
      have : fx = [] := by
        cases fx with
        | nil => rfl
        | cons _ _ => simp at c
      rw [this] at fl
      exact List.eq_nil_of_length_eq_zero fl.symm
    refine ⟨_, rfl, _, rfl, (by show 2 ≤ sizeLine; decide), fun t ht => ?_⟩
    have htR : t ≠ pR := fun z => by rw [z, B.at'] at ht; cases ht
    have htF : F t = none := B.nw.sub.free ht
    have n1 := (B.nw.lay ht (.tup [.ref pR, rest])).see upd_same htF (B.nw.keep.free ht)
    have n2 := n1.see (p := pR) (o := .lst ys) (by rw [upd_ne (Ne.symm htR)]; exact B.at') (by rw [upd_ne (Ne.symm htR)]; exact B.no) B.hno
    have k1 : Same F (upd (upd F t (.tup [.ref pR, rest])) pR (.lst ys)) := (same_upd htF _).trans (same_upd (by rw [upd_ne (Ne.symm htR)]; exact B.no) _)
    refine q rs p (.ref t) _ _ ⟨B.steps, hnil⟩ n2 (.tup (by rw [upd_ne htR]; exact upd_same) (.cons (.lst upd_same (B.rep.mono k1)) (.cons (B.rest.mono k1) .nil)))
end
end Law

namespace Law
open PySem L2 Ways Ring PyProof.Rows
theorem mem_size {p : Piles} {l : List Nat} (h : l ∈ p) : l.length ≤ sizeN p := by
  unfold sizeN
  induction p with
  | nil => cases h
  | cons a t ih =>
    rw [List.map_cons, List.sum_cons]
    rcases List.mem_cons.mp h with rfl | h
    · omega
    · have := ih h; omega
theorem size_set : ∀ {p : Piles} {j k : Nat} {t : List Nat}, p[j]? = some t → sizeN (p.set j (t ++ [k])) = sizeN p + 1
  | [], _, _, _, h => by simp at h
  | a :: p, 0, k, t, h => by
    have e : a = t := by simpa using h
    subst e
    unfold sizeN
    simp
    omega
  | a :: p, j + 1, k, t, h => by
    have ih := size_set (p := p) (j := j) (k := k) (t := t) (by simpa using h)
    unfold sizeN at ih ⊢
    rw [List.set_cons_succ, List.map_cons, List.sum_cons, List.map_cons, List.sum_cons, ih]
    omega
section
variable {P : Program} {w : World} {K : PySem.W.Frag} {mg : Str → Option Value} {base : Heap}
/-! ### piles that are being filled: each in a list of its own -/
structure AnyAt (H H' : Hp) (pP : Addr) (ad : List Addr) (p : Piles) : Prop where
  keep : Same H H'
  at' : H' pP = some (.lst (ad.map V.ref))
  hp : H pP = none
  nd : ad.Nodup
  np : pP ∉ ad
  hn : ∀ b ∈ ad, H b = none
  len : ad.length = p.length
  rep : ∀ (i : Nat) (b : Addr) (t : List Nat), ad[i]? = some b → p[i]? = some t → H' b = some (.lst (natsV t))
theorem AnyAt.put {H H' : Hp} {pP b : Addr} {ad : List Addr} {p : Piles} {j : Nat} {t t' : List Nat} (B : AnyAt H H' pP ad p) (hb : ad[j]? = some b) (ht : p[j]? = some t) : AnyAt H (upd H' b (.lst (natsV t'))) pP ad (p.set j t') := by
  have hm := List.mem_of_getElem? hb
  have hbp : pP ≠ b := fun z => B.np (z ▸ hm)
  refine ⟨fun c u e => ?_, ?_, B.hp, B.nd, B.np, B.hn, by rw [List.length_set]; exact B.len, fun i c u hc hu => ?_⟩
  · rw [upd_ne (ne_of_none e (B.hn b hm))]; exact B.keep c u e
  · rw [upd_ne hbp]; exact B.at'
  · by_cases hij : i = j
    · subst hij
      rw [hb] at hc
      cases hc
      rw [List.getElem?_set_self (lt_of_get ht)] at hu
      cases hu
      rw [upd_same]
    · rw [List.getElem?_set_ne (Ne.symm hij)] at hu
      have hcb : c ≠ b := by
        rintro rfl
        have h1 := lt_of_get hc
        have h2 := lt_of_get hb
        rw [List.getElem?_eq_getElem h1] at hc
        rw [List.getElem?_eq_getElem h2] at hb
        exact hij (nodup_inj B.nd h1 h2 ((Option.some.inj hc).trans (Option.some.inj hb).symm))
      rw [upd_ne hcb]
      exact B.rep i c u hc hu
theorem AnyAt.write {H H' : Hp} {pP b : Addr} {ad : List Addr} {p : Piles} {j k : Nat} {t : List Nat} (B : AnyAt H H' pP ad p) (hb : ad[j]? = some b) (ht : p[j]? = some t) : AnyAt H (upd H' b (.lst (natsV t ++ [.int (k : Int)]))) pP ad (p.set j (t ++ [k])) := by
  have := B.put (t' := t ++ [k]) hb ht
  rw [natsV_append] at this
  exact this
theorem AnyAt.more {H H' H'' : Hp} {pP : Addr} {ad : List Addr} {p : Piles} (B : AnyAt H H' pP ad p) (s : Same H' H'') : AnyAt H H'' pP ad p :=
  ⟨B.keep.trans s, s _ _ B.at', B.hp, B.nd, B.np, B.hn, B.len, fun i b t h1 h2 => s _ _ (B.rep i b t h1 h2)⟩
theorem reps_of {F : Hp} : ∀ {ad : List Addr} {p : Piles}, ad.length = p.length → (∀ (i : Nat) (b : Addr) (t : List Nat), ad[i]? = some b → p[i]? = some t → F b = some (.lst (natsV t))) → Reps F (ad.map V.ref) (p.map natsD)
  | [], [], _, _ => .nil
  | [], _ :: _, h, _ => by simp at h
  | _ :: _, [], h, _ => by simp at h
  | a :: ad, t :: p, h, r => .cons (nats_rep (r 0 a t rfl rfl)) (reps_of (by simpa using h) fun i b t h1 h2 => r (i + 1) b t (by simpa using h1) (by simpa using h2))
open Classical in
theorem AnyAt.view {H H' : Hp} {pP : Addr} {ad : List Addr} {p : Piles} (B : AnyAt H H' pP ad p) : ∃ F, New H F H' ∧ Rep F (.ref pP) (ringsD p) := by
  refine ⟨fun c => if c = pP ∨ c ∈ ad then H' c else none, ⟨B.keep, fun c u e => ?_, fun c u e => ?_⟩, .lst (xs := ad.map V.ref) ?_ (reps_of B.len fun i b t h1 h2 => ?_)⟩
  · by_cases h : c = pP ∨ c ∈ ad
    · simp only [if_pos h] at e; exact e
    · simp only [if_neg h] at e; cases e
  · by_cases h : c = pP ∨ c ∈ ad
    · rcases h with rfl | h
      · exact B.hp
      · exact B.hn c h
    · simp only [if_neg h] at e; cases e
  · simp only [true_or, if_true]; exact B.at'
  · simp only [List.mem_of_getElem? h1, or_true, if_true]; exact B.rep i b t h1 h2

/-- a block of copies, each a list of its own -/
theorem copiesA {cap : List (Option Nat)} {σ : L2.St} {Q : VK} {H : Hp} {a D : Addr} {xs : List V} {l : List (List Nat)} {te : TE} (ea : H a = some (.lst xs)) (rs : Reps H xs (l.map natsD)) (hl : l.length ≤ 900) (hD : H D = none)
    (ht : ∀ x G Q', (∃ b t, x = .ref b ∧ G b = some (.lst (natsV t)) ∧ ∀ c, G c = none → Q' (.ref c) (upd G c (.lst (natsV t)))) → te ((capt σ cap).set 0 (some x)) G Q')
    (fin : ∀ H' ad, AnyAt H H' D ad l → Q (.ref D) H') : CompAt cap (gName 0) tTrue te σ Q (Itl K a) H D := by
  have xl : xs.length = l.length := by rw [rs.length, List.length_map]
  refine comp_list (K := K) (xs := xs) (fun i G ys => ∃ ad : List Addr, ys = ad.map V.ref ∧ ad.length = i ∧ ad.Nodup ∧ Same H G ∧ (∀ b ∈ ad, H b = none ∧ ∃ o, G b = some o) ∧ ∀ (j : Nat) (b : Addr) (t : List Nat), ad[j]? = some b → l[j]? = some t → G b = some (.lst (natsV t))) hD
    ⟨[], rfl, rfl, .nil, Same.refl _, by simp, by simp⟩ (fun i G ys ⟨_, _, _, _, p, _⟩ => SqL.of (p _ _ ea)) (fun i x G ys hx hG p => ?_) (fun G ys hG p => ?_)
  · obtain ⟨ad, rfl, al, hnd, hs, had, hrep⟩ := p
    obtain ⟨t, b, ht', rfl, eb⟩ := reps_at rs hx
    have hi := lt_of_get ht'
    refine ht _ _ _ ⟨b, t, rfl, same_upd hG _ _ _ (hs _ _ eb), fun c hc => ?_⟩
    have hcD : c ≠ D := by rintro rfl; rw [upd_same] at hc; cases hc
    have hcG : G c = none := by rw [upd_ne hcD] at hc; exact hc
    refine cput (ys := ad.map V.ref) (same_upd hc _ _ _ upd_same) (by rw [List.length_map]; omega) ⟨ad ++ [c], by simp, by simp [al], ?_, same_del hs hG (same_upd hc _), fun d hd => ?_, fun j d u h1 h2 => ?_⟩
    · rw [List.nodup_append]
      refine ⟨hnd, by simp, fun x hx y hy e => ?_⟩
      have hy' : y = c := by simpa using hy
      rw [e, hy'] at hx
      obtain ⟨o, eo⟩ := (had c hx).2
      rw [hcG] at eo
      cases eo
    · rcases List.mem_append.mp hd with z | z
      · obtain ⟨h1, o, h2⟩ := had d z
        refine ⟨h1, o, ?_⟩
        have hbD : d ≠ D := ne_of_none h2 hG
        rw [del_ne hbD]
        exact same_upd hc _ _ _ (by rw [upd_ne hbD]; exact h2)
      · have z' : d = c := by simpa using z
        subst z'
        exact ⟨hs.free hcG, _, by rw [del_ne hcD]; exact upd_same⟩
    · by_cases hj : j < ad.length
      · rw [List.getElem?_append_left hj] at h1
        have e1 := hrep j d u h1 h2
        have hbD : d ≠ D := ne_of_none e1 hG
        rw [del_ne hbD]
        exact same_upd hc _ _ _ (by rw [upd_ne hbD]; exact e1)
      · have hlt := lt_of_get h1
        rw [List.length_append, List.length_singleton] at hlt
        have ej : j = i := by omega
        subst ej
        rw [List.getElem?_append_right (by omega), al, Nat.sub_self] at h1
        have hd : c = d := by simpa using h1
        subst hd
        rw [ht'] at h2
        cases h2
        rw [del_ne hcD]
        exact upd_same
  · obtain ⟨ad, rfl, al, hnd, hs, had, hrep⟩ := p
    have np : D ∉ ad := fun z => by
      obtain ⟨o, eo⟩ := (had D z).2
      rw [hG] at eo
      cases eo
    refine fin _ ad ⟨hs.trans (same_upd hG _), upd_same, hD, hnd, np, fun b hb => (had b hb).1, by omega, fun i b t h1 h2 => ?_⟩
    have hbD : b ≠ D := fun z => np (z ▸ List.mem_of_getElem? h1)
    rw [upd_ne hbD]
    exact hrep i b t h1 h2
end
end Law

namespace Law
open PySem L2 Ways Ring PyProof.Rows
section
variable {P : Program} {w : World} {K : PySem.W.Frag} {mg : Str → Option Value} {base : Heap}
def sp_whole : Sp := fun vs H Q _ => ∃ x d, vs = [x] ∧ Rep H x d ∧ Q (.bl (isIntD d)) H
theorem def__law_whole (T : Txt mg) (h : Here K mg "_law_whole" s__law_whole ["_law_found"]) : Def P w K mg base "_law_whole" 1 ["_law_found"] sp_whole := h.mk fun f fd F => by
  have nd := sc__law_whole.nd
  refine F.ok sc__law_whole (fun vs H Q E h => ?_) (fun cdv A outer s H vs Q E hr h => ?_)
  · obtain ⟨x, d, rfl, _⟩ := h
    rfl
  obtain ⟨x, d, rfl, r, q⟩ := h
  refine ⟨_, pss_one (ps_ret (pe_and (pe_callB call_isi rfl T.z_isinstance boot_isinstance (pa_cons (pv 0) (pa_cons (pe_bltn rfl T.z_int boot_int (v := .ty "int") rfl) pa_nil))) (pe_one (pe_not (pe_callB call_isi rfl T.z_isinstance boot_isinstance (pa_cons (pv 0) (pa_cons (pe_bltn rfl T.z_bool boot_bool (v := .ty "bool") rfl) pa_nil))))))), ?_⟩
  have ht := rep_ty r
  refine ⟨_, rfl, _, _, _, rfl, by decide, ht, _, rfl, ?_⟩
  cases d with
  | int i => exact ⟨_, rfl, _, _, _, rfl, by decide, ht, _, rfl, q⟩
  | bool b => exact ⟨_, rfl, _, _, _, rfl, by decide, ht, _, rfl, q⟩
  | _ => exact q
end
end Law

namespace Law
open PySem L2 Ways Ring PyProof.Rows
section
variable {P : Program} {w : World} {K : PySem.W.Frag} {mg : Str → Option Value} {base : Heap}
structure RowC (many : Int) (r : List (Int × Int)) : Prop where
  rise : r.Pairwise fun a b => a.1 < b.1
  within : ∀ a ∈ r, 0 ≤ a.1 ∧ a.1 < many ∧ 1 ≤ a.2 ∧ a.2 ≤ 10 ^ 30
  few : (r.length : Int) ≤ many
structure NetC (net : Net) : Prop where
  pos : 1 ≤ net.length
  len : net.length ≤ 8
  rows : ∀ r ∈ net, RowC net.length r
theorem RowC.nil {many : Int} (h : 0 ≤ many) : RowC many [] := ⟨.nil, (fun a ha => nomatch ha), h⟩
theorem RowC.snoc {many to wt : Int} {r : List (Int × Int)} (h : RowC many r) (hl : ∀ a ∈ r, a.1 < to) (h0 : 0 ≤ to) (h1 : to < many) (h2 : (r.length : Int) ≤ to) (w0 : 1 ≤ wt) (w1 : wt ≤ 10 ^ 30) : RowC many (r ++ [(to, wt)]) where
  rise := by
    rw [List.pairwise_append]
    exact ⟨h.rise, by simp, fun a ha b hb => by simp at hb; rw [hb]; exact hl a ha⟩
  within := fun a ha => by
    rcases List.mem_append.mp ha with q | q
    · exact h.within a q
    · simp at q; rw [q]; exact ⟨h0, h1, w0, w1⟩
  few := by rw [List.length_append, List.length_singleton]; omega
/-- what a net of the law's making is being built as: views of the heap without the two lists that still grow -/
structure Bld (H F H' : Hp) (pN : Addr) (rowsV : List V) (net : Net) : Prop where
  keep : Same H H'
  at' : H' pN = some (.lst rowsV)
  sub : Same F H'
  no : F pN = none
  fresh : ∀ b o, F b = some o → H b = none
  reps : Reps F rowsV (net.map rowD)
theorem Bld.len {H F H' : Hp} {pN : Addr} {rowsV : List V} {net : Net} (B : Bld H F H' pN rowsV net) : rowsV.length = net.length := by rw [B.reps.length, List.length_map]
theorem Bld.more {H F H' H'' : Hp} {pN : Addr} {rowsV : List V} {net : Net} (B : Bld H F H' pN rowsV net) (s : Same H' H'') : Bld H F H'' pN rowsV net where
  keep := B.keep.trans s
  at' := s _ _ B.at'
  sub := B.sub.trans s
  no := B.no
  fresh := B.fresh
  reps := B.reps
theorem Bld.seen {H F H' : Hp} {pN p : Addr} {rowsV : List V} {net : Net} {o : HO} (B : Bld H F H' pN rowsV net) (hp : H' p = some o) (hn : F p = none) (hpN : p ≠ pN) (hf : H p = none) : Bld H (upd F p o) H' pN rowsV net where
  keep := B.keep
  at' := B.at'
  sub := fun b u e => by
    by_cases hb : b = p
    · subst hb; rw [upd_same] at e; cases e; exact hp
    · rw [upd_ne hb] at e; exact B.sub b u e
  no := by rw [upd_ne (Ne.symm hpN)]; exact B.no
  fresh := fun b u e => by
    by_cases hb : b = p
    · subst hb; exact hf
    · rw [upd_ne hb] at e; exact B.fresh b u e
  reps := B.reps.mono (same_upd hn o)
theorem Bld.wrote {H F H' : Hp} {pN p : Addr} {rowsV : List V} {net : Net} (B : Bld H F H' pN rowsV net) (hn : F p = none) (hpN : p ≠ pN) (hf : H p = none) (o : HO) : Bld H F (upd H' p o) pN rowsV net where
  keep := fun b u e => by rw [upd_ne (ne_of_none e hf)]; exact B.keep b u e
  at' := by rw [upd_ne (Ne.symm hpN)]; exact B.at'
  sub := fun b u e => by rw [upd_ne (ne_of_none e hn)]; exact B.sub b u e
  no := B.no
  fresh := B.fresh
  reps := B.reps
theorem Bld.push {H F H' : Hp} {pN : Addr} {rowsV : List V} {net : Net} {v : V} {r : List (Int × Int)} (B : Bld H F H' pN rowsV net) (hf : H pN = none) (rv : Rep F v (rowD r)) : Bld H F (upd H' pN (.lst (rowsV ++ [v]))) pN (rowsV ++ [v]) (net ++ [r]) where
  keep := fun b u e => by rw [upd_ne (ne_of_none e hf)]; exact B.keep b u e
  at' := upd_same
  sub := fun b u e => by rw [upd_ne (ne_of_none e B.no)]; exact B.sub b u e
  no := B.no
  fresh := B.fresh
  reps := by rw [List.map_append]; exact B.reps.snoc rv
/-- a row that is being built beside it -/
structure BRow (H F H' : Hp) (pN pR : Addr) (rowsV arrsV : List V) (net : Net) (row : List (Int × Int)) (many : Int) (j : Nat) : Prop where
  b : Bld H F H' pN rowsV net
  at' : H' pR = some (.lst arrsV)
  no : F pR = none
  hf : H pR = none
  ne : pR ≠ pN
  reps : Reps F arrsV (row.map arrD)
  ok : RowC many row
  lt : ∀ a ∈ row, a.1 < j
  few : row.length ≤ j
theorem BRow.more {H F H' H'' : Hp} {pN pR : Addr} {rowsV arrsV : List V} {net : Net} {row : List (Int × Int)} {many : Int} {j : Nat} (B : BRow H F H' pN pR rowsV arrsV net row many j) (s : Same H' H'') : BRow H F H'' pN pR rowsV arrsV net row many j :=
  ⟨B.b.more s, s _ _ B.at', B.no, B.hf, B.ne, B.reps, B.ok, B.lt, B.few⟩
theorem BRow.skip {H F H' : Hp} {pN pR : Addr} {rowsV arrsV : List V} {net : Net} {row : List (Int × Int)} {many : Int} {j : Nat} (B : BRow H F H' pN pR rowsV arrsV net row many j) : BRow H F H' pN pR rowsV arrsV net row many (j + 1) :=
  ⟨B.b, B.at', B.no, B.hf, B.ne, B.reps, B.ok, fun a ha => by have := B.lt a ha; omega, by have := B.few; omega⟩
/-- an arrow is put to it -/
theorem BRow.put {H F H' : Hp} {pN pR t : Addr} {rowsV arrsV : List V} {net : Net} {row : List (Int × Int)} {many wt : Int} {j : Nat} (B : BRow H F H' pN pR rowsV arrsV net row many j) (ht : H' t = none) (hj : (j : Int) < many) (w0 : 1 ≤ wt) (w1 : wt ≤ 10 ^ 30) :
    ∃ F2, BRow H F2 (upd (upd H' t (.tup [.int (0 + (j : Int)), .int wt])) pR (.lst (arrsV ++ [.ref t]))) pN pR rowsV (arrsV ++ [.ref t]) net (row ++ [(0 + (j : Int), wt)]) many (j + 1) := by
  have htR : pR ≠ t := ne_of_none B.at' ht
  have htN : t ≠ pN := fun z => by rw [z, B.b.at'] at ht; cases ht
  have htF : F t = none := B.b.sub.free ht
  refine ⟨upd F t (.tup [.int (0 + (j : Int)), .int wt]), ?_⟩
  have nR : (upd F t (.tup [.int (0 + (j : Int)), .int wt])) pR = none := by rw [upd_ne htR]; exact B.no
  refine ⟨((B.b.more (same_upd ht _)).seen upd_same htF htN (B.b.keep.free ht)).wrote nR B.ne B.hf _, upd_same, nR, B.hf, B.ne, ?_, B.ok.snoc (fun a ha => by have := B.lt a ha; omega) (by omega) (by omega) (by have := B.few; omega) w0 w1, fun a ha => ?_, by rw [List.length_append, List.length_singleton]; have := B.few; omega⟩
  · rw [List.map_append]
    exact (B.reps.mono (same_upd htF _)).snoc (.tup upd_same (.cons (.int _) (.cons (.int _) .nil)))
  · rcases List.mem_append.mp ha with z | z
    · have := B.lt a z; omega
    · simp at z; rw [z]; simp; omega
theorem BRow.len {H F H' : Hp} {pN pR : Addr} {rowsV arrsV : List V} {net : Net} {row : List (Int × Int)} {many : Int} {j : Nat} (B : BRow H F H' pN pR rowsV arrsV net row many j) : arrsV.length ≤ j := by
  have := B.reps.length
  rw [List.length_map] at this
  have := B.few
  omega
/-- the row is put to the net -/
theorem BRow.done {H F H' : Hp} {pN pR : Addr} {rowsV arrsV : List V} {net : Net} {row : List (Int × Int)} {many : Int} {j : Nat} (B : BRow H F H' pN pR rowsV arrsV net row many j) (hN : H pN = none) : ∃ F2, Bld H F2 (upd H' pN (.lst (rowsV ++ [.ref pR]))) pN (rowsV ++ [.ref pR]) (net ++ [row]) :=
  ⟨_, (B.b.seen B.at' B.no B.ne B.hf).push hN (.lst upd_same (B.reps.mono (same_upd B.no _)))⟩
end
end Law

namespace Law
open PySem L2 Ways Ring PyProof.Rows
seal L2.PE L2.PA L2.PS L2.PSs L2.PG L2.PT
section
variable {P : Program} {w : World} {K : PySem.W.Frag} {mg : Str → Option Value} {base : Heap}
/-! ### numbers -/
def sp_nextB : Sp := fun vs H Q _ => ∃ n : Int, vs = [.int n] ∧ ∀ m : Int, 0 ≤ m → m < 2 ^ 64 → Q (.int m) H
theorem def__law_next (T : Txt mg) (h : Here K mg "_law_next" s__law_next ["_law_number"]) : Def P w K mg base "_law_next" 1 ["_law_number"] sp_nextB := h.mk fun f fd F => by
  have nd := sc__law_next.nd
  refine F.ok sc__law_next (fun vs H Q E h => ?_) (fun cdv A outer s H vs Q E hr h => ?_)
  · obtain ⟨n, rfl, _⟩ := h
    rfl
  obtain ⟨n, rfl, q⟩ := h
  refine ⟨_, pss_one (ps_ret (pe_op op_mod (pe_op op_mul (pe_op op_xor (pv 0) (pe_op op_fdivB (pv 0) (pe_op op_pow pe_int pe_int))) pe_int) (pe_op op_pow pe_int pe_int))), ?_⟩
  exact ⟨_, rfl, _, rfl, _, _, rfl, rfl, ⟨by decide, by decide, by decide⟩, _, _, rfl, rfl, pow2_ok _ (by decide) _, _, _, rfl, rfl, _, _, rfl, rfl, .inr ⟨by decide, by decide⟩, _, _, rfl, rfl, ⟨by decide, by decide, by decide⟩, _, _, rfl, rfl, (pow2_ok _ (by decide) 0).1, q _ (Int.emod_nonneg _ (by decide)) (Int.emod_lt_of_pos _ (by decide))⟩
def sp_fold (K : PySem.W.Frag) : Sp := fun vs H Q _ => ∃ (a : Addr) (ns : List Int) (n : Int), vs = [.ref a, .int n] ∧ SqL K H a (ns.map V.int) ∧ ∀ m : Int, Q (.int m) H
theorem def__law_fold (T : Txt mg) (h : Here K mg "_law_fold" s__law_fold ["_law_script", "_law_number"]) : Def P w K mg base "_law_fold" 1 ["_law_script", "_law_number"] (sp_fold K) := h.mk fun f fd F => by
  have nd := sc__law_fold.nd
  refine F.ok sc__law_fold (fun vs H Q E h => ?_) (fun cdv A outer s H vs Q E hr h => ?_)
  · obtain ⟨a, ns, n, rfl, _⟩ := h
    rfl
  obtain ⟨a, ns, n, rfl, hS, q⟩ := h
  refine ⟨_, pss_cons (ps_for PassesOwn.never rfl (pi_listK (K := K) (pv 0)) (pg_name (i := 2) nd rfl (Or.inl rfl))
      (pss_cons (ps_set (i := 1) nd rfl (Or.inl rfl) (pe_op op_mod (pe_op op_mul (pe_op op_add (pv 1) (pe_op op_mod (pv 2) (pe_op op_pow pe_int pe_int))) pe_int) (pe_op op_pow pe_int pe_int)))
      (pss_one (ps_set (i := 1) nd rfl (Or.inl rfl) (pe_op op_xor (pv 1) (pe_op op_fdivB (pv 1) (pe_op op_pow pe_int pe_int)))))))
    (pss_one (ps_ret (pv 1))), ?_⟩
  refine ⟨_, rfl, a, rfl, ⟨_, hS⟩, for_list (xs := ns.map V.int) (fun i σ' H' => ∃ (n : Int) (c : Option V), σ' = [some (.ref a), some (.int n), c] ∧ H' = H) ⟨n, none, rfl, rfl⟩ (fun i σ' H' _ ⟨_, _, _, e⟩ => e ▸ hS) ?_ ?_⟩
  · rintro i x σ' H' hx ⟨n, c, rfl, rfl⟩
    obtain ⟨z, rfl⟩ : ∃ z : Int, x = V.int z := by
      rw [List.getElem?_map] at hx
      cases e : ns[i]? with
      | none => rw [e] at hx; cases hx
      | some z => rw [e] at hx; exact ⟨z, (Option.some.inj hx).symm⟩
    refine ⟨_, rfl, _, rfl, _, _, rfl, rfl, ⟨by decide, by decide, by decide⟩, _, _, rfl, rfl, (pow2_ok _ (by decide) 0).1, _, _, rfl, rfl, _, _, rfl, rfl, .inr ⟨by decide, by decide⟩, _, _, rfl, rfl, ⟨by decide, by decide, by decide⟩, _, _, rfl, rfl, (pow2_ok _ (by decide) 0).1, ?_⟩
    exact ⟨_, rfl, _, rfl, _, _, rfl, rfl, ⟨by decide, by decide, by decide⟩, _, _, rfl, rfl, pow2_ok _ (by decide) _, _, _, rfl, rfl, _, _, rfl, rfl⟩
  · rintro σ' H' ⟨n, c, rfl, rfl⟩
    exact ⟨_, rfl, q n⟩
/-! ### an order of the places -/
def sp_turned : Sp := fun vs H Q _ => ∃ (n : Int) (m : Nat), vs = [.int n, .int (m : Int)] ∧ m ≤ 8 ∧ ∀ r H' order, Same H H' → H r = none → H' r = some (.lst (natsV order)) → order.Perm (List.range m) → Q (.ref r) H'
theorem upV_nats (n : Nat) : upV n = natsV (List.range n) := rfl
theorem natsV_erase : ∀ (l : List Nat) (k : Nat), (natsV l).eraseIdx k = natsV (l.eraseIdx k)
  | [], _ => rfl
  | _ :: _, 0 => rfl
  | a :: l, k + 1 => by
    show V.int (a : Int) :: (natsV l).eraseIdx k = V.int (a : Int) :: natsV (l.eraseIdx k)
    rw [natsV_erase l k]
theorem er_perm : ∀ (l : List Nat) (k : Nat) {x : Nat}, l[k]? = some x → l.Perm (x :: l.eraseIdx k)
  | [], k, _, h => by simp at h
  | a :: l, 0, x, h => by
    have : a = x := by simpa using h
    subst this
    exact List.Perm.refl _
  | a :: l, k + 1, x, h => by
    have ih := er_perm l k (x := x) (by simpa using h)
    exact (ih.cons a).trans (List.Perm.swap x a _)
theorem erase_perm {l : List Nat} {k : Nat} {x : Nat} (h : l[k]? = some x) (t : List Nat) : (l.eraseIdx k ++ (t ++ [x])).Perm (l ++ t) := by
  refine List.Perm.trans ?_ ((er_perm l k h).append_right t).symm
  rw [← List.append_assoc]
  exact List.perm_append_singleton _ _
theorem seqIx {k n : Nat} (h : k < n) : seqIndex? (k : Int) n = some k := by
  unfold seqIndex?
  split <;> simp_all
  all_goals omega
theorem def__law_turned (T : Txt mg) (D__law_next : Def P w K mg base "_law_next" 1 ["_law_number"] sp_nextB) (h : Here K mg "_law_turned" s__law_turned ["_law_number", "_law_many"]) : Def P w K mg base "_law_turned" 2 ["_law_number", "_law_many"] sp_turned := h.mk fun f fd F => by
  have nd := sc__law_turned.nd
  refine F.ok sc__law_turned (fun vs H Q E h => ?_) (fun cdv A outer s H vs Q E hr h => ?_)
  · obtain ⟨n, m, rfl, _⟩ := h
    rfl
  obtain ⟨n, m, rfl, h8, q⟩ := h
  refine ⟨_, pss_cons (ps_set (i := 2) nd rfl (Or.inl rfl) (pe_listRng rfl rfl T.z_list rfl T.z_range (pa_cons (pv 1) pa_nil)))
    (pss_cons (ps_set (i := 3) nd rfl (Or.inl rfl) (pe_lst pa_nil))
    (pss_cons (ps_while PassesOwn.never (pt_cmpR op_gt (pe_callB (call_lenK (K := K)) rfl T.z_len PySem.boot_len (pa_cons (pv 2) pa_nil)) pe_int (nomark _))
      (pss_cons (ps_set (i := 0) nd rfl (Or.inl rfl) (pe_callD D__law_next hr rfl (pa_cons (pv 0) pa_nil)))
      (pss_one (ps_expr (pe_bm PySem.F.plainAttrs_list PySem.F.slot_list_append PySem.F.type_list_append mt_append (pv 3) (pa_cons (pe_bm PySem.F.plainAttrs_list PySem.F.slot_list_pop PySem.F.type_list_pop mt_popAt (pv 2) (pa_cons (pe_draw (pv 0) (pe_callB (call_lenK (K := K)) rfl T.z_len PySem.boot_len (pa_cons (pv 2) pa_nil))) pa_nil)) pa_nil))))))
    (pss_one (ps_ret (pv 3))))), ?_⟩
  refine ⟨_, rfl, m, rfl, by omega, fun pL hL => ?_⟩
  rw [upV_nats]
  have sL := same_upd hL (HO.lst (natsV (List.range m)))
  have eL : (upd H pL (.lst (natsV (List.range m)))) pL = some (.lst (natsV (List.range m))) := upd_same
  generalize upd H pL (.lst (natsV (List.range m))) = H1 at sL eL ⊢
  refine ⟨Nat.zero_le _, fun pO hO => ?_⟩
  have hO0 : H pO = none := sL.free hO
  have nLO : pL ≠ pO := fun z => by rw [z, hO] at eL; cases eL
  refine ⟨fun k σ' H' => ∃ (n : Int) (left order : List Nat), σ' = [some (.int n), some (.int (m : Int)), some (.ref pL), some (.ref pO)] ∧ Same H H' ∧ H' pL = some (.lst (natsV left)) ∧ H' pO = some (.lst (natsV order)) ∧ (left ++ order).Perm (List.range m) ∧ k = left.length,
    ⟨m, n, List.range m, [], rfl, sL.trans (same_upd hO _), same_upd hO _ _ _ eL, upd_same, by rw [List.append_nil], by rw [List.length_range]⟩, ?_⟩
  rintro k σ' H' ⟨n, left, order, rfl, hs, hl, ho, pm, rfl⟩
  have tot := pm.length_eq
  rw [List.length_append, List.length_range] at tot
  refine ⟨_, rfl, pL, _, rfl, .inl (SqL.of hl), _, _, rfl, rfl, _, rfl, ?_⟩
  rw [natsV_len]
  by_cases c : left.length = 0
  · rw [decide_eq_false (by omega)]
    have le : left = [] := List.eq_nil_of_length_eq_zero c
    subst le
    exact ⟨_, rfl, q pO H' order hs hO0 ho (by simpa using pm)⟩
  · rw [decide_eq_true (by omega)]
    refine ⟨fun σ' H' => ∃ (n : Int) (left' order : List Nat), σ' = [some (.int n), some (.int (m : Int)), some (.ref pL), some (.ref pO)] ∧ Same H H' ∧ H' pL = some (.lst (natsV left')) ∧ H' pO = some (.lst (natsV order)) ∧ (left' ++ order).Perm (List.range m) ∧ left'.length + 1 = left.length, ?_, ?_⟩
    · rintro σ2 H2 ⟨n', left', order', e1, e2, e3, e4, e5, e6⟩
      exact ⟨_, by omega, n', left', order', e1, e2, e3, e4, e5, rfl⟩
    · refine ⟨_, rfl, n, rfl, fun n2 _ _ => ?_⟩
      refine ⟨_, rfl, .inl ⟨rfl, _, SqL.of ho⟩, ?_⟩
      refine ⟨_, rfl, .inl ⟨rfl, _, SqL.of hl⟩, _, rfl, _, rfl, _, rfl, pL, _, rfl, .inl (SqL.of hl), _, rfl, by rw [natsV_len]; omega, fun u hu0 hu1 => ?_⟩
      rw [natsV_len] at hu1
      obtain ⟨k, rfl⟩ := Int.eq_ofNat_of_zero_le hu0
      have hk : k < left.length := by omega
      have hx : left[k]? = some left[k] := List.getElem?_eq_getElem hk
      have hy : (natsV left)[k]? = some (V.int ((left[k] : Nat) : Int)) := by
        unfold natsV
        rw [List.getElem?_map, hx]
        rfl
      refine ⟨pL, natsV left, (k : Int), k, _, rfl, rfl, hl, by omega, by omega, ?_, hy, ?_⟩
      · rw [natsV_len]
        exact seqIx hk
      rw [natsV_erase]
      have ho2 : (upd H' pL (.lst (natsV (left.eraseIdx k)))) pO = some (.lst (natsV order)) := by rw [upd_ne (Ne.symm nLO)]; exact ho
      refine ⟨pO, _, _, rfl, rfl, ho2, small1000 (by rw [natsV_len]; omega), n2, left.eraseIdx k, order ++ [left[k]], rfl, ?_, ?_, ?_, ?_, ?_⟩
      · intro b o hb
        rw [upd_ne (ne_of_none hb hO0), upd_ne (ne_of_none hb hL)]
        exact hs b o hb
      · rw [upd_ne nLO, upd_same]
      · rw [upd_same, natsV_append]
        rfl
      · exact (erase_perm hx order).trans pm
      · rw [List.length_eraseIdx, if_pos hk]
        omega
/-! ### a tree by that order -/
structure Grown (order : List Nat) (es : List (Option Nat)) : Prop where
  len : es.length = order.length
  ok : ∀ (i p : Nat), order[i]? = some p → nextE es p = none ∨ ∃ j e, j < i ∧ order[j]? = some e ∧ nextE es p = some e
theorem nextE_rep (n p : Nat) : nextE (List.replicate n none) p = none := by
  unfold nextE
  rw [List.getElem?_replicate]
  split <;> rfl
theorem rep_none (n : Nat) : (List.replicate n ([V.non] : List V)).flatten = (List.replicate n (none : Option Nat)).map optV := by
  induction n with
  | zero => rfl
  | succ n ih => rw [List.replicate_succ, List.flatten_cons, ih, List.replicate_succ, List.map_cons]; rfl
def sp_grown : Sp := fun vs H Q _ => ∃ (n r : Int) (a : Addr) (order : List Nat), vs = [.int n, .ref a, .int r] ∧ H a = some (.lst (natsV order)) ∧ order.Perm (List.range order.length) ∧ 1 ≤ order.length ∧ order.length ≤ 8 ∧ 1 ≤ r ∧ r ≤ 8 ∧ ∀ p H' es, Same H H' → H p = none → H' p = some (.lst (es.map optV)) → Grown order es → Q (.ref p) H'
theorem def__law_grown (T : Txt mg) (D__law_next : Def P w K mg base "_law_next" 1 ["_law_number"] sp_nextB) (h : Here K mg "_law_grown" s__law_grown ["_law_number", "_law_order", "_law_roots"]) : Def P w K mg base "_law_grown" 2 ["_law_number", "_law_order", "_law_roots"] sp_grown := h.mk fun f fd F => by
  have nd := sc__law_grown.nd
  refine F.ok sc__law_grown (fun vs H Q E h => ?_) (fun cdv A outer s H vs Q E hr h => ?_)
  · obtain ⟨n, r, a, order, rfl, _⟩ := h
    rfl
  obtain ⟨n, r, a, order, rfl, ea, pm, l1, l8, r1, r8, q⟩ := h
  refine ⟨_, pss_cons (ps_set (i := 3) nd rfl (Or.inl rfl) (pe_op op_rep (pe_lst (pa_cons pe_non pa_nil)) (pe_callB (call_lenK (K := K)) rfl T.z_len PySem.boot_len (pa_cons (pv 1) pa_nil))))
    (pss_cons (ps_for PassesOwn.never rfl (pi_range2 rfl T.z_range (pa_cons (pe_callB (call_min2 rfl) rfl T.z_min boot_min (pa_cons (pv 2) (pa_cons (pe_callB (call_lenK (K := K)) rfl T.z_len PySem.boot_len (pa_cons (pv 1) pa_nil)) pa_nil))) (pa_cons (pe_callB (call_lenK (K := K)) rfl T.z_len PySem.boot_len (pa_cons (pv 1) pa_nil)) pa_nil))) (pg_name (i := 4) nd rfl (Or.inl rfl))
      (pss_cons (ps_set (i := 0) nd rfl (Or.inl rfl) (pe_callD D__law_next hr rfl (pa_cons (pv 0) pa_nil)))
      (pss_one (ps_asg (pe_ix (ix_lt (K := K)) (pv 1) (pe_draw (pv 0) (pv 4)) (fun _ _ => rfl)) (pg_sub (pv 3) (pe_ix (ix_lt (K := K)) (pv 1) (pv 4) (fun _ _ => rfl)) set_list)))))
    (pss_one (ps_ret (pv 3)))), ?_⟩
  have ol : (natsV order).length = order.length := natsV_len order
  have ond : order.Nodup := pm.nodup_iff.mpr List.nodup_range
  have obd : ∀ x ∈ order, x < order.length := fun x hx => List.mem_range.mp (pm.mem_iff.mp hx)
  refine ⟨(by show 1 ≤ sizeLine; decide), fun p0 hp0 => ?_⟩
  have s0 := same_upd hp0 (HO.lst [.non])
  refine ⟨_, rfl, a, _, rfl, .inl (SqL.of (s0 _ _ ea)), p0, _, [.non], rfl, rfl, upd_same, by omega, by omega, ?_, fun pT hT => ?_⟩
  · show 1 * ((natsV order).length : Int).toNat ≤ sizeLine
    exact Nat.le_of_lt (small1000 (by omega))
  have hT0 : H pT = none := s0.free hT
  have s1 := s0.trans (same_upd hT (.lst (List.replicate (((natsV order).length : Int)).toNat [V.non]).flatten))
  have e1 : (upd (upd H p0 (.lst [.non])) pT (.lst (List.replicate (((natsV order).length : Int)).toNat [V.non]).flatten)) pT = some (.lst ((List.replicate order.length (none : Option Nat)).map optV)) := by
    rw [upd_same, rep_none, ol]
    rfl
  generalize upd (upd H p0 (.lst [.non])) pT (.lst (List.replicate (((natsV order).length : Int)).toNat [V.non]).flatten) = H1 at s1 e1 ⊢
  have eaH1 := s1 _ _ ea
  obtain ⟨lo, hlo, lo1, lo2⟩ : ∃ lo : Nat, (if ((natsV order).length : Int) < r then ((natsV order).length : Int) else r) = (lo : Int) ∧ 1 ≤ lo ∧ lo ≤ order.length := by
    by_cases c : ((natsV order).length : Int) < r
    · exact ⟨order.length, by rw [if_pos c, ol], l1, Nat.le_refl _⟩
    · exact ⟨r.toNat, by rw [if_neg c]; omega, by omega, by omega⟩
  refine ⟨_, rfl, _, rfl, a, _, rfl, .inl (SqL.of eaH1), r, _, rfl, ?_⟩
  rw [hlo]
  refine ⟨_, rfl, a, _, rfl, .inl (SqL.of eaH1), _, _, rfl, ⟨by omega, by omega, by omega, by omega⟩, for_range (lo := (lo : Int)) (fun i σ' H' => ∃ (n : Int) (es : List (Option Nat)) (c4 : Option V), σ' = [some (.int n), some (.ref a), some (.int r), some (.ref pT), c4] ∧ Same H H' ∧ H' pT = some (.lst (es.map optV)) ∧ Grown order es)
    ⟨n, _, none, rfl, s1, e1, ⟨by rw [List.length_replicate], fun i p _ => .inl (nextE_rep _ _)⟩⟩ ?_ ?_⟩
  · rintro i σ' H' hi ⟨n, es, c4, rfl, hs, et, gr⟩
    have hk : lo + i < order.length := by omega
    have ex : ((lo : Int) + (i : Int)) = ((lo + i : Nat) : Int) := by omega
    rw [ex]
    refine ⟨_, rfl, n, rfl, fun n2 _ _ => ?_⟩
    refine ⟨_, rfl, _, rfl, _, rfl, _, rfl, _, rfl, by omega, fun u hu0 hu1 => ?_⟩
    obtain ⟨j, rfl⟩ := Int.eq_ofNat_of_zero_le hu0
    have hj : j < lo + i := by omega
    have hpo : order[lo + i]? = some (order[lo + i]) := List.getElem?_eq_getElem hk
    have heo : order[j]? = some (order[j]'(by omega)) := List.getElem?_eq_getElem _
    have nat : ∀ {m x : Nat}, order[m]? = some x → atI (natsV order) (m : Int) = some (V.int (x : Int)) := fun {m x} h => atI_nat (by unfold natsV; rw [List.getElem?_map, h]; rfl)
    have hpb := obd _ (List.mem_of_getElem? hpo)
    refine .inl ⟨a, _, _, _, rfl, rfl, SqL.of (hs _ _ ea), nat heo, ?_⟩
    refine ⟨_, rfl, _, rfl, _, rfl, .inl ⟨a, _, _, _, rfl, rfl, SqL.of (hs _ _ ea), nat hpo, ?_⟩⟩
    refine ⟨pT, _, _, order[lo + i], rfl, rfl, et, ixN_nat (by rw [List.length_map, gr.len]; exact hpb), ?_⟩
    refine ⟨n2, es.set (order[lo + i]) (some (order[j]'(by omega))), _, rfl, ?_, ?_, ?_⟩
    · intro b o hb
      rw [upd_ne (ne_of_none hb hT0)]
      exact hs b o hb
    · rw [upd_same, List.map_set]
      rfl
    · refine ⟨by rw [List.length_set]; exact gr.len, fun i' p' hp' => ?_⟩
      by_cases c : order[lo + i] = p'
      · have e3 : i' = lo + i := by
          have hi' := lt_of_get hp'
          rw [List.getElem?_eq_getElem hi'] at hp'
          have e4 : order[i'] = order[lo + i] := (Option.some.inj hp').trans c.symm
          by_cases c2 : i' < lo + i
          · exact absurd e4 (List.pairwise_iff_getElem.mp ond i' (lo + i) hi' hk c2)
          · by_cases c3 : lo + i < i'
            · exact absurd e4.symm (List.pairwise_iff_getElem.mp ond (lo + i) i' hk hi' c3)
            · omega
        subst e3
        rw [← c]
        exact .inr ⟨j, _, hj, heo, nextE_set_self (by rw [gr.len]; exact hpb)⟩
      · rw [nextE_set_ne c]
        exact gr.ok i' p' hp'
  · rintro σ' H' ⟨n, es, c4, rfl, hs, et, gr⟩
    exact ⟨_, rfl, q pT H' es hs hT0 et gr⟩
end
end Law

namespace Law
open PySem L2 Ways Ring PyProof.Rows
seal L2.PE L2.PA L2.PS L2.PSs L2.PG L2.PT
def FitAt (es : List (Option Nat)) (p : Nat) (row : List (Int × Int)) : Prop := (row = [] ∧ nextE es p = none) ∨ (row ≠ [] ∧ ∃ e : Nat, nextE es p = some e ∧ (e : Int) ∈ row.map (·.1))
theorem div8 (i : Int) : CDivB i 8 := ⟨by decide, by decide +kernel⟩
theorem grown_tree {net : Net} {es : List (Option Nat)} {order : List Nat} (gr : Grown order es) (pm : order.Perm (List.range order.length)) (hl : net.length = order.length) (fit : ∀ (p : Nat) row, net[p]? = some row → FitAt es p row) : TreeOf net es := by
  have ond : order.Nodup := pm.nodup_iff.mpr List.nodup_range
  have obd : ∀ x ∈ order, x < order.length := fun x hx => List.mem_range.mp (pm.mem_iff.mp hx)
  refine Hung.tree (hg := order) ⟨by rw [gr.len, hl], ond, fun p hp => by rw [hl]; exact obd p hp, fun i p hp => ?_⟩ (by omega)
  have hpl : p < net.length := by rw [hl]; exact obd p (List.mem_of_getElem? hp)
  have hr : net[p]? = some net[p] := List.getElem?_eq_getElem hpl
  rcases fit p _ hr with ⟨a, b⟩ | ⟨a, e, b, c⟩
  · exact .inl ⟨by rw [hr, a], b⟩
  · rcases gr.ok i p hp with z | ⟨j, e', hj, he', z⟩
    · rw [b] at z; cases z
    · rw [b] at z
      cases z
      exact .inr ⟨_, e, j, hr, a, b, c, he', hj⟩
theorem grown_in {es : List (Option Nat)} {order : List Nat} (gr : Grown order es) (pm : order.Perm (List.range order.length)) : InB es := fun p e he => by
  have obd : ∀ x ∈ order, x < order.length := fun x hx => List.mem_range.mp (pm.mem_iff.mp hx)
  have hp : p < es.length := by
    by_cases c : p < es.length
    · exact c
    · unfold nextE at he
      rw [List.getElem?_eq_none (by omega)] at he
      cases he
  rw [gr.len] at hp ⊢
  obtain ⟨i, hi, ei⟩ := List.mem_iff_getElem.mp (pm.mem_iff.mpr (List.mem_range.mpr hp))
  rcases gr.ok i p (by rw [List.getElem?_eq_getElem hi, ei]) with z | ⟨j, e', hj, he', z⟩
  · rw [he] at z; cases z
  · rw [he] at z
    cases z
    exact obd e (List.mem_of_getElem? he')
section
variable {P : Program} {w : World} {K : PySem.W.Frag} {mg : Str → Option Value} {base : Heap}
/-! ### a net and a tree of it -/
def sp_hung : Sp := fun vs H Q _ => ∃ n most : Int, vs = [.int n, .int most] ∧ 1 ≤ most ∧ most ≤ 8 ∧ ∀ (r pN pT : Addr) net es H', NetC net → TreeOf net es → Same H H' → H' r = some (.lst [.ref pN, .ref pT]) → Rep H' (.ref pN) (netD net) → H' pT = some (.lst (es.map optV)) → Q (.ref r) H'
theorem def__law_hung (T : Txt mg) (D__law_next : Def P w K mg base "_law_next" 1 ["_law_number"] sp_nextB) (D__law_turned : Def P w K mg base "_law_turned" 2 ["_law_number", "_law_many"] sp_turned) (D__law_grown : Def P w K mg base "_law_grown" 2 ["_law_number", "_law_order", "_law_roots"] sp_grown) (h : Here K mg "_law_hung" s__law_hung ["_law_number", "_law_most"]) : Def P w K mg base "_law_hung" 3 ["_law_number", "_law_most"] sp_hung := h.mk fun f fd F => by
  have nd := sc__law_hung.nd
  refine F.ok sc__law_hung (fun vs H Q E h => ?_) (fun cdv A outer s H vs Q E hr h => ?_)
  · obtain ⟨n, most, rfl, _⟩ := h
    rfl
  obtain ⟨n, most, rfl, hm0, hm1, q⟩ := h
  refine ⟨_, pss_cons (ps_set (i := 2) nd rfl (Or.inl rfl) (pe_op op_add pe_int (pe_draw (pv 0) (pv 1))))
    (pss_cons (ps_set (i := 3) nd rfl (Or.inl rfl) (pe_ix (ix_lt (K := K)) (pe_lst (pa_cons pe_int (pa_cons pe_int (pa_cons (pe_op op_pow pe_int pe_int) (pa_cons (pe_op op_sub (pe_op op_pow pe_int pe_int) pe_int) pa_nil))))) (pe_draw (pv 0) pe_int) (fun _ _ => rfl)))
    (pss_cons (ps_set (i := 4) nd rfl (Or.inl rfl) (pe_draw (pv 0) pe_int))
    (pss_cons (ps_set (i := 5) nd rfl (Or.inl rfl) (pe_callD D__law_grown hr rfl (pa_cons (pe_op op_add (pv 0) pe_int) (pa_cons (pe_callD D__law_turned hr rfl (pa_cons (pv 0) (pa_cons (pv 2) pa_nil))) (pa_cons (pe_op op_add pe_int (pe_draw (pv 0) pe_int)) pa_nil)))))
    (pss_cons (ps_set (i := 6) nd rfl (Or.inl rfl) (pe_lst pa_nil))
    (pss_cons (ps_for PassesOwn.never rfl (pi_range1 rfl T.z_range (pa_cons (pv 2) pa_nil)) (pg_name (i := 7) nd rfl (Or.inl rfl))
      (pss_cons (ps_set (i := 8) nd rfl (Or.inl rfl) (pe_lst pa_nil))
      (pss_cons (ps_for PassesOwn.never rfl (pi_range1 rfl T.z_range (pa_cons (pv 2) pa_nil)) (pg_name (i := 9) nd rfl (Or.inl rfl))
        (pss_cons (ps_set (i := 0) nd rfl (Or.inl rfl) (pe_callD D__law_next hr rfl (pa_cons (pv 0) pa_nil)))
        (pss_one (ps_if (PW.pt (pw_and (pt_cmp (pc_notN (pe_ix (ix_lt (K := K)) (pv 5) (pv 7) (fun _ _ => rfl)))) (pw_and1 (PW.pt (pw_or (pt_cmpR (op_eqD hr) (pv 9) (pe_ix (ix_lt (K := K)) (pv 5) (pv 7) (fun _ _ => rfl)) (nomark _)) (pw_or1 (pt_cmpR op_lt (pe_draw (pv 0) pe_int) (pv 4) (nomark _))))))))
          (pss_one (ps_expr (pe_bm PySem.F.plainAttrs_list PySem.F.slot_list_append PySem.F.type_list_append mt_append (pv 8) (pa_cons (pe_tup (pa_cons (pv 9) (pa_cons (pe_op op_add pe_int (pe_modA (pe_op op_fdivB (pe_op op_mul (pv 0) (pv 0)) pe_int) (pv 3))) pa_nil))) pa_nil))))
          (pss_nil)))))
      (pss_one (ps_expr (pe_bm PySem.F.plainAttrs_list PySem.F.slot_list_append PySem.F.type_list_append mt_append (pv 6) (pa_cons (pv 8) pa_nil)))))))
    (pss_one (ps_ret (pe_lst (pa_cons (pv 6) (pa_cons (pv 5) pa_nil)))))))))), ?_⟩
  refine ⟨_, rfl, _, rfl, _, rfl, _, rfl, hm0, fun r0 hr0 hr1 => ⟨_, _, rfl, rfl, ?_⟩⟩
  obtain ⟨m, hm⟩ : ∃ m : Nat, 1 + r0 = (m : Int) := ⟨(1 + r0).toNat, by omega⟩
  change gName 2 (V.int (1 + r0)) _ _ _
  rw [hm]
  have m1 : 1 ≤ m := by omega
  have m8 : m ≤ 8 := by omega
  refine ⟨_, _, rfl, rfl, ⟨by decide, by decide, by decide⟩, _, _, rfl, rfl, ⟨by decide, by decide, by decide⟩, _, _, rfl, rfl, (by show 4 ≤ sizeLine; decide), fun l hl => ?_⟩
  have sl := same_upd hl (HO.lst [V.int 1, .int 9, .int (10 ^ (18 : Int).toNat), .int (10 ^ (30 : Int).toNat - 1)])
  refine ⟨_, rfl, _, rfl, _, rfl, by decide, fun u hu0 hu1 => ?_⟩
  obtain ⟨sc, hat, sc1, sc2⟩ : ∃ sc : Int, atI [V.int 1, .int 9, .int (10 ^ (18 : Int).toNat), .int (10 ^ (30 : Int).toNat - 1)] u = some (.int sc) ∧ 1 ≤ sc ∧ sc ≤ 10 ^ 30 := by
    have u2 : u < 4 := hu1
    have : u = 0 ∨ u = 1 ∨ u = 2 ∨ u = 3 := by omega
    rcases this with rfl | rfl | rfl | rfl
    · exact ⟨_, rfl, by decide, by decide⟩
    · exact ⟨_, rfl, by decide, by decide⟩
    · exact ⟨_, rfl, by decide, by decide⟩
    · exact ⟨_, rfl, by decide, by decide⟩
  refine .inl ⟨l, _, _, _, rfl, rfl, SqL.of upd_same, hat, ?_⟩
  refine ⟨_, rfl, _, rfl, _, rfl, by decide, fun dense _ _ => ?_⟩
  have eH1 : Same H (upd H l (.lst [V.int 1, .int 9, .int (10 ^ (18 : Int).toNat), .int (10 ^ (30 : Int).toNat - 1)])) := sl
  generalize upd H l (.lst [V.int 1, .int 9, .int (10 ^ (18 : Int).toNat), .int (10 ^ (30 : Int).toNat - 1)]) = H1 at sl ⊢
  refine ⟨_, rfl, _, _, rfl, rfl, _, rfl, _, rfl, n, m, rfl, m8, fun rO H2 order s2 hrO erO pm => ?_⟩
  have olen : order.length = m := by have := pm.length_eq; rwa [List.length_range] at this
  have pm' : order.Perm (List.range order.length) := by rw [olen]; exact pm
  refine ⟨_, rfl, _, rfl, _, rfl, by decide, fun u2 hu20 hu21 => ⟨_, _, rfl, rfl, ?_⟩⟩
  have u22 : u2 < 2 := hu21
  refine ⟨_, _, rO, order, rfl, erO, pm', by omega, by omega, by omega, by omega, fun pT H3 es s3 hT et gr => ?_⟩
  have ib := grown_in gr pm'
  have el : es.length = m := by rw [gr.len, olen]
  have k3 := sl.trans (s2.trans s3)
  refine ⟨Nat.zero_le _, fun pN hN => ?_⟩
  have eTN : ∀ {H' : Hp}, Same H3 H' → H' pT = some (.lst (es.map optV)) := fun s => s _ _ et
  refine ⟨_, rfl, (m : Int), rfl, by omega, by omega, for_range (lo := 0) (n := (m : Int).toNat) (fun i σ' H' => ∃ (net : Net) (F : Hp) (rowsV : List V) (n : Int) (c7 c8 c9 : Option V),
    σ' = [some (.int n), some (.int most), some (.int (m : Int)), some (.int sc), some (.int dense), some (.ref pT), some (.ref pN), c7, c8, c9] ∧ Bld H3 F H' pN rowsV net ∧ net.length = i ∧ (∀ x ∈ net, RowC (m : Int) x) ∧ ∀ (p : Nat) row, net[p]? = some row → FitAt es p row) ?_ ?_ ?_⟩
  · exact ⟨[], fun _ => none, [], n, none, none, none, rfl, ⟨same_upd hN _, upd_same, (fun _ _ e => nomatch e), rfl, (fun _ _ e => nomatch e), .nil⟩, rfl, (fun _ hx => nomatch hx), fun p row h => by simp at h⟩
  · rintro i σ' H' hi ⟨net, F, rowsV, n, c7, c8, c9, rfl, B, hlen, hrows, fit⟩
    have hi' : i < m := by omega
    have hen : (es.map optV)[i]? = some (optV (nextE es i)) := optV_at (by omega)
    refine ⟨(by show 0 ≤ sizeLine; exact Nat.zero_le _), fun pR hR => ?_⟩
    have hR0 : H3 pR = none := B.keep.free hR
    have hRF : F pR = none := B.sub.free hR
    have hRN : pR ≠ pN := fun z => by rw [z, B.at'] at hR; cases hR
    refine ⟨_, rfl, (m : Int), rfl, by omega, by omega, for_range (lo := 0) (n := (m : Int).toNat) (fun j σ' H' => ∃ (row : List (Int × Int)) (F : Hp) (arrsV : List V) (n : Int) (c9 : Option V),
      σ' = [some (.int n), some (.int most), some (.int (m : Int)), some (.int sc), some (.int dense), some (.ref pT), some (.ref pN), some (.int (0 + (i : Int))), some (.ref pR), c9] ∧ BRow H3 F H' pN pR rowsV arrsV net row (m : Int) j ∧ (nextE es i = none → row = []) ∧ ∀ e : Nat, nextE es i = some e → e < j → (e : Int) ∈ row.map (·.1)) ?_ ?_ ?_⟩
    · exact ⟨[], F, [], n, c9, rfl, ⟨B.more (same_upd hR _), upd_same, hRF, hR0, hRN, .nil, .nil (by omega), (fun _ hx => nomatch hx), Nat.le_refl _⟩, fun _ => rfl, fun e _ h => absurd h (Nat.not_lt_zero _)⟩
    · rintro j σ' H' hj ⟨row, F, arrsV, n, c9, rfl, B, f1, f2⟩
      refine ⟨_, rfl, n, rfl, fun n2 n20 n21 => ?_⟩
      have hat2 : atI (es.map optV) (0 + (i : Int)) = some (optV (nextE es i)) := by rw [Int.zero_add]; exact atI_nat hen
      have skip : (∀ e : Nat, nextE es i = some e → e ≠ j) → ∃ (row : List (Int × Int)) (F : Hp) (arrsV : List V) (n : Int) (c9 : Option V),
          [some (V.int n2), some (.int most), some (.int (m : Int)), some (.int sc), some (.int dense), some (.ref pT), some (.ref pN), some (.int (0 + (i : Int))), some (.ref pR), some (.int (0 + (j : Int)))] = [some (.int n), some (.int most), some (.int (m : Int)), some (.int sc), some (.int dense), some (.ref pT), some (.ref pN), some (.int (0 + (i : Int))), some (.ref pR), c9] ∧ BRow H3 F H' pN pR rowsV arrsV net row (m : Int) (j + 1) ∧ (nextE es i = none → row = []) ∧ ∀ e : Nat, nextE es i = some e → e < j + 1 → (e : Int) ∈ row.map (·.1) := fun hne =>
        ⟨row, F, arrsV, n2, _, rfl, B.skip, f1, fun e he hlt => f2 e he (by have := hne e he; omega)⟩
      have split : nextE es i = none ∨ ∃ e0, nextE es i = some e0 := by
        cases nextE es i with
        | none => exact .inl rfl
        | some e0 => exact .inr ⟨e0, rfl⟩
      rcases split with hne | ⟨e0, hne⟩
      · rw [hne] at hat2
        refine ⟨_, rfl, _, rfl, .inl ⟨pT, _, _, _, rfl, rfl, SqL.of (eTN B.b.keep), hat2, _, rfl, ?_⟩⟩
        exact skip fun e he => by rw [hne] at he; cases he
      · rw [hne] at hat2
        have put : ∀ (wt : Int) (H2 : Hp) (t : Addr), 1 ≤ wt → wt ≤ 10 ^ 30 → Same H' H2 → H2 t = none → ∃ (row : List (Int × Int)) (F : Hp) (arrsV' : List V) (n : Int) (c9 : Option V),
            [some (V.int n2), some (.int most), some (.int (m : Int)), some (.int sc), some (.int dense), some (.ref pT), some (.ref pN), some (.int (0 + (i : Int))), some (.ref pR), some (.int (0 + (j : Int)))] = [some (.int n), some (.int most), some (.int (m : Int)), some (.int sc), some (.int dense), some (.ref pT), some (.ref pN), some (.int (0 + (i : Int))), some (.ref pR), c9] ∧ BRow H3 F (upd (upd H2 t (.tup [.int (0 + (j : Int)), .int wt])) pR (.lst (arrsV ++ [.ref t]))) pN pR rowsV arrsV' net row (m : Int) (j + 1) ∧ (nextE es i = none → row = []) ∧ ∀ e : Nat, nextE es i = some e → e < j + 1 → (e : Int) ∈ row.map (·.1) := fun wt H2 t w0 w1 hs ht => by
          obtain ⟨F2, B2⟩ := (B.more hs).put ht (by omega) w0 w1
          refine ⟨_, F2, _, n2, _, rfl, B2, fun z => by (rw [hne] at z; cases z), fun e he hlt => ?_⟩
          rw [List.map_append]
          by_cases c : e < j
          · exact List.mem_append_left _ (f2 e he c)
          · exact List.mem_append_right _ (by simp; omega)
        refine ⟨_, rfl, _, rfl, .inl ⟨pT, _, _, _, rfl, rfl, SqL.of (eTN B.b.keep), hat2, _, rfl, ?_⟩⟩
        refine ⟨_, rfl, _, rfl, _, rfl, .inl ⟨pT, _, _, _, rfl, rfl, SqL.of (eTN B.b.keep), hat2, ?_⟩⟩
        refine ⟨.int (0 + (j : Int)), .int (e0 : Int), .int _, .int _, (okTo.int _).shaped (by decide), (okTo.int _).shaped (by decide), _, rfl, ?_⟩
        rw [eqv_int]
        by_cases c : (0 + (j : Int)) = (e0 : Int)
        · rw [decide_eq_true c]
          refine ⟨_, rfl, .inl ⟨rfl, _, SqL.of B.at'⟩, ?_⟩
          refine ⟨_, rfl, _, rfl, _, rfl, _, _, rfl, rfl, .inl ⟨by omega, by omega⟩, _, _, rfl, rfl, div8 _, _, rfl, _, rfl, _, rfl, by omega, fun wt w0 w1 => ⟨_, _, rfl, rfl, (by show 2 ≤ sizeLine; decide), fun t ht => ?_⟩⟩
          exact ⟨pR, _, _, rfl, rfl, same_upd ht _ _ _ B.at', small1000 (by have := B.len; omega), put (1 + wt) H' t (by omega) (by omega) (Same.refl _) ht⟩
        · rw [decide_eq_false c]
          refine ⟨_, rfl, _, rfl, _, rfl, by decide, fun u3 _ _ => ⟨_, rfl, _, _, rfl, rfl, _, rfl, ?_⟩⟩
          refine iteB (fun _ => ?_) (fun _ => skip fun e he => by (rw [hne] at he; cases he; omega))
          refine ⟨_, rfl, .inl ⟨rfl, _, SqL.of B.at'⟩, ?_⟩
          refine ⟨_, rfl, _, rfl, _, rfl, _, _, rfl, rfl, .inl ⟨by omega, by omega⟩, _, _, rfl, rfl, div8 _, _, rfl, _, rfl, _, rfl, by omega, fun wt w0 w1 => ⟨_, _, rfl, rfl, (by show 2 ≤ sizeLine; decide), fun t ht => ?_⟩⟩
          exact ⟨pR, _, _, rfl, rfl, same_upd ht _ _ _ B.at', small1000 (by have := B.len; omega), put (1 + wt) H' t (by omega) (by omega) (Same.refl _) ht⟩
    · rintro σ' H' ⟨row, F, arrsV, n, c9, rfl, B, f1, f2⟩
      obtain ⟨F3, B3⟩ := B.done hN
      refine ⟨_, rfl, .inl ⟨rfl, _, SqL.of B.b.at'⟩, _, rfl, pN, _, _, rfl, rfl, B.b.at', small1000 (by have := B.b.len; omega), ?_⟩
      refine ⟨_, F3, _, n, _, _, _, rfl, B3, by rw [List.length_append, List.length_singleton, hlen], fun x hx => ?_, fun p row' hp => ?_⟩
      · rcases List.mem_append.mp hx with z | z
        · exact hrows x z
        · simp at z; rw [z]; exact B.ok
      · by_cases c : p < net.length
        · rw [List.getElem?_append_left c] at hp
          exact fit p row' hp
        · have hp2 := lt_of_get hp
          rw [List.length_append, List.length_singleton] at hp2
          have ep : p = i := by omega
          rw [List.getElem?_append_right (by omega), show p - net.length = 0 by omega] at hp
          have er : row = row' := by simpa using hp
          subst er
          subst ep
          cases e : nextE es p with
          | none => exact .inl ⟨f1 e, e⟩
          | some e2 =>
            have hm2 := f2 e2 e (by have := ib p e2 e; omega)
            exact .inr ⟨(fun z => by rw [z] at hm2; cases hm2), e2, e, hm2⟩
  · rintro σ' H' ⟨net, F, rowsV, n, c7, c8, c9, rfl, B, hlen, hrows, fit⟩
    have hcast : ((net.length : Nat) : Int) = (m : Int) := by omega
    have tr : TreeOf net es := grown_tree gr pm' (by omega) fit
    refine ⟨_, rfl, _, rfl, (by show 2 ≤ sizeLine; decide), fun r hr' => ?_⟩
    have s5 := same_upd hr' (HO.lst [.ref pN, .ref pT])
    have rN : Rep H' (.ref pN) (netD net) := .lst B.at' (B.reps.mono B.sub)
    exact q r pN pT net es _ ⟨by omega, by omega, fun x hx => by rw [hcast]; exact hrows x hx⟩ tr (k3.trans (B.keep.trans s5)) upd_same (rN.mono s5) (s5 _ _ (eTN B.keep))
end
end Law

namespace Law
open PySem L2 Ways Ring PyProof.Rows
seal L2.PE L2.PA L2.PS L2.PSs L2.PG L2.PT
section
variable {P : Program} {w : World} {K : PySem.W.Frag} {mg : Str → Option Value} {base : Heap}
/-! ### the least bare place with arrows -/
/-- a place with arrows that is bare -/
def BareAt (net : Net) (p : Piles) (i : Nat) : Prop := (∃ row, net[i]? = some row ∧ row ≠ []) ∧ p[i]? = some []
def sp_bare : Sp := fun vs H Q _ => ∃ v x net p, vs = [v, x] ∧ Rep H v (netD net) ∧ Rep H x (ringsD p) ∧ net.length = p.length ∧ net.length ≤ 8 ∧
  (∀ i, BareAt net p i → (∀ j, j < i → ¬ BareAt net p j) → ∀ H', Same H H' → Q (.int (i : Int)) H') ∧ ((∀ i, ¬ BareAt net p i) → ∀ H', Same H H' → Q .non H')
theorem def__law_bare (T : Txt mg) (h : Here K mg "_law_bare" s__law_bare ["_law_net", "_law_left"]) : Def P w K mg base "_law_bare" 1 ["_law_net", "_law_left"] sp_bare := h.mk fun f fd F => by
  have nd := sc__law_bare.nd
  refine F.ok sc__law_bare (fun vs H Q E h => ?_) (fun cdv A outer s H vs Q E hr h => ?_)
  · obtain ⟨v, x, net, p, rfl, _⟩ := h
    rfl
  obtain ⟨v, x, net, p, rfl, rn, rx, hl, h8, q1, q2⟩ := h
  refine ⟨_, pss_cons (ps_for PassesOwn.never rfl (pi_range1 rfl T.z_range (pa_cons (pe_callB (call_lenK (K := K)) rfl T.z_len PySem.boot_len (pa_cons (pv 0) pa_nil)) pa_nil)) (pg_name (i := 2) nd rfl (Or.inl rfl))
      (pss_one (ps_if (PW.pt (pw_and (pt_cmpR (op_neD hr) (pe_ix (ix_lt (K := K)) (pv 0) (pv 2) (fun _ _ => rfl)) (pe_lst pa_nil) (nomark _)) (pw_and1 (pt_cmpR (op_eqD hr) (pe_ix (ix_lt (K := K)) (pv 1) (pv 2) (fun _ _ => rfl)) (pe_lst pa_nil) (nomark _)))))
        (pss_one (ps_ret (pv 2)))
        (pss_nil))))
    (pss_one (ps_ret pe_non)), ?_⟩
  obtain ⟨a, xs, rfl, ea, ra⟩ := rep_list rn
  have la : xs.length = net.length := by rw [ra.length, List.length_map]
  obtain ⟨b, ys, rfl, eb, rb⟩ := rep_list rx
  have lb : ys.length = p.length := by rw [rb.length, List.length_map]
  refine ⟨_, rfl, a, _, rfl, .inl (SqL.of ea), _, rfl, by omega, by omega, for_range (lo := 0) (n := ((xs.length : Nat) : Int).toNat) (fun i σ' H' => ∃ c2 : Option V, σ' = [some (.ref a), some (.ref b), c2] ∧ Same H H' ∧ ∀ j, j < i → ¬ BareAt net p j)
    ⟨none, rfl, Same.refl _, fun j hj => absurd hj (Nat.not_lt_zero _)⟩ ?_ ?_⟩
  · rintro i σ' H' hi ⟨c2, rfl, hs, hno⟩
    have hi' : i < xs.length := by omega
    obtain ⟨row, hrow, rrow⟩ := reps_map ra (List.getElem?_eq_getElem hi')
    obtain ⟨pile, hpile, rpile⟩ := reps_map rb (List.getElem?_eq_getElem (show i < ys.length by omega))
    have hx : atI xs (0 + (i : Int)) = some xs[i] := by rw [Int.zero_add]; exact atI_nat (List.getElem?_eq_getElem hi')
    have hy : atI ys (0 + (i : Int)) = some (ys[i]'(by omega)) := by rw [Int.zero_add]; exact atI_nat (List.getElem?_eq_getElem _)
    refine ⟨_, rfl, _, rfl, .inl ⟨a, _, _, _, rfl, rfl, SqL.of (hs _ _ ea), hx, Nat.zero_le _, fun l hl' => ?_⟩⟩
    have s1 := hs.trans (same_upd hl' (HO.lst []))
    refine ⟨_, _, rrow.mono s1, .lst upd_same .nil, (okTo_row row).shaped (by decide), shaped_nil, _, rfl, ?_⟩
    rw [eqv_row_nil]
    have more : ¬ BareAt net p i → ∀ j, j < i + 1 → ¬ BareAt net p j := fun hn j hj => by
      by_cases c : j = i
      · rw [c]; exact hn
      · exact hno j (by omega)
    by_cases c : row = []
    · rw [decide_eq_true c]
      refine ⟨_, rfl, s1, more fun z => ?_⟩
      obtain ⟨⟨r, hr', hne⟩, _⟩ := z
      rw [hrow] at hr'
      cases hr'
      exact hne c
    · rw [decide_eq_false c]
      refine ⟨_, rfl, _, rfl, .inl ⟨b, _, _, _, rfl, rfl, SqL.of (s1 _ _ eb), hy, Nat.zero_le _, fun l2 hl2 => ?_⟩⟩
      have s2 := s1.trans (same_upd hl2 (HO.lst []))
      refine ⟨_, _, rpile.mono s2, .lst upd_same .nil, (okTo_nats pile).shaped (by decide), shaped_nil, _, rfl, ?_⟩
      rw [show PyData.eqv (natsD pile) (.list []) = decide (pile = []) from eqv_nats pile []]
      refine iteD (fun z => ?_) (fun z => ⟨_, rfl, s2, more fun y => ?_⟩)
      · refine ⟨_, rfl, ?_⟩
        rw [Int.zero_add]
        exact q1 i ⟨⟨row, hrow, c⟩, by rw [hpile, z]⟩ hno _ s2
      · have := y.2
        rw [hpile] at this
        exact z (Option.some.inj this)
  · rintro σ' H' ⟨c2, rfl, hs, hno⟩
    refine q2 (fun i z => ?_) _ hs
    obtain ⟨⟨r, hr', hne⟩, _⟩ := z
    exact hno i (by have := lt_of_get hr'; omega) ⟨⟨r, hr', hne⟩, ‹_›⟩
/-! ### tops -/
def sp_ltops : Sp := fun vs H Q _ => ∃ x p, vs = [x] ∧ Rep H x (ringsD p) ∧ p.length ≤ 8 ∧ (∀ l ∈ p, l.length ≤ 400) ∧ ∀ r H', Same H H' → H r = none → H' r = some (.lst ((topsN p).map optV)) → Q (.ref r) H'
theorem def__law_tops (T : Txt mg) (h : Here K mg "_law_tops" s__law_tops ["_law_left"]) : Def P w K mg base "_law_tops" 1 ["_law_left"] sp_ltops := h.mk fun f fd F => by
  have nd := sc__law_tops.nd
  refine F.ok sc__law_tops (fun vs H Q E h => ?_) (fun cdv A outer s H vs Q E hr h => ?_)
  · obtain ⟨x, p, rfl, _⟩ := h
    rfl
  obtain ⟨x, p, rfl, rx, h8, hlong, q⟩ := h
  refine ⟨_, pss_one (ps_ret (pe_comp (N' := ["_law_pile"]) (cap := [none]) rfl ⟨rfl, rfl, rfl, rfl, rfl, rfl⟩ (pi_listK (K := K) (pv 0)) (fun _ _ _ _ _ _ => ⟨pg_name (i := 0) (show (["_law_pile"] : List Str).Nodup by decide +kernel) rfl (Or.inl rfl) (Or.inr rfl), pifs_nil, pe_ix (ix_lt (K := K)) (pe_op op_cat (pv 0) (pe_lst (pa_cons pe_non pa_nil))) pe_int (fun _ _ => rfl)⟩) (keeps_name rfl))), ?_⟩
  obtain ⟨b, ys, rfl, eb, rb⟩ := rep_list rx
  have lb : ys.length = p.length := by rw [rb.length, List.length_map]
  refine ⟨_, rfl, b, rfl, ⟨ys, SqL.of eb⟩, fun D hD => ?_⟩
  refine comp_list (K := K) (xs := ys) (FlatP H fun i => (p[i]?).bind fun l => some (optV l.head?)) hD FlatP.zero (fun i G zs pf => SqL.of (pf.1 _ _ eb)) (fun i u G zs hu hG pf => ?_) (fun G zs hG pf => ?_)
  · obtain ⟨pile, hpile, rpile⟩ := reps_map rb hu
    have hi := lt_of_get hpile
    obtain ⟨c, rfl, ec⟩ := rep_nats rpile
    have sG := pf.1.trans (same_upd hG (HO.lst zs))
    have hl := hlong pile (List.mem_of_getElem? hpile)
    refine ⟨_, rfl, (by show 1 ≤ sizeLine; decide), fun l1 hl1 => ?_⟩
    have s1 := same_upd hl1 (HO.lst [.non])
    refine ⟨c, l1, _, _, rfl, rfl, s1 _ _ (sG _ _ ec), upd_same, Nat.le_of_lt (small1000 (by rw [natsV_len]; show _ + 1 ≤ _; omega)), fun l2 hl2 => ?_⟩
    have s2 := same_upd hl2 (HO.lst (natsV pile ++ [.non]))
    have hat : atI (natsV pile ++ [V.non]) 0 = some (optV pile.head?) := by
      cases pile with
      | nil => exact atI0 _ _
      | cons y r => exact atI0 _ _
    exact .inl ⟨l2, _, 0, _, rfl, rfl, SqL.of upd_same, hat, pf.put hG (s1.trans s2) (by rw [hpile]; rfl) (by omega)⟩
  · have hy : zs = (topsN p).map optV := by
      rw [pf.2, lb, flat_list, fm_some]
      unfold topsN
      rw [List.map_map]
      rfl
    exact q D _ (pf.1.trans (same_upd hG _)) hD (by rw [upd_same, hy])
/-! ### alike -/
def sp_lalike : Sp := fun vs H Q _ => ∃ x y, ∃ es : List (Option Nat), vs = [x, y] ∧ Rep H x (.list (es.map optPy)) ∧ Rep H y (.list (es.map optPy)) ∧ es.length ≤ 8 ∧ ∀ H', Same H H' → Q (.bl true) H'
theorem def__law_alike (T : Txt mg) (D__law_whole : Def P w K mg base "_law_whole" 1 ["_law_found"] sp_whole) (h : Here K mg "_law_alike" s__law_alike ["_law_found", "_law_due"]) : Def P w K mg base "_law_alike" 2 ["_law_found", "_law_due"] sp_lalike := h.mk fun f fd F => by
  have nd := sc__law_alike.nd
  refine F.ok sc__law_alike (fun vs H Q E h => ?_) (fun cdv A outer s H vs Q E hr h => ?_)
  · obtain ⟨x, y, es, rfl, _⟩ := h
    rfl
  obtain ⟨x, y, es, rfl, rx, ry, h8, q⟩ := h
  refine ⟨_, pss_cons (ps_if (PW.pt (pw_or (pt_not (pt_val (pe_callB call_isi rfl T.z_isinstance boot_isinstance (pa_cons (pv 0) (pa_cons (pe_bltn rfl T.z_list boot_list (v := .ty "list") rfl) pa_nil))))) (pw_or1 (pt_cmpR (op_neD hr) (pv 0) (pv 1) (nomark _)))))
      (pss_one (ps_ret pe_bl))
      (pss_nil))
    (pss_one (ps_ret (pe_cmpR op_eq (pe_callB (call_lenK (K := K)) rfl T.z_len PySem.boot_len (pa_cons (pe_comp (N' := ["_law_end"]) (cap := [none]) rfl ⟨rfl, rfl, rfl, rfl, rfl, rfl⟩ (pi_listK (K := K) (pv 0)) (fun _ _ _ _ _ _ => ⟨pg_name (i := 0) (show (["_law_end"] : List Str).Nodup by decide +kernel) rfl (Or.inl rfl) (Or.inr rfl), pifs_one (PW.pt (pw_or (pt_cmp (pc_isN (pv 0))) (pw_or1 (pt_val (pe_callD D__law_whole hr rfl (pa_cons (pv 0) pa_nil)))))), pv 0⟩) (keeps_name rfl)) pa_nil)) (pe_callB (call_lenK (K := K)) rfl T.z_len PySem.boot_len (pa_cons (pv 1) pa_nil)) (nomark _)))), ?_⟩
  refine ⟨_, rfl, _, _, _, rfl, by decide, rep_ty rx, _, rfl, ?_⟩
  refine ⟨_, rfl, _, rfl, _, _, rx, ry, (okTo_opts es).shaped (by decide), (okTo_opts es).shaped (by decide), _, rfl, ?_⟩
  rw [eqv_opts, decide_eq_true rfl]
  obtain ⟨a, zs, rfl, ea, ra⟩ := rep_list rx
  obtain ⟨b, us, rfl, eb, rb⟩ := rep_list ry
  have lz : zs.length = es.length := by rw [ra.length, List.length_map]
  have lu : us.length = es.length := by rw [rb.length, List.length_map]
  refine ⟨_, rfl, a, rfl, ⟨zs, SqL.of ea⟩, fun D hD => ?_⟩
  refine comp_list (K := K) (xs := zs) (FlatP H fun i => (es[i]?).bind fun o => some (optV o)) hD FlatP.zero (fun i G ys pf => SqL.of (pf.1 _ _ ea)) (fun i u G ys hu hG pf => ?_) (fun G ys hG pf => ?_)
  · obtain ⟨o, ho, ro⟩ := reps_map ra hu
    have hi := lt_of_get ho
    cases o with
    | none =>
      cases ro
      refine ⟨_, rfl, _, rfl, ?_⟩
      exact ⟨_, rfl, pf.put hG (Same.refl _) (by rw [ho]; rfl) (by omega)⟩
    | some e =>
      cases ro
      refine ⟨_, rfl, _, rfl, ?_⟩
      refine ⟨_, rfl, _, .int _, rfl, .int _, _, rfl, ?_⟩
      exact ⟨_, rfl, pf.put hG (Same.refl _) (by rw [ho]; rfl) (by omega)⟩
  · have hy : ys.length = es.length := by
      rw [pf.2, lz, flat_list, fm_some, List.length_map]
    refine ⟨D, _, rfl, .inl (SqL.of upd_same), _, rfl, b, _, rfl, .inl (SqL.of ((pf.1.trans (same_upd hG _)) _ _ eb)), rfl, ?_⟩
    have q' := q _ (pf.1.trans (same_upd hG (HO.lst ys)))
    show Q (.bl (decide (V.int (ys.length : Int) = V.int (us.length : Int)))) _
    rw [decide_eq_true (by rw [hy, lu])]
    exact q'
end
end Law

namespace Law
open PySem L2 Ways Ring PyProof.Rows
seal L2.PE L2.PA L2.PS L2.PSs L2.PG L2.PT
/-- a list put in another's stead -/
theorem AnyAt.swap {H H' : Hp} {pP l : Addr} {ad : List Addr} {p : Piles} {j : Nat} {t' : List Nat} (B : AnyAt H H' pP ad p) (hj : j < p.length) (hl : H' l = some (.lst (natsV t'))) (hlH : H l = none) (hlp : l ≠ pP) (hla : l ∉ ad) :
    AnyAt H (upd H' pP (.lst ((ad.map V.ref).set j (.ref l)))) pP (ad.set j l) (p.set j t') := by
  have ja : j < ad.length := by rw [B.len]; exact hj
  refine ⟨fun b o hb => ?_, ?_, B.hp, ?_, fun z => ?_, fun b hb => ?_, ?_, fun i b t h1 h2 => ?_⟩
  · rw [upd_ne (ne_of_none hb B.hp)]
    exact B.keep b o hb
  · rw [upd_same, List.map_set]
  · refine List.pairwise_iff_getElem.mpr fun i k hi hk hik => ?_
    rw [List.length_set] at hi hk
    rw [List.getElem_set, List.getElem_set]
    split
    · split
      · omega
      · exact fun z => hla (z ▸ List.getElem_mem hk)
    · split
      · exact fun z => hla (z ▸ List.getElem_mem hi)
      · exact List.pairwise_iff_getElem.mp B.nd i k hi hk hik
  · rcases List.mem_or_eq_of_mem_set z with y | y
    · exact B.np y
    · exact hlp y.symm
  · rcases List.mem_or_eq_of_mem_set hb with y | y
    · exact B.hn b y
    · rw [y]; exact hlH
  · rw [List.length_set, List.length_set]; exact B.len
  · by_cases c : j = i
    · subst c
      rw [List.getElem?_set_self ja] at h1
      rw [List.getElem?_set_self hj] at h2
      cases h1
      cases h2
      rw [upd_ne hlp]
      exact hl
    · rw [List.getElem?_set_ne c] at h1 h2
      have hb := List.mem_of_getElem? h1
      have hbp : b ≠ pP := fun z => B.np (z ▸ hb)
      rw [upd_ne hbp]
      exact B.rep i b t h1 h2
theorem size_put : ∀ {p : Piles} {j : Nat} {t t' : List Nat}, p[j]? = some t → sizeN (p.set j t') + t.length = sizeN p + t'.length
  | [], _, _, _, h => by simp at h
  | a :: p, 0, t, t', h => by
    have : a = t := by simpa using h
    subst this
    unfold sizeN
    simp only [List.set_cons_zero, List.map_cons, List.sum_cons]
    omega
  | a :: p, j + 1, t, t', h => by
    have ih := size_put (p := p) (j := j) (t := t) (t' := t') (by simpa using h)
    unfold sizeN at ih ⊢
    simp only [List.set_cons_succ, List.map_cons, List.sum_cons]
    omega
section
variable {P : Program} {w : World} {K : PySem.W.Frag} {mg : Str → Option Value} {base : Heap}
/-! ### piles -/
def sp_piled (K : PySem.W.Frag) : Sp := fun vs H Q _ => ∃ (a : Addr) (ns : List Int) (v : V) (net : Net) (t : Addr) (es : List (Option Nat)) (n : Int), vs = [.ref a, v, .ref t, .int n] ∧ SqL K H a (ns.map V.int) ∧ ns.length ≤ 63 ∧ Rep H v (netD net) ∧ NetC net ∧ H t = some (.lst (es.map optV)) ∧ TreeOf net es ∧
  ∀ p pP F H', PilesOk p → p.length = net.length → New H F H' → Rep F (.ref pP) (ringsD p) → Q (.ref pP) H'
theorem def__law_piled (T : Txt mg) (h : Here K mg "_law_piled" s__law_piled ["_law_script", "_law_net", "_law_tree", "_law_number"]) : Def P w K mg base "_law_piled" 1 ["_law_script", "_law_net", "_law_tree", "_law_number"] (sp_piled K) := h.mk fun f fd F => by
  have nd := sc__law_piled.nd
  refine F.ok sc__law_piled (fun vs H Q E h => ?_) (fun cdv A outer s H vs Q E hr h => ?_)
  · obtain ⟨a, ns, v, net, t, es, n, rfl, _⟩ := h
    rfl
  obtain ⟨a, ns, v, net, t, es, n, rfl, hS, h63, rn, ok, et, tr, q⟩ := h
  refine ⟨_, pss_cons (ps_setC (i := 4) nd rfl rfl (N' := ["_law_row"]) (cap := [none]) rfl ⟨rfl, rfl, rfl, rfl, rfl, rfl⟩ (pi_listK (K := K) (pv 1)) (fun _ _ _ _ _ _ => ⟨pg_name (i := 0) (show (["_law_row"] : List Str).Nodup by decide +kernel) rfl (Or.inl rfl) (Or.inr rfl), pifs_nil, pe_lst pa_nil⟩) (keeps_name rfl))
    (pss_cons (ps_for PassesOwn.never rfl (pi_listK (K := K) (pv 0)) (pg_name (i := 5) nd rfl (Or.inl rfl))
      (pss_cons (ps_set (i := 6) nd rfl (Or.inl rfl) (pe_modA (pv 5) (pe_callB (call_lenK (K := K)) rfl T.z_len PySem.boot_len (pa_cons (pv 1) pa_nil))))
      (pss_cons (ps_set (i := 7) nd rfl (Or.inl rfl) (pe_ix (ix_lt (K := K)) (pv 1) (pv 6) (fun _ _ => rfl)))
      (pss_one (ps_if (PW.pt (pw_and (pt_cmpR op_gt (pe_callB (call_lenK (K := K)) rfl T.z_len PySem.boot_len (pa_cons (pv 7) pa_nil)) pe_int (nomark _)) (pw_and1 (pt_cmpR op_lt (pe_callB (call_lenK (K := K)) rfl T.z_len PySem.boot_len (pa_cons (pe_ix (ix_lt (K := K)) (pv 4) (pv 6) (fun _ _ => rfl)) pa_nil)) pe_int (nomark _)))))
        (pss_one (ps_expr (pe_bm PySem.F.plainAttrs_list PySem.F.slot_list_append PySem.F.type_list_append mt_append (pe_ix (ix_lt (K := K)) (pv 4) (pv 6) (fun _ _ => rfl)) (pa_cons (pe_ix (ix_lt (K := K)) (pe_ix (ix_lt (K := K)) (pv 7) (pe_modA (pe_op op_fdivB (pv 5) pe_int) (pe_callB (call_lenK (K := K)) rfl T.z_len PySem.boot_len (pa_cons (pv 7) pa_nil))) (fun _ _ => rfl)) pe_int (fun _ _ => rfl)) pa_nil))))
        (pss_nil))))))
    (pss_cons (ps_for PassesOwn.never rfl (pi_range1 rfl T.z_range (pa_cons (pe_callB (call_lenK (K := K)) rfl T.z_len PySem.boot_len (pa_cons (pv 1) pa_nil)) pa_nil)) (pg_name (i := 6) nd rfl (Or.inl rfl))
      (pss_one (ps_if (PW.pt (pw_and (pt_cmp (pc_notN (pe_ix (ix_lt (K := K)) (pv 2) (pv 6) (fun _ _ => rfl)))) (pw_and1 (pt_cmpR op_gt (pe_draw (pv 3) pe_int) pe_int (nomark _)))))
        (pss_one (ps_asg (pe_op op_cat (pe_ix (ix_lt (K := K)) (pv 4) (pv 6) (fun _ _ => rfl)) (pe_op op_rep (pe_lst (pa_cons (pe_ix (ix_lt (K := K)) (pv 2) (pv 6) (fun _ _ => rfl)) pa_nil)) (pe_op op_add pe_int (pe_draw (pv 3) pe_int)))) (pg_sub (pv 4) (pv 6) set_list)))
        (pss_nil))))
    (pss_one (ps_ret (pv 4))))), ?_⟩
  obtain ⟨na, xs, rfl, en, ra⟩ := rep_list rn
  have la : xs.length = net.length := by rw [ra.length, List.length_map]
  have h8 := ok.len
  have h1 := ok.pos
  have el := tr.len
  refine ⟨_, rfl, na, rfl, ⟨xs, SqL.of en⟩, fun pP hP => ?_⟩
  refine comp_list (K := K) (xs := xs) (fun i G ys => ∃ ad : List Addr, ys = ad.map V.ref ∧ ad.length = i ∧ ad.Nodup ∧ Same H G ∧ ∀ b ∈ ad, H b = none ∧ G b = some (.lst [])) hP ⟨[], rfl, rfl, .nil, Same.refl _, by simp⟩ (fun i G ys ⟨_, _, _, _, s, _⟩ => SqL.of (s _ _ en)) (fun i x G ys hx hG p => ?_) (fun G ys hG p => ?_)
  · obtain ⟨ad, rfl, hl, hnd, hs, had⟩ := p
    have hi := lt_of_get hx
    refine ⟨Nat.zero_le _, fun l hln => ?_⟩
    have hlD : l ≠ pP := by rintro rfl; rw [upd_same] at hln; cases hln
    have hlG : G l = none := by rw [upd_ne hlD] at hln; exact hln
    refine cput (ys := ad.map V.ref) (same_upd hln _ _ _ upd_same) (by rw [List.length_map]; omega) ⟨ad ++ [l], by simp, by simp [hl], ?_, same_del hs hG (same_upd hln _), fun b hb => ?_⟩
    · rw [List.nodup_append]
      refine ⟨hnd, by simp, fun x hx y hy e => ?_⟩
      have hy' : y = l := by simpa using hy
      rw [e, hy'] at hx
      have := (had l hx).2
      rw [hlG] at this
      cases this
    · rcases List.mem_append.mp hb with z | z
      · obtain ⟨h1, h2⟩ := had b z
        refine ⟨h1, ?_⟩
        have hbD : b ≠ pP := ne_of_none h2 hG
        rw [del_ne hbD]
        exact same_upd hln _ _ _ (by rw [upd_ne hbD]; exact h2)
      · have z' : b = l := by simpa using z
        subst z'
        exact ⟨hs.free hlG, by rw [del_ne hlD]; exact upd_same⟩
  obtain ⟨ad, rfl, hl, hnd, hs, had⟩ := p
  have B0 : AnyAt H (upd G pP (.lst (ad.map V.ref))) pP ad (List.replicate net.length []) := by
    have np : pP ∉ ad := fun z => by have := (had pP z).2; rw [hG] at this; cases this
    refine ⟨hs.trans (same_upd hG _), upd_same, hP, hnd, np, fun b hb => (had b hb).1, by rw [List.length_replicate]; omega, fun i b t h1 h2 => ?_⟩
    have hb := List.mem_of_getElem? h1
    have ht := (List.mem_replicate.mp (List.mem_of_getElem? h2)).2
    have hbp : b ≠ pP := fun z => np (z ▸ hb)
    rw [upd_ne hbp, (had b hb).2, ht]
    rfl
  generalize upd G pP (.lst (ad.map V.ref)) = H1 at B0 ⊢
  clear had hG hs
  refine ⟨_, rfl, a, rfl, ⟨_, B0.keep.seq hS⟩, for_list (K := K) (xs := ns.map V.int) (fun i σ' H' => ∃ (p : Piles) (c5 c6 c7 : Option V), σ' = [some (.ref a), some (.ref na), some (.ref t), some (.int n), some (.ref pP), c5, c6, c7] ∧ AnyAt H H' pP ad p ∧
    p.length = net.length ∧ (∀ l ∈ p, ∀ x ∈ l, x < net.length) ∧ sizeN p ≤ i) ?_ (fun i σ' H' _ ⟨_, _, _, _, _, B, _⟩ => B.keep.seq hS) ?_ ?_⟩
  · refine ⟨_, none, none, none, rfl, B0, List.length_replicate, fun l hl x hx => ?_, ?_⟩
    · rw [(List.mem_replicate.mp hl).2] at hx
      cases hx
    · unfold sizeN
      rw [List.map_replicate]
      simp
  · rintro i x σ' H' hx ⟨p, c5, c6, c7, rfl, B, hpl, hpb, hsz⟩
    have hi : i < 63 := by have := lt_of_get hx; rw [List.length_map] at this; omega
    obtain ⟨z, rfl⟩ : ∃ z : Int, x = V.int z := by
      rw [List.getElem?_map] at hx
      cases e : ns[i]? with
      | none => rw [e] at hx; cases hx
      | some z => rw [e] at hx; exact ⟨z, (Option.some.inj hx).symm⟩
    refine ⟨_, rfl, _, rfl, _, rfl, na, _, rfl, .inl (SqL.of (B.keep _ _ en)), _, rfl, by omega, fun z1 hz0 hz1 => ?_⟩
    obtain ⟨j, rfl⟩ := Int.eq_ofNat_of_zero_le hz0
    have hjx : j < xs.length := by omega
    obtain ⟨row, hrow, rrow⟩ := reps_map ra (List.getElem?_eq_getElem hjx)
    obtain ⟨b, rxs, exb, eb, rb⟩ := rep_list rrow
    have lrx : rxs.length = row.length := by rw [rb.length, List.length_map]
    have hatx : atI xs (j : Int) = some (.ref b) := by rw [← exb]; exact atI_nat (List.getElem?_eq_getElem hjx)
    refine ⟨_, rfl, _, rfl, .inl ⟨na, _, _, _, rfl, rfl, SqL.of (B.keep _ _ en), hatx, ?_⟩⟩
    have same : ∃ (p' : Piles) (c5 c6 c7 : Option V), [some (.ref a), some (.ref na), some (.ref t), some (V.int n), some (.ref pP), some (.int z), some (.int (j : Int)), some (.ref b)] = [some (.ref a), some (.ref na), some (.ref t), some (.int n), some (.ref pP), c5, c6, c7] ∧ AnyAt H H' pP ad p' ∧
        p'.length = net.length ∧ (∀ l ∈ p', ∀ x ∈ l, x < net.length) ∧ sizeN p' ≤ i + 1 := ⟨p, _, _, _, rfl, B, hpl, hpb, by omega⟩
    refine ⟨_, rfl, b, _, rfl, .inl (SqL.of (B.keep _ _ eb)), _, _, rfl, rfl, _, rfl, ?_⟩
    by_cases c : row.length = 0
    · rw [decide_eq_false (by omega)]
      exact same
    rw [decide_eq_true (by omega)]
    have hja : j < ad.length := by rw [B.len, hpl]; omega
    have hjp : j < p.length := by rw [hpl]; omega
    have hb : ad[j]? = some ad[j] := List.getElem?_eq_getElem hja
    have ht : p[j]? = some p[j] := List.getElem?_eq_getElem hjp
    have ebj := B.rep j _ _ hb ht
    have hat : atI (ad.map V.ref) (j : Int) = some (.ref ad[j]) := atI_nat (by rw [List.getElem?_map, hb]; rfl)
    refine ⟨_, rfl, _, rfl, .inl ⟨pP, _, _, _, rfl, rfl, SqL.of B.at', hat, ad[j], _, rfl, .inl (SqL.of ebj), _, _, rfl, rfl, _, rfl, iteD (fun hlt => ?_) (fun _ => same)⟩⟩
    refine ⟨_, rfl, _, rfl, .inl ⟨pP, _, _, _, rfl, rfl, SqL.of B.at', hat, .inl ⟨rfl, _, SqL.of ebj⟩, ?_⟩⟩
    refine ⟨_, rfl, _, rfl, _, _, rfl, rfl, div8 _, _, rfl, _, rfl, b, _, rfl, .inl (SqL.of (B.keep _ _ eb)), _, rfl, by omega, fun u hu0 hu1 => ?_⟩
    obtain ⟨k, rfl⟩ := Int.eq_ofNat_of_zero_le hu0
    have hk : k < rxs.length := by omega
    obtain ⟨a0, ha0, rx0⟩ := reps_map rb (List.getElem?_eq_getElem hk)
    obtain ⟨ta, ext, eta⟩ := rep_arr rx0
    have hatk : atI rxs (k : Int) = some (.ref ta) := by rw [← ext]; exact atI_nat (List.getElem?_eq_getElem hk)
    have win := (ok.rows row (List.mem_of_getElem? hrow)).within a0 (List.mem_of_getElem? ha0)
    obtain ⟨e, he⟩ := Int.eq_ofNat_of_zero_le win.1
    refine .inl ⟨b, _, _, _, rfl, rfl, SqL.of (B.keep _ _ eb), hatk, .inr ⟨ta, _, 0, _, rfl, rfl, SqT.of (B.keep _ _ eta), atI0 _ _, ?_⟩⟩
    rw [he]
    have hl32 : p[j].length < 32 := by rw [natsV_len] at hlt; omega
    refine ⟨ad[j], _, _, rfl, rfl, ebj, small1000 (by rw [natsV_len]; omega), p.set j (p[j] ++ [e]), _, _, _, rfl, B.write hb ht, by rw [List.length_set]; exact hpl, fun l hl x hx => ?_, ?_⟩
    · rcases List.mem_or_eq_of_mem_set hl with z | z
      · exact hpb l z x hx
      · rw [z] at hx
        rcases List.mem_append.mp hx with y | y
        · exact hpb _ (List.getElem_mem hjp) x y
        · have : x = e := by simpa using y
          omega
    · rw [size_set ht]; omega
  · rintro σ' H' ⟨p, c5, c6, c7, rfl, B, hpl, hpb, hsz⟩
    rw [List.length_map] at hsz
    refine ⟨_, rfl, na, _, rfl, .inl (SqL.of (B.keep _ _ en)), _, rfl, by omega, by omega, for_range (lo := 0) (n := ((xs.length : Nat) : Int).toNat) (fun i σ' H' => ∃ (p : Piles) (ad : List Addr) (c6 : Option V), σ' = [some (.ref a), some (.ref na), some (.ref t), some (.int n), some (.ref pP), c5, c6, c7] ∧ AnyAt H H' pP ad p ∧
      p.length = net.length ∧ (∀ l ∈ p, ∀ x ∈ l, x < net.length) ∧ sizeN p ≤ 63 + 8 * i) ⟨p, ad, _, rfl, B, hpl, hpb, by omega⟩ ?_ ?_⟩
    · clear B hpl hpb hsz
      rintro i σ' H' hi ⟨p, ad, c6, rfl, B, hpl, hpb, hsz⟩
      have hi' : i < net.length := by omega
      have hen : (es.map optV)[i]? = some (optV (nextE es i)) := optV_at (by omega)
      have hat2 : atI (es.map optV) (0 + (i : Int)) = some (optV (nextE es i)) := by rw [Int.zero_add]; exact atI_nat hen
      have stay : ∃ (p' : Piles) (ad' : List Addr) (c6' : Option V), [some (.ref a), some (.ref na), some (.ref t), some (V.int n), some (.ref pP), c5, some (.int (0 + (i : Int))), c7] = [some (.ref a), some (.ref na), some (.ref t), some (.int n), some (.ref pP), c5, c6', c7] ∧ AnyAt H H' pP ad' p' ∧
          p'.length = net.length ∧ (∀ l ∈ p', ∀ x ∈ l, x < net.length) ∧ sizeN p' ≤ 63 + 8 * (i + 1) := ⟨p, ad, _, rfl, B, hpl, hpb, by omega⟩
      have split : nextE es i = none ∨ ∃ e0, nextE es i = some e0 := by
        cases nextE es i with
        | none => exact .inl rfl
        | some e0 => exact .inr ⟨e0, rfl⟩
      rcases split with hne | ⟨e0, hne⟩
      · rw [hne] at hat2
        refine ⟨_, rfl, _, rfl, .inl ⟨t, _, _, _, rfl, rfl, SqL.of (B.keep _ _ et), hat2, _, rfl, ?_⟩⟩
        exact stay
      · rw [hne] at hat2
        have he0 : e0 < net.length := by
          have hr : net[i]? = some net[i] := List.getElem?_eq_getElem hi'
          rcases tr.fits i _ hr with ⟨_, z⟩ | ⟨_, e', z, hm⟩
          · rw [hne] at z; cases z
          · rw [hne] at z
            cases z
            obtain ⟨a0, ha0, ea0⟩ := List.mem_map.mp hm
            have := (ok.rows _ (List.mem_of_getElem? hr)).within a0 ha0
            omega
        refine ⟨_, rfl, _, rfl, .inl ⟨t, _, _, _, rfl, rfl, SqL.of (B.keep _ _ et), hat2, _, rfl, ?_⟩⟩
        refine ⟨_, rfl, _, rfl, _, rfl, by decide, fun u _ _ => ⟨_, _, rfl, rfl, _, rfl, iteB (fun _ => ?_) (fun _ => stay)⟩⟩
        have hja : i < ad.length := by rw [B.len, hpl]; omega
        have hjp : i < p.length := by rw [hpl]; omega
        have hb : ad[i]? = some ad[i] := List.getElem?_eq_getElem hja
        have ht : p[i]? = some p[i] := List.getElem?_eq_getElem hjp
        have ebj := B.rep i _ _ hb ht
        have hat : atI (ad.map V.ref) (0 + (i : Int)) = some (.ref ad[i]) := by rw [Int.zero_add]; exact atI_nat (by rw [List.getElem?_map, hb]; rfl)
        have psz : p[i].length ≤ sizeN p := mem_size (List.getElem_mem hjp)
        refine ⟨_, rfl, _, rfl, .inl ⟨pP, _, _, _, rfl, rfl, SqL.of B.at', hat, ?_⟩⟩
        refine ⟨_, rfl, _, rfl, .inl ⟨t, _, _, _, rfl, rfl, SqL.of (B.keep _ _ et), hat2, (by show 1 ≤ sizeLine; decide), fun l1 hl1 => ?_⟩⟩
        have s1 := same_upd hl1 (HO.lst [.int (e0 : Int)])
        refine ⟨_, rfl, _, rfl, _, rfl, by decide, fun u2 hu20 hu21 => ⟨_, _, rfl, rfl, ?_⟩⟩
        have u28 : u2 < 8 := hu21
        refine ⟨l1, _, [.int (e0 : Int)], rfl, rfl, upd_same, by omega, by omega, ?_, fun l2 hl2 => ?_⟩
        · show 1 * (1 + u2).toNat ≤ sizeLine
          exact Nat.le_of_lt (small1000 (by omega))
        have erep : (List.replicate (1 + u2).toNat [V.int (e0 : Int)]).flatten = natsV (List.replicate (1 + u2).toNat e0) := by
          generalize (1 + u2).toNat = m
          induction m with
          | zero => rfl
          | succ m ih => rw [List.replicate_succ, List.flatten_cons, ih, List.replicate_succ]; rfl
        rw [erep]
        have s2 := same_upd hl2 (HO.lst (natsV (List.replicate (1 + u2).toNat e0)))
        have B2 := B.more (s1.trans s2)
        have ebj2 := (s1.trans s2) _ _ ebj
        refine ⟨ad[i], l2, _, _, rfl, rfl, ebj2, upd_same, Nat.le_of_lt (small1000 (by rw [natsV_len, natsV_len, List.length_replicate]; omega)), fun l3 hl3 => ?_⟩
        rw [← natsV_append]
        have s3 := same_upd hl3 (HO.lst (natsV (p[i] ++ List.replicate (1 + u2).toNat e0)))
        have B3 := B2.more s3
        have hl3p : l3 ≠ pP := fun z => by rw [z, B2.at'] at hl3; cases hl3
        have hl3a : l3 ∉ ad := fun z => by
          obtain ⟨k, hk, ek⟩ := List.mem_iff_getElem.mp z
          have := B2.rep k l3 (p[k]'(by rw [← B.len]; exact hk)) (by rw [List.getElem?_eq_getElem hk, ek]) (List.getElem?_eq_getElem _)
          rw [hl3] at this
          cases this
        refine ⟨_, rfl, _, rfl, pP, _, _, i, rfl, by rw [Int.zero_add], B3.at', ixN_nat (by rw [List.length_map]; omega), ?_⟩
        refine ⟨p.set i (p[i] ++ List.replicate (1 + u2).toNat e0), ad.set i l3, _, rfl, B3.swap hjp upd_same (B2.keep.free hl3) hl3p hl3a, by rw [List.length_set]; exact hpl, fun l hl x hx => ?_, ?_⟩
        · rcases List.mem_or_eq_of_mem_set hl with z | z
          · exact hpb l z x hx
          · rw [z] at hx
            rcases List.mem_append.mp hx with y | y
            · exact hpb _ (List.getElem_mem hjp) x y
            · rw [(List.mem_replicate.mp y).2]; exact he0
        · have h5 := size_put (t' := p[i] ++ List.replicate (1 + u2).toNat e0) ht
          rw [List.length_append, List.length_replicate] at h5
          omega
    · rintro σ' H' ⟨p, ad, c6, rfl, B, hpl, hpb, hsz⟩
      obtain ⟨F, nw, rp⟩ := B.view
      exact ⟨_, rfl, q p pP F H' ⟨by omega, by omega, fun l hl x hx => by rw [hpl]; exact hpb l hl x hx, by omega⟩ hpl nw rp⟩
end
end Law

namespace Law
open PySem L2 Ways Ring PyProof.Rows
seal L2.PE L2.PA L2.PS L2.PSs L2.PG L2.PT
theorem popN_congr {p : Piles} {r t : List Nat} (h : ∀ i, i ∈ r ↔ i ∈ t) : popN p r = popN p t := by
  refine List.ext_getElem? fun i => ?_
  rw [popN_at, popN_at]
  simp only [h]
theorem way_pop {p : Piles} (ok : PilesOk p) {x : Nat} (hx : x < p.length) {way : List Nat} (w : Way (topsN p) x way) (d : Done (topsN p) way) (o : OnRing (topsN p) x) : ∃ r ∈ ringsN (topsN p), popN p way = popN p r := by
  obtain ⟨m, r, hm, hr, xr⟩ := on_has ok.inB (by rw [topsN_len]; exact hx) o
  refine ⟨r, mem_rings.mpr ⟨m, hm, hr⟩, popN_congr fun i => ?_⟩
  obtain ⟨om, _, er⟩ := ringAt_some hr
  obtain ⟨w', d'⟩ := wayOf_way ok.inB hm
  rw [er] at xr ⊢
  obtain ⟨k0, hk0⟩ := (w'.mem d' x).mp xr
  obtain ⟨k1, hk1⟩ := (om.back ⟨k0, hk0⟩).2
  rw [w.mem d, w'.mem d']
  constructor
  · rintro ⟨k, hk⟩
    exact ⟨k0 + k, by rw [walk_add, hk0, hk]⟩
  · rintro ⟨k, hk⟩
    exact ⟨k1 + k, by rw [walk_add, hk1, hk]⟩
theorem popN_nil (p : Piles) : popN p [] = p := by
  refine List.ext_getElem? fun i => ?_
  rw [popN_at]
  cases p[i]? with
  | none => rfl
  | some l => simp
theorem none_rings {p : Piles} (h : ∀ x, x < p.length → ¬ OnRing (topsN p) x) : ringsN (topsN p) = [] := by
  refine List.eq_nil_iff_forall_not_mem.mpr fun r hr => ?_
  obtain ⟨m, hm, hr'⟩ := mem_rings.mp hr
  exact h m (by rwa [topsN_len] at hm) (ringAt_some hr').1
theorem pop_snoc {q : Piles} {t : List Nat} {x : Nat} (hx : x ∉ t) : popN q (t ++ [x]) = (popN q t).set x ((q.getD x []).drop 1) := by
  refine List.ext_getElem? fun i => ?_
  rw [popN_at, List.getElem?_set, popN_len, popN_at, List.getD_eq_getElem?_getD]
  by_cases c : x = i
  · subst c
    rw [if_pos rfl]
    by_cases hl : x < q.length
    · rw [if_pos hl, List.getElem?_eq_getElem hl]
      simp
    · rw [if_neg hl, List.getElem?_eq_none (by omega)]; rfl
  · rw [if_neg c]
    have : (i ∈ t ++ [x]) ↔ i ∈ t := by simp; intro z; exact absurd z.symm c
    cases q[i]? with
    | none => rfl
    | some l => simp only [Option.map_some, this]
theorem cut_rest (r : List Nat) : cutV (natsV r) (some 1) none = natsV (r.drop 1) := by
  cases r with
  | nil => rfl
  | cons a r =>
    unfold cutV HT.sIx natsV
    simp
    exact List.take_of_length_le (by simp)
theorem AnyAt.aside {H H' : Hp} {pP x : Addr} {ad : List Addr} {p : Piles} (B : AnyAt H H' pP ad p) (hx : H x = none) (hp : x ≠ pP) (ha : x ∉ ad) (o : HO) : AnyAt H (upd H' x o) pP ad p :=
  ⟨fun b u hb => by rw [upd_ne (ne_of_none hb hx)]; exact B.keep b u hb, by rw [upd_ne (Ne.symm hp)]; exact B.at', B.hp, B.nd, B.np, B.hn, B.len, fun i b t h1 h2 => by
    have hb : b ≠ x := fun z => ha (z ▸ List.mem_of_getElem? h1)
    rw [upd_ne hb]
    exact B.rep i b t h1 h2⟩
section
variable {P : Program} {w : World} {K : PySem.W.Frag} {mg : Str → Option Value} {base : Heap}
/-! ### popped out, as the law does it -/
def sp_popped : Sp := fun vs H Q _ => ∃ x p, vs = [x] ∧ Rep H x (ringsD p) ∧ PilesOk p ∧ ∀ q rs pP F H', Pops p rs q → ringsN (topsN q) = [] → New H F H' → Rep F (.ref pP) (ringsD q) → Q (.ref pP) H'
theorem def__law_popped (T : Txt mg) (h : Here K mg "_law_popped" s__law_popped ["_law_piles"]) : Def P w K mg base "_law_popped" 1 ["_law_piles"] sp_popped := h.mk fun f fd F => by
  have nd := sc__law_popped.nd
  refine F.ok sc__law_popped (fun vs H Q E h => ?_) (fun cdv A outer s H vs Q E hr h => ?_)
  · obtain ⟨x, p, rfl, _⟩ := h
    rfl
  obtain ⟨x, p, rfl, rx, ok, q⟩ := h
  refine ⟨_, pss_cons (ps_setC (i := 1) nd rfl rfl (N' := ["_law_pile"]) (cap := [none]) rfl ⟨rfl, rfl, rfl, rfl, rfl, rfl⟩ (pi_listK (K := K) (pv 0)) (fun _ _ _ _ _ _ => ⟨pg_name (i := 0) (show (["_law_pile"] : List Str).Nodup by decide +kernel) rfl (Or.inl rfl) (Or.inr rfl), pifs_nil, pe_callTy (call_listK (K := K)) rfl T.z_list boot_list (pa_cons (pv 0) pa_nil)⟩) (keeps_name rfl))
    (pss_cons (ps_set (i := 2) nd rfl (Or.inl rfl) pe_bl)
    (pss_cons (ps_while PassesOwn.never (pt_truthK (K := K) (pv 2) (fun _ => rfl))
      (pss_cons (ps_set (i := 2) nd rfl (Or.inl rfl) pe_bl)
      (pss_one (ps_for PassesOwn.never rfl (pi_range1 rfl T.z_range (pa_cons (pe_callB (call_lenK (K := K)) rfl T.z_len PySem.boot_len (pa_cons (pv 1) pa_nil)) pa_nil)) (pg_name (i := 3) nd rfl (Or.inl rfl))
        (pss_cons (ps_set (i := 4) nd rfl (Or.inl rfl) (pe_lst (pa_cons (pv 3) pa_nil)))
        (pss_cons (ps_while PassesOwn.never (PW.pt (pw_and (pt_cmpR (op_neD hr) (pe_ix (ix_lt (K := K)) (pv 1) (pe_ix (ix_lt (K := K)) (pv 4) (pe_un un_neg pe_int) (fun _ _ => rfl)) (fun _ _ => rfl)) (pe_lst pa_nil) (nomark _)) (pw_and1 (pt_cmpR (op_notInK (K := K)) (pe_ix (ix_lt (K := K)) (pe_ix (ix_lt (K := K)) (pv 1) (pe_ix (ix_lt (K := K)) (pv 4) (pe_un un_neg pe_int) (fun _ _ => rfl)) (fun _ _ => rfl)) pe_int (fun _ _ => rfl)) (pv 4) rfl))))
          (pss_one (ps_expr (pe_bm PySem.F.plainAttrs_list PySem.F.slot_list_append PySem.F.type_list_append mt_append (pv 4) (pa_cons (pe_ix (ix_lt (K := K)) (pe_ix (ix_lt (K := K)) (pv 1) (pe_ix (ix_lt (K := K)) (pv 4) (pe_un un_neg pe_int) (fun _ _ => rfl)) (fun _ _ => rfl)) pe_int (fun _ _ => rfl)) pa_nil)))))
        (pss_one (ps_if (PW.pt (pw_and (pt_cmpR (op_neD hr) (pe_ix (ix_lt (K := K)) (pv 1) (pe_ix (ix_lt (K := K)) (pv 4) (pe_un un_neg pe_int) (fun _ _ => rfl)) (fun _ _ => rfl)) (pe_lst pa_nil) (nomark _)) (pw_and1 (pt_cmpR (op_eqD hr) (pe_ix (ix_lt (K := K)) (pe_ix (ix_lt (K := K)) (pv 1) (pe_ix (ix_lt (K := K)) (pv 4) (pe_un un_neg pe_int) (fun _ _ => rfl)) (fun _ _ => rfl)) pe_int (fun _ _ => rfl)) (pv 3) (nomark _)))))
          (pss_cons (ps_set (i := 2) nd rfl (Or.inl rfl) pe_bl)
          (pss_one (ps_for PassesOwn.never rfl (pi_listK (K := K) (pv 4)) (pg_name (i := 5) nd rfl (Or.inl rfl))
            (pss_one (ps_asg (pe_slice (sl_listK (K := K)) (pe_ix (ix_lt (K := K)) (pv 1) (pv 5) (fun _ _ => rfl)) (po_some pe_int) po_none) (pg_sub (pv 1) (pv 5) set_list))))))
          (pss_nil)))))))))
    (pss_one (ps_ret (pv 1))))), ?_⟩
  obtain ⟨b0, ys, rfl, eb0, rb0⟩ := rep_list rx
  have lb0 : ys.length = p.length := by rw [rb0.length, List.length_map]
  have h8 := ok.len
  refine ⟨_, rfl, b0, rfl, ⟨ys, SqL.of eb0⟩, fun pP hP => ?_⟩
  refine copiesA (K := K) eb0 rb0 (by omega) hP (fun x G Q' ⟨b, t, hx, hb, k⟩ => ?_) (fun H1 ad B => ?_)
  · subst hx
    exact ⟨_, rfl, b, _, rfl, .inl (SqL.of hb), k⟩
  refine ⟨fun m σ' H' => ∃ (q : Piles) (rs : List (List Nat)) (ad : List Addr) (g : Bool) (c3 c4 c5 : Option V), σ' = [some (.ref b0), some (.ref pP), some (.bl g), c3, c4, c5] ∧ AnyAt H H' pP ad q ∧ Pops p rs q ∧ (g = false → ringsN (topsN q) = []) ∧ m = if g then sizeN q + 1 else 0,
    ⟨sizeN p + 1, p, [], ad, true, none, none, none, rfl, B, .nil, (fun z => nomatch z), rfl⟩, ?_⟩
  rintro m σ' H' ⟨p1, rs1, ad1, g, c3, c4, c5, rfl, B, pops, hg, rfl⟩
  obtain ⟨ok1, hl1, _⟩ := pops.ok ok
  refine ⟨_, rfl, g, rfl, ?_⟩
  cases g with
  | false =>
    obtain ⟨F, nw, rp⟩ := B.view
    exact ⟨_, rfl, q p1 rs1 pP F H' pops (hg rfl) nw rp⟩
  | true =>
    refine ⟨fun σ' H' => ∃ (q : Piles) (rs : List (List Nat)) (ad : List Addr) (g : Bool) (c3 c4 c5 : Option V), σ' = [some (.ref b0), some (.ref pP), some (.bl g), c3, c4, c5] ∧ AnyAt H H' pP ad q ∧ Pops p rs q ∧ (g = false → ringsN (topsN q) = []) ∧ (g = true → sizeN q < sizeN p1), ?_, ?_⟩
    · rintro σ2 H2 ⟨q2, rs2, ad2, g2, d3, d4, d5, e1, e2, e3, e4, e5⟩
      refine ⟨_, ?_, q2, rs2, ad2, g2, d3, d4, d5, e1, e2, e3, e4, rfl⟩
      cases g2 with
      | false => show 0 < sizeN p1 + 1; omega
      | true => show sizeN q2 + 1 < sizeN p1 + 1; have := e5 rfl; omega
    refine ⟨_, rfl, pP, _, rfl, .inl (SqL.of B.at'), _, rfl, by have := B.len; rw [List.length_map]; omega, by have := B.len; rw [List.length_map]; omega, for_range (lo := 0) (n := ((((ad1.map V.ref).length : Nat) : Int)).toNat) (fun i σ' H' => ∃ (q : Piles) (rs : List (List Nat)) (ad : List Addr) (g : Bool) (c3 c4 c5 : Option V), σ' = [some (.ref b0), some (.ref pP), some (.bl g), c3, c4, c5] ∧ AnyAt H H' pP ad q ∧ Pops p rs q ∧ q.length = p.length ∧
        (g = false → q = p1 ∧ ∀ j, j < i → ¬ OnRing (topsN p1) j) ∧ (g = true → sizeN q < sizeN p1))
      ⟨p1, rs1, ad1, false, c3, c4, c5, rfl, B, pops, hl1, fun _ => ⟨rfl, fun j hj => absurd hj (Nat.not_lt_zero _)⟩, (fun z => nomatch z)⟩ ?_ ?_⟩
    · clear hg
      rintro i σ' H2 hi ⟨q2, rs2, ad2, g2, d3, d4, d5, rfl, B2, pops2, hl2, hf, ht⟩
      have hB := B.len
      have hB2 := B2.len
      rw [List.length_map] at hi
      have hi' : i < q2.length := by omega
      obtain ⟨ok2, _, _⟩ := pops2.ok ok
      have tl : (topsN q2).length = q2.length := topsN_len q2
      rw [Int.zero_add]
      refine ⟨_, rfl, (by show 1 ≤ sizeLine; decide), fun pR hR => ?_⟩
      have hRp : pR ≠ pP := fun z => by rw [z, B2.at'] at hR; cases hR
      have hRa : pR ∉ ad2 := fun z => by
        obtain ⟨k, hk, ek⟩ := List.mem_iff_getElem.mp z
        have := B2.rep k pR (q2[k]'(by omega)) (by rw [List.getElem?_eq_getElem hk, ek]) (List.getElem?_eq_getElem _)
        rw [hR] at this
        cases this
      have at2 : ∀ {H' : Hp} {l : Nat}, AnyAt H H' pP ad2 q2 → l < q2.length → ∃ b pile, atI (ad2.map V.ref) (l : Int) = some (.ref b) ∧ q2[l]? = some pile ∧ H' b = some (.lst (natsV pile)) := fun {H' l} Bx hl => by
        have hla : l < ad2.length := by omega
        refine ⟨ad2[l], q2[l], atI_nat (by rw [List.getElem?_map, List.getElem?_eq_getElem hla]; rfl), List.getElem?_eq_getElem hl, Bx.rep l _ _ (List.getElem?_eq_getElem hla) (List.getElem?_eq_getElem hl)⟩
      refine ⟨fun m σ' H' => ∃ way : List Nat, σ' = [some (.ref b0), some (.ref pP), some (.bl g2), some (.int (i : Int)), some (.ref pR), d5] ∧ AnyAt H H' pP ad2 q2 ∧ H pR = none ∧ H' pR = some (.lst (natsV way)) ∧ Way (topsN q2) i way ∧ m = q2.length - way.length,
        ⟨q2.length - 1, [i], rfl, B2.more (same_upd hR _), B2.keep.free hR, upd_same, Way.one (by omega), rfl⟩, ?_⟩
      rintro m σ' H3 ⟨way, rfl, B3, hRH, eR, wy, rfl⟩
      obtain ⟨l, hlast, hlt, hat⟩ := last_of wy
      rw [tl] at hlt
      obtain ⟨b, pile, hatb, hpile, eb⟩ := at2 B3 hlt
      have nx : nextE (topsN q2) l = pile.head? := by rw [topsN_next, hpile]; rfl
      refine ⟨_, rfl, _, rfl, 1, rfl, .inl ⟨pR, _, -1, _, rfl, rfl, SqL.of eR, hat, .inl ⟨pP, _, _, _, rfl, rfl, SqL.of B3.at', hatb, Nat.zero_le _, fun l0 hl0 => ?_⟩⟩⟩
      have s0 := same_upd hl0 (HO.lst [])
      refine ⟨natsD pile, .list [], nats_rep (s0 _ _ eb), .lst upd_same .nil, (okTo_nats pile).shaped (by decide), shaped_nil, _, rfl, ?_⟩
      rw [show PyData.eqv (natsD pile) (.list []) = decide (pile = []) from eqv_nats pile []]
      have B4 := B3.more s0
      have eR4 := s0 _ _ eR
      have eb4 := s0 _ _ eb
      generalize upd H3 l0 (.lst []) = H4 at s0 B4 eR4 eb4 ⊢
      have fin0 : ∀ {H5 : Hp}, AnyAt H H5 pP ad2 q2 → ¬ OnRing (topsN q2) i → ∃ (q : Piles) (rs : List (List Nat)) (ad : List Addr) (g : Bool) (c3 c4 c5 : Option V), [some (.ref b0), some (.ref pP), some (V.bl g2), some (.int (i : Int)), some (.ref pR), d5] = [some (.ref b0), some (.ref pP), some (.bl g), c3, c4, c5] ∧ AnyAt H H5 pP ad q ∧ Pops p rs q ∧ q.length = p.length ∧
          (g = false → q = p1 ∧ ∀ j, j < i + 1 → ¬ OnRing (topsN p1) j) ∧ (g = true → sizeN q < sizeN p1) := fun {H5} B5 hno =>
        ⟨q2, rs2, ad2, g2, _, _, _, rfl, B5, pops2, hl2, fun z => by
          obtain ⟨e1, e2⟩ := hf z
          refine ⟨e1, fun j hj => ?_⟩
          by_cases c : j = i
          · rw [c, ← e1]; exact hno
          · exact e2 j (by omega), ht⟩
      cases pile with
      | nil =>
        rw [decide_eq_true rfl]
        have hno : ¬ OnRing (topsN q2) i := fun o => by
          have := (wy.closed ⟨l, hlast, .inl nx⟩ hlast).mp o
          rw [nx] at this
          cases this
        refine ⟨_, rfl, _, rfl, 1, rfl, .inl ⟨pR, _, -1, _, rfl, rfl, SqL.of eR4, hat, .inl ⟨pP, _, _, _, rfl, rfl, SqL.of B4.at', hatb, Nat.zero_le _, fun l1 hl1 => ?_⟩⟩⟩
        have s1 := same_upd hl1 (HO.lst [])
        refine ⟨natsD [], .list [], nats_rep (s1 _ _ eb4), .lst upd_same .nil, (okTo_nats []).shaped (by decide), shaped_nil, _, rfl, ?_⟩
        rw [show PyData.eqv (natsD []) (.list []) = decide (([] : List Nat) = []) from eqv_nats [] [], decide_eq_true rfl]
        exact fin0 (B4.more s1) hno
      | cons y rest =>
        rw [decide_eq_false (fun z => nomatch z)]
        have nx' : nextE (topsN q2) l = some y := nx
        have haty : atI (natsV (y :: rest)) 0 = some (.int (y : Int)) := atI0 _ _
        refine ⟨_, rfl, _, rfl, 1, rfl, .inl ⟨pR, _, -1, _, rfl, rfl, SqL.of eR4, hat, .inl ⟨pP, _, _, _, rfl, rfl, SqL.of B4.at', hatb, .inl ⟨b, _, 0, _, rfl, rfl, SqL.of eb4, haty, _, rfl, pR, _, rfl, .inl (SqL.of eR4), rfl, flat_nats _, _, rfl, ?_⟩⟩⟩⟩
        show if (!inV (.int (y : Int)) (natsV way)) = true then _ else _
        rw [inV_nats]
        refine iteB (fun c => ?_) (fun c => ?_)
        · have hq : y ∉ way := by simpa using c
          have wy2 := wy.more hlast nx' hq ok2.inB
          have hlen2 := wy2.len
          rw [List.length_append, List.length_singleton, tl] at hlen2
          refine ⟨fun σ' H' => ∃ way' : List Nat, σ' = [some (.ref b0), some (.ref pP), some (.bl g2), some (.int (i : Int)), some (.ref pR), d5] ∧ AnyAt H H' pP ad2 q2 ∧ H pR = none ∧ H' pR = some (.lst (natsV way')) ∧ Way (topsN q2) i way' ∧ way'.length = way.length + 1, ?_, ?_⟩
          · rintro σ3 H5 ⟨way', e1, e2, e3, e4, e5, e6⟩
            exact ⟨_, by omega, way', e1, e2, e3, e4, e5, rfl⟩
          · refine ⟨_, rfl, .inl ⟨rfl, _, SqL.of eR4⟩, _, rfl, _, rfl, 1, rfl, .inl ⟨pR, _, -1, _, rfl, rfl, SqL.of eR4, hat, .inl ⟨pP, _, _, _, rfl, rfl, SqL.of B4.at', hatb, .inl ⟨b, _, 0, _, rfl, rfl, SqL.of eb4, haty, pR, _, _, rfl, rfl, eR4, small1000 (by rw [natsV_len]; omega), ?_⟩⟩⟩⟩
            exact ⟨way ++ [y], rfl, B4.aside hRH hRp hRa _, hRH, by rw [upd_same, natsV_append]; rfl, wy2, by simp⟩
        · have hin : y ∈ way := by simpa using c
          have dn : Done (topsN q2) way := ⟨l, hlast, .inr ⟨y, nx', hin⟩⟩
          refine ⟨_, rfl, _, rfl, 1, rfl, .inl ⟨pR, _, -1, _, rfl, rfl, SqL.of eR4, hat, .inl ⟨pP, _, _, _, rfl, rfl, SqL.of B4.at', hatb, Nat.zero_le _, fun l1 hl1 => ?_⟩⟩⟩
          have s1 := same_upd hl1 (HO.lst [])
          refine ⟨natsD (y :: rest), .list [], nats_rep (s1 _ _ eb4), .lst upd_same .nil, (okTo_nats _).shaped (by decide), shaped_nil, _, rfl, ?_⟩
          rw [show PyData.eqv (natsD (y :: rest)) (.list []) = decide ((y :: rest) = []) from eqv_nats _ [], decide_eq_false (fun z => nomatch z)]
          have B5 := B4.more s1
          have eR5 := s1 _ _ eR4
          have eb5 := s1 _ _ eb4
          generalize upd H4 l1 (.lst []) = H5 at B5 eR5 eb5 ⊢
          refine ⟨_, rfl, _, rfl, 1, rfl, .inl ⟨pR, _, -1, _, rfl, rfl, SqL.of eR5, hat, .inl ⟨pP, _, _, _, rfl, rfl, SqL.of B5.at', hatb, .inl ⟨b, _, 0, _, rfl, rfl, SqL.of eb5, haty, ?_⟩⟩⟩⟩
          refine ⟨_, rfl, .int (y : Int), .int (i : Int), .int _, .int _, (okTo.int _).shaped (by decide), (okTo.int _).shaped (by decide), _, rfl, ?_⟩
          rw [eqv_nat]
          have clo := wy.closed dn hlast
          refine iteD (fun cy => ?_) (fun cy => fin0 B5 fun o => by
            have := clo.mp o
            rw [nx'] at this
            exact cy (Option.some.inj this))
          subst cy
          obtain ⟨r, hr', epop⟩ := way_pop ok2 hi' wy dn (clo.mpr nx')
          have wl := wy.len
          have wbd : ∀ x ∈ way, x < q2.length := fun x hx => by have := wy.bd x hx; rwa [tl] at this
          refine ⟨_, rfl, pR, rfl, ⟨_, SqL.of eR5⟩, for_list (K := K) (xs := natsV way) (fun j σ' H' => ∃ (ad : List Addr) (c5 : Option V), σ' = [some (.ref b0), some (.ref pP), some (.bl true), some (.int (y : Int)), some (.ref pR), c5] ∧ AnyAt H H' pP ad (popN q2 (way.take j)) ∧ H' pR = some (.lst (natsV way)) ∧ pR ∉ ad)
            ⟨ad2, _, rfl, by rw [List.take_zero, show popN q2 [] = q2 from popN_nil q2]; exact B5, eR5, hRa⟩ (fun j σ' H' _ ⟨_, _, _, _, e, _⟩ => SqL.of e) ?_ ?_⟩
          · rintro j u σ' H6 hu ⟨ad6, c6, rfl, B6, eR6, hRa6⟩
            obtain ⟨x, hx, rfl⟩ := natsV_get hu
            have hxl := wbd x (List.mem_of_getElem? hx)
            have hj := lt_of_get hx
            have xnot : x ∉ way.take j := fun z => by
              obtain ⟨k, hk, ek⟩ := List.mem_iff_getElem.mp z
              rw [List.length_take] at hk
              rw [List.getElem_take] at ek
              rw [List.getElem?_eq_getElem hj] at hx
              exact List.pairwise_iff_getElem.mp wy.nd k j (by omega) hj (by omega) (ek.trans (Option.some.inj hx).symm)
            have pl6 : (popN q2 (way.take j)).length = q2.length := popN_len _ _
            have hxp : x < (popN q2 (way.take j)).length := by omega
            have hxa : x < ad6.length := by rw [B6.len]; exact hxp
            have hb : ad6[x]? = some ad6[x] := List.getElem?_eq_getElem hxa
            have hpx : (popN q2 (way.take j))[x]? = some (q2.getD x []) := by
              rw [popN_at, List.getD_eq_getElem?_getD, List.getElem?_eq_getElem hxl]
              show some (if x ∈ way.take j then _ else _) = _
              rw [if_neg xnot]
              rfl
            have ebx := B6.rep x _ _ hb hpx
            have hatx : atI (ad6.map V.ref) (x : Int) = some (.ref ad6[x]) := atI_nat (by rw [List.getElem?_map, hb]; rfl)
            refine ⟨_, rfl, _, rfl, .inl ⟨pP, _, _, _, rfl, rfl, SqL.of B6.at', hatx, ?_⟩⟩
            refine ⟨_, rfl, ad6[x], _, rfl, SqL.of ebx, fun l7 hl7 => ?_⟩
            rw [cut_rest]
            have s7 := same_upd hl7 (HO.lst (natsV ((q2.getD x []).drop 1)))
            have B7 := B6.more s7
            have hl7p : l7 ≠ pP := fun z => by rw [z, B6.at'] at hl7; cases hl7
            have hl7R : l7 ≠ pR := fun z => by rw [z, eR6] at hl7; cases hl7
            have hl7a : l7 ∉ ad6 := fun z => by
              obtain ⟨k, hk, ek⟩ := List.mem_iff_getElem.mp z
              have := B6.rep k l7 ((popN q2 (way.take j))[k]'(by rw [← B6.len]; exact hk)) (by rw [List.getElem?_eq_getElem hk, ek]) (List.getElem?_eq_getElem _)
              rw [hl7] at this
              cases this
            refine ⟨_, rfl, _, rfl, pP, _, _, x, rfl, rfl, B7.at', ixN_nat (by rw [List.length_map]; exact hxa), ?_⟩
            refine ⟨ad6.set x l7, _, rfl, ?_, ?_, fun z => ?_⟩
            · rw [List.take_succ, hx, Option.toList_some, pop_snoc xnot]
              exact B7.swap hxp upd_same (B6.keep.free hl7) hl7p hl7a
            · rw [upd_ne hRp]
              exact s7 _ _ eR6
            · rcases List.mem_or_eq_of_mem_set z with w' | w'
              · exact hRa6 w'
              · exact hl7R w'.symm
          · rintro σ' H6 ⟨ad6, c6, rfl, B6, eR6, _⟩
            rw [natsV_len, List.take_length, epop] at B6
            have less := pop_less ok2.inB hr'
            have q2le : sizeN q2 ≤ sizeN p1 := by
              cases g2 with
              | false => rw [(hf rfl).1]; exact Nat.le_refl _
              | true => exact Nat.le_of_lt (ht rfl)
            exact ⟨popN q2 r, rs2 ++ [r], ad6, true, _, _, _, rfl, B6, pops2.append (.cons hr' .nil), by rw [popN_len]; exact hl2, (fun z => nomatch z), fun _ => by omega⟩
    · rintro σ' H2 ⟨q2, rs2, ad2, g2, d3, d4, d5, rfl, B2, pops2, hl2, hf, ht⟩
      refine ⟨q2, rs2, ad2, g2, d3, d4, d5, rfl, B2, pops2, fun z => ?_, ht⟩
      obtain ⟨rfl, hno⟩ := hf z
      refine none_rings fun x hx => hno x ?_
      have := B.len
      rw [List.length_map]
      omega
end
end Law

namespace Law
open PySem L2 Ways Ring PyProof.Rows
seal L2.PE L2.PA L2.PS L2.PSs L2.PG L2.PT
section
variable {P : Program} {w : World} {K : PySem.W.Frag} {mg : Str → Option Value} {base : Heap}
/-! ### copies of piles, of nets -/
def sp_copyP : Sp := fun vs H Q _ => ∃ x l, vs = [x] ∧ Rep H x (ringsD l) ∧ l.length ≤ 900 ∧ ∀ pP ad H', AnyAt H H' pP ad l → Q (.ref pP) H'
theorem ok__law_copyP {f : Addr} {fd : FuncData} (T : Txt mg) (F : Fun K "_law_copy" "_law_copy" s__law_copy f fd) : FnOk P w K mg base CX0 1 f fd ["_law_net"] sp_copyP := by
  have nd := sc__law_copy.nd
  refine F.ok sc__law_copy (fun vs H Q E h => ?_) (fun cdv A outer s H vs Q E hr h => ?_)
  · obtain ⟨x, l, rfl, _⟩ := h
    rfl
  obtain ⟨x, l, rfl, rx, hl, q⟩ := h
  refine ⟨_, pss_one (ps_ret (pe_comp (N' := ["_law_row"]) (cap := [none]) rfl ⟨rfl, rfl, rfl, rfl, rfl, rfl⟩ (pi_listK (K := K) (pv 0)) (fun _ _ _ _ _ _ => ⟨pg_name (i := 0) (show (["_law_row"] : List Str).Nodup by decide +kernel) rfl (Or.inl rfl) (Or.inr rfl), pifs_nil, pe_callTy (call_listK (K := K)) rfl T.z_list boot_list (pa_cons (pv 0) pa_nil)⟩) (keeps_name rfl))), ?_⟩
  obtain ⟨b0, ys, rfl, eb0, rb0⟩ := rep_list rx
  refine ⟨_, rfl, b0, rfl, ⟨ys, SqL.of eb0⟩, fun pP hP => ?_⟩
  refine copiesA (K := K) eb0 rb0 (by omega) hP (fun x G Q' ⟨b, t, hx, hb, k⟩ => ?_) (fun H1 ad B => q pP ad H1 B)
  subst hx
  exact ⟨_, rfl, b, _, rfl, .inl (SqL.of hb), k⟩
theorem same_off {F H : Hp} {p : Addr} (h : F p = none) (s : Same F H) : Same F (del H p) := fun b o e => by
  rw [del_ne (ne_of_none e h)]
  exact s b o e
def sp_lcopy : Sp := fun vs H Q _ => ∃ v net, vs = [v] ∧ Rep H v (netD net) ∧ net.length ≤ 8 ∧ ∀ D H', Same H H' → Rep H' (.ref D) (netD net) → Q (.ref D) H'
theorem ok__law_copyN {f : Addr} {fd : FuncData} (T : Txt mg) (F : Fun K "_law_copy" "_law_copy" s__law_copy f fd) : FnOk P w K mg base CX0 1 f fd ["_law_net"] sp_lcopy := by
  have nd := sc__law_copy.nd
  refine F.ok sc__law_copy (fun vs H Q E h => ?_) (fun cdv A outer s H vs Q E hr h => ?_)
  · obtain ⟨v, net, rfl, _⟩ := h
    rfl
  obtain ⟨v, net, rfl, rn, h8, q⟩ := h
  refine ⟨_, pss_one (ps_ret (pe_comp (N' := ["_law_row"]) (cap := [none]) rfl ⟨rfl, rfl, rfl, rfl, rfl, rfl⟩ (pi_listK (K := K) (pv 0)) (fun _ _ _ _ _ _ => ⟨pg_name (i := 0) (show (["_law_row"] : List Str).Nodup by decide +kernel) rfl (Or.inl rfl) (Or.inr rfl), pifs_nil, pe_callTy (call_listK (K := K)) rfl T.z_list boot_list (pa_cons (pv 0) pa_nil)⟩) (keeps_name rfl))), ?_⟩
  obtain ⟨na, ns, rfl, en, rns⟩ := rep_list rn
  have nl : ns.length = net.length := by rw [rns.length, List.length_map]
  refine ⟨_, rfl, na, rfl, ⟨ns, SqL.of en⟩, fun D hD => ?_⟩
  refine comp_list (K := K) (xs := ns) (fun i G ys => Same H G ∧ Reps G ys ((net.take i).map rowD)) hD ⟨Same.refl _, .nil⟩ (fun i G ys ⟨s, _⟩ => SqL.of (s _ _ en)) (fun i x G ys hx hG pq => ?_) (fun G ys hG pq => ?_)
  · obtain ⟨sG, rs⟩ := pq
    obtain ⟨row, hrow, rrow⟩ := reps_map rns hx
    have hi := lt_of_get hx
    obtain ⟨b, rxs, rfl, eb, rb⟩ := rep_list rrow
    have yl : ys.length ≤ i := by
      have := rs.length
      rw [List.length_map, List.length_take] at this
      omega
    have s1 := sG.trans (same_upd hG (HO.lst ys))
    refine ⟨_, rfl, b, _, rfl, .inl (SqL.of (s1 _ _ eb)), fun t ht => ?_⟩
    have s2 := same_upd ht (HO.lst rxs)
    have htD : t ≠ D := by rintro rfl; rw [upd_same] at ht; cases ht
    have kG : Same G (del (upd (upd G D (.lst ys)) t (.lst rxs)) D) := same_off hG ((same_upd hG _).trans s2)
    refine cput (ys := ys) (s2 _ _ upd_same) (by omega) ⟨sG.trans kG, ?_⟩
    rw [List.take_succ, hrow, Option.toList_some, List.map_append]
    exact (rs.mono kG).snoc (.lst (by rw [del_ne htD, upd_same]) (rb.mono (sG.trans kG)))
  · obtain ⟨sG, rs⟩ := pq
    rw [nl, List.take_length] at rs
    have sD := same_upd hG (HO.lst ys)
    exact q D _ (sG.trans sD) (.lst upd_same (rs.mono sD))
/-! ### either of the two -/
theorem FnOk.or {CX : CXT} {k : Nat} {f : Addr} {fd : FuncData} {ps : List Str} {sp sp' : Sp} (F : FnOk P w K mg base CX k f fd ps sp) (G : FnOk P w K mg base CX k f fd ps sp') : FnOk P w K mg base CX k f fd ps fun vs H Q E => sp vs H Q E ∨ sp' vs H Q E :=
  ⟨fun vs H Q E h => h.elim (F.len vs H Q E) (G.len vs H Q E), fun A outer s H args us vs Q E hr he hb hv h => h.elim (F.run A outer s H args us vs Q E hr he hb hv) (G.run A outer s H args us vs Q E hr he hb hv)⟩
def sp_copyB : Sp := fun vs H Q E => sp_lcopy vs H Q E ∨ sp_copyP vs H Q E
theorem def__law_copy (T : Txt mg) (h : Here K mg "_law_copy" s__law_copy ["_law_net"]) : Def P w K mg base "_law_copy" 1 ["_law_net"] sp_copyB := h.mk fun f fd F => FnOk.or (ok__law_copyN T F) (ok__law_copyP T F)
end
end Law

namespace Law
open PySem L2 Ways Ring PyProof.Rows
seal L2.PE L2.PA L2.PS L2.PSs L2.PG L2.PT
section
variable {P : Program} {w : World} {K : PySem.W.Frag} {mg : Str → Option Value} {base : Heap}
/-! ### RanOut(place) -/
def sp_xinit (C : Addr) (fld : Str) : Sp := fun vs H Q _ => ∃ x v, vs = [.ref x, v] ∧ H x = some (.ext (PySem.W.ExcRaw none x C)) ∧ ∀ d H', H d = none → d ≠ x → H' = upd (upd H x (.ext (PySem.W.ExcRaw (some d) x C))) d (.xd [(fld, v)]) → Q .non H'
theorem def_RanOut___init__ (T : Txt mg) (U : Cls K mg) (h : IHere K mg "RanOut" U.a_RanOut "RanOut.__init__" s_RanOut___init__ ["self", "place"]) : IDef P w K mg base "RanOut" U.a_RanOut 1 ["self", "place"] (sp_xinit U.a_RanOut "place") := h.mk fun f fd F => by
  have nd := sc_RanOut___init__.nd
  refine F.ok sc_RanOut___init__ (fun vs H Q E h => ?_) (fun cdv A outer s H vs Q E hr h => ?_)
  · obtain ⟨x, v, rfl, _⟩ := h
    rfl
  obtain ⟨x, v, rfl, hx, q⟩ := h
  refine ⟨_, pss_cons (ps_expr (pe_initV (K := K) U.r_RingError rfl (pa_cons (pv 0) (pa_cons pe_str pa_nil))))
    (pss_one (ps_fldX (K := K) (pv 0) (pv 1))), ?_⟩
  refine ⟨_, rfl, x, U.a_RanOut, _, rfl, hx, U.e_RanOut.ex, ?_⟩
  exact ⟨_, rfl, _, rfl, x, U.a_RanOut, rfl, hx, U.f_RanOut_place, fun d hd => q d _ hd (fun z => by rw [z, hx] at hd; cases hd) rfl⟩
/-! ### the tree on what is left -/
/-- the first bare place is told, or the tops are the tree -/
def LeftOr (C : Addr) (net : Net) (p : Piles) (H : Hp) (Q : VK) (E : XK) : Prop :=
  (∃ i, BareAt net p i ∧ (∀ j, j < i → ¬ BareAt net p j) ∧ ∀ d H', Same H H' → H' d = some (.xd [("place", .int ((i : Nat) : Int))]) → E (.ref C) (some d) H') ∨
  ((∀ i, ¬ BareAt net p i) ∧ ∀ r H', Same H H' → H r = none → H' r = some (.lst ((topsN p).map optV)) → Q (.ref r) H')
def sp_tree_on (C : Addr) : Sp := fun vs H Q E => ∃ v x net p, vs = [v, x] ∧ Rep H v (netD net) ∧ Rep H x (ringsD p) ∧ net.length = p.length ∧ net.length ≤ 8 ∧ LeftOr C net p H Q E
theorem del_same_of {H H1 : Hp} {x d : Addr} {o o' u : HO} (s : Same H H1) (hx : H1 x = none) (hd : (upd H1 x o) d = none) : Same H (del (upd (upd (upd H1 x o) x o') d u) x) := fun b ob e => by
  have bx : b ≠ x := fun z => by rw [z] at e; have := s _ _ e; rw [hx] at this; cases this
  have bd : b ≠ d := fun z => by
    rw [z] at e
    have e1 := s _ _ e
    have dx : d ≠ x := fun y => bx (z.trans y)
    rw [upd_ne dx, e1] at hd
    cases hd
  rw [del_ne bx, upd_ne bd, upd_ne bx, upd_ne bx]
  exact s _ _ e
theorem def_tree_on (T : Txt mg) (U : Cls K mg) (D_tops_of : Def P w K mg base "tops_of" 1 ["piles"] sp_tops_of) (D_RanOut___init__ : IDef P w K mg base "RanOut" U.a_RanOut 1 ["self", "place"] (sp_xinit U.a_RanOut "place")) (h : Here K mg "tree_on" s_tree_on ["net", "rest"]) : DefE P w K mg base "tree_on" 3 ["net", "rest"] (sp_tree_on U.a_RanOut) := h.mkE fun f fd F => by
  have nd := sc_tree_on.nd
  refine F.okE sc_tree_on (fun vs H Q E h => ?_) (fun cdv A outer s H vs Q E hr h => ?_)
  · obtain ⟨v, x, net, p, rfl, _⟩ := h
    rfl
  obtain ⟨v, x, net, p, rfl, rn, rx, hl, h8, q⟩ := h
  refine ⟨_, pss_cons (ps_set (i := 2) nd rfl (Or.inl rfl) (pe_callD D_tops_of hr rfl (pa_cons (pv 1) pa_nil)))
    (pss_cons (ps_for PassesOwn.leaving rfl (pi_enumK (K := K) rfl T.z_enumerate (pa_cons (pv 0) pa_nil)) (pg_tupK (K := K) rfl (pgs_cons (pg_name (i := 3) nd rfl (Or.inl rfl)) (pgs_cons (pg_name (i := 4) nd rfl (Or.inl rfl)) pgs_nil)))
      (pss_one (ps_if (PW.pt (pw_and (pt_cmpR (op_neD hr) (pv 4) (pe_lst pa_nil) (nomark _)) (pw_and1 (pt_cmp (pc_isN (pe_ix (ix_lt (K := K)) (pv 2) (pv 3) (fun _ _ => rfl)))))))
        (pss_one (ps_raiseD D_RanOut___init__ hr rfl (pa_cons (pv 3) pa_nil)))
        (pss_nil))))
    (pss_one (ps_ret (pv 2)))), ?_⟩
  refine ⟨_, rfl, x, p, rfl, rx, by omega, fun r H1 s1 hr1 er1 => ?_⟩
  obtain ⟨na, ns, rfl, en, rns⟩ := rep_list rn
  have nl : ns.length = net.length := by rw [rns.length, List.length_map]
  have tl := topsN_len p
  refine ⟨_, rfl, na, rfl, ⟨ns, SqL.of (s1 _ _ en)⟩, for_enum (K := K) (xs := ns) (fun i σ' H' => ∃ (c3 c4 : Option V), σ' = [some (.ref na), some x, some (.ref r), c3, c4] ∧ Same H1 H' ∧ ∀ j, j < i → ¬ BareAt net p j)
    ⟨none, none, rfl, Same.refl _, fun j hj => absurd hj (Nat.not_lt_zero _)⟩ (fun i σ' H' ⟨_, _, _, hs, _⟩ => SqL.of (hs _ _ (s1 _ _ en))) ?_ ?_⟩
  · rintro i y Tt σ' H' hy hTt ⟨c3, c4, rfl, hs, hno⟩
    obtain ⟨row, hrow, rrow⟩ := reps_map rns hy
    have hi : i < net.length := lt_of_get hrow
    have sT := same_upd hTt (HO.tup [.int (i : Int), y])
    refine ⟨Tt, _, rfl, SqT.of upd_same, rfl, _, _, rfl, _, _, rfl, rfl, ?_⟩
    have k4 := hs.trans sT
    generalize upd H' Tt (.tup [.int (i : Int), y]) = H4 at k4 ⊢
    have more : ¬ BareAt net p i → ∀ j, j < i + 1 → ¬ BareAt net p j := fun hn j hj => by
      by_cases c : j = i
      · rw [c]; exact hn
      · exact hno j (by omega)
    refine ⟨_, rfl, Nat.zero_le _, fun l hl' => ?_⟩
    have s5 := k4.trans (same_upd hl' (HO.lst []))
    refine ⟨_, _, rrow.mono (s1.trans s5), .lst upd_same .nil, (okTo_row row).shaped (by decide), shaped_nil, _, rfl, ?_⟩
    rw [eqv_row_nil]
    by_cases c : row = []
    · rw [decide_eq_true c]
      refine ⟨_, _, rfl, s5, more fun z => ?_⟩
      obtain ⟨⟨ro, hr', hne⟩, _⟩ := z
      rw [hrow] at hr'
      cases hr'
      exact hne c
    · rw [decide_eq_false c]
      have hpi : p[i]? = some (p[i]'(by omega)) := List.getElem?_eq_getElem _
      have hti : ((topsN p).map optV)[i]? = some (optV (p[i]'(by omega)).head?) := by rw [List.getElem?_map, topsN, List.getElem?_map, hpi]; rfl
      have bare : BareAt net p i ↔ p[i]'(by omega) = [] := ⟨fun z => by have := z.2; rw [hpi] at this; exact Option.some.inj this, fun z => ⟨⟨row, hrow, c⟩, by rw [hpi, z]⟩⟩
      cases e : p[i]'(by omega) with
      | cons t tr =>
        rw [e] at hti
        refine ⟨_, rfl, _, rfl, .inl ⟨r, _, _, _, rfl, rfl, SqL.of (s5 _ _ er1), atI_nat hti, ?_⟩⟩
        refine ⟨_, rfl, iteB (fun c => ?_) (fun _ => ?_)⟩
        · cases c
        · exact ⟨_, _, rfl, s5, more fun z => by rw [bare.mp z] at e; cases e⟩
      | nil =>
        rw [e] at hti
        refine ⟨_, rfl, _, rfl, .inl ⟨r, _, _, _, rfl, rfl, SqL.of (s5 _ _ er1), atI_nat hti, ?_⟩⟩
        refine ⟨_, rfl, iteB (fun _ => ?_) (fun c => ?_)⟩
        case refine_2 => cases c
        refine ⟨_, rfl, fun ea hea => ⟨ea, _, rfl, upd_same, fun d H6 hd dx e6 => ⟨rfl, some d, ?_, ?_⟩⟩⟩
        · rw [e6, upd_ne (Ne.symm dx)]; exact upd_same
        · rcases q with ⟨i', b', hno', q⟩ | ⟨nb, _⟩
          · have ei : i' = i := by
              rcases Nat.lt_trichotomy i' i with z | z | z
              · exact absurd b' (hno i' z)
              · exact z
              · exact absurd (bare.mpr e) (hno' i z)
            subst ei
            have k6 : Same H (del H6 ea) := by
              rw [e6]
              exact del_same_of (s1.trans s5) hea hd
            exact q d _ k6 (by rw [del_ne dx, e6]; exact upd_same)
          · exact absurd (bare.mpr e) (nb i)
  · rintro σ' H' ⟨c3, c4, rfl, hs, hno⟩
    refine ⟨_, rfl, ?_⟩
    rcases q with ⟨i, b, _, _⟩ | ⟨nb, q⟩
    · obtain ⟨⟨ro, hro, _⟩, _⟩ := id b
      exact absurd b (hno i (by have := lt_of_get hro; omega))
    · exact q r _ (s1.trans hs) hr1 (hs _ _ er1)
end
end Law

namespace Law
open PySem L2 Ways Ring PyProof.Rows
seal L2.PE L2.PA L2.PS L2.PSs L2.PG L2.PT
section
variable {P : Program} {w : World} {K : PySem.W.Frag} {mg : Str → Option Value} {base : Heap}
theorem rep_pair {H : Hp} {x : V} {rs : List (List Nat)} {p : Piles} (r : Rep H x (outD rs p)) : ∃ t u v, x = .ref t ∧ H t = some (.tup [u, v]) ∧ Rep H u (ringsD rs) ∧ Rep H v (ringsD p) := by
  unfold outD at r
  cases r with
  | @tup b xs _ e qs =>
    cases qs with
    | cons r1 qs =>
      cases qs with
      | cons r2 qs =>
        cases qs
        exact ⟨b, _, _, rfl, e, r1, r2⟩
theorem LeftOr.mono {C : Addr} {net : Net} {p : Piles} {H H1 : Hp} {Q : VK} {E : XK} (h : LeftOr C net p H Q E) (s : Same H H1) : LeftOr C net p H1 Q E := by
  rcases h with ⟨i, b, n, q⟩ | ⟨nb, q⟩
  · exact .inl ⟨i, b, n, fun d H' s' hd => q d H' (s.trans s') hd⟩
  · exact .inr ⟨nb, fun r H' s' hr er => q r H' (s.trans s') (s.free hr) er⟩
/-! ### the tree that is left -/
def sp_left (C : Addr) : Sp := fun vs H Q E => ∃ v x net p q rs, vs = [v, x] ∧ Rep H v (netD net) ∧ Rep H x (ringsD p) ∧ PilesOk p ∧ net.length = p.length ∧ Pops p rs q ∧ ringsN (topsN q) = [] ∧ LeftOr C net q H Q E
theorem def_left_tree (T : Txt mg) (U : Cls K mg) (S_pop_out : DefS P w K mg base "pop_out" 4 ["piles", "order"] [.none] sp_pop_out) (D_tree_on : DefE P w K mg base "tree_on" 3 ["net", "rest"] (sp_tree_on U.a_RanOut)) (h : Here K mg "left_tree" s_left_tree ["net", "piles"]) : DefE P w K mg base "left_tree" 5 ["net", "piles"] (sp_left U.a_RanOut) := h.mkE fun f fd F => by
  have nd := sc_left_tree.nd
  refine F.okE sc_left_tree (fun vs H Q E h => ?_) (fun cdv A outer s H vs Q E hr h => ?_)
  · obtain ⟨v, x, net, p, q, rs, rfl, _⟩ := h
    rfl
  obtain ⟨v, x, net, p, q, rs, rfl, rn, rx, ok, hl, pops, he, hq⟩ := h
  refine ⟨_, pss_one (ps_ret (pe_callE D_tree_on hr rfl (pa_cons (pv 0) (pa_cons (pe_ix (ix_lt (K := K)) (pe_callS (dvs := [.non]) S_pop_out (.cons rfl (.nil)) hr rfl (pa_cons (pv 1) pa_nil)) pe_int (fun _ _ => rfl)) pa_nil)))), ?_⟩
  refine ⟨_, rfl, _, rfl, x, .non, p, none, rfl, rx, ok, rfl, fun rs2 rest r F1 H1 out n1 rr => ?_⟩
  have eq : rest = q := (Pops.same ok (Pops.of_steps out.1) out.2 pops he).2
  subst eq
  obtain ⟨t, u, v2, rfl, et, ru, rv⟩ := rep_pair (rr.mono n1.sub)
  refine .inr ⟨t, _, 1, _, rfl, rfl, SqT.of et, atI_nat (j := 1) rfl, ?_⟩
  have ql := (pops.ok ok).2.1
  have h8 := ok.len
  exact ⟨v, v2, net, rest, rfl, rn.mono n1.keep, rv, by omega, by omega, hq.mono n1.keep⟩
/-! ### the error is of its own kind -/
def sp_alone (aR : Addr) : Sp := fun vs H Q _ => ∃ ea, vs = [.ref ea] ∧ ErrAt H ea aR ∧ ∀ H', Same H H' → Q (.bl true) H'
theorem def__law_alone (T : Txt mg) (U : Cls K mg) (h : Here K mg "_law_alone" s__law_alone ["_law_error"]) : DefH P w K mg base "_law_alone" 1 ["_law_error"] (sp_alone U.a_RanOut) := h.mkH fun f fd F => by
  have nd := sc__law_alone.nd
  refine F.okH sc__law_alone (fun vs H Q E h => ?_) (fun cdv A outer s H vs Q hr h => ?_)
  · obtain ⟨ea, rfl, _⟩ := h
    rfl
  obtain ⟨ea, rfl, he, q⟩ := h
  refine ⟨_, pss_cons (ps_set (i := 1) nd rfl (Or.inl rfl) (pe_op op_add (pe_op op_add (pe_callTy call_int1 rfl T.z_int boot_int (pa_cons (pe_callB (call_isiCD (K := K)) rfl T.z_isinstance boot_isinstance (pa_cons (pv 0) (pa_cons (pe_glob rfl U.g_NoNet (v := .ref _) rfl) pa_nil))) pa_nil)) (pe_callTy call_int1 rfl T.z_int boot_int (pa_cons (pe_callB (call_isiCD (K := K)) rfl T.z_isinstance boot_isinstance (pa_cons (pv 0) (pa_cons (pe_glob rfl U.g_NoTree (v := .ref _) rfl) pa_nil))) pa_nil))) (pe_callTy call_int1 rfl T.z_int boot_int (pa_cons (pe_callB (call_isiCD (K := K)) rfl T.z_isinstance boot_isinstance (pa_cons (pv 0) (pa_cons (pe_glob rfl U.g_NoPiles (v := .ref _) rfl) pa_nil))) pa_nil))))
    (pss_cons (ps_set (i := 1) nd rfl (Or.inl rfl) (pe_op op_add (pe_op op_add (pe_op op_add (pv 1) (pe_callTy call_int1 rfl T.z_int boot_int (pa_cons (pe_callB (call_isiCD (K := K)) rfl T.z_isinstance boot_isinstance (pa_cons (pv 0) (pa_cons (pe_glob rfl U.g_NoRing (v := .ref _) rfl) pa_nil))) pa_nil))) (pe_callTy call_int1 rfl T.z_int boot_int (pa_cons (pe_callB (call_isiCD (K := K)) rfl T.z_isinstance boot_isinstance (pa_cons (pv 0) (pa_cons (pe_glob rfl U.g_NoPlace (v := .ref _) rfl) pa_nil))) pa_nil))) (pe_callTy call_int1 rfl T.z_int boot_int (pa_cons (pe_callB (call_isiCD (K := K)) rfl T.z_isinstance boot_isinstance (pa_cons (pv 0) (pa_cons (pe_glob rfl U.g_NoNumber (v := .ref _) rfl) pa_nil))) pa_nil))))
    (pss_cons (ps_set (i := 1) nd rfl (Or.inl rfl) (pe_op op_add (pe_op op_add (pe_op op_add (pv 1) (pe_callTy call_int1 rfl T.z_int boot_int (pa_cons (pe_callB (call_isiCD (K := K)) rfl T.z_isinstance boot_isinstance (pa_cons (pv 0) (pa_cons (pe_glob rfl U.g_NoArrow (v := .ref _) rfl) pa_nil))) pa_nil))) (pe_callTy call_int1 rfl T.z_int boot_int (pa_cons (pe_callB (call_isiCD (K := K)) rfl T.z_isinstance boot_isinstance (pa_cons (pv 0) (pa_cons (pe_glob rfl U.g_MakesRing (v := .ref _) rfl) pa_nil))) pa_nil))) (pe_callTy call_int1 rfl T.z_int boot_int (pa_cons (pe_callB (call_isiCD (K := K)) rfl T.z_isinstance boot_isinstance (pa_cons (pv 0) (pa_cons (pe_glob rfl U.g_RanOut (v := .ref _) rfl) pa_nil))) pa_nil))))
    (pss_one (ps_ret (pe_cmpR op_eq (pe_op op_add (pe_op op_add (pv 1) (pe_callTy call_int1 rfl T.z_int boot_int (pa_cons (pe_callB (call_isiCD (K := K)) rfl T.z_isinstance boot_isinstance (pa_cons (pv 0) (pa_cons (pe_glob rfl U.g_TooGreat (v := .ref _) rfl) pa_nil))) pa_nil))) (pe_callTy call_int1 rfl T.z_int boot_int (pa_cons (pe_callB (call_isiCD (K := K)) rfl T.z_isinstance boot_isinstance (pa_cons (pv 0) (pa_cons (pe_glob rfl U.g_NoText (v := .ref _) rfl) pa_nil))) pa_nil))) pe_int (nomark _)))))), ?_⟩
  have no : ∀ {x : Str} {D : Addr}, Not K mg x D U.a_RanOut → PySem.W.kitOne K (.ref U.a_RanOut) (.ref D) = some false := fun n => kit_no U.s_RanOut n
  refine ⟨_, rfl, ea, U.a_RanOut, U.a_NoNet, false, rfl, he, U.e_RanOut.kx, no U.n_RanOut_NoNet, .inr ⟨_, rfl, ?_⟩⟩
  refine ⟨_, rfl, ea, U.a_RanOut, U.a_NoTree, false, rfl, he, U.e_RanOut.kx, no U.n_RanOut_NoTree, .inr ⟨_, rfl, _, _, rfl, rfl, ?_⟩⟩
  refine ⟨_, rfl, ea, U.a_RanOut, U.a_NoPiles, false, rfl, he, U.e_RanOut.kx, no U.n_RanOut_NoPiles, .inr ⟨_, rfl, _, _, rfl, rfl, ?_⟩⟩
  refine ⟨_, rfl, _, rfl, ea, U.a_RanOut, U.a_NoRing, false, rfl, he, U.e_RanOut.kx, no U.n_RanOut_NoRing, .inr ⟨_, rfl, _, _, rfl, rfl, ?_⟩⟩
  refine ⟨_, rfl, ea, U.a_RanOut, U.a_NoPlace, false, rfl, he, U.e_RanOut.kx, no U.n_RanOut_NoPlace, .inr ⟨_, rfl, _, _, rfl, rfl, ?_⟩⟩
  refine ⟨_, rfl, ea, U.a_RanOut, U.a_NoNumber, false, rfl, he, U.e_RanOut.kx, no U.n_RanOut_NoNumber, .inr ⟨_, rfl, _, _, rfl, rfl, ?_⟩⟩
  refine ⟨_, rfl, _, rfl, ea, U.a_RanOut, U.a_NoArrow, false, rfl, he, U.e_RanOut.kx, no U.n_RanOut_NoArrow, .inr ⟨_, rfl, _, _, rfl, rfl, ?_⟩⟩
  refine ⟨_, rfl, ea, U.a_RanOut, U.a_MakesRing, false, rfl, he, U.e_RanOut.kx, no U.n_RanOut_MakesRing, .inr ⟨_, rfl, _, _, rfl, rfl, ?_⟩⟩
  refine ⟨_, rfl, ea, U.a_RanOut, U.a_RanOut, true, rfl, he, U.e_RanOut.kx, kit_self _ _, .inr ⟨_, rfl, _, _, rfl, rfl, ?_⟩⟩
  refine ⟨_, rfl, _, rfl, ea, U.a_RanOut, U.a_TooGreat, false, rfl, he, U.e_RanOut.kx, no U.n_RanOut_TooGreat, .inr ⟨_, rfl, _, _, rfl, rfl, ?_⟩⟩
  refine ⟨_, rfl, ea, U.a_RanOut, U.a_NoText, false, rfl, he, U.e_RanOut.kx, no U.n_RanOut_NoText, .inr ⟨_, rfl, _, _, rfl, rfl, ?_⟩⟩
  exact ⟨rfl, q _ (Same.refl _)⟩
/-! ### it ran out -/
def sp_ran : Sp := fun vs H Q _ => ∃ v x net p q rs i, vs = [v, x, .int ((i : Nat) : Int)] ∧ Rep H v (netD net) ∧ Rep H x (ringsD p) ∧ PilesOk p ∧ net.length = p.length ∧ Pops p rs q ∧ ringsN (topsN q) = [] ∧ BareAt net q i ∧ (∀ j, j < i → ¬ BareAt net q j) ∧ ∀ H', Same H H' → Q (.bl true) H'
theorem def__law_ran_out (T : Txt mg) (U : Cls K mg) (D_left_tree : DefE P w K mg base "left_tree" 5 ["net", "piles"] (sp_left U.a_RanOut)) (D__law_whole : Def P w K mg base "_law_whole" 1 ["_law_found"] sp_whole) (D__law_alone : DefH P w K mg base "_law_alone" 1 ["_law_error"] (sp_alone U.a_RanOut)) (h : Here K mg "_law_ran_out" s__law_ran_out ["_law_net", "_law_piles", "_law_place"]) : Def P w K mg base "_law_ran_out" 6 ["_law_net", "_law_piles", "_law_place"] sp_ran := h.mk fun f fd F => by
  have nd := sc__law_ran_out.nd
  refine F.ok sc__law_ran_out (fun vs H Q E h => ?_) (fun cdv A outer s H vs Q E hr h => ?_)
  · obtain ⟨v, x, net, p, q, rs, i, rfl, _⟩ := h
    rfl
  obtain ⟨v, x, net, p, q, rs, i, rfl, rn, rx, ok, hl, pops, he, bare, hno, hq⟩ := h
  refine ⟨_, pss_cons (ps_set (i := 3) nd rfl (Or.inl rfl) pe_non)
    (pss_cons (ps_set (i := 4) nd rfl (Or.inl rfl) pe_bl)
    (pss_cons (ps_tryD (i := 5) D_left_tree hr rfl rfl rfl rfl (fun _ => pa_cons (pv 0) (pa_cons (pv 1) pa_nil)) U.e_RanOut.b rfl nd rfl rfl (fun _ => pss_cons (ps_set (i := 3) nd rfl (Or.inl rfl) (pe_fldX (K := K) (pv 5)))
      (pss_one (ps_set (i := 4) nd rfl (Or.inl rfl) (pe_callH D__law_alone (hr.h _) rfl (pa_cons (pv 5) pa_nil))))))
    (pss_cons (ps_if (PW.pt (pw_or (pt_not (pt_truthK (K := K) (pv 4) (fun _ => rfl))) (pw_or (pt_not (pt_val (pe_callD D__law_whole hr rfl (pa_cons (pv 3) pa_nil)))) (pw_or1 (pt_cmpR (op_neD hr) (pv 3) (pv 2) (nomark _))))))
      (pss_one (ps_ret pe_bl))
      (pss_nil))
    (pss_cons (ps_set (i := 6) nd rfl (Or.inl rfl) pe_bl)
    (pss_cons (ps_tryD (i := 5) D_left_tree hr rfl rfl rfl rfl (fun _ => pa_cons (pv 0) (pa_cons (pv 1) pa_nil)) U.e_RingError.b rfl nd rfl rfl (fun _ => pss_one (ps_set (i := 6) nd rfl (Or.inl rfl) (pe_callB (call_isiVD (K := K)) rfl T.z_isinstance boot_isinstance (pa_cons (pv 5) (pa_cons (pe_bltn rfl T.z_ValueError boot_ValueError (v := .ty "ValueError") rfl) pa_nil))))))
    (pss_one (ps_ret (pv 6)))))))), ?_⟩
  refine ⟨_, rfl, _, rfl, v, x, net, p, q, rs, rfl, rn, rx, ok, hl, pops, he, .inl ⟨i, bare, hno, fun d H1 s1 hd => ?_⟩⟩
  refine ⟨_, rfl, U.u_RanOut_RanOut, fun ea hea => ?_⟩
  have dx : d ≠ ea := ne_of_none hd hea
  have t1 := s1.trans (same_upd hea (.ext (PySem.W.ExcIs (some d) ea U.a_RanOut)))
  have hd1 : (upd H1 ea (.ext (PySem.W.ExcIs (some d) ea U.a_RanOut))) d = some (.xd [("place", .int (i : Int))]) := by rw [upd_ne dx]; exact hd
  refine ⟨_, rfl, ea, U.a_RanOut, d, _, .int (i : Int), rfl, upd_same, hd1, U.f_RanOut_place, by simp [List.lookup], ?_⟩
  refine ⟨_, rfl, ea, rfl, .inr ⟨d, _, upd_same, hd1⟩, fun H2 s2 => ?_⟩
  have t2 := t1.trans s2
  refine ⟨_, rfl, true, rfl, ?_⟩
  refine ⟨_, rfl, _, .int (i : Int), rfl, .int _, ?_⟩
  refine ⟨_, rfl, ?_⟩
  refine ⟨_, rfl, _, rfl, .int (i : Int), .int (i : Int), .int _, .int _, rfl, rfl, _, rfl, ?_⟩
  rw [show PyData.eqv (.int (i : Int)) (.int (i : Int)) = true from by simp [PyData.eqv]]
  refine ⟨_, rfl, _, rfl, v, x, net, p, q, rs, rfl, rn.mono t2, rx.mono t2, ok, hl, pops, he, .inl ⟨i, bare, hno, fun d2 H3 s3 hd2 => ?_⟩⟩
  refine ⟨_, rfl, U.u_RanOut_RingError, fun eb heb => ?_⟩
  have dx2 : d2 ≠ eb := ne_of_none hd2 heb
  have t3 := (t2.trans s3).trans (same_upd heb (.ext (PySem.W.ExcIs (some d2) eb U.a_RanOut)))
  refine ⟨_, rfl, eb, U.a_RanOut, _, true, rfl, .inr ⟨d2, _, upd_same, by rw [upd_ne dx2]; exact hd2⟩, U.e_RanOut.kx, kit_VE U.v_RanOut, ?_⟩
  exact ⟨_, rfl, hq _ t3⟩
end
end Law

def _root_.PySem.W.Fast.tw4154131890362974956 : Nat := 0
def _root_.PySem.W.Fast.tw15684902525894329985 : Nat := 0
def _root_.PySem.W.Fast.tw16525698586995705656 : Nat := 0
def _root_.PySem.W.Fast.tw13649938915994664343 : Nat := 0
def _root_.PySem.W.Fast.tw7246271755153757469 : Nat := 0
def _root_.PySem.W.Fast.tw18358931796545239843 : Nat := 0
def _root_.PySem.W.Fast.tw16492427172130674832 : Nat := 0
def _root_.PySem.W.Fast.tw1474965600223647254 : Nat := 0
def _root_.PySem.W.Fast.tw13709537652468126356 : Nat := 0
def _root_.PySem.W.Fast.tw2571425980457913314 : Nat := 0
def _root_.PySem.W.Fast.tw1625744640981916694 : Nat := 0
def _root_.PySem.W.Fast.tw7676121557247680454 : Nat := 0
def _root_.PySem.W.Fast.tw7162473413403397044 : Nat := 0
def _root_.PySem.W.Fast.tw10807202184625874368 : Nat := 0
def _root_.PySem.W.Fast.tw8400998410528338459 : Nat := 0
def _root_.PySem.W.Fast.tw3897447882596593633 : Nat := 0
def _root_.PySem.W.Fast.tw4203384722250017079 : Nat := 0
def _root_.PySem.W.Fast.tw9840714142890715648 : Nat := 0
def _root_.PySem.W.Fast.tw1281999614944611906 : Nat := 0

namespace Law
open PySem L2 Ways Ring PyProof.Rows
seal L2.PE L2.PA L2.PS L2.PSs L2.PG L2.PT
def handD (net : Net) (p : Piles) : PyData := .list [netD net, ringsD p]
theorem eqv_hand (net : Net) (p : Piles) : PyData.eqv (handD net p) (handD net p) = true := by
  simp only [handD, PyData.eqv, PyData.eqvAll, eqv_net, eqv_rings, decide_true, Bool.and_true]
theorem okTo_hand (net : Net) (p : Piles) : okTo 4 (handD net p) := okTo.list fun d hd => by
  have hd' : d = netD net ∨ d = ringsD p := by simpa using hd
  rcases hd' with rfl | rfl
  · exact okTo_net _
  · exact (okTo_rings p).mono (by decide)
theorem atI1 {α : Type} (x y : α) (r : List α) : atI (x :: y :: r) 1 = some y := atI_nat (j := 1) rfl
theorem AnyAt.rings {H H' : Hp} {pP : Addr} {ad : List Addr} {p : Piles} (B : AnyAt H H' pP ad p) : Rep H' (.ref pP) (ringsD p) := .lst B.at' (reps_of B.len B.rep)
theorem AnyAt.there {H H' : Hp} {pP b : Addr} {ad : List Addr} {p : Piles} (B : AnyAt H H' pP ad p) (hb : b ∈ ad) : ∃ zs, H' b = some (.lst zs) := by
  obtain ⟨k, hk, rfl⟩ := List.mem_iff_getElem.mp hb
  exact ⟨_, B.rep k _ _ (List.getElem?_eq_getElem hk) (List.getElem?_eq_getElem (by rw [← B.len]; exact hk))⟩
section
variable {P : Program} {w : World} {K : PySem.W.Frag} {mg : Str → Option Value} {base : Heap}
def spLaw (K : PySem.W.Frag) : Sp := fun vs H Q _ => ∃ (a : Addr) (ns : List Int), vs = [.ref a] ∧ SqL K H a (ns.map V.int) ∧ ns.length ≤ 63 ∧ ∀ H', Q (.bl true) H'
theorem ok_law {f : Addr} {fd : FuncData} (F : Fun K "law" "law" s_law f fd) (T : Txt mg) (U : Cls K mg) (D__law_fold : Def P w K mg base "_law_fold" 1 ["_law_script", "_law_number"] (sp_fold K)) (D__law_hung : Def P w K mg base "_law_hung" 3 ["_law_number", "_law_most"] sp_hung)
    (D__law_piled : Def P w K mg base "_law_piled" 1 ["_law_script", "_law_net", "_law_tree", "_law_number"] (sp_piled K)) (D__law_popped : Def P w K mg base "_law_popped" 1 ["_law_piles"] sp_popped) (D__law_bare : Def P w K mg base "_law_bare" 1 ["_law_net", "_law_left"] sp_bare)
    (D__law_copy : Def P w K mg base "_law_copy" 1 ["_law_net"] sp_copyB) (D__law_ran_out : Def P w K mg base "_law_ran_out" 6 ["_law_net", "_law_piles", "_law_place"] sp_ran) (D_left_tree : DefE P w K mg base "left_tree" 5 ["net", "piles"] (sp_left U.a_RanOut))
    (D__law_tops : Def P w K mg base "_law_tops" 1 ["_law_left"] sp_ltops) (D__law_alike : Def P w K mg base "_law_alike" 2 ["_law_found", "_law_due"] sp_lalike) :
    FnOk P w K mg base CX0 7 f fd ["_law_script"] (spLaw K) := by
  have nd := sc_law.nd
  refine F.ok sc_law (fun vs H Q E h => ?_) (fun cdv A outer s H vs Q E hr h => ?_)
  · obtain ⟨a, ns, rfl, _⟩ := h
    rfl
  obtain ⟨a, ns, rfl, hS, h63, q⟩ := h
  refine ⟨_, pss_cons (ps_set (i := 1) nd rfl (Or.inl rfl) (pe_callD D__law_fold hr rfl (pa_cons (pv 0) (pa_cons pe_int pa_nil))))
    (pss_cons (ps_asg (pe_callD D__law_hung hr rfl (pa_cons (pv 1) (pa_cons pe_int pa_nil))) (pg_lstK (K := K) rfl (pgs_cons (pg_name (i := 2) nd rfl (Or.inl rfl)) (pgs_cons (pg_name (i := 3) nd rfl (Or.inl rfl)) pgs_nil))))
    (pss_cons (ps_set (i := 4) nd rfl (Or.inl rfl) (pe_callD D__law_piled hr rfl (pa_cons (pv 0) (pa_cons (pv 2) (pa_cons (pv 3) (pa_cons (pv 1) pa_nil))))))
    (pss_cons (ps_set (i := 5) nd rfl (Or.inl rfl) (pe_callD D__law_popped hr rfl (pa_cons (pv 4) pa_nil)))
    (pss_cons (ps_set (i := 6) nd rfl (Or.inl rfl) (pe_callD D__law_bare hr rfl (pa_cons (pv 2) (pa_cons (pv 5) pa_nil))))
    (pss_cons (ps_set (i := 7) nd rfl (Or.inl rfl) (pe_lst (pa_cons (pe_callD D__law_copy hr rfl (pa_cons (pv 2) pa_nil)) (pa_cons (pe_callD D__law_copy hr rfl (pa_cons (pv 4) pa_nil)) pa_nil))))
    (pss_cons (ps_if (pt_cmp (pc_notN (pv 6)))
      (pss_one (ps_ret (pe_and (pe_callD D__law_ran_out hr rfl (pa_cons (pe_ix (ix_lt (K := K)) (pv 7) pe_int (fun _ _ => rfl)) (pa_cons (pe_ix (ix_lt (K := K)) (pv 7) pe_int (fun _ _ => rfl)) (pa_cons (pv 6) pa_nil)))) (pe_one (pe_cmpR (op_eqD hr) (pv 7) (pe_lst (pa_cons (pv 2) (pa_cons (pv 4) pa_nil))) (nomark _))))))
      (pss_nil))
    (pss_cons (ps_set (i := 8) nd rfl (Or.inl rfl) (pe_callN D_left_tree hr rfl (pa_cons (pe_ix (ix_lt (K := K)) (pv 7) pe_int (fun _ _ => rfl)) (pa_cons (pe_ix (ix_lt (K := K)) (pv 7) pe_int (fun _ _ => rfl)) pa_nil))))
    (pss_cons (ps_set (i := 9) nd rfl (Or.inl rfl) (pe_callD D__law_tops hr rfl (pa_cons (pv 5) pa_nil)))
    (pss_cons (ps_if (PW.pt (pw_or (pt_not (pt_val (pe_callD D__law_alike hr rfl (pa_cons (pv 8) (pa_cons (pv 9) pa_nil))))) (pw_or1 (pt_cmpR (op_neD hr) (pv 7) (pe_lst (pa_cons (pv 2) (pa_cons (pv 4) pa_nil))) (nomark _)))))
      (pss_one (ps_ret pe_bl))
      (pss_nil))
    (pss_cons (ps_for PassesOwn.never rfl (pi_listK (K := K) (pe_ix (ix_lt (K := K)) (pv 7) pe_int (fun _ _ => rfl))) (pg_name (i := 10) nd rfl (Or.inl rfl))
      (pss_one (ps_expr (pe_bm0 PySem.F.plainAttrs_list PySem.F.slot_list_clear PySem.F.type_list_clear mt_clear (pv 10)))))
    (pss_cons (ps_if (pt_cmpR (op_neD hr) (pv 8) (pv 9) (nomark _))
      (pss_one (ps_ret pe_bl))
      (pss_nil))
    (pss_cons (ps_expr (pe_bm0 PySem.F.plainAttrs_list PySem.F.slot_list_clear PySem.F.type_list_clear mt_clear (pv 8)))
    (pss_one (ps_ret (pe_callD D__law_alike hr rfl (pa_cons (pe_callN D_left_tree hr rfl (pa_cons (pe_ix (ix_lt (K := K)) (pv 7) pe_int (fun _ _ => rfl)) (pa_cons (pv 4) pa_nil))) (pa_cons (pv 9) pa_nil))))))))))))))))), ?_⟩
  refine ⟨_, rfl, a, ns, _, rfl, hS, fun n => ?_⟩
  refine ⟨_, rfl, n, 8, rfl, by decide, by decide, fun r pN pT net es H1 ok tr s1 er rN et => ?_⟩
  refine ⟨r, _, rfl, SqL.of er, rfl, _, _, rfl, _, _, rfl, rfl, ?_⟩
  refine ⟨_, rfl, _, rfl, _, rfl, _, rfl, a, ns, _, net, pT, es, n, rfl, s1.seq hS, h63, rN, ok, et, tr, fun p pP F2 H2 okp pl n2 rp => ?_⟩
  have rP2 := rp.mono n2.sub
  refine ⟨_, rfl, _, p, rfl, rP2, okp, fun q' rs pL F3 H3 pops he n3 rL => ?_⟩
  obtain ⟨okq, ql, _⟩ := pops.ok okp
  have n8 := ok.len
  have rN3 := rN.mono (n2.keep.trans n3.keep)
  have rP3 := rP2.mono n3.keep
  have rL3 := rL.mono n3.sub
  refine ⟨_, rfl, _, rfl, _, _, net, q', rfl, rN3, rL3, by omega, n8, fun i bi ni H4 s4 => ?_, fun nb H4 s4 => ?_⟩
  · refine ⟨_, rfl, .inl ⟨_, net, rfl, rN3.mono s4, n8, fun D5 H5 s5 rD5 => ⟨_, rfl, .inr ⟨_, p, rfl, rP3.mono (s4.trans s5), by omega, fun pC ad H6 B6 => ⟨(by decide : 2 ≤ sizeLine), fun l7 hl7 => ?_⟩⟩⟩⟩⟩
    have s7 := same_upd hl7 (HO.lst [.ref D5, .ref pC])
    have e7 : (upd H6 l7 (.lst [.ref D5, .ref pC])) l7 = some (.lst [.ref D5, .ref pC]) := upd_same
    have k37 := (s4.trans s5).trans (B6.keep.trans s7)
    have rD7 := rD5.mono (B6.keep.trans s7)
    have rC7 := B6.rings.mono s7
    generalize upd H6 l7 (.lst [.ref D5, .ref pC]) = H7 at e7 k37 rD7 rC7 ⊢
    refine ⟨_, rfl, _, rfl, ?_⟩
    refine ⟨_, rfl, .inl ⟨l7, _, 0, _, rfl, rfl, SqL.of e7, atI0 _ _, _, rfl, .inl ⟨l7, _, 1, _, rfl, rfl, SqL.of e7, atI1 _ _ _, _, rfl, ?_⟩⟩⟩
    refine ⟨_, _, net, p, q', rs, i, rfl, rD7, rC7, okp, by omega, pops, he, bi, ni, fun H8 s8 => ⟨_, rfl, ?_⟩⟩
    refine ⟨_, rfl, _, rfl, _, rfl, (by decide : 2 ≤ sizeLine), fun l9 hl9 => ?_⟩
    have s9 := s8.trans (same_upd hl9 (HO.lst [.ref pN, .ref pP]))
    refine ⟨handD net p, handD net p, .lst (s9 _ _ e7) (.cons (rD7.mono s9) (.cons (rC7.mono s9) .nil)), .lst upd_same (.cons (rN3.mono (k37.trans s9)) (.cons (rP3.mono (k37.trans s9)) .nil)), (okTo_hand _ _).shaped (by decide), (okTo_hand _ _).shaped (by decide), ?_⟩
    rw [eqv_hand]
    exact q _
  · refine ⟨_, rfl, .inl ⟨_, net, rfl, rN3.mono s4, n8, fun D5 H5 s5 rD5 => ⟨_, rfl, .inr ⟨_, p, rfl, rP3.mono (s4.trans s5), by omega, fun pC ad H6 B6 => ⟨(by decide : 2 ≤ sizeLine), fun l7 hl7 => ?_⟩⟩⟩⟩⟩
    have s7 := same_upd hl7 (HO.lst [.ref D5, .ref pC])
    have e7 : (upd H6 l7 (.lst [.ref D5, .ref pC])) l7 = some (.lst [.ref D5, .ref pC]) := upd_same
    have h57 : H5 l7 = none := B6.keep.free hl7
    have B7 := B6.more s7
    have n7a : l7 ∉ ad := fun z => by
      obtain ⟨zs, ez⟩ := B6.there z
      rw [hl7] at ez
      cases ez
    generalize upd H6 l7 (.lst [.ref D5, .ref pC]) = H7 at e7 B7 ⊢
    clear s7 B6 hl7
    have k35 := s4.trans s5
    have rN5 := rN3.mono k35
    have rP5 := rP3.mono k35
    have rL5 := rL3.mono k35
    refine ⟨_, rfl, _, rfl, ?_⟩
    refine ⟨_, rfl, .inl ⟨l7, _, 0, _, rfl, rfl, SqL.of e7, atI0 _ _, _, rfl, .inl ⟨l7, _, 1, _, rfl, rfl, SqL.of e7, atI1 _ _ _, ?_⟩⟩⟩
    refine ⟨_, _, net, p, q', rs, rfl, rD5.mono B7.keep, B7.rings, okp, by omega, pops, he, .inr ⟨nb, fun rF H8 s8 hrF erF => ?_⟩⟩
    refine ⟨_, rfl, _, q', rfl, rL5.mono (B7.keep.trans s8), by omega, fun l hl => by have := mem_size hl; have := okq.few; omega, fun rD H9 s9 hrD erD => ?_⟩
    have B9 := B7.more (s8.trans s9)
    have e79 := (s8.trans s9) _ _ e7
    have eF9 := s9 _ _ erF
    have nFa : rF ∉ ad := fun z => by
      obtain ⟨zs, ez⟩ := B7.there z
      rw [hrF] at ez
      cases ez
    have nDa : rD ∉ ad := fun z => by
      obtain ⟨zs, ez⟩ := (B7.more s8).there z
      rw [hrD] at ez
      cases ez
    have n7F : l7 ≠ rF := ne_of_none e7 hrF
    have nFD : rF ≠ rD := ne_of_none erF hrD
    have h5F : H5 rF = none := B7.keep.free hrF
    generalize hH9 : H9 = G9 at B9 e79 eF9 erD ⊢
    clear hH9 s9 hrD s8 hrF erF B7 e7
    have tl : (topsN q').length = q'.length := topsN_len q'
    refine ⟨_, rfl, _, rfl, _, _, topsN q', rfl, opts_rep eF9, opts_rep erD, by omega, fun H10 s10 => ⟨_, rfl, ?_⟩⟩
    refine ⟨_, rfl, _, rfl, _, rfl, (by decide : 2 ≤ sizeLine), fun l11 hl11 => ?_⟩
    have s11 := s10.trans (same_upd hl11 (HO.lst [.ref pN, .ref pP]))
    have B11 := B9.more s11
    refine ⟨handD net p, handD net p, .lst (s11 _ _ e79) (.cons (rD5.mono B11.keep) (.cons B11.rings .nil)), .lst upd_same (.cons (rN5.mono B11.keep) (.cons (rP5.mono B11.keep) .nil)), (okTo_hand _ _).shaped (by decide), (okTo_hand _ _).shaped (by decide), _, rfl, ?_⟩
    rw [eqv_hand]
    have e7b := s11 _ _ e79
    have eFb := s11 _ _ eF9
    have eDb := s11 _ _ erD
    generalize upd H10 l11 (.lst [.ref pN, .ref pP]) = H11 at B11 e7b eFb eDb ⊢
    refine ⟨_, rfl, .inl ⟨l7, _, 1, _, rfl, rfl, SqL.of e7b, atI1 _ _ _, pC, rfl, ⟨_, SqL.of B11.at'⟩, for_list (K := K) (xs := ad.map V.ref) (fun i σ' H' => ∃ c10 : Option V, σ' = [some (.ref a), some (.int n), some (.ref pN), some (.ref pT), some (.ref pP), some (.ref pL), some .non, some (.ref l7), some (.ref rF), some (.ref rD), c10] ∧ Same H5 H' ∧ H' l7 = some (.lst [.ref D5, .ref pC]) ∧ H' pC = some (.lst (ad.map V.ref)) ∧ H' rF = some (.lst ((topsN q').map optV)) ∧ H' rD = some (.lst ((topsN q').map optV)) ∧ ∀ b ∈ ad, ∃ zs, H' b = some (.lst zs))
      ⟨none, rfl, B11.keep, e7b, B11.at', eFb, eDb, fun b hb => B11.there hb⟩ (fun i σ' H' _ ⟨_, _, _, _, e, _⟩ => SqL.of e) ?_ ?_⟩⟩
    · rintro i x σ' H' hx ⟨c10, rfl, g5, g7, gC, gF, gD, ga⟩
      obtain ⟨b, hb, rfl⟩ : ∃ b, b ∈ ad ∧ x = V.ref b := by
        have := List.mem_of_getElem? hx
        obtain ⟨b, hb, e⟩ := List.mem_map.mp this
        exact ⟨b, hb, e.symm⟩
      obtain ⟨zs, ez⟩ := ga b hb
      refine ⟨_, rfl, .inl ⟨rfl, _, SqL.of ez⟩, b, zs, rfl, rfl, ez, _, rfl, fun c u e => ?_, ?_, ?_, ?_, ?_, fun c hc => ?_⟩
      · rw [upd_ne (ne_of_none e (B11.hn b hb))]; exact g5 c u e
      · rw [upd_ne (fun z : l7 = b => n7a (z ▸ hb))]; exact g7
      · rw [upd_ne (fun z : pC = b => B11.np (z ▸ hb))]; exact gC
      · rw [upd_ne (fun z : rF = b => nFa (z ▸ hb))]; exact gF
      · rw [upd_ne (fun z : rD = b => nDa (z ▸ hb))]; exact gD
      · by_cases hcb : c = b
        · subst hcb; exact ⟨_, upd_same⟩
        · rw [upd_ne hcb]; exact ga c hc
    · rintro σ' H' ⟨c10, rfl, g5, g7, _, gF, gD, _⟩
      refine ⟨_, rfl, _, rfl, _, _, opts_rep gF, opts_rep gD, (okTo_opts _).shaped (by decide), (okTo_opts _).shaped (by decide), _, rfl, ?_⟩
      rw [eqv_opts, decide_eq_true rfl]
      refine ⟨_, rfl, .inl ⟨rfl, _, SqL.of gF⟩, rF, _, rfl, rfl, gF, ?_⟩
      have k5 : Same H5 (upd H' rF (.lst [])) := fun c u e => by rw [upd_ne (ne_of_none e h5F)]; exact g5 c u e
      have k7 : (upd H' rF (.lst [])) l7 = some (.lst [.ref D5, .ref pC]) := by rw [upd_ne n7F]; exact g7
      have kD : (upd H' rF (.lst [])) rD = some (.lst ((topsN q').map optV)) := by rw [upd_ne (Ne.symm nFD)]; exact gD
      generalize upd H' rF (.lst []) = H12 at k5 k7 kD ⊢
      refine ⟨_, rfl, .inl ⟨l7, _, 0, _, rfl, rfl, SqL.of k7, atI0 _ _, _, rfl, ?_⟩⟩
      refine ⟨_, _, net, p, q', rs, rfl, rD5.mono k5, rP5.mono k5, okp, by omega, pops, he, .inr ⟨nb, fun rG H13 s13 hrG erG => ?_⟩⟩
      exact ⟨_, rfl, _, _, topsN q', rfl, opts_rep erG, opts_rep (s13 _ _ kD), by omega, fun H14 s14 => q _⟩
end
theorem law_all {P : Program} {w : World} {K : PySem.W.Frag} {mg : Str → Option Value} {base : Heap} {f : Addr} {fd : FuncData} (T : Txt mg) (U : Cls K mg) (m_RanOut___init__ : IHere K mg "RanOut" U.a_RanOut "RanOut.__init__" s_RanOut___init__ ["self", "place"])
    (h_way_along : Here K mg "way_along" s_way_along ["ends", "place"]) (h_copied : Here K mg "copied" s_copied ["piles"]) (h_tops_of : Here K mg "tops_of" s_tops_of ["piles"]) (h_rings_of : Here K mg "rings_of" s_rings_of ["tops"]) (h_without_tops : Here K mg "without_tops" s_without_tops ["piles", "places"]) (h_top_rings : Here K mg "top_rings" s_top_rings ["piles"]) (h_number_at : Here K mg "number_at" s_number_at ["order", "turn"]) (h_pop_out : HereD K mg "pop_out" s_pop_out ["piles", "order"] [.none]) (h_tree_on : Here K mg "tree_on" s_tree_on ["net", "rest"]) (h_left_tree : Here K mg "left_tree" s_left_tree ["net", "piles"]) (h__law_fold : Here K mg "_law_fold" s__law_fold ["_law_script", "_law_number"]) (h__law_next : Here K mg "_law_next" s__law_next ["_law_number"]) (h__law_whole : Here K mg "_law_whole" s__law_whole ["_law_found"]) (h__law_turned : Here K mg "_law_turned" s__law_turned ["_law_number", "_law_many"]) (h__law_grown : Here K mg "_law_grown" s__law_grown ["_law_number", "_law_order", "_law_roots"]) (h__law_hung : Here K mg "_law_hung" s__law_hung ["_law_number", "_law_most"]) (h__law_copy : Here K mg "_law_copy" s__law_copy ["_law_net"]) (h__law_alone : Here K mg "_law_alone" s__law_alone ["_law_error"]) (h__law_piled : Here K mg "_law_piled" s__law_piled ["_law_script", "_law_net", "_law_tree", "_law_number"]) (h__law_popped : Here K mg "_law_popped" s__law_popped ["_law_piles"]) (h__law_bare : Here K mg "_law_bare" s__law_bare ["_law_net", "_law_left"]) (h__law_tops : Here K mg "_law_tops" s__law_tops ["_law_left"]) (h__law_alike : Here K mg "_law_alike" s__law_alike ["_law_found", "_law_due"]) (h__law_ran_out : Here K mg "_law_ran_out" s__law_ran_out ["_law_net", "_law_piles", "_law_place"])
    (F : Fun K "law" "law" s_law f fd) : FnOk P w K mg base CX0 7 f fd ["_law_script"] (spLaw K) := by
  have nx := def__law_next (P := P) (w := w) (base := base) T h__law_next
  have wh := def__law_whole (P := P) (w := w) (base := base) T h__law_whole
  have way := def_way_along (P := P) (w := w) (base := base) T h_way_along
  have tops := def_tops_of (P := P) (w := w) (base := base) T h_tops_of
  have po := def_pop_out (P := P) (w := w) (base := base) T (def_copied T h_copied) (def_top_rings T (def_rings_of T way h_rings_of) tops h_top_rings) (def_number_at T h_number_at) (def_without_tops T h_without_tops) h_pop_out
  have lt := def_left_tree (P := P) (w := w) (base := base) T U po.2 (def_tree_on T U tops (def_RanOut___init__ T U m_RanOut___init__) h_tree_on) h_left_tree
  exact ok_law F T U (def__law_fold T h__law_fold) (def__law_hung T nx (def__law_turned T nx h__law_turned) (def__law_grown T nx h__law_grown) h__law_hung) (def__law_piled T h__law_piled) (def__law_popped T h__law_popped) (def__law_bare T h__law_bare) (def__law_copy T h__law_copy)
    (def__law_ran_out T U lt wh (def__law_alone T U h__law_alone) h__law_ran_out) lt (def__law_tops T h__law_tops) (def__law_alike T wh h__law_alike)
theorem all_mk {l : PySem.W.OpenLaw} {w : World} {K : PySem.W.Frag} {h : Heap} {mg : Str → Option Value} {fa f0 f1 f2 f3 f4 f5 f6 f7 f8 f9 f10 f11 f12 f13 f14 f15 f16 f17 f18 f19 f20 f21 f22 f23 f24 : Addr} (X : K.In h) (G : h.Ns mainGlobals mg) (hfa : mg "law" = some (.ref fa))
    {od0 an0 : Option Addr} {sl0 : Array (Option Value)} {oc0 kV0 dc0 pm0 cd0 ct0 : Value}
    (a0 : PySem.W.nsIn K mainGlobals "way_along" = some (some (.ref f0))) (l0 : K.lookup f0 = some ⟨oc0, od0, .func (PySem.W.fnOf "way_along" "way_along" (defArgs s_way_along) (defBody s_way_along) (defScope s_way_along) (.none) kV0 dc0 pm0 an0 cd0 ct0), sl0⟩) (c0 : PySem.W.codeIn K cd0 "way_along" = true) (k0 : PySem.W.keepIn K (.ref f0) = true)
    {od1 an1 : Option Addr} {sl1 : Array (Option Value)} {oc1 kV1 dc1 pm1 cd1 ct1 : Value}
    (a1 : PySem.W.nsIn K mainGlobals "copied" = some (some (.ref f1))) (l1 : K.lookup f1 = some ⟨oc1, od1, .func (PySem.W.fnOf "copied" "copied" (defArgs s_copied) (defBody s_copied) (defScope s_copied) (.none) kV1 dc1 pm1 an1 cd1 ct1), sl1⟩) (c1 : PySem.W.codeIn K cd1 "copied" = true) (k1 : PySem.W.keepIn K (.ref f1) = true)
    {od2 an2 : Option Addr} {sl2 : Array (Option Value)} {oc2 kV2 dc2 pm2 cd2 ct2 : Value}
    (a2 : PySem.W.nsIn K mainGlobals "tops_of" = some (some (.ref f2))) (l2 : K.lookup f2 = some ⟨oc2, od2, .func (PySem.W.fnOf "tops_of" "tops_of" (defArgs s_tops_of) (defBody s_tops_of) (defScope s_tops_of) (.none) kV2 dc2 pm2 an2 cd2 ct2), sl2⟩) (c2 : PySem.W.codeIn K cd2 "tops_of" = true) (k2 : PySem.W.keepIn K (.ref f2) = true)
    {od3 an3 : Option Addr} {sl3 : Array (Option Value)} {oc3 kV3 dc3 pm3 cd3 ct3 : Value}
    (a3 : PySem.W.nsIn K mainGlobals "rings_of" = some (some (.ref f3))) (l3 : K.lookup f3 = some ⟨oc3, od3, .func (PySem.W.fnOf "rings_of" "rings_of" (defArgs s_rings_of) (defBody s_rings_of) (defScope s_rings_of) (.none) kV3 dc3 pm3 an3 cd3 ct3), sl3⟩) (c3 : PySem.W.codeIn K cd3 "rings_of" = true) (k3 : PySem.W.keepIn K (.ref f3) = true)
    {od4 an4 : Option Addr} {sl4 : Array (Option Value)} {oc4 kV4 dc4 pm4 cd4 ct4 : Value}
    (a4 : PySem.W.nsIn K mainGlobals "without_tops" = some (some (.ref f4))) (l4 : K.lookup f4 = some ⟨oc4, od4, .func (PySem.W.fnOf "without_tops" "without_tops" (defArgs s_without_tops) (defBody s_without_tops) (defScope s_without_tops) (.none) kV4 dc4 pm4 an4 cd4 ct4), sl4⟩) (c4 : PySem.W.codeIn K cd4 "without_tops" = true) (k4 : PySem.W.keepIn K (.ref f4) = true)
    {od5 an5 : Option Addr} {sl5 : Array (Option Value)} {oc5 kV5 dc5 pm5 cd5 ct5 : Value}
    (a5 : PySem.W.nsIn K mainGlobals "top_rings" = some (some (.ref f5))) (l5 : K.lookup f5 = some ⟨oc5, od5, .func (PySem.W.fnOf "top_rings" "top_rings" (defArgs s_top_rings) (defBody s_top_rings) (defScope s_top_rings) (.none) kV5 dc5 pm5 an5 cd5 ct5), sl5⟩) (c5 : PySem.W.codeIn K cd5 "top_rings" = true) (k5 : PySem.W.keepIn K (.ref f5) = true)
    {od6 an6 : Option Addr} {sl6 : Array (Option Value)} {oc6 kV6 dc6 pm6 cd6 ct6 : Value}
    (a6 : PySem.W.nsIn K mainGlobals "number_at" = some (some (.ref f6))) (l6 : K.lookup f6 = some ⟨oc6, od6, .func (PySem.W.fnOf "number_at" "number_at" (defArgs s_number_at) (defBody s_number_at) (defScope s_number_at) (.none) kV6 dc6 pm6 an6 cd6 ct6), sl6⟩) (c6 : PySem.W.codeIn K cd6 "number_at" = true) (k6 : PySem.W.keepIn K (.ref f6) = true)
    {od7 an7 : Option Addr} {sl7 : Array (Option Value)} {oc7 kV7 dc7 pm7 cd7 ct7 : Value}
    {da7 : Addr} {dn7 : Nat} {dsl7 : Array (Option Value)}
    (a7 : PySem.W.nsIn K mainGlobals "pop_out" = some (some (.ref f7))) (l7 : K.lookup f7 = some ⟨oc7, od7, .func (PySem.W.fnOf "pop_out" "pop_out" (defArgs s_pop_out) (defBody s_pop_out) (defScope s_pop_out) (.ref da7) kV7 dc7 pm7 an7 cd7 ct7), sl7⟩) (c7 : PySem.W.codeIn K cd7 "pop_out" = true) (k7 : PySem.W.keepIn K (.ref f7) = true)
    (d7 : K.lookup da7 = some ⟨.type "tuple", none, .seq #[.none] dn7, dsl7⟩)
    {od8 an8 : Option Addr} {sl8 : Array (Option Value)} {oc8 kV8 dc8 pm8 cd8 ct8 : Value}
    (a8 : PySem.W.nsIn K mainGlobals "tree_on" = some (some (.ref f8))) (l8 : K.lookup f8 = some ⟨oc8, od8, .func (PySem.W.fnOf "tree_on" "tree_on" (defArgs s_tree_on) (defBody s_tree_on) (defScope s_tree_on) (.none) kV8 dc8 pm8 an8 cd8 ct8), sl8⟩) (c8 : PySem.W.codeIn K cd8 "tree_on" = true) (k8 : PySem.W.keepIn K (.ref f8) = true)
    {od9 an9 : Option Addr} {sl9 : Array (Option Value)} {oc9 kV9 dc9 pm9 cd9 ct9 : Value}
    (a9 : PySem.W.nsIn K mainGlobals "left_tree" = some (some (.ref f9))) (l9 : K.lookup f9 = some ⟨oc9, od9, .func (PySem.W.fnOf "left_tree" "left_tree" (defArgs s_left_tree) (defBody s_left_tree) (defScope s_left_tree) (.none) kV9 dc9 pm9 an9 cd9 ct9), sl9⟩) (c9 : PySem.W.codeIn K cd9 "left_tree" = true) (k9 : PySem.W.keepIn K (.ref f9) = true)
    {od10 an10 : Option Addr} {sl10 : Array (Option Value)} {oc10 kV10 dc10 pm10 cd10 ct10 : Value}
    (a10 : PySem.W.nsIn K mainGlobals "_law_fold" = some (some (.ref f10))) (l10 : K.lookup f10 = some ⟨oc10, od10, .func (PySem.W.fnOf "_law_fold" "_law_fold" (defArgs s__law_fold) (defBody s__law_fold) (defScope s__law_fold) (.none) kV10 dc10 pm10 an10 cd10 ct10), sl10⟩) (c10 : PySem.W.codeIn K cd10 "_law_fold" = true) (k10 : PySem.W.keepIn K (.ref f10) = true)
    {od11 an11 : Option Addr} {sl11 : Array (Option Value)} {oc11 kV11 dc11 pm11 cd11 ct11 : Value}
    (a11 : PySem.W.nsIn K mainGlobals "_law_next" = some (some (.ref f11))) (l11 : K.lookup f11 = some ⟨oc11, od11, .func (PySem.W.fnOf "_law_next" "_law_next" (defArgs s__law_next) (defBody s__law_next) (defScope s__law_next) (.none) kV11 dc11 pm11 an11 cd11 ct11), sl11⟩) (c11 : PySem.W.codeIn K cd11 "_law_next" = true) (k11 : PySem.W.keepIn K (.ref f11) = true)
    {od12 an12 : Option Addr} {sl12 : Array (Option Value)} {oc12 kV12 dc12 pm12 cd12 ct12 : Value}
    (a12 : PySem.W.nsIn K mainGlobals "_law_whole" = some (some (.ref f12))) (l12 : K.lookup f12 = some ⟨oc12, od12, .func (PySem.W.fnOf "_law_whole" "_law_whole" (defArgs s__law_whole) (defBody s__law_whole) (defScope s__law_whole) (.none) kV12 dc12 pm12 an12 cd12 ct12), sl12⟩) (c12 : PySem.W.codeIn K cd12 "_law_whole" = true) (k12 : PySem.W.keepIn K (.ref f12) = true)
    {od13 an13 : Option Addr} {sl13 : Array (Option Value)} {oc13 kV13 dc13 pm13 cd13 ct13 : Value}
    (a13 : PySem.W.nsIn K mainGlobals "_law_turned" = some (some (.ref f13))) (l13 : K.lookup f13 = some ⟨oc13, od13, .func (PySem.W.fnOf "_law_turned" "_law_turned" (defArgs s__law_turned) (defBody s__law_turned) (defScope s__law_turned) (.none) kV13 dc13 pm13 an13 cd13 ct13), sl13⟩) (c13 : PySem.W.codeIn K cd13 "_law_turned" = true) (k13 : PySem.W.keepIn K (.ref f13) = true)
    {od14 an14 : Option Addr} {sl14 : Array (Option Value)} {oc14 kV14 dc14 pm14 cd14 ct14 : Value}
    (a14 : PySem.W.nsIn K mainGlobals "_law_grown" = some (some (.ref f14))) (l14 : K.lookup f14 = some ⟨oc14, od14, .func (PySem.W.fnOf "_law_grown" "_law_grown" (defArgs s__law_grown) (defBody s__law_grown) (defScope s__law_grown) (.none) kV14 dc14 pm14 an14 cd14 ct14), sl14⟩) (c14 : PySem.W.codeIn K cd14 "_law_grown" = true) (k14 : PySem.W.keepIn K (.ref f14) = true)
    {od15 an15 : Option Addr} {sl15 : Array (Option Value)} {oc15 kV15 dc15 pm15 cd15 ct15 : Value}
    (a15 : PySem.W.nsIn K mainGlobals "_law_hung" = some (some (.ref f15))) (l15 : K.lookup f15 = some ⟨oc15, od15, .func (PySem.W.fnOf "_law_hung" "_law_hung" (defArgs s__law_hung) (defBody s__law_hung) (defScope s__law_hung) (.none) kV15 dc15 pm15 an15 cd15 ct15), sl15⟩) (c15 : PySem.W.codeIn K cd15 "_law_hung" = true) (k15 : PySem.W.keepIn K (.ref f15) = true)
    {od16 an16 : Option Addr} {sl16 : Array (Option Value)} {oc16 kV16 dc16 pm16 cd16 ct16 : Value}
    (a16 : PySem.W.nsIn K mainGlobals "_law_copy" = some (some (.ref f16))) (l16 : K.lookup f16 = some ⟨oc16, od16, .func (PySem.W.fnOf "_law_copy" "_law_copy" (defArgs s__law_copy) (defBody s__law_copy) (defScope s__law_copy) (.none) kV16 dc16 pm16 an16 cd16 ct16), sl16⟩) (c16 : PySem.W.codeIn K cd16 "_law_copy" = true) (k16 : PySem.W.keepIn K (.ref f16) = true)
    {od17 an17 : Option Addr} {sl17 : Array (Option Value)} {oc17 kV17 dc17 pm17 cd17 ct17 : Value}
    (a17 : PySem.W.nsIn K mainGlobals "_law_alone" = some (some (.ref f17))) (l17 : K.lookup f17 = some ⟨oc17, od17, .func (PySem.W.fnOf "_law_alone" "_law_alone" (defArgs s__law_alone) (defBody s__law_alone) (defScope s__law_alone) (.none) kV17 dc17 pm17 an17 cd17 ct17), sl17⟩) (c17 : PySem.W.codeIn K cd17 "_law_alone" = true) (k17 : PySem.W.keepIn K (.ref f17) = true)
    {od18 an18 : Option Addr} {sl18 : Array (Option Value)} {oc18 kV18 dc18 pm18 cd18 ct18 : Value}
    (a18 : PySem.W.nsIn K mainGlobals "_law_piled" = some (some (.ref f18))) (l18 : K.lookup f18 = some ⟨oc18, od18, .func (PySem.W.fnOf "_law_piled" "_law_piled" (defArgs s__law_piled) (defBody s__law_piled) (defScope s__law_piled) (.none) kV18 dc18 pm18 an18 cd18 ct18), sl18⟩) (c18 : PySem.W.codeIn K cd18 "_law_piled" = true) (k18 : PySem.W.keepIn K (.ref f18) = true)
    {od19 an19 : Option Addr} {sl19 : Array (Option Value)} {oc19 kV19 dc19 pm19 cd19 ct19 : Value}
    (a19 : PySem.W.nsIn K mainGlobals "_law_popped" = some (some (.ref f19))) (l19 : K.lookup f19 = some ⟨oc19, od19, .func (PySem.W.fnOf "_law_popped" "_law_popped" (defArgs s__law_popped) (defBody s__law_popped) (defScope s__law_popped) (.none) kV19 dc19 pm19 an19 cd19 ct19), sl19⟩) (c19 : PySem.W.codeIn K cd19 "_law_popped" = true) (k19 : PySem.W.keepIn K (.ref f19) = true)
    {od20 an20 : Option Addr} {sl20 : Array (Option Value)} {oc20 kV20 dc20 pm20 cd20 ct20 : Value}
    (a20 : PySem.W.nsIn K mainGlobals "_law_bare" = some (some (.ref f20))) (l20 : K.lookup f20 = some ⟨oc20, od20, .func (PySem.W.fnOf "_law_bare" "_law_bare" (defArgs s__law_bare) (defBody s__law_bare) (defScope s__law_bare) (.none) kV20 dc20 pm20 an20 cd20 ct20), sl20⟩) (c20 : PySem.W.codeIn K cd20 "_law_bare" = true) (k20 : PySem.W.keepIn K (.ref f20) = true)
    {od21 an21 : Option Addr} {sl21 : Array (Option Value)} {oc21 kV21 dc21 pm21 cd21 ct21 : Value}
    (a21 : PySem.W.nsIn K mainGlobals "_law_tops" = some (some (.ref f21))) (l21 : K.lookup f21 = some ⟨oc21, od21, .func (PySem.W.fnOf "_law_tops" "_law_tops" (defArgs s__law_tops) (defBody s__law_tops) (defScope s__law_tops) (.none) kV21 dc21 pm21 an21 cd21 ct21), sl21⟩) (c21 : PySem.W.codeIn K cd21 "_law_tops" = true) (k21 : PySem.W.keepIn K (.ref f21) = true)
    {od22 an22 : Option Addr} {sl22 : Array (Option Value)} {oc22 kV22 dc22 pm22 cd22 ct22 : Value}
    (a22 : PySem.W.nsIn K mainGlobals "_law_alike" = some (some (.ref f22))) (l22 : K.lookup f22 = some ⟨oc22, od22, .func (PySem.W.fnOf "_law_alike" "_law_alike" (defArgs s__law_alike) (defBody s__law_alike) (defScope s__law_alike) (.none) kV22 dc22 pm22 an22 cd22 ct22), sl22⟩) (c22 : PySem.W.codeIn K cd22 "_law_alike" = true) (k22 : PySem.W.keepIn K (.ref f22) = true)
    {od23 an23 : Option Addr} {sl23 : Array (Option Value)} {oc23 kV23 dc23 pm23 cd23 ct23 : Value}
    (a23 : PySem.W.nsIn K mainGlobals "_law_ran_out" = some (some (.ref f23))) (l23 : K.lookup f23 = some ⟨oc23, od23, .func (PySem.W.fnOf "_law_ran_out" "_law_ran_out" (defArgs s__law_ran_out) (defBody s__law_ran_out) (defScope s__law_ran_out) (.none) kV23 dc23 pm23 an23 cd23 ct23), sl23⟩) (c23 : PySem.W.codeIn K cd23 "_law_ran_out" = true) (k23 : PySem.W.keepIn K (.ref f23) = true)
    {od24 an24 : Option Addr} {sl24 : Array (Option Value)} {oc24 kV24 dc24 pm24 cd24 ct24 : Value}
    (a24 : PySem.W.nsIn K mainGlobals "law" = some (some (.ref f24))) (l24 : K.lookup f24 = some ⟨oc24, od24, .func (PySem.W.fnOf "law" "law" (defArgs s_law) (defBody s_law) (defScope s_law) (.none) kV24 dc24 pm24 an24 cd24 ct24), sl24⟩) (c24 : PySem.W.codeIn K cd24 "law" = true) (k24 : PySem.W.keepIn K (.ref f24) = true)
    (z_ValueError : PySem.W.nsIn K mainGlobals "ValueError" = some none)
    (z_bool : PySem.W.nsIn K mainGlobals "bool" = some none)
    (z_enumerate : PySem.W.nsIn K mainGlobals "enumerate" = some none)
    (z_int : PySem.W.nsIn K mainGlobals "int" = some none)
    (z_isinstance : PySem.W.nsIn K mainGlobals "isinstance" = some none)
    (z_len : PySem.W.nsIn K mainGlobals "len" = some none)
    (z_list : PySem.W.nsIn K mainGlobals "list" = some none)
    (z_min : PySem.W.nsIn K mainGlobals "min" = some none)
    (z_range : PySem.W.nsIn K mainGlobals "range" = some none)
    {c_RingError c_NoNet c_NoTree c_NoPiles c_NoRing c_NoPlace c_NoNumber c_NoArrow c_MakesRing c_RanOut c_TooGreat c_NoText : Addr}
    {x_nm_RanOut x_qn_RanOut : Str} {x_nsp_RanOut x_f_RanOut : Addr} {x_bs_RanOut x_bm_RanOut x_sub_RanOut : List Value} {x_hdc_RanOut x_ab_RanOut : Bool} {x_sn_RanOut : List Str} {x_col_RanOut : Option Bool} {x_dd_RanOut x_od_RanOut x_an_RanOut : Option Addr} {x_k0_RanOut x_k1_RanOut x_k2_RanOut x_k3_RanOut x_k5_RanOut : Option Value} {x_sl_RanOut : Array (Option Value)} {x_kV_RanOut x_dc_RanOut x_pm_RanOut x_cd_RanOut x_ct_RanOut : Value}
    (ca_RingError : PySem.W.nsIn K mainGlobals "RingError" = some (some (.ref c_RingError)))
    (ca_NoNet : PySem.W.nsIn K mainGlobals "NoNet" = some (some (.ref c_NoNet)))
    (ca_NoTree : PySem.W.nsIn K mainGlobals "NoTree" = some (some (.ref c_NoTree)))
    (ca_NoPiles : PySem.W.nsIn K mainGlobals "NoPiles" = some (some (.ref c_NoPiles)))
    (ca_NoRing : PySem.W.nsIn K mainGlobals "NoRing" = some (some (.ref c_NoRing)))
    (ca_NoPlace : PySem.W.nsIn K mainGlobals "NoPlace" = some (some (.ref c_NoPlace)))
    (ca_NoNumber : PySem.W.nsIn K mainGlobals "NoNumber" = some (some (.ref c_NoNumber)))
    (ca_NoArrow : PySem.W.nsIn K mainGlobals "NoArrow" = some (some (.ref c_NoArrow)))
    (ca_MakesRing : PySem.W.nsIn K mainGlobals "MakesRing" = some (some (.ref c_MakesRing)))
    (ca_RanOut : PySem.W.nsIn K mainGlobals "RanOut" = some (some (.ref c_RanOut)))
    (ca_TooGreat : PySem.W.nsIn K mainGlobals "TooGreat" = some (some (.ref c_TooGreat)))
    (ca_NoText : PySem.W.nsIn K mainGlobals "NoText" = some (some (.ref c_NoText)))
    (cgs : PySem.W.specialIn K (.builtin "object.__class__") "__get__" = some (some (.builtin "getset_descriptor.__get__")))
    (ctk : PySem.W.takesIn K (.builtin "object.__class__") = some true)
    (cx_RingError : PySem.W.excIn K c_RingError [.type "ValueError", .type "Exception", .type "BaseException", .type "object"] "ValueError.__new__" = true)
    (cga_RingError : PySem.W.findIn K (.ref c_RingError) "__getattribute__" = some (some (.builtin "BaseException.__getattribute__")))
    (cgt_RingError : PySem.W.findIn K (.ref c_RingError) "__getattr__" = some none)
    (ccl_RingError : PySem.W.findIn K (.ref c_RingError) "__class__" = some (some (.builtin "object.__class__")))
    (cmo_RingError : PySem.W.mroIn K c_RingError (.type "object") = some true)
    (cmb_RingError : PySem.W.mroIn K c_RingError (.type "BaseException") = some true)
    (cis_RingError : PySem.W.isClsIn K c_RingError = true)
    (cga_RanOut : PySem.W.findIn K (.ref c_RanOut) "__getattribute__" = some (some (.builtin "BaseException.__getattribute__")))
    (cgt_RanOut : PySem.W.findIn K (.ref c_RanOut) "__getattr__" = some none)
    (ccl_RanOut : PySem.W.findIn K (.ref c_RanOut) "__class__" = some (some (.builtin "object.__class__")))
    (cmo_RanOut : PySem.W.mroIn K c_RanOut (.type "object") = some true)
    (cmb_RanOut : PySem.W.mroIn K c_RanOut (.type "BaseException") = some true)
    (cis_RanOut : PySem.W.isClsIn K c_RanOut = true)
    (xl_RanOut : K.lookup c_RanOut = some (excClassObj x_nm_RanOut x_qn_RanOut c_RanOut x_nsp_RanOut x_bs_RanOut x_bm_RanOut x_hdc_RanOut x_sn_RanOut x_sub_RanOut x_ab_RanOut x_col_RanOut x_dd_RanOut x_k0_RanOut x_k1_RanOut x_k2_RanOut x_k3_RanOut x_k5_RanOut "ValueError.__new__"))
    (xt_RanOut : PySem.W.tailIn K [.type "ValueError", .type "Exception", .type "BaseException", .type "object"] x_bm_RanOut = true)
    (xn_RanOut : PySem.W.nsOkIn K x_nsp_RanOut = true)
    (xi_RanOut : PySem.W.nsIn K x_nsp_RanOut "__init__" = some (some (.ref x_f_RanOut)))
    (xf_RanOut : K.lookup x_f_RanOut = some ⟨.type "function", x_od_RanOut, .func (PySem.W.fnOf "__init__" "RanOut.__init__" (defArgs s_RanOut___init__) (defBody s_RanOut___init__) (defScope s_RanOut___init__) .none x_kV_RanOut x_dc_RanOut x_pm_RanOut x_an_RanOut x_cd_RanOut x_ct_RanOut), x_sl_RanOut⟩)
    (xc_RanOut : PySem.W.codeIn K x_cd_RanOut "RanOut.__init__" = true)
    (xk_RanOut : PySem.W.keepIn K (.ref x_f_RanOut) = true)
    (xp_RanOut : PySem.W.keepIn K (.ref c_RanOut) = true)
    (xs_RanOut : PySem.W.findIn K (.ref c_RanOut) "__setattr__" = some (some (.builtin "object.__setattr__")))
    (xo_RanOut : PySem.W.errOver K c_RanOut = true)
    (xh_RanOut : PySem.W.hasDictIn K c_RanOut = true)
    (xa_RanOut_place : PySem.W.findIn K (.ref c_RanOut) "place" = some none)
    (xg_RingError : PySem.W.specialIn K (.ref c_RingError) "__getattribute__" = some (some (.builtin "type.__getattribute__")))
    (xr_RingError : PySem.W.readsIn K c_RingError (.type "type") = true)
    (xv_RingError : PySem.W.findCls K (.ref c_RingError) (.type "type") "__init__" = some (.val (.builtin "ValueError.__init__")))
    (cs_RanOut : PySem.W.mroIn K c_RanOut (.ref c_RanOut) = some true)
    (cv_RanOut : PySem.W.mroIn K c_RanOut (.type "ValueError") = some true)
    (cu_RanOut_RingError : PySem.W.mroIn K c_RanOut (.ref c_RingError) = some true)
    (cn_RanOut_NoNet : PySem.W.mroIn K c_RanOut (.ref c_NoNet) = some false)
    (cn_RanOut_NoTree : PySem.W.mroIn K c_RanOut (.ref c_NoTree) = some false)
    (cn_RanOut_NoPiles : PySem.W.mroIn K c_RanOut (.ref c_NoPiles) = some false)
    (cn_RanOut_NoRing : PySem.W.mroIn K c_RanOut (.ref c_NoRing) = some false)
    (cn_RanOut_NoPlace : PySem.W.mroIn K c_RanOut (.ref c_NoPlace) = some false)
    (cn_RanOut_NoNumber : PySem.W.mroIn K c_RanOut (.ref c_NoNumber) = some false)
    (cn_RanOut_NoArrow : PySem.W.mroIn K c_RanOut (.ref c_NoArrow) = some false)
    (cn_RanOut_MakesRing : PySem.W.mroIn K c_RanOut (.ref c_MakesRing) = some false)
    (cn_RanOut_TooGreat : PySem.W.mroIn K c_RanOut (.ref c_TooGreat) = some false)
    (cn_RanOut_NoText : PySem.W.mroIn K c_RanOut (.ref c_NoText) = some false)
    (ci_NoNet : PySem.W.isClsIn K c_NoNet = true)
    (ct_NoNet : PySem.W.typeIn K (.ref c_NoNet) = some (.type "type"))
    (ci_NoTree : PySem.W.isClsIn K c_NoTree = true)
    (ct_NoTree : PySem.W.typeIn K (.ref c_NoTree) = some (.type "type"))
    (ci_NoPiles : PySem.W.isClsIn K c_NoPiles = true)
    (ct_NoPiles : PySem.W.typeIn K (.ref c_NoPiles) = some (.type "type"))
    (ci_NoRing : PySem.W.isClsIn K c_NoRing = true)
    (ct_NoRing : PySem.W.typeIn K (.ref c_NoRing) = some (.type "type"))
    (ci_NoPlace : PySem.W.isClsIn K c_NoPlace = true)
    (ct_NoPlace : PySem.W.typeIn K (.ref c_NoPlace) = some (.type "type"))
    (ci_NoNumber : PySem.W.isClsIn K c_NoNumber = true)
    (ct_NoNumber : PySem.W.typeIn K (.ref c_NoNumber) = some (.type "type"))
    (ci_NoArrow : PySem.W.isClsIn K c_NoArrow = true)
    (ct_NoArrow : PySem.W.typeIn K (.ref c_NoArrow) = some (.type "type"))
    (ci_MakesRing : PySem.W.isClsIn K c_MakesRing = true)
    (ct_MakesRing : PySem.W.typeIn K (.ref c_MakesRing) = some (.type "type"))
    (ci_TooGreat : PySem.W.isClsIn K c_TooGreat = true)
    (ct_TooGreat : PySem.W.typeIn K (.ref c_TooGreat) = some (.type "type"))
    (ci_NoText : PySem.W.isClsIn K c_NoText = true)
    (ct_NoText : PySem.W.typeIn K (.ref c_NoText) = some (.type "type"))
    : ∃ fd : FuncData, (∀ (s : Shared) (v : Value), BindsTo s fd ⟨[v], []⟩ [("_law_script", v)]) ∧ ∀ base : Heap, K.In base → base.Ns mainGlobals mg → FnOk l.prog w K mg base CX0 7 fa fd ["_law_script"] (spLaw K) := by
  have e := hfa.symm.trans (PySem.W.mg_of X G a24)
  cases e
  have T : Txt mg := ⟨PySem.W.mg_none_of X G z_ValueError, PySem.W.mg_none_of X G z_bool, PySem.W.mg_none_of X G z_enumerate, PySem.W.mg_none_of X G z_int, PySem.W.mg_none_of X G z_isinstance, PySem.W.mg_none_of X G z_len, PySem.W.mg_none_of X G z_list, PySem.W.mg_none_of X G z_min, PySem.W.mg_none_of X G z_range⟩
  have F0 := fun_mk (st := s_way_along) l0 c0 k0
  have h_way_along : Here K mg "way_along" s_way_along ["ends", "place"] := ⟨_, _, F0, PySem.W.mg_of X G a0, F0.binds (ps := ["ends", "place"]) fun _ _ _ _ _ _ us hl => match us, hl with | [_, _], _ => rfl⟩
  have F1 := fun_mk (st := s_copied) l1 c1 k1
  have h_copied : Here K mg "copied" s_copied ["piles"] := ⟨_, _, F1, PySem.W.mg_of X G a1, F1.binds (ps := ["piles"]) fun _ _ _ _ _ _ us hl => match us, hl with | [_], _ => rfl⟩
  have F2 := fun_mk (st := s_tops_of) l2 c2 k2
  have h_tops_of : Here K mg "tops_of" s_tops_of ["piles"] := ⟨_, _, F2, PySem.W.mg_of X G a2, F2.binds (ps := ["piles"]) fun _ _ _ _ _ _ us hl => match us, hl with | [_], _ => rfl⟩
  have F3 := fun_mk (st := s_rings_of) l3 c3 k3
  have h_rings_of : Here K mg "rings_of" s_rings_of ["tops"] := ⟨_, _, F3, PySem.W.mg_of X G a3, F3.binds (ps := ["tops"]) fun _ _ _ _ _ _ us hl => match us, hl with | [_], _ => rfl⟩
  have F4 := fun_mk (st := s_without_tops) l4 c4 k4
  have h_without_tops : Here K mg "without_tops" s_without_tops ["piles", "places"] := ⟨_, _, F4, PySem.W.mg_of X G a4, F4.binds (ps := ["piles", "places"]) fun _ _ _ _ _ _ us hl => match us, hl with | [_, _], _ => rfl⟩
  have F5 := fun_mk (st := s_top_rings) l5 c5 k5
  have h_top_rings : Here K mg "top_rings" s_top_rings ["piles"] := ⟨_, _, F5, PySem.W.mg_of X G a5, F5.binds (ps := ["piles"]) fun _ _ _ _ _ _ us hl => match us, hl with | [_], _ => rfl⟩
  have F6 := fun_mk (st := s_number_at) l6 c6 k6
  have h_number_at : Here K mg "number_at" s_number_at ["order", "turn"] := ⟨_, _, F6, PySem.W.mg_of X G a6, F6.binds (ps := ["order", "turn"]) fun _ _ _ _ _ _ us hl => match us, hl with | [_, _], _ => rfl⟩
  have F7 := funD_mk (st := s_pop_out) (ds := [.none]) l7 d7 c7 k7
  have h_pop_out : HereD K mg "pop_out" s_pop_out ["piles", "order"] [.none] := ⟨_, _, F7, PySem.W.mg_of X G a7, F7.binds (ps := ["piles", "order"]) (es := []) 2 rfl (fun _ _ _ _ _ _ _ us hl _ _ _ e1 e2 => match us, hl with | [_, _], _ => .of_defaults rfl e1 e2 rfl rfl), F7.binds (ps := ["piles", "order"]) (es := [.none]) 1 rfl (fun _ _ _ _ _ _ _ us hl _ _ _ e1 e2 => match us, hl with | [_], _ => .of_defaults rfl e1 e2 rfl rfl)⟩
  have F8 := fun_mk (st := s_tree_on) l8 c8 k8
  have h_tree_on : Here K mg "tree_on" s_tree_on ["net", "rest"] := ⟨_, _, F8, PySem.W.mg_of X G a8, F8.binds (ps := ["net", "rest"]) fun _ _ _ _ _ _ us hl => match us, hl with | [_, _], _ => rfl⟩
  have F9 := fun_mk (st := s_left_tree) l9 c9 k9
  have h_left_tree : Here K mg "left_tree" s_left_tree ["net", "piles"] := ⟨_, _, F9, PySem.W.mg_of X G a9, F9.binds (ps := ["net", "piles"]) fun _ _ _ _ _ _ us hl => match us, hl with | [_, _], _ => rfl⟩
  have F10 := fun_mk (st := s__law_fold) l10 c10 k10
  have h__law_fold : Here K mg "_law_fold" s__law_fold ["_law_script", "_law_number"] := ⟨_, _, F10, PySem.W.mg_of X G a10, F10.binds (ps := ["_law_script", "_law_number"]) fun _ _ _ _ _ _ us hl => match us, hl with | [_, _], _ => rfl⟩
  have F11 := fun_mk (st := s__law_next) l11 c11 k11
  have h__law_next : Here K mg "_law_next" s__law_next ["_law_number"] := ⟨_, _, F11, PySem.W.mg_of X G a11, F11.binds (ps := ["_law_number"]) fun _ _ _ _ _ _ us hl => match us, hl with | [_], _ => rfl⟩
  have F12 := fun_mk (st := s__law_whole) l12 c12 k12
  have h__law_whole : Here K mg "_law_whole" s__law_whole ["_law_found"] := ⟨_, _, F12, PySem.W.mg_of X G a12, F12.binds (ps := ["_law_found"]) fun _ _ _ _ _ _ us hl => match us, hl with | [_], _ => rfl⟩
  have F13 := fun_mk (st := s__law_turned) l13 c13 k13
  have h__law_turned : Here K mg "_law_turned" s__law_turned ["_law_number", "_law_many"] := ⟨_, _, F13, PySem.W.mg_of X G a13, F13.binds (ps := ["_law_number", "_law_many"]) fun _ _ _ _ _ _ us hl => match us, hl with | [_, _], _ => rfl⟩
  have F14 := fun_mk (st := s__law_grown) l14 c14 k14
  have h__law_grown : Here K mg "_law_grown" s__law_grown ["_law_number", "_law_order", "_law_roots"] := ⟨_, _, F14, PySem.W.mg_of X G a14, F14.binds (ps := ["_law_number", "_law_order", "_law_roots"]) fun _ _ _ _ _ _ us hl => match us, hl with | [_, _, _], _ => rfl⟩
  have F15 := fun_mk (st := s__law_hung) l15 c15 k15
  have h__law_hung : Here K mg "_law_hung" s__law_hung ["_law_number", "_law_most"] := ⟨_, _, F15, PySem.W.mg_of X G a15, F15.binds (ps := ["_law_number", "_law_most"]) fun _ _ _ _ _ _ us hl => match us, hl with | [_, _], _ => rfl⟩
  have F16 := fun_mk (st := s__law_copy) l16 c16 k16
  have h__law_copy : Here K mg "_law_copy" s__law_copy ["_law_net"] := ⟨_, _, F16, PySem.W.mg_of X G a16, F16.binds (ps := ["_law_net"]) fun _ _ _ _ _ _ us hl => match us, hl with | [_], _ => rfl⟩
  have F17 := fun_mk (st := s__law_alone) l17 c17 k17
  have h__law_alone : Here K mg "_law_alone" s__law_alone ["_law_error"] := ⟨_, _, F17, PySem.W.mg_of X G a17, F17.binds (ps := ["_law_error"]) fun _ _ _ _ _ _ us hl => match us, hl with | [_], _ => rfl⟩
  have F18 := fun_mk (st := s__law_piled) l18 c18 k18
  have h__law_piled : Here K mg "_law_piled" s__law_piled ["_law_script", "_law_net", "_law_tree", "_law_number"] := ⟨_, _, F18, PySem.W.mg_of X G a18, F18.binds (ps := ["_law_script", "_law_net", "_law_tree", "_law_number"]) fun _ _ _ _ _ _ us hl => match us, hl with | [_, _, _, _], _ => rfl⟩
  have F19 := fun_mk (st := s__law_popped) l19 c19 k19
  have h__law_popped : Here K mg "_law_popped" s__law_popped ["_law_piles"] := ⟨_, _, F19, PySem.W.mg_of X G a19, F19.binds (ps := ["_law_piles"]) fun _ _ _ _ _ _ us hl => match us, hl with | [_], _ => rfl⟩
  have F20 := fun_mk (st := s__law_bare) l20 c20 k20
  have h__law_bare : Here K mg "_law_bare" s__law_bare ["_law_net", "_law_left"] := ⟨_, _, F20, PySem.W.mg_of X G a20, F20.binds (ps := ["_law_net", "_law_left"]) fun _ _ _ _ _ _ us hl => match us, hl with | [_, _], _ => rfl⟩
  have F21 := fun_mk (st := s__law_tops) l21 c21 k21
  have h__law_tops : Here K mg "_law_tops" s__law_tops ["_law_left"] := ⟨_, _, F21, PySem.W.mg_of X G a21, F21.binds (ps := ["_law_left"]) fun _ _ _ _ _ _ us hl => match us, hl with | [_], _ => rfl⟩
  have F22 := fun_mk (st := s__law_alike) l22 c22 k22
  have h__law_alike : Here K mg "_law_alike" s__law_alike ["_law_found", "_law_due"] := ⟨_, _, F22, PySem.W.mg_of X G a22, F22.binds (ps := ["_law_found", "_law_due"]) fun _ _ _ _ _ _ us hl => match us, hl with | [_, _], _ => rfl⟩
  have F23 := fun_mk (st := s__law_ran_out) l23 c23 k23
  have h__law_ran_out : Here K mg "_law_ran_out" s__law_ran_out ["_law_net", "_law_piles", "_law_place"] := ⟨_, _, F23, PySem.W.mg_of X G a23, F23.binds (ps := ["_law_net", "_law_piles", "_law_place"]) fun _ _ _ _ _ _ us hl => match us, hl with | [_, _, _], _ => rfl⟩
  have F24 := fun_mk (st := s_law) l24 c24 k24
  refine ⟨PySem.W.fnOf "law" "law" (defArgs s_law) (defBody s_law) (defScope s_law) .none kV24 dc24 pm24 an24 cd24 ct24, fun s v => .of_eq rfl, fun base _ _ => ?_⟩
  have CK_RingError : PySem.W.ExcK K c_RingError := ⟨cga_RingError, cgt_RingError, ccl_RingError, cgs, ctk, cmo_RingError, cmb_RingError, cis_RingError⟩
  have CK_RanOut : PySem.W.ExcK K c_RanOut := ⟨cga_RanOut, cgt_RanOut, ccl_RanOut, cgs, ctk, cmo_RanOut, cmb_RanOut, cis_RanOut⟩
  have EB_RanOut : ErrB K mg "RanOut" c_RanOut := errB_mk (PySem.W.mg_of X G ca_RanOut) xl_RanOut xt_RanOut CK_RanOut
  let U : Cls K mg := ⟨c_RingError, c_NoNet, c_NoTree, c_NoPiles, c_NoRing, c_NoPlace, c_NoNumber, c_NoArrow, c_MakesRing, c_RanOut, c_TooGreat, c_NoText, PySem.W.mg_of X G ca_RingError, PySem.W.mg_of X G ca_NoNet, PySem.W.mg_of X G ca_NoTree, PySem.W.mg_of X G ca_NoPiles, PySem.W.mg_of X G ca_NoRing, PySem.W.mg_of X G ca_NoPlace, PySem.W.mg_of X G ca_NoNumber, PySem.W.mg_of X G ca_NoArrow, PySem.W.mg_of X G ca_MakesRing, PySem.W.mg_of X G ca_RanOut, PySem.W.mg_of X G ca_TooGreat, PySem.W.mg_of X G ca_NoText, ⟨PySem.W.mg_of X G ca_RingError, cx_RingError, CK_RingError⟩, EB_RanOut, ⟨EB_RanOut.ex, CK_RanOut, xs_RanOut, xo_RanOut, xa_RanOut_place, xh_RanOut⟩, ⟨PySem.W.mg_of X G ca_RingError, xg_RingError, xr_RingError, xv_RingError⟩, cs_RanOut, cv_RanOut, ⟨EB_RanOut.ex, CK_RanOut, cu_RanOut_RingError⟩, ⟨PySem.W.mg_of X G ca_NoNet, ci_NoNet, ct_NoNet, cn_RanOut_NoNet⟩, ⟨PySem.W.mg_of X G ca_NoTree, ci_NoTree, ct_NoTree, cn_RanOut_NoTree⟩, ⟨PySem.W.mg_of X G ca_NoPiles, ci_NoPiles, ct_NoPiles, cn_RanOut_NoPiles⟩, ⟨PySem.W.mg_of X G ca_NoRing, ci_NoRing, ct_NoRing, cn_RanOut_NoRing⟩, ⟨PySem.W.mg_of X G ca_NoPlace, ci_NoPlace, ct_NoPlace, cn_RanOut_NoPlace⟩, ⟨PySem.W.mg_of X G ca_NoNumber, ci_NoNumber, ct_NoNumber, cn_RanOut_NoNumber⟩, ⟨PySem.W.mg_of X G ca_NoArrow, ci_NoArrow, ct_NoArrow, cn_RanOut_NoArrow⟩, ⟨PySem.W.mg_of X G ca_MakesRing, ci_MakesRing, ct_MakesRing, cn_RanOut_MakesRing⟩, ⟨EB_RanOut.ex, CK_RanOut, cs_RanOut⟩, ⟨PySem.W.mg_of X G ca_TooGreat, ci_TooGreat, ct_TooGreat, cn_RanOut_TooGreat⟩, ⟨PySem.W.mg_of X G ca_NoText, ci_NoText, ct_NoText, cn_RanOut_NoText⟩⟩
  have FX_RanOut := fun_mk (st := s_RanOut___init__) xf_RanOut xc_RanOut xk_RanOut
  have m_RanOut___init__ : IHere K mg "RanOut" c_RanOut "RanOut.__init__" s_RanOut___init__ ["self", "place"] := ⟨_, _, FX_RanOut, errI_mk EB_RanOut xl_RanOut xt_RanOut xn_RanOut xi_RanOut xf_RanOut xp_RanOut, FX_RanOut.binds (ps := ["self", "place"]) fun _ _ _ _ _ _ us hl => match us, hl with | [_, _], _ => rfl⟩
  exact law_all T U m_RanOut___init__ h_way_along h_copied h_tops_of h_rings_of h_without_tops h_top_rings h_number_at h_pop_out h_tree_on h_left_tree h__law_fold h__law_next h__law_whole h__law_turned h__law_grown h__law_hung h__law_copy h__law_alone h__law_piled h__law_popped h__law_bare h__law_tops h__law_alike h__law_ran_out F24
theorem walk {l : PySem.W.OpenLaw} {q : Program} {loose : List Str} {XP : (Str → Option Value) → Heap → Prop} {YP : World → Heap → Prop} {d : DefRec} {K : Params → PySem.W.Frag} (hn : l.most = some 63) (hdf : d.params.defaults = [])
    (hY : ∀ (w : World) (h : Heap), YP w h → (K w.params).In h)
    (F : ∀ (w : World) (mg : Str → Option Value) (fa : Addr) (h : Heap), (K w.params).In h → h.Ns mainGlobals mg → mg d.name = some (.ref fa) →
      ∃ fd : FuncData, (∀ (s : Shared) (u : Value), BindsTo s fd ⟨[u], []⟩ [("_law_script", u)]) ∧ ∀ base : Heap, (K w.params).In base → base.Ns mainGlobals mg → FnOk l.prog w (K w.params) mg base CX0 7 fa fd ["_law_script"] (spLaw (K w.params))) :
    PySem.W.WalkO q loose XP YP l.row.toRowW d [] (fun f vs => PySem.call f vs) :=
  L2.walk_of (n := 63) (k := 7) (x := "_law_script") (CX := fun _ => CX0) (sp := fun w => spLaw (K w.params)) hn (by decide) hdf ⟨rfl, by decide, by decide⟩ hY F (fun _ _ a ns hl _ hS => ⟨a, ns, rfl, hS, hl, fun _ => rfl⟩) fun _ _ _ _ _ z => z
end Law
open PySem PySem.W PyProof.Rows
set_option maxRecDepth 100000 in
set_option maxHeartbeats 0 in
theorem PySem.Challenge.cw_ringpop_k44_left_tree_holds : PySem.Challenge.rw_ringpop_k44_left_tree.Holds := by
  w_on; o_law; k_head; (case hw => w_witness2)
  k_fill
  refine Law.walk (l := PySem.Challenge.rw_ringpop_k44_left_tree) rfl rfl (fun w h Y => PySem.W.kIn_of Y) ?F
  case F =>
    intro w mg fa h KX G hmg
    refine' Law.all_mk KX G hmg ?a0 ?l0 ?c0 ?k0 ?a1 ?l1 ?c1 ?k1 ?a2 ?l2 ?c2 ?k2 ?a3 ?l3 ?c3 ?k3 ?a4 ?l4 ?c4 ?k4 ?a5 ?l5 ?c5 ?k5 ?a6 ?l6 ?c6 ?k6 ?a7 ?l7 ?c7 ?k7 ?d7 ?a8 ?l8 ?c8 ?k8 ?a9 ?l9 ?c9 ?k9 ?a10 ?l10 ?c10 ?k10 ?a11 ?l11 ?c11 ?k11 ?a12 ?l12 ?c12 ?k12 ?a13 ?l13 ?c13 ?k13 ?a14 ?l14 ?c14 ?k14 ?a15 ?l15 ?c15 ?k15 ?a16 ?l16 ?c16 ?k16 ?a17 ?l17 ?c17 ?k17 ?a18 ?l18 ?c18 ?k18 ?a19 ?l19 ?c19 ?k19 ?a20 ?l20 ?c20 ?k20 ?a21 ?l21 ?c21 ?k21 ?a22 ?l22 ?c22 ?k22 ?a23 ?l23 ?c23 ?k23 ?a24 ?l24 ?c24 ?k24 ?z_ValueError ?z_bool ?z_enumerate ?z_int ?z_isinstance ?z_len ?z_list ?z_min ?z_range ?ca_RingError ?ca_NoNet ?ca_NoTree ?ca_NoPiles ?ca_NoRing ?ca_NoPlace ?ca_NoNumber ?ca_NoArrow ?ca_MakesRing ?ca_RanOut ?ca_TooGreat ?ca_NoText ?cgs ?ctk ?cx_RingError ?cga_RingError ?cgt_RingError ?ccl_RingError ?cmo_RingError ?cmb_RingError ?cis_RingError ?cga_RanOut ?cgt_RanOut ?ccl_RanOut ?cmo_RanOut ?cmb_RanOut ?cis_RanOut ?xl_RanOut ?xt_RanOut ?xn_RanOut ?xi_RanOut ?xf_RanOut ?xc_RanOut ?xk_RanOut ?xp_RanOut ?xs_RanOut ?xo_RanOut ?xh_RanOut ?xa_RanOut_place ?xg_RingError ?xr_RingError ?xv_RingError ?cs_RanOut ?cv_RanOut ?cu_RanOut_RingError ?cn_RanOut_NoNet ?cn_RanOut_NoTree ?cn_RanOut_NoPiles ?cn_RanOut_NoRing ?cn_RanOut_NoPlace ?cn_RanOut_NoNumber ?cn_RanOut_NoArrow ?cn_RanOut_MakesRing ?cn_RanOut_TooGreat ?cn_RanOut_NoText ?ci_NoNet ?ct_NoNet ?ci_NoTree ?ct_NoTree ?ci_NoPiles ?ct_NoPiles ?ci_NoRing ?ct_NoRing ?ci_NoPlace ?ct_NoPlace ?ci_NoNumber ?ct_NoNumber ?ci_NoArrow ?ct_NoArrow ?ci_MakesRing ?ct_MakesRing ?ci_TooGreat ?ct_TooGreat ?ci_NoText ?ct_NoText
    (case a0 => k_is); (case l0 => k_is); (case c0 => k_is); (case k0 => k_is)
    (case a1 => k_is); (case l1 => k_is); (case c1 => k_is); (case k1 => k_is)
    (case a2 => k_is); (case l2 => k_is); (case c2 => k_is); (case k2 => k_is)
    (case a3 => k_is); (case l3 => k_is); (case c3 => k_is); (case k3 => k_is)
    (case a4 => k_is); (case l4 => k_is); (case c4 => k_is); (case k4 => k_is)
    (case a5 => k_is); (case l5 => k_is); (case c5 => k_is); (case k5 => k_is)
    (case a6 => k_is); (case l6 => k_is); (case c6 => k_is); (case k6 => k_is)
    (case a7 => k_is); (case l7 => k_is); (case c7 => k_is); (case k7 => k_is); (case d7 => k_is)
    (case a8 => k_is); (case l8 => k_is); (case c8 => k_is); (case k8 => k_is)
    (case a9 => k_is); (case l9 => k_is); (case c9 => k_is); (case k9 => k_is)
    (case a10 => k_is); (case l10 => k_is); (case c10 => k_is); (case k10 => k_is)
    (case a11 => k_is); (case l11 => k_is); (case c11 => k_is); (case k11 => k_is)
    (case a12 => k_is); (case l12 => k_is); (case c12 => k_is); (case k12 => k_is)
    (case a13 => k_is); (case l13 => k_is); (case c13 => k_is); (case k13 => k_is)
    (case a14 => k_is); (case l14 => k_is); (case c14 => k_is); (case k14 => k_is)
    (case a15 => k_is); (case l15 => k_is); (case c15 => k_is); (case k15 => k_is)
    (case a16 => k_is); (case l16 => k_is); (case c16 => k_is); (case k16 => k_is)
    (case a17 => k_is); (case l17 => k_is); (case c17 => k_is); (case k17 => k_is)
    (case a18 => k_is); (case l18 => k_is); (case c18 => k_is); (case k18 => k_is)
    (case a19 => k_is); (case l19 => k_is); (case c19 => k_is); (case k19 => k_is)
    (case a20 => k_is); (case l20 => k_is); (case c20 => k_is); (case k20 => k_is)
    (case a21 => k_is); (case l21 => k_is); (case c21 => k_is); (case k21 => k_is)
    (case a22 => k_is); (case l22 => k_is); (case c22 => k_is); (case k22 => k_is)
    (case a23 => k_is); (case l23 => k_is); (case c23 => k_is); (case k23 => k_is)
    (case a24 => k_is); (case l24 => k_is); (case c24 => k_is); (case k24 => k_is)
    (case z_ValueError => k_is)
    (case z_bool => k_is)
    (case z_enumerate => k_is)
    (case z_int => k_is)
    (case z_isinstance => k_is)
    (case z_len => k_is)
    (case z_list => k_is)
    (case z_min => k_is)
    (case z_range => k_is)
    (case ca_RingError => k_is)
    (case ca_NoNet => k_is)
    (case ca_NoTree => k_is)
    (case ca_NoPiles => k_is)
    (case ca_NoRing => k_is)
    (case ca_NoPlace => k_is)
    (case ca_NoNumber => k_is)
    (case ca_NoArrow => k_is)
    (case ca_MakesRing => k_is)
    (case ca_RanOut => k_is)
    (case ca_TooGreat => k_is)
    (case ca_NoText => k_is)
    (case cgs => k_is)
    (case ctk => k_is)
    (case cx_RingError => k_exc)
    (case cga_RingError => k_is)
    (case cgt_RingError => k_is)
    (case ccl_RingError => k_is)
    (case cmo_RingError => k_is)
    (case cmb_RingError => k_is)
    (case cis_RingError => k_is)
    (case cga_RanOut => k_is)
    (case cgt_RanOut => k_is)
    (case ccl_RanOut => k_is)
    (case cmo_RanOut => k_is)
    (case cmb_RanOut => k_is)
    (case cis_RanOut => k_is)
    (case xl_RanOut => k_is)
    (case xt_RanOut => kernel_rfl)
    (case xn_RanOut => kernel_rfl)
    (case xi_RanOut => k_is)
    (case xf_RanOut => k_is)
    (case xc_RanOut => k_is)
    (case xk_RanOut => k_is)
    (case xp_RanOut => k_is)
    (case xs_RanOut => k_is)
    (case xo_RanOut => kernel_rfl)
    (case xh_RanOut => k_is)
    (case xa_RanOut_place => k_is)
    (case xg_RingError => k_is)
    (case xr_RingError => k_is)
    (case xv_RingError => k_is)
    (case cs_RanOut => k_is)
    (case cv_RanOut => k_is)
    (case cu_RanOut_RingError => k_is)
    (case cn_RanOut_NoNet => k_is)
    (case cn_RanOut_NoTree => k_is)
    (case cn_RanOut_NoPiles => k_is)
    (case cn_RanOut_NoRing => k_is)
    (case cn_RanOut_NoPlace => k_is)
    (case cn_RanOut_NoNumber => k_is)
    (case cn_RanOut_NoArrow => k_is)
    (case cn_RanOut_MakesRing => k_is)
    (case cn_RanOut_TooGreat => k_is)
    (case cn_RanOut_NoText => k_is)
    (case ci_NoNet => k_is)
    (case ct_NoNet => k_is)
    (case ci_NoTree => k_is)
    (case ct_NoTree => k_is)
    (case ci_NoPiles => k_is)
    (case ct_NoPiles => k_is)
    (case ci_NoRing => k_is)
    (case ct_NoRing => k_is)
    (case ci_NoPlace => k_is)
    (case ct_NoPlace => k_is)
    (case ci_NoNumber => k_is)
    (case ct_NoNumber => k_is)
    (case ci_NoArrow => k_is)
    (case ct_NoArrow => k_is)
    (case ci_MakesRing => k_is)
    (case ct_MakesRing => k_is)
    (case ci_TooGreat => k_is)
    (case ct_TooGreat => k_is)
    (case ci_NoText => k_is)
    (case ct_NoText => k_is)

