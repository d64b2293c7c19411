import PyProof.Rows.All
import Wide.All
import OpenK.AllK
import Wide.FinOn
import Lean
import PyProof.EqAt
import PyProof.EqKinds
import PyProof.TupleCall
import PySem.Challenge.RW_ringpop_k63_texts_refused
set_option Elab.async false
set_option linter.all false
set_option maxRecDepth 100000
set_option maxHeartbeats 4000000
/-! THE HAND LAYER, for ints, bools, texts, own classes, LISTS and tuples (index, slices, in, append, pop ..), calls, loops. Paste it whole ahead of your own text; what your proof does not reach may be deleted. -/
namespace L2
open PySem PySem.Spec PyProof.Rows

/-- a key: an int or a str -/
abbrev Key := Sum Int Str
def keyIs : Key → Value → Bool
  | .inl k, v => Value.isInt k v
  | .inr x, v => Value.isStrOf x v
def keyH (w : World) : Key → Int
  | .inl k => hashInt k
  | .inr x => hashStr w x
theorem keyIs_shape : ∀ {k : Key} {v : Value}, keyIs k v = true → (∃ i t, k = Sum.inl i ∧ v = Value.int i t) ∨ (∃ x t, k = Sum.inr x ∧ v = Value.str x t)
  | .inl i, v, h => by
    obtain ⟨t, e⟩ := Value.isInt_shape (k := i) (v := v) h
    exact .inl ⟨i, t, rfl, e⟩
  | .inr x, v, h => by
    obtain ⟨t, e⟩ := Value.isStrOf_shape (x := x) (v := v) h
    exact .inr ⟨x, t, rfl, e⟩
theorem key_ll (a b : Int) : decide ((Sum.inl a : Key) = Sum.inl b) = (a == b) := by
  by_cases e : a = b
  · subst e; simp
  · have h : ¬ (Sum.inl a : Key) = Sum.inl b := fun q => e (Sum.inl.inj q)
    rw [decide_eq_false h]
    exact (beq_eq_false_iff_ne.mpr e).symm
theorem key_rr (a b : Str) : decide ((Sum.inr a : Key) = Sum.inr b) = decide (a = b) := by
  by_cases e : a = b
  · subst e; simp
  · have h : ¬ (Sum.inr a : Key) = Sum.inr b := fun q => e (Sum.inr.inj q)
    rw [decide_eq_false h, decide_eq_false e]
theorem key_lr (a : Int) (b : Str) : decide ((Sum.inl a : Key) = Sum.inr b) = false := decide_eq_false (fun q => nomatch q)
theorem key_rl (a : Str) (b : Int) : decide ((Sum.inr a : Key) = Sum.inl b) = false := decide_eq_false (fun q => nomatch q)

def mixKind (prog : Program) (w : World) : PySem.KeyKind prog w Key where
  is := keyIs
  hash := keyH w
  inj := fun v a b ha hb => by
    rcases keyIs_shape ha with ⟨i, t, rfl, rfl⟩ | ⟨x, t, rfl, rfl⟩
    · rcases keyIs_shape hb with ⟨j, u, rfl, e⟩ | ⟨y, u, rfl, e⟩
      · injection e with e1 _; rw [e1]
      · exact nomatch e
    · rcases keyIs_shape hb with ⟨j, u, rfl, e⟩ | ⟨y, u, rfl, e⟩
      · exact nomatch e
      · injection e with e1 _; rw [e1]
  byValue := fun k v h => by
    rcases keyIs_shape h with ⟨i, t, rfl, rfl⟩ | ⟨x, t, rfl, rfl⟩ <;> rfl
  pyHash := fun hv h => by
    rcases keyIs_shape hv with ⟨i, t, rfl, rfl⟩ | ⟨x, t, rfl, rfl⟩
    · exact wpAny_pyHash_int h
    · exact wpAny_pyHash_str h
  eqBool := fun hu hv h => by
    rcases keyIs_shape hu with ⟨i, t, rfl, rfl⟩ | ⟨x, t, rfl, rfl⟩
    · rcases keyIs_shape hv with ⟨j, u, rfl, rfl⟩ | ⟨y, u, rfl, rfl⟩
      · rw [key_ll] at h; exact wpAny_eqBool_int h
      · rw [key_lr] at h; exact SeqAt.EqAt.int_str i t y u _ _ _ _ h
    · rcases keyIs_shape hv with ⟨j, u, rfl, rfl⟩ | ⟨y, u, rfl, rfl⟩
      · rw [key_rl] at h; exact SeqAt.EqAt.str_int x t j u _ _ _ _ h
      · rw [key_rr] at h; exact wpAny_eqBool_str h
  «strs» := fun k x t v h => by
    rcases keyIs_shape h with ⟨i, u, rfl, e⟩ | ⟨y, u, rfl, e⟩
    · exact nomatch e
    · injection e with e1 _
      subst e1
      cases v <;> rfl

end L2

namespace L2
open PySem PySem.Spec PyProof.Rows

/-- a value, without the heap -/
inductive V where
  | non | bl (b : Bool) | int (i : Int) | str (x : Str) | byt (b : Array UInt8) | flt (b : UInt64) | ref (a : Addr) | ty (n : String)
  deriving DecidableEq

def RelV : V → Value → Prop
  | .non, u => u = Value.none
  | .bl b, u => u = Value.bool b
  | .int i, u => ∃ t, u = Value.int i t
  | .str x, u => ∃ t, u = Value.str x t
  | .byt b, u => ∃ t, u = Value.bytes b t
  | .flt b, u => ∃ t, u = Value.float b t
  | .ref a, u => u = Value.ref a
  | .ty n, u => u = Value.type n

abbrev Vals : List V → List Value → Prop := Paired RelV
theorem Vals.length {xs : List V} {us : List Value} (r : Vals xs us) : xs.length = us.length := Paired.length r
theorem Vals.get : ∀ {xs : List V} {us : List Value} {i : Nat} {x : V}, Vals xs us → xs[i]? = some x → ∃ u, us[i]? = some u ∧ RelV x u
  | _, _, _, _, .nil, e => by simp at e
  | _, _, 0, _, .cons r _, e => by simp at e; subst e; exact ⟨_, rfl, r⟩
  | _, _, i + 1, x, .cons _ t, e => by
    obtain ⟨u, h1, h2⟩ := Vals.get (i := i) (x := x) t (by simpa using e)
    exact ⟨u, by simpa using h1, h2⟩
theorem Vals.set {x : V} {u : Value} (r : RelV x u) : ∀ {xs : List V} {us : List Value} (i : Nat), Vals xs us → Vals (xs.set i x) (us.set i u)
  | _, _, _, .nil => .nil
  | _, _, 0, .cons _ t => .cons r t
  | _, _, i + 1, .cons q t => .cons q (Vals.set r i t)
theorem Vals.append : ∀ {xs ys : List V} {us ws : List Value}, Vals xs us → Vals ys ws → Vals (xs ++ ys) (us ++ ws)
  | _, _, _, _, .nil, s => s
  | _, _, _, _, .cons r t, s => .cons r (Vals.append t s)
theorem Vals.take : ∀ {xs : List V} {us : List Value} (n : Nat), Vals xs us → Vals (xs.take n) (us.take n)
  | _, _, 0, _ => .nil
  | _, _, _ + 1, .nil => .nil
  | _, _, n + 1, .cons r t => .cons r (Vals.take n t)
theorem Vals.drop : ∀ {xs : List V} {us : List Value} (n : Nat), Vals xs us → Vals (xs.drop n) (us.drop n)
  | _, _, 0, r => r
  | _, _, _ + 1, .nil => .nil
  | _, _, n + 1, .cons _ t => Vals.drop n t

def RelO : Option V → Option Value → Prop
  | some v, some u => RelV v u
  | none, none => True
  | _, _ => False
def KV {κ : Type} : List (κ × V) → List (κ × Value) → Prop := Paired fun (p : κ × V) (q : κ × Value) => p.1 = q.1 ∧ RelV p.2 q.2

/-- a key of a dict (00_mix): an int or a text -/
def kV : Key → V
  | .inl i => .int i
  | .inr x => .str x

/-- what stands at a tracked address -/
inductive HO where
  /-- a list -/
  | lst (xs : List V)
  /-- a tuple (never changes) -/
  | tup (xs : List V)
  /-- a dict whose keys are ints and texts; one whose keys are tuples of ints and texts (the empty one is both) -/
  | dK (kvs : List (Key × V)) | dT (kvs : List (List Key × V))
  /-- a set of ints: its members, its size -/
  | set (S : Int → Bool) (n : Nat)
  /-- an instance of the class at C, its dict at dx, its attributes -/
  | ins (C dx : Addr) (fs : List (Str × V))
  /-- the dict of the instance at x -/
  | own (x : Addr)
  /-- the dict of an exception -/
  | xd (fs : List (Str × V))
  /-- a bound method, f of x -/
  | met (f x : Addr)
  /-- a range object lo, lo + 1, .. below hi -/
  | rng (lo hi : Int)
  /-- a thing that is known to the object (the script; a dict while a loop walks it): read, never written while it is so -/
  | frz (o : Obj) (u : HO)
  /-- a code object's table -/
  | tbl (ps : Array Value)
  /-- any other thing, by what is true of its one object (a def of one's own: SetO a S n := HO.ext fun h => ..) -/
  | ext (φ : Heap → Prop)

abbrev Hp := Addr → Option HO
def upd (H : Hp) (a : Addr) (o : HO) : Hp := fun b => if b = a then some o else H b
theorem upd_same {H : Hp} {a : Addr} {o : HO} : upd H a o a = some o := by unfold upd; rw [if_pos rfl]
theorem upd_ne {H : Hp} {a b : Addr} {o : HO} (h : b ≠ a) : upd H a o b = H b := by unfold upd; rw [if_neg h]
theorem ne_of_none {H : Hp} {a b : Addr} {o : HO} (h : H a = some o) (h' : H b = none) : a ≠ b := by
  intro e; subst e; rw [h] at h'; cases h'

section
variable (P : Program) (w : World)
def ObjOk (H : Hp) (h : Heap) (a : Addr) : HO → Prop
  | .lst xs => xs.length ≤ sizeLine ∧ ∃ (its : List Value) (n : Nat), Vals xs its ∧ h.get? a = some { cls := .type "list", data := .seq its.toArray n }
  | .tup xs => xs.length ≤ sizeLine ∧ ∃ its : List Value, Vals xs its ∧ IsTup h a its.toArray
  | .dK kvs => kvs.length ≤ sizeLine ∧ (a == sysModules) = false ∧ ∃ vs, KV kvs vs ∧ h.DictOf (mixKind P w) a vs
  | .dT kvs => kvs.length ≤ sizeLine ∧ (a == sysModules) = false ∧ ∃ xs : List (List Key × Addr × Value),
      Paired (fun (p : List Key × V) (q : List Key × Addr × Value) => p.1 = q.1 ∧ H q.2.1 = some (.tup (p.1.map kV)) ∧ RelV p.2 q.2.2) kvs xs ∧
      ∃ o es ep, h.get? a = some o ∧ o.ExactDict ∧ o.data = .dict es ep ∧ es.toList = xs.map (entryOfKey (tupleKind (mixKind P w))) ∧ (xs.map (·.1)).Nodup
  | .set S n => h.SetOf (intKind P w) a S n
  | .ins C dx fs => H dx = some (.own a) ∧ fs.length ≤ 1000 ∧ dx ≠ a ∧ h.get? a = some (PySem.W.instObj C dx) ∧
      ∃ mA, h.Ns1 dx mA ∧ (∀ f, RelO (fs.lookup f) (mA f)) ∧ PySem.Within mA (fs.map (·.1))
  | .own _ => ∃ o, h.get? a = some o
  | .xd fs => ∃ mA, h.Ns1 a mA ∧ ∀ f, RelO (fs.lookup f) (mA f)
  | .rng lo hi => ∃ t u v, h.get? a = some { cls := .type "range", data := .fields #[.int lo t, .int hi u, .int 1 v] }
  | .frz o u => h.get? a = some o ∧ ObjOk H h a u
  | .tbl ps => h.get? a = some { cls := .none, data := .fields ps }
  | .met f x => h.get? a = some (PySem.W.methodObj (.ref f) (.ref x))
  | .ext φ => φ h ∧ (∃ o, h.get? a = some o) ∧ ∀ h1 h2 : Heap, φ h1 → (∀ o, h1.get? a = some o → h2.get? a = some o) → φ h2
/-- the abstract heap is held -/
def HOk (H : Hp) (h : Heap) : Prop := ∀ a o, H a = some o → ObjOk P w H h a o
end

section
variable {P : Program} {w : World} {H H' : Hp} {h h' : Heap} {a : Addr} {o : HO}
theorem ObjOk.lt (x : ObjOk P w H h a o) : a < h.objs.size := by
  cases o with
  | lst xs => obtain ⟨_, _, _, _, e⟩ := x; exact Heap.lt_size e
  | tup xs => obtain ⟨_, _, _, p⟩ := x; exact p.lt
  | dK kvs => obtain ⟨_, _, _, _, o, _, _, e, _⟩ := x; exact Heap.lt_size e
  | dT kvs => obtain ⟨_, _, _, _, o, _, _, e, _⟩ := x; exact Heap.lt_size e
  | set S n => obtain ⟨o, _, _, _, e, _⟩ := x; exact Heap.lt_size e
  | ins C dx fs => obtain ⟨_, _, _, e, _⟩ := x; exact Heap.lt_size e
  | own y => obtain ⟨_, e⟩ := x; exact Heap.lt_size e
  | xd fs => obtain ⟨_, ⟨_, _, _, e, _⟩, _⟩ := x; exact Heap.lt_size e
  | rng lo hi => obtain ⟨_, _, _, e⟩ := x; exact Heap.lt_size e
  | frz ob u => obtain ⟨e, _⟩ := x; exact Heap.lt_size e
  | tbl ps => exact Heap.lt_size (show h.get? a = some _ from x)
  | met f y => exact Heap.lt_size (show h.get? a = some _ from x)
  | ext φ => obtain ⟨_, ⟨_, e⟩, _⟩ := x; exact Heap.lt_size e
theorem Paired.mapP {α β : Type} {F G : α → β → Prop} : ∀ {l₁ : List α} {l₂ : List β}, Paired F l₁ l₂ → (∀ a b, F a b → G a b) → Paired G l₁ l₂
  | _, _, .nil, _ => .nil
  | _, _, .cons r t, f => .cons (f _ _ r) (Paired.mapP t f)
/-- what an object's description leans on: its own object, its own dict, the tuples -/
theorem ObjOk.stay (x : ObjOk P w H h a o) (k : ∀ b u, (b = a ∨ H b = some (.own a)) → h.get? b = some u → h'.get? b = some u)
    (ho : ∀ b, H b = some (.own a) → H' b = some (.own a)) (ht : ∀ b xs, H b = some (.tup xs) → H' b = some (.tup xs)) : ObjOk P w H' h' a o := by
  induction o with
  | lst xs => obtain ⟨z, its, n, r, e⟩ := x; exact ⟨z, its, n, r, k _ _ (.inl rfl) e⟩
  | tup xs => obtain ⟨z, its, r, ob, e, c⟩ := x; exact ⟨z, its, r, ob, k _ _ (.inl rfl) e, c⟩
  | dK kvs => obtain ⟨z, y, vs, r, ob, es, ep, e, c⟩ := x; exact ⟨z, y, vs, r, ob, es, ep, k _ _ (.inl rfl) e, c⟩
  | dT kvs =>
    obtain ⟨z, y, xs, r, ob, es, ep, e, c⟩ := x
    exact ⟨z, y, xs, Paired.mapP r fun p q z => ⟨z.1, ht _ _ z.2.1, z.2.2⟩, ob, es, ep, k _ _ (.inl rfl) e, c⟩
  | set S n => obtain ⟨ob, es, ep, t, e, c⟩ := x; exact ⟨ob, es, ep, t, k _ _ (.inl rfl) e, c⟩
  | ins C dx fs =>
    obtain ⟨d, z, ne, e, mA, ⟨od, es, ep, e2, c⟩, r⟩ := x
    exact ⟨ho _ d, z, ne, k _ _ (.inl rfl) e, mA, ⟨od, es, ep, k _ _ (.inr d) e2, c⟩, r⟩
  | own y => obtain ⟨ob, e⟩ := x; exact ⟨ob, k _ _ (.inl rfl) e⟩
  | xd fs => obtain ⟨mA, ⟨od, es, ep, e, c⟩, r⟩ := x; exact ⟨mA, ⟨od, es, ep, k _ _ (.inl rfl) e, c⟩, r⟩
  | rng lo hi => obtain ⟨t, u, v, e⟩ := x; exact ⟨t, u, v, k _ _ (.inl rfl) e⟩
  | frz ob u ih => obtain ⟨e, q⟩ := x; exact ⟨k _ _ (.inl rfl) e, ih q⟩
  | tbl ps =>
    have e : h.get? a = some { cls := .none, data := .fields ps } := x
    show h'.get? a = some { cls := .none, data := .fields ps }
    exact k a _ (.inl rfl) e
  | met f y =>
    have e : h.get? a = some (PySem.W.methodObj (.ref f) (.ref y)) := x
    show h'.get? a = some (PySem.W.methodObj (.ref f) (.ref y))
    exact k a _ (.inl rfl) e
  | ext φ => obtain ⟨p, ⟨o, e⟩, st⟩ := x; exact ⟨st _ _ p fun o q => k _ _ (.inl rfl) q, ⟨o, k _ _ (.inl rfl) e⟩, st⟩
theorem HOk.lt (x : HOk P w H h) (e : H a = some o) : a < h.objs.size := (x a o e).lt
theorem HOk.fresh (x : HOk P w H h) (e : h.objs.size ≤ a) : H a = none := by
  cases q : H a with
  | none => rfl
  | some u => exact absurd (Nat.lt_of_lt_of_le (x.lt q) e) (Nat.lt_irrefl _)
/-- every object of the heap is kept -/
theorem HOk.kept (x : HOk P w H h) (k : ∀ b u, h.get? b = some u → h'.get? b = some u) : HOk P w H h' := fun a o e =>
  (x a o e).stay (fun b u _ q => k b u q) (fun _ q => q) fun _ _ q => q
/-- a new object is laid and tracked -/
theorem HOk.laid (x : HOk P w H h) (k : ∀ b u, h.get? b = some u → h'.get? b = some u) (hp : h.objs.size ≤ a) (new : ObjOk P w (upd H a o) h' a o) : HOk P w (upd H a o) h' := fun b u e => by
  have hn := x.fresh hp
  by_cases hb : b = a
  · subst hb; rw [upd_same] at e; cases e; exact new
  · rw [upd_ne hb] at e
    exact (x b u e).stay (fun c v _ q => k c v q) (fun c q => by rw [upd_ne (ne_of_none q hn)]; exact q) fun c xs q => by rw [upd_ne (ne_of_none q hn)]; exact q
end

/-- what may be read as u: it is u, or a known u -/
def Rd (H : Hp) (a : Addr) (u : HO) : Prop := H a = some u ∨ ∃ o, H a = some (.frz o u)
theorem Rd.of {H : Hp} {a : Addr} {u : HO} (h : H a = some u) : Rd H a u := .inl h
theorem Rd.ok {P : Program} {w : World} {H : Hp} {h : Heap} {a : Addr} {u : HO} (r : Rd H a u) (x : HOk P w H h) : ObjOk P w H h a u := by
  rcases r with r | ⟨o, r⟩
  · exact x a u r
  · obtain ⟨_, q⟩ := x a _ r
    exact q
/-- what may be written -/
def Mut : Option HO → Prop
  | some (.lst _) => True
  | some (.dK _) => True
  | some (.dT _) => True
  | some (.set _ _) => True
  | some (.ins _ _ _) => True
  | some (.ext _) => True
  | _ => False
section
variable {P : Program} {w : World} {H : Hp} {h h' : Heap} {x e : Addr} {o' : HO}
/-- the object at e is changed: x itself, or the dict of the instance x -/
theorem HOk.write (ok : HOk P w H h) (mu : Mut (H x)) (he : e = x ∨ H e = some (.own x)) (k : ∀ b u, b ≠ e → h.get? b = some u → h'.get? b = some u) (heo : ∃ u, h'.get? e = some u)
    (new : ObjOk P w (upd H x o') h' x o') : HOk P w (upd H x o') h' := fun b u q => by
  have nown : ∀ c y, H c = some (.own y) → c ≠ x := fun c y r z => by subst z; rw [r] at mu; exact mu
  have ntup : ∀ c xs, H c = some (.tup xs) → c ≠ x := fun c xs r z => by subst z; rw [r] at mu; exact mu
  by_cases hb : b = x
  · subst hb; rw [upd_same] at q; cases q; exact new
  · rw [upd_ne hb] at q
    by_cases hbe : b = e
    · have q' : H b = some (.own x) := by
        rcases he with z | z
        · exact absurd (hbe.trans z) hb
        · rw [hbe]; exact z
      rw [q] at q'; cases q'
      obtain ⟨v, hv⟩ := heo
      exact ⟨v, by rw [hbe]; exact hv⟩
    · refine (ok b u q).stay (fun c v hc r => k c v ?_ r) (fun c r => by rw [upd_ne (nown c b r)]; exact r) fun c xs r => by rw [upd_ne (ntup c xs r)]; exact r
      rcases hc with rfl | hc
      · exact hbe
      · rintro rfl
        rcases he with z | z
        · exact nown c b hc z
        · rw [hc] at z; cases z; exact hb rfl
end

/-! ### kept unless tracked; of the frames at fs (the callers') the slots may change (an exception that passes writes there); of the records at ex (iterators) nothing is said -/
structure Un (fs ex : List Addr) (H H' : Hp) (h h' : Heap) : Prop where
  keep : ∀ b o, h.get? b = some o → H b = none → b ∉ fs → b ∉ ex → h'.get? b = some o
  slot : ∀ b o, h.get? b = some o → H b = none → b ∈ fs → b ∉ ex → ∃ sl, h'.get? b = some { o with slots := sl }
  free : ∀ b o, h.get? b = some o → H b = none → b ∉ ex → H' b = none
  there : ∀ b o, h.get? b = some o → b ∉ ex → ∃ o', h'.get? b = some o'
  tups : ∀ b xs, H b = some (.tup xs) → H' b = some (.tup xs)
  frzs : ∀ b o u, H b = some (.frz o u) → H' b = some (.frz o u)
  tbls : ∀ b ps, H b = some (.tbl ps) → ∃ more, H' b = some (.tbl (ps ++ more))
section
variable {fs fs' ex ex' : List Addr} {H H1 H2 : Hp} {h h1 h2 h' : Heap} {a x e : Addr} {o : HO}
theorem Un.any (u : Un fs ex H H1 h h1) {b : Addr} {ob : Obj} (q : h.get? b = some ob) (n : H b = none) (hx : b ∉ ex) : ∃ sl, h1.get? b = some { ob with slots := sl } := by
  by_cases hb : b ∈ fs
  · exact u.slot b ob q n hb hx
  · exact ⟨ob.slots, u.keep b ob q n hb hx⟩
theorem Un.kept (k : ∀ b u, h.get? b = some u → h'.get? b = some u) : Un fs ex H H h h' :=
  ⟨fun b ob q _ _ _ => k b ob q, fun b ob q _ _ _ => ⟨ob.slots, k b ob q⟩, fun _ _ _ n _ => n, fun b ob q _ => ⟨ob, k b ob q⟩, fun _ _ q => q, fun _ _ _ q => q, fun _ ps q => ⟨#[], by rw [q]; simp⟩⟩
theorem Un.refl : Un fs ex H H h h := Un.kept fun _ _ q => q
theorem Un.laid (k : ∀ b u, h.get? b = some u → h'.get? b = some u) (hp : h.objs.size ≤ a) (hn : H a = none) : Un fs ex H (upd H a o) h h' where
  keep := fun b u q _ _ _ => k b u q
  slot := fun b u q _ _ _ => ⟨u.slots, k b u q⟩
  free := fun b u q n _ => by rw [upd_ne (Nat.ne_of_lt (Nat.lt_of_lt_of_le (Heap.lt_size q) hp))]; exact n
  there := fun b u q _ => ⟨u, k b u q⟩
  tups := fun b xs q => by rw [upd_ne (ne_of_none q hn)]; exact q
  frzs := fun b u xs q => by rw [upd_ne (ne_of_none q hn)]; exact q
  tbls := fun b ps q => ⟨#[], by rw [upd_ne (ne_of_none q hn), q]; simp⟩
theorem Un.write (mu : Mut (H x)) (he : e = x ∨ H e = some (.own x)) (k : ∀ b u, b ≠ e → h.get? b = some u → h'.get? b = some u) (heo : ∃ u, h'.get? e = some u) : Un fs ex H (upd H x o) h h' := by
  have hx : ∀ b, H b = none → b ≠ x := fun b n z => by subst z; rw [n] at mu; exact mu
  have hb : ∀ b, H b = none → b ≠ e := fun b n z => by
    subst z
    rcases he with r | r
    · exact hx b n r
    · rw [n] at r; cases r
  have hm : ∀ b u, H b = some u → ¬ Mut (some u) → b ≠ x := fun b u q nm z => by subst z; rw [q] at mu; exact nm mu
  refine ⟨fun b u q n _ _ => k b u (hb b n) q, fun b u q n _ _ => ⟨u.slots, k b u (hb b n) q⟩, fun b u q n _ => by rw [upd_ne (hx b n)]; exact n, fun b u q _ => ?_,
    fun b xs q => by rw [upd_ne (hm b _ q fun z => z)]; exact q, fun b u xs q => by rw [upd_ne (hm b _ q fun z => z)]; exact q, fun b ps q => ⟨#[], by rw [upd_ne (hm b _ q fun z => z), q]; simp⟩⟩
  by_cases hbe : b = e
  · subst hbe; exact heo
  · exact ⟨u, k b u hbe q⟩
end

/-! ### the heap without what is tracked -/
def trk (h : Heap) (H : Hp) : List Addr := (List.range h.objs.size).filter fun a => (H a).isSome
def hidT (h : Heap) (H : Hp) : Heap := PySem.W.hideAll h (trk h H)
theorem hidT_size (h : Heap) (H : Hp) : (hidT h H).objs.size = h.objs.size := PySem.W.hideAll_size _ _
theorem hidT_get {h : Heap} {H : Hp} {b : Addr} {o : Obj} (e : h.get? b = some o) (n : H b = none) : (hidT h H).get? b = some o :=
  PySem.W.hideAll_get _ e fun hm => by
    have q : (H b).isSome = true := (List.mem_filter.mp hm).2
    rw [n] at q; simp at q
theorem of_hidT {h : Heap} {H : Hp} {b : Addr} {o : Obj} (e : (hidT h H).get? b = some o) : h.get? b = some o ∧ H b = none := by
  have e' : h.get? b = some o := PySem.W.of_hideAll (trk h H) e
  refine ⟨e', ?_⟩
  cases q : H b with
  | none => rfl
  | some x =>
    have hm : b ∈ trk h H := List.mem_filter.mpr ⟨List.mem_range.mpr (Heap.lt_size e'), by simp [q]⟩
    have z : (hidT h H).get? b = none := PySem.W.hideAll_none (trk h H) hm
    rw [z] at e; cases e

/-! ### OpenK's ledger, filled with every new object but one -/
def allNews (g h : Heap) (L : Addr) : List (Addr × Obj) := (List.range h.objs.size).filterMap fun a => if a = L ∨ (g.get? a).isSome = true then none else (h.get? a).map fun o => (a, o)
def rest (g h : Heap) (L d : Addr) : List (Addr × Obj) := (allNews g h L).filter fun p => decide (p.1 ≠ d)
end L2

namespace L2
open PySem PySem.Spec PyProof.Rows

/-- the module's facts, over the base: the heap at the law's entry without what is tracked there -/
structure Mod (K : PySem.W.Frag) (mg : Str → Option Value) (base : Heap) : Prop where
  kin : K.In base
  glob : base.Ns mainGlobals mg
  blt : ∃ mb, base.Ns builtinsNs mb ∧ ∀ x : Str, x ≠ "__name__" → mb x = bootBuiltins x
  nolimit : base.NoLimit

/-- the context: a def's body (or a comprehension's block) running. base: fixed through the whole law; s₀, H₀: the entry; outer: the frames whose slots others may change (a def's callers); stack: all frames that run;
   ex: iterators that were made ahead of the entry and are walked here (a comprehension's); fn: the names whose cells were made at the entry (a def: all; a comprehension's block: its own); calm: not within an except suite; pn: pins that every state bears; xe: what is wanted of an exception that leaves the code -/
structure Cx where
  prog : Program
  w : World
  K : PySem.W.Frag
  mg : Str → Option Value
  base : Heap
  A : Around
  N : List Str
  s₀ : Shared
  H₀ : Hp
  env : Env
  outer : List Env
  stack : List Env
  ex : List Addr
  fn : Str → Bool
  calm : Bool
  pn : List (Addr × Obj)
  xe : Value → Shared → Prop
/-- the callers' frames -/
def frs (l : List Env) : List Addr := l.filterMap (·.frame)
abbrev Cx.fs (X : Cx) : List Addr := frs X.outer

def Vis (sc : Scope) (x : Str) : Prop := sc.names.lookup x = some .local ∨ sc.names.lookup x = some .cell ∨ sc.names.lookup x = some .free
def Loc (sc : Scope) (x : Str) : Prop := sc.names.lookup x = some .local ∨ sc.names.lookup x = some .cell
def Look (env : Env) (h : Heap) (m : Str → Option Value) (x : Str) (u : Value) : Prop :=
  (env.kindOf x = some .local ∧ m x = some u) ∨ ((env.kindOf x = some .cell ∨ env.kindOf x = some .free) ∧ ∃ c, env.cells.lookup x = some c ∧ h.IsCell c (some u))

structure Cx.Ok (X : Cx) : Prop where
  mod : Mod X.K X.mg X.base
  kind : X.env.scope.kind = .function
  glob : X.env.globals = mainGlobals
  blt : X.env.builtins = builtinsNs
  above : X.s₀.heap.objs.size ≤ X.env.locals
  inj : ∀ x y c, X.env.cells.lookup x = some c → X.env.cells.lookup y = some c → x = y
  has : ∀ x, (X.env.kindOf x = some .cell ∨ X.env.kindOf x = some .free) → ∃ c, X.env.cells.lookup x = some c
  cab : ∀ x c, X.fn x = true → X.env.cells.lookup x = some c → X.s₀.heap.objs.size ≤ c
  hd : X.calm = true → X.A.handled = none
  frames : X.A.frames = some X.stack
  stk : X.stack = X.outer ∨ (X.stack = X.env :: X.outer ∧ X.env.frame = some X.env.locals)
  exf : ∀ b ∈ X.ex, b ≠ X.env.locals ∧ ∀ x c, X.env.cells.lookup x = some c → c ≠ b
  bs : ∀ b o, X.base.get? b = some o → X.s₀.heap.get? b = some o ∧ X.H₀ b = none
  bsz : X.base.objs.size ≤ X.s₀.heap.objs.size
  noex : ∀ b o, X.base.get? b = some o → b ∉ X.ex
  exfs : ∀ b ∈ X.ex, b ∉ X.fs
  funs : X.s₀.heap.FunFrames X.base X.outer
  frf : ∀ b ∈ X.fs, X.H₀ b = none

structure Inv (X : Cx) (pins : List (Addr × Obj)) (σ : List (Option V)) (H : Hp) (s : Shared) : Prop where
  ok : X.Ok
  os : s.os = X.s₀.os
  bare : AllBare s.gens
  base : Un X.fs X.ex X.H₀ H X.s₀.heap s.heap
  loc : ∃ m, s.heap.Ns X.env.locals m ∧ ∀ (i : Nat) (x : Str) (v : V), X.N[i]? = some x → σ[i]? = some (some v) → Vis X.env.scope x → ∃ u, RelV v u ∧ Look X.env s.heap m x u
  cell : ∀ x c, X.env.cells.lookup x = some c → ∃ v, s.heap.IsCell c v
  free : H X.env.locals = none
  freeC : ∀ x c, X.env.cells.lookup x = some c → H c = none
  pin : ∀ p ∈ X.pn ++ pins, s.heap.get? p.1 = some p.2 ∧ H p.1 = none ∧ p.1 ≠ X.env.locals ∧ p.1 ∉ X.fs ∧ ∀ v, p.2.data ≠ .cell v
  hok : HOk X.prog X.w H s.heap
  len : σ.length = X.N.length

section
variable {X : Cx} {pins : List (Addr × Obj)} {σ : List (Option V)} {H H' : Hp} {s : Shared} {h' : Heap}

theorem Cx.Ok.nofr (ok : X.Ok) {b : Addr} {o : Obj} (e : X.base.get? b = some o) : b ∉ X.fs := fun hb => by
  have := (ok.funs.mem hb).1
  rw [e] at this; cases this
theorem Inv.bs (I : Inv X pins σ H s) : ∀ b o, X.base.get? b = some o → s.heap.get? b = some o ∧ H b = none := fun b o e =>
  ⟨I.base.keep b o (I.ok.bs b o e).1 (I.ok.bs b o e).2 (I.ok.nofr e) (I.ok.noex b o e), I.base.free b o (I.ok.bs b o e).1 (I.ok.bs b o e).2 (I.ok.noex b o e)⟩
theorem Inv.bk (I : Inv X pins σ H s) : ∀ b o, X.base.get? b = some o → s.heap.get? b = some o := fun b o e => (I.bs b o e).1
theorem Inv.mod (I : Inv X pins σ H s) : Mod X.K X.mg X.base := I.ok.mod
theorem Inv.kIn (I : Inv X pins σ H s) : X.K.In s.heap := I.ok.mod.kin.keeps I.bk
/-- the frame over the base: for OpenK's rules (K.In X.base is I.mod.kin) -/
theorem Inv.fr (I : Inv X pins σ H s) : ∃ m, Fr X.base X.env.locals s.heap m :=
  let ⟨m, hn, _⟩ := I.loc
  ⟨m, hn, I.bk, Nat.le_trans I.ok.bsz I.ok.above⟩
theorem Inv.lt (I : Inv X pins σ H s) : X.env.locals < s.heap.objs.size := let ⟨_, hn, _⟩ := I.loc; hn.lt
theorem Inv.sz (I : Inv X pins σ H s) : X.s₀.heap.objs.size ≤ s.heap.objs.size := Nat.le_trans I.ok.above (Nat.le_of_lt I.lt)
theorem Inv.nofs (I : Inv X pins σ H s) {a : Addr} (h : s.heap.objs.size ≤ a) : a ∉ X.fs := fun hb => by
  obtain ⟨_, o, ho, _⟩ := I.ok.funs.mem hb
  exact absurd (Nat.lt_of_lt_of_le (Heap.lt_size ho) (Nat.le_trans I.sz h)) (Nat.lt_irrefl _)
theorem Inv.cne (I : Inv X pins σ H s) : ∀ x c, X.env.cells.lookup x = some c → c ≠ X.env.locals := fun x c e z => by
  obtain ⟨v, o, ho, hd⟩ := I.cell x c e
  obtain ⟨m, ⟨o', es, ep, ho', hd', _⟩, _⟩ := I.loc
  rw [z, ho'] at ho; cases ho; rw [hd'] at hd; cases hd
theorem Inv.funs (I : Inv X pins σ H s) : s.heap.FunFrames X.base X.outer := by
  have all : ∀ (l : List Env), (∀ b ∈ frs l, b ∈ X.fs) → X.s₀.heap.FunFrames X.base l → s.heap.FunFrames X.base l := by
    intro l
    induction l with
    | nil => intro _ _; trivial
    | cons env r ih =>
      intro hs hl
      obtain ⟨hk, ⟨L, o, hf, hn, ho, hd⟩, hr⟩ := hl
      have hL : L ∈ X.fs := hs L (by unfold frs; rw [List.filterMap_cons, hf]; exact List.mem_cons_self)
      obtain ⟨sl, e⟩ := I.base.slot L o ho (I.ok.frf L hL) hL fun z => I.ok.exfs L z hL
      exact ⟨hk, ⟨L, _, hf, hn, e, hd⟩, ih (fun b hb => hs b (by unfold frs; rw [List.filterMap_cons, hf]; exact List.mem_cons_of_mem _ hb)) hr⟩
  exact all X.outer (fun _ hb => hb) I.ok.funs

/-- the frames that run, for a call -/
theorem Inv.stack (I : Inv X pins σ H s) : s.heap.FunFrames X.base X.stack := by
  rcases I.ok.stk with e | ⟨e, hf⟩
  · rw [e]; exact I.funs
  · rw [e]
    obtain ⟨m, hn, _⟩ := I.loc
    refine .cons (by rw [I.ok.kind]; decide) hf hn ?_ I.funs
    exact Heap.get?_none_of_le (Nat.le_trans I.ok.bsz I.ok.above)
theorem Inv.stkSub (I : Inv X pins σ H s) : ∀ b ∈ frs X.stack, b ∈ X.env.locals :: X.fs := fun b hb => by
  rcases I.ok.stk with e | ⟨e, hf⟩
  · rw [e] at hb; exact List.mem_cons_of_mem _ hb
  · rw [e] at hb
    unfold frs at hb
    rw [List.filterMap_cons, hf] at hb
    exact hb
theorem Inv.stkFree (I : Inv X pins σ H s) : ∀ b ∈ frs X.stack, H b = none := fun b hb => by
  rcases List.mem_cons.mp (I.stkSub b hb) with e | hb
  · rw [e]; exact I.free
  · obtain ⟨_, o, ho, _⟩ := I.ok.funs.mem hb
    exact I.base.free b o ho (I.ok.frf b hb) fun z => I.ok.exfs b z hb

/-- THE STEP: the untracked objects but the frame and the records at ch are kept (the callers' frames up to slots), the frame's map is kept, the new abstract heap is held -/
theorem Inv.step {g' : Array GenState} {t' : Nat} {d' : Drawn} {ch : List Addr} (I : Inv X pins σ H s)
    (hch : ∀ b ∈ ch, (b ∈ X.ex ∨ X.s₀.heap.objs.size ≤ b) ∧ b ≠ X.env.locals ∧ (∀ x c, X.env.cells.lookup x = some c → c ≠ b) ∧ ∀ p ∈ X.pn ++ pins, p.1 ≠ b)
    (keep : ∀ b o, b ≠ X.env.locals → b ∉ X.fs → b ∉ ch → s.heap.get? b = some o → H b = none → h'.get? b = some o)
    (slot : ∀ b o, b ≠ X.env.locals → b ∈ X.fs → b ∉ ch → s.heap.get? b = some o → H b = none → ∃ sl, h'.get? b = some { o with slots := sl }) (free : ∀ b o, b ∉ ch → s.heap.get? b = some o → H b = none → H' b = none)
    (there : ∀ b o, b ∉ ch → s.heap.get? b = some o → ∃ o', h'.get? b = some o')
    (tups : ∀ b xs, H b = some (.tup xs) → H' b = some (.tup xs)) (frzs : ∀ b o u, H b = some (.frz o u) → H' b = some (.frz o u)) (tbls : ∀ b ps, H b = some (.tbl ps) → ∃ more, H' b = some (.tbl (ps ++ more)))
    (ns : ∀ m, s.heap.Ns X.env.locals m → h'.Ns X.env.locals m) (hok : HOk X.prog X.w H' h') (hg : AllBare g') :
    Inv X pins σ H' { s with heap := h', gens := g', drawn := d', toks := t' } := by
  have neL : ∀ b o, X.s₀.heap.get? b = some o → b ≠ X.env.locals := fun b o e => Nat.ne_of_lt (Nat.lt_of_lt_of_le (Heap.lt_size e) I.ok.above)
  have neC : ∀ b o, X.s₀.heap.get? b = some o → b ∉ X.ex → b ∉ ch := fun b o e hx hb => by
    rcases (hch b hb).1 with z | z
    · exact hx z
    · exact absurd (Nat.lt_of_lt_of_le (Heap.lt_size e) z) (Nat.lt_irrefl _)
  have cellK : ∀ x c, X.env.cells.lookup x = some c → ∀ v, s.heap.IsCell c v → h'.IsCell c v := fun x c e v ⟨o, ho, hd⟩ => by
    have nch : c ∉ ch := fun z => (hch c z).2.2.1 x c e rfl
    by_cases hc : c ∈ X.fs
    · obtain ⟨sl, q⟩ := slot c o (I.cne x c e) hc nch ho (I.freeC x c e)
      exact ⟨_, q, hd⟩
    · exact ⟨o, keep c o (I.cne x c e) hc nch ho (I.freeC x c e), hd⟩
  refine ⟨I.ok, I.os, hg, ⟨fun b o e n hb hx => ?_, fun b o e n hb hx => ?_, fun b o e n hx => ?_, fun b o e hx => ?_, fun b xs e => tups b xs (I.base.tups b xs e), fun b o xs e => frzs b o xs (I.base.frzs b o xs e), fun b ps e => ?_⟩, ?_, fun x c e => ?_, ?_, fun x c e => ?_, fun p hp => ?_, hok, I.len⟩
  · exact keep b o (neL b o e) hb (neC b o e hx) (I.base.keep b o e n hb hx) (I.base.free b o e n hx)
  · obtain ⟨sl, e1⟩ := I.base.slot b o e n hb hx
    obtain ⟨sl', e2⟩ := slot b _ (neL b o e) hb (neC b o e hx) e1 (I.base.free b o e n hx)
    exact ⟨sl', e2⟩
  · obtain ⟨o', e1⟩ := I.base.there b o e hx
    exact free b o' (neC b o e hx) e1 (I.base.free b o e n hx)
  · obtain ⟨o', e1⟩ := I.base.there b o e hx
    exact there b o' (neC b o e hx) e1
  · obtain ⟨m1, e1⟩ := I.base.tbls b ps e
    obtain ⟨m2, e2⟩ := tbls b _ e1
    exact ⟨m1 ++ m2, by rw [e2, Array.append_assoc]⟩
  · obtain ⟨m, hn, hl⟩ := I.loc
    refine ⟨m, ns m hn, fun i x v e1 e2 e3 => ?_⟩
    obtain ⟨u, r, l⟩ := hl i x v e1 e2 e3
    refine ⟨u, r, ?_⟩
    rcases l with l | ⟨k, c, e, z⟩
    · exact .inl l
    · exact .inr ⟨k, c, e, cellK x c e _ z⟩
  · obtain ⟨v, z⟩ := I.cell x c e
    exact ⟨v, cellK x c e v z⟩
  · obtain ⟨m, ⟨o, _, _, ho, _⟩, _⟩ := I.loc
    exact free _ o (fun z => (hch _ z).2.1 rfl) ho I.free
  · obtain ⟨v, o, ho, hd⟩ := I.cell x c e
    exact free c o (fun z => (hch c z).2.2.1 x c e rfl) ho (I.freeC x c e)
  · obtain ⟨e, n, ne, nf, d⟩ := I.pin p hp
    have nch : p.1 ∉ ch := fun z => (hch p.1 z).2.2.2 p hp rfl
    exact ⟨keep p.1 p.2 ne nf nch e n, free p.1 p.2 nch e n, ne, nf, d⟩
/-- .. where the frame's own object is kept too -/
theorem Inv.un {t' : Nat} (I : Inv X pins σ H s) (u : Un X.fs [] H H' s.heap h') (hok : HOk X.prog X.w H' h') : Inv X pins σ H' { s with heap := h', toks := t' } := by
  obtain ⟨m, ⟨o, es, ep, ho, r⟩, _⟩ := id I.loc
  obtain ⟨sl, hL⟩ := u.any ho I.free (by simp)
  exact I.step (g' := s.gens) (d' := s.drawn) (ch := []) (fun _ z => nomatch z) (fun b o _ hb _ e n => u.keep b o e n hb (by simp)) (fun b o _ hb _ e n => u.slot b o e n hb (by simp)) (fun b o _ e n => u.free b o e n (by simp)) (fun b o _ e => u.there b o e (by simp)) u.tups u.frzs u.tbls (fun m' hm => by
    obtain ⟨o', es', ep', ho', r'⟩ := hm
    rw [ho] at ho'; cases ho'
    exact ⟨_, es', ep', hL, r'⟩) hok I.bare
/-- behind a call (or a comprehension's block): the slots of this frame may have changed too, the records at ch may have turned -/
theorem Inv.call {g' : Array GenState} {t' : Nat} {d' : Drawn} {ch : List Addr} (I : Inv X pins σ H s) (u : Un (frs X.stack) ch H H' s.heap h') (hok : HOk X.prog X.w H' h') (hg : AllBare g')
    (hch : ∀ b ∈ ch, (b ∈ X.ex ∨ X.s₀.heap.objs.size ≤ b) ∧ b ≠ X.env.locals ∧ (∀ x c, X.env.cells.lookup x = some c → c ≠ b) ∧ ∀ p ∈ X.pn ++ pins, p.1 ≠ b) :
    Inv X pins σ H' { s with heap := h', gens := g', drawn := d', toks := t' } := by
  obtain ⟨m, ⟨o, es, ep, ho, r⟩, _⟩ := id I.loc
  obtain ⟨sl, hL⟩ := u.any ho I.free fun z => (hch _ z).2.1 rfl
  exact I.step (ch := ch) hch (fun b o hL hb hc e n => u.keep b o e n (fun z => (List.mem_cons.mp (I.stkSub b z)).elim hL hb) hc) (fun b o _ _ hc e n => u.any e n hc) (fun b o hc e n => u.free b o e n hc) (fun b o hc e => u.there b o e hc) u.tups u.frzs u.tbls (fun m' hm => by
    obtain ⟨o', es', ep', ho', r'⟩ := hm
    rw [ho] at ho'; cases ho'
    exact ⟨_, es', ep', hL, r'⟩) hok hg
/-- an untracked record of ours (an iterator) has turned -/
theorem Inv.turned {t' : Nat} {it : Addr} (I : Inv X pins σ H s) (k : ∀ b o, b ≠ it → s.heap.get? b = some o → h'.get? b = some o) (hn : H it = none) (hL : it ≠ X.env.locals)
    (h1 : it ∈ X.ex ∨ X.s₀.heap.objs.size ≤ it) (h2 : ∀ x c, X.env.cells.lookup x = some c → c ≠ it) (h3 : ∀ p ∈ X.pn ++ pins, p.1 ≠ it) : Inv X pins σ H { s with heap := h', toks := t' } := by
  have nit : ∀ b u, H b = some u → b ≠ it := fun b u e z => by rw [z, hn] at e; cases e
  refine I.step (g' := s.gens) (d' := s.drawn) (ch := [it]) (fun b hb => ?_) (fun b o _ _ hc e _ => k b o (fun z => hc (by simp [z])) e) (fun b o _ _ hc e _ => ⟨o.slots, k b o (fun z => hc (by simp [z])) e⟩) (fun _ _ _ _ n => n)
    (fun b o hc e => ⟨o, k b o (fun z => hc (by simp [z])) e⟩) (fun _ _ e => e) (fun _ _ _ e => e) (fun b ps e => ⟨#[], by rw [e]; simp⟩) (fun m hm => ?_) (fun b u e => ?_) I.bare
  · have e : b = it := by simpa using hb
    subst e
    exact ⟨h1, hL, h2, h3⟩
  · obtain ⟨o, es, ep, ho, r⟩ := hm
    exact ⟨o, es, ep, k _ o (Ne.symm hL) ho, r⟩
  · refine (I.hok b u e).stay (fun c v hc q => k c v ?_ q) (fun _ q => q) fun _ _ q => q
    rcases hc with z | z
    · rw [z]; exact nit b u e
    · exact nit c _ z
theorem Inv.tok (I : Inv X pins σ H s) (t : Nat) : Inv X pins σ H { s with toks := t } := I.un (h' := s.heap) (t' := t) Un.refl I.hok
/-- all objects kept -/
theorem Inv.kept {t' : Nat} (I : Inv X pins σ H s) (k : ∀ b u, s.heap.get? b = some u → h'.get? b = some u) : Inv X pins σ H { s with heap := h', toks := t' } := I.un (Un.kept k) (I.hok.kept k)
/-- a new object laid and tracked -/
theorem Inv.laid {a : Addr} {o : HO} {t' : Nat} (I : Inv X pins σ H s) (k : ∀ b u, s.heap.get? b = some u → h'.get? b = some u) (hp : s.heap.objs.size ≤ a) (new : ObjOk X.prog X.w (upd H a o) h' a o) :
    Inv X pins σ (upd H a o) { s with heap := h', toks := t' } := I.un (Un.laid k hp (I.hok.fresh hp)) (I.hok.laid k hp new)
/-- an object written -/
theorem Inv.write {x e : Addr} {o : HO} {t' : Nat} (I : Inv X pins σ H s) (mu : Mut (H x)) (he : e = x ∨ H e = some (.own x)) (k : ∀ b u, b ≠ e → s.heap.get? b = some u → h'.get? b = some u) (heo : ∃ u, h'.get? e = some u)
    (new : ObjOk X.prog X.w (upd H x o) h' x o) : Inv X pins σ (upd H x o) { s with heap := h', toks := t' } := I.un (Un.write mu he k heo) (I.hok.write mu he k heo new)
/-- forgetting slots, pins -/
theorem Inv.weak {σ' : List (Option V)} (I : Inv X pins σ H s) (hl : σ'.length = σ.length) (w : ∀ (i : Nat) v, σ'[i]? = some (some v) → σ[i]? = some (some v)) : Inv X pins σ' H s :=
  ⟨I.ok, I.os, I.bare, I.base, let ⟨m, hn, hl'⟩ := I.loc; ⟨m, hn, fun i x v e1 e2 e3 => hl' i x v e1 (w i v e2) e3⟩, I.cell, I.free, I.freeC, I.pin, I.hok, hl.trans I.len⟩
theorem Inv.pins_of {pins' : List (Addr × Obj)} (I : Inv X pins σ H s) (h : ∀ p ∈ pins', s.heap.get? p.1 = some p.2 ∧ H p.1 = none ∧ p.1 ≠ X.env.locals ∧ p.1 ∉ X.fs ∧ ∀ v, p.2.data ≠ .cell v) : Inv X pins' σ H s :=
  ⟨I.ok, I.os, I.bare, I.base, I.loc, I.cell, I.free, I.freeC, fun p hp => (List.mem_append.mp hp).elim (fun z => I.pin p (List.mem_append_left _ z)) (h p), I.hok, I.len⟩

theorem nodup_ix {N : List Str} (hN : N.Nodup) {i j : Nat} {x : Str} (a : N[i]? = some x) (b : N[j]? = some x) : i = j := by
  obtain ⟨h1, e1⟩ := List.getElem?_eq_some_iff.mp a
  obtain ⟨h2, e2⟩ := List.getElem?_eq_some_iff.mp b
  exact (List.getElem_inj hN).mp (e1.trans e2.symm)

/-- a name is stored; what changed -/
theorem store_ok2 {M : Model} {A : Around} {E : Value → Shared → Prop} {i : Nat} {x : Str} {v : V} {u : Value} {Q : Unit → Shared → Prop} (I : Inv X pins σ H s) (hN : X.N.Nodup) (hi : X.N[i]? = some x) (hx : Loc X.env.scope x) (r : RelV v u)
    (h : ∀ s', Inv X pins (σ.set i (some v)) H s' → (∃ a, Heap.SameBut a s.heap s'.heap ∧ (a = X.env.locals ∨ X.env.cells.lookup x = some a)) → Q () s') (hf : X.fn x = true ∨ X.env.scope.names.lookup x = some .local := by first | exact .inl rfl | exact .inr rfl | assumption) : wpAny M A (storeName X.env x u) Q E s := by
  obtain ⟨m, hn, hl⟩ := id I.loc
  have hcls : (X.env.scope.kind == .class || (X.env.scope.kind == .module && X.env.locals != X.env.globals)) = false := by rw [I.ok.kind]; rfl
  have hiσ : i < σ.length := by rw [I.len]; exact (List.getElem?_eq_some_iff.mp hi).1
  have cne := I.cne
  have tracked : ∀ {a : Addr} {h' : Heap}, (∃ o, s.heap.get? a = some o ∧ H a = none) → Heap.SameBut a s.heap h' → HOk X.prog X.w H h' := fun {a h'} ha hs b ob e => by
    obtain ⟨_, _, hfree⟩ := ha
    refine (I.hok b ob e).stay (fun c w' hc q => (hs.2 c ?_).trans q) (fun _ q => q) fun _ _ q => q
    rintro rfl
    rcases hc with rfl | hc
    · rw [hfree] at e; cases e
    · rw [hfree] at hc; cases hc
  rcases hx with hk | hk
  · refine wpAny_storeName_local hk hn (fun h' hn' hs => ?_) hcls
    obtain ⟨oL, _, _, hoL, _⟩ := id hn
    refine h _ ⟨I.ok, I.os, I.bare, ⟨fun b o e n hb hx => ?_, fun b o e n hb hx => ?_, I.base.free, fun b o e hx => ?_, I.base.tups, I.base.frzs, I.base.tbls⟩, ⟨_, hn', fun j y v' e1 e2 e3 => ?_⟩, fun y c e => ?_, I.free, I.freeC, fun p hp => ?_, tracked ⟨oL, hoL, I.free⟩ hs, by simpa using I.len⟩ ⟨_, hs, .inl rfl⟩
    · exact (hs.2 b (Nat.ne_of_lt (Nat.lt_of_lt_of_le (Heap.lt_size e) I.ok.above))).trans (I.base.keep b o e n hb hx)
    · obtain ⟨sl, e1⟩ := I.base.slot b o e n hb hx
      exact ⟨sl, (hs.2 b (Nat.ne_of_lt (Nat.lt_of_lt_of_le (Heap.lt_size e) I.ok.above))).trans e1⟩
    · obtain ⟨o', e1⟩ := I.base.there b o e hx
      exact ⟨o', (hs.2 b (Nat.ne_of_lt (Nat.lt_of_lt_of_le (Heap.lt_size e) I.ok.above))).trans e1⟩
    · by_cases hj : j = i
      · subst hj
        rw [hi] at e1; cases e1
        rw [List.getElem?_set_self hiσ] at e2
        cases e2
        exact ⟨u, r, .inl ⟨hk, by simp⟩⟩
      · rw [List.getElem?_set_ne (Ne.symm hj)] at e2
        obtain ⟨u', r', q⟩ := hl j y v' e1 e2 e3
        refine ⟨u', r', ?_⟩
        rcases q with ⟨k, e⟩ | ⟨k, c, e, z⟩
        · refine .inl ⟨k, ?_⟩
          have : y ≠ x := fun e => hj (nodup_ix hN e1 (e ▸ hi))
          simp [this, e]
        · exact .inr ⟨k, c, e, z.sameBut hs (cne y c e)⟩
    · obtain ⟨w', z⟩ := I.cell y c e
      exact ⟨w', z.sameBut hs (cne y c e)⟩
    · obtain ⟨e, n, ne, nf, d⟩ := I.pin p hp
      exact ⟨(hs.2 p.1 ne).trans e, n, ne, nf, d⟩
  · have hfn : X.fn x = true := by
      rcases hf with z | z
      · exact z
      · rw [z] at hk; cases hk
    obtain ⟨c, hc⟩ := I.ok.has x (.inl hk)
    obtain ⟨w', z⟩ := I.cell x c hc
    refine wpAny_storeName_cell I.ok.kind hk hc z (fun h' hc' hs => ?_)
    obtain ⟨oc, hoc, hocd⟩ := id z
    refine h { s with heap := h' } ⟨I.ok, I.os, I.bare, ⟨fun b o e n hb hx => ?_, fun b o e n hb hx => ?_, I.base.free, fun b o e hx => ?_, I.base.tups, I.base.frzs, I.base.tbls⟩, ⟨m, hn.sameBut hs (Ne.symm (cne x c hc)), fun j y v' e1 e2 e3 => ?_⟩, fun y c' e => ?_, I.free, I.freeC, fun p hp => ?_, tracked ⟨oc, hoc, I.freeC x c hc⟩ hs, by simpa using I.len⟩ ⟨c, hs, .inr hc⟩
    · exact (hs.2 b (Nat.ne_of_lt (Nat.lt_of_lt_of_le (Heap.lt_size e) (I.ok.cab x c hfn hc)))).trans (I.base.keep b o e n hb hx)
    · obtain ⟨sl, e1⟩ := I.base.slot b o e n hb hx
      exact ⟨sl, (hs.2 b (Nat.ne_of_lt (Nat.lt_of_lt_of_le (Heap.lt_size e) (I.ok.cab x c hfn hc)))).trans e1⟩
    · obtain ⟨o', e1⟩ := I.base.there b o e hx
      exact ⟨o', (hs.2 b (Nat.ne_of_lt (Nat.lt_of_lt_of_le (Heap.lt_size e) (I.ok.cab x c hfn hc)))).trans e1⟩
    · by_cases hj : j = i
      · subst hj
        rw [hi] at e1; cases e1
        rw [List.getElem?_set_self hiσ] at e2
        cases e2
        exact ⟨u, r, .inr ⟨.inl hk, c, hc, hc'⟩⟩
      · rw [List.getElem?_set_ne (Ne.symm hj)] at e2
        obtain ⟨u', r', q⟩ := hl j y v' e1 e2 e3
        refine ⟨u', r', ?_⟩
        rcases q with q | ⟨k, c', e, z'⟩
        · exact .inl q
        · refine .inr ⟨k, c', e, z'.sameBut hs ?_⟩
          rintro rfl
          exact hj (nodup_ix hN e1 (I.ok.inj _ _ _ e hc ▸ hi))
    · by_cases hcc : c' = c
      · subst hcc; exact ⟨_, hc'⟩
      · obtain ⟨w2, z2⟩ := I.cell y c' e
        exact ⟨w2, z2.sameBut hs hcc⟩
    · obtain ⟨e, n, ne, nf, d⟩ := I.pin p hp
      refine ⟨(hs.2 p.1 ?_).trans e, n, ne, nf, d⟩
      intro q
      rw [q, hoc] at e
      have q' : oc = p.2 := Option.some.inj e
      exact d w' (by rw [← q']; exact hocd)
theorem store_ok {M : Model} {A : Around} {E : Value → Shared → Prop} {i : Nat} {x : Str} {v : V} {u : Value} {Q : Unit → Shared → Prop} (I : Inv X pins σ H s) (hN : X.N.Nodup) (hi : X.N[i]? = some x) (hx : Loc X.env.scope x) (r : RelV v u)
    (h : ∀ s', Inv X pins (σ.set i (some v)) H s' → Q () s') (hf : X.fn x = true ∨ X.env.scope.names.lookup x = some .local := by first | exact .inl rfl | exact .inr rfl | assumption) : wpAny M A (storeName X.env x u) Q E s :=
  store_ok2 I hN hi hx r (fun s' I' _ => h s' I') hf
/-- behind a call or a block, the state as it is -/
theorem Inv.call' {s' : Shared} {ch : List Addr} (I : Inv X pins σ H s) (ho : s'.os = s.os) (u : Un (frs X.stack) ch H H' s.heap s'.heap) (hok : HOk X.prog X.w H' s'.heap) (hg : AllBare s'.gens)
    (hch : ∀ b ∈ ch, (b ∈ X.ex ∨ X.s₀.heap.objs.size ≤ b) ∧ b ≠ X.env.locals ∧ (∀ x c, X.env.cells.lookup x = some c → c ≠ b) ∧ ∀ p ∈ X.pn ++ pins, p.1 ≠ b) : Inv X pins σ H' s' := by
  obtain ⟨h', g', d', t', o'⟩ := s'
  have e : o' = s.os := ho
  subst e
  exact I.call (g' := g') (t' := t') (d' := d') u hok hg hch
end

/-! ### the judgements -/
/-- an exception: its class, its own dict's address (where it has one), the abstract heap behind it -/
abbrev XK := Value → Option Addr → Hp → Prop
abbrev St := List (Option V)
abbrev VK := V → Hp → Prop
/-- an expression's reading; a test's; an argument list's -/
abbrev TE := St → Hp → VK → Prop
abbrev TT := St → Hp → (Bool → Hp → Prop) → Prop
abbrev TA := St → Hp → (List V → Hp → Prop) → Prop
/-- what is wanted behind a statement -/
structure Ends where
  nx : St → Hp → Prop
  rt : VK
  bk : St → Hp → Prop := fun _ _ => False
  ct : St → Hp → Prop := fun _ _ => False
abbrev TS := Ends → St → Hp → Prop

def EP (X : Cx) (pins : List (Addr × Obj)) (σ : St) (Q : VK) (u : Value) (s' : Shared) : Prop := ∃ v H', Inv X pins σ H' s' ∧ RelV v u ∧ Q v H'
def TP (X : Cx) (pins : List (Addr × Obj)) (σ : St) (Q : Bool → Hp → Prop) (b : Bool) (s' : Shared) : Prop := ∃ H', Inv X pins σ H' s' ∧ Q b H'
def AP (X : Cx) (pins : List (Addr × Obj)) (σ : St) (Q : List V → Hp → Prop) (us : List Value) (s' : Shared) : Prop := ∃ vs H', Inv X pins σ H' s' ∧ Vals vs us ∧ Q vs H'
def SP (X : Cx) (pins : List (Addr × Obj)) (D : Ends) (f : Flow) (s' : Shared) : Prop :=
  match f with
  | .next => ∃ σ' H', Inv X pins σ' H' s' ∧ D.nx σ' H'
  | .brk => ∃ σ' H', Inv X pins σ' H' s' ∧ D.bk σ' H'
  | .cont => ∃ σ' H', Inv X pins σ' H' s' ∧ D.ct σ' H'
  | .ret u => ∃ v σ' H', Inv X pins σ' H' s' ∧ RelV v u ∧ D.rt v H'

def PE (X : Cx) (e : Expr) (t : TE) : Prop :=
  ∀ (pins : List (Addr × Obj)) (s : Shared) (σ : St) (H : Hp) (Q : VK), Inv X pins σ H s → t σ H Q → wpAny (model X.prog X.w) X.A (eval e X.env) (EP X pins σ Q) X.xe s
def PT (X : Cx) (e : Expr) (t : TT) : Prop :=
  ∀ (pins : List (Addr × Obj)) (s : Shared) (σ : St) (H : Hp) (Q : Bool → Hp → Prop), Inv X pins σ H s → t σ H Q → wpAny (model X.prog X.w) X.A (isTrue e X.env (eval e X.env)) (TP X pins σ Q) X.xe s
/-- a test whatever its 'whole' is (and, or) -/
def PW (X : Cx) (e : Expr) (t : TT) : Prop :=
  ∀ (whole : Sem Value) (pins : List (Addr × Obj)) (s : Shared) (σ : St) (H : Hp) (Q : Bool → Hp → Prop), Inv X pins σ H s → t σ H Q → wpAny (model X.prog X.w) X.A (isTrue e X.env whole) (TP X pins σ Q) X.xe s
theorem PW.pt {X : Cx} {e : Expr} {t : TT} (h : PW X e t) : PT X e t := h _
/-- an argument list (no star), from the left -/
def PA (X : Cx) (es : List Expr) (t : TA) : Prop :=
  ∀ (pos : Pos) (pins : List (Addr × Obj)) (s : Shared) (σ : St) (H : Hp) (Q : List V → Hp → Prop), Inv X pins σ H s → t σ H Q → wpAny (model X.prog X.w) X.A (spliced (backTo pos (starEach es X.env))) (AP X pins σ Q) X.xe s
def PS (X : Cx) (st : Stmt) (t : TS) : Prop :=
  ∀ (pins : List (Addr × Obj)) (s : Shared) (σ : St) (H : Hp) (D : Ends), Inv X pins σ H s → t D σ H → wpAny (model X.prog X.w) X.A (exec st X.env) (SP X pins D) X.xe s
def PSs (X : Cx) (st : List Stmt) (t : TS) : Prop :=
  ∀ (pins : List (Addr × Obj)) (s : Shared) (σ : St) (H : Hp) (D : Ends), Inv X pins σ H s → t D σ H → wpAny (model X.prog X.w) X.A (execs st X.env) (SP X pins D) X.xe s
/-- weaken the end -/
theorem thn {α : Type} {t : Sem α} {Q Q' : α → Shared → Prop} {M : Model} {A : Around} {E : Value → Shared → Prop} {s : Shared} (h : wpAny M A t Q E s) (hQ : ∀ a s, Q a s → Q' a s) : wpAny M A t Q' E s := wpAny_mono h hQ fun _ _ x => x
end L2

namespace L2
open PySem PySem.Spec PyProof.Rows
section
variable {X : Cx}

/-! ### names and constants -/
def tVar (i : Nat) : TE := fun σ H Q => ∃ v, σ[i]? = some (some v) ∧ Q v H
def tC (v : V) : TE := fun _ H Q => Q v H
theorem pe_var {i : Nat} {x : Str} {pos : Pos} (hN : X.N[i]? = some x) (hv : Vis X.env.scope x) (hd : (x == ("__debug__" : Str)) = false := by decide) (hcd : (x == ("__classdict__" : Str)) = false := by decide) : PE X (.Name x pos) (tVar i) := by
  intro pins s σ H Q I h
  obtain ⟨v, e, h⟩ := h
  obtain ⟨m, hn, hl⟩ := I.loc
  obtain ⟨u, r, l⟩ := hl i x v hN e hv
  have fin : EP X pins σ Q u s := ⟨v, H, I, r, h⟩
  rcases l with ⟨hk, hm⟩ | ⟨hk, c, hc, hcell⟩
  · exact wpAny_Name (wpAny_loadName_local I.ok.kind hk hn hm fin) hd
  · rcases hk with hk | hk
    · exact wpAny_Name (wpAny_loadName_cell I.ok.kind hk hc hcell fin) hd
    · exact wpAny_Name (wpAny_loadName_free I.ok.kind hk hc hcell fin hcd) hd
theorem pe_int {i j pos} : PE X (.Constant (.int i) j pos) (tC (.int i)) := fun _ _ _ H _ I h => wpAny_Constant_int ⟨.int i, H, I.tok _, ⟨_, rfl⟩, h⟩
theorem pe_bl {b j pos} : PE X (.Constant (.bool b) j pos) (tC (.bl b)) := fun _ _ _ H _ I h => Constant_bool ⟨.bl b, H, I, rfl, h⟩
theorem pe_non {j pos} : PE X (.Constant .none j pos) (tC .non) := fun _ _ _ H _ I h => Constant_none ⟨.non, H, I, rfl, h⟩
theorem pe_str {x j pos} : PE X (.Constant (.str x) j pos) (tC (.str x)) := fun _ _ _ H _ I h => Calls.Constant_str ⟨.str x, H, I.tok _, ⟨_, rfl⟩, h⟩

/-- a global name of the def -/
def Gl (X : Cx) (x : Str) : Prop := X.env.kindOf x = some .globalImplicit
theorem ld_glob {E : Value → Shared → Prop} {pins : List (Addr × Obj)} {s : Shared} {σ : St} {H : Hp} {x : Str} {u : Value} {pos : Pos} {Q : Value → Shared → Prop} (I : Inv X pins σ H s) (hg : Gl X x) (hm : X.mg x = some u) (h : Q u s)
    (hd : (x == ("__debug__" : Str)) = false := by decide) : wpAny (model X.prog X.w) X.A (eval (.Name x pos) X.env) Q E s :=
  Calls.Name_function_global I.ok.kind hg (Calls.loadGlobal_global (by rw [I.ok.glob]; exact I.mod.glob.keeps I.bk) hm h) hd
theorem ld_blt {E : Value → Shared → Prop} {pins : List (Addr × Obj)} {s : Shared} {σ : St} {H : Hp} {x : Str} {u : Value} {pos : Pos} {Q : Value → Shared → Prop} (I : Inv X pins σ H s) (hg : Gl X x) (hm : X.mg x = none) (hv : bootBuiltins x = some u) (h : Q u s)
    (hn : x ≠ "__name__" := by decide) (hd : (x == ("__debug__" : Str)) = false := by decide) : wpAny (model X.prog X.w) X.A (eval (.Name x pos) X.env) Q E s := by
  obtain ⟨mb, h1, h2⟩ := I.mod.blt
  exact Calls.Name_function_global I.ok.kind hg (Calls.loadGlobal_builtin (by rw [I.ok.glob]; exact I.mod.glob.keeps I.bk) hm (by rw [I.ok.blt]; exact h1.keeps I.bk) ((h2 x hn).trans hv) h) hd
/-- a module's constant, a class, a function, as a value -/
theorem pe_glob {x : Str} {v : V} {u : Value} {pos : Pos} (hg : Gl X x) (hm : X.mg x = some u) (r : RelV v u) (hd : (x == ("__debug__" : Str)) = false := by decide) : PE X (.Name x pos) (tC v) :=
  fun _ _ _ H _ I h => ld_glob I hg hm ⟨v, H, I, r, h⟩ hd
theorem pe_bltn {x : Str} {v : V} {u : Value} {pos : Pos} (hg : Gl X x) (hm : X.mg x = none) (hv : bootBuiltins x = some u) (r : RelV v u) (hn : x ≠ "__name__" := by decide) (hd : (x == ("__debug__" : Str)) = false := by decide) : PE X (.Name x pos) (tC v) :=
  fun _ _ _ H _ I h => ld_blt I hg hm hv ⟨v, H, I, r, h⟩ hn hd

/-! ### arithmetic -/
variable {a b : Expr} {ta tb : TE} {pos : Pos}
/-! ### comparisons -/
def PC (X : Cx) (op : CmpOp) (a b : Expr) (t : TE) : Prop :=
  ∀ (pins : List (Addr × Obj)) (s : Shared) (σ : St) (H : Hp) (Q : VK), Inv X pins σ H s → t σ H Q →
    wpAny (model X.prog X.w) X.A (eval a X.env) (fun v s₁ => wpAny (model X.prog X.w) X.A (eval b X.env) (fun u s₂ => wpAny (model X.prog X.w) X.A (compareOp op v u) (EP X pins σ Q) X.xe s₂) X.xe s₁) X.xe s
theorem nobehind (b : Expr) {op : CmpOp} (h : op ≠ .In) (h2 : op ≠ .NotIn) : behindInMarks op b = false := by
  have e1 : (op == CmpOp.In) = false := by cases op <;> first | rfl | exact absurd rfl h
  have e2 : (op == CmpOp.NotIn) = false := by cases op <;> first | rfl | exact absurd rfl h2
  cases b <;> simp [behindInMarks, e1, e2]
/-- is None -/
def tIsN (ta : TE) : TE := fun σ H Q => ta σ H fun x H1 => Q (.bl (decide (x = .non))) H1
def tNotN (ta : TE) : TE := fun σ H Q => ta σ H fun x H1 => Q (.bl (!decide (x = .non))) H1
theorem RelV.none_iff {x : V} {v : Value} (r : RelV x v) : (v == Value.none) = decide (x = .non) := by
  cases x with
  | non => cases r; rfl
  | bl _ => cases r; rfl
  | int _ => obtain ⟨t, rfl⟩ := r; rfl
  | str _ => obtain ⟨t, rfl⟩ := r; rfl
  | byt _ => obtain ⟨t, rfl⟩ := r; rfl
  | flt _ => obtain ⟨t, rfl⟩ := r; rfl
  | ref _ => cases r; rfl
  | ty _ => cases r; rfl
theorem pc_isN {j pos'} (ha : PE X a ta) : PC X .Is a (.Constant .none j pos') (tIsN ta) := by
  intro pins s σ H Q I h
  refine thn (ha pins s σ H _ I h) fun v s1 ⟨x, H1, I1, r1, q1⟩ => ?_
  exact Constant_none (is_none_gen ⟨.bl _, H1, I1, by rw [r1.none_iff]; rfl, q1⟩)
theorem pc_notN {j pos'} (ha : PE X a ta) : PC X .IsNot a (.Constant .none j pos') (tNotN ta) := by
  intro pins s σ H Q I h
  refine thn (ha pins s σ H _ I h) fun v s1 ⟨x, H1, I1, r1, q1⟩ => ?_
  exact Constant_none (isnot_none_gen ⟨.bl _, H1, I1, by rw [r1.none_iff]; rfl, q1⟩)
/-- a comparison as a value, as a test -/
def tB (t : TE) : TT := fun σ H Q => t σ H fun x H1 => ∃ c, x = .bl c ∧ Q c H1
theorem pe_cmp {op : CmpOp} {t : TE} (h : PC X op a b t) (h1 : behindInMarks op b = false := by first | exact nobehind _ (by decide) (by decide) | rfl) : PE X (.Compare a [op] [b] pos) t := fun pins s σ H Q I hw => wpAny_Compare1 (h pins s σ H Q I hw) h1
theorem pt_cmp {op : CmpOp} {t : TE} (h : PC X op a b t) (h1 : behindInMarks op b = false := by first | exact nobehind _ (by decide) (by decide) | rfl) : PT X (.Compare a [op] [b] pos) (tB t) := by
  intro pins s σ H Q I hw
  refine wpAny_isTrue_Compare1 (thn (h pins s σ H _ I hw) fun v s1 h1 => thn h1 fun u s2 h2 => thn h2 fun c s3 ⟨x, H1, I1, r1, q1⟩ => ?_) h1
  obtain ⟨d, rfl, q⟩ := q1
  cases r1
  exact wpAny_truthy_bool ⟨H1, I1, q⟩
/-- an expression whose value is a bool, as a test -/
theorem pt_val {e : Expr} {t : TE} (h : PE X e t) (he : ∀ whole, isTrue e X.env whole = (do let v ← whole; standAt e.pos; holding [v] (truthy v)) := by intro _; rfl) : PT X e (tB t) := by
  intro pins s σ H Q I hw
  refine isTrue_plain (thn (h pins s σ H _ I hw) fun v s1 ⟨x, H1, I1, r1, q1⟩ => ?_) (he _)
  obtain ⟨d, rfl, q⟩ := q1
  cases r1
  exact wpAny_truthy_bool ⟨H1, I1, q⟩

/-! ### and, or, not -/
variable {tA tB' : TT} {rest : List Expr}
def tAnd (t u : TT) : TT := fun σ H Q => t σ H fun c H1 => if c = true then u σ H1 Q else Q false H1
def tOr (t u : TT) : TT := fun σ H Q => t σ H fun c H1 => if c = true then Q true H1 else u σ H1 Q
def tNot (t : TT) : TT := fun σ H Q => t σ H fun c H1 => Q (!c) H1
theorem pw_and1 (ha : PT X a tA) : PW X (.BoolOp .And [a] pos) tA := by
  intro wh pins s σ H Q I h
  refine isTrue_and (thn (ha pins s σ H Q I h) fun c s1 e => ?_)
  cases c with
  | true => exact isTrue_and_nil e
  | false => exact e
theorem pw_or1 (ha : PT X a tA) : PW X (.BoolOp .Or [a] pos) tA := by
  intro wh pins s σ H Q I h
  refine isTrue_or (thn (ha pins s σ H Q I h) fun c s1 e => ?_)
  cases c with
  | false => exact isTrue_or_nil e
  | true => exact e
theorem pw_and (ha : PT X a tA) (hb : PW X (.BoolOp .And (b :: rest) pos) tB') : PW X (.BoolOp .And (a :: b :: rest) pos) (tAnd tA tB') := by
  intro wh pins s σ H Q I h
  refine isTrue_and (thn (ha pins s σ H _ I h) fun c s1 ⟨H1, I1, q1⟩ => ?_)
  cases c with
  | true => exact hb wh pins s1 σ H1 Q I1 q1
  | false => exact ⟨H1, I1, q1⟩
theorem pw_or (ha : PT X a tA) (hb : PW X (.BoolOp .Or (b :: rest) pos) tB') : PW X (.BoolOp .Or (a :: b :: rest) pos) (tOr tA tB') := by
  intro wh pins s σ H Q I h
  refine isTrue_or (thn (ha pins s σ H _ I h) fun c s1 ⟨H1, I1, q1⟩ => ?_)
  cases c with
  | true => exact ⟨H1, I1, q1⟩
  | false => exact hb wh pins s1 σ H1 Q I1 q1
theorem pt_not (ha : PT X a tA) : PT X (.UnaryOp .Not a pos) (tNot tA) := by
  intro pins s σ H Q I h
  exact isTrue_not (ha pins s σ H (fun c H1 => Q (!c) H1) I h)
/-- .. as values (bools) -/
def tAndV (ta tb : TE) : TE := fun σ H Q => ta σ H fun x H1 => ∃ c, x = .bl c ∧ if c = true then tb σ H1 Q else Q (.bl false) H1
def tNotV (ta : TE) : TE := fun σ H Q => ta σ H fun x H1 => ∃ c, x = .bl c ∧ Q (.bl (!c)) H1
theorem pe_one {op} {t : TE} (h : PE X a t) : PE X (.BoolOp op [a] pos) t := fun pins s σ H Q I hw => BoolOp_one (h pins s σ H Q I hw)
theorem pe_and (ha : PE X a ta) (hb : PE X (.BoolOp .And (b :: rest) pos) tb) : PE X (.BoolOp .And (a :: b :: rest) pos) (tAndV ta tb) := by
  intro pins s σ H Q I h
  refine BoolOp_and (thn (ha pins s σ H _ I h) fun v s1 ⟨x, H1, I1, r1, q1⟩ => ?_)
  obtain ⟨c, rfl, q1⟩ := q1
  cases r1
  refine wpAny_truthy_bool ?_
  cases c with
  | true => exact hb pins s1 σ H1 Q I1 q1
  | false => exact ⟨.bl false, H1, I1, rfl, q1⟩
theorem pe_not (ha : PE X a ta) : PE X (.UnaryOp .Not a pos) (tNotV ta) := by
  intro pins s σ H Q I h
  refine UnaryOp_ (thn (ha pins s σ H _ I h) fun v s1 ⟨x, H1, I1, r1, q1⟩ => ?_)
  obtain ⟨c, rfl, q1⟩ := q1
  cases r1
  exact not_of (wpAny_truthy_bool ⟨.bl (!c), H1, I1, rfl, q1⟩)
/-- a if t else b -/
def tIf (t : TT) (ta tb : TE) : TE := fun σ H Q => t σ H fun c H1 => if c = true then ta σ H1 Q else tb σ H1 Q
theorem pe_ifExp {c : Expr} (hc : PT X c tA) (ha : PE X a ta) (hb : PE X b tb) : PE X (.IfExp c a b pos) (tIf tA ta tb) := by
  intro pins s σ H Q I h
  refine wpAny_IfExp (thn (hc pins s σ H _ I h) fun d s1 ⟨H1, I1, q1⟩ => ?_)
  cases d with
  | true => exact ha pins s1 σ H1 Q I1 q1
  | false => exact hb pins s1 σ H1 Q I1 q1
end
end L2

namespace L2
open PySem PySem.Spec PyProof.Rows

/-! ### a list, a tuple that is read: tracked, frozen, or an object of the module -/
def SqL (K : PySem.W.Frag) (H : Hp) (a : Addr) (xs : List V) : Prop :=
  Rd H a (.lst xs) ∨
    ∃ (o : Obj) (its : Array Value) (n : Nat), K.lookup a = some o ∧ o.cls = .type "list" ∧ o.dict = none ∧ o.data = .seq its n ∧ its.size ≤ sizeLine ∧ Vals xs its.toList
def SqT (K : PySem.W.Frag) (H : Hp) (a : Addr) (xs : List V) : Prop :=
  Rd H a (.tup xs) ∨
    ∃ (o : Obj) (its : Array Value) (n : Nat), K.lookup a = some o ∧ o.cls = .type "tuple" ∧ o.data = .seq its n ∧ its.size ≤ sizeLine ∧ Vals xs its.toList
def absV : Value → Option V
  | .none => some .non
  | .bool b => some (.bl b)
  | .int i _ => some (.int i)
  | .str x _ => some (.str x)
  | .bytes b _ => some (.byt b)
  | .float b _ => some (.flt b)
  | .ref a => some (.ref a)
  | .type n => some (.ty n)
  | _ => none
theorem RelV.abs {x : V} {u : Value} (r : RelV x u) : absV u = some x := by
  cases x with
  | non => cases r; rfl
  | bl _ => cases r; rfl
  | int _ => obtain ⟨t, rfl⟩ := r; rfl
  | str _ => obtain ⟨t, rfl⟩ := r; rfl
  | byt _ => obtain ⟨t, rfl⟩ := r; rfl
  | flt _ => obtain ⟨t, rfl⟩ := r; rfl
  | ref _ => cases r; rfl
  | ty _ => cases r; rfl
theorem RelV.inj {x y : V} {u : Value} (r : RelV x u) (q : RelV y u) : x = y := Option.some.inj (r.abs.symm.trans q.abs)
theorem Vals.inj : ∀ {xs ys : List V} {us : List Value}, Vals xs us → Vals ys us → xs = ys
  | _, _, _, .nil, .nil => rfl
  | _, _, _, .cons r t, .cons r' t' => by rw [r.inj r', Vals.inj t t']
section
variable {X : Cx} {pins : List (Addr × Obj)} {σ : St} {H : Hp} {s : Shared} {a : Addr} {xs ys : List V}
theorem SqL.of {K : PySem.W.Frag} (h : H a = some (.lst xs)) : SqL K H a xs := .inl (.inl h)
theorem SqT.of {K : PySem.W.Frag} (h : H a = some (.tup xs)) : SqT K H a xs := .inl (.inl h)
theorem Inv.list (I : Inv X pins σ H s) (h : SqL X.K H a xs) : ∃ its : List Value, Vals xs its ∧ PlainL s.heap a its.toArray ∧ xs.length ≤ sizeLine := by
  rcases h with h | ⟨o, its, n, hk, hc, hd, hs, hz, r⟩
  · obtain ⟨z, its, n, r, e⟩ := h.ok I.hok
    exact ⟨its, r, ⟨_, n, e, rfl, rfl, rfl⟩, z⟩
  · refine ⟨its.toList, r, ⟨o, n, I.kIn a o hk, hc, hd, by simpa using hs⟩, ?_⟩
    have e := r.length
    simp only [Array.length_toList] at e
    omega
theorem Inv.tuple (I : Inv X pins σ H s) (h : SqT X.K H a xs) : ∃ its : List Value, Vals xs its ∧ IsTup s.heap a its.toArray ∧ xs.length ≤ sizeLine := by
  rcases h with h | ⟨o, its, n, hk, hc, hs, hz, r⟩
  · obtain ⟨z, its, r, p⟩ := h.ok I.hok
    exact ⟨its, r, p, z⟩
  · refine ⟨its.toList, r, ⟨o, I.kIn a o hk, hc, n, by simpa using hs⟩, ?_⟩
    have e := r.length
    simp only [Array.length_toList] at e
    omega
theorem Inv.list_inj (I : Inv X pins σ H s) (h : SqL X.K H a xs) (h' : SqL X.K H a ys) : xs = ys := by
  obtain ⟨its, r, ⟨o, n, e, _, _, d⟩, _⟩ := I.list h
  obtain ⟨its', r', ⟨o', n', e', _, _, d'⟩, _⟩ := I.list h'
  rw [e] at e'; cases e'
  rw [d] at d'
  injection d' with d1 _
  have : its = its' := by simpa using congrArg Array.toList d1
  subst this
  exact r.inj r'
end

/-! ### another wish about exceptions -/
abbrev Cx.wish (X : Cx) (E : Value → Shared → Prop) : Cx := { X with xe := E }
/-- no exception leaves -/
abbrev Cx.nox (X : Cx) : Cx := X.wish fun _ _ => False
theorem Cx.Ok.wish {X : Cx} (ok : X.Ok) (E : Value → Shared → Prop) : (X.wish E).Ok :=
  ⟨ok.mod, ok.kind, ok.glob, ok.blt, ok.above, ok.inj, ok.has, ok.cab, ok.hd, ok.frames, ok.stk, ok.exf, ok.bs, ok.bsz, ok.noex, ok.exfs, ok.funs, ok.frf⟩
theorem Cx.Ok.unwish {X : Cx} {E : Value → Shared → Prop} (ok : (X.wish E).Ok) : X.Ok :=
  ⟨ok.mod, ok.kind, ok.glob, ok.blt, ok.above, ok.inj, ok.has, ok.cab, ok.hd, ok.frames, ok.stk, ok.exf, ok.bs, ok.bsz, ok.noex, ok.exfs, ok.funs, ok.frf⟩
section
variable {X : Cx} {pins : List (Addr × Obj)} {σ : St} {H : Hp} {s : Shared} {E : Value → Shared → Prop}
theorem Inv.wish (I : Inv X pins σ H s) (E : Value → Shared → Prop) : Inv (X.wish E) pins σ H s := ⟨I.ok.wish E, I.os, I.bare, I.base, I.loc, I.cell, I.free, I.freeC, I.pin, I.hok, I.len⟩
theorem Inv.unwish (I : Inv (X.wish E) pins σ H s) : Inv X pins σ H s := ⟨I.ok.unwish, I.os, I.bare, I.base, I.loc, I.cell, I.free, I.freeC, I.pin, I.hok, I.len⟩
theorem SP.unwish {D : Ends} {f : Flow} {s' : Shared} (h : SP (X.wish E) pins D f s') : SP X pins D f s' := by
  cases f with
  | next => obtain ⟨σ', H', I, q⟩ := h; exact ⟨σ', H', I.unwish, q⟩
  | brk => obtain ⟨σ', H', I, q⟩ := h; exact ⟨σ', H', I.unwish, q⟩
  | cont => obtain ⟨σ', H', I, q⟩ := h; exact ⟨σ', H', I.unwish, q⟩
  | ret u => obtain ⟨v, σ', H', I, r, q⟩ := h; exact ⟨v, σ', H', I.unwish, r, q⟩
theorem PSs.nox {st : List Stmt} {t : TS} (h : PSs X.nox st t) : PSs X st t := fun pins s σ H D I hw =>
  wpAny_mono (h pins s σ H D (I.wish _) hw) (fun _ _ q => q.unwish) fun _ _ z => False.elim z
end

/-! ### blocks and small statements -/
section
variable {X : Cx} {st : Stmt} {rest : List Stmt} {t u : TS} {e : Expr} {te : TE} {pos : Pos}
def tNext : TS := fun D σ H => D.nx σ H
def tSeq (t u : TS) : TS := fun D σ H => t { D with nx := u D } σ H
theorem pss_nil : PSs X [] tNext := fun _ _ σ H _ I h => wpAny_execs_nil ⟨σ, H, I, h⟩
theorem pss_cons (h1 : PS X st t) (h2 : PSs X rest u) : PSs X (st :: rest) (tSeq t u) := by
  intro pins s σ H D I h
  refine wpAny_execs_cons (thn (h1 pins s σ H { D with nx := u D } I h) fun f s1 q => ?_)
  cases f with
  | next =>
    obtain ⟨σ', H', I', q⟩ := q
    exact h2 pins s1 σ' H' D I' q
  | ret v => exact q
  | brk => exact q
  | cont => exact q
theorem pss_one (h1 : PS X st t) : PSs X [st] t := by
  intro pins s σ H D I h
  refine wpAny_execs_cons (thn (h1 pins s σ H D I h) fun f s1 q => ?_)
  cases f with
  | next => exact wpAny_execs_nil q
  | ret v => exact q
  | brk => exact q
  | cont => exact q
/-- in a def's body nothing is shown -/
theorem Inv.quiet {pins : List (Addr × Obj)} {σ : St} {H : Hp} {s : Shared} (I : Inv X pins σ H s) : interactive X.env = false := by simp [interactive, I.ok.kind]
/-- an expression whose value is dropped -/
def tDrop (te : TE) : TS := fun D σ H => te σ H fun _ H1 => D.nx σ H1
theorem ps_expr (he : PE X e te) (hs : swapsWith e none pos.line X.env = pure false := by rfl) : PS X (.Expr e pos) (tDrop te) := by
  intro pins s σ H D I h
  exact wpAny_Expr_any (thn (he pins s σ H _ I h) fun v s1 ⟨x, H1, I1, r1, q1⟩ => ⟨σ, H1, I1, q1⟩) I.quiet hs
def tRet (te : TE) : TS := fun D σ H => te σ H D.rt
theorem ps_ret (he : PE X e te) : PS X (.Return (some e) pos) (tRet te) := by
  intro pins s σ H D I h
  exact wpAny_Return_some (thn (he pins s σ H _ I h) fun v s1 ⟨x, H1, I1, r1, q1⟩ => ⟨x, σ, H1, I1, r1, q1⟩)
def tIfS (c : TT) (t u : TS) : TS := fun D σ H => c σ H fun b H1 => if b = true then t D σ H1 else u D σ H1
theorem ps_if {c : Expr} {a b : List Stmt} {tc : TT} (hc : PT X c tc) (ha : PSs X a t) (hb : PSs X b u) : PS X (.If c a b pos) (tIfS tc t u) := by
  intro pins s σ H D I h
  refine wpAny_If (thn (hc pins s σ H _ I h) fun d s1 ⟨H1, I1, q1⟩ => ?_)
  cases d with
  | true => exact ha pins s1 σ H1 D I1 q1
  | false => exact hb pins s1 σ H1 D I1 q1
end

/-! ### targets -/
abbrev TG := V → St → Hp → (St → Hp → Prop) → Prop
abbrev TGs := List V → St → Hp → (St → Hp → Prop) → Prop
def PG (X : Cx) (target : Expr) (t : TG) : Prop :=
  ∀ (pins : List (Addr × Obj)) (s : Shared) (σ : St) (H : Hp) (v : V) (u : Value) (Q : St → Hp → Prop), Inv X pins σ H s → RelV v u → t v σ H Q →
    wpAny (model X.prog X.w) X.A (assign target X.env u) (fun _ s' => ∃ σ' H', Inv X pins σ' H' s' ∧ Q σ' H') X.xe s
/-- several targets, one after another -/
def PGs (X : Cx) (ts : List Expr) (t : TGs) : Prop :=
  ∀ (pins : List (Addr × Obj)) (s : Shared) (σ : St) (H : Hp) (vs : List V) (us : List Value) (Q : St → Hp → Prop), Inv X pins σ H s → Vals vs us → t vs σ H Q →
    wpAny (model X.prog X.w) X.A (assignInOrder ((assignEach ts X.env).map (·.2)) us) (fun _ s' => ∃ σ' H', Inv X pins σ' H' s' ∧ Q σ' H') X.xe s
/-- o[i] = v, by values -/
abbrev TSet := V → V → V → Hp → (Hp → Prop) → Prop
def PSet (X : Cx) (t : TSet) : Prop :=
  ∀ (pins : List (Addr × Obj)) (s : Shared) (σ : St) (H : Hp) (o i v : V) (ov iv u : Value) (Q : Hp → Prop), Inv X pins σ H s → RelV o ov → RelV i iv → RelV v u → t o i v H Q →
    wpAny (model X.prog X.w) X.A (setItem ov iv u) (fun _ s' => ∃ H', Inv X pins σ H' s' ∧ Q H') X.xe s
section
variable {X : Cx} {pos : Pos}
def gName (i : Nat) : TG := fun v σ H Q => Q (σ.set i (some v)) H
theorem pg_name {i : Nat} {x : Str} (hN : X.N.Nodup) (hi : X.N[i]? = some x) (hx : Loc X.env.scope x) (hf : X.fn x = true ∨ X.env.scope.names.lookup x = some .local := by first | exact .inl rfl | exact .inr rfl | assumption) : PG X (.Name x pos) (gName i) := by
  intro pins s σ H v u Q I r h
  exact wpAny_assign_Name (store_ok I hN hi hx r (fun s' I' => ⟨_, H, I', h⟩) hf)
def gNil : TGs := fun vs σ H Q => vs = [] ∧ Q σ H
def gCons (t : TG) (u : TGs) : TGs := fun vs σ H Q => ∃ v r, vs = v :: r ∧ t v σ H fun σ' H' => u r σ' H' Q
theorem pgs_nil : PGs X [] gNil := by
  intro pins s σ H vs us Q I r h
  obtain ⟨e, h⟩ := h
  subst e
  cases r
  exact assignInOrder_nil ⟨σ, H, I, h⟩
theorem pgs_cons {e : Expr} {es : List Expr} {t : TG} {u : TGs} (h1 : PG X e t) (h2 : PGs X es u)
    (hs : (assignEach (e :: es) X.env).map (·.2) = assign e X.env :: (assignEach es X.env).map (·.2) := by rfl) : PGs X (e :: es) (gCons t u) := by
  intro pins s σ H vs us Q I r h
  obtain ⟨v, vr, e1, h⟩ := h
  subst e1
  cases r with
  | cons r rr =>
    rw [hs]
    refine assignInOrder_cons (thn (h1 pins s σ H _ _ _ I r h) fun _ s1 ⟨σ1, H1, I1, q1⟩ => ?_)
    exact h2 pins s1 σ1 H1 _ _ Q I1 rr q1
/-- (a, b, ..) = a tuple of that length -/
def gTup (K : PySem.W.Frag) (n : Nat) (t : TGs) : TG := fun v σ H Q => ∃ a xs, v = .ref a ∧ SqT K H a xs ∧ xs.length = n ∧ t xs σ H Q
theorem pg_tup {es : List Expr} {k : Nat} {t : TGs} {n : Nat} (hc : X.calm = true) (h : PGs X es t)
    (hn : (assignEach es X.env).length = n := by rfl) (hst : (assignEach es X.env).findIdx? (·.1) = none := by rfl) : PG X (.Tuple es k pos) (gTup X.K n t) := by
  intro pins s σ H v u Q I r hw
  obtain ⟨a, xs, e1, hq, hl, hw⟩ := hw
  subst e1
  cases r
  obtain ⟨its, rv, ht, hz⟩ := I.tuple hq
  refine assign_Tuple_tuple (I.ok.hd hc) ht (by simp [hn, ← hl, rv.length]) hst fun h' hx => ?_
  have I1 : Inv X pins σ H { s with heap := h' } := I.kept (t' := s.toks) fun b o e => hx b o (Nat.ne_of_lt (Heap.lt_size e)) e
  exact h pins _ σ H xs _ Q I1 (by simpa using rv) hw
/-- o[i] = .. -/
def gSub (to ti : TE) (t : TSet) : TG := fun v σ H Q => to σ H fun o H1 => ti σ H1 fun i H2 => t o i v H2 fun H3 => Q σ H3
theorem pg_sub {o i : Expr} {to ti : TE} {t : TSet} (ho : PE X o to) (hi : PE X i ti) (hs : PSet X t)
    (ha : ∀ v, assign (.Subscript o i pos) X.env v = (do
      let ov ← holding [v] (eval o X.env)
      let iv ← holding [v, ov] (eval i X.env)
      standAt pos
      holding [v, ov, iv] (setItem ov iv v)
      release [v, ov, iv] []) := by intro _; rfl) : PG X (.Subscript o i pos) (gSub to ti t) := by
  intro pins s σ H v u Q I r h
  rw [ha]
  refine wpAny_bind (wpAny_holding (thn (ho pins s σ H _ I h) fun ov s1 ⟨x, H1, I1, r1, q1⟩ => ?_))
  refine wpAny_bind (wpAny_holding (thn (hi pins s1 σ H1 _ I1 q1) fun iv s2 ⟨y, H2, I2, r2, q2⟩ => ?_))
  refine wpAny_bind (wpAny_standAt (wpAny_bind (wpAny_holding (thn (hs pins s2 σ H2 x y v ov iv u _ I2 r1 r2 r q2) fun _ s3 ⟨H3, I3, q3⟩ => ?_))))
  exact wpAny_release ⟨σ, H3, I3, q3⟩
/-- target = value -/
def tAsg (te : TE) (g : TG) : TS := fun D σ H => te σ H fun x H1 => g x σ H1 D.nx
theorem ps_asg {tg e : Expr} {te : TE} {g : TG} (he : PE X e te) (hg : PG X tg g) (hs : swapsWithSole [tg] e pos.line X.env = pure false := by rfl) (hw : swappedStores [tg] e X.env = pure none := by rfl)
    (h1 : (assignEach [tg] X.env).map (·.2) = [assign tg X.env] := by rfl) : PS X (.Assign [tg] e pos) (tAsg te g) := by
  intro pins s σ H D I h
  refine wpAny_Assign_stores (thn (he pins s σ H _ I h) fun v s1 ⟨x, H1, I1, r1, q1⟩ => ?_) hs hw
  rw [h1]
  exact thn (hg pins s1 σ H1 x v _ I1 r1 q1) fun _ s2 q => q
/-- name = value -/
theorem ps_set {i : Nat} {x : Str} {e : Expr} {te : TE} {pos' : Pos} (hN : X.N.Nodup) (hi : X.N[i]? = some x) (hx : Loc X.env.scope x) (he : PE X e te) (hs : swapsWith e (some (.Name x pos')) pos.line X.env = pure false := by rfl) (hf : X.fn x = true ∨ X.env.scope.names.lookup x = some .local := by first | exact .inl rfl | exact .inr rfl | assumption) :
    PS X (.Assign [.Name x pos'] e pos) (tAsg te (gName i)) := by
  intro pins s σ H D I h
  refine wpAny_Assign_Name (thn (he pins s σ H _ I h) fun v s1 ⟨y, H1, I1, r1, q1⟩ => ?_) hs
  exact store_ok I1 hN hi hx r1 (fun s2 I2 => ⟨_, H1, I2, q1⟩) hf
end

/-! ### while -/
section
variable {X : Cx} {pos : Pos}
/-- the invariant W with its measure -/
def tWhile (c : TT) (tb : TS) : TS := fun D σ H => ∃ W : Nat → St → Hp → Prop, (∃ m, W m σ H) ∧ ∀ m σ H, W m σ H →
  c σ H fun b H1 => if b = true then ∃ N : St → Hp → Prop, (∀ σ' H', N σ' H' → ∃ m', m' < m ∧ W m' σ' H') ∧ tb { D with nx := N, ct := N, bk := D.nx } σ H1 else D.nx σ H1
theorem ps_while {c : Expr} {body : List Stmt} {tc : TT} {tb : TS} (hp : PassesOwn (model X.prog X.w) X.A X.env X.xe) (hc : PT X c tc) (hb : PSs X body tb) : PS X (.While c body [] pos) (tWhile tc tb) := by
  intro pins s σ H D I h
  obtain ⟨W, ⟨m0, w0⟩, turn⟩ := h
  refine wpAny_While (codeAny_whileLoop (fun n s' => ∃ σ' H', Inv X pins σ' H' s' ∧ W n σ' H') ?_ m0 ⟨σ, H, I, w0⟩)
  rintro n s1 ⟨σ1, H1, I1, w1⟩
  refine wpAny_passesOwn hp (thn (hc pins s1 σ1 H1 _ I1 (turn n σ1 H1 w1)) fun b s2 ⟨H2, I2, q2⟩ => ?_)
  cases b with
  | true =>
    obtain ⟨N, hN, q2⟩ := q2
    rw [if_pos rfl]
    refine wpAny_passesOwn hp (thn (hb pins s2 σ1 H2 _ I2 q2) fun f s3 q3 => ?_)
    cases f with
    | next =>
      obtain ⟨σ3, H3, I3, n3⟩ := q3
      obtain ⟨m', hm, w3⟩ := hN σ3 H3 n3
      exact ⟨m', hm, σ3, H3, I3, w3⟩
    | cont =>
      obtain ⟨σ3, H3, I3, n3⟩ := q3
      obtain ⟨m', hm, w3⟩ := hN σ3 H3 n3
      exact ⟨m', hm, σ3, H3, I3, w3⟩
    | brk => exact q3
    | ret v => exact q3
  | false =>
    rw [if_neg Bool.false_ne_true]
    exact wpAny_execs_nil ⟨σ1, H2, I2, q2⟩
end

/-! ### what a loop or a comprehension walks -/
/-- at turn i: it yields x (the heap may grow), or it stops -/
structure It where
  go : Nat → Hp → Prop
  yld : Nat → Hp → V → Hp → Prop
  stop : Nat → Hp → Prop
/-- the iterator's own objects may turn: they are not the frame's, not pinned, younger than the entry (or a comprehension's own) -/
def FpOk (X : Cx) (pins : List (Addr × Obj)) (H : Hp) (b : Addr) : Prop :=
  H b = none ∧ b ≠ X.env.locals ∧ b ∉ X.fs ∧ (b ∈ X.ex ∨ X.s₀.heap.objs.size ≤ b) ∧ (∀ x c, X.env.cells.lookup x = some c → c ≠ b) ∧ ∀ p ∈ X.pn ++ pins, p.1 ≠ b
theorem Inv.fpOk {X : Cx} {pins : List (Addr × Obj)} {σ : St} {H H' : Hp} {s : Shared} {b : Addr} (I : Inv X pins σ H s) (hb : s.heap.objs.size ≤ b) (hn : H' b = none) : FpOk X pins H' b := by
  refine ⟨hn, Nat.ne_of_gt (Nat.lt_of_lt_of_le I.lt hb), I.nofs hb, .inr (Nat.le_trans I.sz hb), fun x c e z => ?_, fun p hp z => ?_⟩
  · obtain ⟨v, q⟩ := I.cell x c e
    exact absurd (Nat.lt_of_lt_of_le q.lt (by rw [z]; exact hb)) (Nat.lt_irrefl _)
  · exact absurd (Nat.lt_of_lt_of_le (Heap.lt_size (I.pin p hp).1) (by rw [z]; exact hb)) (Nat.lt_irrefl _)
structure Turn (P : Program) (w : World) (K : PySem.W.Frag) (tg : Expr) (J : It) (fp : List Addr) (it : Addr) (tn : Nat → Heap → Prop) : Prop where
  mem : it ∈ fp
  obj : ∀ i h, tn i h → ∀ b ∈ fp, ∃ o, h.get? b = some o ∧ ∀ v, o.data ≠ .cell v
  keep : ∀ i h h', tn i h → (∀ b ∈ fp, ∀ o, h.get? b = some o → h'.get? b = some o) → tn i h'
  item : ∀ (X : Cx), X.prog = P → X.w = w → X.K = K → X.calm = true → ∀ (i : Nat) (pins : List (Addr × Obj)) (s : Shared) (σ : St) (H : Hp) (E : Value → Shared → Prop), Inv X pins σ H s → (∀ b ∈ fp, FpOk X pins H b) → tn i s.heap → J.go i H →
    wpAny (model P w) X.A (pyNext (.ref it)) (fun r s1 => ∃ u, r = some u ∧
      wpAny (model P w) X.A (letOwnedTupleGo tg (.ref it) u) (fun _ s2 => ∃ x H', Inv X pins σ H' s2 ∧ RelV x u ∧ J.yld i H x H' ∧ tn (i + 1) s2.heap ∧ ∀ b ∈ fp, H' b = none) E s1) E s
  done : ∀ (X : Cx), X.prog = P → X.w = w → X.K = K → X.calm = true → ∀ (i : Nat) (pins : List (Addr × Obj)) (s : Shared) (σ : St) (H : Hp) (E : Value → Shared → Prop), Inv X pins σ H s → (∀ b ∈ fp, FpOk X pins H b) → tn i s.heap → J.stop i H →
    wpAny (model P w) X.A (pyNext (.ref it)) (fun r s1 => r = none ∧ Inv X pins σ H s1) E s
  self : ∀ (A : Around) (i : Nat) (s : Shared) (Q : Value → Shared → Prop) (E : Value → Shared → Prop), tn i s.heap → Q (.ref it) s → wpAny (model P w) A (pyIter (.ref it)) Q E s
abbrev TI := St → Hp → (It → Hp → Prop) → Prop
/-- an iterator has come -/
def PIE (X : Cx) (pins : List (Addr × Obj)) (σ : St) (tg : Expr) (R : It → Hp → Prop) (itv : Value) (s2 : Shared) : Prop :=
  ∃ (it : Addr) (fp : List Addr) (tn : Nat → Heap → Prop) (J : It) (H' : Hp), itv = .ref it ∧ Inv X pins σ H' s2 ∧ Turn X.prog X.w X.K tg J fp it tn ∧ tn 0 s2.heap ∧ (∀ b ∈ fp, FpOk X pins H' b) ∧ R J H'
def PI (X : Cx) (tg iter : Expr) (wi : TI) : Prop :=
  ∀ (pins : List (Addr × Obj)) (s : Shared) (σ : St) (H : Hp) (R : It → Hp → Prop), Inv X pins σ H s → wi σ H R →
    wpAny (model X.prog X.w) X.A (eval iter X.env) (fun v s1 => wpAny (model X.prog X.w) X.A (pyIter v) (PIE X pins σ tg R) X.xe s1) X.xe s

/-- the step ahead of the store is nothing for an iterator that keeps no tuple -/
theorem go_of {M : Model} {A : Around} {E : Value → Shared → Prop} {s : Shared} {tg : Expr} {it : Addr} {u : Value} {o : Obj} {n : String} {vs : Array Value} {Q : Unit → Shared → Prop} (ho : s.heap.get? it = some o) (hc : o.cls = .type n) (hd : o.data = .fields vs)
    (hn : ["enumerate", "zip", "dict_itemiterator", "dict_reverseitemiterator", "odict_iterator", "itertools.zip_longest", "itertools.pairwise"].contains n = false) (hQ : Q () s) : wpAny M A (letOwnedTupleGo tg (.ref it) u) Q E s := by
  unfold letOwnedTupleGo
  cases tg <;> first
    | exact wpAny_pure hQ
    | (cases u <;> first
        | exact wpAny_pure hQ
        | (refine wpAny_bind (wpAny_load ho ?_)
           rw [hc, hd]
           show wpAny M A (if (["enumerate", "zip", "dict_itemiterator", "dict_reverseitemiterator", "odict_iterator", "itertools.zip_longest", "itertools.pairwise"].contains n && vs[0]? == some (rawInt _)) = true then _ else _) Q E s
           rw [if_neg (by intro h; rw [hn, Bool.false_and] at h; cases h)]
           exact wpAny_pure hQ))

/-- the list at a, as it stands at each turn (a loop may append to it) -/
def Itl (K : PySem.W.Frag) (a : Addr) : It :=
  ⟨fun i H => ∃ xs x, SqL K H a xs ∧ xs[i]? = some x, fun i H x H' => H' = H ∧ ∀ xs, SqL K H a xs → xs[i]? = some x, fun i H => ∃ xs, SqL K H a xs ∧ xs.length ≤ i⟩
/-- lo, lo + 1, .. (n of them) -/
def Itr (lo : Int) (n : Nat) : It := ⟨fun i _ => i < n, fun i H x H' => H' = H ∧ x = .int (lo + i), fun i _ => n ≤ i⟩
theorem turn_list {P : Program} {w : World} {K : PySem.W.Frag} {tg : Expr} (a it : Addr) : Turn P w K tg (Itl K a) [it] it (fun i h => h.IsListIter it a i) where
  mem := by simp
  obj := fun i h st b hb => by
    have e : b = it := by simpa using hb
    subst e
    obtain ⟨o, e, c, d⟩ := st
    exact ⟨o, e, fun v z => by rw [d] at z; cases z⟩
  keep := fun i h h' st k => st.at fun o e => k it (by simp) o e
  item := by
    intro X hP hw hK hc i pins s σ H E I hf st hg
    subst hP hw hK
    obtain ⟨xs, x, hq, hx⟩ := hg
    obtain ⟨its, rv, p, hz⟩ := I.list hq
    obtain ⟨u, hu, ru⟩ := rv.get hx
    obtain ⟨f0, f1, f2, f3, f4, f5⟩ := hf it (by simp)
    refine wpAny_pyNext_list_item st p.isList (x := u) (by simpa using hu) fun h' st' sb => ?_
    have I1 : Inv X pins σ H { s with heap := h' } := I.turned (t' := s.toks) (fun b o hb e => (sb.2 b hb).trans e) f0 f1 f3 f4 f5
    obtain ⟨o, e, c, d⟩ := id st'
    exact ⟨u, rfl, go_of (s := { s with heap := h' }) e c d (by decide) ⟨x, H, I1, ru, ⟨rfl, fun ys hy => by rw [I.list_inj hy hq]; exact hx⟩, st', fun b hb => (hf b hb).1⟩⟩
  done := by
    intro X hP hw hK hc i pins s σ H E I hf st hg
    subst hP hw hK
    obtain ⟨xs, hq, hx⟩ := hg
    obtain ⟨its, rv, p, hz⟩ := I.list hq
    obtain ⟨f0, f1, f2, f3, f4, f5⟩ := hf it (by simp)
    have hl := rv.length
    exact wpAny_pyNext_list_end (I.ok.hd hc) st p.isList (by simp; omega) fun h' eb => ⟨rfl, I.turned (t' := s.toks) (fun b o hb e => eb b o hb e) f0 f1 f3 f4 f5⟩
  self := fun _ _ _ _ _ st h => wpAny_pyIter_listiter st h
theorem turn_range {P : Program} {w : World} {K : PySem.W.Frag} {tg : Expr} (it : Addr) (lo : Int) (n : Nat) : Turn P w K tg (Itr lo n) [it] it (fun i h => IsRangeIter h it (lo + (i : Nat) * 1) ((n : Int) - (i : Nat)) 1) where
  mem := by simp
  obj := fun i h st b hb => by
    have e : b = it := by simpa using hb
    subst e
    exact ⟨_, st, fun v z => by
      have z' : Data.fields _ = Data.cell v := z
      cases z'⟩
  keep := fun i h h' st k => k it (by simp) _ st
  item := by
    intro X hP hw hK hc i pins s σ H E I hf st hg
    subst hP hw hK
    obtain ⟨f0, f1, f2, f3, f4, f5⟩ := hf it (by simp)
    have W := Walks.range (prog := X.prog) (w := X.w) (I.ok.hd hc) it lo 1 n
    refine W.item i s _ _ hg st fun v h' tk hv st' kk => ?_
    obtain ⟨t, rfl⟩ := hv
    have I1 : Inv X pins σ H { s with heap := h', toks := tk } := I.turned (fun b o hb e => kk b o (by simpa using hb) e) f0 f1 f3 f4 f5
    refine ⟨_, rfl, go_of (s := { s with heap := h', toks := tk }) (n := "range_iterator") st' rfl rfl (by decide) ⟨.int (lo + i), H, I1, ⟨t, ?_⟩, ⟨rfl, rfl⟩, st', fun b hb => (hf b hb).1⟩⟩
    rw [Int.mul_one]
  done := by
    intro X hP hw hK hc i pins s σ H E I hf st hg
    subst hP hw hK
    obtain ⟨f0, f1, f2, f3, f4, f5⟩ := hf it (by simp)
    exact wpAny_pyNext_range_end (I.ok.hd hc) st (by have : n ≤ i := hg; omega) fun h' eb => ⟨rfl, I.turned (t' := s.toks) (fun b o hb e => eb b o hb e) f0 f1 f3 f4 f5⟩
  self := fun _ _ _ _ _ st h => wpAny_pyIter_rangeiter st h
end L2

namespace L2
open PySem PySem.Spec PyProof.Rows
section
variable {X : Cx} {tg : Expr}
def iList (K : PySem.W.Frag) (tl : TE) : TI := fun σ H R => tl σ H fun x H1 => ∃ a, x = .ref a ∧ (∃ xs, SqL K H1 a xs) ∧ R (Itl K a) H1
theorem pi_list {l : Expr} {tl : TE} (hl : PE X l tl) : PI X tg l (iList X.K tl) := by
  intro pins s σ H R I h
  refine thn (hl pins s σ H _ I h) fun v s1 ⟨x, H1, I1, r1, q1⟩ => ?_
  obtain ⟨a, e, ⟨xs, hq⟩, q⟩ := q1
  subst e
  cases r1
  obtain ⟨its, rv, p, hz⟩ := I1.list hq
  refine wpAny_pyIter_list p.isList ?_
  refine ⟨s1.heap.objs.size, [s1.heap.objs.size], _, _, H1, rfl, I1.kept (t' := s1.toks) fun b o e => Heap.get?_push_of_some _ e, turn_list a _, ⟨_, Heap.get?_push_size _ rfl, rfl, rfl⟩, fun b hb => ?_, q⟩
  have e : b = s1.heap.objs.size := by simpa using hb
  subst e
  exact I1.fpOk (Nat.le_refl _) (I1.hok.fresh (Nat.le_refl _))
/-- a range object just made, walked -/
theorem range_it {pins : List (Addr × Obj)} {σ : St} {H : Hp} {s : Shared} {R : It → Hp → Prop} {E : Value → Shared → Prop} {lo hi : Int} {t u v : Tok} {tk : Nat} (I : Inv X pins σ H s) (h1 : -(2 ^ 62) ≤ lo) (h2 : lo < 2 ^ 62) (h3 : -(2 ^ 62) ≤ hi) (h4 : hi < 2 ^ 62)
    (q : R (Itr lo (hi - lo).toNat) H) : wpAny (model X.prog X.w) X.A (pyIter (.ref s.heap.objs.size)) (PIE X pins σ tg R) E { s with heap := s.heap.push { cls := .type "range", data := .fields #[.int lo t, .int hi u, .int 1 v] }, toks := tk } := by
  refine wpAny_pyIter_range (IsRange.new ..) (small_one h1 h2 h3 h4) ?_
  have I1 : Inv X pins σ H { s with heap := s.heap.push { cls := .type "range", data := .fields #[.int lo t, .int hi u, .int 1 v] }, toks := tk } := I.kept fun b o e => Heap.get?_push_of_some _ e
  refine ⟨(s.heap.push { cls := .type "range", data := .fields #[.int lo t, .int hi u, .int 1 v] }).objs.size, [(s.heap.push { cls := .type "range", data := .fields #[.int lo t, .int hi u, .int 1 v] }).objs.size], _, _, H, rfl,
    I1.kept (t' := tk) fun b o e => Heap.get?_push_of_some _ e, turn_range _ lo (hi - lo).toNat, ?_, fun b hb => ?_, q⟩
  · have e1 : lo + ((0 : Nat) : Int) * 1 = lo := by simp
    have e2 : (((hi - lo).toNat : Nat) : Int) - ((0 : Nat) : Int) = Builtin.Range.rangeSize lo hi 1 := by rw [rangeSize_one]; split <;> omega
    show IsRangeIter _ _ (lo + ((0 : Nat) : Int) * 1) ((((hi - lo).toNat : Nat) : Int) - ((0 : Nat) : Int)) 1
    rw [e1, e2]
    exact Heap.get?_push_size _ rfl
  · have e : b = (s.heap.push { cls := .type "range", data := .fields #[.int lo t, .int hi u, .int 1 v] }).objs.size := by simpa using hb
    subst e
    exact I1.fpOk (Nat.le_refl _) (I1.hok.fresh (Nat.le_refl _))
def iRng1 (ta : TA) : TI := fun σ H R => ta σ H fun vs H1 => ∃ j : Int, vs = [.int j] ∧ -(2 ^ 62) ≤ j ∧ j < 2 ^ 62 ∧ R (Itr 0 j.toNat) H1
theorem pi_range1 {a : Expr} {ta : TA} {p pos : Pos} (hg : Gl X "range") (hm : X.mg "range" = none) (ha : PA X [a] ta) (hs : starEach [a] X.env = [(false, eval a X.env)] := by rfl) : PI X tg (.Call (.Name "range" p) [a] [] pos) (iRng1 ta) := by
  intro pins s σ H R I h
  refine Call_ (ld_blt I hg hm boot_range (PyProof.Rows.callWith_type1 (thn (ha pos pins s σ H _ I h) fun us s1 ⟨vs, H1, I1, r1, q1⟩ => ?_) hs rfl))
  obtain ⟨j, e, q1, q2, q⟩ := q1
  subst e
  cases r1 with
  | cons r rr =>
    cases rr
    obtain ⟨t, rfl⟩ := r
    exact call_range_1 (range_it I1 (by omega) (by omega) q1 q2 (by simpa using q))
/-! ### for -/
/-- W: the invariant by the turn and a measure; N: what the body is to reach -/
def tFor (wi : TI) (g : TG) (tb : TS) : TS := fun D σ H => wi σ H fun J H1 => ∃ W : Nat → Nat → St → Hp → Prop, (∃ m, W 0 m σ H1) ∧ ∀ i m σ H, W i m σ H →
  (J.stop i H ∧ D.nx σ H) ∨ (J.go i H ∧ ∃ N : St → Hp → Prop, (∀ σ' H', N σ' H' → ∃ m', m' < m ∧ W (i + 1) m' σ' H') ∧ ∀ x H', J.yld i H x H' → g x σ H' fun σ2 H2 => tb { D with nx := N, ct := N, bk := D.nx } σ2 H2)
/-- the records at fp as they stand -/
def pinsAt (fp : List Addr) (h : Heap) : List (Addr × Obj) := fp.filterMap fun b => (h.get? b).map fun o => (b, o)
theorem mem_pinsAt {fp : List Addr} {h : Heap} {b : Addr} {o : Obj} (hb : b ∈ fp) (e : h.get? b = some o) : (b, o) ∈ pinsAt fp h := List.mem_filterMap.mpr ⟨b, hb, by rw [e]; rfl⟩
theorem of_pinsAt {fp : List Addr} {h : Heap} {p : Addr × Obj} (hp : p ∈ pinsAt fp h) : p.1 ∈ fp ∧ h.get? p.1 = some p.2 := by
  obtain ⟨b, hb, e⟩ := List.mem_filterMap.mp hp
  cases q : h.get? b with
  | none => rw [q] at e; cases e
  | some o =>
    rw [q] at e
    have e' : (b, o) = p := Option.some.inj e
    subst e'
    exact ⟨hb, q⟩
theorem Inv.pinned {pins : List (Addr × Obj)} {σ : St} {H : Hp} {s : Shared} {fp : List Addr} (I : Inv X pins σ H s) (hf : ∀ b ∈ fp, FpOk X pins H b) (ho : ∀ b ∈ fp, ∃ o, s.heap.get? b = some o ∧ ∀ v, o.data ≠ .cell v) : Inv X (pins ++ pinsAt fp s.heap) σ H s :=
  I.pins_of fun p hp => (List.mem_append.mp hp).elim (fun z => I.pin p (List.mem_append_right _ z)) fun z => by
    obtain ⟨hb, e⟩ := of_pinsAt z
    obtain ⟨f0, f1, f2, _⟩ := hf p.1 hb
    obtain ⟨o, e', d⟩ := ho p.1 hb
    rw [e] at e'; cases e'
    exact ⟨e, f0, f1, f2, d⟩
theorem Inv.unpinned {pins pl : List (Addr × Obj)} {σ : St} {H : Hp} {s : Shared} (I : Inv X (pins ++ pl) σ H s) : Inv X pins σ H s := I.pins_of fun p hp => I.pin p (List.mem_append_right _ (List.mem_append_left _ hp))
theorem ps_for {iter : Expr} {body : List Stmt} {wi : TI} {g : TG} {tb : TS} {pos : Pos} (hp : PassesOwn (model X.prog X.w) X.A X.env X.xe) (hc : X.calm = true) (hi : PI X tg iter wi) (hg : PG X tg g) (hb : PSs X body tb)
    (hs : ∀ x, foldedSetIterable iter X.env x = pure x := by intro _; rfl) : PS X (.For tg iter body [] pos) (tFor wi g tb) := by
  intro pins s σ H D I h
  refine wpAny_For (thn (hi pins s σ H _ I h) fun v s1 h1 => thn h1 fun itv s2 h2 => ?_) hs
  obtain ⟨it, fp, tn, J, H2, e, I2, T, st2, f2, W, ⟨m0, w0⟩, turn⟩ := h2
  subst e
  -- what stays true of the iterator's objects through the loop
  have stat : ∀ {H' : Hp}, (∀ b ∈ fp, H' b = none) → ∀ b ∈ fp, FpOk X pins H' b := fun hn b hb => ⟨hn b hb, (f2 b hb).2⟩
  refine codeAny_forLoop_any (fun n s' => ∃ i σ' H', Inv X pins σ' H' s' ∧ tn i s'.heap ∧ (∀ b ∈ fp, H' b = none) ∧ W i n σ' H') ?_ m0 ⟨0, σ, H2, I2, st2, fun b hb => (f2 b hb).1, w0⟩
  rintro n s3 ⟨i, σ3, H3, I3, st3, fr3, w3⟩
  rcases turn i n σ3 H3 w3 with ⟨stop, qn⟩ | ⟨go, N, hN, step⟩
  · refine wpAny_passesOwn hp (thn (T.done X rfl rfl rfl hc i pins s3 σ3 H3 X.xe I3 (stat fr3) st3 stop) fun r s4 ⟨hr, I4⟩ => ?_)
    subst hr
    exact wpAny_execs_nil ⟨σ3, H3, I4, qn⟩
  · refine wpAny_passesOwn hp (thn (T.item X rfl rfl rfl hc i pins s3 σ3 H3 X.xe I3 (stat fr3) st3 go) fun r s4 ⟨u, hr, h4⟩ => ?_)
    subst hr
    refine wpAny_passesOwn hp (thn h4 fun _ s5 ⟨x, H5, I5, r5, y5, st5, fr5⟩ => ?_)
    have I5' := I5.pinned (stat fr5) (T.obj _ _ st5)
    refine wpAny_passesOwn hp (thn (hg _ s5 σ3 H5 x u _ I5' r5 (step x H5 y5)) fun _ s6 ⟨σ6, H6, I6, q6⟩ => ?_)
    refine wpAny_passesOwn hp (thn (hb _ s6 σ6 H6 _ I6 q6) fun f s7 q7 => ?_)
    have again : ∀ {σ7 : St} {H7 : Hp}, Inv X (pins ++ pinsAt fp s5.heap) σ7 H7 s7 → N σ7 H7 → ∃ m, m < n ∧ ∃ i σ' H', Inv X pins σ' H' s7 ∧ tn i s7.heap ∧ (∀ b ∈ fp, H' b = none) ∧ W i m σ' H' := fun {σ7 H7} I7 n7 => by
      obtain ⟨m', hm, w7⟩ := hN σ7 H7 n7
      refine ⟨m', hm, i + 1, σ7, H7, I7.unpinned, T.keep _ _ _ st5 fun b hb o e => (I7.pin (b, o) (List.mem_append_right _ (List.mem_append_right _ (mem_pinsAt hb e)))).1, fun b hb => ?_, w7⟩
      obtain ⟨o, e, d⟩ := T.obj _ _ st5 b hb
      exact (I7.pin (b, o) (List.mem_append_right _ (List.mem_append_right _ (mem_pinsAt hb e)))).2.1
    cases f with
    | next => obtain ⟨σ7, H7, I7, n7⟩ := q7; exact again I7 n7
    | cont => obtain ⟨σ7, H7, I7, n7⟩ := q7; exact again I7 n7
    | brk => obtain ⟨σ7, H7, I7, q7⟩ := q7; exact ⟨σ7, H7, I7.unpinned, q7⟩
    | ret v => obtain ⟨x7, σ7, H7, I7, r7, q7⟩ := q7; exact ⟨x7, σ7, H7, I7.unpinned, r7, q7⟩
end

/-! ### the forms one uses -/
/-- over a list that the body leaves as it is -/
theorem for_list {K : PySem.W.Frag} {a : Addr} {xs : List V} {g : TG} {tb : TS} {D : Ends} {σ : St} {H : Hp} (Pv : Nat → St → Hp → Prop) (h0 : Pv 0 σ H) (hl : ∀ i σ H, i ≤ xs.length → Pv i σ H → SqL K H a xs)
    (hs : ∀ i x σ H, xs[i]? = some x → Pv i σ H → g x σ H fun σ2 H2 => tb { D with nx := Pv (i + 1), ct := Pv (i + 1), bk := D.nx } σ2 H2) (hd : ∀ σ H, Pv xs.length σ H → D.nx σ H) :
    ∃ W : Nat → Nat → St → Hp → Prop, (∃ m, W 0 m σ H) ∧ ∀ i m σ H, W i m σ H →
      ((Itl K a).stop i H ∧ D.nx σ H) ∨ ((Itl K a).go i H ∧ ∃ N : St → Hp → Prop, (∀ σ' H', N σ' H' → ∃ m', m' < m ∧ W (i + 1) m' σ' H') ∧ ∀ x H', (Itl K a).yld i H x H' → g x σ H' fun σ2 H2 => tb { D with nx := N, ct := N, bk := D.nx } σ2 H2) := by
  refine ⟨fun i m σ H => m = xs.length - i ∧ i ≤ xs.length ∧ Pv i σ H, ⟨xs.length, by simp, Nat.zero_le _, h0⟩, ?_⟩
  rintro i m σ H ⟨rfl, hi, p⟩
  have q := hl i σ H hi p
  by_cases hlt : i < xs.length
  · refine .inr ⟨⟨xs, xs[i], q, by simp [hlt]⟩, Pv (i + 1), fun σ' H' p' => ⟨xs.length - (i + 1), by omega, rfl, hlt, p'⟩, fun x H' y => ?_⟩
    obtain ⟨e, y⟩ := y
    subst e
    exact hs i x σ _ (y xs q) p
  · have e : i = xs.length := by omega
    subst e
    exact .inl ⟨⟨xs, q, Nat.le_refl _⟩, hd σ H p⟩
theorem for_range {lo : Int} {n : Nat} {g : TG} {tb : TS} {D : Ends} {σ : St} {H : Hp} (Pv : Nat → St → Hp → Prop) (h0 : Pv 0 σ H)
    (hs : ∀ i σ H, i < n → Pv i σ H → g (.int (lo + i)) σ H fun σ2 H2 => tb { D with nx := Pv (i + 1), ct := Pv (i + 1), bk := D.nx } σ2 H2) (hd : ∀ σ H, Pv n σ H → D.nx σ H) :
    ∃ W : Nat → Nat → St → Hp → Prop, (∃ m, W 0 m σ H) ∧ ∀ i m σ H, W i m σ H →
      ((Itr lo n).stop i H ∧ D.nx σ H) ∨ ((Itr lo n).go i H ∧ ∃ N : St → Hp → Prop, (∀ σ' H', N σ' H' → ∃ m', m' < m ∧ W (i + 1) m' σ' H') ∧ ∀ x H', (Itr lo n).yld i H x H' → g x σ H' fun σ2 H2 => tb { D with nx := N, ct := N, bk := D.nx } σ2 H2) := by
  refine ⟨fun i m σ H => m = n - i ∧ i ≤ n ∧ Pv i σ H, ⟨n, by simp, Nat.zero_le _, h0⟩, ?_⟩
  rintro i m σ H ⟨rfl, hi, p⟩
  by_cases hlt : i < n
  · refine .inr ⟨hlt, Pv (i + 1), fun σ' H' p' => ⟨n - (i + 1), by omega, rfl, hlt, p'⟩, fun x H' y => ?_⟩
    obtain ⟨e, y⟩ := y
    subst e y
    exact hs i σ _ hlt p
  · have e : i = n := by omega
    subst e
    exact .inl ⟨Nat.le_refl _, hd σ H p⟩
end L2

namespace L2
open PySem PySem.Spec PyProof.Rows

abbrev R2 := V → V → Hp → VK → Prop
/-- a two-place operation on values: f is binaryOp op, inplaceOp op or compareOp op -/
def OpR (X : Cx) (f : Value → Value → Sem Value) (r : R2) : Prop :=
  ∀ (pins : List (Addr × Obj)) (s : Shared) (σ : St) (H : Hp) (x y : V) (v u : Value) (Q : VK), Inv X pins σ H s → RelV x v → RelV y u → r x y H Q →
    wpAny (model X.prog X.w) X.A (f v u) (EP X pins σ Q) X.xe s
/-- a one-place operation -/
def UnR (X : Cx) (f : Value → Sem Value) (r : V → Hp → VK → Prop) : Prop :=
  ∀ (pins : List (Addr × Obj)) (s : Shared) (σ : St) (H : Hp) (x : V) (v : Value) (Q : VK), Inv X pins σ H s → RelV x v → r x H Q →
    wpAny (model X.prog X.w) X.A (f v) (EP X pins σ Q) X.xe s
/-- a call of a value that is known (a builtin, a type) with values -/
def CallR (X : Cx) (f : Value) (r : List V → Hp → VK → Prop) : Prop :=
  ∀ (pins : List (Addr × Obj)) (s : Shared) (σ : St) (H : Hp) (xs : List V) (us : List Value) (Q : VK), Inv X pins σ H s → Vals xs us → r xs H Q →
    wpAny (model X.prog X.w) X.A (call f us) (EP X pins σ Q) X.xe s
/-- a value's truth -/
def TruR (X : Cx) (r : V → Hp → (Bool → Hp → Prop) → Prop) : Prop :=
  ∀ (pins : List (Addr × Obj)) (s : Shared) (σ : St) (H : Hp) (x : V) (v : Value) (Q : Bool → Hp → Prop), Inv X pins σ H s → RelV x v → r x H Q →
    wpAny (model X.prog X.w) X.A (truthy v) (TP X pins σ Q) X.xe s

def tOp (r : R2) (ta tb : TE) : TE := fun σ H Q => ta σ H fun x H1 => tb σ H1 fun y H2 => r x y H2 Q
def tUn (r : V → Hp → VK → Prop) (ta : TE) : TE := fun σ H Q => ta σ H fun x H1 => r x H1 Q
/-- ints in, under C, and a value out -/
def rI (C : Int → Int → Prop) (g : Int → Int → V) : R2 := fun x y H Q => ∃ i j, x = .int i ∧ y = .int j ∧ C i j ∧ Q (g i j) H
def rI0 (g : Int → Int → V) : R2 := fun x y H Q => ∃ i j, x = .int i ∧ y = .int j ∧ Q (g i j) H
def rU (g : Int → V) : V → Hp → VK → Prop := fun x H Q => ∃ i, x = .int i ∧ Q (g i) H

section
variable {X : Cx} {a b c : Expr} {ta tb tc : TE} {pos : Pos}

theorem binT (ha : PE X a ta) (hb : PE X b tb) {pins : List (Addr × Obj)} {s : Shared} {σ : St} {H : Hp} {R : V → V → Hp → Prop} (I : Inv X pins σ H s)
    (h : ta σ H fun x H1 => tb σ H1 fun y H2 => R x y H2) {Q : Value → Shared → Prop} {f : Value → Value → Sem Value}
    (hf : ∀ v u s2 x y H2, Inv X pins σ H2 s2 → RelV x v → RelV y u → R x y H2 → wpAny (model X.prog X.w) X.A (f v u) Q X.xe s2) :
    wpAny (model X.prog X.w) X.A (eval a X.env) (fun v s₁ => wpAny (model X.prog X.w) X.A (eval b X.env) (fun u s₂ => wpAny (model X.prog X.w) X.A (f v u) Q X.xe s₂) X.xe s₁) X.xe s := by
  refine thn (ha pins s σ H _ I h) fun v s1 ⟨x, H1, I1, r1, q1⟩ => ?_
  refine thn (hb pins s1 σ H1 _ I1 q1) fun u s2 ⟨y, H2, I2, r2, q2⟩ => ?_
  exact hf v u s2 x y H2 I2 r1 r2 q2

theorem pe_op {op : Operator} {r : R2} (ho : OpR X (binaryOp op) r) (ha : PE X a ta) (hb : PE X b tb) : PE X (.BinOp a op b pos) (tOp r ta tb) := by
  intro pins s σ H Q I h
  exact wpAny_BinOp (binT ha hb I h fun v u s2 x y H2 I2 rx ry q => ho pins s2 σ H2 x y v u Q I2 rx ry q)
theorem pe_un {op : UnaryOp} {r : V → Hp → VK → Prop} (ho : UnR X (unaryOp op) r) (ha : PE X a ta) : PE X (.UnaryOp op a pos) (tUn r ta) := by
  intro pins s σ H Q I h
  exact UnaryOp_ (thn (ha pins s σ H _ I h) fun v s1 ⟨x, H1, I1, r1, q1⟩ => ho pins s1 σ H1 x v Q I1 r1 q1)
/-! ### ints -/
theorem opI {f : Value → Value → Sem Value} {C : Int → Int → Prop} {g : Int → Int → Int}
    (rule : ∀ (i j : Int) (t u : Tok) (s : Shared) (Q : Value → Shared → Prop) (E : Value → Shared → Prop), C i j → Q (.int (g i j) s.toks) { s with toks := s.toks + 1 } → wpAny (model X.prog X.w) X.A (f (.int i t) (.int j u)) Q E s) :
    OpR X f (rI C fun i j => .int (g i j)) := by
  intro pins s σ H x y v u Q I rx ry h
  obtain ⟨i, j, rfl, rfl, hc, q⟩ := h
  obtain ⟨t, rfl⟩ := rx
  obtain ⟨t', rfl⟩ := ry
  exact rule i j t t' s _ _ hc ⟨.int (g i j), H, I.tok _, ⟨_, rfl⟩, q⟩
theorem opI0 {f : Value → Value → Sem Value} {g : Int → Int → Int}
    (rule : ∀ (i j : Int) (t u : Tok) (s : Shared) (Q : Value → Shared → Prop) (E : Value → Shared → Prop), Q (.int (g i j) s.toks) { s with toks := s.toks + 1 } → wpAny (model X.prog X.w) X.A (f (.int i t) (.int j u)) Q E s) :
    OpR X f (rI0 fun i j => .int (g i j)) := by
  intro pins s σ H x y v u Q I rx ry h
  obtain ⟨i, j, rfl, rfl, q⟩ := h
  obtain ⟨t, rfl⟩ := rx
  obtain ⟨t', rfl⟩ := ry
  exact rule i j t t' s _ _ ⟨.int (g i j), H, I.tok _, ⟨_, rfl⟩, q⟩
theorem opB0 {f : Value → Value → Sem Value} {g : Int → Int → Bool}
    (rule : ∀ (i j : Int) (t u : Tok) (s : Shared) (Q : Value → Shared → Prop) (E : Value → Shared → Prop), Q (.bool (g i j)) s → wpAny (model X.prog X.w) X.A (f (.int i t) (.int j u)) Q E s) :
    OpR X f (rI0 fun i j => .bl (g i j)) := by
  intro pins s σ H x y v u Q I rx ry h
  obtain ⟨i, j, rfl, rfl, q⟩ := h
  obtain ⟨t, rfl⟩ := rx
  obtain ⟨t', rfl⟩ := ry
  exact rule i j t t' s _ _ ⟨.bl (g i j), H, I, rfl, q⟩

def CPow (i j : Int) : Prop := 0 ≤ j ∧ j ≤ 1000000 ∧ i.natAbs < 2 ^ 64
def CMul (i j : Int) : Prop := (-(2 ^ 64) < i ∧ i < 2 ^ 64) ∨ (-(2 ^ 64) < j ∧ j < 2 ^ 64)
theorem CMul.ok {i j : Int} (h : CMul i j) : IntMulOk i j := by
  rcases h with ⟨h1, h2⟩ | ⟨h1, h2⟩
  · exact .of_left (intBits_le_64 h1 h2)
  · exact .of_right (intBits_le_64 h1 h2)
theorem op_add : OpR X (binaryOp .Add) (rI0 fun i j => .int (i + j)) := opI0 fun _ _ _ _ _ _ _ q => add_int q
theorem op_sub : OpR X (binaryOp .Sub) (rI0 fun i j => .int (i - j)) := opI0 fun _ _ _ _ _ _ _ q => sub_int q
theorem op_mul : OpR X (binaryOp .Mult) (rI CMul fun i j => .int (i * j)) := opI fun _ _ _ _ _ _ _ hc q => mul_int q hc.ok
/-- % by a positive divisor of any size -/
theorem op_mod : OpR X (binaryOp .Mod) (rI (fun _ j => 0 < j) fun i j => .int (i % j)) := opI fun i j _ _ _ _ _ hc q => by
  have h1 : (0 : Int) < j := hc
  exact mod_int' (by omega) (by rw [Int.fmod_eq_emod_of_nonneg i (by omega)]; exact q)
theorem op_pow : OpR X (binaryOp .Pow) (rI CPow fun i j => .int (i ^ j.toNat)) := opI fun _ _ _ _ _ _ _ hc q => pow_int_small hc.1 hc.2.1 hc.2.2 q
theorem op_xor : OpR X (binaryOp .BitXor) (rI0 fun i j => .int (Builtin.bitXor i j)) := opI0 fun _ _ _ _ _ _ _ q => xor_int q

theorem unI {f : Value → Sem Value} {g : Int → Int}
    (rule : ∀ (i : Int) (t : Tok) (s : Shared) (Q : Value → Shared → Prop) (E : Value → Shared → Prop), Q (.int (g i) s.toks) { s with toks := s.toks + 1 } → wpAny (model X.prog X.w) X.A (f (.int i t)) Q E s) :
    UnR X f (rU fun i => .int (g i)) := by
  intro pins s σ H x v Q I rx h
  obtain ⟨i, rfl, q⟩ := h
  obtain ⟨t, rfl⟩ := rx
  exact rule i t s _ _ ⟨.int (g i), H, I.tok _, ⟨_, rfl⟩, q⟩
theorem un_neg : UnR X (unaryOp .USub) (rU fun i => .int (-i)) := unI fun _ _ _ _ _ q => neg_int q
/-! ### bools among ints: n += (a < b) -/
end

/-! ### comparisons -/
/-- the scalars that == tells apart as data does -/
def scal : V → V → Bool
  | .non, .non => true | .non, .int _ => true | .int _, .non => true | .non, .bl _ => true | .bl _, .non => true | .non, .str _ => true | .str _, .non => true
  | .int _, .int _ => true | .bl _, .bl _ => true | .str _, .str _ => true | .byt _, .byt _ => true
  | .int _, .str _ => true | .str _, .int _ => true | .bl _, .str _ => true | .str _, .bl _ => true
  | _, _ => false
def rEq : R2 := fun x y H Q => scal x y = true ∧ Q (.bl (decide (x = y))) H
def rNe : R2 := fun x y H Q => scal x y = true ∧ Q (.bl (!decide (x = y))) H

theorem dec_int {i j : Int} : decide (V.int i = V.int j) = (i == j) := by
  rw [Bool.eq_iff_iff]
  simp
theorem dec_bl {i j : Bool} : decide (V.bl i = V.bl j) = (i == j) := by
  rw [Bool.eq_iff_iff]
  simp
theorem dec_str {i j : Str} : decide (V.str i = V.str j) = (i == j) := by
  rw [Bool.eq_iff_iff]
  simp
theorem dec_byt {i j : Array UInt8} : decide (V.byt i = V.byt j) = (i.toList == j.toList) := by
  rw [Bool.eq_iff_iff]
  cases i
  cases j
  simp

section
variable {X : Cx} {a b c : Expr} {ta tb tc : TE} {pos : Pos}
theorem fin_bl {pins : List (Addr × Obj)} {σ : St} {H : Hp} {s : Shared} {Q : VK} {k k' : Bool} (I : Inv X pins σ H s) (q : Q (.bl k) H) (e : k = k') : EP X pins σ Q (.bool k') s := by
  subst e
  exact ⟨.bl k, H, I, rfl, q⟩
theorem op_eq : OpR X (compareOp .Eq) rEq := by
  intro pins s σ H x y v u Q I rx ry h
  obtain ⟨hs, q⟩ := h
  cases x with
  | non =>
    cases rx
    cases y with
    | non => cases ry; exact PySem.EqNone.eq_none_none (fin_bl I q (by simp))
    | bl j => cases ry; exact PySem.EqNone.eq_none_bool (fin_bl I q (by simp))
    | int j => obtain ⟨t', rfl⟩ := ry; exact PySem.EqNone.eq_none_int (fin_bl I q (by simp))
    | str j => obtain ⟨t', rfl⟩ := ry; exact PySem.EqNone.eq_none_str (fin_bl I q (by simp))
    | _ => exact absurd (show false = true from hs) Bool.false_ne_true
  | bl i =>
    cases rx
    cases y with
    | non => cases ry; exact PySem.EqNone.eq_bool_none (fin_bl I q (by simp))
    | bl j => cases ry; exact eq_bool (fin_bl I q dec_bl)
    | str j => obtain ⟨t', rfl⟩ := ry; exact PySem.EqMixed.eq_bool_str (fin_bl I q (by simp))
    | _ => exact absurd (show false = true from hs) Bool.false_ne_true
  | int i =>
    obtain ⟨t, rfl⟩ := rx
    cases y with
    | non => cases ry; exact PySem.EqNone.eq_int_none (fin_bl I q (by simp))
    | int j => obtain ⟨t', rfl⟩ := ry; exact eq_int (fin_bl I q dec_int)
    | str j => obtain ⟨t', rfl⟩ := ry; exact PySem.EqMixed.eq_int_str (fin_bl I q (by simp))
    | _ => exact absurd (show false = true from hs) Bool.false_ne_true
  | str i =>
    obtain ⟨t, rfl⟩ := rx
    cases y with
    | non => cases ry; exact PySem.EqNone.eq_str_none (fin_bl I q (by simp))
    | bl j => cases ry; exact PySem.EqMixed.eq_str_bool (fin_bl I q (by simp))
    | int j => obtain ⟨t', rfl⟩ := ry; exact PySem.EqMixed.eq_str_int (fin_bl I q (by simp))
    | str j => obtain ⟨t', rfl⟩ := ry; exact eq_str (fin_bl I q dec_str)
    | _ => exact absurd (show false = true from hs) Bool.false_ne_true
  | byt i =>
    obtain ⟨t, rfl⟩ := rx
    cases y with
    | byt j => obtain ⟨t', rfl⟩ := ry; exact PySem.W.eq_bytes (fin_bl I q dec_byt)
    | _ => exact absurd (show false = true from hs) Bool.false_ne_true
  | _ => cases y <;> exact absurd (show false = true from hs) Bool.false_ne_true
theorem op_ne : OpR X (compareOp .NotEq) rNe := by
  intro pins s σ H x y v u Q I rx ry h
  obtain ⟨hs, q⟩ := h
  cases x with
  | non =>
    cases rx
    cases y with
    | non => cases ry; exact PySem.EqNone.ne_none_none (fin_bl I q (by simp))
    | bl j => cases ry; exact PySem.EqNone.ne_none_bool (fin_bl I q (by simp))
    | int j => obtain ⟨t', rfl⟩ := ry; exact PySem.EqNone.ne_none_int (fin_bl I q (by simp))
    | str j => obtain ⟨t', rfl⟩ := ry; exact PySem.EqNone.ne_none_str (fin_bl I q (by simp))
    | _ => exact absurd (show false = true from hs) Bool.false_ne_true
  | bl i =>
    cases rx
    cases y with
    | non => cases ry; exact PySem.EqNone.ne_bool_none (fin_bl I q (by simp))
    | bl j => cases ry; exact ne_bool (fin_bl I q (congrArg not dec_bl))
    | str j => obtain ⟨t', rfl⟩ := ry; exact PySem.EqMixed.ne_bool_str (fin_bl I q (by simp))
    | _ => exact absurd (show false = true from hs) Bool.false_ne_true
  | int i =>
    obtain ⟨t, rfl⟩ := rx
    cases y with
    | non => cases ry; exact PySem.EqNone.ne_int_none (fin_bl I q (by simp))
    | int j => obtain ⟨t', rfl⟩ := ry; exact ne_int (fin_bl I q (congrArg not dec_int))
    | str j => obtain ⟨t', rfl⟩ := ry; exact PySem.EqMixed.ne_int_str (fin_bl I q (by simp))
    | _ => exact absurd (show false = true from hs) Bool.false_ne_true
  | str i =>
    obtain ⟨t, rfl⟩ := rx
    cases y with
    | non => cases ry; exact PySem.EqNone.ne_str_none (fin_bl I q (by simp))
    | bl j => cases ry; exact PySem.EqMixed.ne_str_bool (fin_bl I q (by simp))
    | int j => obtain ⟨t', rfl⟩ := ry; exact PySem.EqMixed.ne_str_int (fin_bl I q (by simp))
    | str j => obtain ⟨t', rfl⟩ := ry; exact ne_str (fin_bl I q (congrArg not dec_str))
    | _ => exact absurd (show false = true from hs) Bool.false_ne_true
  | byt i =>
    obtain ⟨t, rfl⟩ := rx
    cases y with
    | byt j => obtain ⟨t', rfl⟩ := ry; exact PySem.W.ne_bytes (fin_bl I q (congrArg not dec_byt))
    | _ => exact absurd (show false = true from hs) Bool.false_ne_true
  | _ => cases y <;> exact absurd (show false = true from hs) Bool.false_ne_true

theorem op_lt : OpR X (compareOp .Lt) (rI0 fun i j => .bl (decide (i < j))) := opB0 fun _ _ _ _ _ _ _ q => lt_int q
theorem op_le : OpR X (compareOp .LtE) (rI0 fun i j => .bl (decide (i ≤ j))) := opB0 fun _ _ _ _ _ _ _ q => le_int q
theorem op_gt : OpR X (compareOp .Gt) (rI0 fun i j => .bl (decide (j < i))) := opB0 fun _ _ _ _ _ _ _ q => gt_int q
theorem op_ge : OpR X (compareOp .GtE) (rI0 fun i j => .bl (decide (j ≤ i))) := opB0 fun _ _ _ _ _ _ _ q => ge_int q
/-- the one string within the other -/
theorem op_in_str : OpR X (compareOp .In) (fun x y H Q => ∃ i j, x = .str i ∧ y = .str j ∧ Q (.bl (!(Builtin.Str.occurrences j i 0 j.length 1).isEmpty)) H) := by
  intro pins s σ H x y v u Q I rx ry h
  obtain ⟨i, j, rfl, rfl, q⟩ := h
  obtain ⟨t, rfl⟩ := rx
  obtain ⟨t', rfl⟩ := ry
  exact in_str (fin_bl I q rfl)

/-- two rules for one operation: by cases -/
theorem OpR.or {f : Value → Value → Sem Value} {r r' : R2} (h : OpR X f r) (h' : OpR X f r') : OpR X f (fun x y H Q => r x y H Q ∨ r' x y H Q) := by
  intro pins s σ H x y v u Q I rx ry q
  rcases q with q | q
  · exact h pins s σ H x y v u Q I rx ry q
  · exact h' pins s σ H x y v u Q I rx ry q

theorem nomark (b : Expr) {op : CmpOp} (h : op ≠ .In := by decide) (h2 : op ≠ .NotIn := by decide) : behindInMarks op b = false := by
  have e1 : (op == CmpOp.In) = false := by cases op <;> first | rfl | exact absurd rfl h
  have e2 : (op == CmpOp.NotIn) = false := by cases op <;> first | rfl | exact absurd rfl h2
  cases b <;> simp [behindInMarks, e1, e2]
/-- a comparison as a value; hm: nomark b, or (for in, not in) by with_unfolding_all rfl -/
theorem pe_cmpR {op : CmpOp} {r : R2} (ho : OpR X (compareOp op) r) (ha : PE X a ta) (hb : PE X b tb) (hm : behindInMarks op b = false) : PE X (.Compare a [op] [b] pos) (tOp r ta tb) := by
  intro pins s σ H Q I h
  exact wpAny_Compare1 (binT ha hb I h fun v u s2 x y H2 I2 rx ry q => ho pins s2 σ H2 x y v u Q I2 rx ry q) hm
/-- a reading of a value as a test -/
def tTest (t : TE) : TT := fun σ H Q => t σ H fun x H' => ∃ k, x = .bl k ∧ Q k H'
theorem pt_cmpR {op : CmpOp} {r : R2} (ho : OpR X (compareOp op) r) (ha : PE X a ta) (hb : PE X b tb) (hm : behindInMarks op b = false) : PT X (.Compare a [op] [b] pos) (tTest (tOp r ta tb)) := by
  intro pins s σ H Q I h
  refine wpAny_isTrue_Compare1 (thn (ha pins s σ H _ I h) fun v s1 ⟨x, H1, I1, r1, q1⟩ => thn (hb pins s1 σ H1 _ I1 q1) fun u s2 ⟨y, H2, I2, r2, q2⟩ =>
    thn (ho pins s2 σ H2 x y v u _ I2 r1 r2 q2) fun c s3 ⟨z, H3, I3, r3, k, e, q3⟩ => ?_) hm
  subst e
  cases r3
  exact wpAny_truthy_bool ⟨H3, I3, q3⟩
/-- a op1 b op2 c -/
def tChain (r r' : R2) (ta tb tc : TE) : TE := fun σ H Q => ta σ H fun x H1 => tb σ H1 fun y H2 => r x y H2 fun z H3 => ∃ k, z = .bl k ∧
  (if k = true then tc σ H3 fun w' H4 => r' y w' H4 Q else Q (.bl false) H3)
theorem pe_chain {op op' : CmpOp} {r r' : R2} (ho : OpR X (compareOp op) r) (ho' : OpR X (compareOp op') r') (ha : PE X a ta) (hb : PE X b tb) (hc : PE X c tc)
    (hm : lastMarks [op, op'] [b, c] = false := by with_unfolding_all rfl) : PE X (.Compare a [op, op'] [b, c] pos) (tChain r r' ta tb tc) := by
  intro pins s σ H Q I h
  refine Compare_chain (thn (ha pins s σ H _ I h) fun v s1 ⟨x, H1, I1, r1, q1⟩ => chain_link (thn (hb pins s1 σ H1 _ I1 q1) fun u s2 ⟨y, H2, I2, r2, q2⟩ =>
    thn (ho pins s2 σ H2 x y v u _ I2 r1 r2 q2) fun d s3 ⟨z, H3, I3, r3, k, e, q3⟩ => ?_)) hm
  subst e
  cases r3
  refine wpAny_truthy_bool ?_
  cases k with
  | false => exact ite_ff ⟨.bl false, H3, I3, rfl, q3⟩
  | true => exact ite_tt (chain_last (thn (hc pins s3 σ H3 _ I3 q3) fun w' s4 ⟨z', H4, I4, r4, q4⟩ => ho' pins s4 σ H4 y z' u w' Q I4 r2 r4 q4))
theorem pt_chain {op op' : CmpOp} {r r' : R2} (ho : OpR X (compareOp op) r) (ho' : OpR X (compareOp op') r') (ha : PE X a ta) (hb : PE X b tb) (hc : PE X c tc)
    (hm : lastMarks [op, op'] [b, c] = false := by with_unfolding_all rfl) : PT X (.Compare a [op, op'] [b, c] pos) (tTest (tChain r r' ta tb tc)) := by
  intro pins s σ H Q I h
  refine isTrue_chain (thn (ha pins s σ H _ I h) fun v s1 ⟨x, H1, I1, r1, q1⟩ => test_link (thn (hb pins s1 σ H1 _ I1 q1) fun u s2 ⟨y, H2, I2, r2, q2⟩ =>
    thn (ho pins s2 σ H2 x y v u _ I2 r1 r2 q2) fun d s3 ⟨z, H3, I3, r3, k, e, q3⟩ => ?_)) hm
  subst e
  cases r3
  refine wpAny_truthy_bool ?_
  cases k with
  | false =>
    obtain ⟨k', e', q'⟩ := q3
    cases e'
    exact ite_ff ⟨H3, I3, q'⟩
  | true =>
    refine ite_tt (test_last (thn (hc pins s3 σ H3 _ I3 q3) fun w' s4 ⟨z', H4, I4, r4, q4⟩ => thn (ho' pins s4 σ H4 y z' u w' _ I4 r2 r4 q4) fun d' s5 ⟨z2, H5, I5, r5, k2, e2, q5⟩ => ?_))
    subst e2
    cases r5
    exact wpAny_truthy_bool ⟨H5, I5, q5⟩

/-! ### truth -/
/-- a value's truth by the abstract heap -/
def TruV (K : PySem.W.Frag) (x : V) (H : Hp) (k : Bool) : Prop :=
  match x with
  | .non => k = false
  | .bl b => k = b
  | .int i => k = (i != 0)
  | .str y => y.length ≤ sizeLine ∧ k = ((y.length : Int) != 0)
  | .byt y => y.size ≤ sizeLine ∧ k = ((y.size : Int) != 0)
  | .ref p => (∃ xs, SqL K H p xs ∧ k = !xs.isEmpty) ∨ (∃ xs, SqT K H p xs ∧ k = !xs.isEmpty) ∨ ∃ kvs, H p = some (.dK kvs) ∧ k = !kvs.isEmpty
  | _ => False
theorem isEmpty_kv {κ : Type} {kvs : List (κ × V)} {vs : List (κ × Value)} (r : KV kvs vs) : (!vs.isEmpty) = !kvs.isEmpty := by
  cases r <;> rfl
theorem isEmpty_of {xs : List V} {its : List Value} (r : Vals xs its) : (!its.toArray.isEmpty) = !xs.isEmpty := by
  cases r <;> simp
theorem line63 : (sizeLine : Nat) < 2 ^ 63 := by rw [sizeLine_eq]; decide
theorem tru_ok : TruR X (fun x H Q => ∃ k, TruV X.K x H k ∧ Q k H) := by
  intro pins s σ H x v Q I rx h
  obtain ⟨k, e, q⟩ := h
  have hl := line63
  have hs : sizeLine = 16777216 := sizeLine_eq
  cases x with
  | non =>
    cases rx
    have e' : k = false := e
    subst e'
    exact truthy_none ⟨H, I, q⟩
  | bl b =>
    cases rx
    have e' : k = b := e
    subst e'
    exact wpAny_truthy_bool ⟨H, I, q⟩
  | int i =>
    obtain ⟨t, rfl⟩ := rx
    have e' : k = (i != 0) := e
    subst e'
    exact PySem.P.truthy_int ⟨H, I, q⟩
  | str y =>
    obtain ⟨t, rfl⟩ := rx
    obtain ⟨hy, e'⟩ : y.length ≤ sizeLine ∧ k = ((y.length : Int) != 0) := e
    subst e'
    exact PySem.P.truthy_str (by omega) ⟨H, I.tok _, q⟩
  | byt y =>
    obtain ⟨t, rfl⟩ := rx
    obtain ⟨hy, e'⟩ : y.size ≤ sizeLine ∧ k = ((y.size : Int) != 0) := e
    subst e'
    exact PySem.W.truthy_bytes (by omega) ⟨H, I.tok _, q⟩
  | ref p =>
    cases rx
    have e' : (∃ xs, SqL X.K H p xs ∧ k = !xs.isEmpty) ∨ (∃ xs, SqT X.K H p xs ∧ k = !xs.isEmpty) ∨ ∃ kvs, H p = some (.dK kvs) ∧ k = !kvs.isEmpty := e
    rcases e' with ⟨xs, hx, e'⟩ | ⟨xs, hx, e'⟩ | ⟨kvs, hx, e'⟩
    · subst e'
      obtain ⟨its, r, pl, hz⟩ := I.list hx
      have hlen := r.length
      exact wpAny_truthy_list pl.isList (by simp only [List.size_toArray]; omega) ⟨H, I.tok _, by rw [isEmpty_of r]; exact q⟩
    · subst e'
      obtain ⟨its, r, pl, hz⟩ := I.tuple hx
      have hlen := r.length
      exact truthy_tuple pl (by simp only [List.size_toArray]; omega) ⟨H, I.tok _, by rw [isEmpty_of r]; exact q⟩
    · subst e'
      obtain ⟨hz, hS, vs, r, m⟩ : kvs.length ≤ sizeLine ∧ (p == sysModules) = false ∧ ∃ vs, KV kvs vs ∧ s.heap.DictOf (mixKind X.prog X.w) p vs := I.hok p _ hx
      have hlen : kvs.length = vs.length := Paired.length r
      exact wpAny_truthy_dict hS m (by omega) ⟨H, I.tok _, by rw [isEmpty_kv r]; exact q⟩
  | _ => exact (show False from e).elim
/-- any expression whose test is its value's truth (a name, a call, a subscript, a field ..: he by fun _ => rfl) -/
theorem pt_truth (ha : PE X a ta) (he : ∀ whole, isTrue a X.env whole = (do let v ← whole; standAt a.pos; holding [v] (truthy v))) :
    PT X a (fun σ H Q => ta σ H fun x H' => ∃ k, TruV X.K x H' k ∧ Q k H') := by
  intro pins s σ H Q I h
  exact isTrue_plain (thn (ha pins s σ H _ I h) fun v s1 ⟨x, H1, I1, r1, q1⟩ => tru_ok pins s1 σ H1 x v Q I1 r1 q1) (he _)

/-! ### strs and bytes -/
theorem op_add_str : OpR X (binaryOp .Add) (fun x y H Q => ∃ i j, x = .str i ∧ y = .str j ∧ i.length + j.length ≤ sizeLine ∧ Q (.str (i ++ j)) H) := by
  intro pins s σ H x y v u Q I rx ry h
  obtain ⟨i, j, rfl, rfl, hz, q⟩ := h
  obtain ⟨t, rfl⟩ := rx
  obtain ⟨t', rfl⟩ := ry
  exact add_str (fun t' tk => ⟨.str (i ++ j), H, I.tok _, ⟨_, rfl⟩, q⟩) hz
/-! ### scalar builtins, by CallR -/
theorem vals1 {x : V} {us : List Value} (r : Vals [x] us) : ∃ u, us = [u] ∧ RelV x u := by
  cases r with
  | cons r1 r2 => cases r2; exact ⟨_, rfl, r1⟩
theorem vals2 {x y : V} {us : List Value} (r : Vals [x, y] us) : ∃ u w', us = [u, w'] ∧ RelV x u ∧ RelV y w' := by
  cases r with
  | cons r1 r2 =>
    cases r2 with
    | cons r3 r4 => cases r4; exact ⟨_, _, rfl, r1, r3⟩
theorem call_int1 : CallR X (.type "int") (fun xs H Q => (∃ i, xs = [.int i] ∧ Q (.int i) H) ∨ ∃ k, xs = [.bl k] ∧ Q (.int (if k then 1 else 0)) H) := by
  intro pins s σ H xs us Q I r h
  rcases h with ⟨i, rfl, q⟩ | ⟨k, rfl, q⟩
  · obtain ⟨u, rfl, t, rfl⟩ := vals1 r
    exact call_int_int ⟨.int i, H, I, ⟨_, rfl⟩, q⟩
  · obtain ⟨u, rfl, r1⟩ := vals1 r
    cases r1
    exact call_int_bool ⟨.int (if k then 1 else 0), H, I.tok _, ⟨_, rfl⟩, q⟩
theorem call_str_int : CallR X (.type "str") (fun xs H Q => ∃ i, xs = [.int i] ∧ i.natAbs.log2 < 1920 ∧ Q (.str (toString i)) H) := by
  intro pins s σ H xs us Q I r h
  obtain ⟨i, rfl, hz, q⟩ := h
  obtain ⟨u, rfl, t, rfl⟩ := vals1 r
  exact PySem.P.str_of_int hz ⟨.str _, H, I.tok _, ⟨_, rfl⟩, q⟩
end
end L2

namespace L2
open PySem PySem.Spec PyProof.Rows

/-! ### an instance, its attributes a map -/
structure ObjM (h : Heap) (x dx C : Addr) (mA : Str → Option Value) : Prop where
  obj : h.get? x = some (PySem.W.instObj C dx)
  ns : h.Ns1 dx mA
  ne : dx ≠ x

theorem lookIn_ns {h : Heap} {dx : Addr} {mA : Str → Option Value} (n : h.Ns1 dx mA) : ∃ od, h.get? dx = some od ∧ ∀ name, PySem.W.lookIn name od = some (mA name) := by
  obtain ⟨o, es, ep, ho, hd, hk, _, hm⟩ := n
  refine ⟨o, ho, fun name => ?_⟩
  have e := hm name
  unfold nsFind findBy at e
  rw [← Array.find?_toList] at e
  unfold PySem.W.lookIn
  rw [hd]
  dsimp only
  split
  · rename_i y q
    rw [q] at e
    exact congrArg some e
  · rename_i q
    rw [q] at e
    have a : es.toList.any (·.refKey) = false := by
      rw [List.any_eq_false]
      intro y hy
      obtain ⟨z, t, hkey⟩ := hk y (Array.mem_toList_iff.mp hy)
      simp [DictEntry.refKey, hkey]
    have a' : ¬ es.toList.any (·.refKey) = true := by rw [a]; exact Bool.false_ne_true
    rw [if_neg a']
    exact congrArg some e

theorem ObjM.look {h : Heap} {x dx C : Addr} {mA : Str → Option Value} (I : ObjM h x dx C mA) : ∃ od, PySem.W.InstAt h x (PySem.W.instObj C dx) C (some od) ∧ ∀ name, PySem.W.lookIn name od = some (mA name) :=
  let ⟨od, ho, hl⟩ := lookIn_ns I.ns
  ⟨od, ⟨I.obj, rfl, rfl, ho⟩, hl⟩

section
variable {prog : Program} {w : World} {A : Around} {E : Value → Shared → Prop} {s : Shared} {K : PySem.W.Frag} {x dx C f : Addr} {mA : Str → Option Value} {name : Str} {v : Value}

end

/-! ### the attributes as a list of pairs -/
theorem RelO.some_of {v : V} {o : Option Value} (r : RelO (some v) o) : ∃ u, o = some u ∧ RelV v u := by
  cases o with
  | none => exact (show False from r).elim
  | some u => exact ⟨u, rfl, r⟩
section
variable {P : Program} {w : World} {H H' : Hp} {h h' : Heap} {a C dx : Addr} {fs fs' : List (Str × V)}
theorem ins_get (hok : HOk P w H h) (e : H a = some (.ins C dx fs)) : ∃ mA, ObjM h a dx C mA ∧ (∀ f, RelO (fs.lookup f) (mA f)) ∧ PySem.Within mA (fs.map (·.1)) ∧ fs.length ≤ 1000 ∧ H dx = some (.own a) := by
  obtain ⟨d, z, ne, ob, mA, n, r, q⟩ := (show ObjOk P w H h a (.ins C dx fs) from hok a _ e)
  exact ⟨mA, ⟨ob, n, ne⟩, r, q, z, d⟩
end

/-! ### what of the text a class must have -/
structure Cls (K : PySem.W.Frag) (C : Addr) : Prop where
  pg : PySem.W.plainGet K C Str.empty = true
  hd : PySem.W.hasDictIn K C = true
  po : PySem.W.plainOver K C = true
  sa : PySem.W.findIn K (.ref C) "__setattr__" = some (some (.builtin "object.__setattr__"))
theorem Cls.get {K : PySem.W.Frag} {C : Addr} (c : Cls K C) (f : Str) : PySem.W.plainGet K C f = true := c.pg
/-- a constant of the class -/
structure Con (K : PySem.W.Frag) (C : Addr) (f : Str) (v : V) (u : Value) : Prop where
  at_ : PySem.W.findIn K (.ref C) f = some (some u)
  rel : RelV v u
  get : PySem.W.specialIn K u "__get__" = some none
  cp : PySem.W.copiedNames.contains f = false
/-- a method: a plain def of the class or of one above it -/
structure Meth (K : PySem.W.Frag) (C : Addr) (m : Str) (f : Addr) : Prop where
  at_ : PySem.W.findIn K (.ref C) m = some (some (.ref f))
  fn : PySem.W.isFn K (.ref f) = true
  kp : PySem.W.keepIn K (.ref f) = true

section
variable {X : Cx} {pins : List (Addr × Obj)} {σ : St} {H : Hp} {s : Shared} {a C dx : Addr} {fs : List (Str × V)} {f : Str} {v : V} {A : Around} {E : Value → Shared → Prop}

/-- a new instance, tracked, without attributes -/
theorem Inv.made (I : Inv X pins σ H s) : Inv X pins σ (upd (upd H s.heap.objs.size (.own (s.heap.objs.size + 1))) (s.heap.objs.size + 1) (.ins C s.heap.objs.size []))
    { s with heap := (s.heap.push PySem.W.emptyDict).push (PySem.W.instObj C s.heap.objs.size) } := by
  have e1 : (s.heap.push PySem.W.emptyDict).get? s.heap.objs.size = some PySem.W.emptyDict := Heap.get?_push_size s.heap rfl
  have e2 : ((s.heap.push PySem.W.emptyDict).push (PySem.W.instObj C s.heap.objs.size)).get? (s.heap.objs.size + 1) = some (PySem.W.instObj C s.heap.objs.size) := by
    have := Heap.get?_push_size (s.heap.push PySem.W.emptyDict) (o := PySem.W.instObj C s.heap.objs.size) rfl
    rwa [Heap.size_push] at this
  have e3 : (s.heap.push PySem.W.emptyDict).Ns s.heap.objs.size (fun _ => none) := ⟨PySem.W.emptyDict, #[], _, e1, rfl, (fun e he => absurd he (by simp)), fun _ => rfl⟩
  have I1 := I.laid (a := s.heap.objs.size) (o := .own (s.heap.objs.size + 1)) (h' := s.heap.push PySem.W.emptyDict) (t' := s.toks) (fun b u q => Heap.get?_push_of_some _ q) (Nat.le_refl _) ⟨_, e1⟩
  refine I1.laid (a := s.heap.objs.size + 1) (o := .ins C s.heap.objs.size []) (t' := s.toks) (fun b u q => Heap.get?_push_of_some _ q) (Nat.le_of_eq (Heap.size_push _ _)) ?_
  have ne : s.heap.objs.size ≠ s.heap.objs.size + 1 := Nat.ne_of_lt (Nat.lt_succ_self _)
  refine ⟨by rw [upd_ne ne, upd_same], Nat.zero_le _, ne, e2, fun _ => none, (Heap.Ns1.of_empty e3).at fun o q => Heap.get?_push_of_some _ q, fun _ => True.intro, fun y hy => absurd rfl hy⟩

end

/-! ### readings and rules -/

section
variable {X : Cx} {o e value : Expr} {f : Str} {pos pos' tpos : Pos} {ta tv : TE}
end

/-! ### isinstance -/
section
variable {X : Cx} {pins : List (Addr × Obj)} {σ : St} {H : Hp} {s : Shared} {A : Around} {E : Value → Shared → Prop} {Q : Value → Shared → Prop} {c : Value} {b : Bool}
/-- the type of a value, as the fragment's deciders take it; for an instance its class -/
inductive TyOf (K : PySem.W.Frag) (H : Hp) : V → Value → Prop where
  | non : TyOf K H .non (.type "NoneType")
  | bl (x : Bool) : TyOf K H (.bl x) (.type "bool")
  | int (i : Int) : TyOf K H (.int i) (.type "int")
  | str (x : Str) : TyOf K H (.str x) (.type "str")
  | flt (x : UInt64) : TyOf K H (.flt x) (.type "float")
  | lst {a : Addr} {xs : List V} (e : H a = some (.lst xs)) : TyOf K H (.ref a) (.type "list")
  | frz {a : Addr} {o : Obj} {xs : List V} (e : H a = some (.frz o (.lst xs))) : TyOf K H (.ref a) (.type "list")
  | tup {a : Addr} {xs : List V} (e : H a = some (.tup xs)) : TyOf K H (.ref a) (.type "tuple")
  | dK {a : Addr} {kvs : List (Key × V)} (e : H a = some (.dK kvs)) : TyOf K H (.ref a) (.type "dict")
  | dT {a : Addr} {kvs : List (List Key × V)} (e : H a = some (.dT kvs)) : TyOf K H (.ref a) (.type "dict")
  | ins {a C dx : Addr} {fs : List (Str × V)} (e : H a = some (.ins C dx fs)) (cl : Cls K C) (ha : PySem.W.findIn K (.ref C) "__class__" = some (some (.builtin "object.__class__")))
      (hn : PySem.W.specialIn K (.builtin "object.__class__") "__get__" = some (some (.builtin "getset_descriptor.__get__"))) (htk : PySem.W.takesIn K (.builtin "object.__class__") = some true)
      (hm : PySem.W.mroIn K C (.type "object") = some true) : TyOf K H (.ref a) (.ref C)
/-- isinstance(x, c) for one class c, a built-in or an own one: kitOne's answer -/
theorem isinst_ok {x : V} {u t : Value} (I : Inv X pins σ H s) (rx : RelV x u) (ty : TyOf X.K H x t) (e : PySem.W.kitOne X.K t c = some b) (h : ∀ tk, Q (.bool b) { s with toks := tk }) :
    wpAny (model X.prog X.w) A (call (.builtin "isinstance") [u, c]) Q E s := by
  cases ty with
  | non => cases (show u = Value.none from rx); exact PySem.W.kia_one PySem.W.kitx_none I.kIn True.intro e (fun z => nomatch z) h
  | bl y => cases (show u = Value.bool y from rx); exact PySem.W.kia_one PySem.W.kitx_bool I.kIn True.intro e (fun z => nomatch z) h
  | int i => obtain ⟨t, q⟩ := (show ∃ t, u = Value.int i t from rx); cases q; exact PySem.W.kia_one PySem.W.kitx_int I.kIn True.intro e (fun z => nomatch z) h
  | str y => obtain ⟨t, q⟩ := (show ∃ t, u = Value.str y t from rx); cases q; exact PySem.W.kia_one PySem.W.kitx_str I.kIn True.intro e (fun z => nomatch z) h
  | flt y => obtain ⟨t, q⟩ := (show ∃ t, u = Value.float y t from rx); cases q; exact PySem.W.kia_one PySem.W.kitx_float I.kIn True.intro e (fun z => nomatch z) h
  | @lst a xs ea =>
    cases (show u = Value.ref a from rx)
    obtain ⟨_, _, n, _, h1⟩ := (show ObjOk X.prog X.w H s.heap a (.lst xs) from I.hok a _ ea)
    exact PySem.W.kia_one PySem.W.kitx_list I.kIn ⟨_, h1, rfl⟩ e (fun z => nomatch z) h
  | @frz a ob xs ea =>
    cases (show u = Value.ref a from rx)
    obtain ⟨_, _, _, n, _, h1⟩ := (show ObjOk X.prog X.w H s.heap a (.frz ob (.lst xs)) from I.hok a _ ea)
    exact PySem.W.kia_one PySem.W.kitx_list I.kIn ⟨_, h1, rfl⟩ e (fun z => nomatch z) h
  | @tup a xs ea =>
    cases (show u = Value.ref a from rx)
    obtain ⟨_, _, _, p⟩ := (show ObjOk X.prog X.w H s.heap a (.tup xs) from I.hok a _ ea)
    obtain ⟨o, h1, h2, _⟩ := p
    exact PySem.W.kia_one PySem.W.kitx_tuple I.kIn ⟨o, h1, h2⟩ e (fun z => nomatch z) h
  | @dK a kvs ea =>
    cases (show u = Value.ref a from rx)
    obtain ⟨_, _, vs, _, p⟩ := (show ObjOk X.prog X.w H s.heap a (.dK kvs) from I.hok a _ ea)
    obtain ⟨o, es, ep, h1, h2, _⟩ := p
    exact PySem.W.kia_one PySem.W.kitx_dict I.kIn ⟨o, h1, h2.1⟩ e (fun z => nomatch z) h
  | @dT a kvs ea =>
    cases (show u = Value.ref a from rx)
    obtain ⟨_, _, xs, _, o, es, ep, h1, h2, _⟩ := (show ObjOk X.prog X.w H s.heap a (.dT kvs) from I.hok a _ ea)
    exact PySem.W.kia_one PySem.W.kitx_dict I.kIn ⟨o, h1, h2.1⟩ e (fun z => nomatch z) h
  | @ins a C dx fs ea cl ha hn htk hm =>
    cases (show u = Value.ref a from rx)
    obtain ⟨mA, O, _⟩ := ins_get I.hok ea
    obtain ⟨od, J, _⟩ := O.look
    exact PySem.W.kia_one (PySem.W.kitx_own (cl.get _) cl.hd ha hn htk hm) I.kIn J e (fun z => nomatch z) h
end
end L2

namespace L2
open PySem PySem.Spec PyProof.Rows

/-! ### room -/
structure Room (k : Nat) (A : Around) : Prop where
  hd : A.handled = none
  dp : A.depth + 3 * k + 5 < recursionLimit
  un : A.units + 16 * k + 200 < cLine
theorem Room.mono {j k : Nat} {A : Around} (r : Room k A) (h : j ≤ k) : Room j A := ⟨r.hd, by have := r.dp; omega, by have := r.un; omega⟩
theorem Room.deeper {k : Nat} {A : Around} (r : Room (k + 1) A) (env : Env) : Room k (A.deeper env) :=
  ⟨r.hd, by have := r.dp; show A.depth + 1 + 3 * k + 5 < _; omega, by have := r.un; show A.units + 3 + 16 * k + 200 < _; omega⟩
theorem Room.in1 {k : Nat} {A : Around} (r : Room (k + 1) A) : Room k A.in1 :=
  ⟨r.hd, by have := r.dp; show A.depth + 3 * k + 5 < _; omega, by have := r.un; show A.units + 1 + 16 * k + 200 < _; omega⟩
theorem make_depth {A : Around} {C : Addr} {us : List Value} {kw : List (Str × Value)} : (A.under (.builtin "type.__call__" ⟨.ref C :: us, kw⟩)).depth = A.depth + 1 := by
  first | rfl | simp [Around.under, Code.weight, Code.isCreation, Code.isGuard, Code.isCaller, Code.frames, Code.isFrame, guardIds]
theorem make_units {A : Around} {C : Addr} {us : List Value} {kw : List (Str × Value)} : (A.under (.builtin "type.__call__" ⟨.ref C :: us, kw⟩)).units = A.units + 1 := by
  first | rfl | simp [Around.under, Code.cUnits, Code.frames, Code.isFrame]
theorem Room.make {k : Nat} {A : Around} (r : Room (k + 1) A) (C : Addr) (us : List Value) (kw : List (Str × Value)) : Room k (A.under (.builtin "type.__call__" ⟨.ref C :: us, kw⟩)) :=
  ⟨r.hd, by have := r.dp; rw [make_depth]; omega, by have := r.un; rw [make_units]; omega⟩
theorem Room.depth {k : Nat} {A : Around} (r : Room k A) : A.depth < recursionLimit := by have := r.dp; omega
theorem Room.units {k : Nat} {A : Around} (r : Room k A) : A.units + 64 < cLine := by have := r.un; omega
/-! ### argument lists and displays -/
def tNil : TA := fun _ H Q => Q [] H
def tCons (ta : TE) (tr : TA) : TA := fun σ H Q => ta σ H fun x H1 => tr σ H1 fun xs H2 => Q (x :: xs) H2
section
variable {X : Cx} {e : Expr} {es : List Expr} {te : TE} {t : TA} {pos : Pos}
theorem pa_nil : PA X [] tNil := fun _ _ _ _ H Q I h => Calls.spliced_nil ⟨[], H, I, .nil, h⟩
theorem pa_cons (ha : PE X e te) (hr : PA X es t) (hs : starEach (e :: es) X.env = (false, eval e X.env) :: starEach es X.env := by rfl) : PA X (e :: es) (tCons te t) := by
  intro pos pins s σ H Q I h
  rw [hs]
  show wpAny _ _ (spliced ((false, eval e X.env) :: backTo pos (starEach es X.env))) _ _ s
  refine Calls.spliced_cons (thn (ha pins s σ H _ I h) fun u s1 ⟨x, H1, I1, r1, q1⟩ => ?_)
  exact thn (hr pos pins s1 σ H1 _ I1 q1) fun us s2 ⟨xs, H2, I2, r2, q2⟩ => ⟨x :: xs, H2, I2, .cons r1 r2, q2⟩

/-- a tuple, a list of written items -/
def tTup (t : TA) : TE := fun σ H Q => t σ H fun xs H1 => xs.length ≤ sizeLine ∧ ∀ p, H1 p = none → Q (.ref p) (upd H1 p (.tup xs))
def tLst (t : TA) : TE := fun σ H Q => t σ H fun xs H1 => xs.length ≤ sizeLine ∧ ∀ p, H1 p = none → Q (.ref p) (upd H1 p (.lst xs))
theorem pe_tup {x1} (h : PA X es t) : PE X (.Tuple es x1 pos) (tTup t) := by
  intro pins s σ H Q I hq
  refine wpAny_Tuple_spliced (thn (h pos pins s σ H _ I hq) fun us s1 ⟨xs, H1, I1, r, z, q⟩ => ⟨by rw [← r.length]; exact z, ?_⟩)
  have hf : H1 s1.heap.objs.size = none := I1.hok.fresh (Nat.le_refl _)
  refine ⟨.ref s1.heap.objs.size, upd H1 s1.heap.objs.size (.tup xs), I1.laid (t' := s1.toks) (fun b u e => Heap.get?_push_of_some _ e) (Nat.le_refl _) ?_, rfl, q _ hf⟩
  exact ⟨z, us, r, ⟨_, Heap.get?_push_size _ rfl, rfl, _, rfl⟩⟩
theorem pe_lst (h : PA X es t) : PE X (.List es pos) (tLst t) := by
  intro pins s σ H Q I hq
  refine wpAny_List_spliced (thn (h pos pins s σ H _ I hq) fun us s1 ⟨xs, H1, I1, r, z, q⟩ => ⟨by rw [← r.length]; exact z, ?_⟩)
  have hf : H1 s1.heap.objs.size = none := I1.hok.fresh (Nat.le_refl _)
  refine ⟨.ref s1.heap.objs.size, upd H1 s1.heap.objs.size (.lst xs), I1.laid (t' := s1.toks) (fun b u e => Heap.get?_push_of_some _ e) (Nat.le_refl _) ?_, rfl, q _ hf⟩
  exact ⟨z, us, 0, r, Heap.get?_push_size _ rfl⟩
end

/-! ### what a def promises -/
/-- a def's promise: the bound arguments in the parameters' order, the heap, the wanted end, the wanted exception -/
abbrev Sp := List V → Hp → VK → XK → Prop
/-- how an exception lies behind a call (file 08 gives it): the callers' frames, abstract heap and state ahead of the call, the wish, the exception, the state -/
abbrev CXT := List Env → Hp → Shared → XK → Value → Shared → Prop

/-- the state at a call -/
structure Env0 (P : Program) (w : World) (K : PySem.W.Frag) (mg : Str → Option Value) (base : Heap) (A : Around) (outer : List Env) (s : Shared) (H : Hp) : Prop where
  frames : A.frames = some outer
  mod : Mod K mg base
  bs : ∀ b o, base.get? b = some o → s.heap.get? b = some o ∧ H b = none
  bsz : base.objs.size ≤ s.heap.objs.size
  funs : s.heap.FunFrames base outer
  frf : ∀ b ∈ frs outer, H b = none
  hok : HOk P w H s.heap
  bare : AllBare s.gens
/-- a call's end -/
def CE (outer : List Env) (P : Program) (w : World) (H : Hp) (s : Shared) (Q : VK) (u : Value) (s' : Shared) : Prop :=
  ∃ v H', s'.os = s.os ∧ AllBare s'.gens ∧ Un (frs outer) [] H H' s.heap s'.heap ∧ HOk P w H' s'.heap ∧ RelV v u ∧ Q v H'
def CR (CX : CXT) (outer : List Env) (P : Program) (w : World) (H : Hp) (s : Shared) (Q : VK) (E : XK) (r : Result) (s' : Shared) : Prop :=
  match r with
  | .ok (.ret u) => CE outer P w H s Q u s'
  | .ok _ => False
  | .error e => CX outer H s E e s'
structure FnOk (P : Program) (w : World) (K : PySem.W.Frag) (mg : Str → Option Value) (base : Heap) (CX : CXT) (k : Nat) (f : Addr) (fd : FuncData) (ps : List Str) (sp : Sp) : Prop where
  len : ∀ vs H Q E, sp vs H Q E → vs.length = ps.length
  run : ∀ (A : Around) (outer : List Env) (s : Shared) (H : Hp) (args : Args) (us : List Value) (vs : List V) (Q : VK) (E : XK), Room k A → Env0 P w K mg base A outer s H → BindsTo s fd args (ps.zip us) → Vals vs us → sp vs H Q E →
    codeAny (model P w) A (.call (.ref f) args) (CR CX outer P w H s Q E) s
theorem FnOk.mono {P : Program} {w : World} {K : PySem.W.Frag} {mg : Str → Option Value} {base : Heap} {CX : CXT} {j k : Nat} {f : Addr} {fd : FuncData} {ps : List Str} {sp : Sp} (F : FnOk P w K mg base CX j f fd ps sp) (h : j ≤ k) :
    FnOk P w K mg base CX k f fd ps sp := ⟨F.len, fun A outer s H args us vs Q E hr => F.run A outer s H args us vs Q E (hr.mono h)⟩
/-- a weaker promise -/
theorem FnOk.imp {P : Program} {w : World} {K : PySem.W.Frag} {mg : Str → Option Value} {base : Heap} {CX : CXT} {k : Nat} {f : Addr} {fd : FuncData} {ps : List Str} {sp sp' : Sp} (F : FnOk P w K mg base CX k f fd ps sp)
    (h : ∀ vs H Q E, sp' vs H Q E → sp vs H Q E) : FnOk P w K mg base CX k f fd ps sp' :=
  ⟨fun vs H Q E q => F.len vs H Q E (h _ _ _ _ q), fun A outer s H args us vs Q E hr he hb hv hs => F.run A outer s H args us vs Q E hr he hb hv (h _ _ _ _ hs)⟩

theorem Env0.make {P : Program} {w : World} {K : PySem.W.Frag} {mg : Str → Option Value} {base : Heap} {A : Around} {outer : List Env} {s : Shared} {H : Hp} (e : Env0 P w K mg base A outer s H) (C : Addr) (us : List Value) (kw : List (Str × Value)) :
    Env0 P w K mg base (A.under (.builtin "type.__call__" ⟨.ref C :: us, kw⟩)) outer s H := ⟨by first | exact e.frames | (simpa [Around.under, Code.envs, Code.isFrame, pushEnvs] using e.frames), e.mod, e.bs, e.bsz, e.funs, e.frf, e.hok, e.bare⟩
theorem Env0.in1 {P : Program} {w : World} {K : PySem.W.Frag} {mg : Str → Option Value} {base : Heap} {A : Around} {outer : List Env} {s : Shared} {H : Hp} (e : Env0 P w K mg base A outer s H) :
    Env0 P w K mg base A.in1 outer s H := ⟨e.frames, e.mod, e.bs, e.bsz, e.funs, e.frf, e.hok, e.bare⟩

section
variable {X : Cx} {pins : List (Addr × Obj)} {σ : St} {H : Hp} {s s' : Shared}
/-- from a body: what a callee wants -/
theorem Inv.env0 (I : Inv X pins σ H s) : Env0 X.prog X.w X.K X.mg X.base X.A X.stack s H :=
  ⟨I.ok.frames, I.ok.mod, I.bs, Nat.le_trans I.ok.bsz I.sz, I.stack, I.stkFree, I.hok, I.bare⟩
/-- behind a call -/
theorem Inv.after {Q : VK} {u : Value} (I : Inv X pins σ H s) (h : CE X.stack X.prog X.w H s Q u s') : EP X pins σ Q u s' := by
  obtain ⟨v, H', os, bare, un, hok, r, q⟩ := h
  obtain ⟨hh, g, d, t, os'⟩ := s'
  obtain rfl : os' = s.os := os
  exact ⟨v, H', I.call (h' := hh) (g' := g) (d' := d) (t' := t) (ch := []) un hok bare (fun b z => absurd z (by simp)), r, q⟩
end

/-! ### calls -/
/-- f(..): the written arguments, then the defaults dvs; E: what is wanted of an exception -/
def tCall (sp : Sp) (dvs : List V) (E : XK) (t : TA) : TE := fun σ H Q => t σ H fun vs H1 => sp (vs ++ dvs) H1 Q E

/-- how the parameters are bound: us the positional arguments, kw the keywords' values by name, ds the defaults that fill up -/
def Binds (K : PySem.W.Frag) (fd : FuncData) (ps : List Str) (ds : List Value) : Prop :=
  ∀ (s : Shared) (us : List Value), K.In s.heap → (us ++ ds).length = ps.length → BindsTo s fd ⟨us, []⟩ (ps.zip (us ++ ds))
/-- every parameter is given -/
theorem Binds.all {K : PySem.W.Frag} {fd : FuncData} {ps : List Str} (h : ∀ us : List Value, us.length = ps.length → bindArgs fd ⟨us, []⟩ = pure (ps.zip us)) : Binds K fd ps [] := fun s us _ hl => by
  rw [List.append_nil] at hl ⊢
  exact .of_eq (h us hl)

/-- an exception of a callee reaches what this body wants of exceptions -/
def Passes (CX : CXT) (X : Cx) (E : XK) : Prop := ∀ (pins : List (Addr × Obj)) (σ : St) (H : Hp) (s : Shared) (e : Value) (s' : Shared), Inv X pins σ H s → CX X.stack H s E e s' → X.xe e s'

section
variable {X : Cx} {CX : CXT} {k : Nat} {f C : Addr} {fd : FuncData} {ps : List Str} {sp : Sp} {dvs : List V} {ds : List Value} {E : XK} {x m : Str} {p pos apos : Pos} {e o : Expr} {es : List Expr} {ta : TE} {t : TA}

/-- the callee runs -/
theorem run_fn {pins : List (Addr × Obj)} {σ : St} {H : Hp} {s : Shared} {Q : VK} {us : List Value} {vs : List V} (F : FnOk X.prog X.w X.K X.mg X.base CX k f fd ps sp) (hr : Room k X.A) (hb : Binds X.K fd ps ds) (hd : Vals dvs ds) (hx : Passes CX X E)
    (I : Inv X pins σ H s) (r : Vals vs us) (h : sp (vs ++ dvs) H Q E) : wpAny (model X.prog X.w) X.A (call (.ref f) us) (EP X pins σ Q) X.xe s := by
  have r2 : Vals (vs ++ dvs) (us ++ ds) := r.append hd
  have hl : (us ++ ds).length = ps.length := by rw [← r2.length]; exact F.len _ _ _ _ h
  refine wpAny_call (codeAny_mono (F.run X.A X.stack s H ⟨us, []⟩ (us ++ ds) (vs ++ dvs) Q E hr I.env0 (hb s us I.kIn hl) r2 h) fun r s' hq => ?_)
  cases r with
  | error e => exact hx pins σ H s e s' I hq
  | ok fl =>
    cases fl with
    | ret u => exact I.after hq
    | next => exact False.elim hq
    | brk => exact False.elim hq
    | cont => exact False.elim hq

theorem pe_call (F : FnOk X.prog X.w X.K X.mg X.base CX k f fd ps sp) (hr : Room k X.A) (hg : Gl X x) (hm : X.mg x = some (.ref f)) (hk : PySem.W.keepIn X.K (.ref f) = true) (hb : Binds X.K fd ps ds) (hd : Vals dvs ds) (hx : Passes CX X E)
    (ha : PA X (e :: es) t) (hdb : (x == ("__debug__" : Str)) = false := by decide) (he : starEach (e :: es) X.env = (false, eval e X.env) :: starEach es X.env := by rfl) (hpl : (backTo pos (starEach es X.env)).any (·.1) = false := by rfl) :
    PE X (.Call (.Name x p) (e :: es) [] pos) (tCall sp dvs E t) := by
  intro pins s σ H Q I h
  refine wpAny_Call_Name_kw (ld_glob I hg hm ?_ hdb)
  refine PySem.W.callWith_K (h₀ := X.base) I.ok.mod.kin hk (thn (ha pos pins s σ H _ I h) fun us s1 ⟨vs, H1, I1, r, q⟩ => ⟨I1.kIn, ?_⟩) he hpl
  exact run_fn F hr hb hd hx I1 r q
/-- what a class must have to be made -/
structure Mk (K : PySem.W.Frag) (C f : Addr) : Prop where
  makes : PySem.W.makesIn K C = true
  init : PySem.W.findIn K (.ref C) "__init__" = some (some (.ref f))
  fn : PySem.W.isFn K (.ref f) = true
  kp : PySem.W.keepIn K (.ref C) = true

end

/-! ### keywords -/
section
variable {X : Cx} {CX : CXT} {k : Nat} {f C : Addr} {fd : FuncData} {ps ks : List Str} {sp : Sp} {E : XK} {x m : Str} {p pos apos kpos : Pos} {e o : Expr} {es : List Expr} {kws : List Keyword} {te ta : TE} {t tk : TA} {nm : Option Str}
/-- how a call with keywords binds: g puts the positional values us and the keywords' values ws (names ks) in the parameters' order, defaults among them -/
structure KBinds (K : PySem.W.Frag) (fd : FuncData) (ps ks : List Str) (g : List Value → List Value → List Value) (gV : List V → List V → List V) : Prop where
  to : ∀ (s : Shared) (us ws : List Value), K.In s.heap → (g us ws).length = ps.length → BindsTo s fd ⟨us, ks.zip ws⟩ (ps.zip (g us ws))
  rel : ∀ {vs : List V} {us : List Value} {zs : List V} {ws : List Value}, Vals vs us → Vals zs ws → Vals (gV vs zs) (g us ws)
variable {g : List Value → List Value → List Value} {gV : List V → List V → List V}
end

/-! ### a def's body keeps its promise -/
/-- names: the parameters first -/
structure FnScope (N P : List Str) (sc : Scope) : Prop where
  kind : sc.kind = .function
  co : sc.isCoroutine = false
  gen : sc.isGenerator = false
  nd : N.Nodup
  pre : N.take P.length = P
  par : ∀ x ∈ P, sc.names.lookup x = some .local ∨ sc.names.lookup x = some .cell
  nofree : ∀ y ∈ sc.names, y.2 ≠ .free

theorem bindL_out {kindOf : Str → Option NameKind} {x : Str} : ∀ {binds : List (Str × Value)} {m : Str → Option Value}, (∀ v, (x, v) ∉ binds) → bindL kindOf binds m x = m x
  | [], _, _ => rfl
  | (n, v) :: r, m, h => by
    unfold bindL
    rw [bindL_out fun w hw => h w (List.mem_cons_of_mem _ hw)]
    split
    · have : x ≠ n := by rintro rfl; exact h v List.mem_cons_self
      simp [this]
    · rfl
theorem bindC_out {kindOf : Str → Option NameKind} {x : Str} : ∀ {binds : List (Str × Value)} {m : Str → Option Value}, (∀ v, (x, v) ∉ binds) → bindC kindOf binds m x = m x
  | [], _, _ => rfl
  | (n, v) :: r, m, h => by
    unfold bindC
    rw [bindC_out fun w hw => h w (List.mem_cons_of_mem _ hw)]
    split
    · rfl
    · have : x ≠ n := by rintro rfl; exact h v List.mem_cons_self
      simp [this]
theorem bindL_get {kindOf : Str → Option NameKind} {x : Str} {v : Value} : ∀ {P : List Str} {vs : List Value} {i : Nat} {m : Str → Option Value}, P.Nodup → P[i]? = some x → vs[i]? = some v → kindOf x = some .local →
    bindL kindOf (P.zip vs) m x = some v
  | [], _, _, _, _, h, _, _ => by simp at h
  | _ :: _, [], _, _, _, _, h, _ => by simp at h
  | p :: P, w :: vs, 0, m, nd, h1, h2, hk => by
    simp at h1 h2; subst h1; subst h2
    show bindL kindOf ((p, w) :: P.zip vs) m p = _
    unfold bindL
    rw [bindL_out fun v hv => (List.nodup_cons.mp nd).1 (List.of_mem_zip hv).1, if_pos hk]
    simp
  | p :: P, w :: vs, i + 1, m, nd, h1, h2, hk => by
    show bindL kindOf ((p, w) :: P.zip vs) m x = _
    unfold bindL
    exact bindL_get (i := i) (List.nodup_cons.mp nd).2 (by simpa using h1) (by simpa using h2) hk
theorem bindC_get {kindOf : Str → Option NameKind} {x : Str} {v : Value} : ∀ {P : List Str} {vs : List Value} {i : Nat} {m : Str → Option Value}, P.Nodup → P[i]? = some x → vs[i]? = some v → kindOf x ≠ some .local →
    bindC kindOf (P.zip vs) m x = some v
  | [], _, _, _, _, h, _, _ => by simp at h
  | _ :: _, [], _, _, _, _, h, _ => by simp at h
  | p :: P, w :: vs, 0, m, nd, h1, h2, hk => by
    simp at h1 h2; subst h1; subst h2
    show bindC kindOf ((p, w) :: P.zip vs) m p = _
    unfold bindC
    rw [bindC_out fun v hv => (List.nodup_cons.mp nd).1 (List.of_mem_zip hv).1, if_neg hk]
    simp
  | p :: P, w :: vs, i + 1, m, nd, h1, h2, hk => by
    show bindC kindOf ((p, w) :: P.zip vs) m x = _
    unfold bindC
    exact bindC_get (i := i) (List.nodup_cons.mp nd).2 (by simpa using h1) (by simpa using h2) hk

/-- the names' values at the entry -/
def start (N : List Str) (vs : List V) : St := vs.map some ++ List.replicate (N.length - vs.length) none

/-- the context of a def's body, at its entry; an exception leaves the frame, then lies as CX says -/
def cxOf (CX : CXT) (P : Program) (w : World) (K : PySem.W.Frag) (mg : Str → Option Value) (base : Heap) (N : List Str) (qual : Str) (scope : Scope) (f : Addr) (cd : Value) (A : Around) (outer : List Env) (s : Shared) (H : Hp) (E : XK) : Cx where
  prog := P
  w := w
  K := K
  mg := mg
  base := base
  A := A.deeper (envOfC qual scope s.heap.objs.size f cd)
  N := N
  s₀ := s
  H₀ := H
  env := envOfC qual scope s.heap.objs.size f cd
  outer := outer
  stack := envOfC qual scope s.heap.objs.size f cd :: outer
  ex := []
  calm := true
  fn := fun _ => true
  pn := []
  xe := fun e s' => wpAny (model P w) (A.deeper (envOfC qual scope s.heap.objs.size f cd)) (leaving (envOfC qual scope s.heap.objs.size f cd) e) (fun _ s'' => CX outer H s E e s'') (fun e' s'' => CX outer H s E e' s'') s'

theorem cell_has {sc : Scope} {n : Nat} {x : Str} (h : sc.names.lookup x = some .cell) : ∃ c, (cellsFrom n sc.names []).lookup x = some c := by
  have q := PySem.W.cellsFrom_some sc.names n [] (.inl h)
  exact Option.isSome_iff_exists.mp q

theorem inv_start {CX : CXT} {P : Program} {w : World} {K : PySem.W.Frag} {mg : Str → Option Value} {base : Heap} {N ps : List Str} {qual : Str} {scope : Scope} {f : Addr} {cd : Value} {A : Around} {outer : List Env} {s s1 : Shared} {H : Hp} {E : XK} {us : List Value} {vs : List V}
    (S : FnScope N ps scope) (hd : A.handled = none) (e0 : Env0 P w K mg base A outer s H) (hl : vs.length = ps.length) (r : Vals vs us)
    (x : InCallC s s.heap.objs.size (bindL (envOfC qual scope s.heap.objs.size f cd).kindOf (ps.zip us) fun _ => none) (cellsFrom (s.heap.objs.size + 1) scope.names []) (bindC (envOfC qual scope s.heap.objs.size f cd).kindOf (ps.zip us) fun _ => none) s1) :
    Inv (cxOf CX P w K mg base N qual scope f cd A outer s H E) [] (start N vs) H s1 := by
  have hpl : ps.length ≤ N.length := by have := congrArg List.length S.pre; rw [List.length_take] at this; omega
  obtain ⟨h1, tk, rfl, hk⟩ := x.done
  have noA : ∀ b : Addr, b ∉ (cxOf CX P w K mg base N qual scope f cd A outer s H E).ex := fun b z => absurd (show b ∈ ([] : List Addr) from z) (by simp)
  refine ⟨⟨e0.mod, S.kind, rfl, rfl, Nat.le_refl _, fun y z c h1 h2 => ?_, fun y hy => ?_, fun y c _ h => ?_, fun _ => hd, Around.frames_deeper e0.frames, .inr ⟨rfl, rfl⟩, fun b z => absurd z (noA b), e0.bs, e0.bsz, fun b _ _ => noA b, fun b z => absurd z (noA b), e0.funs, e0.frf⟩,
    rfl, e0.bare, Un.kept hk, ⟨_, x.toInCall.ns, fun i y v h1 h2 h3 => ?_⟩, fun y c h => ⟨_, x.cell y c h⟩, e0.hok.fresh (Nat.le_refl _), fun y c h => ?_, fun p hp => absurd (show p ∈ ([] : List (Addr × Obj)) from hp) (by simp), e0.hok.kept hk, ?_⟩
  · exact name_of_addr x.apart (PySem.mem_of_lookup h1) (PySem.mem_of_lookup h2)
  · have hy : scope.names.lookup y = some .cell ∨ scope.names.lookup y = some .free := hy
    rcases hy with hy | hy
    · exact cell_has hy
    · exact absurd rfl (S.nofree _ (PySem.mem_of_lookup hy))
  · exact Nat.le_of_lt (x.above y c (PySem.mem_of_lookup h))
  · have hi : i < vs.length := by
      unfold start at h2
      by_cases hi : i < vs.length
      · exact hi
      · rw [List.getElem?_append_right (by simpa using hi)] at h2
        rw [List.getElem?_replicate] at h2
        split at h2 <;> cases h2
    have ha : vs[i]? = some v := by
      unfold start at h2
      rw [List.getElem?_append_left (by simpa using hi), List.getElem?_map] at h2
      cases e : vs[i]? with
      | none => rw [e] at h2; cases h2
      | some a => rw [e] at h2; cases h2; rfl
    obtain ⟨u, hu, rv⟩ := r.get ha
    have hp : ps[i]? = some y := by
      rw [← S.pre, List.getElem?_take_of_lt (by omega)]; exact h1
    have ndP : ps.Nodup := by rw [← S.pre]; exact S.nd.sublist (List.take_sublist _ _)
    refine ⟨u, rv, ?_⟩
    rcases S.par y (List.mem_of_getElem? hp) with k | k
    · exact .inl ⟨k, bindL_get ndP hp hu k⟩
    · obtain ⟨c, e⟩ := cell_has (n := s.heap.objs.size + 1) k
      refine .inr ⟨.inl k, c, e, ?_⟩
      have q := x.cell y c e
      rw [bindC_get ndP hp hu (by show scope.names.lookup y ≠ _; rw [k]; decide)] at q
      exact q
  · exact e0.hok.fresh (Nat.le_of_lt (x.above y c (PySem.mem_of_lookup h)))
  · unfold start
    show _ = N.length
    rw [List.length_append, List.length_map, List.length_replicate]
    omega

/-- THE RULE: a def (or a method) of the text, by its body. The body's reading t is chosen for each entry; it is run at the parameters' values -/
theorem fn_of {CX : CXT} {P : Program} {w : World} {K : PySem.W.Frag} {mg : Str → Option Value} {base : Heap} {k : Nat} {f : Addr} {name qual : Str} {params : Arguments} {body : List Stmt} {scope : Scope} {dV kV doc pm cdv ct oc : Value} {an od : Option Addr}
    {osl : Array (Option Value)} {N ps : List Str} {sp : Sp} (lk : K.lookup f = some ⟨oc, od, .func (PySem.W.fnOf name qual params body scope dV kV doc pm an cdv ct), osl⟩) (hcd : PySem.W.codeIn K cdv qual = true) (S : FnScope N ps scope)
    (len : ∀ vs H Q E, sp vs H Q E → vs.length = ps.length)
    (hbody : ∀ (A : Around) (outer : List Env) (s : Shared) (H : Hp) (vs : List V) (Q : VK) (E : XK), Room k (A.deeper (envOfC qual scope s.heap.objs.size f cdv)) → sp vs H Q E →
      ∃ t, PSs (cxOf CX P w K mg base N qual scope f cdv A outer s H E) body t ∧ t { nx := fun _ H' => Q .non H', rt := Q } (start N vs) H) :
    FnOk P w K mg base CX (k + 1) f (PySem.W.fnOf name qual params body scope dV kV doc pm an cdv ct) ps sp := by
  refine ⟨len, fun A outer s H args us vs Q E hr e0 hb r hsp => ?_⟩
  have hl := len _ _ _ _ hsp
  have KX : K.In s.heap := e0.mod.kin.keeps fun b o e => (e0.bs b o e).1
  have lim : s.heap.NoLimit := e0.mod.nolimit.keeps fun b o e => (e0.bs b o e).1
  have hkind : ∀ y ∈ ps.zip us, scope.names.lookup y.1 = some .local ∨ (scope.names.lookup y.1 = some .cell ∧ ((cellsFrom (s.heap.objs.size + 1) scope.names []).lookup y.1).isSome = true) := fun ⟨n, v⟩ hy => by
    rcases S.par n (List.of_mem_zip hy).1 with q | q
    · exact .inl q
    · exact .inr ⟨q, PySem.W.cellsFrom_some _ _ _ (.inl q)⟩
  refine codeAny_call_function hr.depth (KX _ _ lk) rfl S.co S.gen rfl (PySem.W.codeRec_of KX hcd) (hb _ _ _ _ ?_)
  refine wpAny_newFunctionEnv_cells S.kind hkind fun env he s1 x => ?_
  subst he
  refine ⟨lim.keeps x.toInCall.keep, codeAny_func ?_⟩
  obtain ⟨t, ht, hq⟩ := hbody A outer s H vs Q E (hr.deeper _) hsp
  have I : Inv (cxOf CX P w K mg base N qual scope f cdv A outer s H E) [] (start N vs) H s1 := inv_start S hr.hd e0 hl r x
  refine wpAny_mono (ht [] s1 (start N vs) H _ I hq) (fun fl s' hs => ?_) fun e s' hs => hs
  have fin : ∀ {σ' : St} {H' : Hp} {v : V} {u : Value}, Inv (cxOf CX P w K mg base N qual scope f cdv A outer s H E) [] σ' H' s' → RelV v u → Q v H' → CE outer P w H s Q u s' :=
    fun {σ' H' v u} J rv q => ⟨v, H', J.os, J.bare, J.base, J.hok, rv, q⟩
  cases fl with
  | ret u =>
    obtain ⟨v, σ', H', J, rv, q⟩ := hs
    exact fin J rv q
  | next =>
    obtain ⟨σ', H', J, q⟩ := hs
    exact fin (v := V.non) (u := Value.none) J rfl q
  | brk =>
    obtain ⟨_, _, _, q⟩ := hs
    exact False.elim q
  | cont =>
    obtain ⟨_, _, _, q⟩ := hs
    exact False.elim q
end L2

namespace L2
open PySem PySem.Spec PyProof.Rows
section
variable {X : Cx} {x : Str} {p pos : Pos} {e : Expr} {es : List Expr} {t : TA} {id T : String} {r : List V → Hp → VK → Prop}

def tCB (r : List V → Hp → VK → Prop) (t : TA) : TE := fun σ H Q => t σ H fun vs H1 => r vs H1 Q
/-- f(e, ..), f a built-in function -/
theorem pe_callB (hc : CallR X (.builtin id) r) (hg : Gl X x) (hm : X.mg x = none) (hv : bootBuiltins x = some (.builtin id)) (ha : PA X (e :: es) t) (hn : x ≠ "__name__" := by decide) (hdb : (x == ("__debug__" : Str)) = false := by decide)
    (he : starEach (e :: es) X.env = (false, eval e X.env) :: starEach es X.env := by rfl) (hpl : (backTo pos (starEach es X.env)).any (·.1) = false := by rfl) : PE X (.Call (.Name x p) (e :: es) [] pos) (tCB r t) := by
  intro pins s σ H Q I h
  refine wpAny_Call_Name_kw (ld_blt I hg hm hv ?_ hn hdb)
  exact PyProof.Rows.callWith_builtin1 (thn (ha pos pins s σ H _ I h) fun us s1 ⟨vs, H1, I1, r1, q1⟩ => hc pins s1 σ H1 vs us Q I1 r1 q1) he hpl
/-- T(e, ..), T a built-in type -/
theorem pe_callTy (hc : CallR X (.type T) r) (hg : Gl X x) (hm : X.mg x = none) (hv : bootBuiltins x = some (.type T)) (ha : PA X (e :: es) t) (hn : x ≠ "__name__" := by decide) (hdb : (x == ("__debug__" : Str)) = false := by decide)
    (he : starEach (e :: es) X.env = (false, eval e X.env) :: starEach es X.env := by rfl) (hpl : (backTo pos (starEach es X.env)).any (·.1) = false := by rfl) : PE X (.Call (.Name x p) (e :: es) [] pos) (tCB r t) := by
  intro pins s σ H Q I h
  refine wpAny_Call_Name_kw (ld_blt I hg hm hv ?_ hn hdb)
  exact PyProof.Rows.callWith_type1 (thn (ha pos pins s σ H _ I h) fun us s1 ⟨vs, H1, I1, r1, q1⟩ => hc pins s1 σ H1 vs us Q I1 r1 q1) he hpl
end
end L2

namespace HT
open PySem PyProof.Rows

section
open PySem.SeqAt
open PySem.AutoSeq1 (wpAny_loadPart')
open PySem.MeetsSeq PySem.MeetsSeq2 PySem.MeetsSeq3

end

section
variable {prog : Program} {w : World} {A : Around} {E : Value → Shared → Prop} {s : Shared}

/-! ### t[a:b], not the whole -/
/-- a slice's bound as a place among n (d where it is left out) -/
def sIx (n d : Nat) : Option Int → Nat
  | none => d
  | some v => if v < 0 then (v + (n : Int)).toNat else min v.toNat n
theorem sIx_none (n d : Nat) : sIx n d none = d := rfl
theorem sIx_nat (n d k : Nat) : sIx n d (some (k : Int)) = min k n := by
  show (if (k : Int) < 0 then ((k : Int) + (n : Int)).toNat else min (k : Int).toNat n) = min k n
  rw [if_neg (by omega), Int.toNat_natCast]
end
end HT

namespace L2
open PySem PySem.Spec PyProof.Rows

/-! ### the parts of a slice -/
abbrev TO := St → Hp → (Option Int → Hp → Prop) → Prop
/-- a slice's part (left out, or an int) -/
def PO (X : Cx) (e : Option Expr) (t : TO) : Prop :=
  ∀ (pins : List (Addr × Obj)) (s : Shared) (σ : St) (H : Hp) (Q : Option Int → Hp → Prop), Inv X pins σ H s → t σ H Q →
    wpAny (model X.prog X.w) X.A (evalPart e X.env) (fun u s' => ∃ o H', Inv X pins σ H' s' ∧ IsPart u o ∧ Q o H') X.xe s
def tNoPart : TO := fun _ H Q => Q none H
def tPart (t : TE) : TO := fun σ H Q => t σ H fun x H1 => ∃ i, x = .int i ∧ Q (some i) H1

section
variable {X : Cx} {e : Expr} {te : TE} {lo hi : Option Expr} {tl th : TO} {pos p2 : Pos}

theorem po_none : PO X none tNoPart := by
  intro pins s σ H Q I h
  rw [evalPart_none]
  exact wpAny_pure ⟨none, H, I, .none, h⟩
theorem po_some (h : PE X e te) : PO X (some e) (tPart te) := by
  intro pins s σ H Q I hw
  rw [evalPart_some]
  refine thn (h pins s σ H _ I hw) fun u s1 ⟨x, H1, I1, r1, q1⟩ => ?_
  obtain ⟨i, rfl, q⟩ := q1
  obtain ⟨t, rfl⟩ := r1
  exact ⟨some i, H1, I1, .int i t, q⟩

/-- what a slice of a value is, by values: the slice object stands at sl -/
def SlR (X : Cx) (r : V → Option Int → Option Int → Hp → VK → Prop) : Prop :=
  ∀ (pins : List (Addr × Obj)) (s : Shared) (σ : St) (H : Hp) (x : V) (v vl vu : Value) (lo hi : Option Int) (sl : Addr) (Q : VK), Inv X pins σ H s → RelV x v → s.heap.IsSliceOf sl vl vu .none → IsPart vl lo → IsPart vu hi → r x lo hi H Q →
    ∃ T id, typeLookup (.type T) "__getitem__" = pure (some (.builtin id)) ∧ s.TypeIs v T ∧ wpAny (model X.prog X.w) X.A (getItem v (.ref sl)) (EP X pins σ Q) X.xe s
theorem SlR.or {r r' : V → Option Int → Option Int → Hp → VK → Prop} (h : SlR X r) (h' : SlR X r') : SlR X (fun x lo hi H Q => r x lo hi H Q ∨ r' x lo hi H Q) := by
  intro pins s σ H x v vl vu lo hi sl Q I rx hs pl pu q
  rcases q with q | q
  · exact h pins s σ H x v vl vu lo hi sl Q I rx hs pl pu q
  · exact h' pins s σ H x v vl vu lo hi sl Q I rx hs pl pu q
def tSl (r : V → Option Int → Option Int → Hp → VK → Prop) (te : TE) (tl th : TO) : TE := fun σ H Q => te σ H fun x H1 => tl σ H1 fun l H2 => th σ H2 fun u H3 => r x l u H3 Q
/-- a[lo:hi], any a -/
theorem pe_slice {r : V → Option Int → Option Int → Hp → VK → Prop} (hr : SlR X r) (he : PE X e te) (hl : PO X lo tl) (hu : PO X hi th) : PE X (.Subscript e (.Slice lo hi none p2) pos) (tSl r te tl th) := by
  intro pins s σ H Q I h
  refine Subscript_ (thn (he pins s σ H _ I h) fun v s1 ⟨x, H1, I1, r1, q1⟩ => ?_)
  refine wpAny_Slice (thn (hl pins s1 σ H1 _ I1 q1) fun vl s2 ⟨l, H2, I2, pl, q2⟩ => thn (hu pins s2 σ H2 _ I2 q2) fun vu s3 ⟨u, H3, I3, pu, q3⟩ => ?_)
  rw [evalPart_none]
  refine wpAny_pure ?_
  have I4 : Inv X pins σ H3 { s3 with heap := s3.heap.push { cls := .type "slice", data := .fields #[vl, vu, .none] } } := I3.kept (t' := s3.toks) fun b ob q => Heap.get?_push_of_some _ q
  obtain ⟨T, id, hT, ht, hg⟩ := hr pins { s3 with heap := s3.heap.push { cls := .type "slice", data := .fields #[vl, vu, .none] } } σ H3 x v vl vu l u s3.heap.objs.size Q I4 r1 (Heap.IsSliceOf.new ..) pl pu q3
  show wpAny (model X.prog X.w) X.A (subscriptTail e (.Slice lo hi none p2) v (.ref s3.heap.objs.size)) (EP X pins σ Q) X.xe { s3 with heap := s3.heap.push { cls := .type "slice", data := .fields #[vl, vu, .none] } }
  exact tail_any (ops := [.ref s3.heap.objs.size, v]) ht hT hg (by with_unfolding_all rfl)

/-- the items of xs[lo:hi] -/
def cutV (xs : List V) (lo hi : Option Int) : List V := (xs.drop (HT.sIx xs.length 0 lo)).take (HT.sIx xs.length xs.length hi - HT.sIx xs.length 0 lo)
theorem cutV_length (xs : List V) (lo hi : Option Int) : (cutV xs lo hi).length ≤ xs.length := by
  unfold cutV
  rw [List.length_take, List.length_drop]
  omega
/-! ### t < u, t + u -/
end
end L2

namespace L2
open PySem PySem.Spec PyProof.Rows

/-! ### places -/
/-- the place that an index of any sign means -/
def ixN (n : Nat) (i : Int) : Option Nat := if 0 ≤ i then (if i < n then some i.toNat else none) else if -(n : Int) ≤ i then some (i + n).toNat else none
def atI {α : Type} (xs : List α) (i : Int) : Option α := (ixN xs.length i).bind fun j => xs[j]?
theorem ixN_seq {n : Nat} {i : Int} {j : Nat} (h : ixN n i = some j) : seqIndex? i n = some j ∧ j < n ∧ -(n : Int) ≤ i ∧ i < n := by
  unfold ixN at h
  by_cases h0 : 0 ≤ i
  · rw [if_pos h0] at h
    by_cases h1 : i < n
    · rw [if_pos h1] at h
      have e : i.toNat = j := Option.some.inj h
      exact ⟨by rw [seqIndex_of h0 h1, e], by omega, by omega, h1⟩
    · rw [if_neg h1] at h; cases h
  · rw [if_neg h0] at h
    by_cases h1 : -(n : Int) ≤ i
    · rw [if_pos h1] at h
      have e : (i + n).toNat = j := Option.some.inj h
      exact ⟨by rw [seqIndex_neg (by omega) h1, e], by omega, h1, by omega⟩
    · rw [if_neg h1] at h; cases h
theorem atI_get {α : Type} {xs : List α} {i : Int} {v : α} (h : atI xs i = some v) : ∃ j, seqIndex? i xs.length = some j ∧ xs[j]? = some v ∧ j < xs.length ∧ -(xs.length : Int) ≤ i ∧ i < xs.length := by
  unfold atI at h
  cases e : ixN xs.length i with
  | none => rw [e] at h; cases h
  | some j =>
    rw [e] at h
    obtain ⟨h1, h2, h3, h4⟩ := ixN_seq e
    exact ⟨j, h1, h, h2, h3, h4⟩
theorem atI_nat {α : Type} {xs : List α} {j : Nat} {v : α} (h : xs[j]? = some v) : atI xs (j : Int) = some v := by
  have hj : j < xs.length := (List.getElem?_eq_some_iff.mp h).1
  have e : ixN xs.length (j : Int) = some j := by
    unfold ixN
    rw [if_pos (by omega), if_pos (by omega)]; simp
  unfold atI; rw [e]; exact h
theorem atI_last {α : Type} (xs : List α) (v : α) : atI (xs ++ [v]) (-1) = some v := by
  have hl : (xs ++ [v]).length = xs.length + 1 := by simp
  have e : ixN (xs ++ [v]).length (-1) = some xs.length := by
    unfold ixN
    rw [hl, if_neg (by decide), if_pos (by omega)]
    congr 1
    omega
  unfold atI
  rw [e]
  show (xs ++ [v])[xs.length]? = some v
  simp

/-! ### what may be subscripted -/
/-- what stands as an index of a plain subscript -/
def PlainIx (b : Expr) : Prop := ∀ o i, subscripted b false o i = operate [o, i] (getItem o i)
/-- a subscript by values -/
def IxR (X : Cx) (r : R2) : Prop :=
  ∀ (value slice : Expr) (pins : List (Addr × Obj)) (s : Shared) (σ : St) (H : Hp) (x y : V) (v u : Value) (Q : VK), Inv X pins σ H s → RelV x v → RelV y u → r x y H Q →
    subscripted slice false v u = operate [v, u] (getItem v u) → wpAny (model X.prog X.w) X.A (subscriptTail value slice v u) (EP X pins σ Q) X.xe s
/-- a call of a builtin's method by values: the receiver, the arguments -/
def MtR (X : Cx) (id : String) (r : V → List V → Hp → VK → Prop) : Prop :=
  ∀ (pins : List (Addr × Obj)) (s : Shared) (σ : St) (H : Hp) (x : V) (xs : List V) (v : Value) (us : List Value) (Q : VK), Inv X pins σ H s → RelV x v → Vals xs us → r x xs H Q →
    wpAny (model X.prog X.w) X.A (call (.builtin id) (v :: us)) (EP X pins σ Q) X.xe s
section
variable {X : Cx} {a b : Expr} {ta tb : TE} {pos : Pos}
theorem IxR.or {r r' : R2} (h : IxR X r) (h' : IxR X r') : IxR X (fun x y H Q => r x y H Q ∨ r' x y H Q) := by
  intro value slice pins s σ H x y v u Q I rx ry q hs
  rcases q with q | q
  · exact h value slice pins s σ H x y v u Q I rx ry q hs
  · exact h' value slice pins s σ H x y v u Q I rx ry q hs
theorem MtR.or {id : String} {r r' : V → List V → Hp → VK → Prop} (h : MtR X id r) (h' : MtR X id r') : MtR X id (fun x xs H Q => r x xs H Q ∨ r' x xs H Q) := by
  intro pins s σ H x xs v us Q I rx rs q
  rcases q with q | q
  · exact h pins s σ H x xs v us Q I rx rs q
  · exact h' pins s σ H x xs v us Q I rx rs q
/-- a[b] -/
theorem pe_ix {r : R2} (hr : IxR X r) (ha : PE X a ta) (hb : PE X b tb) (hs : PlainIx b) : PE X (.Subscript a b pos) (tOp r ta tb) := by
  intro pins s σ H Q I h
  exact Subscript_ (binT ha hb I h fun v u s2 x y H2 I2 rx ry q => hr a b pins s2 σ H2 x y v u Q I2 rx ry q (hs _ _))

def rIxL (K : PySem.W.Frag) : R2 := fun x y H Q => ∃ p xs i v, x = .ref p ∧ y = .int i ∧ SqL K H p xs ∧ atI xs i = some v ∧ Q v H
def rIxT (K : PySem.W.Frag) : R2 := fun x y H Q => ∃ p xs i v, x = .ref p ∧ y = .int i ∧ SqT K H p xs ∧ atI xs i = some v ∧ Q v H
def rIxS : R2 := fun x y H Q => ∃ z i c, x = .str z ∧ y = .int i ∧ z.length ≤ sizeLine ∧ atI z.cps.toList i = some c ∧ Q (.str ⟨#[c]⟩) H
theorem ix_list : IxR X (rIxL X.K) := by
  intro value slice pins s σ H x y v u Q I rx ry h hs
  obtain ⟨p, xs, i, z, rfl, rfl, hq, he, q⟩ := h
  cases rx
  obtain ⟨t, rfl⟩ := ry
  obtain ⟨its, r, pl, hz⟩ := I.list hq
  obtain ⟨j, h1, h2, h3, h4, h5⟩ := atI_get he
  obtain ⟨w, ew, rw'⟩ := r.get h2
  have hl := r.length
  have hn := line63
  have fin : EP X pins σ Q w s := ⟨z, H, I, rw', q⟩
  by_cases h0 : 0 ≤ i
  · have hj : i.toNat = j := by
      rw [seqIndex_of h0 h5] at h1
      exact Option.some.inj h1
    exact item_listR pl.isList h0 (by omega) (by rw [hj]; simpa using ew) fin hs
  · have hj : (i + (its.toArray.size : Int)).toNat = j := by
      rw [seqIndex_neg (by omega) h4] at h1
      rw [List.size_toArray, ← hl]
      exact Option.some.inj h1
    exact subscriptTail_builtinR (x := w) pl.isList.typeIs slot_list_getitem.lookup
      (wpAny_getItem_list_neg (Q := fun r s' => r = w ∧ EP X pins σ Q r s') pl.isList (by omega) (by rw [List.size_toArray] <;> omega) (by omega) (by rw [hj]; simpa using ew) ⟨rfl, fin⟩) hs
theorem ix_tup : IxR X (rIxT X.K) := by
  intro value slice pins s σ H x y v u Q I rx ry h hs
  obtain ⟨p, xs, i, z, rfl, rfl, hq, he, q⟩ := h
  cases rx
  obtain ⟨t, rfl⟩ := ry
  obtain ⟨its, r, pl, hz⟩ := I.tuple hq
  obtain ⟨j, h1, h2, h3, h4, h5⟩ := atI_get he
  obtain ⟨w, ew, rw'⟩ := r.get h2
  have hl := r.length
  have hn := line63
  have fin : EP X pins σ Q w s := ⟨z, H, I, rw', q⟩
  exact subscriptTail_builtinR (x := w) pl.typeIs slot_tuple_getitem.lookup
    (getItem_tuple (j := j) (Q := fun r s' => r = w ∧ EP X pins σ Q r s') pl (by omega) (by omega) (by rw [List.size_toArray, ← hl]; exact h1) (by simpa using ew) ⟨rfl, fin⟩) hs
theorem ix_str : IxR X rIxS := by
  intro value slice pins s σ H x y v u Q I rx ry h hs
  obtain ⟨z, i, c, rfl, rfl, hz, he, q⟩ := h
  obtain ⟨t, rfl⟩ := rx
  obtain ⟨t', rfl⟩ := ry
  obtain ⟨j, h1, h2, h3, h4, h5⟩ := atI_get he
  have hl : z.cps.toList.length = z.length := by simp [Str.length]
  rw [hl] at h1 h4 h5
  have hn := line63
  exact tail_any (typeIs_str s z t) slot_str_getitem.lookup (getItem_str (c := c) (by
    have e1 : decide (i < -(2 ^ 63 : Int)) = false := decide_eq_false (by omega)
    have e2 : decide (i ≥ 2 ^ 63) = false := decide_eq_false (by omega)
    rw [e1, e2, Bool.or_false]) (by rw [h1]; simpa using h2) ⟨.str ⟨#[c]⟩, H, I.tok _, ⟨_, rfl⟩, q⟩) hs
/-! ### xs[i] = v, any sign -/
/-- the list's object behind a store -/
theorem mapSeq_set (its : List Value) (n j : Nat) (u : Value) : Obj.mapSeq (·.setIfInBounds j u) { cls := .type "list", data := .seq its.toArray n } = { cls := .type "list", data := .seq (its.set j u).toArray n } := by
  simp [Obj.mapSeq]
theorem Inv.lst {pins : List (Addr × Obj)} {σ : St} {H : Hp} {s : Shared} {p : Addr} {xs : List V} (I : Inv X pins σ H s) (h : H p = some (.lst xs)) :
    ∃ (its : List Value) (n : Nat), Vals xs its ∧ s.heap.get? p = some { cls := .type "list", data := .seq its.toArray n } ∧ xs.length ≤ sizeLine := by
  obtain ⟨z, its, n, r, e⟩ := I.hok p _ h
  exact ⟨its, n, r, e, z⟩
/-- the list at p is written by an update of its object -/
theorem Inv.lstUpd {pins : List (Addr × Obj)} {σ : St} {H : Hp} {s : Shared} {p : Addr} {xs ys : List V} {its its' : List Value} {n n' : Nat} {f : Obj → Obj} (I : Inv X pins σ H s) (h : H p = some (.lst xs))
    (ho : s.heap.get? p = some { cls := .type "list", data := .seq its.toArray n }) (hf : f { cls := .type "list", data := .seq its.toArray n } = { cls := .type "list", data := .seq its'.toArray n' }) (r : Vals ys its') (hz : ys.length ≤ sizeLine) (t : Nat) :
    Inv X pins σ (upd H p (.lst ys)) { s with heap := s.heap.update p f, toks := t } := by
  have e : (s.heap.update p f).get? p = some { cls := .type "list", data := .seq its'.toArray n' } := by
    rw [Heap.get?_update_self f ho (by rw [hf] <;> rfl), hf]
  refine I.write (x := p) (e := p) (by rw [h]; trivial) (.inl rfl) (fun b u hb q => (Heap.get?_update_other _ _ (Ne.symm hb)).trans q) ⟨_, e⟩ ?_
  exact ⟨hz, its', n', r, e⟩
def rSetL : V → V → V → Hp → (Hp → Prop) → Prop := fun o i v H Q => ∃ p xs k j, o = .ref p ∧ i = .int k ∧ H p = some (.lst xs) ∧ ixN xs.length k = some j ∧ Q (upd H p (.lst (xs.set j v)))
theorem set_list : PSet X rSetL := by
  intro pins s σ H o i v ov iv u Q I ro ri rv h
  obtain ⟨p, xs, k, j, rfl, rfl, hp, hj, q⟩ := h
  cases ro
  obtain ⟨t, rfl⟩ := ri
  obtain ⟨its, n, r, ho, hz⟩ := I.lst hp
  obtain ⟨h1, h2, h3, h4⟩ := ixN_seq hj
  have hl := r.length
  have hn := line63
  have I' : Inv X pins σ (upd H p (.lst (xs.set j v))) { s with heap := s.heap.update p (Obj.mapSeq (·.setIfInBounds j u)) } :=
    I.lstUpd hp ho (mapSeq_set its n j u) (r.set rv j) (by rw [List.length_set]; exact hz) s.toks
  by_cases h0 : 0 ≤ k
  · have hk : k.toNat = j := by
      rw [seqIndex_of h0 h4] at h1
      exact Option.some.inj h1
    exact PySem.W.ki_setAt ho h0 (by omega) (by rw [List.size_toArray, ← hl]; exact h4) (by rw [hk]; exact ⟨_, I', q⟩)
  · have hk : (k + (its.toArray.size : Int)).toNat = j := by
      rw [seqIndex_neg (by omega) h3] at h1
      rw [List.size_toArray, ← hl]
      exact Option.some.inj h1
    exact PySem.W.ki_setBack ho (by omega) (by rw [List.size_toArray, ← hl]; exact h3) (by omega) (by rw [hk]; exact ⟨_, I', q⟩)

/-! ### slices -/
theorem slice_bounds (lo hi : Option Int) (n : Nat) : (sliceBounds lo hi none n).1 = ((HT.sIx n 0 lo : Nat) : Int) ∧ (sliceBounds lo hi none n).2.1 = ((HT.sIx n n hi : Nat) : Int) ∧ (sliceBounds lo hi none n).2.2 = 1 := by
  refine ⟨?_, ?_, rfl⟩
  · cases lo with
    | none => simp [sliceBounds, HT.sIx]
    | some i =>
      simp only [sliceBounds, HT.sIx, Option.getD_none, show (1 : Int) > 0 by decide, if_true]
      by_cases h : i < 0
      · simp only [h, if_true] <;> omega
      · simp only [h, if_false] <;> omega
  · cases hi with
    | none => simp [sliceBounds, HT.sIx]
    | some i =>
      simp only [sliceBounds, HT.sIx, Option.getD_none, show (1 : Int) > 0 by decide, if_true]
      by_cases h : i < 0
      · simp only [h, if_true] <;> omega
      · simp only [h, if_false] <;> omega
theorem slicePick_cut (its : List Value) (lo hi : Option Int) : slicePick its.toArray lo hi none = ((its.drop (HT.sIx its.length 0 lo)).take (HT.sIx its.length its.length hi - HT.sIx its.length 0 lo)).toArray := by
  obtain ⟨h1, h2, h3⟩ := slice_bounds lo hi its.toArray.size
  unfold slicePick
  rw [h1, h2, h3]
  simp only [sliceRange_one, pick_run, List.size_toArray] <;> rfl
/-- xs[lo:hi] of a list: a new list -/
def rSlL (K : PySem.W.Frag) : V → Option Int → Option Int → Hp → VK → Prop := fun x lo hi H Q => ∃ a xs, x = .ref a ∧ SqL K H a xs ∧ ∀ p, H p = none → Q (.ref p) (upd H p (.lst (cutV xs lo hi)))
theorem sl_list : SlR X (rSlL X.K) := by
  intro pins s σ H x v vl vu lo hi sl Q I rx hs pl pu h
  obtain ⟨a, xs, rfl, hx, q⟩ := h
  cases rx
  obtain ⟨its, r, ht, hz⟩ := I.list hx
  have hlen := r.length
  refine ⟨"list", _, slot_list_getitem.lookup, ht.isList.typeIs, ?_⟩
  refine wpAny_getItem_list_slice ht.isList hs pl pu .none (by simp) ?_ (by rw [List.size_toArray] <;> omega)
  rw [slicePick_cut, ← hlen]
  refine ⟨.ref s.heap.objs.size, _, I.laid (t' := s.toks) (o := .lst (cutV xs lo hi)) (fun b ob q => Heap.get?_push_of_some _ q) (Nat.le_refl _) ?_, rfl, q _ (I.hok.fresh (Nat.le_refl _))⟩
  exact ⟨Nat.le_trans (cutV_length xs lo hi) hz, _, 0, (r.drop (HT.sIx xs.length 0 lo)).take (HT.sIx xs.length xs.length hi - HT.sIx xs.length 0 lo), Heap.get?_push_size _ rfl⟩

/-! ### in, not in: flat items -/
def flatV : V → Bool
  | .non => true
  | .bl _ => true
  | .int _ => true
  | .str _ => true
  | _ => false
/-- == of flat values -/
def eqV : V → V → Bool
  | .non, .non => true
  | .bl a, .bl b => a == b
  | .bl a, .int b => (if a then 1 else 0) == b
  | .int a, .bl b => a == (if b then 1 else 0)
  | .int a, .int b => a == b
  | .str a, .str b => a == b
  | _, _ => false
theorem eqAt_V {A : Around} {s : Shared} {y x : V} {u v : Value} (ry : RelV y u) (rx : RelV x v) (fy : flatV y = true) (fx : flatV x = true) : SeqAt.EqAt A s u v (eqV y x) := by
  cases y with
  | non =>
    cases ry
    cases x with
    | non => cases rx; exact SeqAt.EqAt.same _
    | bl b => cases rx; exact SeqAt.EqAt.none_bool b
    | int b => obtain ⟨t, rfl⟩ := rx; exact SeqAt.EqAt.none_int b t
    | str b => obtain ⟨t, rfl⟩ := rx; exact SeqAt.EqAt.none_str b t
    | _ => exact absurd (show false = true from fx) Bool.false_ne_true
  | bl a =>
    cases ry
    cases x with
    | non => cases rx; exact SeqAt.EqAt.bool_none a
    | bl b => cases rx; exact SeqAt.EqAt.bool_bool a b
    | int b => obtain ⟨t, rfl⟩ := rx; exact SeqAt.EqAt.bool_int a b t
    | str b => obtain ⟨t, rfl⟩ := rx; exact SeqAt.EqAt.bool_str a b t
    | _ => exact absurd (show false = true from fx) Bool.false_ne_true
  | int a =>
    obtain ⟨t', rfl⟩ := ry
    cases x with
    | non => cases rx; exact SeqAt.EqAt.int_none a t'
    | bl b => cases rx; exact SeqAt.EqAt.int_bool a t' b
    | int b => obtain ⟨t, rfl⟩ := rx; exact SeqAt.EqAt.int_int a t' b t
    | str b => obtain ⟨t, rfl⟩ := rx; exact SeqAt.EqAt.int_str a t' b t
    | _ => exact absurd (show false = true from fx) Bool.false_ne_true
  | str a =>
    obtain ⟨t', rfl⟩ := ry
    cases x with
    | non => cases rx; exact SeqAt.EqAt.str_none a t'
    | bl b => cases rx; exact SeqAt.EqAt.str_bool a t' b
    | int b => obtain ⟨t, rfl⟩ := rx; exact SeqAt.EqAt.str_int a t' b t
    | str b => obtain ⟨t, rfl⟩ := rx; exact SeqAt.EqAt.str_str a t' b t
    | _ => exact absurd (show false = true from fx) Bool.false_ne_true
  | _ => exact absurd (show false = true from fy) Bool.false_ne_true
/-- the items' answers, read off the values (a value's own answer does not lean on its token) -/
def eqU (x : V) (u : Value) : Bool := match u with
  | .none => eqV .non x
  | .bool b => eqV (.bl b) x
  | .int i _ => eqV (.int i) x
  | .str z _ => eqV (.str z) x
  | _ => false
theorem eqU_of {x y : V} {u : Value} (r : RelV y u) (f : flatV y = true) : eqU x u = eqV y x := by
  cases y with
  | non => cases r; rfl
  | bl b => cases r; rfl
  | int i => obtain ⟨t, rfl⟩ := r; rfl
  | str z => obtain ⟨t, rfl⟩ := r; rfl
  | _ => exact absurd (show false = true from f) Bool.false_ne_true
theorem any_eqU {x : V} : ∀ {xs : List V} {us : List Value}, Vals xs us → xs.all flatV = true → us.any (eqU x) = xs.any fun y => eqV y x
  | _, _, .nil, _ => rfl
  | y :: xs, u :: us, .cons r t, f => by
    rw [List.all_cons, Bool.and_eq_true] at f
    rw [List.any_cons, List.any_cons, eqU_of r f.1, any_eqU t f.2]
theorem mem_eqAt {A : Around} {s : Shared} {x : V} {v : Value} (rx : RelV x v) (fx : flatV x = true) : ∀ {xs : List V} {us : List Value}, Vals xs us → xs.all flatV = true → ∀ u ∈ us, SeqAt.EqAt A s u v (eqU x u)
  | _, _, .nil, _ => fun u hu => by cases hu
  | y :: xs, u :: us, .cons r t, f => fun u' hu => by
    rw [List.all_cons, Bool.and_eq_true] at f
    rcases List.mem_cons.mp hu with rfl | hu
    · rw [eqU_of r f.1]; exact eqAt_V r rx f.1 fx
    · exact mem_eqAt rx fx t f.2 u' hu
def inV (x : V) (xs : List V) : Bool := xs.any fun y => eqV y x
/-- x in a list or tuple of flat items -/
def rIn (K : PySem.W.Frag) (neg : Bool) : R2 := fun x y H Q => ∃ p xs, y = .ref p ∧ (SqL K H p xs ∨ SqT K H p xs) ∧ flatV x = true ∧ xs.all flatV = true ∧ Q (.bl (if neg then !inV x xs else inV x xs)) H
theorem op_in_seq : OpR X (compareOp .In) (rIn X.K false) := by
  intro pins s σ H x y v u Q I rx ry h
  obtain ⟨p, xs, rfl, hq, fx, fs, q⟩ := h
  cases ry
  rcases hq with hq | hq
  · obtain ⟨its, r, pl, hz⟩ := I.list hq
    refine SeqAt.in_listAt (eqU x) pl.isList (fun w hw => mem_eqAt rx fx r fs w (by simpa using hw)) ⟨.bl _, H, I, rfl, ?_⟩
    rw [show its.toArray.any (eqU x) = its.any (eqU x) by simp, any_eqU r fs]
    exact q
  · obtain ⟨its, r, pl, hz⟩ := I.tuple hq
    refine SeqAt.in_tupleAt (eqU x) pl (fun w hw => mem_eqAt rx fx r fs w (by simpa using hw)) ⟨.bl _, H, I, rfl, ?_⟩
    rw [show its.toArray.any (eqU x) = its.any (eqU x) by simp, any_eqU r fs]
    exact q
theorem op_notIn_seq : OpR X (compareOp .NotIn) (rIn X.K true) := by
  intro pins s σ H x y v u Q I rx ry h
  obtain ⟨p, xs, rfl, hq, fx, fs, q⟩ := h
  cases ry
  rcases hq with hq | hq
  · obtain ⟨its, r, pl, hz⟩ := I.list hq
    refine SeqAt.notIn_listAt (eqU x) pl.isList (fun w hw => mem_eqAt rx fx r fs w (by simpa using hw)) ⟨.bl _, H, I, rfl, ?_⟩
    rw [show its.toArray.any (eqU x) = its.any (eqU x) by simp, any_eqU r fs]
    exact q
  · obtain ⟨its, r, pl, hz⟩ := I.tuple hq
    refine SeqAt.notIn_tupleAt (eqU x) pl (fun w hw => mem_eqAt rx fx r fs w (by simpa using hw)) ⟨.bl _, H, I, rfl, ?_⟩
    rw [show its.toArray.any (eqU x) = its.any (eqU x) by simp, any_eqU r fs]
    exact q
/-! ### len, list(x), tuple(x) of any list or tuple that is read -/
theorem call_len_seq : CallR X (.builtin "len") (fun xs H Q => ∃ p ys, xs = [.ref p] ∧ (SqL X.K H p ys ∨ SqT X.K H p ys) ∧ Q (.int ys.length) H) := by
  intro pins s σ H xs us Q I r h
  obtain ⟨p, ys, rfl, hq, q⟩ := h
  obtain ⟨u, rfl, rx⟩ := vals1 r
  cases rx
  have hn := line63
  rcases hq with hq | hq
  · obtain ⟨its, r', pl, hz⟩ := I.list hq
    have hlen := r'.length
    exact Calls.call_len_list pl.isList (by simp only [List.size_toArray] <;> omega) ⟨.int ys.length, H, I.tok _, ⟨s.toks + 1, by rw [List.size_toArray, hlen]⟩, q⟩
  · obtain ⟨its, r', pl, hz⟩ := I.tuple hq
    have hlen := r'.length
    exact len_tuple pl (by simp only [List.size_toArray] <;> omega) ⟨.int ys.length, H, I.tok _, ⟨s.toks + 1, by rw [List.size_toArray, hlen]⟩, q⟩
theorem call_len_str : CallR X (.builtin "len") (fun xs H Q => ∃ z, xs = [.str z] ∧ z.length ≤ sizeLine ∧ Q (.int z.length) H) := by
  intro pins s σ H xs us Q I r h
  obtain ⟨z, rfl, hz, q⟩ := h
  obtain ⟨u, rfl, t, rfl⟩ := vals1 r
  have hn := line63
  exact len_str (by omega) ⟨.int z.length, H, I.tok _, ⟨_, rfl⟩, q⟩
theorem CallR.or {f : Value} {r r' : List V → Hp → VK → Prop} (h : CallR X f r) (h' : CallR X f r') : CallR X f (fun xs H Q => r xs H Q ∨ r' xs H Q) := by
  intro pins s σ H xs us Q I rs q
  rcases q with q | q
  · exact h pins s σ H xs us Q I rs q
  · exact h' pins s σ H xs us Q I rs q
theorem call_list_of : CallR X (.type "list") (fun xs H Q => ∃ p ys, xs = [.ref p] ∧ (SqL X.K H p ys ∨ SqT X.K H p ys) ∧ ∀ l, H l = none → Q (.ref l) (upd H l (.lst ys))) := by
  intro pins s σ H xs us Q I r h
  obtain ⟨p, ys, rfl, hq, q⟩ := h
  obtain ⟨u, rfl, rx⟩ := vals1 r
  cases rx
  have fin : ∀ (its : List Value), Vals ys its → ys.length ≤ sizeLine → ∀ (h' : Heap) (c' : Nat), (∀ b o', s.heap.get? b = some o' → h'.get? b = some o') →
      h'.get? s.heap.objs.size = some { cls := .type "list", dict := none, data := .seq its.toArray c', slots := #[] } → EP X pins σ Q (.ref s.heap.objs.size) { s with heap := h' } := fun its r' hz h' c' kp e =>
    ⟨.ref s.heap.objs.size, _, I.laid (t' := s.toks) kp (Nat.le_refl _) (show ObjOk X.prog X.w _ h' _ (.lst ys) from ⟨hz, its, c', r', e⟩), rfl, q _ (I.hok.fresh (Nat.le_refl _))⟩
  rcases hq with hq | hq
  · obtain ⟨its, r', pl, hz⟩ := I.list hq
    have hlen := r'.length
    obtain ⟨o, ho, hc, n, hd⟩ := pl.isList
    exact call_list_seq p (.inl rfl) ho hc hd (fun h' c' kp e => fin its r' hz h' c' kp e) (by simp only [List.size_toArray] <;> omega)
  · obtain ⟨its, r', pl, hz⟩ := I.tuple hq
    have hlen := r'.length
    obtain ⟨o, ho, hc, n, hd⟩ := pl
    exact call_list_seq p (.inr rfl) ho hc hd (fun h' c' kp e => fin its r' hz h' c' kp e) (by simp only [List.size_toArray] <;> omega)
/-! ### the call of a builtin's method: o.m(..) -/
/-- the value is of that builtin type -/
def tyV (K : PySem.W.Frag) (T : String) (x : V) (H : Hp) : Prop := match x with
  | .str _ => T = "str"
  | .int _ => T = "int"
  | .ref p => (T = "list" ∧ ∃ xs, SqL K H p xs) ∨ (T = "tuple" ∧ ∃ o, K.lookup p = some o ∧ o.cls = .type "tuple" ∧ o.dict = none) ∨
      (T = "dict" ∧ ((∃ kvs, H p = some (.dK kvs)) ∨ ∃ kvs, H p = some (.dT kvs))) ∨ (T = "set" ∧ ∃ S n, H p = some (.set S n))
  | _ => False
theorem tyV_is {pins : List (Addr × Obj)} {σ : St} {H : Hp} {s : Shared} {T : String} {x : V} {v : Value} (I : Inv X pins σ H s) (r : RelV x v) (ty : tyV X.K T x H) :
    s.TypeIs v T ∧ ∀ a, v = .ref a → ∃ ob, s.heap.get? a = some ob ∧ ob.dict = none := by
  cases x with
  | str z =>
    obtain ⟨t, rfl⟩ := r
    cases (show T = "str" from ty)
    exact ⟨typeIs_str s z t, fun _ e => nomatch e⟩
  | int i =>
    obtain ⟨t, rfl⟩ := r
    cases (show T = "int" from ty)
    exact ⟨typeIs_int s i t, fun _ e => nomatch e⟩
  | ref p =>
    cases r
    rcases ty with ⟨rfl, xs, hq⟩ | ⟨rfl, o, hk, hc, hd⟩ | ⟨rfl, hk⟩ | ⟨rfl, S, n, hk⟩
    · obtain ⟨its, _, pl, _⟩ := I.list hq
      refine ⟨pl.isList.typeIs, fun a e => ?_⟩
      cases e
      obtain ⟨o, n, e, c, hd, _⟩ := pl
      exact ⟨o, e, hd⟩
    · refine ⟨⟨o, I.kIn p o hk, hc⟩, fun a e => ?_⟩
      cases e
      exact ⟨o, I.kIn _ o hk, hd⟩
    · have z : ∃ o, s.heap.get? p = some o ∧ o.ExactDict := by
        rcases hk with ⟨kvs, hk⟩ | ⟨kvs, hk⟩
        · obtain ⟨_, _, _, _, o, _, _, e, ex, _⟩ := I.hok p _ hk
          exact ⟨o, e, ex⟩
        · obtain ⟨_, _, _, _, o, _, _, e, ex, _⟩ := I.hok p _ hk
          exact ⟨o, e, ex⟩
      obtain ⟨o, e, ex⟩ := z
      refine ⟨⟨o, e, ex.1⟩, fun a e2 => ?_⟩
      cases e2
      exact ⟨o, e, ex.2.1⟩
    · obtain ⟨o, _, _, _, e, ex, _⟩ := I.hok p _ hk
      refine ⟨⟨o, e, ex.1⟩, fun a e2 => ?_⟩
      cases e2
      exact ⟨o, e, ex.2.1⟩
  | _ => exact False.elim ty
def tBM (K : PySem.W.Frag) (T : String) (r : V → List V → Hp → VK → Prop) (to : TE) (t : TA) : TE := fun σ H Q => to σ H fun x H1 => tyV K T x H1 ∧ t σ H1 fun xs H2 => r x xs H2 Q
variable {o e : Expr} {es : List Expr} {to : TE} {t : TA} {name : Str} {apos cpos : Pos} {T id : String} {r : V → List V → Hp → VK → Prop}
theorem pe_bm (pa : PlainAttrs T) (slot : Slot T name id) (hty : typeOf (.builtin id) = pure (.type "method_descriptor")) (hm : MtR X id r) (ho : PE X o to) (ha : PA X (e :: es) t)
    (hbase : attributeBase o name X.env (eval o X.env) = eval o X.env := by rfl)
    (hfew : ((backTo cpos (starEach (e :: es) X.env)).all (fun x => !x.1) && (backToKw cpos (keywordEach [] X.env)).all (fun x => x.1.isSome)
      && decide ((e :: es).length + ([] : List Keyword).length + (if ([] : List Keyword).isEmpty then 0 else 1) < 30)) = true := by rfl)
    (hline : (apos.endLine == cpos.line) = true := by rfl) (hs : starEach (e :: es) X.env = (false, eval e X.env) :: starEach es X.env := by rfl) (hplain : (backTo cpos (starEach es X.env)).any (·.1) = false := by rfl) :
    PE X (.Call (.Attribute o name apos) (e :: es) [] cpos) (tBM X.K T r to t) := by
  intro pins s σ H Q I h
  refine wpAny_Call_method_late hbase hfew hline rfl (thn (ho pins s σ H _ I h) fun v s1 ⟨x, H1, I1, r1, ty, q1⟩ => ?_)
  obtain ⟨h1, h2⟩ := tyV_is I1 r1 ty
  refine ⟨T, id, pa, slot, hty, h1, h2, ?_⟩
  have hA := ha cpos pins s1 σ H1 _ I1 q1
  rw [hs] at hA ⊢
  refine Calls.callWith_builtin (by show (false || (backTo cpos (starEach es X.env)).any (·.1)) = false; rw [hplain] <;> rfl) (Calls.evalArgs_plain ?_)
  exact thn hA fun us s2 ⟨vs, H2, I2, r2, q2⟩ => hm pins s2 σ H2 x vs v us Q I2 r1 r2 q2
/- xs.append(e), list.index on a module's tuple .. are MtR facts of 06m -/
end
end L2

namespace L2
open PySem PySem.Spec PyProof.Rows

def MtM (X : Cx) (id : String) (r : V → List V → Hp → VK → Prop) : Prop :=
  ∀ (pins : List (Addr × Obj)) (s : Shared) (σ : St) (H : Hp) (x : V) (xs : List V) (v : Value) (us : List Value) (Q : VK), Inv X pins σ H s → RelV x v → Vals xs us → r x xs H Q →
    wpAny (model X.prog X.w) X.A (call (.builtin id) (v :: us)) (EP X pins σ Q) X.xe s

/-! ### lists of values -/
theorem Vals.one : ∀ {x : V} {us : List Value}, Vals [x] us → ∃ u, us = [u] ∧ RelV x u
  | _, _, .cons r .nil => ⟨_, rfl, r⟩
theorem Vals.two : ∀ {x y : V} {us : List Value}, Vals [x, y] us → ∃ u v, us = [u, v] ∧ RelV x u ∧ RelV y v
  | _, _, _, .cons r (.cons q .nil) => ⟨_, _, rfl, r, q⟩
theorem Vals.dropLast {xs : List V} {us : List Value} (h : Vals xs us) : Vals xs.dropLast us.dropLast := by
  induction h with
  | nil => exact .nil
  | cons r t ih =>
    cases t with
    | nil => exact .nil
    | cons q t' => exact .cons r ih
theorem Vals.eraseIdx : ∀ {xs : List V} {us : List Value} (i : Nat), Vals xs us → Vals (xs.eraseIdx i) (us.eraseIdx i)
  | _, _, _, .nil => .nil
  | _, _, 0, .cons _ t => t
  | _, _, i + 1, .cons r t => .cons r (Vals.eraseIdx i t)
theorem Vals.rep {xs : List V} {us : List Value} (h : Vals xs us) : ∀ k : Nat, Vals (List.replicate k xs).flatten (List.replicate k us).flatten
  | 0 => .nil
  | k + 1 => by
    rw [List.replicate_succ, List.replicate_succ, List.flatten_cons, List.flatten_cons]
    exact Vals.append h (Vals.rep h k)
theorem len_erase {α : Type} : ∀ (l : List α) (i : Nat), (l.eraseIdx i).length ≤ l.length
  | [], _ => Nat.le_refl _
  | _ :: _, 0 => Nat.le_succ _
  | _ :: r, i + 1 => Nat.succ_le_succ (len_erase r i)
theorem foldl_rep (its : List Value) : ∀ (k : Nat) (acc : List Value),
    List.foldl (fun x1 x2 => x1 ++ x2) acc.toArray (List.replicate k its.toArray) = (acc ++ (List.replicate k its).flatten).toArray
  | 0, acc => by simp
  | k + 1, acc => by
    have e : acc.toArray ++ its.toArray = (acc ++ its).toArray := by simp
    have e2 : (acc ++ its) ++ (List.replicate k its).flatten = acc ++ (List.replicate (k + 1) its).flatten := by
      rw [List.replicate_succ, List.flatten_cons, List.append_assoc]
    rw [← e2, ← foldl_rep its k (acc ++ its), ← e, List.replicate_succ, List.foldl_cons]

section
variable {X : Cx} {pins : List (Addr × Obj)} {σ : St} {H : Hp} {s : Shared} {l b : Addr} {xs ys zs : List V}

/-! ### the two steps: a tracked list is rewritten, a new list is laid -/
theorem Inv.lset {its its' : List Value} {n : Nat} {f : Array Value → Array Value} {t' : Nat} (I : Inv X pins σ H s) (hH : H l = some (.lst xs))
    (e : s.heap.get? l = some { cls := .type "list", data := .seq its.toArray n }) (hf : f its.toArray = its'.toArray) (hv : Vals ys its') (hz : ys.length ≤ sizeLine) :
    Inv X pins σ (upd H l (.lst ys)) { s with heap := s.heap.update l (Obj.mapSeq f), toks := t' } := by
  have q := PySem.IsL.update e f
  rw [hf] at q
  refine I.write (x := l) (e := l) (by rw [hH]; exact trivial) (.inl rfl) (fun b' u hb hu => (Heap.get?_update_other s.heap (Obj.mapSeq f) (Ne.symm hb)).trans hu) ⟨_, q⟩ ?_
  exact ⟨hz, its', _, hv, q⟩
theorem Inv.lnew {its : List Value} {t' : Nat} (I : Inv X pins σ H s) (hv : Vals ys its) (hz : ys.length ≤ sizeLine) :
    Inv X pins σ (upd H s.heap.objs.size (.lst ys)) { s with heap := s.heap.push { cls := .type "list", data := .seq its.toArray }, toks := t' } :=
  I.laid (fun _ _ q => Heap.get?_push_of_some _ q) (Nat.le_refl _) ⟨hz, its, 0, hv, Heap.get?_push_size _ rfl⟩
theorem Inv.fresh (I : Inv X pins σ H s) : H s.heap.objs.size = none := I.hok.fresh (Nat.le_refl _)
theorem Inv.lstM (I : Inv X pins σ H s) (hH : H l = some (.lst xs)) : xs.length ≤ sizeLine ∧ ∃ (its : List Value) (n : Nat), Vals xs its ∧ xs.length = its.length ∧ s.heap.get? l = some { cls := .type "list", data := .seq its.toArray n } := by
  obtain ⟨z, its, n, r, e⟩ := I.hok l _ hH
  exact ⟨z, its, n, r, r.length, e⟩

theorem notLongL {n : Nat} (h : n ≤ sizeLine) : Builtin.List.listTooLong n = false := by
  unfold Builtin.List.listTooLong
  exact decide_eq_false (by omega)
end

section
variable {X : Cx}

/-! ### methods -/
def rAppend : V → List V → Hp → VK → Prop := fun x vs H Q => ∃ l xs y, x = .ref l ∧ vs = [y] ∧ H l = some (.lst xs) ∧ xs.length < sizeLine ∧ Q .non (upd H l (.lst (xs ++ [y])))
theorem mt_append : MtM X "list.append" rAppend := by
  intro pins s σ H x vs v us Q I rx rv h
  obtain ⟨l, xs, y, rfl, rfl, hH, hz, q⟩ := h
  cases rx
  obtain ⟨u, rfl, ru⟩ := rv.one
  obtain ⟨z, its, n, r, hl, e⟩ := I.lstM hH
  refine call_meets F.slot_list_append ⟨_, e, rfl⟩ F.entry_list_append (F.args_list_append_2 _ _) (PySem.list_append l its.toArray n u (by rw [List.size_toArray]; omega)) ⟨e, ?_⟩
  refine ⟨.non, _, I.lset (its' := its ++ [u]) hH e (by simp) (r.append (.cons ru .nil)) ?_, rfl, q⟩
  rw [List.length_append, List.length_singleton]
  omega

def rPopAt : V → List V → Hp → VK → Prop := fun x vs H Q => ∃ l xs i k y, x = .ref l ∧ vs = [.int i] ∧ H l = some (.lst xs) ∧ -(2 ^ 63) ≤ i ∧ i < 2 ^ 63 ∧ seqIndex? i xs.length = some k ∧ xs[k]? = some y ∧ Q y (upd H l (.lst (xs.eraseIdx k)))
theorem mt_popAt : MtM X "list.pop" rPopAt := by
  intro pins s σ H x vs v us Q I rx rv h
  obtain ⟨l, xs, i, k, y, rfl, rfl, hH, h1, h2, hk, hy, q⟩ := h
  cases rx
  obtain ⟨u, rfl, ru⟩ := rv.one
  obtain ⟨t, rfl⟩ := ru
  obtain ⟨z, its, n, r, hl, e⟩ := I.lstM hH
  obtain ⟨w, hw, rw'⟩ := r.get hy
  refine call_meets F.slot_list_pop ⟨_, e, rfl⟩ F.entry_list_pop (F.args_list_pop_2 _ _)
    (MeetsSeq.list_pop_at l its.toArray n i t k w (fitsIndex_both h1 h2) (by rw [List.size_toArray, ← hl]; exact hk) (by rw [← Array.getElem?_toList]; exact hw) (by rw [List.size_toArray]; omega)) ⟨e, ?_⟩
  refine ⟨y, _, I.lset (its' := its.eraseIdx k) hH e ?_ (r.eraseIdx k) ?_, rw', q⟩
  · show its.toArray.eraseIdxIfInBounds k = (its.eraseIdx k).toArray
    rw [List.eraseIdxIfInBounds_toArray]
  · have := len_erase xs k
    omega

/-! ### list + list, list += list, list * int -/
def rCat : R2 := fun x y H Q => ∃ l b xs zs, x = .ref l ∧ y = .ref b ∧ H l = some (.lst xs) ∧ H b = some (.lst zs) ∧ xs.length + zs.length ≤ sizeLine ∧ ∀ p, H p = none → Q (.ref p) (upd H p (.lst (xs ++ zs)))
theorem op_cat : OpR X (binaryOp .Add) rCat := by
  intro pins s σ H x y v u Q I rx ry h
  obtain ⟨l, b, xs, zs, rfl, rfl, hH, hB, hz, q⟩ := h
  cases rx
  cases ry
  obtain ⟨z, its, n, r, hl, e⟩ := I.lstM hH
  obtain ⟨z2, its2, n2, r2, hl2, e2⟩ := I.lstM hB
  refine PySem.P.add_list e e2 ?_ (by rw [List.size_toArray, List.size_toArray]; omega)
  have ea : its.toArray ++ its2.toArray = (its ++ its2).toArray := by simp
  rw [ea]
  exact ⟨.ref _, _, I.lnew (t' := s.toks) (r.append r2) (by rw [List.length_append]; omega), rfl, q _ I.fresh⟩
/-- a list times an int (a negative one is nothing) -/
def rRep : R2 := fun x y H Q => ∃ l k xs, x = .ref l ∧ y = .int k ∧ H l = some (.lst xs) ∧ -(2 ^ 63) ≤ k ∧ k < 2 ^ 63 ∧ xs.length * k.toNat ≤ sizeLine ∧
  ∀ p, H p = none → Q (.ref p) (upd H p (.lst (List.replicate k.toNat xs).flatten))
theorem len_rep {α : Type} (xs : List α) (k : Nat) : (List.replicate k xs).flatten.length = k * xs.length := by
  induction k with
  | zero => simp
  | succ k ih => rw [List.replicate_succ, List.flatten_cons, List.length_append, ih, Nat.succ_mul, Nat.add_comm]
theorem op_rep : OpR X (binaryOp .Mult) rRep := by
  intro pins s σ H x y v u Q I rx ry h
  obtain ⟨l, k, xs, rfl, rfl, hH, h1, h2, hz, q⟩ := h
  cases rx
  obtain ⟨t, rfl⟩ := ry
  obtain ⟨z, its, n, r, hl, e⟩ := I.lstM hH
  have hlen : its.toArray.size * k.toNat ≤ sizeLine := by rw [List.size_toArray, ← hl]; exact hz
  have hcap : ¬ its.toArray.size * k.toNat > (2 ^ 63 - 1) / 8 := by
    have : (sizeLine : Nat) ≤ (2 ^ 63 - 1) / 8 := by decide
    omega
  have hfit : ¬ (!Builtin.List.listFitsIndex k) = true := by
    rw [fitsIndex_both h1 h2]
    exact Bool.false_ne_true
  have hlong : ¬ Builtin.List.listTooLong (its.toArray.size * k.toNat) = true := by
    rw [notLongL hlen]
    exact Bool.false_ne_true
  have hnew : List.foldl (fun x1 x2 => x1 ++ x2) #[] (List.replicate (if its.toArray.isEmpty = true then 0 else k.toNat) its.toArray) = (List.replicate k.toNat its).flatten.toArray := by
    have f0 : ∀ m : Nat, List.foldl (fun x1 x2 => x1 ++ x2) #[] (List.replicate m its.toArray) = (List.replicate m its).flatten.toArray := fun m => by
      have := foldl_rep its m []
      rw [List.nil_append] at this
      exact this
    rw [f0]
    cases its with
    | nil => simp
    | cons a r' => rw [if_neg (by simp)]
  refine wpAny_binaryOp_repeat_ref (T := "list") (U := "int") (by decide) ⟨_, e, rfl⟩ (fun s' => typeIs_int s' k t) noFill_list_mul F.fills_int_mul F.slot_int_rmul repeat_list F.slot_int_index.lookup
    (call_meets F.slot_int_rmul (typeIs_int s k t) F.entry_int_rmul (F.args_int_rmul_2 _ _) (int___rmul___int_list k t l its.toArray n)
      ⟨e, rfl, ⟨_, e, rfl⟩, call_meets F.slot_list_mul ⟨_, e, rfl⟩ F.entry_list_mul (F.args_list_mul_2 _ _) (AutoListH.list___mul___list_int_3 l its.toArray n k t hfit hcap hlong) ⟨e, ?_⟩⟩)
  rw [hnew]
  exact ⟨.ref _, _, I.lnew (t' := s.toks) (r.rep k.toNat) (by rw [len_rep, Nat.mul_comm]; exact hz), rfl, q _ I.fresh⟩

/-! ### del xs[i] -/
end

/-! ### xs[a:b] = ys -/
section
variable {prog : Program} {w : World} {A : Around} {E : Value → Shared → Prop} {s : Shared}
end

section
variable {X : Cx}
end
end L2

namespace L2
open PySem PySem.Spec PyProof.Rows

/-! ### lists of pairs as tables -/
section
variable {κ : Type} [DecidableEq κ]
def valV (kvs : List (κ × V)) (k : κ) : Option V := (kvs.find? fun kv => decide (kv.1 = k)).map (·.2)
/-- in its place, or at the end -/
def putK (kvs : List (κ × V)) (k : κ) (v : V) : List (κ × V) :=
  if (kvs.any fun kv => decide (kv.1 = k)) = true then kvs.map (fun kv => if kv.1 = k then (kv.1, v) else kv) else kvs ++ [(k, v)]

theorem RelO.getD {o : Option V} {u : Option Value} {d : V} {d' : Value} (r : RelO o u) (rd : RelV d d') : RelV (o.getD d) (u.getD d') := by
  cases o with
  | none => cases u with
    | none => exact rd
    | some _ => exact (show False from r).elim
  | some _ => cases u with
    | none => exact (show False from r).elim
    | some _ => exact r

theorem KV.any {kvs : List (κ × V)} {vs : List (κ × Value)} (r : KV kvs vs) (k : κ) : (kvs.any fun kv => decide (kv.1 = k)) = vs.any fun kv => decide (kv.1 = k) := by
  unfold KV at r
  induction r with
  | nil => rfl
  | cons h t ih => rw [List.any_cons, List.any_cons, ih, h.1]
theorem KV.keys {kvs : List (κ × V)} {vs : List (κ × Value)} (r : KV kvs vs) : kvs.map (·.1) = vs.map (·.1) := by
  unfold KV at r
  induction r with
  | nil => rfl
  | cons h t ih => rw [List.map_cons, List.map_cons, ih, h.1]
theorem KV.length {kvs : List (κ × V)} {vs : List (κ × Value)} (r : KV kvs vs) : kvs.length = vs.length := Paired.length r
end


/-! ### a tracked dict, its keys ints and texts or tuples of these -/
/-- raw entries of a dict with tuple keys -/
abbrev KT (H : Hp) : List (List Key × V) → List (List Key × Addr × Value) → Prop := Paired fun p q => p.1 = q.1 ∧ H q.2.1 = some (.tup (p.1.map kV)) ∧ RelV p.2 q.2.2
theorem KT.keeps {H H' : Hp} {kvs : List (List Key × V)} {xs : List (List Key × Addr × Value)} (r : KT H kvs xs) (ht : ∀ b ys, H b = some (.tup ys) → H' b = some (.tup ys)) : KT H' kvs xs :=
  Paired.mapP r fun _ _ z => ⟨z.1, ht _ _ z.2.1, z.2.2⟩

section
variable {P : Program} {w : World} {H : Hp} {h : Heap} {a : Addr}
end

/-- what the dict at a holds at the key y -/
def DGet (H : Hp) (a : Addr) (y : V) (r : Option V) : Prop :=
  (∃ kvs k, Rd H a (.dK kvs) ∧ y = kV k ∧ r = valV kvs k) ∨ ∃ kvs k b, Rd H a (.dT kvs) ∧ y = .ref b ∧ H b = some (.tup (k.map kV)) ∧ r = valV kvs k
/-- the heap behind a[y] = v -/
def DPut (H : Hp) (a : Addr) (y v : V) (H' : Hp) : Prop :=
  (∃ kvs k, H a = some (.dK kvs) ∧ y = kV k ∧ kvs.length < sizeLine ∧ H' = upd H a (.dK (putK kvs k v))) ∨
  ∃ kvs k b, H a = some (.dT kvs) ∧ y = .ref b ∧ H b = some (.tup (k.map kV)) ∧ kvs.length < sizeLine ∧ H' = upd H a (.dT (putK kvs k v))
theorem DGet.k {H : Hp} {a : Addr} {kvs : List (Key × V)} {k : Key} (e : H a = some (.dK kvs)) : DGet H a (kV k) (valV kvs k) := .inl ⟨kvs, k, .inl e, rfl, rfl⟩
theorem DGet.t {H : Hp} {a b : Addr} {kvs : List (List Key × V)} {k : List Key} (e : H a = some (.dT kvs)) (eb : H b = some (.tup (k.map kV))) : DGet H a (.ref b) (valV kvs k) := .inr ⟨kvs, k, b, .inl e, rfl, eb, rfl⟩
theorem DPut.k {H : Hp} {a : Addr} {kvs : List (Key × V)} {k : Key} {v : V} (e : H a = some (.dK kvs)) (hl : kvs.length < sizeLine) : DPut H a (kV k) v (upd H a (.dK (putK kvs k v))) := .inl ⟨kvs, k, e, rfl, hl, rfl⟩
theorem DPut.t {H : Hp} {a b : Addr} {kvs : List (List Key × V)} {k : List Key} {v : V} (e : H a = some (.dT kvs)) (eb : H b = some (.tup (k.map kV))) (hl : kvs.length < sizeLine) :
    DPut H a (.ref b) v (upd H a (.dT (putK kvs k v))) := .inr ⟨kvs, k, b, e, rfl, eb, hl, rfl⟩


section
variable {X : Cx} {pins : List (Addr × Obj)} {σ : St} {H : Hp} {s : Shared} {a : Addr} {y v : V} {u r : Value} {o : Option V} {A : Around} {E : Value → Shared → Prop}

theorem Inv.big (I : Inv X pins σ H s) : sysModules < s.heap.objs.size := by
  have h : mainGlobals < s.heap.objs.size := (I.mod.glob.keeps I.bk).lt
  exact Nat.lt_trans (by decide) h

end

section
variable {X : Cx} {pins : List (Addr × Obj)} {σ : St} {H : Hp} {s : Shared} {a : Addr} {kvs : List (Key × V)} {k : Key} {u : Value} {A : Around} {E : Value → Shared → Prop}
end


/-! ### readings and rules -/

section
variable {X : Cx} {o i e value : Expr} {pos pos' tpos : Pos} {td ty tv : TE}
end


/-! ### displays -/
section
variable {X : Cx} {pos : Pos}
end

/-! ### methods -/
/-- a method call o.m(e) of a built-in, with one argument: what must be seen of the text -/
structure M1 (X : Cx) (o : Expr) (m : Str) (apos : Pos) (e : Expr) (cpos : Pos) : Prop where
  base : attributeBase o m X.env (eval o X.env) = eval o X.env
  few : ((backTo cpos (starEach [e] X.env)).all (fun x => !x.1) && (backToKw cpos (keywordEach [] X.env)).all (fun x => x.1.isSome)
    && decide (([e] : List Expr).length + ([] : List Keyword).length + (if ([] : List Keyword).isEmpty then 0 else 1) < 30)) = true
  line : (apos.endLine == cpos.line) = true
  trees : backTo cpos (starEach [e] X.env) = [(false, eval e X.env)]
structure M2 (X : Cx) (o : Expr) (m : Str) (apos : Pos) (e f : Expr) (cpos : Pos) : Prop where
  base : attributeBase o m X.env (eval o X.env) = eval o X.env
  few : ((backTo cpos (starEach [e, f] X.env)).all (fun x => !x.1) && (backToKw cpos (keywordEach [] X.env)).all (fun x => x.1.isSome)
    && decide (([e, f] : List Expr).length + ([] : List Keyword).length + (if ([] : List Keyword).isEmpty then 0 else 1) < 30)) = true
  line : (apos.endLine == cpos.line) = true
  trees : backTo cpos (starEach [e, f] X.env) = [(false, eval e X.env), (false, eval f X.env)]

section
variable {X : Cx} {pins : List (Addr × Obj)} {σ : St} {H : Hp} {s : Shared} {a : Addr} {y d : V} {u r : Value} {o : Option V} {A : Around} {E : Value → Shared → Prop}
end

section
variable {X : Cx} {o e f : Expr} {apos cpos : Pos} {td ty tx : TE}
end

/-! ### dict(d): a copy -/
section
variable {X : Cx} {pins : List (Addr × Obj)} {σ : St} {H : Hp} {s : Shared} {a : Addr} {kvs : List (Key × V)} {A : Around} {E : Value → Shared → Prop}
end


section
variable {X : Cx} {pins : List (Addr × Obj)} {σ : St} {H : Hp} {s : Shared} {a : Addr} {y : V} {u : Value} {A : Around} {E : Value → Shared → Prop}
end
end L2


namespace Att
open PySem PySem.W PySem.Calls PyProof.Rows

/-! ### the script -/
theorem ints_of_wellAll {P : Params} {h : Heap} : ∀ (ns : List Int) (vs : List Value), WellAll P h vs (ns.map WData.int) → IntsAre vs ns := by
  intro ns
  induction ns with
  | nil =>
    intro vs w
    rw [List.map_nil] at w
    cases w
    exact .nil
  | cons n ns ih =>
    intro vs w
    rw [List.map_cons] at w
    cases w with
    | cons a b =>
      cases a
      exact .cons _ _ (ih _ b)

theorem script_of {l : OpenLaw} {n : Nat} (hn : l.most = some n) {P : Params} {h : Heap} {args : List WData} {vals : List Value}
    (hpre : l.row.toRowW.claim.pre args = true) (hwl : WellAll P h vals args) :
    ∃ a vs ns, vals = [Value.ref a] ∧ args = [WData.list (ns.map WData.int)] ∧ h.get? a = some { cls := .type "list", data := .seq vs.toArray } ∧ IntsAre vs ns ∧ ns.length ≤ n := by
  have hsh : WShape.hasAll [] args [.list .int] = true := (pre_splitW hpre).1
  have hc : l.pre.holds [] { args := args } = true := (pre_splitW hpre).2
  obtain ⟨d, r, rfl, h1, h2⟩ := hasAllW_cons hsh
  obtain rfl := hasAllW_nil h2
  obtain ⟨xs, rfl, h3⟩ := hasW_list h1
  obtain ⟨ns, rfl⟩ := items_int h3
  have hlen : ns.length ≤ n := by
    unfold OpenLaw.pre at hc
    have h4 : (WTm.not (.lt (.lit (.int (n : Int))) (.len (.arg 0)))).holds [] { args := [.list (ns.map .int)] } = true := by
      have h4 := (holds_andW hc).1
      rw [hn] at h4
      exact h4
    have h5 := condW_of h4 (w_not (w_lt w_lit (w_len_list (w_arg rfl))))
    rw [List.length_map] at h5
    refine Nat.le_of_not_lt fun q => ?_
    have q' : (n : Int) < ((ns.length : Nat) : Int) := by omega
    first
      | (rw [decide_eq_true q'] at h5; exact absurd h5 (by decide))
      | (simp at h5; omega)
  cases hwl with
  | cons w1 w2 =>
    cases w2
    cases w1 with
    | list ho hall => exact ⟨_, _, ns, rfl, rfl, ho, ints_of_wellAll ns _ hall, hlen⟩

theorem post_true (l : OpenLaw) (args : List WData) : l.row.toRowW.claim.post args (.bool true) args = true :=
  postW_of (r := l.row.toRowW) (X := (true == true))
    (show WShape.has [] (.bool true) .bool = true by first | rfl | decide | simp [WShape.has, WShape.arms, WShape.armsAll])
    (show (WTm.eq .res (.lit (.bool true))).value [] { args := args, res := some (.bool true), after := args } = some (.bool (true == true)) from w_eq_bool (w_res rfl) w_lit) rfl

/-! ### the attachment: holds_open's last premise (the goal 'hc' behind k_head) from a wpAny of the law's body -/
/-- the same from a codeAny of the CALL (for a layer whose function contracts speak of calls) -/
theorem attach_call {l : OpenLaw} {n : Nat} {q : Program} {loose : List Str} {XP : (Str → Option Value) → Heap → Prop} {YP : World → Heap → Prop} {d : DefRec}
    (hn : l.most = some n) (hdf : d.params.defaults = [])
    (call : ∀ (w : World) (s₀ s₁ : Shared) (mg mb : Str → Option Value) (fa : Addr) (o : Obj) (pm cd doc : Value) (a : Addr) (vs : List Value) (ns : List Int),
      Ground q loose [] XP w s₀ mg mb s₁.heap → YP w s₁.heap →
      s₁.heap.get? fa = some o → o.data = .func (docDef d.name d.params d.body d.scope pm cd doc) → s₁.heap.CodeRec cd d.name → mg d.name = some (.ref fa) →
      s₁.heap.get? a = some { cls := .type "list", data := .seq vs.toArray } → IntsAre vs ns → ns.length ≤ n → s₁.gens = #[] →
      codeAny (model l.prog w) callerA (.call (.ref fa) ⟨[.ref a], []⟩) (fun r s' => r = .ok (.ret (.bool true)) ∧ OldK s₁.heap s'.heap ∧ s'.os = s₁.os ∧ AllBare s'.gens) s₁) :
    WalkO q loose XP YP l.row.toRowW d [] (fun f vs => PySem.call f vs) := by
  intro w s₀ s₁ mg mb G Y fa o pm cd doc dV kV ho hd hcd hD hmg hg args vals as hpre hlay hrd hwl hlo
  obtain rfl : dV = .none := Dflts.none hD hdf
  obtain rfl : kV = .none := Dflts.noKw hD
  obtain ⟨a, vs, ns, rfl, rfl, hobj, hints, hlen⟩ := script_of hn hpre hwl
  refine enter_call (codeAny_mono (call w s₀ s₁ mg mb fa o pm cd doc a vs ns G Y ho (fd_plain hd) hcd hmg hobj hints hlen hg) fun r s' hq => ?_)
  obtain ⟨rfl, h2, h3, h4⟩ := hq
  exact ⟨.inl ⟨.bool true, .bool true, [], rfl, fun _ => rfl, .bool true, post_true l _, fun _ => ⟨List.Pairwise.nil, fun _ hm => (nomatch hm)⟩⟩, h2, h3, h4⟩

/-! ### rules over ANY heap (no ledger) from facts about the written part K: the library's own take a ledger (News) for what they write -/
section
variable {prog : Program} {w : World} {A : Around} {E : Value → Shared → Prop} {s : Shared} {K : Frag}

/-! the whole heap as the ledger: makes every rule that writes through a ledger a rule over any heap -/
def ledger (h : Heap) (L d : Addr) : List (Addr × Obj) := (List.range h.objs.size).filterMap fun a => if a = L ∨ a = d then none else (h.get? a).map fun o => (a, o)
end
end Att

namespace L2
open PySem PySem.Spec PyProof.Rows

theorem vals_ints : ∀ {vs : List Value} {ns : List Int}, IntsAre vs ns → Vals (ns.map V.int) vs
  | _, _, .nil => .nil
  | _, _, .cons n t h => .cons ⟨t, rfl⟩ (vals_ints h)

/-- nothing is tracked but the script, known to the object (or it is an object of the module) -/
def Only (H : Hp) : Prop := ∀ b, H b = none ∨ ∃ o xs, H b = some (.frz o (.lst xs))

/-- THE HEAD: the law's promise, at the heap behind the top. F, the promise of the law's def, may use that base is part of the heap (so K.In base, base.Ns mainGlobals mg stand in Mod) -/
theorem law_call {P : Program} {w : World} {K : PySem.W.Frag} {mg mb : Str → Option Value} {CX : CXT} {k : Nat} {fa a : Addr} {fd : FuncData} {x : Str} {sp : Sp} {s₁ : Shared} {vs : List Value} {ns : List Int}
    (KX : K.In s₁.heap) (hns : s₁.heap.Ns mainGlobals mg) (hb : s₁.heap.Ns builtinsNs mb) (hbb : ∀ x : Str, x ≠ "__name__" → mb x = bootBuiltins x) (hlim : s₁.heap.NoLimit) (hg : s₁.gens = #[])
    (ha : s₁.heap.get? a = some { cls := .type "list", data := .seq vs.toArray }) (hi : IntsAre vs ns) (hl : ns.length ≤ sizeLine) (hr : Room k callerA)
    (F : ∀ base : Heap, K.In base → base.Ns mainGlobals mg → FnOk P w K mg base CX k fa fd [x] sp) (hbind : ∀ (s : Shared) (u : Value), BindsTo s fd ⟨[u], []⟩ [(x, u)])
    (hsp : ∀ H : Hp, Only H → SqL K H a (ns.map V.int) → sp [.ref a] H (fun v _ => v = .bl true) fun _ _ _ => False)
    (hCX : ∀ H e s', CX [] H s₁ (fun _ _ _ => False) e s' → False) :
    codeAny (model P w) callerA (.call (.ref fa) ⟨[.ref a], []⟩) (fun r s' => r = .ok (.ret (.bool true)) ∧ OldK s₁.heap s'.heap ∧ s'.os = s₁.os ∧ AllBare s'.gens) s₁ := by
  have rv := vals_ints hi
  have lenV := hi.length
  -- from an abstract heap in which nothing but the script may be tracked
  have core : ∀ H : Hp, Only H → SqL K H a (ns.map V.int) → HOk P w H s₁.heap → (∀ b, H b ≠ none → b = a) → (H a ≠ none → K.lookup a = none) →
      codeAny (model P w) callerA (.call (.ref fa) ⟨[.ref a], []⟩) (fun r s' => r = .ok (.ret (.bool true)) ∧ OldK s₁.heap s'.heap ∧ s'.os = s₁.os ∧ AllBare s'.gens) s₁ := by
    intro H hO hS hok hA hK
    have base_of : ∀ {b : Addr} {o : Obj}, s₁.heap.get? b = some o → H b = none → (hidT s₁.heap H).get? b = some o := fun e n => hidT_get e n
    have noA : ∀ {b : Addr} {o : Obj} {es : Array DictEntry} {ep : Nat}, s₁.heap.get? b = some o → o.data = .dict es ep → H b = none := fun {b o es ep} e d => by
      cases q : H b with
      | none => rfl
      | some u =>
        have e' : b = a := hA b (by rw [q]; simp)
        subst e'
        rw [ha] at e; cases e
        have d' : Data.seq vs.toArray _ = Data.dict es ep := d
        cases d'
    have nsK : ∀ {b : Addr} {m : Str → Option Value}, s₁.heap.Ns b m → (hidT s₁.heap H).Ns b m := fun {b m} ⟨o, es, ep, e, d, r⟩ => ⟨o, es, ep, base_of e (noA e d), d, r⟩
    have hKb : K.In (hidT s₁.heap H) := fun b o e => base_of (KX b o e) (by
      cases q : H b with
      | none => rfl
      | some u =>
        have e' : b = a := hA b (by rw [q]; simp)
        subst e'
        rw [hK (by rw [q]; simp)] at e; cases e)
    have hM : Mod K mg (hidT s₁.heap H) := ⟨hKb, nsK hns, ⟨mb, nsK hb, hbb⟩, let ⟨mc, h1, h2⟩ := hlim; ⟨mc, nsK h1, h2⟩⟩
    have e0 : Env0 P w K mg (hidT s₁.heap H) callerA [] s₁ H := ⟨rfl, hM, fun b o e => of_hidT e, Nat.le_of_eq (hidT_size _ _), trivial, fun b hb => absurd (show b ∈ ([] : List Addr) from hb) (by simp), hok, .of_eq hg⟩
    refine codeAny_mono ((F _ hKb (nsK hns)).run callerA [] s₁ H ⟨[.ref a], []⟩ [.ref a] [.ref a] _ _ hr e0 (hbind s₁ (.ref a)) (.cons rfl .nil) (hsp H hO hS)) fun r s' h => ?_
    cases r with
    | error e => exact (hCX H e s' h).elim
    | ok fl =>
      cases fl with
      | next => exact False.elim h
      | brk => exact False.elim h
      | cont => exact False.elim h
      | ret u =>
        obtain ⟨v, H', os, bare, un, hok', r', q⟩ := h
        have q' : v = .bl true := q
        subst q'
        obtain rfl : u = Value.bool true := r'
        refine ⟨rfl, OldK.of_keep fun b o e => ?_, os, bare⟩
        cases q : H b with
        | none => exact un.keep b o e q (by intro z; exact absurd (show b ∈ ([] : List Addr) from z) (by simp)) (by simp)
        | some u =>
          rcases hO b with z | ⟨ob, xs, z⟩
          · rw [q] at z; cases z
          · have z2 := un.frzs b ob _ z
            obtain ⟨e1, _⟩ := hok b _ z
            obtain ⟨e2, _⟩ := hok' b _ z2
            rw [e] at e1; cases e1
            exact e2
  cases hk : K.lookup a with
  | some o =>
    -- the script is one of the module's own objects
    have e := KX a o hk
    rw [ha] at e
    cases e
    refine core (fun _ => none) (fun _ => .inl rfl) (.inr ⟨_, vs.toArray, _, hk, rfl, rfl, rfl, by rw [List.size_toArray, lenV]; exact hl, by simpa using rv⟩) (fun b u z => by have z' : (none : Option HO) = some u := z; cases z') (fun b z => absurd rfl z) fun z => absurd rfl z
  | none =>
    refine core (fun b => if b = a then some (.frz { cls := .type "list", data := .seq vs.toArray } (.lst (ns.map V.int))) else none) (fun b => ?_) (.inl (.inr ⟨{ cls := .type "list", data := .seq vs.toArray }, if_pos rfl⟩)) (fun b u z => ?_) (fun b z => ?_) fun _ => hk
    · by_cases hb : b = a
      · exact .inr ⟨_, _, if_pos hb⟩
      · exact .inl (if_neg hb)
    · by_cases hb : b = a
      · have z' := (if_pos hb).symm.trans z
        cases z'
        subst hb
        exact ⟨ha, by rw [List.length_map]; exact hl, vs, _, rv, ha⟩
      · have z' := (if_neg hb).symm.trans z
        cases z'
    · by_cases hb : b = a
      · exact hb
      · exact absurd (if_neg hb) z
end L2

namespace L2
open PySem PySem.Spec PyProof.Rows


/-- the goal that k_head leaves (case hc), from the law's promise. F gives the function object fd (K's own) once, then the promise over every base -/
theorem walk_of {l : PySem.W.OpenLaw} {n k : Nat} {q : Program} {loose : List Str} {XP : (Str → Option Value) → Heap → Prop} {YP : World → Heap → Prop} {d : DefRec} {K : Params → PySem.W.Frag} {CX : World → CXT} {sp : World → Sp} {x : Str}
    (hn : l.most = some n) (hn2 : n ≤ sizeLine) (hdf : d.params.defaults = []) (hr : Room k callerA)
    (hY : ∀ (w : World) (h : Heap), YP w h → (K w.params).In h)
    (F : ∀ (w : World) (mg : Str → Option Value) (fa : Addr) (h : Heap), (K w.params).In h → h.Ns mainGlobals mg → mg d.name = some (.ref fa) →
      ∃ fd : FuncData, (∀ (s : Shared) (u : Value), BindsTo s fd ⟨[u], []⟩ [(x, u)]) ∧
        ∀ base : Heap, (K w.params).In base → base.Ns mainGlobals mg → FnOk l.prog w (K w.params) mg base (CX w) k fa fd [x] (sp w))
    (hsp : ∀ (w : World) (H : Hp) (a : Addr) (ns : List Int), ns.length ≤ n → Only H → SqL (K w.params) H a (ns.map V.int) → sp w [.ref a] H (fun v _ => v = .bl true) fun _ _ _ => False)
    (hCX : ∀ (w : World) (H : Hp) (s : Shared) (e : Value) (s' : Shared), CX w [] H s (fun _ _ _ => False) e s' → False) :
    PySem.W.WalkO q loose XP YP l.row.toRowW d [] (fun f vs => PySem.call f vs) := by
  refine Att.attach_call hn hdf fun w s₀ s₁ mg mb fa o pm cd doc a vs ns G Y ho hd hcd hmg hobj hints hlen hg => ?_
  have KX := hY w _ Y
  obtain ⟨fd, hb, hF⟩ := F w mg fa _ KX G.T.g hmg
  exact law_call KX G.T.g G.T.b G.T.builtins G.T.nolimit hg hobj hints (Nat.le_trans hlen hn2) hr hF hb (fun H hO hS => hsp w H a ns hlen hO hS) fun H e s' => hCX w H s₁ e s'
end L2


/-! SHORT WORDS over the layer: a def of the text, its body, what a loop and a test want. -/
namespace L2
open PySem PySem.Spec PyProof.Rows

/-! ### the text by places -/
def defArgs (s : Stmt) : Arguments := match s with
  | .FunctionDef _ a _ _ _ _ _ _ _ _ => a
  | _ => { posonlyargs := [], args := [], vararg := none, kwonlyargs := [], kw_defaults := [], kwarg := none, defaults := [] }
def defBody (s : Stmt) : List Stmt := match s with
  | .FunctionDef _ _ b _ _ _ _ _ _ _ => b
  | _ => []
def defScope (s : Stmt) : Scope := match s with
  | .FunctionDef _ _ _ _ _ _ sc _ _ _ => sc
  | _ => { kind := .function, names := [], isGenerator := false, isCoroutine := false }

/-! ### no exception leaves a def -/
abbrev CX0 : CXT := fun _ _ _ _ _ _ => False
abbrev E0 : XK := fun _ _ _ => False
theorem pass0 {X : Cx} : Passes CX0 X E0 := fun _ _ _ _ _ _ _ h => h.elim

/-! ### a def (or method) of the text as it stands behind the top -/
structure Fun (K : PySem.W.Frag) (x qual : Str) (st : Stmt) (f : Addr) (fd : FuncData) : Prop where
  ex : ∃ (oc : Value) (od : Option Addr) (kV doc pm : Value) (an : Option Addr) (cdv ct : Value) (osl : Array (Option Value)),
    fd = PySem.W.fnOf x qual (defArgs st) (defBody st) (defScope st) .none kV doc pm an cdv ct ∧ K.lookup f = some ⟨oc, od, .func fd, osl⟩ ∧ PySem.W.codeIn K cdv qual = true
  kp : PySem.W.keepIn K (.ref f) = true
section
variable {P : Program} {w : World} {K : PySem.W.Frag} {mg : Str → Option Value} {base : Heap}
/-- THE RULE for a def: its body as a term of rules, and the reading of that term -/
theorem Fun.ok {x qual : Str} {st : Stmt} {f : Addr} {fd : FuncData} {N ps : List Str} {k : Nat} {sp : Sp} (F : Fun K x qual st f fd) (S : FnScope N ps (defScope st)) (len : ∀ vs H Q E, sp vs H Q E → vs.length = ps.length)
    (hbody : ∀ (cdv : Value) (A : Around) (outer : List Env) (s : Shared) (H : Hp) (vs : List V) (Q : VK) (E : XK), Room k (A.deeper (envOfC qual (defScope st) s.heap.objs.size f cdv)) → sp vs H Q E →
      ∃ t, PSs (cxOf CX0 P w K mg base N qual (defScope st) f cdv A outer s H E).nox (defBody st) t ∧ t { nx := fun _ H' => Q .non H', rt := Q } (start N vs) H) : FnOk P w K mg base CX0 (k + 1) f fd ps sp := by
  obtain ⟨oc, od, kV, doc, pm, an, cdv, ct, osl, rfl, lk, hcd⟩ := F.ex
  refine fn_of lk hcd S len fun A outer s H vs Q E hr hsp => ?_
  obtain ⟨t, h, q⟩ := hbody cdv A outer s H vs Q E hr hsp
  exact ⟨t, h.nox, q⟩
/-- how its arguments bind (no defaults): h is «fun _ _ _ _ _ _ us hl => match us, hl with | [_, _], _ => rfl», one _ a parameter -/
theorem Fun.binds {x qual : Str} {st : Stmt} {f : Addr} {fd : FuncData} {ps : List Str} (F : Fun K x qual st f fd)
    (h : ∀ (kV doc pm : Value) (an : Option Addr) (cdv ct : Value) (us : List Value), us.length = ps.length → bindArgs (PySem.W.fnOf x qual (defArgs st) (defBody st) (defScope st) .none kV doc pm an cdv ct) ⟨us, []⟩ = pure (ps.zip us)) : Binds K fd ps [] := by
  obtain ⟨oc, od, kV, doc, pm, an, cdv, ct, osl, rfl, lk, hcd⟩ := F.ex
  exact .all (h kV doc pm an cdv ct)
theorem fun_mk {x qual : Str} {st : Stmt} {f : Addr} {oc : Value} {od an : Option Addr} {osl : Array (Option Value)} {kV doc pm cdv ct : Value} (l : K.lookup f = some ⟨oc, od, .func (PySem.W.fnOf x qual (defArgs st) (defBody st) (defScope st) .none kV doc pm an cdv ct), osl⟩)
    (c : PySem.W.codeIn K cdv qual = true) (k : PySem.W.keepIn K (.ref f) = true) : Fun K x qual st f (PySem.W.fnOf x qual (defArgs st) (defBody st) (defScope st) .none kV doc pm an cdv ct) := ⟨⟨oc, od, kV, doc, pm, an, cdv, ct, osl, rfl, l, c⟩, k⟩
end
theorem small1000 {n : Nat} (h : n ≤ 1000) : n < sizeLine := Nat.lt_of_le_of_lt h (by decide)

/-! ### expressions in short: the name that stands in the i-th slot -/
section
variable {X : Cx}
theorem pv (i : Nat) {x : Str} {pos : Pos} (hN : X.N[i]? = some x := by rfl) (hv : Vis X.env.scope x := by first | exact Or.inl rfl | exact Or.inr (Or.inl rfl) | exact Or.inr (Or.inr rfl)) (hd : (x == ("__debug__" : Str)) = false := by decide)
    (hcd : (x == ("__classdict__" : Str)) = false := by decide) : PE X (.Name x pos) (tVar i) := pe_var hN hv hd hcd
end

/-! ### tests -/
/-! ### heaps -/
/-- all that was tracked is as it was -/
def Same (H H' : Hp) : Prop := ∀ b o, H b = some o → H' b = some o
theorem Same.refl (H : Hp) : Same H H := fun _ _ h => h
theorem Same.trans {H H1 H2 : Hp} (a : Same H H1) (b : Same H1 H2) : Same H H2 := fun c o h => b c o (a c o h)
theorem Same.free {H H' : Hp} (e : Same H H') {l : Addr} (h : H' l = Option.none) : H l = Option.none := by
  cases q : H l with
  | none => rfl
  | some o =>
    rw [e l o q] at h
    cases h
theorem Same.seq {K : PySem.W.Frag} {H H' : Hp} {a : Addr} {xs : List V} (e : Same H H') (h : SqL K H a xs) : SqL K H' a xs := by
  rcases h with (h | ⟨o, h⟩) | h
  · exact .inl (.inl (e _ _ h))
  · exact .inl (.inr ⟨o, e _ _ h⟩)
  · exact .inr h

section
variable {X : Cx}
end
/-! ### a dict's pairs: keys that differ -/
section
variable {κ : Type} [DecidableEq κ]
end
end L2


/-! ## list comprehensions with one clause, over the hand layer -/
namespace L2
open PySem PySem.Spec PyProof.Rows

theorem clos_go {env : Env} {f : Str × NameKind → List (Str × Addr) → Sem (ForInStep (List (Str × Addr)))}
    (h1 : ∀ n c acc, env.cells.lookup n = some c → f (n, .free) acc = pure (.yield ((n, c) :: acc)))
    (h2 : ∀ n k acc, k ≠ .free → f (n, k) acc = pure (.yield acc)) :
    ∀ (names : List (Str × NameKind)) (acc : List (Str × Addr)), (∀ x ∈ names, x.2 = .free → ∃ c, env.cells.lookup x.1 = some c) → (∀ p ∈ acc, env.cells.lookup p.1 = some p.2) →
      ∃ cl, forIn names acc f = pure cl ∧ (∀ p ∈ cl, env.cells.lookup p.1 = some p.2) ∧ (∀ x ∈ names, x.2 = .free → ∃ c, (x.1, c) ∈ cl) ∧ ∀ p ∈ acc, p ∈ cl := by
  intro names
  induction names with
  | nil => intro acc _ ha; exact ⟨acc, rfl, ha, (fun _ z => nomatch z), fun _ z => z⟩
  | cons x r ih =>
    intro acc hx ha
    obtain ⟨n, k⟩ := x
    by_cases hk : k = .free
    · subst hk
      obtain ⟨c, hc⟩ := hx (n, .free) List.mem_cons_self rfl
      obtain ⟨cl, e, a, b, d⟩ := ih ((n, c) :: acc) (fun y hy => hx y (List.mem_cons_of_mem _ hy)) (fun p hp => by
        rcases List.mem_cons.mp hp with z | z
        · subst z; exact hc
        · exact ha p z)
      refine ⟨cl, ?_, a, fun y hy hyk => ?_, fun p hp => d p (List.mem_cons_of_mem _ hp)⟩
      · rw [List.forIn_cons, h1 n c acc hc, pure_bind]; exact e
      · rcases List.mem_cons.mp hy with z | z
        · subst z; exact ⟨c, d _ List.mem_cons_self⟩
        · exact b y z hyk
    · obtain ⟨cl, e, a, b, d⟩ := ih acc (fun y hy => hx y (List.mem_cons_of_mem _ hy)) ha
      refine ⟨cl, ?_, a, fun y hy hyk => ?_, d⟩
      · rw [List.forIn_cons, h2 n k acc hk, pure_bind]; exact e
      · rcases List.mem_cons.mp hy with z | z
        · subst z; exact absurd hyk hk
        · exact b y z hyk

theorem lookup_mem' {α : Type} : ∀ {l : List (Str × α)} {x : Str} {c : α}, l.lookup x = some c → (x, c) ∈ l
  | [], _, _, h => by simp at h
  | (n, d) :: r, x, c, h => by
    rw [List.lookup_cons] at h
    cases e : x == n with
    | true =>
      rw [e] at h
      have : x = n := by simpa using e
      subst this
      cases h; exact List.mem_cons_self
    | false =>
      rw [e] at h
      exact List.mem_cons_of_mem _ (lookup_mem' h)
theorem lookup_of_mem' {α : Type} : ∀ {l : List (Str × α)} {x : Str} {c : α}, (x, c) ∈ l → ∃ d, l.lookup x = some d
  | [], _, _, h => nomatch h
  | (n, d) :: r, x, c, h => by
    rw [List.lookup_cons]
    cases e : x == n with
    | true => exact ⟨d, rfl⟩
    | false =>
      rcases List.mem_cons.mp h with z | z
      · cases z; simp at e
      · exact lookup_of_mem' z

theorem closureFor_has {scope : Scope} {env : Env} (h : ∀ x ∈ scope.names, x.2 = .free → ∃ c, env.cells.lookup x.1 = some c) :
    ∃ cl : List (Str × Addr), closureFor scope env = pure cl ∧ (∀ x c, cl.lookup x = some c → env.cells.lookup x = some c) ∧ (∀ x ∈ scope.names, x.2 = .free → ∃ c, cl.lookup x.1 = some c) := by
  have key : ∃ cl, closureFor scope env = pure cl ∧ (∀ p ∈ cl, env.cells.lookup p.1 = some p.2) ∧ (∀ x ∈ scope.names, x.2 = .free → ∃ c, (x.1, c) ∈ cl) ∧ ∀ p ∈ ([] : List (Str × Addr)), p ∈ cl := by
    obtain ⟨cl, e, r⟩ := clos_go (env := env) (f := fun x r => match x with
        | (name, kind) => if (kind == NameKind.free) = true then (do let c ← cellOf env name; pure (ForInStep.yield ((name, c) :: r))) else pure (ForInStep.yield r))
      (fun n c acc hc => by simp [cellOf, hc]) (fun n k acc hk => by simp [hk]) scope.names [] h (fun _ z => nomatch z)
    refine ⟨cl, ?_, r⟩
    unfold closureFor
    exact (bind_pure _).trans e
  obtain ⟨cl, e, a, b, _⟩ := key
  refine ⟨cl, e, fun x c hx => a (x, c) (lookup_mem' hx), fun x hx hk => ?_⟩
  obtain ⟨c, hc⟩ := b x hx hk
  exact lookup_of_mem' hc

theorem lookup_relabel_none_or {env : Env} : ∀ {names : List (Str × NameKind)} {x : Str} {k : NameKind},
    (names.map fun (n, k) => if (k == NameKind.free && env.scope.kind == .function && env.kindOf n == some .cell) then (n, NameKind.cell) else (n, k)).lookup x = some k →
    names.lookup x = some k ∨ (k = .cell ∧ names.lookup x = some .free)
  | [], _, _, h => by simp at h
  | (n, k') :: r, x, k, h => by
    have ih := @lookup_relabel_none_or env r x k
    rw [List.map_cons] at h
    by_cases hc : (k' == NameKind.free && env.scope.kind == .function && env.kindOf n == some .cell) = true
    · simp only [hc, if_true] at h
      rw [List.lookup_cons] at h ⊢
      cases hx : x == n with
      | true =>
        rw [hx] at h
        cases h
        simp only [Bool.and_eq_true] at hc
        have : k' = .free := by simpa using hc.1.1
        exact .inr ⟨rfl, by rw [this]⟩
      | false =>
        rw [hx] at h
        exact ih h
    · simp only [hc] at h
      rw [if_neg (by simpa using hc)] at h
      rw [List.lookup_cons] at h ⊢
      cases hx : x == n with
      | true => rw [hx] at h; exact .inl h
      | false => rw [hx] at h; exact ih h
theorem lookup_relabel_free {env : Env} : ∀ {names : List (Str × NameKind)} {x : Str}, names.lookup x = some .free →
    (names.map fun (n, k) => if (k == NameKind.free && env.scope.kind == .function && env.kindOf n == some .cell) then (n, NameKind.cell) else (n, k)).lookup x = some .cell ∨
    (names.map fun (n, k) => if (k == NameKind.free && env.scope.kind == .function && env.kindOf n == some .cell) then (n, NameKind.cell) else (n, k)).lookup x = some .free
  | [], _, h => by simp at h
  | (n, k') :: r, x, h => by
    have ih := @lookup_relabel_free env r x
    rw [List.map_cons]
    dsimp only
    by_cases hc : (k' == NameKind.free && env.scope.kind == .function && env.kindOf n == some .cell) = true
    · simp only [hc, if_true]
      rw [List.lookup_cons] at h
      simp only [List.lookup_cons]
      cases hx : x == n with
      | true => exact .inl rfl
      | false => rw [hx] at h; exact ih h
    · rw [if_neg hc]
      rw [List.lookup_cons] at h
      simp only [List.lookup_cons]
      cases hx : x == n with
      | true => rw [hx] at h; exact .inr h
      | false => rw [hx] at h; exact ih h

/-- the inner slots: none is the block's own, some i the outer slot i that is read there -/
def capt (σ : St) (cap : List (Option Nat)) : St := cap.map fun o => match o with | none => none | some i => (σ[i]?).getD none
def outK (X : Cx) (x : Str) : Bool := X.env.scope.names.lookup x == some .cell || X.env.scope.names.lookup x == some .free
/-- what is asked of a comprehension's scope: a computation -/
structure CompOk (X : Cx) (scope : Scope) (N' : List Str) (cap : List (Option Nat)) : Prop where
  kind : scope.kind = .function
  names : scope.names.all (fun p => p.2 != .local || scope.names.lookup p.1 == some .local) = true
  nocell : scope.names.all (fun p => p.2 != .cell) = true
  out : scope.names.all (fun p => p.2 != .free || outK X p.1) = true
  len : N'.length = cap.length
  cap : (N'.zip cap).all (fun p => match p.2 with | none => true | some i => X.N[i]? == some p.1 && (scope.names.lookup p.1 == some .free && outK X p.1)) = true

def inner (X : Cx) (scope : Scope) (cl : List (Str × Addr)) (C : Addr) (N' : List Str) (fp : List Addr) (s₂ : Shared) (H₂ : Hp) (xe : Value → Shared → Prop) : Cx :=
  { X with N := N', s₀ := s₂, H₀ := H₂, env := compEnvC scope cl C X.env, outer := X.stack, ex := fp, fn := fun _ => false, pn := [], xe := xe }

/-- the tests of a clause -/
def PIfs (X : Cx) (ifs : List Expr) (t : TT) : Prop :=
  ∀ (pins : List (Addr × Obj)) (s : Shared) (σ : St) (H : Hp) (Q : Bool → Hp → Prop), Inv X pins σ H s → t σ H Q →
    wpAny (model X.prog X.w) X.A (forIn ifs true fun c r => if r = true then do let ok ← isTrue c X.env (eval c X.env); pure (ForInStep.yield ok) else pure (ForInStep.yield r)) (TP X pins σ Q) X.xe s
def tTrue : TT := fun _ H Q => Q true H
theorem pifs_nil {X : Cx} : PIfs X [] tTrue := fun _ _ _ H _ I h => by
  rw [List.forIn_nil]
  exact wpAny_pure ⟨H, I, h⟩
theorem pifs_one {X : Cx} {c : Expr} {t : TT} (hc : PT X c t) : PIfs X [c] t := fun pins s σ H Q I h => by
  rw [List.forIn_cons]
  refine wpAny_bind ?_
  rw [if_pos rfl]
  refine wpAny_bind (thn (hc pins s σ H Q I h) fun b s1 q => wpAny_pure ?_)
  show wpAny _ _ (forIn ([] : List Expr) b _) _ _ _
  rw [List.forIn_nil]
  exact wpAny_pure q

/-- a target that stores into the block's own slots alone -/
def KeepsCap (cap : List (Option Nat)) (g : TG) : Prop := ∀ x σ H Q, g x σ H Q → g x σ H fun σ2 H2 => Q σ2 H2 ∧ σ2.length = σ.length ∧ ∀ (j i : Nat), cap[j]? = some (some i) → σ2[j]? = σ[j]?
theorem keeps_name {cap : List (Option Nat)} {i : Nat} (h : cap[i]? = some none) : KeepsCap cap (gName i) := fun x σ H Q q => by
  refine ⟨q, by simp, fun j k e => ?_⟩
  have : i ≠ j := by rintro rfl; rw [h] at e; cases e
  rw [List.getElem?_set_ne this]
theorem keeps_two {K : PySem.W.Frag} {cap : List (Option Nat)} {i j : Nat} (hi : cap[i]? = some none) (hj : cap[j]? = some none) : KeepsCap cap (gTup K 2 (gCons (gName i) (gCons (gName j) gNil))) := fun x σ H Q q => by
  obtain ⟨a, xs, e1, h2, h3, v, r, e4, v', r', e5, e6, q⟩ := q
  refine ⟨a, xs, e1, h2, h3, v, r, e4, v', r', e5, e6, q, by simp, fun k l e => ?_⟩
  have n1 : i ≠ k := by rintro rfl; rw [hi] at e; cases e
  have n2 : j ≠ k := by rintro rfl; rw [hj] at e; cases e
  rw [List.getElem?_set_ne n2, List.getElem?_set_ne n1]

/-- the block at an iterator J: W by the turn and a measure, D the list that grows -/
def CompAt (cap : List (Option Nat)) (g : TG) (tt : TT) (te : TE) (σ : St) (Q : VK) (J : It) (H1 : Hp) (D : Addr) : Prop :=
  ∃ W : Nat → Nat → Hp → Prop, (∃ m, W 0 m (upd H1 D (.lst []))) ∧ ∀ i m H, W i m H →
    (J.stop i H ∧ Q (.ref D) H) ∨ (J.go i H ∧ ∃ N : Hp → Prop, (∀ H', N H' → ∃ m', m' < m ∧ W (i + 1) m' H') ∧
      ∀ x H', J.yld i H x H' → g x (capt σ cap) H' fun σ2 H2 => tt σ2 H2 fun b H3 => if b = true then te σ2 H3 fun y H4 => ∃ ys, H4 D = some (.lst ys) ∧ ys.length < sizeLine ∧ N (upd H4 D (.lst (ys ++ [y]))) else N H3)
def tComp (cap : List (Option Nat)) (wi : TI) (g : TG) (tt : TT) (te : TE) : TE := fun σ H Q => wi σ H fun J H1 => ∀ D, H1 D = none → CompAt cap g tt te σ Q J H1 D

section
variable {prog : Program} {w : World} {A : Around} {R : Result → Shared → Prop} {s : Shared}
/-- the block's loop, any target -/
theorem compLoop_go {elt target iter : Expr} {ifs : List Expr} {scope : Scope} {pos : Pos} {it acc : Value} {env : Env} (I : Nat → Shared → Prop)
    (turn : ∀ n s, I n s → wpAny (model prog w) A (pyNext it) (fun r s₁ => match r with
      | none => R (.ok .next) s₁
      | some v => wpAny (model prog w) A (letOwnedTupleGo target it v) (fun _ s₁' => wpAny (model prog w) A (assign target env v) (fun _ s₂ =>
          wpAny (model prog w) A (forIn ifs true fun c r => if r = true then do let ok ← isTrue c env (eval c env); pure (ForInStep.yield ok) else pure (ForInStep.yield r)) (fun ok s₃ =>
            if ok = true then wpAny (model prog w) A (eval elt env) (fun x s₄ =>
              wpAny (model prog w) A (call (.builtin "list.append") [acc, x]) (fun _ s₅ => ∃ m, m < n ∧ I m s₅) (notedBy (model prog w) A env fun e s' => R (.error e) s') s₄) (notedBy (model prog w) A env fun e s' => R (.error e) s') s₃
            else ∃ m, m < n ∧ I m s₃) (notedBy (model prog w) A env fun e s' => R (.error e) s') s₂) (notedBy (model prog w) A env fun e s' => R (.error e) s') s₁') (notedBy (model prog w) A env fun e s' => R (.error e) s') s₁)
      (notedBy (model prog w) A env fun e s' => R (.error e) s') s)
    (n : Nat) (h : I n s) : codeAny (model prog w) A (.compLoop (.ListComp elt [⟨target, iter, ifs, 0⟩] scope pos) 0 it acc env) R s := by
  refine codeAny_loop rfl I (fun n s hI => ?_) n h
  show wpAny _ A ((compTurn (.ListComp elt [⟨target, iter, ifs, 0⟩] scope pos) 0 it acc env).onRaise (fun x => do noteFrame x env; theTreesLotGoes x)) _ _ s
  refine wpAny_noted ?_
  rw [compTurn_list]
  refine wpAny_bind (wpAny_standAt (wpAny_bind (wpAny_mono (turn n s hI) (fun r s₁ h₁ => ?_) fun _ _ h' => h')))
  cases r with
  | none => exact wpAny_pure h₁
  | some v =>
    refine wpAny_bind (wpAny_mono h₁ (fun _ s₁' h₁' => ?_) fun _ _ h' => h')
    refine wpAny_bind (wpAny_mono h₁' (fun _ s₂ h₂ => wpAny_bind (wpAny_mono h₂ (fun ok s₃ h₃ => ?_) fun _ _ h' => h')) fun _ _ h' => h')
    cases ok with
    | false => exact wpAny_pure ⟨rfl, h₃⟩
    | true =>
      exact wpAny_bind (wpAny_bind (wpAny_mono h₃ (fun x s₄ h₄ => wpAny_bind (wpAny_mono h₄ (fun _ s₅ h₅ => wpAny_pure (wpAny_pure ⟨rfl, h₅⟩)) fun _ _ h' => h')) fun _ _ h' => h'))
end

section
variable {X : Cx} {pins : List (Addr × Obj)} {σ : St} {H₂ : Hp} {s₂ : Shared} {N' : List Str} {cap : List (Option Nat)} {scope : Scope} {target iter elt : Expr} {ifs : List Expr} {pos : Pos} {it : Addr} {fp : List Addr} {tn : Nat → Heap → Prop} {J : It}
  {g : TG} {tt : TT} {te : TE} {cl : List (Str × Addr)}

theorem CompOk.nocells (ok : CompOk X scope N' cap) : ∀ y ∈ scope.names, y.2 ≠ .cell := fun y hy z => by
  have := List.all_eq_true.mp ok.nocell y hy
  rw [z] at this
  exact absurd this (by decide)
theorem CompOk.locs (ok : CompOk X scope N' cap) : ∀ y ∈ scope.names, y.2 = .local → scope.names.lookup y.1 = some .local := fun y hy z => by
  have := List.all_eq_true.mp ok.names y hy
  rw [z] at this
  simpa using this
theorem outK_or {x : Str} (h : outK X x = true) : X.env.scope.names.lookup x = some .cell ∨ X.env.scope.names.lookup x = some .free := by
  unfold outK at h
  rw [Bool.or_eq_true] at h
  rcases h with h | h
  · exact .inl (by simpa using h)
  · exact .inr (by simpa using h)
theorem CompOk.outs (ok : CompOk X scope N' cap) : ∀ y ∈ scope.names, y.2 = .free → X.env.scope.names.lookup y.1 = some .cell ∨ X.env.scope.names.lookup y.1 = some .free := fun y hy z => by
  have := List.all_eq_true.mp ok.out y hy
  rw [z] at this
  exact outK_or (by simpa using this)
theorem CompOk.caps (ok : CompOk X scope N' cap) {j i : Nat} {y : Str} (h1 : N'[j]? = some y) (h2 : cap[j]? = some (some i)) :
    X.N[i]? = some y ∧ scope.names.lookup y = some .free ∧ (X.env.scope.names.lookup y = some .cell ∨ X.env.scope.names.lookup y = some .free) := by
  have hm : (y, some i) ∈ N'.zip cap := by
    refine List.mem_of_getElem? (i := j) ?_
    rw [List.getElem?_zip_eq_some]
    exact ⟨h1, h2⟩
  have := List.all_eq_true.mp ok.cap _ hm
  simp only [Bool.and_eq_true] at this
  exact ⟨by simpa using this.1, by simpa using this.2.1, outK_or this.2.2⟩
theorem capt_len : (capt σ cap).length = cap.length := by simp [capt]
theorem capt_get {j : Nat} {v : V} (h : (capt σ cap)[j]? = some (some v)) : ∃ i, cap[j]? = some (some i) ∧ σ[i]? = some (some v) := by
  unfold capt at h
  rw [List.getElem?_map] at h
  cases e : cap[j]? with
  | none => rw [e] at h; cases h
  | some o =>
    rw [e] at h
    cases o with
    | none => cases h
    | some i =>
      refine ⟨i, rfl, ?_⟩
      have h' : (σ[i]?).getD none = some v := Option.some.inj h
      cases e' : σ[i]? with
      | none => rw [e'] at h'; cases h'
      | some z => rw [e'] at h'; exact congrArg some h'

theorem comp_block {Q : VK} {RR : Value → Addr → Result → Shared → Prop} (hc : X.calm = true) (ok : CompOk X scope N' cap) (hcl1 : ∀ x c, cl.lookup x = some c → X.env.cells.lookup x = some c)
    (hcl2 : ∀ x ∈ scope.names, x.2 = .free → ∃ c, cl.lookup x.1 = some c) (I2 : Inv X pins σ H₂ s₂) (T : Turn X.prog X.w X.K target J fp it tn) (st2 : tn 0 s₂.heap) (f2 : ∀ b ∈ fp, FpOk X pins H₂ b)
    (hin : ∀ (cl : List (Str × Addr)) (C : Addr) (fp : List Addr) (s₂ : Shared) (H₂ : Hp) (xe : Value → Shared → Prop), PG (inner X scope cl C N' fp s₂ H₂ xe) target g ∧ PIfs (inner X scope cl C N' fp s₂ H₂ xe) ifs tt ∧ PE (inner X scope cl C N' fp s₂ H₂ xe) elt te)
    (hk : KeepsCap cap g)
    (q : ∀ D, H₂ D = none → CompAt cap g tt te σ Q J H₂ D)
    (fin : ∀ D C H' s', Inv X pins σ H' s' → (∃ m, s'.heap.Ns C m) → FpOk X pins H' C → Q (.ref D) H' → RR (.ref D) C (.ok .next) s') :
    wpAny (model X.prog X.w) X.A (newList []) (fun acc s₃ => wpAny (model X.prog X.w) X.A (newFunctionEnv scope X.env.globals cl [] X.env.qual none .none (some X.env)) (fun cenv s₄ =>
      codeAny (model X.prog X.w) X.A (.compStart (.ListComp elt [⟨target, iter, ifs, 0⟩] scope pos) 0 (.ref it) acc { cenv with scope := relabel scope X.env }) (RR acc cenv.locals) s₄) X.xe s₃) X.xe s₂ := by
  refine wpAny_newObj_type (wpAny_newFunctionEnv ok.nocells (by intro y hy; simp at hy) (fun h₁ hns₁ hsb₁ => ?_) ok.kind)
  dsimp only at hns₁ hsb₁ ⊢
  generalize hH2 : s₂.heap.push { cls := .type "list", dict := none, data := .seq ([] : List Value).toArray } = hp2 at hns₁ hsb₁ ⊢
  have hC : hp2.objs.size = s₂.heap.objs.size + 1 := by rw [← hH2, Heap.size_push]
  have hDC : s₂.heap.objs.size ≠ hp2.objs.size := by rw [hC]; exact Nat.ne_of_lt (Nat.lt_succ_self _)
  have hCle : s₂.heap.objs.size ≤ hp2.objs.size := by rw [hC]; exact Nat.le_succ _
  have below : ∀ b, b < s₂.heap.objs.size → b ≠ hp2.objs.size ∧ b ≠ s₂.heap.objs.size := fun b hb => ⟨by rw [hC]; exact Nat.ne_of_lt (Nat.lt_succ_of_lt hb), Nat.ne_of_lt hb⟩
  have old : ∀ b o, s₂.heap.get? b = some o → h₁.get? b = some o := fun b o e => hsb₁.extBut b o (below b (Heap.lt_size e)).1 (Heap.get?_push_of_some _ (hH2 ▸ Heap.get?_push_of_some _ e))
  have hacc : h₁.get? s₂.heap.objs.size = some { cls := .type "list", dict := none, data := .seq ([] : List Value).toArray } := hsb₁.extBut _ _ hDC (Heap.get?_push_of_some _ (hH2 ▸ Heap.get?_push_size _ rfl))
  have fresh : H₂ s₂.heap.objs.size = none := I2.hok.fresh (Nat.le_refl _)
  have freshC : H₂ hp2.objs.size = none := I2.hok.fresh hCle
  obtain ⟨W, ⟨m0, w0⟩, turn⟩ := q s₂.heap.objs.size fresh
  have fpb : ∀ b ∈ fp, b < s₂.heap.objs.size := fun b hb => by
    obtain ⟨o, e, _⟩ := T.obj 0 _ st2 b hb
    exact Heap.lt_size e
  have ok' : ∀ xe, (inner X scope cl hp2.objs.size N' fp s₂ H₂ xe).Ok := fun xe => {
    mod := I2.ok.mod
    kind := ok.kind
    glob := I2.ok.glob
    blt := I2.ok.blt
    above := hCle
    inj := fun x y c a b => I2.ok.inj x y c (hcl1 x c a) (hcl1 y c b)
    has := fun x hx => by
      have key : ∀ k, (k = NameKind.cell ∨ k = NameKind.free) → (relabel scope X.env).names.lookup x = some k → ∃ c, cl.lookup x = some c := fun k hk hl => by
        rcases lookup_relabel_none_or hl with h | ⟨_, h⟩
        · rcases hk with rfl | rfl
          · exact absurd rfl (ok.nocells _ (lookup_mem' h))
          · exact hcl2 _ (lookup_mem' h) rfl
        · exact hcl2 _ (lookup_mem' h) rfl
      rcases hx with hx | hx
      · exact key _ (.inl rfl) hx
      · exact key _ (.inr rfl) hx
    cab := fun x c h => nomatch h
    hd := I2.ok.hd
    frames := I2.ok.frames
    stk := .inl rfl
    exf := fun b hb => ⟨(below b (fpb b hb)).1, fun x c e => (f2 b hb).2.2.2.2.1 x c (hcl1 x c e)⟩
    bs := I2.bs
    bsz := Nat.le_trans I2.ok.bsz I2.sz
    noex := fun b o e hb => by
      rcases (f2 b hb).2.2.2.1 with z | z
      · exact I2.ok.noex b o e z
      · exact absurd (Nat.lt_of_lt_of_le (Heap.lt_size e) (Nat.le_trans I2.ok.bsz z)) (Nat.lt_irrefl _)
    exfs := fun b hb hs => by
      rcases List.mem_cons.mp (I2.stkSub b hs) with z | z
      · exact (f2 b hb).2.1 z
      · exact (f2 b hb).2.2.1 z
    funs := I2.stack
    frf := I2.stkFree }
  have I4 : ∀ xe tk, Inv (inner X scope cl hp2.objs.size N' fp s₂ H₂ xe) [] (capt σ cap) (upd H₂ s₂.heap.objs.size (.lst [])) { s₂ with heap := h₁, toks := tk } := fun xe tk => {
    ok := ok' xe
    os := rfl
    bare := I2.bare
    base := Un.laid old (Nat.le_refl _) fresh
    loc := ⟨_, hns₁, fun j y v e1 e2 e3 => by
      obtain ⟨i, ec, es⟩ := capt_get e2
      obtain ⟨a1, a2, a3⟩ := ok.caps e1 ec
      obtain ⟨m, hn, hl⟩ := I2.loc
      obtain ⟨u, r, L⟩ := hl i y v a1 es (.inr a3)
      refine ⟨u, r, .inr ⟨lookup_relabel_free a2, ?_⟩⟩
      rcases L with ⟨k, _⟩ | ⟨_, c, e, z⟩
      · have k' : X.env.scope.names.lookup y = some .local := k
        rcases a3 with a3 | a3 <;> · rw [k'] at a3; cases a3
      · obtain ⟨c', hc'⟩ := hcl2 _ (lookup_mem' a2) rfl
        have : c' = c := by
          have e1 := hcl1 _ _ hc'
          have e1' : X.env.cells.lookup y = some c' := e1
          rw [e1'] at e
          exact Option.some.inj e
        subst this
        obtain ⟨o, ho, hd⟩ := z
        exact ⟨c', hc', o, old _ o ho, hd⟩⟩
    cell := fun x c e => by
      obtain ⟨v, o, ho, hd⟩ := I2.cell x c (hcl1 x c e)
      exact ⟨v, o, old _ o ho, hd⟩
    free := by
      show upd H₂ s₂.heap.objs.size (.lst []) hp2.objs.size = none
      rw [upd_ne (Ne.symm hDC)]
      exact freshC
    freeC := fun x c e => by
      obtain ⟨v, o, ho, hd⟩ := I2.cell x c (hcl1 x c e)
      rw [upd_ne (Nat.ne_of_lt (Heap.lt_size ho))]
      exact I2.freeC x c (hcl1 x c e)
    pin := fun p hp => nomatch hp
    hok := I2.hok.laid old (Nat.le_refl _) ⟨Nat.zero_le _, [], 0, .nil, hacc⟩
    len := by rw [capt_len]; exact ok.len.symm }
  have stat : ∀ {xe : Value → Shared → Prop} {H' : Hp}, (∀ b ∈ fp, H' b = none) → ∀ b ∈ fp, FpOk (inner X scope cl hp2.objs.size N' fp s₂ H₂ xe) [] H' b := fun {xe H'} hn b hb =>
    ⟨hn b hb, ((ok' xe).exf b hb).1, (ok' xe).exfs b hb, .inl hb, ((ok' xe).exf b hb).2, fun p hp => nomatch hp⟩
  have st4 : tn 0 h₁ := T.keep _ _ _ st2 fun b _ o e => old b o e
  have loop : ∀ s₃ : Shared, s₃ = { s₂ with heap := h₁, toks := s₂.toks + ([] : List (Str × Value)).length } →
      codeAny (model X.prog X.w) X.A (.compLoop (.ListComp elt [⟨target, iter, ifs, 0⟩] scope pos) 0 (.ref it) (.ref s₂.heap.objs.size) (compEnvC scope cl hp2.objs.size X.env))
        (RR (.ref s₂.heap.objs.size) hp2.objs.size) s₃ := by
    rintro s₃ rfl
    let xe : Value → Shared → Prop := notedBy (model X.prog X.w) X.A (compEnvC scope cl hp2.objs.size X.env) fun e s' => RR (.ref s₂.heap.objs.size) hp2.objs.size (.error e) s'
    obtain ⟨hg, hif, hel⟩ := hin cl hp2.objs.size fp s₂ H₂ xe
    refine compLoop_go (fun n s' => ∃ i H', Inv (inner X scope cl hp2.objs.size N' fp s₂ H₂ xe) [] (capt σ cap) H' s' ∧ tn i s'.heap ∧ (∀ b ∈ fp, H' b = none) ∧ W i n H') ?_ m0
      ⟨0, _, I4 xe _, st4, fun b hb => by rw [upd_ne (below b (fpb b hb)).2]; exact (f2 b hb).1, w0⟩
    rintro n s3 ⟨i, H3, I3, st3, fr3, w3⟩
    rcases turn i n H3 w3 with ⟨stop, qn⟩ | ⟨go, N, hN, step⟩
    · refine thn (T.done (inner X scope cl hp2.objs.size N' fp s₂ H₂ xe) rfl rfl rfl hc i [] s3 _ H3 xe I3 (stat fr3) st3 stop) fun r s4 ⟨hr, I4'⟩ => ?_
      subst hr
      obtain ⟨m, hm, _⟩ := I4'.loc
      refine fin _ _ H3 s4 (I2.call' I4'.os I4'.base I4'.hok I4'.bare fun b hb => ?_) ⟨m, hm⟩ (I2.fpOk hCle I4'.free) qn
      obtain ⟨_, a1, _, a3, a4, a5⟩ := f2 b hb
      exact ⟨a3, a1, a4, a5⟩
    · refine thn (T.item (inner X scope cl hp2.objs.size N' fp s₂ H₂ xe) rfl rfl rfl hc i [] s3 _ H3 xe I3 (stat fr3) st3 go) fun r s4 ⟨u, hr, h4⟩ => ?_
      subst hr
      refine thn h4 fun _ s5 ⟨x, H5, I5, r5, y5, st5, fr5⟩ => ?_
      have I5' := I5.pinned (stat fr5) (T.obj _ _ st5)
      have again : ∀ {σ7 : St} {H7 : Hp} {s7 : Shared}, Inv (inner X scope cl hp2.objs.size N' fp s₂ H₂ xe) ([] ++ pinsAt fp s5.heap) σ7 H7 s7 → (σ7.length = (capt σ cap).length ∧ ∀ j i, cap[j]? = some (some i) → σ7[j]? = (capt σ cap)[j]?) → N H7 →
          ∃ m, m < n ∧ ∃ i H', Inv (inner X scope cl hp2.objs.size N' fp s₂ H₂ xe) [] (capt σ cap) H' s7 ∧ tn i s7.heap ∧ (∀ b ∈ fp, H' b = none) ∧ W i m H' := fun {σ7 H7 s7} I7 k7 n7 => by
        obtain ⟨m', hm, w7⟩ := hN H7 n7
        refine ⟨m', hm, i + 1, H7, I7.unpinned.weak k7.1.symm (fun j v e => ?_), T.keep _ _ _ st5 fun b hb o e => (I7.pin (b, o) (List.mem_append_right _ (List.mem_append_right _ (mem_pinsAt hb e)))).1, fun b hb => ?_, w7⟩
        · obtain ⟨i', ec, _⟩ := capt_get e
          rw [k7.2 j i' ec]
          exact e
        · obtain ⟨o, e, d⟩ := T.obj _ _ st5 b hb
          exact (I7.pin (b, o) (List.mem_append_right _ (List.mem_append_right _ (mem_pinsAt hb e)))).2.1
      refine thn (hg _ s5 _ H5 x u _ I5' r5 (hk _ _ _ _ (step x H5 y5))) fun _ s6 ⟨σ6, H6, I6, q6, k6⟩ => ?_
      refine thn (hif _ s6 σ6 H6 _ I6 q6) fun b s7 ⟨H7, I7, q7⟩ => ?_
      cases b with
      | false =>
        rw [if_neg Bool.false_ne_true] at q7 ⊢
        exact again I7 k6 q7
      | true =>
        rw [if_pos rfl] at q7 ⊢
        refine thn (hel _ s7 σ6 H7 _ I7 q7) fun v s8 ⟨y, H8, I8, r8, ys, hD, hz, q8⟩ => ?_
        exact thn (mt_append _ s8 σ6 H8 (.ref s₂.heap.objs.size) [y] (.ref s₂.heap.objs.size) [v] (fun _ H9 => N H9) I8 rfl (.cons r8 .nil) ⟨_, ys, y, rfl, rfl, hD, hz, q8⟩) fun _ s9 ⟨_, H9, I9, _, n9⟩ => again I9 k6 n9
  exact codeAny_compStart_list (loop _ rfl) (T.self _ 0 _ _ _ st4 (loop _ rfl))

/-- [elt for target in iter if ..] as a value -/
theorem pe_comp {wi : TI} (hc : X.calm = true) (ok : CompOk X scope N' cap) (hi : PI X target iter wi)
    (hin : ∀ (cl : List (Str × Addr)) (C : Addr) (fp : List Addr) (s₂ : Shared) (H₂ : Hp) (xe : Value → Shared → Prop), PG (inner X scope cl C N' fp s₂ H₂ xe) target g ∧ PIfs (inner X scope cl C N' fp s₂ H₂ xe) ifs tt ∧ PE (inner X scope cl C N' fp s₂ H₂ xe) elt te)
    (hk : KeepsCap cap g) (hs : ∀ x, foldedSetIterable iter X.env x = pure x := by intro _; rfl) :
    PE X (.ListComp elt [⟨target, iter, ifs, 0⟩] scope pos) (tComp cap wi g tt te) := by
  intro pins s σ H Q I h
  obtain ⟨cl, hcl, c1, c2⟩ := closureFor_has (scope := scope) (env := X.env) fun x hx hf => I.ok.has x.1 (ok.outs x hx hf)
  rw [eval_ListComp]
  refine wpAny_comprehension_free (use := none) rfl hs hcl ok.kind ok.locs ?_
  refine thn (hi pins s σ H _ I h) fun v s1 h1 => thn h1 fun itv s2 h2 => ?_
  obtain ⟨it, fp, tn, J, H2, e, I2, T, st2, f2, q⟩ := h2
  subst e
  refine comp_block (RR := compPost (model X.prog X.w) X.A X.xe none (EP X pins σ Q)) hc ok c1 c2 I2 T st2 f2 hin hk q ?_
  intro D C H' s' I' hm hC q'
  obtain ⟨m, hm⟩ := hm
  refine ⟨m, hm, fun h' hs' => ⟨.ref D, H', ?_, rfl, q'⟩⟩
  obtain ⟨a0, a1, _, a3, a4, a5⟩ := hC
  exact I'.turned (t' := s'.toks) (fun b o hb e => (hs'.2 b hb).trans e) a0 a1 a3 a4 a5
end
end L2

/-! ## data as trees, ==, isinstance, all, zip, // by great numbers -/
namespace L2
open PySem PySem.Spec PyProof.Rows

/-! ### a value stands for a tree of data in an abstract heap -/
mutual
inductive Rep (G : Hp) : V → PyData → Prop
  | non : Rep G .non .none
  | bl (b : Bool) : Rep G (.bl b) (.bool b)
  | int (i : Int) : Rep G (.int i) (.int i)
  | str (x : Str) : Rep G (.str x) (.str x)
  | lst {a : Addr} {xs : List V} {ds : List PyData} : G a = some (.lst xs) → Reps G xs ds → Rep G (.ref a) (.list ds)
  | tup {a : Addr} {xs : List V} {ds : List PyData} : G a = some (.tup xs) → Reps G xs ds → Rep G (.ref a) (.tuple ds)
  | dct {a : Addr} {kvs : List (Key × V)} : G a = some (.dK kvs) → Rep G (.ref a) (.dict [])
inductive Reps (G : Hp) : List V → List PyData → Prop
  | nil : Reps G [] []
  | cons {v : V} {vs : List V} {d : PyData} {ds : List PyData} : Rep G v d → Reps G vs ds → Reps G (v :: vs) (d :: ds)
end
mutual
theorem Rep.mono {G G' : Hp} (s : Same G G') : ∀ {v : V} {d : PyData}, Rep G v d → Rep G' v d
  | _, _, .non => .non
  | _, _, .bl b => .bl b
  | _, _, .int i => .int i
  | _, _, .str x => .str x
  | _, _, .lst e r => .lst (s _ _ e) (Reps.mono s r)
  | _, _, .tup e r => .tup (s _ _ e) (Reps.mono s r)
  | _, _, .dct e => .dct (s _ _ e)
theorem Reps.mono {G G' : Hp} (s : Same G G') : ∀ {v : List V} {d : List PyData}, Reps G v d → Reps G' v d
  | _, _, .nil => .nil
  | _, _, .cons h t => .cons (Rep.mono s h) (Reps.mono s t)
end
theorem Reps.length {G : Hp} : ∀ {vs : List V} {ds : List PyData}, Reps G vs ds → vs.length = ds.length
  | _, _, .nil => rfl
  | _, _, .cons _ t => by rw [List.length_cons, List.length_cons, Reps.length t]
theorem Reps.get {G : Hp} : ∀ {vs : List V} {ds : List PyData} {i : Nat} {v : V}, Reps G vs ds → vs[i]? = some v → ∃ d, ds[i]? = some d ∧ Rep G v d
  | _, _, _, _, .nil, h => by simp at h
  | _, _, 0, _, .cons r _, h => by simp at h; subst h; exact ⟨_, rfl, r⟩
  | _, _, i + 1, v, .cons _ t, h => by
    obtain ⟨d, e, r⟩ := Reps.get (i := i) (v := v) t (by simpa using h)
    exact ⟨d, by simpa using e, r⟩
theorem Reps.append {G : Hp} : ∀ {vs ws : List V} {ds es : List PyData}, Reps G vs ds → Reps G ws es → Reps G (vs ++ ws) (ds ++ es)
  | _, _, _, _, .nil, s => s
  | _, _, _, _, .cons r t, s => .cons r (Reps.append t s)
theorem Reps.snoc {G : Hp} {vs : List V} {v : V} {ds : List PyData} {d : PyData} (h : Reps G vs ds) (r : Rep G v d) : Reps G (vs ++ [v]) (ds ++ [d]) := h.append (.cons r .nil)
mutual
theorem Rep.reads {P : Program} {w : World} {H : Hp} {h : Heap} (ok : HOk P w H h) : ∀ {v : V} {d : PyData} {u : Value}, Rep H v d → d.canLay0 = true → RelV v u → ∃ as, Reads h u d as
  | _, _, _, .non, _, r => by cases r; exact ⟨_, .none⟩
  | _, _, _, .bl b, _, r => by cases r; exact ⟨_, .bool b⟩
  | _, _, _, .int i, _, r => by obtain ⟨t, rfl⟩ := r; exact ⟨_, .int i t⟩
  | _, _, _, .str x, _, r => by obtain ⟨t, rfl⟩ := r; exact ⟨_, .str x t⟩
  | _, .list ds, _, .lst (a := a) (xs := xs) e q, c, r => by
    cases r
    obtain ⟨_, its, n, rv, g⟩ := (show ObjOk P w H h a (.lst xs) from ok a _ e)
    obtain ⟨as, ra⟩ := Reps.reads ok q (by simpa [PyData.canLay0] using c) rv
    exact ⟨_, .list g rfl rfl (by simpa using ra)⟩
  | _, .tuple ds, _, .tup (a := a) (xs := xs) e q, c, r => by
    cases r
    obtain ⟨_, its, rv, o, g, hc, n, hd⟩ := (show ObjOk P w H h a (.tup xs) from ok a _ e)
    obtain ⟨as, ra⟩ := Reps.reads ok q (by simpa [PyData.canLay0] using c) rv
    exact ⟨_, .tuple g hc hd (by simpa using ra)⟩
  | _, _, _, .dct e, c, r => by simp [PyData.canLay0] at c
theorem Reps.reads {P : Program} {w : World} {H : Hp} {h : Heap} (ok : HOk P w H h) : ∀ {vs : List V} {ds : List PyData} {us : List Value}, Reps H vs ds → PyData.canLayAll0 ds = true → Vals vs us → ∃ as, ReadsAll h us ds as
  | _, _, _, .nil, _, .nil => ⟨_, .nil⟩
  | _, _, _, .cons r t, c, .cons rv rt => by
    have c' := c
    rw [PyData.canLayAll0, Bool.and_eq_true] at c'
    obtain ⟨as, ra⟩ := Rep.reads ok r c'.1 rv
    obtain ⟨bs, rb⟩ := Reps.reads ok t c'.2 rt
    exact ⟨_, .cons ra rb⟩
end

section
variable {X : Cx}
/-- == of two trees -/
def rEqD : R2 := fun x y H Q => ∃ d e, Rep H x d ∧ Rep H y e ∧ SeqAt.shaped d = true ∧ SeqAt.shaped e = true ∧ Q (.bl (PyData.eqv d e)) H
def rNeD : R2 := fun x y H Q => ∃ d e, Rep H x d ∧ Rep H y e ∧ SeqAt.shaped d = true ∧ SeqAt.shaped e = true ∧ Q (.bl (!PyData.eqv d e)) H
theorem op_eqD {k : Nat} (hr : Room k X.A) : OpR X (compareOp .Eq) rEqD := by
  intro pins s σ H x y v u Q I rx ry ⟨d, e, rd, re, sd, se, q⟩
  obtain ⟨as, ra⟩ := rd.reads I.hok (SeqAt.canLay_of_shaped sd) rx
  obtain ⟨bs, rb⟩ := re.reads I.hok (SeqAt.canLay_of_shaped se) ry
  exact eq_dataH ra rb sd se hr.units ⟨.bl _, H, I, rfl, q⟩
theorem op_neD {k : Nat} (hr : Room k X.A) : OpR X (compareOp .NotEq) rNeD := by
  intro pins s σ H x y v u Q I rx ry ⟨d, e, rd, re, sd, se, q⟩
  obtain ⟨as, ra⟩ := rd.reads I.hok (SeqAt.canLay_of_shaped sd) rx
  obtain ⟨bs, rb⟩ := re.reads I.hok (SeqAt.canLay_of_shaped se) ry
  exact ne_dataH ra rb sd se hr.units ⟨.bl _, H, I, rfl, q⟩

/-! ### // by any positive number of at most 8000 bits -/
def CDivB (_ j : Int) : Prop := 0 < j ∧ j.natAbs.log2 < 9000
theorem op_fdivB : OpR X (binaryOp .FloorDiv) (rI CDivB fun i j => .int (i / j)) := opI fun i j _ _ _ _ _ hc q => by
  have h0 : (0 : Int) ≤ j := Int.le_of_lt hc.1
  refine floordiv_int (Int.ne_of_gt hc.1) ?_ (.inl (PyProof.noPylong_of_log2 hc.2))
  rw [Int.fdiv_eq_ediv_of_nonneg _ h0]
  exact q

/-! ### isinstance(x, T), T a built-in class -/
def tyD (H : Hp) : V → Option String
  | .non => some "NoneType"
  | .bl _ => some "bool"
  | .int _ => some "int"
  | .str _ => some "str"
  | .ref a => match H a with
    | some (.lst _) => some "list"
    | some (.frz _ (.lst _)) => some "list"
    | some (.tup _) => some "tuple"
    | some (.dK _) => some "dict"
    | _ => none
  | _ => none
def isB (t T : String) : Bool := t == T || (t == "bool" && T == "int")
theorem tyD_of {K : PySem.W.Frag} {H : Hp} {x : V} {t : String} (h : tyD H x = some t) : TyOf K H x (.type t) ∧ t ∈ ["NoneType", "bool", "int", "str", "list", "tuple", "dict"] := by
  cases x with
  | non => cases h; exact ⟨.non, by decide⟩
  | bl b => cases h; exact ⟨.bl b, by decide⟩
  | int i => cases h; exact ⟨.int i, by decide⟩
  | str y => cases h; exact ⟨.str y, by decide⟩
  | ref a =>
    unfold tyD at h
    cases e : H a with
    | none => simp [e] at h
    | some o =>
      cases o with
      | lst xs => simp [e] at h; subst h; exact ⟨.lst e, by decide⟩
      | tup xs => simp [e] at h; subst h; exact ⟨.tup e, by decide⟩
      | dK kvs => simp [e] at h; subst h; exact ⟨.dK e, by decide⟩
      | frz o u =>
        cases u with
        | lst xs => simp [e] at h; subst h; exact ⟨.frz e, by decide⟩
        | _ => simp [e] at h
      | _ => simp [e] at h
  | byt b => cases h
  | flt b => cases h
  | ty n => cases h
theorem kit_pair {K : PySem.W.Frag} {t T : String} (ht : t ∈ ["NoneType", "bool", "int", "str", "list", "tuple", "dict"]) (hT : T ∈ ["int", "bool", "list", "tuple", "str", "dict"]) : PySem.W.kitOne K (.type t) (.type T) = some (isB t T) := by
  have e : PySem.W.kitOne K (.type t) (.type T) = (if (Value.type t == Value.type T) = true then some true else if PySem.W.kitMeta T = true then (fastBuiltinMro t).map (·.contains (.type T)) else none) := rfl
  rw [e]
  have all : ∀ t ∈ ["NoneType", "bool", "int", "str", "list", "tuple", "dict"], ∀ T ∈ ["int", "bool", "list", "tuple", "str", "dict"],
      (if (Value.type t == Value.type T) = true then some true else if PySem.W.kitMeta T = true then (fastBuiltinMro t).map (·.contains (.type T)) else none) = some (isB t T) := by decide +kernel
  exact all t ht T hT
def rIsi : List V → Hp → VK → Prop := fun xs H Q => ∃ x t T, xs = [x, .ty T] ∧ T ∈ ["int", "bool", "list", "tuple", "str", "dict"] ∧ tyD H x = some t ∧ Q (.bl (isB t T)) H
theorem call_isi : CallR X (.builtin "isinstance") rIsi := by
  intro pins s σ H xs us Q I rv ⟨x, t, T, e, hT, ht, q⟩
  subst e
  obtain ⟨u, v, rfl, ru, rv⟩ := rv.two
  cases (show v = Value.type T from rv)
  obtain ⟨ty, hm⟩ := tyD_of (K := X.K) ht
  exact isinst_ok I ru ty (kit_pair hm hT) fun tk => ⟨.bl _, H, I.tok tk, rfl, q⟩

/-! ### all(..) of a list of bools -/
theorem call_all (hc : X.calm = true) : CallR X (.builtin "all") (fun xs H Q => ∃ (p : Addr) (bs : List Bool), xs = [.ref p] ∧ SqL X.K H p (bs.map V.bl) ∧ Q (.bl (bs.all id)) H) := by
  intro pins s σ H xs us Q I rv ⟨p, bs, e, hq, q⟩
  subst e
  obtain ⟨u, rfl, ru⟩ := rv.one
  cases ru
  obtain ⟨its, r, pl, hz⟩ := I.list hq
  refine call_all_walk (wpAny_pyIter_list pl.isList ?_)
  have hp : p ≠ s.heap.objs.size := by
    obtain ⟨_, ho, _⟩ := pl.isList
    exact Nat.ne_of_lt (Heap.lt_size ho)
  refine ⟨s.heap.objs.size, _, _, _, _, _, fun i => bs.getD i true, rfl, Walks.list (A := X.A.in1) (I.ok.hd hc) s.heap.objs.size p hp its.toArray, ⟨⟨_, Heap.get?_push_size _ rfl, rfl, rfl⟩, pl.isList.push _⟩, ?_, fun h' tk hk => ?_⟩
  · intro i v s' Q' E' hi hQ
    have hi' : its[i]? = some v := by simpa using hi
    have hl := r.length
    have hib : i < bs.length := by
      have := (List.getElem?_eq_some_iff.mp hi').1
      rw [List.length_map] at hl
      omega
    obtain ⟨u', e', r'⟩ := r.get (i := i) (x := .bl bs[i]) (by rw [List.getElem?_map, List.getElem?_eq_getElem hib] <;> rfl)
    rw [hi'] at e'
    cases e'
    cases r'
    refine wpAny_truthy_bool ?_
    have : bs.getD i true = bs[i] := by rw [List.getD_eq_getElem?_getD, List.getElem?_eq_getElem hib]; rfl
    have hQ' : Q' (bs.getD i true) s' := hQ
    rw [this] at hQ'
    exact hQ'
  · have hl := r.length
    rw [List.length_map] at hl
    have e : ((List.range its.toArray.size).all fun i => bs.getD i true) = bs.all id := by
      rw [List.size_toArray, ← hl]
      clear hl q r hk hq pl hz
      induction bs with
      | nil => rfl
      | cons b r ih =>
        rw [List.length_cons, List.range_succ_eq_map, List.all_cons, List.all_map, List.all_cons]
        have : ((fun i => (b :: r).getD i true) ∘ Nat.succ) = fun i => r.getD i true := by
          funext i; simp
        rw [this, ih]
        rfl
    rw [e]
    refine ⟨.bl _, H, I.kept (t' := tk) fun b o ho => hk b o ?_ (Heap.get?_push_of_some _ ho), rfl, q⟩
    intro hb
    have : b = s.heap.objs.size := by simpa using hb
    exact absurd (Heap.lt_size ho) (by rw [this]; exact Nat.lt_irrefl _)

/-! ### several records turn at once, and a new object is laid -/
theorem Inv.turnedL {pins : List (Addr × Obj)} {σ : St} {H : Hp} {s : Shared} {h' : Heap} {t' : Nat} {ch : List Addr} {a : Addr} {o : HO} (I : Inv X pins σ H s) (hch : ∀ b ∈ ch, FpOk X pins H b)
    (k : ∀ b ob, b ∉ ch → s.heap.get? b = some ob → h'.get? b = some ob) (ha : s.heap.objs.size ≤ a) (new : ObjOk X.prog X.w (upd H a o) h' a o) : Inv X pins σ (upd H a o) { s with heap := h', toks := t' } := by
  have hn : H a = none := I.hok.fresh ha
  have nch : ∀ b u, H b = some u → b ∉ ch := fun b u e hb => by rw [(hch b hb).1] at e; cases e
  have lt : ∀ b ob, s.heap.get? b = some ob → b ≠ a := fun b ob e => Nat.ne_of_lt (Nat.lt_of_lt_of_le (Heap.lt_size e) ha)
  refine I.step (g' := s.gens) (d' := s.drawn) (ch := ch) (fun b hb => ?_) (fun b ob _ _ hc e _ => k b ob hc e) (fun b ob _ _ hc e _ => ⟨ob.slots, k b ob hc e⟩) (fun b ob _ e n => by rw [upd_ne (lt b ob e)]; exact n)
    (fun b ob hc e => ⟨ob, k b ob hc e⟩) (fun b xs e => by rw [upd_ne (ne_of_none e hn)]; exact e) (fun b ob u e => by rw [upd_ne (ne_of_none e hn)]; exact e) (fun b ps e => ⟨#[], by rw [upd_ne (ne_of_none e hn), e]; simp⟩) (fun m hm => ?_) (fun b u e => ?_) I.bare
  · obtain ⟨_, a1, _, a3, a4, a5⟩ := hch b hb
    exact ⟨a3, a1, a4, a5⟩
  · obtain ⟨ob, es, ep, ho, r⟩ := hm
    exact ⟨ob, es, ep, k _ ob (fun hb => (hch _ hb).2.1 rfl) ho, r⟩
  · by_cases hb : b = a
    · subst hb; rw [upd_same] at e; cases e; exact new
    · rw [upd_ne hb] at e
      refine (I.hok b u e).stay (fun c v hc q => k c v ?_ q) (fun c q => by rw [upd_ne (ne_of_none q hn)]; exact q) fun c xs q => by rw [upd_ne (ne_of_none q hn)]; exact q
      rcases hc with rfl | hc
      · exact nch _ _ e
      · exact nch _ _ hc
theorem Inv.turnedL0 {pins : List (Addr × Obj)} {σ : St} {H : Hp} {s : Shared} {h' : Heap} {t' : Nat} {ch : List Addr} (I : Inv X pins σ H s) (hch : ∀ b ∈ ch, FpOk X pins H b)
    (k : ∀ b ob, b ∉ ch → s.heap.get? b = some ob → h'.get? b = some ob) : Inv X pins σ H { s with heap := h', toks := t' } := by
  have nch : ∀ b u, H b = some u → b ∉ ch := fun b u e hb => by rw [(hch b hb).1] at e; cases e
  refine I.step (g' := s.gens) (d' := s.drawn) (ch := ch) (fun b hb => ?_) (fun b ob _ _ hc e _ => k b ob hc e) (fun b ob _ _ hc e _ => ⟨ob.slots, k b ob hc e⟩) (fun b ob _ e n => n)
    (fun b ob hc e => ⟨ob, k b ob hc e⟩) (fun b xs e => e) (fun b ob u e => e) (fun b ps e => ⟨#[], by rw [e]; simp⟩) (fun m hm => ?_) (fun b u e => ?_) I.bare
  · obtain ⟨_, a1, _, a3, a4, a5⟩ := hch b hb
    exact ⟨a3, a1, a4, a5⟩
  · obtain ⟨ob, es, ep, ho, r⟩ := hm
    exact ⟨ob, es, ep, k _ ob (fun hb => (hch _ hb).2.1 rfl) ho, r⟩
  · refine (I.hok b u e).stay (fun c v hc q => k c v ?_ q) (fun c q => q) fun c xs q => q
    rcases hc with rfl | hc
    · exact nch _ _ e
    · exact nch _ _ hc

/-! ### zip of two lists, walked with a tuple of names -/
def Itz (K : PySem.W.Frag) (a b : Addr) : It :=
  ⟨fun i H => ∃ xs ys x y, SqL K H a xs ∧ SqL K H b ys ∧ xs[i]? = some x ∧ ys[i]? = some y,
   fun i H v H' => ∃ T x y, H T = none ∧ v = .ref T ∧ H' = upd H T (.tup [x, y]) ∧ (∀ xs, SqL K H a xs → xs[i]? = some x) ∧ (∀ ys, SqL K H b ys → ys[i]? = some y),
   fun i H => ∃ xs ys, SqL K H a xs ∧ SqL K H b ys ∧ (xs.length ≤ i ∨ ys.length ≤ i)⟩
structure Zip5 (z TI TO i1 i2 : Addr) : Prop where
  TIz : TI ≠ z
  TOz : TO ≠ z
  i1z : i1 ≠ z
  i2z : i2 ≠ z
  TITO : TI ≠ TO
  TIi1 : TI ≠ i1
  TIi2 : TI ≠ i2
  TOi1 : TO ≠ i1
  TOi2 : TO ≠ i2
  i12 : i1 ≠ i2
def ZipAt (z TI TO i1 i2 a b : Addr) (i : Nat) (h : Heap) : Prop := IsZip h z TI TO .none ∧ IsPair h TI (.ref i1) (.ref i2) ∧ (∃ u v, IsPair h TO u v) ∧ h.IsListIter i1 a i ∧ h.IsListIter i2 b i
theorem ne_cls {h : Heap} {a b : Addr} {o o' : Obj} (e : h.get? a = some o) (e' : h.get? b = some o') (d : o.cls ≠ o'.cls) : a ≠ b := by
  rintro rfl
  rw [e] at e'
  cases e'
  exact d rfl
theorem ZipAt.apart {z TI TO i1 i2 a b : Addr} {i : Nat} {h : Heap} {xs ys : Array Value} (D : Zip5 z TI TO i1 i2) (st : ZipAt z TI TO i1 i2 a b i h) (ha : h.IsList a xs) (hb : h.IsList b ys) : ZipApart z TI TO i1 i2 a b := by
  obtain ⟨hz, _, ⟨u, v, hTO⟩, ⟨o1, h1, c1, _⟩, ⟨o2, h2, c2, _⟩⟩ := st
  obtain ⟨oa, ga, ca, _⟩ := ha
  obtain ⟨ob, gb, cb, _⟩ := hb
  exact ⟨D.TIz, D.TOz, D.i1z, D.i2z, D.TITO, D.TIi1, D.TIi2, D.TOi1, D.TOi2, D.i12,
    ne_cls ga hz (by rw [ca]; show Value.type "list" ≠ Value.type "zip"; decide), ne_cls ga hTO (by rw [ca]; show Value.type "list" ≠ Value.type "tuple"; decide), ne_cls ga h1 (by rw [ca, c1]; decide), ne_cls ga h2 (by rw [ca, c2]; decide),
    ne_cls gb hz (by rw [cb]; show Value.type "list" ≠ Value.type "zip"; decide), ne_cls gb hTO (by rw [cb]; show Value.type "list" ≠ Value.type "tuple"; decide), ne_cls gb h1 (by rw [cb, c1]; decide), ne_cls gb h2 (by rw [cb, c2]; decide)⟩
theorem turn_zip {P : Program} {w : World} {K : PySem.W.Frag} {elts : List Expr} {k : Nat} {tpos : Pos} {z TI TO i1 i2 a b : Addr} (D : Zip5 z TI TO i1 i2) :
    Turn P w K (.Tuple elts k tpos) (Itz K a b) [z, TI, TO, i1, i2] z (ZipAt z TI TO i1 i2 a b) where
  mem := by simp
  obj := fun i h st c hc => by
    obtain ⟨hz, hTI, ⟨u, v, hTO⟩, ⟨o1, h1, c1, d1⟩, ⟨o2, h2, c2, d2⟩⟩ := st
    have hc' : c = z ∨ c = TI ∨ c = TO ∨ c = i1 ∨ c = i2 := by simpa using hc
    rcases hc' with rfl | rfl | rfl | rfl | rfl
    · exact ⟨_, hz, fun v q => by cases q⟩
    · exact ⟨_, hTI, fun v q => by cases q⟩
    · exact ⟨_, hTO, fun v q => by cases q⟩
    · exact ⟨_, h1, fun v q => by rw [d1] at q; cases q⟩
    · exact ⟨_, h2, fun v q => by rw [d2] at q; cases q⟩
  keep := fun i h h' st k => by
    obtain ⟨hz, hTI, ⟨u, v, hTO⟩, h1, h2⟩ := st
    exact ⟨k z (by simp) _ hz, k TI (by simp) _ hTI, ⟨u, v, k TO (by simp) _ hTO⟩, h1.at fun o e => k i1 (by simp) o e, h2.at fun o e => k i2 (by simp) o e⟩
  item := by
    intro X hP hw hK hc i pins s σ H E I hf st hg
    subst hP hw hK
    obtain ⟨xs, ys, x, y, qa, qb, hx, hy⟩ := hg
    obtain ⟨ia, ra, pa, za⟩ := I.list qa
    obtain ⟨ib, rb, pb, zb⟩ := I.list qb
    obtain ⟨u, hu, ru⟩ := ra.get hx
    obtain ⟨v, hv, rv⟩ := rb.get hy
    have AP := st.apart D pa.isList pb.isList
    obtain ⟨hz, hTI, ⟨u0, v0, hTO⟩, h1, h2⟩ := st
    refine wpAny_pyNext_zip_item AP hz hTI hTO h1 h2 pa.isList pb.isList (x := u) (y := v) (by simpa using hu) (by simpa using hv) fun h' a1 a2 a3 a4 a5 a6 a7 => ⟨_, rfl, ?_⟩
    refine wpAny_letOwnedTupleGo_zip a1 fun h'' b1 b2 => ?_
    have b2' : Heap.SameBut z h' h'' := b2
    have hTz : s.heap.objs.size ≠ z := Nat.ne_of_gt (Heap.lt_size hz)
    have kk : ∀ c o, c ∉ [z, TI, TO, i1, i2] → s.heap.get? c = some o → h''.get? c = some o := fun c o hc e => by
      have hc' : ¬ (c = z ∨ c = TI ∨ c = TO ∨ c = i1 ∨ c = i2) := fun q => hc (by simpa using q)
      exact b2'.extBut c o (fun q => hc' (.inl q)) (a7 c o (fun q => hc' (.inl q)) (fun q => hc' (.inr (.inr (.inl q)))) (fun q => hc' (.inr (.inr (.inr (.inl q))))) (fun q => hc' (.inr (.inr (.inr (.inr q))))) e)
    have hT : h''.get? s.heap.objs.size = some { cls := .type "tuple", data := .seq #[u, v] } := b2'.extBut _ _ hTz a5
    refine ⟨.ref s.heap.objs.size, upd H s.heap.objs.size (.tup [x, y]), I.turnedL (t' := s.toks) (ch := [z, TI, TO, i1, i2]) hf kk (Nat.le_refl _) ?_, rfl, ?_, ?_, fun c hc => ?_⟩
    · exact ⟨by show 2 ≤ sizeLine; decide, [u, v], .cons ru (.cons rv .nil), _, hT, rfl, _, rfl⟩
    · exact ⟨_, x, y, I.fresh, rfl, rfl, fun xs' q => by rw [I.list_inj q qa]; exact hx, fun ys' q => by rw [I.list_inj q qb]; exact hy⟩
    · have kz : ∀ c o, c ≠ z → h'.get? c = some o → h''.get? c = some o := fun c o n e => b2'.extBut c o n e
      refine ⟨b1, kz _ _ D.TIz (a7 _ _ D.TIz D.TITO D.TIi1 D.TIi2 hTI), ⟨u, v, kz _ _ D.TOz a2⟩, a3.at fun o e => kz _ o D.i1z e, a4.at fun o e => kz _ o D.i2z e⟩
    · have hlt : c < s.heap.objs.size := by
        have hc' : c = z ∨ c = TI ∨ c = TO ∨ c = i1 ∨ c = i2 := by simpa using hc
        obtain ⟨o1, g1, _⟩ := h1
        obtain ⟨o2, g2, _⟩ := h2
        rcases hc' with rfl | rfl | rfl | rfl | rfl
        · exact Heap.lt_size hz
        · exact Heap.lt_size hTI
        · exact Heap.lt_size hTO
        · exact Heap.lt_size g1
        · exact Heap.lt_size g2
      rw [upd_ne (Nat.ne_of_lt hlt)]
      exact (hf c hc).1
  done := by
    intro X hP hw hK hc i pins s σ H E I hf st hg
    subst hP hw hK
    obtain ⟨xs, ys, qa, qb, hx⟩ := hg
    obtain ⟨ia, ra, pa, za⟩ := I.list qa
    obtain ⟨ib, rb, pb, zb⟩ := I.list qb
    have AP := st.apart D pa.isList pb.isList
    obtain ⟨hz, hTI, ⟨u0, v0, hTO⟩, h1, h2⟩ := st
    have la := ra.length
    have lb := rb.length
    refine wpAny_pyNext_zip_end (I.ok.hd hc) AP hz hTI hTO h1 h2 pa.isList pb.isList ?_ fun h' kk => ⟨rfl, I.turnedL0 (t' := s.toks) (ch := [z, TI, TO, i1, i2]) hf fun c o hc e => ?_⟩
    · rcases hx with q | q
      · exact .inl (by simp; omega)
      · exact .inr (by simp; omega)
    · have hc' : ¬ (c = z ∨ c = TI ∨ c = TO ∨ c = i1 ∨ c = i2) := fun q => hc (by simpa using q)
      exact kk c o (fun q => hc' (.inl q)) (fun q => hc' (.inr (.inr (.inl q)))) (fun q => hc' (.inr (.inr (.inr (.inl q))))) (fun q => hc' (.inr (.inr (.inr (.inr q))))) e
  self := fun _ _ _ _ _ st h => wpAny_pyIter_zip st.1 h
def iZip (K : PySem.W.Frag) (ta : TA) : TI := fun σ H R => ta σ H fun vs H1 => ∃ a b, vs = [.ref a, .ref b] ∧ (∃ xs, SqL K H1 a xs) ∧ (∃ ys, SqL K H1 b ys) ∧ R (Itz K a b) H1
theorem pi_zip {a b : Expr} {ta : TA} {p pos : Pos} {elts : List Expr} {k : Nat} {tpos : Pos} (hg : Gl X "zip") (hm : X.mg "zip" = none) (ha : PA X [a, b] ta) (hs : starEach [a, b] X.env = [(false, eval a X.env), (false, eval b X.env)] := by rfl) (hs2 : starEach [b] X.env = [(false, eval b X.env)] := by rfl) :
    PI X (.Tuple elts k tpos) (.Call (.Name "zip" p) [a, b] [] pos) (iZip X.K ta) := by
  intro pins s σ H R I h
  refine Call_ (ld_blt I hg hm boot_zip (PyProof.Rows.callWith_type1 (thn (ha pos pins s σ H _ I h) fun us s1 ⟨vs, H1, I1, r1, q1⟩ => ?_) (by rw [hs, hs2]) (by rw [hs2]; rfl)))
  obtain ⟨x, y, e, ⟨xs, qa⟩, ⟨ys, qb⟩, q⟩ := q1
  subst e
  obtain ⟨u, v, rfl, ru, rv⟩ := r1.two
  cases ru
  cases rv
  obtain ⟨ia, ra, pa, za⟩ := I1.list qa
  obtain ⟨ib, rb, pb, zb⟩ := I1.list qb
  refine call_zip_2 pa.isList pb.isList fun h' b1 b2 b3 b4 b5 b6 b7 => ?_
  refine wpAny_pyIter_zip b1 ?_
  have I2 : Inv X pins σ H1 { s1 with heap := h' } := I1.kept (t' := s1.toks) b7
  have f : ∀ c, s1.heap.objs.size ≤ c → FpOk X pins H1 c := fun c hc => I1.fpOk hc (I1.hok.fresh hc)
  refine ⟨_, _, _, _, H1, rfl, I2, turn_zip (a := x) (b := y) (z := s1.heap.objs.size + 4) (TI := s1.heap.objs.size + 2) (TO := s1.heap.objs.size + 3) (i1 := s1.heap.objs.size) (i2 := s1.heap.objs.size + 1) ?_, ⟨b1, b2, ⟨_, _, b3⟩, b4, b5⟩, fun c hc => ?_, q⟩
  · have ne : ∀ i j : Nat, i ≠ j → (s1.heap.objs.size + i : Nat) ≠ s1.heap.objs.size + j := fun i j h => by omega
    exact ⟨ne 2 4 (by decide), ne 3 4 (by decide), ne 0 4 (by decide), ne 1 4 (by decide), ne 2 3 (by decide), ne 2 0 (by decide), ne 2 1 (by decide), ne 3 0 (by decide), ne 3 1 (by decide), ne 0 1 (by decide)⟩
  · have hc' : c = s1.heap.objs.size + 4 ∨ c = s1.heap.objs.size + 2 ∨ c = s1.heap.objs.size + 3 ∨ c = s1.heap.objs.size ∨ c = s1.heap.objs.size + 1 := by simpa using hc
    rcases hc' with rfl | rfl | rfl | rfl | rfl
    · exact f _ (Nat.le_add_right _ _)
    · exact f _ (Nat.le_add_right _ _)
    · exact f _ (Nat.le_add_right _ _)
    · exact f _ (Nat.le_refl _)
    · exact f _ (Nat.le_add_right _ _)
end
end L2

/-! ## what the readings use: calls by a bundle, comprehensions that are stored, loops over zip, accumulators -/
namespace L2
open PySem PySem.Spec PyProof.Rows

/-- a def of the text with its promise -/
def Def (P : Program) (w : World) (K : PySem.W.Frag) (mg : Str → Option Value) (base : Heap) (x : Str) (k : Nat) (ps : List Str) (sp : Sp) : Prop :=
  ∃ f fd, FnOk P w K mg base CX0 k f fd ps sp ∧ mg x = some (.ref f) ∧ PySem.W.keepIn K (.ref f) = true ∧ Binds K fd ps []
section
variable {X : Cx} {x : Str} {k k' : Nat} {ps : List Str} {sp : Sp} {e : Expr} {es : List Expr} {t : TA} {p pos : Pos}
theorem pe_callD (D : Def X.prog X.w X.K X.mg X.base x k ps sp) (hr : Room k' X.A) (hg : Gl X x) (ha : PA X (e :: es) t) (hk : k ≤ k' := by decide) (hdb : (x == ("__debug__" : Str)) = false := by decide)
    (he : starEach (e :: es) X.env = (false, eval e X.env) :: starEach es X.env := by rfl) (hpl : (backTo pos (starEach es X.env)).any (·.1) = false := by rfl) :
    PE X (.Call (.Name x p) (e :: es) [] pos) (tCall sp [] E0 t) := by
  obtain ⟨f, fd, F, m, kp, b⟩ := D
  exact pe_call F (hr.mono hk) hg m kp b .nil pass0 ha hdb he hpl
/-! the rules whose readings name the fragment, with the fragment as a letter (within a comprehension the context is bound) -/
section
variable {K : PySem.W.Frag}
theorem ix_lt (hK : X.K = K := by rfl) : IxR X (fun x y H Q => rIxL K x y H Q ∨ rIxT K x y H Q) := by subst hK; exact ix_list.or ix_tup
theorem call_lenK (hK : X.K = K := by rfl) : CallR X (.builtin "len") (fun xs H Q => ∃ p ys, xs = [.ref p] ∧ (SqL K H p ys ∨ SqT K H p ys) ∧ Q (.int ys.length) H) := by subst hK; exact call_len_seq
theorem op_inK (hK : X.K = K := by rfl) : OpR X (compareOp .In) (rIn K false) := by subst hK; exact op_in_seq
theorem op_notInK (hK : X.K = K := by rfl) : OpR X (compareOp .NotIn) (rIn K true) := by subst hK; exact op_notIn_seq
theorem call_listK (hK : X.K = K := by rfl) : CallR X (.type "list") (fun xs H Q => ∃ p ys, xs = [.ref p] ∧ (SqL K H p ys ∨ SqT K H p ys) ∧ ∀ l, H l = none → Q (.ref l) (upd H l (.lst ys))) := by subst hK; exact call_list_of
theorem sl_listK (hK : X.K = K := by rfl) : SlR X (rSlL K) := by subst hK; exact sl_list
theorem call_allK (hc : X.calm = true) (hK : X.K = K := by rfl) : CallR X (.builtin "all") (fun xs H Q => ∃ (p : Addr) (bs : List Bool), xs = [.ref p] ∧ SqL K H p (bs.map V.bl) ∧ Q (.bl (bs.all id)) H) := by subst hK; exact call_all hc
theorem pi_listK {l tg : Expr} {tl : TE} (hl : PE X l tl) (hK : X.K = K := by rfl) : PI X tg l (iList K tl) := by subst hK; exact pi_list hl
theorem pi_zipK {a b : Expr} {ta : TA} {p pos : Pos} {elts : List Expr} {k : Nat} {tpos : Pos} (hg : Gl X "zip") (hm : X.mg "zip" = none) (ha : PA X [a, b] ta) (hK : X.K = K := by rfl) (hs : starEach [a, b] X.env = [(false, eval a X.env), (false, eval b X.env)] := by rfl) (hs2 : starEach [b] X.env = [(false, eval b X.env)] := by rfl) :
    PI X (.Tuple elts k tpos) (.Call (.Name "zip" p) [a, b] [] pos) (iZip K ta) := by subst hK; exact pi_zip hg hm ha hs hs2
theorem pg_tupK {es : List Expr} {k : Nat} {t : TGs} {n : Nat} (hc : X.calm = true) (h : PGs X es t) (hK : X.K = K := by rfl)
    (hn : (assignEach es X.env).length = n := by rfl) (hst : (assignEach es X.env).findIdx? (·.1) = none := by rfl) : PG X (.Tuple es k pos) (gTup K n t) := by subst hK; exact pg_tup hc h hn hst
end
end

/-! ### a draw: n // 2 ** k % m is some number from 0 to below m -/
section
variable {X : Cx} {a m : Expr} {ta tm : TE} {k : Int} {j1 j2 : Nat} {p1 p2 p3 p4 p5 : Pos}
def tDraw (ta tm : TE) : TE := fun σ H Q => ta σ H fun x H1 => ∃ i : Int, x = .int i ∧ tm σ H1 fun y H2 => ∃ j : Int, y = .int j ∧ 0 < j ∧ ∀ r : Int, 0 ≤ r → r < j → Q (.int r) H2
theorem pow2_ok (n : Nat) (h : n < 9000) (i : Int) : CDivB i ((2 : Int) ^ n) := by
  have e : ((2 : Int) ^ n) = ((2 ^ n : Nat) : Int) := by simp
  rw [e]
  refine ⟨?_, ?_⟩
  · have := Nat.two_pow_pos n
    omega
  · rw [Int.natAbs_natCast, Nat.log2_two_pow]
    exact h
theorem pe_draw (ha : PE X a ta) (hm : PE X m tm) (h0 : 0 ≤ k := by decide) (h1 : k < 9000 := by decide) :
    PE X (.BinOp (.BinOp a .FloorDiv (.BinOp (.Constant (.int 2) j1 p1) .Pow (.Constant (.int k) j2 p2) p3) p4) .Mod m p5) (tDraw ta tm) := by
  intro pins s σ H Q I h
  refine wpAny_BinOp (wpAny_BinOp (thn (ha pins s σ H _ I h) fun v s1 ⟨x, H1, I1, r1, i, ex, q1⟩ => ?_))
  subst ex
  refine thn ((pe_op op_pow pe_int pe_int : PE X (.BinOp (.Constant (.int 2) j1 p1) .Pow (.Constant (.int k) j2 p2) p3) _) pins s1 σ H1 (fun z H' => z = .int ((2 : Int) ^ k.toNat) ∧ H' = H1) I1 ⟨_, _, rfl, rfl, ⟨h0, by omega, by decide⟩, rfl, rfl⟩) fun u s2 ⟨z, H2, I2, rz, ez, eH⟩ => ?_
  subst ez eH
  refine thn (op_fdivB pins s2 σ H2 (.int i) (.int ((2 : Int) ^ k.toNat)) v u (fun z H' => (∃ d : Int, z = .int d) ∧ H' = H2) I2 r1 rz ⟨i, _, rfl, rfl, pow2_ok _ (by omega) _, ⟨_, rfl⟩, rfl⟩) fun v3 s3 ⟨z, H3, I3, r3, ⟨d, ez⟩, eH⟩ => ?_
  subst ez eH
  refine thn (hm pins s3 σ H3 _ I3 q1) fun u4 s4 ⟨y, H4, I4, r4, j, ey, hj, q4⟩ => ?_
  subst ey
  exact op_mod pins s4 σ H4 (.int d) (.int j) v3 u4 Q I4 r3 r4 ⟨d, j, rfl, rfl, hj, q4 _ (Int.emod_nonneg _ (by omega)) (Int.emod_lt_of_pos _ hj)⟩
end

/-! ### a % m, of which only the bounds are wanted -/
section
variable {X : Cx} {a m : Expr} {ta tm : TE} {pos : Pos}
def tModA (ta tm : TE) : TE := fun σ H Q => ta σ H fun x H1 => ∃ i : Int, x = .int i ∧ tm σ H1 fun y H2 => ∃ j : Int, y = .int j ∧ 0 < j ∧ ∀ r : Int, 0 ≤ r → r < j → Q (.int r) H2
theorem pe_modA (ha : PE X a ta) (hm : PE X m tm) : PE X (.BinOp a .Mod m pos) (tModA ta tm) := by
  intro pins s σ H Q I h
  refine wpAny_BinOp (thn (ha pins s σ H _ I h) fun v s1 ⟨x, H1, I1, r1, i, ex, q1⟩ => ?_)
  subst ex
  refine thn (hm pins s1 σ H1 _ I1 q1) fun u4 s4 ⟨y, H4, I4, r4, j, ey, hj, q4⟩ => ?_
  subst ey
  exact op_mod pins s4 σ H4 (.int i) (.int j) v u4 Q I4 r1 r4 ⟨i, j, rfl, rfl, hj, q4 _ (Int.emod_nonneg _ (by omega)) (Int.emod_lt_of_pos _ hj)⟩
end

/-! ### a comprehension's value stored at once -/
section
variable {X : Cx} {N' : List Str} {cap : List (Option Nat)} {scope : Scope} {target iter elt : Expr} {ifs : List Expr} {pos spos px : Pos} {g : TG} {tt : TT} {te : TE} {wi : TI} {i : Nat} {x : Str}
theorem ps_setC (hN : X.N.Nodup) (hi : X.N[i]? = some x) (hx : X.env.scope.names.lookup x = some .local) (hc : X.calm = true) (ok : CompOk X scope N' cap) (hit : PI X target iter wi)
    (hin : ∀ (cl : List (Str × Addr)) (C : Addr) (fp : List Addr) (s₂ : Shared) (H₂ : Hp) (xe : Value → Shared → Prop), PG (inner X scope cl C N' fp s₂ H₂ xe) target g ∧ PIfs (inner X scope cl C N' fp s₂ H₂ xe) ifs tt ∧ PE (inner X scope cl C N' fp s₂ H₂ xe) elt te)
    (hk : KeepsCap cap g) (hsw : swapsWith (.ListComp elt [⟨target, iter, ifs, 0⟩] scope pos) (some (.Name x px)) spos.line X.env = pure true := by rfl) (hs : ∀ x, foldedSetIterable iter X.env x = pure x := by intro _; rfl) :
    PS X (.Assign [.Name x px] (.ListComp elt [⟨target, iter, ifs, 0⟩] scope pos) spos) (tAsg (tComp cap wi g tt te) (gName i)) := by
  intro pins s σ H D I h
  obtain ⟨cl, hcl, c1, c2⟩ := closureFor_has (scope := scope) (env := X.env) fun x hx hf => I.ok.has x.1 (ok.outs x hx hf)
  rw [exec_Assign_Name_used _ _ _ _ hsw]
  refine wpAny_bind (wpAny_standAt (wpAny_bind ?_))
  show wpAny _ X.A (do let _ ← comprehension (.ListComp elt [⟨target, iter, ifs, 0⟩] scope pos) scope X.env _ (newList []) false (eval iter X.env) (some (assign (.Name x px) X.env))) _ _ s
  refine wpAny_bind (wpAny_mono (wpAny_comprehension_free (use := some (assign (.Name x px) X.env)) (Q := fun _ s' => SP X pins D .next s') rfl hs hcl ok.kind ok.locs ?_) (fun _ s' hq => wpAny_pure (wpAny_pure hq)) fun _ _ e => e)
  refine thn (hit pins s σ H _ I h) fun v s1 h1 => thn h1 fun itv s2 h2 => ?_
  obtain ⟨it, fp, tn, J, H2, e, I2, T, st2, f2, q⟩ := h2
  subst e
  refine comp_block (Q := fun x H1 => gName i x σ H1 D.nx) (RR := compPost (model X.prog X.w) X.A X.xe (some (assign (.Name x px) X.env)) (fun _ s' => SP X pins D .next s')) hc ok c1 c2 I2 T st2 f2 hin hk q ?_
  intro D' C H' s' I' hm hC q'
  obtain ⟨m, hm⟩ := hm
  obtain ⟨a0, a1, _, a3, a4, a5⟩ := hC
  refine wpAny_assign_Name (store_ok2 I' hN hi (.inl hx) (v := .ref D') rfl (fun s'' I'' ⟨a, hsb, ha⟩ => ?_) (.inr hx))
  have hne : C ≠ a := by
    rcases ha with ha | ha
    · rw [ha]; exact a1
    · exact fun z => a4 _ _ ha z.symm
  refine ⟨m, hm.sameBut hsb hne, fun h' hs' => ⟨_, H', ?_, q'⟩⟩
  exact I''.turned (t' := s''.toks) (fun b o hb e => (hs'.2 b hb).trans e) a0 a1 a3 a4 a5
end

/-! ### for over zip -/
theorem same_upd {H : Hp} {p : Addr} (h : H p = none) (o : HO) : Same H (upd H p o) := fun b u q => by rw [upd_ne (ne_of_none q h)]; exact q
theorem for_zip {K : PySem.W.Frag} {a b : Addr} {xs ys : List V} {g : TG} {tb : TS} {D : Ends} {σ : St} {H : Hp} (Pv : Nat → St → Hp → Prop) (h0 : Pv 0 σ H) (hl : ∀ i σ H, Pv i σ H → SqL K H a xs ∧ SqL K H b ys)
    (hs : ∀ i x y T σ H, xs[i]? = some x → ys[i]? = some y → H T = none → Pv i σ H → g (.ref T) σ (upd H T (.tup [x, y])) fun σ2 H2 => tb { D with nx := Pv (i + 1), ct := Pv (i + 1), bk := D.nx } σ2 H2)
    (hd : ∀ σ H, Pv (min xs.length ys.length) σ H → D.nx σ H) :
    ∃ W : Nat → Nat → St → Hp → Prop, (∃ m, W 0 m σ H) ∧ ∀ i m σ H, W i m σ H →
      ((Itz K a b).stop i H ∧ D.nx σ H) ∨ ((Itz K a b).go i H ∧ ∃ N : St → Hp → Prop, (∀ σ' H', N σ' H' → ∃ m', m' < m ∧ W (i + 1) m' σ' H') ∧ ∀ x H', (Itz K a b).yld i H x H' → g x σ H' fun σ2 H2 => tb { D with nx := N, ct := N, bk := D.nx } σ2 H2) := by
  refine ⟨fun i m σ H => m = min xs.length ys.length - i ∧ i ≤ min xs.length ys.length ∧ Pv i σ H, ⟨min xs.length ys.length, by simp, Nat.zero_le _, h0⟩, ?_⟩
  rintro i m σ H ⟨rfl, hi, p⟩
  obtain ⟨qa, qb⟩ := hl i σ H p
  by_cases hlt : i < min xs.length ys.length
  · have h1 : i < xs.length := by omega
    have h2 : i < ys.length := by omega
    refine .inr ⟨⟨xs, ys, xs[i], ys[i], qa, qb, by simp [h1], by simp [h2]⟩, Pv (i + 1), fun σ' H' p' => ⟨min xs.length ys.length - (i + 1), by omega, rfl, hlt, p'⟩, fun v H' y => ?_⟩
    obtain ⟨T, x, z, hT, rfl, rfl, ya, yb⟩ := y
    exact hs i x z T σ H (ya xs qa) (yb ys qb) hT p
  · have e : i = min xs.length ys.length := by omega
    subst e
    exact .inl ⟨⟨xs, ys, qa, qb, by omega⟩, hd σ H p⟩

/-! ### accumulators of comprehensions -/
def del (H : Hp) (D : Addr) : Hp := fun b => if b = D then none else H b
theorem del_same {H : Hp} {D : Addr} : del H D D = none := by unfold del; rw [if_pos rfl]
theorem del_ne {H : Hp} {D b : Addr} (h : b ≠ D) : del H D b = H b := by unfold del; rw [if_neg h]
theorem upd_del {H : Hp} {D : Addr} {o : HO} : upd (del H D) D o = upd H D o := by
  funext b
  unfold upd del
  split <;> rfl
theorem upd_del_self {H : Hp} {D : Addr} {o : HO} (h : H D = some o) : upd (del H D) D o = H := by
  rw [upd_del]
  funext b
  unfold upd
  split
  · rename_i e; rw [e, h]
  · rfl
def CAcc (D : Addr) (Pn : Hp → List V → Prop) : Hp → Prop := fun H' => ∃ G ys, G D = none ∧ H' = upd G D (.lst ys) ∧ Pn G ys
def CPut (D : Addr) (Pn : Hp → List V → Prop) : VK := fun y H4 => ∃ ys, H4 D = some (.lst ys) ∧ ys.length < sizeLine ∧ CAcc D Pn (upd H4 D (.lst (ys ++ [y])))
theorem cput {D : Addr} {Pn : Hp → List V → Prop} {y : V} {H4 : Hp} {ys : List V} (h : H4 D = some (.lst ys)) (hl : ys.length ≤ 1000) (p : Pn (del H4 D) (ys ++ [y])) : CPut D Pn y H4 :=
  ⟨ys, h, small1000 hl, del H4 D, ys ++ [y], del_same, upd_del.symm, p⟩
theorem cskip {D : Addr} {Pn : Hp → List V → Prop} {H3 : Hp} {ys : List V} (h : H3 D = some (.lst ys)) (p : Pn (del H3 D) ys) : CAcc D Pn H3 := ⟨del H3 D, ys, del_same, (upd_del_self h).symm, p⟩
/-- what was there ahead of the block is there when the accumulator is left out -/
theorem same_del {H1 G H4 : Hp} {D : Addr} {o : HO} (h1 : Same H1 G) (hG : G D = none) (hs : Same (upd G D o) H4) : Same H1 (del H4 D) := fun b u e => by
  have e1 := h1 b u e
  have nb : b ≠ D := ne_of_none e1 hG
  rw [del_ne nb]
  exact hs b u (by rw [upd_ne nb]; exact e1)

section
variable {K : PySem.W.Frag} {g : TG} {tt : TT} {te : TE} {σ : St} {cap : List (Option Nat)} {Q : VK} {H1 : Hp} {D : Addr}
/-- the block, whatever it walks -/
theorem comp_it {J : It} {n : Nat} (Pv : Nat → Hp → List V → Prop) (hD : H1 D = none) (h0 : Pv 0 H1 []) (hgo : ∀ i G ys, i < n → G D = none → Pv i G ys → J.go i (upd G D (.lst ys)))
    (hst : ∀ G ys, G D = none → Pv n G ys → J.stop n (upd G D (.lst ys)))
    (step : ∀ i G ys x H', i < n → G D = none → Pv i G ys → J.yld i (upd G D (.lst ys)) x H' → g x (capt σ cap) H' fun σ2 H2 => tt σ2 H2 fun b H3 => if b = true then te σ2 H3 (CPut D (Pv (i + 1))) else CAcc D (Pv (i + 1)) H3)
    (fin : ∀ G ys, G D = none → Pv n G ys → Q (.ref D) (upd G D (.lst ys))) :
    CompAt cap g tt te σ Q J H1 D := by
  refine ⟨fun i m H => m = n - i ∧ i ≤ n ∧ CAcc D (Pv i) H, ⟨n, by simp, Nat.zero_le _, H1, [], hD, rfl, h0⟩, ?_⟩
  rintro i m H ⟨rfl, hi, G, ys, hG, rfl, p⟩
  by_cases hlt : i < n
  · exact .inr ⟨hgo i G ys hlt hG p, CAcc D (Pv (i + 1)), fun H' q => ⟨n - (i + 1), by omega, rfl, hlt, q⟩, fun x H' y => step i G ys x H' hlt hG p y⟩
  · have e : i = n := by omega
    subst e
    exact .inl ⟨hst G ys hG p, fin G ys hG p⟩
theorem comp_list {a : Addr} {xs : List V} (Pv : Nat → Hp → List V → Prop) (hD : H1 D = none) (h0 : Pv 0 H1 []) (hl : ∀ i G ys, Pv i G ys → SqL K G a xs)
    (step : ∀ i x G ys, xs[i]? = some x → G D = none → Pv i G ys → g x (capt σ cap) (upd G D (.lst ys)) fun σ2 H2 => tt σ2 H2 fun b H3 => if b = true then te σ2 H3 (CPut D (Pv (i + 1))) else CAcc D (Pv (i + 1)) H3)
    (fin : ∀ G ys, G D = none → Pv xs.length G ys → Q (.ref D) (upd G D (.lst ys))) :
    CompAt cap g tt te σ Q (Itl K a) H1 D := by
  refine comp_it (J := Itl K a) (n := xs.length) Pv hD h0 (fun i G ys hi hG p => ⟨xs, xs[i], (same_upd hG _).seq (hl i G ys p), by simp [hi]⟩) (fun G ys hG p => ⟨xs, (same_upd hG _).seq (hl _ G ys p), Nat.le_refl _⟩) (fun i G ys x H' hi hG p y => ?_) fin
  obtain ⟨e, y⟩ := y
  subst e
  exact step i x G ys (y xs ((same_upd hG _).seq (hl i G ys p))) hG p
theorem comp_range {lo : Int} {n : Nat} (Pv : Nat → Hp → List V → Prop) (hD : H1 D = none) (h0 : Pv 0 H1 [])
    (step : ∀ i G ys, i < n → G D = none → Pv i G ys → g (.int (lo + i)) (capt σ cap) (upd G D (.lst ys)) fun σ2 H2 => tt σ2 H2 fun b H3 => if b = true then te σ2 H3 (CPut D (Pv (i + 1))) else CAcc D (Pv (i + 1)) H3)
    (fin : ∀ G ys, G D = none → Pv n G ys → Q (.ref D) (upd G D (.lst ys))) :
    CompAt cap g tt te σ Q (Itr lo n) H1 D := by
  refine comp_it (J := Itr lo n) (n := n) Pv hD h0 (fun i G ys hi hG p => hi) (fun G ys hG p => Nat.le_refl _) (fun i G ys x H' hi hG p y => ?_) fin
  obtain ⟨e, y⟩ := y
  subst e
  subst y
  exact step i G ys hi hG p
theorem comp_zip {a b : Addr} {xs zs : List V} (Pv : Nat → Hp → List V → Prop) (hD : H1 D = none) (h0 : Pv 0 H1 []) (hl : ∀ i G ys, Pv i G ys → SqL K G a xs ∧ SqL K G b zs)
    (step : ∀ i x z T G ys, xs[i]? = some x → zs[i]? = some z → G D = none → T ≠ D → G T = none → Pv i G ys → g (.ref T) (capt σ cap) (upd (upd G D (.lst ys)) T (.tup [x, z])) fun σ2 H2 => tt σ2 H2 fun b H3 => if b = true then te σ2 H3 (CPut D (Pv (i + 1))) else CAcc D (Pv (i + 1)) H3)
    (fin : ∀ G ys, G D = none → Pv (min xs.length zs.length) G ys → Q (.ref D) (upd G D (.lst ys))) :
    CompAt cap g tt te σ Q (Itz K a b) H1 D := by
  refine comp_it (J := Itz K a b) (n := min xs.length zs.length) Pv hD h0 (fun i G ys hi hG p => ?_) (fun G ys hG p => ?_) (fun i G ys x H' hi hG p y => ?_) fin
  · have h1 : i < xs.length := by omega
    have h2 : i < zs.length := by omega
    exact ⟨xs, zs, xs[i], zs[i], (same_upd hG _).seq (hl i G ys p).1, (same_upd hG _).seq (hl i G ys p).2, by simp [h1], by simp [h2]⟩
  · exact ⟨xs, zs, (same_upd hG _).seq (hl _ G ys p).1, (same_upd hG _).seq (hl _ G ys p).2, by omega⟩
  · obtain ⟨T, u, v, hT, rfl, rfl, ya, yb⟩ := y
    have hTD : T ≠ D := by rintro rfl; rw [upd_same] at hT; cases hT
    refine step i u v T G ys (ya xs ((same_upd hG _).seq (hl i G ys p).1)) (yb zs ((same_upd hG _).seq (hl i G ys p).2)) hG hTD ?_ p
    rw [upd_ne hTD] at hT
    exact hT
end

/-! ### a block whose items are flat: fl i says the i-th item, none where a test leaves it out -/
def FlatP (H1 : Hp) (fl : Nat → Option V) : Nat → Hp → List V → Prop := fun i G ys => Same H1 G ∧ ys = (List.range i).filterMap fl
theorem FlatP.zero {H1 : Hp} {fl : Nat → Option V} : FlatP H1 fl 0 H1 [] := ⟨Same.refl _, rfl⟩
theorem FlatP.put {H1 G H4 : Hp} {D : Addr} {ys : List V} {fl : Nat → Option V} {i : Nat} {y : V} (p : FlatP H1 fl i G ys) (hG : G D = none) (hs : Same (upd G D (.lst ys)) H4) (hf : fl i = some y) (hi : i ≤ 1000) : CPut D (FlatP H1 fl (i + 1)) y H4 := by
  obtain ⟨h1, hy⟩ := p
  refine cput (hs D _ upd_same) ?_ ⟨same_del h1 hG hs, ?_⟩
  · rw [hy]
    exact Nat.le_trans (List.length_filterMap_le _ _) (by rw [List.length_range]; exact hi)
  · rw [List.range_succ, List.filterMap_append, ← hy]
    simp [hf]
theorem FlatP.skip {H1 G H4 : Hp} {D : Addr} {ys : List V} {fl : Nat → Option V} {i : Nat} (p : FlatP H1 fl i G ys) (hG : G D = none) (hs : Same (upd G D (.lst ys)) H4) (hf : fl i = none) : CAcc D (FlatP H1 fl (i + 1)) H4 := by
  obtain ⟨h1, hy⟩ := p
  refine cskip (hs D _ upd_same) ⟨same_del h1 hG hs, ?_⟩
  rw [List.range_succ, List.filterMap_append, ← hy]
  simp [hf]
theorem flat_list {α : Type} {β : Type} (xs : List α) (h : α → Option β) : (List.range xs.length).filterMap (fun i => (xs[i]?).bind h) = xs.filterMap h := by
  induction xs with
  | nil => rfl
  | cons x r ih =>
    rw [List.length_cons, List.range_succ_eq_map, List.filterMap_cons, List.filterMap_map, List.filterMap_cons]
    have e : ((fun i => ((x :: r)[i]?).bind h) ∘ Nat.succ) = fun i => (r[i]?).bind h := by
      funext i; simp
    rw [e, ih]
    simp
end L2

/-! ## ways along ends: the mathematics of point 5, in plain Lean -/
namespace Ways
theorem nodup_bound : ∀ (n : Nat) (l : List Nat), l.Nodup → (∀ x ∈ l, x < n) → l.length ≤ n
  | 0, l, _, h => by
    cases l with
    | nil => exact Nat.le_refl _
    | cons x r => exact absurd (h x List.mem_cons_self) (Nat.not_lt_zero _)
  | n + 1, l, nd, h => by
    by_cases hm : n ∈ l
    · have ih := nodup_bound n (l.erase n) (nd.erase n) fun x hx => by
        have h1 := (nd.mem_erase_iff).mp hx
        have h2 := h x h1.2
        have h3 := h1.1
        omega
      have e := List.length_erase_of_mem hm
      omega
    · have ih := nodup_bound n l nd fun x hx => by
        have h2 := h x hx
        have h3 : x ≠ n := fun q => hm (q ▸ hx)
        omega
      omega

/-- the end of the arrow at p -/
def nextE (es : List (Option Nat)) (p : Nat) : Option Nat := (es[p]?).join
def walk (es : List (Option Nat)) (p : Nat) : Nat → Nat
  | 0 => p
  | k + 1 => match nextE es (walk es p k) with
    | none => walk es p k
    | some e => e
def rootB (es : List (Option Nat)) (p : Nat) : Bool := (nextE es (walk es p es.length)).isNone
/-- all ends lie within -/
def InB (es : List (Option Nat)) : Prop := ∀ p e, nextE es p = some e → e < es.length
/-- a way: from p on, each next one the end at the one ahead, none twice -/
structure Way (es : List (Option Nat)) (p : Nat) (way : List Nat) : Prop where
  hd : way.head? = some p
  nd : way.Nodup
  bd : ∀ x ∈ way, x < es.length
  ch : ∀ i a b, way[i]? = some a → way[i + 1]? = some b → nextE es a = some b
theorem Way.one {es : List (Option Nat)} {p : Nat} (h : p < es.length) : Way es p [p] :=
  ⟨rfl, by simp, by intro x hx; simp at hx; omega, by intro i a b _ h2; simp at h2⟩
theorem Way.more {es : List (Option Nat)} {p q l : Nat} {way : List Nat} (w : Way es p way) (hl : way.getLast? = some l) (e : nextE es l = some q) (hq : q ∉ way) (hb : InB es) : Way es p (way ++ [q]) := by
  refine ⟨?_, ?_, ?_, ?_⟩
  · have := w.hd
    cases way with
    | nil => simp at this
    | cons a r => simpa using this
  · rw [List.nodup_append]
    refine ⟨w.nd, by simp, fun a ha b hb' => ?_⟩
    simp at hb'
    rintro rfl
    exact hq (hb' ▸ ha)
  · intro x hx
    rcases List.mem_append.mp hx with h | h
    · exact w.bd x h
    · simp at h
      rw [h]
      exact hb _ _ e
  · intro i a b h1 h2
    by_cases hi : i + 1 < way.length
    · rw [List.getElem?_append_left hi] at h2
      rw [List.getElem?_append_left (by omega)] at h1
      exact w.ch i a b h1 h2
    · have hlen : i + 1 = way.length := by
        have := (List.getElem?_eq_some_iff.mp h2).1
        rw [List.length_append, List.length_singleton] at this
        omega
      rw [List.getElem?_append_right (by omega)] at h2
      have hb2 : b = q := by
        rw [hlen, Nat.sub_self] at h2
        simpa using h2.symm
      rw [List.getElem?_append_left (by omega)] at h1
      have hl2 : way.getLast? = some a := by
        rw [List.getLast?_eq_getElem?]
        rw [show way.length - 1 = i by omega]
        exact h1
      rw [hl] at hl2
      cases hl2
      rw [hb2]
      exact e
theorem Way.len {es : List (Option Nat)} {p : Nat} {way : List Nat} (w : Way es p way) : way.length ≤ es.length := nodup_bound _ _ w.nd w.bd
theorem Way.pos {es : List (Option Nat)} {p : Nat} {way : List Nat} (w : Way es p way) : 0 < way.length := by
  have := w.hd
  cases way with
  | nil => simp at this
  | cons a r => simp
/-- the walk goes along the way -/
theorem Way.at {es : List (Option Nat)} {p : Nat} {way : List Nat} (w : Way es p way) : ∀ k, k < way.length → way[k]? = some (walk es p k)
  | 0, h => by
    have := w.hd
    cases way with
    | nil => simp at this
    | cons a r => simpa [walk] using this
  | k + 1, h => by
    have ih := w.at k (by omega)
    have hb : way[k + 1]? = some way[k + 1] := List.getElem?_eq_getElem h
    have e := w.ch k _ _ ih hb
    rw [hb]
    simp only [walk, e]
theorem walk_stays {es : List (Option Nat)} {p k : Nat} (h : nextE es (walk es p k) = none) : ∀ j, walk es p (k + j) = walk es p k
  | 0 => rfl
  | j + 1 => by
    have ih := walk_stays h j
    rw [show k + (j + 1) = (k + j) + 1 by omega]
    simp only [walk, ih, h]
theorem Way.root {es : List (Option Nat)} {p l : Nat} {way : List Nat} (w : Way es p way) (hl : way.getLast? = some l) (e : nextE es l = none) : rootB es p = true := by
  have hp := w.pos
  have hk := w.at (way.length - 1) (by omega)
  rw [List.getLast?_eq_getElem?, hk] at hl
  cases hl
  have := w.len
  have st := walk_stays e (es.length - (way.length - 1))
  rw [show (way.length - 1) + (es.length - (way.length - 1)) = es.length by omega] at st
  unfold rootB
  rw [st, e]
  rfl
theorem Way.ring {es : List (Option Nat)} {p l q : Nat} {way : List Nat} (w : Way es p way) (hl : way.getLast? = some l) (e : nextE es l = some q) (hq : q ∈ way) : rootB es p = false := by
  have hp := w.pos
  have some_of : ∀ x ∈ way, ∃ y ∈ way, nextE es x = some y := fun x hx => by
    obtain ⟨i, hi, rfl⟩ := List.mem_iff_getElem.mp hx
    by_cases h : i + 1 < way.length
    · exact ⟨way[i + 1], List.getElem_mem h, w.ch i _ _ (List.getElem?_eq_getElem hi) (List.getElem?_eq_getElem h)⟩
    · have : way.getLast? = some way[i] := by
        rw [List.getLast?_eq_getElem?, show way.length - 1 = i by omega]
        exact List.getElem?_eq_getElem hi
      rw [hl] at this
      cases this
      exact ⟨q, hq, e⟩
  have inw : ∀ k, walk es p k ∈ way := fun k => by
    induction k with
    | zero =>
      have := w.at 0 hp
      exact List.mem_of_getElem? this
    | succ k ih =>
      obtain ⟨y, hy, ey⟩ := some_of _ ih
      simp only [walk, ey]
      exact hy
  obtain ⟨y, _, ey⟩ := some_of _ (inw es.length)
  unfold rootB
  rw [ey]
  rfl
end Ways

/-! ## nets as data: shapes, equality, fitting -/
namespace Ring
open PySem Ways
abbrev Net := List (List (Int × Int))
def arrD (a : Int × Int) : PyData := .tuple [.int a.1, .int a.2]
def rowD (r : List (Int × Int)) : PyData := .list (r.map arrD)
def netD (n : Net) : PyData := .list (n.map rowD)
/-- a net with one to eight places whose arrows lead to places (what the laws make) -/
structure NetOk (n : Net) : Prop where
  pos : 1 ≤ n.length
  len : n.length ≤ 8
  row : ∀ r ∈ n, r.length ≤ 8 ∧ ∀ a ∈ r, 0 ≤ a.1 ∧ a.1 < n.length
/-- at most so deep, and of texts that can be laid -/
def okTo (k : Nat) (d : PyData) : Prop := d.canLay0 = true ∧ d.depth ≤ k
theorem canLayAll_of {k : Nat} : ∀ {ds : List PyData}, (∀ d ∈ ds, okTo k d) → PyData.canLayAll0 ds = true ∧ PyData.depthAll ds ≤ k
  | [], _ => ⟨by simp [PyData.canLayAll0], by simp [PyData.depthAll]⟩
  | d :: r, h => by
    have h1 := h d List.mem_cons_self
    have h2 := canLayAll_of fun x hx => h x (List.mem_cons_of_mem _ hx)
    refine ⟨by simp [PyData.canLayAll0, h1.1, h2.1], ?_⟩
    simp only [PyData.depthAll]
    have := h1.2
    have := h2.2
    omega
theorem okTo.list {k : Nat} {ds : List PyData} (h : ∀ d ∈ ds, okTo k d) : okTo (k + 1) (.list ds) := by
  have := canLayAll_of h
  exact ⟨by simp [PyData.canLay0, this.1], by simp only [PyData.depth]; omega⟩
theorem okTo.tuple {k : Nat} {ds : List PyData} (h : ∀ d ∈ ds, okTo k d) : okTo (k + 1) (.tuple ds) := by
  have := canLayAll_of h
  exact ⟨by simp [PyData.canLay0, this.1], by simp only [PyData.depth]; omega⟩
theorem okTo.int (i : Int) : okTo 0 (.int i) := ⟨by simp [PyData.canLay0], by simp [PyData.depth]⟩
theorem okTo.none : okTo 0 .none := ⟨by simp [PyData.canLay0], by simp [PyData.depth]⟩
theorem okTo.shaped {k : Nat} {d : PyData} (h : okTo k d) (hk : k ≤ 64) : SeqAt.shaped d = true := by
  unfold SeqAt.shaped
  rw [h.1, decide_eq_true (Nat.le_trans h.2 hk)]
  rfl
theorem okTo_arr (a : Int × Int) : okTo 1 (arrD a) := okTo.tuple fun d hd => by
  have hd' : d = .int a.1 ∨ d = .int a.2 := by simpa using hd
  rcases hd' with rfl | rfl <;> exact okTo.int _
theorem okTo_row (r : List (Int × Int)) : okTo 2 (rowD r) := okTo.list fun d hd => by
  obtain ⟨a, _, rfl⟩ := List.mem_map.mp hd
  exact okTo_arr a
theorem okTo_net (n : Net) : okTo 3 (netD n) := okTo.list fun d hd => by
  obtain ⟨a, _, rfl⟩ := List.mem_map.mp hd
  exact okTo_row a
theorem eqv_arr (a b : Int × Int) : PyData.eqv (arrD a) (arrD b) = decide (a = b) := by
  obtain ⟨x, y⟩ := a
  obtain ⟨z, w⟩ := b
  simp only [arrD, PyData.eqv, PyData.eqvAll, Bool.and_true]
  by_cases h1 : x = z <;> by_cases h2 : y = w <;> simp [h1, h2]
theorem eqvAll_map {α : Type} [DecidableEq α] {f : α → PyData} (hf : ∀ a b, PyData.eqv (f a) (f b) = decide (a = b)) : ∀ xs ys : List α, PyData.eqvAll (xs.map f) (ys.map f) = decide (xs = ys)
  | [], [] => by simp [PyData.eqvAll]
  | [], _ :: _ => by simp [PyData.eqvAll]
  | _ :: _, [] => by simp [PyData.eqvAll]
  | a :: r, b :: t => by
    simp only [List.map_cons, PyData.eqvAll, hf, eqvAll_map hf r t]
    by_cases h : a = b <;> by_cases h' : r = t <;> simp [h, h']
theorem eqv_row (r t : List (Int × Int)) : PyData.eqv (rowD r) (rowD t) = decide (r = t) := by
  simp only [rowD, PyData.eqv]
  exact eqvAll_map eqv_arr r t
theorem eqv_net (n m : Net) : PyData.eqv (netD n) (netD m) = decide (n = m) := by
  simp only [netD, PyData.eqv]
  exact eqvAll_map eqv_row n m
theorem eqv_row_nil (r : List (Int × Int)) : PyData.eqv (rowD r) (.list []) = decide (r = []) := eqv_row r []
theorem eqv_int (a b : Int) : PyData.eqv (.int a) (.int b) = decide (a = b) := by
  simp only [PyData.eqv]
  by_cases h : a = b <;> simp [h]
/-! ### trees -/
def optE : PyData → Option Nat
  | .int e => some e.toNat
  | _ => none
def fitsD (row : List (Int × Int)) (d : PyData) : Bool :=
  if row = [] then (match d with | .none => true | _ => false) else match d with | .int e => decide (e ∈ row.map (·.1)) | _ => false
def goodD (net : Net) : PyData → Bool
  | .list ds => decide (ds.length = net.length) && (net.zip ds).all (fun p => fitsD p.1 p.2) && (List.range net.length).all (fun p => rootB (ds.map optE) p)
  | _ => false
/-- every one fits: None or an end within -/
theorem fits_cases {net : Net} {ds : List PyData} (ok : NetOk net) (hl : ds.length = net.length) (h : (net.zip ds).all (fun p => fitsD p.1 p.2) = true) :
    ∀ d ∈ ds, d = .none ∨ ∃ e : Nat, d = .int e ∧ e < ds.length := fun d hd => by
  obtain ⟨i, hi, rfl⟩ := List.mem_iff_getElem.mp hd
  have hz : (net[i], ds[i]) ∈ net.zip ds := by
    refine List.mem_of_getElem? (i := i) ?_
    rw [List.getElem?_zip_eq_some]
    exact ⟨List.getElem?_eq_getElem (by omega), List.getElem?_eq_getElem hi⟩
  have hf := List.all_eq_true.mp h _ hz
  unfold fitsD at hf
  split at hf
  · cases e : ds[i] with
    | none => exact .inl rfl
    | _ => simp [e] at hf
  · cases e : ds[i] with
    | int k =>
      simp only [e, decide_eq_true_eq] at hf
      obtain ⟨a, ha, rfl⟩ := List.mem_map.mp hf
      have := (ok.row _ (List.getElem_mem _)).2 a ha
      refine .inr ⟨a.1.toNat, ?_, ?_⟩
      · congr 1; omega
      · omega
    | _ => simp [e] at hf
theorem fits_inB {ds : List PyData} (h : ∀ d ∈ ds, d = .none ∨ ∃ e : Nat, d = .int e ∧ e < ds.length) : InB (ds.map optE) := fun p e he => by
  unfold nextE at he
  rw [List.getElem?_map] at he
  cases q : ds[p]? with
  | none => rw [q] at he; cases he
  | some d =>
    rw [q] at he
    rcases h d (List.mem_of_getElem? q) with rfl | ⟨k, rfl, hk⟩
    · cases he
    · have : k = e := by simpa [optE] using he
      rw [List.length_map]
      omega
end Ring

/-! ## trees by hanging place on place -/
namespace Ring
open PySem Ways
def optPy : Option Nat → PyData
  | none => .none
  | some e => .int e
structure TreeOf (net : Net) (tr : List (Option Nat)) : Prop where
  len : tr.length = net.length
  fits : ∀ (p : Nat) row, net[p]? = some row → (row = [] ∧ nextE tr p = none) ∨ (row ≠ [] ∧ ∃ e : Nat, nextE tr p = some e ∧ (e : Int) ∈ row.map (·.1))
  root : ∀ p, p < net.length → rootB tr p = true
structure Hung (net : Net) (tr : List (Option Nat)) (hg : List Nat) : Prop where
  len : tr.length = net.length
  nd : hg.Nodup
  bd : ∀ p ∈ hg, p < net.length
  ok : ∀ (i p : Nat), hg[i]? = some p → (net[p]? = some [] ∧ nextE tr p = none) ∨ (∃ row e j, net[p]? = some row ∧ row ≠ [] ∧ nextE tr p = some e ∧ (e : Int) ∈ row.map (·.1) ∧ hg[j]? = some e ∧ j < i)
theorem nextE_set_self {tr : List (Option Nat)} {p e : Nat} (h : p < tr.length) : nextE (tr.set p (some e)) p = some e := by
  unfold nextE
  rw [List.getElem?_set_self h]
  rfl
theorem nextE_set_ne {tr : List (Option Nat)} {p q : Nat} {o : Option Nat} (h : p ≠ q) : nextE (tr.set p o) q = nextE tr q := by
  unfold nextE
  rw [List.getElem?_set_ne h]
theorem Hung.start {net : Net} {tr : List (Option Nat)} {hg : List Nat} (hl : tr.length = net.length) (hn : ∀ p, nextE tr p = none) (nd : hg.Nodup) (hr : ∀ p ∈ hg, net[p]? = some []) : Hung net tr hg :=
  ⟨hl, nd, fun p hp => (List.getElem?_eq_some_iff.mp (hr p hp)).1, fun i p hp => .inl ⟨hr p (List.mem_of_getElem? hp), hn p⟩⟩
theorem Hung.hang {net : Net} {tr : List (Option Nat)} {hg : List Nat} {p e : Nat} {row : List (Int × Int)} (h : Hung net tr hg) (hp : net[p]? = some row) (hn : p ∉ hg) (he : (e : Int) ∈ row.map (·.1)) (hh : e ∈ hg) : Hung net (tr.set p (some e)) (hg ++ [p]) := by
  have hpl : p < net.length := (List.getElem?_eq_some_iff.mp hp).1
  have hrow : row ≠ [] := by rintro rfl; simp at he
  refine ⟨by rw [List.length_set]; exact h.len, ?_, fun q hq => ?_, fun i q hq => ?_⟩
  · rw [List.nodup_append]
    exact ⟨h.nd, by simp, fun a ha b hb => by simp at hb; rintro rfl; exact hn (hb ▸ ha)⟩
  · rcases List.mem_append.mp hq with z | z
    · exact h.bd q z
    · simp at z; rw [z]; exact hpl
  · by_cases hi : i < hg.length
    · rw [List.getElem?_append_left hi] at hq
      have hqm := List.mem_of_getElem? hq
      have hne : p ≠ q := fun z => hn (z ▸ hqm)
      rw [nextE_set_ne hne]
      rcases h.ok i q hq with z | ⟨row', e', j, a1, a2, a3, a4, a5, a6⟩
      · exact .inl z
      · exact .inr ⟨row', e', j, a1, a2, a3, a4, by rw [List.getElem?_append_left (by omega)]; exact a5, a6⟩
    · have hlen := (List.getElem?_eq_some_iff.mp hq).1
      rw [List.length_append, List.length_singleton] at hlen
      have hi' : i = hg.length := by omega
      rw [List.getElem?_append_right (by omega), hi', Nat.sub_self] at hq
      have hqp : p = q := by simpa using hq
      subst hqp
      obtain ⟨j, hj, ej⟩ := List.mem_iff_getElem.mp hh
      refine .inr ⟨row, e, j, hp, hrow, nextE_set_self (by rw [h.len]; exact hpl), he, ?_, by omega⟩
      rw [List.getElem?_append_left hj, List.getElem?_eq_getElem hj, ej]
/-- n places below n, none twice, are all -/
theorem all_of_full : ∀ (n : Nat) (l : List Nat), l.Nodup → (∀ x ∈ l, x < n) → n ≤ l.length → ∀ p, p < n → p ∈ l := fun n l nd bd hl p hp => by
  by_cases hm : p ∈ l
  · exact hm
  · have h1 : (p :: l).Nodup := List.nodup_cons.mpr ⟨hm, nd⟩
    have h2 := nodup_bound n (p :: l) h1 fun x hx => by
      rcases List.mem_cons.mp hx with rfl | z
      · exact hp
      · exact bd x z
    rw [List.length_cons] at h2
    omega
/-- along a hung tree the places stand ever further ahead -/
theorem Hung.down {net : Net} {tr : List (Option Nat)} {hg : List Nat} (h : Hung net tr hg) : ∀ (k i p : Nat), hg[i]? = some p → nextE tr (walk tr p k) = none ∨ ∃ j, hg[j]? = some (walk tr p k) ∧ j + k ≤ i
  | 0, i, p, hp => .inr ⟨i, hp, Nat.le_refl _⟩
  | k + 1, i, p, hp => by
    rcases h.down k i p hp with z | ⟨j, hj, hk⟩
    · left
      have := walk_stays z 1
      rw [this]
      exact z
    · rcases h.ok j _ hj with ⟨_, z⟩ | ⟨row, e, j', a1, a2, a3, a4, a5, a6⟩
      · left
        have := walk_stays z 1
        rw [this]
        exact z
      · right
        refine ⟨j', ?_, by omega⟩
        simp only [walk, a3]
        exact a5
theorem Hung.tree {net : Net} {tr : List (Option Nat)} {hg : List Nat} (h : Hung net tr hg) (full : net.length ≤ hg.length) : TreeOf net tr := by
  have all := all_of_full net.length hg h.nd h.bd full
  have hlen : hg.length ≤ net.length := nodup_bound _ _ h.nd h.bd
  refine ⟨h.len, fun p row hp => ?_, fun p hp => ?_⟩
  · obtain ⟨i, hi, ei⟩ := List.mem_iff_getElem.mp (all p (List.getElem?_eq_some_iff.mp hp).1)
    rcases h.ok i p (by rw [List.getElem?_eq_getElem hi, ei]) with ⟨z, e⟩ | ⟨row', e, j, a1, a2, a3, a4, _⟩
    · rw [hp] at z
      cases z
      exact .inl ⟨rfl, e⟩
    · rw [hp] at a1
      cases a1
      exact .inr ⟨a2, e, a3, a4⟩
  · obtain ⟨i, hi, ei⟩ := List.mem_iff_getElem.mp (all p hp)
    unfold rootB
    rcases h.down tr.length i p (by rw [List.getElem?_eq_getElem hi, ei]) with z | ⟨j, _, hk⟩
    · rw [z]; rfl
    · rw [h.len] at hk
      omega
end Ring

/-! ## min, max, sorted, set, len of a set, index, any -/
namespace L2
open PySem PySem.Spec PyProof.Rows
section
variable {X : Cx}
theorem nodup_inj {α : Type} {l : List α} {i j : Nat} (h : l.Nodup) (hi : i < l.length) (hj : j < l.length) (e : l[i] = l[j]) : i = j := by
  have h' := List.pairwise_iff_getElem.mp h
  rcases Nat.lt_trichotomy i j with z | z | z
  · exact absurd e (h' i j hi hj z)
  · exact z
  · exact absurd e.symm (h' j i hj hi z)
/-! with the fragment as a letter -/
section
variable {K : PySem.W.Frag}
end
end
end L2

/-! ## rings of tops: the mathematics of point 7 -/
namespace Ways
/-- the end of a way: a bare place, or a place of its own again -/
def Done (es : List (Option Nat)) (way : List Nat) : Prop := ∃ l, way.getLast? = some l ∧ (nextE es l = none ∨ ∃ q, nextE es l = some q ∧ q ∈ way)

/-! ### rings -/
end Ways

/-! ## enumerate of a list, walked with two names; defs with defaults -/
namespace L2
open PySem PySem.Spec PyProof.Rows
section
variable {X : Cx} {K : PySem.W.Frag}
end
section
variable {K : PySem.W.Frag} {g : TG} {tt : TT} {te : TE} {σ : St} {cap : List (Option Nat)} {Q : VK} {H1 : Hp} {D : Addr}
end
/-! ### truth, with the fragment as a letter -/
theorem pt_truthK {X : Cx} {K : PySem.W.Frag} {a : Expr} {ta : TE} (ha : PE X a ta) (he : ∀ whole, isTrue a X.env whole = (do let v ← whole; standAt a.pos; holding [v] (truthy v))) (hK : X.K = K := by rfl) :
    PT X a (fun σ H Q => ta σ H fun x H' => ∃ k, TruV K x H' k ∧ Q k H') := by subst hK; exact pt_truth ha he
/-! ### defs with defaults -/
section
variable {P : Program} {w : World} {K : PySem.W.Frag} {mg : Str → Option Value} {base : Heap}
end
section
variable {X : Cx} {x : Str} {k k' : Nat} {ps : List Str} {sp : Sp} {e : Expr} {es : List Expr} {t : TA} {p pos : Pos} {ds : List Value} {dvs : List V}
end
end L2

/-! ## piles, and rings popped: the mathematics of points 6 to 9 -/
namespace Ways
abbrev Piles := List (List Nat)
/-! ### popped out by an order -/
end Ways

/-! ## reversed of a list, insert at the front -/
namespace L2
open PySem PySem.Spec PyProof.Rows
section
variable {X : Cx} {K : PySem.W.Frag}
end
end L2

/-! ## rings put back: the mathematics of point 10 -/
namespace Ways
end Ways

/-! ## isinstance of a caught error of the program's own classes -/
namespace PySem.W
open PySem PySem.Spec PySem.Calls PyProof.Rows
section
variable {prog : Program} {w : World} {A : Around} {E : Value → Shared → Prop} {s : Shared} {K : Frag} {x C : Addr} {ox : Obj} {od : Option Obj}
/-- what is asked of an error class as the top has made it -/
structure ExcK (K : Frag) (C : Addr) : Prop where
  ga : findIn K (.ref C) "__getattribute__" = some (some (.builtin "BaseException.__getattribute__"))
  gt : findIn K (.ref C) "__getattr__" = some none
  cl : findIn K (.ref C) "__class__" = some (some (.builtin "object.__class__"))
  gs : specialIn K (.builtin "object.__class__") "__get__" = some (some (.builtin "getset_descriptor.__get__"))
  tk : takesIn K (.builtin "object.__class__") = some true
  mo : mroIn K C (.type "object") = some true
  mb : mroIn K C (.type "BaseException") = some true
  is : (clsIn K C).isSome = true
theorem check_ga_exc {M : Model} {nameV : Value} {Q : Unit → Shared → Prop} (X : K.In s.heap) (I : InstAt s.heap x ox C od) (k : ExcK K C) (hq : Q () s) : wpAny M A (checkBuiltinCall "BaseException.__getattribute__" ⟨[.ref x, nameV], []⟩) Q E s := by
  obtain ⟨h, g, d, t, os⟩ := s
  have hk : builtinKind "BaseException.__getattribute__" = some .slot := by decide +kernel
  have hsplit : splitId "BaseException.__getattribute__" = some ("BaseException", "__getattribute__") := by decide +kernel
  have ha := F.args_bexc_ga (.ref x) nameV
  have L0 := I.type (M := M)
  have L1 := looks_mroIn (M := M) X k.mb
  simp only [checkBuiltinCall, hk, hsplit]
  refine wpAny_bind ?_
  unfold isInstance
  refine wpAny_bind (L0.at (L1.at ?_))
  repeat (first | assumption | wp_step)
theorem exc_class {Q : Option Value → Shared → Prop} (X : K.In s.heap) (I : InstAt s.heap x ox C od) (k : ExcK K C)
    (h : Q (some (.ref C)) { s with toks := s.toks + 1 }) : wpAny (model prog w) A (getAttr? (.ref x) "__class__") Q E s := by
  obtain ⟨hh, g, d, t, os⟩ := s
  have L0 := I.type (M := model prog w)
  have L1 := looks_findIn (M := model prog w) X k.ga
  have L2 := looks_findIn (M := model prog w) X k.gt
  have cdx : ∃ cd, clsIn K C = some cd := Option.isSome_iff_exists.mp k.is
  have hf : findObj K C od "__class__" = some (.bind (.builtin "getset_descriptor.__get__") (.builtin "object.__class__")) := by
    obtain ⟨cd, hc⟩ := cdx
    unfold findObj
    rw [hc, Option.bind_some, k.cl, Option.bind_some]
    simp [k.gs, k.tk]
  have L3 := looks_find (M := model prog w) X I hf
  have hbind := PySem.F.excAttr_ValueError.ga.bind (.ref x)
  unfold getAttr? getAttrBy? getAttrBy
  refine wpAny_bind (wpAny_mkText (wpAny_bind (wpAny_attempt (wpAny_holding (wpAny_bind (L0.at (wpAny_bind (L1.at ?_))))))))
  dsimp only
  rw [if_neg (by intro z; rw [Bool.and_eq_true] at z; exact absurd z.2 (by decide +kernel))]
  unfold getAttrByItsOwn hookBefore
  rw [if_pos (show onTheHeap (Value.ref C) = true from rfl)]
  refine wpAny_bind (L2.at (wpAny_bind (wpAny_attempt (wpAny_holding ?_))))
  unfold callGetattribute boundAndCalled
  rw [if_neg (by decide)]
  refine wpAny_bind (wpAny_of_eq hbind ?_)
  refine wpAny_call (codeAny_call_builtin PySem.F.excAttr_ValueError.ga.plain F.entry_bexc_ga (check_ga_exc (s := ⟨hh, g, d, t + 1, os⟩) X I k ?_))
  refine wpAny_bind (wpAny_pure (wpAny_bind (wpAny_pure (wpAny_bind (L0.at (wpAny_bind (L3.at ?_)))))))
  show wpAny _ _ (Builtin.ObjectAttr.bindTo _ _ _ _) _ _ _
  show wpAny _ _ (holding [Value.builtin "object.__class__"] (call (Value.builtin "getset_descriptor.__get__") [Value.builtin "object.__class__", Value.ref x, Value.ref C]) >>= fun v => ret v) _ _ _
  refine wpAny_bind (wpAny_holding (wpAny_call (class_get (s := ⟨hh, g, d, t + 1, os⟩) (ox := ox) (od := od) X I k.mo ?_)))
  refine wpAny_pure ?_
  exact handed_on rfl (wpAny_pure h)
/-- an error that lies there, with its class and its dict -/
def ExcIs (d : Option Addr) (e C : Addr) (h : Heap) : Prop := ∃ o vs, h.get? e = some o ∧ o.cls = .ref C ∧ o.dict = d ∧ o.data = .fields vs
/-- one that has none -/
abbrev ExcAt (e C : Addr) : Heap → Prop := ExcIs none e C
theorem ExcAt.inst {e C : Addr} {h : Heap} (p : ExcAt e C h) : ∃ o, InstAt h e o C none := by
  obtain ⟨o, vs, h1, h2, h3, h4⟩ := p
  exact ⟨o, h1, h2, by unfold notCls; rw [h4], by rw [h3]; trivial⟩
theorem kitx_inst {e : Addr} {Φ : Heap → Prop} (hI : ∀ h, Φ h → ∃ o od, InstAt h e o C od) (k : ExcK K C) : KitX K (.ref e) (.ref C) Φ where
  ty := fun M h _ p => by
    obtain ⟨o, od, I⟩ := hI h p
    exact I.type
  it := fun M h X _ => by
    obtain ⟨cd, hc⟩ := Option.isSome_iff_exists.mp k.is
    unfold clsIn at hc
    split at hc
    · rename_i c' d' cd' sl' ho
      intro A' Q' E' s' kk q
      unfold isType loadHead
      exact wpAny_bind (wpAny_loadPart (kk _ _ (X _ _ ho)) (wpAny_pure q))
    · cases hc
  ne := fun h tp dd its n sl X htp => by
    obtain ⟨cd, hc⟩ := Option.isSome_iff_exists.mp k.is
    refine Bool.eq_false_iff.mpr fun q => ?_
    have e : C = tp := Value.ref.inj (beq_iff_eq.mp q)
    subst e
    unfold clsIn at hc
    split at hc
    · rename_i c' d' cd' sl' ho
      have z := (X _ _ ho).symm.trans htp
      cases z
    · cases hc
  ca := fun X p q => by
    obtain ⟨o, od, I⟩ := hI _ p
    exact exc_class X I k q
theorem kitx_exc {e : Addr} (k : ExcK K C) : KitX K (.ref e) (.ref C) (ExcAt e C) := kitx_inst (fun _ p => let ⟨o, I⟩ := ExcAt.inst p; ⟨o, none, I⟩) k
end
end PySem.W

/-! ## errors: how one lies in the heap, how it leaves a frame, how it is noted -/
namespace L2
open PySem PySem.Spec PyProof.Rows

/-- an error with its class, its own dict, its newest record and that record's mark; z is so if another error was handled when it was raised -/
def ErrO (h : Heap) (e : Addr) (c : Value) (d : Option Addr) (T : Addr) (fl : Value) (z : Prop) : Prop :=
  ∃ oe vs oT ts, h.get? e = some oe ∧ oe.cls = c ∧ oe.dict = d ∧ oe.data = .fields vs ∧ vs[1]? = some (.ref T) ∧ T ≠ e ∧ h.get? T = some oT ∧ oT.data = .fields ts ∧ ts[3]? = some fl ∧ (vs[2]? = some .none ∨ z) ∧ ∃ C, c = .ref C
theorem ErrO.imp {h : Heap} {e T : Addr} {c : Value} {d : Option Addr} {fl : Value} {z z' : Prop} (x : ErrO h e c d T fl z) (f : z → z') : ErrO h e c d T fl z' := by
  obtain ⟨oe, vs, oT, ts, a1, a2, a3, a4, a5, a6, a7, a8, a9, b, b'⟩ := x
  exact ⟨oe, vs, oT, ts, a1, a2, a3, a4, a5, a6, a7, a8, a9, b.imp id f, b'⟩
/-- an error just made: no record yet -/
def ErrN (h : Heap) (e : Addr) (c : Value) (d : Option Addr) (z : Prop) : Prop := ∃ oe vs, h.get? e = some oe ∧ oe.cls = c ∧ oe.dict = d ∧ oe.data = .fields vs ∧ vs[1]? = some Value.none ∧ (vs[2]? = some .none ∨ z) ∧ ∃ C, c = .ref C
/-- of the frames the slots may change, of ex anything -/
def Moved (fs ex : List Addr) (h h' : Heap) : Prop :=
  (∀ b o, b ∉ fs → b ∉ ex → h.get? b = some o → h'.get? b = some o) ∧ ∀ b o, b ∈ fs → h.get? b = some o → ∃ sl, h'.get? b = some { o with slots := sl }
theorem Moved.any {fs ex : List Addr} {h h' : Heap} (m : Moved fs ex h h') {b : Addr} {o : Obj} (e : h.get? b = some o) (hx : b ∉ ex) : ∃ sl, h'.get? b = some { o with slots := sl } := by
  by_cases hb : b ∈ fs
  · exact m.2 b o hb e
  · exact ⟨o.slots, m.1 b o hb hx e⟩
theorem Moved.then {fs ex : List Addr} {h h1 h2 : Heap} {T : Addr} (a : Moved fs ex h h1) (b : Moved [] [T] h1 h2) (hT : h.get? T = none) (hf : ∀ c ∈ fs, c ∉ ex) : Moved fs ex h h2 := by
  have ne : ∀ c o, h.get? c = some o → c ∉ [T] := fun c o e z => by
    rw [List.mem_singleton.mp z, hT] at e
    cases e
  refine ⟨fun c o h1 h2 e => b.1 c o (by simp) (ne c o e) (a.1 c o h1 h2 e), fun c o hc e => ?_⟩
  obtain ⟨sl, q⟩ := a.2 c o hc e
  exact ⟨sl, b.1 c _ (by simp) (ne c o e) q⟩

section
variable {M : Model} {A : Around} {E : Value → Shared → Prop} {s : Shared} {base : Heap} {env : Env} {outer : List Env} {L e T : Addr} {c : Value} {d : Option Addr} {z : Prop}
theorem fr_fields {h : Heap} {l : List Env} {ob : Obj} {vs : Array Value} (hl : h.FunFrames base l) (he : h.get? e = some ob) (hd : ob.data = .fields vs) : e ∉ frs l := fun z => by
  obtain ⟨_, o, ho, q⟩ := hl.mem z
  rw [ho] at he
  cases he
  exact q vs hd
theorem entry_ok {oe : Obj} {vs : Array Value} {head : Value} {hadNext : Bool} {Q : Unit → Shared → Prop} (hfr : A.frames = some (env :: outer)) (hl : s.heap.FunFrames base (env :: outer)) (hf : env.frame = some L)
    (he : s.heap.get? e = some oe) (hd : oe.data = .fields vs) (hz : 1 < vs.size) (hz2 : (vs[2]? = some .none ∨ z) ∧ ∃ C, oe.cls = .ref C)
    (h : ∀ h' T, ErrO h' e oe.cls oe.dict T (rawInt L) z → Moved (frs (env :: outer)) [e] s.heap h' → s.heap.get? T = none → Q () { s with heap := h' }) :
    wpAny M A (do let a ← frameOf env; let pl ← entryPlaceOf L hadNext; let b ← EntryCells.newEntry head a .none (rawInt L) .none pl; setField (.ref e) 1 b) Q E s := by
  have hn := fr_fields hl he hd
  refine wpAny_bind (wpAny_frameOf_fun hfr hl hf fun g hg => wpAny_bind (wpAny_entryPlaceOf fun pl hpl => ?_))
  have e1 : g.get? e = some oe := (hg.2.1 e hn).trans he
  unfold EntryCells.newEntry PySem.newFields; refine wpAny_bind (wpAny_newObj_type ?_ (hpl.sizeOk5 _ _ _ _ _))
  generalize harr : ([head, Value.ref L, .none, rawInt L, .none] ++ (if pl.isEmpty then List.replicate 6 Value.none else pl)).toArray = arr
  have h3 : arr[3]? = some (rawInt L) := by rw [← harr]; simp
  have e2 := Heap.get?_push_of_some (h := g) ⟨Value.type "traceback", none, Data.fields arr, #[]⟩ e1
  have hTe : g.objs.size ≠ e := Nat.ne_of_gt (Heap.lt_size e1)
  have dat := Obj.data_mapFields hd (·.setIfInBounds 1 (Value.ref g.objs.size))
  refine wpAny_setField e2 hd hz (h _ g.objs.size ⟨_, _, ⟨Value.type "traceback", none, Data.fields arr, #[]⟩, arr, Heap.get?_update_self _ e2 (Obj.isFreed_of_fields dat), Obj.cls_mapFields _ _, ?_, dat, by simp [hz], hTe, ?_, rfl, h3, hz2.1.imp (fun q => by rw [Array.getElem?_setIfInBounds_ne (by decide)]; exact q) id, hz2.2⟩ ⟨fun b o hb hx q => ?_, fun b o hb q => ?_⟩ ?_)
  · obtain ⟨oc, od, oda, osl⟩ := oe
    cases hd
    rfl
  · exact (Heap.get?_update_other _ _ (Ne.symm hTe)).trans (Heap.get?_push_size g rfl)
  · have nb : e ≠ b := fun z => hx (by simp [z])
    exact (Heap.get?_update_other _ _ nb).trans (Heap.get?_push_of_some _ ((hg.2.1 b hb).trans q))
  · obtain ⟨sl, r⟩ := hg.2.2 b o q
    have nb : e ≠ b := fun z => hn (z ▸ hb)
    exact ⟨sl, (Heap.get?_update_other _ _ nb).trans (Heap.get?_push_of_some _ r)⟩
  · cases q : s.heap.get? g.objs.size with
    | none => rfl
    | some o =>
      have z := Heap.lt_size q
      rw [← hg.1] at z
      exact absurd z (Nat.lt_irrefl _)
/-- the record of this frame, of an error just made -/
theorem note_new {Q : Unit → Shared → Prop} (hfr : A.frames = some (env :: outer)) (hl : s.heap.FunFrames base (env :: outer)) (hf : env.frame = some L) (hE : ErrN s.heap e c d z)
    (h : ∀ h' T, ErrO h' e c d T (rawInt L) z → Moved (frs (env :: outer)) [e] s.heap h' → s.heap.get? T = none → Q () { s with heap := h' }) : wpAny M A (noteFrame (.ref e) env) Q E s := by
  obtain ⟨oe, vs, he, rfl, rfl, hd, h1, h2⟩ := hE
  unfold noteFrame; simp only [hf]; refine wpAny_bind (wpAny_field he hd h1 ?_)
  rw [if_neg (by decide)]; exact entry_ok hfr hl hf he hd (Array.getElem?_eq_some_iff.mp h1).1 h2 h
/-- the record of this frame, of an error that came from below -/
theorem note_next {Q : Unit → Shared → Prop} (hfr : A.frames = some (env :: outer)) (hl : s.heap.FunFrames base (env :: outer)) (hf : env.frame = some L) (hE : ErrO s.heap e c d T .none z)
    (h : ∀ h' T', ErrO h' e c d T' (rawInt L) z → Moved (frs (env :: outer)) [e, T] s.heap h' → s.heap.get? T' = none → Q () { s with heap := h' }) : wpAny M A (noteFrame (.ref e) env) Q E s := by
  obtain ⟨oe, vs, oT, ts, he, rfl, rfl, hd, h1, hTe, hT, hdT, h3, h2⟩ := hE
  have nT := fr_fields hl hT hdT
  unfold noteFrame; simp only [hf]; refine wpAny_bind (wpAny_field he hd h1 ?_)
  rw [if_pos (show (Value.ref T != Value.none) = true by simp)]; refine wpAny_bind (wpAny_field hT hdT h3 ?_)
  rw [if_neg (show ¬ (Value.none == rawInt L) = true by simp [rawInt])]; refine wpAny_bind (wpAny_setField hT hdT (Array.getElem?_eq_some_iff.mp h3).1 ?_)
  have oth : ∀ b, b ≠ T → (s.heap.update T (Obj.mapFields (·.setIfInBounds 3 Value.none))).get? b = s.heap.get? b := fun b hb => Heap.get?_update_other _ _ fun z => hb z.symm
  have hl2 : (s.heap.update T (Obj.mapFields (·.setIfInBounds 3 Value.none))).FunFrames base (env :: outer) := hl.of_keeps fun b o hb q => ⟨o, (oth b fun z => by subst z; rw [hT] at hb; cases hb; exact q ts hdT).trans hb, rfl⟩
  refine entry_ok (s := { s with heap := s.heap.update T (Obj.mapFields (·.setIfInBounds 3 Value.none)) }) hfr hl2 hf ((oth e fun z => hTe z.symm).trans he) hd (Array.getElem?_eq_some_iff.mp h1).1 h2 fun h' T' x y z => h h' T' x ⟨fun b o hb hx q => ?_, fun b o hb q => ?_⟩ ?_
  · have nb : b ≠ T := fun w => hx (by simp [w])
    exact y.1 b o hb (fun w => hx (by simp [List.mem_singleton.mp w])) ((oth b nb).trans q)
  · have nb : b ≠ T := fun w => nT (w ▸ hb)
    exact y.2 b o hb ((oth b nb).trans q)
  · by_cases w : T' = T
    · subst w
      have q := Heap.get?_update_self (Obj.mapFields (·.setIfInBounds 3 Value.none)) hT (Obj.isFreed_of_fields (Obj.data_mapFields hdT _))
      have z' : (s.heap.update T' (Obj.mapFields (·.setIfInBounds 3 Value.none))).get? T' = none := z
      rw [z'] at q
      cases q
    · exact (oth T' w).symm.trans z
/-- its mark goes -/
theorem flight_ok {fl : Value} {Q : Unit → Shared → Prop} (hE : ErrO s.heap e c d T fl z) (h : ∀ h', ErrO h' e c d T .none z → Moved [] [T] s.heap h' → Q () { s with heap := h' }) : wpAny M A (setFlight (.ref e) none) Q E s := by
  obtain ⟨oe, vs, oT, ts, he, hc, hdi, hd, h1, hTe, hT, hdT, h3, h2⟩ := hE
  have hz : 3 < ts.size := (Array.getElem?_eq_some_iff.mp h3).1
  refine wpAny_setFlight_none he hd h1 hT hdT hz (h _ ⟨oe, vs, _, _, (Heap.get?_update_other _ _ hTe).trans he, hc, hdi, hd, h1, hTe, Heap.get?_update_self _ hT (Obj.isFreed_of_fields (Obj.data_mapFields hdT _)), Obj.data_mapFields hdT _, by simp [hz], h2⟩ ⟨fun b o _ hb q => ?_, fun b _ hb => absurd hb (by simp)⟩)
  have nb : T ≠ b := fun z => hb (by simp [z])
  exact (Heap.get?_update_other _ _ nb).trans q
theorem leave_new {Q : Unit → Shared → Prop} (hfr : A.frames = some (env :: outer)) (hl : s.heap.FunFrames base (env :: outer)) (hf : env.frame = some L) (hE : ErrN s.heap e c d z)
    (h : ∀ h' T, ErrO h' e c d T .none z → Moved (frs (env :: outer)) [e] s.heap h' → s.heap.get? T = none → Q () { s with heap := h' }) : wpAny M A (leaving env (.ref e)) Q E s := by
  have ne : ∀ b ∈ frs (env :: outer), b ∉ [e] := fun b hb z => by
    obtain ⟨oe, vs, he, _, _, hd, _⟩ := hE
    exact fr_fields hl he hd (List.mem_singleton.mp z ▸ hb)
  unfold leaving; refine wpAny_bind (note_new hfr hl hf hE fun h1 T x y z => flight_ok (s := { s with heap := h1 }) x fun h2 u v => h h2 T u (y.then v z ne) z)
theorem leave_next {Q : Unit → Shared → Prop} (hfr : A.frames = some (env :: outer)) (hl : s.heap.FunFrames base (env :: outer)) (hf : env.frame = some L) (hE : ErrO s.heap e c d T .none z)
    (h : ∀ h' T', ErrO h' e c d T' .none z → Moved (frs (env :: outer)) [e, T] s.heap h' → s.heap.get? T' = none → Q () { s with heap := h' }) : wpAny M A (leaving env (.ref e)) Q E s := by
  have ne : ∀ b ∈ frs (env :: outer), b ∉ [e, T] := fun b hb z => by
    obtain ⟨oe, vs, oT, ts, he, _, _, hd, _, _, hT, hdT, _⟩ := hE
    rcases List.mem_cons.mp z with z | z
    · exact fr_fields hl he hd (z ▸ hb)
    · exact fr_fields hl hT hdT (List.mem_singleton.mp z ▸ hb)
  unfold leaving; refine wpAny_bind (note_next hfr hl hf hE fun h1 T' x y z => flight_ok (s := { s with heap := h1 }) x fun h2 u v => h h2 T' u (y.then v z ne) z)
end

/-! ### what is tracked stays -/
section
variable {P : Program} {w : World}
theorem ObjOk.get {H : Hp} {h : Heap} {a : Addr} {o : HO} (x : ObjOk P w H h a o) : ∃ ob, h.get? a = some ob := by
  cases o with
  | lst xs => obtain ⟨_, _, _, _, e⟩ := x; exact ⟨_, e⟩
  | tup xs => obtain ⟨_, _, _, _, e, _⟩ := x; exact ⟨_, e⟩
  | dK kvs => obtain ⟨_, _, _, _, o, _, _, e, _⟩ := x; exact ⟨_, e⟩
  | dT kvs => obtain ⟨_, _, _, _, o, _, _, e, _⟩ := x; exact ⟨_, e⟩
  | set S n => obtain ⟨o, _, _, _, e, _⟩ := x; exact ⟨_, e⟩
  | ins C dx fs => obtain ⟨_, _, _, e, _⟩ := x; exact ⟨_, e⟩
  | own y => exact x
  | xd fs => obtain ⟨_, ⟨_, _, _, e, _⟩, _⟩ := x; exact ⟨_, e⟩
  | rng lo hi => obtain ⟨_, _, _, e⟩ := x; exact ⟨_, e⟩
  | frz ob u => obtain ⟨e, _⟩ := x; exact ⟨_, e⟩
  | tbl ps => exact ⟨_, x⟩
  | met f y => exact ⟨_, x⟩
  | ext φ => obtain ⟨_, e, _⟩ := x; exact e
theorem HOk.gone {H : Hp} {h : Heap} {a : Addr} (x : HOk P w H h) (e : h.get? a = none) : H a = none := by
  cases q : H a with
  | none => rfl
  | some o =>
    obtain ⟨ob, r⟩ := (x a o q).get
    rw [e] at r
    cases r
theorem HOk.moved {H : Hp} {h h' : Heap} {fs ex : List Addr} (x : HOk P w H h) (m : Moved fs ex h h') (hf : ∀ b ∈ fs, H b = none) (hx : ∀ b ∈ ex, H b = none) : HOk P w H h' := fun a o e => by
  have nn : ∀ {b : Addr} {u : HO}, H b = some u → b ∉ fs ∧ b ∉ ex := fun {b u} q => ⟨fun z => (by rw [hf b z] at q; cases q), fun z => (by rw [hx b z] at q; cases q)⟩
  refine (x a o e).stay (fun b u hb q => ?_) (fun _ q => q) fun _ _ q => q
  rcases hb with rfl | hb
  · exact m.1 _ _ (nn e).1 (nn e).2 q
  · exact m.1 _ _ (nn hb).1 (nn hb).2 q
theorem Un.moved {fs0 ex0 fs ex : List Addr} {H H' : Hp} {g h h' : Heap} (u : Un fs0 ex0 H H' g h) (m : Moved fs ex h h') (hf : ∀ b ∈ fs, b ∈ fs0 ∨ g.get? b = none) (hx : ∀ b ∈ ex, g.get? b = none) : Un fs0 ex0 H H' g h' := by
  have nx : ∀ {b : Addr} {o : Obj}, g.get? b = some o → b ∉ ex := fun {b o} q z => by rw [hx b z] at q; cases q
  refine ⟨fun b o q n h1 h2 => ?_, fun b o q n h1 h2 => ?_, u.free, fun b o q h2 => ?_, u.tups, u.frzs, u.tbls⟩
  · refine m.1 b o (fun z => ?_) (nx q) (u.keep b o q n h1 h2)
    rcases hf b z with r | r
    · exact h1 r
    · rw [r] at q; cases q
  · obtain ⟨sl, e1⟩ := u.slot b o q n h1 h2
    obtain ⟨sl', e2⟩ := m.any e1 (nx q)
    exact ⟨sl', e2⟩
  · obtain ⟨o', e1⟩ := u.there b o q h2
    obtain ⟨sl, e2⟩ := m.any e1 (nx q)
    exact ⟨_, e2⟩
/-- the state of a body behind such a move -/
theorem Inv.moved {X : Cx} {pins : List (Addr × Obj)} {σ : St} {H : Hp} {s : Shared} {h' : Heap} {ex : List Addr} {t' : Nat} (I : Inv X pins σ H s) (m : Moved (frs X.stack) ex s.heap h')
    (hx : ∀ b ∈ ex, X.s₀.heap.get? b = none ∧ H b = none ∧ b ≠ X.env.locals ∧ (∀ x c, X.env.cells.lookup x = some c → c ≠ b) ∧ ∀ p ∈ X.pn ++ pins, p.1 ≠ b) : Inv X pins σ H { s with heap := h', toks := t' } := by
  have hs : ∀ b ∈ frs X.stack, b ∈ X.fs ∨ X.s₀.heap.get? b = none := fun b hb => by
    rcases List.mem_cons.mp (I.stkSub b hb) with r | r
    · exact .inr (by rw [r]; exact Heap.get?_none_of_le I.ok.above)
    · exact .inl r
  have cK : ∀ x c, X.env.cells.lookup x = some c → ∀ v, s.heap.IsCell c v → h'.IsCell c v := fun x c e v ⟨o, ho, hd⟩ => by
    obtain ⟨sl, q⟩ := m.any ho fun z => (hx c z).2.2.2.1 x c e rfl
    exact ⟨_, q, hd⟩
  refine ⟨I.ok, I.os, I.bare, I.base.moved m hs fun b hb => (hx b hb).1, ?_, fun x c e => ?_, I.free, I.freeC, fun p hp => ?_, I.hok.moved m I.stkFree fun b hb => (hx b hb).2.1, I.len⟩
  · obtain ⟨mm, ⟨o, es, ep, ho, r⟩, hl⟩ := I.loc
    obtain ⟨sl, q⟩ := m.any ho fun z => (hx _ z).2.2.1 rfl
    refine ⟨mm, ⟨_, es, ep, q, r⟩, fun i x v e1 e2 e3 => ?_⟩
    obtain ⟨u, ru, l⟩ := hl i x v e1 e2 e3
    refine ⟨u, ru, l.imp id fun ⟨k, c, e, z⟩ => ⟨k, c, e, cK x c e _ z⟩⟩
  · obtain ⟨v, z⟩ := I.cell x c e
    exact ⟨v, cK x c e v z⟩
  · obtain ⟨e, n, ne, nf, dd⟩ := I.pin p hp
    refine ⟨m.1 _ _ (fun z => ?_) (fun z => (hx _ z).2.2.2.2 p hp rfl) e, n, ne, nf, dd⟩
    exact (List.mem_cons.mp (I.stkSub _ z)).elim ne nf
end
end L2

/-! ## errors of the program's own classes: raised, passed on, caught -/
namespace L2
open PySem PySem.Spec PyProof.Rows

def baseVE : List Value := [.type "ValueError", .type "Exception", .type "BaseException", .type "object"]
/-- an error class of the program's own, as the top has made it -/
structure Err (K : PySem.W.Frag) (mg : Str → Option Value) (x : Str) (C : Addr) : Prop where
  bound : mg x = some (.ref C)
  ex : PySem.W.excIn K C baseVE "ValueError.__new__" = true
  kx : PySem.W.ExcK K C
theorem exc_obj {K : PySem.W.Frag} {h : Heap} {C : Addr} (X : K.In h) (q : PySem.W.excIn K C baseVE "ValueError.__new__" = true) :
    ∃ bm N nm qn bs hdct sn sub ab col dd k0 k1 k2 k3 k5 mN, h.get? C = some (excClassObj nm qn C N bs bm hdct sn sub ab col dd k0 k1 k2 k3 k5 "ValueError.__new__") ∧ h.Ns N mN ∧ mN "__init__" = none ∧ OwnTail h baseVE bm := by
  unfold PySem.W.excIn at q
  split at q
  · rename_i dd cd sl ho
    split at q
    · rename_i C' bm k0 k1 k2 k3 n k5 hm hs
      simp only [Bool.and_eq_true, beq_iff_eq, Bool.not_eq_true'] at q
      obtain ⟨⟨⟨⟨⟨rfl, rfl⟩, hdel⟩, ht⟩, hok⟩, hni⟩ := q
      obtain ⟨nm, bs, mro, ns, qn, hd, sn, sub, ab, col, del⟩ := cd
      dsimp only at hm hdel hok hni
      subst hm hdel
      have hsl : sl = #[k0, k1, k2, k3, some (.builtin "ValueError.__new__"), k5] := by
        obtain ⟨l⟩ := sl
        simp only at hs
        rw [hs]
      subst hsl
      exact ⟨bm, ns, nm, qn, bs, hd, sn, sub, ab, col, dd, k0, k1, k2, k3, k5, _, X _ _ ho, .of_isNs (PySem.W.isNs_of_in X hok), PySem.W.nsMap_none_of_in X hok hni, PySem.W.tail_of_in X ht⟩
    · cases q
  · cases q

/-- an error class that lies there -/
def IsExc (h : Heap) (C : Addr) : Prop := ∃ bm N nm qn bs hdct sn sub ab col dd k0 k1 k2 k3 k5, h.get? C = some (excClassObj nm qn C N bs bm hdct sn sub ab col dd k0 k1 k2 k3 k5 "ValueError.__new__") ∧ OwnTail h baseVE bm
theorem is_exc {K : PySem.W.Frag} {C : Addr} (q : PySem.W.excIn K C baseVE "ValueError.__new__" = true) (h : Heap) (X : K.In h) : IsExc h C := by
  obtain ⟨bm, N, nm, qn, bs, hdct, sn, sub, ab, col, dd, k0, k1, k2, k3, k5, mN, hC, _, _, T⟩ := exc_obj X q
  exact ⟨bm, N, nm, qn, bs, hdct, sn, sub, ab, col, dd, k0, k1, k2, k3, k5, hC, T⟩
/-- an error class of the program's own, whether or not it has an __init__ of its own -/
structure ErrB (K : PySem.W.Frag) (mg : Str → Option Value) (x : Str) (C : Addr) : Prop where
  bound : mg x = some (.ref C)
  ex : ∀ h, K.In h → IsExc h C
  kx : PySem.W.ExcK K C
theorem Err.b {K : PySem.W.Frag} {mg : Str → Option Value} {x : Str} {C : Addr} (T : Err K mg x C) : ErrB K mg x C := ⟨T.bound, is_exc T.ex, T.kx⟩
/-- how an error lies behind a call -/
def CX1 (P : Program) (w : World) : CXT := fun outer H s E e s' =>
  ∃ (ea T : Addr) (c : Value) (d : Option Addr) (H' : Hp), e = .ref ea ∧ s'.os = s.os ∧ AllBare s'.gens ∧ Un (frs outer) [] H H' s.heap s'.heap ∧ HOk P w H' s'.heap ∧ ErrO s'.heap ea c d T .none (E .none none H') ∧ s.heap.get? ea = none ∧ s.heap.get? T = none ∧ H' ea = none ∧ H' T = none ∧ E c d H'

theorem Inv.none0 {X : Cx} {pins : List (Addr × Obj)} {σ : St} {H : Hp} {s : Shared} {b : Addr} (I : Inv X pins σ H s) (hx : b ∉ X.ex) (e : s.heap.get? b = none) : X.s₀.heap.get? b = none := by
  cases q : X.s₀.heap.get? b with
  | none => rfl
  | some o =>
    obtain ⟨o', r⟩ := I.base.there b o q hx
    rw [e] at r
    cases r

section
variable {P : Program} {w : World} {K : PySem.W.Frag} {mg : Str → Option Value} {base : Heap} {N : List Str} {qual : Str} {scope : Scope} {f : Addr} {cdv : Value} {A : Around} {outer : List Env} {s₀ : Shared} {H₀ : Hp} {E : XK}
/-- an error just made leaves a def's body -/
theorem xe_new {pins : List (Addr × Obj)} {σ : St} {H : Hp} {s : Shared} {e : Addr} {c : Value} {d : Option Addr} (I : Inv (cxOf (CX1 P w) P w K mg base N qual scope f cdv A outer s₀ H₀ E) pins σ H s) (he : ErrN s.heap e c d (E .none none H)) (h0 : s₀.heap.get? e = none) (hH : H e = none) (hE : E c d H) :
    (cxOf (CX1 P w) P w K mg base N qual scope f cdv A outer s₀ H₀ E).xe (.ref e) s := by
  show wpAny _ _ (leaving _ (.ref e)) _ _ s
  refine leave_new I.ok.frames I.stack rfl he fun h' T eo mv hT => ?_
  refine ⟨e, T, c, d, H, rfl, I.os, I.bare, ?_, ?_, eo, h0, I.none0 (fun z => by cases z) hT, hH, I.hok.gone hT, hE⟩
  · refine Un.moved (show Un (frs outer) [] H₀ H s₀.heap s.heap from I.base) mv (fun b hb => ?_) fun b hb => ?_
    · rcases List.mem_cons.mp (show b ∈ s₀.heap.objs.size :: frs outer from hb) with z | z
      · exact .inr (by rw [z]; exact Heap.get?_none_of_le (Nat.le_refl _))
      · exact .inl z
    · rw [List.mem_singleton.mp hb]; exact h0
  · refine I.hok.moved mv I.stkFree fun b hb => ?_
    rw [List.mem_singleton.mp hb]; exact hH
/-- an error from below leaves a def's body -/
theorem xe_next {pins : List (Addr × Obj)} {σ : St} {H : Hp} {s : Shared} {E2 : XK} {e : Value} {s' : Shared} (hE : ∀ c d H', E2 c d H' → E c d H') (I : Inv (cxOf (CX1 P w) P w K mg base N qual scope f cdv A outer s₀ H₀ E) pins σ H s) (h : CX1 P w (cxOf (CX1 P w) P w K mg base N qual scope f cdv A outer s₀ H₀ E).stack H s E2 e s') :
    (cxOf (CX1 P w) P w K mg base N qual scope f cdv A outer s₀ H₀ E).xe e s' := by
  obtain ⟨ea, T, c, d, H', rfl, os, bare, un, hok, eo, n1, n2, m1, m2, q⟩ := h
  have I' := I.call' (ch := []) os un hok bare (fun b z => by cases z)
  show wpAny _ _ (leaving _ (.ref ea)) _ _ s'
  refine leave_next I'.ok.frames I'.stack rfl eo fun h' T' eo' mv hT => ?_
  have z1 := I.none0 (b := ea) (fun z => by cases z) n1
  have z2 := I.none0 (b := T) (fun z => by cases z) n2
  refine ⟨ea, T', c, d, H', rfl, I'.os, I'.bare, ?_, ?_, eo'.imp (hE _ _ _), z1, I'.none0 (fun z => by cases z) hT, m1, I'.hok.gone hT, hE _ _ _ q⟩
  · refine Un.moved (show Un (frs outer) [] H₀ H' s₀.heap s'.heap from I'.base) mv (fun b hb => ?_) fun b hb => ?_
    · rcases List.mem_cons.mp (show b ∈ s₀.heap.objs.size :: frs outer from hb) with z | z
      · exact .inr (by rw [z]; exact Heap.get?_none_of_le (Nat.le_refl _))
      · exact .inl z
    · have hb' : b = ea ∨ b = T := by simpa using hb
      rcases hb' with rfl | rfl
      · exact z1
      · exact z2
  · refine I'.hok.moved mv I'.stkFree fun b hb => ?_
    have hb' : b = ea ∨ b = T := by simpa using hb
    rcases hb' with rfl | rfl
    · exact m1
    · exact m2
/-- raise C("..") in a def's body -/
theorem ps_raise {x : Str} {C : Addr} {np cpos pos cp : Pos} {m : Str} {k : Nat} (T : Err K mg x C) (hh : A.handled = none) (hg : Gl (cxOf (CX1 P w) P w K mg base N qual scope f cdv A outer s₀ H₀ E) x) (hd : (x == ("__debug__" : Str)) = false := by decide) :
    PS (cxOf (CX1 P w) P w K mg base N qual scope f cdv A outer s₀ H₀ E) (.Raise (some (.Call (.Name x np) [.Constant (.str m) k cp] [] cpos)) none pos) (fun _ _ H => E (.ref C) none H) := by
  intro pins s σ H D I h
  obtain ⟨bm, N', nm, qn, bs, hdct, sn, sub, ab, col, dd, k0, k1, k2, k3, k5, mN, hC, hN, hni, TL⟩ := exc_obj I.ok.mod.kin T.ex
  refine wpAny_Raise_call_subT PySem.F.excBase_ValueError (C := C) (bmB := baseVE) (bm := bm) (nm := nm) (q := qn) (N := N') (bs := bs) (hdct := hdct) (sn := sn) (sub := sub) (ab := ab) (col := col) (dd := dd) (k0 := k0) (k1 := k1) (k2 := k2) (k3 := k3) (k5 := k5) (mN := mN) (TL.hasType (X := "BaseException") (b := true) (by decide)) hh rfl hni ?_
  refine ld_glob I hg T.bound ⟨rfl, ?_⟩ hd
  have hA : PA (cxOf (CX1 P w) P w K mg base N qual scope f cdv A outer s₀ H₀ E) [.Constant (.str m) k cp] _ := pa_cons pe_str pa_nil
  refine Calls.evalArgs_plain (thn (hA cpos pins s σ H (fun vs H' => vs = [.str m] ∧ H' = H) I ⟨rfl, rfl⟩) fun us s1 ⟨vs, H1, I1, r1, q1⟩ => ?_)
  obtain ⟨rfl, rfl⟩ := q1
  refine ⟨rfl, ?_, I1.bk _ _ hC, hN.keeps I1.bk, TL.keeps I1.bk, fun h' e hm => ?_⟩
  · have := r1.length
    rw [List.length_singleton] at this
    show us.length ≤ sizeLine
    rw [← this]
    decide
  · have I2 : Inv (cxOf (CX1 P w) P w K mg base N qual scope f cdv A outer s₀ H₀ E) pins σ H1 { s1 with heap := h' } := I1.kept (t' := s1.toks) hm.keeps
    obtain ⟨t, ht, _, _⟩ := hm.there
    refine xe_new I2 ⟨_, _, ht, rfl, rfl, rfl, rfl, .inl rfl, _, rfl⟩ (I1.none0 (fun z => by cases z) hm.new) (I1.hok.gone hm.new) h
end

/-! ### matching -/
theorem excMatches_own {M : Model} {A : Around} {E : Value → Shared → Prop} {nm q nm' q' : Str} {C N D N' : Addr} {bs bm bs' bm' : List Value} {hdct hdct' : Bool} {sn sn' : List Str} {sub sub' : List Value} {ab ab' : Bool} {col col' : Option Bool} {dd dd' : Option Addr}
    {k0 k1 k2 k3 k5 j0 j1 j2 j3 j5 : Option Value} {newId : String} {h : Heap} {g : Array GenState} {d : Drawn} {t : Nat} {os : OsState} {e : Addr} {oe : Obj} {Q : Bool → Shared → Prop}
    (hC : h.get? C = some (excClassObj nm q C N bs bm hdct sn sub ab col dd k0 k1 k2 k3 k5 newId)) (hD : h.get? D = some (excClassObj nm' q' D N' bs' bm' hdct' sn' sub' ab' col' dd' j0 j1 j2 j3 j5 newId)) (he : h.get? e = some oe) (hcls : oe.cls = .ref C)
    (hbase : bm'.contains (.type "BaseException") = true) (hc : (Value.ref C :: bm).contains (.ref D) = true)
    (hq : Q true ⟨h, g, d, t, os⟩) : wpAny M A (excMatches (.ref e) (.ref D)) Q E ⟨h, g, d, t, os⟩ := by
  have hcB : (Value.ref D :: bm').contains (.type "BaseException") = true := by rw [List.contains_cons, hbase, Bool.or_true]
  have f := tc_notTuple
  unfold excMatches
  repeat (first | (with_reducible refine wpAny_loadPart_at he ?_; rw [hcls]) | with_reducible refine wpAny_loadPart_at hD ?_ | (with_reducible refine wpAny_isSubtype_exc hD ?_; rw [hcB]) | (with_reducible refine wpAny_isSubtype_exc hC ?_; rw [hc]) | wp_step)
  exact hq
/-- the class at C is under the one at D -/
structure Under (K : PySem.W.Frag) (C D : Addr) : Prop where
  ex : ∀ h, K.In h → IsExc h C
  kx : PySem.W.ExcK K C
  sub : PySem.W.mroIn K C (.ref D) = some true
theorem mro_of {K : PySem.W.Frag} {h : Heap} {C D : Addr} {nm q : Str} {N : Addr} {bs bm : List Value} {hdct : Bool} {sn : List Str} {sub : List Value} {ab : Bool} {col : Option Bool} {dd : Option Addr} {k0 k1 k2 k3 k5 : Option Value} {newId : String}
    (X : K.In h) (hC : h.get? C = some (excClassObj nm q C N bs bm hdct sn sub ab col dd k0 k1 k2 k3 k5 newId)) (e : PySem.W.mroIn K C (.ref D) = some true) : (Value.ref C :: bm).contains (.ref D) = true := by
  unfold PySem.W.mroIn PySem.W.clsIn at e
  split at e
  · rename_i c' d' cd' sl' ho
    have z := X _ _ ho
    rw [hC] at z
    unfold excClassObj at z
    injection z with z
    injection z with z1 z2 z3 z4
    injection z3 with z3
    subst z3
    simp only [Option.bind_some] at e
    split at e
    · cases e
    · exact Option.some.inj e
  · cases e
theorem match_ok {K : PySem.W.Frag} {mg : Str → Option Value} {M : Model} {A : Around} {E : Value → Shared → Prop} {s : Shared} {e C D : Addr} {x : Str} {oe : Obj} {Q : Bool → Shared → Prop} (X : K.In s.heap) (u : Under K C D) (T : ErrB K mg x D) (he : s.heap.get? e = some oe) (hcls : oe.cls = .ref C) (hq : Q true s) :
    wpAny M A (excMatches (.ref e) (.ref D)) Q E s := by
  obtain ⟨h, g, d, t, os⟩ := s
  obtain ⟨bm, N, nm, qn, bs, hdct, sn, sub, ab, col, dd, k0, k1, k2, k3, k5, hC, _⟩ := u.ex _ X
  obtain ⟨bm', N', nm', qn', bs', hdct', sn', sub', ab', col', dd', j0, j1, j2, j3, j5, hD, TL⟩ := T.ex _ X
  exact excMatches_own hC hD he hcls (TL.hasType (X := "BaseException") (b := true) (by decide)) (mro_of X hC u.sub) hq

/-! ### within an except suite -/
abbrev Cx.caught (X : Cx) (e : Addr) : Cx := { X with A := X.A.mark (some (.ref e)), calm := false, xe := fun _ _ => False }
section
variable {X : Cx} {pins : List (Addr × Obj)} {σ : St} {H : Hp} {s : Shared} {e : Addr}
theorem Inv.caught (I : Inv X pins σ H s) (e : Addr) : Inv (X.caught e) pins σ H s :=
  ⟨⟨I.ok.mod, I.ok.kind, I.ok.glob, I.ok.blt, I.ok.above, I.ok.inj, I.ok.has, I.ok.cab, (fun z => by cases z), I.ok.frames, I.ok.stk, I.ok.exf, I.ok.bs, I.ok.bsz, I.ok.noex, I.ok.exfs, I.ok.funs, I.ok.frf⟩, I.os, I.bare, I.base, I.loc, I.cell, I.free, I.freeC, I.pin, I.hok, I.len⟩
theorem Inv.uncaught (ok : X.Ok) (I : Inv (X.caught e) pins σ H s) : Inv X pins σ H s := ⟨ok, I.os, I.bare, I.base, I.loc, I.cell, I.free, I.freeC, I.pin, I.hok, I.len⟩
/-- an object that lies there is tracked from now on -/
theorem Inv.track {o : HO} (I : Inv X pins σ H s) (hn : H e = none) (h0 : X.s₀.heap.get? e = none) (hl : e ≠ X.env.locals) (hc : ∀ x c, X.env.cells.lookup x = some c → c ≠ e) (hp : ∀ p ∈ X.pn ++ pins, p.1 ≠ e) (ob : ObjOk X.prog X.w (upd H e o) s.heap e o) : Inv X pins σ (upd H e o) s := by
  have ne : ∀ b u, X.s₀.heap.get? b = some u → b ≠ e := fun b u q z => by rw [z, h0] at q; cases q
  refine ⟨I.ok, I.os, I.bare, ⟨I.base.keep, I.base.slot, fun b u q n hx => ?_, I.base.there, fun b xs q => ?_, fun b u xs q => ?_, fun b ps q => ?_⟩, I.loc, I.cell, ?_, fun x c q => ?_, fun p hpp => ?_, fun b u q => ?_, I.len⟩
  · rw [upd_ne (ne b u q)]; exact I.base.free b u q n hx
  · have := I.base.tups b xs q
    rw [upd_ne (ne_of_none this hn)]; exact this
  · have := I.base.frzs b u xs q
    rw [upd_ne (ne_of_none this hn)]; exact this
  · obtain ⟨more, this⟩ := I.base.tbls b ps q
    exact ⟨more, by rw [upd_ne (ne_of_none this hn)]; exact this⟩
  · rw [upd_ne (Ne.symm hl)]; exact I.free
  · rw [upd_ne (hc x c q)]; exact I.freeC x c q
  · obtain ⟨a, b, c, d, f⟩ := I.pin p hpp
    exact ⟨a, by rw [upd_ne (hp p hpp)]; exact b, c, d, f⟩
  · by_cases hb : b = e
    · subst hb; rw [upd_same] at q; cases q; exact ob
    · rw [upd_ne hb] at q
      exact (I.hok b u q).stay (fun _ _ _ z => z) (fun c z => by rw [upd_ne (ne_of_none z hn)]; exact z) fun c xs z => by rw [upd_ne (ne_of_none z hn)]; exact z
end
end L2

namespace L2
open PySem PySem.Spec PyProof.Rows
/-! ### try: f(..) except D as n: suite -/
section
variable {X : Cx} {k : Nat} {f D : Addr} {fd : FuncData} {ps : List Str} {sp : Sp} {fx xd n : Str} {i : Nat} {p cpos epos np hpos pos : Pos} {e : Expr} {es : List Expr} {ta : TA} {b₀ : Stmt} {suite : List Stmt} {th : TS}
theorem set_weak {σ : St} {i : Nat} : ∀ (j : Nat) (v : V), (σ.set i none)[j]? = some (some v) → σ[j]? = some (some v) := fun j v h => by
  by_cases hj : i = j
  · subst hj
    by_cases hl : i < σ.length
    · rw [List.getElem?_set_self hl] at h
      cases h
    · rw [List.getElem?_eq_none (by rw [List.length_set]; omega)] at h
      cases h
  · rw [List.getElem?_set_ne hj] at h
    exact h
/-- behind the suite its name is gone -/
theorem gone_ok {M : Model} {A : Around} {E : Value → Shared → Prop} {pins : List (Addr × Obj)} {σ : St} {H : Hp} {s : Shared} {Q : Unit → Shared → Prop} (I : Inv X pins σ H s) (hi : X.N[i]? = some n) (hN : X.N.Nodup) (hl : X.env.scope.names.lookup n = some .local)
    (h : ∀ s', Inv X pins (σ.set i none) H s' → Q () s') : wpAny M A (do bindName X.env n .none; unbindBehindTheSuite X.env n hpos) Q E s := by
  obtain ⟨m, hn, hlk⟩ := id I.loc
  have hcls : (X.env.scope.kind == .class || (X.env.scope.kind == .module && X.env.locals != X.env.globals)) = false := by rw [I.ok.kind]; rfl
  refine PySem.wpAny_nameGoes_keeps hl hn hcls fun h' v hn' hs => ?_
  obtain ⟨oL, _, _, hoL, _⟩ := id hn
  have neL : ∀ b o, X.s₀.heap.get? b = some o → b ≠ X.env.locals := fun b o e => Nat.ne_of_lt (Nat.lt_of_lt_of_le (Heap.lt_size e) I.ok.above)
  refine h _ ⟨I.ok, I.os, I.bare, ⟨fun b o e q hb hx => (hs.2 b (neL b o e)).trans (I.base.keep b o e q hb hx), fun b o e q hb hx => ?_, I.base.free, fun b o e hx => ?_, I.base.tups, I.base.frzs, I.base.tbls⟩, ⟨_, hn', fun j y v' e1 e2 e3 => ?_⟩, fun y c e => ?_, I.free, I.freeC, fun q hq => ?_, fun b ob e => ?_, by rw [List.length_set]; exact I.len⟩
  · obtain ⟨sl, e1⟩ := I.base.slot b o e q hb hx
    exact ⟨sl, (hs.2 b (neL b o e)).trans e1⟩
  · obtain ⟨o', e1⟩ := I.base.there b o e hx
    exact ⟨o', (hs.2 b (neL b o e)).trans e1⟩
  · have e2' := set_weak j v' e2
    obtain ⟨u, ru, lk⟩ := hlk j y v' e1 e2' e3
    have hjy : y ≠ n := fun z => by
      subst z
      have hij : i = j := by
        have h1 := (List.getElem?_eq_some_iff.mp hi).1
        have h2 := (List.getElem?_eq_some_iff.mp e1).1
        rw [List.getElem?_eq_getElem h1] at hi
        rw [List.getElem?_eq_getElem h2] at e1
        exact nodup_inj hN h1 h2 ((Option.some.inj hi).trans (Option.some.inj e1).symm)
      subst hij
      have hl' : i < σ.length := (List.getElem?_eq_some_iff.mp e2').1
      rw [List.getElem?_set_self hl'] at e2
      cases e2
    refine ⟨u, ru, ?_⟩
    rcases lk with ⟨a, b⟩ | ⟨a, c, b, d⟩
    · exact .inl ⟨a, by show (if y = n then v else m y) = some u; rw [if_neg hjy]; exact b⟩
    · refine .inr ⟨a, c, b, ?_⟩
      obtain ⟨o, ho, hd⟩ := d
      exact ⟨o, (hs.2 c (I.cne y c b)).trans ho, hd⟩
  · obtain ⟨v, o, ho, hd⟩ := I.cell y c e
    exact ⟨v, o, (hs.2 c (I.cne y c e)).trans ho, hd⟩
  · obtain ⟨a, b, c, d, g⟩ := I.pin q hq
    exact ⟨(hs.2 _ c).trans a, b, c, d, g⟩
  · refine (I.hok b ob e).stay (fun c w' hc q => (hs.2 c ?_).trans q) (fun _ q => q) fun _ _ q => q
    rintro rfl
    rcases hc with rfl | hc
    · rw [I.free] at e; cases e
    · rw [I.free] at hc; cases hc

theorem Moved.wide {fs ex : List Addr} {h h' : Heap} (m : Moved [] ex h h') (hf : ∀ b ∈ fs, b ∉ ex) : Moved fs ex h h' :=
  ⟨fun b o _ hx e => m.1 b o (by simp) hx e, fun b o hb e => ⟨o.slots, m.1 b o (by simp) (hf b hb) e⟩⟩
/-- what is not there is nobody's -/
theorem Inv.out {pins : List (Addr × Obj)} {σ : St} {H : Hp} {s : Shared} {b : Addr} (I : Inv X pins σ H s) (hex : X.ex = []) (hb : s.heap.get? b = none) :
    X.s₀.heap.get? b = none ∧ H b = none ∧ b ≠ X.env.locals ∧ (∀ x c, X.env.cells.lookup x = some c → c ≠ b) ∧ ∀ p ∈ X.pn ++ pins, p.1 ≠ b := by
  refine ⟨I.none0 (by rw [hex]; simp) hb, I.hok.gone hb, fun z => ?_, fun x c q z => ?_, fun p hp z => ?_⟩
  · obtain ⟨m, ⟨o, es, ep, ho, _⟩, _⟩ := I.loc
    rw [z, ho] at hb; cases hb
  · obtain ⟨v, o, ho, _⟩ := I.cell x c q
    rw [z, hb] at ho; cases ho
  · have := (I.pin p hp).1
    rw [z, hb] at this; cases this
/-- a call under a wish about errors -/
theorem call_at {CX : CXT} {x : Str} {E2 : XK} {pins : List (Addr × Obj)} {σ : St} {H : Hp} {s : Shared} {Q : VK} (I : Inv X pins σ H s) (F : FnOk X.prog X.w X.K X.mg X.base CX k f fd ps sp) (hr : Room k X.A) (hg : Gl X x) (hm : X.mg x = some (.ref f)) (hk : PySem.W.keepIn X.K (.ref f) = true) (hb : Binds X.K fd ps [])
    (hx : ∀ (H : Hp) (s : Shared) (e : Value) (s' : Shared), Inv X pins σ H s → CX X.stack H s E2 e s' → X.xe e s')
    (ha : PA X (e :: es) ta) (h : ta σ H fun vs H1 => sp vs H1 Q E2) (hdb : (x == ("__debug__" : Str)) = false := by decide) (he : starEach (e :: es) X.env = (false, eval e X.env) :: starEach es X.env := by rfl) (hpl : (backTo pos (starEach es X.env)).any (·.1) = false := by rfl) :
    wpAny (model X.prog X.w) X.A (eval (.Call (.Name x p) (e :: es) [] pos) X.env) (EP X pins σ Q) X.xe s := by
  refine wpAny_Call_Name_kw (ld_glob I hg hm ?_ hdb)
  refine PySem.W.callWith_K (h₀ := X.base) I.ok.mod.kin hk (thn (ha pos pins s σ H _ I h) fun us s1 ⟨vs, H1, I1, r, q⟩ => ⟨I1.kIn, ?_⟩) he hpl
  have hl : us.length = ps.length := by rw [← r.length]; exact F.len _ _ _ _ q
  have hb' := hb s1 us I1.kIn (by rw [List.append_nil]; exact hl)
  rw [List.append_nil] at hb'
  refine wpAny_call (codeAny_mono (F.run X.A X.stack s1 H1 ⟨us, []⟩ us vs Q E2 hr I1.env0 hb' r q) fun r s' hq => ?_)
  cases r with
  | error e => exact hx H1 s1 e s' I1 hq
  | ok fl =>
    cases fl with
    | ret u => exact I1.after hq
    | next => exact False.elim hq
    | brk => exact False.elim hq
    | cont => exact False.elim hq
/-- with any wish about the errors that come -/
theorem ps_tryG {E2 : Ends → St → XK} (hE2 : ∀ Ds σ C d H2, E2 Ds σ (.ref C) d H2 → Under X.K C D ∧ ∀ ea, H2 ea = none → th { nx := fun σ2 H3 => Ds.nx (σ2.set i none) H3, rt := Ds.rt, bk := fun σ2 H3 => Ds.bk (σ2.set i none) H3, ct := fun σ2 H3 => Ds.ct (σ2.set i none) H3 } (σ.set i (some (.ref ea))) (upd H2 ea (.ext (PySem.W.ExcIs d ea C))))
    (hex : X.ex = []) (hst : X.stack = X.env :: X.outer) (hfr : X.env.frame = some X.env.locals) (F : FnOk X.prog X.w X.K X.mg X.base (CX1 X.prog X.w) k f fd ps sp) (hr : Room k X.A) (hg : Gl X fx) (hm : X.mg fx = some (.ref f)) (hk : PySem.W.keepIn X.K (.ref f) = true) (hb : Binds X.K fd ps [])
    (ha : ∀ Ex, PA (X.wish Ex) (e :: es) ta) (TD : ErrB X.K X.mg xd D) (hgd : Gl X xd) (hN : X.N.Nodup) (hi : X.N[i]? = some n) (hloc : X.env.scope.names.lookup n = some .local) (hs : ∀ ea, PSs (X.caught ea) (b₀ :: suite) th)
    (hdb : (fx == ("__debug__" : Str)) = false := by decide) (hdd : (xd == ("__debug__" : Str)) = false := by decide) (he : starEach (e :: es) X.env = (false, eval e X.env) :: starEach es X.env := by rfl) (hpl : (backTo cpos (starEach es X.env)).any (·.1) = false := by rfl) (hsw : swapsWith (.Call (.Name fx p) (e :: es) [] cpos) none epos.line X.env = pure false := by rfl) :
    PS X (.Try [.Expr (.Call (.Name fx p) (e :: es) [] cpos) epos] [.ExceptHandler (some (.Name xd np)) (some n) (b₀ :: suite) hpos] [] [] pos) (fun Ds σ H => ta σ H fun vs H1 => sp vs H1 (fun _ H2 => Ds.nx σ H2) (E2 Ds σ)) := by
  intro pins s σ H Ds I h
  refine wpAny_Try_except ?_
  have key : ∀ (e : Value) (s1 : Shared), (∃ (H1 : Hp) (s0 : Shared), Inv X pins σ H1 s0 ∧ CX1 X.prog X.w X.stack H1 s0 (E2 Ds σ) e s1) →
      wpAny (model X.prog X.w) X.A (noteFrame e X.env) (fun _ s₂ => wpAny (model X.prog X.w) X.A (setFlight e none) (fun _ s₃ => wpAny (model X.prog X.w) X.A (handleBy e X.env [.ExceptHandler (some (.Name xd np)) (some n) (b₀ :: suite) hpos]) (SP X pins Ds) X.xe s₃) X.xe s₂) X.xe s1 := by
    rintro e s1 ⟨H1, s0, I0, ea, T, c, d, H2, rfl, os, bare, un, hok, eo, n1, n2, m1, m2, hE⟩
    obtain ⟨C, rfl⟩ : ∃ C, c = .ref C := by
      obtain ⟨_, _, _, _, _, _, _, _, _, _, _, _, _, _, w⟩ := id eo
      exact w
    obtain ⟨und, hth⟩ := hE2 Ds σ C d H2 hE
    have I1 := I0.call' (ch := []) os un hok bare (fun b z => by cases z)
    obtain ⟨z1, _, z2, z3, z4⟩ := I0.out hex n1
    obtain ⟨y1, _, y2, y3, y4⟩ := I0.out hex n2
    refine note_next (by rw [I1.ok.frames, hst]) (by rw [← hst]; exact I1.stack) hfr eo fun h' T' eo' mv hT' => ?_
    rw [← hst] at mv
    have I2 : Inv X pins σ H2 { s1 with heap := h' } := I1.moved (t' := s1.toks) mv fun b hb => by
      have hb' : b = ea ∨ b = T := by simpa using hb
      rcases hb' with rfl | rfl
      · exact ⟨z1, m1, z2, z3, z4⟩
      · exact ⟨y1, m2, y2, y3, y4⟩
    have oT := I1.out hex hT'
    have fT : ∀ b ∈ frs X.stack, b ∉ [T'] := fun b hb q => by
      have q' := List.mem_singleton.mp q
      subst q'
      obtain ⟨_, o, ho, _⟩ := I1.stack.mem hb
      rw [hT'] at ho; cases ho
    refine flight_ok (s := { s1 with heap := h' }) eo' fun h2 eo2 mv2 => ?_
    have I3 : Inv X pins σ H2 { s1 with heap := h2 } := I2.moved (t' := s1.toks) (mv2.wide fT) fun b hb => by rw [List.mem_singleton.mp hb]; exact oT
    refine wpAny_handleBy_cons (codeAny_handlers_test ?_) (by intro q; cases q)
    refine ld_glob (X := X.caught ea) (I3.caught ea) hgd TD.bound ?_ hdd
    obtain ⟨oe, vs, oT2, ts, he2, hcls, hdct, hdat, _⟩ := id eo2
    refine match_ok (s := { s1 with heap := h2 }) I3.kIn und TD he2 hcls ?_
    refine codeAny_handlers_suite_as ?_
    refine flight_ok (s := { s1 with heap := h2 }) eo2 fun h3 eo3 mv3 => ?_
    have I4 : Inv X pins σ H2 { s1 with heap := h3 } := I3.moved (t' := s1.toks) (mv3.wide fT) fun b hb => by rw [List.mem_singleton.mp hb]; exact oT
    obtain ⟨oe3, vs3, _, _, he3, hcls3, hdct3, hdat3, _⟩ := id eo3
    have I5 : Inv X pins σ (upd H2 ea (.ext (PySem.W.ExcIs d ea C))) { s1 with heap := h3 } := I4.track m1 z1 z2 z3 z4 ⟨⟨oe3, vs3, he3, hcls3, hdct3, hdat3⟩, ⟨oe3, he3⟩, fun g1 g2 ⟨o, v, a, b, c, e⟩ q => ⟨o, v, q o a, b, c, e⟩⟩
    refine store_ok (X := X.caught ea) (I5.caught ea) hN hi (.inl hloc) (v := .ref ea) rfl (fun s4 I6 => ?_) (.inr hloc)
    refine wpAny_mono (hs ea pins s4 _ _ _ I6 (hth ea m1)) (fun fl s5 hq => ?_) fun _ _ z => False.elim z
    cases fl with
    | next =>
      obtain ⟨σ', H', I7, q⟩ := hq
      exact gone_ok (I7.uncaught I.ok) hi hN hloc fun s6 I8 => ⟨_, _, I8, q⟩
    | brk =>
      obtain ⟨σ', H', I7, q⟩ := hq
      exact gone_ok (I7.uncaught I.ok) hi hN hloc fun s6 I8 => ⟨_, _, I8, q⟩
    | cont =>
      obtain ⟨σ', H', I7, q⟩ := hq
      exact gone_ok (I7.uncaught I.ok) hi hN hloc fun s6 I8 => ⟨_, _, I8, q⟩
    | ret u =>
      obtain ⟨v, σ', H', I7, r, q⟩ := hq
      exact gone_ok (I7.uncaught I.ok) hi hN hloc fun s6 I8 => ⟨v, _, _, I8, r, q⟩
  refine wpAny_execs_cons (wpAny_Expr_any ?_ I.quiet hsw)
  refine wpAny_mono (call_at (X := X.wish fun e s1 => wpAny (model X.prog X.w) X.A (noteFrame e X.env) (fun _ s₂ => wpAny (model X.prog X.w) X.A (setFlight e none) (fun _ s₃ => wpAny (model X.prog X.w) X.A (handleBy e X.env [.ExceptHandler (some (.Name xd np)) (some n) (b₀ :: suite) hpos]) (SP X pins Ds) X.xe s₃) X.xe s₂) X.xe s1)
    (I.wish _) F hr hg hm hk hb (fun H1 s1 e s' I1 hc => key e s' ⟨H1, s1, I1.unwish, hc⟩) (ha _) h hdb he hpl) (fun v s1 hq => ?_) fun _ _ z => z
  obtain ⟨x, H1, I1, r1, q1⟩ := hq
  exact wpAny_execs_nil (wpAny_execs_nil ⟨σ, H1, I1.unwish, q1⟩)
/-- the same, for errors that may have been raised while another was handled -/
def tTryC (K : PySem.W.Frag) (D : Addr) (i : Nat) (sp : Sp) (ta : TA) (th : TS) : TS := fun Ds σ H => ta σ H fun vs H1 => sp vs H1 (fun _ H2 => Ds.nx σ H2) (fun c d H2 => ∀ C, c = .ref C → Under K C D ∧
  ∀ ea, H2 ea = none → th { nx := fun σ2 H3 => Ds.nx (σ2.set i none) H3, rt := Ds.rt, bk := fun σ2 H3 => Ds.bk (σ2.set i none) H3, ct := fun σ2 H3 => Ds.ct (σ2.set i none) H3 } (σ.set i (some (.ref ea))) (upd H2 ea (.ext (PySem.W.ExcIs d ea C))))
theorem ps_tryAsC (hex : X.ex = []) (hst : X.stack = X.env :: X.outer) (hfr : X.env.frame = some X.env.locals) (F : FnOk X.prog X.w X.K X.mg X.base (CX1 X.prog X.w) k f fd ps sp) (hr : Room k X.A) (hg : Gl X fx) (hm : X.mg fx = some (.ref f)) (hk : PySem.W.keepIn X.K (.ref f) = true) (hb : Binds X.K fd ps [])
    (ha : ∀ Ex, PA (X.wish Ex) (e :: es) ta) (TD : ErrB X.K X.mg xd D) (hgd : Gl X xd) (hN : X.N.Nodup) (hi : X.N[i]? = some n) (hloc : X.env.scope.names.lookup n = some .local) (hs : ∀ ea, PSs (X.caught ea) (b₀ :: suite) th)
    (hdb : (fx == ("__debug__" : Str)) = false := by decide) (hdd : (xd == ("__debug__" : Str)) = false := by decide) (he : starEach (e :: es) X.env = (false, eval e X.env) :: starEach es X.env := by rfl) (hpl : (backTo cpos (starEach es X.env)).any (·.1) = false := by rfl) (hsw : swapsWith (.Call (.Name fx p) (e :: es) [] cpos) none epos.line X.env = pure false := by rfl) :
    PS X (.Try [.Expr (.Call (.Name fx p) (e :: es) [] cpos) epos] [.ExceptHandler (some (.Name xd np)) (some n) (b₀ :: suite) hpos] [] [] pos) (tTryC X.K D i sp ta th) :=
  ps_tryG (fun Ds σ C d H2 h => h C rfl) hex hst hfr F hr hg hm hk hb ha TD hgd hN hi hloc hs hdb hdd he hpl hsw
end
end L2

/-! ## calls within an except suite; isinstance of a caught error -/
namespace L2
open PySem PySem.Spec PyProof.Rows
structure RoomH (k : Nat) (A : Around) : Prop where
  dp : A.depth + 3 * k + 5 < recursionLimit
  un : A.units + 16 * k + 200 < cLine
theorem Room.h {k : Nat} {A : Around} (r : Room k A) (e : Option Value) : RoomH k (A.mark e) := ⟨r.dp, r.un⟩
/-- the same with errors that leave -/
theorem Fun.okE {P : Program} {w : World} {K : PySem.W.Frag} {mg : Str → Option Value} {base : Heap} {x qual : Str} {st : Stmt} {f : Addr} {fd : FuncData} {N ps : List Str} {k : Nat} {sp : Sp} (F : Fun K x qual st f fd) (S : FnScope N ps (defScope st)) (len : ∀ vs H Q E, sp vs H Q E → vs.length = ps.length)
    (hbody : ∀ (cdv : Value) (A : Around) (outer : List Env) (s : Shared) (H : Hp) (vs : List V) (Q : VK) (E : XK), Room k (A.deeper (envOfC qual (defScope st) s.heap.objs.size f cdv)) → sp vs H Q E →
      ∃ t, PSs (cxOf (CX1 P w) P w K mg base N qual (defScope st) f cdv A outer s H E) (defBody st) t ∧ t { nx := fun _ H' => Q .non H', rt := Q } (start N vs) H) : FnOk P w K mg base (CX1 P w) (k + 1) f fd ps sp := by
  obtain ⟨oc, od, kV, doc, pm, an, cdv, ct, osl, rfl, lk, hcd⟩ := F.ex
  exact fn_of lk hcd S len fun A outer s H vs Q E hr hsp => hbody cdv A outer s H vs Q E hr hsp
def DefE (P : Program) (w : World) (K : PySem.W.Frag) (mg : Str → Option Value) (base : Heap) (x : Str) (k : Nat) (ps : List Str) (sp : Sp) : Prop :=
  ∃ f fd, FnOk P w K mg base (CX1 P w) k f fd ps sp ∧ mg x = some (.ref f) ∧ PySem.W.keepIn K (.ref f) = true ∧ Binds K fd ps []
section
variable {X : Cx} {x : Str} {k k' : Nat} {ps : List Str} {sp : Sp} {e : Expr} {es : List Expr} {t : TA} {p pos : Pos}
/-- a call of a def whose errors pass on -/
theorem pe_callE {P : Program} {w : World} {K : PySem.W.Frag} {mg : Str → Option Value} {base : Heap} {N : List Str} {qual : Str} {scope : Scope} {f : Addr} {cdv : Value} {A : Around} {outer : List Env} {s₀ : Shared} {H₀ : Hp} {E : XK}
    (D : DefE P w K mg base x k ps sp) (hr : Room k' (cxOf (CX1 P w) P w K mg base N qual scope f cdv A outer s₀ H₀ E).A) (hg : Gl (cxOf (CX1 P w) P w K mg base N qual scope f cdv A outer s₀ H₀ E) x) (ha : PA (cxOf (CX1 P w) P w K mg base N qual scope f cdv A outer s₀ H₀ E) (e :: es) t) (hk : k ≤ k' := by decide) (hdb : (x == ("__debug__" : Str)) = false := by decide)
    (he : starEach (e :: es) (cxOf (CX1 P w) P w K mg base N qual scope f cdv A outer s₀ H₀ E).env = (false, eval e (cxOf (CX1 P w) P w K mg base N qual scope f cdv A outer s₀ H₀ E).env) :: starEach es (cxOf (CX1 P w) P w K mg base N qual scope f cdv A outer s₀ H₀ E).env := by rfl)
    (hpl : (backTo pos (starEach es (cxOf (CX1 P w) P w K mg base N qual scope f cdv A outer s₀ H₀ E).env)).any (·.1) = false := by rfl) :
    PE (cxOf (CX1 P w) P w K mg base N qual scope f cdv A outer s₀ H₀ E) (.Call (.Name x p) (e :: es) [] pos) (tCall sp [] E t) := by
  obtain ⟨f', fd, F, m, kp, b⟩ := D
  exact pe_call F (hr.mono hk) hg m kp b .nil (fun pins σ H s e s' I hc => xe_next (fun _ _ _ z => z) I hc) ha hdb he hpl
end
/-! ### isinstance(e, ..) of a caught error -/
structure Not (K : PySem.W.Frag) (mg : Str → Option Value) (x : Str) (D C : Addr) : Prop where
  bound : mg x = some (.ref D)
  cl : PySem.W.isClsIn K D = true
  ty : PySem.W.typeIn K (.ref D) = some (.type "type")
  no : PySem.W.mroIn K C (.ref D) = some false
theorem kit_none {K : PySem.W.Frag} {C : Addr} (self : PySem.W.mroIn K C (.ref C) = some true) : ∀ (ds : List Addr), (∀ D ∈ ds, PySem.W.isClsIn K D = true ∧ PySem.W.typeIn K (.ref D) = some (.type "type") ∧ PySem.W.mroIn K C (.ref D) = some false) → PySem.W.kitAny K (.ref C) (ds.map Value.ref) = some false
  | [], _ => rfl
  | D :: ds, h => by
    obtain ⟨h1, h2, h3⟩ := h D List.mem_cons_self
    have ne : (Value.ref C == Value.ref D) = false := by
      refine Bool.eq_false_iff.mpr fun q => ?_
      have e : C = D := Value.ref.inj (beq_iff_eq.mp q)
      subst e
      rw [self] at h3
      cases h3
    have one : PySem.W.kitOne K (.ref C) (.ref D) = some false := by
      unfold PySem.W.kitOne
      rw [ne]
      show PySem.W.kitCls K (.ref C) (.ref D) = some false
      show (if ((PySem.W.clsIn K D).isSome && PySem.W.typeIn K (.ref D) == some (.type "type")) = true then PySem.W.subIn K (.ref C) (.ref D) else none) = some false
      rw [show (PySem.W.clsIn K D).isSome = true from h1, h2]
      exact h3
    rw [List.map_cons]
    unfold PySem.W.kitAny
    rw [one]
    exact kit_none self ds fun d hd => h d (List.mem_cons_of_mem _ hd)
theorem kit_VE {K : PySem.W.Frag} {C : Addr} (h : PySem.W.mroIn K C (.type "ValueError") = some true) : PySem.W.kitOne K (.ref C) (.type "ValueError") = some true := by
  unfold PySem.W.kitOne
  rw [if_neg (by intro z; cases beq_iff_eq.mp z)]
  show (if PySem.W.kitMeta "ValueError" = true then PySem.W.subIn K (.ref C) (.type "ValueError") else none) = some true
  rw [if_pos (by decide +kernel)]
  exact h
section
variable {X : Cx} {K : PySem.W.Frag}
def rIsiT (K : PySem.W.Frag) : List V → Hp → VK → Prop := fun xs H Q => ∃ (ea C tp : Addr) (ds : List Addr) (b : Bool), xs = [.ref ea, .ref tp] ∧ H ea = some (.ext (PySem.W.ExcAt ea C)) ∧ PySem.W.ExcK K C ∧ H tp = some (.tup (ds.map V.ref)) ∧ PySem.W.kitAny K (.ref C) (ds.map Value.ref) = some b ∧ Q (.bl b) H
theorem vals_refs : ∀ {ds : List Addr} {its : List Value}, Vals (ds.map V.ref) its → its = ds.map Value.ref
  | [], _, .nil => rfl
  | d :: ds, _, .cons r t => by rw [show _ = Value.ref d from r, vals_refs t]; rfl
theorem call_isiT (hK : X.K = K := by rfl) : CallR X (.builtin "isinstance") (rIsiT K) := by
  subst hK
  intro pins s σ H xs us Q I rv ⟨ea, C, tp, ds, b, e, h1, k, h2, ka, q⟩
  subst e
  obtain ⟨u, v, rfl, ru, rw'⟩ := rv.two
  cases ru
  cases rw'
  obtain ⟨p1, _, _⟩ := (show ObjOk X.prog X.w H s.heap ea (.ext (PySem.W.ExcAt ea C)) from I.hok ea _ h1)
  obtain ⟨_, its, r, o, g, hc, n, hd⟩ := (show ObjOk X.prog X.w H s.heap tp (.tup (ds.map V.ref)) from I.hok tp _ h2)
  have hits := vals_refs r
  subst hits
  obtain ⟨oc, od, oda, osl⟩ := o
  simp only at hc hd
  subst hc hd
  exact PySem.W.kia_tup (PySem.W.kitx_exc k) I.kIn p1 g ka (fun z => by cases z) fun tk => ⟨.bl b, H, I.tok tk, rfl, q⟩
def rIsiV (K : PySem.W.Frag) : List V → Hp → VK → Prop := fun xs H Q => ∃ ea C T b, xs = [.ref ea, .ty T] ∧ H ea = some (.ext (PySem.W.ExcAt ea C)) ∧ PySem.W.ExcK K C ∧ PySem.W.kitOne K (.ref C) (.type T) = some b ∧ Q (.bl b) H
theorem call_isiV (hK : X.K = K := by rfl) : CallR X (.builtin "isinstance") (rIsiV K) := by
  subst hK
  intro pins s σ H xs us Q I rv ⟨ea, C, T, b, e, h1, k, ka, q⟩
  subst e
  obtain ⟨u, v, rfl, ru, rw'⟩ := rv.two
  cases ru
  cases (show v = Value.type T from rw')
  obtain ⟨p1, _, _⟩ := (show ObjOk X.prog X.w H s.heap ea (.ext (PySem.W.ExcAt ea C)) from I.hok ea _ h1)
  exact PySem.W.kia_one (PySem.W.kitx_exc k) I.kIn p1 ka (fun z => by cases z) fun tk => ⟨.bl b, H, I.tok tk, rfl, q⟩
end
end L2

/-! ## in over lists of data; list(reversed(..)); try with a def that raises -/
namespace L2
open PySem PySem.Spec PyProof.Rows
section
variable {X : Cx} {K : PySem.W.Frag}
end
end L2
namespace PySem
namespace F
end F
section
variable {prog : Program} {w : World} {A : Around} {E : Value → Shared → Prop} {s : Shared}
variable {R : Result → Shared → Prop}
end
end PySem
namespace L2
open PySem PySem.Spec PyProof.Rows
theorem vals_get : ∀ {xs : List V} {us : List Value}, xs.length = us.length → (∀ (i : Nat) (v : V), xs[i]? = some v → ∃ u, us[i]? = some u ∧ RelV v u) → Vals xs us
  | [], [], _, _ => .nil
  | [], _ :: _, h, _ => nomatch h
  | _ :: _, [], h, _ => nomatch h
  | x :: xs, u :: us, h, p => by
    obtain ⟨w, hw, r⟩ := p 0 x rfl
    cases hw
    exact .cons r (vals_get (Nat.succ.inj h) fun i v hv => p (i + 1) v hv)
section
variable {X : Cx} {K : PySem.W.Frag}
/-- a call of a def that raises, where it doesn't -/
theorem pe_callN {x : Str} {k k' : Nat} {ps : List Str} {sp : Sp} {e : Expr} {es : List Expr} {t : TA} {p pos : Pos} (D : DefE X.prog X.w X.K X.mg X.base x k ps sp) (hr : Room k' X.A) (hg : Gl X x) (ha : PA X (e :: es) t) (hk : k ≤ k' := by decide) (hdb : (x == ("__debug__" : Str)) = false := by decide)
    (he : starEach (e :: es) X.env = (false, eval e X.env) :: starEach es X.env := by rfl) (hpl : (backTo pos (starEach es X.env)).any (·.1) = false := by rfl) :
    PE X (.Call (.Name x p) (e :: es) [] pos) (tCall sp [] E0 t) := by
  obtain ⟨f, fd, F, m, kp, b⟩ := D
  exact pe_call F (hr.mono hk) hg m kp b .nil (fun _ _ _ _ _ _ _ h => by obtain ⟨_, _, _, _, _, _, _, _, _, _, _, _, _, _, _, q⟩ := h; exact q.elim) ha hdb he hpl
theorem boot_ValueError : bootBuiltins "ValueError" = some (.type "ValueError") := by decide +kernel
/-! ### try: f(..) except D as n: .. -/
section
variable {X : Cx} {x : Str} {k k' : Nat} {ps : List Str} {sp : Sp} {fx xd n : Str} {i : Nat} {p cpos epos np hpos pos : Pos} {e : Expr} {es : List Expr} {ta : TA} {b₀ : Stmt} {suite : List Stmt} {th : TS} {D : Addr}
theorem ps_tryDC (DE : DefE X.prog X.w X.K X.mg X.base fx k ps sp) (hr : Room k' X.A) (hex : X.ex = []) (hst : X.stack = X.env :: X.outer) (hfr : X.env.frame = some X.env.locals) (hg : Gl X fx)
    (ha : ∀ Ex, PA (X.wish Ex) (e :: es) ta) (TD : ErrB X.K X.mg xd D) (hgd : Gl X xd) (hN : X.N.Nodup) (hi : X.N[i]? = some n) (hloc : X.env.scope.names.lookup n = some .local) (hs : ∀ ea, PSs (X.caught ea) (b₀ :: suite) th)
    (hk : k ≤ k' := by decide) (hdb : (fx == ("__debug__" : Str)) = false := by decide) (hdd : (xd == ("__debug__" : Str)) = false := by decide) (he : starEach (e :: es) X.env = (false, eval e X.env) :: starEach es X.env := by rfl) (hpl : (backTo cpos (starEach es X.env)).any (·.1) = false := by rfl) (hsw : swapsWith (.Call (.Name fx p) (e :: es) [] cpos) none epos.line X.env = pure false := by rfl) :
    PS X (.Try [.Expr (.Call (.Name fx p) (e :: es) [] cpos) epos] [.ExceptHandler (some (.Name xd np)) (some n) (b₀ :: suite) hpos] [] [] pos) (tTryC X.K D i sp ta th) := by
  obtain ⟨f, fd, F, m, kp, b⟩ := DE
  exact ps_tryAsC hex hst hfr F (hr.mono hk) hg m kp b ha TD hgd hN hi hloc hs hdb hdd he hpl hsw
end
end
end L2

/-! ## what is a ring of tops -/
namespace L2
open PySem PyProof.Rows
end L2
namespace Ring
open Ways
end Ring

/-! ## errors that leave a comprehension -/
namespace L2
open PySem PySem.Spec PyProof.Rows
section
variable {M : Model} {A : Around} {E : Value → Shared → Prop} {s : Shared} {base : Heap} {env : Env} {outer : List Env} {L e T : Addr} {c : Value} {d : Option Addr} {z : Prop}
/-- any mark may be set -/
theorem flight_any {fl : Value} {fr : Option Addr} {Q : Unit → Shared → Prop} (hE : ErrO s.heap e c d T fl z) (h : ∀ h' fl', ErrO h' e c d T fl' z → Moved [] [T] s.heap h' → Q () { s with heap := h' }) : wpAny M A (setFlight (.ref e) fr) Q E s := by
  obtain ⟨oe, vs, oT, ts, he, hc, hdi, hd, h1, hTe, hT, hdT, h3, h2⟩ := hE
  have hz : 3 < ts.size := (Array.getElem?_eq_some_iff.mp h3).1
  unfold setFlight
  refine wpAny_bind (wpAny_field he hd h1 ?_)
  rw [if_pos (show (Value.ref T != Value.none) = true from by simp)]
  refine wpAny_setField hT hdT hz (h _ _ ⟨oe, vs, _, _, (Heap.get?_update_other _ _ hTe).trans he, hc, hdi, hd, h1, hTe, Heap.get?_update_self _ hT (Obj.isFreed_of_fields (Obj.data_mapFields hdT _)), Obj.data_mapFields hdT _, by simp [hz]; rfl, h2⟩ ⟨fun b o _ hb q => ?_, fun b _ hb => absurd hb (by simp)⟩)
  have nb : T ≠ b := fun z => hb (by simp [z])
  exact (Heap.get?_update_other _ _ nb).trans q
/-- the record of this frame, of an error whose newest record is another's -/
theorem note_other {fl : Value} {Q : Unit → Shared → Prop} (hne : ¬ (fl == rawInt L) = true) (hfr : A.frames = some (env :: outer)) (hl : s.heap.FunFrames base (env :: outer)) (hf : env.frame = some L) (hE : ErrO s.heap e c d T fl z)
    (h : ∀ h' T', ErrO h' e c d T' (rawInt L) z → Moved (frs (env :: outer)) [e, T] s.heap h' → s.heap.get? T' = none → Q () { s with heap := h' }) : wpAny M A (noteFrame (.ref e) env) Q E s := by
  obtain ⟨oe, vs, oT, ts, he, rfl, rfl, hd, h1, hTe, hT, hdT, h3, h2⟩ := hE
  have nT := fr_fields hl hT hdT
  unfold noteFrame; simp only [hf]; refine wpAny_bind (wpAny_field he hd h1 ?_)
  rw [if_pos (show (Value.ref T != Value.none) = true by simp)]; refine wpAny_bind (wpAny_field hT hdT h3 ?_)
  rw [if_neg hne]; refine wpAny_bind (wpAny_setField hT hdT (Array.getElem?_eq_some_iff.mp h3).1 ?_)
  have oth : ∀ b, b ≠ T → (s.heap.update T (Obj.mapFields (·.setIfInBounds 3 Value.none))).get? b = s.heap.get? b := fun b hb => Heap.get?_update_other _ _ fun z => hb z.symm
  have hl2 : (s.heap.update T (Obj.mapFields (·.setIfInBounds 3 Value.none))).FunFrames base (env :: outer) := hl.of_keeps fun b o hb q => ⟨o, (oth b fun z => by subst z; rw [hT] at hb; cases hb; exact q ts hdT).trans hb, rfl⟩
  refine entry_ok (s := { s with heap := s.heap.update T (Obj.mapFields (·.setIfInBounds 3 Value.none)) }) hfr hl2 hf ((oth e fun z => hTe z.symm).trans he) hd (Array.getElem?_eq_some_iff.mp h1).1 h2 fun h' T' x y z => h h' T' x ⟨fun b o hb hx q => ?_, fun b o hb q => ?_⟩ ?_
  · have nb : b ≠ T := fun w => hx (by simp [w])
    exact y.1 b o hb (fun w => hx (by simp [List.mem_singleton.mp w])) ((oth b nb).trans q)
  · have nb : b ≠ T := fun w => nT (w ▸ hb)
    exact y.2 b o hb ((oth b nb).trans q)
  · by_cases w : T' = T
    · subst w
      have q := Heap.get?_update_self (Obj.mapFields (·.setIfInBounds 3 Value.none)) hT (Obj.isFreed_of_fields (Obj.data_mapFields hdT _))
      have z' : (s.heap.update T' (Obj.mapFields (·.setIfInBounds 3 Value.none))).get? T' = none := z
      rw [z'] at q
      cases q
    · exact (oth T' w).symm.trans z
theorem leave_any {fl : Value} {Q : Unit → Shared → Prop} (hfr : A.frames = some (env :: outer)) (hl : s.heap.FunFrames base (env :: outer)) (hf : env.frame = some L) (hE : ErrO s.heap e c d T fl z)
    (h : ∀ h' T', ErrO h' e c d T' .none z → Moved (frs (env :: outer)) [e, T] s.heap h' → (T' = T ∨ s.heap.get? T' = none) → Q () { s with heap := h' }) : wpAny M A (leaving env (.ref e)) Q E s := by
  have ne : ∀ b ∈ frs (env :: outer), b ∉ [e, T] := fun b hb z => by
    obtain ⟨oe, vs, oT, ts, he, _, _, hd, _, _, hT, hdT, _⟩ := hE
    rcases List.mem_cons.mp z with z | z
    · exact fr_fields hl he hd (z ▸ hb)
    · exact fr_fields hl hT hdT (List.mem_singleton.mp z ▸ hb)
  unfold leaving
  by_cases hfl : (fl == rawInt L) = true
  · refine wpAny_bind ?_
    obtain ⟨oe, vs, oT, ts, he, _, _, hd, h1, hTe, hT, hdT, h3, _⟩ := id hE
    unfold noteFrame; simp only [hf]; refine wpAny_bind (wpAny_field he hd h1 ?_)
    rw [if_pos (show (Value.ref T != Value.none) = true by simp)]; refine wpAny_bind (wpAny_field hT hdT h3 ?_)
    rw [if_pos hfl]
    refine wpAny_pure ?_
    refine flight_ok hE fun h' x m => h h' T x ⟨fun b o hb hx q => m.1 b o (by simp) (fun z => hx (by simp [List.mem_singleton.mp z])) q, fun b o hb q => ⟨o.slots, m.1 b o (by simp) (fun z => ne b hb (by simp [List.mem_singleton.mp z])) q⟩⟩ (.inl rfl)
  · exact wpAny_bind (note_other hfl hfr hl hf hE fun h1 T' x y z => flight_ok (s := { s with heap := h1 }) x fun h2 u v => h h2 T' u (y.then v z ne) (.inr z))
end
section
variable {P : Program} {w : World} {K : PySem.W.Frag} {mg : Str → Option Value} {base : Heap} {N : List Str} {qual : Str} {scope₀ : Scope} {f : Addr} {cdv : Value} {A : Around} {outer : List Env} {s₀ : Shared} {H₀ : Hp} {E : XK}
  {pins pins' : List (Addr × Obj)} {σ σ' : St} {H₂ H : Hp} {s₂ s s' : Shared} {N' : List Str} {cl : List (Str × Addr)} {C : Addr} {fp : List Addr} {xe : Value → Shared → Prop} {scope : Scope} {acc e : Value} {Q : Value → Shared → Prop}
theorem comp_passes (I2 : Inv (cxOf (CX1 P w) P w K mg base N qual scope₀ f cdv A outer s₀ H₀ E) pins σ H₂ s₂) (f2 : ∀ b ∈ fp, FpOk (cxOf (CX1 P w) P w K mg base N qual scope₀ f cdv A outer s₀ H₀ E) pins H₂ b)
    (I : Inv (inner (cxOf (CX1 P w) P w K mg base N qual scope₀ f cdv A outer s₀ H₀ E) scope cl C N' fp s₂ H₂ xe) pins' σ' H s) (hc : CX1 P w (cxOf (CX1 P w) P w K mg base N qual scope₀ f cdv A outer s₀ H₀ E).stack H s E e s') :
    notedBy (model P w) (cxOf (CX1 P w) P w K mg base N qual scope₀ f cdv A outer s₀ H₀ E).A (compEnvC scope cl C (cxOf (CX1 P w) P w K mg base N qual scope₀ f cdv A outer s₀ H₀ E).env)
      (fun e s' => compPost (model P w) (cxOf (CX1 P w) P w K mg base N qual scope₀ f cdv A outer s₀ H₀ E).A (cxOf (CX1 P w) P w K mg base N qual scope₀ f cdv A outer s₀ H₀ E).xe none Q acc C (.error e) s') e s' := by
  obtain ⟨ea, T, c, d, H', rfl, os, bare, un, hok, eo, n1, n2, m1, m2, q⟩ := hc
  have I0 : Inv (cxOf (CX1 P w) P w K mg base N qual scope₀ f cdv A outer s₀ H₀ E) pins σ H s := I2.call' I.os I.base I.hok I.bare fun b hb => by
    obtain ⟨_, a1, _, a3, a4, a5⟩ := f2 b hb
    exact ⟨a3, a1, a4, a5⟩
  have J := I0.call' (ch := []) os un hok bare (fun b z => by cases z)
  have J' := I.call' (ch := []) os un hok bare (fun b z => by cases z)
  obtain ⟨z1, _, z2, z3, z4⟩ := I0.out rfl n1
  obtain ⟨y1, _, y2, y3, y4⟩ := I0.out rfl n2
  have hCle : s₂.heap.objs.size ≤ C := I.ok.above
  obtain ⟨_, ⟨oC, _, _, hoC, _⟩, _⟩ := I.loc
  have hoC : s.heap.get? C = some oC := hoC
  have nea : C ≠ ea := fun z => by rw [z, n1] at hoC; cases hoC
  have nT : C ≠ T := fun z => by rw [z, n2] at hoC; cases hoC
  obtain ⟨m, ⟨o, es, ep, ho, hd, sk, hf⟩, _⟩ := J'.loc
  have ho : s'.heap.get? C = some o := ho
  show wpAny _ _ (noteFrame (.ref ea) (cxOf (CX1 P w) P w K mg base N qual scope₀ f cdv A outer s₀ H₀ E).env) _ _ s'
  refine note_next J.ok.frames J.stack rfl eo fun h1 T1 eo1 mv1 hT1 => ?_
  have J1 : Inv (cxOf (CX1 P w) P w K mg base N qual scope₀ f cdv A outer s₀ H₀ E) pins σ H' { s' with heap := h1 } := J.moved (t' := s'.toks) mv1 fun b hb => by
    have hb' : b = ea ∨ b = T := by simpa using hb
    rcases hb' with rfl | rfl
    · exact ⟨z1, m1, z2, z3, z4⟩
    · exact ⟨y1, m2, y2, y3, y4⟩
  obtain ⟨sl, hC1⟩ := mv1.any ho (by simp [nea, nT])
  refine ⟨m, ⟨_, es, ep, hC1, hd, sk, hf⟩, fun h2 sb cenv hce => ?_⟩
  have nT1 : C ≠ T1 := fun z => by rw [z, hT1] at ho; cases ho
  obtain ⟨a0, a1, _, a3, a4, a5⟩ := I2.fpOk (H' := H') hCle J'.free
  have J2 : Inv (cxOf (CX1 P w) P w K mg base N qual scope₀ f cdv A outer s₀ H₀ E) pins σ H' { s' with heap := h2 } := Inv.turned (s := { s' with heap := h1 }) (h' := h2) (t' := s'.toks) (it := C) J1 (fun b o hb e => (sb.2 b hb).trans e) a0 a1 a3 a4 a5
  have eo2 : ErrO h2 ea c d T1 (rawInt s₀.heap.objs.size) (E .none none H') := by
    obtain ⟨oe, vs, oT, ts, he, hcl, hdi, hda, h1', hTe, hT, hdT, h3, h4⟩ := eo1
    exact ⟨oe, vs, oT, ts, (sb.2 _ (Ne.symm nea)).trans he, hcl, hdi, hda, h1', hTe, (sb.2 _ (Ne.symm nT1)).trans hT, hdT, h3, h4⟩
  obtain ⟨oe, vs, oT, ts, he, hcl, hdi, hda, h1', hTe, hT, hdT, h3, _⟩ := id eo2
  unfold PySem.passOn
  refine wpAny_bind (wpAny_field (s := { s' with heap := h2 }) he hda h1' ?_)
  rw [if_neg (by simp)]
  refine wpAny_bind (flight_any (s := { s' with heap := h2 }) eo2 fun h3' fl3 eo3 mv3 => wpAny_throw ?_)
  have oT1 := J.out rfl hT1
  have fT : ∀ b ∈ frs (cxOf (CX1 P w) P w K mg base N qual scope₀ f cdv A outer s₀ H₀ E).stack, b ∉ [T1] := fun b hb q => by
    have q' := List.mem_singleton.mp q
    subst q'
    obtain ⟨_, o, ho, _⟩ := J.stack.mem hb
    rw [hT1] at ho; cases ho
  have J3 : Inv (cxOf (CX1 P w) P w K mg base N qual scope₀ f cdv A outer s₀ H₀ E) pins σ H' { s' with heap := h3' } := Inv.moved (s := { s' with heap := h2 }) (h' := h3') (t' := s'.toks) J2 (mv3.wide fT) fun b hb => by rw [List.mem_singleton.mp hb]; exact oT1
  show wpAny _ _ (leaving _ (.ref ea)) _ _ { s' with heap := h3' }
  refine leave_any (s := { s' with heap := h3' }) J3.ok.frames J3.stack rfl eo3 fun h4 T4 eo4 mv4 hT4 => ?_
  have t1 : s₀.heap.get? T4 = none := by
    rcases hT4 with rfl | hT4
    · exact oT1.1
    · exact J3.none0 (fun z => by cases z) hT4
  have t2 : H' T4 = none := by
    rcases hT4 with rfl | hT4
    · exact oT1.2.1
    · exact J3.hok.gone hT4
  refine ⟨ea, T4, c, d, H', rfl, J3.os, J3.bare, ?_, ?_, eo4, z1, t1, m1, t2, q⟩
  · refine Un.moved (show Un (frs outer) [] H₀ H' s₀.heap h3' from J3.base) mv4 (fun b hb => ?_) fun b hb => ?_
    · rcases List.mem_cons.mp (show b ∈ s₀.heap.objs.size :: frs outer from hb) with z | z
      · exact .inr (by rw [z]; exact Heap.get?_none_of_le (Nat.le_refl _))
      · exact .inl z
    · have hb' : b = ea ∨ b = T1 := by simpa using hb
      rcases hb' with rfl | rfl
      · exact z1
      · exact oT1.1
  · refine J3.hok.moved mv4 J3.stkFree fun b hb => ?_
    have hb' : b = ea ∨ b = T1 := by simpa using hb
    rcases hb' with rfl | rfl
    · exact m1
    · exact oT1.2.1
end
section
variable {X : Cx} {pins : List (Addr × Obj)} {σ : St} {H₂ : Hp} {s₂ : Shared} {N' : List Str} {cap : List (Option Nat)} {scope : Scope} {target iter elt : Expr} {ifs : List Expr} {pos : Pos} {it : Addr} {fp : List Addr} {tn : Nat → Heap → Prop} {J : It}
  {g : TG} {tt : TT} {te : TE} {cl : List (Str × Addr)}

theorem comp_blockE {GX : Cx → Prop} {Q : VK} {RR : Value → Addr → Result → Shared → Prop} (hc : X.calm = true) (ok : CompOk X scope N' cap) (hcl1 : ∀ x c, cl.lookup x = some c → X.env.cells.lookup x = some c)
    (hcl2 : ∀ x ∈ scope.names, x.2 = .free → ∃ c, cl.lookup x.1 = some c) (I2 : Inv X pins σ H₂ s₂) (T : Turn X.prog X.w X.K target J fp it tn) (st2 : tn 0 s₂.heap) (f2 : ∀ b ∈ fp, FpOk X pins H₂ b)
    (hx : ∀ (D C : Addr), GX (inner X scope cl C N' fp s₂ H₂ (notedBy (model X.prog X.w) X.A (compEnvC scope cl C X.env) fun e s' => RR (.ref D) C (.error e) s')))
    (hin : ∀ (cl : List (Str × Addr)) (C : Addr) (fp : List Addr) (s₂ : Shared) (H₂ : Hp) (xe : Value → Shared → Prop), GX (inner X scope cl C N' fp s₂ H₂ xe) → PG (inner X scope cl C N' fp s₂ H₂ xe) target g ∧ PIfs (inner X scope cl C N' fp s₂ H₂ xe) ifs tt ∧ PE (inner X scope cl C N' fp s₂ H₂ xe) elt te)
    (hk : KeepsCap cap g)
    (q : ∀ D, H₂ D = none → CompAt cap g tt te σ Q J H₂ D)
    (fin : ∀ D C H' s', Inv X pins σ H' s' → (∃ m, s'.heap.Ns C m) → FpOk X pins H' C → Q (.ref D) H' → RR (.ref D) C (.ok .next) s') :
    wpAny (model X.prog X.w) X.A (newList []) (fun acc s₃ => wpAny (model X.prog X.w) X.A (newFunctionEnv scope X.env.globals cl [] X.env.qual none .none (some X.env)) (fun cenv s₄ =>
      codeAny (model X.prog X.w) X.A (.compStart (.ListComp elt [⟨target, iter, ifs, 0⟩] scope pos) 0 (.ref it) acc { cenv with scope := relabel scope X.env }) (RR acc cenv.locals) s₄) X.xe s₃) X.xe s₂ := by
  refine wpAny_newObj_type (wpAny_newFunctionEnv ok.nocells (by intro y hy; simp at hy) (fun h₁ hns₁ hsb₁ => ?_) ok.kind)
  dsimp only at hns₁ hsb₁ ⊢
  generalize hH2 : s₂.heap.push { cls := .type "list", dict := none, data := .seq ([] : List Value).toArray } = hp2 at hns₁ hsb₁ ⊢
  have hC : hp2.objs.size = s₂.heap.objs.size + 1 := by rw [← hH2, Heap.size_push]
  have hDC : s₂.heap.objs.size ≠ hp2.objs.size := by rw [hC]; exact Nat.ne_of_lt (Nat.lt_succ_self _)
  have hCle : s₂.heap.objs.size ≤ hp2.objs.size := by rw [hC]; exact Nat.le_succ _
  have below : ∀ b, b < s₂.heap.objs.size → b ≠ hp2.objs.size ∧ b ≠ s₂.heap.objs.size := fun b hb => ⟨by rw [hC]; exact Nat.ne_of_lt (Nat.lt_succ_of_lt hb), Nat.ne_of_lt hb⟩
  have old : ∀ b o, s₂.heap.get? b = some o → h₁.get? b = some o := fun b o e => hsb₁.extBut b o (below b (Heap.lt_size e)).1 (Heap.get?_push_of_some _ (hH2 ▸ Heap.get?_push_of_some _ e))
  have hacc : h₁.get? s₂.heap.objs.size = some { cls := .type "list", dict := none, data := .seq ([] : List Value).toArray } := hsb₁.extBut _ _ hDC (Heap.get?_push_of_some _ (hH2 ▸ Heap.get?_push_size _ rfl))
  have fresh : H₂ s₂.heap.objs.size = none := I2.hok.fresh (Nat.le_refl _)
  have freshC : H₂ hp2.objs.size = none := I2.hok.fresh hCle
  obtain ⟨W, ⟨m0, w0⟩, turn⟩ := q s₂.heap.objs.size fresh
  have fpb : ∀ b ∈ fp, b < s₂.heap.objs.size := fun b hb => by
    obtain ⟨o, e, _⟩ := T.obj 0 _ st2 b hb
    exact Heap.lt_size e
  have ok' : ∀ xe, (inner X scope cl hp2.objs.size N' fp s₂ H₂ xe).Ok := fun xe => {
    mod := I2.ok.mod
    kind := ok.kind
    glob := I2.ok.glob
    blt := I2.ok.blt
    above := hCle
    inj := fun x y c a b => I2.ok.inj x y c (hcl1 x c a) (hcl1 y c b)
    has := fun x hx => by
      have key : ∀ k, (k = NameKind.cell ∨ k = NameKind.free) → (relabel scope X.env).names.lookup x = some k → ∃ c, cl.lookup x = some c := fun k hk hl => by
        rcases lookup_relabel_none_or hl with h | ⟨_, h⟩
        · rcases hk with rfl | rfl
          · exact absurd rfl (ok.nocells _ (lookup_mem' h))
          · exact hcl2 _ (lookup_mem' h) rfl
        · exact hcl2 _ (lookup_mem' h) rfl
      rcases hx with hx | hx
      · exact key _ (.inl rfl) hx
      · exact key _ (.inr rfl) hx
    cab := fun x c h => nomatch h
    hd := I2.ok.hd
    frames := I2.ok.frames
    stk := .inl rfl
    exf := fun b hb => ⟨(below b (fpb b hb)).1, fun x c e => (f2 b hb).2.2.2.2.1 x c (hcl1 x c e)⟩
    bs := I2.bs
    bsz := Nat.le_trans I2.ok.bsz I2.sz
    noex := fun b o e hb => by
      rcases (f2 b hb).2.2.2.1 with z | z
      · exact I2.ok.noex b o e z
      · exact absurd (Nat.lt_of_lt_of_le (Heap.lt_size e) (Nat.le_trans I2.ok.bsz z)) (Nat.lt_irrefl _)
    exfs := fun b hb hs => by
      rcases List.mem_cons.mp (I2.stkSub b hs) with z | z
      · exact (f2 b hb).2.1 z
      · exact (f2 b hb).2.2.1 z
    funs := I2.stack
    frf := I2.stkFree }
  have I4 : ∀ xe tk, Inv (inner X scope cl hp2.objs.size N' fp s₂ H₂ xe) [] (capt σ cap) (upd H₂ s₂.heap.objs.size (.lst [])) { s₂ with heap := h₁, toks := tk } := fun xe tk => {
    ok := ok' xe
    os := rfl
    bare := I2.bare
    base := Un.laid old (Nat.le_refl _) fresh
    loc := ⟨_, hns₁, fun j y v e1 e2 e3 => by
      obtain ⟨i, ec, es⟩ := capt_get e2
      obtain ⟨a1, a2, a3⟩ := ok.caps e1 ec
      obtain ⟨m, hn, hl⟩ := I2.loc
      obtain ⟨u, r, L⟩ := hl i y v a1 es (.inr a3)
      refine ⟨u, r, .inr ⟨lookup_relabel_free a2, ?_⟩⟩
      rcases L with ⟨k, _⟩ | ⟨_, c, e, z⟩
      · have k' : X.env.scope.names.lookup y = some .local := k
        rcases a3 with a3 | a3 <;> · rw [k'] at a3; cases a3
      · obtain ⟨c', hc'⟩ := hcl2 _ (lookup_mem' a2) rfl
        have : c' = c := by
          have e1 := hcl1 _ _ hc'
          have e1' : X.env.cells.lookup y = some c' := e1
          rw [e1'] at e
          exact Option.some.inj e
        subst this
        obtain ⟨o, ho, hd⟩ := z
        exact ⟨c', hc', o, old _ o ho, hd⟩⟩
    cell := fun x c e => by
      obtain ⟨v, o, ho, hd⟩ := I2.cell x c (hcl1 x c e)
      exact ⟨v, o, old _ o ho, hd⟩
    free := by
      show upd H₂ s₂.heap.objs.size (.lst []) hp2.objs.size = none
      rw [upd_ne (Ne.symm hDC)]
      exact freshC
    freeC := fun x c e => by
      obtain ⟨v, o, ho, hd⟩ := I2.cell x c (hcl1 x c e)
      rw [upd_ne (Nat.ne_of_lt (Heap.lt_size ho))]
      exact I2.freeC x c (hcl1 x c e)
    pin := fun p hp => nomatch hp
    hok := I2.hok.laid old (Nat.le_refl _) ⟨Nat.zero_le _, [], 0, .nil, hacc⟩
    len := by rw [capt_len]; exact ok.len.symm }
  have stat : ∀ {xe : Value → Shared → Prop} {H' : Hp}, (∀ b ∈ fp, H' b = none) → ∀ b ∈ fp, FpOk (inner X scope cl hp2.objs.size N' fp s₂ H₂ xe) [] H' b := fun {xe H'} hn b hb =>
    ⟨hn b hb, ((ok' xe).exf b hb).1, (ok' xe).exfs b hb, .inl hb, ((ok' xe).exf b hb).2, fun p hp => nomatch hp⟩
  have st4 : tn 0 h₁ := T.keep _ _ _ st2 fun b _ o e => old b o e
  have loop : ∀ s₃ : Shared, s₃ = { s₂ with heap := h₁, toks := s₂.toks + ([] : List (Str × Value)).length } →
      codeAny (model X.prog X.w) X.A (.compLoop (.ListComp elt [⟨target, iter, ifs, 0⟩] scope pos) 0 (.ref it) (.ref s₂.heap.objs.size) (compEnvC scope cl hp2.objs.size X.env))
        (RR (.ref s₂.heap.objs.size) hp2.objs.size) s₃ := by
    rintro s₃ rfl
    let xe : Value → Shared → Prop := notedBy (model X.prog X.w) X.A (compEnvC scope cl hp2.objs.size X.env) fun e s' => RR (.ref s₂.heap.objs.size) hp2.objs.size (.error e) s'
    obtain ⟨hg, hif, hel⟩ := hin cl hp2.objs.size fp s₂ H₂ xe (hx _ _)
    refine compLoop_go (fun n s' => ∃ i H', Inv (inner X scope cl hp2.objs.size N' fp s₂ H₂ xe) [] (capt σ cap) H' s' ∧ tn i s'.heap ∧ (∀ b ∈ fp, H' b = none) ∧ W i n H') ?_ m0
      ⟨0, _, I4 xe _, st4, fun b hb => by rw [upd_ne (below b (fpb b hb)).2]; exact (f2 b hb).1, w0⟩
    rintro n s3 ⟨i, H3, I3, st3, fr3, w3⟩
    rcases turn i n H3 w3 with ⟨stop, qn⟩ | ⟨go, N, hN, step⟩
    · refine thn (T.done (inner X scope cl hp2.objs.size N' fp s₂ H₂ xe) rfl rfl rfl hc i [] s3 _ H3 xe I3 (stat fr3) st3 stop) fun r s4 ⟨hr, I4'⟩ => ?_
      subst hr
      obtain ⟨m, hm, _⟩ := I4'.loc
      refine fin _ _ H3 s4 (I2.call' I4'.os I4'.base I4'.hok I4'.bare fun b hb => ?_) ⟨m, hm⟩ (I2.fpOk hCle I4'.free) qn
      obtain ⟨_, a1, _, a3, a4, a5⟩ := f2 b hb
      exact ⟨a3, a1, a4, a5⟩
    · refine thn (T.item (inner X scope cl hp2.objs.size N' fp s₂ H₂ xe) rfl rfl rfl hc i [] s3 _ H3 xe I3 (stat fr3) st3 go) fun r s4 ⟨u, hr, h4⟩ => ?_
      subst hr
      refine thn h4 fun _ s5 ⟨x, H5, I5, r5, y5, st5, fr5⟩ => ?_
      have I5' := I5.pinned (stat fr5) (T.obj _ _ st5)
      have again : ∀ {σ7 : St} {H7 : Hp} {s7 : Shared}, Inv (inner X scope cl hp2.objs.size N' fp s₂ H₂ xe) ([] ++ pinsAt fp s5.heap) σ7 H7 s7 → (σ7.length = (capt σ cap).length ∧ ∀ j i, cap[j]? = some (some i) → σ7[j]? = (capt σ cap)[j]?) → N H7 →
          ∃ m, m < n ∧ ∃ i H', Inv (inner X scope cl hp2.objs.size N' fp s₂ H₂ xe) [] (capt σ cap) H' s7 ∧ tn i s7.heap ∧ (∀ b ∈ fp, H' b = none) ∧ W i m H' := fun {σ7 H7 s7} I7 k7 n7 => by
        obtain ⟨m', hm, w7⟩ := hN H7 n7
        refine ⟨m', hm, i + 1, H7, I7.unpinned.weak k7.1.symm (fun j v e => ?_), T.keep _ _ _ st5 fun b hb o e => (I7.pin (b, o) (List.mem_append_right _ (List.mem_append_right _ (mem_pinsAt hb e)))).1, fun b hb => ?_, w7⟩
        · obtain ⟨i', ec, _⟩ := capt_get e
          rw [k7.2 j i' ec]
          exact e
        · obtain ⟨o, e, d⟩ := T.obj _ _ st5 b hb
          exact (I7.pin (b, o) (List.mem_append_right _ (List.mem_append_right _ (mem_pinsAt hb e)))).2.1
      refine thn (hg _ s5 _ H5 x u _ I5' r5 (hk _ _ _ _ (step x H5 y5))) fun _ s6 ⟨σ6, H6, I6, q6, k6⟩ => ?_
      refine thn (hif _ s6 σ6 H6 _ I6 q6) fun b s7 ⟨H7, I7, q7⟩ => ?_
      cases b with
      | false =>
        rw [if_neg Bool.false_ne_true] at q7 ⊢
        exact again I7 k6 q7
      | true =>
        rw [if_pos rfl] at q7 ⊢
        refine thn (hel _ s7 σ6 H7 _ I7 q7) fun v s8 ⟨y, H8, I8, r8, ys, hD, hz, q8⟩ => ?_
        exact thn (mt_append _ s8 σ6 H8 (.ref s₂.heap.objs.size) [y] (.ref s₂.heap.objs.size) [v] (fun _ H9 => N H9) I8 rfl (.cons r8 .nil) ⟨_, ys, y, rfl, rfl, hD, hz, q8⟩) fun _ s9 ⟨_, H9, I9, _, n9⟩ => again I9 k6 n9
  exact codeAny_compStart_list (loop _ rfl) (T.self _ 0 _ _ _ st4 (loop _ rfl))

end
section
variable {P : Program} {w : World} {K : PySem.W.Frag} {mg : Str → Option Value} {base : Heap} {N : List Str} {qual : Str} {scope₀ : Scope} {f : Addr} {cdv : Value} {A : Around} {outer : List Env} {s₀ : Shared} {H₀ : Hp} {E : XK}
  {N' : List Str} {cap : List (Option Nat)} {scope : Scope} {target iter elt : Expr} {ifs : List Expr} {pos : Pos} {g : TG} {tt : TT} {te : TE}
/-- a list comprehension whose item may raise, in a def that raises -/
theorem pe_compE {wi : TI} (hc : (cxOf (CX1 P w) P w K mg base N qual scope₀ f cdv A outer s₀ H₀ E).calm = true) (ok : CompOk (cxOf (CX1 P w) P w K mg base N qual scope₀ f cdv A outer s₀ H₀ E) scope N' cap) (hi : PI (cxOf (CX1 P w) P w K mg base N qual scope₀ f cdv A outer s₀ H₀ E) target iter wi)
    (hin : ∀ (cl : List (Str × Addr)) (C : Addr) (fp : List Addr) (s₂ : Shared) (H₂ : Hp) (xe : Value → Shared → Prop), Passes (CX1 P w) (inner (cxOf (CX1 P w) P w K mg base N qual scope₀ f cdv A outer s₀ H₀ E) scope cl C N' fp s₂ H₂ xe) E →
      PG (inner (cxOf (CX1 P w) P w K mg base N qual scope₀ f cdv A outer s₀ H₀ E) scope cl C N' fp s₂ H₂ xe) target g ∧ PIfs (inner (cxOf (CX1 P w) P w K mg base N qual scope₀ f cdv A outer s₀ H₀ E) scope cl C N' fp s₂ H₂ xe) ifs tt ∧ PE (inner (cxOf (CX1 P w) P w K mg base N qual scope₀ f cdv A outer s₀ H₀ E) scope cl C N' fp s₂ H₂ xe) elt te)
    (hk : KeepsCap cap g) (hs : ∀ x, foldedSetIterable iter (cxOf (CX1 P w) P w K mg base N qual scope₀ f cdv A outer s₀ H₀ E).env x = pure x := by intro _; rfl) :
    PE (cxOf (CX1 P w) P w K mg base N qual scope₀ f cdv A outer s₀ H₀ E) (.ListComp elt [⟨target, iter, ifs, 0⟩] scope pos) (tComp cap wi g tt te) := by
  intro pins s σ H Q I h
  obtain ⟨cl, hcl, c1, c2⟩ := closureFor_has (scope := scope) (env := (cxOf (CX1 P w) P w K mg base N qual scope₀ f cdv A outer s₀ H₀ E).env) fun x hx hf => I.ok.has x.1 (ok.outs x hx hf)
  rw [eval_ListComp]
  refine wpAny_comprehension_free (use := none) rfl hs hcl ok.kind ok.locs ?_
  refine thn (hi pins s σ H _ I h) fun v s1 h1 => thn h1 fun itv s2 h2 => ?_
  obtain ⟨it, fp, tn, J, H2, e, I2, T, st2, f2, q⟩ := h2
  subst e
  refine comp_blockE (GX := fun Y => Passes (CX1 P w) Y E) (RR := compPost (model (cxOf (CX1 P w) P w K mg base N qual scope₀ f cdv A outer s₀ H₀ E).prog (cxOf (CX1 P w) P w K mg base N qual scope₀ f cdv A outer s₀ H₀ E).w) (cxOf (CX1 P w) P w K mg base N qual scope₀ f cdv A outer s₀ H₀ E).A (cxOf (CX1 P w) P w K mg base N qual scope₀ f cdv A outer s₀ H₀ E).xe none (EP (cxOf (CX1 P w) P w K mg base N qual scope₀ f cdv A outer s₀ H₀ E) pins σ Q)) hc ok c1 c2 I2 T st2 f2 ?_ hin hk q ?_
  · intro D C pins' σ' H3 s3 e3 s4 I3 hc3
    exact comp_passes I2 f2 I3 hc3
  intro D C H' s' I' hm hC q'
  obtain ⟨m, hm⟩ := hm
  refine ⟨m, hm, fun h' hs' => ⟨.ref D, H', ?_, rfl, q'⟩⟩
  obtain ⟨a0, a1, _, a3, a4, a5⟩ := hC
  exact I'.turned (t' := s'.toks) (fun b o hb e => (hs'.2 b hb).trans e) a0 a1 a3 a4 a5
end
section
variable {X : Cx}
/-- a call whose errors pass -/
theorem pe_callP {x : Str} {k k' : Nat} {ps : List Str} {sp : Sp} {e : Expr} {es : List Expr} {t : TA} {p pos : Pos} {E : XK} (hx : Passes (CX1 X.prog X.w) X E) (D : DefE X.prog X.w X.K X.mg X.base x k ps sp) (hr : Room k' X.A) (hg : Gl X x) (ha : PA X (e :: es) t) (hk : k ≤ k' := by decide) (hdb : (x == ("__debug__" : Str)) = false := by decide)
    (he : starEach (e :: es) X.env = (false, eval e X.env) :: starEach es X.env := by rfl) (hpl : (backTo pos (starEach es X.env)).any (·.1) = false := by rfl) :
    PE X (.Call (.Name x p) (e :: es) [] pos) (tCall sp [] E t) := by
  obtain ⟨f, fd, F, m, kp, b⟩ := D
  exact pe_call F (hr.mono hk) hg m kp b .nil hx ha hdb he hpl
theorem pe_globC {x : Str} {i : Int} {p : Pos} (hg : Gl X x) (h : ∃ t, X.mg x = some (.int i t)) (hd : (x == ("__debug__" : Str)) = false := by decide) : PE X (.Name x p) (tC (.int i)) := by
  obtain ⟨t, h⟩ := h
  exact pe_glob hg h ⟨t, rfl⟩ hd
end
end L2
namespace L2
open PySem PySem.Spec PyProof.Rows
theorem vals_take {xs : List V} {us : List Value} (k : Nat) (r : Vals xs us) : Vals (xs.take k) (us.take k) := by
  refine vals_get (by rw [List.length_take, List.length_take, r.length]) fun i v hv => ?_
  rw [List.getElem?_take] at hv
  split at hv
  · rename_i hi
    obtain ⟨u, hu, ru⟩ := r.get hv
    exact ⟨u, by rw [List.getElem?_take, if_pos hi]; exact hu, ru⟩
  · cases hv
theorem vals_drop {xs : List V} {us : List Value} (k : Nat) (r : Vals xs us) : Vals (xs.drop k) (us.drop k) := by
  refine vals_get (by rw [List.length_drop, List.length_drop, r.length]) fun i v hv => ?_
  rw [List.getElem?_drop] at hv ⊢
  exact r.get hv
theorem vals_app : ∀ {xs ys : List V} {us ws : List Value}, Vals xs us → Vals ys ws → Vals (xs ++ ys) (us ++ ws)
  | _, _, _, _, .nil, b => b
  | _, _, _, _, .cons r t, b => .cons r (vals_app t b)
end L2

/-! ## texts: split, join, int(text), zfill
(split_new runs alongside the library's splitN1, which tells the new list by frames and ledgers; here the heap itself is told) -/
namespace L2
open PySem PySem.Spec PySem.Builtin PySem.Builtin.Str PyProof.Rows
theorem vals_strs : ∀ {l : List (PySem.Str × Tok)}, Vals ((l.map (·.1)).map V.str) (strValues l)
  | [] => .nil
  | p :: r => .cons ⟨p.2, rfl⟩ (vals_strs (l := r))
theorem strs_vals : ∀ {xs : List PySem.Str} {us : List Value}, Vals (xs.map V.str) us → ∃ l : List (PySem.Str × Tok), l.map (·.1) = xs ∧ us = strValues l
  | [], _, .nil => ⟨[], rfl, rfl⟩
  | x :: xs, _, .cons r t => by
    obtain ⟨tk, rfl⟩ := r
    obtain ⟨l, rfl, rfl⟩ := strs_vals t
    exact ⟨(x, tk) :: l, rfl, rfl⟩
section
variable {prog : Program} {w : World} {A : Around} {E : Value → Shared → Prop} {s : Shared} {a b : PySem.Str} {t u : Tok} {Q : Value → Shared → Prop}
theorem split_new (hb : (b.length == 0) = false) (hz : a.length ≤ sizeLine) (hn : (Txt.split a b).length ≤ sizeLine)
    (h : ∀ (l : List (PySem.Str × Tok)) (k : Nat), l.map (·.1) = Txt.split a b → Q (.ref s.heap.objs.size) { s with heap := s.heap.push { cls := .type "list", data := .seq (strValues l).toArray }, toks := k }) :
    wpAny (model prog w) A (call (.builtin "str.split") [.str a t, .str b u]) Q E s := by
  have typ := typeIs_str s a t
  have itself : Txt.split a b = [a] → Q (.ref s.heap.objs.size) { s with heap := s.heap.push { cls := .type "list", data := .seq [Value.str a t].toArray }, toks := s.toks } := fun e => h [(a, t)] s.toks e.symm
  by_cases c1 : (decide (a.length < b.length) || decide (strKind a < strKind b)) = true
  · have e : Txt.split a b = [a] := by unfold Txt.split; rw [if_pos c1]
    exact call_meets F.slot_str_split typ F.entry_str_split (F.args_str_split_2 _ _) (meets_str_split_cannot_occur a b t u c1) (itself e)
  · have c1' := Bool.eq_false_iff.mpr c1
    by_cases c2 : (occurrences a b 0 a.length (a.length + 1)).isEmpty = true
    · have e : Txt.split a b = [a] := by unfold Txt.split; rw [if_neg c1, if_pos c2]
      exact call_meets F.slot_str_split typ F.entry_str_split (F.args_str_split_2 _ _) (meets_str_split_not_found a b t u c1' hb c2) (itself e)
    · have e : Txt.split a b = partsBetween a (occurrences a b 0 a.length (a.length + 1)) b.length := by unfold Txt.split; rw [if_neg c1, if_neg c2]
      rw [e] at hn
      refine call_meets F.slot_str_split typ F.entry_str_split (F.args_str_split_2 _ _) (meets_str_split_sep a b t u c1' hb (Bool.eq_false_iff.mpr c2) hz hn) ?_
      have fin := h (numbered s.toks (partsBetween a (occurrences a b 0 a.length (a.length + 1)) b.length)) (s.toks + (partsBetween a (occurrences a b 0 a.length (a.length + 1)) b.length).length) ((numbered_texts _ _).trans e.symm)
      rw [← strsFrom_eq] at fin
      exact fin
end
section
variable {X : Cx} {K : PySem.W.Frag}
/-- a.split(b) -/
def rSplit : V → List V → Hp → VK → Prop := fun x xs H Q => ∃ a b : PySem.Str, x = .str a ∧ xs = [.str b] ∧ (b.length == 0) = false ∧ a.length ≤ sizeLine ∧ (Txt.split a b).length ≤ sizeLine ∧ ∀ l, H l = none → Q (.ref l) (upd H l (.lst ((Txt.split a b).map V.str)))
theorem mt_split : MtR X "str.split" rSplit := by
  intro pins s σ H x xs v us Q I rx rv ⟨a, b, ex, exs, hb, hz, hn, q⟩
  subst ex exs
  obtain ⟨t, rfl⟩ := rx
  obtain ⟨u, rfl, t2, rfl⟩ := rv.one
  refine split_new hb hz hn fun l k e => ?_
  have hf : H s.heap.objs.size = none := I.hok.fresh (Nat.le_refl _)
  refine ⟨.ref s.heap.objs.size, upd H s.heap.objs.size (.lst ((Txt.split a b).map V.str)), I.laid (t' := k) (fun b u e => Heap.get?_push_of_some _ e) (Nat.le_refl _) ?_, rfl, q _ hf⟩
  refine ⟨by rw [List.length_map]; exact hn, strValues l, 0, ?_, Heap.get?_push_size _ rfl⟩
  rw [← e]
  exact vals_strs
/-- sep.join(list of texts) -/
def rJoin (K : PySem.W.Frag) : V → List V → Hp → VK → Prop := fun x xs H Q => ∃ (sep : PySem.Str) (p : Addr) (ts : List PySem.Str), x = .str sep ∧ xs = [.ref p] ∧ SqL K H p (ts.map V.str) ∧ tooLong (ts.toArray.foldl (· + ·.length + sep.length) 0) = false ∧ (Txt.join sep ts).length ≤ sizeLine ∧ Q (.str (Txt.join sep ts)) H
theorem glued_one (sep a : PySem.Str) : glued sep [a] = a := by
  unfold glued
  simp
theorem mt_join (hK : X.K = K := by rfl) : MtR X "str.join" (rJoin K) := by
  subst hK
  intro pins s σ H x xs v us Q I rx rv ⟨sep, p, ts, ex, exs, hq, hl, hj, q⟩
  subst ex exs
  obtain ⟨t, rfl⟩ := rx
  obtain ⟨u, rfl, ru⟩ := rv.one
  cases ru
  obtain ⟨its, r, pl, hz⟩ := I.list hq
  obtain ⟨l, rfl, rfl⟩ := strs_vals r
  refine call_meets F.slot_str_join (typeIs_str _ _ _) F.entry_str_join (F.args_str_join_2 _ _) (meets_str_join_list sep t p l hl) ⟨pl.isList, ?_⟩
  match l, hl, q, hj with
  | [], _, q, hj => exact ⟨hj, .str _, H, I.tok _, ⟨_, rfl⟩, q⟩
  | [a], _, q, _ =>
    have e : Txt.join sep [a.1] = a.1 := glued_one sep a.1
    have q' : Q (.str (Txt.join sep [a.1])) H := q
    rw [e] at q'
    exact ⟨.str a.1, H, I, ⟨a.2, rfl⟩, q'⟩
  | a :: b :: r, _, q, hj => exact ⟨hj, .str _, H, I.tok _, ⟨_, rfl⟩, q⟩
/-- int(text) -/
theorem call_int_str : CallR X (.type "int") (fun xs H Q => ∃ (x : PySem.Str) (n : Int), xs = [.str x] ∧ PySem.intText? x = some n ∧ x.length ≤ 640 ∧ Q (.int n) H) := by
  intro pins s σ H xs us Q I r ⟨x, n, e, hn, hl, q⟩
  subst e
  obtain ⟨u, rfl, t, rfl⟩ := vals1 r
  exact PySem.W.KIN.call_text hn hl ⟨.int n, H, I.tok _, ⟨_, rfl⟩, q⟩
end
end L2
/-! ### a text walked, sign by sign -/
namespace L2
open PySem PySem.Spec PyProof.Rows
def Its (z : PySem.Str) : It := ⟨fun i _ => i < z.cps.size, fun i H x H' => H' = H ∧ ∃ c, z.cps[i]? = some c ∧ x = .str ⟨#[c]⟩, fun i _ => z.cps.size ≤ i⟩
theorem turn_ascii {P : Program} {w : World} {K : PySem.W.Frag} {tg : Expr} (z : PySem.Str) (t : Tok) (it : Addr) : Turn P w K tg (Its z) [it] it (fun i h => h.IsStrIter it "str_ascii_iterator" z t i) where
  mem := List.mem_singleton.mpr rfl
  obj := fun i h st b hb => by
    rw [List.mem_singleton.mp hb]
    obtain ⟨o, e, c, d⟩ := st
    exact ⟨o, e, fun v y => by rw [d] at y; cases y⟩
  keep := fun i h h' ⟨o, e, r⟩ k => ⟨o, k it (List.mem_singleton.mpr rfl) o e, r⟩
  item := by
    intro X hP hw hK hc i pins s σ H E I hf st hg
    subst hP hw hK
    obtain ⟨f0, f1, f2, f3, f4, f5⟩ := hf it (List.mem_singleton.mpr rfl)
    have hx : z.cps[i]? = some z.cps[i] := Array.getElem?_eq_getElem hg
    refine wpAny_pyNext_ascii_item st hx fun h' st' sb => ?_
    have J : Inv X pins σ H { s with heap := h', toks := s.toks + 1 } := I.turned (t' := s.toks + 1) (fun b o hb e => (sb.2 b hb).trans e) f0 f1 f3 f4 f5
    obtain ⟨o, e, c, d⟩ := id st'
    exact ⟨_, rfl, go_of (s := { s with heap := h', toks := s.toks + 1 }) e c d (by decide) ⟨.str ⟨#[z.cps[i]]⟩, H, J, ⟨_, rfl⟩, ⟨rfl, _, hx, rfl⟩, st', fun b hb => (hf b hb).1⟩⟩
  done := by
    intro X hP hw hK hc i pins s σ H E I hf st hg
    subst hP hw hK
    obtain ⟨f0, f1, f2, f3, f4, f5⟩ := hf it (List.mem_singleton.mpr rfl)
    exact wpAny_pyNext_ascii_end (I.ok.hd hc) st (Array.getElem?_eq_none hg) fun h' eb => ⟨rfl, I.turned (t' := s.toks) (fun b o hb e => eb b o hb e) f0 f1 f3 f4 f5⟩
  self := fun _ _ _ _ _ st h => wpAny_pyIter_striter_ascii st h
theorem turn_wide {P : Program} {w : World} {K : PySem.W.Frag} {tg : Expr} (z : PySem.Str) (t : Tok) (it : Addr) : Turn P w K tg (Its z) [it] it (fun i h => h.IsStrIter it "str_iterator" z t i) where
  mem := List.mem_singleton.mpr rfl
  obj := fun i h st b hb => by
    rw [List.mem_singleton.mp hb]
    obtain ⟨o, e, c, d⟩ := st
    exact ⟨o, e, fun v y => by rw [d] at y; cases y⟩
  keep := fun i h h' ⟨o, e, r⟩ k => ⟨o, k it (List.mem_singleton.mpr rfl) o e, r⟩
  item := by
    intro X hP hw hK hc i pins s σ H E I hf st hg
    subst hP hw hK
    obtain ⟨f0, f1, f2, f3, f4, f5⟩ := hf it (List.mem_singleton.mpr rfl)
    have hx : z.cps[i]? = some z.cps[i] := Array.getElem?_eq_getElem hg
    refine wpAny_pyNext_wide_item st hx fun h' st' sb => ?_
    have J : Inv X pins σ H { s with heap := h', toks := s.toks + 1 } := I.turned (t' := s.toks + 1) (fun b o hb e => (sb.2 b hb).trans e) f0 f1 f3 f4 f5
    obtain ⟨o, e, c, d⟩ := id st'
    exact ⟨_, rfl, go_of (s := { s with heap := h', toks := s.toks + 1 }) e c d (by decide) ⟨.str ⟨#[z.cps[i]]⟩, H, J, ⟨_, rfl⟩, ⟨rfl, _, hx, rfl⟩, st', fun b hb => (hf b hb).1⟩⟩
  done := by
    intro X hP hw hK hc i pins s σ H E I hf st hg
    subst hP hw hK
    obtain ⟨f0, f1, f2, f3, f4, f5⟩ := hf it (List.mem_singleton.mpr rfl)
    exact wpAny_pyNext_wide_end (I.ok.hd hc) st (Array.getElem?_eq_none hg) fun h' eb => ⟨rfl, I.turned (t' := s.toks) (fun b o hb e => eb b o hb e) f0 f1 f3 f4 f5⟩
  self := fun _ _ _ _ _ st h => wpAny_pyIter_striter_wide st h
section
variable {X : Cx} {tg : Expr}
def iStr (tl : TE) : TI := fun σ H R => tl σ H fun x H1 => ∃ z, x = .str z ∧ R (Its z) H1
theorem pi_str {l : Expr} {tl : TE} (hl : PE X l tl) : PI X tg l (iStr tl) := by
  intro pins s σ H R I h
  refine thn (hl pins s σ H _ I h) fun v s1 ⟨x, H1, I1, r1, z, ex, q⟩ => ?_
  subst ex
  obtain ⟨t, rfl⟩ := r1
  have fp : ∀ b ∈ [s1.heap.objs.size], FpOk X pins H1 b := fun b hb => by
    rw [List.mem_singleton.mp hb]
    exact I1.fpOk (Nat.le_refl _) (I1.hok.fresh (Nat.le_refl _))
  cases ha : z.cps.all (· < 128) with
  | false => exact wpAny_pyIter_wide ha ⟨s1.heap.objs.size, [s1.heap.objs.size], _, _, H1, rfl, I1.kept (t' := s1.toks) fun b o e => Heap.get?_push_of_some _ e, turn_wide z t _, ⟨_, Heap.get?_push_size _ rfl, rfl, rfl⟩, fp, q⟩
  | true => exact wpAny_pyIter_ascii ha ⟨s1.heap.objs.size, [s1.heap.objs.size], _, _, H1, rfl, I1.kept (t' := s1.toks) fun b o e => Heap.get?_push_of_some _ e, turn_ascii z t _, ⟨_, Heap.get?_push_size _ rfl, rfl, rfl⟩, fp, q⟩
end
end L2

/-! ## functions as values; text constants; what can't be reached; try where nothing is raised -/
namespace L2
open PySem PySem.Spec PyProof.Rows
section
variable {cap : List (Option Nat)} {g : TG} {tt : TT} {te : TE} {σ : St} {Q : VK} {H1 : Hp} {D : Addr}
theorem comp_str {z : PySem.Str} (Pv : Nat → Hp → List V → Prop) (hD : H1 D = none) (h0 : Pv 0 H1 [])
    (step : ∀ i c G ys, z.cps[i]? = some c → G D = none → Pv i G ys → g (.str ⟨#[c]⟩) (capt σ cap) (upd G D (.lst ys)) fun σ2 H2 => tt σ2 H2 fun b H3 => if b = true then te σ2 H3 (CPut D (Pv (i + 1))) else CAcc D (Pv (i + 1)) H3)
    (fin : ∀ G ys, G D = none → Pv z.cps.size G ys → Q (.ref D) (upd G D (.lst ys))) :
    CompAt cap g tt te σ Q (Its z) H1 D := by
  refine comp_it (J := Its z) (n := z.cps.size) Pv hD h0 (fun i G ys hi hG p => hi) (fun G ys hG p => Nat.le_refl _) (fun i G ys x H' hi hG p y => ?_) fin
  obtain ⟨e, c, hc, ex⟩ := y
  subst e
  subst ex
  exact step i c G ys hc hG p
end
/-- f is a def with this promise -/
def FnAt (P : Program) (w : World) (K : PySem.W.Frag) (mg : Str → Option Value) (base : Heap) (k : Nat) (f : Addr) (sp : Sp) : Prop :=
  ∃ fd ps, FnOk P w K mg base CX0 k f fd ps sp ∧ PySem.W.keepIn K (.ref f) = true ∧ Binds K fd ps []
theorem Def.at {P : Program} {w : World} {K : PySem.W.Frag} {mg : Str → Option Value} {base : Heap} {x : Str} {k : Nat} {ps : List Str} {sp : Sp} (D : Def P w K mg base x k ps sp) : ∃ f, mg x = some (.ref f) ∧ FnAt P w K mg base k f sp := by
  obtain ⟨f, fd, F, m, kp, b⟩ := D
  exact ⟨f, m, fd, ps, F, kp, b⟩
section
variable {X : Cx} {x : Str} {k k' : Nat} {e : Expr} {es : List Expr} {tv : TE} {t : TA} {p pos : Pos} {st : Stmt} {ts : TS}
/-- a text of the program's own -/
theorem pe_globS {z : PySem.Str} (hg : Gl X x) (h : ∃ t, X.mg x = some (.str z t)) (hd : (x == ("__debug__" : Str)) = false := by decide) : PE X (.Name x p) (tC (.str z)) := by
  obtain ⟨tk, h⟩ := h
  exact pe_glob hg h ⟨tk, rfl⟩ hd
end
end L2

/-! ## what is joined is split again -/
namespace Parts
open PySem PySem.Builtin PySem.Builtin.Str PySem.StrLaws
def J (y : PySem.Str) : List PySem.Str → List Nat
  | [] => []
  | [p] => p.cps.toList
  | p :: q :: r => p.cps.toList ++ (y.cps.toList ++ J y (q :: r))
theorem len_list (p : PySem.Str) : p.cps.toList.length = p.length := by simp [PySem.Str.length]
section
variable {x y : PySem.Str} {c : Nat} {yt : List Nat}
end
end Parts

/-! ## texts, further: functions that raise as values; partition; f-strings -/
namespace L2
open PySem PySem.Spec PySem.Builtin PySem.Builtin.Str PyProof.Rows
def FnAtE (P : Program) (w : World) (K : PySem.W.Frag) (mg : Str → Option Value) (base : Heap) (k : Nat) (f : Addr) (sp : Sp) : Prop :=
  ∃ fd ps, FnOk P w K mg base (CX1 P w) k f fd ps sp ∧ PySem.W.keepIn K (.ref f) = true ∧ Binds K fd ps []
theorem DefE.at {P : Program} {w : World} {K : PySem.W.Frag} {mg : Str → Option Value} {base : Heap} {x : Str} {k : Nat} {ps : List Str} {sp : Sp} (D : DefE P w K mg base x k ps sp) : ∃ f, mg x = some (.ref f) ∧ FnAtE P w K mg base k f sp := by
  obtain ⟨f, fd, F, m, kp, b⟩ := D
  exact ⟨f, m, fd, ps, F, kp, b⟩
def tCallVE (G : Addr → Sp → Prop) (E : XK) (tv : TE) (t : TA) : TE := fun σ H Q => tv σ H fun u H1 => ∃ f sp, u = .ref f ∧ G f sp ∧ t σ H1 fun vs H2 => sp vs H2 Q E
section
variable {X : Cx} {x : Str} {k k' : Nat} {e : Expr} {es : List Expr} {tv : TE} {t : TA} {p pos : Pos}
/-- a call of what a name holds, whose errors pass -/
theorem pe_callVP {G : Addr → Sp → Prop} {E : XK} (hx : Passes (CX1 X.prog X.w) X E) (hG : ∀ f sp, G f sp → FnAtE X.prog X.w X.K X.mg X.base k f sp) (hr : Room k' X.A) (hv : PE X (.Name x p) tv) (ha : PA X (e :: es) t) (hk : k ≤ k' := by decide)
    (he : starEach (e :: es) X.env = (false, eval e X.env) :: starEach es X.env := by rfl) (hpl : (backTo pos (starEach es X.env)).any (·.1) = false := by rfl) :
    PE X (.Call (.Name x p) (e :: es) [] pos) (tCallVE G E tv t) := by
  intro pins s σ H Q I h
  refine wpAny_Call_Name_kw (thn (hv pins s σ H _ I h) fun u s1 ⟨y, H1, I1, r1, f, sp, ey, gf, h1⟩ => ?_)
  subst ey
  obtain rfl : u = Value.ref f := r1
  obtain ⟨fd, ps, F, kp, b⟩ := hG f sp gf
  refine PySem.W.callWith_K (h₀ := X.base) I1.ok.mod.kin kp (thn (ha pos pins s1 σ H1 _ I1 h1) fun us s2 ⟨vs, H2, I2, r, q⟩ => ⟨I2.kIn, ?_⟩) he hpl
  exact run_fn (dvs := []) (E := E) F (hr.mono hk) b .nil hx I2 r (by rw [List.append_nil]; exact q)
/-- a.partition(b) -/
def rPart : V → List V → Hp → VK → Prop := fun x xs H Q => ∃ a b : PySem.Str, x = .str a ∧ xs = [.str b] ∧ (b.length == 0) = false ∧ a.length ≤ sizeLine ∧ ∀ l, H l = none → Q (.ref l) (upd H l (.tup [.str (Txt.partition a b).1, .str (Txt.partition a b).2.1, .str (Txt.partition a b).2.2]))
theorem part_new {prog : Program} {w : World} {A : Around} {E : Value → Shared → Prop} {s : Shared} {a b : PySem.Str} {t u : Tok} {Q : Value → Shared → Prop} (hb : (b.length == 0) = false) (hz : a.length ≤ sizeLine)
    (h : ∀ t1 t2 t3 k, Q (.ref s.heap.objs.size) { s with heap := s.heap.push { cls := .type "tuple", data := .seq [Value.str (Txt.partition a b).1 t1, .str (Txt.partition a b).2.1 t2, .str (Txt.partition a b).2.2 t3].toArray }, toks := k }) :
    wpAny (model prog w) A (call (.builtin "str.partition") [.str a t, .str b u]) Q E s := by
  refine call_meets F.slot_str_partition (typeIs_str _ _ _) F.entry_str_partition (F.args_str_partition_2 _ _) (meets_str_partition a b t u hb hz) ?_
  unfold Txt.partition at h
  revert h
  cases occurrences a b 0 a.length 1 with
  | nil => exact fun h => h _ _ _ _
  | cons i r => exact fun h => h _ _ _ _
theorem mt_partition : MtR X "str.partition" rPart := by
  intro pins s σ H x xs v us Q I rx rv ⟨a, b, ex, exs, hb, hz, q⟩
  subst ex exs
  obtain ⟨t, rfl⟩ := rx
  obtain ⟨u, rfl, t2, rfl⟩ := rv.one
  refine part_new hb hz fun t1 t2 t3 k => ?_
  have hf : H s.heap.objs.size = none := I.hok.fresh (Nat.le_refl _)
  refine ⟨.ref s.heap.objs.size, upd H s.heap.objs.size (.tup [.str (Txt.partition a b).1, .str (Txt.partition a b).2.1, .str (Txt.partition a b).2.2]), I.laid (t' := k) (fun b u e => Heap.get?_push_of_some _ e) (Nat.le_refl _) ?_, rfl, q _ hf⟩
  exact ⟨(by show 3 ≤ sizeLine; decide), _, .cons ⟨_, rfl⟩ (.cons ⟨_, rfl⟩ (.cons ⟨_, rfl⟩ .nil)), ⟨_, Heap.get?_push_size _ rfl, rfl, 0, rfl⟩⟩
end
end L2

/-! ## numbers as texts -/
namespace Parts
open PySem PySem.Builtin PySem.Builtin.Str PySem.StrLaws PySem.NumText
def num (m : Nat) : PySem.Str := PySem.Str.ofString (toString ((m : Nat) : Int))
theorem num_cs (m : Nat) : (num m).cps.toList = (Nat.toDigits 10 m).map Char.toNat := PySem.W.KIN.signs_num m
theorem num_len (m : Nat) : (num m).length = (Nat.toDigits 10 m).length := by rw [← len_list, num_cs, List.length_map]
theorem num_le {k m : Nat} (hk : 1 ≤ k) (h : m < 10 ^ k) : (num m).length ≤ k := by rw [num_len]; exact PyProof.Rows.digits10_le hk h
/-! ### a text cut at its first sign c -/
end Parts

/-! ## a comprehension one of whose own names is read by a comprehension within it: that name is a cell
(comp_blockC runs alongside comp_block of L3Comp) -/
namespace L2
open PySem PySem.Spec PyProof.Rows
theorem newEnv_cell {M : Model} {A : Around} {E : Value → Shared → Prop} {s : Shared} {scope : Scope} {globals : Addr} {cl : List (Str × Addr)} {qual : Str} {env : Env} {y₀ : Str} {Q : Env → Shared → Prop}
    (hcs : ∀ (a : Nat) (acc : List (Str × Addr)), cellsFrom a scope.names acc = (y₀, a) :: acc) (hps : ∀ h : Heap, pushCells h scope.names = h.push { cls := .type "cell", data := .cell none })
    (h : Q (newEnv scope s.heap.objs.size globals ((y₀, s.heap.objs.size + 1) :: cl) qual none .none (some env) builtinsNs) { s with heap := (s.heap.push { cls := .type "dict", data := .dict #[] }).push { cls := .type "cell", data := .cell none } }) :
    wpAny M A (newFunctionEnv scope globals cl [] qual none .none (some env)) Q E s := by
  simp only [newFunctionEnv, Option.isSome_some, if_true]
  refine wpAny_bind (wpAny_alloc (wpAny_bind (wpAny_layCells _ (fun name kind cells => by cases hkc : kind == NameKind.cell <;> simp [hkc]) _ _ _ _ ?_)))
  rw [hcs, hps, show ({ s with heap := s.heap.push { cls := .type "dict", data := .dict #[] } } : Shared).heap.objs.size = s.heap.objs.size + 1 from Heap.size_push ..]
  exact wpAny_bind (wpAny_pure (wpAny_pure h))
/-- what is asked of such a scope -/
structure CompOkC (X : Cx) (scope : Scope) (N' : List Str) (cap : List (Option Nat)) (y₀ : Str) : Prop where
  kind : scope.kind = .function
  names : scope.names.all (fun p => p.2 != .local || scope.names.lookup p.1 == some .local) = true
  only : scope.names.all (fun p => p.2 != .cell || p.1 == y₀) = true
  mine : scope.names.lookup y₀ = some .cell
  cells : ∀ (a : Nat) (acc : List (Str × Addr)), cellsFrom a scope.names acc = (y₀, a) :: acc
  push : ∀ h : Heap, pushCells h scope.names = h.push { cls := .type "cell", data := .cell none }
  out : scope.names.all (fun p => p.2 != .free || outK X p.1) = true
  len : N'.length = cap.length
  cap : (N'.zip cap).all (fun p => match p.2 with | none => true | some i => X.N[i]? == some p.1 && (scope.names.lookup p.1 == some .free && outK X p.1)) = true
def innerC (X : Cx) (scope : Scope) (y₀ : Str) (c : Addr) (cl : List (Str × Addr)) (C : Addr) (N' : List Str) (fp : List Addr) (s₂ : Shared) (H₂ : Hp) (xe : Value → Shared → Prop) : Cx :=
  { X with N := N', s₀ := s₂, H₀ := H₂, env := compEnvC scope ((y₀, c) :: cl) C X.env, outer := X.stack, ex := fp, fn := fun x => x == y₀, pn := [], xe := xe }
section
variable {X : Cx} {pins : List (Addr × Obj)} {σ : St} {H₂ : Hp} {s₂ : Shared} {N' : List Str} {cap : List (Option Nat)} {scope : Scope} {target iter elt : Expr} {ifs : List Expr} {pos : Pos} {it : Addr} {fp : List Addr} {tn : Nat → Heap → Prop} {J : It}
  {g : TG} {tt : TT} {te : TE} {cl : List (Str × Addr)} {y₀ : Str}
theorem CompOkC.mineOnly (ok : CompOkC X scope N' cap y₀) : ∀ y ∈ scope.names, y.2 = .cell → (y.1 == y₀) = true := fun y hy z => by
  have := List.all_eq_true.mp ok.only y hy
  rw [z] at this
  simpa using this
theorem CompOkC.notMine (ok : CompOkC X scope N' cap y₀) {y : Str} (h : scope.names.lookup y = some .free) : ¬ (y == y₀) = true := fun z => by
  have e : y = y₀ := by simpa using z
  rw [e, ok.mine] at h
  cases h
theorem CompOkC.locs (ok : CompOkC X scope N' cap y₀) : ∀ y ∈ scope.names, y.2 = .local → scope.names.lookup y.1 = some .local := fun y hy z => by
  have := List.all_eq_true.mp ok.names y hy
  rw [z] at this
  simpa using this
theorem CompOkC.outs (ok : CompOkC X scope N' cap y₀) : ∀ y ∈ scope.names, y.2 = .free → X.env.scope.names.lookup y.1 = some .cell ∨ X.env.scope.names.lookup y.1 = some .free := fun y hy z => by
  have := List.all_eq_true.mp ok.out y hy
  rw [z] at this
  exact outK_or (by simpa using this)
theorem CompOkC.caps (ok : CompOkC X scope N' cap y₀) {j i : Nat} {y : Str} (h1 : N'[j]? = some y) (h2 : cap[j]? = some (some i)) :
    X.N[i]? = some y ∧ scope.names.lookup y = some .free ∧ (X.env.scope.names.lookup y = some .cell ∨ X.env.scope.names.lookup y = some .free) := by
  have hm : (y, some i) ∈ N'.zip cap := by
    refine List.mem_of_getElem? (i := j) ?_
    rw [List.getElem?_zip_eq_some]
    exact ⟨h1, h2⟩
  have := List.all_eq_true.mp ok.cap _ hm
  simp only [Bool.and_eq_true] at this
  exact ⟨by simpa using this.1, by simpa using this.2.1, outK_or this.2.2⟩
theorem comp_blockC {Q : VK} {RR : Value → Addr → Result → Shared → Prop} (hc : X.calm = true) (ok : CompOkC X scope N' cap y₀) (hcl1 : ∀ x c, cl.lookup x = some c → X.env.cells.lookup x = some c)
    (hcl2 : ∀ x ∈ scope.names, x.2 = .free → ∃ c, cl.lookup x.1 = some c) (I2 : Inv X pins σ H₂ s₂) (T : Turn X.prog X.w X.K target J fp it tn) (st2 : tn 0 s₂.heap) (f2 : ∀ b ∈ fp, FpOk X pins H₂ b)
    (hin : ∀ (c : Addr) (cl : List (Str × Addr)) (C : Addr) (fp : List Addr) (s₂ : Shared) (H₂ : Hp) (xe : Value → Shared → Prop), PG (innerC X scope y₀ c cl C N' fp s₂ H₂ xe) target g ∧ PIfs (innerC X scope y₀ c cl C N' fp s₂ H₂ xe) ifs tt ∧ PE (innerC X scope y₀ c cl C N' fp s₂ H₂ xe) elt te)
    (hk : KeepsCap cap g)
    (q : ∀ D, H₂ D = none → CompAt cap g tt te σ Q J H₂ D)
    (fin : ∀ D C H' s', Inv X pins σ H' s' → (∃ m, s'.heap.Ns C m) → FpOk X pins H' C → Q (.ref D) H' → RR (.ref D) C (.ok .next) s') :
    wpAny (model X.prog X.w) X.A (newList []) (fun acc s₃ => wpAny (model X.prog X.w) X.A (newFunctionEnv scope X.env.globals cl [] X.env.qual none .none (some X.env)) (fun cenv s₄ =>
      codeAny (model X.prog X.w) X.A (.compStart (.ListComp elt [⟨target, iter, ifs, 0⟩] scope pos) 0 (.ref it) acc { cenv with scope := relabel scope X.env }) (RR acc cenv.locals) s₄) X.xe s₃) X.xe s₂ := by
  refine wpAny_newObj_type (newEnv_cell ok.cells ok.push ?_)
  dsimp only
  generalize hH2 : s₂.heap.push { cls := .type "list", dict := none, data := .seq ([] : List Value).toArray } = hp2
  have hC : hp2.objs.size = s₂.heap.objs.size + 1 := by rw [← hH2, Heap.size_push]
  have hDC : s₂.heap.objs.size ≠ hp2.objs.size := by rw [hC]; exact Nat.ne_of_lt (Nat.lt_succ_self _)
  have hCle : s₂.heap.objs.size ≤ hp2.objs.size := by rw [hC]; exact Nat.le_succ _
  have hcle : s₂.heap.objs.size ≤ hp2.objs.size + 1 := Nat.le_trans hCle (Nat.le_succ _)
  have below : ∀ b, b < s₂.heap.objs.size → b ≠ hp2.objs.size ∧ b ≠ s₂.heap.objs.size := fun b hb => ⟨by rw [hC]; exact Nat.ne_of_lt (Nat.lt_succ_of_lt hb), Nat.ne_of_lt hb⟩
  have belowc : ∀ b, b < s₂.heap.objs.size → hp2.objs.size + 1 ≠ b := fun b hb => Nat.ne_of_gt (Nat.lt_of_lt_of_le hb hcle)
  have old : ∀ b o, s₂.heap.get? b = some o → ((hp2.push { cls := .type "dict", data := .dict #[] }).push { cls := .type "cell", data := .cell none }).get? b = some o := fun b o e => Heap.get?_push_of_some _ (Heap.get?_push_of_some _ (hH2 ▸ Heap.get?_push_of_some _ e))
  have hacc : ((hp2.push { cls := .type "dict", data := .dict #[] }).push { cls := .type "cell", data := .cell none }).get? s₂.heap.objs.size = some { cls := .type "list", dict := none, data := .seq ([] : List Value).toArray } := Heap.get?_push_of_some _ (Heap.get?_push_of_some _ (hH2 ▸ Heap.get?_push_size _ rfl))
  have hns₁ : ((hp2.push { cls := .type "dict", data := .dict #[] }).push { cls := .type "cell", data := .cell none }).Ns hp2.objs.size fun _ => none := (Heap.Ns.new hp2 (.type "dict")).keeps fun b o e => Heap.get?_push_of_some _ e
  have hcel : ((hp2.push { cls := .type "dict", data := .dict #[] }).push { cls := .type "cell", data := .cell none }).IsCell (hp2.objs.size + 1) none := ⟨_, by rw [← Heap.size_push hp2 { cls := .type "dict", data := .dict #[] }]; exact Heap.get?_push_size _ rfl, rfl⟩
  generalize (hp2.push { cls := .type "dict", data := .dict #[] }).push { cls := .type "cell", data := .cell none } = h₁ at old hacc hns₁ hcel ⊢
  have lk : ∀ x, List.lookup x ((y₀, hp2.objs.size + 1) :: cl) = if (x == y₀) = true then some (hp2.objs.size + 1) else cl.lookup x := fun x => by
    rw [List.lookup_cons]
    cases x == y₀ <;> rfl
  have lkc : ∀ x c, List.lookup x ((y₀, hp2.objs.size + 1) :: cl) = some c → (x = y₀ ∧ c = hp2.objs.size + 1) ∨ (X.env.cells.lookup x = some c ∧ c < s₂.heap.objs.size) := fun x c e => by
    rw [lk] at e
    split at e
    · rename_i z
      exact .inl ⟨by simpa using z, (Option.some.inj e).symm⟩
    · have e' := hcl1 x c e
      obtain ⟨v, o, ho, _⟩ := I2.cell x c e'
      exact .inr ⟨e', Heap.lt_size ho⟩
  have fresh : H₂ s₂.heap.objs.size = none := I2.hok.fresh (Nat.le_refl _)
  have freshC : H₂ hp2.objs.size = none := I2.hok.fresh hCle
  obtain ⟨W, ⟨m0, w0⟩, turn⟩ := q s₂.heap.objs.size fresh
  have fpb : ∀ b ∈ fp, b < s₂.heap.objs.size := fun b hb => by
    obtain ⟨o, e, _⟩ := T.obj 0 _ st2 b hb
    exact Heap.lt_size e
  have ok' : ∀ xe, (innerC X scope y₀ (hp2.objs.size + 1) cl hp2.objs.size N' fp s₂ H₂ xe).Ok := fun xe => {
    mod := I2.ok.mod
    kind := ok.kind
    glob := I2.ok.glob
    blt := I2.ok.blt
    above := hCle
    inj := fun x y c a b => by
      rcases lkc x c a with ⟨a1, a2⟩ | ⟨a1, a2⟩
      · rcases lkc y c b with ⟨b1, _⟩ | ⟨_, b2⟩
        · rw [a1, b1]
        · exact absurd a2 (Ne.symm (belowc c b2))
      · rcases lkc y c b with ⟨_, b2⟩ | ⟨b1, _⟩
        · exact absurd b2 (Ne.symm (belowc c a2))
        · exact I2.ok.inj x y c a1 b1
    has := fun x hx => by
      show ∃ c, List.lookup x ((y₀, hp2.objs.size + 1) :: cl) = some c
      rw [lk]
      by_cases z : (x == y₀) = true
      · exact ⟨_, if_pos z⟩
      · rw [if_neg z]
        have key : ∀ k, (k = NameKind.cell ∨ k = NameKind.free) → (relabel scope X.env).names.lookup x = some k → ∃ c, cl.lookup x = some c := fun k hk hl => by
          rcases lookup_relabel_none_or hl with h | ⟨_, h⟩
          · rcases hk with rfl | rfl
            · exact absurd (ok.mineOnly _ (lookup_mem' h) rfl) z
            · exact hcl2 _ (lookup_mem' h) rfl
          · exact hcl2 _ (lookup_mem' h) rfl
        rcases hx with hx | hx
        · exact key _ (.inl rfl) hx
        · exact key _ (.inr rfl) hx
    cab := fun x c h e => by
      rcases lkc x c e with ⟨_, e2⟩ | ⟨_, e2⟩
      · rw [e2]; exact hcle
      · have hx : (x == y₀) = true := h
        have e' : List.lookup x ((y₀, hp2.objs.size + 1) :: cl) = some c := e
        rw [lk, if_pos hx] at e'
        rw [← Option.some.inj e']; exact hcle
    hd := I2.ok.hd
    frames := I2.ok.frames
    stk := .inl rfl
    exf := fun b hb => ⟨(below b (fpb b hb)).1, fun x c e => by
      rcases lkc x c e with ⟨_, e2⟩ | ⟨e2, _⟩
      · rw [e2]; exact belowc b (fpb b hb)
      · exact (f2 b hb).2.2.2.2.1 x c e2⟩
    bs := I2.bs
    bsz := Nat.le_trans I2.ok.bsz I2.sz
    noex := fun b o e hb => by
      rcases (f2 b hb).2.2.2.1 with z | z
      · exact I2.ok.noex b o e z
      · exact absurd (Nat.lt_of_lt_of_le (Heap.lt_size e) (Nat.le_trans I2.ok.bsz z)) (Nat.lt_irrefl _)
    exfs := fun b hb hs => by
      rcases List.mem_cons.mp (I2.stkSub b hs) with z | z
      · exact (f2 b hb).2.1 z
      · exact (f2 b hb).2.2.1 z
    funs := I2.stack
    frf := I2.stkFree }
  have I4 : ∀ xe tk, Inv (innerC X scope y₀ (hp2.objs.size + 1) cl hp2.objs.size N' fp s₂ H₂ xe) [] (capt σ cap) (upd H₂ s₂.heap.objs.size (.lst [])) { s₂ with heap := h₁, toks := tk } := fun xe tk => {
    ok := ok' xe
    os := rfl
    bare := I2.bare
    base := Un.laid old (Nat.le_refl _) fresh
    loc := ⟨_, hns₁, fun j y v e1 e2 e3 => by
      obtain ⟨i, ec, es⟩ := capt_get e2
      obtain ⟨a1, a2, a3⟩ := ok.caps e1 ec
      obtain ⟨m, hn, hl⟩ := I2.loc
      obtain ⟨u, r, L⟩ := hl i y v a1 es (.inr a3)
      refine ⟨u, r, .inr ⟨lookup_relabel_free a2, ?_⟩⟩
      rcases L with ⟨k, _⟩ | ⟨_, c, e, z⟩
      · have k' : X.env.scope.names.lookup y = some .local := k
        rcases a3 with a3 | a3 <;> · rw [k'] at a3; cases a3
      · obtain ⟨c', hc'⟩ := hcl2 _ (lookup_mem' a2) rfl
        have : c' = c := by
          have e1 := hcl1 _ _ hc'
          have e1' : X.env.cells.lookup y = some c' := e1
          rw [e1'] at e
          exact Option.some.inj e
        subst this
        obtain ⟨o, ho, hd⟩ := z
        refine ⟨c', ?_, o, old _ o ho, hd⟩
        show List.lookup y ((y₀, hp2.objs.size + 1) :: cl) = some c'
        rw [lk, if_neg (ok.notMine a2)]
        exact hc'⟩
    cell := fun x c e => by
      rcases lkc x c e with ⟨_, e2⟩ | ⟨e2, _⟩
      · rw [e2]; exact ⟨_, hcel⟩
      · obtain ⟨v, o, ho, hd⟩ := I2.cell x c e2
        exact ⟨v, o, old _ o ho, hd⟩
    free := by
      show upd H₂ s₂.heap.objs.size (.lst []) hp2.objs.size = none
      rw [upd_ne (Ne.symm hDC)]
      exact freshC
    freeC := fun x c e => by
      rcases lkc x c e with ⟨_, e2⟩ | ⟨e2, e3⟩
      · rw [e2, upd_ne (by rw [hC]; exact Nat.ne_of_gt (Nat.lt_of_lt_of_le (Nat.lt_succ_self _) (Nat.le_succ _)))]
        exact I2.hok.fresh hcle
      · rw [upd_ne (Nat.ne_of_lt e3)]
        exact I2.freeC x c e2
    pin := fun p hp => nomatch hp
    hok := I2.hok.laid old (Nat.le_refl _) ⟨Nat.zero_le _, [], 0, .nil, hacc⟩
    len := by rw [capt_len]; exact ok.len.symm }
  have stat : ∀ {xe : Value → Shared → Prop} {H' : Hp}, (∀ b ∈ fp, H' b = none) → ∀ b ∈ fp, FpOk (innerC X scope y₀ (hp2.objs.size + 1) cl hp2.objs.size N' fp s₂ H₂ xe) [] H' b := fun {xe H'} hn b hb =>
    ⟨hn b hb, ((ok' xe).exf b hb).1, (ok' xe).exfs b hb, .inl hb, ((ok' xe).exf b hb).2, fun p hp => nomatch hp⟩
  have st4 : tn 0 h₁ := T.keep _ _ _ st2 fun b _ o e => old b o e
  have loop : ∀ s₃ : Shared, s₃ = { s₂ with heap := h₁, toks := s₂.toks } →
      codeAny (model X.prog X.w) X.A (.compLoop (.ListComp elt [⟨target, iter, ifs, 0⟩] scope pos) 0 (.ref it) (.ref s₂.heap.objs.size) (compEnvC scope ((y₀, hp2.objs.size + 1) :: cl) hp2.objs.size X.env))
        (RR (.ref s₂.heap.objs.size) hp2.objs.size) s₃ := by
    rintro s₃ rfl
    let xe : Value → Shared → Prop := notedBy (model X.prog X.w) X.A (compEnvC scope ((y₀, hp2.objs.size + 1) :: cl) hp2.objs.size X.env) fun e s' => RR (.ref s₂.heap.objs.size) hp2.objs.size (.error e) s'
    obtain ⟨hg, hif, hel⟩ := hin (hp2.objs.size + 1) cl hp2.objs.size fp s₂ H₂ xe
    refine compLoop_go (fun n s' => ∃ i H', Inv (innerC X scope y₀ (hp2.objs.size + 1) cl hp2.objs.size N' fp s₂ H₂ xe) [] (capt σ cap) H' s' ∧ tn i s'.heap ∧ (∀ b ∈ fp, H' b = none) ∧ W i n H') ?_ m0
      ⟨0, _, I4 xe _, st4, fun b hb => by rw [upd_ne (below b (fpb b hb)).2]; exact (f2 b hb).1, w0⟩
    rintro n s3 ⟨i, H3, I3, st3, fr3, w3⟩
    rcases turn i n H3 w3 with ⟨stop, qn⟩ | ⟨go, N, hN, step⟩
    · refine thn (T.done (innerC X scope y₀ (hp2.objs.size + 1) cl hp2.objs.size N' fp s₂ H₂ xe) rfl rfl rfl hc i [] s3 _ H3 xe I3 (stat fr3) st3 stop) fun r s4 ⟨hr, I4'⟩ => ?_
      subst hr
      obtain ⟨m, hm, _⟩ := I4'.loc
      refine fin _ _ H3 s4 (I2.call' I4'.os I4'.base I4'.hok I4'.bare fun b hb => ?_) ⟨m, hm⟩ (I2.fpOk hCle I4'.free) qn
      obtain ⟨_, a1, _, a3, a4, a5⟩ := f2 b hb
      exact ⟨a3, a1, a4, a5⟩
    · refine thn (T.item (innerC X scope y₀ (hp2.objs.size + 1) cl hp2.objs.size N' fp s₂ H₂ xe) rfl rfl rfl hc i [] s3 _ H3 xe I3 (stat fr3) st3 go) fun r s4 ⟨u, hr, h4⟩ => ?_
      subst hr
      refine thn h4 fun _ s5 ⟨x, H5, I5, r5, y5, st5, fr5⟩ => ?_
      have I5' := I5.pinned (stat fr5) (T.obj _ _ st5)
      have again : ∀ {σ7 : St} {H7 : Hp} {s7 : Shared}, Inv (innerC X scope y₀ (hp2.objs.size + 1) cl hp2.objs.size N' fp s₂ H₂ xe) ([] ++ pinsAt fp s5.heap) σ7 H7 s7 → (σ7.length = (capt σ cap).length ∧ ∀ j i, cap[j]? = some (some i) → σ7[j]? = (capt σ cap)[j]?) → N H7 →
          ∃ m, m < n ∧ ∃ i H', Inv (innerC X scope y₀ (hp2.objs.size + 1) cl hp2.objs.size N' fp s₂ H₂ xe) [] (capt σ cap) H' s7 ∧ tn i s7.heap ∧ (∀ b ∈ fp, H' b = none) ∧ W i m H' := fun {σ7 H7 s7} I7 k7 n7 => by
        obtain ⟨m', hm, w7⟩ := hN H7 n7
        refine ⟨m', hm, i + 1, H7, I7.unpinned.weak k7.1.symm (fun j v e => ?_), T.keep _ _ _ st5 fun b hb o e => (I7.pin (b, o) (List.mem_append_right _ (List.mem_append_right _ (mem_pinsAt hb e)))).1, fun b hb => ?_, w7⟩
        · obtain ⟨i', ec, _⟩ := capt_get e
          rw [k7.2 j i' ec]
          exact e
        · obtain ⟨o, e, d⟩ := T.obj _ _ st5 b hb
          exact (I7.pin (b, o) (List.mem_append_right _ (List.mem_append_right _ (mem_pinsAt hb e)))).2.1
      refine thn (hg _ s5 _ H5 x u _ I5' r5 (hk _ _ _ _ (step x H5 y5))) fun _ s6 ⟨σ6, H6, I6, q6, k6⟩ => ?_
      refine thn (hif _ s6 σ6 H6 _ I6 q6) fun b s7 ⟨H7, I7, q7⟩ => ?_
      cases b with
      | false =>
        rw [if_neg Bool.false_ne_true] at q7 ⊢
        exact again I7 k6 q7
      | true =>
        rw [if_pos rfl] at q7 ⊢
        refine thn (hel _ s7 σ6 H7 _ I7 q7) fun v s8 ⟨y, H8, I8, r8, ys, hD, hz, q8⟩ => ?_
        exact thn (mt_append _ s8 σ6 H8 (.ref s₂.heap.objs.size) [y] (.ref s₂.heap.objs.size) [v] (fun _ H9 => N H9) I8 rfl (.cons r8 .nil) ⟨_, ys, y, rfl, rfl, hD, hz, q8⟩) fun _ s9 ⟨_, H9, I9, _, n9⟩ => again I9 k6 n9
  exact codeAny_compStart_list (loop _ rfl) (T.self _ 0 _ _ _ st4 (loop _ rfl))
theorem ps_setCC {spos px : Pos} {wi : TI} {i : Nat} {x : Str} (hN : X.N.Nodup) (hi : X.N[i]? = some x) (hx : X.env.scope.names.lookup x = some .local) (hc : X.calm = true) (ok : CompOkC X scope N' cap y₀) (hit : PI X target iter wi)
    (hin : ∀ (c : Addr) (cl : List (Str × Addr)) (C : Addr) (fp : List Addr) (s₂ : Shared) (H₂ : Hp) (xe : Value → Shared → Prop), PG (innerC X scope y₀ c cl C N' fp s₂ H₂ xe) target g ∧ PIfs (innerC X scope y₀ c cl C N' fp s₂ H₂ xe) ifs tt ∧ PE (innerC X scope y₀ c cl C N' fp s₂ H₂ xe) elt te)
    (hk : KeepsCap cap g) (hsw : swapsWith (.ListComp elt [⟨target, iter, ifs, 0⟩] scope pos) (some (.Name x px)) spos.line X.env = pure true := by rfl) (hs : ∀ x, foldedSetIterable iter X.env x = pure x := by intro _; rfl) :
    PS X (.Assign [.Name x px] (.ListComp elt [⟨target, iter, ifs, 0⟩] scope pos) spos) (tAsg (tComp cap wi g tt te) (gName i)) := by
  intro pins s σ H D I h
  obtain ⟨cl, hcl, c1, c2⟩ := closureFor_has (scope := scope) (env := X.env) fun x hx hf => I.ok.has x.1 (ok.outs x hx hf)
  rw [exec_Assign_Name_used _ _ _ _ hsw]
  refine wpAny_bind (wpAny_standAt (wpAny_bind ?_))
  show wpAny _ X.A (do let _ ← comprehension (.ListComp elt [⟨target, iter, ifs, 0⟩] scope pos) scope X.env _ (newList []) false (eval iter X.env) (some (assign (.Name x px) X.env))) _ _ s
  refine wpAny_bind (wpAny_mono (wpAny_comprehension_free (use := some (assign (.Name x px) X.env)) (Q := fun _ s' => SP X pins D .next s') rfl hs hcl ok.kind ok.locs ?_) (fun _ s' hq => wpAny_pure (wpAny_pure hq)) fun _ _ e => e)
  refine thn (hit pins s σ H _ I h) fun v s1 h1 => thn h1 fun itv s2 h2 => ?_
  obtain ⟨it, fp, tn, J, H2, e, I2, T, st2, f2, q⟩ := h2
  subst e
  refine comp_blockC (Q := fun x H1 => gName i x σ H1 D.nx) (RR := compPost (model X.prog X.w) X.A X.xe (some (assign (.Name x px) X.env)) (fun _ s' => SP X pins D .next s')) hc ok c1 c2 I2 T st2 f2 hin hk q ?_
  intro D' C H' s' I' hm hC q'
  obtain ⟨m, hm⟩ := hm
  obtain ⟨a0, a1, _, a3, a4, a5⟩ := hC
  refine wpAny_assign_Name (store_ok2 I' hN hi (.inl hx) (v := .ref D') rfl (fun s'' I'' ⟨a, hsb, ha⟩ => ?_) (.inr hx))
  have hne : C ≠ a := by
    rcases ha with ha | ha
    · rw [ha]; exact a1
    · exact fun z => a4 _ _ ha z.symm
  refine ⟨m, hm.sameBut hsb hne, fun h' hs' => ⟨_, H', ?_, q'⟩⟩
  exact I''.turned (t' := s''.toks) (fun b o hb e => (hs'.2 b hb).trans e) a0 a1 a3 a4 a5
end
end L2

/-! ## try: .. except D: raise C(".."): an error raised while another one is handled -/
namespace L2
open PySem PySem.Spec PySem.Builtin PyProof.Rows
theorem entry_unchain : entryFor table "proto.unchain" = some Builtin.«proto.unchain» := entryFor_of_tree (by kernel_rfl)
theorem plain_unchain : plainId "proto.unchain" = true := by decide +kernel
section
variable {prog : Program} {w : World} {A : Around} {E : Value → Shared → Prop} {s : Shared} {e h : Addr}
/-- its context is the error that is handled, which has none -/
theorem raise_ctx {α : Type} {oe oh : Obj} {vs vh : Array Value} {Q : α → Shared → Prop} (hh : A.handled = some (.ref h)) (hne : h ≠ e) (he : s.heap.get? e = some oe) (hd : oe.data = .fields vs) (hz : vs.size = 6) (hb : s.heap.get? h = some oh) (hdh : oh.data = .fields vh) (h2 : vh[2]? = some .none)
    (k : E (.ref e) { s with heap := s.heap.update e (Obj.mapFields (·.setIfInBounds 2 (.ref h))) }) : wpAny (model prog w) A (raiseNew (.ref e) : Sem α) Q E s := by
  unfold raiseNew
  refine wpAny_bind (wpAny_handled ?_)
  rw [hh]
  show wpAny _ A (if (Value.ref h != Value.ref e) = true then _ else _) _ _ s
  rw [if_pos (by simpa using hne)]
  refine wpAny_bind (wpAny_holding (wpAny_runValue (codeAny_builtin entry_unchain ?_)))
  rw [Around.under_plainId plain_unchain _]
  show wpAny _ A.in1 (field (.ref h) 2 >>= _) _ _ s
  refine wpAny_bind (wpAny_field hb hdh h2 ?_)
  rw [if_pos (by decide)]
  refine wpAny_pure ?_
  refine wpAny_bind ?_
  show wpAny _ A (setField (.ref e) 2 (.ref h)) _ _ s
  exact wpAny_setField he hd (by omega) (wpAny_throw k)
variable {env : Env} {nm q : Str} {C N : Addr} {bs bm bmB : List Value} {hdct : Bool} {sn : List Str} {sub : List Value} {ab : Bool} {col : Option Bool} {dd : Option Addr} {k0 k1 k2 k3 k5 : Option Value} {B newId initId : String}
/-- raise C(..) where an error is handled -/
theorem raise_in (F : ExcBaseFacts B newId initId bmB) {mN : Str → Option Value} {x : Str} {np cpos pos : Pos} {args : List Expr} {Q : Flow → Shared → Prop} (hbase : bm.contains (.type "BaseException") = true) (hh : A.handled = some (.ref h)) (hplain : (backTo cpos (starEach args env)).any (·.1) = false) (hni : mN "__init__" = none)
    (k : wpAny (model prog w) A (eval (.Name x np) env) (fun f s₁ => f = .ref C ∧ wpAny (model prog w) A (evalArgs (.ref C) true (backTo cpos (starEach args env)) [])
      (fun a s₂ => a.kw = [] ∧ a.pos.length ≤ sizeLine ∧ s₂.heap.get? C = some (excClassObj nm q C N bs bm hdct sn sub ab col dd k0 k1 k2 k3 k5 newId) ∧ s₂.heap.Ns N mN ∧ OwnTail s₂.heap bmB bm ∧ (∃ oh vh, s₂.heap.get? h = some oh ∧ oh.data = .fields vh ∧ vh[2]? = some .none) ∧
        ∀ h' e, Heap.MadeExcOf s₂.heap h' e (.ref C) a.pos → E (.ref e) { s₂ with heap := h'.update e (Obj.mapFields (·.setIfInBounds 2 (.ref h))) }) E s₁) E s) :
    wpAny (model prog w) A (exec (.Raise (some (.Call (.Name x np) args [] cpos)) none pos) env) Q E s := by
  have own : (Value.ref C :: bm).contains (.type "BaseException") = true := by rw [List.contains_cons, hbase, Bool.or_true]
  rw [arm_exec_Raise]; simp only [evalOpt, Option.map]; refine wpAny_bind (wpAny_standAt ?_); unfold raiseStmt
  refine wpAny_bind (wpAny_bind (wpAny_mono (wpAny_Call_ofName (Q := fun v s₃ => ∃ (e t : Addr) (oh : Obj) (vh : Array Value), v = .ref e ∧ s₃.heap.get? C = some (excClassObj nm q C N bs bm hdct sn sub ab col dd k0 k1 k2 k3 k5 newId) ∧ s₃.heap.get? e = some { cls := .ref C, data := .fields #[.ref t, .none, .none, .none, .bool false, .none] } ∧ h ≠ e ∧ s₃.heap.get? h = some oh ∧ oh.data = .fields vh ∧ vh[2]? = some .none ∧ E (.ref e) { s₃ with heap := s₃.heap.update e (Obj.mapFields (·.setIfInBounds 2 (.ref h))) }) (wpAny_mono k (fun f s₁ k₁ => ?_) fun _ _ x => x)) (fun v s₃ k₃ => wpAny_bind (wpAny_standAt (wpAny_pure ?_))) fun _ _ x => x))
  · obtain ⟨rfl, k₁⟩ := k₁
    unfold callWith
    refine wpAny_bind (wpAny_holding (wpAny_mono k₁ (fun a s₂ k₂ => wpAny_bind (wpAny_standAt ?_)) fun _ _ x => x))
    obtain ⟨ap, akw⟩ := a
    obtain ⟨hkw, hlen, hC, hn, T, ⟨oh, vh, b1, b2, b3⟩, k₂⟩ := k₂
    obtain rfl : akw = [] := hkw
    obtain ⟨hp, g, d, tk, os⟩ := s₂
    simp only [hplain]; refine wpAny_bind (wpAny_keeperOf_exc hC (wpAny_bind (wpAny_call_exc_subT (hrest := hlen) F T hC hn hni fun h' e hm => wpAny_bind (wpAny_holding (wpAny_point (wpAny_pure ?_))))))
    obtain ⟨t, ht, _, _⟩ := hm.there
    exact ⟨e, t, oh, vh, rfl, hm.keeps _ _ hC, ht, (fun z => by have q := hm.new; rw [← z, b1] at q; cases q), hm.keeps _ _ b1, b2, b3, k₂ h' e hm⟩
  · obtain ⟨e, t, oh, vh, rfl, hC, he, ne, b1, b2, b3, kE⟩ := k₃
    obtain ⟨hp, g, d, tk, os⟩ := s₃
    repeat (first | with_reducible refine wpAny_loadPart_at hC ?_ | with_reducible refine wpAny_loadPart_at he ?_ | (with_reducible refine wpAny_isSubtype_exc hC ?_; rw [own]) | wp_step)
    exact raise_ctx hh ne he rfl rfl b1 b2 b3 kE
end
section
variable {P : Program} {w : World} {K : PySem.W.Frag} {mg : Str → Option Value} {base : Heap} {N : List Str} {qual : Str} {scope : Scope} {f : Addr} {cdv : Value} {A : Around} {outer : List Env} {s₀ : Shared} {H₀ : Hp} {E : XK}
/-- any error of this frame's, on its way out -/
theorem xe_any {pins : List (Addr × Obj)} {σ : St} {H : Hp} {s : Shared} {e T : Addr} {c : Value} {d : Option Addr} {fl : Value} (I : Inv (cxOf (CX1 P w) P w K mg base N qual scope f cdv A outer s₀ H₀ E) pins σ H s) (he : ErrO s.heap e c d T fl (E .none none H)) (h0 : s₀.heap.get? e = none) (hH : H e = none) (t0 : s₀.heap.get? T = none) (tH : H T = none) (hE : E c d H) :
    (cxOf (CX1 P w) P w K mg base N qual scope f cdv A outer s₀ H₀ E).xe (.ref e) s := by
  show wpAny _ _ (leaving _ (.ref e)) _ _ s
  refine leave_any I.ok.frames I.stack rfl he fun h4 T4 eo4 mv4 hT4 => ?_
  have t1 : s₀.heap.get? T4 = none := by
    rcases hT4 with rfl | hT4
    · exact t0
    · exact I.none0 (fun z => by cases z) hT4
  have t2 : H T4 = none := by
    rcases hT4 with rfl | hT4
    · exact tH
    · exact I.hok.gone hT4
  refine ⟨e, T4, c, d, H, rfl, I.os, I.bare, ?_, ?_, eo4, h0, t1, hH, t2, hE⟩
  · refine Un.moved (show Un (frs outer) [] H₀ H s₀.heap s.heap from I.base) mv4 (fun b hb => ?_) fun b hb => ?_
    · rcases List.mem_cons.mp (show b ∈ s₀.heap.objs.size :: frs outer from hb) with z | z
      · exact .inr (by rw [z]; exact Heap.get?_none_of_le (Nat.le_refl _))
      · exact .inl z
    · have hb' : b = e ∨ b = T := by simpa using hb
      rcases hb' with rfl | rfl
      · exact h0
      · exact t0
  · refine I.hok.moved mv4 I.stkFree fun b hb => ?_
    have hb' : b = e ∨ b = T := by simpa using hb
    rcases hb' with rfl | rfl
    · exact hH
    · exact tH
variable {xd cx : Str} {D C₂ : Addr} {st : Stmt} {ts : TS} {np cnp ccpos cp rpos hpos pos : Pos} {m : Str} {kd : Nat}
def catchE (K : PySem.W.Frag) (D C₂ : Addr) (E : XK) : XK := fun c d H => ∃ C, c = .ref C ∧ Under K C D ∧ E (.ref C₂) none H ∧ E .none none H
/-- try: st except D: raise C("..") -/
theorem ps_tryR (TD : ErrB K mg xd D) (hgd : Gl (cxOf (CX1 P w) P w K mg base N qual scope f cdv A outer s₀ H₀ E) xd) (TC : Err K mg cx C₂) (hgc : Gl (cxOf (CX1 P w) P w K mg base N qual scope f cdv A outer s₀ H₀ E) cx)
    (hst : ∀ Ex, Passes (CX1 P w) ((cxOf (CX1 P w) P w K mg base N qual scope f cdv A outer s₀ H₀ E).wish Ex) (catchE K D C₂ E) → PS ((cxOf (CX1 P w) P w K mg base N qual scope f cdv A outer s₀ H₀ E).wish Ex) st ts)
    (hdd : (xd == ("__debug__" : Str)) = false := by decide) (hdc : (cx == ("__debug__" : Str)) = false := by decide) :
    PS (cxOf (CX1 P w) P w K mg base N qual scope f cdv A outer s₀ H₀ E) (.Try [st] [.ExceptHandler (some (.Name xd np)) none [.Raise (some (.Call (.Name cx cnp) [.Constant (.str m) kd cp] [] ccpos)) none rpos] hpos] [] [] pos) ts := by
  intro pins s σ H Ds I h
  refine wpAny_Try_except ?_
  have pass : Passes (CX1 P w) ((cxOf (CX1 P w) P w K mg base N qual scope f cdv A outer s₀ H₀ E).wish fun e s1 => wpAny (model P w) (cxOf (CX1 P w) P w K mg base N qual scope f cdv A outer s₀ H₀ E).A (noteFrame e (cxOf (CX1 P w) P w K mg base N qual scope f cdv A outer s₀ H₀ E).env) (fun _ s₂ => wpAny (model P w) (cxOf (CX1 P w) P w K mg base N qual scope f cdv A outer s₀ H₀ E).A (setFlight e none) (fun _ s₃ =>
      wpAny (model P w) (cxOf (CX1 P w) P w K mg base N qual scope f cdv A outer s₀ H₀ E).A (handleBy e (cxOf (CX1 P w) P w K mg base N qual scope f cdv A outer s₀ H₀ E).env [.ExceptHandler (some (.Name xd np)) none [.Raise (some (.Call (.Name cx cnp) [.Constant (.str m) kd cp] [] ccpos)) none rpos] hpos]) (SP (cxOf (CX1 P w) P w K mg base N qual scope f cdv A outer s₀ H₀ E) pins Ds) (cxOf (CX1 P w) P w K mg base N qual scope f cdv A outer s₀ H₀ E).xe s₃) (cxOf (CX1 P w) P w K mg base N qual scope f cdv A outer s₀ H₀ E).xe s₂) (cxOf (CX1 P w) P w K mg base N qual scope f cdv A outer s₀ H₀ E).xe s1) (catchE K D C₂ E) := by
    intro pins' σ' H1 s1 e s' J0 hc
    have J1 : Inv (cxOf (CX1 P w) P w K mg base N qual scope f cdv A outer s₀ H₀ E) pins' σ' H1 s1 := J0.unwish
    obtain ⟨ea, T, c, d, H2, rfl, os, bare, un, hok, eo, n1, n2, m1, m2, C, rfl, und, hE2, hEn⟩ := hc
    have I2 := J1.call' (ch := []) os un hok bare (fun b z => by cases z)
    obtain ⟨z1, _, z2, z3, z4⟩ := J1.out rfl n1
    obtain ⟨y1, _, y2, y3, y4⟩ := J1.out rfl n2
    refine note_next I2.ok.frames I2.stack rfl eo fun h' T' eo' mv hT' => ?_
    have I3 : Inv (cxOf (CX1 P w) P w K mg base N qual scope f cdv A outer s₀ H₀ E) pins' σ' H2 { s' with heap := h' } := I2.moved (t' := s'.toks) mv fun b hb => by
      have hb' : b = ea ∨ b = T := by simpa using hb
      rcases hb' with rfl | rfl
      · exact ⟨z1, m1, z2, z3, z4⟩
      · exact ⟨y1, m2, y2, y3, y4⟩
    have oT := I2.out rfl hT'
    have fT : ∀ b ∈ frs (cxOf (CX1 P w) P w K mg base N qual scope f cdv A outer s₀ H₀ E).stack, b ∉ [T'] := fun b hb q => by
      have q' := List.mem_singleton.mp q
      subst q'
      obtain ⟨_, o, ho, _⟩ := I2.stack.mem hb
      rw [hT'] at ho; cases ho
    refine flight_ok (s := { s' with heap := h' }) eo' fun h2 eo2 mv2 => ?_
    have I4 : Inv (cxOf (CX1 P w) P w K mg base N qual scope f cdv A outer s₀ H₀ E) pins' σ' H2 { s' with heap := h2 } := I3.moved (t' := s'.toks) (mv2.wide fT) fun b hb => by rw [List.mem_singleton.mp hb]; exact oT
    refine wpAny_handleBy_cons (codeAny_handlers_test ?_) (by intro q; cases q)
    refine ld_glob (X := (cxOf (CX1 P w) P w K mg base N qual scope f cdv A outer s₀ H₀ E).caught ea) (I4.caught ea) hgd TD.bound ?_ hdd
    obtain ⟨oe, vs, oT2, ts2, he2, hcls, hdct, hdat, _⟩ := id eo2
    refine match_ok (s := { s' with heap := h2 }) I4.kIn und TD he2 hcls ?_
    refine codeAny_handlers_suite ?_
    refine flight_ok (s := { s' with heap := h2 }) eo2 fun h3 eo3 mv3 => ?_
    have I5 : Inv (cxOf (CX1 P w) P w K mg base N qual scope f cdv A outer s₀ H₀ E) pins' σ' H2 { s' with heap := h3 } := I4.moved (t' := s'.toks) (mv3.wide fT) fun b hb => by rw [List.mem_singleton.mp hb]; exact oT
    obtain ⟨oe3, vs3, oT3, ts3, he3, hcl3, hdi3, hda3, h13, hTe3, hT3, hdT3, h33, hz3, _⟩ := id eo3
    have hz : vs3[2]? = some .none := hz3.resolve_right (fun ⟨_, z, _⟩ => by cases z)
    refine wpAny_execs_cons ?_
    obtain ⟨bm, N', nm, qn, bs, hdct', sn, sub, ab, col, dd, k0, k1, k2, k3, k5, mN, hC, hN, hni, TL⟩ := exc_obj I5.ok.mod.kin TC.ex
    refine raise_in PySem.F.excBase_ValueError (C := C₂) (bmB := baseVE) (bm := bm) (nm := nm) (q := qn) (N := N') (bs := bs) (hdct := hdct') (sn := sn) (sub := sub) (ab := ab) (col := col) (dd := dd) (k0 := k0) (k1 := k1) (k2 := k2) (k3 := k3) (k5 := k5) (mN := mN) (h := ea) (TL.hasType (X := "BaseException") (b := true) (by decide)) rfl rfl hni ?_
    refine ld_glob (X := (cxOf (CX1 P w) P w K mg base N qual scope f cdv A outer s₀ H₀ E).caught ea) (I5.caught ea) hgc TC.bound ⟨rfl, ?_⟩ hdc
    refine Calls.evalArgs_plain ?_
    show wpAny _ _ (spliced [(false, eval (.Constant (.str m) kd cp) (cxOf (CX1 P w) P w K mg base N qual scope f cdv A outer s₀ H₀ E).env)]) _ _ _
    refine Calls.spliced_cons (Calls.Constant_str (Calls.spliced_nil ⟨rfl, (by show 1 ≤ sizeLine; decide), I5.bk _ _ hC, hN.keeps I5.bk, TL.keeps I5.bk, ⟨oe3, vs3, he3, hda3, hz⟩, fun h6 e2 hm => ?_⟩))
    obtain ⟨t, ht, _, _⟩ := hm.there
    have hnew : h3.get? e2 = none := hm.new
    have up : ∀ b o, h3.get? b = some o → (h6.update e2 (Obj.mapFields (·.setIfInBounds 2 (.ref ea)))).get? b = some o := fun b o e => (Heap.get?_update_other _ _ (fun z => by rw [← z, hnew] at e; cases e)).trans (hm.keeps _ _ e)
    have I7 : Inv (cxOf (CX1 P w) P w K mg base N qual scope f cdv A outer s₀ H₀ E) pins' σ' H2 { s' with heap := h6.update e2 (Obj.mapFields (·.setIfInBounds 2 (.ref ea))), toks := s'.toks + 1 } := I5.kept (t' := s'.toks + 1) up
    have hEN : ErrN (h6.update e2 (Obj.mapFields (·.setIfInBounds 2 (.ref ea)))) e2 (.ref C₂) none (E .none none H2) := ⟨_, _, Heap.get?_update_self _ ht rfl, rfl, rfl, rfl, rfl, .inr hEn, _, rfl⟩
    obtain ⟨x1, x2, x3, x4, x5⟩ := I5.out rfl hnew
    generalize h6.update e2 (Obj.mapFields (·.setIfInBounds 2 (.ref ea))) = h7 at I7 hEN
    show wpAny _ _ (noteFrame (.ref e2) _) _ _ { s' with heap := h7, toks := s'.toks + 1 }
    refine note_new (s := { s' with heap := h7, toks := s'.toks + 1 }) (I7.caught ea).ok.frames (I7.caught ea).stack rfl hEN fun h8 T8 eo8 mv8 hT8 => ?_
    have I8 : Inv (cxOf (CX1 P w) P w K mg base N qual scope f cdv A outer s₀ H₀ E) pins' σ' H2 { s' with heap := h8, toks := s'.toks + 1 } := I7.moved (t' := s'.toks + 1) mv8 fun b hb => by rw [List.mem_singleton.mp hb]; exact ⟨x1, x2, x3, x4, x5⟩
    have o8 := I7.out rfl hT8
    have f8 : ∀ b ∈ frs (cxOf (CX1 P w) P w K mg base N qual scope f cdv A outer s₀ H₀ E).stack, b ∉ [T8] := fun b hb q => by
      have q' := List.mem_singleton.mp q
      subst q'
      obtain ⟨_, o, ho, _⟩ := I7.stack.mem hb
      rw [hT8] at ho; cases ho
    obtain ⟨oe8, vs8, _, _, he8, _, _, hd8, h18, _⟩ := id eo8
    refine wpAny_bind (wpAny_field (s := { s' with heap := h8, toks := s'.toks + 1 }) he8 hd8 h18 ?_)
    rw [if_neg (by simp)]
    refine flight_any (s := { s' with heap := h8, toks := s'.toks + 1 }) eo8 fun h9 fl9 eo9 mv9 => ?_
    have I9 : Inv (cxOf (CX1 P w) P w K mg base N qual scope f cdv A outer s₀ H₀ E) pins' σ' H2 { s' with heap := h9, toks := s'.toks + 1 } := I8.moved (t' := s'.toks + 1) (mv9.wide f8) fun b hb => by rw [List.mem_singleton.mp hb]; exact o8
    exact xe_any I9 eo9 x1 x2 o8.1 o8.2.1 hE2
  have body := pss_one (hst _ pass) pins s σ H Ds (I.wish _) h
  refine wpAny_mono body (fun fl s1 q => ?_) fun _ _ z => z
  have q' : SP (cxOf (CX1 P w) P w K mg base N qual scope f cdv A outer s₀ H₀ E) pins Ds fl s1 := q.unwish
  cases fl with
  | next => exact wpAny_execs_nil q'
  | brk => exact q'
  | cont => exact q'
  | ret u => exact q'
end
end L2

/-! ## texts, further: slices, text * n; a comprehension whose item raises, given a name; more room in a list -/
namespace L2
open PySem PySem.Spec PySem.Builtin PySem.Builtin.Str PyProof.Rows
theorem FnAtE.mono {P : Program} {w : World} {K : PySem.W.Frag} {mg : Str → Option Value} {base : Heap} {j k : Nat} {f : Addr} {sp : Sp} (F : FnAtE P w K mg base j f sp) (h : j ≤ k) : FnAtE P w K mg base k f sp := by
  obtain ⟨fd, ps, F, kp, b⟩ := F
  exact ⟨fd, ps, F.mono h, kp, b⟩
/-- a weaker promise -/
theorem FnAtE.imp {P : Program} {w : World} {K : PySem.W.Frag} {mg : Str → Option Value} {base : Heap} {k : Nat} {f : Addr} {sp sp' : Sp} (F : FnAtE P w K mg base k f sp) (h : ∀ vs H Q E, sp' vs H Q E → sp vs H Q E) : FnAtE P w K mg base k f sp' := by
  obtain ⟨fd, ps, F, kp, b⟩ := F
  exact ⟨fd, ps, F.imp h, kp, b⟩
theorem small100k {n : Nat} (h : n ≤ 300000) : n < sizeLine := Nat.lt_of_le_of_lt h (by decide)
theorem cputB {D : Addr} {Pn : Hp → List V → Prop} {y : V} {H4 : Hp} {ys : List V} (h : H4 D = some (.lst ys)) (hl : ys.length ≤ 300000) (p : Pn (del H4 D) (ys ++ [y])) : CPut D Pn y H4 :=
  ⟨ys, h, small100k hl, del H4 D, ys ++ [y], del_same, upd_del.symm, p⟩
section
variable {X : Cx}
/-- a method's call within a comprehension -/
theorem pe_bmC {K : PySem.W.Frag} {ex : Expr} {T : String} {r : V → List V → Hp → VK → Prop} {to : TE} {t : TA} (h : PE X ex (tBM X.K T r to t)) (hK : X.K = K := by rfl) : PE X ex (tBM K T r to t) := by subst hK; exact h
/-- a[lo:hi] of a text -/
def rSlS : V → Option Int → Option Int → Hp → VK → Prop := fun x lo hi H Q => ∃ a : PySem.Str, x = .str a ∧ a.length ≤ sizeLine ∧ Q (.str (Txt.slice a lo hi)) H
theorem part_of {v : Value} {o : Option Int} (h : IsPart v o) : ∃ l : Option (Int × Tok), v = partValue l ∧ l.map (·.1) = o := by
  cases h with
  | none => exact ⟨none, rfl, rfl⟩
  | int i t => exact ⟨some (i, t), rfl, rfl⟩
theorem sl_str : SlR X rSlS := by
  intro pins s σ H x v vl vu lo hi sl Q I rx hs pl pu h
  obtain ⟨a, rfl, hz, q⟩ := h
  obtain ⟨t, rfl⟩ := rx
  obtain ⟨l, rfl, rfl⟩ := part_of pl
  obtain ⟨u, rfl, rfl⟩ := part_of pu
  refine ⟨"str", _, F.slot_str_getitem.lookup, typeIs_str _ _ _, wpAny_getItem_str_slice (l := l) (u := u) (st := none) hs rfl ?_⟩
  exact post_val_or_str ⟨Nat.le_trans (Txt.slice_le a _ _) hz, fun t' k => ⟨.str (Txt.slice a (l.map (·.1)) (u.map (·.1))), H, I.tok _, ⟨_, rfl⟩, q⟩⟩
/-- xs.insert(k, e) of a longer list -/
def rInsertB : V → List V → Hp → VK → Prop := fun x vs H Q => ∃ l xs y, ∃ k : Int, x = .ref l ∧ vs = [.int k, y] ∧ H l = some (.lst xs) ∧ 0 ≤ k ∧ k ≤ xs.length ∧ xs.length ≤ 300000 ∧ Q .non (upd H l (.lst (xs.take k.toNat ++ y :: xs.drop k.toNat)))
theorem mt_insertB : MtM X "list.insert" rInsertB := by
  intro pins s σ H x vs v us Q I rx rv h
  obtain ⟨l, xs, y, k, rfl, rfl, hH, hk0, hk, hz, q⟩ := h
  cases rx
  obtain ⟨u0, u, rfl, ⟨t, rfl⟩, ru⟩ := vals2 rv
  obtain ⟨z, its, n, r, hl, e⟩ := I.lstM hH
  have lx := r.length
  have small := small100k hz
  have fits : its.toArray.size ≤ sizeLine := by rw [List.size_toArray, ← lx]; exact z
  have hfit : ¬ (!Builtin.List.listFitsIndex k) = true := by
    have b1 : (-(2 ^ 63 : Int) ≤ k) := by omega
    have b2 : k < 2 ^ 63 := by omega
    unfold Builtin.List.listFitsIndex; rw [decide_eq_true b1, decide_eq_true b2]; decide
  refine call_meets F.slot_list_insert ⟨_, e, rfl⟩ F.entry_list_insert (F.args_list_insert_3 _ _ _) (AutoListH.list_insert_list_int_val_1 l its.toArray n k t u hfit fits) ⟨e, ?_⟩
  refine ⟨.non, _, I.lset (its' := its.take k.toNat ++ u :: its.drop k.toNat) hH e ?_ (vals_app (vals_take k.toNat r) (.cons ru (vals_drop k.toNat r))) ?_, rfl, q⟩
  · have hm : min k.toNat its.length = k.toNat := by omega
    have hneg : ¬ k < 0 := by omega
    simp [hm, hneg]
    exact List.take_of_length_le (by rw [List.length_drop]; omega)
  · rw [List.length_append, List.length_cons, List.length_take, List.length_drop]
    omega
/-- a text times a number from 2 on -/
def rMulS : R2 := fun x y H Q => ∃ (a : PySem.Str) (n : Int), x = .str a ∧ y = .int n ∧ 2 ≤ n ∧ n ≤ 100 ∧ 1 ≤ a.length ∧ a.length ≤ 100 ∧ ∀ b : PySem.Str, b.length ≤ a.length * n.toNat → Q (.str b) H
theorem fold_len (a : Array Nat) : ∀ (n : Nat) (b : Array Nat), ((List.replicate n a).foldl (· ++ ·) b).size = b.size + n * a.size
  | 0, b => by simp
  | n + 1, b => by
    rw [List.replicate_succ, List.foldl_cons, fold_len a n, Array.size_append, Nat.succ_mul]
    omega
theorem op_mul_str : OpR X (binaryOp .Mult) rMulS := by
  intro pins s σ H x y v u Q I rx ry h
  obtain ⟨a, n, rfl, rfl, h2, h3, h4, h5, q⟩ := h
  obtain ⟨t, rfl⟩ := rx
  obtain ⟨t', rfl⟩ := ry
  have hn1 : ¬ n < 1 := by omega
  have hl : (a.length * n.toNat) ≤ 10000 := Nat.le_trans (Nat.mul_le_mul h5 (show n.toNat ≤ 100 by omega)) (by decide)
  refine PySem.P.mul_str ?_ (fun _ _ hz => ?_) (fun _ _ => ?_) ?_
  · rw [decide_eq_false (by omega), decide_eq_false (by omega)]
    rfl
  · have : (100 : Int) ≤ (2 ^ 63 - 1) / n := by
      rw [Int.le_ediv_iff_mul_le (by omega)]
      omega
    omega
  · unfold tooLong
    have big : 10000 ≤ sizeLine := by decide
    exact decide_eq_false (by omega)
  · have c2 : (n == 1 || a.length == 0) = false := by
      rw [Bool.or_eq_false_iff]
      exact ⟨beq_eq_false_iff_ne.mpr (by omega), beq_eq_false_iff_ne.mpr (by omega)⟩
    rw [if_neg hn1, if_neg (by rw [c2]; exact Bool.false_ne_true)]
    have e : (⟨(List.replicate n.toNat a.cps).foldl (· ++ ·) #[]⟩ : PySem.Str).length = n.toNat * a.length := by
      show ((List.replicate n.toNat a.cps).foldl (· ++ ·) #[]).size = _
      rw [fold_len]
      show 0 + n.toNat * a.length = _
      omega
    refine ⟨?_, .str _, H, I.tok _, ⟨_, rfl⟩, q _ ?_⟩
    · rw [e, Nat.mul_comm]
      exact Nat.le_trans hl (by decide)
    · rw [e, Nat.mul_comm]
      exact Nat.le_refl _
end
section
variable {P : Program} {w : World} {K : PySem.W.Frag} {mg : Str → Option Value} {base : Heap} {N : List Str} {qual : Str} {scope₀ : Scope} {f : Addr} {cdv : Value} {A : Around} {outer : List Env} {s₀ : Shared} {H₀ : Hp} {E : XK}
  {N' : List Str} {cap : List (Option Nat)} {scope : Scope} {target iter elt : Expr} {ifs : List Expr} {pos spos px : Pos} {g : TG} {tt : TT} {te : TE} {i : Nat} {x : Str}
/-- name = a list comprehension whose item may raise, in a def that raises -/
theorem ps_setCE {wi : TI} (hN : (cxOf (CX1 P w) P w K mg base N qual scope₀ f cdv A outer s₀ H₀ E).N.Nodup) (hi : (cxOf (CX1 P w) P w K mg base N qual scope₀ f cdv A outer s₀ H₀ E).N[i]? = some x) (hx : (cxOf (CX1 P w) P w K mg base N qual scope₀ f cdv A outer s₀ H₀ E).env.scope.names.lookup x = some .local)
    (hc : (cxOf (CX1 P w) P w K mg base N qual scope₀ f cdv A outer s₀ H₀ E).calm = true) (ok : CompOk (cxOf (CX1 P w) P w K mg base N qual scope₀ f cdv A outer s₀ H₀ E) scope N' cap) (hit : PI (cxOf (CX1 P w) P w K mg base N qual scope₀ f cdv A outer s₀ H₀ E) target iter wi)
    (hin : ∀ (cl : List (Str × Addr)) (C : Addr) (fp : List Addr) (s₂ : Shared) (H₂ : Hp) (xe : Value → Shared → Prop), Passes (CX1 P w) (inner (cxOf (CX1 P w) P w K mg base N qual scope₀ f cdv A outer s₀ H₀ E) scope cl C N' fp s₂ H₂ xe) E →
      PG (inner (cxOf (CX1 P w) P w K mg base N qual scope₀ f cdv A outer s₀ H₀ E) scope cl C N' fp s₂ H₂ xe) target g ∧ PIfs (inner (cxOf (CX1 P w) P w K mg base N qual scope₀ f cdv A outer s₀ H₀ E) scope cl C N' fp s₂ H₂ xe) ifs tt ∧ PE (inner (cxOf (CX1 P w) P w K mg base N qual scope₀ f cdv A outer s₀ H₀ E) scope cl C N' fp s₂ H₂ xe) elt te)
    (hk : KeepsCap cap g) (hsw : swapsWith (.ListComp elt [⟨target, iter, ifs, 0⟩] scope pos) (some (.Name x px)) spos.line (cxOf (CX1 P w) P w K mg base N qual scope₀ f cdv A outer s₀ H₀ E).env = pure true := by rfl) (hs : ∀ x, foldedSetIterable iter (cxOf (CX1 P w) P w K mg base N qual scope₀ f cdv A outer s₀ H₀ E).env x = pure x := by intro _; rfl) :
    PS (cxOf (CX1 P w) P w K mg base N qual scope₀ f cdv A outer s₀ H₀ E) (.Assign [.Name x px] (.ListComp elt [⟨target, iter, ifs, 0⟩] scope pos) spos) (tAsg (tComp cap wi g tt te) (gName i)) := by
  intro pins s σ H D I h
  obtain ⟨cl, hcl, c1, c2⟩ := closureFor_has (scope := scope) (env := (cxOf (CX1 P w) P w K mg base N qual scope₀ f cdv A outer s₀ H₀ E).env) fun x hx hf => I.ok.has x.1 (ok.outs x hx hf)
  rw [exec_Assign_Name_used _ _ _ _ hsw]
  refine wpAny_bind (wpAny_standAt (wpAny_bind ?_))
  show wpAny _ (cxOf (CX1 P w) P w K mg base N qual scope₀ f cdv A outer s₀ H₀ E).A (do let _ ← comprehension (.ListComp elt [⟨target, iter, ifs, 0⟩] scope pos) scope (cxOf (CX1 P w) P w K mg base N qual scope₀ f cdv A outer s₀ H₀ E).env _ (newList []) false (eval iter (cxOf (CX1 P w) P w K mg base N qual scope₀ f cdv A outer s₀ H₀ E).env) (some (assign (.Name x px) (cxOf (CX1 P w) P w K mg base N qual scope₀ f cdv A outer s₀ H₀ E).env))) _ _ s
  refine wpAny_bind (wpAny_mono (wpAny_comprehension_free (use := some (assign (.Name x px) (cxOf (CX1 P w) P w K mg base N qual scope₀ f cdv A outer s₀ H₀ E).env)) (Q := fun _ s' => SP (cxOf (CX1 P w) P w K mg base N qual scope₀ f cdv A outer s₀ H₀ E) pins D .next s') rfl hs hcl ok.kind ok.locs ?_) (fun _ s' hq => wpAny_pure (wpAny_pure hq)) fun _ _ e => e)
  refine thn (hit pins s σ H _ I h) fun v s1 h1 => thn h1 fun itv s2 h2 => ?_
  obtain ⟨it, fp, tn, J, H2, e, I2, T, st2, f2, q⟩ := h2
  subst e
  refine comp_blockE (GX := fun Y => Passes (CX1 P w) Y E) (Q := fun x H1 => gName i x σ H1 D.nx) (RR := compPost (model (cxOf (CX1 P w) P w K mg base N qual scope₀ f cdv A outer s₀ H₀ E).prog (cxOf (CX1 P w) P w K mg base N qual scope₀ f cdv A outer s₀ H₀ E).w) (cxOf (CX1 P w) P w K mg base N qual scope₀ f cdv A outer s₀ H₀ E).A (cxOf (CX1 P w) P w K mg base N qual scope₀ f cdv A outer s₀ H₀ E).xe (some (assign (.Name x px) (cxOf (CX1 P w) P w K mg base N qual scope₀ f cdv A outer s₀ H₀ E).env)) (fun _ s' => SP (cxOf (CX1 P w) P w K mg base N qual scope₀ f cdv A outer s₀ H₀ E) pins D .next s')) hc ok c1 c2 I2 T st2 f2 ?_ hin hk q ?_
  · intro D' C pins' σ' H3 s3 e3 s4 I3 hc3
    exact comp_passes (acc := .ref D') (Q := fun _ s' => SP (cxOf (CX1 P w) P w K mg base N qual scope₀ f cdv A outer s₀ H₀ E) pins D .next s') I2 f2 I3 hc3
  intro D' C H' s' I' hm hC q'
  obtain ⟨m, hm⟩ := hm
  obtain ⟨a0, a1, _, a3, a4, a5⟩ := hC
  refine wpAny_assign_Name (store_ok2 I' hN hi (.inl hx) (v := .ref D') rfl (fun s'' I'' ⟨a, hsb, ha⟩ => ?_) (.inr hx))
  have hne : C ≠ a := by
    rcases ha with ha | ha
    · rw [ha]; exact a1
    · exact fun z => a4 _ _ ha z.symm
  refine ⟨m, hm.sameBut hsb hne, fun h' hs' => ⟨_, H', ?_, q'⟩⟩
  exact I''.turned (t' := s''.toks) (fun b o hb e => (hs'.2 b hb).trans e) a0 a1 a3 a4 a5
end
end L2

/-! ## the text, its defs one by one -/
namespace L2
open PySem PySem.Spec PyProof.Rows
/-- a def of the text as the top has made it -/
def Here (K : PySem.W.Frag) (mg : Str → Option Value) (x : Str) (st : Stmt) (ps : List Str) : Prop := ∃ f fd, Fun K x x st f fd ∧ mg x = some (.ref f) ∧ Binds K fd ps []
theorem Here.mk {P : Program} {w : World} {K : PySem.W.Frag} {mg : Str → Option Value} {base : Heap} {x : Str} {st : Stmt} {ps : List Str} {k : Nat} {sp : Sp} (h : Here K mg x st ps) (ok : ∀ f fd, Fun K x x st f fd → FnOk P w K mg base CX0 k f fd ps sp) : Def P w K mg base x k ps sp := by
  obtain ⟨f, fd, F, m, b⟩ := h
  exact ⟨f, fd, ok f fd F, m, F.kp, b⟩
end L2
namespace Law
open PySem L2 Ways Ring PyProof.Rows
def top (i : Nat) : Stmt := PySem.Challenge.pw_ringpop_k63_texts_refused.main.body.getD i (.Pass ⟨0, 0, 0, 0⟩)
abbrev s_is_number : Stmt := top 15
theorem sc_is_number : FnScope ["thing"] ["thing"] (defScope s_is_number) := ⟨rfl, rfl, rfl, by decide +kernel, rfl, by decide +kernel, by decide +kernel⟩
abbrev s_is_place : Stmt := top 16
theorem sc_is_place : FnScope ["thing", "many"] ["thing", "many"] (defScope s_is_place) := ⟨rfl, rfl, rfl, by decide +kernel, rfl, by decide +kernel, by decide +kernel⟩
abbrev s_is_arrow : Stmt := top 17
theorem sc_is_arrow : FnScope ["thing", "many"] ["thing", "many"] (defScope s_is_arrow) := ⟨rfl, rfl, rfl, by decide +kernel, rfl, by decide +kernel, by decide +kernel⟩
abbrev s_ends_of : Stmt := top 18
theorem sc_ends_of : FnScope ["row"] ["row"] (defScope s_ends_of) := ⟨rfl, rfl, rfl, by decide +kernel, rfl, by decide +kernel, by decide +kernel⟩
abbrev s_is_end : Stmt := top 19
theorem sc_is_end : FnScope ["row", "thing"] ["row", "thing"] (defScope s_is_end) := ⟨rfl, rfl, rfl, by decide +kernel, rfl, by decide +kernel, by decide +kernel⟩
abbrev s_row_of : Stmt := top 20
theorem sc_row_of : FnScope ["thing", "many", "row", "arrow"] ["thing", "many"] (defScope s_row_of) := ⟨rfl, rfl, rfl, by decide +kernel, rfl, by decide +kernel, by decide +kernel⟩
abbrev s_net_of : Stmt := top 21
theorem sc_net_of : FnScope ["things", "many"] ["things"] (defScope s_net_of) := ⟨rfl, rfl, rfl, by decide +kernel, rfl, by decide +kernel, by decide +kernel⟩
abbrev s_fits_row : Stmt := top 23
theorem sc_fits_row : FnScope ["row", "thing"] ["row", "thing"] (defScope s_fits_row) := ⟨rfl, rfl, rfl, by decide +kernel, rfl, by decide +kernel, by decide +kernel⟩
abbrev s_way_along : Stmt := top 24
theorem sc_way_along : FnScope ["ends", "place", "way"] ["ends", "place"] (defScope s_way_along) := ⟨rfl, rfl, rfl, by decide +kernel, rfl, by decide +kernel, by decide +kernel⟩
abbrev s_comes_to_root : Stmt := top 25
theorem sc_comes_to_root : FnScope ["ends", "place"] ["ends", "place"] (defScope s_comes_to_root) := ⟨rfl, rfl, rfl, by decide +kernel, rfl, by decide +kernel, by decide +kernel⟩
abbrev s_is_tree : Stmt := top 26
theorem sc_is_tree : FnScope ["net", "things"] ["net", "things"] (defScope s_is_tree) := ⟨rfl, rfl, rfl, by decide +kernel, rfl, by decide +kernel, by decide +kernel⟩
abbrev s_check_tree : Stmt := top 27
theorem sc_check_tree : FnScope ["net", "things"] ["net", "things"] (defScope s_check_tree) := ⟨rfl, rfl, rfl, by decide +kernel, rfl, by decide +kernel, by decide +kernel⟩
abbrev s_pile_of : Stmt := top 30
theorem sc_pile_of : FnScope ["row", "thing"] ["row", "thing"] (defScope s_pile_of) := ⟨rfl, rfl, rfl, by decide +kernel, rfl, by decide +kernel, by decide +kernel⟩
abbrev s_piles_of : Stmt := top 31
theorem sc_piles_of : FnScope ["net", "things"] ["net", "things"] (defScope s_piles_of) := ⟨rfl, rfl, rfl, by decide +kernel, rfl, by decide +kernel, by decide +kernel⟩
abbrev s_split_text : Stmt := top 38
theorem sc_split_text : FnScope ["text", "between"] ["text", "between"] (defScope s_split_text) := ⟨rfl, rfl, rfl, by decide +kernel, rfl, by decide +kernel, by decide +kernel⟩
abbrev s_number_in : Stmt := top 39
theorem sc_number_in : FnScope ["word"] ["word"] (defScope s_number_in) := ⟨rfl, rfl, rfl, by decide +kernel, rfl, by decide +kernel, by decide +kernel⟩
abbrev s_arrow_in : Stmt := top 40
theorem sc_arrow_in : FnScope ["word", "halves", "weight"] ["word"] (defScope s_arrow_in) := ⟨rfl, rfl, rfl, by decide +kernel, rfl, by decide +kernel, by decide +kernel⟩
abbrev s_end_in : Stmt := top 41
theorem sc_end_in : FnScope ["word"] ["word"] (defScope s_end_in) := ⟨rfl, rfl, rfl, by decide +kernel, rfl, by decide +kernel, by decide +kernel⟩
abbrev s_things_in : Stmt := top 42
theorem sc_things_in : FnScope ["part", "read_word"] ["part", "read_word"] (defScope s_things_in) := ⟨rfl, rfl, rfl, by decide +kernel, rfl, by decide +kernel, by decide +kernel⟩
abbrev s_lists_in : Stmt := top 43
theorem sc_lists_in : FnScope ["text", "read_word"] ["text", "read_word"] (defScope s_lists_in) := ⟨rfl, rfl, rfl, by decide +kernel, rfl, by decide +kernel, by decide +kernel⟩
abbrev s_read_net : Stmt := top 44
theorem sc_read_net : FnScope ["text", "rows"] ["text"] (defScope s_read_net) := ⟨rfl, rfl, rfl, by decide +kernel, rfl, by decide +kernel, by decide +kernel⟩
abbrev s_read_piles : Stmt := top 45
theorem sc_read_piles : FnScope ["net", "text", "ends"] ["net", "text"] (defScope s_read_piles) := ⟨rfl, rfl, rfl, by decide +kernel, rfl, by decide +kernel, by decide +kernel⟩
abbrev s_read_tree : Stmt := top 46
theorem sc_read_tree : FnScope ["net", "text", "ends"] ["net", "text"] (defScope s_read_tree) := ⟨rfl, rfl, rfl, by decide +kernel, rfl, by decide +kernel, by decide +kernel⟩
abbrev s__law_next : Stmt := top 48
theorem sc__law_next : FnScope ["_law_number_here"] ["_law_number_here"] (defScope s__law_next) := ⟨rfl, rfl, rfl, by decide +kernel, rfl, by decide +kernel, by decide +kernel⟩
abbrev s__law_fold : Stmt := top 49
theorem sc__law_fold : FnScope ["_law_script", "_law_number_here", "_law_cell"] ["_law_script", "_law_number_here"] (defScope s__law_fold) := ⟨rfl, rfl, rfl, by decide +kernel, rfl, by decide +kernel, by decide +kernel⟩
abbrev s__law_weight : Stmt := top 50
theorem sc__law_weight : FnScope ["_law_number_here", "_law_kind"] ["_law_number_here", "_law_kind"] (defScope s__law_weight) := ⟨rfl, rfl, rfl, by decide +kernel, rfl, by decide +kernel, by decide +kernel⟩
abbrev s__law_net : Stmt := top 51
theorem sc__law_net : FnScope ["_law_number_here", "_law_most", "_law_rooted", "_law_many", "_law_root", "_law_kind", "_law_thin", "_law_net_here", "_law_place", "_law_row", "_law_to"] ["_law_number_here", "_law_most", "_law_rooted"] (defScope s__law_net) := ⟨rfl, rfl, rfl, by decide +kernel, rfl, by decide +kernel, by decide +kernel⟩
abbrev s__law_copy : Stmt := top 52
theorem sc__law_copy : FnScope ["_law_net_here"] ["_law_net_here"] (defScope s__law_copy) := ⟨rfl, rfl, rfl, by decide +kernel, rfl, by decide +kernel, by decide +kernel⟩
abbrev s__law_is_tree : Stmt := top 53
theorem sc__law_is_tree : FnScope ["_law_net_here", "_law_tree", "_law_place", "_law_here", "_law_k"] ["_law_net_here", "_law_tree"] (defScope s__law_is_tree) := ⟨rfl, rfl, rfl, by decide +kernel, rfl, by decide +kernel, by decide +kernel⟩
abbrev s__law_piles : Stmt := top 54
theorem sc__law_piles : FnScope ["_law_net_here", "_law_script", "_law_piles_here", "_law_cell", "_law_place", "_law_row"] ["_law_net_here", "_law_script"] (defScope s__law_piles) := ⟨rfl, rfl, rfl, by decide +kernel, rfl, by decide +kernel, by decide +kernel⟩
abbrev s__law_hung : Stmt := top 55
theorem sc__law_hung : FnScope ["_law_net_here", "_law_number_here", "_law_tree", "_law_hung_here", "_law_turn", "_law_some", "_law_place", "_law_to"] ["_law_net_here", "_law_number_here"] (defScope s__law_hung) := ⟨rfl, rfl, rfl, by decide +kernel, rfl, by decide +kernel, by decide +kernel⟩
abbrev s__law_net_text : Stmt := top 56
theorem sc__law_net_text : FnScope ["_law_net_here", "_law_parts", "_law_row", "_law_words", "_law_to", "_law_weight_here"] ["_law_net_here"] (defScope s__law_net_text) := ⟨rfl, rfl, rfl, by decide +kernel, rfl, by decide +kernel, by decide +kernel⟩
abbrev s__law_word : Stmt := top 57
theorem sc__law_word : FnScope ["_law_end"] ["_law_end"] (defScope s__law_word) := ⟨rfl, rfl, rfl, by decide +kernel, rfl, by decide +kernel, by decide +kernel⟩
abbrev s__law_text : Stmt := top 58
theorem sc__law_text : FnScope ["_law_net_here", "_law_piles_here", "_law_tree", "_law_kind"] ["_law_net_here", "_law_piles_here", "_law_tree", "_law_kind"] (defScope s__law_text) := ⟨rfl, rfl, rfl, by decide +kernel, rfl, by decide +kernel, by decide +kernel⟩
abbrev s__law_bent : Stmt := top 59
theorem sc__law_bent : FnScope ["_law_text_here", "_law_number_here", "_law_kind", "_law_words", "_law_at", "_law_other"] ["_law_text_here", "_law_number_here"] (defScope s__law_bent) := ⟨rfl, rfl, rfl, by decide +kernel, rfl, by decide +kernel, by decide +kernel⟩
abbrev s__law_signs : Stmt := top 60
theorem sc__law_signs : FnScope ["_law_text_here", "_law_script", "_law_cell", "_law_number_here", "_law_sign", "_law_at"] ["_law_text_here", "_law_script"] (defScope s__law_signs) := ⟨rfl, rfl, rfl, by decide +kernel, rfl, by decide +kernel, by decide +kernel⟩
abbrev s__law_odd : Stmt := top 61
theorem sc__law_odd : FnScope ["_law_number_here", "_law_some"] ["_law_number_here"] (defScope s__law_odd) := ⟨rfl, rfl, rfl, by decide +kernel, rfl, by decide +kernel, by decide +kernel⟩
abbrev s__law_number : Stmt := top 62
theorem sc__law_number : FnScope ["_law_word_here"] ["_law_word_here"] (defScope s__law_number) := ⟨rfl, rfl, rfl, by decide +kernel, rfl, by decide +kernel, by decide +kernel⟩
abbrev s__law_arrow : Stmt := top 63
theorem sc__law_arrow : FnScope ["_law_word_here", "_law_to", "_law_star", "_law_rest", "_law_weight_here"] ["_law_word_here"] (defScope s__law_arrow) := ⟨rfl, rfl, rfl, by decide +kernel, rfl, by decide +kernel, by decide +kernel⟩
abbrev s__law_net_of : Stmt := top 64
theorem sc__law_net_of : FnScope ["_law_text_here", "_law_net_here", "_law_row", "_law_last", "_law_arrow_here"] ["_law_text_here"] (defScope s__law_net_of) := ⟨rfl, rfl, rfl, by decide +kernel, rfl, by decide +kernel, by decide +kernel⟩
abbrev s__law_piles_of : Stmt := top 65
theorem sc__law_piles_of : FnScope ["_law_net_here", "_law_text_here", "_law_piles_here", "_law_pile", "_law_row", "_law_ends"] ["_law_net_here", "_law_text_here"] (defScope s__law_piles_of) := ⟨rfl, rfl, rfl, by decide +kernel, rfl, by decide +kernel, by decide +kernel⟩
abbrev s__law_tree_of : Stmt := top 66
theorem sc__law_tree_of : FnScope ["_law_net_here", "_law_text_here", "_law_tree", "_law_end", "_law_row"] ["_law_net_here", "_law_text_here"] (defScope s__law_tree_of) := ⟨rfl, rfl, rfl, by decide +kernel, rfl, by decide +kernel, by decide +kernel⟩
abbrev s__law_due : Stmt := top 67
theorem sc__law_due : FnScope ["_law_net_here", "_law_text_here", "_law_kind"] ["_law_net_here", "_law_text_here", "_law_kind"] (defScope s__law_due) := ⟨rfl, rfl, rfl, by decide +kernel, rfl, by decide +kernel, by decide +kernel⟩
abbrev s__law_read : Stmt := top 68
theorem sc__law_read : FnScope ["_law_net_here", "_law_text_here", "_law_kind"] ["_law_net_here", "_law_text_here", "_law_kind"] (defScope s__law_read) := ⟨rfl, rfl, rfl, by decide +kernel, rfl, by decide +kernel, by decide +kernel⟩
abbrev s__law_refused : Stmt := top 69
theorem sc__law_refused : FnScope ["_law_net_here", "_law_text_here", "_law_kind", "_law_got", "error"] ["_law_net_here", "_law_text_here", "_law_kind"] (defScope s__law_refused) := ⟨rfl, rfl, rfl, by decide +kernel, rfl, by decide +kernel, by decide +kernel⟩
abbrev s__law_asked : Stmt := top 70
theorem sc__law_asked : FnScope ["_law_net_here", "_law_text_here", "_law_kind", "_law_handed", "_law_due_here", "_law_found"] ["_law_net_here", "_law_text_here", "_law_kind"] (defScope s__law_asked) := ⟨rfl, rfl, rfl, by decide +kernel, rfl, by decide +kernel, by decide +kernel⟩
abbrev s_law : Stmt := top 71
theorem sc_law : FnScope ["_law_script", "_law_number_here", "_law_net_here", "_law_tree", "_law_kind", "_law_text_here", "_law_bent_here", "_law_turn"] ["_law_script"] (defScope s_law) := ⟨rfl, rfl, rfl, by decide +kernel, rfl, by decide +kernel, by decide +kernel⟩
structure Txt (mg : Str → Option Value) : Prop where
  z_ValueError : mg "ValueError" = none
  z_all : mg "all" = none
  z_bool : mg "bool" = none
  z_int : mg "int" = none
  z_isinstance : mg "isinstance" = none
  z_len : mg "len" = none
  z_list : mg "list" = none
  z_range : mg "range" = none
  z_str : mg "str" = none
  z_tuple : mg "tuple" = none
  z_zip : mg "zip" = none
  c_BETWEEN_PARTS : ∃ t, mg "BETWEEN_PARTS" = some (.str "; " t)
  c_BETWEEN_WORDS : ∃ t, mg "BETWEEN_WORDS" = some (.str " " t)
  c_FIGURES : ∃ t, mg "FIGURES" = some (.str "0123456789" t)
  c_MOST_FIGURES : ∃ t, mg "MOST_FIGURES" = some (.int 30 t)
  c_MOST_IN_PILE : ∃ t, mg "MOST_IN_PILE" = some (.int 40 t)
  c_MOST_PLACES : ∃ t, mg "MOST_PLACES" = some (.int 8 t)
  c_NOTHING : ∃ t, mg "NOTHING" = some (.str "-" t)
structure Cls (K : PySem.W.Frag) (mg : Str → Option Value) where
  a_RingError : Addr
  a_NoNet : Addr
  a_NoTree : Addr
  a_NoPiles : Addr
  a_NoRing : Addr
  a_NoPlace : Addr
  a_NoNumber : Addr
  a_NoArrow : Addr
  a_MakesRing : Addr
  a_RanOut : Addr
  a_TooGreat : Addr
  a_NoText : Addr
  g_RingError : mg "RingError" = some (.ref a_RingError)
  g_NoNet : mg "NoNet" = some (.ref a_NoNet)
  g_NoTree : mg "NoTree" = some (.ref a_NoTree)
  g_NoPiles : mg "NoPiles" = some (.ref a_NoPiles)
  g_NoRing : mg "NoRing" = some (.ref a_NoRing)
  g_NoPlace : mg "NoPlace" = some (.ref a_NoPlace)
  g_NoNumber : mg "NoNumber" = some (.ref a_NoNumber)
  g_NoArrow : mg "NoArrow" = some (.ref a_NoArrow)
  g_MakesRing : mg "MakesRing" = some (.ref a_MakesRing)
  g_RanOut : mg "RanOut" = some (.ref a_RanOut)
  g_TooGreat : mg "TooGreat" = some (.ref a_TooGreat)
  g_NoText : mg "NoText" = some (.ref a_NoText)
  e_RingError : Err K mg "RingError" a_RingError
  e_NoNet : Err K mg "NoNet" a_NoNet
  e_NoTree : Err K mg "NoTree" a_NoTree
  e_NoPiles : Err K mg "NoPiles" a_NoPiles
  e_NoText : Err K mg "NoText" a_NoText
  s_NoNet : PySem.W.mroIn K a_NoNet (.ref a_NoNet) = some true
  v_NoNet : PySem.W.mroIn K a_NoNet (.type "ValueError") = some true
  u_NoNet_RingError : Under K a_NoNet a_RingError
  u_NoNet_NoNet : Under K a_NoNet a_NoNet
  n_NoNet_NoTree : Not K mg "NoTree" a_NoTree a_NoNet
  n_NoNet_NoPiles : Not K mg "NoPiles" a_NoPiles a_NoNet
  n_NoNet_NoRing : Not K mg "NoRing" a_NoRing a_NoNet
  n_NoNet_NoPlace : Not K mg "NoPlace" a_NoPlace a_NoNet
  n_NoNet_NoNumber : Not K mg "NoNumber" a_NoNumber a_NoNet
  n_NoNet_NoArrow : Not K mg "NoArrow" a_NoArrow a_NoNet
  n_NoNet_MakesRing : Not K mg "MakesRing" a_MakesRing a_NoNet
  n_NoNet_RanOut : Not K mg "RanOut" a_RanOut a_NoNet
  n_NoNet_TooGreat : Not K mg "TooGreat" a_TooGreat a_NoNet
  n_NoNet_NoText : Not K mg "NoText" a_NoText a_NoNet
  s_NoTree : PySem.W.mroIn K a_NoTree (.ref a_NoTree) = some true
  v_NoTree : PySem.W.mroIn K a_NoTree (.type "ValueError") = some true
  u_NoTree_RingError : Under K a_NoTree a_RingError
  n_NoTree_NoNet : Not K mg "NoNet" a_NoNet a_NoTree
  u_NoTree_NoTree : Under K a_NoTree a_NoTree
  n_NoTree_NoPiles : Not K mg "NoPiles" a_NoPiles a_NoTree
  n_NoTree_NoRing : Not K mg "NoRing" a_NoRing a_NoTree
  n_NoTree_NoPlace : Not K mg "NoPlace" a_NoPlace a_NoTree
  n_NoTree_NoNumber : Not K mg "NoNumber" a_NoNumber a_NoTree
  n_NoTree_NoArrow : Not K mg "NoArrow" a_NoArrow a_NoTree
  n_NoTree_MakesRing : Not K mg "MakesRing" a_MakesRing a_NoTree
  n_NoTree_RanOut : Not K mg "RanOut" a_RanOut a_NoTree
  n_NoTree_TooGreat : Not K mg "TooGreat" a_TooGreat a_NoTree
  n_NoTree_NoText : Not K mg "NoText" a_NoText a_NoTree
  s_NoPiles : PySem.W.mroIn K a_NoPiles (.ref a_NoPiles) = some true
  v_NoPiles : PySem.W.mroIn K a_NoPiles (.type "ValueError") = some true
  u_NoPiles_RingError : Under K a_NoPiles a_RingError
  n_NoPiles_NoNet : Not K mg "NoNet" a_NoNet a_NoPiles
  n_NoPiles_NoTree : Not K mg "NoTree" a_NoTree a_NoPiles
  u_NoPiles_NoPiles : Under K a_NoPiles a_NoPiles
  n_NoPiles_NoRing : Not K mg "NoRing" a_NoRing a_NoPiles
  n_NoPiles_NoPlace : Not K mg "NoPlace" a_NoPlace a_NoPiles
  n_NoPiles_NoNumber : Not K mg "NoNumber" a_NoNumber a_NoPiles
  n_NoPiles_NoArrow : Not K mg "NoArrow" a_NoArrow a_NoPiles
  n_NoPiles_MakesRing : Not K mg "MakesRing" a_MakesRing a_NoPiles
  n_NoPiles_RanOut : Not K mg "RanOut" a_RanOut a_NoPiles
  n_NoPiles_TooGreat : Not K mg "TooGreat" a_TooGreat a_NoPiles
  n_NoPiles_NoText : Not K mg "NoText" a_NoText a_NoPiles
  s_NoText : PySem.W.mroIn K a_NoText (.ref a_NoText) = some true
  v_NoText : PySem.W.mroIn K a_NoText (.type "ValueError") = some true
  u_NoText_RingError : Under K a_NoText a_RingError
  n_NoText_NoNet : Not K mg "NoNet" a_NoNet a_NoText
  n_NoText_NoTree : Not K mg "NoTree" a_NoTree a_NoText
  n_NoText_NoPiles : Not K mg "NoPiles" a_NoPiles a_NoText
  n_NoText_NoRing : Not K mg "NoRing" a_NoRing a_NoText
  n_NoText_NoPlace : Not K mg "NoPlace" a_NoPlace a_NoText
  n_NoText_NoNumber : Not K mg "NoNumber" a_NoNumber a_NoText
  n_NoText_NoArrow : Not K mg "NoArrow" a_NoArrow a_NoText
  n_NoText_MakesRing : Not K mg "MakesRing" a_MakesRing a_NoText
  n_NoText_RanOut : Not K mg "RanOut" a_RanOut a_NoText
  n_NoText_TooGreat : Not K mg "TooGreat" a_TooGreat a_NoText
  u_NoText_NoText : Under K a_NoText a_NoText
section
variable {P : Program} {w : World} {K : PySem.W.Frag} {mg : Str → Option Value} {base : Heap}
def tyData : PyData → String
  | .none => "NoneType"
  | .bool _ => "bool"
  | .int _ => "int"
  | .str _ => "str"
  | .list _ => "list"
  | .tuple _ => "tuple"
  | .dict _ => "dict"
theorem rep_ty {H : Hp} {x : V} {d : PyData} (r : Rep H x d) : tyD H x = some (tyData d) := by
  cases r with
  | lst e _ => simp [tyD, e, tyData]
  | tup e _ => simp [tyD, e, tyData]
  | dct e => simp [tyD, e, tyData]
  | _ => rfl
def isIntD : PyData → Bool
  | .int _ => true
  | _ => false

/-! ### taking data apart -/
theorem fm_some {α β : Type} (f : α → β) (l : List α) : l.filterMap (fun a => some (f a)) = l.map f := by
  induction l with
  | nil => rfl
  | cons a r ih => rw [List.filterMap_cons, List.map_cons, ih]
theorem rep_int {H : Hp} {x : V} {i : Int} (r : Rep H x (.int i)) : x = .int i := by cases r; rfl
theorem rep_list {H : Hp} {x : V} {ds : List PyData} (r : Rep H x (.list ds)) : ∃ a xs, x = .ref a ∧ H a = some (.lst xs) ∧ Reps H xs ds := by
  cases r with
  | @lst a xs _ e rs => exact ⟨a, xs, rfl, e, rs⟩
theorem rep_arr {H : Hp} {x : V} {a : Int × Int} (r : Rep H x (arrD a)) : ∃ b, x = .ref b ∧ H b = some (.tup [.int a.1, .int a.2]) := by
  unfold arrD at r
  cases r with
  | @tup b xs _ e rs =>
    cases rs with
    | cons r1 rs =>
      cases rs with
      | cons r2 rs =>
        cases rs
        rw [rep_int r1, rep_int r2] at e
        exact ⟨b, rfl, e⟩
theorem reps_map {α : Type} {H : Hp} {f : α → PyData} {l : List α} {xs : List V} {i : Nat} {x : V} (rs : Reps H xs (l.map f)) (hx : xs[i]? = some x) : ∃ a, l[i]? = some a ∧ Rep H x (f a) := by
  obtain ⟨d, hd, r⟩ := rs.get hx
  rw [List.getElem?_map] at hd
  cases e : l[i]? with
  | none => rw [e] at hd; cases hd
  | some a =>
    rw [e] at hd
    cases hd
    exact ⟨a, rfl, r⟩
theorem iteB {b : Bool} {A B : Prop} (h1 : b = true → A) (h2 : b = false → B) : if b = true then A else B := by
  cases b with
  | true => rw [if_pos rfl]; exact h1 rfl
  | false => rw [if_neg Bool.false_ne_true]; exact h2 rfl
theorem iteD {c A B : Prop} [Decidable c] (h1 : c → A) (h2 : ¬ c → B) : if decide c = true then A else B := iteB (fun h => h1 (of_decide_eq_true h)) (fun h => h2 (of_decide_eq_false h))
theorem atI0 {α : Type} (x : α) (r : List α) : atI (x :: r) 0 = some x := atI_nat (j := 0) rfl
theorem lt_of_get {α : Type} {l : List α} {i : Nat} {x : α} (h : l[i]? = some x) : i < l.length := (List.getElem?_eq_some_iff.mp h).1

theorem inV_ints (e : Int) (l : List Int) : inV (.int e) (l.map V.int) = decide (e ∈ l) := by
  unfold inV
  rw [List.any_map]
  induction l with
  | nil => rfl
  | cons a r ih =>
    rw [List.any_cons, ih]
    show (a == e || decide (e ∈ r)) = decide (e ∈ a :: r)
    by_cases h : a = e
    · simp [h]
    · have h' : ¬ e = a := fun q => h q.symm
      simp [h, h']
theorem flat_ints (l : List Int) : (l.map V.int).all flatV = true := by
  rw [List.all_map]
  exact List.all_eq_true.mpr fun _ _ => rfl
theorem shaped_nil : SeqAt.shaped (.list []) = true := (okTo.list (k := 0) (ds := []) (by intro d h; cases h)).shaped (by decide)
/-! ### ways -/
def optV : Option Nat → V
  | none => .non
  | some e => .int e
def natsV (l : List Nat) : List V := l.map fun (n : Nat) => V.int (n : Int)
theorem optV_at {es : List (Option Nat)} {p : Nat} (h : p < es.length) : (es.map optV)[p]? = some (optV (nextE es p)) := by
  rw [List.getElem?_map, List.getElem?_eq_getElem h]
  unfold nextE
  rw [List.getElem?_eq_getElem h]
  rfl
theorem last_of {es : List (Option Nat)} {p : Nat} {way : List Nat} (wy : Way es p way) : ∃ l, way.getLast? = some l ∧ l < es.length ∧ atI (natsV way) (-1) = some (.int l) := by
  have hp := wy.pos
  obtain ⟨r, l, rfl⟩ : ∃ r l, way = r ++ [l] := by
    refine ⟨way.dropLast, way.getLast (by intro z; rw [z] at hp; exact Nat.lt_irrefl _ hp), ?_⟩
    exact (List.dropLast_concat_getLast _).symm
  refine ⟨l, by simp, wy.bd l (by simp), ?_⟩
  unfold natsV
  rw [List.map_append]
  exact atI_last _ _
theorem inV_nats (e : Nat) (l : List Nat) : inV (.int e) (natsV l) = decide (e ∈ l) := by
  have : natsV l = (l.map fun (n : Nat) => (n : Int)).map V.int := by unfold natsV; rw [List.map_map]; rfl
  rw [this, inV_ints]
  congr 1
  apply propext
  constructor
  · intro h
    obtain ⟨a, ha, e'⟩ := List.mem_map.mp h
    have : a = e := by omega
    exact this ▸ ha
  · intro h
    exact List.mem_map.mpr ⟨e, h, rfl⟩
theorem flat_nats (l : List Nat) : (natsV l).all flatV = true := by
  unfold natsV
  rw [List.all_map]
  exact List.all_eq_true.mpr fun _ _ => rfl
structure New (H F H' : Hp) : Prop where
  keep : Same H H'
  sub : Same F H'
  fresh : ∀ b o, F b = some o → H b = none
/-! ### flat lists -/
theorem ixN_nat {n j : Nat} (h : j < n) : ixN n (j : Int) = some j := by
  unfold ixN
  rw [if_pos (Int.natCast_nonneg j), if_pos (by omega)]
  simp
/-! ### lists of places -/
def natsD (l : List Nat) : PyData := .list (l.map fun (n : Nat) => .int (n : Int))
def ringsD (l : List (List Nat)) : PyData := .list (l.map natsD)
theorem reps_nats {H : Hp} : ∀ {l : List Nat} {xs : List V}, Reps H xs (l.map fun (n : Nat) => .int (n : Int)) → xs = natsV l
  | [], _, .nil => rfl
  | a :: l, _, .cons r t => by
    rw [rep_int r, reps_nats t]
    rfl
theorem nats_reps {H : Hp} : ∀ (l : List Nat), Reps H (natsV l) (l.map fun (n : Nat) => .int (n : Int))
  | [] => .nil
  | _ :: l => .cons (.int _) (nats_reps l)
theorem rep_nats {H : Hp} {x : V} {l : List Nat} (r : Rep H x (natsD l)) : ∃ b, x = .ref b ∧ H b = some (.lst (natsV l)) := by
  obtain ⟨b, xs, rfl, e, rs⟩ := rep_list r
  exact ⟨b, rfl, by rw [e, reps_nats rs]⟩
theorem nats_rep {H : Hp} {b : Addr} {l : List Nat} (h : H b = some (.lst (natsV l))) : Rep H (.ref b) (natsD l) := .lst h (nats_reps l)
theorem okTo_nats (l : List Nat) : okTo 1 (natsD l) := okTo.list fun d hd => by
  obtain ⟨a, _, rfl⟩ := List.mem_map.mp hd
  exact okTo.int _
theorem okTo_rings (l : List (List Nat)) : okTo 2 (ringsD l) := okTo.list fun d hd => by
  obtain ⟨a, _, rfl⟩ := List.mem_map.mp hd
  exact okTo_nats a
theorem eqv_nat (a b : Nat) : PyData.eqv (.int (a : Int)) (.int (b : Int)) = decide (a = b) := by
  rw [eqv_int]
  by_cases h : a = b
  · simp [h]
  · have : ¬ (a : Int) = b := by omega
    simp [h, this]
theorem eqv_nats (a b : List Nat) : PyData.eqv (natsD a) (natsD b) = decide (a = b) := by
  simp only [natsD, PyData.eqv]
  exact eqvAll_map eqv_nat a b
theorem eqv_rings (a b : List (List Nat)) : PyData.eqv (ringsD a) (ringsD b) = decide (a = b) := by
  simp only [ringsD, PyData.eqv]
  exact eqvAll_map eqv_nats a b
theorem optV_rep {H : Hp} : ∀ (o : Option Nat), Rep H (optV o) (optPy o)
  | none => .non
  | some e => .int e
theorem opts_reps {H : Hp} : ∀ (es : List (Option Nat)), Reps H (es.map optV) (es.map optPy)
  | [] => .nil
  | o :: r => .cons (optV_rep o) (opts_reps r)
theorem opts_rep {H : Hp} {a : Addr} {es : List (Option Nat)} (h : H a = some (.lst (es.map optV))) : Rep H (.ref a) (.list (es.map optPy)) := .lst h (opts_reps es)
theorem okTo_opt : ∀ (o : Option Nat), okTo 0 (optPy o)
  | none => okTo.none
  | some _ => okTo.int _
theorem okTo_opts (es : List (Option Nat)) : okTo 1 (.list (es.map optPy)) := okTo.list fun d hd => by
  obtain ⟨a, _, rfl⟩ := List.mem_map.mp hd
  exact okTo_opt a
theorem eqv_opt (a b : Option Nat) : PyData.eqv (optPy a) (optPy b) = decide (a = b) := by
  cases a with
  | none => cases b <;> simp [optPy, PyData.eqv]
  | some a =>
    cases b with
    | none => simp [optPy, PyData.eqv]
    | some b =>
      rw [optPy, optPy, eqv_nat]
      simp
theorem eqv_opts (a b : List (Option Nat)) : PyData.eqv (.list (a.map optPy)) (.list (b.map optPy)) = decide (a = b) := by
  simp only [PyData.eqv]
  exact eqvAll_map eqv_opt a b
theorem natsV_len (l : List Nat) : (natsV l).length = l.length := by unfold natsV; rw [List.length_map]
theorem natsV_ints (l : List Nat) : natsV l = (l.map fun (n : Nat) => (n : Int)).map V.int := by unfold natsV; rw [List.map_map]; rfl
theorem natsV_append (a b : List Nat) : natsV (a ++ b) = natsV a ++ natsV b := by unfold natsV; rw [List.map_append]
theorem natsV_get {l : List Nat} {i : Nat} {x : V} (h : (natsV l)[i]? = some x) : ∃ n, l[i]? = some n ∧ x = .int (n : Int) := by
  unfold natsV at h
  rw [List.getElem?_map] at h
  cases e : l[i]? with
  | none => rw [e] at h; cases h
  | some n => rw [e] at h; exact ⟨n, rfl, (Option.some.inj h).symm⟩
/-- a new object joins what a view knows, while a block's list grows -/
theorem New.grow {H F G H4 : Hp} {D r : Addr} {ys : List V} {o : HO} (n : New H F G) (hG : G D = none) (hs : Same (upd G D (.lst ys)) H4) (hr : (upd G D (.lst ys)) r = none) (h4 : H4 r = some o) : New H (upd F r o) (del H4 D) := by
  have hrD : r ≠ D := by rintro rfl; rw [upd_same] at hr; cases hr
  have hGr : G r = none := by rw [upd_ne hrD] at hr; exact hr
  refine ⟨same_del n.keep hG hs, fun b u e => ?_, fun b u e => ?_⟩
  · by_cases hb : b = r
    · subst hb
      rw [upd_same] at e
      cases e
      rw [del_ne hrD]
      exact h4
    · rw [upd_ne hb] at e
      have e1 := n.sub b u e
      have nb : b ≠ D := ne_of_none e1 hG
      rw [del_ne nb]
      exact hs b u (by rw [upd_ne nb]; exact e1)
  · by_cases hb : b = r
    · subst hb
      exact n.keep.free hGr
    · rw [upd_ne hb] at e
      exact n.fresh b u e
theorem New.bare {H F G : Hp} {r : Addr} (n : New H F G) (h : G r = none) : F r = none := n.sub.free h
theorem New.start (H : Hp) : New H (fun _ => none) H := ⟨Same.refl _, (fun _ _ e => nomatch e), (fun _ _ e => nomatch e)⟩
/-- .. and the block's own list at its end -/
theorem New.done {H F G : Hp} {D : Addr} {o : HO} (n : New H F G) (hG : G D = none) : New H (upd F D o) (upd G D o) := by
  refine ⟨n.keep.trans (same_upd hG _), fun b u e => ?_, fun b u e => ?_⟩
  · by_cases hb : b = D
    · subst hb; rw [upd_same] at e ⊢; exact e
    · rw [upd_ne hb] at e ⊢; exact n.sub b u e
  · by_cases hb : b = D
    · subst hb; exact n.keep.free hG
    · rw [upd_ne hb] at e; exact n.fresh b u e
theorem New.more {H F G G' : Hp} (n : New H F G) (h : Same G G') : New H F G' := ⟨n.keep.trans h, n.sub.trans h, n.fresh⟩
end
end Law

namespace L2
open PySem PySem.Spec PyProof.Rows
theorem Here.mkE {P : Program} {w : World} {K : PySem.W.Frag} {mg : Str → Option Value} {base : Heap} {x : Str} {st : Stmt} {ps : List Str} {k : Nat} {sp : Sp} (h : Here K mg x st ps) (ok : ∀ f fd, Fun K x x st f fd → FnOk P w K mg base (CX1 P w) k f fd ps sp) : DefE P w K mg base x k ps sp := by
  obtain ⟨f, fd, F, m, b⟩ := h
  exact ⟨f, fd, ok f fd F, m, F.kp, b⟩
end L2

namespace Law
open PySem L2 Ways Ring PyProof.Rows
section
variable {P : Program} {w : World} {K : PySem.W.Frag} {mg : Str → Option Value} {base : Heap}
def sp_way_along : Sp := fun vs H Q _ => ∃ a es p, vs = [.ref a, .int ((p : Nat) : Int)] ∧ H a = some (.lst (es.map optV)) ∧ InB es ∧ p < es.length ∧ es.length ≤ 8 ∧
  ∀ r H' way, Same H H' → H r = none → H' r = some (.lst (natsV way)) → Way es p way → Done es way → Q (.ref r) H'
theorem def_way_along (T : Txt mg) (h : Here K mg "way_along" s_way_along ["ends", "place"]) : Def P w K mg base "way_along" 1 ["ends", "place"] sp_way_along := h.mk fun f fd F => by
  have nd := sc_way_along.nd
  refine F.ok sc_way_along (fun vs H Q E h => ?_) (fun cdv A outer s H vs Q E hr h => ?_)
  · obtain ⟨a, es, p, rfl, _⟩ := h
    rfl
  obtain ⟨a, es, p, rfl, ha, hb, hp, hl, q⟩ := h
  refine ⟨_, pss_cons (ps_set (i := 2) nd rfl (Or.inl rfl) (pe_lst (pa_cons (pv 1) pa_nil)))
    (pss_cons (ps_while PassesOwn.never (PW.pt (pw_and (pt_cmp (pc_notN (pe_ix (ix_lt (K := K)) (pv 0) (pe_ix (ix_lt (K := K)) (pv 2) (pe_un un_neg pe_int) (fun _ _ => rfl)) (fun _ _ => rfl)))) (pw_and1 (pt_cmpR (op_notInK (K := K)) (pe_ix (ix_lt (K := K)) (pv 0) (pe_ix (ix_lt (K := K)) (pv 2) (pe_un un_neg pe_int) (fun _ _ => rfl)) (fun _ _ => rfl)) (pv 2) rfl))))
      (pss_one (ps_expr (pe_bm PySem.F.plainAttrs_list PySem.F.slot_list_append PySem.F.type_list_append mt_append (pv 2) (pa_cons (pe_ix (ix_lt (K := K)) (pv 0) (pe_ix (ix_lt (K := K)) (pv 2) (pe_un un_neg pe_int) (fun _ _ => rfl)) (fun _ _ => rfl)) pa_nil)))))
    (pss_one (ps_ret (pv 2)))), ?_⟩
  refine ⟨_, rfl, (by show 1 ≤ sizeLine; decide), fun r hr => ?_⟩
  have hne : ∀ {H' : Hp}, Same H H' → H' a = some (.lst (es.map optV)) := fun hs => hs _ _ ha
  refine ⟨fun m σ' H' => ∃ way, σ' = [some (.ref a), some (.int p), some (.ref r)] ∧ Same H H' ∧ H' r = some (.lst (natsV way)) ∧ Way es p way ∧ m = es.length - way.length,
    ⟨es.length - 1, [p], rfl, same_upd hr _, upd_same, Way.one hp, rfl⟩, ?_⟩
  rintro m σ' H' ⟨way, rfl, hs, hw, wy, rfl⟩
  obtain ⟨l, hlast, hlt, hat⟩ := last_of wy
  have ha' := hne hs
  have hen := optV_at hlt
  refine ⟨_, rfl, _, rfl, _, rfl, .inl ⟨r, _, -1, _, rfl, rfl, SqL.of hw, hat, .inl ⟨a, _, _, _, rfl, rfl, SqL.of ha', atI_nat hen, _, rfl, ?_⟩⟩⟩
  cases hn : nextE es l with
  | none => exact ⟨_, rfl, q r H' way hs hr hw wy ⟨l, hlast, .inl hn⟩⟩
  | some e =>
    rw [hn] at hen
    refine ⟨_, rfl, _, rfl, _, rfl, .inl ⟨r, _, -1, _, rfl, rfl, SqL.of hw, hat, .inl ⟨a, _, _, _, rfl, rfl, SqL.of ha', atI_nat hen, _, rfl, r, _, rfl, .inl (SqL.of hw), rfl, flat_nats _, _, rfl, ?_⟩⟩⟩
    show if (!inV (.int e) (natsV way)) = true then _ else _
    rw [inV_nats]
    refine iteB (fun c => ?_) (fun c => ?_)
    · have hq : e ∉ way := by simpa using c
      have wy2 := wy.more hlast hn hq hb
      have hl2 := wy2.len
      rw [List.length_append, List.length_singleton] at hl2
      refine ⟨fun σ' H' => ∃ way', σ' = [some (.ref a), some (.int p), some (.ref r)] ∧ Same H H' ∧ H' r = some (.lst (natsV way')) ∧ Way es p way' ∧ way'.length = way.length + 1, ?_, ?_⟩
      · rintro σ2 H2 ⟨way', e1, e2, e3, e4, e5⟩
        exact ⟨_, by omega, way', e1, e2, e3, e4, rfl⟩
      · refine ⟨_, rfl, .inl ⟨rfl, _, SqL.of hw⟩, _, rfl, _, rfl, _, rfl, .inl ⟨r, _, -1, _, rfl, rfl, SqL.of hw, hat, .inl ⟨a, _, _, _, rfl, rfl, SqL.of ha', atI_nat hen, r, _, _, rfl, rfl, hw, ?_, ?_⟩⟩⟩
        · unfold natsV
          rw [List.length_map]
          exact small1000 (by omega)
        · refine ⟨way ++ [e], rfl, ?_, ?_, wy2, by simp⟩
          · intro b o hbo
            rw [upd_ne (ne_of_none hbo hr)]
            exact hs b o hbo
          · rw [upd_same]
            unfold natsV
            rw [List.map_append]
            rfl
    · have hq : e ∈ way := by simpa using c
      exact ⟨_, rfl, q r H' way hs hr hw wy ⟨l, hlast, .inr ⟨e, hn, hq⟩⟩⟩

end
end Law

namespace Law
open PySem L2 Ways Ring PyProof.Rows
section
variable {P : Program} {w : World} {K : PySem.W.Frag} {mg : Str → Option Value} {base : Heap}
def sp_is_number : Sp := fun vs H Q _ => ∃ x d, vs = [x] ∧ Rep H x d ∧ Q (.bl (isIntD d)) H
theorem def_is_number (T : Txt mg) (h : Here K mg "is_number" s_is_number ["thing"]) : Def P w K mg base "is_number" 1 ["thing"] sp_is_number := h.mk fun f fd F => by
  have nd := sc_is_number.nd
  refine F.ok sc_is_number (fun vs H Q E h => ?_) (fun cdv A outer s H vs Q E hr h => ?_)
  · obtain ⟨x, d, rfl, _⟩ := h
    rfl
  obtain ⟨x, d, rfl, r, q⟩ := h
  refine ⟨_, pss_one (ps_ret (pe_and (pe_callB call_isi rfl T.z_isinstance boot_isinstance (pa_cons (pv 0) (pa_cons (pe_bltn rfl T.z_int boot_int (v := .ty "int") rfl) pa_nil))) (pe_one (pe_not (pe_callB call_isi rfl T.z_isinstance boot_isinstance (pa_cons (pv 0) (pa_cons (pe_bltn rfl T.z_bool boot_bool (v := .ty "bool") rfl) pa_nil))))))), ?_⟩
  have ht := rep_ty r
  refine ⟨_, rfl, _, _, _, rfl, by decide, ht, _, rfl, ?_⟩
  cases d with
  | int i => exact ⟨_, rfl, _, _, _, rfl, by decide, ht, _, rfl, q⟩
  | bool b => exact ⟨_, rfl, _, _, _, rfl, by decide, ht, _, rfl, q⟩
  | _ => exact q

def endsV (row : List (Int × Int)) : List V := row.map fun a => .int a.1
def sp_ends_of : Sp := fun vs H Q _ => ∃ v row, vs = [v] ∧ Rep H v (rowD row) ∧ row.length ≤ 8 ∧ ∀ r H', Same H H' → H r = none → H' r = some (.lst (endsV row)) → Q (.ref r) H'
theorem def_ends_of (T : Txt mg) (h : Here K mg "ends_of" s_ends_of ["row"]) : Def P w K mg base "ends_of" 1 ["row"] sp_ends_of := h.mk fun f fd F => by
  have nd := sc_ends_of.nd
  refine F.ok sc_ends_of (fun vs H Q E h => ?_) (fun cdv A outer s H vs Q E hr h => ?_)
  · obtain ⟨x, d, rfl, _⟩ := h
    rfl
  obtain ⟨v, row, rfl, r, hl, q⟩ := h
  refine ⟨_, pss_one (ps_ret (pe_comp (N' := ["arrow"]) (cap := [none]) rfl ⟨rfl, rfl, rfl, rfl, rfl, rfl⟩ (pi_listK (K := K) (pv 0)) (fun _ _ _ _ _ _ => ⟨pg_name (i := 0) (show (["arrow"] : List Str).Nodup by decide +kernel) rfl (Or.inl rfl) (Or.inr rfl), pifs_nil, pe_ix (ix_lt (K := K)) (pv 0) pe_int (fun _ _ => rfl)⟩) (keeps_name rfl))), ?_⟩
  obtain ⟨a, xs, rfl, e, rs⟩ := rep_list r
  have hlen : xs.length = row.length := by rw [rs.length, List.length_map]
  refine ⟨_, rfl, a, rfl, ⟨xs, SqL.of e⟩, fun D hD => ?_⟩
  refine comp_list (xs := xs) (FlatP H fun i => (row[i]?).bind fun a => some (.int a.1)) hD FlatP.zero (fun i G ys p => SqL.of (p.1 _ _ e)) (fun i x G ys hx hG p => ?_) (fun G ys hG p => ?_)
  · obtain ⟨a0, ha, rx⟩ := reps_map rs hx
    obtain ⟨b, rfl, hb⟩ := rep_arr rx
    have hb' : (upd G D (.lst ys)) b = some (.tup [.int a0.1, .int a0.2]) := same_upd hG _ _ _ (p.1 _ _ hb)
    refine ⟨_, rfl, .inr ⟨b, _, 0, _, rfl, rfl, SqT.of hb', atI0 _ _, ?_⟩⟩
    exact p.put hG (Same.refl _) (by rw [ha]; rfl) (by have := lt_of_get hx; omega)
  · refine q D _ (p.1.trans (same_upd hG _)) hD ?_
    rw [upd_same, p.2, hlen, flat_list, fm_some]
    rfl

theorem fits_nil (d : PyData) : fitsD [] d = (match d with | .none => true | _ => false) := rfl
theorem fits_cons {row : List (Int × Int)} (h : row ≠ []) (d : PyData) : fitsD row d = (match d with | .int e => decide (e ∈ row.map (·.1)) | _ => false) := by
  unfold fitsD
  rw [if_neg h]
  all_goals rfl
theorem endsV_eq (row : List (Int × Int)) : endsV row = (row.map (·.1)).map V.int := by
  unfold endsV
  rw [List.map_map]
  rfl
def endD (row : List (Int × Int)) (d : PyData) : Bool := match d with | .int e => decide (e ∈ row.map (·.1)) | _ => false
def sp_is_end : Sp := fun vs H Q _ => ∃ v x row d, vs = [v, x] ∧ Rep H v (rowD row) ∧ Rep H x d ∧ row.length ≤ 8 ∧ ∀ H', Same H H' → Q (.bl (endD row d)) H'
theorem def_is_end (T : Txt mg) (D_is_number : Def P w K mg base "is_number" 1 ["thing"] sp_is_number) (D_ends_of : Def P w K mg base "ends_of" 1 ["row"] sp_ends_of) (h : Here K mg "is_end" s_is_end ["row", "thing"]) :
    Def P w K mg base "is_end" 2 ["row", "thing"] sp_is_end := h.mk fun f fd F => by
  have nd := sc_is_end.nd
  refine F.ok sc_is_end (fun vs H Q E h => ?_) (fun cdv A outer s H vs Q E hr h => ?_)
  · obtain ⟨v, x, row, d, rfl, _⟩ := h
    rfl
  obtain ⟨v, x, row, d, rfl, r, rx, hl, q⟩ := h
  refine ⟨_, pss_one (ps_ret (pe_and (pe_callD D_is_number hr rfl (pa_cons (pv 1) pa_nil)) (pe_one (pe_cmpR (op_inK (K := K)) (pv 1) (pe_callD D_ends_of hr rfl (pa_cons (pv 0) pa_nil)) rfl)))), ?_⟩
  refine ⟨_, rfl, x, d, rfl, rx, _, rfl, ?_⟩
  cases rx with
  | int i =>
    refine ⟨_, rfl, _, rfl, v, row, rfl, r, hl, fun t H' hs hn ht => ?_⟩
    refine ⟨t, _, rfl, .inl (SqL.of ht), rfl, ?_, ?_⟩
    · rw [endsV_eq]; exact flat_ints _
    · have q2 := q H' hs
      rw [endsV_eq]
      show Q (.bl (inV (.int i) ((row.map (·.1)).map V.int))) H'
      rw [inV_ints]
      exact q2
  | _ => exact q _ (Same.refl _)
def sp_fits_row : Sp := fun vs H Q _ => ∃ v x row d, vs = [v, x] ∧ Rep H v (rowD row) ∧ Rep H x d ∧ row.length ≤ 8 ∧ ∀ H', Same H H' → Q (.bl (fitsD row d)) H'
theorem def_fits_row (T : Txt mg) (D_is_end : Def P w K mg base "is_end" 2 ["row", "thing"] sp_is_end) (h : Here K mg "fits_row" s_fits_row ["row", "thing"]) :
    Def P w K mg base "fits_row" 3 ["row", "thing"] sp_fits_row := h.mk fun f fd F => by
  have nd := sc_fits_row.nd
  refine F.ok sc_fits_row (fun vs H Q E h => ?_) (fun cdv A outer s H vs Q E hr h => ?_)
  · obtain ⟨v, x, row, d, rfl, _⟩ := h
    rfl
  obtain ⟨v, x, row, d, rfl, r, rx, hl, q⟩ := h
  refine ⟨_, pss_cons (ps_if (pt_cmpR (op_eqD hr) (pv 0) (pe_lst pa_nil) (nomark _))
      (pss_one (ps_ret (pe_cmp (pc_isN (pv 1)))))
      (pss_nil))
    (pss_one (ps_ret (pe_callD D_is_end hr rfl (pa_cons (pv 0) (pa_cons (pv 1) pa_nil))))), ?_⟩
  refine ⟨_, rfl, (by show 0 ≤ sizeLine; exact Nat.zero_le _), fun p hp => ?_⟩
  have s1 := same_upd hp (HO.lst [])
  refine ⟨_, _, r.mono s1, .lst upd_same .nil, (okTo_row row).shaped (by decide), shaped_nil, _, rfl, ?_⟩
  rw [eqv_row_nil]
  refine iteD (fun h0 => ?_) (fun h0 => ?_)
  · refine ⟨_, rfl, ?_⟩
    have q' := q _ s1
    rw [h0, fits_nil] at q'
    cases rx <;> exact q'
  · rw [fits_cons h0] at q
    exact ⟨_, rfl, _, rfl, v, x, row, d, rfl, r.mono s1, rx.mono s1, hl, fun H' hs => q H' (s1.trans hs)⟩
def sp_comes_to_root : Sp := fun vs H Q _ => ∃ a es p, vs = [.ref a, .int ((p : Nat) : Int)] ∧ H a = some (.lst (es.map optV)) ∧ InB es ∧ p < es.length ∧ es.length ≤ 8 ∧ ∀ H', Same H H' → Q (.bl (rootB es p)) H'
theorem def_comes_to_root (T : Txt mg) (D_way_along : Def P w K mg base "way_along" 1 ["ends", "place"] sp_way_along) (h : Here K mg "comes_to_root" s_comes_to_root ["ends", "place"]) :
    Def P w K mg base "comes_to_root" 2 ["ends", "place"] sp_comes_to_root := h.mk fun f fd F => by
  have nd := sc_comes_to_root.nd
  refine F.ok sc_comes_to_root (fun vs H Q E h => ?_) (fun cdv A outer s H vs Q E hr h => ?_)
  · obtain ⟨a, es, p, rfl, _⟩ := h
    rfl
  obtain ⟨a, es, p, rfl, ha, hb, hp, hl, q⟩ := h
  refine ⟨_, pss_one (ps_ret (pe_cmp (pc_isN (pe_ix (ix_lt (K := K)) (pv 0) (pe_ix (ix_lt (K := K)) (pe_callD D_way_along hr rfl (pa_cons (pv 0) (pa_cons (pv 1) pa_nil))) (pe_un un_neg pe_int) (fun _ _ => rfl)) (fun _ _ => rfl))))), ?_⟩
  refine ⟨_, rfl, _, rfl, _, rfl, a, es, p, rfl, ha, hb, hp, hl, fun r H' way hs hn hw wy dn => ?_⟩
  obtain ⟨l, hlast, hlt, hat⟩ := last_of wy
  have hen := optV_at hlt
  refine ⟨_, rfl, .inl ⟨r, _, -1, _, rfl, rfl, SqL.of hw, hat, .inl ⟨a, _, _, _, rfl, rfl, SqL.of (hs _ _ ha), atI_nat hen, ?_⟩⟩⟩
  have q' := q H' hs
  obtain ⟨l', hl', d⟩ := dn
  rw [hlast] at hl'
  cases hl'
  rcases d with d | ⟨e, d, he⟩
  · rw [wy.root hlast d] at q'
    rw [d]
    exact q'
  · rw [wy.ring hlast d he] at q'
    rw [d]
    exact q'

theorem reps_opt {H : Hp} : ∀ {xs : List V} {ds : List PyData}, Reps H xs ds → (∀ d ∈ ds, d = .none ∨ ∃ e : Nat, d = .int e) → xs = (ds.map optE).map optV
  | _, _, .nil, _ => rfl
  | _, _, .cons (d := d) r t, h => by
    have ih := reps_opt t fun x hx => h x (List.mem_cons_of_mem _ hx)
    rw [List.map_cons, List.map_cons, ← ih]
    rcases h d List.mem_cons_self with rfl | ⟨e, rfl⟩
    · cases r; rfl
    · cases r; rfl
theorem netD_at {net : Net} {i : Nat} {row : List (Int × Int)} (ok : NetOk net) (h : net[i]? = some row) : row.length ≤ 8 := (ok.row row (List.mem_of_getElem? h)).1
theorem all_flat {n : Nat} (f : Nat → Bool) : (List.range n).filterMap (fun i => some (V.bl (f i))) = ((List.range n).map f).map V.bl := by
  rw [fm_some, List.map_map]
  rfl
theorem all_range_zip {net : Net} {ds : List PyData} (hl : ds.length = net.length) : ((List.range net.length).map fun i => fitsD (net.getD i []) (ds.getD i .none)).all id = (net.zip ds).all fun p => fitsD p.1 p.2 := by
  rw [List.all_map]
  induction net generalizing ds with
  | nil => simp
  | cons r n ih =>
    cases ds with
    | nil => simp at hl
    | cons d ds =>
      rw [List.length_cons, List.range_succ_eq_map, List.all_cons, List.all_map, List.zip_cons_cons, List.all_cons]
      have := ih (ds := ds) (by simpa using hl)
      rw [← this]
      rfl
theorem good_list (net : Net) (ds : List PyData) : goodD net (.list ds) = (decide (ds.length = net.length) && (net.zip ds).all (fun p => fitsD p.1 p.2) && (List.range net.length).all (fun p => rootB (ds.map optE) p)) := rfl
theorem ne_t {a b : Nat} (h : (!decide (V.int (a : Int) = V.int (b : Int))) = true) : a ≠ b := by
  intro e
  rw [e] at h
  simp at h
theorem ne_f {a b : Nat} (h : (!decide (V.int (a : Int) = V.int (b : Int))) = false) : a = b := by
  have : V.int (a : Int) = V.int (b : Int) := by simpa using h
  injection this with e
  omega
def sp_is_tree : Sp := fun vs H Q _ => ∃ v x net d, vs = [v, x] ∧ Rep H v (netD net) ∧ Rep H x d ∧ NetOk net ∧ ∀ H', Same H H' → Q (.bl (goodD net d)) H'
theorem def_is_tree (T : Txt mg) (D_fits_row : Def P w K mg base "fits_row" 3 ["row", "thing"] sp_fits_row) (D_comes_to_root : Def P w K mg base "comes_to_root" 2 ["ends", "place"] sp_comes_to_root) (h : Here K mg "is_tree" s_is_tree ["net", "things"]) :
    Def P w K mg base "is_tree" 4 ["net", "things"] sp_is_tree := h.mk fun f fd F => by
  have nd := sc_is_tree.nd
  refine F.ok sc_is_tree (fun vs H Q E h => ?_) (fun cdv A outer s H vs Q E hr h => ?_)
  · obtain ⟨v, x, net, d, rfl, _⟩ := h
    rfl
  obtain ⟨v, x, net, d, rfl, r, rx, ok, q⟩ := h
  refine ⟨_, pss_cons (ps_if (PW.pt (pw_or (pt_not (pt_val (pe_callB call_isi rfl T.z_isinstance boot_isinstance (pa_cons (pv 1) (pa_cons (pe_bltn rfl T.z_list boot_list (v := .ty "list") rfl) pa_nil))))) (pw_or1 (pt_cmpR op_ne (pe_callB (call_lenK (K := K)) rfl T.z_len PySem.boot_len (pa_cons (pv 1) pa_nil)) (pe_callB (call_lenK (K := K)) rfl T.z_len PySem.boot_len (pa_cons (pv 0) pa_nil)) (nomark _)))))
      (pss_one (ps_ret pe_bl))
      (pss_nil))
    (pss_cons (ps_if (pt_not (pt_val (pe_callB (call_allK (K := K) rfl) rfl T.z_all boot_all (pa_cons (pe_comp (N' := ["row", "thing"]) (cap := [none, none]) rfl ⟨rfl, rfl, rfl, rfl, rfl, rfl⟩ (pi_zipK (K := K) rfl T.z_zip (pa_cons (pv 0) (pa_cons (pv 1) pa_nil))) (fun _ _ _ _ _ _ => ⟨pg_tupK (K := K) rfl (pgs_cons (pg_name (i := 0) (show (["row", "thing"] : List Str).Nodup by decide +kernel) rfl (Or.inl rfl) (Or.inr rfl)) (pgs_cons (pg_name (i := 1) (show (["row", "thing"] : List Str).Nodup by decide +kernel) rfl (Or.inl rfl) (Or.inr rfl)) pgs_nil)), pifs_nil, pe_callD D_fits_row hr rfl (pa_cons (pv 0) (pa_cons (pv 1) pa_nil))⟩) (keeps_two rfl rfl)) pa_nil))))
      (pss_one (ps_ret pe_bl))
      (pss_nil))
    (pss_one (ps_ret (pe_callB (call_allK (K := K) rfl) rfl T.z_all boot_all (pa_cons (pe_comp (N' := ["place", "things"]) (cap := [none, some 1]) rfl ⟨rfl, rfl, rfl, rfl, rfl, rfl⟩ (pi_range1 rfl T.z_range (pa_cons (pe_callB (call_lenK (K := K)) rfl T.z_len PySem.boot_len (pa_cons (pv 1) pa_nil)) pa_nil)) (fun _ _ _ _ _ _ => ⟨pg_name (i := 0) (show (["place", "things"] : List Str).Nodup by decide +kernel) rfl (Or.inl rfl) (Or.inr rfl), pifs_nil, pe_callD D_comes_to_root hr rfl (pa_cons (pv 1) (pa_cons (pv 0) pa_nil))⟩) (keeps_name rfl)) pa_nil))))), ?_⟩
  have ht := rep_ty rx
  refine ⟨_, rfl, _, _, _, rfl, by decide, ht, _, rfl, ?_⟩
  cases d with
  | list ds =>
    obtain ⟨a, xs, rfl, ea, ra⟩ := rep_list r
    obtain ⟨b, zs, rfl, eb, rb⟩ := rep_list rx
    have la : xs.length = net.length := by rw [ra.length, List.length_map]
    have lb : zs.length = ds.length := rb.length
    refine ⟨_, rfl, b, _, rfl, .inl (SqL.of eb), _, rfl, a, _, rfl, .inl (SqL.of ea), rfl, _, rfl, ?_⟩
    refine iteB (fun c => ?_) (fun c => ?_)
    · have c' := ne_t c
      have q' := q H (Same.refl _)
      rw [good_list, decide_eq_false (by omega)] at q'
      exact q'
    · have c' := ne_f c
      have hl : ds.length = net.length := by omega
      refine ⟨_, rfl, _, rfl, a, b, rfl, ⟨xs, SqL.of ea⟩, ⟨zs, SqL.of eb⟩, fun D hD => ?_⟩
      refine comp_zip (xs := xs) (zs := zs) (FlatP H fun i => some (.bl (fitsD (net.getD i []) (ds.getD i .none)))) hD FlatP.zero (fun i G ys p => ⟨SqL.of (p.1 _ _ ea), SqL.of (p.1 _ _ eb)⟩) (fun i x z t G ys hx hz hG ht hGt p => ?_) (fun G ys hG p => ?_)
      · obtain ⟨row, hrow, rrow⟩ := reps_map ra hx
        obtain ⟨d, hd, rd⟩ := rb.get hz
        have hTn : (upd G D (.lst ys)) t = none := by rw [upd_ne ht]; exact hGt
        have s2 := same_upd hTn (HO.tup [x, z])
        have s1 : Same H (upd (upd G D (.lst ys)) t (.tup [x, z])) := p.1.trans ((same_upd hG _).trans s2)
        refine ⟨t, _, rfl, SqT.of upd_same, rfl, _, _, rfl, _, _, rfl, rfl, ?_⟩
        refine ⟨_, rfl, _, rfl, x, z, row, d, rfl, rrow.mono s1, rd.mono s1, netD_at ok hrow, fun H' hs => ?_⟩
        refine p.put hG (s2.trans hs) ?_ ?_
        · rw [List.getD_eq_getElem?_getD, List.getD_eq_getElem?_getD, hrow, hd]
          rfl
        · have := lt_of_get hrow
          have := ok.len
          omega
      · have em : min xs.length zs.length = net.length := by omega
        rw [em] at p
        have s1 := p.1.trans (same_upd hG (.lst ys))
        refine ⟨D, _, rfl, SqL.of (by rw [upd_same, p.2, all_flat]), _, rfl, ?_⟩
        rw [all_range_zip hl]
        refine iteB (fun c => ?_) (fun c => ?_)
        · have c' : ((net.zip ds).all fun p => fitsD p.1 p.2) = false := by simpa using c
          have q' := q _ s1
          rw [good_list, c', Bool.and_false, Bool.false_and] at q'
          exact q'
        · have c' : ((net.zip ds).all fun p => fitsD p.1 p.2) = true := by simpa using c
          have fc := fits_cases ok hl c'
          have hz := reps_opt rb fun d hd => (fc d hd).imp id fun ⟨e, h, _⟩ => ⟨e, h⟩
          have ib := fits_inB fc
          have len8 := ok.len
          refine ⟨_, rfl, b, _, rfl, .inl (SqL.of (s1 _ _ eb)), _, rfl, by omega, by omega, fun D2 hD2 => ?_⟩
          refine comp_range (lo := 0) (FlatP (upd G D (.lst ys)) fun i => some (.bl (rootB (ds.map optE) i))) hD2 FlatP.zero (fun i G2 ys2 hi hG2 p2 => ?_) (fun G2 ys2 hG2 p2 => ?_)
          · rw [Int.zero_add]
            have s2 := p2.1.trans (same_upd hG2 (.lst ys2))
            refine ⟨_, rfl, _, rfl, b, ds.map optE, i, rfl, ?_, ib, ?_, ?_, fun H' hs => ?_⟩
            · rw [← hz]; exact s2 _ _ (s1 _ _ eb)
            · rw [List.length_map]; omega
            · rw [List.length_map]; omega
            · exact p2.put hG2 hs rfl (by omega)
          · refine ⟨D2, _, rfl, SqL.of (by rw [upd_same, p2.2, all_flat]), ?_⟩
            have q' := q _ (s1.trans (p2.1.trans (same_upd hG2 (.lst ys2))))
            rw [good_list, c', decide_eq_true hl, Bool.true_and, Bool.true_and] at q'
            rw [List.all_map]
            have e : ((zs.length : Nat) : Int).toNat = net.length := by omega
            rw [e]
            exact q'
  | _ => exact q H (Same.refl _)
end
end Law

namespace Law
open PySem L2 Ways Ring PyProof.Rows
section
variable {P : Program} {w : World} {K : PySem.W.Frag} {mg : Str → Option Value} {base : Heap}
def sp_check (aE : Addr) : Sp := fun vs H Q E => ∃ v x net d, vs = [v, x] ∧ Rep H v (netD net) ∧ Rep H x d ∧ NetOk net ∧ (goodD net d = true → ∀ H', Same H H' → Q .non H') ∧ (goodD net d = false → ∀ H', Same H H' → E (.ref aE) none H')
theorem def_check_tree (T : Txt mg) (U : Cls K mg) (D_is_tree : Def P w K mg base "is_tree" 4 ["net", "things"] sp_is_tree) (h : Here K mg "check_tree" s_check_tree ["net", "things"]) : DefE P w K mg base "check_tree" 5 ["net", "things"] (sp_check U.a_NoTree) := h.mkE fun f fd F => by
  have nd := sc_check_tree.nd
  refine F.okE sc_check_tree (fun vs H Q E h => ?_) (fun cdv A outer s H vs Q E hr h => ?_)
  · obtain ⟨v, x, net, d, rfl, _⟩ := h
    rfl
  obtain ⟨v, x, net, d, rfl, rv, rx, ok, q1, q2⟩ := h
  refine ⟨_, pss_one (ps_if (pt_not (pt_val (pe_callD D_is_tree hr rfl (pa_cons (pv 0) (pa_cons (pv 1) pa_nil)))))
      (pss_one (ps_raise U.e_NoTree hr.hd rfl))
      (pss_nil)), ?_⟩
  refine ⟨_, rfl, _, rfl, v, x, net, d, rfl, rv, rx, ok, fun H' s' => ⟨_, rfl, ?_⟩⟩
  cases hg : goodD net d with
  | true => exact q1 hg _ s'
  | false => exact q2 hg _ s'
end
end Law

namespace Law
open PySem L2 Ways Ring PyProof.Rows
section
variable {P : Program} {w : World} {K : PySem.W.Frag} {mg : Str → Option Value} {base : Heap}
/-! ### piles for a net -/
def lenD : PyData → Nat
  | .list ds => ds.length
  | .tuple ds => ds.length
  | _ => 0
def pileD (row : List (Int × Int)) : PyData → Bool
  | .list ds => decide (ds.length ≤ 40) && ds.all (endD row)
  | _ => false
def pilesD (net : Net) : PyData → Bool
  | .list ds => decide (ds.length = net.length) && (net.zip ds).all fun p => pileD p.1 p.2
  | _ => false
def sp_pile_of (aE : Addr) : Sp := fun vs H Q E => ∃ v x row d, vs = [v, x] ∧ Rep H v (rowD row) ∧ Rep H x d ∧ row.length ≤ 8 ∧ lenD d ≤ 260000 ∧
  (pileD row d = true → ∀ a xs ds, x = .ref a → H a = some (.lst xs) → d = .list ds → Reps H xs ds → ∀ r H', Same H H' → H r = none → H' r = some (.lst xs) → Q (.ref r) H') ∧ (pileD row d = false → ∀ H', Same H H' → E (.ref aE) none H')
theorem range_all {ds : List PyData} (f : PyData → Bool) : ((List.range ds.length).map fun i => f (ds.getD i .none)).all id = ds.all f := by
  have : ds = (List.range ds.length).map fun i => ds.getD i .none := by
    refine List.ext_getElem? fun i => ?_
    rw [List.getElem?_map]
    by_cases h : i < ds.length
    · rw [List.getElem?_range h, List.getElem?_eq_getElem h, Option.map_some, List.getD_eq_getElem?_getD, List.getElem?_eq_getElem h]
      rfl
    · rw [List.getElem?_eq_none (by omega), List.getElem?_eq_none (by rw [List.length_range]; omega)]
      rfl
  conv => rhs; rw [this]
  rw [List.all_map, List.all_map]
  rfl
theorem def_pile_of (T : Txt mg) (U : Cls K mg) (D_is_end : Def P w K mg base "is_end" 2 ["row", "thing"] sp_is_end) (h : Here K mg "pile_of" s_pile_of ["row", "thing"]) : DefE P w K mg base "pile_of" 3 ["row", "thing"] (sp_pile_of U.a_NoPiles) := h.mkE fun f fd F => by
  have nd := sc_pile_of.nd
  refine F.okE sc_pile_of (fun vs H Q E h => ?_) (fun cdv A outer s H vs Q E hr h => ?_)
  · obtain ⟨v, x, row, d, rfl, _⟩ := h
    rfl
  obtain ⟨v, x, row, d, rfl, rv, rx, rl, hn, q1, q2⟩ := h
  refine ⟨_, pss_cons (ps_if (pt_not (pt_val (pe_callB call_isi rfl T.z_isinstance boot_isinstance (pa_cons (pv 1) (pa_cons (pe_bltn rfl T.z_list boot_list (v := .ty "list") rfl) pa_nil)))))
      (pss_one (ps_raise U.e_NoPiles hr.hd rfl))
      (pss_nil))
    (pss_cons (ps_if (pt_cmpR op_gt (pe_callB (call_lenK (K := K)) rfl T.z_len PySem.boot_len (pa_cons (pv 1) pa_nil)) (pe_globC rfl T.c_MOST_IN_PILE) (nomark _))
      (pss_one (ps_raise U.e_NoPiles hr.hd rfl))
      (pss_nil))
    (pss_cons (ps_if (pt_not (pt_val (pe_callB (call_allK (K := K) rfl) rfl T.z_all boot_all (pa_cons (pe_comp (N' := ["end", "row"]) (cap := [none, some 0]) rfl ⟨rfl, rfl, rfl, rfl, rfl, rfl⟩ (pi_listK (K := K) (pv 1)) (fun _ _ _ _ _ _ => ⟨pg_name (i := 0) (show (["end", "row"] : List Str).Nodup by decide +kernel) rfl (Or.inl rfl) (Or.inr rfl), pifs_nil, pe_callD D_is_end hr rfl (pa_cons (pv 1) (pa_cons (pv 0) pa_nil))⟩) (keeps_name rfl)) pa_nil))))
      (pss_one (ps_raise U.e_NoPiles hr.hd rfl))
      (pss_nil))
    (pss_one (ps_ret (pe_callTy (call_listK (K := K)) rfl T.z_list boot_list (pa_cons (pv 1) pa_nil)))))), ?_⟩
  refine ⟨_, rfl, _, _, _, rfl, by decide, rep_ty rx, _, rfl, ?_⟩
  cases d with
  | list ds =>
    obtain ⟨b, zs, rfl, eb, rb⟩ := rep_list rx
    have lb : zs.length = ds.length := rb.length
    have hn' : ds.length ≤ 260000 := hn
    refine ⟨_, rfl, b, _, rfl, .inl (SqL.of eb), _, _, rfl, rfl, _, rfl, iteD (fun c => ?_) (fun c => ?_)⟩
    · refine q2 ?_ _ (Same.refl _)
      show (decide (ds.length ≤ 40) && _) = false
      rw [decide_eq_false (by omega)]
      rfl
    have c40 : ds.length ≤ 40 := by omega
    refine ⟨_, rfl, b, rfl, ⟨zs, SqL.of eb⟩, fun D hD => ?_⟩
    refine comp_list (K := K) (xs := zs) (FlatP H fun i => some (.bl (endD row (ds.getD i .none)))) hD FlatP.zero (fun i G ys p => SqL.of (p.1 _ _ eb)) (fun i x G ys hx hG p => ?_) (fun G ys hG p => ?_)
    · obtain ⟨d, hd, rd⟩ := rb.get hx
      have s1 := p.1.trans (same_upd hG (.lst ys))
      refine ⟨_, rfl, _, rfl, v, x, row, d, rfl, rv.mono s1, rd.mono s1, rl, fun H' s2 => ?_⟩
      refine p.put hG s2 ?_ (by have := lt_of_get hd; omega)
      rw [List.getD_eq_getElem?_getD, hd]
      rfl
    have s1 := p.1.trans (same_upd hG (.lst ys))
    refine ⟨D, _, rfl, SqL.of (by rw [upd_same, p.2, all_flat]), _, rfl, ?_⟩
    rw [lb, range_all]
    refine iteB (fun c => ?_) (fun c => ?_)
    · refine q2 ?_ _ s1
      show (decide (ds.length ≤ 40) && _) = false
      rw [show ds.all (endD row) = false by simpa using c, Bool.and_false]
    · refine ⟨_, rfl, b, _, rfl, .inl (SqL.of (s1 _ _ eb)), fun l hl => ?_⟩
      refine q1 ?_ b zs ds rfl eb rfl rb l _ (s1.trans (same_upd hl _)) (s1.free hl) upd_same
      show (decide (ds.length ≤ 40) && _) = true
      rw [show ds.all (endD row) = true by simpa using c, decide_eq_true c40]
      rfl
  | _ => exact q2 rfl _ (Same.refl _)
/-- data that fit are piles of places -/
theorem pile_nats {net : Net} {row : List (Int × Int)} (ok : NetOk net) (hr : row ∈ net) : ∀ (ds : List PyData), ds.all (endD row) = true → ∃ t : List Nat, ds = t.map (fun (n : Nat) => PyData.int (n : Int)) ∧ ∀ x ∈ t, x < net.length
  | [], _ => ⟨[], rfl, by simp⟩
  | d :: ds, h => by
    rw [List.all_cons, Bool.and_eq_true] at h
    obtain ⟨t, rfl, ht⟩ := pile_nats ok hr ds h.2
    cases d with
    | int e =>
      have he : e ∈ row.map (·.1) := by simpa [endD] using h.1
      obtain ⟨a, ha, rfl⟩ := List.mem_map.mp he
      obtain ⟨h0, h1⟩ := (ok.row row hr).2 a ha
      refine ⟨a.1.toNat :: t, ?_, fun x hx => ?_⟩
      · rw [List.map_cons, Int.toNat_of_nonneg h0]
      · rcases List.mem_cons.mp hx with rfl | hx
        · omega
        · exact ht x hx
    | _ => exact absurd h.1 Bool.false_ne_true
def sp_piles_of (aE : Addr) : Sp := fun vs H Q E => ∃ v x net d, vs = [v, x] ∧ Rep H v (netD net) ∧ NetOk net ∧ Rep H x d ∧ lenD d ≤ 260000 ∧ (∀ ds, d = .list ds → ∀ e ∈ ds, lenD e ≤ 260000) ∧
  (pilesD net d = true → ∀ r F H', New H F H' → Rep F r d → Q r H') ∧ (pilesD net d = false → ∀ H', Same H H' → E (.ref aE) none H')
theorem pilesD_not {net : Net} {ds : List PyData} {i : Nat} {row : List (Int × Int)} {d : PyData} (h1 : net[i]? = some row) (h2 : ds[i]? = some d) (hf : pileD row d = false) : pilesD net (.list ds) = false := by
  show (decide (ds.length = net.length) && (net.zip ds).all fun p => pileD p.1 p.2) = false
  rw [Bool.and_eq_false_iff]
  refine .inr ?_
  rw [List.all_eq_false]
  refine ⟨(row, d), List.mem_of_getElem? (i := i) (by rw [List.getElem?_zip_eq_some]; exact ⟨h1, h2⟩), ?_⟩
  show ¬ pileD row d = true
  rw [hf]
  exact Bool.false_ne_true
theorem def_piles_of (T : Txt mg) (U : Cls K mg) (D_pile_of : DefE P w K mg base "pile_of" 3 ["row", "thing"] (sp_pile_of U.a_NoPiles)) (h : Here K mg "piles_of" s_piles_of ["net", "things"]) : DefE P w K mg base "piles_of" 4 ["net", "things"] (sp_piles_of U.a_NoPiles) := h.mkE fun f fd F => by
  have nd := sc_piles_of.nd
  refine F.okE sc_piles_of (fun vs H Q E h => ?_) (fun cdv A outer s H vs Q E hr h => ?_)
  · obtain ⟨v, x, net, d, rfl, _⟩ := h
    rfl
  obtain ⟨v, x, net, d, rfl, rv, ok, rx, hn, hdeep, q1, q2⟩ := h
  refine ⟨_, pss_cons (ps_if (pt_not (pt_val (pe_callB call_isi rfl T.z_isinstance boot_isinstance (pa_cons (pv 1) (pa_cons (pe_bltn rfl T.z_list boot_list (v := .ty "list") rfl) pa_nil)))))
      (pss_one (ps_raise U.e_NoPiles hr.hd rfl))
      (pss_nil))
    (pss_cons (ps_if (pt_cmpR op_ne (pe_callB (call_lenK (K := K)) rfl T.z_len PySem.boot_len (pa_cons (pv 1) pa_nil)) (pe_callB (call_lenK (K := K)) rfl T.z_len PySem.boot_len (pa_cons (pv 0) pa_nil)) (nomark _))
      (pss_one (ps_raise U.e_NoPiles hr.hd rfl))
      (pss_nil))
    (pss_one (ps_ret (pe_compE (N' := ["row", "thing"]) (cap := [none, none]) rfl ⟨rfl, rfl, rfl, rfl, rfl, rfl⟩ (pi_zipK (K := K) rfl T.z_zip (pa_cons (pv 0) (pa_cons (pv 1) pa_nil))) (fun _ _ _ _ _ _ hx => ⟨pg_tupK (K := K) rfl (pgs_cons (pg_name (i := 0) (show (["row", "thing"] : List Str).Nodup by decide +kernel) rfl (Or.inl rfl) (Or.inr rfl)) (pgs_cons (pg_name (i := 1) (show (["row", "thing"] : List Str).Nodup by decide +kernel) rfl (Or.inl rfl) (Or.inr rfl)) pgs_nil)), pifs_nil, pe_callP hx D_pile_of hr rfl (pa_cons (pv 0) (pa_cons (pv 1) pa_nil))⟩) (keeps_two rfl rfl))))), ?_⟩
  refine ⟨_, rfl, _, _, _, rfl, by decide, rep_ty rx, _, rfl, ?_⟩
  cases d with
  | list ds =>
    obtain ⟨a, xs, rfl, ea, ra⟩ := rep_list rv
    obtain ⟨b, zs, rfl, eb, rb⟩ := rep_list rx
    have la : xs.length = net.length := by rw [ra.length, List.length_map]
    have lb : zs.length = ds.length := rb.length
    have hn' : ds.length ≤ 260000 := hn
    refine ⟨_, rfl, b, _, rfl, .inl (SqL.of eb), _, rfl, a, _, rfl, .inl (SqL.of ea), rfl, _, rfl, iteB (fun c => ?_) (fun c => ?_)⟩
    · have c' := ne_t c
      refine q2 ?_ _ (Same.refl _)
      show (decide (ds.length = net.length) && _) = false
      rw [decide_eq_false (by omega)]
      rfl
    have c' := ne_f c
    have hl : ds.length = net.length := by omega
    refine ⟨_, rfl, _, rfl, a, b, rfl, ⟨xs, SqL.of ea⟩, ⟨zs, SqL.of eb⟩, fun D hD => ?_⟩
    refine comp_zip (xs := xs) (zs := zs) (fun i G ys => ∃ F', New H F' G ∧ Reps F' ys (ds.take i) ∧ ∀ (j : Nat) row d, j < i → net[j]? = some row → ds[j]? = some d → pileD row d = true) hD ⟨_, New.start _, .nil, fun j _ _ h => absurd h (by omega)⟩ (fun i G ys ⟨_, p, _⟩ => ⟨SqL.of (p.keep _ _ ea), SqL.of (p.keep _ _ eb)⟩) (fun i x z t G ys hx hz hG ht hGt p => ?_) (fun G ys hG p => ?_)
    · obtain ⟨F', n', rs', good⟩ := p
      obtain ⟨row, hrow, rrow⟩ := reps_map ra hx
      obtain ⟨d, hd, rd⟩ := rb.get hz
      have hTn : (upd G D (.lst ys)) t = none := by rw [upd_ne ht]; exact hGt
      have s2 := same_upd hTn (HO.tup [x, z])
      have s1 : Same H (upd (upd G D (.lst ys)) t (.tup [x, z])) := n'.keep.trans ((same_upd hG _).trans s2)
      have hi := lt_of_get hrow
      have yl : ys.length ≤ 260000 := by have := rs'.length; rw [List.length_take] at this; omega
      refine ⟨t, _, rfl, SqT.of upd_same, rfl, _, _, rfl, _, _, rfl, rfl, ?_⟩
      refine ⟨_, rfl, _, rfl, x, z, row, d, rfl, rrow.mono s1, rd.mono s1, netD_at ok hrow, hdeep ds rfl d (List.mem_of_getElem? hd), fun hg a1 xs1 ds1 ez e1 ed r1 r H' hs hn hw => ?_, fun hb H' hs => ?_⟩
      · subst ez ed
        have hs' := s2.trans hs
        have hr0 : (upd G D (.lst ys)) r = none := s2.free hn
        have hrD : r ≠ D := by rintro rfl; rw [upd_same] at hr0; cases hr0
        refine cputB (ys := ys) (hs' _ _ upd_same) (by omega) ⟨_, n'.grow hG hs' hr0 hw, ?_, fun j row' d' hj h1 h2 => ?_⟩
        · rw [upd_ne hrD] at hr0
          rw [List.take_succ, hd, Option.toList_some]
          refine (rs'.mono (same_upd (n'.bare hr0) _)).snoc ?_
          have hg2 : ds1.all (endD row) = true := by
            have hg' : (decide (ds1.length ≤ 40) && ds1.all (endD row)) = true := hg
            rw [Bool.and_eq_true] at hg'
            exact hg'.2
          obtain ⟨tn, rfl, _⟩ := pile_nats ok (List.mem_of_getElem? hrow) ds1 hg2
          rw [reps_nats r1]
          exact nats_rep upd_same
        · by_cases hji : j = i
          · subst hji
            rw [hrow] at h1
            rw [hd] at h2
            cases h1
            cases h2
            exact hg
          · exact good j row' d' (by omega) h1 h2
      · exact q2 (pilesD_not hrow hd hb) _ (s1.trans hs)
    · obtain ⟨F', n', rs', good⟩ := p
      have em : min xs.length zs.length = ds.length := by omega
      rw [em, List.take_length] at rs'
      refine q1 ?_ _ (upd F' D (.lst ys)) _ (n'.done hG) (.lst upd_same (rs'.mono (same_upd (n'.bare hG) _)))
      show (decide (ds.length = net.length) && (net.zip ds).all fun p => pileD p.1 p.2) = true
      rw [decide_eq_true hl, Bool.true_and, List.all_eq_true]
      rintro ⟨row, d⟩ hm
      obtain ⟨j, hj⟩ := List.mem_iff_getElem?.mp hm
      rw [List.getElem?_zip_eq_some] at hj
      have := lt_of_get hj.1
      exact good j row d (by omega) hj.1 hj.2
  | _ => exact q2 rfl _ (Same.refl _)
end
end Law

namespace Law
open PySem L2 Ways Ring PyProof.Rows
section
variable {P : Program} {w : World} {K : PySem.W.Frag} {mg : Str → Option Value} {base : Heap}
/-! ### what is a net -/
def placeD (m : Int) : PyData → Bool
  | .int i => decide (0 ≤ i) && decide (i < m)
  | _ => false
def posD : PyData → Bool
  | .int i => decide (1 ≤ i)
  | _ => false
def arrowD (m : Int) : PyData → Bool
  | .tuple [a, b] => placeD m a && posD b
  | _ => false
def sp_is_place : Sp := fun vs H Q _ => ∃ x d m, vs = [x, .int m] ∧ Rep H x d ∧ Q (.bl (placeD m d)) H
theorem def_is_place (T : Txt mg) (D_is_number : Def P w K mg base "is_number" 1 ["thing"] sp_is_number) (h : Here K mg "is_place" s_is_place ["thing", "many"]) : Def P w K mg base "is_place" 2 ["thing", "many"] sp_is_place := h.mk fun f fd F => by
  have nd := sc_is_place.nd
  refine F.ok sc_is_place (fun vs H Q E h => ?_) (fun cdv A outer s H vs Q E hr h => ?_)
  · obtain ⟨x, d, m, rfl, _⟩ := h
    rfl
  obtain ⟨x, d, m, rfl, r, q⟩ := h
  refine ⟨_, pss_one (ps_ret (pe_and (pe_callD D_is_number hr rfl (pa_cons (pv 0) pa_nil)) (pe_one (pe_chain op_le op_lt pe_int (pv 0) (pv 1))))), ?_⟩
  refine ⟨_, rfl, x, d, rfl, r, _, rfl, ?_⟩
  cases r with
  | int i =>
    refine ⟨_, rfl, _, _, rfl, rfl, _, rfl, iteD (fun c => ?_) (fun c => ?_)⟩
    · refine ⟨_, rfl, _, _, rfl, rfl, ?_⟩
      have q' : Q (.bl (decide (0 ≤ i) && decide (i < m))) H := q
      rw [decide_eq_true c, Bool.true_and] at q'
      exact q'
    · have q' : Q (.bl (decide (0 ≤ i) && decide (i < m))) H := q
      rw [decide_eq_false c, Bool.false_and] at q'
      exact q'
  | _ => exact q
def sp_is_arrow : Sp := fun vs H Q _ => ∃ x d m, vs = [x, .int m] ∧ Rep H x d ∧ Q (.bl (arrowD m d)) H
theorem rep_tuple {H : Hp} {x : V} {ds : List PyData} (r : Rep H x (.tuple ds)) : ∃ a xs, x = .ref a ∧ H a = some (.tup xs) ∧ Reps H xs ds := by
  cases r with
  | @tup a xs _ e rs => exact ⟨a, xs, rfl, e, rs⟩
theorem reps_two {H : Hp} {xs : List V} {a b : PyData} (r : Reps H xs [a, b]) : ∃ x y, xs = [x, y] ∧ Rep H x a ∧ Rep H y b := by
  cases r with
  | cons r1 r =>
    cases r with
    | cons r2 r =>
      cases r
      exact ⟨_, _, rfl, r1, r2⟩
theorem atI1 {α : Type} (x y : α) (r : List α) : atI (x :: y :: r) 1 = some y := atI_nat (j := 1) rfl
theorem def_is_arrow (T : Txt mg) (D_is_number : Def P w K mg base "is_number" 1 ["thing"] sp_is_number) (D_is_place : Def P w K mg base "is_place" 2 ["thing", "many"] sp_is_place) (h : Here K mg "is_arrow" s_is_arrow ["thing", "many"]) : Def P w K mg base "is_arrow" 3 ["thing", "many"] sp_is_arrow := h.mk fun f fd F => by
  have nd := sc_is_arrow.nd
  refine F.ok sc_is_arrow (fun vs H Q E h => ?_) (fun cdv A outer s H vs Q E hr h => ?_)
  · obtain ⟨x, d, m, rfl, _⟩ := h
    rfl
  obtain ⟨x, d, m, rfl, r, q⟩ := h
  refine ⟨_, pss_cons (ps_if (PW.pt (pw_or (pt_not (pt_val (pe_callB call_isi rfl T.z_isinstance boot_isinstance (pa_cons (pv 0) (pa_cons (pe_bltn rfl T.z_tuple boot_tuple (v := .ty "tuple") rfl) pa_nil))))) (pw_or1 (pt_cmpR op_ne (pe_callB (call_lenK (K := K)) rfl T.z_len PySem.boot_len (pa_cons (pv 0) pa_nil)) pe_int (nomark _)))))
      (pss_one (ps_ret pe_bl))
      (pss_nil))
    (pss_one (ps_ret (pe_and (pe_callD D_is_place hr rfl (pa_cons (pe_ix (ix_lt (K := K)) (pv 0) pe_int (fun _ _ => rfl)) (pa_cons (pv 1) pa_nil))) (pe_and (pe_callD D_is_number hr rfl (pa_cons (pe_ix (ix_lt (K := K)) (pv 0) pe_int (fun _ _ => rfl)) pa_nil)) (pe_one (pe_cmpR op_ge (pe_ix (ix_lt (K := K)) (pv 0) pe_int (fun _ _ => rfl)) pe_int (nomark _))))))), ?_⟩
  refine ⟨_, rfl, _, _, _, rfl, by decide, rep_ty r, _, rfl, ?_⟩
  cases d with
  | tuple ds =>
    obtain ⟨a, xs, rfl, ea, ra⟩ := rep_tuple r
    refine ⟨_, rfl, a, _, rfl, .inr (SqT.of ea), rfl, _, rfl, iteB (fun c => ?_) (fun c => ?_)⟩
    · have c' := ne_t (b := 2) c
      have hl : ds.length ≠ 2 := fun z => c' (by rw [ra.length, z])
      have e : arrowD m (.tuple ds) = false := by
        clear q ra r c c'
        match ds, hl with
        | [], _ => rfl
        | [_], _ => rfl
        | [_, _], hl => exact absurd rfl hl
        | _ :: _ :: _ :: _, _ => rfl
      rw [e] at q
      exact q
    have c' := ne_f (b := 2) c
    have hl : ds.length = 2 := by have := ra.length; omega
    obtain ⟨d1, d2, rfl⟩ : ∃ d1 d2, ds = [d1, d2] := by
      match ds, hl with
      | [a, b], _ => exact ⟨a, b, rfl⟩
    obtain ⟨x1, x2, rfl, r1, r2⟩ := reps_two ra
    have q' : Q (.bl (placeD m d1 && posD d2)) H := q
    refine ⟨_, rfl, .inr ⟨a, _, 0, _, rfl, rfl, SqT.of ea, atI0 _ _, _, rfl, x1, d1, m, rfl, r1, _, rfl, iteB (fun c => ?_) (fun c => ?_)⟩⟩
    · rw [c, Bool.true_and] at q'
      refine ⟨_, rfl, .inr ⟨a, _, 1, _, rfl, rfl, SqT.of ea, atI1 _ _ _, x2, d2, rfl, r2, _, rfl, ?_⟩⟩
      cases r2 with
      | int i => exact ⟨_, rfl, .inr ⟨a, _, 1, _, rfl, rfl, SqT.of ea, atI1 _ _ _, _, _, rfl, rfl, q'⟩⟩
      | _ => exact q'
    · rw [c, Bool.false_and] at q'
      exact q'
  | _ => exact q
/-! ### rows -/
def endOf : PyData → Int
  | .tuple (.int a :: _) => a
  | _ => 0
def aboveB : Option Int → Int → Bool
  | none, _ => true
  | some e, x => decide (e < x)
def riseD (m : Int) : Option Int → List PyData → Bool
  | _, [] => true
  | l, d :: ds => arrowD m d && (aboveB l (endOf d) && riseD m (some (endOf d)) ds)
def rowB (m : Int) : PyData → Bool
  | .list ds => riseD m none ds
  | _ => false
def lastD (ds : List PyData) : Option Int := ds.getLast?.map endOf
theorem arrowD_is {m : Int} {d : PyData} (h : arrowD m d = true) : ∃ a b : Int, d = .tuple [.int a, .int b] ∧ 0 ≤ a ∧ a < m ∧ 1 ≤ b := by
  cases d with
  | tuple ds =>
    cases ds with
    | nil => cases h
    | cons a r =>
      cases r with
      | nil => cases h
      | cons b r =>
        cases r with
        | cons c r => cases h
        | nil =>
          have h' : (placeD m a && posD b) = true := h
          rw [Bool.and_eq_true] at h'
          obtain ⟨h1, h2⟩ := h'
          cases a with
          | int i =>
            cases b with
            | int k =>
              have h1' : (decide (0 ≤ i) && decide (i < m)) = true := h1
              rw [Bool.and_eq_true, decide_eq_true_iff, decide_eq_true_iff] at h1'
              exact ⟨i, k, rfl, h1'.1, h1'.2, of_decide_eq_true h2⟩
            | _ => cases h2
          | _ => cases h1
  | _ => cases h
theorem riseD_take {m : Int} {ds : List PyData} {i : Nat} {d : PyData} (hd : ds[i]? = some d) (l : Option Int) (h : riseD m none ds = riseD m l (ds.drop i)) :
    riseD m none ds = (arrowD m d && (aboveB l (endOf d) && riseD m (some (endOf d)) (ds.drop (i + 1)))) := by
  rw [h]
  obtain ⟨hi, e⟩ := List.getElem?_eq_some_iff.mp hd
  rw [List.drop_eq_getElem_cons hi, e]
  rfl
theorem last_snoc {ds : List PyData} {i : Nat} {d : PyData} (hd : ds[i]? = some d) : lastD (ds.take (i + 1)) = some (endOf d) := by
  unfold lastD
  rw [List.take_succ, hd, Option.toList_some, List.getLast?_append]
  rfl
theorem reps_unsnoc {F : Hp} {d : PyData} : ∀ {es : List PyData} {ys : List V}, Reps F ys (es ++ [d]) → ∃ ys' y, ys = ys' ++ [y] ∧ Reps F ys' es ∧ Rep F y d
  | [], _, .cons r .nil => ⟨[], _, rfl, .nil, r⟩
  | _ :: _, _, .cons r t => by
    obtain ⟨ys', y, rfl, h1, h2⟩ := reps_unsnoc t
    exact ⟨_ :: ys', y, rfl, .cons r h1, h2⟩
def sp_row_of (aE : Addr) : Sp := fun vs H Q E => ∃ x d m, vs = [x, .int m] ∧ Rep H x d ∧ lenD d ≤ 260000 ∧ (rowB m d = true → ∀ r F H', New H F H' → Rep F r d → Q r H') ∧ (rowB m d = false → ∀ H', Same H H' → E (.ref aE) none H')
theorem def_row_of (T : Txt mg) (U : Cls K mg) (D_is_arrow : Def P w K mg base "is_arrow" 3 ["thing", "many"] sp_is_arrow) (h : Here K mg "row_of" s_row_of ["thing", "many"]) : DefE P w K mg base "row_of" 4 ["thing", "many"] (sp_row_of U.a_NoNet) := h.mkE fun f fd F => by
  have nd := sc_row_of.nd
  refine F.okE sc_row_of (fun vs H Q E h => ?_) (fun cdv A outer s H vs Q E hr h => ?_)
  · obtain ⟨x, d, m, rfl, _⟩ := h
    rfl
  obtain ⟨x, d, m, rfl, r, hn, q1, q2⟩ := h
  refine ⟨_, pss_cons (ps_if (pt_not (pt_val (pe_callB call_isi rfl T.z_isinstance boot_isinstance (pa_cons (pv 0) (pa_cons (pe_bltn rfl T.z_list boot_list (v := .ty "list") rfl) pa_nil)))))
      (pss_one (ps_raise U.e_NoNet hr.hd rfl))
      (pss_nil))
    (pss_cons (ps_set (i := 2) nd rfl (Or.inl rfl) (pe_lst pa_nil))
    (pss_cons (ps_for PassesOwn.leaving rfl (pi_listK (K := K) (pv 0)) (pg_name (i := 3) nd rfl (Or.inl rfl))
      (pss_cons (ps_if (pt_not (pt_val (pe_callD D_is_arrow hr rfl (pa_cons (pv 3) (pa_cons (pv 1) pa_nil)))))
        (pss_one (ps_raise U.e_NoNet hr.hd rfl))
        (pss_nil))
      (pss_cons (ps_if (PW.pt (pw_and (pt_truthK (K := K) (pv 2) (fun _ => rfl)) (pw_and1 (pt_cmpR op_le (pe_ix (ix_lt (K := K)) (pv 3) pe_int (fun _ _ => rfl)) (pe_ix (ix_lt (K := K)) (pe_ix (ix_lt (K := K)) (pv 2) (pe_un un_neg pe_int) (fun _ _ => rfl)) pe_int (fun _ _ => rfl)) (nomark _)))))
        (pss_one (ps_raise U.e_NoNet hr.hd rfl))
        (pss_nil))
      (pss_one (ps_expr (pe_bm PySem.F.plainAttrs_list PySem.F.slot_list_append PySem.F.type_list_append mt_append (pv 2) (pa_cons (pe_tup (pa_cons (pe_ix (ix_lt (K := K)) (pv 3) pe_int (fun _ _ => rfl)) (pa_cons (pe_ix (ix_lt (K := K)) (pv 3) pe_int (fun _ _ => rfl)) pa_nil))) pa_nil)))))))
    (pss_one (ps_ret (pv 2))))), ?_⟩
  refine ⟨_, rfl, _, _, _, rfl, by decide, rep_ty r, _, rfl, ?_⟩
  cases d with
  | list ds =>
    obtain ⟨b, zs, rfl, eb, rb⟩ := rep_list r
    have lb : zs.length = ds.length := rb.length
    have hn' : ds.length ≤ 260000 := hn
    refine ⟨Nat.zero_le _, fun pR hR => ?_⟩
    have s0 := same_upd hR (HO.lst [])
    refine ⟨_, rfl, b, rfl, ⟨zs, SqL.of (s0 _ _ eb)⟩, for_list (K := K) (xs := zs) (fun i σ' H' => ∃ (c3 : Option V) (F' : Hp) (ys : List V), σ' = [some (.ref b), some (.int m), some (.ref pR), c3] ∧ Same H H' ∧ Same F' H' ∧ (∀ c o, F' c = some o → H c = none) ∧ F' pR = none ∧ H' pR = some (.lst ys) ∧
      Reps F' ys (ds.take i) ∧ riseD m none ds = riseD m (lastD (ds.take i)) (ds.drop i) ∧ (∀ d ∈ ds.take i, arrowD m d = true)) ⟨none, fun _ => none, [], rfl, s0, (fun _ _ e => nomatch e), (fun _ _ e => nomatch e), rfl, upd_same, .nil, rfl, fun d hd => by simp at hd⟩ (fun i σ' H' _ ⟨_, _, _, _, e, _⟩ => SqL.of (e _ _ eb)) ?_ ?_⟩
    · rintro i x σ' H' hx ⟨c3, F', ys, rfl, sH, sF, fr, hF, hp, ry, hrise, hall⟩
      obtain ⟨d, hd, rd⟩ := rb.get hx
      have hi := lt_of_get hd
      have hstep := riseD_take hd _ hrise
      refine ⟨_, rfl, _, rfl, x, d, m, rfl, rd.mono sH, _, rfl, ?_⟩
      cases harr : arrowD m d with
      | false =>
        refine q2 ?_ _ sH
        show riseD m none ds = false
        rw [hstep, harr]
        rfl
      | true =>
        obtain ⟨a1, a2, rfl, g0, g1, g2⟩ := arrowD_is harr
        obtain ⟨xa, xs2, rfl, ex, rx2⟩ := rep_tuple rd
        obtain ⟨v1, v2, rfl, rv1, rv2⟩ := reps_two rx2
        cases rv1
        cases rv2
        have ex' := sH _ _ ex
        have yl : ys.length = i := by have := ry.length; rw [List.length_take] at this; omega
        have fin : aboveB (lastD (ds.take i)) a1 = true → ∀ t, H' t = none → ∃ (c3 : Option V) (F' : Hp) (ys' : List V), [some (V.ref b), some (.int m), some (.ref pR), some (.ref xa)] = [some (.ref b), some (.int m), some (.ref pR), c3] ∧
            Same H (upd (upd H' t (.tup [.int a1, .int a2])) pR (.lst (ys ++ [.ref t]))) ∧ Same F' (upd (upd H' t (.tup [.int a1, .int a2])) pR (.lst (ys ++ [.ref t]))) ∧ (∀ c o, F' c = some o → H c = none) ∧ F' pR = none ∧ (upd (upd H' t (.tup [.int a1, .int a2])) pR (.lst (ys ++ [.ref t]))) pR = some (.lst ys') ∧
            Reps F' ys' (ds.take (i + 1)) ∧ riseD m none ds = riseD m (lastD (ds.take (i + 1))) (ds.drop (i + 1)) ∧ (∀ d ∈ ds.take (i + 1), arrowD m d = true) := fun hg t ht => by
          have htR : t ≠ pR := fun z => by rw [z, hp] at ht; cases ht
          have htF : F' t = none := sF.free ht
          have htH : H t = none := sH.free ht
          refine ⟨_, upd F' t (.tup [.int a1, .int a2]), ys ++ [.ref t], rfl, fun c u e => ?_, fun c u e => ?_, fun c u e => ?_, by rw [upd_ne (Ne.symm htR)]; exact hF, upd_same, ?_, ?_, ?_⟩
          · rw [upd_ne (ne_of_none e hR), upd_ne (ne_of_none e htH)]; exact sH c u e
          · by_cases hc : c = t
            · subst hc
              rw [upd_same] at e
              rw [upd_ne htR, upd_same]
              exact e
            · rw [upd_ne hc] at e
              rw [upd_ne (ne_of_none e hF), upd_ne hc]
              exact sF c u e
          · by_cases hc : c = t
            · subst hc; exact htH
            · rw [upd_ne hc] at e; exact fr c u e
          · rw [List.take_succ, hd, Option.toList_some]
            exact (ry.mono (same_upd htF _)).snoc (.tup upd_same (.cons (.int _) (.cons (.int _) .nil)))
          · rw [hstep, harr, last_snoc hd, Bool.true_and]
            rw [show endOf (.tuple [.int a1, .int a2]) = a1 from rfl, hg, Bool.true_and]
          · intro d hdm
            rw [List.take_succ, hd, Option.toList_some] at hdm
            rcases List.mem_append.mp hdm with z | z
            · exact hall d z
            · rw [List.mem_singleton.mp z]; exact harr
        refine iteB (fun c => absurd c (by decide)) (fun _ => ?_)
        refine ⟨_, rfl, _, .inl ⟨ys, SqL.of hp, rfl⟩, ?_⟩
        by_cases hi0 : i = 0
        · subst hi0
          have y0 : ys = [] := List.eq_nil_of_length_eq_zero yl
          subst y0
          refine ⟨_, rfl, .inl ⟨rfl, _, SqL.of hp⟩, _, rfl, .inr ⟨xa, _, 0, _, rfl, rfl, SqT.of ex', atI0 _ _, _, rfl, .inr ⟨xa, _, 1, _, rfl, rfl, SqT.of ex', atI1 _ _ _, (by decide : 2 ≤ sizeLine), fun t ht => ?_⟩⟩⟩
          refine ⟨pR, [], _, rfl, rfl, same_upd ht _ _ _ hp, by decide, ?_⟩
          exact fin rfl t ht
        · obtain ⟨es, e, he⟩ : ∃ es e, ds.take i = es ++ [e] := by
            have hne : ds.take i ≠ [] := fun z => by
              have := congrArg List.length z
              rw [List.length_take, List.length_nil] at this
              omega
            exact ⟨(ds.take i).dropLast, (ds.take i).getLast hne, (List.dropLast_concat_getLast hne).symm⟩
          have hlast : lastD (ds.take i) = some (endOf e) := by
            unfold lastD
            rw [he, List.getLast?_append]
            rfl
          rw [he] at ry
          obtain ⟨ys1, y, rfl, _, ryl⟩ := reps_unsnoc ry
          have hae := hall e (by rw [he]; simp)
          obtain ⟨b1, b2, rfl, _, _, _⟩ := arrowD_is hae
          obtain ⟨ta, xs3, rfl, et, rt2⟩ := rep_tuple ryl
          obtain ⟨w1, w2, rfl, rw1, rw2⟩ := reps_two rt2
          cases rw1
          cases rw2
          have et' := sF _ _ et
          rw [if_pos (by simp)]
          refine ⟨_, rfl, .inr ⟨xa, _, 0, _, rfl, rfl, SqT.of ex', atI0 _ _, _, rfl, _, rfl, .inl ⟨pR, _, -1, _, rfl, rfl, SqL.of hp, atI_last _ _, .inr ⟨ta, _, 0, _, rfl, rfl, SqT.of et', atI0 _ _, _, _, rfl, rfl, _, rfl, iteD (fun c => ?_) (fun c => ?_)⟩⟩⟩⟩
          · refine q2 ?_ _ sH
            show riseD m none ds = false
            rw [hstep, hlast]
            have : decide (b1 < a1) = false := decide_eq_false (by omega)
            show (_ && (decide (b1 < a1) && _)) = false
            rw [this, Bool.false_and, Bool.and_false]
          · refine ⟨_, rfl, .inl ⟨rfl, _, SqL.of hp⟩, _, rfl, .inr ⟨xa, _, 0, _, rfl, rfl, SqT.of ex', atI0 _ _, _, rfl, .inr ⟨xa, _, 1, _, rfl, rfl, SqT.of ex', atI1 _ _ _, (by decide : 2 ≤ sizeLine), fun t ht => ?_⟩⟩⟩
            refine ⟨pR, _, _, rfl, rfl, same_upd ht _ _ _ hp, small100k (by omega), ?_⟩
            refine fin ?_ t ht
            rw [hlast]
            exact decide_eq_true (show b1 < a1 by omega)
    · rintro σ' H' ⟨c3, F', ys, rfl, sH, sF, fr, hF, hp, ry, hrise, hall⟩
      rw [lb, List.take_length] at ry
      rw [lb, List.drop_length] at hrise
      refine ⟨_, rfl, q1 hrise _ (upd F' pR (.lst ys)) _ ⟨sH, fun c u e => ?_, fun c u e => ?_⟩ (.lst upd_same (ry.mono (same_upd hF _)))⟩
      · by_cases hc : c = pR
        · subst hc; rw [upd_same] at e; cases e; exact hp
        · rw [upd_ne hc] at e; exact sF c u e
      · by_cases hc : c = pR
        · subst hc; exact hR
        · rw [upd_ne hc] at e; exact fr c u e
  | _ => exact q2 rfl _ (Same.refl _)
/-! ### nets -/
def netB : PyData → Bool
  | .list ds => (decide (1 ≤ ds.length) && decide (ds.length ≤ 8)) && ds.all (rowB ds.length)
  | _ => false
def sp_net_of (aE : Addr) : Sp := fun vs H Q E => ∃ x d, vs = [x] ∧ Rep H x d ∧ lenD d ≤ 260000 ∧ (∀ ds, d = .list ds → ∀ e ∈ ds, lenD e ≤ 260000) ∧ (netB d = true → ∀ r F H', New H F H' → Rep F r d → Q r H') ∧ (netB d = false → ∀ H', Same H H' → E (.ref aE) none H')
theorem def_net_of (T : Txt mg) (U : Cls K mg) (D_row_of : DefE P w K mg base "row_of" 4 ["thing", "many"] (sp_row_of U.a_NoNet)) (h : Here K mg "net_of" s_net_of ["things"]) : DefE P w K mg base "net_of" 5 ["things"] (sp_net_of U.a_NoNet) := h.mkE fun f fd F => by
  have nd := sc_net_of.nd
  refine F.okE sc_net_of (fun vs H Q E h => ?_) (fun cdv A outer s H vs Q E hr h => ?_)
  · obtain ⟨x, d, rfl, _⟩ := h
    rfl
  obtain ⟨x, d, rfl, r, hn, deep, q1, q2⟩ := h
  refine ⟨_, pss_cons (ps_if (pt_not (pt_val (pe_callB call_isi rfl T.z_isinstance boot_isinstance (pa_cons (pv 0) (pa_cons (pe_bltn rfl T.z_list boot_list (v := .ty "list") rfl) pa_nil)))))
      (pss_one (ps_raise U.e_NoNet hr.hd rfl))
      (pss_nil))
    (pss_cons (ps_set (i := 1) nd rfl (Or.inr rfl) (pe_callB (call_lenK (K := K)) rfl T.z_len PySem.boot_len (pa_cons (pv 0) pa_nil)))
    (pss_cons (ps_if (pt_not (pt_chain op_le op_le pe_int (pv 1) (pe_globC rfl T.c_MOST_PLACES)))
      (pss_one (ps_raise U.e_NoNet hr.hd rfl))
      (pss_nil))
    (pss_one (ps_ret (pe_compE (N' := ["thing", "many"]) (cap := [none, some 1]) rfl ⟨rfl, rfl, rfl, rfl, rfl, rfl⟩ (pi_listK (K := K) (pv 0)) (fun _ _ _ _ _ _ hx => ⟨pg_name (i := 0) (show (["thing", "many"] : List Str).Nodup by decide +kernel) rfl (Or.inl rfl) (Or.inr rfl), pifs_nil, pe_callP hx D_row_of hr rfl (pa_cons (pv 0) (pa_cons (pv 1) pa_nil))⟩) (keeps_name rfl)))))), ?_⟩
  refine ⟨_, rfl, _, _, _, rfl, by decide, rep_ty r, _, rfl, ?_⟩
  cases d with
  | list ds =>
    obtain ⟨b, zs, rfl, eb, rb⟩ := rep_list r
    have lb : zs.length = ds.length := rb.length
    have hn' : ds.length ≤ 260000 := hn
    have bad : ¬ (1 ≤ ds.length ∧ ds.length ≤ 8) → netB (.list ds) = false := fun hb => by
      show ((decide (1 ≤ ds.length) && decide (ds.length ≤ 8)) && _) = false
      by_cases h1 : 1 ≤ ds.length
      · rw [decide_eq_false (show ¬ ds.length ≤ 8 from fun z => hb ⟨h1, z⟩), Bool.and_false, Bool.false_and]
      · rw [decide_eq_false h1, Bool.false_and, Bool.false_and]
    refine ⟨_, rfl, b, _, rfl, .inl (SqL.of eb), ?_⟩
    refine ⟨_, rfl, _, _, rfl, rfl, _, rfl, iteD (fun c1 => ?_) (fun c1 => ?_)⟩
    · refine ⟨_, _, rfl, rfl, _, rfl, ?_⟩
      by_cases c2 : ((zs.length : Nat) : Int) ≤ 8
      · rw [decide_eq_true c2]
        refine iteB (fun c => absurd c (by decide)) (fun _ => ?_)
        have h1 : 1 ≤ ds.length := by omega
        have h8 : ds.length ≤ 8 := by omega
        refine ⟨_, rfl, b, rfl, ⟨zs, SqL.of eb⟩, fun D hD => ?_⟩
        refine comp_list (K := K) (xs := zs) (fun i G ys => ∃ F', New H F' G ∧ Reps F' ys (ds.take i) ∧ ∀ d ∈ ds.take i, rowB ds.length d = true) hD ⟨_, New.start _, .nil, fun d hd => by simp at hd⟩ (fun i G ys ⟨_, p, _⟩ => SqL.of (p.keep _ _ eb)) (fun i x G ys hx hG p => ?_) (fun G ys hG p => ?_)
        · obtain ⟨F', n', rs', good⟩ := p
          obtain ⟨d, hd, rd⟩ := rb.get hx
          have s1 : Same H (upd G D (.lst ys)) := n'.keep.trans (same_upd hG _)
          have yl : ys.length ≤ 260000 := by have := rs'.length; rw [List.length_take] at this; omega
          refine ⟨_, rfl, _, rfl, x, d, _, rfl, rd.mono s1, deep ds rfl d (List.mem_of_getElem? hd), fun hg r F1 H1 n1 r1 => ?_, fun hb H1 s2 => ?_⟩
          · rw [lb] at hg
            have hD1 : H1 D = some (.lst ys) := n1.keep _ _ upd_same
            have dis : ∀ c o, F1 c = some o → F' c = none := fun c o e => by
              have := n1.fresh _ _ e
              have hcD : c ≠ D := by rintro rfl; rw [upd_same] at this; cases this
              rw [upd_ne hcD] at this
              exact n'.bare this
            refine cputB (ys := ys) hD1 (by omega) ⟨fun c => (F' c).or (F1 c), ⟨fun c u e => ?_, fun c u e => ?_, fun c u e => ?_⟩, ?_, ?_⟩
            · have hcD : c ≠ D := by rintro rfl; have := n'.keep _ _ e; rw [hG] at this; cases this
              rw [del_ne hcD]
              exact n1.keep _ _ (s1 _ _ e)
            · have hcD : c ≠ D := by
                rintro rfl
                cases hc : F' c with
                | some o => have := n'.sub _ _ hc; rw [hG] at this; cases this
                | none =>
                  have e' : (F' c).or (F1 c) = some u := e
                  rw [hc, Option.none_or] at e'
                  have := n1.fresh _ _ e'
                  rw [upd_same] at this
                  cases this
              rw [del_ne hcD]
              have e' : (F' c).or (F1 c) = some u := e
              cases hc : F' c with
              | some o =>
                rw [hc, Option.some_or] at e'
                cases e'
                exact n1.keep _ _ (same_upd hG _ _ _ (n'.sub _ _ hc))
              | none =>
                rw [hc, Option.none_or] at e'
                exact n1.sub _ _ e'
            · have e' : (F' c).or (F1 c) = some u := e
              cases hc : F' c with
              | some o => exact n'.fresh _ _ hc
              | none =>
                rw [hc, Option.none_or] at e'
                exact s1.free (n1.fresh _ _ e')
            · rw [List.take_succ, hd, Option.toList_some]
              refine (rs'.mono fun c u e => ?_).snoc (r1.mono fun c u e => ?_)
              · show (F' c).or (F1 c) = some u
                rw [e]; rfl
              · show (F' c).or (F1 c) = some u
                rw [dis c u e]; exact e
            · intro d' hd'
              rw [List.take_succ, hd, Option.toList_some] at hd'
              rcases List.mem_append.mp hd' with z | z
              · exact good d' z
              · rw [List.mem_singleton.mp z]; exact hg
          · rw [lb] at hb
            refine q2 ?_ _ (s1.trans s2)
            show (_ && ds.all (rowB ds.length)) = false
            rw [show ds.all (rowB ds.length) = false from List.all_eq_false.mpr ⟨d, List.mem_of_getElem? hd, by rw [hb]; exact Bool.false_ne_true⟩, Bool.and_false]
        · obtain ⟨F', n', rs', good⟩ := p
          rw [lb, List.take_length] at rs' good
          refine q1 ?_ _ (upd F' D (.lst ys)) _ (n'.done hG) (.lst upd_same (rs'.mono (same_upd (n'.bare hG) _)))
          show ((decide (1 ≤ ds.length) && decide (ds.length ≤ 8)) && ds.all (rowB ds.length)) = true
          rw [decide_eq_true h1, decide_eq_true h8, List.all_eq_true.mpr good]
          rfl
      · rw [decide_eq_false c2]
        exact q2 (bad fun z => c2 (by omega)) _ (Same.refl _)
    · exact ⟨_, rfl, q2 (bad fun z => c1 (by omega)) _ (Same.refl _)⟩
  | _ => exact q2 rfl _ (Same.refl _)
/-! ### roots -/
end
end Law

namespace Law
open PySem L2 Ways Ring PyProof.Rows
/-! ### two views in one -/
def both (F G : Hp) : Hp := fun b => match F b with
  | some o => some o
  | none => G b
theorem both_left {F G : Hp} : Same F (both F G) := fun b o e => by unfold both; rw [e]
theorem both_right {F G : Hp} (h : ∀ b o, G b = some o → F b = none) : Same G (both F G) := fun b o e => by unfold both; rw [h b o e]; exact e
theorem both_or {F G : Hp} {b : Addr} {o : HO} (h : both F G b = some o) : F b = some o ∨ (F b = none ∧ G b = some o) := by
  unfold both at h
  cases e : F b with
  | some u => rw [e] at h; exact .inl h
  | none => rw [e] at h; exact .inr ⟨rfl, h⟩
theorem New.see {H F G : Hp} {p : Addr} {o : HO} (n : New H F G) (hG : G p = some o) (hF : F p = none) (hH : H p = none) : New H (upd F p o) G := by
  refine ⟨n.keep, fun b u e => ?_, fun b u e => ?_⟩
  · by_cases hb : b = p
    · subst hb; rw [upd_same] at e; cases e; exact hG
    · rw [upd_ne hb] at e; exact n.sub b u e
  · by_cases hb : b = p
    · subst hb; exact hH
    · rw [upd_ne hb] at e; exact n.fresh b u e
end Law

namespace Law
open PySem L2 Ways Ring PyProof.Rows
theorem same_off {F H : Hp} {p : Addr} (h : F p = none) (s : Same F H) : Same F (del H p) := fun b o e => by
  rw [del_ne (ne_of_none e h)]
  exact s b o e
theorem New.call {H F G F2 H2 : Hp} {D : Addr} {ys : List V} (n : New H F G) (hG : G D = none) (m : New (upd G D (.lst ys)) F2 H2) : New H (both F F2) (del H2 D) ∧ Same F2 (both F F2) := by
  have fD : F2 D = none := by
    cases e : F2 D with
    | none => rfl
    | some o => have := m.fresh _ _ e; rw [upd_same] at this; cases this
  have new : ∀ b o, F2 b = some o → G b = none := fun b o e => by
    have h := m.fresh b o e
    have : b ≠ D := fun z => by rw [z, fD] at e; cases e
    rwa [upd_ne this] at h
  refine ⟨⟨same_del n.keep hG m.keep, fun b o e => ?_, fun b o e => ?_⟩, both_right fun b o e => n.sub.free (new b o e)⟩
  · rcases both_or e with z | ⟨_, z⟩
    · exact same_del n.sub hG m.keep _ _ z
    · exact same_off fD m.sub _ _ z
  · rcases both_or e with z | ⟨_, z⟩
    · exact n.fresh _ _ z
    · exact n.keep.free (new b o z)
end Law

namespace Law
open PySem L2 Ways Ring PyProof.Rows
seal L2.PE L2.PA L2.PS L2.PSs L2.PG L2.PT
/-! ### what a text writes -/
def figs (x : PySem.Str) : Bool := x.cps.toList.all fun c => decide (c ∈ ("0123456789" : PySem.Str).cps.toList)
def GoodN (x : PySem.Str) : Prop := 1 ≤ x.length ∧ x.length ≤ 30 ∧ figs x = true ∧ (x.cps.toList[0]? = some 48 → x.length = 1)
instance (x : PySem.Str) : Decidable (GoodN x) := by unfold GoodN; infer_instance
def numOf (x : PySem.Str) : Option Nat := if GoodN x then some (PySem.NumText.digitsVal x.cps.toList) else none
theorem fig_cs : ("0123456789" : PySem.Str).cps.toList = [48, 49, 50, 51, 52, 53, 54, 55, 56, 57] := by decide +kernel
theorem figs_dig {x : PySem.Str} (h : figs x = true) : PySem.NumText.AllDigits x.cps.toList := fun c hc => by
  have := of_decide_eq_true (List.all_eq_true.mp h c hc)
  rw [fig_cs] at this
  simp only [List.mem_cons, List.not_mem_nil, or_false] at this
  omega
theorem numOf_yes {x : PySem.Str} (h : GoodN x) : ∃ m, numOf x = some m := ⟨_, if_pos h⟩
theorem numOf_no {x : PySem.Str} (h : ¬ GoodN x) : numOf x = none := if_neg h
theorem numOf_is {x : PySem.Str} {m : Nat} (h : numOf x = some m) : GoodN x ∧ intText? x = some ((m : Nat) : Int) := by
  unfold numOf at h
  split at h
  · rename_i g
    refine ⟨g, ?_⟩
    obtain ⟨g1, g2, g3, _⟩ := g
    rw [← Option.some.inj h]
    refine PySem.intText_digits (figs_dig g3) (fun e => ?_) (by omega)
    have := Parts.len_list x
    rw [e] at this
    have : 0 = x.length := this
    omega
  · cases h
theorem cut_or (x : PySem.Str) : Txt.partition x "*" = (x, Str.empty, Str.empty) ∨ ∃ a b : PySem.Str, Txt.partition x "*" = (a, ("*" : PySem.Str), b) ∧ a.length ≤ x.length ∧ b.length ≤ x.length := by
  have sub : ∀ i j, (Builtin.Str.strSub x i j).length ≤ x.length := fun i j => by
    rw [← Parts.len_list, StrLaws.strSub_toList, ← Parts.len_list x, List.length_take, List.length_drop]
    omega
  unfold Txt.partition
  cases Builtin.Str.occurrences x "*" 0 x.length 1 with
  | nil => exact .inl rfl
  | cons i r => exact .inr ⟨_, _, rfl, sub _ _, sub _ _⟩
def arrOf (x : PySem.Str) : Option (Nat × Nat) :=
  if (Txt.partition x "*").2.1 = "" then (numOf x).map fun n => (n, 1)
  else match numOf (Txt.partition x "*").2.2 with
    | none => none
    | some w => if w < 2 then none else (numOf (Txt.partition x "*").1).map fun n => (n, w)
theorem star_ne : ¬ ("*" : PySem.Str) = "" := by decide +kernel
theorem emp_eq : (Str.empty : PySem.Str) = "" := by decide +kernel
theorem arrOf_no {x : PySem.Str} (h : Txt.partition x "*" = (x, Str.empty, Str.empty)) : arrOf x = (numOf x).map fun n => (n, 1) := by
  unfold arrOf
  rw [h]
  exact if_pos emp_eq
theorem arrOf_at {x a b : PySem.Str} (h : Txt.partition x "*" = (a, ("*" : PySem.Str), b)) : arrOf x = match numOf b with
    | none => none
    | some w => if w < 2 then none else (numOf a).map fun n => (n, w) := by
  unfold arrOf
  rw [h]
  exact if_neg star_ne
def rdN (x : PySem.Str) : Option PyData := (numOf x).map fun n => .int (n : Int)
def rdA (x : PySem.Str) : Option PyData := (arrOf x).map fun p => arrD ((p.1 : Int), (p.2 : Int))
def rdE (x : PySem.Str) : Option PyData := if x = "-" then some .none else rdN x
theorem arrOf_w {x : PySem.Str} {p : Nat × Nat} (h : arrOf x = some p) : 1 ≤ p.2 := by
  rcases cut_or x with e | ⟨a, b, e, _⟩
  · rw [arrOf_no e] at h
    cases e2 : numOf x with
    | none => rw [e2] at h; cases h
    | some n => rw [e2] at h; cases h; exact Nat.le_refl _
  · rw [arrOf_at e] at h
    cases e2 : numOf b with
    | none => rw [e2] at h; cases h
    | some w =>
      rw [e2] at h
      by_cases c : w < 2
      · have h' : (if w < 2 then none else (numOf a).map fun n => (n, w)) = some p := h
        rw [if_pos c] at h'; cases h'
      · have h' : (if w < 2 then none else (numOf a).map fun n => (n, w)) = some p := h
        rw [if_neg c] at h'
        cases e3 : numOf a with
        | none => rw [e3] at h'; cases h'
        | some n =>
          rw [e3] at h'
          cases h'
          show 1 ≤ w
          omega
/-! ### parts -/
theorem sub_len (x : PySem.Str) (i j : Nat) : (Builtin.Str.strSub x i j).length ≤ x.length := by
  rw [← Parts.len_list, StrLaws.strSub_toList, ← Parts.len_list x, List.length_take, List.length_drop]
  omega
theorem from_len (x : PySem.Str) (w : Nat) : ∀ (cuts : List Nat) (a : Nat), (StrLaws.partsFrom x w a cuts).length = cuts.length + 1 ∧ ∀ p ∈ StrLaws.partsFrom x w a cuts, p.length ≤ x.length
  | [], a => ⟨rfl, fun p hp => by rw [List.mem_singleton.mp hp]; exact sub_len x _ _⟩
  | c :: r, a => by
    obtain ⟨h1, h2⟩ := from_len x w r (c + w)
    refine ⟨by show (StrLaws.partsFrom x w (c + w) r).length + 1 = _; rw [h1]; rfl, fun p hp => ?_⟩
    rcases List.mem_cons.mp hp with z | z
    · rw [z]; exact sub_len x _ _
    · exact h2 p z
theorem split_len (x y : PySem.Str) : (Txt.split x y).length ≤ x.length + 2 ∧ ∀ p ∈ Txt.split x y, p.length ≤ x.length := by
  have one : ([x] : List PySem.Str).length ≤ x.length + 2 ∧ ∀ p ∈ [x], p.length ≤ x.length := ⟨by show 1 ≤ _; omega, fun p hp => by rw [List.mem_singleton.mp hp]; exact Nat.le_refl _⟩
  unfold Txt.split
  split
  · exact one
  · split
    · exact one
    · rw [StrLaws.partsBetween_eq]
      obtain ⟨h1, h2⟩ := from_len x y.length (Builtin.Str.occurrences x y 0 x.length (x.length + 1)) 0
      refine ⟨?_, h2⟩
      have := StrLaws.occ_length_le_len x y 0 x.length (x.length + 1)
      omega
theorem split_pos (x y : PySem.Str) : 1 ≤ (Txt.split x y).length := by
  unfold Txt.split
  split
  · exact Nat.le_refl _
  · split
    · exact Nat.le_refl _
    · rw [StrLaws.partsBetween_eq, (from_len x y.length _ 0).1]
      omega
theorem join_ge (sep : PySem.Str) : ∀ ts : List PySem.Str, (ts.map (·.length)).sum + ts.length * sep.length ≤ (Str.join sep ts).length + sep.length
  | [] => by simp
  | [x] => by
    show x.length + 0 + 1 * sep.length ≤ x.length + sep.length
    omega
  | x :: y :: r => by
    have h := join_ge sep (y :: r)
    show _ ≤ (x ++ sep ++ Str.join sep (y :: r)).length + _
    rw [Str.length_append, Str.length_append]
    simp only [List.map_cons, List.sum_cons, List.length_cons, Nat.succ_mul] at h ⊢
    omega
/-- how much a list of words holds -/
def bulk (ws : List PySem.Str) : Nat := (ws.map (·.length)).sum + ws.length
theorem split_bulk (x : PySem.Str) : bulk (Txt.split x " ") ≤ x.length + 1 := by
  have h1 : ((" " : PySem.Str)).length = 1 := by decide +kernel
  have key : Str.join " " (Txt.split x " ") = x := by
    unfold Txt.split
    split
    · rfl
    · split
      · rfl
      · rw [← StrLaws.glued_eq_join]
        exact StrLaws.glued_between_self x " " _
  have := join_ge " " (Txt.split x " ")
  rw [key, h1] at this
  unfold bulk
  omega
theorem bulk_mem : ∀ {ws : List PySem.Str} {w : PySem.Str}, w ∈ ws → w.length + 1 ≤ bulk ws
  | v :: ws, w, h => by
    have e : bulk (v :: ws) = v.length + (ws.map (·.length)).sum + (ws.length + 1) := rfl
    rcases List.mem_cons.mp h with z | z
    · rw [z]; omega
    · have := bulk_mem z
      have e2 : bulk ws = (ws.map (·.length)).sum + ws.length := rfl
      omega
theorem bulk_app (a b : List PySem.Str) : bulk (a ++ b) = bulk a + bulk b := by
  unfold bulk
  rw [List.map_append, List.sum_append, List.length_append]
  omega
theorem bulk_set (w : PySem.Str) : ∀ (ws : List PySem.Str) (i : Nat), bulk (ws.set i w) ≤ bulk ws + w.length
  | [], _ => by show 0 ≤ _; omega
  | v :: ws, 0 => by
    show w.length + (ws.map (·.length)).sum + (ws.length + 1) ≤ v.length + (ws.map (·.length)).sum + (ws.length + 1) + w.length
    omega
  | v :: ws, i + 1 => by
    have := bulk_set w ws i
    have e : bulk (v :: ws) = v.length + 1 + bulk ws := by show v.length + (ws.map (·.length)).sum + (ws.length + 1) = _; unfold bulk; omega
    have e2 : bulk ((v :: ws).set (i + 1) w) = v.length + 1 + bulk (ws.set i w) := by show v.length + ((ws.set i w).map (·.length)).sum + ((ws.set i w).length + 1) = _; unfold bulk; omega
    omega
theorem bulk_erase : ∀ (ws : List PySem.Str) (i : Nat), bulk (ws.eraseIdx i) ≤ bulk ws
  | [], _ => Nat.le_refl _
  | v :: ws, 0 => by show bulk ws ≤ v.length + (ws.map (·.length)).sum + (ws.length + 1); unfold bulk; omega
  | v :: ws, i + 1 => by
    have := bulk_erase ws i
    have e : bulk (v :: ws) = v.length + 1 + bulk ws := by show v.length + (ws.map (·.length)).sum + (ws.length + 1) = _; unfold bulk; omega
    have e2 : bulk ((v :: ws).eraseIdx (i + 1)) = v.length + 1 + bulk (ws.eraseIdx i) := by show v.length + ((ws.eraseIdx i).map (·.length)).sum + ((ws.eraseIdx i).length + 1) = _; unfold bulk; omega
    omega
theorem bulk_join {ws : List PySem.Str} (h : bulk ws ≤ 100000) : Builtin.Str.tooLong (ws.toArray.foldl (· + ·.length + (" " : PySem.Str).length) 0) = false ∧ (Txt.join " " ws).length ≤ bulk ws := by
  have h1 : ((" " : PySem.Str)).length = 1 := by decide +kernel
  have h2 := StrLaws.join_length_le " " ws
  rw [h1] at h2
  have e : Txt.join " " ws = PySem.Str.join " " ws := StrLaws.glued_eq_join " " ws
  refine ⟨?_, ?_⟩
  · rw [StrLaws.joinTotal, h1]
    unfold Builtin.Str.tooLong
    unfold bulk at h
    have big : 100000 ≤ sizeLine := by decide
    exact decide_eq_false (by omega)
  · rw [e]
    unfold bulk
    omega
/-! ### lists of parts -/
def okP (rd : PySem.Str → Option PyData) (p : PySem.Str) : Prop := p = "-" ∨ ∀ w ∈ Txt.split p " ", rd w ≠ none
def okL (rd : PySem.Str → Option PyData) (t : PySem.Str) : Prop := ∀ p ∈ Txt.split t "; ", okP rd p
def things (rd : PySem.Str → Option PyData) (p : PySem.Str) : List PyData := if p = "-" then [] else (Txt.split p " ").map fun w => (rd w).getD .none
def lists (rd : PySem.Str → Option PyData) (t : PySem.Str) : List PyData := (Txt.split t "; ").map fun p => .list (things rd p)
theorem things_len (rd : PySem.Str → Option PyData) (p : PySem.Str) : (things rd p).length ≤ p.length + 2 := by
  unfold things
  split
  · exact Nat.zero_le _
  · rw [List.length_map]
    exact (split_len p " ").1
theorem lists_len (rd : PySem.Str → Option PyData) (t : PySem.Str) : lenD (.list (lists rd t)) ≤ t.length + 2 ∧ ∀ ds, PyData.list (lists rd t) = .list ds → ∀ e ∈ ds, lenD e ≤ t.length + 2 := by
  refine ⟨?_, fun ds e d hd => ?_⟩
  · show (lists rd t).length ≤ _
    unfold lists
    rw [List.length_map]
    exact (split_len t "; ").1
  · have e' : lists rd t = ds := by injection e
    rw [← e'] at hd
    obtain ⟨p, hp, rfl⟩ := List.mem_map.mp hd
    have := (split_len t "; ").2 p hp
    have := things_len rd p
    show (things rd p).length ≤ _
    omega
theorem bad_thing {rd : PySem.Str → Option PyData} {t : PySem.Str} (h : ¬ okL rd t) : ∃ es, PyData.list es ∈ lists rd t ∧ PyData.none ∈ es := by
  have h1 : ∃ p ∈ Txt.split t "; ", ¬ okP rd p := Classical.byContradiction fun z => h fun p hp => Classical.byContradiction fun w => z ⟨p, hp, w⟩
  obtain ⟨p, hp, no⟩ := h1
  have h0 : ¬ p = "-" := fun z => no (.inl z)
  have h2 : ∃ w ∈ Txt.split p " ", rd w = none := Classical.byContradiction fun z => no (.inr fun w hw e => z ⟨w, hw, e⟩)
  obtain ⟨w, hw, e⟩ := h2
  refine ⟨things rd p, List.mem_map.mpr ⟨p, hp, rfl⟩, ?_⟩
  unfold things
  rw [if_neg h0]
  exact List.mem_map.mpr ⟨w, hw, by rw [e]; rfl⟩
theorem rise_mem {m : Int} : ∀ {ds : List PyData} {l : Option Int}, riseD m l ds = true → ∀ d ∈ ds, arrowD m d = true
  | e :: ds, l, h, d, hd => by
    have h' : (arrowD m e && (aboveB l (endOf e) && riseD m (some (endOf e)) ds)) = true := h
    rw [Bool.and_eq_true, Bool.and_eq_true] at h'
    rcases List.mem_cons.mp hd with z | z
    · rw [z]; exact h'.1
    · exact rise_mem h'.2.2 d z
theorem netB_bad {t : PySem.Str} (h : ¬ okL rdA t) : netB (.list (lists rdA t)) = false := by
  obtain ⟨es, h1, h2⟩ := bad_thing h
  rw [Bool.eq_false_iff]
  intro z
  have z' : ((decide (1 ≤ (lists rdA t).length) && decide ((lists rdA t).length ≤ 8)) && (lists rdA t).all (rowB (lists rdA t).length)) = true := z
  rw [Bool.and_eq_true] at z'
  have := rise_mem (List.all_eq_true.mp z'.2 _ h1) _ h2
  cases this
theorem piles_mem {net : Net} {ds : List PyData} (h : pilesD net (.list ds) = true) {e : PyData} (he : e ∈ ds) : ∃ row, pileD row e = true := by
  have h' : (decide (ds.length = net.length) && (net.zip ds).all fun p => pileD p.1 p.2) = true := h
  rw [Bool.and_eq_true, decide_eq_true_eq] at h'
  obtain ⟨i, hi, rfl⟩ := List.mem_iff_getElem.mp he
  have hi2 : i < net.length := by omega
  refine ⟨net[i], List.all_eq_true.mp h'.2 (net[i], ds[i]) (List.mem_of_getElem? (i := i) ?_)⟩
  rw [List.getElem?_zip_eq_some]
  exact ⟨List.getElem?_eq_getElem hi2, List.getElem?_eq_getElem hi⟩
theorem pilesD_bad {net : Net} {t : PySem.Str} (h : ¬ okL rdN t) : pilesD net (.list (lists rdN t)) = false := by
  obtain ⟨es, h1, h2⟩ := bad_thing h
  rw [Bool.eq_false_iff]
  intro z
  obtain ⟨row, hr⟩ := piles_mem z h1
  have h' : (decide (es.length ≤ 40) && es.all (endD row)) = true := hr
  rw [Bool.and_eq_true] at h'
  have := List.all_eq_true.mp h'.2 _ h2
  cases this
/-! ### trees -/
def ends (t : PySem.Str) : List PyData := (Txt.split t " ").map fun w => (rdE w).getD (.str "")
theorem good_mem {net : Net} {ds : List PyData} (h : goodD net (.list ds) = true) {e : PyData} (he : e ∈ ds) : ∃ row, fitsD row e = true := by
  rw [good_list, Bool.and_eq_true, Bool.and_eq_true, decide_eq_true_eq] at h
  obtain ⟨i, hi, rfl⟩ := List.mem_iff_getElem.mp he
  have hi2 : i < net.length := by omega
  refine ⟨net[i], List.all_eq_true.mp h.1.2 (net[i], ds[i]) (List.mem_of_getElem? (i := i) ?_)⟩
  rw [List.getElem?_zip_eq_some]
  exact ⟨List.getElem?_eq_getElem hi2, List.getElem?_eq_getElem hi⟩
theorem goodD_bad {net : Net} {t w : PySem.Str} (hw : w ∈ Txt.split t " ") (h : rdE w = none) : goodD net (.list (ends t)) = false := by
  rw [Bool.eq_false_iff]
  intro z
  obtain ⟨row, hr⟩ := good_mem z (List.mem_map.mpr ⟨w, hw, by rw [h]; rfl⟩ : PyData.str "" ∈ ends t)
  unfold fitsD at hr
  split at hr <;> cases hr
/-! ### what is due -/
def netOf : PyData → Option PyData
  | .str t => if netB (.list (lists rdA t)) = true then some (.list (lists rdA t)) else none
  | _ => none
def pilesOf (net : Net) : PyData → Option PyData
  | .str t => if pilesD net (.list (lists rdN t)) = true then some (.list (lists rdN t)) else none
  | _ => none
def treeOf (net : Net) : PyData → Option PyData
  | .str t => if goodD net (.list (ends t)) = true then some (.list (ends t)) else none
  | _ => none
def dueOf (net : Net) (k : Int) (d : PyData) : Option PyData := if k = 0 then netOf d else if k = 1 then pilesOf net d else treeOf net d
/-- a thing whose text, where it is one, is not too long -/
def Brief (d : PyData) : Prop := ∀ t, d = .str t → t.length ≤ 250000
end Law

namespace Law
open PySem L2 Ways Ring PyProof.Rows
seal L2.PE L2.PA L2.PS L2.PSs L2.PG L2.PT
section
variable {P : Program} {w : World} {K : PySem.W.Frag} {mg : Str → Option Value} {base : Heap}
/-! ### texts read, any texts -/
def TakeP (H1 : Hp) (zs : List V) : Nat → Hp → List V → Prop := fun i G ys => Same H1 G ∧ ys = zs.take i
theorem TakeP.put {H1 G H4 : Hp} {D : Addr} {ys zs : List V} {i : Nat} {y : V} (p : TakeP H1 zs i G ys) (hG : G D = none) (hs : Same (upd G D (.lst ys)) H4) (hf : zs[i]? = some y) (hi : i ≤ 300000) : CPut D (TakeP H1 zs (i + 1)) y H4 := by
  refine cputB (hs D _ upd_same) ?_ ⟨same_del p.1 hG hs, ?_⟩
  · rw [p.2, List.length_take]
    omega
  · rw [List.take_succ, hf, p.2]
    rfl
theorem str_get {l : List PySem.Str} {i : Nat} {x : V} (h : (l.map V.str)[i]? = some x) : ∃ a, l[i]? = some a ∧ x = .str a := by
  rw [List.getElem?_map] at h
  cases e : l[i]? with
  | none => rw [e] at h; cases h
  | some a => rw [e] at h; exact ⟨a, rfl, (Option.some.inj h).symm⟩
theorem line20 : 250000 ≤ sizeLine := by decide
def sp_split (aE : Addr) : Sp := fun vs H Q E => ∃ x d y, vs = [x, .str y] ∧ Rep H x d ∧ (y.length == 0) = false ∧ Brief d ∧ (∀ t, d = .str t → ∀ l, H l = none → Q (.ref l) (upd H l (.lst ((Txt.split t y).map V.str)))) ∧ ((∀ t, d ≠ .str t) → E (.ref aE) none H)
theorem def_split_text (T : Txt mg) (U : Cls K mg) (h : Here K mg "split_text" s_split_text ["text", "between"]) : DefE P w K mg base "split_text" 1 ["text", "between"] (sp_split U.a_NoText) := h.mkE fun f fd F => by
  have nd := sc_split_text.nd
  refine F.okE sc_split_text (fun vs H Q E h => ?_) (fun cdv A outer s H vs Q E hr h => ?_)
  · obtain ⟨x, d, y, rfl, _⟩ := h
    rfl
  obtain ⟨x, d, y, rfl, rx, hy, br, q1, q2⟩ := h
  refine ⟨_, pss_cons (ps_if (pt_not (pt_val (pe_callB call_isi rfl T.z_isinstance boot_isinstance (pa_cons (pv 0) (pa_cons (pe_bltn rfl T.z_str boot_str (v := .ty "str") rfl) pa_nil)))))
      (pss_one (ps_raise U.e_NoText hr.hd rfl))
      (pss_nil))
    (pss_one (ps_ret (pe_bm PySem.F.plainAttrs_str PySem.F.slot_str_split PySem.F.type_str_split mt_split (pv 0) (pa_cons (pv 1) pa_nil)))), ?_⟩
  refine ⟨_, rfl, _, _, _, rfl, by decide, rep_ty rx, _, rfl, ?_⟩
  cases d with
  | str t =>
    cases rx
    have hl := br t rfl
    have h2 := (split_len t y).1
    have h3 := line20
    have big : 16777216 = sizeLine := by decide
    exact ⟨_, rfl, rfl, _, rfl, t, y, rfl, rfl, hy, by omega, by omega, q1 t rfl⟩
  | _ => exact q2 fun t z => by cases z
def sp_number_in (aE : Addr) : Sp := fun vs H Q E => ∃ x, vs = [.str x] ∧ x.length ≤ 250000 ∧ (∀ m, numOf x = some m → ∀ H', Same H H' → Q (.int (m : Int)) H') ∧ (numOf x = none → ∀ H', Same H H' → E (.ref aE) none H')
theorem def_number_in (T : Txt mg) (U : Cls K mg) (h : Here K mg "number_in" s_number_in ["word"]) : DefE P w K mg base "number_in" 1 ["word"] (sp_number_in U.a_NoText) := h.mkE fun f fd F => by
  have nd := sc_number_in.nd
  refine F.okE sc_number_in (fun vs H Q E h => ?_) (fun cdv A outer s H vs Q E hr h => ?_)
  · obtain ⟨x, rfl, _⟩ := h
    rfl
  obtain ⟨x, rfl, hx, q1, q2⟩ := h
  refine ⟨_, pss_cons (ps_if (PW.pt (pw_or (pt_not (pt_chain op_le op_le pe_int (pe_callB call_len_str rfl T.z_len PySem.boot_len (pa_cons (pv 0) pa_nil)) (pe_globC rfl T.c_MOST_FIGURES))) (pw_or1 (pt_not (pt_val (pe_callB (call_allK (K := K) rfl) rfl T.z_all boot_all (pa_cons (pe_comp (N' := ["sign"]) (cap := [none]) rfl ⟨rfl, rfl, rfl, rfl, rfl, rfl⟩ (pi_str (pv 0)) (fun _ _ _ _ _ _ => ⟨pg_name (i := 0) (show (["sign"] : List Str).Nodup by decide +kernel) rfl (Or.inl rfl) (Or.inr rfl), pifs_nil, pe_cmpR op_in_str (pv 0) (pe_globS rfl T.c_FIGURES) rfl⟩) (keeps_name rfl)) pa_nil)))))))
      (pss_one (ps_raise U.e_NoText hr.hd rfl))
      (pss_nil))
    (pss_cons (ps_if (PW.pt (pw_and (pt_cmpR op_eq (pe_ix ix_str (pv 0) pe_int (fun _ _ => rfl)) pe_str (nomark _)) (pw_and1 (pt_cmpR op_ne (pv 0) pe_str (nomark _)))))
      (pss_one (ps_raise U.e_NoText hr.hd rfl))
      (pss_nil))
    (pss_one (ps_ret (pe_callTy call_int_str rfl T.z_int boot_int (pa_cons (pv 0) pa_nil))))), ?_⟩
  have big := line20
  refine ⟨_, rfl, _, rfl, (by omega), _, _, rfl, rfl, _, rfl, ?_⟩
  by_cases l1 : 1 ≤ x.length
  · rw [decide_eq_true (show (1 : Int) ≤ (x.length : Int) by omega)]
    refine ⟨_, _, rfl, rfl, _, rfl, ?_⟩
    by_cases l2 : x.length ≤ 30
    · rw [decide_eq_true (show (x.length : Int) ≤ 30 by omega)]
      refine ⟨_, rfl, x, rfl, fun D hD => ?_⟩
      have sz : x.cps.size = x.length := rfl
      have ll := Parts.len_list x
      refine comp_str (z := x) (TakeP H (x.cps.toList.map fun c => V.bl (decide (c ∈ ("0123456789" : PySem.Str).cps.toList)))) hD ⟨Same.refl _, rfl⟩ (fun i c G ys hc hG p => ?_) (fun G ys hG p => ?_)
      · have hi : i < x.length := by rw [← sz]; exact (Array.getElem?_eq_some_iff.mp hc).1
        refine ⟨_, rfl, _, _, rfl, rfl, ?_⟩
        rw [StrLaws.found_one]
        exact p.put hG (Same.refl _) (by rw [List.getElem?_map, Array.getElem?_toList, hc]; rfl) (by omega)
      have s1 := p.1.trans (same_upd hG (.lst ys))
      have ey : ys = (x.cps.toList.map fun c => decide (c ∈ ("0123456789" : PySem.Str).cps.toList)).map V.bl := by
        have := p.2
        rw [sz, List.take_of_length_le (by rw [List.length_map]; omega)] at this
        rw [this, List.map_map]
        rfl
      refine ⟨D, x.cps.toList.map fun c => decide (c ∈ ("0123456789" : PySem.Str).cps.toList), rfl, SqL.of (by rw [upd_same, ey]), _, rfl, ?_⟩
      have al : (x.cps.toList.map fun c => decide (c ∈ ("0123456789" : PySem.Str).cps.toList)).all id = figs x := by rw [List.all_map]; rfl
      rw [al]
      by_cases fg : figs x = true
      · rw [fg]
        have fin : GoodN x → ∃ v, (L2.start ["word"] [V.str x])[0]? = some (some v) ∧ ∃ x k, [v] = [V.str x] ∧ intText? x = some k ∧ x.length ≤ 640 ∧ Q (.int k) (upd G D (.lst ys)) := fun g => by
          obtain ⟨m, hm⟩ := numOf_yes g
          exact ⟨_, rfl, x, _, rfl, (numOf_is hm).2, (by omega), q1 m hm _ s1⟩
        cases ec : x.cps.toList with
        | nil =>
          rw [ec] at ll
          have : 0 = x.length := ll
          omega
        | cons c0 r =>
          have hd0 : x.cps.toList[0]? = some c0 := by rw [ec]; rfl
          refine ⟨_, rfl, x, 0, c0, rfl, rfl, (by omega), by rw [ec]; exact atI0 _ _, rfl, _, rfl, iteD (fun z => ?_) (fun z => fin ⟨l1, l2, fg, fun e => ?_⟩)⟩
          · have z1 : (⟨#[c0]⟩ : PySem.Str) = "0" := V.str.inj z
            have z2 : [c0] = [48] := congrArg (fun t : PySem.Str => t.cps.toList) z1
            have z3 : c0 = 48 := (List.cons.inj z2).1
            refine ⟨_, rfl, rfl, _, rfl, ?_⟩
            by_cases one : x.length = 1
            · have e0 : x = "0" := by
                apply Str.ext'
                apply Array.toList_inj.mp
                rw [ec] at ll ⊢
                rw [z3]
                cases r with
                | nil => rfl
                | cons a r => rw [one] at ll; simp at ll
              rw [decide_eq_true (show V.str x = V.str "0" by rw [e0])]
              exact fin ⟨l1, l2, fg, fun _ => one⟩
            · rw [decide_eq_false (show ¬ V.str x = V.str "0" from fun e => one (by rw [V.str.inj e]; decide +kernel))]
              exact q2 (numOf_no fun g => one (g.2.2.2 (by rw [hd0, z3]))) _ s1
          · rw [hd0] at e
            cases e
            exact absurd rfl z
      · rw [Bool.eq_false_iff.mpr fg]
        exact q2 (numOf_no fun g => fg g.2.2.1) _ s1
    · rw [decide_eq_false (show ¬ (x.length : Int) ≤ 30 by omega)]
      exact q2 (numOf_no fun g => l2 g.2.1) _ (Same.refl _)
  · rw [decide_eq_false (show ¬ (1 : Int) ≤ (x.length : Int) by omega), if_neg Bool.false_ne_true]
    exact ⟨_, rfl, q2 (numOf_no fun g => l1 g.1) _ (Same.refl _)⟩
def sp_arrow_in (aE : Addr) : Sp := fun vs H Q E => ∃ x, vs = [.str x] ∧ x.length ≤ 250000 ∧ (∀ n w, arrOf x = some (n, w) → ∀ t H', Same H H' → H t = none → H' t = some (.tup [.int (n : Int), .int (w : Int)]) → Q (.ref t) H') ∧ (arrOf x = none → ∀ H', Same H H' → E (.ref aE) none H')
theorem def_arrow_in (T : Txt mg) (U : Cls K mg) (D_number_in : DefE P w K mg base "number_in" 1 ["word"] (sp_number_in U.a_NoText)) (h : Here K mg "arrow_in" s_arrow_in ["word"]) : DefE P w K mg base "arrow_in" 2 ["word"] (sp_arrow_in U.a_NoText) := h.mkE fun f fd F => by
  have nd := sc_arrow_in.nd
  refine F.okE sc_arrow_in (fun vs H Q E h => ?_) (fun cdv A outer s H vs Q E hr h => ?_)
  · obtain ⟨x, rfl, _⟩ := h
    rfl
  obtain ⟨x, rfl, hx, q1, q2⟩ := h
  refine ⟨_, pss_cons (ps_set (i := 1) nd rfl (Or.inl rfl) (pe_bm PySem.F.plainAttrs_str PySem.F.slot_str_partition PySem.F.type_str_partition mt_partition (pv 0) (pa_cons pe_str pa_nil)))
    (pss_cons (ps_if (pt_cmpR op_eq (pe_ix (ix_lt (K := K)) (pv 1) pe_int (fun _ _ => rfl)) pe_str (nomark _))
      (pss_one (ps_ret (pe_tup (pa_cons (pe_callE D_number_in hr rfl (pa_cons (pv 0) pa_nil)) (pa_cons pe_int pa_nil)))))
      (pss_nil))
    (pss_cons (ps_set (i := 2) nd rfl (Or.inl rfl) (pe_callE D_number_in hr rfl (pa_cons (pe_ix (ix_lt (K := K)) (pv 1) pe_int (fun _ _ => rfl)) pa_nil)))
    (pss_cons (ps_if (pt_cmpR op_lt (pv 2) pe_int (nomark _))
      (pss_one (ps_raise U.e_NoText hr.hd rfl))
      (pss_nil))
    (pss_one (ps_ret (pe_tup (pa_cons (pe_callE D_number_in hr rfl (pa_cons (pe_ix (ix_lt (K := K)) (pv 1) pe_int (fun _ _ => rfl)) pa_nil)) (pa_cons (pv 2) pa_nil)))))))), ?_⟩
  have big := line20
  refine ⟨_, rfl, rfl, x, "*", rfl, rfl, by decide +kernel, by omega, fun l hl => ?_⟩
  rcases cut_or x with e | ⟨a, b, e, la, lb⟩
  · have ea := arrOf_no e
    rw [e]
    have s1 := same_upd hl (HO.tup [V.str x, V.str Str.empty, V.str Str.empty])
    refine ⟨_, rfl, .inr ⟨l, _, 1, _, rfl, rfl, SqT.of upd_same, rfl, rfl, _, rfl, ?_⟩⟩
    refine ⟨_, rfl, x, rfl, hx, fun m hm H' s' => ⟨(by show 2 ≤ sizeLine; decide), fun t ht => ?_⟩, fun z H' s' => q2 (by rw [ea, z]; rfl) _ (s1.trans s')⟩
    exact q1 m 1 (by rw [ea, hm]; rfl) t _ (s1.trans (s'.trans (same_upd ht _))) ((s1.trans s').free ht) upd_same
  · have ea := arrOf_at e
    rw [e]
    have s1 := same_upd hl (HO.tup [V.str a, V.str "*", V.str b])
    have e1 : (upd H l (HO.tup [V.str a, V.str "*", V.str b])) l = some (.tup [V.str a, V.str "*", V.str b]) := upd_same
    generalize upd H l (HO.tup [V.str a, V.str "*", V.str b]) = H1 at s1 e1 ⊢
    refine ⟨_, rfl, .inr ⟨l, _, 1, _, rfl, rfl, SqT.of e1, rfl, rfl, _, rfl, ?_⟩⟩
    rw [decide_eq_false (show ¬ V.str "*" = V.str "" by decide +kernel)]
    refine ⟨_, rfl, .inr ⟨l, _, 2, _, rfl, rfl, SqT.of e1, rfl, b, rfl, by omega, fun w3 hw H2 s2 => ?_, fun z H2 s2 => q2 (by rw [ea, z]) _ (s1.trans s2)⟩⟩
    refine ⟨_, rfl, _, _, rfl, rfl, _, rfl, iteD (fun c => ?_) (fun c => ?_)⟩
    · exact q2 (by rw [ea, hw]; exact if_pos (by omega)) _ (s1.trans s2)
    · have ea2 : arrOf x = (numOf a).map fun n => (n, w3) := by rw [ea, hw]; exact if_neg (by omega)
      refine ⟨_, rfl, .inr ⟨l, _, 0, _, rfl, rfl, SqT.of (s2 _ _ e1), rfl, a, rfl, by omega, fun n hn H3 s3 => ⟨_, rfl, (by show 2 ≤ sizeLine; decide), fun t ht => ?_⟩, fun z H3 s3 => q2 (by rw [ea2, z]; rfl) _ (s1.trans (s2.trans s3))⟩⟩
      exact q1 n w3 (by rw [ea2, hn]; rfl) t _ (s1.trans (s2.trans (s3.trans (same_upd ht _)))) ((s1.trans (s2.trans s3)).free ht) upd_same
def sp_end_in (aE : Addr) : Sp := fun vs H Q E => ∃ x, vs = [.str x] ∧ x.length ≤ 250000 ∧ (∀ d, rdE x = some d → ∀ v H', Same H H' → (∀ G, Rep G v d) → Q v H') ∧ (rdE x = none → ∀ H', Same H H' → E (.ref aE) none H')
theorem def_end_in (T : Txt mg) (U : Cls K mg) (D_number_in : DefE P w K mg base "number_in" 1 ["word"] (sp_number_in U.a_NoText)) (h : Here K mg "end_in" s_end_in ["word"]) : DefE P w K mg base "end_in" 2 ["word"] (sp_end_in U.a_NoText) := h.mkE fun f fd F => by
  have nd := sc_end_in.nd
  refine F.okE sc_end_in (fun vs H Q E h => ?_) (fun cdv A outer s H vs Q E hr h => ?_)
  · obtain ⟨x, rfl, _⟩ := h
    rfl
  obtain ⟨x, rfl, hx, q1, q2⟩ := h
  refine ⟨_, pss_one (ps_ret (pe_ifExp (pt_cmpR op_eq (pv 0) (pe_globS rfl T.c_NOTHING) (nomark _)) pe_non (pe_callE D_number_in hr rfl (pa_cons (pv 0) pa_nil)))), ?_⟩
  refine ⟨_, rfl, rfl, _, rfl, iteD (fun c => ?_) (fun c => ?_)⟩
  · exact q1 .none (if_pos (V.str.inj c)) _ _ (Same.refl _) fun G => .non
  · have e : rdE x = rdN x := if_neg fun z => c (by rw [z])
    exact ⟨_, rfl, x, rfl, hx, fun m hm H' s' => q1 (.int (m : Int)) (by rw [e]; unfold rdN; rw [hm]; rfl) _ _ s' fun G => .int _, fun z => q2 (by rw [e]; unfold rdN; rw [z]; rfl)⟩
/-- a function that reads a word, or refuses it -/
def sp_rd (rd : PySem.Str → Option PyData) (aE : Addr) : Sp := fun vs H Q E => ∃ x, vs = [.str x] ∧ x.length ≤ 250000 ∧ (∀ d, rd x = some d → ∀ v F H', New H F H' → Rep F v d → Q v H') ∧ (rd x = none → ∀ H', Same H H' → E (.ref aE) none H')
theorem rd_number {aE : Addr} : ∀ vs H Q E, sp_rd rdN aE vs H Q E → sp_number_in aE vs H Q E := fun vs H Q E ⟨x, e, l, q1, q2⟩ =>
  ⟨x, e, l, fun m hm H' s => q1 (.int (m : Int)) (by unfold rdN; rw [hm]; rfl) _ _ H' ((New.start H).more s) (.int _), fun z => q2 (by unfold rdN; rw [z]; rfl)⟩
theorem rd_arrow {aE : Addr} : ∀ vs H Q E, sp_rd rdA aE vs H Q E → sp_arrow_in aE vs H Q E := fun vs H Q E ⟨x, e, l, q1, q2⟩ =>
  ⟨x, e, l, fun n w hm t H' s ht et => q1 (arrD ((n : Int), (w : Int))) (by unfold rdA; rw [hm]; rfl) _ _ H' (((New.start H).more s).see et rfl ht) (.tup upd_same (.cons (.int _) (.cons (.int _) .nil))), fun z => q2 (by unfold rdA; rw [z]; rfl)⟩
def sp_things_in (P : Program) (w : World) (K : PySem.W.Frag) (mg : Str → Option Value) (base : Heap) (aE : Addr) : Sp := fun vs H Q E => ∃ (f : Addr) (rd : PySem.Str → Option PyData) (p : PySem.Str), vs = [.str p, .ref f] ∧ FnAtE P w K mg base 2 f (sp_rd rd aE) ∧ p.length ≤ 250000 ∧
  (okP rd p → ∀ v F H', New H F H' → Rep F v (.list (things rd p)) → Q v H') ∧ (¬ okP rd p → ∀ H', Same H H' → E (.ref aE) none H')
theorem def_things_in (T : Txt mg) (U : Cls K mg) (h : Here K mg "things_in" s_things_in ["part", "read_word"]) : DefE P w K mg base "things_in" 3 ["part", "read_word"] (sp_things_in P w K mg base U.a_NoText) := h.mkE fun f fd F => by
  have nd := sc_things_in.nd
  refine F.okE sc_things_in (fun vs H Q E h => ?_) (fun cdv A outer s H vs Q E hr h => ?_)
  · obtain ⟨f, rd, p, rfl, _⟩ := h
    rfl
  obtain ⟨fr, rd, p, rfl, hf, hp, q1, q2⟩ := h
  refine ⟨_, pss_cons (ps_if (pt_cmpR op_eq (pv 0) (pe_globS rfl T.c_NOTHING) (nomark _))
      (pss_one (ps_ret (pe_lst pa_nil)))
      (pss_nil))
    (pss_one (ps_ret (pe_compE (N' := ["word", "read_word"]) (cap := [none, some 1]) rfl ⟨rfl, rfl, rfl, rfl, rfl, rfl⟩ (pi_listK (K := K) (pe_bm PySem.F.plainAttrs_str PySem.F.slot_str_split PySem.F.type_str_split mt_split (pv 0) (pa_cons (pe_globS rfl T.c_BETWEEN_WORDS) pa_nil))) (fun _ _ _ _ _ _ hx => ⟨pg_name (i := 0) (show (["word", "read_word"] : List Str).Nodup by decide +kernel) rfl (Or.inl rfl) (Or.inr rfl), pifs_nil, pe_callVP (k := 2) (G := fun f sp => FnAtE P w K mg base 2 f sp) hx (fun _ _ h => h) hr (pv 1) (pa_cons (pv 0) pa_nil)⟩) (keeps_name rfl)))), ?_⟩
  refine ⟨_, rfl, rfl, _, rfl, iteD (fun c => ?_) (fun c => ?_)⟩
  · have c' : p = "-" := V.str.inj c
    have e : things rd p = [] := if_pos c'
    refine ⟨Nat.zero_le _, fun l hl => q1 (.inl c') _ (upd (fun _ => none) l (.lst [])) _ ((New.start H).done hl) ?_⟩
    rw [e]
    exact .lst upd_same .nil
  have c' : ¬ p = "-" := fun z => c (by rw [z])
  have e : things rd p = (Txt.split p " ").map fun w => (rd w).getD .none := if_neg c'
  obtain ⟨l1, l2⟩ := split_len p " "
  have big := line20
  have big2 : 16777216 = sizeLine := by decide
  refine ⟨_, rfl, rfl, p, " ", rfl, rfl, by decide +kernel, by omega, by omega, fun l0 hl0 => ?_⟩
  generalize hws : Txt.split p " " = ws at e l1 l2 ⊢
  refine ⟨l0, rfl, ⟨_, SqL.of upd_same⟩, fun D hD => ?_⟩
  have s0 := same_upd hl0 (HO.lst (ws.map V.str))
  refine comp_list (K := K) (xs := ws.map V.str) (fun i G ys => ∃ F', New H F' G ∧ G l0 = some (.lst (ws.map V.str)) ∧ Reps F' ys ((ws.take i).map fun w => (rd w).getD .none) ∧ ∀ w ∈ ws.take i, rd w ≠ none) hD ⟨_, (New.start H).more s0, upd_same, .nil, fun _ h => nomatch h⟩ (fun i G ys ⟨_, _, e, _⟩ => SqL.of e) (fun i x G ys hx hG pq => ?_) (fun G ys hG pq => ?_)
  · obtain ⟨F', n', e0, rs, sh⟩ := pq
    obtain ⟨v, hv, rfl⟩ := str_get hx
    have hi := lt_of_get hv
    have hm := List.mem_of_getElem? hv
    have yl : ys.length ≤ 300000 := by
      have := rs.length
      rw [List.length_map, List.length_take] at this
      omega
    refine ⟨_, rfl, fr, _, rfl, hf, _, rfl, v, rfl, Nat.le_trans (l2 v hm) hp, fun d hd u F2 H' n2 ru => ?_, fun hd H' hs => q2 (fun z => ?_) _ (n'.keep.trans ((same_upd hG _).trans hs))⟩
    · obtain ⟨n4, s4⟩ := n'.call hG n2
      refine cputB (ys := ys) (n2.keep _ _ upd_same) yl ⟨_, n4, same_del (Same.refl _) hG n2.keep _ _ e0, ?_, fun b hb => ?_⟩
      · rw [List.take_succ, hv, Option.toList_some, List.map_append]
        refine (rs.mono both_left).snoc ?_
        show Rep _ _ ((rd v).getD .none)
        rw [hd]
        exact ru.mono s4
      · rw [List.take_succ, hv, Option.toList_some] at hb
        rcases List.mem_append.mp hb with z | z
        · exact sh b z
        · rw [List.mem_singleton.mp z, hd]; exact fun z => nomatch z
    · rcases z with z | z
      · exact c' z
      · exact z v (by rw [hws]; exact hm) hd
  · obtain ⟨F', n', e0, rs, sh⟩ := pq
    rw [List.length_map, List.take_length] at rs sh
    refine q1 (.inr (by rw [hws]; exact sh)) _ _ _ (n'.done hG) ?_
    rw [e]
    exact .lst upd_same (rs.mono (same_upd (n'.bare hG) _))
def sp_lists_in (P : Program) (w : World) (K : PySem.W.Frag) (mg : Str → Option Value) (base : Heap) (aE : Addr) : Sp := fun vs H Q E => ∃ (x : V) (d : PyData) (f : Addr) (rd : PySem.Str → Option PyData), vs = [x, .ref f] ∧ Rep H x d ∧ FnAtE P w K mg base 2 f (sp_rd rd aE) ∧ Brief d ∧
  (∀ t, d = .str t → okL rd t → ∀ v F H', New H F H' → Rep F v (.list (lists rd t)) → Q v H') ∧ ((∀ t, d = .str t → ¬ okL rd t) → ∀ H', Same H H' → E (.ref aE) none H')
theorem def_lists_in (T : Txt mg) (U : Cls K mg) (D_split_text : DefE P w K mg base "split_text" 1 ["text", "between"] (sp_split U.a_NoText)) (D_things_in : DefE P w K mg base "things_in" 3 ["part", "read_word"] (sp_things_in P w K mg base U.a_NoText)) (h : Here K mg "lists_in" s_lists_in ["text", "read_word"]) : DefE P w K mg base "lists_in" 4 ["text", "read_word"] (sp_lists_in P w K mg base U.a_NoText) := h.mkE fun f fd F => by
  have nd := sc_lists_in.nd
  refine F.okE sc_lists_in (fun vs H Q E h => ?_) (fun cdv A outer s H vs Q E hr h => ?_)
  · obtain ⟨x, d, f, rd, rfl, _⟩ := h
    rfl
  obtain ⟨x, d, fr, rd, rfl, rx, hf, br, q1, q2⟩ := h
  refine ⟨_, pss_one (ps_ret (pe_compE (N' := ["part", "read_word"]) (cap := [none, some 1]) rfl ⟨rfl, rfl, rfl, rfl, rfl, rfl⟩ (pi_listK (K := K) (pe_callE D_split_text hr rfl (pa_cons (pv 0) (pa_cons (pe_globS rfl T.c_BETWEEN_PARTS) pa_nil)))) (fun _ _ _ _ _ _ hx => ⟨pg_name (i := 0) (show (["part", "read_word"] : List Str).Nodup by decide +kernel) rfl (Or.inl rfl) (Or.inr rfl), pifs_nil, pe_callP hx D_things_in hr rfl (pa_cons (pv 0) (pa_cons (pv 1) pa_nil))⟩) (keeps_name rfl))), ?_⟩
  refine ⟨_, rfl, x, d, "; ", rfl, rx, by decide +kernel, br, fun t ht l0 hl0 => ?_, fun no => q2 (fun t ht => absurd ht (no t)) _ (Same.refl _)⟩
  obtain ⟨l1, l2⟩ := split_len t "; "
  have hp := br t ht
  generalize hws : Txt.split t "; " = ws at l1 l2 ⊢
  refine ⟨l0, rfl, ⟨_, SqL.of upd_same⟩, fun D hD => ?_⟩
  have s0 := same_upd hl0 (HO.lst (ws.map V.str))
  refine comp_list (K := K) (xs := ws.map V.str) (fun i G ys => ∃ F', New H F' G ∧ G l0 = some (.lst (ws.map V.str)) ∧ Reps F' ys ((ws.take i).map fun p => .list (things rd p)) ∧ ∀ p ∈ ws.take i, okP rd p) hD ⟨_, (New.start H).more s0, upd_same, .nil, fun _ h => nomatch h⟩ (fun i G ys ⟨_, _, e, _⟩ => SqL.of e) (fun i x G ys hx hG pq => ?_) (fun G ys hG pq => ?_)
  · obtain ⟨F', n', e0, rs, sh⟩ := pq
    obtain ⟨v, hv, rfl⟩ := str_get hx
    have hi := lt_of_get hv
    have hm := List.mem_of_getElem? hv
    have yl : ys.length ≤ 300000 := by
      have := rs.length
      rw [List.length_map, List.length_take] at this
      omega
    refine ⟨_, rfl, _, rfl, fr, rd, v, rfl, hf, Nat.le_trans (l2 v hm) hp, fun hw u F2 H' n2 ru => ?_, fun hw H' hs => q2 (fun t' e z => hw ?_) _ (n'.keep.trans ((same_upd hG _).trans hs))⟩
    · obtain ⟨n4, s4⟩ := n'.call hG n2
      refine cputB (ys := ys) (n2.keep _ _ upd_same) yl ⟨_, n4, same_del (Same.refl _) hG n2.keep _ _ e0, ?_, fun b hb => ?_⟩
      · rw [List.take_succ, hv, Option.toList_some, List.map_append]
        exact (rs.mono both_left).snoc (ru.mono s4)
      · rw [List.take_succ, hv, Option.toList_some] at hb
        rcases List.mem_append.mp hb with z | z
        · exact sh b z
        · rw [List.mem_singleton.mp z]; exact hw
    · rw [ht] at e
      cases e
      exact z v (by rw [hws]; exact hm)
  · obtain ⟨F', n', e0, rs, sh⟩ := pq
    rw [List.length_map, List.take_length] at rs sh
    refine q1 t ht (by unfold okL; rw [hws]; exact sh) _ _ _ (n'.done hG) ?_
    unfold lists
    rw [hws]
    exact .lst upd_same (rs.mono (same_upd (n'.bare hG) _))
end
end Law

namespace Law
open PySem L2 Ways Ring PyProof.Rows
seal L2.PE L2.PA L2.PS L2.PSs L2.PG L2.PT
section
variable {P : Program} {w : World} {K : PySem.W.Frag} {mg : Str → Option Value} {base : Heap}
theorem New.next {H F H' F2 H2 : Hp} (n : New H F H') (m : New H' F2 H2) : New H F2 H2 := ⟨n.keep.trans m.keep, m.sub, fun b o e => n.keep.free (m.fresh b o e)⟩
/-- what a reader of texts promises -/
def Reads (o : Option PyData) (aE : Addr) (H : Hp) (Q : VK) (E : XK) : Prop := (∀ e, o = some e → ∀ v F H', New H F H' → Rep F v e → Q v H') ∧ (o = none → ∀ H', Same H H' → E (.ref aE) none H' ∧ E .none none H')
def sp_read_net (aE : Addr) : Sp := fun vs H Q E => ∃ x d, vs = [x] ∧ Rep H x d ∧ Brief d ∧ Reads (netOf d) aE H Q E
theorem netOf_no {d : PyData} (h : ∀ t, d = .str t → ¬ okL rdA t) : netOf d = none := by
  cases d with
  | str t => exact if_neg (by rw [netB_bad (h t rfl)]; exact Bool.false_ne_true)
  | _ => rfl
theorem pilesOf_no {net : Net} {d : PyData} (h : ∀ t, d = .str t → ¬ okL rdN t) : pilesOf net d = none := by
  cases d with
  | str t => exact if_neg (by rw [pilesD_bad (h t rfl)]; exact Bool.false_ne_true)
  | _ => rfl
theorem treeOf_no {net : Net} {d : PyData} (h : ∀ t, d ≠ .str t) : treeOf net d = none := by
  cases d with
  | str t => exact absurd rfl (h t)
  | _ => rfl
theorem def_read_net (T : Txt mg) (U : Cls K mg) (D_arrow_in : DefE P w K mg base "arrow_in" 2 ["word"] (sp_arrow_in U.a_NoText)) (D_lists_in : DefE P w K mg base "lists_in" 4 ["text", "read_word"] (sp_lists_in P w K mg base U.a_NoText)) (D_net_of : DefE P w K mg base "net_of" 5 ["things"] (sp_net_of U.a_NoNet)) (h : Here K mg "read_net" s_read_net ["text"]) : DefE P w K mg base "read_net" 6 ["text"] (sp_read_net U.a_NoText) := h.mkE fun f fd F => by
  have nd := sc_read_net.nd
  obtain ⟨fn, g_arrow_in, at_n⟩ := D_arrow_in.at
  refine F.okE sc_read_net (fun vs H Q E h => ?_) (fun cdv A outer s H vs Q E hr h => ?_)
  · obtain ⟨x, d, rfl, _⟩ := h
    rfl
  obtain ⟨x, d, rfl, rx, br, q1, q2⟩ := h
  refine ⟨_, pss_cons (ps_set (i := 1) nd rfl (Or.inl rfl) (pe_callE D_lists_in hr rfl (pa_cons (pv 0) (pa_cons (pe_glob rfl g_arrow_in (v := .ref _) rfl) pa_nil))))
    (pss_one (ps_tryR U.e_NoNet.b rfl U.e_NoText rfl (fun _ hx => ps_ret (pe_callP hx D_net_of hr rfl (pa_cons (pv 1) pa_nil))))), ?_⟩
  refine ⟨_, rfl, x, d, fn, rdA, rfl, rx, at_n.imp rd_arrow, br, fun t ht ok r F H' n' rF => ?_, fun no H' s' => (q2 (netOf_no no) H' s').1⟩
  obtain ⟨d1, d2⟩ := lists_len rdA t
  have hl := br t ht
  have dn : netOf d = if netB (.list (lists rdA t)) = true then some (.list (lists rdA t)) else none := by rw [ht]; rfl
  refine ⟨_, rfl, r, _, rfl, rF.mono n'.sub, by omega, fun ds e y hy => Nat.le_trans (d2 ds e y hy) (by omega), fun hb r2 F2 H2 n2 rF2 => q1 _ (by rw [dn]; exact if_pos hb) r2 F2 H2 (n'.next n2) rF2, fun z H2 s2 => ?_⟩
  have w2 := q2 (by rw [dn, z]; exact if_neg Bool.false_ne_true) H2 (n'.keep.trans s2)
  exact ⟨_, rfl, U.u_NoNet_NoNet, w2.1, w2.2⟩
def sp_read_piles (aE : Addr) : Sp := fun vs H Q E => ∃ v net x d, vs = [v, x] ∧ Rep H v (netD net) ∧ NetOk net ∧ Rep H x d ∧ Brief d ∧ Reads (pilesOf net d) aE H Q E
theorem def_read_piles (T : Txt mg) (U : Cls K mg) (D_number_in : DefE P w K mg base "number_in" 1 ["word"] (sp_number_in U.a_NoText)) (D_lists_in : DefE P w K mg base "lists_in" 4 ["text", "read_word"] (sp_lists_in P w K mg base U.a_NoText)) (D_piles_of : DefE P w K mg base "piles_of" 4 ["net", "things"] (sp_piles_of U.a_NoPiles)) (h : Here K mg "read_piles" s_read_piles ["net", "text"]) : DefE P w K mg base "read_piles" 5 ["net", "text"] (sp_read_piles U.a_NoText) := h.mkE fun f fd F => by
  have nd := sc_read_piles.nd
  obtain ⟨fn, g_number_in, at_n⟩ := D_number_in.at
  refine F.okE sc_read_piles (fun vs H Q E h => ?_) (fun cdv A outer s H vs Q E hr h => ?_)
  · obtain ⟨v, net, x, d, rfl, _⟩ := h
    rfl
  obtain ⟨v, net, x, d, rfl, rv, nok, rx, br, q1, q2⟩ := h
  refine ⟨_, pss_cons (ps_set (i := 2) nd rfl (Or.inl rfl) (pe_callE D_lists_in hr rfl (pa_cons (pv 1) (pa_cons (pe_glob rfl g_number_in (v := .ref _) rfl) pa_nil))))
    (pss_one (ps_tryR U.e_NoPiles.b rfl U.e_NoText rfl (fun _ hx => ps_ret (pe_callP hx D_piles_of hr rfl (pa_cons (pv 0) (pa_cons (pv 2) pa_nil)))))), ?_⟩
  refine ⟨_, rfl, x, d, fn, rdN, rfl, rx, (at_n.mono (by decide)).imp rd_number, br, fun t ht ok r F H' n' rF => ?_, fun no H' s' => (q2 (pilesOf_no no) H' s').1⟩
  obtain ⟨d1, d2⟩ := lists_len rdN t
  have hl := br t ht
  have dn : pilesOf net d = if pilesD net (.list (lists rdN t)) = true then some (.list (lists rdN t)) else none := by rw [ht]; rfl
  refine ⟨_, rfl, _, rfl, v, r, net, _, rfl, rv.mono n'.keep, nok, rF.mono n'.sub, by omega, fun ds e y hy => Nat.le_trans (d2 ds e y hy) (by omega), fun hb r2 F2 H2 n2 rF2 => q1 _ (by rw [dn]; exact if_pos hb) r2 F2 H2 (n'.next n2) rF2, fun z H2 s2 => ?_⟩
  have w2 := q2 (by rw [dn, z]; exact if_neg Bool.false_ne_true) H2 (n'.keep.trans s2)
  exact ⟨_, rfl, U.u_NoPiles_NoPiles, w2.1, w2.2⟩
def sp_read_tree (aE : Addr) : Sp := fun vs H Q E => ∃ v net x d, vs = [v, x] ∧ Rep H v (netD net) ∧ NetOk net ∧ Rep H x d ∧ Brief d ∧ Reads (treeOf net d) aE H Q E
theorem def_read_tree (T : Txt mg) (U : Cls K mg) (D_split_text : DefE P w K mg base "split_text" 1 ["text", "between"] (sp_split U.a_NoText)) (D_end_in : DefE P w K mg base "end_in" 2 ["word"] (sp_end_in U.a_NoText)) (D_check_tree : DefE P w K mg base "check_tree" 5 ["net", "things"] (sp_check U.a_NoTree)) (h : Here K mg "read_tree" s_read_tree ["net", "text"]) : DefE P w K mg base "read_tree" 6 ["net", "text"] (sp_read_tree U.a_NoText) := h.mkE fun f fd F => by
  have nd := sc_read_tree.nd
  refine F.okE sc_read_tree (fun vs H Q E h => ?_) (fun cdv A outer s H vs Q E hr h => ?_)
  · obtain ⟨v, net, x, d, rfl, _⟩ := h
    rfl
  obtain ⟨v, net, x, d, rfl, rv, nok, rx, br, q1, q2⟩ := h
  refine ⟨_, pss_cons (ps_setCE (i := 2) nd rfl rfl (N' := ["word"]) (cap := [none]) rfl ⟨rfl, rfl, rfl, rfl, rfl, rfl⟩ (pi_listK (K := K) (pe_callE D_split_text hr rfl (pa_cons (pv 1) (pa_cons (pe_globS rfl T.c_BETWEEN_WORDS) pa_nil)))) (fun _ _ _ _ _ _ hx => ⟨pg_name (i := 0) (show (["word"] : List Str).Nodup by decide +kernel) rfl (Or.inl rfl) (Or.inr rfl), pifs_nil, pe_callP hx D_end_in hr rfl (pa_cons (pv 0) pa_nil)⟩) (keeps_name rfl))
    (pss_cons (ps_tryR U.e_NoTree.b rfl U.e_NoText rfl (fun _ hx => ps_expr (pe_callP hx D_check_tree hr rfl (pa_cons (pv 0) (pa_cons (pv 2) pa_nil)))))
    (pss_one (ps_ret (pv 2)))), ?_⟩
  refine ⟨_, rfl, x, d, " ", rfl, rx, by decide +kernel, br, fun t ht l0 hl0 => ?_, fun no => (q2 (treeOf_no no) _ (Same.refl _)).1⟩
  obtain ⟨l1, l2⟩ := split_len t " "
  have hp := br t ht
  have dn : treeOf net d = if goodD net (.list (ends t)) = true then some (.list (ends t)) else none := by rw [ht]; rfl
  have en : ends t = (Txt.split t " ").map fun w => (rdE w).getD (.str "") := rfl
  have bad : ∀ w ∈ Txt.split t " ", rdE w = none → treeOf net d = none := fun w hw z => by rw [dn, goodD_bad hw z]; exact if_neg Bool.false_ne_true
  generalize Txt.split t " " = ws at l1 l2 en bad ⊢
  refine ⟨l0, rfl, ⟨_, SqL.of upd_same⟩, fun D hD => ?_⟩
  have s0 := same_upd hl0 (HO.lst (ws.map V.str))
  refine comp_list (K := K) (xs := ws.map V.str) (fun i G ys => Same H G ∧ G l0 = some (.lst (ws.map V.str)) ∧ ∀ G', Reps G' ys ((ws.take i).map fun w => (rdE w).getD (.str ""))) hD ⟨s0, upd_same, fun _ => .nil⟩ (fun i G ys ⟨_, e, _⟩ => SqL.of e) (fun i x G ys hx hG pq => ?_) (fun G ys hG pq => ?_)
  · obtain ⟨s1, e0, rs⟩ := pq
    obtain ⟨u, hu, rfl⟩ := str_get hx
    have hi := lt_of_get hu
    have hm := List.mem_of_getElem? hu
    have yl : ys.length ≤ 300000 := by
      have := (rs H).length
      rw [List.length_map, List.length_take] at this
      omega
    refine ⟨_, rfl, u, rfl, Nat.le_trans (l2 u hm) hp, fun d hd y H' s' ry => ?_, fun hd H' s' => (q2 (bad u hm hd) _ (s1.trans ((same_upd hG _).trans s'))).1⟩
    refine cputB (ys := ys) (s' _ _ upd_same) yl ⟨same_del s1 hG s', same_del (Same.refl _) hG s' _ _ e0, fun G' => ?_⟩
    rw [List.take_succ, hu, Option.toList_some, List.map_append]
    refine (rs G').snoc ?_
    show Rep _ _ ((rdE u).getD (.str ""))
    rw [hd]
    exact ry G'
  · obtain ⟨s1, e0, rs⟩ := pq
    rw [List.length_map, List.take_length, ← en] at rs
    have n1 : New H (upd (fun _ => none) D (.lst ys)) (upd G D (.lst ys)) := ((New.start H).more s1).done hG
    have r1 : Rep (upd (fun _ => none) D (.lst ys)) (.ref D) (.list (ends t)) := .lst upd_same (rs _)
    refine ⟨_, rfl, _, rfl, v, .ref D, net, .list (ends t), rfl, rv.mono n1.keep, r1.mono n1.sub, nok, fun g H2 s2 => ⟨_, rfl, q1 _ (by rw [dn]; exact if_pos g) _ _ _ (n1.more s2) r1⟩, fun z H2 s2 => ?_⟩
    have w2 := q2 (by rw [dn, z]; exact if_neg Bool.false_ne_true) H2 (n1.keep.trans s2)
    exact ⟨_, rfl, U.u_NoTree_NoTree, w2.1, w2.2⟩
end
end Law

namespace Law
open PySem L2 Ways Ring PyProof.Rows
section
variable {P : Program} {w : World} {K : PySem.W.Frag} {mg : Str → Option Value} {base : Heap}
/-! ### the law's numbers -/
def sp_nextB : Sp := fun vs H Q _ => ∃ n : Int, vs = [.int n] ∧ ∀ m : Int, 0 ≤ m → m < 2 ^ 64 → Q (.int m) H
theorem def__law_next (T : Txt mg) (h : Here K mg "_law_next" s__law_next ["_law_number_here"]) : Def P w K mg base "_law_next" 1 ["_law_number_here"] sp_nextB := h.mk fun f fd F => by
  have nd := sc__law_next.nd
  refine F.ok sc__law_next (fun vs H Q E h => ?_) (fun cdv A outer s H vs Q E hr h => ?_)
  · obtain ⟨n, rfl, _⟩ := h
    rfl
  obtain ⟨n, rfl, q⟩ := h
  refine ⟨_, pss_cons (ps_set (i := 0) nd rfl (Or.inl rfl) (pe_op op_xor (pv 0) (pe_op op_fdivB (pv 0) (pe_op op_pow pe_int pe_int))))
    (pss_one (ps_ret (pe_op op_mod (pe_op op_mul (pv 0) pe_int) (pe_op op_pow pe_int pe_int)))), ?_⟩
  refine ⟨_, rfl, _, rfl, _, _, rfl, rfl, ⟨by decide, by decide, by decide⟩, _, _, rfl, rfl, pow2_ok _ (by decide) _, _, _, rfl, rfl, ?_⟩
  refine ⟨_, rfl, _, _, rfl, rfl, .inr ⟨by decide, by decide⟩, _, _, rfl, rfl, ⟨by decide, by decide, by decide⟩, _, _, rfl, rfl, (pow2_ok _ (by decide) 0).1, ?_⟩
  exact q _ (Int.emod_nonneg _ (by decide)) (Int.emod_lt_of_pos _ (by decide))
def sp_fold (K : PySem.W.Frag) : Sp := fun vs H Q _ => ∃ (a : Addr) (ns : List Int) (n : Int), vs = [.ref a, .int n] ∧ SqL K H a (ns.map V.int) ∧ ∀ m : Int, 0 ≤ m → m < 2 ^ 64 → Q (.int m) H
theorem def__law_fold (T : Txt mg) (D__law_next : Def P w K mg base "_law_next" 1 ["_law_number_here"] sp_nextB) (h : Here K mg "_law_fold" s__law_fold ["_law_script", "_law_number_here"]) : Def P w K mg base "_law_fold" 2 ["_law_script", "_law_number_here"] (sp_fold K) := h.mk fun f fd F => by
  have nd := sc__law_fold.nd
  refine F.ok sc__law_fold (fun vs H Q E h => ?_) (fun cdv A outer s H vs Q E hr h => ?_)
  · obtain ⟨a, ns, n, rfl, _⟩ := h
    rfl
  obtain ⟨a, ns, n, rfl, hS, q⟩ := h
  refine ⟨_, pss_cons (ps_for PassesOwn.never rfl (pi_listK (K := K) (pv 0)) (pg_name (i := 2) nd rfl (Or.inl rfl))
      (pss_one (ps_set (i := 1) nd rfl (Or.inl rfl) (pe_op op_xor (pe_callD D__law_next hr rfl (pa_cons (pe_op op_xor (pv 1) (pe_op op_mod (pv 2) (pe_op op_pow pe_int pe_int))) pa_nil)) pe_int))))
    (pss_one (ps_ret (pe_callD D__law_next hr rfl (pa_cons (pv 1) pa_nil)))), ?_⟩
  refine ⟨_, rfl, a, rfl, ⟨_, hS⟩, for_list (xs := ns.map V.int) (fun i σ' H' => ∃ (n : Int) (c : Option V), σ' = [some (.ref a), some (.int n), c] ∧ H' = H) ⟨n, none, rfl, rfl⟩ (fun i σ' H' _ ⟨_, _, _, e⟩ => e ▸ hS) ?_ ?_⟩
  · rintro i x σ' H' hx ⟨n, c, rfl, rfl⟩
    obtain ⟨z, rfl⟩ : ∃ z : Int, x = V.int z := by
      rw [List.getElem?_map] at hx
      cases e : ns[i]? with
      | none => rw [e] at hx; cases hx
      | some z => rw [e] at hx; exact ⟨z, (Option.some.inj hx).symm⟩
    refine ⟨_, rfl, _, rfl, _, _, rfl, rfl, ⟨by decide, by decide, by decide⟩, _, _, rfl, rfl, (pow2_ok _ (by decide) 0).1, _, _, rfl, rfl, ?_⟩
    exact ⟨_, rfl, fun m _ _ => ⟨_, _, rfl, rfl, _, _, rfl, rfl⟩⟩
  · rintro σ' H' ⟨n, c, rfl, rfl⟩
    exact ⟨_, rfl, n, rfl, q⟩
/-! ### weights -/
def sp_weight : Sp := fun vs H Q _ => ∃ n kind : Int, vs = [.int n, .int kind] ∧ 0 ≤ n ∧ n < 2 ^ 64 ∧ 0 ≤ kind ∧ kind < 4 ∧ ∀ (m : Int) H', 1 ≤ m → m ≤ 10 ^ 30 → Same H H' → Q (.int m) H'
theorem div64 (i : Int) : CDivB i 64 := ⟨by decide, by decide +kernel⟩
theorem def__law_weight (T : Txt mg) (h : Here K mg "_law_weight" s__law_weight ["_law_number_here", "_law_kind"]) : Def P w K mg base "_law_weight" 1 ["_law_number_here", "_law_kind"] sp_weight := h.mk fun f fd F => by
  have nd := sc__law_weight.nd
  refine F.ok sc__law_weight (fun vs H Q E h => ?_) (fun cdv A outer s H vs Q E hr h => ?_)
  · obtain ⟨n, kind, rfl, _⟩ := h
    rfl
  obtain ⟨n, kind, rfl, hn0, hn1, hk0, hk1, q⟩ := h
  refine ⟨_, pss_one (ps_ret (pe_ix (ix_lt (K := K)) (pe_lst (pa_cons pe_int (pa_cons (pe_op op_add pe_int (pe_modA (pe_op op_fdivB (pv 0) pe_int) pe_int)) (pa_cons (pe_op op_add pe_int (pe_modA (pe_op op_fdivB (pv 0) pe_int) (pe_op op_pow pe_int pe_int))) (pa_cons (pe_op op_add pe_int (pe_modA (pe_op op_mul (pv 0) (pv 0)) (pe_op op_sub (pe_op op_pow pe_int pe_int) pe_int))) pa_nil))))) (pv 1) (fun _ _ => rfl))), ?_⟩
  refine ⟨_, rfl, _, _, rfl, rfl, div64 _, _, rfl, _, rfl, by decide, fun r1 r10 r11 => ⟨_, _, rfl, rfl, ?_⟩⟩
  refine ⟨_, rfl, _, _, rfl, rfl, div64 _, _, rfl, _, _, rfl, rfl, ⟨by decide, by decide, by decide⟩, _, rfl, by decide, fun r2 r20 r21 => ⟨_, _, rfl, rfl, ?_⟩⟩
  refine ⟨_, rfl, _, rfl, _, _, rfl, rfl, .inl ⟨by omega, by omega⟩, _, rfl, _, _, rfl, rfl, ⟨by decide, by decide, by decide⟩, ?_⟩
  have fin : ∀ (r3 : Int), 0 ≤ r3 → r3 < 10 ^ 30 → ∀ l H', Same H H' → H' l = some (.lst [.int 1, .int (1 + r1), .int (1 + r2), .int (1 + r3)]) → ∃ v, atI [V.int 1, .int (1 + r1), .int (1 + r2), .int (1 + r3)] kind = some v ∧ Q v H' := fun r3 r30 r31 l H' hs _ => by
    have b1 : r1 < 9 := r11
    have b2 : r2 < 1000000000 := r21
    have : kind = 0 ∨ kind = 1 ∨ kind = 2 ∨ kind = 3 := by omega
    rcases this with rfl | rfl | rfl | rfl
    · exact ⟨_, rfl, q _ _ (by omega) (by decide) hs⟩
    · exact ⟨_, rfl, q _ _ (by omega) (by omega) hs⟩
    · exact ⟨_, rfl, q _ _ (by omega) (by omega) hs⟩
    · exact ⟨_, rfl, q _ _ (by omega) (by omega) hs⟩
  first
    | refine ⟨_, _, rfl, rfl, .inl ⟨by decide, by decide⟩, _, rfl, by decide, fun r3 r30 r31 => ⟨_, _, rfl, rfl, (by show 4 ≤ sizeLine; decide), fun l hl => ⟨_, rfl, ?_⟩⟩⟩
      obtain ⟨v, hv, qv⟩ := fin r3 r30 (Int.lt_trans r31 (by decide)) l _ (same_upd hl _) upd_same
      exact .inl ⟨l, _, kind, _, rfl, rfl, SqL.of upd_same, hv, qv⟩
    | refine ⟨_, _, rfl, rfl, _, rfl, by decide, fun r3 r30 r31 => ⟨_, _, rfl, rfl, (by show 4 ≤ sizeLine; decide), fun l hl => ⟨_, rfl, ?_⟩⟩⟩
      obtain ⟨v, hv, qv⟩ := fin r3 r30 (Int.lt_trans r31 (by decide)) l _ (same_upd hl _) upd_same
      exact .inl ⟨l, _, kind, _, rfl, rfl, SqL.of upd_same, hv, qv⟩
/-! ### nets -/
structure RowC (many : Int) (r : List (Int × Int)) : Prop where
  rise : r.Pairwise fun a b => a.1 < b.1
  within : ∀ a ∈ r, 0 ≤ a.1 ∧ a.1 < many ∧ 1 ≤ a.2 ∧ a.2 ≤ 10 ^ 30
  few : (r.length : Int) ≤ many
structure NetC (net : Net) : Prop where
  pos : 1 ≤ net.length
  len : net.length ≤ 8
  rows : ∀ r ∈ net, RowC net.length r
theorem RowC.nil {many : Int} (h : 0 ≤ many) : RowC many [] := ⟨.nil, (fun a ha => nomatch ha), h⟩
theorem RowC.snoc {many to wt : Int} {r : List (Int × Int)} (h : RowC many r) (hl : ∀ a ∈ r, a.1 < to) (h0 : 0 ≤ to) (h1 : to < many) (h2 : (r.length : Int) ≤ to) (w0 : 1 ≤ wt) (w1 : wt ≤ 10 ^ 30) : RowC many (r ++ [(to, wt)]) where
  rise := by
    rw [List.pairwise_append]
    exact ⟨h.rise, by simp, fun a ha b hb => by simp at hb; rw [hb]; exact hl a ha⟩
  within := fun a ha => by
    rcases List.mem_append.mp ha with q | q
    · exact h.within a q
    · simp at q; rw [q]; exact ⟨h0, h1, w0, w1⟩
  few := by rw [List.length_append, List.length_singleton]; omega
/-- what a net of the law's making is being built as: views of the heap without the two lists that still grow -/
structure Bld (H F H' : Hp) (pN : Addr) (rowsV : List V) (net : Net) : Prop where
  keep : Same H H'
  at' : H' pN = some (.lst rowsV)
  sub : Same F H'
  no : F pN = none
  fresh : ∀ b o, F b = some o → H b = none
  reps : Reps F rowsV (net.map rowD)
theorem Bld.len {H F H' : Hp} {pN : Addr} {rowsV : List V} {net : Net} (B : Bld H F H' pN rowsV net) : rowsV.length = net.length := by rw [B.reps.length, List.length_map]
theorem Bld.more {H F H' H'' : Hp} {pN : Addr} {rowsV : List V} {net : Net} (B : Bld H F H' pN rowsV net) (s : Same H' H'') : Bld H F H'' pN rowsV net where
  keep := B.keep.trans s
  at' := s _ _ B.at'
  sub := B.sub.trans s
  no := B.no
  fresh := B.fresh
  reps := B.reps
theorem Bld.seen {H F H' : Hp} {pN p : Addr} {rowsV : List V} {net : Net} {o : HO} (B : Bld H F H' pN rowsV net) (hp : H' p = some o) (hn : F p = none) (hpN : p ≠ pN) (hf : H p = none) : Bld H (upd F p o) H' pN rowsV net where
  keep := B.keep
  at' := B.at'
  sub := fun b u e => by
    by_cases hb : b = p
    · subst hb; rw [upd_same] at e; cases e; exact hp
    · rw [upd_ne hb] at e; exact B.sub b u e
  no := by rw [upd_ne (Ne.symm hpN)]; exact B.no
  fresh := fun b u e => by
    by_cases hb : b = p
    · subst hb; exact hf
    · rw [upd_ne hb] at e; exact B.fresh b u e
  reps := B.reps.mono (same_upd hn o)
theorem Bld.wrote {H F H' : Hp} {pN p : Addr} {rowsV : List V} {net : Net} (B : Bld H F H' pN rowsV net) (hn : F p = none) (hpN : p ≠ pN) (hf : H p = none) (o : HO) : Bld H F (upd H' p o) pN rowsV net where
  keep := fun b u e => by rw [upd_ne (ne_of_none e hf)]; exact B.keep b u e
  at' := by rw [upd_ne (Ne.symm hpN)]; exact B.at'
  sub := fun b u e => by rw [upd_ne (ne_of_none e hn)]; exact B.sub b u e
  no := B.no
  fresh := B.fresh
  reps := B.reps
theorem Bld.push {H F H' : Hp} {pN : Addr} {rowsV : List V} {net : Net} {v : V} {r : List (Int × Int)} (B : Bld H F H' pN rowsV net) (hf : H pN = none) (rv : Rep F v (rowD r)) : Bld H F (upd H' pN (.lst (rowsV ++ [v]))) pN (rowsV ++ [v]) (net ++ [r]) where
  keep := fun b u e => by rw [upd_ne (ne_of_none e hf)]; exact B.keep b u e
  at' := upd_same
  sub := fun b u e => by rw [upd_ne (ne_of_none e B.no)]; exact B.sub b u e
  no := B.no
  fresh := B.fresh
  reps := by rw [List.map_append]; exact B.reps.snoc rv
/-- a row that is being built beside it -/
structure BRow (H F H' : Hp) (pN pR : Addr) (rowsV arrsV : List V) (net : Net) (row : List (Int × Int)) (many : Int) (j : Nat) : Prop where
  b : Bld H F H' pN rowsV net
  at' : H' pR = some (.lst arrsV)
  no : F pR = none
  hf : H pR = none
  ne : pR ≠ pN
  reps : Reps F arrsV (row.map arrD)
  ok : RowC many row
  lt : ∀ a ∈ row, a.1 < j
  few : row.length ≤ j
theorem BRow.more {H F H' H'' : Hp} {pN pR : Addr} {rowsV arrsV : List V} {net : Net} {row : List (Int × Int)} {many : Int} {j : Nat} (B : BRow H F H' pN pR rowsV arrsV net row many j) (s : Same H' H'') : BRow H F H'' pN pR rowsV arrsV net row many j :=
  ⟨B.b.more s, s _ _ B.at', B.no, B.hf, B.ne, B.reps, B.ok, B.lt, B.few⟩
theorem BRow.skip {H F H' : Hp} {pN pR : Addr} {rowsV arrsV : List V} {net : Net} {row : List (Int × Int)} {many : Int} {j : Nat} (B : BRow H F H' pN pR rowsV arrsV net row many j) : BRow H F H' pN pR rowsV arrsV net row many (j + 1) :=
  ⟨B.b, B.at', B.no, B.hf, B.ne, B.reps, B.ok, fun a ha => by have := B.lt a ha; omega, by have := B.few; omega⟩
/-- an arrow is put to it -/
theorem BRow.put {H F H' : Hp} {pN pR t : Addr} {rowsV arrsV : List V} {net : Net} {row : List (Int × Int)} {many wt : Int} {j : Nat} (B : BRow H F H' pN pR rowsV arrsV net row many j) (ht : H' t = none) (hj : (j : Int) < many) (w0 : 1 ≤ wt) (w1 : wt ≤ 10 ^ 30) :
    ∃ F2, BRow H F2 (upd (upd H' t (.tup [.int (0 + (j : Int)), .int wt])) pR (.lst (arrsV ++ [.ref t]))) pN pR rowsV (arrsV ++ [.ref t]) net (row ++ [(0 + (j : Int), wt)]) many (j + 1) := by
  have htR : pR ≠ t := ne_of_none B.at' ht
  have htN : t ≠ pN := fun z => by rw [z, B.b.at'] at ht; cases ht
  have htF : F t = none := B.b.sub.free ht
  refine ⟨upd F t (.tup [.int (0 + (j : Int)), .int wt]), ?_⟩
  have nR : (upd F t (.tup [.int (0 + (j : Int)), .int wt])) pR = none := by rw [upd_ne htR]; exact B.no
  refine ⟨((B.b.more (same_upd ht _)).seen upd_same htF htN (B.b.keep.free ht)).wrote nR B.ne B.hf _, upd_same, nR, B.hf, B.ne, ?_, B.ok.snoc (fun a ha => by have := B.lt a ha; omega) (by omega) (by omega) (by have := B.few; omega) w0 w1, fun a ha => ?_, by rw [List.length_append, List.length_singleton]; have := B.few; omega⟩
  · rw [List.map_append]
    exact (B.reps.mono (same_upd htF _)).snoc (.tup upd_same (.cons (.int _) (.cons (.int _) .nil)))
  · rcases List.mem_append.mp ha with z | z
    · have := B.lt a z; omega
    · simp at z; rw [z]; simp; omega
theorem BRow.len {H F H' : Hp} {pN pR : Addr} {rowsV arrsV : List V} {net : Net} {row : List (Int × Int)} {many : Int} {j : Nat} (B : BRow H F H' pN pR rowsV arrsV net row many j) : arrsV.length ≤ j := by
  have := B.reps.length
  rw [List.length_map] at this
  have := B.few
  omega
/-- the row is put to the net -/
theorem BRow.done {H F H' : Hp} {pN pR : Addr} {rowsV arrsV : List V} {net : Net} {row : List (Int × Int)} {many : Int} {j : Nat} (B : BRow H F H' pN pR rowsV arrsV net row many j) (hN : H pN = none) : ∃ F2, Bld H F2 (upd H' pN (.lst (rowsV ++ [.ref pR]))) pN (rowsV ++ [.ref pR]) (net ++ [row]) :=
  ⟨_, (B.b.seen B.at' B.no B.ne B.hf).push hN (.lst upd_same (B.reps.mono (same_upd B.no _)))⟩
def sp_netC : Sp := fun vs H Q _ => ∃ (n most : Int) (b : Bool), vs = [.int n, .int most, .bl b] ∧ 1 ≤ most ∧ most ≤ 8 ∧ ∀ net F H' r, NetC net → (net.length : Int) ≤ most → New H F H' → Rep F r (netD net) → Q r H'
theorem def__law_net (T : Txt mg) (D__law_next : Def P w K mg base "_law_next" 1 ["_law_number_here"] sp_nextB) (D__law_weight : Def P w K mg base "_law_weight" 1 ["_law_number_here", "_law_kind"] sp_weight) (h : Here K mg "_law_net" s__law_net ["_law_number_here", "_law_most", "_law_rooted"]) : Def P w K mg base "_law_net" 2 ["_law_number_here", "_law_most", "_law_rooted"] sp_netC := h.mk fun f fd F => by
  have nd := sc__law_net.nd
  refine F.ok sc__law_net (fun vs H Q E h => ?_) (fun cdv A outer s H vs Q E hr h => ?_)
  · obtain ⟨n, most, b, rfl, _⟩ := h
    rfl
  obtain ⟨n, most, rb, rfl, hm0, hm1, q⟩ := h
  refine ⟨_, pss_cons (ps_set (i := 3) nd rfl (Or.inl rfl) (pe_op op_add pe_int (pe_draw (pv 0) (pv 1))))
    (pss_cons (ps_set (i := 4) nd rfl (Or.inl rfl) (pe_draw (pv 0) (pv 3)))
    (pss_cons (ps_set (i := 5) nd rfl (Or.inl rfl) (pe_draw (pv 0) pe_int))
    (pss_cons (ps_set (i := 6) nd rfl (Or.inl rfl) (pe_draw (pv 0) pe_int))
    (pss_cons (ps_set (i := 7) nd rfl (Or.inl rfl) (pe_lst pa_nil))
    (pss_cons (ps_for PassesOwn.never rfl (pi_range1 rfl T.z_range (pa_cons (pv 3) pa_nil)) (pg_name (i := 8) nd rfl (Or.inl rfl))
      (pss_cons (ps_set (i := 9) nd rfl (Or.inl rfl) (pe_lst pa_nil))
      (pss_cons (ps_for PassesOwn.never rfl (pi_range1 rfl T.z_range (pa_cons (pv 3) pa_nil)) (pg_name (i := 10) nd rfl (Or.inl rfl))
        (pss_cons (ps_set (i := 0) nd rfl (Or.inl rfl) (pe_callD D__law_next hr rfl (pa_cons (pv 0) pa_nil)))
        (pss_one (ps_if (PW.pt (pw_or (pt_cmpR op_gt (pe_draw (pv 0) pe_int) (pe_op op_add (pv 6) pe_int) (nomark _)) (pw_or1 (PW.pt (pw_and (pt_cmpR op_lt (pv 6) pe_int (nomark _)) (pw_and1 (pt_cmpR op_eq (pv 10) (pe_modA (pe_op op_add (pv 8) pe_int) (pv 3)) (nomark _))))))))
          (pss_one (ps_expr (pe_bm PySem.F.plainAttrs_list PySem.F.slot_list_append PySem.F.type_list_append mt_append (pv 9) (pa_cons (pe_tup (pa_cons (pv 10) (pa_cons (pe_callD D__law_weight hr rfl (pa_cons (pv 0) (pa_cons (pv 5) pa_nil))) pa_nil))) pa_nil))))
          (pss_nil)))))
      (pss_cons (ps_if (PW.pt (pw_and (pt_truthK (K := K) (pv 2) (fun _ => rfl)) (pw_and1 (PW.pt (pw_or (pt_cmpR (op_eqD hr) (pv 8) (pv 4) (nomark _)) (pw_or1 (pt_cmpR op_eq (pe_draw (pv 0) pe_int) pe_int (nomark _))))))))
        (pss_one (ps_set (i := 9) nd rfl (Or.inl rfl) (pe_lst pa_nil)))
        (pss_nil))
      (pss_one (ps_expr (pe_bm PySem.F.plainAttrs_list PySem.F.slot_list_append PySem.F.type_list_append mt_append (pv 7) (pa_cons (pv 9) pa_nil))))))))
    (pss_one (ps_ret (pv 7)))))))), ?_⟩
  refine ⟨_, rfl, _, rfl, _, rfl, _, rfl, hm0, fun r hr0 hr1 => ⟨_, _, rfl, rfl, ?_⟩⟩
  refine ⟨_, rfl, _, rfl, _, rfl, _, rfl, by omega, fun root _ _ => ?_⟩
  refine ⟨_, rfl, _, rfl, _, rfl, by decide, fun kind hk0 hk1 => ?_⟩
  refine ⟨_, rfl, _, rfl, _, rfl, by decide, fun thin _ _ => ?_⟩
  refine ⟨(by show 0 ≤ sizeLine; exact Nat.zero_le _), fun pN hN => ?_⟩
  refine ⟨_, rfl, 1 + r, rfl, by omega, by omega, for_range (lo := 0) (n := (1 + r).toNat) (fun i σ' H' => ∃ (net : Net) (F : Hp) (rowsV : List V) (n : Int) (c8 c9 c10 : Option V),
    σ' = [some (.int n), some (.int most), some (.bl rb), some (.int (1 + r)), some (.int root), some (.int kind), some (.int thin), some (.ref pN), c8, c9, c10] ∧ Bld H F H' pN rowsV net ∧ net.length = i ∧ ∀ x ∈ net, RowC (1 + r) x) ?_ ?_ ?_⟩
  · refine ⟨[], fun _ => none, [], n, none, none, none, rfl, ⟨same_upd hN _, upd_same, (fun _ _ e => nomatch e), rfl, (fun _ _ e => nomatch e), .nil⟩, rfl, (fun _ hx => nomatch hx)⟩
  · rintro i σ' H' hi ⟨net, F, rowsV, n, c8, c9, c10, rfl, B, hlen, hrows⟩
    refine ⟨(by show 0 ≤ sizeLine; exact Nat.zero_le _), fun pR hR => ?_⟩
    have hR0 : H pR = none := B.keep.free hR
    have hRF : F pR = none := B.sub.free hR
    have hRN : pR ≠ pN := fun z => by rw [z, B.at'] at hR; cases hR
    refine ⟨_, rfl, 1 + r, rfl, by omega, by omega, for_range (lo := 0) (n := (1 + r).toNat) (fun j σ' H' => ∃ (row : List (Int × Int)) (F : Hp) (arrsV : List V) (n : Int) (c10 : Option V),
      σ' = [some (.int n), some (.int most), some (.bl rb), some (.int (1 + r)), some (.int root), some (.int kind), some (.int thin), some (.ref pN), some (.int (0 + (i : Int))), some (.ref pR), c10] ∧ BRow H F H' pN pR rowsV arrsV net row (1 + r) j) ?_ ?_ ?_⟩
    · exact ⟨[], F, [], n, c10, rfl, ⟨B.more (same_upd hR _), upd_same, hRF, hR0, hRN, .nil, .nil (by omega), (fun _ hx => nomatch hx), Nat.le_refl _⟩⟩
    · rintro j σ' H' hj ⟨row, F, arrsV, n, c10, rfl, B⟩
      refine ⟨_, rfl, n, rfl, fun n2 n20 n21 => ?_⟩
      refine ⟨_, rfl, _, rfl, _, rfl, by decide, fun u _ _ => ⟨_, rfl, _, _, rfl, rfl, _, _, rfl, rfl, _, rfl, ?_⟩⟩
      have put : ∀ (wt : Int) (H2 : Hp) (t : Addr), 1 ≤ wt → wt ≤ 10 ^ 30 → Same H' H2 → H2 t = none → ∃ (row : List (Int × Int)) (F : Hp) (arrsV' : List V) (n : Int) (c10 : Option V),
          [some (.int n2), some (.int most), some (.bl rb), some (.int (1 + r)), some (.int root), some (.int kind), some (.int thin), some (.ref pN), some (.int (0 + (i : Int))), some (.ref pR), some (V.int (0 + (j : Int)))] = [some (.int n), some (.int most), some (.bl rb), some (.int (1 + r)), some (.int root), some (.int kind), some (.int thin), some (.ref pN), some (.int (0 + (i : Int))), some (.ref pR), c10] ∧ BRow H F (upd (upd H2 t (.tup [.int (0 + (j : Int)), .int wt])) pR (.lst (arrsV ++ [.ref t]))) pN pR rowsV arrsV' net row (1 + r) (j + 1) := fun wt H2 t w0 w1 hs ht => by
        obtain ⟨F2, B2⟩ := (B.more hs).put ht (by omega) w0 w1
        exact ⟨_, F2, _, n2, _, rfl, B2⟩
      refine iteB (fun _ => ?_) (fun _ => ?_)
      · refine ⟨_, rfl, .inl ⟨rfl, _, SqL.of B.at'⟩, _, rfl, _, rfl, _, rfl, n2, kind, rfl, n20, n21, hk0, hk1, fun wt H2 w0 w1 hs => ⟨(by show 2 ≤ sizeLine; decide), fun t ht => ?_⟩⟩
        exact ⟨pR, _, _, rfl, rfl, same_upd ht _ _ _ (hs _ _ B.at'), small1000 (by have := B.len; omega), put wt H2 t w0 w1 hs ht⟩
      · refine ⟨_, rfl, _, _, rfl, rfl, _, rfl, ?_⟩
        refine iteB (fun _ => ?_) (fun _ => ⟨row, F, arrsV, n2, _, rfl, B.skip⟩)
        refine ⟨_, rfl, _, rfl, _, _, rfl, rfl, _, rfl, _, rfl, _, rfl, by omega, fun z _ _ => ⟨rfl, _, rfl, ?_⟩⟩
        refine iteB (fun _ => ?_) (fun _ => ⟨row, F, arrsV, n2, _, rfl, B.skip⟩)
        refine ⟨_, rfl, .inl ⟨rfl, _, SqL.of B.at'⟩, _, rfl, _, rfl, _, rfl, n2, kind, rfl, n20, n21, hk0, hk1, fun wt H2 w0 w1 hs => ⟨(by show 2 ≤ sizeLine; decide), fun t ht => ?_⟩⟩
        exact ⟨pR, _, _, rfl, rfl, same_upd ht _ _ _ (hs _ _ B.at'), small1000 (by have := B.len; omega), put wt H2 t w0 w1 hs ht⟩
    · rintro σ' H' ⟨row, F, arrsV, n, c10, rfl, B⟩
      have fin : ∀ {F2 H2 : Hp} {pX : Addr} {arrs : List V} {row' : List (Int × Int)} {j : Nat}, BRow H F2 H2 pN pX rowsV arrs net row' (1 + r) j → ∃ (net' : Net) (F : Hp) (rowsV' : List V) (n' : Int) (c8 c9 c10' : Option V),
          [some (V.int n), some (.int most), some (.bl rb), some (.int (1 + r)), some (.int root), some (.int kind), some (.int thin), some (.ref pN), some (.int (0 + (i : Int))), some (.ref pX), c10] = [some (.int n'), some (.int most), some (.bl rb), some (.int (1 + r)), some (.int root), some (.int kind), some (.int thin), some (.ref pN), c8, c9, c10'] ∧ Bld H F (upd H2 pN (.lst (rowsV ++ [.ref pX]))) pN rowsV' net' ∧ net'.length = i + 1 ∧ ∀ x ∈ net', RowC (1 + r) x := fun B2 => by
        obtain ⟨F3, B3⟩ := B2.done hN
        refine ⟨_, F3, _, n, _, _, _, rfl, B3, by rw [List.length_append, List.length_singleton, hlen], fun x hx => ?_⟩
        rcases List.mem_append.mp hx with z | z
        · exact hrows x z
        · simp at z; rw [z]; exact B2.ok
      have rl : rowsV.length < sizeLine := small1000 (by have := B.b.len; omega)
      have keep : ∀ {H2 : Hp}, Same H' H2 → BRow H F H2 pN pR rowsV arrsV net row (1 + r) (1 + r).toNat := fun hs => B.more hs
      refine ⟨_, rfl, rb, rfl, ?_⟩
      cases rb with
      | false => exact ⟨_, rfl, .inl ⟨rfl, _, SqL.of B.b.at'⟩, _, rfl, pN, _, _, rfl, rfl, B.b.at', rl, fin B⟩
      | true =>
        have clear : ∀ p2, H' p2 = none → BRow H F (upd H' p2 (.lst [])) pN p2 rowsV [] net [] (1 + r) 0 := fun p2 h2 =>
          ⟨B.b.more (same_upd h2 _), upd_same, B.b.sub.free h2, B.b.keep.free h2, (fun z => by rw [z, B.b.at'] at h2; cases h2), .nil, .nil (by omega), (fun _ hx => nomatch hx), Nat.le_refl _⟩
        refine ⟨_, rfl, _, rfl, _, _, .int _, .int _, (okTo.int _).shaped (by decide), (okTo.int _).shaped (by decide), _, rfl, iteB (fun _ => ?_) (fun _ => ?_)⟩
        · refine ⟨Nat.zero_le _, fun p2 h2 => ?_⟩
          have B2 := clear p2 h2
          exact ⟨_, rfl, .inl ⟨rfl, _, SqL.of B2.b.at'⟩, _, rfl, pN, _, _, rfl, rfl, B2.b.at', rl, fin B2⟩
        · refine ⟨_, rfl, _, rfl, _, rfl, by decide, fun u _ _ => ⟨rfl, _, rfl, iteB (fun _ => ?_) (fun _ => ?_)⟩⟩
          · refine ⟨Nat.zero_le _, fun p2 h2 => ?_⟩
            have B2 := clear p2 h2
            exact ⟨_, rfl, .inl ⟨rfl, _, SqL.of B2.b.at'⟩, _, rfl, pN, _, _, rfl, rfl, B2.b.at', rl, fin B2⟩
          · exact ⟨_, rfl, .inl ⟨rfl, _, SqL.of B.b.at'⟩, _, rfl, pN, _, _, rfl, rfl, B.b.at', rl, fin B⟩
  · rintro σ' H' ⟨net, F, rowsV, n, c8, c9, c10, rfl, B, hlen, hrows⟩
    refine ⟨_, rfl, ?_⟩
    have hcast : ((net.length : Nat) : Int) = 1 + r := by omega
    refine q net (upd F pN (.lst rowsV)) H' (.ref pN) ⟨by omega, by omega, fun x hx => by rw [hcast]; exact hrows x hx⟩ (by omega) ⟨B.keep, fun b u e => ?_, fun b u e => ?_⟩ (.lst upd_same (B.reps.mono (same_upd B.no _)))
    · by_cases hb : b = pN
      · subst hb; rw [upd_same] at e; cases e; exact B.at'
      · rw [upd_ne hb] at e; exact B.sub b u e
    · by_cases hb : b = pN
      · subst hb; exact hN
      · rw [upd_ne hb] at e; exact B.fresh b u e
end
end Law

namespace Law
open PySem L2 Ways Ring PyProof.Rows
theorem NetC.nok {net : Net} (ok : NetC net) : NetOk net := ⟨ok.pos, ok.len, fun r hr => ⟨by have := (ok.rows r hr).few; have := ok.len; omega, fun a ha => ⟨((ok.rows r hr).within a ha).1, ((ok.rows r hr).within a ha).2.1⟩⟩⟩
end Law

namespace Law
open PySem L2 Ways Ring PyProof.Rows
theorem nextE_rep (n p : Nat) : nextE (List.replicate n none) p = none := by
  unfold nextE
  rw [List.getElem?_replicate]
  split <;> rfl
theorem natsV_range (n : Nat) (f : Nat → Bool) : (List.range n).filterMap (fun i => if f i = true then some (V.int (0 + (i : Int))) else none) = natsV ((List.range n).filter f) := by
  induction n with
  | zero => rfl
  | succ n ih =>
    rw [List.range_succ, List.filterMap_append, List.filter_append, ih]
    unfold natsV
    rw [List.map_append]
    congr 1
    by_cases hf : f n = true
    · simp [hf]
    · simp [hf]
/-- arrows that may be hung: from a place that isn't yet to one that is -/
structure Some35 (net : Net) (hg : List Nat) (ps : List (Int × Int)) (k : Nat) : Prop where
  len : ps.length ≤ 8 * k
  ok : ∀ q ∈ ps, ∃ (pl e : Nat) (row : List (Int × Int)), q = ((pl : Int), (e : Int)) ∧ net[pl]? = some row ∧ pl ∉ hg ∧ (e : Int) ∈ row.map (·.1) ∧ e ∈ hg
section
variable {P : Program} {w : World} {K : PySem.W.Frag} {mg : Str → Option Value} {base : Heap}
/-! ### a tree by hanging -/
def sp_hung : Sp := fun vs H Q _ => ∃ v net n, vs = [v, .int n] ∧ Rep H v (netD net) ∧ NetC net ∧ (∀ H', Same H H' → Q .non H') ∧ ∀ H' p tr, Same H H' → H p = none → H' p = some (.lst (tr.map optV)) → TreeOf net tr → Q (.ref p) H'
def hungInv (a pT pH : Addr) (H : Hp) (net : Net) (σ' : L2.St) (H' : Hp) : Prop := ∃ (tr : List (Option Nat)) (hg : List Nat) (n : Int) (c4 c5 c6 c7 : Option V),
  σ' = [some (.ref a), some (.int n), some (.ref pT), some (.ref pH), c4, c5, c6, c7] ∧ Same H H' ∧ H' pT = some (.lst (tr.map optV)) ∧ H' pH = some (.lst (natsV hg)) ∧ Hung net tr hg
theorem def__law_hung (T : Txt mg) (D__law_next : Def P w K mg base "_law_next" 1 ["_law_number_here"] sp_nextB) (h : Here K mg "_law_hung" s__law_hung ["_law_net_here", "_law_number_here"]) : Def P w K mg base "_law_hung" 2 ["_law_net_here", "_law_number_here"] sp_hung := h.mk fun f fd F => by
  have nd := sc__law_hung.nd
  refine F.ok sc__law_hung (fun vs H Q E h => ?_) (fun cdv A outer s H vs Q E hr h => ?_)
  · obtain ⟨v, net, n, rfl, _⟩ := h
    rfl
  obtain ⟨v, net, n, rfl, r, ok, qn, q⟩ := h
  refine ⟨_, pss_cons (ps_setC (i := 2) nd rfl rfl (N' := ["_law_row"]) (cap := [none]) rfl ⟨rfl, rfl, rfl, rfl, rfl, rfl⟩ (pi_listK (K := K) (pv 0)) (fun _ _ _ _ _ _ => ⟨pg_name (i := 0) (show (["_law_row"] : List Str).Nodup by decide +kernel) rfl (Or.inl rfl) (Or.inr rfl), pifs_nil, pe_non⟩) (keeps_name rfl))
    (pss_cons (ps_set (i := 3) nd rfl (Or.inr rfl) (pe_comp (N' := ["_law_place", "_law_net_here"]) (cap := [none, some 0]) rfl ⟨rfl, rfl, rfl, rfl, rfl, rfl⟩ (pi_range1 rfl T.z_range (pa_cons (pe_callB (call_lenK (K := K)) rfl T.z_len PySem.boot_len (pa_cons (pv 0) pa_nil)) pa_nil)) (fun _ _ _ _ _ _ => ⟨pg_name (i := 0) (show (["_law_place", "_law_net_here"] : List Str).Nodup by decide +kernel) rfl (Or.inl rfl) (Or.inr rfl), pifs_one (pt_cmpR (op_eqD hr) (pe_ix (ix_lt (K := K)) (pv 1) (pv 0) (fun _ _ => rfl)) (pe_lst pa_nil) (nomark _)), pv 0⟩) (keeps_name rfl)))
    (pss_cons (ps_for PassesOwn.never rfl (pi_range1 rfl T.z_range (pa_cons (pe_callB (call_lenK (K := K)) rfl T.z_len PySem.boot_len (pa_cons (pv 0) pa_nil)) pa_nil)) (pg_name (i := 4) nd rfl (Or.inl rfl))
      (pss_cons (ps_set (i := 5) nd rfl (Or.inl rfl) (pe_lst pa_nil))
      (pss_cons (ps_for PassesOwn.never rfl (pi_range1 rfl T.z_range (pa_cons (pe_callB (call_lenK (K := K)) rfl T.z_len PySem.boot_len (pa_cons (pv 0) pa_nil)) pa_nil)) (pg_name (i := 6) nd rfl (Or.inr rfl))
        (pss_one (ps_if (pt_cmpR (op_notInK (K := K)) (pv 6) (pv 3) rfl)
          (pss_one (ps_set (i := 5) nd rfl (Or.inl rfl) (pe_op op_cat (pv 5) (pe_comp (N' := ["_law_to", "_law_weight_here", "_law_place", "_law_hung_here"]) (cap := [none, none, some 6, some 3]) rfl ⟨rfl, rfl, rfl, rfl, rfl, rfl⟩ (pi_listK (K := K) (pe_ix (ix_lt (K := K)) (pv 0) (pv 6) (fun _ _ => rfl))) (fun _ _ _ _ _ _ => ⟨pg_tupK (K := K) rfl (pgs_cons (pg_name (i := 0) (show (["_law_to", "_law_weight_here", "_law_place", "_law_hung_here"] : List Str).Nodup by decide +kernel) rfl (Or.inl rfl) (Or.inr rfl)) (pgs_cons (pg_name (i := 1) (show (["_law_to", "_law_weight_here", "_law_place", "_law_hung_here"] : List Str).Nodup by decide +kernel) rfl (Or.inl rfl) (Or.inr rfl)) pgs_nil)), pifs_one (pt_cmpR (op_inK (K := K)) (pv 0) (pv 3) rfl), pe_tup (pa_cons (pv 2) (pa_cons (pv 0) pa_nil))⟩) (keeps_two rfl rfl)))))
          (pss_nil))))
      (pss_one (ps_if (pt_cmpR (op_neD hr) (pv 5) (pe_lst pa_nil) (nomark _))
        (pss_cons (ps_set (i := 1) nd rfl (Or.inl rfl) (pe_callD D__law_next hr rfl (pa_cons (pv 1) pa_nil)))
        (pss_cons (ps_asg (pe_ix (ix_lt (K := K)) (pv 5) (pe_draw (pv 1) (pe_callB (call_lenK (K := K)) rfl T.z_len PySem.boot_len (pa_cons (pv 5) pa_nil))) (fun _ _ => rfl)) (pg_tupK (K := K) rfl (pgs_cons (pg_name (i := 6) nd rfl (Or.inr rfl)) (pgs_cons (pg_name (i := 7) nd rfl (Or.inl rfl)) pgs_nil))))
        (pss_cons (ps_asg (pv 7) (pg_sub (pv 2) (pv 6) set_list))
        (pss_one (ps_expr (pe_bm PySem.F.plainAttrs_list PySem.F.slot_list_append PySem.F.type_list_append mt_append (pv 3) (pa_cons (pv 6) pa_nil)))))))
        (pss_nil))))))
    (pss_cons (ps_if (pt_cmpR op_lt (pe_callB (call_lenK (K := K)) rfl T.z_len PySem.boot_len (pa_cons (pv 3) pa_nil)) (pe_callB (call_lenK (K := K)) rfl T.z_len PySem.boot_len (pa_cons (pv 0) pa_nil)) (nomark _))
      (pss_one (ps_ret pe_non))
      (pss_nil))
    (pss_one (ps_ret (pv 2)))))), ?_⟩
  obtain ⟨a, xs, rfl, ea, ra⟩ := rep_list r
  have la : xs.length = net.length := by rw [ra.length, List.length_map]
  have len8 := ok.len
  have lpos := ok.pos
  -- tree
  refine ⟨_, rfl, a, rfl, ⟨xs, SqL.of ea⟩, fun pT hT => ?_⟩
  refine comp_list (K := K) (xs := xs) (FlatP H fun i => (xs[i]?).bind fun _ => some V.non) hT FlatP.zero (fun i G ys p => SqL.of (p.1 _ _ ea)) (fun i x G ys hx hG p => ?_) (fun G0 ys0 hG0 p0 => ?_)
  · exact p.put hG (Same.refl _) (by rw [hx]; rfl) (by have := lt_of_get hx; omega)
  have hy0 : ys0 = (List.replicate net.length (none : Option Nat)).map optV := by
    rw [p0.2, flat_list, fm_some, ← la]
    clear p0 ea ra la
    induction xs with
    | nil => rfl
    | cons x r ih => rw [List.map_cons, List.length_cons, List.replicate_succ, List.map_cons, ih]; rfl
  have s1 := p0.1.trans (same_upd hG0 (.lst ys0))
  have e1T : (upd G0 pT (.lst ys0)) pT = some (.lst ((List.replicate net.length (none : Option Nat)).map optV)) := by rw [upd_same, hy0]
  have hT0 : H pT = none := hT
  generalize upd G0 pT (.lst ys0) = H1 at s1 e1T ⊢
  -- hung
  refine ⟨_, rfl, a, _, rfl, .inl (SqL.of (s1 _ _ ea)), _, rfl, by omega, by omega, fun D hD => ?_⟩
  have hD0 : H D = none := s1.free hD
  have hDT : D ≠ pT := by rintro rfl; rw [e1T] at hD; cases hD
  refine comp_range (lo := 0) (FlatP _ fun i => if decide (net[i]? = some []) = true then some (V.int (0 + (i : Int))) else none) hD FlatP.zero (fun i G ys hi hG p => ?_) (fun G ys hG p => ?_)
  · have hi' : i < xs.length := by omega
    obtain ⟨row, hrow, rrow⟩ := reps_map ra (List.getElem?_eq_getElem hi')
    have hx' : atI xs (0 + (i : Int)) = some xs[i] := by rw [Int.zero_add]; exact atI_nat (List.getElem?_eq_getElem hi')
    have s2 := s1.trans (p.1.trans (same_upd hG (.lst ys)))
    refine ⟨_, rfl, _, rfl, .inl ⟨a, _, _, _, rfl, rfl, SqL.of (s2 _ _ ea), hx', Nat.zero_le _, fun pl hpl => ?_⟩⟩
    have s3 := same_upd hpl (HO.lst [])
    refine ⟨_, _, rrow.mono (s2.trans s3), .lst upd_same .nil, (okTo_row row).shaped (by decide), shaped_nil, _, rfl, ?_⟩
    rw [eqv_row_nil]
    refine iteD (fun h0 => ⟨_, rfl, p.put hG s3 ?_ (by omega)⟩) (fun h0 => p.skip hG s3 ?_)
    · rw [hrow, h0]; simp
    · rw [hrow]; simp [h0]
  have hy := p.2
  rw [natsV_range] at hy
  have e1 : ((xs.length : Nat) : Int).toNat = net.length := by omega
  rw [e1] at hy
  have s2 := s1.trans (p.1.trans (same_upd hG (.lst ys)))
  have hstart : hungInv a pT D H net [some (.ref a), some (.int n), some (.ref pT), some (.ref D), none, none, none, none] (upd G D (.lst ys)) := by
    refine ⟨List.replicate net.length none, (List.range net.length).filter fun i => decide (net[i]? = some []), n, none, none, none, none, rfl, s2, ?_, by rw [upd_same, hy], ?_⟩
    · rw [upd_ne (Ne.symm hDT)]
      exact p.1 pT _ e1T
    · refine Hung.start (by rw [List.length_replicate]) (nextE_rep _) (List.nodup_range.filter _) fun p hp => ?_
      simpa using (List.mem_filter.mp hp).2
  have sameA : ∀ {H' : Hp}, Same H H' → SqL K H' a xs := fun hs => SqL.of (hs _ _ ea)
  refine ⟨_, rfl, a, _, rfl, .inl (sameA s2), _, rfl, by omega, by omega, for_range (lo := 0) (fun _ => hungInv a pT D H net) hstart ?_ ?_⟩
  · rintro i σ' H' hi ⟨tr, hg, n, c4, c5, c6, c7, rfl, hs, hT', hH', hung⟩
    refine ⟨Nat.zero_le _, fun pS hS => ?_⟩
    have sS := same_upd hS (HO.lst [])
    refine ⟨_, rfl, a, _, rfl, .inl (sameA (hs.trans sS)), _, rfl, by omega, by omega, for_range (lo := 0) (fun j σ' H2 => ∃ (pS : Addr) (sv : List V) (ps : List (Int × Int)) (c6 : Option V), σ' = [some (.ref a), some (.int n), some (.ref pT), some (.ref D), some (.int (0 + (i : Int))), some (.ref pS), c6, c7] ∧ Same H' H2 ∧ H2 pS = some (.lst sv) ∧ Reps H2 sv (ps.map arrD) ∧ Some35 net hg ps j)
      ⟨pS, [], [], c6, rfl, sS, upd_same, .nil, ⟨Nat.zero_le _, (fun _ h => nomatch h)⟩⟩ ?_ ?_⟩
    · rintro j σ' H2 hj ⟨pS, sv, ps, c6, rfl, hs2, eS, rS, so⟩
      have hj' : j < xs.length := by omega
      refine ⟨_, rfl, _, rfl, D, _, rfl, .inl (SqL.of (hs2 _ _ hH')), rfl, flat_nats _, _, rfl, ?_⟩
      rw [show (0 + (j : Int)) = (j : Int) by omega]
      show if (!inV (.int (j : Int)) (natsV hg)) = true then _ else _
      rw [inV_nats]
      refine iteB (fun c1 => ?_) (fun _ => ⟨pS, sv, ps, _, rfl, hs2, eS, rS, ⟨by have := so.len; omega, so.ok⟩⟩)
      have hnot : j ∉ hg := by simpa using c1
      obtain ⟨row, hrow, rrow⟩ := reps_map ra (List.getElem?_eq_getElem hj')
      obtain ⟨b, rxs, exb, eb, rb⟩ := rep_list rrow
      have lrow := (ok.nok.row row (List.mem_of_getElem? hrow)).1
      have lrx : rxs.length = row.length := by rw [rb.length, List.length_map]
      have hatx : atI xs (j : Int) = some (.ref b) := by rw [← exb]; exact atI_nat (List.getElem?_eq_getElem hj')
      have kH2 := hs.trans hs2
      refine ⟨_, rfl, _, rfl, _, rfl, .inl ⟨a, _, _, _, rfl, rfl, sameA kH2, hatx, b, rfl, ⟨rxs, SqL.of (kH2 _ _ eb)⟩, fun D2 hD2 => ?_⟩⟩
      refine comp_list (K := K) (xs := rxs) (fun i G ys => ∃ F', New H2 F' G ∧ Reps F' ys (((row.take i).filter fun a => decide (a.1 ∈ hg.map fun (n : Nat) => (n : Int))).map fun a => arrD ((j : Int), a.1))) hD2 ⟨_, New.start _, .nil⟩ (fun i G ys ⟨_, n, _⟩ => SqL.of (n.keep _ _ (kH2 _ _ eb))) (fun i x G ys hx hG pq => ?_) (fun G ys hG pq => ?_)
      · obtain ⟨F', n', rs'⟩ := pq
        obtain ⟨a0, ha0, rx⟩ := reps_map rb hx
        obtain ⟨t, rfl, ht⟩ := rep_arr rx
        have hi2 := lt_of_get ha0
        have yl : ys.length ≤ i := by
          have h1 := rs'.length
          rw [List.length_map] at h1
          have h2 := List.length_filter_le (fun a : Int × Int => decide (a.1 ∈ hg.map fun (n : Nat) => (n : Int))) (row.take i)
          rw [List.length_take] at h2
          omega
        have s4 := kH2.trans (n'.keep.trans (same_upd hG (.lst ys)))
        have sH := n'.keep.trans (same_upd hG (.lst ys))
        refine ⟨t, _, rfl, SqT.of (s4 _ _ ht), rfl, _, _, rfl, _, _, rfl, rfl, _, rfl, _, rfl, D, _, rfl, .inl (SqL.of (sH _ _ (hs2 _ _ hH'))), rfl, flat_nats _, _, rfl, ?_⟩
        show if inV (.int a0.1) (natsV hg) = true then _ else _
        rw [natsV_ints, inV_ints]
        have tk : row.take (i + 1) = row.take i ++ [a0] := by rw [List.take_succ, ha0]; rfl
        refine iteD (fun hm => ?_) (fun hm => ?_)
        · refine ⟨_, rfl, _, rfl, (by show 2 ≤ sizeLine; decide), fun t2 ht2 => ?_⟩
          have s5 := same_upd ht2 (HO.tup [.int (j : Int), .int a0.1])
          refine cput (ys := ys) (s5 _ _ upd_same) (by omega) ⟨_, n'.grow hG s5 ht2 upd_same, ?_⟩
          have htD : t2 ≠ D2 := by rintro rfl; rw [upd_same] at ht2; cases ht2
          have hn' : G t2 = none := by rw [upd_ne htD] at ht2; exact ht2
          rw [tk, List.filter_append, List.filter_cons_of_pos (by exact decide_eq_true hm), List.filter_nil, List.map_append]
          exact (rs'.mono (same_upd (n'.bare hn') _)).snoc (.tup upd_same (.cons (.int _) (.cons (.int _) .nil)))
        · refine ⟨G, ys, hG, rfl, F', n', ?_⟩
          rw [tk, List.filter_append, List.filter_cons_of_neg (by simpa using hm), List.filter_nil, List.append_nil]
          exact rs'
      obtain ⟨F', n', rs'⟩ := pq
      rw [lrx, List.take_length] at rs'
      have nn := n'.done (o := .lst ys) hG
      have fl := List.length_filter_le (fun a : Int × Int => decide (a.1 ∈ hg.map fun (n : Nat) => (n : Int))) row
      have yl : ys.length ≤ 8 := by
        have h1 := rs'.length
        rw [List.length_map] at h1
        omega
      have sol := so.len
      have svl : sv.length = ps.length := by rw [rS.length, List.length_map]
      refine ⟨pS, D2, sv, ys, rfl, rfl, nn.keep _ _ eS, upd_same, Nat.le_of_lt (small1000 (by omega)), fun l3 hl3 => ?_⟩
      have s3 := same_upd hl3 (HO.lst (sv ++ ys))
      refine ⟨l3, sv ++ ys, ps ++ (row.filter fun a => decide (a.1 ∈ hg.map fun (n : Nat) => (n : Int))).map fun a => ((j : Int), a.1), _, rfl, hs2.trans (nn.keep.trans s3), upd_same, ?_, ?_⟩
      · rw [List.map_append, List.map_map]
        exact (rS.mono (nn.keep.trans s3)).append ((rs'.mono (same_upd (n'.bare hG) _)).mono (nn.sub.trans s3))
      · refine ⟨?_, fun q hq => ?_⟩
        · rw [List.length_append, List.length_map]
          omega
        · rcases List.mem_append.mp hq with z | z
          · exact so.ok q z
          · obtain ⟨a0, ha0, rfl⟩ := List.mem_map.mp z
            obtain ⟨hm, hf⟩ := List.mem_filter.mp ha0
            obtain ⟨e, he, ee⟩ := List.mem_map.mp (of_decide_eq_true hf)
            exact ⟨j, e, row, by rw [ee], hrow, hnot, List.mem_map.mpr ⟨a0, hm, ee.symm⟩, he⟩
    · rintro σ' H2 ⟨pS, sv, ps, c6, rfl, hs2, eS, rS, so⟩
      have psl : sv.length = ps.length := by rw [rS.length, List.length_map]
      refine ⟨_, rfl, Nat.zero_le _, fun p2 hp2 => ?_⟩
      have s5 := same_upd hp2 (HO.lst [])
      refine ⟨_, _, .lst (s5 _ _ eS) (rS.mono s5), .lst upd_same .nil, (okTo_row ps).shaped (by decide), shaped_nil, _, rfl, ?_⟩
      show if (!PyData.eqv (rowD ps) (.list [])) = true then _ else _
      rw [eqv_row_nil]
      have k6 := hs2.trans s5
      refine iteB (fun c2 => ?_) (fun _ => ⟨tr, hg, n, _, _, _, _, rfl, hs.trans k6, k6 _ _ hT', k6 _ _ hH', hung⟩)
      have hne : ps ≠ [] := by simpa using c2
      have hpos : 0 < ps.length := List.length_pos_iff.mpr hne
      refine ⟨_, rfl, n, rfl, fun m _ _ => ?_⟩
      refine ⟨_, rfl, _, rfl, _, rfl, _, rfl, pS, _, rfl, .inl (SqL.of (s5 _ _ eS)), _, rfl, by omega, fun u hu0 hu1 => ?_⟩
      obtain ⟨k, rfl⟩ := Int.eq_ofNat_of_zero_le hu0
      have hk : k < sv.length := by omega
      obtain ⟨q0, hq0, rq0⟩ := reps_map rS (List.getElem?_eq_getElem hk)
      obtain ⟨ta, ext, eta⟩ := rep_arr rq0
      have hat : atI sv (k : Int) = some (.ref ta) := by rw [← ext]; exact atI_nat (List.getElem?_eq_getElem hk)
      obtain ⟨pl, e, row, rfl, hrow, hnot, m1, he'⟩ := so.ok q0 (List.mem_of_getElem? hq0)
      have hpl : pl < net.length := lt_of_get hrow
      refine .inl ⟨pS, _, _, _, rfl, rfl, SqL.of (s5 _ _ eS), hat, ta, _, rfl, SqT.of (s5 _ _ eta), rfl, _, _, rfl, _, _, rfl, rfl, ?_⟩
      refine ⟨_, rfl, _, rfl, _, rfl, pT, _, _, pl, rfl, rfl, k6 _ _ hT', ixN_nat (by rw [List.length_map, hung.len]; omega), ?_⟩
      refine ⟨_, rfl, .inl ⟨rfl, _, SqL.of (by rw [upd_ne hDT]; exact k6 _ _ hH')⟩, _, rfl, D, _, _, rfl, rfl, (by rw [upd_ne hDT]; exact k6 _ _ hH'), ?_, ?_⟩
      · unfold natsV
        rw [List.length_map]
        have := nodup_bound _ _ hung.nd hung.bd
        exact small1000 (by omega)
      refine ⟨tr.set pl (some e), hg ++ [pl], m, _, _, _, _, rfl, ?_, ?_, ?_, hung.hang hrow hnot m1 he'⟩
      · intro b o hb
        rw [upd_ne (ne_of_none hb hD0), upd_ne (ne_of_none hb hT0)]
        exact k6 _ _ (hs _ _ hb)
      · rw [upd_ne (Ne.symm hDT), upd_same, List.map_set]
        rfl
      · rw [upd_same]
        unfold natsV
        rw [List.map_append]
        rfl
  · rintro σ' H' ⟨tr, hg, n, c4, c5, c6, c7, rfl, hs, hT', hH', hung⟩
    refine ⟨_, rfl, D, _, rfl, .inl (SqL.of hH'), _, rfl, a, _, rfl, .inl (sameA hs), _, _, rfl, rfl, _, rfl, ?_⟩
    refine iteD (fun _ => qn H' hs) (fun hfull => ⟨_, rfl, q H' pT tr hs hT0 hT' (hung.tree ?_)⟩)
    unfold natsV at hfull
    rw [List.length_map] at hfull
    omega
end
end Law

namespace Law
open PySem L2 Ways Ring PyProof.Rows
section
variable {P : Program} {w : World} {K : PySem.W.Frag} {mg : Str → Option Value} {base : Heap}
/-! ### all ways end -/
theorem walk_lt {es : List (Option Nat)} (hb : InB es) {p : Nat} (hp : p < es.length) : ∀ k, walk es p k < es.length
  | 0 => hp
  | k + 1 => by
    have ih := walk_lt hb hp k
    simp only [walk]
    cases e : nextE es (walk es p k) with
    | none => exact ih
    | some q => exact hb _ _ e
def sp_isTree : Sp := fun vs H Q _ => ∃ v net ta es, vs = [v, .ref ta] ∧ Rep H v (netD net) ∧ H ta = some (.lst (es.map optV)) ∧ es.length = net.length ∧ net.length ≤ 8 ∧ InB es ∧ (∀ (p : Nat) row, net[p]? = some row → (row = [] ↔ nextE es p = none)) ∧
  ∀ H', Same H H' → Q (.bl ((List.range net.length).all fun p => rootB es p)) H'
theorem def__law_is_tree (T : Txt mg) (h : Here K mg "_law_is_tree" s__law_is_tree ["_law_net_here", "_law_tree"]) : Def P w K mg base "_law_is_tree" 1 ["_law_net_here", "_law_tree"] sp_isTree := h.mk fun f fd F => by
  have nd := sc__law_is_tree.nd
  refine F.ok sc__law_is_tree (fun vs H Q E h => ?_) (fun cdv A outer s H vs Q E hr h => ?_)
  · obtain ⟨v, net, ta, es, rfl, _⟩ := h
    rfl
  obtain ⟨v, net, b, es, rfl, rn, eb, hl, h8, ib, hz, q⟩ := h
  refine ⟨_, pss_cons (ps_for PassesOwn.never rfl (pi_range1 rfl T.z_range (pa_cons (pe_callB (call_lenK (K := K)) rfl T.z_len PySem.boot_len (pa_cons (pv 0) pa_nil)) pa_nil)) (pg_name (i := 2) nd rfl (Or.inl rfl))
      (pss_cons (ps_set (i := 3) nd rfl (Or.inl rfl) (pv 2))
      (pss_cons (ps_for PassesOwn.never rfl (pi_range1 rfl T.z_range (pa_cons (pe_callB (call_lenK (K := K)) rfl T.z_len PySem.boot_len (pa_cons (pv 0) pa_nil)) pa_nil)) (pg_name (i := 4) nd rfl (Or.inl rfl))
        (pss_one (ps_if (pt_cmpR (op_neD hr) (pe_ix (ix_lt (K := K)) (pv 0) (pv 3) (fun _ _ => rfl)) (pe_lst pa_nil) (nomark _))
          (pss_one (ps_set (i := 3) nd rfl (Or.inl rfl) (pe_ix (ix_lt (K := K)) (pv 1) (pv 3) (fun _ _ => rfl))))
          (pss_nil))))
      (pss_one (ps_if (pt_cmpR (op_neD hr) (pe_ix (ix_lt (K := K)) (pv 0) (pv 3) (fun _ _ => rfl)) (pe_lst pa_nil) (nomark _))
        (pss_one (ps_ret pe_bl))
        (pss_nil))))))
    (pss_one (ps_ret pe_bl)), ?_⟩
  obtain ⟨a, xs, rfl, ea, ra⟩ := rep_list rn
  have la : xs.length = net.length := by rw [ra.length, List.length_map]
  refine ⟨_, rfl, a, _, rfl, .inl (SqL.of ea), _, rfl, by omega, by omega, for_range (lo := 0) (fun i σ' H' => ∃ c2 c3 c4 : Option V, σ' = [some (.ref a), some (.ref b), c2, c3, c4] ∧ Same H H' ∧ ∀ j, j < i → rootB es j = true)
    ⟨_, _, _, rfl, Same.refl _, fun j hj => absurd hj (Nat.not_lt_zero _)⟩ ?_ ?_⟩
  · rintro i σ' H' hi ⟨c2, c3, c4, rfl, hs, hroot⟩
    have hi' : i < net.length := by omega
    refine ⟨_, rfl, _, rfl, a, _, rfl, .inl (SqL.of (hs _ _ ea)), _, rfl, by omega, by omega, for_range (lo := 0) (fun j σ' H' => ∃ c4 : Option V, σ' = [some (.ref a), some (.ref b), some (.int (0 + (i : Int))), some (.int (walk es i j : Nat)), c4] ∧ Same H H')
      ⟨_, by rw [Int.zero_add]; rfl, hs⟩ ?_ ?_⟩
    · rintro j σ' H' hj ⟨c4, rfl, hs⟩
      have hw := walk_lt ib (p := i) (by omega) j
      have hen := optV_at hw
      obtain ⟨y, hy⟩ : ∃ y, xs[walk es i j]? = some y := ⟨_, List.getElem?_eq_getElem (by omega)⟩
      obtain ⟨row, hrow, rrow⟩ := reps_map ra hy
      refine ⟨_, rfl, _, rfl, .inl ⟨a, _, _, _, rfl, rfl, SqL.of (hs _ _ ea), atI_nat hy, Nat.zero_le _, fun l hl => ?_⟩⟩
      have t1 := same_upd hl (HO.lst [])
      refine ⟨_, _, rrow.mono (hs.trans t1), .lst upd_same .nil, (okTo_row row).shaped (by decide), shaped_nil, _, rfl, ?_⟩
      rw [eqv_row_nil]
      by_cases c : row = []
      · rw [decide_eq_true c]
        have e := (hz _ _ hrow).mp c
        refine ⟨some (.int (0 + (j : Int))), ?_, hs.trans t1⟩
        have : walk es i (j + 1) = walk es i j := by simp only [walk, e]
        rw [this]
        rfl
      · rw [decide_eq_false c]
        cases e : nextE es (walk es i j) with
        | none => exact absurd ((hz _ _ hrow).mpr e) c
        | some k =>
          rw [e] at hen
          refine ⟨_, rfl, _, rfl, .inl ⟨b, _, _, _, rfl, rfl, SqL.of (t1 _ _ (hs _ _ eb)), atI_nat hen, some (.int (0 + (j : Int))), ?_, hs.trans t1⟩⟩
          have : walk es i (j + 1) = k := by simp only [walk, e]
          rw [this]
          rfl
    · rintro σ' H' ⟨c4, rfl, hs⟩
      have e1 : ((xs.length : Nat) : Int).toNat = es.length := by omega
      have hw := walk_lt ib (p := i) (by omega) ((xs.length : Nat) : Int).toNat
      obtain ⟨y, hy⟩ : ∃ y, xs[walk es i ((xs.length : Nat) : Int).toNat]? = some y := ⟨_, List.getElem?_eq_getElem (by omega)⟩
      obtain ⟨row, hrow, rrow⟩ := reps_map ra hy
      refine ⟨_, rfl, _, rfl, .inl ⟨a, _, _, _, rfl, rfl, SqL.of (hs _ _ ea), atI_nat hy, Nat.zero_le _, fun l hl => ?_⟩⟩
      have t1 := same_upd hl (HO.lst [])
      refine ⟨_, _, rrow.mono (hs.trans t1), .lst upd_same .nil, (okTo_row row).shaped (by decide), shaped_nil, _, rfl, ?_⟩
      rw [eqv_row_nil]
      rw [e1] at hrow
      by_cases c : row = []
      · rw [decide_eq_true c]
        have e := (hz _ _ hrow).mp c
        refine ⟨_, _, _, rfl, hs.trans t1, fun j hj => ?_⟩
        by_cases hji : j = i
        · subst hji
          unfold rootB
          rw [e]
          rfl
        · exact hroot j (by omega)
      · rw [decide_eq_false c]
        have e : rootB es i = false := by
          unfold rootB
          cases e : nextE es (walk es i es.length) with
          | none => exact absurd ((hz _ _ hrow).mpr e) c
          | some k => rfl
        have q' := q _ (hs.trans t1)
        have : ((List.range net.length).all fun p => rootB es p) = false := by
          rw [List.all_eq_false]
          exact ⟨i, List.mem_range.mpr hi', by rw [e]; exact Bool.false_ne_true⟩
        rw [this] at q'
        exact q'
  · rintro σ' H' ⟨c2, c3, c4, rfl, hs, hroot⟩
    have q' := q _ hs
    have : ((List.range net.length).all fun p => rootB es p) = true := List.all_eq_true.mpr fun p hp => hroot p (by have := List.mem_range.mp hp; omega)
    rw [this] at q'
    exact q'
end
end Law

namespace Law
open PySem L2 Ways Ring PyProof.Rows
section
variable {P : Program} {w : World} {K : PySem.W.Frag} {mg : Str → Option Value} {base : Heap}
/-! ### piles that are being filled: each in a list of its own -/
structure AnyAt (H H' : Hp) (pP : Addr) (ad : List Addr) (p : Piles) : Prop where
  keep : Same H H'
  at' : H' pP = some (.lst (ad.map V.ref))
  hp : H pP = none
  nd : ad.Nodup
  np : pP ∉ ad
  hn : ∀ b ∈ ad, H b = none
  len : ad.length = p.length
  rep : ∀ (i : Nat) (b : Addr) (t : List Nat), ad[i]? = some b → p[i]? = some t → H' b = some (.lst (natsV t))
theorem AnyAt.put {H H' : Hp} {pP b : Addr} {ad : List Addr} {p : Piles} {j : Nat} {t t' : List Nat} (B : AnyAt H H' pP ad p) (hb : ad[j]? = some b) (ht : p[j]? = some t) : AnyAt H (upd H' b (.lst (natsV t'))) pP ad (p.set j t') := by
  have hm := List.mem_of_getElem? hb
  have hbp : pP ≠ b := fun z => B.np (z ▸ hm)
  refine ⟨fun c u e => ?_, ?_, B.hp, B.nd, B.np, B.hn, by rw [List.length_set]; exact B.len, fun i c u hc hu => ?_⟩
  · rw [upd_ne (ne_of_none e (B.hn b hm))]; exact B.keep c u e
  · rw [upd_ne hbp]; exact B.at'
  · by_cases hij : i = j
    · subst hij
      rw [hb] at hc
      cases hc
      rw [List.getElem?_set_self (lt_of_get ht)] at hu
      cases hu
      rw [upd_same]
    · rw [List.getElem?_set_ne (Ne.symm hij)] at hu
      have hcb : c ≠ b := by
        rintro rfl
        have h1 := lt_of_get hc
        have h2 := lt_of_get hb
        rw [List.getElem?_eq_getElem h1] at hc
        rw [List.getElem?_eq_getElem h2] at hb
        exact hij (nodup_inj B.nd h1 h2 ((Option.some.inj hc).trans (Option.some.inj hb).symm))
      rw [upd_ne hcb]
      exact B.rep i c u hc hu
theorem AnyAt.write {H H' : Hp} {pP b : Addr} {ad : List Addr} {p : Piles} {j k : Nat} {t : List Nat} (B : AnyAt H H' pP ad p) (hb : ad[j]? = some b) (ht : p[j]? = some t) : AnyAt H (upd H' b (.lst (natsV t ++ [.int (k : Int)]))) pP ad (p.set j (t ++ [k])) := by
  have := B.put (t' := t ++ [k]) hb ht
  rw [natsV_append] at this
  exact this
theorem AnyAt.more {H H' H'' : Hp} {pP : Addr} {ad : List Addr} {p : Piles} (B : AnyAt H H' pP ad p) (s : Same H' H'') : AnyAt H H'' pP ad p :=
  ⟨B.keep.trans s, s _ _ B.at', B.hp, B.nd, B.np, B.hn, B.len, fun i b t h1 h2 => s _ _ (B.rep i b t h1 h2)⟩
theorem reps_of {F : Hp} : ∀ {ad : List Addr} {p : Piles}, ad.length = p.length → (∀ (i : Nat) (b : Addr) (t : List Nat), ad[i]? = some b → p[i]? = some t → F b = some (.lst (natsV t))) → Reps F (ad.map V.ref) (p.map natsD)
  | [], [], _, _ => .nil
  | [], _ :: _, h, _ => by simp at h
  | _ :: _, [], h, _ => by simp at h
  | a :: ad, t :: p, h, r => .cons (nats_rep (r 0 a t rfl rfl)) (reps_of (by simpa using h) fun i b t h1 h2 => r (i + 1) b t (by simpa using h1) (by simpa using h2))

end
end Law

namespace Law
open PySem L2 Ways Ring PyProof.Rows
seal L2.PE L2.PA L2.PS L2.PSs L2.PG L2.PT
/-! ### nets, piles, trees as texts -/
abbrev num := Parts.num
def aw (a : Int × Int) : PySem.Str := if a.2 = 1 then num a.1.toNat else num a.1.toNat ++ "*" ++ num a.2.toNat
def rtxt (r : List (Int × Int)) : PySem.Str := if r = [] then "-" else Txt.join " " (r.map aw)
def ntxt (net : Net) : PySem.Str := Txt.join "; " (net.map rtxt)
structure ArrT (a : Int × Int) : Prop where
  e0 : 0 ≤ a.1
  e1 : a.1 < 8
  w0 : 1 ≤ a.2
  w1 : a.2 ≤ 10 ^ 63
structure NetT (net : Net) : Prop where
  pos : 1 ≤ net.length
  len : net.length ≤ 8
  few : ∀ r ∈ net, r.length ≤ 8
  rise : ∀ r ∈ net, r.Pairwise fun a b => a.1 < b.1
  arr : ∀ r ∈ net, ∀ a ∈ r, ArrT a ∧ a.1 < net.length
theorem join_ok (sep : PySem.Str) (ts : List PySem.Str) (B : Nat) (hB : ∀ y ∈ ts, y.length ≤ B) (h : ts.length * B + ts.length * sep.length ≤ 16777216) :
    Builtin.Str.tooLong (ts.toArray.foldl (· + ·.length + sep.length) 0) = false ∧ (Txt.join sep ts).length ≤ sizeLine ∧ (Txt.join sep ts).length ≤ ts.length * B + ts.length * sep.length := by
  have h1 := StrLaws.join_length_le sep ts
  have h2 := StrLaws.sumLen_le ts hB
  have e : Txt.join sep ts = PySem.Str.join sep ts := StrLaws.glued_eq_join sep ts
  have e2 : (2 : Nat) ^ 24 = 16777216 := by decide
  refine ⟨StrLaws.joinFits hB h, ?_, ?_⟩
  · rw [e]
    unfold sizeLine
    omega
  · rw [e]
    omega
theorem ArrT.nat {a : Int × Int} (h : ArrT a) : a.1 = (a.1.toNat : Int) ∧ a.2 = (a.2.toNat : Int) ∧ a.1.toNat < 8 ∧ 1 ≤ a.2.toNat ∧ a.2.toNat < 10 ^ 64 := by
  have := h.e0
  have := h.e1
  have := h.w0
  have h4 := h.w1
  have e : (10 : Int) ^ 63 = 1000000000000000000000000000000000000000000000000000000000000000 := by decide
  have e' : (10 : Nat) ^ 64 = 10000000000000000000000000000000000000000000000000000000000000000 := by decide
  rw [e] at h4
  rw [e']
  refine ⟨by omega, by omega, by omega, by omega, by omega⟩
theorem aw_len {a : Int × Int} (h : ArrT a) : (aw a).length ≤ 70 := by
  obtain ⟨_, _, h1, _, h2⟩ := h.nat
  have l1 := Parts.num_le (k := 1) (m := a.1.toNat) (by decide) (by omega)
  have l2 := Parts.num_le (k := 64) (m := a.2.toNat) (by decide) h2
  unfold aw
  split
  · exact Nat.le_trans l1 (by decide)
  · rw [Str.length_append, Str.length_append]
    have : (("*" : PySem.Str)).length = 1 := by decide +kernel
    show (Parts.num _).length + _ + (Parts.num _).length ≤ _
    omega
theorem rtxt_join (r : List (Int × Int)) (h8 : r.length ≤ 8) (ha : ∀ a ∈ r, ArrT a) : Builtin.Str.tooLong ((r.map aw).toArray.foldl (· + ·.length + (" " : PySem.Str).length) 0) = false ∧ (Txt.join " " (r.map aw)).length ≤ sizeLine ∧ (Txt.join " " (r.map aw)).length ≤ 568 := by
  have h1 : ((" " : PySem.Str)).length = 1 := by decide +kernel
  have := join_ok " " (r.map aw) 70 (fun y hy => by obtain ⟨a, hm, rfl⟩ := List.mem_map.mp hy; exact aw_len (ha a hm)) (by rw [h1, List.length_map]; omega)
  refine ⟨this.1, this.2.1, ?_⟩
  have h2 := this.2.2
  rw [h1, List.length_map] at h2
  omega
theorem rtxt_len (r : List (Int × Int)) (h8 : r.length ≤ 8) (ha : ∀ a ∈ r, ArrT a) : (rtxt r).length ≤ 568 := by
  unfold rtxt
  split
  · exact Nat.le_trans (show (("-" : PySem.Str)).length ≤ 1 by decide +kernel) (by decide)
  · exact (rtxt_join r h8 ha).2.2
def dg (n : Nat) : PySem.Str := ⟨#[48 + n]⟩
def ptxt (t : List Nat) : PySem.Str := if t = [] then "-" else Txt.join " " (t.map dg)
def ltxt (p : List (List Nat)) : PySem.Str := Txt.join "; " (p.map ptxt)
def ew : Option Nat → PySem.Str
  | none => "-"
  | some n => dg n
theorem dg_len (n : Nat) : (dg n).length = 1 := rfl
theorem ptxt_len (t : List Nat) (h : t.length ≤ 900) : (ptxt t).length ≤ 2 * t.length + 1 := by
  unfold ptxt
  split
  · exact Nat.le_trans (show (("-" : PySem.Str)).length ≤ 1 by decide +kernel) (by omega)
  · have h1 : ((" " : PySem.Str)).length = 1 := by decide +kernel
    have := (join_ok " " (t.map dg) 1 (fun y hy => by obtain ⟨n, _, rfl⟩ := List.mem_map.mp hy; exact Nat.le_refl _) (by rw [h1, List.length_map]; omega)).2.2
    rw [h1, List.length_map] at this
    omega
theorem ew_len (o : Option Nat) : (ew o).length = 1 := by
  cases o with
  | none => decide +kernel
  | some n => rfl
theorem words_ok {α : Type} (f : α → PySem.Str) (hf : ∀ a, (f a).length = 1) (l : List α) (h : l.length ≤ 900) : Builtin.Str.tooLong ((l.map f).toArray.foldl (· + ·.length + (" " : PySem.Str).length) 0) = false ∧ (Txt.join " " (l.map f)).length ≤ sizeLine := by
  have h1 : ((" " : PySem.Str)).length = 1 := by decide +kernel
  have := join_ok " " (l.map f) 1 (fun y hy => by obtain ⟨n, _, rfl⟩ := List.mem_map.mp hy; exact Nat.le_of_eq (hf n)) (by rw [h1, List.length_map]; omega)
  exact ⟨this.1, this.2.1⟩
theorem dg_str : ∀ n, n < 8 → (toString ((n : Nat) : Int) : PySem.Str) = dg n := by decide +kernel
theorem log_ok {m : Nat} (h : m < 10 ^ 64) : ((m : Int)).natAbs.log2 < 1920 := by
  show m.log2 < 1920
  by_cases z : m = 0
  · rw [z]; decide
  · exact (Nat.log2_lt z).mpr (Nat.lt_trans h (by decide +kernel))
theorem ntxt_len {net : Net} (h : NetT net) : Builtin.Str.tooLong ((net.map rtxt).toArray.foldl (· + ·.length + ("; " : PySem.Str).length) 0) = false ∧ (ntxt net).length ≤ sizeLine ∧ (ntxt net).length ≤ 5000 := by
  have h1 : (("; " : PySem.Str)).length = 2 := by decide +kernel
  have h8 := h.len
  have := join_ok "; " (net.map rtxt) 568 (fun y hy => by obtain ⟨r, hr, rfl⟩ := List.mem_map.mp hy; exact rtxt_len r (h.few r hr) fun a ha => (h.arr r hr a ha).1) (by rw [h1, List.length_map]; omega)
  refine ⟨this.1, this.2.1, ?_⟩
  have h2 := this.2.2
  rw [h1, List.length_map] at h2
  unfold ntxt
  omega
theorem ltxt_len (p : List (List Nat)) (h8 : p.length ≤ 8) (h : ∀ t ∈ p, t.length ≤ 40) : Builtin.Str.tooLong ((p.map ptxt).toArray.foldl (· + ·.length + ("; " : PySem.Str).length) 0) = false ∧ (ltxt p).length ≤ sizeLine ∧ (ltxt p).length ≤ 5000 := by
  have h1 : (("; " : PySem.Str)).length = 2 := by decide +kernel
  have := join_ok "; " (p.map ptxt) 81 (fun y hy => by obtain ⟨t, ht, rfl⟩ := List.mem_map.mp hy; have := h t ht; have := ptxt_len t (by omega); omega) (by rw [h1, List.length_map]; omega)
  refine ⟨this.1, this.2.1, ?_⟩
  have h2 := this.2.2
  rw [h1, List.length_map] at h2
  unfold ltxt
  omega
section
variable {P : Program} {w : World} {K : PySem.W.Frag} {mg : Str → Option Value} {base : Heap}
structure RowT (r : List (Int × Int)) : Prop where
  few : r.length ≤ 8
  arr : ∀ a ∈ r, ArrT a
theorem NetT.row {net : Net} (h : NetT net) {r : List (Int × Int)} (hr : r ∈ net) : RowT r := ⟨h.few r hr, fun a ha => (h.arr r hr a ha).1⟩
structure Fit (net : Net) (p : List (List Nat)) : Prop where
  len : p.length = net.length
  ok : ∀ (j : Nat) row t, net[j]? = some row → p[j]? = some t → t.length ≤ 40 ∧ ∀ n ∈ t, (n : Int) ∈ row.map (·.1)
theorem NetOk.end8 {net : Net} (h : NetOk net) {row : List (Int × Int)} (hr : row ∈ net) {n : Nat} (hn : (n : Int) ∈ row.map (·.1)) : n < 8 := by
  obtain ⟨a, ha, e⟩ := List.mem_map.mp hn
  have := (h.row row hr).2 a ha
  have := h.len
  omega
theorem Fit.get {net : Net} {p : List (List Nat)} (h : Fit net p) {t : List Nat} (ht : t ∈ p) : ∃ row ∈ net, t.length ≤ 40 ∧ ∀ n ∈ t, (n : Int) ∈ row.map (·.1) := by
  obtain ⟨j, hj⟩ := List.mem_iff_getElem?.mp ht
  have hl := lt_of_get hj
  have hl' : j < net.length := by rw [← h.len]; exact hl
  exact ⟨net[j], List.getElem_mem hl', h.ok j _ t (List.getElem?_eq_getElem hl') hj⟩
def sp_net_text : Sp := fun vs H Q _ => ∃ (x : V) (net : Net), vs = [x] ∧ Rep H x (netD net) ∧ NetT net ∧ ∀ H', Same H H' → Q (.str (ntxt net)) H'
theorem def__law_net_text (T : Txt mg) (h : Here K mg "_law_net_text" s__law_net_text ["_law_net_here"]) : Def P w K mg base "_law_net_text" 1 ["_law_net_here"] sp_net_text := h.mk fun f fd F => by
  have nd := sc__law_net_text.nd
  refine F.ok sc__law_net_text (fun vs H Q E h => ?_) (fun cdv A outer s H vs Q E hr h => ?_)
  · obtain ⟨x, net, rfl, _⟩ := h
    rfl
  obtain ⟨x, net, rfl, rx, ok, q⟩ := h
  refine ⟨_, pss_cons (ps_set (i := 1) nd rfl (Or.inl rfl) (pe_lst pa_nil))
    (pss_cons (ps_for PassesOwn.never rfl (pi_listK (K := K) (pv 0)) (pg_name (i := 2) nd rfl (Or.inl rfl))
      (pss_cons (ps_set (i := 3) nd rfl (Or.inl rfl) (pe_lst pa_nil))
      (pss_cons (ps_for PassesOwn.never rfl (pi_listK (K := K) (pv 2)) (pg_tupK (K := K) rfl (pgs_cons (pg_name (i := 4) nd rfl (Or.inl rfl)) (pgs_cons (pg_name (i := 5) nd rfl (Or.inl rfl)) pgs_nil)))
        (pss_one (ps_expr (pe_bm PySem.F.plainAttrs_list PySem.F.slot_list_append PySem.F.type_list_append mt_append (pv 3) (pa_cons (pe_op op_add_str (pe_callTy call_str_int rfl T.z_str boot_str (pa_cons (pv 4) pa_nil)) (pe_ix (ix_lt (K := K)) (pe_lst (pa_cons pe_str (pa_cons (pe_op op_add_str pe_str (pe_callTy call_str_int rfl T.z_str boot_str (pa_cons (pv 5) pa_nil))) pa_nil))) (pe_callTy call_int1 rfl T.z_int boot_int (pa_cons (pe_cmpR op_gt (pv 5) pe_int (nomark _)) pa_nil)) (fun _ _ => rfl))) pa_nil)))))
      (pss_one (ps_expr (pe_bm PySem.F.plainAttrs_list PySem.F.slot_list_append PySem.F.type_list_append mt_append (pv 1) (pa_cons (pe_ix (ix_lt (K := K)) (pe_lst (pa_cons (pe_bm PySem.F.plainAttrs_str PySem.F.slot_str_join PySem.F.type_str_join (mt_join (K := K)) pe_str (pa_cons (pv 3) pa_nil)) (pa_cons pe_str pa_nil))) (pe_callTy call_int1 rfl T.z_int boot_int (pa_cons (pe_cmpR (op_eqD hr) (pv 2) (pe_lst pa_nil) (nomark _)) pa_nil)) (fun _ _ => rfl)) pa_nil)))))))
    (pss_one (ps_ret (pe_bm PySem.F.plainAttrs_str PySem.F.slot_str_join PySem.F.type_str_join (mt_join (K := K)) pe_str (pa_cons (pv 1) pa_nil))))), ?_⟩
  have len := ok.len
  have big : 16777216 = sizeLine := by decide
  have ls : (("*" : PySem.Str)).length = 1 := by decide +kernel
  obtain ⟨pa, xs, rfl, ep, rxs⟩ := rep_list rx
  have xl : xs.length = net.length := by rw [rxs.length, List.length_map]
  refine ⟨Nat.zero_le _, fun lp hlp => ?_⟩
  refine ⟨_, rfl, pa, rfl, ⟨xs, SqL.of (same_upd hlp _ _ _ ep)⟩, for_list (K := K) (xs := xs) (fun i σ' H' => ∃ c2 c3 c4 c5 : Option V, σ' = [some (.ref pa), some (.ref lp), c2, c3, c4, c5] ∧ Same H H' ∧ H' lp = some (.lst (((net.take i).map rtxt).map V.str))) ⟨none, none, none, none, rfl, same_upd hlp _, upd_same⟩ (fun i σ' H' _ ⟨_, _, _, _, _, hs, _⟩ => SqL.of (hs _ _ ep)) ?_ ?_⟩
  · rintro i y σ' H' hy ⟨c2, c3, c4, c5, rfl, hs, el⟩
    obtain ⟨r, hr', rr⟩ := reps_map rxs hy
    have hm := List.mem_of_getElem? hr'
    have hi := lt_of_get hr'
    have rok := ok.row hm
    have few := rok.few
    obtain ⟨b, rs, rfl, eb, rrs⟩ := rep_list rr
    have rl : rs.length = r.length := by rw [rrs.length, List.length_map]
    refine ⟨Nat.zero_le _, fun lw hlw => ?_⟩
    have hwp : lp ≠ lw := ne_of_none el hlw
    have hw0 : H lw = none := hs.free hlw
    refine ⟨_, rfl, b, rfl, ⟨rs, SqL.of (same_upd hlw _ _ _ (hs _ _ eb))⟩, for_list (K := K) (xs := rs) (fun j σ' H'' => ∃ c4 c5 : Option V, σ' = [some (.ref pa), some (.ref lp), some (.ref b), some (.ref lw), c4, c5] ∧ Same H H'' ∧ H'' lp = some (.lst (((net.take i).map rtxt).map V.str)) ∧ H'' lw = some (.lst (((r.take j).map aw).map V.str))) ⟨c4, c5, rfl, hs.trans (same_upd hlw _), same_upd hlw _ _ _ el, upd_same⟩ (fun i σ' H' _ ⟨_, _, _, hs, _⟩ => SqL.of (hs _ _ eb)) ?_ ?_⟩
    · rintro j z σ' H2 hz ⟨c4, c5, rfl, hs2, el2, ew2⟩
      obtain ⟨a, ha, rz⟩ := reps_map rrs hz
      obtain ⟨t, rfl, et⟩ := rep_arr rz
      have arr := rok.arr a (List.mem_of_getElem? ha)
      have hj := lt_of_get ha
      obtain ⟨n1, n2, b1, b2, b3⟩ := arr.nat
      have l1 := Parts.num_le (k := 1) (m := a.1.toNat) (by decide) (by omega)
      have l2 := Parts.num_le (k := 64) (by decide) b3
      have b4 : a.1.toNat < 10 ^ 64 := Nat.lt_trans b1 (by decide)
      refine ⟨t, _, rfl, SqT.of (hs2 _ _ et), rfl, _, _, rfl, _, _, rfl, rfl, ?_⟩
      refine ⟨_, rfl, .inl ⟨rfl, _, SqL.of ew2⟩, _, rfl, ((a.1.toNat : Nat) : Int), by rw [← n1], log_ok b4, ?_⟩
      refine ⟨_, rfl, ((a.2.toNat : Nat) : Int), by rw [← n2], log_ok b3, "*", num a.2.toNat, rfl, rfl, by show _ + (Parts.num _).length ≤ _; omega, (by show 2 ≤ sizeLine; decide), fun l2 hl2 => ?_⟩
      have s2 := same_upd hl2 (HO.lst [V.str "", V.str ("*" ++ num a.2.toNat)])
      have e2 : (upd H2 l2 (HO.lst [V.str "", V.str ("*" ++ num a.2.toNat)])) l2 = some (.lst [V.str "", V.str ("*" ++ num a.2.toNat)]) := upd_same
      generalize upd H2 l2 (HO.lst [V.str "", V.str ("*" ++ num a.2.toNat)]) = H3 at s2 e2 ⊢
      refine ⟨_, rfl, _, _, rfl, rfl, .inr ⟨_, rfl, ?_⟩⟩
      have emp : ∀ x : PySem.Str, x ++ "" = x := fun x => by
        apply Str.ext'
        apply Array.toList_inj.mp
        rw [Str.cps_append, Array.toList_append]
        exact List.append_nil _
      have asc : ∀ x y z : PySem.Str, x ++ (y ++ z) = x ++ y ++ z := fun x y z => by
        apply Str.ext'
        apply Array.toList_inj.mp
        simp only [Str.cps_append, Array.toList_append, List.append_assoc]
      obtain ⟨v, hv, hl, he⟩ : ∃ v : PySem.Str, atI [V.str "", V.str ("*" ++ num a.2.toNat)] (if decide (1 < a.2) = true then 1 else 0) = some (.str v) ∧ (num a.1.toNat).length + v.length ≤ sizeLine ∧ num a.1.toNat ++ v = aw a := by
        by_cases c : a.2 = 1
        · refine ⟨"", ?_, ?_, ?_⟩
          · rw [decide_eq_false (by omega)]
            rfl
          · have : (("" : PySem.Str)).length = 0 := by decide +kernel
            show (Parts.num _).length + _ ≤ _
            omega
          · unfold aw
            rw [if_pos c]
            exact emp _
        · have w0 := arr.w0
          refine ⟨"*" ++ num a.2.toNat, ?_, ?_, ?_⟩
          · rw [decide_eq_true (by omega)]
            rfl
          · rw [Str.length_append]
            show (Parts.num _).length + (_ + (Parts.num _).length) ≤ _
            omega
          · unfold aw
            rw [if_neg c]
            exact asc _ _ _
      refine .inl ⟨l2, _, _, _, rfl, rfl, SqL.of e2, hv, num a.1.toNat, v, rfl, rfl, hl, ?_⟩
      rw [he]
      have ew3 := s2 _ _ ew2
      refine ⟨lw, _, _, rfl, rfl, ew3, small1000 (by rw [List.length_map, List.length_map, List.length_take]; omega), _, _, rfl, ?_, ?_, ?_⟩
      · intro c o e
        rw [upd_ne (ne_of_none e hw0)]
        exact s2 _ _ (hs2 _ _ e)
      · rw [upd_ne hwp]
        exact s2 _ _ el2
      · rw [upd_same, List.take_succ, ha, Option.toList_some, List.map_append, List.map_append]
        rfl
    rintro σ' H2 ⟨c4, c5, rfl, hs2, el2, ew2⟩
    rw [rl, List.take_length] at ew2
    have jo := rtxt_join r rok.few rok.arr
    refine ⟨_, rfl, .inl ⟨rfl, _, SqL.of el2⟩, rfl, _, rfl, " ", lw, r.map aw, rfl, rfl, SqL.of ew2, jo.1, jo.2.1, (by show 2 ≤ sizeLine; decide), fun l2 hl2 => ?_⟩
    have s2 := same_upd hl2 (HO.lst [V.str (Txt.join " " (r.map aw)), V.str "-"])
    refine ⟨_, rfl, Nat.zero_le _, fun l3 hl3 => ?_⟩
    have s3 := same_upd hl3 (HO.lst [])
    have k3 := s2.trans s3
    refine ⟨_, _, rr.mono (hs2.trans k3), .lst upd_same .nil, (okTo_row r).shaped (by decide), shaped_nil, .inr ⟨_, rfl, ?_⟩⟩
    have ev : atI [V.str (Txt.join " " (r.map aw)), V.str "-"] (if PyData.eqv (rowD r) (.list []) = true then 1 else 0) = some (.str (rtxt r)) := by
      rw [eqv_row_nil]
      unfold rtxt
      by_cases c : r = []
      · rw [decide_eq_true c, if_pos rfl, if_pos c]
        rfl
      · rw [decide_eq_false c, if_neg Bool.false_ne_true, if_neg c]
        rfl
    refine .inl ⟨l2, _, _, _, rfl, rfl, SqL.of (s3 _ _ upd_same), ev, lp, _, _, rfl, rfl, k3 _ _ el2, small1000 (by rw [List.length_map, List.length_map, List.length_take]; omega), _, _, _, _, rfl, ?_, ?_⟩
    · intro c o e
      rw [upd_ne (ne_of_none e hlp)]
      exact k3 _ _ (hs2 _ _ e)
    · rw [upd_same, List.take_succ, hr', Option.toList_some, List.map_append, List.map_append]
      rfl
  rintro σ' H1 ⟨c2, c3, c4, c5, rfl, s1, el⟩
  rw [xl, List.take_length] at el
  have lo := ntxt_len ok
  exact ⟨rfl, _, rfl, "; ", lp, net.map rtxt, rfl, rfl, SqL.of el, lo.1, lo.2.1, q _ s1⟩
def sp_word : Sp := fun vs H Q _ => ∃ o, vs = [optV o] ∧ (∀ n, o = some n → n < 8) ∧ Q (.str (ew o)) H
theorem def__law_word (T : Txt mg) (h : Here K mg "_law_word" s__law_word ["_law_end"]) : Def P w K mg base "_law_word" 1 ["_law_end"] sp_word := h.mk fun f fd F => by
  have nd := sc__law_word.nd
  refine F.ok sc__law_word (fun vs H Q E h => ?_) (fun cdv A outer s H vs Q E hr h => ?_)
  · obtain ⟨o, rfl, _⟩ := h
    rfl
  obtain ⟨o, rfl, ho, q⟩ := h
  refine ⟨_, pss_cons (ps_if (pt_cmp (pc_isN (pv 0)))
      (pss_one (ps_ret pe_str))
      (pss_nil))
    (pss_one (ps_ret (pe_callTy call_str_int rfl T.z_str boot_str (pa_cons (pv 0) pa_nil)))), ?_⟩
  cases o with
  | none => exact ⟨_, rfl, _, rfl, q⟩
  | some n =>
    have hn := ho n rfl
    refine ⟨_, rfl, _, rfl, _, rfl, _, rfl, Nat.lt_of_le_of_lt (Nat.log2_le_self n) (by omega), ?_⟩
    rw [dg_str n hn]
    exact q
def sp_copyD : Sp := fun vs H Q _ => ∃ v ds, vs = [v] ∧ Rep H v (.list ds) ∧ (∀ d ∈ ds, ∃ es, d = .list es) ∧ ds.length ≤ 900 ∧ ∀ D H', Same H H' → Rep H' (.ref D) (.list ds) → Q (.ref D) H'
theorem def__law_copy (T : Txt mg) (h : Here K mg "_law_copy" s__law_copy ["_law_net_here"]) : Def P w K mg base "_law_copy" 1 ["_law_net_here"] sp_copyD := h.mk fun f fd F => by
  have nd := sc__law_copy.nd
  refine F.ok sc__law_copy (fun vs H Q E h => ?_) (fun cdv A outer s H vs Q E hr h => ?_)
  · obtain ⟨v, ds, rfl, _⟩ := h
    rfl
  obtain ⟨v, ds, rfl, rn, hd, hl, q⟩ := h
  refine ⟨_, pss_one (ps_ret (pe_comp (N' := ["_law_row"]) (cap := [none]) rfl ⟨rfl, rfl, rfl, rfl, rfl, rfl⟩ (pi_listK (K := K) (pv 0)) (fun _ _ _ _ _ _ => ⟨pg_name (i := 0) (show (["_law_row"] : List Str).Nodup by decide +kernel) rfl (Or.inl rfl) (Or.inr rfl), pifs_nil, pe_callTy (call_listK (K := K)) rfl T.z_list boot_list (pa_cons (pv 0) pa_nil)⟩) (keeps_name rfl))), ?_⟩
  obtain ⟨a, xs, rfl, ea, rs⟩ := rep_list rn
  have xl : xs.length = ds.length := rs.length
  refine ⟨_, rfl, a, rfl, ⟨xs, SqL.of ea⟩, fun D hD => ?_⟩
  refine comp_list (K := K) (xs := xs) (fun i G ys => Same H G ∧ Reps G ys (ds.take i)) hD ⟨Same.refl _, .nil⟩ (fun i G ys p => SqL.of (p.1 _ _ ea)) (fun i y G ys hy hG p => ?_) (fun G ys hG p => ?_)
  · obtain ⟨d, hdi, rd⟩ := rs.get hy
    obtain ⟨es, rfl⟩ := hd d (List.mem_of_getElem? hdi)
    obtain ⟨b, zs, rfl, eb, rb⟩ := rep_list rd
    have hi := lt_of_get hy
    have s1 := same_upd hG (HO.lst ys)
    refine ⟨_, rfl, b, _, rfl, .inl (SqL.of (s1 _ _ (p.1 _ _ eb))), fun l hln => ?_⟩
    have hlD : l ≠ D := by rintro rfl; rw [upd_same] at hln; cases hln
    have s2 := same_upd hln (HO.lst zs)
    have sG : Same G (del (upd (upd G D (.lst ys)) l (.lst zs)) D) := same_del (Same.refl _) hG s2
    have hyl : ys.length ≤ i := by rw [p.2.length, List.length_take]; omega
    refine cput (ys := ys) (s2 _ _ upd_same) (by omega) ⟨p.1.trans sG, ?_⟩
    rw [List.take_succ, hdi, Option.toList_some]
    exact (p.2.mono sG).snoc (.lst (by rw [del_ne hlD]; exact upd_same) (rb.mono (p.1.trans sG)))
  · have e := p.2
    rw [xl, List.take_length] at e
    have sD := same_upd hG (HO.lst ys)
    exact q D _ (p.1.trans sD) (.lst upd_same (e.mono sD))
def sp_piles (K : PySem.W.Frag) : Sp := fun vs H Q _ => ∃ (v : V) (net : Net) (a : Addr) (ns : List Int), vs = [v, .ref a] ∧ SqL K H a (ns.map V.int) ∧ ns.length ≤ 63 ∧ Rep H v (netD net) ∧ NetC net ∧ ∀ p pP H', Fit net p → Same H H' → Rep H' (.ref pP) (ringsD p) → Q (.ref pP) H'
theorem def__law_piles (T : Txt mg) (h : Here K mg "_law_piles" s__law_piles ["_law_net_here", "_law_script"]) : Def P w K mg base "_law_piles" 1 ["_law_net_here", "_law_script"] (sp_piles K) := h.mk fun f fd F => by
  have nd := sc__law_piles.nd
  refine F.ok sc__law_piles (fun vs H Q E h => ?_) (fun cdv A outer s H vs Q E hr h => ?_)
  · obtain ⟨v, net, a, ns, rfl, _⟩ := h
    rfl
  obtain ⟨v, net, a, ns, rfl, hS, h63, rn, ok, q⟩ := h
  refine ⟨_, pss_cons (ps_setC (i := 2) nd rfl rfl (N' := ["_law_row"]) (cap := [none]) rfl ⟨rfl, rfl, rfl, rfl, rfl, rfl⟩ (pi_listK (K := K) (pv 0)) (fun _ _ _ _ _ _ => ⟨pg_name (i := 0) (show (["_law_row"] : List Str).Nodup by decide +kernel) rfl (Or.inl rfl) (Or.inr rfl), pifs_nil, pe_lst pa_nil⟩) (keeps_name rfl))
    (pss_cons (ps_for PassesOwn.never rfl (pi_listK (K := K) (pe_slice (sl_listK (K := K)) (pv 1) po_none (po_some pe_int))) (pg_name (i := 3) nd rfl (Or.inl rfl))
      (pss_cons (ps_set (i := 4) nd rfl (Or.inl rfl) (pe_modA (pv 3) (pe_callB (call_lenK (K := K)) rfl T.z_len PySem.boot_len (pa_cons (pv 0) pa_nil))))
      (pss_cons (ps_set (i := 5) nd rfl (Or.inl rfl) (pe_ix (ix_lt (K := K)) (pv 0) (pv 4) (fun _ _ => rfl)))
      (pss_one (ps_if (PW.pt (pw_and (pt_cmpR (op_neD hr) (pv 5) (pe_lst pa_nil) (nomark _)) (pw_and1 (pt_cmpR op_lt (pe_callB (call_lenK (K := K)) rfl T.z_len PySem.boot_len (pa_cons (pe_ix (ix_lt (K := K)) (pv 2) (pv 4) (fun _ _ => rfl)) pa_nil)) pe_int (nomark _)))))
        (pss_one (ps_expr (pe_bm PySem.F.plainAttrs_list PySem.F.slot_list_append PySem.F.type_list_append mt_append (pe_ix (ix_lt (K := K)) (pv 2) (pv 4) (fun _ _ => rfl)) (pa_cons (pe_ix (ix_lt (K := K)) (pe_ix (ix_lt (K := K)) (pv 5) (pe_modA (pe_op op_fdivB (pv 3) (pe_callB (call_lenK (K := K)) rfl T.z_len PySem.boot_len (pa_cons (pv 0) pa_nil))) (pe_callB (call_lenK (K := K)) rfl T.z_len PySem.boot_len (pa_cons (pv 5) pa_nil))) (fun _ _ => rfl)) pe_int (fun _ _ => rfl)) pa_nil))))
        (pss_nil))))))
    (pss_one (ps_ret (pv 2)))), ?_⟩
  obtain ⟨na, xs, rfl, en, ra⟩ := rep_list rn
  have la : xs.length = net.length := by rw [ra.length, List.length_map]
  have h8 := ok.len
  have h1 := ok.pos
  refine ⟨_, rfl, na, rfl, ⟨xs, SqL.of en⟩, fun pP hP => ?_⟩
  refine comp_list (K := K) (xs := xs) (fun i G ys => ∃ ad : List Addr, ys = ad.map V.ref ∧ ad.length = i ∧ ad.Nodup ∧ Same H G ∧ ∀ b ∈ ad, H b = none ∧ G b = some (.lst [])) hP ⟨[], rfl, rfl, .nil, Same.refl _, by simp⟩ (fun i G ys ⟨_, _, _, _, s, _⟩ => SqL.of (s _ _ en)) (fun i x G ys hx hG p => ?_) (fun G ys hG p => ?_)
  · obtain ⟨ad, rfl, hl, hnd, hs, had⟩ := p
    have hi := lt_of_get hx
    refine ⟨Nat.zero_le _, fun l hln => ?_⟩
    have hlD : l ≠ pP := by rintro rfl; rw [upd_same] at hln; cases hln
    have hlG : G l = none := by rw [upd_ne hlD] at hln; exact hln
    refine cput (ys := ad.map V.ref) (same_upd hln _ _ _ upd_same) (by rw [List.length_map]; omega) ⟨ad ++ [l], by simp, by simp [hl], ?_, same_del hs hG (same_upd hln _), fun b hb => ?_⟩
    · rw [List.nodup_append]
      refine ⟨hnd, by simp, fun x hx y hy e => ?_⟩
      have hy' : y = l := by simpa using hy
      rw [e, hy'] at hx
      have := (had l hx).2
      rw [hlG] at this
      cases this
    · rcases List.mem_append.mp hb with z | z
      · obtain ⟨h1, h2⟩ := had b z
        refine ⟨h1, ?_⟩
        have hbD : b ≠ pP := ne_of_none h2 hG
        rw [del_ne hbD]
        exact same_upd hln _ _ _ (by rw [upd_ne hbD]; exact h2)
      · have z' : b = l := by simpa using z
        subst z'
        exact ⟨hs.free hlG, by rw [del_ne hlD]; exact upd_same⟩
  obtain ⟨ad, rfl, hl, hnd, hs, had⟩ := p
  have B0 : AnyAt H (upd G pP (.lst (ad.map V.ref))) pP ad (List.replicate net.length []) := by
    have np : pP ∉ ad := fun z => by have := (had pP z).2; rw [hG] at this; cases this
    refine ⟨hs.trans (same_upd hG _), upd_same, hP, hnd, np, fun b hb => (had b hb).1, by rw [List.length_replicate]; omega, fun i b t h1 h2 => ?_⟩
    have hb := List.mem_of_getElem? h1
    have ht := (List.mem_replicate.mp (List.mem_of_getElem? h2)).2
    have hbp : b ≠ pP := fun z => np (z ▸ hb)
    rw [upd_ne hbp, (had b hb).2, ht]
    rfl
  generalize upd G pP (.lst (ad.map V.ref)) = H1 at B0 ⊢
  clear had hG hs
  refine ⟨_, rfl, _, rfl, a, _, rfl, B0.keep.seq hS, fun l hl => ?_⟩
  have cl : (cutV (ns.map V.int) none (some 200)).length ≤ 63 := Nat.le_trans (cutV_length _ _ _) (by rw [List.length_map]; exact h63)
  have ci : ∀ x ∈ cutV (ns.map V.int) none (some 200), ∃ z : Int, x = .int z := fun x hx => by
    unfold cutV at hx
    obtain ⟨z, _, e⟩ := List.mem_map.mp (List.mem_of_mem_drop (List.mem_of_mem_take hx))
    exact ⟨z, e.symm⟩
  generalize cutV (ns.map V.int) none (some 200) = cs at cl ci ⊢
  have B1 := B0.more (same_upd hl (HO.lst cs))
  have hla : l ∉ ad := fun z => by
    obtain ⟨i, hi⟩ := List.mem_iff_getElem?.mp z
    have hi' : i < (List.replicate net.length ([] : List Nat)).length := by rw [← B0.len]; exact lt_of_get hi
    have := B0.rep i l _ hi (List.getElem?_eq_getElem hi')
    rw [hl] at this
    cases this
  refine ⟨l, rfl, ⟨_, SqL.of upd_same⟩, for_list (K := K) (xs := cs) (fun i σ' H' => ∃ (p : Piles) (c3 c4 c5 : Option V), σ' = [some (.ref na), some (.ref a), some (.ref pP), c3, c4, c5] ∧ AnyAt H H' pP ad p ∧ H' l = some (.lst cs) ∧ Fit net p) ?_ (fun i σ' H' _ ⟨_, _, _, _, _, _, e, _⟩ => SqL.of e) ?_ ?_⟩
  · refine ⟨_, none, none, none, rfl, B1, upd_same, List.length_replicate, fun j row t _ ht => ?_⟩
    rw [(List.mem_replicate.mp (List.mem_of_getElem? ht)).2]
    exact ⟨Nat.zero_le _, fun n hn => nomatch hn⟩
  · rintro i x σ' H' hx ⟨p, c3, c4, c5, rfl, B, hlc, fit⟩
    have hpl := fit.len
    obtain ⟨z, rfl⟩ := ci x (List.mem_of_getElem? hx)
    refine ⟨_, rfl, _, rfl, _, rfl, na, _, rfl, .inl (SqL.of (B.keep _ _ en)), _, rfl, by omega, fun z1 hz0 hz1 => ?_⟩
    obtain ⟨j, rfl⟩ := Int.eq_ofNat_of_zero_le hz0
    have hjx : j < xs.length := by omega
    obtain ⟨row, hrow, rrow⟩ := reps_map ra (List.getElem?_eq_getElem hjx)
    obtain ⟨b, rxs, exb, eb, rb⟩ := rep_list rrow
    have lrx : rxs.length = row.length := by rw [rb.length, List.length_map]
    have hatx : atI xs (j : Int) = some (.ref b) := by rw [← exb]; exact atI_nat (List.getElem?_eq_getElem hjx)
    refine ⟨_, rfl, _, rfl, .inl ⟨na, _, _, _, rfl, rfl, SqL.of (B.keep _ _ en), hatx, ?_⟩⟩
    refine ⟨_, rfl, Nat.zero_le _, fun l2 hl2 => ?_⟩
    have s2 := same_upd hl2 (HO.lst [])
    have B2 := B.more s2
    have rb2 : Rep (upd H' l2 (HO.lst [])) (.ref b) (rowD row) := .lst (B2.keep _ _ eb) (rb.mono B2.keep)
    refine ⟨_, _, rb2, .lst upd_same .nil, (okTo_row row).shaped (by decide), shaped_nil, _, rfl, ?_⟩
    show if (!PyData.eqv (rowD row) (.list [])) = true then _ else _
    rw [eqv_row_nil]
    have hlc2 := s2 _ _ hlc
    generalize upd H' l2 (HO.lst []) = H2 at B2 hlc2 ⊢
    have same : ∃ (p' : Piles) (c3 c4 c5 : Option V), [some (.ref na), some (.ref a), some (.ref pP), some (V.int z), some (.int (j : Int)), some (.ref b)] = [some (.ref na), some (.ref a), some (.ref pP), c3, c4, c5] ∧ AnyAt H H2 pP ad p' ∧ H2 l = some (.lst cs) ∧ Fit net p' := ⟨p, _, _, _, rfl, B2, hlc2, fit⟩
    refine iteB (fun c => ?_) (fun _ => same)
    have hne : row ≠ [] := by simpa using c
    have hpos : 0 < row.length := List.length_pos_iff.mpr hne
    have hja : j < ad.length := by rw [B2.len, hpl]; omega
    have hjp : j < p.length := by rw [hpl]; omega
    have hb : ad[j]? = some ad[j] := List.getElem?_eq_getElem hja
    have ht : p[j]? = some p[j] := List.getElem?_eq_getElem hjp
    have ebj := B2.rep j _ _ hb ht
    have hat : atI (ad.map V.ref) (j : Int) = some (.ref ad[j]) := atI_nat (by rw [List.getElem?_map, hb]; rfl)
    refine ⟨_, rfl, _, rfl, .inl ⟨pP, _, _, _, rfl, rfl, SqL.of B2.at', hat, ad[j], _, rfl, .inl (SqL.of ebj), _, _, rfl, rfl, _, rfl, iteD (fun hlt => ?_) (fun _ => same)⟩⟩
    refine ⟨_, rfl, _, rfl, .inl ⟨pP, _, _, _, rfl, rfl, SqL.of B2.at', hat, .inl ⟨rfl, _, SqL.of ebj⟩, ?_⟩⟩
    have hlg : ((xs.length : Nat) : Int).natAbs.log2 < 9000 := Nat.lt_of_le_of_lt (Nat.log2_le_self _) (by omega)
    refine ⟨_, rfl, _, rfl, _, rfl, na, _, rfl, .inl (SqL.of (B2.keep _ _ en)), _, _, rfl, rfl, ⟨by omega, hlg⟩, _, rfl, _, rfl, b, _, rfl, .inl (SqL.of (B2.keep _ _ eb)), _, rfl, by omega, fun u hu0 hu1 => ?_⟩
    obtain ⟨k, rfl⟩ := Int.eq_ofNat_of_zero_le hu0
    have hk : k < rxs.length := by omega
    obtain ⟨a0, ha0, rx0⟩ := reps_map rb (List.getElem?_eq_getElem hk)
    obtain ⟨ta, ext, eta⟩ := rep_arr rx0
    have hatk : atI rxs (k : Int) = some (.ref ta) := by rw [← ext]; exact atI_nat (List.getElem?_eq_getElem hk)
    have win := (ok.rows row (List.mem_of_getElem? hrow)).within a0 (List.mem_of_getElem? ha0)
    obtain ⟨e, he⟩ := Int.eq_ofNat_of_zero_le win.1
    refine .inl ⟨b, _, _, _, rfl, rfl, SqL.of (B2.keep _ _ eb), hatk, .inr ⟨ta, _, 0, _, rfl, rfl, SqT.of (B2.keep _ _ eta), atI0 _ _, ?_⟩⟩
    rw [he]
    have hl40 : p[j].length < 40 := by rw [natsV_len] at hlt; omega
    have hlj : l ≠ ad[j] := fun z => hla (by rw [z]; exact List.getElem_mem hja)
    refine ⟨ad[j], _, _, rfl, rfl, ebj, small1000 (by rw [natsV_len]; omega), p.set j (p[j] ++ [e]), _, _, _, rfl, B2.write hb ht, by rw [upd_ne hlj]; exact hlc2, by rw [List.length_set]; exact hpl, fun j' row' t' hr' ht' => ?_⟩
    by_cases hj : j' = j
    · subst hj
      rw [hrow] at hr'
      cases hr'
      rw [List.getElem?_set_self hjp] at ht'
      cases ht'
      obtain ⟨_, hin⟩ := fit.ok j' row _ hrow ht
      refine ⟨by rw [List.length_append, List.length_singleton]; omega, fun n hn => ?_⟩
      rcases List.mem_append.mp hn with y | y
      · exact hin n y
      · have : n = e := by simpa using y
        subst this
        exact List.mem_map.mpr ⟨a0, List.mem_of_getElem? ha0, he⟩
    · rw [List.getElem?_set_ne (Ne.symm hj)] at ht'
      exact fit.ok j' row' t' hr' ht'
  · rintro σ' H' ⟨p, c3, c4, c5, rfl, B, hlc, fit⟩
    exact ⟨_, rfl, q p pP H' fit B.keep (.lst B.at' (reps_of B.len B.rep))⟩
end
end Law

namespace Law
open PySem L2 Ways Ring PyProof.Rows
seal L2.PE L2.PA L2.PS L2.PSs L2.PG L2.PT
section
variable {P : Program} {w : World} {K : PySem.W.Frag} {mg : Str → Option Value} {base : Heap}
/-! ### the law's own readers -/
theorem filt_len {α β : Type} (p : α → Bool) (f : α → β) : ∀ l : List α, (l.filterMap fun c => if p c = true then some (f c) else none).length = l.length ↔ l.all p = true
  | [] => ⟨fun _ => rfl, fun _ => rfl⟩
  | a :: l => by
    have ih := filt_len p f l
    have hle := List.length_filterMap_le (fun c => if p c = true then some (f c) else none) l
    rw [List.filterMap_cons, List.all_cons]
    by_cases h : p a = true
    · rw [if_pos h, h, Bool.true_and]
      show (List.filterMap _ l).length + 1 = l.length + 1 ↔ _
      exact Iff.trans ⟨fun z => Nat.succ.inj z, fun z => congrArg Nat.succ z⟩ ih
    · rw [if_neg h, Bool.eq_false_iff.mpr h, Bool.false_and]
      show (List.filterMap _ l).length = l.length + 1 ↔ _
      exact ⟨fun z => by omega, fun z => nomatch z⟩
def sp_number : Sp := fun vs H Q _ => ∃ x, vs = [.str x] ∧ x.length ≤ 250000 ∧ ∀ H', Same H H' → Q (optV (numOf x)) H'
theorem def__law_number (T : Txt mg) (h : Here K mg "_law_number" s__law_number ["_law_word_here"]) : Def P w K mg base "_law_number" 1 ["_law_word_here"] sp_number := h.mk fun f fd F => by
  have nd := sc__law_number.nd
  refine F.ok sc__law_number (fun vs H Q E h => ?_) (fun cdv A outer s H vs Q E hr h => ?_)
  · obtain ⟨x, rfl, _⟩ := h
    rfl
  obtain ⟨x, rfl, hx, q⟩ := h
  refine ⟨_, pss_cons (ps_if (PW.pt (pw_or (pt_cmpR op_eq (pv 0) pe_str (nomark _)) (pw_or (pt_cmpR op_gt (pe_callB call_len_str rfl T.z_len PySem.boot_len (pa_cons (pv 0) pa_nil)) pe_int (nomark _)) (pw_or1 (PW.pt (pw_and (pt_cmpR op_gt (pe_callB call_len_str rfl T.z_len PySem.boot_len (pa_cons (pv 0) pa_nil)) pe_int (nomark _)) (pw_and1 (pt_cmpR op_eq (pe_ix ix_str (pv 0) pe_int (fun _ _ => rfl)) pe_str (nomark _)))))))))
      (pss_one (ps_ret pe_non))
      (pss_nil))
    (pss_cons (ps_if (pt_cmpR op_ne (pe_callB (call_lenK (K := K)) rfl T.z_len PySem.boot_len (pa_cons (pe_comp (N' := ["_law_sign"]) (cap := [none]) rfl ⟨rfl, rfl, rfl, rfl, rfl, rfl⟩ (pi_str (pv 0)) (fun _ _ _ _ _ _ => ⟨pg_name (i := 0) (show (["_law_sign"] : List Str).Nodup by decide +kernel) rfl (Or.inl rfl) (Or.inr rfl), pifs_one (pt_cmpR op_in_str (pv 0) pe_str rfl), pv 0⟩) (keeps_name rfl)) pa_nil)) (pe_callB call_len_str rfl T.z_len PySem.boot_len (pa_cons (pv 0) pa_nil)) (nomark _))
      (pss_one (ps_ret pe_non))
      (pss_nil))
    (pss_one (ps_ret (pe_callTy call_int_str rfl T.z_int boot_int (pa_cons (pv 0) pa_nil))))), ?_⟩
  have big := line20
  have no : ¬ GoodN x → ∀ H', Same H H' → Q .non H' := fun g H' s' => by
    have := q H' s'
    rw [numOf_no g] at this
    exact this
  refine ⟨_, rfl, rfl, _, rfl, iteD (fun c => ?_) (fun c => ?_)⟩
  · have c' : x = "" := V.str.inj c
    exact no (fun g => by have := g.1; rw [c'] at this; exact absurd this (by decide +kernel)) _ (Same.refl _)
  have l1 : 1 ≤ x.length := by
    rcases Nat.eq_zero_or_pos x.length with z | z
    · refine absurd ?_ c
      congr 1
      apply Str.ext'
      exact Array.eq_empty_of_size_eq_zero z
    · exact z
  refine ⟨_, rfl, _, rfl, (by omega), _, _, rfl, rfl, _, rfl, iteD (fun c2 => ?_) (fun c2 => ?_)⟩
  · exact no (fun g => by have := g.2.1; omega) _ (Same.refl _)
  have l2 : x.length ≤ 30 := by omega
  have ll := Parts.len_list x
  cases ec : x.cps.toList with
  | nil =>
    rw [ec] at ll
    have : 0 = x.length := ll
    omega
  | cons c0 r =>
  have hd0 : x.cps.toList[0]? = some c0 := by rw [ec]; rfl
  refine ⟨_, rfl, _, rfl, (by omega), _, _, rfl, rfl, _, rfl, iteD (fun c3 => ?_) (fun c3 => ?_)⟩
  · refine ⟨_, rfl, x, 0, c0, rfl, rfl, (by omega), by rw [ec]; exact atI0 _ _, rfl, _, rfl, iteD (fun z => ?_) (fun z => ?_)⟩
    · have z1 : (⟨#[c0]⟩ : PySem.Str) = "0" := V.str.inj z
      have z2 : [c0] = [48] := congrArg (fun t : PySem.Str => t.cps.toList) z1
      have z3 : c0 = 48 := (List.cons.inj z2).1
      exact no (fun g => by have := g.2.2.2 (by rw [hd0, z3]); omega) _ (Same.refl _)
    · have hh : x.cps.toList[0]? = some 48 → x.length = 1 := fun e => by rw [hd0] at e; cases e; exact absurd rfl z
      refine ⟨_, rfl, x, rfl, fun D hD => ?_⟩
      have sz : x.cps.size = x.length := rfl
      refine comp_str (z := x) (FlatP H fun i => (x.cps.toList[i]?).bind fun c => if decide (c ∈ ("0123456789" : PySem.Str).cps.toList) = true then some (V.str ⟨#[c]⟩) else none) hD FlatP.zero (fun i c G ys hc hG p => ?_) (fun G ys hG p => ?_)
      · have hi : i < x.length := by rw [← sz]; exact (Array.getElem?_eq_some_iff.mp hc).1
        have hc' : x.cps.toList[i]? = some c := by rw [Array.getElem?_toList]; exact hc
        refine ⟨_, rfl, _, _, rfl, rfl, _, rfl, ?_⟩
        rw [StrLaws.found_one]
        exact iteB (fun hm => ⟨_, rfl, p.put hG (Same.refl _) (by rw [hc']; exact if_pos hm) (by omega)⟩) (fun hm => p.skip hG (Same.refl _) (by rw [hc']; exact if_neg (by rw [hm]; exact Bool.false_ne_true)))
      have s1 := p.1.trans (same_upd hG (.lst ys))
      have ey : ys = x.cps.toList.filterMap fun c => if decide (c ∈ ("0123456789" : PySem.Str).cps.toList) = true then some (V.str ⟨#[c]⟩) else none := by
        have := p.2
        rw [sz, ← ll, flat_list] at this
        exact this
      have iff := filt_len (fun c => decide (c ∈ ("0123456789" : PySem.Str).cps.toList)) (fun c => V.str ⟨#[c]⟩) x.cps.toList
      rw [← ey, ll] at iff
      refine ⟨D, ys, rfl, .inl (SqL.of upd_same), _, rfl, x, rfl, (by omega), rfl, _, rfl, iteB (fun c => ?_) (fun c => ?_)⟩
      · exact no (fun g => ne_t c (iff.mpr g.2.2.1)) _ s1
      · obtain ⟨m, hm⟩ := numOf_yes ⟨l1, l2, iff.mp (ne_f c), hh⟩
        have q' := q _ s1
        rw [hm] at q'
        exact ⟨_, rfl, x, _, rfl, (numOf_is hm).2, (by omega), q'⟩
  · have hh : x.cps.toList[0]? = some 48 → x.length = 1 := fun e => by omega
    refine ⟨_, rfl, x, rfl, fun D hD => ?_⟩
    have sz : x.cps.size = x.length := rfl
    refine comp_str (z := x) (FlatP H fun i => (x.cps.toList[i]?).bind fun c => if decide (c ∈ ("0123456789" : PySem.Str).cps.toList) = true then some (V.str ⟨#[c]⟩) else none) hD FlatP.zero (fun i c G ys hc hG p => ?_) (fun G ys hG p => ?_)
    · have hi : i < x.length := by rw [← sz]; exact (Array.getElem?_eq_some_iff.mp hc).1
      have hc' : x.cps.toList[i]? = some c := by rw [Array.getElem?_toList]; exact hc
      refine ⟨_, rfl, _, _, rfl, rfl, _, rfl, ?_⟩
      rw [StrLaws.found_one]
      exact iteB (fun hm => ⟨_, rfl, p.put hG (Same.refl _) (by rw [hc']; exact if_pos hm) (by omega)⟩) (fun hm => p.skip hG (Same.refl _) (by rw [hc']; exact if_neg (by rw [hm]; exact Bool.false_ne_true)))
    have s1 := p.1.trans (same_upd hG (.lst ys))
    have ey : ys = x.cps.toList.filterMap fun c => if decide (c ∈ ("0123456789" : PySem.Str).cps.toList) = true then some (V.str ⟨#[c]⟩) else none := by
      have := p.2
      rw [sz, ← ll, flat_list] at this
      exact this
    have iff := filt_len (fun c => decide (c ∈ ("0123456789" : PySem.Str).cps.toList)) (fun c => V.str ⟨#[c]⟩) x.cps.toList
    rw [← ey, ll] at iff
    refine ⟨D, ys, rfl, .inl (SqL.of upd_same), _, rfl, x, rfl, (by omega), rfl, _, rfl, iteB (fun c => ?_) (fun c => ?_)⟩
    · exact no (fun g => ne_t c (iff.mpr g.2.2.1)) _ s1
    · obtain ⟨m, hm⟩ := numOf_yes ⟨l1, l2, iff.mp (ne_f c), hh⟩
      have q' := q _ s1
      rw [hm] at q'
      exact ⟨_, rfl, x, _, rfl, (numOf_is hm).2, (by omega), q'⟩
def sp_arrow : Sp := fun vs H Q _ => ∃ x, vs = [.str x] ∧ x.length ≤ 250000 ∧ ∀ v F H', New H F H' → Rep F v ((rdA x).getD .none) → Q v H'
theorem def__law_arrow (T : Txt mg) (D__law_number : Def P w K mg base "_law_number" 1 ["_law_word_here"] sp_number) (h : Here K mg "_law_arrow" s__law_arrow ["_law_word_here"]) : Def P w K mg base "_law_arrow" 2 ["_law_word_here"] sp_arrow := h.mk fun f fd F => by
  have nd := sc__law_arrow.nd
  refine F.ok sc__law_arrow (fun vs H Q E h => ?_) (fun cdv A outer s H vs Q E hr h => ?_)
  · obtain ⟨x, rfl, _⟩ := h
    rfl
  obtain ⟨x, rfl, hx, q⟩ := h
  refine ⟨_, pss_cons (ps_asg (pe_bm PySem.F.plainAttrs_str PySem.F.slot_str_partition PySem.F.type_str_partition mt_partition (pv 0) (pa_cons pe_str pa_nil)) (pg_tupK (K := K) rfl (pgs_cons (pg_name (i := 1) nd rfl (Or.inl rfl)) (pgs_cons (pg_name (i := 2) nd rfl (Or.inl rfl)) (pgs_cons (pg_name (i := 3) nd rfl (Or.inl rfl)) pgs_nil)))))
    (pss_cons (ps_set (i := 4) nd rfl (Or.inl rfl) pe_int)
    (pss_cons (ps_if (pt_cmpR op_ne (pv 2) pe_str (nomark _))
      (pss_one (ps_set (i := 4) nd rfl (Or.inl rfl) (pe_callD D__law_number hr rfl (pa_cons (pv 3) pa_nil))))
      (pss_nil))
    (pss_cons (ps_if (PW.pt (pw_or (pt_cmp (pc_isN (pe_callD D__law_number hr rfl (pa_cons (pv 1) pa_nil)))) (pw_or (pt_cmp (pc_isN (pv 4))) (pw_or1 (PW.pt (pw_and (pt_cmpR op_ne (pv 2) pe_str (nomark _)) (pw_and1 (pt_cmpR op_lt (pv 4) pe_int (nomark _)))))))))
      (pss_one (ps_ret pe_non))
      (pss_nil))
    (pss_one (ps_ret (pe_tup (pa_cons (pe_callD D__law_number hr rfl (pa_cons (pv 1) pa_nil)) (pa_cons (pv 4) pa_nil)))))))), ?_⟩
  have big := line20
  have no : arrOf x = none → ∀ H', Same H H' → Q .non H' := fun z H' s' => q _ _ H' ((New.start H).more s') (by unfold rdA; rw [z]; exact .non)
  have yes : ∀ n w, arrOf x = some (n, w) → ∀ t H', Same H H' → H t = none → H' t = some (.tup [.int (n : Int), .int (w : Int)]) → Q (.ref t) H' := fun n w z t H' s' ht et =>
    q _ _ H' (((New.start H).more s').see et rfl ht) (by unfold rdA; rw [z]; exact .tup upd_same (.cons (.int _) (.cons (.int _) .nil)))
  refine ⟨_, rfl, rfl, x, "*", rfl, rfl, by decide +kernel, by omega, fun l hl => ?_⟩
  rcases cut_or x with e | ⟨a, b, e, la, lb⟩
  · have ea := arrOf_no e
    rw [e]
    have s1 := same_upd hl (HO.tup [V.str x, V.str Str.empty, V.str Str.empty])
    refine ⟨l, _, rfl, SqT.of upd_same, rfl, _, _, rfl, _, _, rfl, _, _, rfl, rfl, ?_⟩
    refine ⟨_, rfl, rfl, _, rfl, iteB (fun c => absurd c (show ¬ (!decide (V.str Str.empty = V.str "")) = true by decide +kernel)) (fun _ => ?_)⟩
    refine ⟨_, rfl, x, rfl, hx, fun H2 s2 => ?_⟩
    cases hn : numOf x with
    | none => exact ⟨_, rfl, no (by rw [ea, hn]; rfl) _ (s1.trans s2)⟩
    | some n =>
      refine ⟨_, rfl, _, rfl, _, rfl, _, rfl, rfl, _, rfl, iteB (fun c => absurd c (show ¬ (!decide (V.str Str.empty = V.str "")) = true by decide +kernel)) (fun _ => ?_)⟩
      refine ⟨_, rfl, x, rfl, hx, fun H3 s3 => ?_⟩
      rw [hn]
      refine ⟨_, rfl, (by show 2 ≤ sizeLine; decide), fun t ht => ?_⟩
      exact yes n 1 (by rw [ea, hn]; rfl) t _ (s1.trans (s2.trans (s3.trans (same_upd ht _)))) ((s1.trans (s2.trans s3)).free ht) upd_same
  · have ea := arrOf_at e
    rw [e]
    have s1 := same_upd hl (HO.tup [V.str a, V.str "*", V.str b])
    refine ⟨l, _, rfl, SqT.of upd_same, rfl, _, _, rfl, _, _, rfl, _, _, rfl, rfl, ?_⟩
    refine ⟨_, rfl, rfl, _, rfl, iteB (fun _ => ?_) (fun c => absurd c (show ¬ (!decide (V.str ("*" : PySem.Str) = V.str "")) = false by decide +kernel))⟩
    refine ⟨_, rfl, b, rfl, by omega, fun H2 s2 => ?_⟩
    refine ⟨_, rfl, a, rfl, by omega, fun H3 s3 => ?_⟩
    have k3 := s1.trans (s2.trans s3)
    cases hn : numOf a with
    | none =>
      refine ⟨_, rfl, no ?_ _ k3⟩
      rw [ea, hn]
      cases numOf b with
      | none => rfl
      | some w => show (if w < 2 then none else none) = none; split <;> rfl
    | some n =>
      refine ⟨_, rfl, ?_⟩
      cases hb : numOf b with
      | none => exact ⟨_, rfl, _, rfl, no (by rw [ea, hb]) _ k3⟩
      | some w =>
        refine ⟨_, rfl, _, rfl, _, rfl, rfl, _, rfl, iteB (fun _ => ?_) (fun c => absurd c (show ¬ (!decide (V.str ("*" : PySem.Str) = V.str "")) = false by decide +kernel))⟩
        refine ⟨_, rfl, _, _, rfl, rfl, _, rfl, iteD (fun c => ?_) (fun c => ?_)⟩
        · exact no (by rw [ea, hb]; exact if_pos (by omega)) _ k3
        · refine ⟨_, rfl, a, rfl, by omega, fun H4 s4 => ?_⟩
          rw [hn]
          refine ⟨_, rfl, (by show 2 ≤ sizeLine; decide), fun t ht => ?_⟩
          have ea2 : arrOf x = some (n, w) := by rw [ea, hb, hn]; exact if_neg (by omega)
          exact yes n w ea2 t _ (k3.trans (s4.trans (same_upd ht _))) ((k3.trans s4).free ht) upd_same
/-- what a reader of the law's tells -/
def Tells (o : Option PyData) (H : Hp) (Q : VK) : Prop := (o = none → ∀ H', Same H H' → Q .non H') ∧ ∀ e, o = some e → ∀ r F H', New H F H' → Rep F r e → Q r H'
theorem things_mem {rd : PySem.Str → Option PyData} {p : PySem.Str} {e : PyData} (h : e ∈ things rd p) : ∃ w, e = (rd w).getD .none := by
  unfold things at h
  split at h
  · cases h
  · obtain ⟨w, _, rfl⟩ := List.mem_map.mp h
    exact ⟨w, rfl⟩
def sp_net_ofL : Sp := fun vs H Q _ => ∃ t, vs = [.str t] ∧ t.length ≤ 250000 ∧ Tells (netOf (.str t)) H Q
theorem def__law_net_of (T : Txt mg) (D__law_arrow : Def P w K mg base "_law_arrow" 2 ["_law_word_here"] sp_arrow) (h : Here K mg "_law_net_of" s__law_net_of ["_law_text_here"]) : Def P w K mg base "_law_net_of" 3 ["_law_text_here"] sp_net_ofL := h.mk fun f fd F => by
  have nd := sc__law_net_of.nd
  refine F.ok sc__law_net_of (fun vs H Q E h => ?_) (fun cdv A outer s H vs Q E hr h => ?_)
  · obtain ⟨t, rfl, _⟩ := h
    rfl
  obtain ⟨t, rfl, ht, q1, q2⟩ := h
  refine ⟨_, pss_cons (ps_setCC (i := 1) nd rfl rfl (N' := ["_law_part"]) (cap := [none]) (y₀ := "_law_part") rfl ⟨rfl, rfl, rfl, rfl, (fun _ _ => rfl), (fun _ => rfl), rfl, rfl, rfl⟩ (pi_listK (K := K) (pe_bm PySem.F.plainAttrs_str PySem.F.slot_str_split PySem.F.type_str_split mt_split (pv 0) (pa_cons pe_str pa_nil))) (fun _ _ _ _ _ _ _ => ⟨pg_name (i := 0) (show (["_law_part"] : List Str).Nodup by decide +kernel) rfl (Or.inr rfl) (Or.inl rfl), pifs_nil, pe_comp (N' := ["_law_word_here", "_law_part"]) (cap := [none, some 0]) rfl ⟨rfl, rfl, rfl, rfl, rfl, rfl⟩ (pi_listK (K := K) (pe_bmC (K := K) (pe_bm PySem.F.plainAttrs_str PySem.F.slot_str_split PySem.F.type_str_split mt_split (pv 0) (pa_cons pe_str pa_nil)))) (fun _ _ _ _ _ _ => ⟨pg_name (i := 0) (show (["_law_word_here", "_law_part"] : List Str).Nodup by decide +kernel) rfl (Or.inl rfl) (Or.inr rfl), pifs_one (pt_cmpR op_ne (pv 1) pe_str (nomark _)), pe_callD D__law_arrow hr rfl (pa_cons (pv 0) pa_nil)⟩) (keeps_name rfl)⟩) (keeps_name rfl))
    (pss_cons (ps_for PassesOwn.never rfl (pi_listK (K := K) (pv 1)) (pg_name (i := 2) nd rfl (Or.inl rfl))
      (pss_cons (ps_set (i := 3) nd rfl (Or.inl rfl) (pe_un un_neg pe_int))
      (pss_one (ps_for PassesOwn.never rfl (pi_listK (K := K) (pv 2)) (pg_name (i := 4) nd rfl (Or.inl rfl))
        (pss_cons (ps_if (PW.pt (pw_or (pt_cmp (pc_isN (pv 4))) (pw_or (pt_cmpR op_le (pe_ix (ix_lt (K := K)) (pv 4) pe_int (fun _ _ => rfl)) (pv 3) (nomark _)) (pw_or1 (pt_cmpR op_ge (pe_ix (ix_lt (K := K)) (pv 4) pe_int (fun _ _ => rfl)) (pe_callB (call_lenK (K := K)) rfl T.z_len PySem.boot_len (pa_cons (pv 1) pa_nil)) (nomark _))))))
          (pss_one (ps_ret pe_non))
          (pss_nil))
        (pss_one (ps_set (i := 3) nd rfl (Or.inl rfl) (pe_ix (ix_lt (K := K)) (pv 4) pe_int (fun _ _ => rfl)))))))))
    (pss_one (ps_ret (pe_ix (ix_lt (K := K)) (pe_lst (pa_cons (pv 1) (pa_cons pe_non pa_nil))) (pe_callTy call_int1 rfl T.z_int boot_int (pa_cons (pe_cmpR op_gt (pe_callB (call_lenK (K := K)) rfl T.z_len PySem.boot_len (pa_cons (pv 1) pa_nil)) pe_int (nomark _)) pa_nil)) (fun _ _ => rfl))))), ?_⟩
  have big := line20
  have big2 : 16777216 = sizeLine := by decide
  obtain ⟨l1, l2⟩ := split_len t "; "
  refine ⟨_, rfl, rfl, t, "; ", rfl, rfl, by decide +kernel, by omega, by omega, fun l0 hl0 => ?_⟩
  have ed : lists rdA t = (Txt.split t "; ").map fun p => .list (things rdA p) := rfl
  generalize Txt.split t "; " = ws at l1 l2 ed ⊢
  refine ⟨l0, rfl, ⟨_, SqL.of upd_same⟩, fun D hD => ?_⟩
  have s0 := same_upd hl0 (HO.lst (ws.map V.str))
  refine comp_list (K := K) (xs := ws.map V.str) (fun i G ys => ∃ F', New H F' G ∧ G l0 = some (.lst (ws.map V.str)) ∧ Reps F' ys ((ws.take i).map fun p => .list (things rdA p))) hD ⟨_, (New.start H).more s0, upd_same, .nil⟩ (fun i G ys ⟨_, _, e, _⟩ => SqL.of e) (fun i x G ys hx hG pq => ?_) (fun G ys hG pq => ?_)
  · obtain ⟨F', n', e0, rs⟩ := pq
    obtain ⟨p, hp, rfl⟩ := str_get hx
    have hi := lt_of_get hp
    have hpl := Nat.le_trans (l2 p (List.mem_of_getElem? hp)) ht
    have yl : ys.length ≤ 300000 := by
      have := rs.length
      rw [List.length_map, List.length_take] at this
      omega
    obtain ⟨m1, m2⟩ := split_len p " "
    refine ⟨_, rfl, rfl, p, " ", rfl, rfl, by decide +kernel, by omega, by omega, fun la hla => ?_⟩
    have et : ∀ us, us = Txt.split p " " → things rdA p = if p = "-" then [] else us.map fun w => (rdA w).getD .none := fun us e => by rw [e]; rfl
    have et := et _ rfl
    generalize Txt.split p " " = us at m1 m2 et ⊢
    refine ⟨la, rfl, ⟨_, SqL.of upd_same⟩, fun D2 hD2 => ?_⟩
    have sa := same_upd hla (HO.lst (us.map V.str))
    refine comp_list (K := K) (xs := us.map V.str) (fun j G2 ys2 => ∃ F2, New (upd G D (.lst ys)) F2 G2 ∧ G2 la = some (.lst (us.map V.str)) ∧ Reps F2 ys2 (if p = "-" then [] else (us.take j).map fun w => (rdA w).getD .none)) hD2 ⟨_, (New.start _).more sa, upd_same, by split <;> exact .nil⟩ (fun i G ys ⟨_, _, e, _⟩ => SqL.of e) (fun j x G2 ys2 hx hG2 pq2 => ?_) (fun G2 ys2 hG2 pq2 => ?_)
    · obtain ⟨F2, n2, e2, rs2⟩ := pq2
      obtain ⟨u, hu, rfl⟩ := str_get hx
      have hj := lt_of_get hu
      have yl2 : ys2.length ≤ 300000 := by
        have := rs2.length
        split at this
        · have h0 : ys2.length = 0 := this
          omega
        · rw [List.length_map, List.length_take] at this
          omega
      refine ⟨_, rfl, rfl, _, rfl, iteB (fun c' => ?_) (fun c' => ?_)⟩
      rotate_left
      · have c : p = "-" := V.str.inj (by simpa using c')
        have sd := same_del (o := .lst ys2) (Same.refl G2) hG2 (Same.refl _)
        exact cskip upd_same ⟨F2, n2.more sd, sd _ _ e2, by rw [if_pos c] at rs2 ⊢; exact rs2⟩
      · have c : ¬ p = "-" := fun z => by rw [z] at c'; simp at c'
        rw [if_neg c] at rs2
        refine ⟨_, rfl, u, rfl, Nat.le_trans (m2 u (List.mem_of_getElem? hu)) hpl, fun v F3 H' n3 rv => ?_⟩
        obtain ⟨n4, s4⟩ := n2.call hG2 n3
        refine cputB (ys := ys2) (n3.keep _ _ upd_same) yl2 ⟨_, n4, same_del (Same.refl _) hG2 n3.keep _ _ e2, ?_⟩
        rw [if_neg c, List.take_succ, hu, Option.toList_some, List.map_append]
        exact (rs2.mono both_left).snoc (rv.mono s4)
    · obtain ⟨F2, n2, e2, rs2⟩ := pq2
      rw [List.length_map, List.take_length, ← et] at rs2
      have n3 := n2.done (o := .lst ys2) hG2
      obtain ⟨n4, s4⟩ := n'.call hG n3
      refine cputB (ys := ys) (n3.keep _ _ upd_same) yl ⟨_, n4, same_del (Same.refl _) hG n3.keep _ _ e0, ?_⟩
      rw [List.take_succ, hp, Option.toList_some, List.map_append]
      exact (rs.mono both_left).snoc ((Rep.lst upd_same (rs2.mono (same_upd (n2.bare hG2) _))).mono s4)
  obtain ⟨F', n', e0, rs⟩ := pq
  rw [List.length_map, List.take_length, ← ed] at rs
  have n1 := n'.done (o := .lst ys) hG
  have r1 : Rep (upd F' D (.lst ys)) (.ref D) (.list (lists rdA t)) := .lst upd_same (rs.mono (same_upd (n'.bare hG) _))
  have eD : (upd G D (.lst ys)) D = some (.lst ys) := upd_same
  have rs1 : Reps (upd G D (.lst ys)) ys (lists rdA t) := (rs.mono (same_upd (n'.bare hG) _)).mono n1.sub
  have dn : netOf (.str t) = if netB (.list (lists rdA t)) = true then some (.list (lists rdA t)) else none := rfl
  have el : ∀ d ∈ lists rdA t, ∃ p, d = .list (things rdA p) := fun d hd => by
    rw [ed] at hd
    obtain ⟨p, _, rfl⟩ := List.mem_map.mp hd
    exact ⟨p, rfl⟩
  have pos : 1 ≤ (lists rdA t).length := by unfold lists; rw [List.length_map]; exact split_pos t "; "
  generalize lists rdA t = ds at rs1 r1 dn el pos
  have k1 := n1.keep
  generalize upd G D (.lst ys) = H1 at n1 k1 r1 eD rs1 ⊢
  have lys : ys.length = ds.length := rs1.length
  have bad : (∃ d ∈ ds, rowB ds.length d = false) → Q .non H1 := fun ⟨d, hd, hb⟩ => by
    refine q1 ?_ _ k1
    rw [dn]
    refine if_neg fun z => ?_
    have z' : ((decide (1 ≤ ds.length) && decide (ds.length ≤ 8)) && ds.all (rowB ds.length)) = true := z
    rw [Bool.and_eq_true] at z'
    have := List.all_eq_true.mp z'.2 d hd
    rw [hb] at this
    cases this
  refine ⟨_, rfl, D, rfl, ⟨ys, SqL.of eD⟩, for_list (K := K) (xs := ys) (fun i σ' H' => ∃ c2 c3 c4 : Option V, σ' = [some (.str t), some (.ref D), c2, c3, c4] ∧ H' = H1 ∧ ∀ d ∈ ds.take i, rowB ds.length d = true) ⟨none, none, none, rfl, rfl, fun _ h => nomatch h⟩ (fun i σ' H' _ ⟨_, _, _, _, e, _⟩ => by rw [e]; exact SqL.of eD) ?_ ?_⟩
  · rintro i x σ' H' hx ⟨c2, c3, c4, rfl, rfl, good⟩
    obtain ⟨d, hd, rd⟩ := rs1.get hx
    obtain ⟨p, rfl⟩ := el d (List.mem_of_getElem? hd)
    have em : ∀ e ∈ things rdA p, ∃ w, e = (rdA w).getD .none := fun e he => things_mem he
    generalize things rdA p = es at hd rd em
    obtain ⟨b, zs, rfl, eb, rb⟩ := rep_list rd
    have lz : zs.length = es.length := rb.length
    have hmem := List.mem_of_getElem? hd
    refine ⟨_, rfl, _, rfl, b, rfl, ⟨zs, SqL.of eb⟩, for_list (K := K) (xs := zs) (fun j σ' H'' => ∃ (l : Option Int) (c4 : Option V), σ' = [some (.str t), some (.ref D), some (.ref b), some (.int (l.getD (-1))), c4] ∧ H'' = H' ∧ riseD ds.length none es = riseD ds.length l (es.drop j) ∧ ∀ e, l = some e → 0 ≤ e) ⟨none, _, rfl, rfl, by rw [List.drop_zero], fun _ h => nomatch h⟩ (fun i σ' H' _ ⟨_, _, _, e, _⟩ => by rw [e]; exact SqL.of eb) ?_ ?_⟩
    · rintro j y σ' H'' hy ⟨l, c4, rfl, rfl, hrise, hl0⟩
      obtain ⟨e, he, re⟩ := rb.get hy
      obtain ⟨u, rfl⟩ := em e (List.mem_of_getElem? he)
      have step := riseD_take he l hrise
      cases ea : arrOf u with
      | none =>
        have e1 : (rdA u).getD .none = .none := by unfold rdA; rw [ea]; rfl
        rw [e1] at re step
        cases re
        exact ⟨_, rfl, _, rfl, bad ⟨_, hmem, by show riseD _ none es = false; rw [step]; rfl⟩⟩
      | some nw =>
        have e1 : (rdA u).getD .none = arrD ((nw.1 : Int), (nw.2 : Int)) := by unfold rdA; rw [ea]; rfl
        rw [e1] at re step
        obtain ⟨tt, rfl, ett⟩ := rep_arr re
        have hw := arrOf_w ea
        have step' : riseD ds.length none es = ((decide ((0 : Int) ≤ nw.1) && decide ((nw.1 : Int) < ds.length) && decide ((1 : Int) ≤ nw.2)) && (aboveB l nw.1 && riseD ds.length (some nw.1) (es.drop (j + 1)))) := step
        refine ⟨_, rfl, _, rfl, ?_⟩
        refine ⟨_, rfl, .inr ⟨tt, _, 0, _, rfl, rfl, SqT.of ett, atI0 _ _, _, rfl, _, _, rfl, rfl, _, rfl, iteD (fun c => ?_) (fun c => ?_)⟩⟩
        · refine bad ⟨_, hmem, ?_⟩
          show riseD _ none es = false
          rw [step']
          have : aboveB l nw.1 = false := by
            cases l with
            | none => have c' : (nw.1 : Int) ≤ -1 := c; omega
            | some e => have c' : (nw.1 : Int) ≤ e := c; exact decide_eq_false (by omega)
          rw [this, Bool.false_and, Bool.and_false]
        have above : aboveB l nw.1 = true := by
          cases l with
          | none => rfl
          | some e => have c' : ¬ (nw.1 : Int) ≤ e := c; exact decide_eq_true (by omega)
        refine ⟨_, rfl, .inr ⟨tt, _, 0, _, rfl, rfl, SqT.of ett, atI0 _ _, _, rfl, D, _, rfl, .inl (SqL.of eD), _, _, rfl, rfl, _, rfl, iteD (fun c2 => ?_) (fun c2 => ?_)⟩⟩
        · refine bad ⟨_, hmem, ?_⟩
          show riseD _ none es = false
          rw [step', decide_eq_false (show ¬ (nw.1 : Int) < ds.length by omega), Bool.and_false, Bool.false_and, Bool.false_and]
        · refine ⟨_, rfl, .inr ⟨tt, _, 0, _, rfl, rfl, SqT.of ett, atI0 _ _, some (nw.1 : Int), _, rfl, rfl, ?_, fun e he => by cases he; omega⟩⟩
          rw [step', above, decide_eq_true (show (0 : Int) ≤ nw.1 by omega), decide_eq_true (show (nw.1 : Int) < ds.length by omega), decide_eq_true (show (1 : Int) ≤ nw.2 by omega)]
          rfl
    · rintro σ' H'' ⟨l, c4, rfl, rfl, hrise, hl0⟩
      refine ⟨_, _, _, rfl, rfl, fun d' hd' => ?_⟩
      rw [List.take_succ, hd, Option.toList_some] at hd'
      rcases List.mem_append.mp hd' with z | z
      · exact good d' z
      · rw [List.mem_singleton.mp z]
        show riseD ds.length none es = true
        rw [hrise, lz, List.drop_length]
        rfl
  · rintro σ' H' ⟨c2, c3, c4, rfl, rfl, good⟩
    rw [lys, List.take_length] at good
    have ev : netB (.list ds) = decide (ds.length ≤ 8) := by
      show ((decide (1 ≤ ds.length) && decide (ds.length ≤ 8)) && ds.all (rowB ds.length)) = _
      rw [decide_eq_true pos, Bool.true_and, List.all_eq_true.mpr good, Bool.and_true]
    refine ⟨_, rfl, (by show 2 ≤ sizeLine; decide), fun l2 hl2 => ⟨_, rfl, D, _, rfl, .inl (SqL.of (same_upd hl2 _ _ _ eD)), _, _, rfl, rfl, .inr ⟨_, rfl, ?_⟩⟩⟩
    have s2 := same_upd hl2 (HO.lst [V.ref D, V.non])
    by_cases h8 : ds.length ≤ 8
    · rw [decide_eq_false (show ¬ (8 : Int) < (ys.length : Int) by omega)]
      exact .inl ⟨l2, _, _, _, rfl, rfl, SqL.of upd_same, rfl, q2 _ (by rw [dn, ev]; exact if_pos (decide_eq_true h8)) _ _ _ (n1.more s2) r1⟩
    · rw [decide_eq_true (show (8 : Int) < (ys.length : Int) by omega)]
      exact .inl ⟨l2, _, _, _, rfl, rfl, SqL.of upd_same, rfl, q1 (by rw [dn, ev]; exact if_neg (by rw [decide_eq_false h8]; exact Bool.false_ne_true)) _ (k1.trans s2)⟩
end
end Law

namespace Law
open PySem L2 Ways Ring PyProof.Rows
seal L2.PE L2.PA L2.PS L2.PSs L2.PG L2.PT
theorem rdN_rep {F : Hp} (u : PySem.Str) : Rep F (optV (numOf u)) ((rdN u).getD .none) := by
  unfold rdN
  cases numOf u with
  | none => exact .non
  | some n => exact .int _
theorem flat_of {F : Hp} {v : V} {u : PySem.Str} (r : Rep F v ((rdN u).getD .none)) : v = optV (numOf u) := by
  unfold rdN at r
  cases e : numOf u with
  | none => rw [e] at r; cases r; rfl
  | some n => rw [e] at r; cases r; rfl
theorem in_ends {row : List (Int × Int)} (o : Option Nat) : inV (optV o) (endsV row) = endD row (match o with | none => .none | some n => .int (n : Int)) := by
  cases o with
  | none =>
    rw [endsV_eq]
    show (List.any _ _) = false
    rw [List.any_map]
    exact List.any_eq_false.mpr fun _ _ => Bool.false_ne_true
  | some n =>
    rw [endsV_eq]
    exact inV_ints _ _
section
variable {P : Program} {w : World} {K : PySem.W.Frag} {mg : Str → Option Value} {base : Heap}
def sp_piles_ofL : Sp := fun vs H Q _ => ∃ v net t, vs = [v, .str t] ∧ Rep H v (netD net) ∧ NetOk net ∧ t.length ≤ 250000 ∧ Tells (pilesOf net (.str t)) H Q
theorem def__law_piles_of (T : Txt mg) (D__law_number : Def P w K mg base "_law_number" 1 ["_law_word_here"] sp_number) (h : Here K mg "_law_piles_of" s__law_piles_of ["_law_net_here", "_law_text_here"]) : Def P w K mg base "_law_piles_of" 2 ["_law_net_here", "_law_text_here"] sp_piles_ofL := h.mk fun f fd F => by
  have nd := sc__law_piles_of.nd
  refine F.ok sc__law_piles_of (fun vs H Q E h => ?_) (fun cdv A outer s H vs Q E hr h => ?_)
  · obtain ⟨v, net, t, rfl, _⟩ := h
    rfl
  obtain ⟨v, net, t, rfl, rv, ok, ht, q1, q2⟩ := h
  refine ⟨_, pss_cons (ps_setCC (i := 2) nd rfl rfl (N' := ["_law_part"]) (cap := [none]) (y₀ := "_law_part") rfl ⟨rfl, rfl, rfl, rfl, (fun _ _ => rfl), (fun _ => rfl), rfl, rfl, rfl⟩ (pi_listK (K := K) (pe_bm PySem.F.plainAttrs_str PySem.F.slot_str_split PySem.F.type_str_split mt_split (pv 1) (pa_cons pe_str pa_nil))) (fun _ _ _ _ _ _ _ => ⟨pg_name (i := 0) (show (["_law_part"] : List Str).Nodup by decide +kernel) rfl (Or.inr rfl) (Or.inl rfl), pifs_nil, pe_comp (N' := ["_law_word_here", "_law_part"]) (cap := [none, some 0]) rfl ⟨rfl, rfl, rfl, rfl, rfl, rfl⟩ (pi_listK (K := K) (pe_bmC (K := K) (pe_bm PySem.F.plainAttrs_str PySem.F.slot_str_split PySem.F.type_str_split mt_split (pv 0) (pa_cons pe_str pa_nil)))) (fun _ _ _ _ _ _ => ⟨pg_name (i := 0) (show (["_law_word_here", "_law_part"] : List Str).Nodup by decide +kernel) rfl (Or.inl rfl) (Or.inr rfl), pifs_one (pt_cmpR op_ne (pv 1) pe_str (nomark _)), pe_callD D__law_number hr rfl (pa_cons (pv 0) pa_nil)⟩) (keeps_name rfl)⟩) (keeps_name rfl))
    (pss_cons (ps_if (pt_cmpR op_ne (pe_callB (call_lenK (K := K)) rfl T.z_len PySem.boot_len (pa_cons (pv 2) pa_nil)) (pe_callB (call_lenK (K := K)) rfl T.z_len PySem.boot_len (pa_cons (pv 0) pa_nil)) (nomark _))
      (pss_one (ps_ret pe_non))
      (pss_nil))
    (pss_cons (ps_for PassesOwn.never rfl (pi_zipK (K := K) rfl T.z_zip (pa_cons (pv 2) (pa_cons (pv 0) pa_nil))) (pg_tupK (K := K) rfl (pgs_cons (pg_name (i := 3) nd rfl (Or.inl rfl)) (pgs_cons (pg_name (i := 4) nd rfl (Or.inl rfl)) pgs_nil)))
      (pss_cons (ps_set (i := 5) nd rfl (Or.inr rfl) (pe_comp (N' := ["_law_to", "_law_weight_here"]) (cap := [none, none]) rfl ⟨rfl, rfl, rfl, rfl, rfl, rfl⟩ (pi_listK (K := K) (pv 4)) (fun _ _ _ _ _ _ => ⟨pg_tupK (K := K) rfl (pgs_cons (pg_name (i := 0) (show (["_law_to", "_law_weight_here"] : List Str).Nodup by decide +kernel) rfl (Or.inl rfl) (Or.inr rfl)) (pgs_cons (pg_name (i := 1) (show (["_law_to", "_law_weight_here"] : List Str).Nodup by decide +kernel) rfl (Or.inl rfl) (Or.inr rfl)) pgs_nil)), pifs_nil, pv 0⟩) (keeps_two rfl rfl)))
      (pss_one (ps_if (PW.pt (pw_or (pt_cmpR op_gt (pe_callB (call_lenK (K := K)) rfl T.z_len PySem.boot_len (pa_cons (pv 3) pa_nil)) pe_int (nomark _)) (pw_or1 (pt_cmpR op_ne (pe_callB (call_lenK (K := K)) rfl T.z_len PySem.boot_len (pa_cons (pe_comp (N' := ["_law_end", "_law_ends"]) (cap := [none, some 5]) rfl ⟨rfl, rfl, rfl, rfl, rfl, rfl⟩ (pi_listK (K := K) (pv 3)) (fun _ _ _ _ _ _ => ⟨pg_name (i := 0) (show (["_law_end", "_law_ends"] : List Str).Nodup by decide +kernel) rfl (Or.inl rfl) (Or.inr rfl), pifs_one (pt_cmpR (op_inK (K := K)) (pv 0) (pv 1) rfl), pv 0⟩) (keeps_name rfl)) pa_nil)) (pe_callB (call_lenK (K := K)) rfl T.z_len PySem.boot_len (pa_cons (pv 3) pa_nil)) (nomark _)))))
        (pss_one (ps_ret pe_non))
        (pss_nil)))))
    (pss_one (ps_ret (pv 2))))), ?_⟩
  have big := line20
  have big2 : 16777216 = sizeLine := by decide
  obtain ⟨l1, l2⟩ := split_len t "; "
  refine ⟨_, rfl, rfl, t, "; ", rfl, rfl, by decide +kernel, by omega, by omega, fun l0 hl0 => ?_⟩
  have ed : lists rdN t = (Txt.split t "; ").map fun p => .list (things rdN p) := rfl
  generalize Txt.split t "; " = ws at l1 l2 ed ⊢
  refine ⟨l0, rfl, ⟨_, SqL.of upd_same⟩, fun D hD => ?_⟩
  have s0 := same_upd hl0 (HO.lst (ws.map V.str))
  refine comp_list (K := K) (xs := ws.map V.str) (fun i G ys => ∃ F', New H F' G ∧ G l0 = some (.lst (ws.map V.str)) ∧ Reps F' ys ((ws.take i).map fun p => .list (things rdN p))) hD ⟨_, (New.start H).more s0, upd_same, .nil⟩ (fun i G ys ⟨_, _, e, _⟩ => SqL.of e) (fun i x G ys hx hG pq => ?_) (fun G ys hG pq => ?_)
  · obtain ⟨F', n', e0, rs⟩ := pq
    obtain ⟨p, hp, rfl⟩ := str_get hx
    have hi := lt_of_get hp
    have hpl := Nat.le_trans (l2 p (List.mem_of_getElem? hp)) ht
    have yl : ys.length ≤ 300000 := by
      have := rs.length
      rw [List.length_map, List.length_take] at this
      omega
    obtain ⟨m1, m2⟩ := split_len p " "
    refine ⟨_, rfl, rfl, p, " ", rfl, rfl, by decide +kernel, by omega, by omega, fun la hla => ?_⟩
    have et : ∀ us, us = Txt.split p " " → things rdN p = if p = "-" then [] else us.map fun w => (rdN w).getD .none := fun us e => by rw [e]; rfl
    have et := et _ rfl
    generalize Txt.split p " " = us at m1 m2 et ⊢
    refine ⟨la, rfl, ⟨_, SqL.of upd_same⟩, fun D2 hD2 => ?_⟩
    have sa := same_upd hla (HO.lst (us.map V.str))
    refine comp_list (K := K) (xs := us.map V.str) (fun j G2 ys2 => ∃ F2, New (upd G D (.lst ys)) F2 G2 ∧ G2 la = some (.lst (us.map V.str)) ∧ Reps F2 ys2 (if p = "-" then [] else (us.take j).map fun w => (rdN w).getD .none)) hD2 ⟨_, (New.start _).more sa, upd_same, by split <;> exact .nil⟩ (fun i G ys ⟨_, _, e, _⟩ => SqL.of e) (fun j x G2 ys2 hx hG2 pq2 => ?_) (fun G2 ys2 hG2 pq2 => ?_)
    · obtain ⟨F2, n2, e2, rs2⟩ := pq2
      obtain ⟨u, hu, rfl⟩ := str_get hx
      have hj := lt_of_get hu
      have yl2 : ys2.length ≤ 300000 := by
        have := rs2.length
        split at this
        · have h0 : ys2.length = 0 := this
          omega
        · rw [List.length_map, List.length_take] at this
          omega
      refine ⟨_, rfl, rfl, _, rfl, iteB (fun c' => ?_) (fun c' => ?_)⟩
      rotate_left
      · have c : p = "-" := V.str.inj (by simpa using c')
        have sd := same_del (o := .lst ys2) (Same.refl G2) hG2 (Same.refl _)
        exact cskip upd_same ⟨F2, n2.more sd, sd _ _ e2, by rw [if_pos c] at rs2 ⊢; exact rs2⟩
      · have c : ¬ p = "-" := fun z => by rw [z] at c'; simp at c'
        rw [if_neg c] at rs2
        refine ⟨_, rfl, u, rfl, Nat.le_trans (m2 u (List.mem_of_getElem? hu)) hpl, fun H' s' => ?_⟩
        have n3 := (New.start (upd G2 D2 (.lst ys2))).more s'
        have rv := rdN_rep (F := fun _ => none) u
        obtain ⟨n4, s4⟩ := n2.call hG2 n3
        refine cputB (ys := ys2) (n3.keep _ _ upd_same) yl2 ⟨_, n4, same_del (Same.refl _) hG2 n3.keep _ _ e2, ?_⟩
        rw [if_neg c, List.take_succ, hu, Option.toList_some, List.map_append]
        exact (rs2.mono both_left).snoc (rv.mono s4)
    · obtain ⟨F2, n2, e2, rs2⟩ := pq2
      rw [List.length_map, List.take_length, ← et] at rs2
      have n3 := n2.done (o := .lst ys2) hG2
      obtain ⟨n4, s4⟩ := n'.call hG n3
      refine cputB (ys := ys) (n3.keep _ _ upd_same) yl ⟨_, n4, same_del (Same.refl _) hG n3.keep _ _ e0, ?_⟩
      rw [List.take_succ, hp, Option.toList_some, List.map_append]
      exact (rs.mono both_left).snoc ((Rep.lst upd_same (rs2.mono (same_upd (n2.bare hG2) _))).mono s4)
  obtain ⟨F', n', e0, rs⟩ := pq
  rw [List.length_map, List.take_length, ← ed] at rs
  have n1 := n'.done (o := .lst ys) hG
  have r1 : Rep (upd F' D (.lst ys)) (.ref D) (.list (lists rdN t)) := .lst upd_same (rs.mono (same_upd (n'.bare hG) _))
  have eD : (upd G D (.lst ys)) D = some (.lst ys) := upd_same
  have rs1 : Reps (upd G D (.lst ys)) ys (lists rdN t) := (rs.mono (same_upd (n'.bare hG) _)).mono n1.sub
  have dn : pilesOf net (.str t) = if pilesD net (.list (lists rdN t)) = true then some (.list (lists rdN t)) else none := rfl
  have el : ∀ d ∈ lists rdN t, ∃ p, d = .list (things rdN p) := fun d hd => by
    rw [ed] at hd
    obtain ⟨p, _, rfl⟩ := List.mem_map.mp hd
    exact ⟨p, rfl⟩
  generalize lists rdN t = ds at rs1 r1 dn el
  have k1 := n1.keep
  generalize upd G D (.lst ys) = H1 at n1 k1 r1 eD rs1 ⊢
  have lys : ys.length = ds.length := rs1.length
  have no : pilesD net (.list ds) = false → ∀ H', Same H1 H' → Q .non H' := fun z H' s' => q1 (by rw [dn, z]; exact if_neg Bool.false_ne_true) _ (k1.trans s')
  obtain ⟨a, xs, rfl, ea, ra⟩ := rep_list rv
  have la : xs.length = net.length := by rw [ra.length, List.length_map]
  refine ⟨_, rfl, D, _, rfl, .inl (SqL.of eD), _, rfl, a, _, rfl, .inl (SqL.of (k1 _ _ ea)), rfl, _, rfl, iteB (fun c => ?_) (fun c => ?_)⟩
  · have c' := ne_t c
    refine no ?_ _ (Same.refl _)
    show (decide (ds.length = net.length) && _) = false
    rw [decide_eq_false (by omega)]
    rfl
  have c' := ne_f c
  have hl : ds.length = net.length := by omega
  refine ⟨_, rfl, _, rfl, D, a, rfl, ⟨_, SqL.of eD⟩, ⟨_, SqL.of (k1 _ _ ea)⟩, for_zip (K := K) (xs := ys) (ys := xs) (fun i σ' H' => ∃ c3 c4 c5 : Option V, σ' = [some (.ref a), some (.str t), some (.ref D), c3, c4, c5] ∧ Same H1 H' ∧ ∀ (j : Nat) row d, j < i → net[j]? = some row → ds[j]? = some d → pileD row d = true) ⟨none, none, none, rfl, Same.refl _, fun j _ _ h => absurd h (by omega)⟩ (fun j σ' H' ⟨_, _, _, _, hs, _⟩ => ⟨SqL.of (hs _ _ eD), SqL.of (hs _ _ (k1 _ _ ea))⟩) ?_ ?_⟩
  · rintro i x y tt σ' H' hx hy htt ⟨c3, c4, c5, rfl, hs, good⟩
    obtain ⟨d, hd, rd⟩ := rs1.get hx
    obtain ⟨row, hrow, rrow⟩ := reps_map ra hy
    have s2 := hs.trans (same_upd htt (HO.tup [x, y]))
    refine ⟨tt, _, rfl, SqT.of upd_same, rfl, _, _, rfl, _, _, rfl, rfl, ?_⟩
    have rd2 := rd.mono s2
    obtain ⟨p, rfl⟩ := el d (List.mem_of_getElem? hd)
    have em : ∀ e ∈ things rdN p, ∃ w, e = (rdN w).getD .none := fun e he => things_mem he
    generalize things rdN p = es at hd rd rd2 em
    obtain ⟨b, zs, rfl, eb, rb⟩ := rep_list rd2
    have lz : zs.length = es.length := rb.length
    have rr2 := rrow.mono (k1.trans s2)
    obtain ⟨rb', rxs, rfl, er, rrx⟩ := rep_list rr2
    have lr : rxs.length = row.length := by rw [rrx.length, List.length_map]
    have row8 := netD_at ok hrow
    generalize upd H' tt (HO.tup _) = H2 at s2 eb er rb rrx ⊢
    refine ⟨_, rfl, rb', rfl, ⟨_, SqL.of er⟩, fun D2 hD2 => ?_⟩
    refine comp_list (K := K) (xs := rxs) (TakeP H2 (endsV row)) hD2 ⟨Same.refl _, rfl⟩ (fun i G ys p => SqL.of (p.1 _ _ er)) (fun i x G ys hx hG pq => ?_) (fun G ys2 hG pq => ?_)
    · obtain ⟨ar, har, rar⟩ := reps_map rrx hx
      obtain ⟨ta, rfl, eta⟩ := rep_arr rar
      refine ⟨ta, _, rfl, SqT.of ((same_upd hG _) _ _ (pq.1 _ _ eta)), rfl, _, _, rfl, _, _, rfl, rfl, ?_⟩
      exact ⟨_, rfl, pq.put hG (Same.refl _) (by unfold endsV; rw [List.getElem?_map, har]; rfl) (by have := lt_of_get har; omega)⟩
    have ey : ys2 = endsV row := by
      have := pq.2
      rw [lr, show row.length = (endsV row).length by unfold endsV; rw [List.length_map], List.take_length] at this
      exact this
    subst ey
    have s3 := pq.1.trans (same_upd hG (HO.lst (endsV row)))
    have e3 : (upd G D2 (HO.lst (endsV row))) D2 = some (.lst (endsV row)) := upd_same
    generalize upd G D2 (HO.lst (endsV row)) = H3 at s3 e3 ⊢
    have bad : pileD row (.list es) = false → ∀ H', Same H3 H' → Q .non H' := fun z H' s' => no (pilesD_not hrow hd z) _ (s2.trans (s3.trans s'))
    refine ⟨_, rfl, b, _, rfl, .inl (SqL.of (s3 _ _ eb)), _, _, rfl, rfl, _, rfl, iteD (fun c => ?_) (fun c => ?_)⟩
    · refine bad ?_ _ (Same.refl _)
      show (decide (es.length ≤ 40) && _) = false
      rw [decide_eq_false (by omega)]
      rfl
    refine ⟨_, rfl, b, rfl, ⟨_, SqL.of (s3 _ _ eb)⟩, fun D4 hD4 => ?_⟩
    have fv : ∀ (j : Nat) y, zs[j]? = some y → ∃ e, es[j]? = some e ∧ flatV y = true ∧ inV y (endsV row) = endD row e := fun j y hy => by
      obtain ⟨e, he, re⟩ := rb.get hy
      obtain ⟨u, rfl⟩ := em e (List.mem_of_getElem? he)
      have := flat_of re
      subst this
      refine ⟨_, he, by cases numOf u <;> rfl, ?_⟩
      rw [in_ends]
      unfold rdN
      cases numOf u <;> rfl
    refine comp_list (K := K) (xs := zs) (FlatP H3 fun i => (zs[i]?).bind fun v => if inV v (endsV row) = true then some v else none) hD4 FlatP.zero (fun i G ys p => SqL.of (p.1 _ _ (s3 _ _ eb))) (fun i x G ys hx hG pq => ?_) (fun G ys4 hG pq => ?_)
    · obtain ⟨e, he, fl, _⟩ := fv i x hx
      have hi := lt_of_get hx
      refine ⟨_, rfl, _, rfl, D2, _, rfl, .inl (SqL.of ((same_upd hG _) _ _ (pq.1 _ _ e3))), fl, (by rw [endsV_eq]; exact flat_ints _), _, rfl, iteB (fun hm => ⟨_, rfl, pq.put hG (Same.refl _) (by rw [hx]; exact if_pos hm) (by omega)⟩) (fun hm => pq.skip hG (Same.refl _) (by rw [hx]; exact if_neg (by have hm' : inV x (endsV row) = false := hm; rw [hm']; exact Bool.false_ne_true)))⟩
    have s4 := pq.1.trans (same_upd hG (HO.lst ys4))
    have ey : ys4 = zs.filterMap fun v => if inV v (endsV row) = true then some v else none := by
      have := pq.2
      rw [flat_list] at this
      exact this
    have iff := filt_len (fun v => inV v (endsV row)) id zs
    have iff' : ys4.length = zs.length ↔ zs.all (fun v => inV v (endsV row)) = true := by rw [ey]; exact iff
    have alls : zs.all (fun v => inV v (endsV row)) = es.all (endD row) := by
      rw [Bool.eq_iff_iff, List.all_eq_true, List.all_eq_true]
      constructor
      · intro z e he
        obtain ⟨j, hj⟩ := List.mem_iff_getElem?.mp he
        have hj' : j < zs.length := by rw [lz]; exact lt_of_get hj
        obtain ⟨e', he', _, w⟩ := fv j _ (List.getElem?_eq_getElem hj')
        rw [hj] at he'
        cases he'
        rw [← w]
        exact z _ (List.getElem_mem hj')
      · intro z y hy
        obtain ⟨j, hj⟩ := List.mem_iff_getElem?.mp hy
        obtain ⟨e', he', _, w⟩ := fv j y hj
        rw [w]
        exact z _ (List.mem_of_getElem? he')
    refine ⟨D4, _, rfl, .inl (SqL.of upd_same), _, rfl, b, _, rfl, .inl (SqL.of (s4 _ _ (s3 _ _ eb))), rfl, _, rfl, iteB (fun c2 => ?_) (fun c2 => ?_)⟩
    · refine bad ?_ _ s4
      show (decide (es.length ≤ 40) && es.all (endD row)) = false
      rw [← alls, Bool.eq_false_iff.mpr fun z => ne_t c2 (iff'.mpr z), Bool.and_false]
    · refine ⟨_, _, _, rfl, s2.trans (s3.trans s4), fun j row' d' hj h1 h2 => ?_⟩
      by_cases ej : j = i
      · subst ej
        rw [hrow] at h1
        rw [hd] at h2
        cases h1
        cases h2
        show (decide (es.length ≤ 40) && es.all (endD row)) = true
        rw [← alls, iff'.mp (ne_f c2), decide_eq_true (by omega)]
        rfl
      · exact good j row' d' (by omega) h1 h2
  · rintro σ' H' ⟨c3, c4, c5, rfl, hs, good⟩
    refine ⟨_, rfl, q2 (.list ds) ?_ _ _ _ (n1.more hs) r1⟩
    rw [dn]
    refine if_pos ?_
    show (decide (ds.length = net.length) && (net.zip ds).all fun p => pileD p.1 p.2) = true
    rw [decide_eq_true hl, Bool.true_and, List.all_eq_true]
    rintro ⟨row, d⟩ hm
    obtain ⟨i, hi⟩ := List.mem_iff_getElem?.mp hm
    rw [List.getElem?_zip_eq_some] at hi
    exact good i row d (by have := lt_of_get hi.2; omega) hi.1 hi.2
/-! ### trees -/
def g0 (w : PySem.Str) : PyData := (rdE w).getD (.str "")
def g1 (w : PySem.Str) : V := if w = "-" then .str "-" else optV (numOf w)
def g2 (w : PySem.Str) : V := if w = "-" then .non else optV (numOf w)
theorem optV_dash (o : Option Nat) : ¬ optV o = .str "-" := by
  cases o <;> exact fun z => nomatch z
theorem g1_dash (w : PySem.Str) : decide (g1 w = .str "-") = decide (w = "-") := by
  unfold g1
  by_cases c : w = "-"
  · rw [if_pos c, decide_eq_true rfl, decide_eq_true c]
  · rw [if_neg c, decide_eq_false (optV_dash _), decide_eq_false c]
theorem g1_scal (w : PySem.Str) : scal (g1 w) (.str "-") = true := by
  unfold g1
  split
  · rfl
  · cases numOf w <;> rfl
theorem g1_flat (w : PySem.Str) : flatV (g1 w) = true := by
  unfold g1
  split
  · rfl
  · cases numOf w <;> rfl
theorem g2_opt (w : PySem.Str) : g2 w = optV (optE (g0 w)) := by
  unfold g2 g0 rdE rdN
  by_cases c : w = "-"
  · rw [if_pos c, if_pos c]
    rfl
  · rw [if_neg c, if_neg c]
    cases numOf w with
    | none => rfl
    | some n => show V.int (n : Int) = V.int (((n : Int).toNat : Nat) : Int); rw [Int.toNat_natCast]
theorem fit_nil (w : PySem.Str) : fitsD [] (g0 w) = decide (w = "-") := by
  rw [fits_nil]
  unfold g0 rdE rdN
  by_cases c : w = "-"
  · rw [if_pos c, decide_eq_true c]
    rfl
  · rw [if_neg c, decide_eq_false c]
    cases numOf w <;> rfl
theorem fit_cons {row : List (Int × Int)} (h : row ≠ []) (w : PySem.Str) : fitsD row (g0 w) = inV (g1 w) (endsV row) := by
  rw [fits_cons h]
  unfold g0 g1 rdE rdN
  by_cases c : w = "-"
  · rw [if_pos c, if_pos c, endsV_eq]
    show false = List.any _ _
    rw [List.any_map]
    exact (List.any_eq_false.mpr fun _ _ => Bool.false_ne_true).symm
  · rw [if_neg c, if_neg c, in_ends]
    cases numOf w <;> rfl
def sp_tree_ofL : Sp := fun vs H Q _ => ∃ v net t, vs = [v, .str t] ∧ Rep H v (netD net) ∧ NetOk net ∧ t.length ≤ 250000 ∧ Tells (treeOf net (.str t)) H Q
theorem def__law_tree_of (T : Txt mg) (D__law_number : Def P w K mg base "_law_number" 1 ["_law_word_here"] sp_number) (D__law_is_tree : Def P w K mg base "_law_is_tree" 1 ["_law_net_here", "_law_tree"] sp_isTree) (h : Here K mg "_law_tree_of" s__law_tree_of ["_law_net_here", "_law_text_here"]) : Def P w K mg base "_law_tree_of" 2 ["_law_net_here", "_law_text_here"] sp_tree_ofL := h.mk fun f fd F => by
  have nd := sc__law_tree_of.nd
  refine F.ok sc__law_tree_of (fun vs H Q E h => ?_) (fun cdv A outer s H vs Q E hr h => ?_)
  · obtain ⟨v, net, t, rfl, _⟩ := h
    rfl
  obtain ⟨v, net, t, rfl, rv, ok, ht, q1, q2⟩ := h
  refine ⟨_, pss_cons (ps_setC (i := 2) nd rfl rfl (N' := ["_law_word_here"]) (cap := [none]) rfl ⟨rfl, rfl, rfl, rfl, rfl, rfl⟩ (pi_listK (K := K) (pe_bm PySem.F.plainAttrs_str PySem.F.slot_str_split PySem.F.type_str_split mt_split (pv 1) (pa_cons pe_str pa_nil))) (fun _ _ _ _ _ _ => ⟨pg_name (i := 0) (show (["_law_word_here"] : List Str).Nodup by decide +kernel) rfl (Or.inl rfl) (Or.inr rfl), pifs_nil, pe_ix (ix_lt (K := K)) (pe_lst (pa_cons (pe_callD D__law_number hr rfl (pa_cons (pv 0) pa_nil)) (pa_cons pe_str pa_nil))) (pe_callTy call_int1 rfl T.z_int boot_int (pa_cons (pe_cmpR op_eq (pv 0) pe_str (nomark _)) pa_nil)) (fun _ _ => rfl)⟩) (keeps_name rfl))
    (pss_cons (ps_if (pt_cmpR op_ne (pe_callB (call_lenK (K := K)) rfl T.z_len PySem.boot_len (pa_cons (pv 2) pa_nil)) (pe_callB (call_lenK (K := K)) rfl T.z_len PySem.boot_len (pa_cons (pv 0) pa_nil)) (nomark _))
      (pss_one (ps_ret pe_non))
      (pss_nil))
    (pss_cons (ps_for PassesOwn.never rfl (pi_zipK (K := K) rfl T.z_zip (pa_cons (pv 2) (pa_cons (pv 0) pa_nil))) (pg_tupK (K := K) rfl (pgs_cons (pg_name (i := 3) nd rfl (Or.inl rfl)) (pgs_cons (pg_name (i := 4) nd rfl (Or.inl rfl)) pgs_nil)))
      (pss_one (ps_if (PW.pt (pw_or (PW.pt (pw_and (pt_cmpR (op_eqD hr) (pv 4) (pe_lst pa_nil) (nomark _)) (pw_and1 (pt_cmpR op_ne (pv 3) pe_str (nomark _))))) (pw_or1 (PW.pt (pw_and (pt_cmpR (op_neD hr) (pv 4) (pe_lst pa_nil) (nomark _)) (pw_and1 (pt_cmpR (op_notInK (K := K)) (pv 3) (pe_comp (N' := ["_law_to", "_law_weight_here"]) (cap := [none, none]) rfl ⟨rfl, rfl, rfl, rfl, rfl, rfl⟩ (pi_listK (K := K) (pv 4)) (fun _ _ _ _ _ _ => ⟨pg_tupK (K := K) rfl (pgs_cons (pg_name (i := 0) (show (["_law_to", "_law_weight_here"] : List Str).Nodup by decide +kernel) rfl (Or.inl rfl) (Or.inr rfl)) (pgs_cons (pg_name (i := 1) (show (["_law_to", "_law_weight_here"] : List Str).Nodup by decide +kernel) rfl (Or.inl rfl) (Or.inr rfl)) pgs_nil)), pifs_nil, pv 0⟩) (keeps_two rfl rfl)) rfl)))))))
        (pss_one (ps_ret pe_non))
        (pss_nil))))
    (pss_cons (ps_setC (i := 2) nd rfl rfl (N' := ["_law_end"]) (cap := [none]) rfl ⟨rfl, rfl, rfl, rfl, rfl, rfl⟩ (pi_listK (K := K) (pv 2)) (fun _ _ _ _ _ _ => ⟨pg_name (i := 0) (show (["_law_end"] : List Str).Nodup by decide +kernel) rfl (Or.inl rfl) (Or.inr rfl), pifs_nil, pe_ix (ix_lt (K := K)) (pe_lst (pa_cons (pv 0) (pa_cons pe_non pa_nil))) (pe_callTy call_int1 rfl T.z_int boot_int (pa_cons (pe_cmpR op_eq (pv 0) pe_str (nomark _)) pa_nil)) (fun _ _ => rfl)⟩) (keeps_name rfl))
    (pss_one (ps_ret (pe_ix (ix_lt (K := K)) (pe_lst (pa_cons pe_non (pa_cons (pv 2) pa_nil))) (pe_callTy call_int1 rfl T.z_int boot_int (pa_cons (pe_callD D__law_is_tree hr rfl (pa_cons (pv 0) (pa_cons (pv 2) pa_nil))) pa_nil)) (fun _ _ => rfl))))))), ?_⟩
  have big := line20
  have big2 : 16777216 = sizeLine := by decide
  obtain ⟨l1, l2⟩ := split_len t " "
  refine ⟨_, rfl, rfl, t, " ", rfl, rfl, by decide +kernel, by omega, by omega, fun l0 hl0 => ?_⟩
  have en : ends t = (Txt.split t " ").map g0 := rfl
  generalize Txt.split t " " = ws at l1 l2 en ⊢
  have dn : treeOf net (.str t) = if goodD net (.list (ws.map g0)) = true then some (.list (ws.map g0)) else none := by rw [← en]; rfl
  refine ⟨l0, rfl, ⟨_, SqL.of upd_same⟩, fun D hD => ?_⟩
  have s0 := same_upd hl0 (HO.lst (ws.map V.str))
  have e0 : (upd H l0 (HO.lst (ws.map V.str))) l0 = some (.lst (ws.map V.str)) := upd_same
  generalize upd H l0 (HO.lst (ws.map V.str)) = H0 at s0 e0 hD ⊢
  refine comp_list (K := K) (xs := ws.map V.str) (TakeP H0 (ws.map g1)) hD ⟨Same.refl _, rfl⟩ (fun i G ys p => SqL.of (p.1 _ _ e0)) (fun i x G ys hx hG pq => ?_) (fun G ys hG pq => ?_)
  · obtain ⟨u, hu, rfl⟩ := str_get hx
    have hi := lt_of_get hu
    refine ⟨_, rfl, u, rfl, Nat.le_trans (l2 u (List.mem_of_getElem? hu)) ht, fun H2 s2 => ⟨(by show 2 ≤ sizeLine; decide), fun l2 hl2 => ⟨_, rfl, rfl, .inr ⟨_, rfl, ?_⟩⟩⟩⟩
    have s3 := same_upd hl2 (HO.lst [optV (numOf u), V.str "-"])
    have ev : atI [optV (numOf u), V.str "-"] (if decide (V.str u = V.str "-") = true then 1 else 0) = some (g1 u) := by
      unfold g1
      by_cases c : u = "-"
      · rw [decide_eq_true (show V.str u = V.str "-" by rw [c]), if_pos rfl, if_pos c]
        rfl
      · rw [decide_eq_false (show ¬ V.str u = V.str "-" from fun z => c (V.str.inj z)), if_neg Bool.false_ne_true, if_neg c]
        rfl
    exact .inl ⟨l2, _, _, _, rfl, rfl, SqL.of upd_same, ev, pq.put hG (s2.trans s3) (by rw [List.getElem?_map, hu]; rfl) (by omega)⟩
  have ey : ys = ws.map g1 := by
    have := pq.2
    rw [List.length_map, show ws.length = (ws.map g1).length by rw [List.length_map], List.take_length] at this
    exact this
  subst ey
  have k1 := s0.trans (pq.1.trans (same_upd hG (HO.lst (ws.map g1))))
  have eD : (upd G D (HO.lst (ws.map g1))) D = some (.lst (ws.map g1)) := upd_same
  generalize upd G D (HO.lst (ws.map g1)) = H1 at k1 eD ⊢
  have no : goodD net (.list (ws.map g0)) = false → ∀ H', Same H1 H' → Q .non H' := fun z H' s' => q1 (by rw [dn, z]; exact if_neg Bool.false_ne_true) _ (k1.trans s')
  obtain ⟨a, xs, rfl, ea, ra⟩ := rep_list rv
  have la : xs.length = net.length := by rw [ra.length, List.length_map]
  have len8 := ok.len
  refine ⟨_, rfl, D, _, rfl, .inl (SqL.of eD), _, rfl, a, _, rfl, .inl (SqL.of (k1 _ _ ea)), rfl, _, rfl, iteB (fun c => ?_) (fun c => ?_)⟩
  · have c' := ne_t c
    rw [List.length_map] at c'
    refine no ?_ _ (Same.refl _)
    rw [good_list, decide_eq_false (by rw [List.length_map]; omega)]
    rfl
  have c' := ne_f c
  rw [List.length_map] at c'
  have hl : ws.length = net.length := by omega
  refine ⟨_, rfl, _, rfl, D, a, rfl, ⟨_, SqL.of eD⟩, ⟨_, SqL.of (k1 _ _ ea)⟩, for_zip (K := K) (xs := ws.map g1) (ys := xs) (fun i σ' H' => ∃ c3 c4 : Option V, σ' = [some (.ref a), some (.str t), some (.ref D), c3, c4] ∧ Same H1 H' ∧ ∀ (j : Nat) row w, j < i → net[j]? = some row → ws[j]? = some w → fitsD row (g0 w) = true) ⟨none, none, rfl, Same.refl _, fun j _ _ h => absurd h (by omega)⟩ (fun j σ' H' ⟨_, _, _, hs, _⟩ => ⟨SqL.of (hs _ _ eD), SqL.of (hs _ _ (k1 _ _ ea))⟩) ?_ ?_⟩
  · rintro i x y tt σ' H' hx hy htt ⟨c3, c4, rfl, hs, good⟩
    rw [List.getElem?_map] at hx
    cases hu : ws[i]? with
    | none => rw [hu] at hx; cases hx
    | some u =>
    rw [hu] at hx
    have ex : g1 u = x := Option.some.inj hx
    subst ex
    obtain ⟨row, hrow, rrow⟩ := reps_map ra hy
    have s2 := hs.trans (same_upd htt (HO.tup [g1 u, y]))
    refine ⟨tt, _, rfl, SqT.of upd_same, rfl, _, _, rfl, _, _, rfl, rfl, ?_⟩
    have rr2 := rrow.mono (k1.trans s2)
    have row8 := netD_at ok hrow
    generalize upd H' tt (HO.tup _) = H2 at s2 rr2 ⊢
    have bad : fitsD row (g0 u) = false → ∀ H', Same H2 H' → Q .non H' := fun z H' s' => by
      refine no ?_ _ (s2.trans s')
      rw [good_list, Bool.and_eq_false_iff, Bool.and_eq_false_iff]
      refine .inl (.inr (List.all_eq_false.mpr ⟨(row, g0 u), List.mem_of_getElem? (i := i) (by rw [List.getElem?_zip_eq_some]; exact ⟨hrow, by rw [List.getElem?_map, hu]; rfl⟩), ?_⟩))
      rw [show fitsD (row, g0 u).1 (row, g0 u).2 = false from z]
      exact Bool.false_ne_true
    have next : fitsD row (g0 u) = true → ∀ (j : Nat) row' w', j < i + 1 → net[j]? = some row' → ws[j]? = some w' → fitsD row' (g0 w') = true := fun z j row' w' hj h1 h2 => by
      by_cases ej : j = i
      · subst ej
        rw [hrow] at h1
        rw [hu] at h2
        cases h1
        cases h2
        exact z
      · exact good j row' w' (by omega) h1 h2
    refine ⟨_, rfl, Nat.zero_le _, fun l4 hl4 => ?_⟩
    have s4 := same_upd hl4 (HO.lst [])
    refine ⟨_, _, rr2.mono s4, .lst upd_same .nil, (okTo_row row).shaped (by decide), shaped_nil, _, rfl, ?_⟩
    rw [eqv_row_nil]
    generalize upd H2 l4 (HO.lst []) = H4 at s4 ⊢
    have rr4 := rr2.mono s4
    by_cases cr : row = []
    · rw [decide_eq_true cr]
      refine ⟨_, rfl, g1_scal u, _, rfl, ?_⟩
      rw [g1_dash]
      refine iteB (fun c2 => ?_) (fun c2 => ?_)
      · exact bad (by rw [cr, fit_nil]; simpa using c2) _ s4
      · refine ⟨_, rfl, Nat.zero_le _, fun l5 hl5 => ?_⟩
        have s5 := same_upd hl5 (HO.lst [])
        refine ⟨_, _, rr4.mono s5, .lst upd_same .nil, (okTo_row row).shaped (by decide), shaped_nil, _, rfl, ?_⟩
        rw [eqv_row_nil, decide_eq_true cr]
        exact ⟨_, _, rfl, s2.trans (s4.trans s5), next (by rw [cr, fit_nil]; simpa using c2)⟩
    · rw [decide_eq_false cr]
      refine ⟨_, rfl, Nat.zero_le _, fun l5 hl5 => ?_⟩
      have s5 := same_upd hl5 (HO.lst [])
      refine ⟨_, _, rr4.mono s5, .lst upd_same .nil, (okTo_row row).shaped (by decide), shaped_nil, _, rfl, ?_⟩
      rw [eqv_row_nil, decide_eq_false cr]
      have rr5 := rr4.mono s5
      generalize upd H4 l5 (HO.lst []) = H5 at s5 rr5 ⊢
      obtain ⟨rb', rxs, rfl, er, rrx⟩ := rep_list rr5
      have lr : rxs.length = row.length := by rw [rrx.length, List.length_map]
      refine ⟨_, rfl, _, rfl, rb', rfl, ⟨_, SqL.of er⟩, fun D2 hD2 => ?_⟩
      refine comp_list (K := K) (xs := rxs) (TakeP H5 (endsV row)) hD2 ⟨Same.refl _, rfl⟩ (fun i G ys p => SqL.of (p.1 _ _ er)) (fun i x G ys hx hG pq => ?_) (fun G ys2 hG pq => ?_)
      · obtain ⟨ar, har, rar⟩ := reps_map rrx hx
        obtain ⟨ta, rfl, eta⟩ := rep_arr rar
        refine ⟨ta, _, rfl, SqT.of ((same_upd hG _) _ _ (pq.1 _ _ eta)), rfl, _, _, rfl, _, _, rfl, rfl, ?_⟩
        exact ⟨_, rfl, pq.put hG (Same.refl _) (by unfold endsV; rw [List.getElem?_map, har]; rfl) (by have := lt_of_get har; omega)⟩
      have ey : ys2 = endsV row := by
        have := pq.2
        rw [lr, show row.length = (endsV row).length by unfold endsV; rw [List.length_map], List.take_length] at this
        exact this
      subst ey
      have s6 := pq.1.trans (same_upd hG (HO.lst (endsV row)))
      have k6 := s4.trans (s5.trans s6)
      refine ⟨D2, _, rfl, .inl (SqL.of upd_same), g1_flat u, (by rw [endsV_eq]; exact flat_ints _), _, rfl, iteB (fun c2 => ?_) (fun c2 => ?_)⟩
      · have c3 : (!inV (g1 u) (endsV row)) = true := c2
        exact bad (by rw [fit_cons cr]; simpa using c3) _ k6
      · have c3 : (!inV (g1 u) (endsV row)) = false := c2
        exact ⟨_, _, rfl, s2.trans k6, next (by rw [fit_cons cr]; simpa using c3)⟩
  · rintro σ' H' ⟨c3, c4, rfl, hs, good⟩
    rw [List.length_map] at good
    refine ⟨_, rfl, D, rfl, ⟨_, SqL.of (hs _ _ eD)⟩, fun D5 hD5 => ?_⟩
    refine comp_list (K := K) (xs := ws.map g1) (TakeP H' (ws.map g2)) hD5 ⟨Same.refl _, rfl⟩ (fun i G ys p => SqL.of (p.1 _ _ (hs _ _ eD))) (fun i x G ys hx hG pq => ?_) (fun G ys hG pq => ?_)
    · rw [List.getElem?_map] at hx
      cases hu : ws[i]? with
      | none => rw [hu] at hx; cases hx
      | some u =>
      rw [hu] at hx
      have ex : g1 u = x := Option.some.inj hx
      subst ex
      refine ⟨_, rfl, (by show 2 ≤ sizeLine; decide), fun l6 hl6 => ⟨_, rfl, g1_scal u, .inr ⟨_, rfl, ?_⟩⟩⟩
      have ev : atI [g1 u, V.non] (if decide (g1 u = V.str "-") = true then 1 else 0) = some (g2 u) := by
        rw [g1_dash]
        unfold g1 g2
        by_cases c : u = "-"
        · rw [decide_eq_true c, if_pos rfl, if_pos c, if_pos c]
          rfl
        · rw [decide_eq_false c, if_neg Bool.false_ne_true, if_neg c, if_neg c]
          rfl
      exact .inl ⟨l6, _, _, _, rfl, rfl, SqL.of upd_same, ev, pq.put hG (same_upd hl6 _) (by rw [List.getElem?_map, hu]; rfl) (by have := lt_of_get hu; omega)⟩
    have ey : ys = ((ws.map g0).map optE).map optV := by
      have := pq.2
      rw [List.length_map, show ws.length = (ws.map g2).length by rw [List.length_map], List.take_length] at this
      rw [this, List.map_map, List.map_map]
      exact List.map_congr_left fun w _ => g2_opt w
    have s5 := pq.1.trans (same_upd hG (HO.lst ys))
    have n5 : New H (upd (fun _ => none) D5 (.lst ys)) (upd G D5 (.lst ys)) := ((New.start H).more (k1.trans (hs.trans pq.1))).done hG
    have e5 : (upd (fun _ => none) D5 (HO.lst ys) : Hp) D5 = some (.lst (((ws.map g0).map optE).map optV)) := by rw [upd_same, ey]
    have fits : ((net.zip (ws.map g0)).all fun p => fitsD p.1 p.2) = true := by
      rw [List.all_eq_true]
      rintro ⟨row, d⟩ hm
      obtain ⟨i, hi⟩ := List.mem_iff_getElem?.mp hm
      rw [List.getElem?_zip_eq_some, List.getElem?_map] at hi
      cases hw : ws[i]? with
      | none => rw [hw] at hi; cases hi.2
      | some w =>
        rw [hw] at hi
        have e : g0 w = d := Option.some.inj hi.2
        rw [← e]
        exact good i row w (by have := lt_of_get hw; omega) hi.1 hw
    have hl' : (ws.map g0).length = net.length := by rw [List.length_map]; exact hl
    have fc := fits_cases ok hl' fits
    have gd : goodD net (.list (ws.map g0)) = (List.range net.length).all fun p => rootB ((ws.map g0).map optE) p := by
      rw [good_list, decide_eq_true hl', fits]
      rfl
    have opt : (ws.map g0) = ((ws.map g0).map optE).map optPy := by
      rw [List.map_map]
      refine (List.map_id _).symm.trans (List.map_congr_left fun d hd => ?_)
      rcases fc d hd with rfl | ⟨e, rfl, _⟩
      · rfl
      · show PyData.int (e : Int) = PyData.int (((e : Int).toNat : Nat) : Int)
        rw [Int.toNat_natCast]
    have at' : ∀ p d, (ws.map g0)[p]? = some d → nextE ((ws.map g0).map optE) p = optE d := fun p d hd => by
      unfold nextE
      rw [List.getElem?_map, hd]
      rfl
    have r5 : Rep (upd (fun _ => none) D5 (HO.lst ys)) (.ref D5) (.list (ws.map g0)) := by
      rw [opt]
      exact opts_rep e5
    have el : ((ws.map g0).map optE).length = net.length := by rw [List.length_map]; exact hl'
    have inb : InB ((ws.map g0).map optE) := fun p e h => by
      cases hd : (ws.map g0)[p]? with
      | none => unfold nextE at h; rw [List.getElem?_map, hd] at h; cases h
      | some d =>
        rw [at' p d hd] at h
        rcases fc d (List.mem_of_getElem? hd) with rfl | ⟨n, rfl, hn⟩
        · cases h
        · have : n = e := by
            have h' : some ((n : Int).toNat) = some e := h
            rw [Int.toNat_natCast] at h'
            exact Option.some.inj h'
          rw [List.length_map, ← this]
          exact hn
    have hz : ∀ (p : Nat) row, net[p]? = some row → (row = [] ↔ nextE ((ws.map g0).map optE) p = none) := fun p row hp => by
      have hp2 : p < (ws.map g0).length := by rw [hl']; exact lt_of_get hp
      have hd := List.getElem?_eq_getElem hp2
      rw [at' p _ hd]
      have ft := List.all_eq_true.mp fits (row, (ws.map g0)[p]) (List.mem_of_getElem? (i := p) (by rw [List.getElem?_zip_eq_some]; exact ⟨hp, hd⟩))
      have ft' : fitsD row (ws.map g0)[p] = true := ft
      generalize (ws.map g0)[p] = d at ft'
      by_cases c : row = []
      · rw [c, fits_nil] at ft'
        cases d with
        | none => exact ⟨fun _ => rfl, fun _ => c⟩
        | _ => cases ft'
      · rw [fits_cons c] at ft'
        cases d with
        | int e => exact ⟨fun z => absurd z c, fun z => nomatch z⟩
        | _ => cases ft'
    have k5 := hs.trans s5
    generalize upd G D5 (HO.lst ys) = H5 at n5 s5 k5 ⊢
    refine ⟨_, rfl, (by show 2 ≤ sizeLine; decide), fun l7 hl7 => ?_⟩
    have s7 := same_upd hl7 (HO.lst [V.non, V.ref D5])
    refine ⟨_, rfl, _, rfl, .ref a, net, D5, _, rfl, rv.mono (k1.trans (k5.trans s7)), s7 _ _ (n5.sub _ _ e5), el, len8, inb, hz, fun H8 s8 => .inr ⟨_, rfl, ?_⟩⟩
    have e7 := s8 _ _ (show (upd H5 l7 (HO.lst [V.non, V.ref D5])) l7 = some (HO.lst [V.non, V.ref D5]) from upd_same)
    rw [← gd]
    by_cases g : goodD net (.list (ws.map g0)) = true
    · rw [g]
      exact .inl ⟨l7, _, _, _, rfl, rfl, SqL.of e7, rfl, q2 _ (by rw [dn]; exact if_pos g) _ _ _ (n5.more (s7.trans s8)) r5⟩
    · rw [Bool.eq_false_iff.mpr g]
      exact .inl ⟨l7, _, _, _, rfl, rfl, SqL.of e7, rfl, no (Bool.eq_false_iff.mpr g) _ (k5.trans (s7.trans s8))⟩
end
end Law

namespace Law
open PySem L2 Ways Ring PyProof.Rows
theorem not_all {K : PySem.W.Frag} {mg : Str → Option Value} {C : Addr} (self : PySem.W.mroIn K C (.ref C) = some true) (ds : List Addr) (h : ∀ D ∈ ds, ∃ x, Not K mg x D C) : PySem.W.kitAny K (.ref C) (ds.map Value.ref) = some false :=
  kit_none self ds fun D hD => by
    obtain ⟨x, n⟩ := h D hD
    exact ⟨n.cl, n.ty, n.no⟩
end Law

namespace Law
open PySem L2 Ways Ring PyProof.Rows
seal L2.PE L2.PA L2.PS L2.PSs L2.PG L2.PT
/-- what is due is a net, piles or a tree -/
def Due (e : PyData) : Prop := (∃ n : Net, e = netD n) ∨ (∃ p : List (List Nat), e = ringsD p) ∨ ∃ es : List (Option Nat), e = .list (es.map optPy)
theorem Due.list {e : PyData} (h : Due e) : ∃ ds, e = .list ds := by
  rcases h with ⟨n, rfl⟩ | ⟨p, rfl⟩ | ⟨es, rfl⟩ <;> exact ⟨_, rfl⟩
theorem Due.eqv {e : PyData} (h : Due e) : PyData.eqv e e = true ∧ SeqAt.shaped e = true := by
  rcases h with ⟨n, rfl⟩ | ⟨p, rfl⟩ | ⟨es, rfl⟩
  · exact ⟨by rw [eqv_net]; exact decide_eq_true rfl, (okTo_net n).shaped (by decide)⟩
  · exact ⟨by rw [eqv_rings]; exact decide_eq_true rfl, (okTo_rings p).shaped (by decide)⟩
  · exact ⟨by rw [eqv_opts]; exact decide_eq_true rfl, (okTo_opts es).shaped (by decide)⟩
theorem map_of {α β : Type} {f : α → β} : ∀ {l : List β}, (∀ b ∈ l, ∃ a, b = f a) → ∃ l' : List α, l = l'.map f
  | [], _ => ⟨[], rfl⟩
  | b :: l, h => by
    obtain ⟨a, rfl⟩ := h b (List.mem_cons_self ..)
    obtain ⟨l', rfl⟩ := map_of (l := l) fun c hc => h c (List.mem_cons_of_mem _ hc)
    exact ⟨a :: l', rfl⟩
theorem netB_due {ds : List PyData} (h : netB (.list ds) = true) : Due (.list ds) := by
  have h' : ((decide (1 ≤ ds.length) && decide (ds.length ≤ 8)) && ds.all (rowB ds.length)) = true := h
  rw [Bool.and_eq_true] at h'
  obtain ⟨n, rfl⟩ := map_of (f := rowD) (l := ds) fun d hd => by
    have hr := List.all_eq_true.mp h'.2 d hd
    cases d with
    | list es =>
      obtain ⟨r, rfl⟩ := map_of (f := arrD) (l := es) fun a ha => by
        obtain ⟨x, y, e, _⟩ := arrowD_is (rise_mem hr a ha)
        exact ⟨(x, y), e⟩
      exact ⟨r, rfl⟩
    | _ => cases hr
  exact .inl ⟨n, rfl⟩
theorem pilesD_due {net : Net} (ok : NetOk net) {ds : List PyData} (h : pilesD net (.list ds) = true) : Due (.list ds) := by
  have h' : (decide (ds.length = net.length) && (net.zip ds).all fun p => pileD p.1 p.2) = true := h
  rw [Bool.and_eq_true, decide_eq_true_eq] at h'
  obtain ⟨n, rfl⟩ := map_of (f := natsD) (l := ds) fun d hd => by
    obtain ⟨i, hi, rfl⟩ := List.mem_iff_getElem.mp hd
    have hi2 : i < net.length := by omega
    have hr := List.all_eq_true.mp h'.2 (net[i], ds[i]) (List.mem_of_getElem? (i := i) (by rw [List.getElem?_zip_eq_some]; exact ⟨List.getElem?_eq_getElem hi2, List.getElem?_eq_getElem hi⟩))
    generalize ds[i] = d at hr
    cases d with
    | list es =>
      have hr' : (decide (es.length ≤ 40) && es.all (endD net[i])) = true := hr
      rw [Bool.and_eq_true] at hr'
      obtain ⟨t, e, _⟩ := pile_nats ok (List.getElem_mem hi2) es hr'.2
      exact ⟨t, by rw [e]; rfl⟩
    | _ => cases hr
  exact .inr (.inl ⟨n, rfl⟩)
theorem goodD_due {net : Net} (ok : NetOk net) {ds : List PyData} (h : goodD net (.list ds) = true) : Due (.list ds) := by
  rw [good_list, Bool.and_eq_true, Bool.and_eq_true, decide_eq_true_eq] at h
  obtain ⟨n, rfl⟩ := map_of (f := optPy) (l := ds) fun d hd => by
    rcases fits_cases ok h.1.1 h.1.2 d hd with rfl | ⟨e, rfl, _⟩
    · exact ⟨none, rfl⟩
    · exact ⟨some e, rfl⟩
  exact .inr (.inr ⟨n, rfl⟩)
theorem dueOf_due {net : Net} (ok : NetOk net) {k : Int} {d e : PyData} (h : dueOf net k d = some e) : Due e := by
  unfold dueOf at h
  split at h
  · cases d with
    | str t =>
      have h' : (if netB (.list (lists rdA t)) = true then some (PyData.list (lists rdA t)) else none) = some e := h
      split at h'
      · rename_i g
        cases h'
        exact netB_due g
      · cases h'
    | _ => cases h
  · split at h
    · cases d with
      | str t =>
        have h' : (if pilesD net (.list (lists rdN t)) = true then some (PyData.list (lists rdN t)) else none) = some e := h
        split at h'
        · rename_i g
          cases h'
          exact pilesD_due ok g
        · cases h'
      | _ => cases h
    · cases d with
      | str t =>
        have h' : (if goodD net (.list (ends t)) = true then some (PyData.list (ends t)) else none) = some e := h
        split at h'
        · rename_i g
          cases h'
          exact goodD_due ok g
        · cases h'
      | _ => cases h
theorem dueOf_no {net : Net} {k : Int} {d : PyData} (h : ∀ t, d ≠ .str t) : dueOf net k d = none := by
  unfold dueOf
  cases d with
  | str t => exact absurd rfl (h t)
  | _ => split <;> first | rfl | (split <;> rfl)
section
variable {P : Program} {w : World} {K : PySem.W.Frag} {mg : Str → Option Value} {base : Heap}
/-! ### what is due, what is read -/
def sp_due : Sp := fun vs H Q _ => ∃ v net x d k, vs = [v, x, .int k] ∧ Rep H v (netD net) ∧ NetOk net ∧ Rep H x d ∧ Brief d ∧ Tells (dueOf net k d) H Q
theorem def__law_due (T : Txt mg) (D__law_net_of : Def P w K mg base "_law_net_of" 3 ["_law_text_here"] sp_net_ofL) (D__law_piles_of : Def P w K mg base "_law_piles_of" 2 ["_law_net_here", "_law_text_here"] sp_piles_ofL) (D__law_tree_of : Def P w K mg base "_law_tree_of" 2 ["_law_net_here", "_law_text_here"] sp_tree_ofL) (h : Here K mg "_law_due" s__law_due ["_law_net_here", "_law_text_here", "_law_kind"]) : Def P w K mg base "_law_due" 4 ["_law_net_here", "_law_text_here", "_law_kind"] sp_due := h.mk fun f fd F => by
  have nd := sc__law_due.nd
  refine F.ok sc__law_due (fun vs H Q E h => ?_) (fun cdv A outer s H vs Q E hr h => ?_)
  · obtain ⟨v, net, x, d, k, rfl, _⟩ := h
    rfl
  obtain ⟨v, net, x, d, k, rfl, rv, ok, rx, br, q⟩ := h
  refine ⟨_, pss_cons (ps_if (pt_not (pt_val (pe_callB call_isi rfl T.z_isinstance boot_isinstance (pa_cons (pv 1) (pa_cons (pe_bltn rfl T.z_str boot_str (v := .ty "str") rfl) pa_nil)))))
      (pss_one (ps_ret pe_non))
      (pss_nil))
    (pss_cons (ps_if (pt_cmpR op_eq (pv 2) pe_int (nomark _))
      (pss_one (ps_ret (pe_callD D__law_net_of hr rfl (pa_cons (pv 1) pa_nil))))
      (pss_nil))
    (pss_cons (ps_if (pt_cmpR op_eq (pv 2) pe_int (nomark _))
      (pss_one (ps_ret (pe_callD D__law_piles_of hr rfl (pa_cons (pv 0) (pa_cons (pv 1) pa_nil)))))
      (pss_nil))
    (pss_one (ps_ret (pe_callD D__law_tree_of hr rfl (pa_cons (pv 0) (pa_cons (pv 1) pa_nil))))))), ?_⟩
  refine ⟨_, rfl, _, _, _, rfl, by decide, rep_ty rx, _, rfl, ?_⟩
  cases d with
  | str t =>
    cases rx
    refine ⟨_, rfl, rfl, _, rfl, iteD (fun c => ?_) (fun c => ?_)⟩
    · have c' : k = 0 := by injection c
      subst c'
      exact ⟨_, rfl, t, rfl, br t rfl, q⟩
    have c0 : ¬ k = 0 := fun z => c (by rw [z])
    refine ⟨_, rfl, rfl, _, rfl, iteD (fun c => ?_) (fun c => ?_)⟩
    · have c' : k = 1 := by injection c
      subst c'
      exact ⟨_, rfl, _, rfl, v, net, t, rfl, rv, ok, br t rfl, q⟩
    have c1 : ¬ k = 1 := fun z => c (by rw [z])
    have e : dueOf net k (.str t) = treeOf net (.str t) := by unfold dueOf; rw [if_neg c0, if_neg c1]
    rw [e] at q
    exact ⟨_, rfl, _, rfl, v, net, t, rfl, rv, ok, br t rfl, q⟩
  | _ => exact q.1 (dueOf_no fun t z => by cases z) _ (Same.refl _)
def sp_read (aE : Addr) : Sp := fun vs H Q E => ∃ v net x d k, vs = [v, x, .int k] ∧ Rep H v (netD net) ∧ NetOk net ∧ Rep H x d ∧ Brief d ∧ Reads (dueOf net k d) aE H Q E
theorem def__law_read (T : Txt mg) (U : Cls K mg) (D_read_net : DefE P w K mg base "read_net" 6 ["text"] (sp_read_net U.a_NoText)) (D_read_piles : DefE P w K mg base "read_piles" 5 ["net", "text"] (sp_read_piles U.a_NoText)) (D_read_tree : DefE P w K mg base "read_tree" 6 ["net", "text"] (sp_read_tree U.a_NoText)) (h : Here K mg "_law_read" s__law_read ["_law_net_here", "_law_text_here", "_law_kind"]) : DefE P w K mg base "_law_read" 7 ["_law_net_here", "_law_text_here", "_law_kind"] (sp_read U.a_NoText) := h.mkE fun f fd F => by
  have nd := sc__law_read.nd
  refine F.okE sc__law_read (fun vs H Q E h => ?_) (fun cdv A outer s H vs Q E hr h => ?_)
  · obtain ⟨v, net, x, d, k, rfl, _⟩ := h
    rfl
  obtain ⟨v, net, x, d, k, rfl, rv, ok, rx, br, q⟩ := h
  refine ⟨_, pss_cons (ps_if (pt_cmpR op_eq (pv 2) pe_int (nomark _))
      (pss_one (ps_ret (pe_callE D_read_net hr rfl (pa_cons (pv 1) pa_nil))))
      (pss_nil))
    (pss_cons (ps_if (pt_cmpR op_eq (pv 2) pe_int (nomark _))
      (pss_one (ps_ret (pe_callE D_read_piles hr rfl (pa_cons (pv 0) (pa_cons (pv 1) pa_nil)))))
      (pss_nil))
    (pss_one (ps_ret (pe_callE D_read_tree hr rfl (pa_cons (pv 0) (pa_cons (pv 1) pa_nil)))))), ?_⟩
  refine ⟨_, rfl, rfl, _, rfl, iteD (fun c => ?_) (fun c => ?_)⟩
  · have c' : k = 0 := by injection c
    subst c'
    exact ⟨_, rfl, x, d, rfl, rx, br, q⟩
  have c0 : ¬ k = 0 := fun z => c (by rw [z])
  refine ⟨_, rfl, rfl, _, rfl, iteD (fun c => ?_) (fun c => ?_)⟩
  · have c' : k = 1 := by injection c
    subst c'
    exact ⟨_, rfl, _, rfl, v, net, x, d, rfl, rv, ok, rx, br, q⟩
  have c1 : ¬ k = 1 := fun z => c (by rw [z])
  have e : dueOf net k d = treeOf net d := by unfold dueOf; rw [if_neg c0, if_neg c1]
  rw [e] at q
  exact ⟨_, rfl, _, rfl, v, net, x, d, rfl, rv, ok, rx, br, q⟩
/-! ### a thing that is refused -/
def sp_refused : Sp := fun vs H Q _ => ∃ v net x d k, vs = [v, x, .int k] ∧ Rep H v (netD net) ∧ NetOk net ∧ Rep H x d ∧ Brief d ∧ dueOf net k d = none ∧ ∀ H', Same H H' → Q (.bl true) H'
theorem def__law_refused (T : Txt mg) (U : Cls K mg) (D__law_read : DefE P w K mg base "_law_read" 7 ["_law_net_here", "_law_text_here", "_law_kind"] (sp_read U.a_NoText)) (h : Here K mg "_law_refused" s__law_refused ["_law_net_here", "_law_text_here", "_law_kind"]) : Def P w K mg base "_law_refused" 8 ["_law_net_here", "_law_text_here", "_law_kind"] sp_refused := h.mk fun f fd F => by
  have nd := sc__law_refused.nd
  refine F.ok sc__law_refused (fun vs H Q E h => ?_) (fun cdv A outer s H vs Q E hr h => ?_)
  · obtain ⟨v, net, x, d, k, rfl, _⟩ := h
    rfl
  obtain ⟨v, net, x, d, k, rfl, rv, ok, rx, br, no, q⟩ := h
  refine ⟨_, pss_cons (ps_set (i := 3) nd rfl (Or.inl rfl) pe_int)
    (pss_cons (ps_tryDC (i := 4) D__law_read hr rfl rfl rfl rfl (fun _ => pa_cons (pv 0) (pa_cons (pv 1) (pa_cons (pv 2) pa_nil))) U.e_NoText.b rfl nd rfl rfl (fun _ => pss_cons (ps_set (i := 3) nd rfl (Or.inl rfl) pe_int)
      (pss_cons (ps_if (pt_val (pe_callB (call_isiT (K := K)) rfl T.z_isinstance boot_isinstance (pa_cons (pv 4) (pa_cons (pe_tup (pa_cons (pe_glob rfl U.g_NoNet (v := .ref _) rfl) (pa_cons (pe_glob rfl U.g_NoTree (v := .ref _) rfl) (pa_cons (pe_glob rfl U.g_NoPiles (v := .ref _) rfl) (pa_cons (pe_glob rfl U.g_NoRing (v := .ref _) rfl) (pa_cons (pe_glob rfl U.g_NoPlace (v := .ref _) rfl) pa_nil)))))) pa_nil))))
        (pss_one (ps_set (i := 3) nd rfl (Or.inl rfl) pe_int))
        (pss_nil))
      (pss_one (ps_if (pt_val (pe_callB (call_isiT (K := K)) rfl T.z_isinstance boot_isinstance (pa_cons (pv 4) (pa_cons (pe_tup (pa_cons (pe_glob rfl U.g_NoNumber (v := .ref _) rfl) (pa_cons (pe_glob rfl U.g_NoArrow (v := .ref _) rfl) (pa_cons (pe_glob rfl U.g_MakesRing (v := .ref _) rfl) (pa_cons (pe_glob rfl U.g_RanOut (v := .ref _) rfl) (pa_cons (pe_glob rfl U.g_TooGreat (v := .ref _) rfl) pa_nil)))))) pa_nil))))
        (pss_one (ps_set (i := 3) nd rfl (Or.inl rfl) pe_int))
        (pss_nil))))))
    (pss_cons (ps_if (pt_cmpR op_ne (pv 3) pe_int (nomark _))
      (pss_one (ps_ret pe_bl))
      (pss_nil))
    (pss_cons (ps_tryDC (i := 4) D__law_read hr rfl rfl rfl rfl (fun _ => pa_cons (pv 0) (pa_cons (pv 1) (pa_cons (pv 2) pa_nil))) U.e_RingError.b rfl nd rfl rfl (fun _ => pss_one (ps_set (i := 3) nd rfl (Or.inl rfl) (pe_op op_mul pe_int (pe_callTy call_int1 rfl T.z_int boot_int (pa_cons (pe_callB (call_isiV (K := K)) rfl T.z_isinstance boot_isinstance (pa_cons (pv 4) (pa_cons (pe_bltn rfl T.z_ValueError boot_ValueError (v := .ty "ValueError") rfl) pa_nil))) pa_nil))))))
    (pss_one (ps_ret (pe_cmpR op_eq (pv 3) pe_int (nomark _))))))), ?_⟩
  refine ⟨_, rfl, _, rfl, _, rfl, v, net, x, d, k, rfl, rv, ok, rx, br, (fun e z => by rw [no] at z; cases z), fun _ H1 s1 => ⟨fun C eC => ?_, (fun C z => nomatch z)⟩⟩
  cases eC
  refine ⟨U.u_NoText_NoText, fun ea hea => ?_⟩
  have t1 := s1.trans (same_upd hea (.ext (PySem.W.ExcAt ea U.a_NoText)))
  have he : (upd H1 ea (.ext (PySem.W.ExcAt ea U.a_NoText))) ea = some (.ext (PySem.W.ExcAt ea U.a_NoText)) := upd_same
  generalize upd H1 ea (.ext (PySem.W.ExcAt ea U.a_NoText)) = H2 at t1 he ⊢
  refine ⟨_, rfl, (show 5 ≤ sizeLine by decide), fun t ht => ?_⟩
  have s2 := same_upd ht (.tup [.ref U.a_NoNet, .ref U.a_NoTree, .ref U.a_NoPiles, .ref U.a_NoRing, .ref U.a_NoPlace])
  refine ⟨ea, U.a_NoText, t, [U.a_NoNet, U.a_NoTree, U.a_NoPiles, U.a_NoRing, U.a_NoPlace], false, rfl, s2 _ _ he, U.e_NoText.kx, upd_same, ?_, _, rfl, ?_⟩
  · refine not_all (mg := mg) U.s_NoText _ fun D hD => ?_
    simp only [List.mem_cons, List.not_mem_nil, or_false] at hD
    rcases hD with rfl | rfl | rfl | rfl | rfl
    · exact ⟨_, U.n_NoText_NoNet⟩
    · exact ⟨_, U.n_NoText_NoTree⟩
    · exact ⟨_, U.n_NoText_NoPiles⟩
    · exact ⟨_, U.n_NoText_NoRing⟩
    · exact ⟨_, U.n_NoText_NoPlace⟩
  refine ⟨_, rfl, (show 5 ≤ sizeLine by decide), fun t2 ht2 => ?_⟩
  have s3 := same_upd ht2 (.tup [.ref U.a_NoNumber, .ref U.a_NoArrow, .ref U.a_MakesRing, .ref U.a_RanOut, .ref U.a_TooGreat])
  refine ⟨ea, U.a_NoText, t2, [U.a_NoNumber, U.a_NoArrow, U.a_MakesRing, U.a_RanOut, U.a_TooGreat], false, rfl, s3 _ _ (s2 _ _ he), U.e_NoText.kx, upd_same, ?_, _, rfl, ?_⟩
  · refine not_all (mg := mg) U.s_NoText _ fun D hD => ?_
    simp only [List.mem_cons, List.not_mem_nil, or_false] at hD
    rcases hD with rfl | rfl | rfl | rfl | rfl
    · exact ⟨_, U.n_NoText_NoNumber⟩
    · exact ⟨_, U.n_NoText_NoArrow⟩
    · exact ⟨_, U.n_NoText_MakesRing⟩
    · exact ⟨_, U.n_NoText_RanOut⟩
    · exact ⟨_, U.n_NoText_TooGreat⟩
  have t2' := t1.trans (s2.trans s3)
  generalize upd (upd H2 t (.tup [.ref U.a_NoNet, .ref U.a_NoTree, .ref U.a_NoPiles, .ref U.a_NoRing, .ref U.a_NoPlace])) t2 (.tup [.ref U.a_NoNumber, .ref U.a_NoArrow, .ref U.a_MakesRing, .ref U.a_RanOut, .ref U.a_TooGreat]) = H4 at t2' ⊢
  refine ⟨_, rfl, rfl, _, rfl, ?_⟩
  refine iteB (fun c => absurd c (by decide)) (fun _ => ?_)
  refine ⟨_, rfl, _, rfl, _, rfl, v, net, x, d, k, rfl, rv.mono t2', ok, rx.mono t2', br, (fun e z => by rw [no] at z; cases z), fun _ H5 s5 => ⟨fun C eC => ?_, (fun C z => nomatch z)⟩⟩
  cases eC
  refine ⟨U.u_NoText_RingError, fun eb heb => ?_⟩
  have t3 := (t2'.trans s5).trans (same_upd heb (.ext (PySem.W.ExcAt eb U.a_NoText)))
  refine ⟨_, rfl, eb, U.a_NoText, _, true, rfl, upd_same, U.e_NoText.kx, kit_VE U.v_NoText, ?_⟩
  refine .inr ⟨_, rfl, _, _, rfl, rfl, .inl ⟨by decide, by decide⟩, ?_⟩
  exact ⟨_, rfl, rfl, q _ t3⟩
def sp_asked : Sp := fun vs H Q _ => ∃ v net x d k, vs = [v, x, .int k] ∧ Rep H v (netD net) ∧ NetOk net ∧ Rep H x d ∧ Brief d ∧ ∀ H', Same H H' → Q (.bl true) H'
theorem def__law_asked (T : Txt mg) (U : Cls K mg) (D__law_copy : Def P w K mg base "_law_copy" 1 ["_law_net_here"] sp_copyD) (D__law_due : Def P w K mg base "_law_due" 4 ["_law_net_here", "_law_text_here", "_law_kind"] sp_due) (D__law_read : DefE P w K mg base "_law_read" 7 ["_law_net_here", "_law_text_here", "_law_kind"] (sp_read U.a_NoText)) (D__law_refused : Def P w K mg base "_law_refused" 8 ["_law_net_here", "_law_text_here", "_law_kind"] sp_refused) (h : Here K mg "_law_asked" s__law_asked ["_law_net_here", "_law_text_here", "_law_kind"]) : Def P w K mg base "_law_asked" 9 ["_law_net_here", "_law_text_here", "_law_kind"] sp_asked := h.mk fun f fd F => by
  have nd := sc__law_asked.nd
  refine F.ok sc__law_asked (fun vs H Q E h => ?_) (fun cdv A outer s H vs Q E hr h => ?_)
  · obtain ⟨v, net, x, d, k, rfl, _⟩ := h
    rfl
  obtain ⟨v, net, x, d, k, rfl, rv, ok, rx, br, q⟩ := h
  refine ⟨_, pss_cons (ps_set (i := 3) nd rfl (Or.inl rfl) (pe_callD D__law_copy hr rfl (pa_cons (pv 0) pa_nil)))
    (pss_cons (ps_set (i := 4) nd rfl (Or.inl rfl) (pe_callD D__law_due hr rfl (pa_cons (pv 0) (pa_cons (pv 1) (pa_cons (pv 2) pa_nil)))))
    (pss_cons (ps_if (pt_cmp (pc_isN (pv 4)))
      (pss_one (ps_ret (pe_and (pe_callD D__law_refused hr rfl (pa_cons (pv 3) (pa_cons (pv 1) (pa_cons (pv 2) pa_nil)))) (pe_one (pe_cmpR (op_eqD hr) (pv 3) (pv 0) (nomark _))))))
      (pss_nil))
    (pss_cons (ps_set (i := 5) nd rfl (Or.inl rfl) (pe_callN D__law_read hr rfl (pa_cons (pv 3) (pa_cons (pv 1) (pa_cons (pv 2) pa_nil)))))
    (pss_one (ps_ret (pe_and (pe_callB call_isi rfl T.z_isinstance boot_isinstance (pa_cons (pv 5) (pa_cons (pe_bltn rfl T.z_list boot_list (v := .ty "list") rfl) pa_nil))) (pe_and (pe_cmpR (op_eqD hr) (pv 5) (pv 4) (nomark _)) (pe_one (pe_cmpR (op_eqD hr) (pv 3) (pv 0) (nomark _)))))))))), ?_⟩
  have sh : SeqAt.shaped (netD net) = true := (okTo_net net).shaped (by decide)
  have eq : PyData.eqv (netD net) (netD net) = true := by rw [eqv_net]; exact decide_eq_true rfl
  refine ⟨_, rfl, v, net.map rowD, rfl, rv, (fun d hd => by obtain ⟨r, _, rfl⟩ := List.mem_map.mp hd; exact ⟨_, rfl⟩), (by rw [List.length_map]; have := ok.len; omega), fun D H1 s1 rD => ?_⟩
  refine ⟨_, rfl, _, rfl, _, rfl, v, net, x, d, k, rfl, rv.mono s1, ok, rx.mono s1, br, (fun no H2 s2 => ?_), fun e he r F H2 n2 re => ?_⟩
  · refine ⟨_, rfl, _, rfl, ?_⟩
    refine ⟨_, rfl, _, rfl, _, rfl, .ref D, net, x, d, k, rfl, rD.mono s2, ok, rx.mono (s1.trans s2), br, no, fun H3 s3 => ?_⟩
    refine ⟨_, rfl, _, rfl, _, rfl, netD net, netD net, rD.mono (s2.trans s3), rv.mono (s1.trans (s2.trans s3)), sh, sh, ?_⟩
    rw [eq]
    exact q _ (s1.trans (s2.trans s3))
  · obtain ⟨ds, eds⟩ := (dueOf_due ok he).list
    obtain ⟨deq, dsh⟩ := (dueOf_due ok he).eqv
    subst eds
    have k2 := s1.trans n2.keep
    have rH := re.mono n2.sub
    obtain ⟨ra, rs, rfl, er, _⟩ := rep_list re
    refine ⟨_, rfl, _, rfl, ?_⟩
    refine ⟨_, rfl, _, rfl, _, rfl, .ref D, net, x, d, k, rfl, rD.mono n2.keep, ok, rx.mono k2, br, (fun e' he' r2 F2 H3 n3 r2e => ?_), fun z => by rw [he] at z; cases z⟩
    rw [he] at he'
    cases he'
    have r3 := r2e.mono n3.sub
    refine ⟨_, rfl, _, _, _, rfl, by decide, rep_ty r3, _, rfl, ?_⟩
    refine ⟨_, rfl, _, rfl, .list ds, .list ds, r3, rH.mono n3.keep, dsh, dsh, ?_⟩
    rw [deq]
    refine ⟨_, rfl, _, rfl, _, rfl, netD net, netD net, rD.mono (n2.keep.trans n3.keep), rv.mono (k2.trans n3.keep), sh, sh, ?_⟩
    rw [eq]
    exact q _ (k2.trans n3.keep)
end
end Law

namespace Law
open PySem L2 Ways Ring PyProof.Rows
seal L2.PE L2.PA L2.PS L2.PSs L2.PG L2.PT
section
variable {P : Program} {w : World} {K : PySem.W.Frag} {mg : Str → Option Value} {base : Heap}
/-! ### a text, bent -/
theorem NetC.t {net : Net} (h : NetC net) : NetT net where
  pos := h.pos
  len := h.len
  few := fun r hr => by have := (h.rows r hr).few; have := h.len; omega
  rise := fun r hr => (h.rows r hr).rise
  arr := fun r hr a ha => by
    obtain ⟨h1, h2, h3, h4⟩ := (h.rows r hr).within a ha
    have := h.len
    exact ⟨⟨h1, by omega, h3, Int.le_trans h4 (by decide)⟩, h2⟩
def sp_text : Sp := fun vs H Q _ => ∃ v net qv p tv k, vs = [v, qv, tv, .int k] ∧ Rep H v (netD net) ∧ NetC net ∧ Rep H qv (ringsD p) ∧ Fit net p ∧ (k ≠ 0 → k ≠ 1 → ∃ ta es, tv = .ref ta ∧ H ta = some (.lst (es.map optV)) ∧ TreeOf net es) ∧ ∀ t : PySem.Str, t.length ≤ 5000 → ∀ H', Same H H' → Q (.str t) H'
theorem TreeOf.lt8 {net : Net} {es : List (Option Nat)} (ok : NetC net) (t : TreeOf net es) {i : Nat} {n : Nat} (h : es[i]? = some (some n)) : n < 8 := by
  have hi := lt_of_get h
  have hi2 : i < net.length := by rw [← t.len]; exact hi
  have hn : nextE es i = some n := by unfold nextE; rw [h]; rfl
  rcases t.fits i _ (List.getElem?_eq_getElem hi2) with ⟨_, z⟩ | ⟨_, e, z, hm⟩
  · rw [hn] at z; cases z
  · rw [hn] at z
    cases z
    exact NetOk.end8 ok.nok (List.getElem_mem hi2) hm
theorem def__law_text (T : Txt mg) (D__law_net_text : Def P w K mg base "_law_net_text" 1 ["_law_net_here"] sp_net_text) (D__law_word : Def P w K mg base "_law_word" 1 ["_law_end"] sp_word) (h : Here K mg "_law_text" s__law_text ["_law_net_here", "_law_piles_here", "_law_tree", "_law_kind"]) : Def P w K mg base "_law_text" 2 ["_law_net_here", "_law_piles_here", "_law_tree", "_law_kind"] sp_text := h.mk fun f fd F => by
  have nd := sc__law_text.nd
  refine F.ok sc__law_text (fun vs H Q E h => ?_) (fun cdv A outer s H vs Q E hr h => ?_)
  · obtain ⟨v, net, qv, p, tv, k, rfl, _⟩ := h
    rfl
  obtain ⟨v, net, qv, p, tv, k, rfl, rv, ok, rp, fit, ht, q⟩ := h
  refine ⟨_, pss_cons (ps_if (pt_cmpR op_eq (pv 3) pe_int (nomark _))
      (pss_one (ps_ret (pe_callD D__law_net_text hr rfl (pa_cons (pv 0) pa_nil))))
      (pss_nil))
    (pss_cons (ps_if (pt_cmpR op_eq (pv 3) pe_int (nomark _))
      (pss_one (ps_ret (pe_bm PySem.F.plainAttrs_str PySem.F.slot_str_join PySem.F.type_str_join (mt_join (K := K)) pe_str (pa_cons (pe_comp (N' := ["_law_pile"]) (cap := [none]) rfl ⟨rfl, rfl, rfl, rfl, rfl, rfl⟩ (pi_listK (K := K) (pv 1)) (fun _ _ _ _ _ _ => ⟨pg_name (i := 0) (show (["_law_pile"] : List Str).Nodup by decide +kernel) rfl (Or.inl rfl) (Or.inr rfl), pifs_nil, pe_ix (ix_lt (K := K)) (pe_lst (pa_cons (pe_bmC (K := K) (pe_bm PySem.F.plainAttrs_str PySem.F.slot_str_join PySem.F.type_str_join (mt_join (K := K)) pe_str (pa_cons (pe_comp (N' := ["_law_end"]) (cap := [none]) rfl ⟨rfl, rfl, rfl, rfl, rfl, rfl⟩ (pi_listK (K := K) (pv 0)) (fun _ _ _ _ _ _ => ⟨pg_name (i := 0) (show (["_law_end"] : List Str).Nodup by decide +kernel) rfl (Or.inl rfl) (Or.inr rfl), pifs_nil, pe_callTy call_str_int rfl T.z_str boot_str (pa_cons (pv 0) pa_nil)⟩) (keeps_name rfl)) pa_nil))) (pa_cons pe_str pa_nil))) (pe_callTy call_int1 rfl T.z_int boot_int (pa_cons (pe_cmpR (op_eqD hr) (pv 0) (pe_lst pa_nil) (nomark _)) pa_nil)) (fun _ _ => rfl)⟩) (keeps_name rfl)) pa_nil))))
      (pss_nil))
    (pss_one (ps_ret (pe_bm PySem.F.plainAttrs_str PySem.F.slot_str_join PySem.F.type_str_join (mt_join (K := K)) pe_str (pa_cons (pe_comp (N' := ["_law_end"]) (cap := [none]) rfl ⟨rfl, rfl, rfl, rfl, rfl, rfl⟩ (pi_listK (K := K) (pv 2)) (fun _ _ _ _ _ _ => ⟨pg_name (i := 0) (show (["_law_end"] : List Str).Nodup by decide +kernel) rfl (Or.inl rfl) (Or.inr rfl), pifs_nil, pe_callD D__law_word hr rfl (pa_cons (pv 0) pa_nil)⟩) (keeps_name rfl)) pa_nil))))), ?_⟩
  refine ⟨_, rfl, rfl, _, rfl, iteD (fun c => ?_) (fun c => ?_)⟩
  · exact ⟨_, rfl, v, net, rfl, rv, ok.t, fun H' s' => q _ (ntxt_len ok.t).2.2 _ s'⟩
  have c0 : ¬ k = 0 := fun z => c (by rw [z])
  refine ⟨_, rfl, rfl, _, rfl, iteD (fun c => ?_) (fun c => ?_)⟩
  · have nok := ok.nok
    have h8 : p.length ≤ 8 := by rw [fit.len]; exact ok.len
    have h40 : ∀ t ∈ p, t.length ≤ 40 := fun t ht => by obtain ⟨_, _, z, _⟩ := fit.get ht; exact z
    have hn8 : ∀ t ∈ p, ∀ n ∈ t, n < 8 := fun t ht n hn => by obtain ⟨row, hr, _, z⟩ := fit.get ht; exact NetOk.end8 nok hr (z n hn)
    obtain ⟨pa, xs, rfl, ep, rxs⟩ := rep_list rp
    have xl : xs.length = p.length := by rw [rxs.length, List.length_map]
    have lo := ltxt_len p h8 h40
    refine ⟨rfl, _, rfl, pa, rfl, ⟨xs, SqL.of ep⟩, fun D hD => ?_⟩
    refine comp_list (K := K) (xs := xs) (TakeP H ((p.map ptxt).map V.str)) hD ⟨Same.refl _, rfl⟩ (fun i G ys p => SqL.of (p.1 _ _ ep)) (fun i x G ys hx hG pq => ?_) (fun G ys hG pq => ?_)
    · obtain ⟨t, ht, rt⟩ := reps_map rxs hx
      have hm := List.mem_of_getElem? ht
      have hi := lt_of_get ht
      have ht40 := h40 t hm
      obtain ⟨b, rfl, eb⟩ := rep_nats rt
      have hs := pq.1.trans (same_upd hG (HO.lst ys))
      refine ⟨rfl, _, rfl, b, rfl, ⟨_, SqL.of (hs _ _ eb)⟩, fun D2 hD2 => ?_⟩
      refine comp_list (K := K) (xs := natsV t) (TakeP (upd G D (HO.lst ys)) ((t.map dg).map V.str)) hD2 ⟨Same.refl _, rfl⟩ (fun i G ys p => SqL.of (p.1 _ _ (hs _ _ eb))) (fun i z G ys hz hG pq => ?_) (fun G2 ys2 hG2 pq2 => ?_)
      · obtain ⟨n, hn, rfl⟩ := natsV_get hz
        have hn' := hn8 t hm n (List.mem_of_getElem? hn)
        refine ⟨_, rfl, _, rfl, Nat.lt_of_le_of_lt (Nat.log2_le_self n) (by omega), ?_⟩
        rw [dg_str n hn']
        exact pq.put hG (Same.refl _) (by rw [List.map_map, List.getElem?_map, hn]; rfl) (by have := lt_of_get hn; omega)
      have ey : ys2 = (t.map dg).map V.str := by
        have := pq2.2
        rw [natsV_len, show t.length = ((t.map dg).map V.str).length by rw [List.length_map, List.length_map], List.take_length] at this
        exact this
      have wo := words_ok dg dg_len t (by omega)
      have s1 := pq2.1.trans (same_upd hG2 (HO.lst ys2))
      refine ⟨" ", D2, t.map dg, rfl, rfl, SqL.of (by rw [upd_same, ey]), wo.1, wo.2, ?_⟩
      generalize upd G2 D2 (HO.lst ys2) = H2 at s1 ⊢
      refine ⟨(by show 2 ≤ sizeLine; decide), fun l2 hl2 => ?_⟩
      have s2 := same_upd hl2 (HO.lst [V.str (Txt.join " " (t.map dg)), V.str "-"])
      refine ⟨_, rfl, Nat.zero_le _, fun l3 hl3 => ?_⟩
      have s3 := same_upd hl3 (HO.lst [])
      have k3 := s1.trans (s2.trans s3)
      refine ⟨_, _, (rt.mono hs).mono k3, .lst upd_same .nil, (okTo_nats t).shaped (by decide), shaped_nil, .inr ⟨_, rfl, ?_⟩⟩
      have ev : atI [V.str (Txt.join " " (t.map dg)), V.str "-"] (if PyData.eqv (natsD t) (.list []) = true then 1 else 0) = some (.str (ptxt t)) := by
        show atI [V.str (Txt.join " " (t.map dg)), V.str "-"] (if PyData.eqv (natsD t) (natsD []) = true then 1 else 0) = _
        rw [eqv_nats]
        unfold ptxt
        by_cases c : t = []
        · rw [decide_eq_true c, if_pos rfl, if_pos c]
          rfl
        · rw [decide_eq_false c, if_neg Bool.false_ne_true, if_neg c]
          rfl
      refine .inl ⟨l2, _, _, _, rfl, rfl, SqL.of (s3 _ _ upd_same), ev, ?_⟩
      exact pq.put hG k3 (by rw [List.map_map, List.getElem?_map, ht]; rfl) (by omega)
    have ey : ys = (p.map ptxt).map V.str := by
      have := pq.2
      rw [xl, show p.length = ((p.map ptxt).map V.str).length by rw [List.length_map, List.length_map], List.take_length] at this
      exact this
    exact ⟨"; ", D, p.map ptxt, rfl, rfl, SqL.of (by rw [upd_same, ey]), lo.1, lo.2.1, q _ lo.2.2 _ (pq.1.trans (same_upd hG _))⟩
  have c1 : ¬ k = 1 := fun z => c (by rw [z])
  obtain ⟨ta, es, rfl, et, tr⟩ := ht c0 c1
  have el : es.length ≤ 8 := by rw [tr.len]; exact ok.len
  refine ⟨rfl, _, rfl, ta, rfl, ⟨_, SqL.of et⟩, fun D hD => ?_⟩
  refine comp_list (K := K) (xs := es.map optV) (TakeP H ((es.map ew).map V.str)) hD ⟨Same.refl _, rfl⟩ (fun i G ys p => SqL.of (p.1 _ _ et)) (fun i x G ys hx hG pq => ?_) (fun G ys hG pq => ?_)
  · rw [List.getElem?_map] at hx
    cases e : es[i]? with
    | none => rw [e] at hx; cases hx
    | some o =>
      rw [e] at hx
      have ex : optV o = x := Option.some.inj hx
      subst ex
      exact ⟨_, rfl, o, rfl, (fun n hn => Law.TreeOf.lt8 ok tr (by rw [e, hn])), pq.put hG (Same.refl _) (by rw [List.map_map, List.getElem?_map, e]; rfl) (by have := lt_of_get e; omega)⟩
  have ey : ys = (es.map ew).map V.str := by
    have := pq.2
    rw [List.length_map, show es.length = ((es.map ew).map V.str).length by rw [List.length_map, List.length_map], List.take_length] at this
    exact this
  have h1 : ((" " : PySem.Str)).length = 1 := by decide +kernel
  have jo := join_ok " " (es.map ew) 1 (fun y hy => by obtain ⟨n, _, rfl⟩ := List.mem_map.mp hy; exact Nat.le_of_eq (ew_len n)) (by rw [h1, List.length_map]; omega)
  have j2 := jo.2.2
  rw [h1, List.length_map] at j2
  exact ⟨" ", D, es.map ew, rfl, rfl, SqL.of (by rw [upd_same, ey]), jo.1, jo.2.1, q _ (by omega) _ (pq.1.trans (same_upd hG _))⟩
/-- signs put in, taken out, exchanged: some text, four signs longer at most -/
def sp_signs (K : PySem.W.Frag) : Sp := fun vs H Q _ => ∃ (t : PySem.Str) (a : Addr) (ns : List Int), vs = [.str t, .ref a] ∧ t.length ≤ 15100 ∧ SqL K H a (ns.map V.int) ∧ ∀ u : PySem.Str, u.length ≤ 250000 → ∀ H', Same H H' → Q (.str u) H'
theorem cut4 (xs : List V) : (cutV xs none (some 4)).length ≤ 4 := by
  unfold cutV
  have e := HT.sIx_nat xs.length xs.length 4
  rw [HT.sIx_none, show (some (4 : Int)) = some ((4 : Nat) : Int) from rfl, e, List.drop_zero, Nat.sub_zero, List.length_take]
  omega
theorem cut_in {xs : List V} {lo hi : Option Int} {x : V} (h : x ∈ cutV xs lo hi) : x ∈ xs := List.mem_of_mem_drop (List.mem_of_mem_take h)
theorem def__law_signs (T : Txt mg) (h : Here K mg "_law_signs" s__law_signs ["_law_text_here", "_law_script"]) : Def P w K mg base "_law_signs" 1 ["_law_text_here", "_law_script"] (sp_signs K) := h.mk fun f fd F => by
  have nd := sc__law_signs.nd
  refine F.ok sc__law_signs (fun vs H Q E h => ?_) (fun cdv A outer s H vs Q E hr h => ?_)
  · obtain ⟨t, a, ns, rfl, _⟩ := h
    rfl
  obtain ⟨t, a, ns, rfl, ht, hS, q⟩ := h
  refine ⟨_, pss_cons (ps_for PassesOwn.never rfl (pi_listK (K := K) (pe_slice (sl_listK (K := K)) (pv 1) po_none (po_some pe_int))) (pg_name (i := 2) nd rfl (Or.inl rfl))
      (pss_cons (ps_set (i := 3) nd rfl (Or.inl rfl) (pe_modA (pe_op op_mul (pe_modA (pv 2) pe_int) pe_int) pe_int))
      (pss_cons (ps_set (i := 4) nd rfl (Or.inl rfl) (pe_ix ix_str pe_str (pe_modA (pe_op op_fdivB (pv 3) pe_int) pe_int) (fun _ _ => rfl)))
      (pss_cons (ps_set (i := 5) nd rfl (Or.inl rfl) (pe_modA (pe_op op_fdivB (pv 3) pe_int) (pe_op op_add (pe_callB call_len_str rfl T.z_len PySem.boot_len (pa_cons (pv 0) pa_nil)) pe_int)))
      (pss_one (ps_if (pt_cmpR op_eq (pe_modA (pv 3) pe_int) pe_int (nomark _))
        (pss_one (ps_set (i := 0) nd rfl (Or.inl rfl) (pe_op op_add_str (pe_op op_add_str (pe_slice sl_str (pv 0) po_none (po_some (pv 5))) (pv 4)) (pe_slice sl_str (pv 0) (po_some (pv 5)) po_none))))
        (pss_one (ps_if (pt_cmpR op_eq (pe_modA (pv 3) pe_int) pe_int (nomark _))
          (pss_one (ps_set (i := 0) nd rfl (Or.inl rfl) (pe_op op_add_str (pe_slice sl_str (pv 0) po_none (po_some (pv 5))) (pe_slice sl_str (pv 0) (po_some (pe_op op_add (pv 5) pe_int)) po_none))))
          (pss_one (ps_if (pt_cmpR op_eq (pe_modA (pv 3) pe_int) pe_int (nomark _))
            (pss_one (ps_set (i := 0) nd rfl (Or.inl rfl) (pe_op op_add_str (pe_op op_add_str (pe_slice sl_str (pv 0) po_none (po_some (pv 5))) (pv 4)) (pe_slice sl_str (pv 0) (po_some (pe_op op_add (pv 5) pe_int)) po_none))))
            (pss_nil)))))))))))
    (pss_one (ps_ret (pv 0))), ?_⟩
  refine ⟨_, rfl, _, rfl, a, _, rfl, hS, fun l hl => ?_⟩
  have cl := cut4 (ns.map V.int)
  have ci : ∀ x ∈ cutV (ns.map V.int) none (some 4), ∃ z : Int, x = .int z := fun x hx => by
    obtain ⟨z, _, e⟩ := List.mem_map.mp (cut_in hx)
    exact ⟨z, e.symm⟩
  generalize cutV (ns.map V.int) none (some 4) = cs at cl ci ⊢
  have s0 := same_upd hl (HO.lst cs)
  have e0 : (upd H l (HO.lst cs)) l = some (.lst cs) := upd_same
  generalize upd H l (HO.lst cs) = H1 at s0 e0 ⊢
  refine ⟨l, rfl, ⟨_, SqL.of e0⟩, for_list (K := K) (xs := cs) (fun i σ' H' => ∃ (u : PySem.Str) (c2 c3 c4 c5 : Option V), σ' = [some (.str u), some (.ref a), c2, c3, c4, c5] ∧ H' = H1 ∧ u.length + 1 ≤ 15101 * 2 ^ i) ⟨t, none, none, none, none, rfl, rfl, by omega⟩ (fun i σ' H' _ ⟨_, _, _, _, _, _, e, _⟩ => by rw [e]; exact SqL.of e0) ?_ ?_⟩
  · rintro i x σ' H' hx ⟨u, c2, c3, c4, c5, rfl, rfl, hu⟩
    have hi := lt_of_get hx
    obtain ⟨z, rfl⟩ := ci x (List.mem_of_getElem? hx)
    have p8 : 2 ^ i ≤ 2 ^ 3 := Nat.pow_le_pow_right (by decide) (show i ≤ 3 by omega)
    have big := line20
    have ul : u.length ≤ 121000 := by omega
    have sl : ∀ lo hi, (Txt.slice u lo hi).length ≤ u.length := fun lo hi => Txt.slice_le u lo hi
    have pw : 2 ^ (i + 1) = 2 ^ i * 2 := Nat.pow_succ ..
    have l14 : ("01279*- ;+_.\n\t" : PySem.Str).cps.toList.length = 14 := by decide +kernel
    refine ⟨_, rfl, _, rfl, _, rfl, by decide, fun r1 r10 r11 => ⟨_, _, rfl, rfl, .inr ⟨by decide, by decide⟩, _, rfl, _, rfl, by decide, fun r2 r20 r21 => ?_⟩⟩
    refine ⟨_, rfl, _, _, rfl, rfl, ⟨by decide, by decide +kernel⟩, _, rfl, _, rfl, by decide, fun r3 r30 r31 => ?_⟩
    obtain ⟨j, rfl⟩ := Int.eq_ofNat_of_zero_le r30
    have hj : j < ("01279*- ;+_.\n\t" : PySem.Str).cps.toList.length := by omega
    refine ⟨_, _, _, rfl, rfl, by decide +kernel, atI_nat (List.getElem?_eq_getElem hj), ?_⟩
    generalize ("01279*- ;+_.\n\t" : PySem.Str).cps.toList[j] = sg
    have sg1 : (⟨#[sg]⟩ : PySem.Str).length = 1 := rfl
    refine ⟨_, rfl, _, _, rfl, rfl, ⟨by decide, by decide +kernel⟩, _, rfl, _, rfl, u, rfl, by omega, _, _, rfl, rfl, _, rfl, by omega, fun at' a0 a1 => ?_⟩
    have s1 := sl none (some at')
    have s2 := sl (some at') none
    have s3 := sl (some (at' + 1)) none
    refine ⟨_, rfl, _, rfl, _, rfl, by decide, fun r4 _ _ => ⟨rfl, _, rfl, iteD (fun c => ?_) (fun c => ?_)⟩⟩
    · refine ⟨_, rfl, _, rfl, _, rfl, u, rfl, by omega, _, rfl, _, _, rfl, rfl, by rw [sg1]; omega, _, rfl, _, rfl, _, rfl, u, rfl, by omega, _, _, rfl, rfl, by rw [Str.length_append, sg1]; omega, _, _, _, _, _, rfl, rfl, ?_⟩
      rw [Str.length_append, Str.length_append, sg1, pw]
      omega
    refine ⟨_, rfl, _, rfl, _, rfl, by decide, fun r4 _ _ => ⟨rfl, _, rfl, iteD (fun c => ?_) (fun c => ?_)⟩⟩
    · refine ⟨_, rfl, _, rfl, _, rfl, u, rfl, by omega, _, rfl, _, rfl, _, _, rfl, rfl, _, rfl, u, rfl, by omega, _, _, rfl, rfl, by omega, _, _, _, _, _, rfl, rfl, ?_⟩
      rw [Str.length_append, pw]
      omega
    refine ⟨_, rfl, _, rfl, _, rfl, by decide, fun r4 _ _ => ⟨rfl, _, rfl, iteD (fun c => ?_) (fun c => ?_)⟩⟩
    · refine ⟨_, rfl, _, rfl, _, rfl, u, rfl, by omega, _, rfl, _, _, rfl, rfl, by rw [sg1]; omega, _, rfl, _, rfl, _, _, rfl, rfl, _, rfl, u, rfl, by omega, _, _, rfl, rfl, by rw [Str.length_append, sg1]; omega, _, _, _, _, _, rfl, rfl, ?_⟩
      rw [Str.length_append, Str.length_append, sg1, pw]
      omega
    · exact ⟨u, _, _, _, _, rfl, rfl, by rw [pw]; omega⟩
  · rintro σ' H' ⟨u, c2, c3, c4, c5, rfl, rfl, hu⟩
    have p8 : 2 ^ cs.length ≤ 2 ^ 4 := Nat.pow_le_pow_right (by decide) cl
    exact ⟨_, rfl, q u (by omega) _ s0⟩
end
end Law

namespace Law
open PySem L2 Ways Ring PyProof.Rows
/-! ### things written out -/
theorem star_c {x : PySem.Const} {k : Nat} {es : List PySem.Expr} {p : Pos} {env : Env} : starEach (.Constant x k p :: es) env = (false, eval (.Constant x k p) env) :: starEach es env := rfl
theorem star_t {xs : List PySem.Expr} {k : Nat} {es : List PySem.Expr} {p : Pos} {env : Env} : starEach (.Tuple xs k p :: es) env = (false, eval (.Tuple xs k p) env) :: starEach es env := rfl
theorem star_l {xs : List PySem.Expr} {es : List PySem.Expr} {p : Pos} {env : Env} : starEach (.List xs p :: es) env = (false, eval (.List xs p) env) :: starEach es env := rfl
theorem swaps_lst {es : List PySem.Expr} {p : Pos} {n : Option PySem.Expr} {l : Nat} {env : Env} : swapsWith (.List es p) n l env = pure false := rfl
section
variable {σ : L2.St} {ta tb : TE} {t : TA} {d : PyData} {ds es : List PyData} {i j : Int}
end
end Law

namespace Law
open PySem L2 Ways Ring PyProof.Rows
seal L2.PE L2.PA L2.PS L2.PSs L2.PG L2.PT
theorem star_call {f : PySem.Expr} {xs es : List PySem.Expr} {ks : List PySem.Keyword} {p : Pos} {env : Env} : starEach (.Call f xs ks p :: es) env = (false, eval (.Call f xs ks p) env) :: starEach es env := rfl
section
variable {P : Program} {w : World} {K : PySem.W.Frag} {mg : Str → Option Value} {base : Heap}
theorem map_erase {α β : Type} (f : α → β) : ∀ (l : List α) (i : Nat), (l.map f).eraseIdx i = (l.eraseIdx i).map f
  | [], _ => rfl
  | a :: l, 0 => rfl
  | a :: l, i + 1 => congrArg (f a :: ·) (map_erase f l i)
theorem brief_of {y : PySem.Str} (h : y.length ≤ 250000) : Brief (.str y) := fun t e => by cases e; exact h
theorem dig1 : ∀ m, m < 10 → (toString ((m : Nat) : Int) : PySem.Str).length = 1 := by decide +kernel
/-! ### words exchanged, told twice, left out -/
def sp_bent : Sp := fun vs H Q _ => ∃ (t : PySem.Str) (n : Int), vs = [.str t, .int n] ∧ t.length ≤ 5000 ∧ ∀ u : PySem.Str, u.length ≤ 15100 → ∀ H', Same H H' → Q (.str u) H'
theorem strs_at {ws : List PySem.Str} {k : Nat} (h : k < ws.length) : ∃ v, ws[k]? = some v ∧ v ∈ ws ∧ atI (ws.map V.str) (k : Int) = some (.str v) := ⟨ws[k], List.getElem?_eq_getElem h, List.getElem_mem h, atI_nat (by rw [List.getElem?_map, List.getElem?_eq_getElem h]; rfl)⟩
theorem def__law_bent (T : Txt mg) (h : Here K mg "_law_bent" s__law_bent ["_law_text_here", "_law_number_here"]) : Def P w K mg base "_law_bent" 1 ["_law_text_here", "_law_number_here"] sp_bent := h.mk fun f fd F => by
  have nd := sc__law_bent.nd
  refine F.ok sc__law_bent (fun vs H Q E h => ?_) (fun cdv A outer s H vs Q E hr h => ?_)
  · obtain ⟨t, n, rfl, _⟩ := h
    rfl
  obtain ⟨t, n, rfl, ht, q⟩ := h
  refine ⟨_, pss_cons (ps_set (i := 2) nd rfl (Or.inl rfl) (pe_modA (pv 1) pe_int))
    (pss_cons (ps_set (i := 3) nd rfl (Or.inl rfl) (pe_bm PySem.F.plainAttrs_str PySem.F.slot_str_split PySem.F.type_str_split mt_split (pv 0) (pa_cons pe_str pa_nil)))
    (pss_cons (ps_set (i := 4) nd rfl (Or.inl rfl) (pe_modA (pe_op op_fdivB (pv 1) pe_int) (pe_callB (call_lenK (K := K)) rfl T.z_len PySem.boot_len (pa_cons (pv 3) pa_nil))))
    (pss_cons (ps_set (i := 5) nd rfl (Or.inl rfl) (pe_modA (pe_op op_fdivB (pv 1) pe_int) (pe_callB (call_lenK (K := K)) rfl T.z_len PySem.boot_len (pa_cons (pv 3) pa_nil))))
    (pss_cons (ps_if (pt_cmpR op_eq (pv 2) pe_int (nomark _))
      (pss_one (ps_asg (pe_tup (pa_cons (pe_ix (ix_lt (K := K)) (pv 3) (pv 5) (fun _ _ => rfl)) (pa_cons (pe_ix (ix_lt (K := K)) (pv 3) (pv 4) (fun _ _ => rfl)) pa_nil))) (pg_tupK (K := K) rfl (pgs_cons (pg_sub (pv 3) (pv 4) set_list) (pgs_cons (pg_sub (pv 3) (pv 5) set_list) pgs_nil)))))
      (pss_nil))
    (pss_cons (ps_if (pt_cmpR op_eq (pv 2) pe_int (nomark _))
      (pss_one (ps_expr (pe_bm PySem.F.plainAttrs_list PySem.F.slot_list_insert PySem.F.type_list_insert mt_insertB (pv 3) (pa_cons (pv 4) (pa_cons (pe_ix (ix_lt (K := K)) (pv 3) (pv 4) (fun _ _ => rfl)) pa_nil)))))
      (pss_nil))
    (pss_cons (ps_if (PW.pt (pw_and (pt_cmpR op_eq (pv 2) pe_int (nomark _)) (pw_and1 (pt_cmpR op_gt (pe_callB (call_lenK (K := K)) rfl T.z_len PySem.boot_len (pa_cons (pv 3) pa_nil)) pe_int (nomark _)))))
      (pss_one (ps_expr (pe_bm PySem.F.plainAttrs_list PySem.F.slot_list_pop PySem.F.type_list_pop mt_popAt (pv 3) (pa_cons (pv 4) pa_nil))))
      (pss_nil))
    (pss_cons (ps_if (pt_cmpR op_eq (pv 2) pe_int (nomark _))
      (pss_one (ps_asg (pe_op op_add_str (pe_callTy call_str_int rfl T.z_str boot_str (pa_cons (pe_modA (pe_op op_fdivB (pv 1) pe_int) pe_int) pa_nil)) (pe_slice sl_str (pe_ix (ix_lt (K := K)) (pv 3) (pv 4) (fun _ _ => rfl)) (po_some pe_int) po_none)) (pg_sub (pv 3) (pv 4) set_list)))
      (pss_nil))
    (pss_cons (ps_if (pt_cmpR op_eq (pv 2) pe_int (nomark _))
      (pss_one (ps_asg (pe_op op_add_str (pe_ix (ix_lt (K := K)) (pv 3) (pv 4) (fun _ _ => rfl)) (pe_ix (ix_lt (K := K)) (pe_lst (pa_cons pe_str (pa_cons pe_str (pa_cons pe_str (pa_cons pe_str pa_nil))))) (pe_modA (pe_op op_fdivB (pv 1) pe_int) pe_int) (fun _ _ => rfl))) (pg_sub (pv 3) (pv 4) set_list)))
      (pss_nil))
    (pss_cons (ps_if (pt_cmpR op_eq (pv 2) pe_int (nomark _))
      (pss_one (ps_asg (pe_op op_add_str pe_str (pe_ix (ix_lt (K := K)) (pv 3) (pv 4) (fun _ _ => rfl))) (pg_sub (pv 3) (pv 4) set_list)))
      (pss_nil))
    (pss_cons (ps_if (pt_cmpR op_eq (pv 2) pe_int (nomark _))
      (pss_one (ps_ret (pe_op op_add_str (pv 0) (pe_ix (ix_lt (K := K)) (pe_lst (pa_cons pe_str (pa_cons pe_str (pa_cons pe_str (pa_cons pe_str pa_nil))))) (pe_modA (pe_op op_fdivB (pv 1) pe_int) pe_int) (fun _ _ => rfl)))))
      (pss_nil))
    (pss_cons (ps_if (pt_cmpR op_eq (pv 2) pe_int (nomark _))
      (pss_one (ps_ret (pe_op op_add_str (pv 0) (pe_op op_mul_str pe_str (pe_op op_add pe_int (pe_modA (pe_op op_fdivB (pv 1) pe_int) pe_int))))))
      (pss_nil))
    (pss_one (ps_ret (pe_bm PySem.F.plainAttrs_str PySem.F.slot_str_join PySem.F.type_str_join (mt_join (K := K)) pe_str (pa_cons (pv 3) pa_nil))))))))))))))), ?_⟩
  have big := line20
  have big2 : 16777216 = sizeLine := by decide
  refine ⟨_, rfl, _, rfl, _, rfl, by decide, fun k k0 k1 => ?_⟩
  obtain ⟨l1, _⟩ := split_len t " "
  have lp := split_pos t " "
  have bk := split_bulk t
  refine ⟨_, rfl, rfl, t, " ", rfl, rfl, by decide +kernel, by omega, by omega, fun lw hlw => ?_⟩
  generalize Txt.split t " " = ws at l1 lp bk ⊢
  have s0 := same_upd hlw (HO.lst (ws.map V.str))
  have e0 : (upd H lw (HO.lst (ws.map V.str))) lw = some (.lst (ws.map V.str)) := upd_same
  have wr : ∀ (H' : Hp) (o : HO), Same H H' → Same H (upd H' lw o) := fun H' o hs b u e => by rw [upd_ne (ne_of_none e hlw)]; exact hs _ _ e
  generalize upd H lw (HO.lst (ws.map V.str)) = H1 at s0 e0 ⊢
  have hw : ws.length ≤ 6000 := by have := bk; unfold bulk at this; omega
  refine ⟨_, rfl, _, _, rfl, rfl, ⟨by decide, by decide +kernel⟩, _, rfl, _, rfl, lw, _, rfl, .inl (SqL.of e0), _, rfl, by rw [List.length_map]; omega, fun x1 x10 x11 => ?_⟩
  refine ⟨_, rfl, _, _, rfl, rfl, ⟨by decide, by decide +kernel⟩, _, rfl, _, rfl, lw, _, rfl, .inl (SqL.of e0), _, rfl, by rw [List.length_map]; omega, fun x2 x20 x21 => ?_⟩
  rw [List.length_map] at x11 x21
  obtain ⟨i, rfl⟩ := Int.eq_ofNat_of_zero_le x10
  obtain ⟨j, rfl⟩ := Int.eq_ofNat_of_zero_le x20
  have hi : i < ws.length := by omega
  have hj : j < ws.length := by omega
  obtain ⟨wi, ei, mi, ai⟩ := strs_at hi
  obtain ⟨wj, ej, mj, aj⟩ := strs_at hj
  have bi := bulk_mem mi
  have bj := bulk_mem mj
  have fin : ∀ (ws' : List PySem.Str) (H' : Hp), bulk ws' ≤ 15100 → Same H H' → H' lw = some (.lst (ws'.map V.str)) → ∃ ts : List PySem.Str, SqL K H' lw (ts.map V.str) ∧ Builtin.Str.tooLong (ts.toArray.foldl (· + ·.length + (" " : PySem.Str).length) 0) = false ∧ (Txt.join " " ts).length ≤ sizeLine ∧ Q (.str (Txt.join " " ts)) H' := fun ws' H' hb hs e => by
    have jo := bulk_join (ws := ws') (by omega)
    exact ⟨ws', SqL.of e, jo.1, by omega, q _ (by omega) _ hs⟩
  have setv : ∀ (ws' : List PySem.Str) (m : Nat) (v : PySem.Str), (ws'.map V.str).set m (.str v) = (ws'.set m v).map V.str := fun ws' m v => by rw [List.map_set]
  have k9 : k = 0 ∨ k = 1 ∨ k = 2 ∨ k = 3 ∨ k = 4 ∨ k = 5 ∨ k = 6 ∨ k = 7 ∨ k = 8 := by omega
  rcases k9 with rfl | rfl | rfl | rfl | rfl | rfl | rfl | rfl | rfl
  · refine ⟨_, rfl, rfl, _, rfl, iteD (fun c => absurd (V.int.inj c) (by decide)) (fun _ => ?_)⟩
    refine ⟨_, rfl, rfl, _, rfl, iteD (fun c => absurd (V.int.inj c) (by decide)) (fun _ => ?_)⟩
    refine ⟨_, rfl, rfl, _, rfl, iteD (fun c => absurd (V.int.inj c) (by decide)) (fun _ => ?_)⟩
    refine ⟨_, rfl, rfl, _, rfl, iteD (fun c => absurd (V.int.inj c) (by decide)) (fun _ => ?_)⟩
    refine ⟨_, rfl, rfl, _, rfl, iteD (fun c => absurd (V.int.inj c) (by decide)) (fun _ => ?_)⟩
    refine ⟨_, rfl, rfl, _, rfl, iteD (fun c => absurd (V.int.inj c) (by decide)) (fun _ => ?_)⟩
    refine ⟨_, rfl, rfl, _, rfl, iteD (fun c => absurd (V.int.inj c) (by decide)) (fun _ => ?_)⟩
    refine ⟨_, rfl, rfl, _, rfl, iteD (fun c => absurd (V.int.inj c) (by decide)) (fun _ => ?_)⟩
    obtain ⟨ts, a1, a2, a3, a4⟩ := fin ws H1 (by omega) s0 e0
    exact ⟨rfl, _, rfl, " ", lw, ts, rfl, rfl, a1, a2, a3, a4⟩
  · refine ⟨_, rfl, rfl, _, rfl, iteD (fun _ => ?_) (fun c => absurd rfl c)⟩
    refine ⟨_, rfl, _, rfl, .inl ⟨lw, _, _, _, rfl, rfl, SqL.of e0, aj, _, rfl, _, rfl, .inl ⟨lw, _, _, _, rfl, rfl, SqL.of e0, ai, (by show 2 ≤ sizeLine; decide), fun tt htt => ?_⟩⟩⟩
    have st := same_upd htt (HO.tup [V.str wj, V.str wi])
    have et : (upd H1 tt (HO.tup [V.str wj, V.str wi])) tt = some (.tup [V.str wj, V.str wi]) := upd_same
    have e1 := st _ _ e0
    have k1 := s0.trans st
    generalize upd H1 tt (HO.tup [V.str wj, V.str wi]) = H2 at st et e1 k1 ⊢
    refine ⟨tt, _, rfl, SqT.of et, rfl, _, _, rfl, _, rfl, _, rfl, lw, _, _, _, rfl, rfl, e1, ixN_nat (by rw [List.length_map]; exact hi), _, _, rfl, _, rfl, _, rfl, lw, _, _, _, rfl, rfl, upd_same, ixN_nat (by rw [List.length_set, List.length_map]; exact hj), rfl, ?_⟩
    refine ⟨_, rfl, rfl, _, rfl, iteD (fun c => absurd (V.int.inj c) (by decide)) (fun _ => ?_)⟩
    refine ⟨_, rfl, rfl, _, rfl, iteD (fun c => absurd (V.int.inj c) (by decide)) (fun _ => ?_)⟩
    refine ⟨_, rfl, rfl, _, rfl, iteD (fun c => absurd (V.int.inj c) (by decide)) (fun _ => ?_)⟩
    refine ⟨_, rfl, rfl, _, rfl, iteD (fun c => absurd (V.int.inj c) (by decide)) (fun _ => ?_)⟩
    refine ⟨_, rfl, rfl, _, rfl, iteD (fun c => absurd (V.int.inj c) (by decide)) (fun _ => ?_)⟩
    refine ⟨_, rfl, rfl, _, rfl, iteD (fun c => absurd (V.int.inj c) (by decide)) (fun _ => ?_)⟩
    refine ⟨_, rfl, rfl, _, rfl, iteD (fun c => absurd (V.int.inj c) (by decide)) (fun _ => ?_)⟩
    have b1 := bulk_set wj ws i
    have b2 := bulk_set wi (ws.set i wj) j
    obtain ⟨ts, a1, a2, a3, a4⟩ := fin ((ws.set i wj).set j wi) (upd (upd H2 lw (.lst ((ws.map V.str).set i (.str wj)))) lw (.lst (((ws.map V.str).set i (.str wj)).set j (.str wi)))) (by omega) (wr _ _ (wr _ _ k1)) (by rw [upd_same, setv, setv])
    exact ⟨rfl, _, rfl, " ", lw, ts, rfl, rfl, a1, a2, a3, a4⟩
  · refine ⟨_, rfl, rfl, _, rfl, iteD (fun c => absurd (V.int.inj c) (by decide)) (fun _ => ?_)⟩
    refine ⟨_, rfl, rfl, _, rfl, iteD (fun _ => ?_) (fun c => absurd rfl c)⟩
    refine ⟨_, rfl, .inl ⟨rfl, _, SqL.of e0⟩, _, rfl, _, rfl, _, rfl, .inl ⟨lw, _, _, _, rfl, rfl, SqL.of e0, ai, lw, _, _, (i : Int), rfl, rfl, e0, by omega, by rw [List.length_map]; omega, by rw [List.length_map]; omega, ?_⟩⟩
    rw [Int.toNat_natCast]
    refine ⟨_, rfl, rfl, _, rfl, iteD (fun c => absurd (V.int.inj c) (by decide)) (fun _ => ?_)⟩
    refine ⟨_, rfl, rfl, _, rfl, iteD (fun c => absurd (V.int.inj c) (by decide)) (fun _ => ?_)⟩
    refine ⟨_, rfl, rfl, _, rfl, iteD (fun c => absurd (V.int.inj c) (by decide)) (fun _ => ?_)⟩
    refine ⟨_, rfl, rfl, _, rfl, iteD (fun c => absurd (V.int.inj c) (by decide)) (fun _ => ?_)⟩
    refine ⟨_, rfl, rfl, _, rfl, iteD (fun c => absurd (V.int.inj c) (by decide)) (fun _ => ?_)⟩
    refine ⟨_, rfl, rfl, _, rfl, iteD (fun c => absurd (V.int.inj c) (by decide)) (fun _ => ?_)⟩
    have b1 := bulk_app (ws.take i) (wi :: ws.drop i)
    have b2 := bulk_app (ws.take i) (ws.drop i)
    rw [List.take_append_drop] at b2
    have b3 : bulk (wi :: ws.drop i) = wi.length + 1 + bulk (ws.drop i) := by show wi.length + ((ws.drop i).map (·.length)).sum + ((ws.drop i).length + 1) = _; unfold bulk; omega
    obtain ⟨ts, a1, a2, a3, a4⟩ := fin (ws.take i ++ wi :: ws.drop i) (upd H1 lw (.lst ((ws.map V.str).take i ++ .str wi :: (ws.map V.str).drop i))) (by omega) (wr _ _ s0) (by rw [upd_same, List.map_append, List.map_cons, List.map_take, List.map_drop])
    exact ⟨rfl, _, rfl, " ", lw, ts, rfl, rfl, a1, a2, a3, a4⟩
  · refine ⟨_, rfl, rfl, _, rfl, iteD (fun c => absurd (V.int.inj c) (by decide)) (fun _ => ?_)⟩
    refine ⟨_, rfl, rfl, _, rfl, iteD (fun c => absurd (V.int.inj c) (by decide)) (fun _ => ?_)⟩
    refine ⟨_, rfl, rfl, _, rfl, iteD (fun _ => ?_) (fun c => absurd rfl c)⟩
    refine ⟨_, rfl, lw, _, rfl, .inl (SqL.of e0), _, _, rfl, rfl, _, rfl, iteD (fun c => ?_) (fun c => ?_)⟩
    · obtain ⟨i', h1, h2, _⟩ := atI_get ai
      refine ⟨_, rfl, .inl ⟨rfl, _, SqL.of e0⟩, _, rfl, lw, _, _, i', _, rfl, rfl, e0, by omega, by omega, h1, h2, ?_⟩
      refine ⟨_, rfl, rfl, _, rfl, iteD (fun c => absurd (V.int.inj c) (by decide)) (fun _ => ?_)⟩
      refine ⟨_, rfl, rfl, _, rfl, iteD (fun c => absurd (V.int.inj c) (by decide)) (fun _ => ?_)⟩
      refine ⟨_, rfl, rfl, _, rfl, iteD (fun c => absurd (V.int.inj c) (by decide)) (fun _ => ?_)⟩
      refine ⟨_, rfl, rfl, _, rfl, iteD (fun c => absurd (V.int.inj c) (by decide)) (fun _ => ?_)⟩
      refine ⟨_, rfl, rfl, _, rfl, iteD (fun c => absurd (V.int.inj c) (by decide)) (fun _ => ?_)⟩
      have b1 := bulk_erase ws i'
      obtain ⟨ts, a1, a2, a3, a4⟩ := fin (ws.eraseIdx i') (upd H1 lw (.lst ((ws.map V.str).eraseIdx i'))) (by omega) (wr _ _ s0) (by rw [upd_same, map_erase])
      exact ⟨rfl, _, rfl, " ", lw, ts, rfl, rfl, a1, a2, a3, a4⟩
    · refine ⟨_, rfl, rfl, _, rfl, iteD (fun c => absurd (V.int.inj c) (by decide)) (fun _ => ?_)⟩
      refine ⟨_, rfl, rfl, _, rfl, iteD (fun c => absurd (V.int.inj c) (by decide)) (fun _ => ?_)⟩
      refine ⟨_, rfl, rfl, _, rfl, iteD (fun c => absurd (V.int.inj c) (by decide)) (fun _ => ?_)⟩
      refine ⟨_, rfl, rfl, _, rfl, iteD (fun c => absurd (V.int.inj c) (by decide)) (fun _ => ?_)⟩
      refine ⟨_, rfl, rfl, _, rfl, iteD (fun c => absurd (V.int.inj c) (by decide)) (fun _ => ?_)⟩
      obtain ⟨ts, a1, a2, a3, a4⟩ := fin ws H1 (by omega) s0 e0
      exact ⟨rfl, _, rfl, " ", lw, ts, rfl, rfl, a1, a2, a3, a4⟩
  · refine ⟨_, rfl, rfl, _, rfl, iteD (fun c => absurd (V.int.inj c) (by decide)) (fun _ => ?_)⟩
    refine ⟨_, rfl, rfl, _, rfl, iteD (fun c => absurd (V.int.inj c) (by decide)) (fun _ => ?_)⟩
    refine ⟨_, rfl, rfl, _, rfl, iteD (fun c => absurd (V.int.inj c) (by decide)) (fun _ => ?_)⟩
    refine ⟨_, rfl, rfl, _, rfl, iteD (fun _ => ?_) (fun c => absurd rfl c)⟩
    refine ⟨_, rfl, _, _, rfl, rfl, ⟨by decide, by decide +kernel⟩, _, rfl, _, rfl, by decide, fun r r0 r1 => ?_⟩
    obtain ⟨m, rfl⟩ := Int.eq_ofNat_of_zero_le r0
    have d1 := dig1 m (by omega)
    have sl := Txt.slice_le wi (some 1) none
    refine ⟨_, rfl, Nat.lt_of_le_of_lt (Nat.log2_le_self m) (by omega), _, rfl, _, rfl, .inl ⟨lw, _, _, _, rfl, rfl, SqL.of e0, ai, _, rfl, wi, rfl, by omega, _, _, rfl, rfl, by rw [d1]; omega, ?_⟩⟩
    refine ⟨_, rfl, _, rfl, lw, _, _, _, rfl, rfl, e0, ixN_nat (by rw [List.length_map]; exact hi), ?_⟩
    refine ⟨_, rfl, rfl, _, rfl, iteD (fun c => absurd (V.int.inj c) (by decide)) (fun _ => ?_)⟩
    refine ⟨_, rfl, rfl, _, rfl, iteD (fun c => absurd (V.int.inj c) (by decide)) (fun _ => ?_)⟩
    refine ⟨_, rfl, rfl, _, rfl, iteD (fun c => absurd (V.int.inj c) (by decide)) (fun _ => ?_)⟩
    refine ⟨_, rfl, rfl, _, rfl, iteD (fun c => absurd (V.int.inj c) (by decide)) (fun _ => ?_)⟩
    have b1 := bulk_set (toString ((m : Nat) : Int) ++ Txt.slice wi (some 1) none) ws i
    rw [Str.length_append, d1] at b1
    obtain ⟨ts, a1, a2, a3, a4⟩ := fin (ws.set i (toString ((m : Nat) : Int) ++ Txt.slice wi (some 1) none)) _ (by omega) (wr _ (.lst ((ws.map V.str).set i (.str (toString ((m : Nat) : Int) ++ Txt.slice wi (some 1) none)))) s0) (by rw [upd_same, setv])
    exact ⟨rfl, _, rfl, " ", lw, ts, rfl, rfl, a1, a2, a3, a4⟩
  · refine ⟨_, rfl, rfl, _, rfl, iteD (fun c => absurd (V.int.inj c) (by decide)) (fun _ => ?_)⟩
    refine ⟨_, rfl, rfl, _, rfl, iteD (fun c => absurd (V.int.inj c) (by decide)) (fun _ => ?_)⟩
    refine ⟨_, rfl, rfl, _, rfl, iteD (fun c => absurd (V.int.inj c) (by decide)) (fun _ => ?_)⟩
    refine ⟨_, rfl, rfl, _, rfl, iteD (fun c => absurd (V.int.inj c) (by decide)) (fun _ => ?_)⟩
    refine ⟨_, rfl, rfl, _, rfl, iteD (fun _ => ?_) (fun c => absurd rfl c)⟩
    refine ⟨_, rfl, _, rfl, .inl ⟨lw, _, _, _, rfl, rfl, SqL.of e0, ai, (by show 4 ≤ sizeLine; decide), fun l4 hl4 => ?_⟩⟩
    have s4 := same_upd hl4 (HO.lst [V.str "*1", V.str "*0", V.str "*2", V.str "*02"])
    have e4 := s4 _ _ e0
    refine ⟨_, rfl, _, _, rfl, rfl, ⟨by decide, by decide +kernel⟩, _, rfl, _, rfl, by decide, fun r r0 r1 => ?_⟩
    have ev : ∃ v : PySem.Str, atI [V.str "*1", V.str "*0", V.str "*2", V.str "*02"] r = some (.str v) ∧ v.length ≤ 3 := by
      have : r = 0 ∨ r = 1 ∨ r = 2 ∨ r = 3 := by omega
      rcases this with rfl | rfl | rfl | rfl
      · exact ⟨_, rfl, by decide +kernel⟩
      · exact ⟨_, rfl, by decide +kernel⟩
      · exact ⟨_, rfl, by decide +kernel⟩
      · exact ⟨_, rfl, by decide +kernel⟩
    obtain ⟨v, hv, lv⟩ := ev
    refine .inl ⟨l4, _, _, _, rfl, rfl, SqL.of upd_same, hv, _, _, rfl, rfl, by omega, ?_⟩
    refine ⟨_, rfl, _, rfl, lw, _, _, _, rfl, rfl, e4, ixN_nat (by rw [List.length_map]; exact hi), ?_⟩
    refine ⟨_, rfl, rfl, _, rfl, iteD (fun c => absurd (V.int.inj c) (by decide)) (fun _ => ?_)⟩
    refine ⟨_, rfl, rfl, _, rfl, iteD (fun c => absurd (V.int.inj c) (by decide)) (fun _ => ?_)⟩
    refine ⟨_, rfl, rfl, _, rfl, iteD (fun c => absurd (V.int.inj c) (by decide)) (fun _ => ?_)⟩
    have b1 := bulk_set (wi ++ v) ws i
    rw [Str.length_append] at b1
    obtain ⟨ts, a1, a2, a3, a4⟩ := fin (ws.set i (wi ++ v)) _ (by omega) (wr _ (.lst ((ws.map V.str).set i (.str (wi ++ v)))) (s0.trans s4)) (by rw [upd_same, setv])
    exact ⟨rfl, _, rfl, " ", lw, ts, rfl, rfl, a1, a2, a3, a4⟩
  · refine ⟨_, rfl, rfl, _, rfl, iteD (fun c => absurd (V.int.inj c) (by decide)) (fun _ => ?_)⟩
    refine ⟨_, rfl, rfl, _, rfl, iteD (fun c => absurd (V.int.inj c) (by decide)) (fun _ => ?_)⟩
    refine ⟨_, rfl, rfl, _, rfl, iteD (fun c => absurd (V.int.inj c) (by decide)) (fun _ => ?_)⟩
    refine ⟨_, rfl, rfl, _, rfl, iteD (fun c => absurd (V.int.inj c) (by decide)) (fun _ => ?_)⟩
    refine ⟨_, rfl, rfl, _, rfl, iteD (fun c => absurd (V.int.inj c) (by decide)) (fun _ => ?_)⟩
    refine ⟨_, rfl, rfl, _, rfl, iteD (fun _ => ?_) (fun c => absurd rfl c)⟩
    have l0 : (("0" : PySem.Str)).length = 1 := by decide +kernel
    refine ⟨_, rfl, _, rfl, .inl ⟨lw, _, _, _, rfl, rfl, SqL.of e0, ai, _, _, rfl, rfl, by rw [l0]; omega, ?_⟩⟩
    refine ⟨_, rfl, _, rfl, lw, _, _, _, rfl, rfl, e0, ixN_nat (by rw [List.length_map]; exact hi), ?_⟩
    refine ⟨_, rfl, rfl, _, rfl, iteD (fun c => absurd (V.int.inj c) (by decide)) (fun _ => ?_)⟩
    refine ⟨_, rfl, rfl, _, rfl, iteD (fun c => absurd (V.int.inj c) (by decide)) (fun _ => ?_)⟩
    have b1 := bulk_set ("0" ++ wi) ws i
    rw [Str.length_append, l0] at b1
    obtain ⟨ts, a1, a2, a3, a4⟩ := fin (ws.set i ("0" ++ wi)) _ (by omega) (wr _ (.lst ((ws.map V.str).set i (.str ("0" ++ wi)))) s0) (by rw [upd_same, setv])
    exact ⟨rfl, _, rfl, " ", lw, ts, rfl, rfl, a1, a2, a3, a4⟩
  · refine ⟨_, rfl, rfl, _, rfl, iteD (fun c => absurd (V.int.inj c) (by decide)) (fun _ => ?_)⟩
    refine ⟨_, rfl, rfl, _, rfl, iteD (fun c => absurd (V.int.inj c) (by decide)) (fun _ => ?_)⟩
    refine ⟨_, rfl, rfl, _, rfl, iteD (fun c => absurd (V.int.inj c) (by decide)) (fun _ => ?_)⟩
    refine ⟨_, rfl, rfl, _, rfl, iteD (fun c => absurd (V.int.inj c) (by decide)) (fun _ => ?_)⟩
    refine ⟨_, rfl, rfl, _, rfl, iteD (fun c => absurd (V.int.inj c) (by decide)) (fun _ => ?_)⟩
    refine ⟨_, rfl, rfl, _, rfl, iteD (fun c => absurd (V.int.inj c) (by decide)) (fun _ => ?_)⟩
    refine ⟨_, rfl, rfl, _, rfl, iteD (fun _ => ?_) (fun c => absurd rfl c)⟩
    refine ⟨_, rfl, (by show 4 ≤ sizeLine; decide), fun l4 hl4 => ?_⟩
    have s4 := same_upd hl4 (HO.lst [V.str "; -", V.str "; 0", V.str " -", V.str " 0"])
    refine ⟨_, rfl, _, _, rfl, rfl, ⟨by decide, by decide +kernel⟩, _, rfl, _, rfl, by decide, fun r r0 r1 => ?_⟩
    have ev : ∃ v : PySem.Str, atI [V.str "; -", V.str "; 0", V.str " -", V.str " 0"] r = some (.str v) ∧ v.length ≤ 3 := by
      have : r = 0 ∨ r = 1 ∨ r = 2 ∨ r = 3 := by omega
      rcases this with rfl | rfl | rfl | rfl
      · exact ⟨_, rfl, by decide +kernel⟩
      · exact ⟨_, rfl, by decide +kernel⟩
      · exact ⟨_, rfl, by decide +kernel⟩
      · exact ⟨_, rfl, by decide +kernel⟩
    obtain ⟨v, hv, lv⟩ := ev
    exact .inl ⟨l4, _, _, _, rfl, rfl, SqL.of upd_same, hv, _, _, rfl, rfl, by omega, q _ (by rw [Str.length_append]; omega) _ (s0.trans s4)⟩
  · refine ⟨_, rfl, rfl, _, rfl, iteD (fun c => absurd (V.int.inj c) (by decide)) (fun _ => ?_)⟩
    refine ⟨_, rfl, rfl, _, rfl, iteD (fun c => absurd (V.int.inj c) (by decide)) (fun _ => ?_)⟩
    refine ⟨_, rfl, rfl, _, rfl, iteD (fun c => absurd (V.int.inj c) (by decide)) (fun _ => ?_)⟩
    refine ⟨_, rfl, rfl, _, rfl, iteD (fun c => absurd (V.int.inj c) (by decide)) (fun _ => ?_)⟩
    refine ⟨_, rfl, rfl, _, rfl, iteD (fun c => absurd (V.int.inj c) (by decide)) (fun _ => ?_)⟩
    refine ⟨_, rfl, rfl, _, rfl, iteD (fun c => absurd (V.int.inj c) (by decide)) (fun _ => ?_)⟩
    refine ⟨_, rfl, rfl, _, rfl, iteD (fun c => absurd (V.int.inj c) (by decide)) (fun _ => ?_)⟩
    refine ⟨_, rfl, rfl, _, rfl, iteD (fun _ => ?_) (fun c => absurd rfl c)⟩
    have l2 : ((" 0" : PySem.Str)).length = 2 := by decide +kernel
    refine ⟨_, rfl, _, rfl, _, _, rfl, rfl, ⟨by decide, by decide +kernel⟩, _, rfl, _, rfl, by decide, fun r r0 r1 => ⟨_, _, rfl, rfl, _, _, rfl, rfl, by omega, by omega, by rw [l2]; decide, by rw [l2]; decide, fun b hb => ?_⟩⟩
    rw [l2] at hb
    have : (39 + r).toNat ≤ 40 := by omega
    exact ⟨_, _, rfl, rfl, by omega, q _ (by rw [Str.length_append]; omega) _ s0⟩
def sp_odd : Sp := fun vs H Q _ => ∃ n : Int, vs = [.int n] ∧ ∀ x d H', Same H H' → Rep H' x d → Brief d → Q x H'
theorem def__law_odd (T : Txt mg) (h : Here K mg "_law_odd" s__law_odd ["_law_number_here"]) : Def P w K mg base "_law_odd" 1 ["_law_number_here"] sp_odd := h.mk fun f fd F => by
  have nd := sc__law_odd.nd
  refine F.ok sc__law_odd (fun vs H Q E h => ?_) (fun cdv A outer s H vs Q E hr h => ?_)
  · obtain ⟨n, rfl, _⟩ := h
    rfl
  obtain ⟨n, rfl, q⟩ := h
  refine ⟨_, @pss_cons _ _ _ _ _ (@ps_set _ _ 1 _ _ _ _ nd rfl (Or.inl rfl) (@pe_lst _ _ _ _ (@pa_cons _ _ _ _ _ pe_str (@pa_cons _ _ _ _ _ pe_str (@pa_cons _ _ _ _ _ pe_str (@pa_cons _ _ _ _ _ pe_str (@pa_cons _ _ _ _ _ pe_str (@pa_cons _ _ _ _ _ pe_str (@pa_cons _ _ _ _ _ pe_str (@pa_cons _ _ _ _ _ pe_str (@pa_cons _ _ _ _ _ pe_str (@pa_cons _ _ _ _ _ pe_str (@pa_cons _ _ _ _ _ pe_non (@pa_cons _ _ _ _ _ pe_int (@pa_cons _ _ _ _ _ (pe_lst (pa_cons pe_str pa_nil)) (@pa_cons _ _ _ _ _ (pe_tup (pa_cons pe_str pa_nil)) (@pa_cons _ _ _ _ _ (pe_bm PySem.F.plainAttrs_str PySem.F.slot_str_join PySem.F.type_str_join (mt_join (K := K)) pe_str (pa_cons (pe_op op_rep (pe_lst (pa_cons pe_str pa_nil)) pe_int) pa_nil)) pa_nil star_call) star_t) star_l) star_c) star_c) star_c) star_c) star_c) star_c) star_c) star_c) star_c) star_c) star_c) star_c)) swaps_lst (Or.inl rfl))
    (pss_cons (ps_set (i := 1) nd rfl (Or.inl rfl) (pe_op op_cat (pv 1) (pe_lst (pa_cons (pe_op op_add_str pe_str (pe_op op_mul_str pe_str (pe_op op_add pe_int (pe_modA (pe_op op_fdivB (pv 0) pe_int) pe_int)))) pa_nil))))
    (pss_one (ps_ret (pe_ix (ix_lt (K := K)) (pv 1) (pe_modA (pv 0) pe_int) (fun _ _ => rfl))))), ?_⟩
  have j9 : Builtin.Str.tooLong ((List.replicate 9 ("-" : PySem.Str)).toArray.foldl (· + ·.length + ("; " : PySem.Str).length) 0) = false ∧ (Txt.join "; " (List.replicate 9 ("-" : PySem.Str))).length ≤ 100 := by decide +kernel
  refine ⟨(by show 1 ≤ sizeLine; decide), fun la hla => ⟨(by show 1 ≤ sizeLine; decide), fun ta hta => ⟨rfl, (by show 1 ≤ sizeLine; decide), fun lb hlb => ⟨lb, 9, _, rfl, rfl, upd_same, by decide, by decide, (by show 1 * 9 ≤ sizeLine; decide), fun lc hlc => ?_⟩⟩⟩⟩
  have z1 := same_upd hla (HO.lst [V.str "-"])
  have z2 := same_upd hta (HO.tup [V.str "0"])
  have z3 := same_upd hlb (HO.lst [V.str "-"])
  have z4 := same_upd hlc (HO.lst (List.replicate (9 : Int).toNat [V.str "-"]).flatten)
  have ela : (upd H la (HO.lst [V.str "-"])) la = some (.lst [V.str "-"]) := upd_same
  have eta : (upd (upd H la (HO.lst [V.str "-"])) ta (HO.tup [V.str "0"])) ta = some (.tup [V.str "0"]) := upd_same
  have k4 := z1.trans (z2.trans (z3.trans z4))
  have ela4 := z4 _ _ (z3 _ _ (z2 _ _ ela))
  have eta4 := z4 _ _ (z3 _ _ eta)
  have big : 100 ≤ sizeLine := by decide
  refine ⟨"; ", lc, List.replicate 9 "-", rfl, rfl, SqL.of upd_same, j9.1, by omega, ?_⟩
  generalize upd (upd (upd (upd H la (HO.lst [V.str "-"])) ta (HO.tup [V.str "0"])) lb (HO.lst [V.str "-"])) lc (HO.lst (List.replicate (9 : Int).toNat [V.str "-"]).flatten) = H4 at k4 ela4 eta4 ⊢
  have lj := j9.2
  generalize Txt.join "; " (List.replicate 9 ("-" : PySem.Str)) = J at lj ⊢
  refine ⟨(by show 15 ≤ sizeLine; decide), fun ls hls => ?_⟩
  generalize hL : [V.str "", V.str " ", V.str "-", V.str "- ", V.str " -", V.str "-;", V.str "-; ", V.str "; -", V.str "--", V.str "0", V.non, V.int 3, V.ref la, V.ref ta, V.str J] = L
  have s5 := same_upd hls (HO.lst L)
  have l9 : (("9" : PySem.Str)).length = 1 := by decide +kernel
  have l5 : (("-; 0*" : PySem.Str)).length = 5 := by decide +kernel
  refine ⟨_, rfl, _, rfl, _, _, rfl, rfl, ⟨by decide, by decide +kernel⟩, _, rfl, _, rfl, by decide, fun r r0 r1 => ⟨_, _, rfl, rfl, _, _, rfl, rfl, by omega, by omega, by rw [l9]; decide, by rw [l9]; decide, fun b hb => ?_⟩⟩
  rw [l9] at hb
  have hb' : (30 + r).toNat ≤ 31 := by omega
  refine ⟨_, _, rfl, rfl, by rw [l5]; omega, (by show 1 ≤ sizeLine; decide), fun ld hld => ?_⟩
  have s6 := same_upd hld (HO.lst [V.str ("-; 0*" ++ b)])
  have els := s6 _ _ (show (upd H4 ls (HO.lst L)) ls = some (.lst L) from upd_same)
  refine ⟨ls, ld, _, _, rfl, rfl, els, upd_same, (by rw [← hL]; show 15 + 1 ≤ sizeLine; decide), fun lf hlf => ?_⟩
  have s7 := same_upd hlf (HO.lst (L ++ [V.str ("-; 0*" ++ b)]))
  have elf : (upd (upd (upd H4 ls (HO.lst L)) ld (HO.lst [V.str ("-; 0*" ++ b)])) lf (HO.lst (L ++ [V.str ("-; 0*" ++ b)]))) lf = some (.lst (L ++ [V.str ("-; 0*" ++ b)])) := upd_same
  have k7 := s5.trans (s6.trans s7)
  have k8 := k4.trans k7
  have ra : Rep (upd (upd (upd H4 ls (HO.lst L)) ld (HO.lst [V.str ("-; 0*" ++ b)])) lf (HO.lst (L ++ [V.str ("-; 0*" ++ b)]))) (.ref la) (.list [.str "-"]) := .lst (k7 _ _ ela4) (.cons (.str _) .nil)
  have rt : Rep (upd (upd (upd H4 ls (HO.lst L)) ld (HO.lst [V.str ("-; 0*" ++ b)])) lf (HO.lst (L ++ [V.str ("-; 0*" ++ b)]))) (.ref ta) (.tuple [.str "0"]) := .tup (k7 _ _ eta4) (.cons (.str _) .nil)
  generalize upd (upd (upd H4 ls (HO.lst L)) ld (HO.lst [V.str ("-; 0*" ++ b)])) lf (HO.lst (L ++ [V.str ("-; 0*" ++ b)])) = H9 at k8 elf ra rt ⊢
  subst hL
  refine ⟨_, rfl, _, rfl, _, rfl, _, rfl, by decide, fun j j0 j1 => ?_⟩
  have any : ∃ y d, atI ([V.str "", V.str " ", V.str "-", V.str "- ", V.str " -", V.str "-;", V.str "-; ", V.str "; -", V.str "--", V.str "0", V.non, V.int 3, V.ref la, V.ref ta, V.str J] ++ [V.str ("-; 0*" ++ b)]) j = some y ∧ Rep H9 y d ∧ Brief d := by
    have : j = 0 ∨ j = 1 ∨ j = 2 ∨ j = 3 ∨ j = 4 ∨ j = 5 ∨ j = 6 ∨ j = 7 ∨ j = 8 ∨ j = 9 ∨ j = 10 ∨ j = 11 ∨ j = 12 ∨ j = 13 ∨ j = 14 ∨ j = 15 := by omega
    rcases this with rfl | rfl | rfl | rfl | rfl | rfl | rfl | rfl | rfl | rfl | rfl | rfl | rfl | rfl | rfl | rfl
    · exact ⟨_, _, rfl, .str _, brief_of (by decide +kernel)⟩
    · exact ⟨_, _, rfl, .str _, brief_of (by decide +kernel)⟩
    · exact ⟨_, _, rfl, .str _, brief_of (by decide +kernel)⟩
    · exact ⟨_, _, rfl, .str _, brief_of (by decide +kernel)⟩
    · exact ⟨_, _, rfl, .str _, brief_of (by decide +kernel)⟩
    · exact ⟨_, _, rfl, .str _, brief_of (by decide +kernel)⟩
    · exact ⟨_, _, rfl, .str _, brief_of (by decide +kernel)⟩
    · exact ⟨_, _, rfl, .str _, brief_of (by decide +kernel)⟩
    · exact ⟨_, _, rfl, .str _, brief_of (by decide +kernel)⟩
    · exact ⟨_, _, rfl, .str _, brief_of (by decide +kernel)⟩
    · exact ⟨_, _, rfl, .non, fun t e => nomatch e⟩
    · exact ⟨_, _, rfl, .int _, fun t e => nomatch e⟩
    · exact ⟨_, _, rfl, ra, fun t e => nomatch e⟩
    · exact ⟨_, _, rfl, rt, fun t e => nomatch e⟩
    · exact ⟨_, _, rfl, .str _, brief_of (by omega)⟩
    · exact ⟨_, _, rfl, .str _, brief_of (by rw [Str.length_append, l5]; omega)⟩
  obtain ⟨y, d, hy, ry, by'⟩ := any
  exact .inl ⟨lf, _, _, _, rfl, rfl, SqL.of elf, hy, q y d _ k8 ry by'⟩
end
end Law


namespace Law
open PySem L2 Ways Ring PyProof.Rows
seal L2.PE L2.PA L2.PS L2.PSs L2.PG L2.PT
section
variable {P : Program} {w : World} {K : PySem.W.Frag} {mg : Str → Option Value} {base : Heap}
theorem cut60 (ns : List Int) : ∃ ms : List Int, cutV (ns.map V.int) none (some 60) = ms.map V.int ∧ ms.length ≤ 63 := by
  unfold cutV
  have e := HT.sIx_nat (ns.map V.int).length (ns.map V.int).length 60
  rw [HT.sIx_none, show (some (60 : Int)) = some ((60 : Nat) : Int) from rfl, e, List.drop_zero, Nat.sub_zero]
  refine ⟨ns.take (min 60 (ns.map V.int).length), by rw [List.map_take], ?_⟩
  rw [List.length_take]
  omega
def spLaw (K : PySem.W.Frag) : Sp := fun vs H Q _ => ∃ (a : Addr) (ns : List Int), vs = [.ref a] ∧ SqL K H a (ns.map V.int) ∧ ns.length ≤ 63 ∧ ∀ H', Q (.bl true) H'
theorem ok_law {f : Addr} {fd : FuncData} (F : Fun K "law" "law" s_law f fd) (T : Txt mg) (D__law_next : Def P w K mg base "_law_next" 1 ["_law_number_here"] sp_nextB) (D__law_fold : Def P w K mg base "_law_fold" 2 ["_law_script", "_law_number_here"] (sp_fold K)) (D__law_net : Def P w K mg base "_law_net" 2 ["_law_number_here", "_law_most", "_law_rooted"] sp_netC) (D__law_piles : Def P w K mg base "_law_piles" 1 ["_law_net_here", "_law_script"] (sp_piles K))
    (D__law_hung : Def P w K mg base "_law_hung" 2 ["_law_net_here", "_law_number_here"] sp_hung) (D__law_text : Def P w K mg base "_law_text" 2 ["_law_net_here", "_law_piles_here", "_law_tree", "_law_kind"] sp_text) (D__law_bent : Def P w K mg base "_law_bent" 1 ["_law_text_here", "_law_number_here"] sp_bent) (D__law_signs : Def P w K mg base "_law_signs" 1 ["_law_text_here", "_law_script"] (sp_signs K)) (D__law_odd : Def P w K mg base "_law_odd" 1 ["_law_number_here"] sp_odd)
    (D__law_asked : Def P w K mg base "_law_asked" 9 ["_law_net_here", "_law_text_here", "_law_kind"] sp_asked) :
    FnOk P w K mg base CX0 10 f fd ["_law_script"] (spLaw K) := by
  have nd := sc_law.nd
  refine F.ok sc_law (fun vs H Q E h => ?_) (fun cdv A outer s H vs Q E hr h => ?_)
  · obtain ⟨a, ns, rfl, _⟩ := h
    rfl
  obtain ⟨a, ns, rfl, hS, h63, q⟩ := h
  refine ⟨_, pss_cons (ps_set (i := 1) nd rfl (Or.inl rfl) (pe_callD D__law_fold hr rfl (pa_cons (pv 0) (pa_cons pe_int pa_nil))))
    (pss_cons (ps_set (i := 2) nd rfl (Or.inl rfl) (pe_callD D__law_net hr rfl (pa_cons (pv 1) (pa_cons pe_int (pa_cons (pe_cmpR op_gt (pe_modA (pv 1) pe_int) pe_int (nomark _)) pa_nil)))))
    (pss_cons (ps_set (i := 3) nd rfl (Or.inl rfl) (pe_callD D__law_hung hr rfl (pa_cons (pv 2) (pa_cons (pv 1) pa_nil))))
    (pss_cons (ps_set (i := 4) nd rfl (Or.inl rfl) (pe_modA (pe_op op_fdivB (pv 1) pe_int) pe_int))
    (pss_cons (ps_if (pt_cmp (pc_isN (pv 3)))
      (pss_one (ps_set (i := 4) nd rfl (Or.inl rfl) (pe_modA (pv 4) pe_int)))
      (pss_nil))
    (pss_cons (ps_set (i := 5) nd rfl (Or.inl rfl) (pe_callD D__law_text hr rfl (pa_cons (pv 2) (pa_cons (pe_callD D__law_piles hr rfl (pa_cons (pv 2) (pa_cons (pe_slice (sl_listK (K := K)) (pv 0) po_none (po_some pe_int)) pa_nil))) (pa_cons (pv 3) (pa_cons (pv 4) pa_nil))))))
    (pss_cons (ps_set (i := 6) nd rfl (Or.inl rfl) (pe_callD D__law_bent hr rfl (pa_cons (pv 5) (pa_cons (pe_op op_fdivB (pe_callD D__law_next hr rfl (pa_cons (pv 1) pa_nil)) (pe_op op_pow pe_int pe_int)) pa_nil))))
    (pss_cons (ps_if (PW.pt (pw_or (pt_not (pt_val (pe_callD D__law_asked hr rfl (pa_cons (pv 2) (pa_cons (pv 5) (pa_cons (pv 4) pa_nil)))))) (pw_or1 (pt_not (pt_val (pe_callD D__law_asked hr rfl (pa_cons (pv 2) (pa_cons (pv 6) (pa_cons (pv 4) pa_nil)))))))))
      (pss_one (ps_ret pe_bl))
      (pss_nil))
    (pss_cons (ps_if (PW.pt (pw_or (pt_not (pt_val (pe_callD D__law_asked hr rfl (pa_cons (pv 2) (pa_cons (pe_callD D__law_signs hr rfl (pa_cons (pv 6) (pa_cons (pv 0) pa_nil))) (pa_cons (pv 4) pa_nil)))))) (pw_or1 (pt_not (pt_val (pe_callD D__law_asked hr rfl (pa_cons (pv 2) (pa_cons (pe_callD D__law_signs hr rfl (pa_cons (pv 5) (pa_cons (pv 0) pa_nil))) (pa_cons (pv 4) pa_nil)))))))))
      (pss_one (ps_ret pe_bl))
      (pss_nil))
    (pss_cons (ps_for PassesOwn.never rfl (pi_range1 rfl T.z_range (pa_cons pe_int pa_nil)) (pg_name (i := 7) nd rfl (Or.inl rfl))
      (pss_one (ps_if (pt_not (pt_val (pe_callD D__law_asked hr rfl (pa_cons (pv 2) (pa_cons (pe_callD D__law_odd hr rfl (pa_cons (pe_op op_fdivB (pv 1) pe_int) pa_nil)) (pa_cons (pv 7) pa_nil))))))
        (pss_one (ps_ret pe_bl))
        (pss_nil))))
    (pss_one (ps_ret (pe_callD D__law_asked hr rfl (pa_cons (pv 2) (pa_cons (pv 5) (pa_cons (pv 4) pa_nil))))))))))))))), ?_⟩
  refine ⟨_, rfl, a, ns, _, rfl, hS, fun n n0 n1 => ?_⟩
  refine ⟨_, rfl, _, rfl, _, rfl, _, rfl, by decide, fun u _ _ => ⟨_, _, rfl, rfl, n, 5, _, rfl, by decide, by decide, fun net F1 H1 v ok _ new rF => ?_⟩⟩
  have rn := rF.mono new.sub
  have nok := ok.nok
  have k1 := new.keep
  refine ⟨_, rfl, _, rfl, v, net, n, rfl, rn, ok, fun H2 s2 => ?_, fun H2 t es s2 ht et tr => ?_⟩
  · refine ⟨_, rfl, _, _, rfl, rfl, ⟨by decide, by decide +kernel⟩, _, rfl, _, rfl, by decide, fun z z0 z1 => ?_⟩
    refine ⟨_, rfl, _, rfl, ?_⟩
    refine ⟨_, rfl, _, rfl, _, rfl, by decide, fun k kk0 kk1 => ?_⟩
    refine ⟨_, rfl, _, rfl, _, rfl, _, rfl, a, _, rfl, (k1.trans s2).seq hS, fun lc hlc => ?_⟩
    obtain ⟨ms, em, lm⟩ := cut60 ns
    rw [em]
    have s3 := same_upd hlc (HO.lst (ms.map V.int))
    refine ⟨v, net, lc, ms, rfl, SqL.of upd_same, lm, rn.mono (s2.trans s3), ok, fun p pP H4 fit s4 rp => ?_⟩
    have k4 := s2.trans (s3.trans s4)
    refine ⟨_, rfl, _, rfl, v, net, .ref pP, p, .non, k, rfl, rn.mono k4, ok, rp, fit, (fun a0 a1 => absurd (show k = 0 ∨ k = 1 by omega) (fun w => w.elim a0 a1)), fun tx ltx H5 s5 => ?_⟩
    have k5 := k4.trans s5
    refine ⟨_, rfl, _, rfl, n, rfl, fun m _ _ => ⟨_, _, rfl, rfl, ⟨by decide, by decide, by decide⟩, _, _, rfl, rfl, pow2_ok _ (by decide) _, tx, _, rfl, ltx, fun bx lbx H6 s6 => ?_⟩⟩
    have k6 := k5.trans s6
    refine ⟨_, rfl, _, rfl, _, rfl, v, net, .str tx, .str tx, k, rfl, rn.mono k6, nok, .str _, brief_of (by omega), fun H7 s7 => ⟨_, rfl, ?_⟩⟩
    have k7 := k6.trans s7
    refine ⟨_, rfl, _, rfl, _, rfl, v, net, .str bx, .str bx, k, rfl, rn.mono k7, nok, .str _, brief_of (by omega), fun H8 s8 => ⟨_, rfl, ?_⟩⟩
    have k8 := k7.trans s8
    refine ⟨_, rfl, _, rfl, _, rfl, bx, a, ns, rfl, lbx, (k1.trans k8).seq hS, fun ux lux H9 s9 => ?_⟩
    have k9 := k8.trans s9
    refine ⟨_, rfl, v, net, .str ux, .str ux, k, rfl, rn.mono k9, nok, .str _, brief_of lux, fun HA sA => ⟨_, rfl, ?_⟩⟩
    have kA := k9.trans sA
    refine ⟨_, rfl, _, rfl, _, rfl, tx, a, ns, rfl, by omega, (k1.trans kA).seq hS, fun wx lwx HB sB => ?_⟩
    have kB := kA.trans sB
    refine ⟨_, rfl, v, net, .str wx, .str wx, k, rfl, rn.mono kB, nok, .str _, brief_of lwx, fun HC sC => ⟨_, rfl, ?_⟩⟩
    have kC := kB.trans sC
    refine ⟨_, rfl, by decide, by decide, for_range (lo := 0) (fun i σ' H' => ∃ c7 : Option V, σ' = [some (.ref a), some (.int n), some v, some .non, some (.int k), some (.str tx), some (.str bx), c7] ∧ Same H1 H') ⟨_, rfl, kC⟩ ?_ ?_⟩
    · rintro i σ' H' hi ⟨c7, rfl, hs⟩
      refine ⟨_, rfl, _, rfl, _, _, rfl, rfl, ⟨by decide, by decide +kernel⟩, _, rfl, fun y d HD sD ry by' => ?_⟩
      exact ⟨_, rfl, v, net, y, d, _, rfl, rn.mono (hs.trans sD), nok, ry, by', fun HE sE => ⟨_, rfl, _, rfl, hs.trans (sD.trans sE)⟩⟩
    · rintro σ' H' ⟨c7, rfl, hs⟩
      exact ⟨_, rfl, _, rfl, _, rfl, v, net, .str tx, .str tx, k, rfl, rn.mono hs, nok, .str _, brief_of (by omega), fun HF _ => q _⟩
  · refine ⟨_, rfl, _, _, rfl, rfl, ⟨by decide, by decide +kernel⟩, _, rfl, _, rfl, by decide, fun k kk0 kk1 => ?_⟩
    refine ⟨_, rfl, _, rfl, ?_⟩
    refine ⟨_, rfl, _, rfl, _, rfl, _, rfl, a, _, rfl, (k1.trans s2).seq hS, fun lc hlc => ?_⟩
    obtain ⟨ms, em, lm⟩ := cut60 ns
    rw [em]
    have s3 := same_upd hlc (HO.lst (ms.map V.int))
    refine ⟨v, net, lc, ms, rfl, SqL.of upd_same, lm, rn.mono (s2.trans s3), ok, fun p pP H4 fit s4 rp => ?_⟩
    have k4 := s2.trans (s3.trans s4)
    refine ⟨_, rfl, _, rfl, v, net, .ref pP, p, (.ref t), k, rfl, rn.mono k4, ok, rp, fit, (fun _ _ => ⟨t, es, rfl, (s3.trans s4) _ _ et, tr⟩), fun tx ltx H5 s5 => ?_⟩
    have k5 := k4.trans s5
    refine ⟨_, rfl, _, rfl, n, rfl, fun m _ _ => ⟨_, _, rfl, rfl, ⟨by decide, by decide, by decide⟩, _, _, rfl, rfl, pow2_ok _ (by decide) _, tx, _, rfl, ltx, fun bx lbx H6 s6 => ?_⟩⟩
    have k6 := k5.trans s6
    refine ⟨_, rfl, _, rfl, _, rfl, v, net, .str tx, .str tx, k, rfl, rn.mono k6, nok, .str _, brief_of (by omega), fun H7 s7 => ⟨_, rfl, ?_⟩⟩
    have k7 := k6.trans s7
    refine ⟨_, rfl, _, rfl, _, rfl, v, net, .str bx, .str bx, k, rfl, rn.mono k7, nok, .str _, brief_of (by omega), fun H8 s8 => ⟨_, rfl, ?_⟩⟩
    have k8 := k7.trans s8
    refine ⟨_, rfl, _, rfl, _, rfl, bx, a, ns, rfl, lbx, (k1.trans k8).seq hS, fun ux lux H9 s9 => ?_⟩
    have k9 := k8.trans s9
    refine ⟨_, rfl, v, net, .str ux, .str ux, k, rfl, rn.mono k9, nok, .str _, brief_of lux, fun HA sA => ⟨_, rfl, ?_⟩⟩
    have kA := k9.trans sA
    refine ⟨_, rfl, _, rfl, _, rfl, tx, a, ns, rfl, by omega, (k1.trans kA).seq hS, fun wx lwx HB sB => ?_⟩
    have kB := kA.trans sB
    refine ⟨_, rfl, v, net, .str wx, .str wx, k, rfl, rn.mono kB, nok, .str _, brief_of lwx, fun HC sC => ⟨_, rfl, ?_⟩⟩
    have kC := kB.trans sC
    refine ⟨_, rfl, by decide, by decide, for_range (lo := 0) (fun i σ' H' => ∃ c7 : Option V, σ' = [some (.ref a), some (.int n), some v, some (.ref t), some (.int k), some (.str tx), some (.str bx), c7] ∧ Same H1 H') ⟨_, rfl, kC⟩ ?_ ?_⟩
    · rintro i σ' H' hi ⟨c7, rfl, hs⟩
      refine ⟨_, rfl, _, rfl, _, _, rfl, rfl, ⟨by decide, by decide +kernel⟩, _, rfl, fun y d HD sD ry by' => ?_⟩
      exact ⟨_, rfl, v, net, y, d, _, rfl, rn.mono (hs.trans sD), nok, ry, by', fun HE sE => ⟨_, rfl, _, rfl, hs.trans (sD.trans sE)⟩⟩
    · rintro σ' H' ⟨c7, rfl, hs⟩
      exact ⟨_, rfl, _, rfl, _, rfl, v, net, .str tx, .str tx, k, rfl, rn.mono hs, nok, .str _, brief_of (by omega), fun HF _ => q _⟩
end
theorem law_all {P : Program} {w : World} {K : PySem.W.Frag} {mg : Str → Option Value} {base : Heap} {f : Addr} {fd : FuncData} (T : Txt mg) (U : Cls K mg)
    (h_is_number : Here K mg "is_number" s_is_number ["thing"]) (h_is_place : Here K mg "is_place" s_is_place ["thing", "many"]) (h_is_arrow : Here K mg "is_arrow" s_is_arrow ["thing", "many"]) (h_ends_of : Here K mg "ends_of" s_ends_of ["row"]) (h_is_end : Here K mg "is_end" s_is_end ["row", "thing"]) (h_row_of : Here K mg "row_of" s_row_of ["thing", "many"]) (h_net_of : Here K mg "net_of" s_net_of ["things"]) (h_fits_row : Here K mg "fits_row" s_fits_row ["row", "thing"]) (h_way_along : Here K mg "way_along" s_way_along ["ends", "place"]) (h_comes_to_root : Here K mg "comes_to_root" s_comes_to_root ["ends", "place"]) (h_is_tree : Here K mg "is_tree" s_is_tree ["net", "things"]) (h_check_tree : Here K mg "check_tree" s_check_tree ["net", "things"]) (h_pile_of : Here K mg "pile_of" s_pile_of ["row", "thing"]) (h_piles_of : Here K mg "piles_of" s_piles_of ["net", "things"]) (h_split_text : Here K mg "split_text" s_split_text ["text", "between"]) (h_number_in : Here K mg "number_in" s_number_in ["word"]) (h_arrow_in : Here K mg "arrow_in" s_arrow_in ["word"]) (h_end_in : Here K mg "end_in" s_end_in ["word"]) (h_things_in : Here K mg "things_in" s_things_in ["part", "read_word"]) (h_lists_in : Here K mg "lists_in" s_lists_in ["text", "read_word"]) (h_read_net : Here K mg "read_net" s_read_net ["text"]) (h_read_piles : Here K mg "read_piles" s_read_piles ["net", "text"]) (h_read_tree : Here K mg "read_tree" s_read_tree ["net", "text"]) (h__law_next : Here K mg "_law_next" s__law_next ["_law_number_here"]) (h__law_fold : Here K mg "_law_fold" s__law_fold ["_law_script", "_law_number_here"]) (h__law_weight : Here K mg "_law_weight" s__law_weight ["_law_number_here", "_law_kind"]) (h__law_net : Here K mg "_law_net" s__law_net ["_law_number_here", "_law_most", "_law_rooted"]) (h__law_copy : Here K mg "_law_copy" s__law_copy ["_law_net_here"]) (h__law_is_tree : Here K mg "_law_is_tree" s__law_is_tree ["_law_net_here", "_law_tree"]) (h__law_piles : Here K mg "_law_piles" s__law_piles ["_law_net_here", "_law_script"]) (h__law_hung : Here K mg "_law_hung" s__law_hung ["_law_net_here", "_law_number_here"]) (h__law_net_text : Here K mg "_law_net_text" s__law_net_text ["_law_net_here"]) (h__law_word : Here K mg "_law_word" s__law_word ["_law_end"]) (h__law_text : Here K mg "_law_text" s__law_text ["_law_net_here", "_law_piles_here", "_law_tree", "_law_kind"]) (h__law_bent : Here K mg "_law_bent" s__law_bent ["_law_text_here", "_law_number_here"]) (h__law_signs : Here K mg "_law_signs" s__law_signs ["_law_text_here", "_law_script"]) (h__law_odd : Here K mg "_law_odd" s__law_odd ["_law_number_here"]) (h__law_number : Here K mg "_law_number" s__law_number ["_law_word_here"]) (h__law_arrow : Here K mg "_law_arrow" s__law_arrow ["_law_word_here"]) (h__law_net_of : Here K mg "_law_net_of" s__law_net_of ["_law_text_here"]) (h__law_piles_of : Here K mg "_law_piles_of" s__law_piles_of ["_law_net_here", "_law_text_here"]) (h__law_tree_of : Here K mg "_law_tree_of" s__law_tree_of ["_law_net_here", "_law_text_here"]) (h__law_due : Here K mg "_law_due" s__law_due ["_law_net_here", "_law_text_here", "_law_kind"]) (h__law_read : Here K mg "_law_read" s__law_read ["_law_net_here", "_law_text_here", "_law_kind"]) (h__law_refused : Here K mg "_law_refused" s__law_refused ["_law_net_here", "_law_text_here", "_law_kind"]) (h__law_asked : Here K mg "_law_asked" s__law_asked ["_law_net_here", "_law_text_here", "_law_kind"])
    (F : Fun K "law" "law" s_law f fd) : FnOk P w K mg base CX0 10 f fd ["_law_script"] (spLaw K) := by
  have nx := def__law_next (P := P) (w := w) (base := base) T h__law_next
  have cp := def__law_copy (P := P) (w := w) (base := base) T h__law_copy
  have isn := def_is_number (P := P) (w := w) (base := base) T h_is_number
  have ends := def_ends_of (P := P) (w := w) (base := base) T h_ends_of
  have ie := def_is_end T isn ends h_is_end
  have tree := def_is_tree T (def_fits_row T ie h_fits_row) (def_comes_to_root T (def_way_along T h_way_along) h_comes_to_root) h_is_tree
  have ct := def_check_tree T U tree h_check_tree
  have po := def_piles_of T U (def_pile_of T U ie h_pile_of) h_piles_of
  have no := def_net_of T U (def_row_of T U (def_is_arrow T isn (def_is_place T isn h_is_place) h_is_arrow) h_row_of) h_net_of
  have sp := def_split_text (P := P) (w := w) (base := base) T U h_split_text
  have ni := def_number_in (P := P) (w := w) (base := base) T U h_number_in
  have li := def_lists_in T U sp (def_things_in T U h_things_in) h_lists_in
  have rn := def_read_net T U (def_arrow_in T U ni h_arrow_in) li no h_read_net
  have rp := def_read_piles T U ni li po h_read_piles
  have rt := def_read_tree T U sp (def_end_in T U ni h_end_in) ct h_read_tree
  have nu := def__law_number (P := P) (w := w) (base := base) T h__law_number
  have due := def__law_due T (def__law_net_of T (def__law_arrow T nu h__law_arrow) h__law_net_of) (def__law_piles_of T nu h__law_piles_of) (def__law_tree_of T nu (def__law_is_tree T h__law_is_tree) h__law_tree_of) h__law_due
  have rd := def__law_read T U rn rp rt h__law_read
  have asked := def__law_asked T U cp due rd (def__law_refused T U rd h__law_refused) h__law_asked
  exact ok_law F T nx (def__law_fold T nx h__law_fold) (def__law_net T nx (def__law_weight T h__law_weight) h__law_net) (def__law_piles T h__law_piles) (def__law_hung T nx h__law_hung) (def__law_text T (def__law_net_text T h__law_net_text) (def__law_word T h__law_word) h__law_text) (def__law_bent T h__law_bent) (def__law_signs T h__law_signs) (def__law_odd T h__law_odd) asked
theorem all_mk {l : PySem.W.OpenLaw} {w : World} {K : PySem.W.Frag} {h : Heap} {mg : Str → Option Value} {fa f0 f1 f2 f3 f4 f5 f6 f7 f8 f9 f10 f11 f12 f13 f14 f15 f16 f17 f18 f19 f20 f21 f22 f23 f24 f25 f26 f27 f28 f29 f30 f31 f32 f33 f34 f35 f36 f37 f38 f39 f40 f41 f42 f43 f44 f45 f46 : Addr} (X : K.In h) (G : h.Ns mainGlobals mg) (hfa : mg "law" = some (.ref fa))
    {od0 an0 : Option Addr} {sl0 : Array (Option Value)} {oc0 kV0 dc0 pm0 cd0 ct0 : Value}
    (a0 : PySem.W.nsIn K mainGlobals "is_number" = some (some (.ref f0))) (l0 : K.lookup f0 = some ⟨oc0, od0, .func (PySem.W.fnOf "is_number" "is_number" (defArgs s_is_number) (defBody s_is_number) (defScope s_is_number) (.none) kV0 dc0 pm0 an0 cd0 ct0), sl0⟩) (c0 : PySem.W.codeIn K cd0 "is_number" = true) (k0 : PySem.W.keepIn K (.ref f0) = true)
    {od1 an1 : Option Addr} {sl1 : Array (Option Value)} {oc1 kV1 dc1 pm1 cd1 ct1 : Value}
    (a1 : PySem.W.nsIn K mainGlobals "is_place" = some (some (.ref f1))) (l1 : K.lookup f1 = some ⟨oc1, od1, .func (PySem.W.fnOf "is_place" "is_place" (defArgs s_is_place) (defBody s_is_place) (defScope s_is_place) (.none) kV1 dc1 pm1 an1 cd1 ct1), sl1⟩) (c1 : PySem.W.codeIn K cd1 "is_place" = true) (k1 : PySem.W.keepIn K (.ref f1) = true)
    {od2 an2 : Option Addr} {sl2 : Array (Option Value)} {oc2 kV2 dc2 pm2 cd2 ct2 : Value}
    (a2 : PySem.W.nsIn K mainGlobals "is_arrow" = some (some (.ref f2))) (l2 : K.lookup f2 = some ⟨oc2, od2, .func (PySem.W.fnOf "is_arrow" "is_arrow" (defArgs s_is_arrow) (defBody s_is_arrow) (defScope s_is_arrow) (.none) kV2 dc2 pm2 an2 cd2 ct2), sl2⟩) (c2 : PySem.W.codeIn K cd2 "is_arrow" = true) (k2 : PySem.W.keepIn K (.ref f2) = true)
    {od3 an3 : Option Addr} {sl3 : Array (Option Value)} {oc3 kV3 dc3 pm3 cd3 ct3 : Value}
    (a3 : PySem.W.nsIn K mainGlobals "ends_of" = some (some (.ref f3))) (l3 : K.lookup f3 = some ⟨oc3, od3, .func (PySem.W.fnOf "ends_of" "ends_of" (defArgs s_ends_of) (defBody s_ends_of) (defScope s_ends_of) (.none) kV3 dc3 pm3 an3 cd3 ct3), sl3⟩) (c3 : PySem.W.codeIn K cd3 "ends_of" = true) (k3 : PySem.W.keepIn K (.ref f3) = true)
    {od4 an4 : Option Addr} {sl4 : Array (Option Value)} {oc4 kV4 dc4 pm4 cd4 ct4 : Value}
    (a4 : PySem.W.nsIn K mainGlobals "is_end" = some (some (.ref f4))) (l4 : K.lookup f4 = some ⟨oc4, od4, .func (PySem.W.fnOf "is_end" "is_end" (defArgs s_is_end) (defBody s_is_end) (defScope s_is_end) (.none) kV4 dc4 pm4 an4 cd4 ct4), sl4⟩) (c4 : PySem.W.codeIn K cd4 "is_end" = true) (k4 : PySem.W.keepIn K (.ref f4) = true)
    {od5 an5 : Option Addr} {sl5 : Array (Option Value)} {oc5 kV5 dc5 pm5 cd5 ct5 : Value}
    (a5 : PySem.W.nsIn K mainGlobals "row_of" = some (some (.ref f5))) (l5 : K.lookup f5 = some ⟨oc5, od5, .func (PySem.W.fnOf "row_of" "row_of" (defArgs s_row_of) (defBody s_row_of) (defScope s_row_of) (.none) kV5 dc5 pm5 an5 cd5 ct5), sl5⟩) (c5 : PySem.W.codeIn K cd5 "row_of" = true) (k5 : PySem.W.keepIn K (.ref f5) = true)
    {od6 an6 : Option Addr} {sl6 : Array (Option Value)} {oc6 kV6 dc6 pm6 cd6 ct6 : Value}
    (a6 : PySem.W.nsIn K mainGlobals "net_of" = some (some (.ref f6))) (l6 : K.lookup f6 = some ⟨oc6, od6, .func (PySem.W.fnOf "net_of" "net_of" (defArgs s_net_of) (defBody s_net_of) (defScope s_net_of) (.none) kV6 dc6 pm6 an6 cd6 ct6), sl6⟩) (c6 : PySem.W.codeIn K cd6 "net_of" = true) (k6 : PySem.W.keepIn K (.ref f6) = true)
    {od7 an7 : Option Addr} {sl7 : Array (Option Value)} {oc7 kV7 dc7 pm7 cd7 ct7 : Value}
    (a7 : PySem.W.nsIn K mainGlobals "fits_row" = some (some (.ref f7))) (l7 : K.lookup f7 = some ⟨oc7, od7, .func (PySem.W.fnOf "fits_row" "fits_row" (defArgs s_fits_row) (defBody s_fits_row) (defScope s_fits_row) (.none) kV7 dc7 pm7 an7 cd7 ct7), sl7⟩) (c7 : PySem.W.codeIn K cd7 "fits_row" = true) (k7 : PySem.W.keepIn K (.ref f7) = true)
    {od8 an8 : Option Addr} {sl8 : Array (Option Value)} {oc8 kV8 dc8 pm8 cd8 ct8 : Value}
    (a8 : PySem.W.nsIn K mainGlobals "way_along" = some (some (.ref f8))) (l8 : K.lookup f8 = some ⟨oc8, od8, .func (PySem.W.fnOf "way_along" "way_along" (defArgs s_way_along) (defBody s_way_along) (defScope s_way_along) (.none) kV8 dc8 pm8 an8 cd8 ct8), sl8⟩) (c8 : PySem.W.codeIn K cd8 "way_along" = true) (k8 : PySem.W.keepIn K (.ref f8) = true)
    {od9 an9 : Option Addr} {sl9 : Array (Option Value)} {oc9 kV9 dc9 pm9 cd9 ct9 : Value}
    (a9 : PySem.W.nsIn K mainGlobals "comes_to_root" = some (some (.ref f9))) (l9 : K.lookup f9 = some ⟨oc9, od9, .func (PySem.W.fnOf "comes_to_root" "comes_to_root" (defArgs s_comes_to_root) (defBody s_comes_to_root) (defScope s_comes_to_root) (.none) kV9 dc9 pm9 an9 cd9 ct9), sl9⟩) (c9 : PySem.W.codeIn K cd9 "comes_to_root" = true) (k9 : PySem.W.keepIn K (.ref f9) = true)
    {od10 an10 : Option Addr} {sl10 : Array (Option Value)} {oc10 kV10 dc10 pm10 cd10 ct10 : Value}
    (a10 : PySem.W.nsIn K mainGlobals "is_tree" = some (some (.ref f10))) (l10 : K.lookup f10 = some ⟨oc10, od10, .func (PySem.W.fnOf "is_tree" "is_tree" (defArgs s_is_tree) (defBody s_is_tree) (defScope s_is_tree) (.none) kV10 dc10 pm10 an10 cd10 ct10), sl10⟩) (c10 : PySem.W.codeIn K cd10 "is_tree" = true) (k10 : PySem.W.keepIn K (.ref f10) = true)
    {od11 an11 : Option Addr} {sl11 : Array (Option Value)} {oc11 kV11 dc11 pm11 cd11 ct11 : Value}
    (a11 : PySem.W.nsIn K mainGlobals "check_tree" = some (some (.ref f11))) (l11 : K.lookup f11 = some ⟨oc11, od11, .func (PySem.W.fnOf "check_tree" "check_tree" (defArgs s_check_tree) (defBody s_check_tree) (defScope s_check_tree) (.none) kV11 dc11 pm11 an11 cd11 ct11), sl11⟩) (c11 : PySem.W.codeIn K cd11 "check_tree" = true) (k11 : PySem.W.keepIn K (.ref f11) = true)
    {od12 an12 : Option Addr} {sl12 : Array (Option Value)} {oc12 kV12 dc12 pm12 cd12 ct12 : Value}
    (a12 : PySem.W.nsIn K mainGlobals "pile_of" = some (some (.ref f12))) (l12 : K.lookup f12 = some ⟨oc12, od12, .func (PySem.W.fnOf "pile_of" "pile_of" (defArgs s_pile_of) (defBody s_pile_of) (defScope s_pile_of) (.none) kV12 dc12 pm12 an12 cd12 ct12), sl12⟩) (c12 : PySem.W.codeIn K cd12 "pile_of" = true) (k12 : PySem.W.keepIn K (.ref f12) = true)
    {od13 an13 : Option Addr} {sl13 : Array (Option Value)} {oc13 kV13 dc13 pm13 cd13 ct13 : Value}
    (a13 : PySem.W.nsIn K mainGlobals "piles_of" = some (some (.ref f13))) (l13 : K.lookup f13 = some ⟨oc13, od13, .func (PySem.W.fnOf "piles_of" "piles_of" (defArgs s_piles_of) (defBody s_piles_of) (defScope s_piles_of) (.none) kV13 dc13 pm13 an13 cd13 ct13), sl13⟩) (c13 : PySem.W.codeIn K cd13 "piles_of" = true) (k13 : PySem.W.keepIn K (.ref f13) = true)
    {od14 an14 : Option Addr} {sl14 : Array (Option Value)} {oc14 kV14 dc14 pm14 cd14 ct14 : Value}
    (a14 : PySem.W.nsIn K mainGlobals "split_text" = some (some (.ref f14))) (l14 : K.lookup f14 = some ⟨oc14, od14, .func (PySem.W.fnOf "split_text" "split_text" (defArgs s_split_text) (defBody s_split_text) (defScope s_split_text) (.none) kV14 dc14 pm14 an14 cd14 ct14), sl14⟩) (c14 : PySem.W.codeIn K cd14 "split_text" = true) (k14 : PySem.W.keepIn K (.ref f14) = true)
    {od15 an15 : Option Addr} {sl15 : Array (Option Value)} {oc15 kV15 dc15 pm15 cd15 ct15 : Value}
    (a15 : PySem.W.nsIn K mainGlobals "number_in" = some (some (.ref f15))) (l15 : K.lookup f15 = some ⟨oc15, od15, .func (PySem.W.fnOf "number_in" "number_in" (defArgs s_number_in) (defBody s_number_in) (defScope s_number_in) (.none) kV15 dc15 pm15 an15 cd15 ct15), sl15⟩) (c15 : PySem.W.codeIn K cd15 "number_in" = true) (k15 : PySem.W.keepIn K (.ref f15) = true)
    {od16 an16 : Option Addr} {sl16 : Array (Option Value)} {oc16 kV16 dc16 pm16 cd16 ct16 : Value}
    (a16 : PySem.W.nsIn K mainGlobals "arrow_in" = some (some (.ref f16))) (l16 : K.lookup f16 = some ⟨oc16, od16, .func (PySem.W.fnOf "arrow_in" "arrow_in" (defArgs s_arrow_in) (defBody s_arrow_in) (defScope s_arrow_in) (.none) kV16 dc16 pm16 an16 cd16 ct16), sl16⟩) (c16 : PySem.W.codeIn K cd16 "arrow_in" = true) (k16 : PySem.W.keepIn K (.ref f16) = true)
    {od17 an17 : Option Addr} {sl17 : Array (Option Value)} {oc17 kV17 dc17 pm17 cd17 ct17 : Value}
    (a17 : PySem.W.nsIn K mainGlobals "end_in" = some (some (.ref f17))) (l17 : K.lookup f17 = some ⟨oc17, od17, .func (PySem.W.fnOf "end_in" "end_in" (defArgs s_end_in) (defBody s_end_in) (defScope s_end_in) (.none) kV17 dc17 pm17 an17 cd17 ct17), sl17⟩) (c17 : PySem.W.codeIn K cd17 "end_in" = true) (k17 : PySem.W.keepIn K (.ref f17) = true)
    {od18 an18 : Option Addr} {sl18 : Array (Option Value)} {oc18 kV18 dc18 pm18 cd18 ct18 : Value}
    (a18 : PySem.W.nsIn K mainGlobals "things_in" = some (some (.ref f18))) (l18 : K.lookup f18 = some ⟨oc18, od18, .func (PySem.W.fnOf "things_in" "things_in" (defArgs s_things_in) (defBody s_things_in) (defScope s_things_in) (.none) kV18 dc18 pm18 an18 cd18 ct18), sl18⟩) (c18 : PySem.W.codeIn K cd18 "things_in" = true) (k18 : PySem.W.keepIn K (.ref f18) = true)
    {od19 an19 : Option Addr} {sl19 : Array (Option Value)} {oc19 kV19 dc19 pm19 cd19 ct19 : Value}
    (a19 : PySem.W.nsIn K mainGlobals "lists_in" = some (some (.ref f19))) (l19 : K.lookup f19 = some ⟨oc19, od19, .func (PySem.W.fnOf "lists_in" "lists_in" (defArgs s_lists_in) (defBody s_lists_in) (defScope s_lists_in) (.none) kV19 dc19 pm19 an19 cd19 ct19), sl19⟩) (c19 : PySem.W.codeIn K cd19 "lists_in" = true) (k19 : PySem.W.keepIn K (.ref f19) = true)
    {od20 an20 : Option Addr} {sl20 : Array (Option Value)} {oc20 kV20 dc20 pm20 cd20 ct20 : Value}
    (a20 : PySem.W.nsIn K mainGlobals "read_net" = some (some (.ref f20))) (l20 : K.lookup f20 = some ⟨oc20, od20, .func (PySem.W.fnOf "read_net" "read_net" (defArgs s_read_net) (defBody s_read_net) (defScope s_read_net) (.none) kV20 dc20 pm20 an20 cd20 ct20), sl20⟩) (c20 : PySem.W.codeIn K cd20 "read_net" = true) (k20 : PySem.W.keepIn K (.ref f20) = true)
    {od21 an21 : Option Addr} {sl21 : Array (Option Value)} {oc21 kV21 dc21 pm21 cd21 ct21 : Value}
    (a21 : PySem.W.nsIn K mainGlobals "read_piles" = some (some (.ref f21))) (l21 : K.lookup f21 = some ⟨oc21, od21, .func (PySem.W.fnOf "read_piles" "read_piles" (defArgs s_read_piles) (defBody s_read_piles) (defScope s_read_piles) (.none) kV21 dc21 pm21 an21 cd21 ct21), sl21⟩) (c21 : PySem.W.codeIn K cd21 "read_piles" = true) (k21 : PySem.W.keepIn K (.ref f21) = true)
    {od22 an22 : Option Addr} {sl22 : Array (Option Value)} {oc22 kV22 dc22 pm22 cd22 ct22 : Value}
    (a22 : PySem.W.nsIn K mainGlobals "read_tree" = some (some (.ref f22))) (l22 : K.lookup f22 = some ⟨oc22, od22, .func (PySem.W.fnOf "read_tree" "read_tree" (defArgs s_read_tree) (defBody s_read_tree) (defScope s_read_tree) (.none) kV22 dc22 pm22 an22 cd22 ct22), sl22⟩) (c22 : PySem.W.codeIn K cd22 "read_tree" = true) (k22 : PySem.W.keepIn K (.ref f22) = true)
    {od23 an23 : Option Addr} {sl23 : Array (Option Value)} {oc23 kV23 dc23 pm23 cd23 ct23 : Value}
    (a23 : PySem.W.nsIn K mainGlobals "_law_next" = some (some (.ref f23))) (l23 : K.lookup f23 = some ⟨oc23, od23, .func (PySem.W.fnOf "_law_next" "_law_next" (defArgs s__law_next) (defBody s__law_next) (defScope s__law_next) (.none) kV23 dc23 pm23 an23 cd23 ct23), sl23⟩) (c23 : PySem.W.codeIn K cd23 "_law_next" = true) (k23 : PySem.W.keepIn K (.ref f23) = true)
    {od24 an24 : Option Addr} {sl24 : Array (Option Value)} {oc24 kV24 dc24 pm24 cd24 ct24 : Value}
    (a24 : PySem.W.nsIn K mainGlobals "_law_fold" = some (some (.ref f24))) (l24 : K.lookup f24 = some ⟨oc24, od24, .func (PySem.W.fnOf "_law_fold" "_law_fold" (defArgs s__law_fold) (defBody s__law_fold) (defScope s__law_fold) (.none) kV24 dc24 pm24 an24 cd24 ct24), sl24⟩) (c24 : PySem.W.codeIn K cd24 "_law_fold" = true) (k24 : PySem.W.keepIn K (.ref f24) = true)
    {od25 an25 : Option Addr} {sl25 : Array (Option Value)} {oc25 kV25 dc25 pm25 cd25 ct25 : Value}
    (a25 : PySem.W.nsIn K mainGlobals "_law_weight" = some (some (.ref f25))) (l25 : K.lookup f25 = some ⟨oc25, od25, .func (PySem.W.fnOf "_law_weight" "_law_weight" (defArgs s__law_weight) (defBody s__law_weight) (defScope s__law_weight) (.none) kV25 dc25 pm25 an25 cd25 ct25), sl25⟩) (c25 : PySem.W.codeIn K cd25 "_law_weight" = true) (k25 : PySem.W.keepIn K (.ref f25) = true)
    {od26 an26 : Option Addr} {sl26 : Array (Option Value)} {oc26 kV26 dc26 pm26 cd26 ct26 : Value}
    (a26 : PySem.W.nsIn K mainGlobals "_law_net" = some (some (.ref f26))) (l26 : K.lookup f26 = some ⟨oc26, od26, .func (PySem.W.fnOf "_law_net" "_law_net" (defArgs s__law_net) (defBody s__law_net) (defScope s__law_net) (.none) kV26 dc26 pm26 an26 cd26 ct26), sl26⟩) (c26 : PySem.W.codeIn K cd26 "_law_net" = true) (k26 : PySem.W.keepIn K (.ref f26) = true)
    {od27 an27 : Option Addr} {sl27 : Array (Option Value)} {oc27 kV27 dc27 pm27 cd27 ct27 : Value}
    (a27 : PySem.W.nsIn K mainGlobals "_law_copy" = some (some (.ref f27))) (l27 : K.lookup f27 = some ⟨oc27, od27, .func (PySem.W.fnOf "_law_copy" "_law_copy" (defArgs s__law_copy) (defBody s__law_copy) (defScope s__law_copy) (.none) kV27 dc27 pm27 an27 cd27 ct27), sl27⟩) (c27 : PySem.W.codeIn K cd27 "_law_copy" = true) (k27 : PySem.W.keepIn K (.ref f27) = true)
    {od28 an28 : Option Addr} {sl28 : Array (Option Value)} {oc28 kV28 dc28 pm28 cd28 ct28 : Value}
    (a28 : PySem.W.nsIn K mainGlobals "_law_is_tree" = some (some (.ref f28))) (l28 : K.lookup f28 = some ⟨oc28, od28, .func (PySem.W.fnOf "_law_is_tree" "_law_is_tree" (defArgs s__law_is_tree) (defBody s__law_is_tree) (defScope s__law_is_tree) (.none) kV28 dc28 pm28 an28 cd28 ct28), sl28⟩) (c28 : PySem.W.codeIn K cd28 "_law_is_tree" = true) (k28 : PySem.W.keepIn K (.ref f28) = true)
    {od29 an29 : Option Addr} {sl29 : Array (Option Value)} {oc29 kV29 dc29 pm29 cd29 ct29 : Value}
    (a29 : PySem.W.nsIn K mainGlobals "_law_piles" = some (some (.ref f29))) (l29 : K.lookup f29 = some ⟨oc29, od29, .func (PySem.W.fnOf "_law_piles" "_law_piles" (defArgs s__law_piles) (defBody s__law_piles) (defScope s__law_piles) (.none) kV29 dc29 pm29 an29 cd29 ct29), sl29⟩) (c29 : PySem.W.codeIn K cd29 "_law_piles" = true) (k29 : PySem.W.keepIn K (.ref f29) = true)
    {od30 an30 : Option Addr} {sl30 : Array (Option Value)} {oc30 kV30 dc30 pm30 cd30 ct30 : Value}
    (a30 : PySem.W.nsIn K mainGlobals "_law_hung" = some (some (.ref f30))) (l30 : K.lookup f30 = some ⟨oc30, od30, .func (PySem.W.fnOf "_law_hung" "_law_hung" (defArgs s__law_hung) (defBody s__law_hung) (defScope s__law_hung) (.none) kV30 dc30 pm30 an30 cd30 ct30), sl30⟩) (c30 : PySem.W.codeIn K cd30 "_law_hung" = true) (k30 : PySem.W.keepIn K (.ref f30) = true)
    {od31 an31 : Option Addr} {sl31 : Array (Option Value)} {oc31 kV31 dc31 pm31 cd31 ct31 : Value}
    (a31 : PySem.W.nsIn K mainGlobals "_law_net_text" = some (some (.ref f31))) (l31 : K.lookup f31 = some ⟨oc31, od31, .func (PySem.W.fnOf "_law_net_text" "_law_net_text" (defArgs s__law_net_text) (defBody s__law_net_text) (defScope s__law_net_text) (.none) kV31 dc31 pm31 an31 cd31 ct31), sl31⟩) (c31 : PySem.W.codeIn K cd31 "_law_net_text" = true) (k31 : PySem.W.keepIn K (.ref f31) = true)
    {od32 an32 : Option Addr} {sl32 : Array (Option Value)} {oc32 kV32 dc32 pm32 cd32 ct32 : Value}
    (a32 : PySem.W.nsIn K mainGlobals "_law_word" = some (some (.ref f32))) (l32 : K.lookup f32 = some ⟨oc32, od32, .func (PySem.W.fnOf "_law_word" "_law_word" (defArgs s__law_word) (defBody s__law_word) (defScope s__law_word) (.none) kV32 dc32 pm32 an32 cd32 ct32), sl32⟩) (c32 : PySem.W.codeIn K cd32 "_law_word" = true) (k32 : PySem.W.keepIn K (.ref f32) = true)
    {od33 an33 : Option Addr} {sl33 : Array (Option Value)} {oc33 kV33 dc33 pm33 cd33 ct33 : Value}
    (a33 : PySem.W.nsIn K mainGlobals "_law_text" = some (some (.ref f33))) (l33 : K.lookup f33 = some ⟨oc33, od33, .func (PySem.W.fnOf "_law_text" "_law_text" (defArgs s__law_text) (defBody s__law_text) (defScope s__law_text) (.none) kV33 dc33 pm33 an33 cd33 ct33), sl33⟩) (c33 : PySem.W.codeIn K cd33 "_law_text" = true) (k33 : PySem.W.keepIn K (.ref f33) = true)
    {od34 an34 : Option Addr} {sl34 : Array (Option Value)} {oc34 kV34 dc34 pm34 cd34 ct34 : Value}
    (a34 : PySem.W.nsIn K mainGlobals "_law_bent" = some (some (.ref f34))) (l34 : K.lookup f34 = some ⟨oc34, od34, .func (PySem.W.fnOf "_law_bent" "_law_bent" (defArgs s__law_bent) (defBody s__law_bent) (defScope s__law_bent) (.none) kV34 dc34 pm34 an34 cd34 ct34), sl34⟩) (c34 : PySem.W.codeIn K cd34 "_law_bent" = true) (k34 : PySem.W.keepIn K (.ref f34) = true)
    {od35 an35 : Option Addr} {sl35 : Array (Option Value)} {oc35 kV35 dc35 pm35 cd35 ct35 : Value}
    (a35 : PySem.W.nsIn K mainGlobals "_law_signs" = some (some (.ref f35))) (l35 : K.lookup f35 = some ⟨oc35, od35, .func (PySem.W.fnOf "_law_signs" "_law_signs" (defArgs s__law_signs) (defBody s__law_signs) (defScope s__law_signs) (.none) kV35 dc35 pm35 an35 cd35 ct35), sl35⟩) (c35 : PySem.W.codeIn K cd35 "_law_signs" = true) (k35 : PySem.W.keepIn K (.ref f35) = true)
    {od36 an36 : Option Addr} {sl36 : Array (Option Value)} {oc36 kV36 dc36 pm36 cd36 ct36 : Value}
    (a36 : PySem.W.nsIn K mainGlobals "_law_odd" = some (some (.ref f36))) (l36 : K.lookup f36 = some ⟨oc36, od36, .func (PySem.W.fnOf "_law_odd" "_law_odd" (defArgs s__law_odd) (defBody s__law_odd) (defScope s__law_odd) (.none) kV36 dc36 pm36 an36 cd36 ct36), sl36⟩) (c36 : PySem.W.codeIn K cd36 "_law_odd" = true) (k36 : PySem.W.keepIn K (.ref f36) = true)
    {od37 an37 : Option Addr} {sl37 : Array (Option Value)} {oc37 kV37 dc37 pm37 cd37 ct37 : Value}
    (a37 : PySem.W.nsIn K mainGlobals "_law_number" = some (some (.ref f37))) (l37 : K.lookup f37 = some ⟨oc37, od37, .func (PySem.W.fnOf "_law_number" "_law_number" (defArgs s__law_number) (defBody s__law_number) (defScope s__law_number) (.none) kV37 dc37 pm37 an37 cd37 ct37), sl37⟩) (c37 : PySem.W.codeIn K cd37 "_law_number" = true) (k37 : PySem.W.keepIn K (.ref f37) = true)
    {od38 an38 : Option Addr} {sl38 : Array (Option Value)} {oc38 kV38 dc38 pm38 cd38 ct38 : Value}
    (a38 : PySem.W.nsIn K mainGlobals "_law_arrow" = some (some (.ref f38))) (l38 : K.lookup f38 = some ⟨oc38, od38, .func (PySem.W.fnOf "_law_arrow" "_law_arrow" (defArgs s__law_arrow) (defBody s__law_arrow) (defScope s__law_arrow) (.none) kV38 dc38 pm38 an38 cd38 ct38), sl38⟩) (c38 : PySem.W.codeIn K cd38 "_law_arrow" = true) (k38 : PySem.W.keepIn K (.ref f38) = true)
    {od39 an39 : Option Addr} {sl39 : Array (Option Value)} {oc39 kV39 dc39 pm39 cd39 ct39 : Value}
    (a39 : PySem.W.nsIn K mainGlobals "_law_net_of" = some (some (.ref f39))) (l39 : K.lookup f39 = some ⟨oc39, od39, .func (PySem.W.fnOf "_law_net_of" "_law_net_of" (defArgs s__law_net_of) (defBody s__law_net_of) (defScope s__law_net_of) (.none) kV39 dc39 pm39 an39 cd39 ct39), sl39⟩) (c39 : PySem.W.codeIn K cd39 "_law_net_of" = true) (k39 : PySem.W.keepIn K (.ref f39) = true)
    {od40 an40 : Option Addr} {sl40 : Array (Option Value)} {oc40 kV40 dc40 pm40 cd40 ct40 : Value}
    (a40 : PySem.W.nsIn K mainGlobals "_law_piles_of" = some (some (.ref f40))) (l40 : K.lookup f40 = some ⟨oc40, od40, .func (PySem.W.fnOf "_law_piles_of" "_law_piles_of" (defArgs s__law_piles_of) (defBody s__law_piles_of) (defScope s__law_piles_of) (.none) kV40 dc40 pm40 an40 cd40 ct40), sl40⟩) (c40 : PySem.W.codeIn K cd40 "_law_piles_of" = true) (k40 : PySem.W.keepIn K (.ref f40) = true)
    {od41 an41 : Option Addr} {sl41 : Array (Option Value)} {oc41 kV41 dc41 pm41 cd41 ct41 : Value}
    (a41 : PySem.W.nsIn K mainGlobals "_law_tree_of" = some (some (.ref f41))) (l41 : K.lookup f41 = some ⟨oc41, od41, .func (PySem.W.fnOf "_law_tree_of" "_law_tree_of" (defArgs s__law_tree_of) (defBody s__law_tree_of) (defScope s__law_tree_of) (.none) kV41 dc41 pm41 an41 cd41 ct41), sl41⟩) (c41 : PySem.W.codeIn K cd41 "_law_tree_of" = true) (k41 : PySem.W.keepIn K (.ref f41) = true)
    {od42 an42 : Option Addr} {sl42 : Array (Option Value)} {oc42 kV42 dc42 pm42 cd42 ct42 : Value}
    (a42 : PySem.W.nsIn K mainGlobals "_law_due" = some (some (.ref f42))) (l42 : K.lookup f42 = some ⟨oc42, od42, .func (PySem.W.fnOf "_law_due" "_law_due" (defArgs s__law_due) (defBody s__law_due) (defScope s__law_due) (.none) kV42 dc42 pm42 an42 cd42 ct42), sl42⟩) (c42 : PySem.W.codeIn K cd42 "_law_due" = true) (k42 : PySem.W.keepIn K (.ref f42) = true)
    {od43 an43 : Option Addr} {sl43 : Array (Option Value)} {oc43 kV43 dc43 pm43 cd43 ct43 : Value}
    (a43 : PySem.W.nsIn K mainGlobals "_law_read" = some (some (.ref f43))) (l43 : K.lookup f43 = some ⟨oc43, od43, .func (PySem.W.fnOf "_law_read" "_law_read" (defArgs s__law_read) (defBody s__law_read) (defScope s__law_read) (.none) kV43 dc43 pm43 an43 cd43 ct43), sl43⟩) (c43 : PySem.W.codeIn K cd43 "_law_read" = true) (k43 : PySem.W.keepIn K (.ref f43) = true)
    {od44 an44 : Option Addr} {sl44 : Array (Option Value)} {oc44 kV44 dc44 pm44 cd44 ct44 : Value}
    (a44 : PySem.W.nsIn K mainGlobals "_law_refused" = some (some (.ref f44))) (l44 : K.lookup f44 = some ⟨oc44, od44, .func (PySem.W.fnOf "_law_refused" "_law_refused" (defArgs s__law_refused) (defBody s__law_refused) (defScope s__law_refused) (.none) kV44 dc44 pm44 an44 cd44 ct44), sl44⟩) (c44 : PySem.W.codeIn K cd44 "_law_refused" = true) (k44 : PySem.W.keepIn K (.ref f44) = true)
    {od45 an45 : Option Addr} {sl45 : Array (Option Value)} {oc45 kV45 dc45 pm45 cd45 ct45 : Value}
    (a45 : PySem.W.nsIn K mainGlobals "_law_asked" = some (some (.ref f45))) (l45 : K.lookup f45 = some ⟨oc45, od45, .func (PySem.W.fnOf "_law_asked" "_law_asked" (defArgs s__law_asked) (defBody s__law_asked) (defScope s__law_asked) (.none) kV45 dc45 pm45 an45 cd45 ct45), sl45⟩) (c45 : PySem.W.codeIn K cd45 "_law_asked" = true) (k45 : PySem.W.keepIn K (.ref f45) = true)
    {od46 an46 : Option Addr} {sl46 : Array (Option Value)} {oc46 kV46 dc46 pm46 cd46 ct46 : Value}
    (a46 : PySem.W.nsIn K mainGlobals "law" = some (some (.ref f46))) (l46 : K.lookup f46 = some ⟨oc46, od46, .func (PySem.W.fnOf "law" "law" (defArgs s_law) (defBody s_law) (defScope s_law) (.none) kV46 dc46 pm46 an46 cd46 ct46), sl46⟩) (c46 : PySem.W.codeIn K cd46 "law" = true) (k46 : PySem.W.keepIn K (.ref f46) = true)
    (z_ValueError : PySem.W.nsIn K mainGlobals "ValueError" = some none)
    (z_all : PySem.W.nsIn K mainGlobals "all" = some none)
    (z_bool : PySem.W.nsIn K mainGlobals "bool" = some none)
    (z_int : PySem.W.nsIn K mainGlobals "int" = some none)
    (z_isinstance : PySem.W.nsIn K mainGlobals "isinstance" = some none)
    (z_len : PySem.W.nsIn K mainGlobals "len" = some none)
    (z_list : PySem.W.nsIn K mainGlobals "list" = some none)
    (z_range : PySem.W.nsIn K mainGlobals "range" = some none)
    (z_str : PySem.W.nsIn K mainGlobals "str" = some none)
    (z_tuple : PySem.W.nsIn K mainGlobals "tuple" = some none)
    (z_zip : PySem.W.nsIn K mainGlobals "zip" = some none)
    {t_BETWEEN_PARTS : Tok} (k_BETWEEN_PARTS : PySem.W.nsIn K mainGlobals "BETWEEN_PARTS" = some (some (.str "; " t_BETWEEN_PARTS)))
    {t_BETWEEN_WORDS : Tok} (k_BETWEEN_WORDS : PySem.W.nsIn K mainGlobals "BETWEEN_WORDS" = some (some (.str " " t_BETWEEN_WORDS)))
    {t_FIGURES : Tok} (k_FIGURES : PySem.W.nsIn K mainGlobals "FIGURES" = some (some (.str "0123456789" t_FIGURES)))
    {t_MOST_FIGURES : Tok} (k_MOST_FIGURES : PySem.W.nsIn K mainGlobals "MOST_FIGURES" = some (some (.int 30 t_MOST_FIGURES)))
    {t_MOST_IN_PILE : Tok} (k_MOST_IN_PILE : PySem.W.nsIn K mainGlobals "MOST_IN_PILE" = some (some (.int 40 t_MOST_IN_PILE)))
    {t_MOST_PLACES : Tok} (k_MOST_PLACES : PySem.W.nsIn K mainGlobals "MOST_PLACES" = some (some (.int 8 t_MOST_PLACES)))
    {t_NOTHING : Tok} (k_NOTHING : PySem.W.nsIn K mainGlobals "NOTHING" = some (some (.str "-" t_NOTHING)))
    {c_RingError c_NoNet c_NoTree c_NoPiles c_NoRing c_NoPlace c_NoNumber c_NoArrow c_MakesRing c_RanOut c_TooGreat c_NoText : Addr}
    (ca_RingError : PySem.W.nsIn K mainGlobals "RingError" = some (some (.ref c_RingError)))
    (ca_NoNet : PySem.W.nsIn K mainGlobals "NoNet" = some (some (.ref c_NoNet)))
    (ca_NoTree : PySem.W.nsIn K mainGlobals "NoTree" = some (some (.ref c_NoTree)))
    (ca_NoPiles : PySem.W.nsIn K mainGlobals "NoPiles" = some (some (.ref c_NoPiles)))
    (ca_NoRing : PySem.W.nsIn K mainGlobals "NoRing" = some (some (.ref c_NoRing)))
    (ca_NoPlace : PySem.W.nsIn K mainGlobals "NoPlace" = some (some (.ref c_NoPlace)))
    (ca_NoNumber : PySem.W.nsIn K mainGlobals "NoNumber" = some (some (.ref c_NoNumber)))
    (ca_NoArrow : PySem.W.nsIn K mainGlobals "NoArrow" = some (some (.ref c_NoArrow)))
    (ca_MakesRing : PySem.W.nsIn K mainGlobals "MakesRing" = some (some (.ref c_MakesRing)))
    (ca_RanOut : PySem.W.nsIn K mainGlobals "RanOut" = some (some (.ref c_RanOut)))
    (ca_TooGreat : PySem.W.nsIn K mainGlobals "TooGreat" = some (some (.ref c_TooGreat)))
    (ca_NoText : PySem.W.nsIn K mainGlobals "NoText" = some (some (.ref c_NoText)))
    (cgs : PySem.W.specialIn K (.builtin "object.__class__") "__get__" = some (some (.builtin "getset_descriptor.__get__")))
    (ctk : PySem.W.takesIn K (.builtin "object.__class__") = some true)
    (cx_RingError : PySem.W.excIn K c_RingError [.type "ValueError", .type "Exception", .type "BaseException", .type "object"] "ValueError.__new__" = true)
    (cga_RingError : PySem.W.findIn K (.ref c_RingError) "__getattribute__" = some (some (.builtin "BaseException.__getattribute__")))
    (cgt_RingError : PySem.W.findIn K (.ref c_RingError) "__getattr__" = some none)
    (ccl_RingError : PySem.W.findIn K (.ref c_RingError) "__class__" = some (some (.builtin "object.__class__")))
    (cmo_RingError : PySem.W.mroIn K c_RingError (.type "object") = some true)
    (cmb_RingError : PySem.W.mroIn K c_RingError (.type "BaseException") = some true)
    (cis_RingError : PySem.W.isClsIn K c_RingError = true)
    (cx_NoNet : PySem.W.excIn K c_NoNet [.type "ValueError", .type "Exception", .type "BaseException", .type "object"] "ValueError.__new__" = true)
    (cga_NoNet : PySem.W.findIn K (.ref c_NoNet) "__getattribute__" = some (some (.builtin "BaseException.__getattribute__")))
    (cgt_NoNet : PySem.W.findIn K (.ref c_NoNet) "__getattr__" = some none)
    (ccl_NoNet : PySem.W.findIn K (.ref c_NoNet) "__class__" = some (some (.builtin "object.__class__")))
    (cmo_NoNet : PySem.W.mroIn K c_NoNet (.type "object") = some true)
    (cmb_NoNet : PySem.W.mroIn K c_NoNet (.type "BaseException") = some true)
    (cis_NoNet : PySem.W.isClsIn K c_NoNet = true)
    (cx_NoTree : PySem.W.excIn K c_NoTree [.type "ValueError", .type "Exception", .type "BaseException", .type "object"] "ValueError.__new__" = true)
    (cga_NoTree : PySem.W.findIn K (.ref c_NoTree) "__getattribute__" = some (some (.builtin "BaseException.__getattribute__")))
    (cgt_NoTree : PySem.W.findIn K (.ref c_NoTree) "__getattr__" = some none)
    (ccl_NoTree : PySem.W.findIn K (.ref c_NoTree) "__class__" = some (some (.builtin "object.__class__")))
    (cmo_NoTree : PySem.W.mroIn K c_NoTree (.type "object") = some true)
    (cmb_NoTree : PySem.W.mroIn K c_NoTree (.type "BaseException") = some true)
    (cis_NoTree : PySem.W.isClsIn K c_NoTree = true)
    (cx_NoPiles : PySem.W.excIn K c_NoPiles [.type "ValueError", .type "Exception", .type "BaseException", .type "object"] "ValueError.__new__" = true)
    (cga_NoPiles : PySem.W.findIn K (.ref c_NoPiles) "__getattribute__" = some (some (.builtin "BaseException.__getattribute__")))
    (cgt_NoPiles : PySem.W.findIn K (.ref c_NoPiles) "__getattr__" = some none)
    (ccl_NoPiles : PySem.W.findIn K (.ref c_NoPiles) "__class__" = some (some (.builtin "object.__class__")))
    (cmo_NoPiles : PySem.W.mroIn K c_NoPiles (.type "object") = some true)
    (cmb_NoPiles : PySem.W.mroIn K c_NoPiles (.type "BaseException") = some true)
    (cis_NoPiles : PySem.W.isClsIn K c_NoPiles = true)
    (cx_NoText : PySem.W.excIn K c_NoText [.type "ValueError", .type "Exception", .type "BaseException", .type "object"] "ValueError.__new__" = true)
    (cga_NoText : PySem.W.findIn K (.ref c_NoText) "__getattribute__" = some (some (.builtin "BaseException.__getattribute__")))
    (cgt_NoText : PySem.W.findIn K (.ref c_NoText) "__getattr__" = some none)
    (ccl_NoText : PySem.W.findIn K (.ref c_NoText) "__class__" = some (some (.builtin "object.__class__")))
    (cmo_NoText : PySem.W.mroIn K c_NoText (.type "object") = some true)
    (cmb_NoText : PySem.W.mroIn K c_NoText (.type "BaseException") = some true)
    (cis_NoText : PySem.W.isClsIn K c_NoText = true)
    (cs_NoNet : PySem.W.mroIn K c_NoNet (.ref c_NoNet) = some true)
    (cv_NoNet : PySem.W.mroIn K c_NoNet (.type "ValueError") = some true)
    (cu_NoNet_RingError : PySem.W.mroIn K c_NoNet (.ref c_RingError) = some true)
    (cn_NoNet_NoTree : PySem.W.mroIn K c_NoNet (.ref c_NoTree) = some false)
    (cn_NoNet_NoPiles : PySem.W.mroIn K c_NoNet (.ref c_NoPiles) = some false)
    (cn_NoNet_NoRing : PySem.W.mroIn K c_NoNet (.ref c_NoRing) = some false)
    (cn_NoNet_NoPlace : PySem.W.mroIn K c_NoNet (.ref c_NoPlace) = some false)
    (cn_NoNet_NoNumber : PySem.W.mroIn K c_NoNet (.ref c_NoNumber) = some false)
    (cn_NoNet_NoArrow : PySem.W.mroIn K c_NoNet (.ref c_NoArrow) = some false)
    (cn_NoNet_MakesRing : PySem.W.mroIn K c_NoNet (.ref c_MakesRing) = some false)
    (cn_NoNet_RanOut : PySem.W.mroIn K c_NoNet (.ref c_RanOut) = some false)
    (cn_NoNet_TooGreat : PySem.W.mroIn K c_NoNet (.ref c_TooGreat) = some false)
    (cn_NoNet_NoText : PySem.W.mroIn K c_NoNet (.ref c_NoText) = some false)
    (cs_NoTree : PySem.W.mroIn K c_NoTree (.ref c_NoTree) = some true)
    (cv_NoTree : PySem.W.mroIn K c_NoTree (.type "ValueError") = some true)
    (cu_NoTree_RingError : PySem.W.mroIn K c_NoTree (.ref c_RingError) = some true)
    (cn_NoTree_NoNet : PySem.W.mroIn K c_NoTree (.ref c_NoNet) = some false)
    (cn_NoTree_NoPiles : PySem.W.mroIn K c_NoTree (.ref c_NoPiles) = some false)
    (cn_NoTree_NoRing : PySem.W.mroIn K c_NoTree (.ref c_NoRing) = some false)
    (cn_NoTree_NoPlace : PySem.W.mroIn K c_NoTree (.ref c_NoPlace) = some false)
    (cn_NoTree_NoNumber : PySem.W.mroIn K c_NoTree (.ref c_NoNumber) = some false)
    (cn_NoTree_NoArrow : PySem.W.mroIn K c_NoTree (.ref c_NoArrow) = some false)
    (cn_NoTree_MakesRing : PySem.W.mroIn K c_NoTree (.ref c_MakesRing) = some false)
    (cn_NoTree_RanOut : PySem.W.mroIn K c_NoTree (.ref c_RanOut) = some false)
    (cn_NoTree_TooGreat : PySem.W.mroIn K c_NoTree (.ref c_TooGreat) = some false)
    (cn_NoTree_NoText : PySem.W.mroIn K c_NoTree (.ref c_NoText) = some false)
    (cs_NoPiles : PySem.W.mroIn K c_NoPiles (.ref c_NoPiles) = some true)
    (cv_NoPiles : PySem.W.mroIn K c_NoPiles (.type "ValueError") = some true)
    (cu_NoPiles_RingError : PySem.W.mroIn K c_NoPiles (.ref c_RingError) = some true)
    (cn_NoPiles_NoNet : PySem.W.mroIn K c_NoPiles (.ref c_NoNet) = some false)
    (cn_NoPiles_NoTree : PySem.W.mroIn K c_NoPiles (.ref c_NoTree) = some false)
    (cn_NoPiles_NoRing : PySem.W.mroIn K c_NoPiles (.ref c_NoRing) = some false)
    (cn_NoPiles_NoPlace : PySem.W.mroIn K c_NoPiles (.ref c_NoPlace) = some false)
    (cn_NoPiles_NoNumber : PySem.W.mroIn K c_NoPiles (.ref c_NoNumber) = some false)
    (cn_NoPiles_NoArrow : PySem.W.mroIn K c_NoPiles (.ref c_NoArrow) = some false)
    (cn_NoPiles_MakesRing : PySem.W.mroIn K c_NoPiles (.ref c_MakesRing) = some false)
    (cn_NoPiles_RanOut : PySem.W.mroIn K c_NoPiles (.ref c_RanOut) = some false)
    (cn_NoPiles_TooGreat : PySem.W.mroIn K c_NoPiles (.ref c_TooGreat) = some false)
    (cn_NoPiles_NoText : PySem.W.mroIn K c_NoPiles (.ref c_NoText) = some false)
    (cs_NoText : PySem.W.mroIn K c_NoText (.ref c_NoText) = some true)
    (cv_NoText : PySem.W.mroIn K c_NoText (.type "ValueError") = some true)
    (cu_NoText_RingError : PySem.W.mroIn K c_NoText (.ref c_RingError) = some true)
    (cn_NoText_NoNet : PySem.W.mroIn K c_NoText (.ref c_NoNet) = some false)
    (cn_NoText_NoTree : PySem.W.mroIn K c_NoText (.ref c_NoTree) = some false)
    (cn_NoText_NoPiles : PySem.W.mroIn K c_NoText (.ref c_NoPiles) = some false)
    (cn_NoText_NoRing : PySem.W.mroIn K c_NoText (.ref c_NoRing) = some false)
    (cn_NoText_NoPlace : PySem.W.mroIn K c_NoText (.ref c_NoPlace) = some false)
    (cn_NoText_NoNumber : PySem.W.mroIn K c_NoText (.ref c_NoNumber) = some false)
    (cn_NoText_NoArrow : PySem.W.mroIn K c_NoText (.ref c_NoArrow) = some false)
    (cn_NoText_MakesRing : PySem.W.mroIn K c_NoText (.ref c_MakesRing) = some false)
    (cn_NoText_RanOut : PySem.W.mroIn K c_NoText (.ref c_RanOut) = some false)
    (cn_NoText_TooGreat : PySem.W.mroIn K c_NoText (.ref c_TooGreat) = some false)
    (ci_NoTree : PySem.W.isClsIn K c_NoTree = true)
    (ct_NoTree : PySem.W.typeIn K (.ref c_NoTree) = some (.type "type"))
    (ci_NoPiles : PySem.W.isClsIn K c_NoPiles = true)
    (ct_NoPiles : PySem.W.typeIn K (.ref c_NoPiles) = some (.type "type"))
    (ci_NoRing : PySem.W.isClsIn K c_NoRing = true)
    (ct_NoRing : PySem.W.typeIn K (.ref c_NoRing) = some (.type "type"))
    (ci_NoPlace : PySem.W.isClsIn K c_NoPlace = true)
    (ct_NoPlace : PySem.W.typeIn K (.ref c_NoPlace) = some (.type "type"))
    (ci_NoNumber : PySem.W.isClsIn K c_NoNumber = true)
    (ct_NoNumber : PySem.W.typeIn K (.ref c_NoNumber) = some (.type "type"))
    (ci_NoArrow : PySem.W.isClsIn K c_NoArrow = true)
    (ct_NoArrow : PySem.W.typeIn K (.ref c_NoArrow) = some (.type "type"))
    (ci_MakesRing : PySem.W.isClsIn K c_MakesRing = true)
    (ct_MakesRing : PySem.W.typeIn K (.ref c_MakesRing) = some (.type "type"))
    (ci_RanOut : PySem.W.isClsIn K c_RanOut = true)
    (ct_RanOut : PySem.W.typeIn K (.ref c_RanOut) = some (.type "type"))
    (ci_TooGreat : PySem.W.isClsIn K c_TooGreat = true)
    (ct_TooGreat : PySem.W.typeIn K (.ref c_TooGreat) = some (.type "type"))
    (ci_NoText : PySem.W.isClsIn K c_NoText = true)
    (ct_NoText : PySem.W.typeIn K (.ref c_NoText) = some (.type "type"))
    (ci_NoNet : PySem.W.isClsIn K c_NoNet = true)
    (ct_NoNet : PySem.W.typeIn K (.ref c_NoNet) = some (.type "type"))
    : ∃ fd : FuncData, (∀ (s : Shared) (v : Value), BindsTo s fd ⟨[v], []⟩ [("_law_script", v)]) ∧ ∀ base : Heap, K.In base → base.Ns mainGlobals mg → FnOk l.prog w K mg base CX0 10 fa fd ["_law_script"] (spLaw K) := by
  have e := hfa.symm.trans (PySem.W.mg_of X G a46)
  cases e
  have T : Txt mg := ⟨PySem.W.mg_none_of X G z_ValueError, PySem.W.mg_none_of X G z_all, PySem.W.mg_none_of X G z_bool, PySem.W.mg_none_of X G z_int, PySem.W.mg_none_of X G z_isinstance, PySem.W.mg_none_of X G z_len, PySem.W.mg_none_of X G z_list, PySem.W.mg_none_of X G z_range, PySem.W.mg_none_of X G z_str, PySem.W.mg_none_of X G z_tuple, PySem.W.mg_none_of X G z_zip, ⟨_, PySem.W.mg_of X G k_BETWEEN_PARTS⟩, ⟨_, PySem.W.mg_of X G k_BETWEEN_WORDS⟩, ⟨_, PySem.W.mg_of X G k_FIGURES⟩, ⟨_, PySem.W.mg_of X G k_MOST_FIGURES⟩, ⟨_, PySem.W.mg_of X G k_MOST_IN_PILE⟩, ⟨_, PySem.W.mg_of X G k_MOST_PLACES⟩, ⟨_, PySem.W.mg_of X G k_NOTHING⟩⟩
  have F0 := fun_mk (st := s_is_number) l0 c0 k0
  have h_is_number : Here K mg "is_number" s_is_number ["thing"] := ⟨_, _, F0, PySem.W.mg_of X G a0, F0.binds (ps := ["thing"]) fun _ _ _ _ _ _ us hl => match us, hl with | [_], _ => rfl⟩
  have F1 := fun_mk (st := s_is_place) l1 c1 k1
  have h_is_place : Here K mg "is_place" s_is_place ["thing", "many"] := ⟨_, _, F1, PySem.W.mg_of X G a1, F1.binds (ps := ["thing", "many"]) fun _ _ _ _ _ _ us hl => match us, hl with | [_, _], _ => rfl⟩
  have F2 := fun_mk (st := s_is_arrow) l2 c2 k2
  have h_is_arrow : Here K mg "is_arrow" s_is_arrow ["thing", "many"] := ⟨_, _, F2, PySem.W.mg_of X G a2, F2.binds (ps := ["thing", "many"]) fun _ _ _ _ _ _ us hl => match us, hl with | [_, _], _ => rfl⟩
  have F3 := fun_mk (st := s_ends_of) l3 c3 k3
  have h_ends_of : Here K mg "ends_of" s_ends_of ["row"] := ⟨_, _, F3, PySem.W.mg_of X G a3, F3.binds (ps := ["row"]) fun _ _ _ _ _ _ us hl => match us, hl with | [_], _ => rfl⟩
  have F4 := fun_mk (st := s_is_end) l4 c4 k4
  have h_is_end : Here K mg "is_end" s_is_end ["row", "thing"] := ⟨_, _, F4, PySem.W.mg_of X G a4, F4.binds (ps := ["row", "thing"]) fun _ _ _ _ _ _ us hl => match us, hl with | [_, _], _ => rfl⟩
  have F5 := fun_mk (st := s_row_of) l5 c5 k5
  have h_row_of : Here K mg "row_of" s_row_of ["thing", "many"] := ⟨_, _, F5, PySem.W.mg_of X G a5, F5.binds (ps := ["thing", "many"]) fun _ _ _ _ _ _ us hl => match us, hl with | [_, _], _ => rfl⟩
  have F6 := fun_mk (st := s_net_of) l6 c6 k6
  have h_net_of : Here K mg "net_of" s_net_of ["things"] := ⟨_, _, F6, PySem.W.mg_of X G a6, F6.binds (ps := ["things"]) fun _ _ _ _ _ _ us hl => match us, hl with | [_], _ => rfl⟩
  have F7 := fun_mk (st := s_fits_row) l7 c7 k7
  have h_fits_row : Here K mg "fits_row" s_fits_row ["row", "thing"] := ⟨_, _, F7, PySem.W.mg_of X G a7, F7.binds (ps := ["row", "thing"]) fun _ _ _ _ _ _ us hl => match us, hl with | [_, _], _ => rfl⟩
  have F8 := fun_mk (st := s_way_along) l8 c8 k8
  have h_way_along : Here K mg "way_along" s_way_along ["ends", "place"] := ⟨_, _, F8, PySem.W.mg_of X G a8, F8.binds (ps := ["ends", "place"]) fun _ _ _ _ _ _ us hl => match us, hl with | [_, _], _ => rfl⟩
  have F9 := fun_mk (st := s_comes_to_root) l9 c9 k9
  have h_comes_to_root : Here K mg "comes_to_root" s_comes_to_root ["ends", "place"] := ⟨_, _, F9, PySem.W.mg_of X G a9, F9.binds (ps := ["ends", "place"]) fun _ _ _ _ _ _ us hl => match us, hl with | [_, _], _ => rfl⟩
  have F10 := fun_mk (st := s_is_tree) l10 c10 k10
  have h_is_tree : Here K mg "is_tree" s_is_tree ["net", "things"] := ⟨_, _, F10, PySem.W.mg_of X G a10, F10.binds (ps := ["net", "things"]) fun _ _ _ _ _ _ us hl => match us, hl with | [_, _], _ => rfl⟩
  have F11 := fun_mk (st := s_check_tree) l11 c11 k11
  have h_check_tree : Here K mg "check_tree" s_check_tree ["net", "things"] := ⟨_, _, F11, PySem.W.mg_of X G a11, F11.binds (ps := ["net", "things"]) fun _ _ _ _ _ _ us hl => match us, hl with | [_, _], _ => rfl⟩
  have F12 := fun_mk (st := s_pile_of) l12 c12 k12
  have h_pile_of : Here K mg "pile_of" s_pile_of ["row", "thing"] := ⟨_, _, F12, PySem.W.mg_of X G a12, F12.binds (ps := ["row", "thing"]) fun _ _ _ _ _ _ us hl => match us, hl with | [_, _], _ => rfl⟩
  have F13 := fun_mk (st := s_piles_of) l13 c13 k13
  have h_piles_of : Here K mg "piles_of" s_piles_of ["net", "things"] := ⟨_, _, F13, PySem.W.mg_of X G a13, F13.binds (ps := ["net", "things"]) fun _ _ _ _ _ _ us hl => match us, hl with | [_, _], _ => rfl⟩
  have F14 := fun_mk (st := s_split_text) l14 c14 k14
  have h_split_text : Here K mg "split_text" s_split_text ["text", "between"] := ⟨_, _, F14, PySem.W.mg_of X G a14, F14.binds (ps := ["text", "between"]) fun _ _ _ _ _ _ us hl => match us, hl with | [_, _], _ => rfl⟩
  have F15 := fun_mk (st := s_number_in) l15 c15 k15
  have h_number_in : Here K mg "number_in" s_number_in ["word"] := ⟨_, _, F15, PySem.W.mg_of X G a15, F15.binds (ps := ["word"]) fun _ _ _ _ _ _ us hl => match us, hl with | [_], _ => rfl⟩
  have F16 := fun_mk (st := s_arrow_in) l16 c16 k16
  have h_arrow_in : Here K mg "arrow_in" s_arrow_in ["word"] := ⟨_, _, F16, PySem.W.mg_of X G a16, F16.binds (ps := ["word"]) fun _ _ _ _ _ _ us hl => match us, hl with | [_], _ => rfl⟩
  have F17 := fun_mk (st := s_end_in) l17 c17 k17
  have h_end_in : Here K mg "end_in" s_end_in ["word"] := ⟨_, _, F17, PySem.W.mg_of X G a17, F17.binds (ps := ["word"]) fun _ _ _ _ _ _ us hl => match us, hl with | [_], _ => rfl⟩
  have F18 := fun_mk (st := s_things_in) l18 c18 k18
  have h_things_in : Here K mg "things_in" s_things_in ["part", "read_word"] := ⟨_, _, F18, PySem.W.mg_of X G a18, F18.binds (ps := ["part", "read_word"]) fun _ _ _ _ _ _ us hl => match us, hl with | [_, _], _ => rfl⟩
  have F19 := fun_mk (st := s_lists_in) l19 c19 k19
  have h_lists_in : Here K mg "lists_in" s_lists_in ["text", "read_word"] := ⟨_, _, F19, PySem.W.mg_of X G a19, F19.binds (ps := ["text", "read_word"]) fun _ _ _ _ _ _ us hl => match us, hl with | [_, _], _ => rfl⟩
  have F20 := fun_mk (st := s_read_net) l20 c20 k20
  have h_read_net : Here K mg "read_net" s_read_net ["text"] := ⟨_, _, F20, PySem.W.mg_of X G a20, F20.binds (ps := ["text"]) fun _ _ _ _ _ _ us hl => match us, hl with | [_], _ => rfl⟩
  have F21 := fun_mk (st := s_read_piles) l21 c21 k21
  have h_read_piles : Here K mg "read_piles" s_read_piles ["net", "text"] := ⟨_, _, F21, PySem.W.mg_of X G a21, F21.binds (ps := ["net", "text"]) fun _ _ _ _ _ _ us hl => match us, hl with | [_, _], _ => rfl⟩
  have F22 := fun_mk (st := s_read_tree) l22 c22 k22
  have h_read_tree : Here K mg "read_tree" s_read_tree ["net", "text"] := ⟨_, _, F22, PySem.W.mg_of X G a22, F22.binds (ps := ["net", "text"]) fun _ _ _ _ _ _ us hl => match us, hl with | [_, _], _ => rfl⟩
  have F23 := fun_mk (st := s__law_next) l23 c23 k23
  have h__law_next : Here K mg "_law_next" s__law_next ["_law_number_here"] := ⟨_, _, F23, PySem.W.mg_of X G a23, F23.binds (ps := ["_law_number_here"]) fun _ _ _ _ _ _ us hl => match us, hl with | [_], _ => rfl⟩
  have F24 := fun_mk (st := s__law_fold) l24 c24 k24
  have h__law_fold : Here K mg "_law_fold" s__law_fold ["_law_script", "_law_number_here"] := ⟨_, _, F24, PySem.W.mg_of X G a24, F24.binds (ps := ["_law_script", "_law_number_here"]) fun _ _ _ _ _ _ us hl => match us, hl with | [_, _], _ => rfl⟩
  have F25 := fun_mk (st := s__law_weight) l25 c25 k25
  have h__law_weight : Here K mg "_law_weight" s__law_weight ["_law_number_here", "_law_kind"] := ⟨_, _, F25, PySem.W.mg_of X G a25, F25.binds (ps := ["_law_number_here", "_law_kind"]) fun _ _ _ _ _ _ us hl => match us, hl with | [_, _], _ => rfl⟩
  have F26 := fun_mk (st := s__law_net) l26 c26 k26
  have h__law_net : Here K mg "_law_net" s__law_net ["_law_number_here", "_law_most", "_law_rooted"] := ⟨_, _, F26, PySem.W.mg_of X G a26, F26.binds (ps := ["_law_number_here", "_law_most", "_law_rooted"]) fun _ _ _ _ _ _ us hl => match us, hl with | [_, _, _], _ => rfl⟩
  have F27 := fun_mk (st := s__law_copy) l27 c27 k27
  have h__law_copy : Here K mg "_law_copy" s__law_copy ["_law_net_here"] := ⟨_, _, F27, PySem.W.mg_of X G a27, F27.binds (ps := ["_law_net_here"]) fun _ _ _ _ _ _ us hl => match us, hl with | [_], _ => rfl⟩
  have F28 := fun_mk (st := s__law_is_tree) l28 c28 k28
  have h__law_is_tree : Here K mg "_law_is_tree" s__law_is_tree ["_law_net_here", "_law_tree"] := ⟨_, _, F28, PySem.W.mg_of X G a28, F28.binds (ps := ["_law_net_here", "_law_tree"]) fun _ _ _ _ _ _ us hl => match us, hl with | [_, _], _ => rfl⟩
  have F29 := fun_mk (st := s__law_piles) l29 c29 k29
  have h__law_piles : Here K mg "_law_piles" s__law_piles ["_law_net_here", "_law_script"] := ⟨_, _, F29, PySem.W.mg_of X G a29, F29.binds (ps := ["_law_net_here", "_law_script"]) fun _ _ _ _ _ _ us hl => match us, hl with | [_, _], _ => rfl⟩
  have F30 := fun_mk (st := s__law_hung) l30 c30 k30
  have h__law_hung : Here K mg "_law_hung" s__law_hung ["_law_net_here", "_law_number_here"] := ⟨_, _, F30, PySem.W.mg_of X G a30, F30.binds (ps := ["_law_net_here", "_law_number_here"]) fun _ _ _ _ _ _ us hl => match us, hl with | [_, _], _ => rfl⟩
  have F31 := fun_mk (st := s__law_net_text) l31 c31 k31
  have h__law_net_text : Here K mg "_law_net_text" s__law_net_text ["_law_net_here"] := ⟨_, _, F31, PySem.W.mg_of X G a31, F31.binds (ps := ["_law_net_here"]) fun _ _ _ _ _ _ us hl => match us, hl with | [_], _ => rfl⟩
  have F32 := fun_mk (st := s__law_word) l32 c32 k32
  have h__law_word : Here K mg "_law_word" s__law_word ["_law_end"] := ⟨_, _, F32, PySem.W.mg_of X G a32, F32.binds (ps := ["_law_end"]) fun _ _ _ _ _ _ us hl => match us, hl with | [_], _ => rfl⟩
  have F33 := fun_mk (st := s__law_text) l33 c33 k33
  have h__law_text : Here K mg "_law_text" s__law_text ["_law_net_here", "_law_piles_here", "_law_tree", "_law_kind"] := ⟨_, _, F33, PySem.W.mg_of X G a33, F33.binds (ps := ["_law_net_here", "_law_piles_here", "_law_tree", "_law_kind"]) fun _ _ _ _ _ _ us hl => match us, hl with | [_, _, _, _], _ => rfl⟩
  have F34 := fun_mk (st := s__law_bent) l34 c34 k34
  have h__law_bent : Here K mg "_law_bent" s__law_bent ["_law_text_here", "_law_number_here"] := ⟨_, _, F34, PySem.W.mg_of X G a34, F34.binds (ps := ["_law_text_here", "_law_number_here"]) fun _ _ _ _ _ _ us hl => match us, hl with | [_, _], _ => rfl⟩
  have F35 := fun_mk (st := s__law_signs) l35 c35 k35
  have h__law_signs : Here K mg "_law_signs" s__law_signs ["_law_text_here", "_law_script"] := ⟨_, _, F35, PySem.W.mg_of X G a35, F35.binds (ps := ["_law_text_here", "_law_script"]) fun _ _ _ _ _ _ us hl => match us, hl with | [_, _], _ => rfl⟩
  have F36 := fun_mk (st := s__law_odd) l36 c36 k36
  have h__law_odd : Here K mg "_law_odd" s__law_odd ["_law_number_here"] := ⟨_, _, F36, PySem.W.mg_of X G a36, F36.binds (ps := ["_law_number_here"]) fun _ _ _ _ _ _ us hl => match us, hl with | [_], _ => rfl⟩
  have F37 := fun_mk (st := s__law_number) l37 c37 k37
  have h__law_number : Here K mg "_law_number" s__law_number ["_law_word_here"] := ⟨_, _, F37, PySem.W.mg_of X G a37, F37.binds (ps := ["_law_word_here"]) fun _ _ _ _ _ _ us hl => match us, hl with | [_], _ => rfl⟩
  have F38 := fun_mk (st := s__law_arrow) l38 c38 k38
  have h__law_arrow : Here K mg "_law_arrow" s__law_arrow ["_law_word_here"] := ⟨_, _, F38, PySem.W.mg_of X G a38, F38.binds (ps := ["_law_word_here"]) fun _ _ _ _ _ _ us hl => match us, hl with | [_], _ => rfl⟩
  have F39 := fun_mk (st := s__law_net_of) l39 c39 k39
  have h__law_net_of : Here K mg "_law_net_of" s__law_net_of ["_law_text_here"] := ⟨_, _, F39, PySem.W.mg_of X G a39, F39.binds (ps := ["_law_text_here"]) fun _ _ _ _ _ _ us hl => match us, hl with | [_], _ => rfl⟩
  have F40 := fun_mk (st := s__law_piles_of) l40 c40 k40
  have h__law_piles_of : Here K mg "_law_piles_of" s__law_piles_of ["_law_net_here", "_law_text_here"] := ⟨_, _, F40, PySem.W.mg_of X G a40, F40.binds (ps := ["_law_net_here", "_law_text_here"]) fun _ _ _ _ _ _ us hl => match us, hl with | [_, _], _ => rfl⟩
  have F41 := fun_mk (st := s__law_tree_of) l41 c41 k41
  have h__law_tree_of : Here K mg "_law_tree_of" s__law_tree_of ["_law_net_here", "_law_text_here"] := ⟨_, _, F41, PySem.W.mg_of X G a41, F41.binds (ps := ["_law_net_here", "_law_text_here"]) fun _ _ _ _ _ _ us hl => match us, hl with | [_, _], _ => rfl⟩
  have F42 := fun_mk (st := s__law_due) l42 c42 k42
  have h__law_due : Here K mg "_law_due" s__law_due ["_law_net_here", "_law_text_here", "_law_kind"] := ⟨_, _, F42, PySem.W.mg_of X G a42, F42.binds (ps := ["_law_net_here", "_law_text_here", "_law_kind"]) fun _ _ _ _ _ _ us hl => match us, hl with | [_, _, _], _ => rfl⟩
  have F43 := fun_mk (st := s__law_read) l43 c43 k43
  have h__law_read : Here K mg "_law_read" s__law_read ["_law_net_here", "_law_text_here", "_law_kind"] := ⟨_, _, F43, PySem.W.mg_of X G a43, F43.binds (ps := ["_law_net_here", "_law_text_here", "_law_kind"]) fun _ _ _ _ _ _ us hl => match us, hl with | [_, _, _], _ => rfl⟩
  have F44 := fun_mk (st := s__law_refused) l44 c44 k44
  have h__law_refused : Here K mg "_law_refused" s__law_refused ["_law_net_here", "_law_text_here", "_law_kind"] := ⟨_, _, F44, PySem.W.mg_of X G a44, F44.binds (ps := ["_law_net_here", "_law_text_here", "_law_kind"]) fun _ _ _ _ _ _ us hl => match us, hl with | [_, _, _], _ => rfl⟩
  have F45 := fun_mk (st := s__law_asked) l45 c45 k45
  have h__law_asked : Here K mg "_law_asked" s__law_asked ["_law_net_here", "_law_text_here", "_law_kind"] := ⟨_, _, F45, PySem.W.mg_of X G a45, F45.binds (ps := ["_law_net_here", "_law_text_here", "_law_kind"]) fun _ _ _ _ _ _ us hl => match us, hl with | [_, _, _], _ => rfl⟩
  have F46 := fun_mk (st := s_law) l46 c46 k46
  refine ⟨PySem.W.fnOf "law" "law" (defArgs s_law) (defBody s_law) (defScope s_law) .none kV46 dc46 pm46 an46 cd46 ct46, fun s v => .of_eq rfl, fun base _ _ => ?_⟩
  have CK_RingError : PySem.W.ExcK K c_RingError := ⟨cga_RingError, cgt_RingError, ccl_RingError, cgs, ctk, cmo_RingError, cmb_RingError, cis_RingError⟩
  have CK_NoNet : PySem.W.ExcK K c_NoNet := ⟨cga_NoNet, cgt_NoNet, ccl_NoNet, cgs, ctk, cmo_NoNet, cmb_NoNet, cis_NoNet⟩
  have CK_NoTree : PySem.W.ExcK K c_NoTree := ⟨cga_NoTree, cgt_NoTree, ccl_NoTree, cgs, ctk, cmo_NoTree, cmb_NoTree, cis_NoTree⟩
  have CK_NoPiles : PySem.W.ExcK K c_NoPiles := ⟨cga_NoPiles, cgt_NoPiles, ccl_NoPiles, cgs, ctk, cmo_NoPiles, cmb_NoPiles, cis_NoPiles⟩
  have CK_NoText : PySem.W.ExcK K c_NoText := ⟨cga_NoText, cgt_NoText, ccl_NoText, cgs, ctk, cmo_NoText, cmb_NoText, cis_NoText⟩
  have U : Cls K mg := ⟨c_RingError, c_NoNet, c_NoTree, c_NoPiles, c_NoRing, c_NoPlace, c_NoNumber, c_NoArrow, c_MakesRing, c_RanOut, c_TooGreat, c_NoText, PySem.W.mg_of X G ca_RingError, PySem.W.mg_of X G ca_NoNet, PySem.W.mg_of X G ca_NoTree, PySem.W.mg_of X G ca_NoPiles, PySem.W.mg_of X G ca_NoRing, PySem.W.mg_of X G ca_NoPlace, PySem.W.mg_of X G ca_NoNumber, PySem.W.mg_of X G ca_NoArrow, PySem.W.mg_of X G ca_MakesRing, PySem.W.mg_of X G ca_RanOut, PySem.W.mg_of X G ca_TooGreat, PySem.W.mg_of X G ca_NoText, ⟨PySem.W.mg_of X G ca_RingError, cx_RingError, CK_RingError⟩, ⟨PySem.W.mg_of X G ca_NoNet, cx_NoNet, CK_NoNet⟩, ⟨PySem.W.mg_of X G ca_NoTree, cx_NoTree, CK_NoTree⟩, ⟨PySem.W.mg_of X G ca_NoPiles, cx_NoPiles, CK_NoPiles⟩, ⟨PySem.W.mg_of X G ca_NoText, cx_NoText, CK_NoText⟩, cs_NoNet, cv_NoNet, ⟨is_exc cx_NoNet, CK_NoNet, cu_NoNet_RingError⟩, ⟨is_exc cx_NoNet, CK_NoNet, cs_NoNet⟩, ⟨PySem.W.mg_of X G ca_NoTree, ci_NoTree, ct_NoTree, cn_NoNet_NoTree⟩, ⟨PySem.W.mg_of X G ca_NoPiles, ci_NoPiles, ct_NoPiles, cn_NoNet_NoPiles⟩, ⟨PySem.W.mg_of X G ca_NoRing, ci_NoRing, ct_NoRing, cn_NoNet_NoRing⟩, ⟨PySem.W.mg_of X G ca_NoPlace, ci_NoPlace, ct_NoPlace, cn_NoNet_NoPlace⟩, ⟨PySem.W.mg_of X G ca_NoNumber, ci_NoNumber, ct_NoNumber, cn_NoNet_NoNumber⟩, ⟨PySem.W.mg_of X G ca_NoArrow, ci_NoArrow, ct_NoArrow, cn_NoNet_NoArrow⟩, ⟨PySem.W.mg_of X G ca_MakesRing, ci_MakesRing, ct_MakesRing, cn_NoNet_MakesRing⟩, ⟨PySem.W.mg_of X G ca_RanOut, ci_RanOut, ct_RanOut, cn_NoNet_RanOut⟩, ⟨PySem.W.mg_of X G ca_TooGreat, ci_TooGreat, ct_TooGreat, cn_NoNet_TooGreat⟩, ⟨PySem.W.mg_of X G ca_NoText, ci_NoText, ct_NoText, cn_NoNet_NoText⟩, cs_NoTree, cv_NoTree, ⟨is_exc cx_NoTree, CK_NoTree, cu_NoTree_RingError⟩, ⟨PySem.W.mg_of X G ca_NoNet, ci_NoNet, ct_NoNet, cn_NoTree_NoNet⟩, ⟨is_exc cx_NoTree, CK_NoTree, cs_NoTree⟩, ⟨PySem.W.mg_of X G ca_NoPiles, ci_NoPiles, ct_NoPiles, cn_NoTree_NoPiles⟩, ⟨PySem.W.mg_of X G ca_NoRing, ci_NoRing, ct_NoRing, cn_NoTree_NoRing⟩, ⟨PySem.W.mg_of X G ca_NoPlace, ci_NoPlace, ct_NoPlace, cn_NoTree_NoPlace⟩, ⟨PySem.W.mg_of X G ca_NoNumber, ci_NoNumber, ct_NoNumber, cn_NoTree_NoNumber⟩, ⟨PySem.W.mg_of X G ca_NoArrow, ci_NoArrow, ct_NoArrow, cn_NoTree_NoArrow⟩, ⟨PySem.W.mg_of X G ca_MakesRing, ci_MakesRing, ct_MakesRing, cn_NoTree_MakesRing⟩, ⟨PySem.W.mg_of X G ca_RanOut, ci_RanOut, ct_RanOut, cn_NoTree_RanOut⟩, ⟨PySem.W.mg_of X G ca_TooGreat, ci_TooGreat, ct_TooGreat, cn_NoTree_TooGreat⟩, ⟨PySem.W.mg_of X G ca_NoText, ci_NoText, ct_NoText, cn_NoTree_NoText⟩, cs_NoPiles, cv_NoPiles, ⟨is_exc cx_NoPiles, CK_NoPiles, cu_NoPiles_RingError⟩, ⟨PySem.W.mg_of X G ca_NoNet, ci_NoNet, ct_NoNet, cn_NoPiles_NoNet⟩, ⟨PySem.W.mg_of X G ca_NoTree, ci_NoTree, ct_NoTree, cn_NoPiles_NoTree⟩, ⟨is_exc cx_NoPiles, CK_NoPiles, cs_NoPiles⟩, ⟨PySem.W.mg_of X G ca_NoRing, ci_NoRing, ct_NoRing, cn_NoPiles_NoRing⟩, ⟨PySem.W.mg_of X G ca_NoPlace, ci_NoPlace, ct_NoPlace, cn_NoPiles_NoPlace⟩, ⟨PySem.W.mg_of X G ca_NoNumber, ci_NoNumber, ct_NoNumber, cn_NoPiles_NoNumber⟩, ⟨PySem.W.mg_of X G ca_NoArrow, ci_NoArrow, ct_NoArrow, cn_NoPiles_NoArrow⟩, ⟨PySem.W.mg_of X G ca_MakesRing, ci_MakesRing, ct_MakesRing, cn_NoPiles_MakesRing⟩, ⟨PySem.W.mg_of X G ca_RanOut, ci_RanOut, ct_RanOut, cn_NoPiles_RanOut⟩, ⟨PySem.W.mg_of X G ca_TooGreat, ci_TooGreat, ct_TooGreat, cn_NoPiles_TooGreat⟩, ⟨PySem.W.mg_of X G ca_NoText, ci_NoText, ct_NoText, cn_NoPiles_NoText⟩, cs_NoText, cv_NoText, ⟨is_exc cx_NoText, CK_NoText, cu_NoText_RingError⟩, ⟨PySem.W.mg_of X G ca_NoNet, ci_NoNet, ct_NoNet, cn_NoText_NoNet⟩, ⟨PySem.W.mg_of X G ca_NoTree, ci_NoTree, ct_NoTree, cn_NoText_NoTree⟩, ⟨PySem.W.mg_of X G ca_NoPiles, ci_NoPiles, ct_NoPiles, cn_NoText_NoPiles⟩, ⟨PySem.W.mg_of X G ca_NoRing, ci_NoRing, ct_NoRing, cn_NoText_NoRing⟩, ⟨PySem.W.mg_of X G ca_NoPlace, ci_NoPlace, ct_NoPlace, cn_NoText_NoPlace⟩, ⟨PySem.W.mg_of X G ca_NoNumber, ci_NoNumber, ct_NoNumber, cn_NoText_NoNumber⟩, ⟨PySem.W.mg_of X G ca_NoArrow, ci_NoArrow, ct_NoArrow, cn_NoText_NoArrow⟩, ⟨PySem.W.mg_of X G ca_MakesRing, ci_MakesRing, ct_MakesRing, cn_NoText_MakesRing⟩, ⟨PySem.W.mg_of X G ca_RanOut, ci_RanOut, ct_RanOut, cn_NoText_RanOut⟩, ⟨PySem.W.mg_of X G ca_TooGreat, ci_TooGreat, ct_TooGreat, cn_NoText_TooGreat⟩, ⟨is_exc cx_NoText, CK_NoText, cs_NoText⟩⟩
  exact law_all T U h_is_number h_is_place h_is_arrow h_ends_of h_is_end h_row_of h_net_of h_fits_row h_way_along h_comes_to_root h_is_tree h_check_tree h_pile_of h_piles_of h_split_text h_number_in h_arrow_in h_end_in h_things_in h_lists_in h_read_net h_read_piles h_read_tree h__law_next h__law_fold h__law_weight h__law_net h__law_copy h__law_is_tree h__law_piles h__law_hung h__law_net_text h__law_word h__law_text h__law_bent h__law_signs h__law_odd h__law_number h__law_arrow h__law_net_of h__law_piles_of h__law_tree_of h__law_due h__law_read h__law_refused h__law_asked F46
theorem walk {l : PySem.W.OpenLaw} {q : Program} {loose : List Str} {XP : (Str → Option Value) → Heap → Prop} {YP : World → Heap → Prop} {d : DefRec} {K : Params → PySem.W.Frag} (hn : l.most = some 63) (hdf : d.params.defaults = [])
    (hY : ∀ (w : World) (h : Heap), YP w h → (K w.params).In h)
    (F : ∀ (w : World) (mg : Str → Option Value) (fa : Addr) (h : Heap), (K w.params).In h → h.Ns mainGlobals mg → mg d.name = some (.ref fa) →
      ∃ fd : FuncData, (∀ (s : Shared) (u : Value), BindsTo s fd ⟨[u], []⟩ [("_law_script", u)]) ∧ ∀ base : Heap, (K w.params).In base → base.Ns mainGlobals mg → FnOk l.prog w (K w.params) mg base CX0 10 fa fd ["_law_script"] (spLaw (K w.params))) :
    PySem.W.WalkO q loose XP YP l.row.toRowW d [] (fun f vs => PySem.call f vs) :=
  L2.walk_of (n := 63) (k := 10) (x := "_law_script") (CX := fun _ => CX0) (sp := fun w => spLaw (K w.params)) hn (by decide) hdf ⟨rfl, by decide, by decide⟩ hY F (fun _ _ a ns hl _ hS => ⟨a, ns, rfl, hS, hl, fun _ => rfl⟩) fun _ _ _ _ _ z => z
end Law
def _root_.PySem.W.Fast.tw11763227028959813806 : Nat := 0
def _root_.PySem.W.Fast.tw13005655894132381146 : Nat := 0
def _root_.PySem.W.Fast.tw13517530443946680413 : Nat := 0
def _root_.PySem.W.Fast.tw14878279452478153405 : Nat := 0
def _root_.PySem.W.Fast.tw15253924526385055740 : Nat := 0
def _root_.PySem.W.Fast.tw16099569938965175969 : Nat := 0
def _root_.PySem.W.Fast.tw16724510251012478114 : Nat := 0
def _root_.PySem.W.Fast.tw17275859396034804366 : Nat := 0
def _root_.PySem.W.Fast.tw18398483914419477618 : Nat := 0
def _root_.PySem.W.Fast.tw2357519511776057822 : Nat := 0
def _root_.PySem.W.Fast.tw2622343060079154523 : Nat := 0
def _root_.PySem.W.Fast.tw3477385818625739105 : Nat := 0
def _root_.PySem.W.Fast.tw3583240566929964535 : Nat := 0
def _root_.PySem.W.Fast.tw3958729526591316556 : Nat := 0
def _root_.PySem.W.Fast.tw4010521446509639944 : Nat := 0
def _root_.PySem.W.Fast.tw4047546973863780890 : Nat := 0
def _root_.PySem.W.Fast.tw5963917958376783370 : Nat := 0
def _root_.PySem.W.Fast.tw6967369987955893426 : Nat := 0
def _root_.PySem.W.Fast.tw7051154732744747048 : Nat := 0
def _root_.PySem.W.Fast.tw773760634332015758 : Nat := 0
def _root_.PySem.W.Fast.tw8040391953030878716 : Nat := 0
open PySem PySem.W PyProof.Rows
set_option maxRecDepth 100000 in
set_option maxHeartbeats 0 in
theorem PySem.Challenge.cw_ringpop_k63_texts_refused_holds : PySem.Challenge.rw_ringpop_k63_texts_refused.Holds := by
  w_on; o_law; k_head; (case hw => w_witness2)
  k_fill
  refine Law.walk (l := PySem.Challenge.rw_ringpop_k63_texts_refused) rfl rfl (fun w h Y => PySem.W.kIn_of Y) ?F
  case F =>
    intro w mg fa h KX G hmg
    refine' Law.all_mk KX G hmg ?a0 ?l0 ?c0 ?k0 ?a1 ?l1 ?c1 ?k1 ?a2 ?l2 ?c2 ?k2 ?a3 ?l3 ?c3 ?k3 ?a4 ?l4 ?c4 ?k4 ?a5 ?l5 ?c5 ?k5 ?a6 ?l6 ?c6 ?k6 ?a7 ?l7 ?c7 ?k7 ?a8 ?l8 ?c8 ?k8 ?a9 ?l9 ?c9 ?k9 ?a10 ?l10 ?c10 ?k10 ?a11 ?l11 ?c11 ?k11 ?a12 ?l12 ?c12 ?k12 ?a13 ?l13 ?c13 ?k13 ?a14 ?l14 ?c14 ?k14 ?a15 ?l15 ?c15 ?k15 ?a16 ?l16 ?c16 ?k16 ?a17 ?l17 ?c17 ?k17 ?a18 ?l18 ?c18 ?k18 ?a19 ?l19 ?c19 ?k19 ?a20 ?l20 ?c20 ?k20 ?a21 ?l21 ?c21 ?k21 ?a22 ?l22 ?c22 ?k22 ?a23 ?l23 ?c23 ?k23 ?a24 ?l24 ?c24 ?k24 ?a25 ?l25 ?c25 ?k25 ?a26 ?l26 ?c26 ?k26 ?a27 ?l27 ?c27 ?k27 ?a28 ?l28 ?c28 ?k28 ?a29 ?l29 ?c29 ?k29 ?a30 ?l30 ?c30 ?k30 ?a31 ?l31 ?c31 ?k31 ?a32 ?l32 ?c32 ?k32 ?a33 ?l33 ?c33 ?k33 ?a34 ?l34 ?c34 ?k34 ?a35 ?l35 ?c35 ?k35 ?a36 ?l36 ?c36 ?k36 ?a37 ?l37 ?c37 ?k37 ?a38 ?l38 ?c38 ?k38 ?a39 ?l39 ?c39 ?k39 ?a40 ?l40 ?c40 ?k40 ?a41 ?l41 ?c41 ?k41 ?a42 ?l42 ?c42 ?k42 ?a43 ?l43 ?c43 ?k43 ?a44 ?l44 ?c44 ?k44 ?a45 ?l45 ?c45 ?k45 ?a46 ?l46 ?c46 ?k46 ?z_ValueError ?z_all ?z_bool ?z_int ?z_isinstance ?z_len ?z_list ?z_range ?z_str ?z_tuple ?z_zip ?k_BETWEEN_PARTS ?k_BETWEEN_WORDS ?k_FIGURES ?k_MOST_FIGURES ?k_MOST_IN_PILE ?k_MOST_PLACES ?k_NOTHING ?ca_RingError ?ca_NoNet ?ca_NoTree ?ca_NoPiles ?ca_NoRing ?ca_NoPlace ?ca_NoNumber ?ca_NoArrow ?ca_MakesRing ?ca_RanOut ?ca_TooGreat ?ca_NoText ?cgs ?ctk ?cx_RingError ?cga_RingError ?cgt_RingError ?ccl_RingError ?cmo_RingError ?cmb_RingError ?cis_RingError ?cx_NoNet ?cga_NoNet ?cgt_NoNet ?ccl_NoNet ?cmo_NoNet ?cmb_NoNet ?cis_NoNet ?cx_NoTree ?cga_NoTree ?cgt_NoTree ?ccl_NoTree ?cmo_NoTree ?cmb_NoTree ?cis_NoTree ?cx_NoPiles ?cga_NoPiles ?cgt_NoPiles ?ccl_NoPiles ?cmo_NoPiles ?cmb_NoPiles ?cis_NoPiles ?cx_NoText ?cga_NoText ?cgt_NoText ?ccl_NoText ?cmo_NoText ?cmb_NoText ?cis_NoText ?cs_NoNet ?cv_NoNet ?cu_NoNet_RingError ?cn_NoNet_NoTree ?cn_NoNet_NoPiles ?cn_NoNet_NoRing ?cn_NoNet_NoPlace ?cn_NoNet_NoNumber ?cn_NoNet_NoArrow ?cn_NoNet_MakesRing ?cn_NoNet_RanOut ?cn_NoNet_TooGreat ?cn_NoNet_NoText ?cs_NoTree ?cv_NoTree ?cu_NoTree_RingError ?cn_NoTree_NoNet ?cn_NoTree_NoPiles ?cn_NoTree_NoRing ?cn_NoTree_NoPlace ?cn_NoTree_NoNumber ?cn_NoTree_NoArrow ?cn_NoTree_MakesRing ?cn_NoTree_RanOut ?cn_NoTree_TooGreat ?cn_NoTree_NoText ?cs_NoPiles ?cv_NoPiles ?cu_NoPiles_RingError ?cn_NoPiles_NoNet ?cn_NoPiles_NoTree ?cn_NoPiles_NoRing ?cn_NoPiles_NoPlace ?cn_NoPiles_NoNumber ?cn_NoPiles_NoArrow ?cn_NoPiles_MakesRing ?cn_NoPiles_RanOut ?cn_NoPiles_TooGreat ?cn_NoPiles_NoText ?cs_NoText ?cv_NoText ?cu_NoText_RingError ?cn_NoText_NoNet ?cn_NoText_NoTree ?cn_NoText_NoPiles ?cn_NoText_NoRing ?cn_NoText_NoPlace ?cn_NoText_NoNumber ?cn_NoText_NoArrow ?cn_NoText_MakesRing ?cn_NoText_RanOut ?cn_NoText_TooGreat ?ci_NoTree ?ct_NoTree ?ci_NoPiles ?ct_NoPiles ?ci_NoRing ?ct_NoRing ?ci_NoPlace ?ct_NoPlace ?ci_NoNumber ?ct_NoNumber ?ci_NoArrow ?ct_NoArrow ?ci_MakesRing ?ct_MakesRing ?ci_RanOut ?ct_RanOut ?ci_TooGreat ?ct_TooGreat ?ci_NoText ?ct_NoText ?ci_NoNet ?ct_NoNet
    (case a0 => k_is); (case l0 => k_is); (case c0 => k_is); (case k0 => k_is)
    (case a1 => k_is); (case l1 => k_is); (case c1 => k_is); (case k1 => k_is)
    (case a2 => k_is); (case l2 => k_is); (case c2 => k_is); (case k2 => k_is)
    (case a3 => k_is); (case l3 => k_is); (case c3 => k_is); (case k3 => k_is)
    (case a4 => k_is); (case l4 => k_is); (case c4 => k_is); (case k4 => k_is)
    (case a5 => k_is); (case l5 => k_is); (case c5 => k_is); (case k5 => k_is)
    (case a6 => k_is); (case l6 => k_is); (case c6 => k_is); (case k6 => k_is)
    (case a7 => k_is); (case l7 => k_is); (case c7 => k_is); (case k7 => k_is)
    (case a8 => k_is); (case l8 => k_is); (case c8 => k_is); (case k8 => k_is)
    (case a9 => k_is); (case l9 => k_is); (case c9 => k_is); (case k9 => k_is)
    (case a10 => k_is); (case l10 => k_is); (case c10 => k_is); (case k10 => k_is)
    (case a11 => k_is); (case l11 => k_is); (case c11 => k_is); (case k11 => k_is)
    (case a12 => k_is); (case l12 => k_is); (case c12 => k_is); (case k12 => k_is)
    (case a13 => k_is); (case l13 => k_is); (case c13 => k_is); (case k13 => k_is)
    (case a14 => k_is); (case l14 => k_is); (case c14 => k_is); (case k14 => k_is)
    (case a15 => k_is); (case l15 => k_is); (case c15 => k_is); (case k15 => k_is)
    (case a16 => k_is); (case l16 => k_is); (case c16 => k_is); (case k16 => k_is)
    (case a17 => k_is); (case l17 => k_is); (case c17 => k_is); (case k17 => k_is)
    (case a18 => k_is); (case l18 => k_is); (case c18 => k_is); (case k18 => k_is)
    (case a19 => k_is); (case l19 => k_is); (case c19 => k_is); (case k19 => k_is)
    (case a20 => k_is); (case l20 => k_is); (case c20 => k_is); (case k20 => k_is)
    (case a21 => k_is); (case l21 => k_is); (case c21 => k_is); (case k21 => k_is)
    (case a22 => k_is); (case l22 => k_is); (case c22 => k_is); (case k22 => k_is)
    (case a23 => k_is); (case l23 => k_is); (case c23 => k_is); (case k23 => k_is)
    (case a24 => k_is); (case l24 => k_is); (case c24 => k_is); (case k24 => k_is)
    (case a25 => k_is); (case l25 => k_is); (case c25 => k_is); (case k25 => k_is)
    (case a26 => k_is); (case l26 => k_is); (case c26 => k_is); (case k26 => k_is)
    (case a27 => k_is); (case l27 => k_is); (case c27 => k_is); (case k27 => k_is)
    (case a28 => k_is); (case l28 => k_is); (case c28 => k_is); (case k28 => k_is)
    (case a29 => k_is); (case l29 => k_is); (case c29 => k_is); (case k29 => k_is)
    (case a30 => k_is); (case l30 => k_is); (case c30 => k_is); (case k30 => k_is)
    (case a31 => k_is); (case l31 => k_is); (case c31 => k_is); (case k31 => k_is)
    (case a32 => k_is); (case l32 => k_is); (case c32 => k_is); (case k32 => k_is)
    (case a33 => k_is); (case l33 => k_is); (case c33 => k_is); (case k33 => k_is)
    (case a34 => k_is); (case l34 => k_is); (case c34 => k_is); (case k34 => k_is)
    (case a35 => k_is); (case l35 => k_is); (case c35 => k_is); (case k35 => k_is)
    (case a36 => k_is); (case l36 => k_is); (case c36 => k_is); (case k36 => k_is)
    (case a37 => k_is); (case l37 => k_is); (case c37 => k_is); (case k37 => k_is)
    (case a38 => k_is); (case l38 => k_is); (case c38 => k_is); (case k38 => k_is)
    (case a39 => k_is); (case l39 => k_is); (case c39 => k_is); (case k39 => k_is)
    (case a40 => k_is); (case l40 => k_is); (case c40 => k_is); (case k40 => k_is)
    (case a41 => k_is); (case l41 => k_is); (case c41 => k_is); (case k41 => k_is)
    (case a42 => k_is); (case l42 => k_is); (case c42 => k_is); (case k42 => k_is)
    (case a43 => k_is); (case l43 => k_is); (case c43 => k_is); (case k43 => k_is)
    (case a44 => k_is); (case l44 => k_is); (case c44 => k_is); (case k44 => k_is)
    (case a45 => k_is); (case l45 => k_is); (case c45 => k_is); (case k45 => k_is)
    (case a46 => k_is); (case l46 => k_is); (case c46 => k_is); (case k46 => k_is)
    (case z_ValueError => k_is)
    (case z_all => k_is)
    (case z_bool => k_is)
    (case z_int => k_is)
    (case z_isinstance => k_is)
    (case z_len => k_is)
    (case z_list => k_is)
    (case z_range => k_is)
    (case z_str => k_is)
    (case z_tuple => k_is)
    (case z_zip => k_is)
    (case k_BETWEEN_PARTS => k_is)
    (case k_BETWEEN_WORDS => k_is)
    (case k_FIGURES => k_is)
    (case k_MOST_FIGURES => k_is)
    (case k_MOST_IN_PILE => k_is)
    (case k_MOST_PLACES => k_is)
    (case k_NOTHING => k_is)
    (case ca_RingError => k_is)
    (case ca_NoNet => k_is)
    (case ca_NoTree => k_is)
    (case ca_NoPiles => k_is)
    (case ca_NoRing => k_is)
    (case ca_NoPlace => k_is)
    (case ca_NoNumber => k_is)
    (case ca_NoArrow => k_is)
    (case ca_MakesRing => k_is)
    (case ca_RanOut => k_is)
    (case ca_TooGreat => k_is)
    (case ca_NoText => k_is)
    (case cgs => k_is)
    (case ctk => k_is)
    (case cx_RingError => k_exc)
    (case cga_RingError => k_is)
    (case cgt_RingError => k_is)
    (case ccl_RingError => k_is)
    (case cmo_RingError => k_is)
    (case cmb_RingError => k_is)
    (case cis_RingError => k_is)
    (case cx_NoNet => k_exc)
    (case cga_NoNet => k_is)
    (case cgt_NoNet => k_is)
    (case ccl_NoNet => k_is)
    (case cmo_NoNet => k_is)
    (case cmb_NoNet => k_is)
    (case cis_NoNet => k_is)
    (case cx_NoTree => k_exc)
    (case cga_NoTree => k_is)
    (case cgt_NoTree => k_is)
    (case ccl_NoTree => k_is)
    (case cmo_NoTree => k_is)
    (case cmb_NoTree => k_is)
    (case cis_NoTree => k_is)
    (case cx_NoPiles => k_exc)
    (case cga_NoPiles => k_is)
    (case cgt_NoPiles => k_is)
    (case ccl_NoPiles => k_is)
    (case cmo_NoPiles => k_is)
    (case cmb_NoPiles => k_is)
    (case cis_NoPiles => k_is)
    (case cx_NoText => k_exc)
    (case cga_NoText => k_is)
    (case cgt_NoText => k_is)
    (case ccl_NoText => k_is)
    (case cmo_NoText => k_is)
    (case cmb_NoText => k_is)
    (case cis_NoText => k_is)
    (case cs_NoNet => k_is)
    (case cv_NoNet => k_is)
    (case cu_NoNet_RingError => k_is)
    (case cn_NoNet_NoTree => k_is)
    (case cn_NoNet_NoPiles => k_is)
    (case cn_NoNet_NoRing => k_is)
    (case cn_NoNet_NoPlace => k_is)
    (case cn_NoNet_NoNumber => k_is)
    (case cn_NoNet_NoArrow => k_is)
    (case cn_NoNet_MakesRing => k_is)
    (case cn_NoNet_RanOut => k_is)
    (case cn_NoNet_TooGreat => k_is)
    (case cn_NoNet_NoText => k_is)
    (case cs_NoTree => k_is)
    (case cv_NoTree => k_is)
    (case cu_NoTree_RingError => k_is)
    (case cn_NoTree_NoNet => k_is)
    (case cn_NoTree_NoPiles => k_is)
    (case cn_NoTree_NoRing => k_is)
    (case cn_NoTree_NoPlace => k_is)
    (case cn_NoTree_NoNumber => k_is)
    (case cn_NoTree_NoArrow => k_is)
    (case cn_NoTree_MakesRing => k_is)
    (case cn_NoTree_RanOut => k_is)
    (case cn_NoTree_TooGreat => k_is)
    (case cn_NoTree_NoText => k_is)
    (case cs_NoPiles => k_is)
    (case cv_NoPiles => k_is)
    (case cu_NoPiles_RingError => k_is)
    (case cn_NoPiles_NoNet => k_is)
    (case cn_NoPiles_NoTree => k_is)
    (case cn_NoPiles_NoRing => k_is)
    (case cn_NoPiles_NoPlace => k_is)
    (case cn_NoPiles_NoNumber => k_is)
    (case cn_NoPiles_NoArrow => k_is)
    (case cn_NoPiles_MakesRing => k_is)
    (case cn_NoPiles_RanOut => k_is)
    (case cn_NoPiles_TooGreat => k_is)
    (case cn_NoPiles_NoText => k_is)
    (case cs_NoText => k_is)
    (case cv_NoText => k_is)
    (case cu_NoText_RingError => k_is)
    (case cn_NoText_NoNet => k_is)
    (case cn_NoText_NoTree => k_is)
    (case cn_NoText_NoPiles => k_is)
    (case cn_NoText_NoRing => k_is)
    (case cn_NoText_NoPlace => k_is)
    (case cn_NoText_NoNumber => k_is)
    (case cn_NoText_NoArrow => k_is)
    (case cn_NoText_MakesRing => k_is)
    (case cn_NoText_RanOut => k_is)
    (case cn_NoText_TooGreat => k_is)
    (case ci_NoTree => k_is)
    (case ct_NoTree => k_is)
    (case ci_NoPiles => k_is)
    (case ct_NoPiles => k_is)
    (case ci_NoRing => k_is)
    (case ct_NoRing => k_is)
    (case ci_NoPlace => k_is)
    (case ct_NoPlace => k_is)
    (case ci_NoNumber => k_is)
    (case ct_NoNumber => k_is)
    (case ci_NoArrow => k_is)
    (case ct_NoArrow => k_is)
    (case ci_MakesRing => k_is)
    (case ct_MakesRing => k_is)
    (case ci_RanOut => k_is)
    (case ct_RanOut => k_is)
    (case ci_TooGreat => k_is)
    (case ct_TooGreat => k_is)
    (case ci_NoText => k_is)
    (case ct_NoText => k_is)
    (case ci_NoNet => k_is)
    (case ct_NoNet => k_is)

