import PyProof.Rows.All
import Wide.All
import OpenK.AllK
import Wide.FinOn
import Lean
import PyProof.EqAt
import PyProof.EqKinds
import PyProof.TupleCall
import PySem.Challenge.RW_bouncewise_k21_a_wall
set_option genInjectivity false
set_option genSizeOfSpec false
set_option backward.eqns.nonrecursive false
set_option Elab.async false
set_option linter.all false
set_option maxRecDepth 100000
/-! THE HAND LAYER, for ints, bools, texts, own classes, LISTS and tuples (index, slices, in, append, pop ..), calls, loops. Paste it whole ahead of your own text; what your proof does not reach may be deleted. -/
namespace L2
open PySem PySem.Spec PyProof.Rows

/-- a key: an int or a str -/
abbrev Key := Sum Int Str
def keyIs : Key → Value → Bool
  | .inl k, v => Value.isInt k v
  | .inr x, v => Value.isStrOf x v
def keyH (w : World) : Key → Int
  | .inl k => hashInt k
  | .inr x => hashStr w x
theorem keyIs_shape : ∀ {k : Key} {v : Value}, keyIs k v = true → (∃ i t, k = Sum.inl i ∧ v = Value.int i t) ∨ (∃ x t, k = Sum.inr x ∧ v = Value.str x t)
  | .inl i, v, h => by
    obtain ⟨t, e⟩ := Value.isInt_shape (k := i) (v := v) h
    exact .inl ⟨i, t, rfl, e⟩
  | .inr x, v, h => by
    obtain ⟨t, e⟩ := Value.isStrOf_shape (x := x) (v := v) h
    exact .inr ⟨x, t, rfl, e⟩
theorem key_ll (a b : Int) : decide ((Sum.inl a : Key) = Sum.inl b) = (a == b) := by
  by_cases e : a = b
  · subst e; simp
  · have h : ¬ (Sum.inl a : Key) = Sum.inl b := fun q => e (Sum.inl.inj q)
    rw [decide_eq_false h]
    exact (beq_eq_false_iff_ne.mpr e).symm
theorem key_rr (a b : Str) : decide ((Sum.inr a : Key) = Sum.inr b) = decide (a = b) := by
  by_cases e : a = b
  · subst e; simp
  · have h : ¬ (Sum.inr a : Key) = Sum.inr b := fun q => e (Sum.inr.inj q)
    rw [decide_eq_false h, decide_eq_false e]
theorem key_lr (a : Int) (b : Str) : decide ((Sum.inl a : Key) = Sum.inr b) = false := decide_eq_false (fun q => nomatch q)
theorem key_rl (a : Str) (b : Int) : decide ((Sum.inr a : Key) = Sum.inl b) = false := decide_eq_false (fun q => nomatch q)

def mixKind (prog : Program) (w : World) : PySem.KeyKind prog w Key where
  is := keyIs
  hash := keyH w
  inj := fun v a b ha hb => by
    rcases keyIs_shape ha with ⟨i, t, rfl, rfl⟩ | ⟨x, t, rfl, rfl⟩
    · rcases keyIs_shape hb with ⟨j, u, rfl, e⟩ | ⟨y, u, rfl, e⟩
      · injection e with e1 _; rw [e1]
      · exact nomatch e
    · rcases keyIs_shape hb with ⟨j, u, rfl, e⟩ | ⟨y, u, rfl, e⟩
      · exact nomatch e
      · injection e with e1 _; rw [e1]
  byValue := fun k v h => by
    rcases keyIs_shape h with ⟨i, t, rfl, rfl⟩ | ⟨x, t, rfl, rfl⟩ <;> rfl
  pyHash := fun hv h => by
    rcases keyIs_shape hv with ⟨i, t, rfl, rfl⟩ | ⟨x, t, rfl, rfl⟩
    · exact wpAny_pyHash_int h
    · exact wpAny_pyHash_str h
  eqBool := fun hu hv h => by
    rcases keyIs_shape hu with ⟨i, t, rfl, rfl⟩ | ⟨x, t, rfl, rfl⟩
    · rcases keyIs_shape hv with ⟨j, u, rfl, rfl⟩ | ⟨y, u, rfl, rfl⟩
      · rw [key_ll] at h; exact wpAny_eqBool_int h
      · rw [key_lr] at h; exact SeqAt.EqAt.int_str i t y u _ _ _ _ h
    · rcases keyIs_shape hv with ⟨j, u, rfl, rfl⟩ | ⟨y, u, rfl, rfl⟩
      · rw [key_rl] at h; exact SeqAt.EqAt.str_int x t j u _ _ _ _ h
      · rw [key_rr] at h; exact wpAny_eqBool_str h
  «strs» := fun k x t v h => by
    rcases keyIs_shape h with ⟨i, u, rfl, e⟩ | ⟨y, u, rfl, e⟩
    · exact nomatch e
    · injection e with e1 _
      subst e1
      cases v <;> rfl

end L2

namespace L2
open PySem PySem.Spec PyProof.Rows

set_option genInjectivity true in
/-- a value, without the heap -/
inductive V where
  | non | bl (b : Bool) | int (i : Int) | str (x : Str) | byt (b : Array UInt8) | flt (b : UInt64) | ref (a : Addr) | ty (n : String)
  deriving DecidableEq

def RelV : V → Value → Prop
  | .non, u => u = Value.none
  | .bl b, u => u = Value.bool b
  | .int i, u => ∃ t, u = Value.int i t
  | .str x, u => ∃ t, u = Value.str x t
  | .byt b, u => ∃ t, u = Value.bytes b t
  | .flt b, u => ∃ t, u = Value.float b t
  | .ref a, u => u = Value.ref a
  | .ty n, u => u = Value.type n

abbrev Vals : List V → List Value → Prop := Paired RelV
theorem Vals.length {xs : List V} {us : List Value} (r : Vals xs us) : xs.length = us.length := Paired.length r
theorem Vals.get : ∀ {xs : List V} {us : List Value} {i : Nat} {x : V}, Vals xs us → xs[i]? = some x → ∃ u, us[i]? = some u ∧ RelV x u
  | _, _, _, _, .nil, e => by simp at e
  | _, _, 0, _, .cons r _, e => by simp at e; subst e; exact ⟨_, rfl, r⟩
  | _, _, i + 1, x, .cons _ t, e => by
    obtain ⟨u, h1, h2⟩ := Vals.get (i := i) (x := x) t (by simpa using e)
    exact ⟨u, by simpa using h1, h2⟩
theorem Vals.append : ∀ {xs ys : List V} {us ws : List Value}, Vals xs us → Vals ys ws → Vals (xs ++ ys) (us ++ ws)
  | _, _, _, _, .nil, s => s
  | _, _, _, _, .cons r t, s => .cons r (Vals.append t s)
theorem Vals.take : ∀ {xs : List V} {us : List Value} (n : Nat), Vals xs us → Vals (xs.take n) (us.take n)
  | _, _, 0, _ => .nil
  | _, _, _ + 1, .nil => .nil
  | _, _, n + 1, .cons r t => .cons r (Vals.take n t)
theorem Vals.drop : ∀ {xs : List V} {us : List Value} (n : Nat), Vals xs us → Vals (xs.drop n) (us.drop n)
  | _, _, 0, r => r
  | _, _, _ + 1, .nil => .nil
  | _, _, n + 1, .cons _ t => Vals.drop n t
def RelO : Option V → Option Value → Prop
  | some v, some u => RelV v u
  | none, none => True
  | _, _ => False
def KV {κ : Type} : List (κ × V) → List (κ × Value) → Prop := Paired fun (p : κ × V) (q : κ × Value) => p.1 = q.1 ∧ RelV p.2 q.2

/-- a key of a dict (00_mix): an int or a text -/
def kV : Key → V
  | .inl i => .int i
  | .inr x => .str x

/-- what stands at a tracked address -/
inductive HO where
  /-- a list -/
  | lst (xs : List V)
  /-- a tuple (never changes) -/
  | tup (xs : List V)
  /-- a dict whose keys are ints and texts; one whose keys are tuples of ints and texts (the empty one is both) -/
  | dK (kvs : List (Key × V)) | dT (kvs : List (List Key × V))
  /-- a set of ints: its members, its size -/
  | set (S : Int → Bool) (n : Nat)
  /-- an instance of the class at C, its dict at dx, its attributes -/
  | ins (C dx : Addr) (fs : List (Str × V))
  /-- the dict of the instance at x -/
  | own (x : Addr)
  /-- the dict of an exception -/
  | xd (fs : List (Str × V))
  /-- a bound method, f of x -/
  | met (f x : Addr)
  /-- a range object lo, lo + 1, .. below hi -/
  | rng (lo hi : Int)
  /-- a thing that is known to the object (the script; a dict while a loop walks it): read, never written while it is so -/
  | frz (o : Obj) (u : HO)
  /-- a code object's table -/
  | tbl (ps : Array Value)
  /-- any other thing, by what is true of its one object (a def of one's own: SetO a S n := HO.ext fun h => ..) -/
  | ext (φ : Heap → Prop)

abbrev Hp := Addr → Option HO
def upd (H : Hp) (a : Addr) (o : HO) : Hp := fun b => if b = a then some o else H b
theorem upd_same {H : Hp} {a : Addr} {o : HO} : upd H a o a = some o := by unfold upd; rw [if_pos rfl]
theorem upd_ne {H : Hp} {a b : Addr} {o : HO} (h : b ≠ a) : upd H a o b = H b := by unfold upd; rw [if_neg h]
/-- two objects of different content stand apart -/
theorem ne_of {H : Hp} {a b : Addr} {o u : HO} (h : H a = some o) (h' : H b = some u) (d : o ≠ u) : a ≠ b := by
  intro e; subst e; rw [h] at h'; exact d (Option.some.inj h')
theorem ne_of_none {H : Hp} {a b : Addr} {o : HO} (h : H a = some o) (h' : H b = none) : a ≠ b := by
  intro e; subst e; rw [h] at h'; cases h'

section
variable (P : Program) (w : World)
def ObjOk (H : Hp) (h : Heap) (a : Addr) : HO → Prop
  | .lst xs => xs.length ≤ sizeLine ∧ ∃ (its : List Value) (n : Nat), Vals xs its ∧ h.get? a = some { cls := .type "list", data := .seq its.toArray n }
  | .tup xs => xs.length ≤ sizeLine ∧ ∃ its : List Value, Vals xs its ∧ IsTup h a its.toArray
  | .dK kvs => kvs.length ≤ sizeLine ∧ (a == sysModules) = false ∧ ∃ vs, KV kvs vs ∧ h.DictOf (mixKind P w) a vs
  | .dT kvs => kvs.length ≤ sizeLine ∧ (a == sysModules) = false ∧ ∃ xs : List (List Key × Addr × Value),
      Paired (fun (p : List Key × V) (q : List Key × Addr × Value) => p.1 = q.1 ∧ H q.2.1 = some (.tup (p.1.map kV)) ∧ RelV p.2 q.2.2) kvs xs ∧
      ∃ o es ep, h.get? a = some o ∧ o.ExactDict ∧ o.data = .dict es ep ∧ es.toList = xs.map (entryOfKey (tupleKind (mixKind P w))) ∧ (xs.map (·.1)).Nodup
  | .set S n => h.SetOf (intKind P w) a S n
  | .ins C dx fs => H dx = some (.own a) ∧ fs.length ≤ 1000 ∧ dx ≠ a ∧ h.get? a = some (PySem.W.instObj C dx) ∧
      ∃ mA, h.Ns1 dx mA ∧ (∀ f, RelO (fs.lookup f) (mA f)) ∧ PySem.Within mA (fs.map (·.1))
  | .own _ => ∃ o, h.get? a = some o
  | .xd fs => ∃ mA, h.Ns1 a mA ∧ ∀ f, RelO (fs.lookup f) (mA f)
  | .rng lo hi => ∃ t u v, h.get? a = some { cls := .type "range", data := .fields #[.int lo t, .int hi u, .int 1 v] }
  | .frz o u => h.get? a = some o ∧ ObjOk H h a u
  | .tbl ps => h.get? a = some { cls := .none, data := .fields ps }
  | .met f x => h.get? a = some (PySem.W.methodObj (.ref f) (.ref x))
  | .ext φ => φ h ∧ (∃ o, h.get? a = some o) ∧ ∀ h1 h2 : Heap, φ h1 → (∀ o, h1.get? a = some o → h2.get? a = some o) → φ h2
/-- the abstract heap is held -/
def HOk (H : Hp) (h : Heap) : Prop := ∀ a o, H a = some o → ObjOk P w H h a o
end

section
variable {P : Program} {w : World} {H H' : Hp} {h h' : Heap} {a : Addr} {o : HO}
theorem ObjOk.lt (x : ObjOk P w H h a o) : a < h.objs.size := by
  cases o with
  | lst xs => obtain ⟨_, _, _, _, e⟩ := x; exact Heap.lt_size e
  | tup xs => obtain ⟨_, _, _, p⟩ := x; exact p.lt
  | dK kvs => obtain ⟨_, _, _, _, o, _, _, e, _⟩ := x; exact Heap.lt_size e
  | dT kvs => obtain ⟨_, _, _, _, o, _, _, e, _⟩ := x; exact Heap.lt_size e
  | set S n => obtain ⟨o, _, _, _, e, _⟩ := x; exact Heap.lt_size e
  | ins C dx fs => obtain ⟨_, _, _, e, _⟩ := x; exact Heap.lt_size e
  | own y => obtain ⟨_, e⟩ := x; exact Heap.lt_size e
  | xd fs => obtain ⟨_, ⟨_, _, _, e, _⟩, _⟩ := x; exact Heap.lt_size e
  | rng lo hi => obtain ⟨_, _, _, e⟩ := x; exact Heap.lt_size e
  | frz ob u => obtain ⟨e, _⟩ := x; exact Heap.lt_size e
  | tbl ps => exact Heap.lt_size (show h.get? a = some _ from x)
  | met f y => exact Heap.lt_size (show h.get? a = some _ from x)
  | ext φ => obtain ⟨_, ⟨_, e⟩, _⟩ := x; exact Heap.lt_size e
theorem Paired.mapP {α β : Type} {F G : α → β → Prop} : ∀ {l₁ : List α} {l₂ : List β}, Paired F l₁ l₂ → (∀ a b, F a b → G a b) → Paired G l₁ l₂
  | _, _, .nil, _ => .nil
  | _, _, .cons r t, f => .cons (f _ _ r) (Paired.mapP t f)
/-- what an object's description leans on: its own object, its own dict, the tuples -/
theorem ObjOk.stay (x : ObjOk P w H h a o) (k : ∀ b u, (b = a ∨ H b = some (.own a)) → h.get? b = some u → h'.get? b = some u)
    (ho : ∀ b, H b = some (.own a) → H' b = some (.own a)) (ht : ∀ b xs, H b = some (.tup xs) → H' b = some (.tup xs)) : ObjOk P w H' h' a o := by
  induction o with
  | lst xs => obtain ⟨z, its, n, r, e⟩ := x; exact ⟨z, its, n, r, k _ _ (.inl rfl) e⟩
  | tup xs => obtain ⟨z, its, r, ob, e, c⟩ := x; exact ⟨z, its, r, ob, k _ _ (.inl rfl) e, c⟩
  | dK kvs => obtain ⟨z, y, vs, r, ob, es, ep, e, c⟩ := x; exact ⟨z, y, vs, r, ob, es, ep, k _ _ (.inl rfl) e, c⟩
  | dT kvs =>
    obtain ⟨z, y, xs, r, ob, es, ep, e, c⟩ := x
    exact ⟨z, y, xs, Paired.mapP r fun p q z => ⟨z.1, ht _ _ z.2.1, z.2.2⟩, ob, es, ep, k _ _ (.inl rfl) e, c⟩
  | set S n => obtain ⟨ob, es, ep, t, e, c⟩ := x; exact ⟨ob, es, ep, t, k _ _ (.inl rfl) e, c⟩
  | ins C dx fs =>
    obtain ⟨d, z, ne, e, mA, ⟨od, es, ep, e2, c⟩, r⟩ := x
    exact ⟨ho _ d, z, ne, k _ _ (.inl rfl) e, mA, ⟨od, es, ep, k _ _ (.inr d) e2, c⟩, r⟩
  | own y => obtain ⟨ob, e⟩ := x; exact ⟨ob, k _ _ (.inl rfl) e⟩
  | xd fs => obtain ⟨mA, ⟨od, es, ep, e, c⟩, r⟩ := x; exact ⟨mA, ⟨od, es, ep, k _ _ (.inl rfl) e, c⟩, r⟩
  | rng lo hi => obtain ⟨t, u, v, e⟩ := x; exact ⟨t, u, v, k _ _ (.inl rfl) e⟩
  | frz ob u ih => obtain ⟨e, q⟩ := x; exact ⟨k _ _ (.inl rfl) e, ih q⟩
  | tbl ps =>
    have e : h.get? a = some { cls := .none, data := .fields ps } := x
    show h'.get? a = some { cls := .none, data := .fields ps }
    exact k a _ (.inl rfl) e
  | met f y =>
    have e : h.get? a = some (PySem.W.methodObj (.ref f) (.ref y)) := x
    show h'.get? a = some (PySem.W.methodObj (.ref f) (.ref y))
    exact k a _ (.inl rfl) e
  | ext φ => obtain ⟨p, ⟨o, e⟩, st⟩ := x; exact ⟨st _ _ p fun o q => k _ _ (.inl rfl) q, ⟨o, k _ _ (.inl rfl) e⟩, st⟩
theorem HOk.lt (x : HOk P w H h) (e : H a = some o) : a < h.objs.size := (x a o e).lt
theorem HOk.fresh (x : HOk P w H h) (e : h.objs.size ≤ a) : H a = none := by
  cases q : H a with
  | none => rfl
  | some u => exact absurd (Nat.lt_of_lt_of_le (x.lt q) e) (Nat.lt_irrefl _)
/-- every object of the heap is kept -/
theorem HOk.kept (x : HOk P w H h) (k : ∀ b u, h.get? b = some u → h'.get? b = some u) : HOk P w H h' := fun a o e =>
  (x a o e).stay (fun b u _ q => k b u q) (fun _ q => q) fun _ _ q => q
/-- a new object is laid and tracked -/
theorem HOk.laid (x : HOk P w H h) (k : ∀ b u, h.get? b = some u → h'.get? b = some u) (hp : h.objs.size ≤ a) (new : ObjOk P w (upd H a o) h' a o) : HOk P w (upd H a o) h' := fun b u e => by
  have hn := x.fresh hp
  by_cases hb : b = a
  · subst hb; rw [upd_same] at e; cases e; exact new
  · rw [upd_ne hb] at e
    exact (x b u e).stay (fun c v _ q => k c v q) (fun c q => by rw [upd_ne (ne_of_none q hn)]; exact q) fun c xs q => by rw [upd_ne (ne_of_none q hn)]; exact q
end

/-- what may be read as u: it is u, or a known u -/
def Rd (H : Hp) (a : Addr) (u : HO) : Prop := H a = some u ∨ ∃ o, H a = some (.frz o u)
theorem Rd.ok {P : Program} {w : World} {H : Hp} {h : Heap} {a : Addr} {u : HO} (r : Rd H a u) (x : HOk P w H h) : ObjOk P w H h a u := by
  rcases r with r | ⟨o, r⟩
  · exact x a u r
  · obtain ⟨_, q⟩ := x a _ r
    exact q
/-- what may be written -/
def Mut : Option HO → Prop
  | some (.lst _) => True
  | some (.dK _) => True
  | some (.dT _) => True
  | some (.set _ _) => True
  | some (.ins _ _ _) => True
  | some (.ext _) => True
  | _ => False
section
variable {P : Program} {w : World} {H : Hp} {h h' : Heap} {x e : Addr} {o' : HO}
/-- the object at e is changed: x itself, or the dict of the instance x -/
theorem HOk.write (ok : HOk P w H h) (mu : Mut (H x)) (he : e = x ∨ H e = some (.own x)) (k : ∀ b u, b ≠ e → h.get? b = some u → h'.get? b = some u) (heo : ∃ u, h'.get? e = some u)
    (new : ObjOk P w (upd H x o') h' x o') : HOk P w (upd H x o') h' := fun b u q => by
  have nown : ∀ c y, H c = some (.own y) → c ≠ x := fun c y r z => by subst z; rw [r] at mu; exact mu
  have ntup : ∀ c xs, H c = some (.tup xs) → c ≠ x := fun c xs r z => by subst z; rw [r] at mu; exact mu
  by_cases hb : b = x
  · subst hb; rw [upd_same] at q; cases q; exact new
  · rw [upd_ne hb] at q
    by_cases hbe : b = e
    · have q' : H b = some (.own x) := by
        rcases he with z | z
        · exact absurd (hbe.trans z) hb
        · rw [hbe]; exact z
      rw [q] at q'; cases q'
      obtain ⟨v, hv⟩ := heo
      exact ⟨v, by rw [hbe]; exact hv⟩
    · refine (ok b u q).stay (fun c v hc r => k c v ?_ r) (fun c r => by rw [upd_ne (nown c b r)]; exact r) fun c xs r => by rw [upd_ne (ntup c xs r)]; exact r
      rcases hc with rfl | hc
      · exact hbe
      · rintro rfl
        rcases he with z | z
        · exact nown c b hc z
        · rw [hc] at z; cases z; exact hb rfl
end

/-! ### kept unless tracked; of the frames at fs (the callers') the slots may change (an exception that passes writes there); of the records at ex (iterators) nothing is said -/
structure Un (fs ex : List Addr) (H H' : Hp) (h h' : Heap) : Prop where
  keep : ∀ b o, h.get? b = some o → H b = none → b ∉ fs → b ∉ ex → h'.get? b = some o
  slot : ∀ b o, h.get? b = some o → H b = none → b ∈ fs → b ∉ ex → ∃ sl, h'.get? b = some { o with slots := sl }
  free : ∀ b o, h.get? b = some o → H b = none → b ∉ ex → H' b = none
  there : ∀ b o, h.get? b = some o → b ∉ ex → ∃ o', h'.get? b = some o'
  tups : ∀ b xs, H b = some (.tup xs) → H' b = some (.tup xs)
  frzs : ∀ b o u, H b = some (.frz o u) → H' b = some (.frz o u)
  tbls : ∀ b ps, H b = some (.tbl ps) → ∃ more, H' b = some (.tbl (ps ++ more))
section
variable {fs fs' ex ex' : List Addr} {H H1 H2 : Hp} {h h1 h2 h' : Heap} {a x e : Addr} {o : HO}
theorem Un.any (u : Un fs ex H H1 h h1) {b : Addr} {ob : Obj} (q : h.get? b = some ob) (n : H b = none) (hx : b ∉ ex) : ∃ sl, h1.get? b = some { ob with slots := sl } := by
  by_cases hb : b ∈ fs
  · exact u.slot b ob q n hb hx
  · exact ⟨ob.slots, u.keep b ob q n hb hx⟩
theorem Un.kept (k : ∀ b u, h.get? b = some u → h'.get? b = some u) : Un fs ex H H h h' :=
  ⟨fun b ob q _ _ _ => k b ob q, fun b ob q _ _ _ => ⟨ob.slots, k b ob q⟩, fun _ _ _ n _ => n, fun b ob q _ => ⟨ob, k b ob q⟩, fun _ _ q => q, fun _ _ _ q => q, fun _ ps q => ⟨#[], by rw [q]; simp⟩⟩
theorem Un.refl : Un fs ex H H h h := Un.kept fun _ _ q => q
theorem Un.laid (k : ∀ b u, h.get? b = some u → h'.get? b = some u) (hp : h.objs.size ≤ a) (hn : H a = none) : Un fs ex H (upd H a o) h h' where
  keep := fun b u q _ _ _ => k b u q
  slot := fun b u q _ _ _ => ⟨u.slots, k b u q⟩
  free := fun b u q n _ => by rw [upd_ne (Nat.ne_of_lt (Nat.lt_of_lt_of_le (Heap.lt_size q) hp))]; exact n
  there := fun b u q _ => ⟨u, k b u q⟩
  tups := fun b xs q => by rw [upd_ne (ne_of_none q hn)]; exact q
  frzs := fun b u xs q => by rw [upd_ne (ne_of_none q hn)]; exact q
  tbls := fun b ps q => ⟨#[], by rw [upd_ne (ne_of_none q hn), q]; simp⟩
theorem Un.write (mu : Mut (H x)) (he : e = x ∨ H e = some (.own x)) (k : ∀ b u, b ≠ e → h.get? b = some u → h'.get? b = some u) (heo : ∃ u, h'.get? e = some u) : Un fs ex H (upd H x o) h h' := by
  have hx : ∀ b, H b = none → b ≠ x := fun b n z => by subst z; rw [n] at mu; exact mu
  have hb : ∀ b, H b = none → b ≠ e := fun b n z => by
    subst z
    rcases he with r | r
    · exact hx b n r
    · rw [n] at r; cases r
  have hm : ∀ b u, H b = some u → ¬ Mut (some u) → b ≠ x := fun b u q nm z => by subst z; rw [q] at mu; exact nm mu
  refine ⟨fun b u q n _ _ => k b u (hb b n) q, fun b u q n _ _ => ⟨u.slots, k b u (hb b n) q⟩, fun b u q n _ => by rw [upd_ne (hx b n)]; exact n, fun b u q _ => ?_,
    fun b xs q => by rw [upd_ne (hm b _ q fun z => z)]; exact q, fun b u xs q => by rw [upd_ne (hm b _ q fun z => z)]; exact q, fun b ps q => ⟨#[], by rw [upd_ne (hm b _ q fun z => z), q]; simp⟩⟩
  by_cases hbe : b = e
  · subst hbe; exact heo
  · exact ⟨u, k b u hbe q⟩
end

/-! ### the heap without what is tracked -/
def trk (h : Heap) (H : Hp) : List Addr := (List.range h.objs.size).filter fun a => (H a).isSome
def hidT (h : Heap) (H : Hp) : Heap := PySem.W.hideAll h (trk h H)
theorem hidT_size (h : Heap) (H : Hp) : (hidT h H).objs.size = h.objs.size := PySem.W.hideAll_size _ _
theorem hidT_get {h : Heap} {H : Hp} {b : Addr} {o : Obj} (e : h.get? b = some o) (n : H b = none) : (hidT h H).get? b = some o :=
  PySem.W.hideAll_get _ e fun hm => by
    have q : (H b).isSome = true := (List.mem_filter.mp hm).2
    rw [n] at q; simp at q
theorem of_hidT {h : Heap} {H : Hp} {b : Addr} {o : Obj} (e : (hidT h H).get? b = some o) : h.get? b = some o ∧ H b = none := by
  have e' : h.get? b = some o := PySem.W.of_hideAll (trk h H) e
  refine ⟨e', ?_⟩
  cases q : H b with
  | none => rfl
  | some x =>
    have hm : b ∈ trk h H := List.mem_filter.mpr ⟨List.mem_range.mpr (Heap.lt_size e'), by simp [q]⟩
    have z : (hidT h H).get? b = none := PySem.W.hideAll_none (trk h H) hm
    rw [z] at e; cases e

/-! ### OpenK's ledger, filled with every new object but one -/
def allNews (g h : Heap) (L : Addr) : List (Addr × Obj) := (List.range h.objs.size).filterMap fun a => if a = L ∨ (g.get? a).isSome = true then none else (h.get? a).map fun o => (a, o)
def rest (g h : Heap) (L d : Addr) : List (Addr × Obj) := (allNews g h L).filter fun p => decide (p.1 ≠ d)
end L2

namespace L2
open PySem PySem.Spec PyProof.Rows

/-- the module's facts, over the base: the heap at the law's entry without what is tracked there -/
structure Mod (K : PySem.W.Frag) (mg : Str → Option Value) (base : Heap) : Prop where
  kin : K.In base
  glob : base.Ns mainGlobals mg
  blt : ∃ mb, base.Ns builtinsNs mb ∧ ∀ x : Str, x ≠ "__name__" → mb x = bootBuiltins x
  nolimit : base.NoLimit

/-- the context: a def's body (or a comprehension's block) running. base: fixed through the whole law; s₀, H₀: the entry; outer: the frames whose slots others may change (a def's callers); stack: all frames that run;
   ex: iterators that were made ahead of the entry and are walked here (a comprehension's); fn: the names whose cells were made at the entry (a def: all; a comprehension's block: its own); calm: not within an except suite; pn: pins that every state bears; xe: what is wanted of an exception that leaves the code -/
structure Cx where
  prog : Program
  w : World
  K : PySem.W.Frag
  mg : Str → Option Value
  base : Heap
  A : Around
  N : List Str
  s₀ : Shared
  H₀ : Hp
  env : Env
  outer : List Env
  stack : List Env
  ex : List Addr
  fn : Str → Bool
  calm : Bool
  pn : List (Addr × Obj)
  xe : Value → Shared → Prop
/-- the callers' frames -/
def frs (l : List Env) : List Addr := l.filterMap (·.frame)
abbrev Cx.fs (X : Cx) : List Addr := frs X.outer

def Vis (sc : Scope) (x : Str) : Prop := sc.names.lookup x = some .local ∨ sc.names.lookup x = some .cell ∨ sc.names.lookup x = some .free
def Loc (sc : Scope) (x : Str) : Prop := sc.names.lookup x = some .local ∨ sc.names.lookup x = some .cell
def Look (env : Env) (h : Heap) (m : Str → Option Value) (x : Str) (u : Value) : Prop :=
  (env.kindOf x = some .local ∧ m x = some u) ∨ ((env.kindOf x = some .cell ∨ env.kindOf x = some .free) ∧ ∃ c, env.cells.lookup x = some c ∧ h.IsCell c (some u))

structure Cx.Ok (X : Cx) : Prop where
  mod : Mod X.K X.mg X.base
  kind : X.env.scope.kind = .function
  glob : X.env.globals = mainGlobals
  blt : X.env.builtins = builtinsNs
  above : X.s₀.heap.objs.size ≤ X.env.locals
  inj : ∀ x y c, X.env.cells.lookup x = some c → X.env.cells.lookup y = some c → x = y
  has : ∀ x, (X.env.kindOf x = some .cell ∨ X.env.kindOf x = some .free) → ∃ c, X.env.cells.lookup x = some c
  cab : ∀ x c, X.fn x = true → X.env.cells.lookup x = some c → X.s₀.heap.objs.size ≤ c
  hd : X.calm = true → X.A.handled = none
  frames : X.A.frames = some X.stack
  stk : X.stack = X.outer ∨ (X.stack = X.env :: X.outer ∧ X.env.frame = some X.env.locals)
  exf : ∀ b ∈ X.ex, b ≠ X.env.locals ∧ ∀ x c, X.env.cells.lookup x = some c → c ≠ b
  bs : ∀ b o, X.base.get? b = some o → X.s₀.heap.get? b = some o ∧ X.H₀ b = none
  bsz : X.base.objs.size ≤ X.s₀.heap.objs.size
  noex : ∀ b o, X.base.get? b = some o → b ∉ X.ex
  exfs : ∀ b ∈ X.ex, b ∉ X.fs
  funs : X.s₀.heap.FunFrames X.base X.outer
  frf : ∀ b ∈ X.fs, X.H₀ b = none

structure Inv (X : Cx) (pins : List (Addr × Obj)) (σ : List (Option V)) (H : Hp) (s : Shared) : Prop where
  ok : X.Ok
  os : s.os = X.s₀.os
  bare : AllBare s.gens
  base : Un X.fs X.ex X.H₀ H X.s₀.heap s.heap
  loc : ∃ m, s.heap.Ns X.env.locals m ∧ ∀ (i : Nat) (x : Str) (v : V), X.N[i]? = some x → σ[i]? = some (some v) → Vis X.env.scope x → ∃ u, RelV v u ∧ Look X.env s.heap m x u
  cell : ∀ x c, X.env.cells.lookup x = some c → ∃ v, s.heap.IsCell c v
  free : H X.env.locals = none
  freeC : ∀ x c, X.env.cells.lookup x = some c → H c = none
  pin : ∀ p ∈ X.pn ++ pins, s.heap.get? p.1 = some p.2 ∧ H p.1 = none ∧ p.1 ≠ X.env.locals ∧ p.1 ∉ X.fs ∧ ∀ v, p.2.data ≠ .cell v
  hok : HOk X.prog X.w H s.heap
  len : σ.length = X.N.length

section
variable {X : Cx} {pins : List (Addr × Obj)} {σ : List (Option V)} {H H' : Hp} {s : Shared} {h' : Heap}

theorem Cx.Ok.nofr (ok : X.Ok) {b : Addr} {o : Obj} (e : X.base.get? b = some o) : b ∉ X.fs := fun hb => by
  have := (ok.funs.mem hb).1
  rw [e] at this; cases this
theorem Inv.bs (I : Inv X pins σ H s) : ∀ b o, X.base.get? b = some o → s.heap.get? b = some o ∧ H b = none := fun b o e =>
  ⟨I.base.keep b o (I.ok.bs b o e).1 (I.ok.bs b o e).2 (I.ok.nofr e) (I.ok.noex b o e), I.base.free b o (I.ok.bs b o e).1 (I.ok.bs b o e).2 (I.ok.noex b o e)⟩
theorem Inv.bk (I : Inv X pins σ H s) : ∀ b o, X.base.get? b = some o → s.heap.get? b = some o := fun b o e => (I.bs b o e).1
theorem Inv.mod (I : Inv X pins σ H s) : Mod X.K X.mg X.base := I.ok.mod
theorem Inv.kIn (I : Inv X pins σ H s) : X.K.In s.heap := I.ok.mod.kin.keeps I.bk
theorem Inv.nolimit (I : Inv X pins σ H s) : s.heap.NoLimit := I.ok.mod.nolimit.keeps I.bk
theorem Inv.lt (I : Inv X pins σ H s) : X.env.locals < s.heap.objs.size := let ⟨_, hn, _⟩ := I.loc; hn.lt
theorem Inv.sz (I : Inv X pins σ H s) : X.s₀.heap.objs.size ≤ s.heap.objs.size := Nat.le_trans I.ok.above (Nat.le_of_lt I.lt)
theorem Inv.nofs (I : Inv X pins σ H s) {a : Addr} (h : s.heap.objs.size ≤ a) : a ∉ X.fs := fun hb => by
  obtain ⟨_, o, ho, _⟩ := I.ok.funs.mem hb
  exact absurd (Nat.lt_of_lt_of_le (Heap.lt_size ho) (Nat.le_trans I.sz h)) (Nat.lt_irrefl _)
theorem Inv.cne (I : Inv X pins σ H s) : ∀ x c, X.env.cells.lookup x = some c → c ≠ X.env.locals := fun x c e z => by
  obtain ⟨v, o, ho, hd⟩ := I.cell x c e
  obtain ⟨m, ⟨o', es, ep, ho', hd', _⟩, _⟩ := I.loc
  rw [z, ho'] at ho; cases ho; rw [hd'] at hd; cases hd
theorem Inv.funs (I : Inv X pins σ H s) : s.heap.FunFrames X.base X.outer := by
  have all : ∀ (l : List Env), (∀ b ∈ frs l, b ∈ X.fs) → X.s₀.heap.FunFrames X.base l → s.heap.FunFrames X.base l := by
    intro l
    induction l with
    | nil => intro _ _; trivial
    | cons env r ih =>
      intro hs hl
      obtain ⟨hk, ⟨L, o, hf, hn, ho, hd⟩, hr⟩ := hl
      have hL : L ∈ X.fs := hs L (by unfold frs; rw [List.filterMap_cons, hf]; exact List.mem_cons_self)
      obtain ⟨sl, e⟩ := I.base.slot L o ho (I.ok.frf L hL) hL fun z => I.ok.exfs L z hL
      exact ⟨hk, ⟨L, _, hf, hn, e, hd⟩, ih (fun b hb => hs b (by unfold frs; rw [List.filterMap_cons, hf]; exact List.mem_cons_of_mem _ hb)) hr⟩
  exact all X.outer (fun _ hb => hb) I.ok.funs

/-- the frames that run, for a call -/
theorem Inv.stack (I : Inv X pins σ H s) : s.heap.FunFrames X.base X.stack := by
  rcases I.ok.stk with e | ⟨e, hf⟩
  · rw [e]; exact I.funs
  · rw [e]
    obtain ⟨m, hn, _⟩ := I.loc
    refine .cons (by rw [I.ok.kind]; decide) hf hn ?_ I.funs
    exact Heap.get?_none_of_le (Nat.le_trans I.ok.bsz I.ok.above)
theorem Inv.stkSub (I : Inv X pins σ H s) : ∀ b ∈ frs X.stack, b ∈ X.env.locals :: X.fs := fun b hb => by
  rcases I.ok.stk with e | ⟨e, hf⟩
  · rw [e] at hb; exact List.mem_cons_of_mem _ hb
  · rw [e] at hb
    unfold frs at hb
    rw [List.filterMap_cons, hf] at hb
    exact hb
theorem Inv.stkFree (I : Inv X pins σ H s) : ∀ b ∈ frs X.stack, H b = none := fun b hb => by
  rcases List.mem_cons.mp (I.stkSub b hb) with e | hb
  · rw [e]; exact I.free
  · obtain ⟨_, o, ho, _⟩ := I.ok.funs.mem hb
    exact I.base.free b o ho (I.ok.frf b hb) fun z => I.ok.exfs b z hb

/-- THE STEP: the untracked objects but the frame and the records at ch are kept (the callers' frames up to slots), the frame's map is kept, the new abstract heap is held -/
theorem Inv.step {g' : Array GenState} {t' : Nat} {d' : Drawn} {ch : List Addr} (I : Inv X pins σ H s)
    (hch : ∀ b ∈ ch, (b ∈ X.ex ∨ X.s₀.heap.objs.size ≤ b) ∧ b ≠ X.env.locals ∧ (∀ x c, X.env.cells.lookup x = some c → c ≠ b) ∧ ∀ p ∈ X.pn ++ pins, p.1 ≠ b)
    (keep : ∀ b o, b ≠ X.env.locals → b ∉ X.fs → b ∉ ch → s.heap.get? b = some o → H b = none → h'.get? b = some o)
    (slot : ∀ b o, b ≠ X.env.locals → b ∈ X.fs → b ∉ ch → s.heap.get? b = some o → H b = none → ∃ sl, h'.get? b = some { o with slots := sl }) (free : ∀ b o, b ∉ ch → s.heap.get? b = some o → H b = none → H' b = none)
    (there : ∀ b o, b ∉ ch → s.heap.get? b = some o → ∃ o', h'.get? b = some o')
    (tups : ∀ b xs, H b = some (.tup xs) → H' b = some (.tup xs)) (frzs : ∀ b o u, H b = some (.frz o u) → H' b = some (.frz o u)) (tbls : ∀ b ps, H b = some (.tbl ps) → ∃ more, H' b = some (.tbl (ps ++ more)))
    (ns : ∀ m, s.heap.Ns X.env.locals m → h'.Ns X.env.locals m) (hok : HOk X.prog X.w H' h') (hg : AllBare g') :
    Inv X pins σ H' { s with heap := h', gens := g', drawn := d', toks := t' } := by
  have neL : ∀ b o, X.s₀.heap.get? b = some o → b ≠ X.env.locals := fun b o e => Nat.ne_of_lt (Nat.lt_of_lt_of_le (Heap.lt_size e) I.ok.above)
  have neC : ∀ b o, X.s₀.heap.get? b = some o → b ∉ X.ex → b ∉ ch := fun b o e hx hb => by
    rcases (hch b hb).1 with z | z
    · exact hx z
    · exact absurd (Nat.lt_of_lt_of_le (Heap.lt_size e) z) (Nat.lt_irrefl _)
  have cellK : ∀ x c, X.env.cells.lookup x = some c → ∀ v, s.heap.IsCell c v → h'.IsCell c v := fun x c e v ⟨o, ho, hd⟩ => by
    have nch : c ∉ ch := fun z => (hch c z).2.2.1 x c e rfl
    by_cases hc : c ∈ X.fs
    · obtain ⟨sl, q⟩ := slot c o (I.cne x c e) hc nch ho (I.freeC x c e)
      exact ⟨_, q, hd⟩
    · exact ⟨o, keep c o (I.cne x c e) hc nch ho (I.freeC x c e), hd⟩
  refine ⟨I.ok, I.os, hg, ⟨fun b o e n hb hx => ?_, fun b o e n hb hx => ?_, fun b o e n hx => ?_, fun b o e hx => ?_, fun b xs e => tups b xs (I.base.tups b xs e), fun b o xs e => frzs b o xs (I.base.frzs b o xs e), fun b ps e => ?_⟩, ?_, fun x c e => ?_, ?_, fun x c e => ?_, fun p hp => ?_, hok, I.len⟩
  · exact keep b o (neL b o e) hb (neC b o e hx) (I.base.keep b o e n hb hx) (I.base.free b o e n hx)
  · obtain ⟨sl, e1⟩ := I.base.slot b o e n hb hx
    obtain ⟨sl', e2⟩ := slot b _ (neL b o e) hb (neC b o e hx) e1 (I.base.free b o e n hx)
    exact ⟨sl', e2⟩
  · obtain ⟨o', e1⟩ := I.base.there b o e hx
    exact free b o' (neC b o e hx) e1 (I.base.free b o e n hx)
  · obtain ⟨o', e1⟩ := I.base.there b o e hx
    exact there b o' (neC b o e hx) e1
  · obtain ⟨m1, e1⟩ := I.base.tbls b ps e
    obtain ⟨m2, e2⟩ := tbls b _ e1
    exact ⟨m1 ++ m2, by rw [e2, Array.append_assoc]⟩
  · obtain ⟨m, hn, hl⟩ := I.loc
    refine ⟨m, ns m hn, fun i x v e1 e2 e3 => ?_⟩
    obtain ⟨u, r, l⟩ := hl i x v e1 e2 e3
    refine ⟨u, r, ?_⟩
    rcases l with l | ⟨k, c, e, z⟩
    · exact .inl l
    · exact .inr ⟨k, c, e, cellK x c e _ z⟩
  · obtain ⟨v, z⟩ := I.cell x c e
    exact ⟨v, cellK x c e v z⟩
  · obtain ⟨m, ⟨o, _, _, ho, _⟩, _⟩ := I.loc
    exact free _ o (fun z => (hch _ z).2.1 rfl) ho I.free
  · obtain ⟨v, o, ho, hd⟩ := I.cell x c e
    exact free c o (fun z => (hch c z).2.2.1 x c e rfl) ho (I.freeC x c e)
  · obtain ⟨e, n, ne, nf, d⟩ := I.pin p hp
    have nch : p.1 ∉ ch := fun z => (hch p.1 z).2.2.2 p hp rfl
    exact ⟨keep p.1 p.2 ne nf nch e n, free p.1 p.2 nch e n, ne, nf, d⟩
/-- .. where the frame's own object is kept too -/
theorem Inv.un {t' : Nat} (I : Inv X pins σ H s) (u : Un X.fs [] H H' s.heap h') (hok : HOk X.prog X.w H' h') : Inv X pins σ H' { s with heap := h', toks := t' } := by
  obtain ⟨m, ⟨o, es, ep, ho, r⟩, _⟩ := id I.loc
  obtain ⟨sl, hL⟩ := u.any ho I.free (by simp)
  exact I.step (g' := s.gens) (d' := s.drawn) (ch := []) (fun _ z => nomatch z) (fun b o _ hb _ e n => u.keep b o e n hb (by simp)) (fun b o _ hb _ e n => u.slot b o e n hb (by simp)) (fun b o _ e n => u.free b o e n (by simp)) (fun b o _ e => u.there b o e (by simp)) u.tups u.frzs u.tbls (fun m' hm => by
    obtain ⟨o', es', ep', ho', r'⟩ := hm
    rw [ho] at ho'; cases ho'
    exact ⟨_, es', ep', hL, r'⟩) hok I.bare
/-- behind a call (or a comprehension's block): the slots of this frame may have changed too, the records at ch may have turned -/
theorem Inv.call {g' : Array GenState} {t' : Nat} {d' : Drawn} {ch : List Addr} (I : Inv X pins σ H s) (u : Un (frs X.stack) ch H H' s.heap h') (hok : HOk X.prog X.w H' h') (hg : AllBare g')
    (hch : ∀ b ∈ ch, (b ∈ X.ex ∨ X.s₀.heap.objs.size ≤ b) ∧ b ≠ X.env.locals ∧ (∀ x c, X.env.cells.lookup x = some c → c ≠ b) ∧ ∀ p ∈ X.pn ++ pins, p.1 ≠ b) :
    Inv X pins σ H' { s with heap := h', gens := g', drawn := d', toks := t' } := by
  obtain ⟨m, ⟨o, es, ep, ho, r⟩, _⟩ := id I.loc
  obtain ⟨sl, hL⟩ := u.any ho I.free fun z => (hch _ z).2.1 rfl
  exact I.step (ch := ch) hch (fun b o hL hb hc e n => u.keep b o e n (fun z => (List.mem_cons.mp (I.stkSub b z)).elim hL hb) hc) (fun b o _ _ hc e n => u.any e n hc) (fun b o hc e n => u.free b o e n hc) (fun b o hc e => u.there b o e hc) u.tups u.frzs u.tbls (fun m' hm => by
    obtain ⟨o', es', ep', ho', r'⟩ := hm
    rw [ho] at ho'; cases ho'
    exact ⟨_, es', ep', hL, r'⟩) hok hg
/-- an untracked record of ours (an iterator) has turned -/
theorem Inv.turned {t' : Nat} {it : Addr} (I : Inv X pins σ H s) (k : ∀ b o, b ≠ it → s.heap.get? b = some o → h'.get? b = some o) (hn : H it = none) (hL : it ≠ X.env.locals)
    (h1 : it ∈ X.ex ∨ X.s₀.heap.objs.size ≤ it) (h2 : ∀ x c, X.env.cells.lookup x = some c → c ≠ it) (h3 : ∀ p ∈ X.pn ++ pins, p.1 ≠ it) : Inv X pins σ H { s with heap := h', toks := t' } := by
  have nit : ∀ b u, H b = some u → b ≠ it := fun b u e z => by rw [z, hn] at e; cases e
  refine I.step (g' := s.gens) (d' := s.drawn) (ch := [it]) (fun b hb => ?_) (fun b o _ _ hc e _ => k b o (fun z => hc (by simp [z])) e) (fun b o _ _ hc e _ => ⟨o.slots, k b o (fun z => hc (by simp [z])) e⟩) (fun _ _ _ _ n => n)
    (fun b o hc e => ⟨o, k b o (fun z => hc (by simp [z])) e⟩) (fun _ _ e => e) (fun _ _ _ e => e) (fun b ps e => ⟨#[], by rw [e]; simp⟩) (fun m hm => ?_) (fun b u e => ?_) I.bare
  · have e : b = it := by simpa using hb
    subst e
    exact ⟨h1, hL, h2, h3⟩
  · obtain ⟨o, es, ep, ho, r⟩ := hm
    exact ⟨o, es, ep, k _ o (Ne.symm hL) ho, r⟩
  · refine (I.hok b u e).stay (fun c v hc q => k c v ?_ q) (fun _ q => q) fun _ _ q => q
    rcases hc with z | z
    · rw [z]; exact nit b u e
    · exact nit c _ z
theorem Inv.tok (I : Inv X pins σ H s) (t : Nat) : Inv X pins σ H { s with toks := t } := I.un (h' := s.heap) (t' := t) Un.refl I.hok
/-- all objects kept -/
theorem Inv.kept {t' : Nat} (I : Inv X pins σ H s) (k : ∀ b u, s.heap.get? b = some u → h'.get? b = some u) : Inv X pins σ H { s with heap := h', toks := t' } := I.un (Un.kept k) (I.hok.kept k)
/-- a new object laid and tracked -/
theorem Inv.laid {a : Addr} {o : HO} {t' : Nat} (I : Inv X pins σ H s) (k : ∀ b u, s.heap.get? b = some u → h'.get? b = some u) (hp : s.heap.objs.size ≤ a) (new : ObjOk X.prog X.w (upd H a o) h' a o) :
    Inv X pins σ (upd H a o) { s with heap := h', toks := t' } := I.un (Un.laid k hp (I.hok.fresh hp)) (I.hok.laid k hp new)
/-- an object written -/
theorem Inv.write {x e : Addr} {o : HO} {t' : Nat} (I : Inv X pins σ H s) (mu : Mut (H x)) (he : e = x ∨ H e = some (.own x)) (k : ∀ b u, b ≠ e → s.heap.get? b = some u → h'.get? b = some u) (heo : ∃ u, h'.get? e = some u)
    (new : ObjOk X.prog X.w (upd H x o) h' x o) : Inv X pins σ (upd H x o) { s with heap := h', toks := t' } := I.un (Un.write mu he k heo) (I.hok.write mu he k heo new)
theorem Inv.pins_of {pins' : List (Addr × Obj)} (I : Inv X pins σ H s) (h : ∀ p ∈ pins', s.heap.get? p.1 = some p.2 ∧ H p.1 = none ∧ p.1 ≠ X.env.locals ∧ p.1 ∉ X.fs ∧ ∀ v, p.2.data ≠ .cell v) : Inv X pins' σ H s :=
  ⟨I.ok, I.os, I.bare, I.base, I.loc, I.cell, I.free, I.freeC, fun p hp => (List.mem_append.mp hp).elim (fun z => I.pin p (List.mem_append_left _ z)) (h p), I.hok, I.len⟩

theorem nodup_ix {N : List Str} (hN : N.Nodup) {i j : Nat} {x : Str} (a : N[i]? = some x) (b : N[j]? = some x) : i = j := by
  obtain ⟨h1, e1⟩ := List.getElem?_eq_some_iff.mp a
  obtain ⟨h2, e2⟩ := List.getElem?_eq_some_iff.mp b
  exact (List.getElem_inj hN).mp (e1.trans e2.symm)

/-- a name is stored; what changed -/
theorem store_ok2 {M : Model} {A : Around} {E : Value → Shared → Prop} {i : Nat} {x : Str} {v : V} {u : Value} {Q : Unit → Shared → Prop} (I : Inv X pins σ H s) (hN : X.N.Nodup) (hi : X.N[i]? = some x) (hx : Loc X.env.scope x) (r : RelV v u)
    (h : ∀ s', Inv X pins (σ.set i (some v)) H s' → (∃ a, Heap.SameBut a s.heap s'.heap ∧ (a = X.env.locals ∨ X.env.cells.lookup x = some a)) → Q () s') (hf : X.fn x = true ∨ X.env.scope.names.lookup x = some .local := by first | exact .inl rfl | exact .inr rfl | assumption) : wpAny M A (storeName X.env x u) Q E s := by
  obtain ⟨m, hn, hl⟩ := id I.loc
  have hcls : (X.env.scope.kind == .class || (X.env.scope.kind == .module && X.env.locals != X.env.globals)) = false := by rw [I.ok.kind]; rfl
  have hiσ : i < σ.length := by rw [I.len]; exact (List.getElem?_eq_some_iff.mp hi).1
  have cne := I.cne
  have tracked : ∀ {a : Addr} {h' : Heap}, (∃ o, s.heap.get? a = some o ∧ H a = none) → Heap.SameBut a s.heap h' → HOk X.prog X.w H h' := fun {a h'} ha hs b ob e => by
    obtain ⟨_, _, hfree⟩ := ha
    refine (I.hok b ob e).stay (fun c w' hc q => (hs.2 c ?_).trans q) (fun _ q => q) fun _ _ q => q
    rintro rfl
    rcases hc with rfl | hc
    · rw [hfree] at e; cases e
    · rw [hfree] at hc; cases hc
  rcases hx with hk | hk
  · refine wpAny_storeName_local hk hn (fun h' hn' hs => ?_) hcls
    obtain ⟨oL, _, _, hoL, _⟩ := id hn
    refine h _ ⟨I.ok, I.os, I.bare, ⟨fun b o e n hb hx => ?_, fun b o e n hb hx => ?_, I.base.free, fun b o e hx => ?_, I.base.tups, I.base.frzs, I.base.tbls⟩, ⟨_, hn', fun j y v' e1 e2 e3 => ?_⟩, fun y c e => ?_, I.free, I.freeC, fun p hp => ?_, tracked ⟨oL, hoL, I.free⟩ hs, by simpa using I.len⟩ ⟨_, hs, .inl rfl⟩
    · exact (hs.2 b (Nat.ne_of_lt (Nat.lt_of_lt_of_le (Heap.lt_size e) I.ok.above))).trans (I.base.keep b o e n hb hx)
    · obtain ⟨sl, e1⟩ := I.base.slot b o e n hb hx
      exact ⟨sl, (hs.2 b (Nat.ne_of_lt (Nat.lt_of_lt_of_le (Heap.lt_size e) I.ok.above))).trans e1⟩
    · obtain ⟨o', e1⟩ := I.base.there b o e hx
      exact ⟨o', (hs.2 b (Nat.ne_of_lt (Nat.lt_of_lt_of_le (Heap.lt_size e) I.ok.above))).trans e1⟩
    · by_cases hj : j = i
      · subst hj
        rw [hi] at e1; cases e1
        rw [List.getElem?_set_self hiσ] at e2
        cases e2
        exact ⟨u, r, .inl ⟨hk, by simp⟩⟩
      · rw [List.getElem?_set_ne (Ne.symm hj)] at e2
        obtain ⟨u', r', q⟩ := hl j y v' e1 e2 e3
        refine ⟨u', r', ?_⟩
        rcases q with ⟨k, e⟩ | ⟨k, c, e, z⟩
        · refine .inl ⟨k, ?_⟩
          have : y ≠ x := fun e => hj (nodup_ix hN e1 (e ▸ hi))
          simp [this, e]
        · exact .inr ⟨k, c, e, z.sameBut hs (cne y c e)⟩
    · obtain ⟨w', z⟩ := I.cell y c e
      exact ⟨w', z.sameBut hs (cne y c e)⟩
    · obtain ⟨e, n, ne, nf, d⟩ := I.pin p hp
      exact ⟨(hs.2 p.1 ne).trans e, n, ne, nf, d⟩
  · have hfn : X.fn x = true := by
      rcases hf with z | z
      · exact z
      · rw [z] at hk; cases hk
    obtain ⟨c, hc⟩ := I.ok.has x (.inl hk)
    obtain ⟨w', z⟩ := I.cell x c hc
    refine wpAny_storeName_cell I.ok.kind hk hc z (fun h' hc' hs => ?_)
    obtain ⟨oc, hoc, hocd⟩ := id z
    refine h { s with heap := h' } ⟨I.ok, I.os, I.bare, ⟨fun b o e n hb hx => ?_, fun b o e n hb hx => ?_, I.base.free, fun b o e hx => ?_, I.base.tups, I.base.frzs, I.base.tbls⟩, ⟨m, hn.sameBut hs (Ne.symm (cne x c hc)), fun j y v' e1 e2 e3 => ?_⟩, fun y c' e => ?_, I.free, I.freeC, fun p hp => ?_, tracked ⟨oc, hoc, I.freeC x c hc⟩ hs, by simpa using I.len⟩ ⟨c, hs, .inr hc⟩
    · exact (hs.2 b (Nat.ne_of_lt (Nat.lt_of_lt_of_le (Heap.lt_size e) (I.ok.cab x c hfn hc)))).trans (I.base.keep b o e n hb hx)
    · obtain ⟨sl, e1⟩ := I.base.slot b o e n hb hx
      exact ⟨sl, (hs.2 b (Nat.ne_of_lt (Nat.lt_of_lt_of_le (Heap.lt_size e) (I.ok.cab x c hfn hc)))).trans e1⟩
    · obtain ⟨o', e1⟩ := I.base.there b o e hx
      exact ⟨o', (hs.2 b (Nat.ne_of_lt (Nat.lt_of_lt_of_le (Heap.lt_size e) (I.ok.cab x c hfn hc)))).trans e1⟩
    · by_cases hj : j = i
      · subst hj
        rw [hi] at e1; cases e1
        rw [List.getElem?_set_self hiσ] at e2
        cases e2
        exact ⟨u, r, .inr ⟨.inl hk, c, hc, hc'⟩⟩
      · rw [List.getElem?_set_ne (Ne.symm hj)] at e2
        obtain ⟨u', r', q⟩ := hl j y v' e1 e2 e3
        refine ⟨u', r', ?_⟩
        rcases q with q | ⟨k, c', e, z'⟩
        · exact .inl q
        · refine .inr ⟨k, c', e, z'.sameBut hs ?_⟩
          rintro rfl
          exact hj (nodup_ix hN e1 (I.ok.inj _ _ _ e hc ▸ hi))
    · by_cases hcc : c' = c
      · subst hcc; exact ⟨_, hc'⟩
      · obtain ⟨w2, z2⟩ := I.cell y c' e
        exact ⟨w2, z2.sameBut hs hcc⟩
    · obtain ⟨e, n, ne, nf, d⟩ := I.pin p hp
      refine ⟨(hs.2 p.1 ?_).trans e, n, ne, nf, d⟩
      intro q
      rw [q, hoc] at e
      have q' : oc = p.2 := Option.some.inj e
      exact d w' (by rw [← q']; exact hocd)
theorem store_ok {M : Model} {A : Around} {E : Value → Shared → Prop} {i : Nat} {x : Str} {v : V} {u : Value} {Q : Unit → Shared → Prop} (I : Inv X pins σ H s) (hN : X.N.Nodup) (hi : X.N[i]? = some x) (hx : Loc X.env.scope x) (r : RelV v u)
    (h : ∀ s', Inv X pins (σ.set i (some v)) H s' → Q () s') (hf : X.fn x = true ∨ X.env.scope.names.lookup x = some .local := by first | exact .inl rfl | exact .inr rfl | assumption) : wpAny M A (storeName X.env x u) Q E s :=
  store_ok2 I hN hi hx r (fun s' I' _ => h s' I') hf
/-- behind a call or a block, the state as it is -/
theorem Inv.call' {s' : Shared} {ch : List Addr} (I : Inv X pins σ H s) (ho : s'.os = s.os) (u : Un (frs X.stack) ch H H' s.heap s'.heap) (hok : HOk X.prog X.w H' s'.heap) (hg : AllBare s'.gens)
    (hch : ∀ b ∈ ch, (b ∈ X.ex ∨ X.s₀.heap.objs.size ≤ b) ∧ b ≠ X.env.locals ∧ (∀ x c, X.env.cells.lookup x = some c → c ≠ b) ∧ ∀ p ∈ X.pn ++ pins, p.1 ≠ b) : Inv X pins σ H' s' := by
  obtain ⟨h', g', d', t', o'⟩ := s'
  have e : o' = s.os := ho
  subst e
  exact I.call (g' := g') (t' := t') (d' := d') u hok hg hch
end

/-! ### the judgements -/
/-- an exception: its class, its own dict's address (where it has one), the abstract heap behind it -/
abbrev XK := Value → Option Addr → Hp → Prop
abbrev St := List (Option V)
abbrev VK := V → Hp → Prop
/-- an expression's reading; a test's; an argument list's -/
abbrev TE := St → Hp → VK → Prop
abbrev TT := St → Hp → (Bool → Hp → Prop) → Prop
abbrev TA := St → Hp → (List V → Hp → Prop) → Prop
/-- what is wanted behind a statement -/
structure Ends where
  nx : St → Hp → Prop
  rt : VK
  bk : St → Hp → Prop := fun _ _ => False
  ct : St → Hp → Prop := fun _ _ => False
abbrev TS := Ends → St → Hp → Prop

def EP (X : Cx) (pins : List (Addr × Obj)) (σ : St) (Q : VK) (u : Value) (s' : Shared) : Prop := ∃ v H', Inv X pins σ H' s' ∧ RelV v u ∧ Q v H'
def SP (X : Cx) (pins : List (Addr × Obj)) (D : Ends) (f : Flow) (s' : Shared) : Prop :=
  match f with
  | .next => ∃ σ' H', Inv X pins σ' H' s' ∧ D.nx σ' H'
  | .brk => ∃ σ' H', Inv X pins σ' H' s' ∧ D.bk σ' H'
  | .cont => ∃ σ' H', Inv X pins σ' H' s' ∧ D.ct σ' H'
  | .ret u => ∃ v σ' H', Inv X pins σ' H' s' ∧ RelV v u ∧ D.rt v H'

def PE (X : Cx) (e : Expr) (t : TE) : Prop :=
  ∀ (pins : List (Addr × Obj)) (s : Shared) (σ : St) (H : Hp) (Q : VK), Inv X pins σ H s → t σ H Q → wpAny (model X.prog X.w) X.A (eval e X.env) (EP X pins σ Q) X.xe s
def PSs (X : Cx) (st : List Stmt) (t : TS) : Prop :=
  ∀ (pins : List (Addr × Obj)) (s : Shared) (σ : St) (H : Hp) (D : Ends), Inv X pins σ H s → t D σ H → wpAny (model X.prog X.w) X.A (execs st X.env) (SP X pins D) X.xe s
/-- weaken the end -/
theorem thn {α : Type} {t : Sem α} {Q Q' : α → Shared → Prop} {M : Model} {A : Around} {E : Value → Shared → Prop} {s : Shared} (h : wpAny M A t Q E s) (hQ : ∀ a s, Q a s → Q' a s) : wpAny M A t Q' E s := wpAny_mono h hQ fun _ _ x => x
end L2

namespace L2
open PySem PySem.Spec PyProof.Rows
section
variable {X : Cx}

/-! ### names and constants -/
def tVar (i : Nat) : TE := fun σ H Q => ∃ v, σ[i]? = some (some v) ∧ Q v H
def tC (v : V) : TE := fun _ H Q => Q v H
theorem pe_var {i : Nat} {x : Str} {pos : Pos} (hN : X.N[i]? = some x) (hv : Vis X.env.scope x) (hd : (x == ("__debug__" : Str)) = false := by decide) (hcd : (x == ("__classdict__" : Str)) = false := by decide) : PE X (.Name x pos) (tVar i) := by
  intro pins s σ H Q I h
  obtain ⟨v, e, h⟩ := h
  obtain ⟨m, hn, hl⟩ := I.loc
  obtain ⟨u, r, l⟩ := hl i x v hN e hv
  have fin : EP X pins σ Q u s := ⟨v, H, I, r, h⟩
  rcases l with ⟨hk, hm⟩ | ⟨hk, c, hc, hcell⟩
  · exact wpAny_Name (wpAny_loadName_local I.ok.kind hk hn hm fin) hd
  · rcases hk with hk | hk
    · exact wpAny_Name (wpAny_loadName_cell I.ok.kind hk hc hcell fin) hd
    · exact wpAny_Name (wpAny_loadName_free I.ok.kind hk hc hcell fin hcd) hd
theorem pe_int {i j pos} : PE X (.Constant (.int i) j pos) (tC (.int i)) := fun _ _ _ H _ I h => wpAny_Constant_int ⟨.int i, H, I.tok _, ⟨_, rfl⟩, h⟩
theorem pe_bl {b j pos} : PE X (.Constant (.bool b) j pos) (tC (.bl b)) := fun _ _ _ H _ I h => Constant_bool ⟨.bl b, H, I, rfl, h⟩
theorem pe_non {j pos} : PE X (.Constant .none j pos) (tC .non) := fun _ _ _ H _ I h => Constant_none ⟨.non, H, I, rfl, h⟩
theorem pe_str {x j pos} : PE X (.Constant (.str x) j pos) (tC (.str x)) := fun _ _ _ H _ I h => Calls.Constant_str ⟨.str x, H, I.tok _, ⟨_, rfl⟩, h⟩

/-- a global name of the def -/
def Gl (X : Cx) (x : Str) : Prop := X.env.kindOf x = some .globalImplicit
theorem ld_glob {E : Value → Shared → Prop} {pins : List (Addr × Obj)} {s : Shared} {σ : St} {H : Hp} {x : Str} {u : Value} {pos : Pos} {Q : Value → Shared → Prop} (I : Inv X pins σ H s) (hg : Gl X x) (hm : X.mg x = some u) (h : Q u s)
    (hd : (x == ("__debug__" : Str)) = false := by decide) : wpAny (model X.prog X.w) X.A (eval (.Name x pos) X.env) Q E s :=
  Calls.Name_function_global I.ok.kind hg (Calls.loadGlobal_global (by rw [I.ok.glob]; exact I.mod.glob.keeps I.bk) hm h) hd
theorem ld_blt {E : Value → Shared → Prop} {pins : List (Addr × Obj)} {s : Shared} {σ : St} {H : Hp} {x : Str} {u : Value} {pos : Pos} {Q : Value → Shared → Prop} (I : Inv X pins σ H s) (hg : Gl X x) (hm : X.mg x = none) (hv : bootBuiltins x = some u) (h : Q u s)
    (hn : x ≠ "__name__" := by decide) (hd : (x == ("__debug__" : Str)) = false := by decide) : wpAny (model X.prog X.w) X.A (eval (.Name x pos) X.env) Q E s := by
  obtain ⟨mb, h1, h2⟩ := I.mod.blt
  exact Calls.Name_function_global I.ok.kind hg (Calls.loadGlobal_builtin (by rw [I.ok.glob]; exact I.mod.glob.keeps I.bk) hm (by rw [I.ok.blt]; exact h1.keeps I.bk) ((h2 x hn).trans hv) h) hd
/-- a module's constant, a class, a function, as a value -/
theorem pe_glob {x : Str} {v : V} {u : Value} {pos : Pos} (hg : Gl X x) (hm : X.mg x = some u) (r : RelV v u) (hd : (x == ("__debug__" : Str)) = false := by decide) : PE X (.Name x pos) (tC v) :=
  fun _ _ _ H _ I h => ld_glob I hg hm ⟨v, H, I, r, h⟩ hd
theorem pe_bltn {x : Str} {v : V} {u : Value} {pos : Pos} (hg : Gl X x) (hm : X.mg x = none) (hv : bootBuiltins x = some u) (r : RelV v u) (hn : x ≠ "__name__" := by decide) (hd : (x == ("__debug__" : Str)) = false := by decide) : PE X (.Name x pos) (tC v) :=
  fun _ _ _ H _ I h => ld_blt I hg hm hv ⟨v, H, I, r, h⟩ hn hd

/-! ### arithmetic -/
variable {a b : Expr} {ta tb : TE} {pos : Pos}
/-! ### comparisons -/
/-- a comparison as a value, as a test -/
def tB (t : TE) : TT := fun σ H Q => t σ H fun x H1 => ∃ c, x = .bl c ∧ Q c H1
/-! ### and, or, not -/
variable {tA tB' : TT} {rest : List Expr}
end
end L2

namespace L2
open PySem PySem.Spec PyProof.Rows

/-! ### a list, a tuple that is read: tracked, frozen, or an object of the module -/
def SqL (K : PySem.W.Frag) (H : Hp) (a : Addr) (xs : List V) : Prop :=
  Rd H a (.lst xs) ∨
    ∃ (o : Obj) (its : Array Value) (n : Nat), K.lookup a = some o ∧ o.cls = .type "list" ∧ o.dict = none ∧ o.data = .seq its n ∧ its.size ≤ sizeLine ∧ Vals xs its.toList
def SqT (K : PySem.W.Frag) (H : Hp) (a : Addr) (xs : List V) : Prop :=
  Rd H a (.tup xs) ∨
    ∃ (o : Obj) (its : Array Value) (n : Nat), K.lookup a = some o ∧ o.cls = .type "tuple" ∧ o.data = .seq its n ∧ its.size ≤ sizeLine ∧ Vals xs its.toList
def absV : Value → Option V
  | .none => some .non
  | .bool b => some (.bl b)
  | .int i _ => some (.int i)
  | .str x _ => some (.str x)
  | .bytes b _ => some (.byt b)
  | .float b _ => some (.flt b)
  | .ref a => some (.ref a)
  | .type n => some (.ty n)
  | _ => none
theorem RelV.abs {x : V} {u : Value} (r : RelV x u) : absV u = some x := by
  cases x with
  | non => cases r; rfl
  | bl _ => cases r; rfl
  | int _ => obtain ⟨t, rfl⟩ := r; rfl
  | str _ => obtain ⟨t, rfl⟩ := r; rfl
  | byt _ => obtain ⟨t, rfl⟩ := r; rfl
  | flt _ => obtain ⟨t, rfl⟩ := r; rfl
  | ref _ => cases r; rfl
  | ty _ => cases r; rfl
theorem RelV.inj {x y : V} {u : Value} (r : RelV x u) (q : RelV y u) : x = y := Option.some.inj (r.abs.symm.trans q.abs)
theorem Vals.inj : ∀ {xs ys : List V} {us : List Value}, Vals xs us → Vals ys us → xs = ys
  | _, _, _, .nil, .nil => rfl
  | _, _, _, .cons r t, .cons r' t' => by rw [r.inj r', Vals.inj t t']
section
variable {X : Cx} {pins : List (Addr × Obj)} {σ : St} {H : Hp} {s : Shared} {a : Addr} {xs ys : List V}
theorem SqL.of {K : PySem.W.Frag} (h : H a = some (.lst xs)) : SqL K H a xs := .inl (.inl h)
theorem SqT.of {K : PySem.W.Frag} (h : H a = some (.tup xs)) : SqT K H a xs := .inl (.inl h)
theorem Inv.list (I : Inv X pins σ H s) (h : SqL X.K H a xs) : ∃ its : List Value, Vals xs its ∧ PlainL s.heap a its.toArray ∧ xs.length ≤ sizeLine := by
  rcases h with h | ⟨o, its, n, hk, hc, hd, hs, hz, r⟩
  · obtain ⟨z, its, n, r, e⟩ := h.ok I.hok
    exact ⟨its, r, ⟨_, n, e, rfl, rfl, rfl⟩, z⟩
  · refine ⟨its.toList, r, ⟨o, n, I.kIn a o hk, hc, hd, by simpa using hs⟩, ?_⟩
    have e := r.length
    simp only [Array.length_toList] at e
    omega
theorem Inv.tuple (I : Inv X pins σ H s) (h : SqT X.K H a xs) : ∃ its : List Value, Vals xs its ∧ IsTup s.heap a its.toArray ∧ xs.length ≤ sizeLine := by
  rcases h with h | ⟨o, its, n, hk, hc, hs, hz, r⟩
  · obtain ⟨z, its, r, p⟩ := h.ok I.hok
    exact ⟨its, r, p, z⟩
  · refine ⟨its.toList, r, ⟨o, I.kIn a o hk, hc, n, by simpa using hs⟩, ?_⟩
    have e := r.length
    simp only [Array.length_toList] at e
    omega
theorem Inv.list_inj (I : Inv X pins σ H s) (h : SqL X.K H a xs) (h' : SqL X.K H a ys) : xs = ys := by
  obtain ⟨its, r, ⟨o, n, e, _, _, d⟩, _⟩ := I.list h
  obtain ⟨its', r', ⟨o', n', e', _, _, d'⟩, _⟩ := I.list h'
  rw [e] at e'; cases e'
  rw [d] at d'
  injection d' with d1 _
  have : its = its' := by simpa using congrArg Array.toList d1
  subst this
  exact r.inj r'
theorem Inv.tuple_inj (I : Inv X pins σ H s) (h : SqT X.K H a xs) (h' : SqT X.K H a ys) : xs = ys := by
  obtain ⟨its, r, ⟨o, e, _, n, d⟩, _⟩ := I.tuple h
  obtain ⟨its', r', ⟨o', e', _, n', d'⟩, _⟩ := I.tuple h'
  rw [e] at e'; cases e'
  rw [d] at d'
  injection d' with d1 _
  have : its = its' := by simpa using congrArg Array.toList d1
  subst this
  exact r.inj r'
end

/-! ### another wish about exceptions -/
abbrev Cx.wish (X : Cx) (E : Value → Shared → Prop) : Cx := { X with xe := E }
/-- no exception leaves -/
abbrev Cx.nox (X : Cx) : Cx := X.wish fun _ _ => False
theorem Cx.Ok.wish {X : Cx} (ok : X.Ok) (E : Value → Shared → Prop) : (X.wish E).Ok :=
  ⟨ok.mod, ok.kind, ok.glob, ok.blt, ok.above, ok.inj, ok.has, ok.cab, ok.hd, ok.frames, ok.stk, ok.exf, ok.bs, ok.bsz, ok.noex, ok.exfs, ok.funs, ok.frf⟩
theorem Cx.Ok.unwish {X : Cx} {E : Value → Shared → Prop} (ok : (X.wish E).Ok) : X.Ok :=
  ⟨ok.mod, ok.kind, ok.glob, ok.blt, ok.above, ok.inj, ok.has, ok.cab, ok.hd, ok.frames, ok.stk, ok.exf, ok.bs, ok.bsz, ok.noex, ok.exfs, ok.funs, ok.frf⟩
section
variable {X : Cx} {pins : List (Addr × Obj)} {σ : St} {H : Hp} {s : Shared} {E : Value → Shared → Prop}
theorem Inv.wish (I : Inv X pins σ H s) (E : Value → Shared → Prop) : Inv (X.wish E) pins σ H s := ⟨I.ok.wish E, I.os, I.bare, I.base, I.loc, I.cell, I.free, I.freeC, I.pin, I.hok, I.len⟩
theorem Inv.unwish (I : Inv (X.wish E) pins σ H s) : Inv X pins σ H s := ⟨I.ok.unwish, I.os, I.bare, I.base, I.loc, I.cell, I.free, I.freeC, I.pin, I.hok, I.len⟩
theorem SP.unwish {D : Ends} {f : Flow} {s' : Shared} (h : SP (X.wish E) pins D f s') : SP X pins D f s' := by
  cases f with
  | next => obtain ⟨σ', H', I, q⟩ := h; exact ⟨σ', H', I.unwish, q⟩
  | brk => obtain ⟨σ', H', I, q⟩ := h; exact ⟨σ', H', I.unwish, q⟩
  | cont => obtain ⟨σ', H', I, q⟩ := h; exact ⟨σ', H', I.unwish, q⟩
  | ret u => obtain ⟨v, σ', H', I, r, q⟩ := h; exact ⟨v, σ', H', I.unwish, r, q⟩
theorem PSs.nox {st : List Stmt} {t : TS} (h : PSs X.nox st t) : PSs X st t := fun pins s σ H D I hw =>
  wpAny_mono (h pins s σ H D (I.wish _) hw) (fun _ _ q => q.unwish) fun _ _ z => False.elim z
end

/-! ### blocks and small statements -/
section
variable {X : Cx} {st : Stmt} {rest : List Stmt} {t u : TS} {e : Expr} {te : TE} {pos : Pos}
/-- in a def's body nothing is shown -/
theorem Inv.quiet {pins : List (Addr × Obj)} {σ : St} {H : Hp} {s : Shared} (I : Inv X pins σ H s) : interactive X.env = false := by simp [interactive, I.ok.kind]
end

/-! ### targets -/
section
variable {X : Cx} {pos : Pos}
end

/-! ### while -/
section
variable {X : Cx} {pos : Pos}
end

/-! ### what a loop or a comprehension walks -/
/-- at turn i: it yields x (the heap may grow), or it stops -/
structure It where
  go : Nat → Hp → Prop
  yld : Nat → Hp → V → Hp → Prop
  stop : Nat → Hp → Prop
/-- the iterator's own objects may turn: they are not the frame's, not pinned, younger than the entry (or a comprehension's own) -/
def FpOk (X : Cx) (pins : List (Addr × Obj)) (H : Hp) (b : Addr) : Prop :=
  H b = none ∧ b ≠ X.env.locals ∧ b ∉ X.fs ∧ (b ∈ X.ex ∨ X.s₀.heap.objs.size ≤ b) ∧ (∀ x c, X.env.cells.lookup x = some c → c ≠ b) ∧ ∀ p ∈ X.pn ++ pins, p.1 ≠ b
theorem Inv.fpOk {X : Cx} {pins : List (Addr × Obj)} {σ : St} {H H' : Hp} {s : Shared} {b : Addr} (I : Inv X pins σ H s) (hb : s.heap.objs.size ≤ b) (hn : H' b = none) : FpOk X pins H' b := by
  refine ⟨hn, Nat.ne_of_gt (Nat.lt_of_lt_of_le I.lt hb), I.nofs hb, .inr (Nat.le_trans I.sz hb), fun x c e z => ?_, fun p hp z => ?_⟩
  · obtain ⟨v, q⟩ := I.cell x c e
    exact absurd (Nat.lt_of_lt_of_le q.lt (by rw [z]; exact hb)) (Nat.lt_irrefl _)
  · exact absurd (Nat.lt_of_lt_of_le (Heap.lt_size (I.pin p hp).1) (by rw [z]; exact hb)) (Nat.lt_irrefl _)
structure Turn (P : Program) (w : World) (K : PySem.W.Frag) (tg : Expr) (J : It) (fp : List Addr) (it : Addr) (tn : Nat → Heap → Prop) : Prop where
  mem : it ∈ fp
  obj : ∀ i h, tn i h → ∀ b ∈ fp, ∃ o, h.get? b = some o ∧ ∀ v, o.data ≠ .cell v
  keep : ∀ i h h', tn i h → (∀ b ∈ fp, ∀ o, h.get? b = some o → h'.get? b = some o) → tn i h'
  item : ∀ (X : Cx), X.prog = P → X.w = w → X.K = K → X.calm = true → ∀ (i : Nat) (pins : List (Addr × Obj)) (s : Shared) (σ : St) (H : Hp) (E : Value → Shared → Prop), Inv X pins σ H s → (∀ b ∈ fp, FpOk X pins H b) → tn i s.heap → J.go i H →
    wpAny (model P w) X.A (pyNext (.ref it)) (fun r s1 => ∃ u, r = some u ∧
      wpAny (model P w) X.A (letOwnedTupleGo tg (.ref it) u) (fun _ s2 => ∃ x H', Inv X pins σ H' s2 ∧ RelV x u ∧ J.yld i H x H' ∧ tn (i + 1) s2.heap ∧ ∀ b ∈ fp, H' b = none) E s1) E s
  done : ∀ (X : Cx), X.prog = P → X.w = w → X.K = K → X.calm = true → ∀ (i : Nat) (pins : List (Addr × Obj)) (s : Shared) (σ : St) (H : Hp) (E : Value → Shared → Prop), Inv X pins σ H s → (∀ b ∈ fp, FpOk X pins H b) → tn i s.heap → J.stop i H →
    wpAny (model P w) X.A (pyNext (.ref it)) (fun r s1 => r = none ∧ Inv X pins σ H s1) E s
  self : ∀ (A : Around) (i : Nat) (s : Shared) (Q : Value → Shared → Prop) (E : Value → Shared → Prop), tn i s.heap → Q (.ref it) s → wpAny (model P w) A (pyIter (.ref it)) Q E s
/-- the step ahead of the store is nothing for an iterator that keeps no tuple -/
theorem go_of {M : Model} {A : Around} {E : Value → Shared → Prop} {s : Shared} {tg : Expr} {it : Addr} {u : Value} {o : Obj} {n : String} {vs : Array Value} {Q : Unit → Shared → Prop} (ho : s.heap.get? it = some o) (hc : o.cls = .type n) (hd : o.data = .fields vs)
    (hn : ["enumerate", "zip", "dict_itemiterator", "dict_reverseitemiterator", "odict_iterator", "itertools.zip_longest", "itertools.pairwise"].contains n = false) (hQ : Q () s) : wpAny M A (letOwnedTupleGo tg (.ref it) u) Q E s := by
  unfold letOwnedTupleGo
  cases tg <;> first
    | exact wpAny_pure hQ
    | (cases u <;> first
        | exact wpAny_pure hQ
        | (refine wpAny_bind (wpAny_load ho ?_)
           rw [hc, hd]
           show wpAny M A (if (["enumerate", "zip", "dict_itemiterator", "dict_reverseitemiterator", "odict_iterator", "itertools.zip_longest", "itertools.pairwise"].contains n && vs[0]? == some (rawInt _)) = true then _ else _) Q E s
           rw [if_neg (by intro h; rw [hn, Bool.false_and] at h; cases h)]
           exact wpAny_pure hQ))

/-- the list at a, as it stands at each turn (a loop may append to it) -/
def Itl (K : PySem.W.Frag) (a : Addr) : It :=
  ⟨fun i H => ∃ xs x, SqL K H a xs ∧ xs[i]? = some x, fun i H x H' => H' = H ∧ ∀ xs, SqL K H a xs → xs[i]? = some x, fun i H => ∃ xs, SqL K H a xs ∧ xs.length ≤ i⟩
def Itt (K : PySem.W.Frag) (a : Addr) : It :=
  ⟨fun i H => ∃ xs x, SqT K H a xs ∧ xs[i]? = some x, fun i H x H' => H' = H ∧ ∀ xs, SqT K H a xs → xs[i]? = some x, fun i H => ∃ xs, SqT K H a xs ∧ xs.length ≤ i⟩
theorem turn_list {P : Program} {w : World} {K : PySem.W.Frag} {tg : Expr} (a it : Addr) : Turn P w K tg (Itl K a) [it] it (fun i h => h.IsListIter it a i) where
  mem := by simp
  obj := fun i h st b hb => by
    have e : b = it := by simpa using hb
    subst e
    obtain ⟨o, e, c, d⟩ := st
    exact ⟨o, e, fun v z => by rw [d] at z; cases z⟩
  keep := fun i h h' st k => st.at fun o e => k it (by simp) o e
  item := by
    intro X hP hw hK hc i pins s σ H E I hf st hg
    subst hP hw hK
    obtain ⟨xs, x, hq, hx⟩ := hg
    obtain ⟨its, rv, p, hz⟩ := I.list hq
    obtain ⟨u, hu, ru⟩ := rv.get hx
    obtain ⟨f0, f1, f2, f3, f4, f5⟩ := hf it (by simp)
    refine wpAny_pyNext_list_item st p.isList (x := u) (by simpa using hu) fun h' st' sb => ?_
    have I1 : Inv X pins σ H { s with heap := h' } := I.turned (t' := s.toks) (fun b o hb e => (sb.2 b hb).trans e) f0 f1 f3 f4 f5
    obtain ⟨o, e, c, d⟩ := id st'
    exact ⟨u, rfl, go_of (s := { s with heap := h' }) e c d (by decide) ⟨x, H, I1, ru, ⟨rfl, fun ys hy => by rw [I.list_inj hy hq]; exact hx⟩, st', fun b hb => (hf b hb).1⟩⟩
  done := by
    intro X hP hw hK hc i pins s σ H E I hf st hg
    subst hP hw hK
    obtain ⟨xs, hq, hx⟩ := hg
    obtain ⟨its, rv, p, hz⟩ := I.list hq
    obtain ⟨f0, f1, f2, f3, f4, f5⟩ := hf it (by simp)
    have hl := rv.length
    exact wpAny_pyNext_list_end (I.ok.hd hc) st p.isList (by simp; omega) fun h' eb => ⟨rfl, I.turned (t' := s.toks) (fun b o hb e => eb b o hb e) f0 f1 f3 f4 f5⟩
  self := fun _ _ _ _ _ st h => wpAny_pyIter_listiter st h
theorem turn_tuple {P : Program} {w : World} {K : PySem.W.Frag} {tg : Expr} (a it : Addr) : Turn P w K tg (Itt K a) [it] it (fun i h => h.IsTupleIter it a i) where
  mem := by simp
  obj := fun i h st b hb => by
    have e : b = it := by simpa using hb
    subst e
    obtain ⟨o, e, c, d⟩ := st
    exact ⟨o, e, fun v z => by rw [d] at z; cases z⟩
  keep := fun i h h' st k => st.at fun o e => k it (by simp) o e
  item := by
    intro X hP hw hK hc i pins s σ H E I hf st hg
    subst hP hw hK
    obtain ⟨xs, x, hq, hx⟩ := hg
    obtain ⟨its, rv, p, hz⟩ := I.tuple hq
    obtain ⟨u, hu, ru⟩ := rv.get hx
    obtain ⟨f0, f1, f2, f3, f4, f5⟩ := hf it (by simp)
    refine wpAny_pyNext_tuple_item st (show s.heap.IsTuple a its.toArray from p) (x := u) (by simpa using hu) fun h' st' sb => ?_
    have I1 : Inv X pins σ H { s with heap := h' } := I.turned (t' := s.toks) (fun b o hb e => (sb.2 b hb).trans e) f0 f1 f3 f4 f5
    obtain ⟨o, e, c, d⟩ := id st'
    exact ⟨u, rfl, go_of (s := { s with heap := h' }) e c d (by decide) ⟨x, H, I1, ru, ⟨rfl, fun ys hy => by rw [I.tuple_inj hy hq]; exact hx⟩, st', fun b hb => (hf b hb).1⟩⟩
  done := by
    intro X hP hw hK hc i pins s σ H E I hf st hg
    subst hP hw hK
    obtain ⟨xs, hq, hx⟩ := hg
    obtain ⟨its, rv, p, hz⟩ := I.tuple hq
    obtain ⟨f0, f1, f2, f3, f4, f5⟩ := hf it (by simp)
    have hl := rv.length
    exact wpAny_pyNext_tuple_end (I.ok.hd hc) st (show s.heap.IsTuple a its.toArray from p) (by simp; omega) fun h' eb => ⟨rfl, I.turned (t' := s.toks) (fun b o hb e => eb b o hb e) f0 f1 f3 f4 f5⟩
  self := fun _ _ _ _ _ st h => wpAny_pyIter_tupleiter st h
end L2

namespace L2
open PySem PySem.Spec PyProof.Rows
section
variable {X : Cx} {tg : Expr}
/-! ### for -/
/-- the records at fp as they stand -/
def pinsAt (fp : List Addr) (h : Heap) : List (Addr × Obj) := fp.filterMap fun b => (h.get? b).map fun o => (b, o)
theorem mem_pinsAt {fp : List Addr} {h : Heap} {b : Addr} {o : Obj} (hb : b ∈ fp) (e : h.get? b = some o) : (b, o) ∈ pinsAt fp h := List.mem_filterMap.mpr ⟨b, hb, by rw [e]; rfl⟩
theorem of_pinsAt {fp : List Addr} {h : Heap} {p : Addr × Obj} (hp : p ∈ pinsAt fp h) : p.1 ∈ fp ∧ h.get? p.1 = some p.2 := by
  obtain ⟨b, hb, e⟩ := List.mem_filterMap.mp hp
  cases q : h.get? b with
  | none => rw [q] at e; cases e
  | some o =>
    rw [q] at e
    have e' : (b, o) = p := Option.some.inj e
    subst e'
    exact ⟨hb, q⟩
theorem Inv.pinned {pins : List (Addr × Obj)} {σ : St} {H : Hp} {s : Shared} {fp : List Addr} (I : Inv X pins σ H s) (hf : ∀ b ∈ fp, FpOk X pins H b) (ho : ∀ b ∈ fp, ∃ o, s.heap.get? b = some o ∧ ∀ v, o.data ≠ .cell v) : Inv X (pins ++ pinsAt fp s.heap) σ H s :=
  I.pins_of fun p hp => (List.mem_append.mp hp).elim (fun z => I.pin p (List.mem_append_right _ z)) fun z => by
    obtain ⟨hb, e⟩ := of_pinsAt z
    obtain ⟨f0, f1, f2, _⟩ := hf p.1 hb
    obtain ⟨o, e', d⟩ := ho p.1 hb
    rw [e] at e'; cases e'
    exact ⟨e, f0, f1, f2, d⟩
theorem Inv.unpinned {pins pl : List (Addr × Obj)} {σ : St} {H : Hp} {s : Shared} (I : Inv X (pins ++ pl) σ H s) : Inv X pins σ H s := I.pins_of fun p hp => I.pin p (List.mem_append_right _ (List.mem_append_left _ hp))
end

/-! ### the forms one uses -/
end L2

namespace L2
open PySem PySem.Spec PyProof.Rows

abbrev R2 := V → V → Hp → VK → Prop
/-- a two-place operation on values: f is binaryOp op, inplaceOp op or compareOp op -/
def OpR (X : Cx) (f : Value → Value → Sem Value) (r : R2) : Prop :=
  ∀ (pins : List (Addr × Obj)) (s : Shared) (σ : St) (H : Hp) (x y : V) (v u : Value) (Q : VK), Inv X pins σ H s → RelV x v → RelV y u → r x y H Q →
    wpAny (model X.prog X.w) X.A (f v u) (EP X pins σ Q) X.xe s
/-- a one-place operation -/
def UnR (X : Cx) (f : Value → Sem Value) (r : V → Hp → VK → Prop) : Prop :=
  ∀ (pins : List (Addr × Obj)) (s : Shared) (σ : St) (H : Hp) (x : V) (v : Value) (Q : VK), Inv X pins σ H s → RelV x v → r x H Q →
    wpAny (model X.prog X.w) X.A (f v) (EP X pins σ Q) X.xe s
/-- a call of a value that is known (a builtin, a type) with values -/
def CallR (X : Cx) (f : Value) (r : List V → Hp → VK → Prop) : Prop :=
  ∀ (pins : List (Addr × Obj)) (s : Shared) (σ : St) (H : Hp) (xs : List V) (us : List Value) (Q : VK), Inv X pins σ H s → Vals xs us → r xs H Q →
    wpAny (model X.prog X.w) X.A (call f us) (EP X pins σ Q) X.xe s
/-- ints in, under C, and a value out -/
def rI (C : Int → Int → Prop) (g : Int → Int → V) : R2 := fun x y H Q => ∃ i j, x = .int i ∧ y = .int j ∧ C i j ∧ Q (g i j) H
def rI0 (g : Int → Int → V) : R2 := fun x y H Q => ∃ i j, x = .int i ∧ y = .int j ∧ Q (g i j) H
def rU (g : Int → V) : V → Hp → VK → Prop := fun x H Q => ∃ i, x = .int i ∧ Q (g i) H

section
variable {X : Cx} {a b c : Expr} {ta tb tc : TE} {pos : Pos}

/-! ### ints -/
theorem opI {f : Value → Value → Sem Value} {C : Int → Int → Prop} {g : Int → Int → Int}
    (rule : ∀ (i j : Int) (t u : Tok) (s : Shared) (Q : Value → Shared → Prop) (E : Value → Shared → Prop), C i j → Q (.int (g i j) s.toks) { s with toks := s.toks + 1 } → wpAny (model X.prog X.w) X.A (f (.int i t) (.int j u)) Q E s) :
    OpR X f (rI C fun i j => .int (g i j)) := by
  intro pins s σ H x y v u Q I rx ry h
  obtain ⟨i, j, rfl, rfl, hc, q⟩ := h
  obtain ⟨t, rfl⟩ := rx
  obtain ⟨t', rfl⟩ := ry
  exact rule i j t t' s _ _ hc ⟨.int (g i j), H, I.tok _, ⟨_, rfl⟩, q⟩
theorem opI0 {f : Value → Value → Sem Value} {g : Int → Int → Int}
    (rule : ∀ (i j : Int) (t u : Tok) (s : Shared) (Q : Value → Shared → Prop) (E : Value → Shared → Prop), Q (.int (g i j) s.toks) { s with toks := s.toks + 1 } → wpAny (model X.prog X.w) X.A (f (.int i t) (.int j u)) Q E s) :
    OpR X f (rI0 fun i j => .int (g i j)) := by
  intro pins s σ H x y v u Q I rx ry h
  obtain ⟨i, j, rfl, rfl, q⟩ := h
  obtain ⟨t, rfl⟩ := rx
  obtain ⟨t', rfl⟩ := ry
  exact rule i j t t' s _ _ ⟨.int (g i j), H, I.tok _, ⟨_, rfl⟩, q⟩
theorem opB0 {f : Value → Value → Sem Value} {g : Int → Int → Bool}
    (rule : ∀ (i j : Int) (t u : Tok) (s : Shared) (Q : Value → Shared → Prop) (E : Value → Shared → Prop), Q (.bool (g i j)) s → wpAny (model X.prog X.w) X.A (f (.int i t) (.int j u)) Q E s) :
    OpR X f (rI0 fun i j => .bl (g i j)) := by
  intro pins s σ H x y v u Q I rx ry h
  obtain ⟨i, j, rfl, rfl, q⟩ := h
  obtain ⟨t, rfl⟩ := rx
  obtain ⟨t', rfl⟩ := ry
  exact rule i j t t' s _ _ ⟨.bl (g i j), H, I, rfl, q⟩

theorem op_add : OpR X (binaryOp .Add) (rI0 fun i j => .int (i + j)) := opI0 fun _ _ _ _ _ _ _ q => add_int q
theorem op_sub : OpR X (binaryOp .Sub) (rI0 fun i j => .int (i - j)) := opI0 fun _ _ _ _ _ _ _ q => sub_int q
/-- % by a positive divisor of any size -/
theorem op_mod : OpR X (binaryOp .Mod) (rI (fun _ j => 0 < j) fun i j => .int (i % j)) := opI fun i j _ _ _ _ _ hc q => by
  have h1 : (0 : Int) < j := hc
  exact mod_int' (by omega) (by rw [Int.fmod_eq_emod_of_nonneg i (by omega)]; exact q)
theorem unI {f : Value → Sem Value} {g : Int → Int}
    (rule : ∀ (i : Int) (t : Tok) (s : Shared) (Q : Value → Shared → Prop) (E : Value → Shared → Prop), Q (.int (g i) s.toks) { s with toks := s.toks + 1 } → wpAny (model X.prog X.w) X.A (f (.int i t)) Q E s) :
    UnR X f (rU fun i => .int (g i)) := by
  intro pins s σ H x v Q I rx h
  obtain ⟨i, rfl, q⟩ := h
  obtain ⟨t, rfl⟩ := rx
  exact rule i t s _ _ ⟨.int (g i), H, I.tok _, ⟨_, rfl⟩, q⟩
theorem un_neg : UnR X (unaryOp .USub) (rU fun i => .int (-i)) := unI fun _ _ _ _ _ q => neg_int q
/-! ### bools among ints: n += (a < b) -/
end

/-! ### comparisons -/
section
variable {X : Cx} {a b c : Expr} {ta tb tc : TE} {pos : Pos}
theorem fin_bl {pins : List (Addr × Obj)} {σ : St} {H : Hp} {s : Shared} {Q : VK} {k k' : Bool} (I : Inv X pins σ H s) (q : Q (.bl k) H) (e : k = k') : EP X pins σ Q (.bool k') s := by
  subst e
  exact ⟨.bl k, H, I, rfl, q⟩
theorem op_lt : OpR X (compareOp .Lt) (rI0 fun i j => .bl (decide (i < j))) := opB0 fun _ _ _ _ _ _ _ q => lt_int q
theorem op_le : OpR X (compareOp .LtE) (rI0 fun i j => .bl (decide (i ≤ j))) := opB0 fun _ _ _ _ _ _ _ q => le_int q
theorem op_gt : OpR X (compareOp .Gt) (rI0 fun i j => .bl (decide (j < i))) := opB0 fun _ _ _ _ _ _ _ q => gt_int q
/-- is None, is not None: the right side a value none -/
theorem op_isN : OpR X (compareOp .Is) (fun x y H Q => y = .non ∧ Q (.bl (decide (x = .non))) H) := by
  intro pins s σ H x y v u Q I rx ry h
  obtain ⟨rfl, q⟩ := h
  cases ry
  refine is_none_gen (fin_bl I q ?_)
  cases x <;> first
    | (cases rx; rfl)
    | (obtain ⟨t, rfl⟩ := rx; rfl)
theorem nomark (b : Expr) {op : CmpOp} (h : op ≠ .In := by decide) (h2 : op ≠ .NotIn := by decide) : behindInMarks op b = false := by
  have e1 : (op == CmpOp.In) = false := by cases op <;> first | rfl | exact absurd rfl h
  have e2 : (op == CmpOp.NotIn) = false := by cases op <;> first | rfl | exact absurd rfl h2
  cases b <;> simp [behindInMarks, e1, e2]
/-! ### truth -/
theorem line63 : (sizeLine : Nat) < 2 ^ 63 := by rw [sizeLine_eq]; decide
/-! ### strs and bytes -/
/-! ### scalar builtins, by CallR -/
theorem vals1 {x : V} {us : List Value} (r : Vals [x] us) : ∃ u, us = [u] ∧ RelV x u := by
  cases r with
  | cons r1 r2 => cases r2; exact ⟨_, rfl, r1⟩
theorem call_abs : CallR X (.builtin "abs") (fun xs H Q => ∃ i, xs = [.int i] ∧ Q (.int (if i < 0 then -i else i)) H) := by
  intro pins s σ H xs us Q I r h
  obtain ⟨i, rfl, q⟩ := h
  obtain ⟨u, rfl, t, rfl⟩ := vals1 r
  exact call_abs_int fun u tk => ⟨.int (if i < 0 then -i else i), H, I.tok _, ⟨_, rfl⟩, q⟩
end
end L2

namespace L2
open PySem PySem.Spec PyProof.Rows

/-! ### an instance, its attributes a map -/
structure ObjM (h : Heap) (x dx C : Addr) (mA : Str → Option Value) : Prop where
  obj : h.get? x = some (PySem.W.instObj C dx)
  ns : h.Ns1 dx mA
  ne : dx ≠ x

theorem lookIn_ns {h : Heap} {dx : Addr} {mA : Str → Option Value} (n : h.Ns1 dx mA) : ∃ od, h.get? dx = some od ∧ ∀ name, PySem.W.lookIn name od = some (mA name) := by
  obtain ⟨o, es, ep, ho, hd, hk, _, hm⟩ := n
  refine ⟨o, ho, fun name => ?_⟩
  have e := hm name
  unfold nsFind findBy at e
  rw [← Array.find?_toList] at e
  unfold PySem.W.lookIn
  rw [hd]
  dsimp only
  split
  · rename_i y q
    rw [q] at e
    exact congrArg some e
  · rename_i q
    rw [q] at e
    have a : es.toList.any (·.refKey) = false := by
      rw [List.any_eq_false]
      intro y hy
      obtain ⟨z, t, hkey⟩ := hk y (Array.mem_toList_iff.mp hy)
      simp [DictEntry.refKey, hkey]
    have a' : ¬ es.toList.any (·.refKey) = true := by rw [a]; exact Bool.false_ne_true
    rw [if_neg a']
    exact congrArg some e

theorem ObjM.look {h : Heap} {x dx C : Addr} {mA : Str → Option Value} (I : ObjM h x dx C mA) : ∃ od, PySem.W.InstAt h x (PySem.W.instObj C dx) C (some od) ∧ ∀ name, PySem.W.lookIn name od = some (mA name) :=
  let ⟨od, ho, hl⟩ := lookIn_ns I.ns
  ⟨od, ⟨I.obj, rfl, rfl, ho⟩, hl⟩

section
variable {prog : Program} {w : World} {A : Around} {E : Value → Shared → Prop} {s : Shared} {K : PySem.W.Frag} {x dx C f : Addr} {mA : Str → Option Value} {name : Str} {v : Value}

theorem get_map {expr : Bool} {Q : Value → Shared → Prop} (X : K.In s.heap) (I : ObjM s.heap x dx C mA) (hg : PySem.W.plainGet K C name = true) (hh : PySem.W.hasDictIn K C = true)
    (ha : PySem.W.findIn K (.ref C) name = some none) (hv : mA name = some v) (hv' : PySem.W.handedIn v = true) (h : Q v { s with toks := s.toks + 1 }) :
    wpAny (model prog w) A (getAttr (.ref x) name expr) Q E s := by
  obtain ⟨od, J, hl⟩ := I.look
  exact PySem.W.get_value X J (PySem.W.plainGet_of hg).1 (PySem.W.findObj_own hh ha rfl (by rw [hl, hv])) hv' h

theorem get_meth {pl : Sem Bool} {Q : Value × List Value → Shared → Prop} (X : K.In s.heap) (I : ObjM s.heap x dx C mA) (hg : PySem.W.plainGet K C name = true)
    (hf : PySem.W.findIn K (.ref C) name = some (some (.ref f))) (ht : PySem.W.isFn K (.ref f) = true) (hv : mA name = none) (h : Q (.ref f, [.ref x]) s) :
    wpAny (model prog w) A (getMethod (.ref x) name pl) Q E s := by
  obtain ⟨od, J, hl⟩ := I.look
  exact PySem.W.method_fn X J (PySem.W.plainGet_of hg).1 (PySem.W.plainGet_of hg).2 hf (beq_iff_eq.mp ht) (by show (PySem.W.lookIn name od).map (·.isSome) = some false; rw [hl, hv]; rfl) h

theorem set_map {ns : List Str} {Q : Unit → Shared → Prop} (X : K.In s.heap) (I : ObjM s.heap x dx C mA)
    (hs : PySem.W.findIn K (.ref C) "__setattr__" = some (some (.builtin "object.__setattr__"))) (hp : PySem.W.plainOver K C = true) (ht : PySem.W.takerIn K C name = some none) (hh : PySem.W.hasDictIn K C = true)
    (hw : PySem.Within mA ns) (hsz : ns.length ≤ sizeLine)
    (h : ∀ h', ObjM h' x dx C (fun y => if y = name then some v else mA y) → Heap.SameBut dx s.heap h' → Q () { s with heap := h', toks := s.toks + 2 }) :
    wpAny (model prog w) A (setAttr (.ref x) name v) Q E s := by
  obtain ⟨od, J, hl⟩ := I.look
  refine PySem.W.set_plain X J hs (PySem.W.osa_open (s := { s with toks := s.toks + 1 }) (r := none) X J hp ht fun b => ?_)
  obtain ⟨cd, hc, hd'⟩ := PySem.W.any_some hh
  have hx : s.heap.get? x = some ⟨.ref C, some dx, .plain, #[]⟩ := I.obj
  refine wpAny_bind (wpAny_pure (wpAny_bind (wpAny_bind (wpAny_loadPart hx (wpAny_bind (PySem.W.Looks.here (s := { s with toks := s.toks + 1 }) (PySem.W.looks_clsIn X hc) ?_))))))
  rw [hd']
  refine wpAny_pure (a := some dx) (wpAny_bind (wpAny_pure (wpAny_bind ?_)))
  refine wpAny_nsSet1 (s := { s with toks := s.toks + 1 }) I.ns fun h' hn2 hs2 => ?_
  obtain ⟨oD, esD, epD, hoD, hdD, hcD⟩ := hn2.count (PySem.Within.cons name v hw)
  refine wpAny_bind (wpAny_lookBehind hoD (by rw [hdD]; exact pastItsLine_dict (Nat.le_trans hcD (by rw [List.length_cons]; omega))) ?_)
  exact wpAny_pure (h _ ⟨(hs2.2 _ (Ne.symm I.ne)).trans I.obj, hn2, I.ne⟩ hs2)

/-- C(..): the dict at the heap's end, the instance behind it; then its __init__ -/
theorem make_map {R : Result → Shared → Prop} {vs : List Value} {kw : List (Str × Value)} (X : K.In s.heap) (hm : PySem.W.makesIn K C = true)
    (hi : PySem.W.findIn K (.ref C) "__init__" = some (some (.ref f))) (hf : PySem.W.typeIn K (.ref f) = some (.type "function"))
    (h : codeAny (model prog w) (A.under (.builtin "type.__call__" ⟨.ref C :: vs, kw⟩)) (.call (.ref f) ⟨.ref (s.heap.objs.size + 1) :: vs, kw⟩) (PySem.W.InitBack (s.heap.objs.size + 1) R)
      { s with heap := (s.heap.push PySem.W.emptyDict).push (PySem.W.instObj C s.heap.objs.size) }) :
    codeAny (model prog w) A (.call (.ref C) ⟨vs, kw⟩) R s := by
  obtain ⟨hh, g, d, t, os⟩ := s
  exact PySem.W.make_core (PySem.W.makes_of X hm) (PySem.W.looks_findIn X hi) (fun self => PySem.W.bind_fn X self hf) (.inl rfl) h
end

/-! ### the attributes as a list of pairs -/
def putF (f : Str) (v : V) : List (Str × V) → List (Str × V)
  | [] => [(f, v)]
  | (g, x) :: r => if g = f then (g, v) :: r else (g, x) :: putF f v r
theorem lookup_putF (f g : Str) (v : V) : ∀ fs : List (Str × V), (putF f v fs).lookup g = if g = f then some v else fs.lookup g
  | [] => by
    show List.lookup g [(f, v)] = _
    by_cases h : g = f
    · have hb : (g == f) = true := beq_iff_eq.mpr h
      simp only [List.lookup, hb, if_pos h]
    · have hb : (g == f) = false := beq_eq_false_iff_ne.mpr h
      simp only [List.lookup, hb, if_neg h]
  | (k, x) :: r => by
    have ih := lookup_putF f g v r
    rw [show putF f v ((k, x) :: r) = (if k = f then (k, v) :: r else (k, x) :: putF f v r) from rfl]
    by_cases hk : k = f
    · rw [if_pos hk]
      by_cases h : g = k
      · have hb : (g == k) = true := beq_iff_eq.mpr h
        simp only [List.lookup, hb, if_pos (h.trans hk)]
      · have hb : (g == k) = false := beq_eq_false_iff_ne.mpr h
        simp only [List.lookup, hb, if_neg (fun e : g = f => h (e.trans hk.symm))]
    · rw [if_neg hk]
      by_cases h : g = k
      · have hb : (g == k) = true := beq_iff_eq.mpr h
        simp only [List.lookup, hb, if_neg (fun e : g = f => hk (h.symm.trans e))]
      · have hb : (g == k) = false := beq_eq_false_iff_ne.mpr h
        simp only [List.lookup, hb]
        exact ih
theorem keys_putF (f : Str) (v : V) : ∀ fs : List (Str × V), f ∈ (putF f v fs).map (·.1) ∧ ∀ g, g ∈ fs.map (·.1) → g ∈ (putF f v fs).map (·.1)
  | [] => ⟨by simp [putF], fun g h => by simp at h⟩
  | (k, x) :: r => by
    obtain ⟨i1, i2⟩ := keys_putF f v r
    rw [show putF f v ((k, x) :: r) = (if k = f then (k, v) :: r else (k, x) :: putF f v r) from rfl]
    by_cases hk : k = f
    · rw [if_pos hk]
      subst hk
      exact ⟨by simp, fun g h => by simpa using h⟩
    · rw [if_neg hk]
      refine ⟨?_, fun g h => ?_⟩
      · rw [List.map_cons]
        exact List.mem_cons_of_mem _ i1
      · rw [List.map_cons] at h ⊢
        rcases List.mem_cons.mp h with e | e
        · exact List.mem_cons.mpr (.inl e)
        · exact List.mem_cons_of_mem _ (i2 g e)
theorem length_putF (f : Str) (v : V) : ∀ fs : List (Str × V), (putF f v fs).length ≤ fs.length + 1
  | [] => by simp [putF]
  | (k, x) :: r => by
    have ih := length_putF f v r
    rw [show putF f v ((k, x) :: r) = (if k = f then (k, v) :: r else (k, x) :: putF f v r) from rfl]
    by_cases hk : k = f
    · rw [if_pos hk, List.length_cons, List.length_cons]; omega
    · rw [if_neg hk, List.length_cons, List.length_cons]; omega

theorem RelO.some_of {v : V} {o : Option Value} (r : RelO (some v) o) : ∃ u, o = some u ∧ RelV v u := by
  cases o with
  | none => exact (show False from r).elim
  | some u => exact ⟨u, rfl, r⟩
theorem RelO.none_of {o : Option Value} (r : RelO none o) : o = none := by
  cases o with
  | none => rfl
  | some u => exact (show False from r).elim
theorem handed_of {v : V} {u : Value} (r : RelV v u) : PySem.W.handedIn u = true := by
  cases v with
  | non => cases (show u = Value.none from r); rfl
  | bl b => cases (show u = Value.bool b from r); rfl
  | int i => obtain ⟨t, e⟩ := (show ∃ t, u = Value.int i t from r); cases e; rfl
  | str x => obtain ⟨t, e⟩ := (show ∃ t, u = Value.str x t from r); cases e; rfl
  | byt b => obtain ⟨t, e⟩ := (show ∃ t, u = Value.bytes b t from r); cases e; rfl
  | flt b => obtain ⟨t, e⟩ := (show ∃ t, u = Value.float b t from r); cases e; rfl
  | ref a => cases (show u = Value.ref a from r); rfl
  | ty n => cases (show u = Value.type n from r); rfl

section
variable {P : Program} {w : World} {H H' : Hp} {h h' : Heap} {a C dx : Addr} {fs fs' : List (Str × V)}
theorem ins_get (hok : HOk P w H h) (e : H a = some (.ins C dx fs)) : ∃ mA, ObjM h a dx C mA ∧ (∀ f, RelO (fs.lookup f) (mA f)) ∧ PySem.Within mA (fs.map (·.1)) ∧ fs.length ≤ 1000 ∧ H dx = some (.own a) := by
  obtain ⟨d, z, ne, ob, mA, n, r, q⟩ := (show ObjOk P w H h a (.ins C dx fs) from hok a _ e)
  exact ⟨mA, ⟨ob, n, ne⟩, r, q, z, d⟩
end

/-! ### what of the text a class must have -/
structure Cls (K : PySem.W.Frag) (C : Addr) : Prop where
  pg : PySem.W.plainGet K C Str.empty = true
  hd : PySem.W.hasDictIn K C = true
  po : PySem.W.plainOver K C = true
  sa : PySem.W.findIn K (.ref C) "__setattr__" = some (some (.builtin "object.__setattr__"))
theorem Cls.get {K : PySem.W.Frag} {C : Addr} (c : Cls K C) (f : Str) : PySem.W.plainGet K C f = true := c.pg
/-- no class of it has the name -/
def NoAttr (K : PySem.W.Frag) (C : Addr) (f : Str) : Prop := PySem.W.findIn K (.ref C) f = some none
theorem NoAttr.taker {K : PySem.W.Frag} {C : Addr} {f : Str} (n : NoAttr K C f) : PySem.W.takerIn K C f = some none := by
  unfold PySem.W.takerIn
  rw [show PySem.W.findIn K (.ref C) f = some none from n]
  rfl
/-- a method: a plain def of the class or of one above it -/
structure Meth (K : PySem.W.Frag) (C : Addr) (m : Str) (f : Addr) : Prop where
  at_ : PySem.W.findIn K (.ref C) m = some (some (.ref f))
  fn : PySem.W.isFn K (.ref f) = true
  kp : PySem.W.keepIn K (.ref f) = true

section
variable {X : Cx} {pins : List (Addr × Obj)} {σ : St} {H : Hp} {s : Shared} {a C dx : Addr} {fs : List (Str × V)} {f : Str} {v : V} {A : Around} {E : Value → Shared → Prop}

theorem getattr_ok {b : Bool} {Q : Value → Shared → Prop} (I : Inv X pins σ H s) (e : H a = some (.ins C dx fs)) (c : Cls X.K C) (n : NoAttr X.K C f) (l : fs.lookup f = some v)
    (h : ∀ u s', Inv X pins σ H s' → RelV v u → Q u s') : wpAny (model X.prog X.w) A (getAttr (.ref a) f b) Q E s := by
  obtain ⟨mA, O, r, _, _, _⟩ := ins_get I.hok e
  obtain ⟨u, hu, ru⟩ := RelO.some_of (v := v) (o := mA f) (by rw [← l]; exact r f)
  exact get_map I.kIn O (c.get f) c.hd n hu (handed_of ru) (h u _ (I.tok _) ru)

theorem getmeth_ok {m : Str} {g : Addr} {pl : Sem Bool} {Q : Value × List Value → Shared → Prop} (I : Inv X pins σ H s) (e : H a = some (.ins C dx fs)) (c : Cls X.K C) (k : Meth X.K C m g) (l : fs.lookup m = none)
    (h : Q (.ref g, [.ref a]) s) : wpAny (model X.prog X.w) A (getMethod (.ref a) m pl) Q E s := by
  obtain ⟨mA, O, r, _, _, _⟩ := ins_get I.hok e
  have hn : mA m = none := RelO.none_of (by rw [← l]; exact r m)
  exact get_meth I.kIn O (c.get m) k.at_ k.fn hn h

theorem setattr_ok {y : V} {u : Value} {Q : Unit → Shared → Prop} (I : Inv X pins σ H s) (e : H a = some (.ins C dx fs)) (c : Cls X.K C) (n : NoAttr X.K C f) (hl : fs.length < 1000) (ry : RelV y u)
    (h : ∀ s', Inv X pins σ (upd H a (.ins C dx (putF f y fs))) s' → Q () s') : wpAny (model X.prog X.w) A (setAttr (.ref a) f u) Q E s := by
  obtain ⟨mA, O, r, wi, _, ho⟩ := ins_get I.hok e
  have hz : (fs.map (·.1)).length ≤ sizeLine := by rw [List.length_map, sizeLine_eq]; omega
  refine set_map I.kIn O c.sa c.po n.taker c.hd wi hz fun h' O' sb => h _ ?_
  have hd : ∃ o, h'.get? dx = some o := let ⟨o, _, _, e', _⟩ := O'.ns; ⟨o, e'⟩
  refine I.write (x := a) (e := dx) (by rw [e]; exact True.intro) (.inr ho) (fun b q hb z => (sb.2 b hb).trans z) hd ?_
  refine ⟨by rw [upd_ne O.ne]; exact ho, ?_, O.ne, O'.obj, _, O'.ns, fun g => ?_, fun g hg => ?_⟩
  · have := length_putF f y fs; omega
  · show RelO ((putF f y fs).lookup g) (if g = f then some u else mA g)
    rw [lookup_putF]
    by_cases q : g = f
    · rw [if_pos q, if_pos q]; exact ry
    · rw [if_neg q, if_neg q]; exact r g
  · by_cases q : g = f
    · rw [q]; exact (keys_putF f y fs).1
    · refine (keys_putF f y fs).2 g (wi g fun z => hg ?_)
      show (if g = f then some u else mA g) = none
      rw [if_neg q]; exact z

/-- a new instance, tracked, without attributes -/
theorem Inv.made (I : Inv X pins σ H s) : Inv X pins σ (upd (upd H s.heap.objs.size (.own (s.heap.objs.size + 1))) (s.heap.objs.size + 1) (.ins C s.heap.objs.size []))
    { s with heap := (s.heap.push PySem.W.emptyDict).push (PySem.W.instObj C s.heap.objs.size) } := by
  have e1 : (s.heap.push PySem.W.emptyDict).get? s.heap.objs.size = some PySem.W.emptyDict := Heap.get?_push_size s.heap rfl
  have e2 : ((s.heap.push PySem.W.emptyDict).push (PySem.W.instObj C s.heap.objs.size)).get? (s.heap.objs.size + 1) = some (PySem.W.instObj C s.heap.objs.size) := by
    have := Heap.get?_push_size (s.heap.push PySem.W.emptyDict) (o := PySem.W.instObj C s.heap.objs.size) rfl
    rwa [Heap.size_push] at this
  have e3 : (s.heap.push PySem.W.emptyDict).Ns s.heap.objs.size (fun _ => none) := ⟨PySem.W.emptyDict, #[], _, e1, rfl, (fun e he => absurd he (by simp)), fun _ => rfl⟩
  have I1 := I.laid (a := s.heap.objs.size) (o := .own (s.heap.objs.size + 1)) (h' := s.heap.push PySem.W.emptyDict) (t' := s.toks) (fun b u q => Heap.get?_push_of_some _ q) (Nat.le_refl _) ⟨_, e1⟩
  refine I1.laid (a := s.heap.objs.size + 1) (o := .ins C s.heap.objs.size []) (t' := s.toks) (fun b u q => Heap.get?_push_of_some _ q) (Nat.le_of_eq (Heap.size_push _ _)) ?_
  have ne : s.heap.objs.size ≠ s.heap.objs.size + 1 := Nat.ne_of_lt (Nat.lt_succ_self _)
  refine ⟨by rw [upd_ne ne, upd_same], Nat.zero_le _, ne, e2, fun _ => none, (Heap.Ns1.of_empty e3).at fun o q => Heap.get?_push_of_some _ q, fun _ => True.intro, fun y hy => absurd rfl hy⟩

/-- e.f where nothing but the object is asked: through attributeBase (super) and the last hold -/
theorem attr_of {prog : Program} {w : World} {env : Env} {e : Expr} {f : Str} {pos : Pos} {s : Shared} {Q : Value → Shared → Prop} (hb : attributeBase e f env (eval e env) = eval e env)
    (h : wpAny (model prog w) A (eval e env) (fun o s₁ => wpAny (model prog w) A (getAttr o f true) Q E s₁) E s) : wpAny (model prog w) A (eval (.Attribute e f pos) env) Q E s :=
  Attribute_any_ h (by rw [arm_eval_Attribute, hb])
end

/-! ### readings and rules -/
section
variable {X : Cx} {o e value : Expr} {f : Str} {pos pos' tpos : Pos} {ta tv : TE}
end

/-! ### isinstance -/
section
variable {X : Cx} {pins : List (Addr × Obj)} {σ : St} {H : Hp} {s : Shared} {A : Around} {E : Value → Shared → Prop} {Q : Value → Shared → Prop} {c : Value} {b : Bool}
/-- the type of a value, as the fragment's deciders take it; for an instance its class -/
inductive TyOf (K : PySem.W.Frag) (H : Hp) : V → Value → Prop where
  | non : TyOf K H .non (.type "NoneType")
  | bl (x : Bool) : TyOf K H (.bl x) (.type "bool")
  | int (i : Int) : TyOf K H (.int i) (.type "int")
  | str (x : Str) : TyOf K H (.str x) (.type "str")
  | flt (x : UInt64) : TyOf K H (.flt x) (.type "float")
  | lst {a : Addr} {xs : List V} (e : H a = some (.lst xs)) : TyOf K H (.ref a) (.type "list")
  | frz {a : Addr} {o : Obj} {xs : List V} (e : H a = some (.frz o (.lst xs))) : TyOf K H (.ref a) (.type "list")
  | tup {a : Addr} {xs : List V} (e : H a = some (.tup xs)) : TyOf K H (.ref a) (.type "tuple")
  | dK {a : Addr} {kvs : List (Key × V)} (e : H a = some (.dK kvs)) : TyOf K H (.ref a) (.type "dict")
  | dT {a : Addr} {kvs : List (List Key × V)} (e : H a = some (.dT kvs)) : TyOf K H (.ref a) (.type "dict")
  | ins {a C dx : Addr} {fs : List (Str × V)} (e : H a = some (.ins C dx fs)) (cl : Cls K C) (ha : PySem.W.findIn K (.ref C) "__class__" = some (some (.builtin "object.__class__")))
      (hn : PySem.W.specialIn K (.builtin "object.__class__") "__get__" = some (some (.builtin "getset_descriptor.__get__"))) (htk : PySem.W.takesIn K (.builtin "object.__class__") = some true)
      (hm : PySem.W.mroIn K C (.type "object") = some true) : TyOf K H (.ref a) (.ref C)
/-- isinstance(x, c) for one class c, a built-in or an own one: kitOne's answer -/
theorem isinst_ok {x : V} {u t : Value} (I : Inv X pins σ H s) (rx : RelV x u) (ty : TyOf X.K H x t) (e : PySem.W.kitOne X.K t c = some b) (h : ∀ tk, Q (.bool b) { s with toks := tk }) :
    wpAny (model X.prog X.w) A (call (.builtin "isinstance") [u, c]) Q E s := by
  cases ty with
  | non => cases (show u = Value.none from rx); exact PySem.W.kia_one PySem.W.kitx_none I.kIn True.intro e (fun z => nomatch z) h
  | bl y => cases (show u = Value.bool y from rx); exact PySem.W.kia_one PySem.W.kitx_bool I.kIn True.intro e (fun z => nomatch z) h
  | int i => obtain ⟨t, q⟩ := (show ∃ t, u = Value.int i t from rx); cases q; exact PySem.W.kia_one PySem.W.kitx_int I.kIn True.intro e (fun z => nomatch z) h
  | str y => obtain ⟨t, q⟩ := (show ∃ t, u = Value.str y t from rx); cases q; exact PySem.W.kia_one PySem.W.kitx_str I.kIn True.intro e (fun z => nomatch z) h
  | flt y => obtain ⟨t, q⟩ := (show ∃ t, u = Value.float y t from rx); cases q; exact PySem.W.kia_one PySem.W.kitx_float I.kIn True.intro e (fun z => nomatch z) h
  | @lst a xs ea =>
    cases (show u = Value.ref a from rx)
    obtain ⟨_, _, n, _, h1⟩ := (show ObjOk X.prog X.w H s.heap a (.lst xs) from I.hok a _ ea)
    exact PySem.W.kia_one PySem.W.kitx_list I.kIn ⟨_, h1, rfl⟩ e (fun z => nomatch z) h
  | @frz a ob xs ea =>
    cases (show u = Value.ref a from rx)
    obtain ⟨_, _, _, n, _, h1⟩ := (show ObjOk X.prog X.w H s.heap a (.frz ob (.lst xs)) from I.hok a _ ea)
    exact PySem.W.kia_one PySem.W.kitx_list I.kIn ⟨_, h1, rfl⟩ e (fun z => nomatch z) h
  | @tup a xs ea =>
    cases (show u = Value.ref a from rx)
    obtain ⟨_, _, _, p⟩ := (show ObjOk X.prog X.w H s.heap a (.tup xs) from I.hok a _ ea)
    obtain ⟨o, h1, h2, _⟩ := p
    exact PySem.W.kia_one PySem.W.kitx_tuple I.kIn ⟨o, h1, h2⟩ e (fun z => nomatch z) h
  | @dK a kvs ea =>
    cases (show u = Value.ref a from rx)
    obtain ⟨_, _, vs, _, p⟩ := (show ObjOk X.prog X.w H s.heap a (.dK kvs) from I.hok a _ ea)
    obtain ⟨o, es, ep, h1, h2, _⟩ := p
    exact PySem.W.kia_one PySem.W.kitx_dict I.kIn ⟨o, h1, h2.1⟩ e (fun z => nomatch z) h
  | @dT a kvs ea =>
    cases (show u = Value.ref a from rx)
    obtain ⟨_, _, xs, _, o, es, ep, h1, h2, _⟩ := (show ObjOk X.prog X.w H s.heap a (.dT kvs) from I.hok a _ ea)
    exact PySem.W.kia_one PySem.W.kitx_dict I.kIn ⟨o, h1, h2.1⟩ e (fun z => nomatch z) h
  | @ins a C dx fs ea cl ha hn htk hm =>
    cases (show u = Value.ref a from rx)
    obtain ⟨mA, O, _⟩ := ins_get I.hok ea
    obtain ⟨od, J, _⟩ := O.look
    exact PySem.W.kia_one (PySem.W.kitx_own (cl.get _) cl.hd ha hn htk hm) I.kIn J e (fun z => nomatch z) h
end
end L2

namespace L2
open PySem PySem.Spec PyProof.Rows

/-! ### room -/
structure Room (k : Nat) (A : Around) : Prop where
  hd : A.handled = none
  dp : A.depth + 3 * k + 5 < recursionLimit
  un : A.units + 16 * k + 200 < cLine
theorem Room.mono {j k : Nat} {A : Around} (r : Room k A) (h : j ≤ k) : Room j A := ⟨r.hd, by have := r.dp; omega, by have := r.un; omega⟩
theorem Room.deeper {k : Nat} {A : Around} (r : Room (k + 1) A) (env : Env) : Room k (A.deeper env) :=
  ⟨r.hd, by have := r.dp; show A.depth + 1 + 3 * k + 5 < _; omega, by have := r.un; show A.units + 3 + 16 * k + 200 < _; omega⟩
theorem make_depth {A : Around} {C : Addr} {us : List Value} {kw : List (Str × Value)} : (A.under (.builtin "type.__call__" ⟨.ref C :: us, kw⟩)).depth = A.depth + 1 := by
  first | rfl | simp [Around.under, Code.weight, Code.isCreation, Code.isGuard, Code.isCaller, Code.frames, Code.isFrame, guardIds]
theorem make_units {A : Around} {C : Addr} {us : List Value} {kw : List (Str × Value)} : (A.under (.builtin "type.__call__" ⟨.ref C :: us, kw⟩)).units = A.units + 1 := by
  first | rfl | simp [Around.under, Code.cUnits, Code.frames, Code.isFrame]
theorem Room.make {k : Nat} {A : Around} (r : Room (k + 1) A) (C : Addr) (us : List Value) (kw : List (Str × Value)) : Room k (A.under (.builtin "type.__call__" ⟨.ref C :: us, kw⟩)) :=
  ⟨r.hd, by have := r.dp; rw [make_depth]; omega, by have := r.un; rw [make_units]; omega⟩
theorem Room.depth {k : Nat} {A : Around} (r : Room k A) : A.depth < recursionLimit := by have := r.dp; omega
theorem Room.units {k : Nat} {A : Around} (r : Room k A) : A.units + 64 < cLine := by have := r.un; omega
theorem Room.units0 {k : Nat} {A : Around} (r : Room k A) : A.units < cLine := by have := r.un; omega

/-! ### argument lists and displays -/
section
variable {X : Cx} {e : Expr} {es : List Expr} {te : TE} {t : TA} {pos : Pos}
end

/-! ### what a def promises -/
/-- a def's promise: the bound arguments in the parameters' order, the heap, the wanted end, the wanted exception -/
abbrev Sp := List V → Hp → VK → XK → Prop
/-- how an exception lies behind a call (file 08 gives it): the callers' frames, abstract heap and state ahead of the call, the wish, the exception, the state -/
abbrev CXT := List Env → Hp → Shared → XK → Value → Shared → Prop

/-- the state at a call -/
structure Env0 (P : Program) (w : World) (K : PySem.W.Frag) (mg : Str → Option Value) (base : Heap) (A : Around) (outer : List Env) (s : Shared) (H : Hp) : Prop where
  frames : A.frames = some outer
  mod : Mod K mg base
  bs : ∀ b o, base.get? b = some o → s.heap.get? b = some o ∧ H b = none
  bsz : base.objs.size ≤ s.heap.objs.size
  funs : s.heap.FunFrames base outer
  frf : ∀ b ∈ frs outer, H b = none
  hok : HOk P w H s.heap
  bare : AllBare s.gens
/-- a call's end -/
def CE (outer : List Env) (P : Program) (w : World) (H : Hp) (s : Shared) (Q : VK) (u : Value) (s' : Shared) : Prop :=
  ∃ v H', s'.os = s.os ∧ AllBare s'.gens ∧ Un (frs outer) [] H H' s.heap s'.heap ∧ HOk P w H' s'.heap ∧ RelV v u ∧ Q v H'
def CR (CX : CXT) (outer : List Env) (P : Program) (w : World) (H : Hp) (s : Shared) (Q : VK) (E : XK) (r : Result) (s' : Shared) : Prop :=
  match r with
  | .ok (.ret u) => CE outer P w H s Q u s'
  | .ok _ => False
  | .error e => CX outer H s E e s'
structure FnOk (P : Program) (w : World) (K : PySem.W.Frag) (mg : Str → Option Value) (base : Heap) (CX : CXT) (k : Nat) (f : Addr) (fd : FuncData) (ps : List Str) (sp : Sp) : Prop where
  len : ∀ vs H Q E, sp vs H Q E → vs.length = ps.length
  run : ∀ (A : Around) (outer : List Env) (s : Shared) (H : Hp) (args : Args) (us : List Value) (vs : List V) (Q : VK) (E : XK), Room k A → Env0 P w K mg base A outer s H → BindsTo s fd args (ps.zip us) → Vals vs us → sp vs H Q E →
    codeAny (model P w) A (.call (.ref f) args) (CR CX outer P w H s Q E) s
theorem FnOk.mono {P : Program} {w : World} {K : PySem.W.Frag} {mg : Str → Option Value} {base : Heap} {CX : CXT} {j k : Nat} {f : Addr} {fd : FuncData} {ps : List Str} {sp : Sp} (F : FnOk P w K mg base CX j f fd ps sp) (h : j ≤ k) :
    FnOk P w K mg base CX k f fd ps sp := ⟨F.len, fun A outer s H args us vs Q E hr => F.run A outer s H args us vs Q E (hr.mono h)⟩
/-- a weaker promise -/
theorem FnOk.imp {P : Program} {w : World} {K : PySem.W.Frag} {mg : Str → Option Value} {base : Heap} {CX : CXT} {k : Nat} {f : Addr} {fd : FuncData} {ps : List Str} {sp sp' : Sp} (F : FnOk P w K mg base CX k f fd ps sp)
    (h : ∀ vs H Q E, sp' vs H Q E → sp vs H Q E) : FnOk P w K mg base CX k f fd ps sp' :=
  ⟨fun vs H Q E q => F.len vs H Q E (h _ _ _ _ q), fun A outer s H args us vs Q E hr he hb hv hs => F.run A outer s H args us vs Q E hr he hb hv (h _ _ _ _ hs)⟩

theorem Env0.make {P : Program} {w : World} {K : PySem.W.Frag} {mg : Str → Option Value} {base : Heap} {A : Around} {outer : List Env} {s : Shared} {H : Hp} (e : Env0 P w K mg base A outer s H) (C : Addr) (us : List Value) (kw : List (Str × Value)) :
    Env0 P w K mg base (A.under (.builtin "type.__call__" ⟨.ref C :: us, kw⟩)) outer s H := ⟨by first | exact e.frames | (simpa [Around.under, Code.envs, Code.isFrame, pushEnvs] using e.frames), e.mod, e.bs, e.bsz, e.funs, e.frf, e.hok, e.bare⟩
section
variable {X : Cx} {pins : List (Addr × Obj)} {σ : St} {H : Hp} {s s' : Shared}
/-- from a body: what a callee wants -/
theorem Inv.env0 (I : Inv X pins σ H s) : Env0 X.prog X.w X.K X.mg X.base X.A X.stack s H :=
  ⟨I.ok.frames, I.ok.mod, I.bs, Nat.le_trans I.ok.bsz I.sz, I.stack, I.stkFree, I.hok, I.bare⟩
/-- behind a call -/
theorem Inv.after {Q : VK} {u : Value} (I : Inv X pins σ H s) (h : CE X.stack X.prog X.w H s Q u s') : EP X pins σ Q u s' := by
  obtain ⟨v, H', os, bare, un, hok, r, q⟩ := h
  obtain ⟨hh, g, d, t, os'⟩ := s'
  obtain rfl : os' = s.os := os
  exact ⟨v, H', I.call (h' := hh) (g' := g) (d' := d) (t' := t) (ch := []) un hok bare (fun b z => absurd z (by simp)), r, q⟩
end

/-! ### calls -/
/-- how the parameters are bound: us the positional arguments, kw the keywords' values by name, ds the defaults that fill up -/
def Binds (K : PySem.W.Frag) (fd : FuncData) (ps : List Str) (ds : List Value) : Prop :=
  ∀ (s : Shared) (us : List Value), K.In s.heap → (us ++ ds).length = ps.length → BindsTo s fd ⟨us, []⟩ (ps.zip (us ++ ds))
/-- every parameter is given -/
theorem Binds.all {K : PySem.W.Frag} {fd : FuncData} {ps : List Str} (h : ∀ us : List Value, us.length = ps.length → bindArgs fd ⟨us, []⟩ = pure (ps.zip us)) : Binds K fd ps [] := fun s us _ hl => by
  rw [List.append_nil] at hl ⊢
  exact .of_eq (h us hl)

/-- an exception of a callee reaches what this body wants of exceptions -/
def Passes (CX : CXT) (X : Cx) (E : XK) : Prop := ∀ (pins : List (Addr × Obj)) (σ : St) (H : Hp) (s : Shared) (e : Value) (s' : Shared), Inv X pins σ H s → CX X.stack H s E e s' → X.xe e s'

section
variable {X : Cx} {CX : CXT} {k : Nat} {f C : Addr} {fd : FuncData} {ps : List Str} {sp : Sp} {dvs : List V} {ds : List Value} {E : XK} {x m : Str} {p pos apos : Pos} {e o : Expr} {es : List Expr} {ta : TE} {t : TA}

/-- the callee runs -/
theorem run_fn {pins : List (Addr × Obj)} {σ : St} {H : Hp} {s : Shared} {Q : VK} {us : List Value} {vs : List V} (F : FnOk X.prog X.w X.K X.mg X.base CX k f fd ps sp) (hr : Room k X.A) (hb : Binds X.K fd ps ds) (hd : Vals dvs ds) (hx : Passes CX X E)
    (I : Inv X pins σ H s) (r : Vals vs us) (h : sp (vs ++ dvs) H Q E) : wpAny (model X.prog X.w) X.A (call (.ref f) us) (EP X pins σ Q) X.xe s := by
  have r2 : Vals (vs ++ dvs) (us ++ ds) := r.append hd
  have hl : (us ++ ds).length = ps.length := by rw [← r2.length]; exact F.len _ _ _ _ h
  refine wpAny_call (codeAny_mono (F.run X.A X.stack s H ⟨us, []⟩ (us ++ ds) (vs ++ dvs) Q E hr I.env0 (hb s us I.kIn hl) r2 h) fun r s' hq => ?_)
  cases r with
  | error e => exact hx pins σ H s e s' I hq
  | ok fl =>
    cases fl with
    | ret u => exact I.after hq
    | next => exact False.elim hq
    | brk => exact False.elim hq
    | cont => exact False.elim hq

/-- what a class must have to be made -/
structure Mk (K : PySem.W.Frag) (C f : Addr) : Prop where
  makes : PySem.W.makesIn K C = true
  init : PySem.W.findIn K (.ref C) "__init__" = some (some (.ref f))
  fn : PySem.W.isFn K (.ref f) = true
  kp : PySem.W.keepIn K (.ref C) = true

end

/-! ### keywords -/
section
variable {X : Cx} {CX : CXT} {k : Nat} {f C : Addr} {fd : FuncData} {ps ks : List Str} {sp : Sp} {E : XK} {x m : Str} {p pos apos kpos : Pos} {e o : Expr} {es : List Expr} {kws : List Keyword} {te ta : TE} {t tk : TA} {nm : Option Str}
variable {g : List Value → List Value → List Value} {gV : List V → List V → List V}
end

/-! ### a def's body keeps its promise -/
/-- names: the parameters first -/
structure FnScope (N P : List Str) (sc : Scope) : Prop where
  kind : sc.kind = .function
  co : sc.isCoroutine = false
  gen : sc.isGenerator = false
  nd : N.Nodup
  pre : N.take P.length = P
  par : ∀ x ∈ P, sc.names.lookup x = some .local ∨ sc.names.lookup x = some .cell
  nofree : ∀ y ∈ sc.names, y.2 ≠ .free

theorem bindL_out {kindOf : Str → Option NameKind} {x : Str} : ∀ {binds : List (Str × Value)} {m : Str → Option Value}, (∀ v, (x, v) ∉ binds) → bindL kindOf binds m x = m x
  | [], _, _ => rfl
  | (n, v) :: r, m, h => by
    unfold bindL
    rw [bindL_out fun w hw => h w (List.mem_cons_of_mem _ hw)]
    split
    · have : x ≠ n := by rintro rfl; exact h v List.mem_cons_self
      simp [this]
    · rfl
theorem bindC_out {kindOf : Str → Option NameKind} {x : Str} : ∀ {binds : List (Str × Value)} {m : Str → Option Value}, (∀ v, (x, v) ∉ binds) → bindC kindOf binds m x = m x
  | [], _, _ => rfl
  | (n, v) :: r, m, h => by
    unfold bindC
    rw [bindC_out fun w hw => h w (List.mem_cons_of_mem _ hw)]
    split
    · rfl
    · have : x ≠ n := by rintro rfl; exact h v List.mem_cons_self
      simp [this]
theorem bindL_get {kindOf : Str → Option NameKind} {x : Str} {v : Value} : ∀ {P : List Str} {vs : List Value} {i : Nat} {m : Str → Option Value}, P.Nodup → P[i]? = some x → vs[i]? = some v → kindOf x = some .local →
    bindL kindOf (P.zip vs) m x = some v
  | [], _, _, _, _, h, _, _ => by simp at h
  | _ :: _, [], _, _, _, _, h, _ => by simp at h
  | p :: P, w :: vs, 0, m, nd, h1, h2, hk => by
    simp at h1 h2; subst h1; subst h2
    show bindL kindOf ((p, w) :: P.zip vs) m p = _
    unfold bindL
    rw [bindL_out fun v hv => (List.nodup_cons.mp nd).1 (List.of_mem_zip hv).1, if_pos hk]
    simp
  | p :: P, w :: vs, i + 1, m, nd, h1, h2, hk => by
    show bindL kindOf ((p, w) :: P.zip vs) m x = _
    unfold bindL
    exact bindL_get (i := i) (List.nodup_cons.mp nd).2 (by simpa using h1) (by simpa using h2) hk
theorem bindC_get {kindOf : Str → Option NameKind} {x : Str} {v : Value} : ∀ {P : List Str} {vs : List Value} {i : Nat} {m : Str → Option Value}, P.Nodup → P[i]? = some x → vs[i]? = some v → kindOf x ≠ some .local →
    bindC kindOf (P.zip vs) m x = some v
  | [], _, _, _, _, h, _, _ => by simp at h
  | _ :: _, [], _, _, _, _, h, _ => by simp at h
  | p :: P, w :: vs, 0, m, nd, h1, h2, hk => by
    simp at h1 h2; subst h1; subst h2
    show bindC kindOf ((p, w) :: P.zip vs) m p = _
    unfold bindC
    rw [bindC_out fun v hv => (List.nodup_cons.mp nd).1 (List.of_mem_zip hv).1, if_neg hk]
    simp
  | p :: P, w :: vs, i + 1, m, nd, h1, h2, hk => by
    show bindC kindOf ((p, w) :: P.zip vs) m x = _
    unfold bindC
    exact bindC_get (i := i) (List.nodup_cons.mp nd).2 (by simpa using h1) (by simpa using h2) hk

/-- the names' values at the entry -/
def start (N : List Str) (vs : List V) : St := vs.map some ++ List.replicate (N.length - vs.length) none

/-- the context of a def's body, at its entry; an exception leaves the frame, then lies as CX says -/
def cxOf (CX : CXT) (P : Program) (w : World) (K : PySem.W.Frag) (mg : Str → Option Value) (base : Heap) (N : List Str) (qual : Str) (scope : Scope) (f : Addr) (cd : Value) (A : Around) (outer : List Env) (s : Shared) (H : Hp) (E : XK) : Cx where
  prog := P
  w := w
  K := K
  mg := mg
  base := base
  A := A.deeper (envOfC qual scope s.heap.objs.size f cd)
  N := N
  s₀ := s
  H₀ := H
  env := envOfC qual scope s.heap.objs.size f cd
  outer := outer
  stack := envOfC qual scope s.heap.objs.size f cd :: outer
  ex := []
  calm := true
  fn := fun _ => true
  pn := []
  xe := fun e s' => wpAny (model P w) (A.deeper (envOfC qual scope s.heap.objs.size f cd)) (leaving (envOfC qual scope s.heap.objs.size f cd) e) (fun _ s'' => CX outer H s E e s'') (fun e' s'' => CX outer H s E e' s'') s'

theorem cell_has {sc : Scope} {n : Nat} {x : Str} (h : sc.names.lookup x = some .cell) : ∃ c, (cellsFrom n sc.names []).lookup x = some c := by
  have q := PySem.W.cellsFrom_some sc.names n [] (.inl h)
  exact Option.isSome_iff_exists.mp q

theorem inv_start {CX : CXT} {P : Program} {w : World} {K : PySem.W.Frag} {mg : Str → Option Value} {base : Heap} {N ps : List Str} {qual : Str} {scope : Scope} {f : Addr} {cd : Value} {A : Around} {outer : List Env} {s s1 : Shared} {H : Hp} {E : XK} {us : List Value} {vs : List V}
    (S : FnScope N ps scope) (hd : A.handled = none) (e0 : Env0 P w K mg base A outer s H) (hl : vs.length = ps.length) (r : Vals vs us)
    (x : InCallC s s.heap.objs.size (bindL (envOfC qual scope s.heap.objs.size f cd).kindOf (ps.zip us) fun _ => none) (cellsFrom (s.heap.objs.size + 1) scope.names []) (bindC (envOfC qual scope s.heap.objs.size f cd).kindOf (ps.zip us) fun _ => none) s1) :
    Inv (cxOf CX P w K mg base N qual scope f cd A outer s H E) [] (start N vs) H s1 := by
  have hpl : ps.length ≤ N.length := by have := congrArg List.length S.pre; rw [List.length_take] at this; omega
  obtain ⟨h1, tk, rfl, hk⟩ := x.done
  have noA : ∀ b : Addr, b ∉ (cxOf CX P w K mg base N qual scope f cd A outer s H E).ex := fun b z => absurd (show b ∈ ([] : List Addr) from z) (by simp)
  refine ⟨⟨e0.mod, S.kind, rfl, rfl, Nat.le_refl _, fun y z c h1 h2 => ?_, fun y hy => ?_, fun y c _ h => ?_, fun _ => hd, Around.frames_deeper e0.frames, .inr ⟨rfl, rfl⟩, fun b z => absurd z (noA b), e0.bs, e0.bsz, fun b _ _ => noA b, fun b z => absurd z (noA b), e0.funs, e0.frf⟩,
    rfl, e0.bare, Un.kept hk, ⟨_, x.toInCall.ns, fun i y v h1 h2 h3 => ?_⟩, fun y c h => ⟨_, x.cell y c h⟩, e0.hok.fresh (Nat.le_refl _), fun y c h => ?_, fun p hp => absurd (show p ∈ ([] : List (Addr × Obj)) from hp) (by simp), e0.hok.kept hk, ?_⟩
  · exact name_of_addr x.apart (PySem.mem_of_lookup h1) (PySem.mem_of_lookup h2)
  · have hy : scope.names.lookup y = some .cell ∨ scope.names.lookup y = some .free := hy
    rcases hy with hy | hy
    · exact cell_has hy
    · exact absurd rfl (S.nofree _ (PySem.mem_of_lookup hy))
  · exact Nat.le_of_lt (x.above y c (PySem.mem_of_lookup h))
  · have hi : i < vs.length := by
      unfold start at h2
      by_cases hi : i < vs.length
      · exact hi
      · rw [List.getElem?_append_right (by simpa using hi)] at h2
        rw [List.getElem?_replicate] at h2
        split at h2 <;> cases h2
    have ha : vs[i]? = some v := by
      unfold start at h2
      rw [List.getElem?_append_left (by simpa using hi), List.getElem?_map] at h2
      cases e : vs[i]? with
      | none => rw [e] at h2; cases h2
      | some a => rw [e] at h2; cases h2; rfl
    obtain ⟨u, hu, rv⟩ := r.get ha
    have hp : ps[i]? = some y := by
      rw [← S.pre, List.getElem?_take_of_lt (by omega)]; exact h1
    have ndP : ps.Nodup := by rw [← S.pre]; exact S.nd.sublist (List.take_sublist _ _)
    refine ⟨u, rv, ?_⟩
    rcases S.par y (List.mem_of_getElem? hp) with k | k
    · exact .inl ⟨k, bindL_get ndP hp hu k⟩
    · obtain ⟨c, e⟩ := cell_has (n := s.heap.objs.size + 1) k
      refine .inr ⟨.inl k, c, e, ?_⟩
      have q := x.cell y c e
      rw [bindC_get ndP hp hu (by show scope.names.lookup y ≠ _; rw [k]; decide)] at q
      exact q
  · exact e0.hok.fresh (Nat.le_of_lt (x.above y c (PySem.mem_of_lookup h)))
  · unfold start
    show _ = N.length
    rw [List.length_append, List.length_map, List.length_replicate]
    omega

/-- THE RULE: a def (or a method) of the text, by its body. The body's reading t is chosen for each entry; it is run at the parameters' values -/
theorem fn_of {CX : CXT} {P : Program} {w : World} {K : PySem.W.Frag} {mg : Str → Option Value} {base : Heap} {k : Nat} {f : Addr} {name qual : Str} {params : Arguments} {body : List Stmt} {scope : Scope} {dV kV doc pm cdv ct oc : Value} {an od : Option Addr}
    {osl : Array (Option Value)} {N ps : List Str} {sp : Sp} (lk : K.lookup f = some ⟨oc, od, .func (PySem.W.fnOf name qual params body scope dV kV doc pm an cdv ct), osl⟩) (hcd : PySem.W.codeIn K cdv qual = true) (S : FnScope N ps scope)
    (len : ∀ vs H Q E, sp vs H Q E → vs.length = ps.length)
    (hbody : ∀ (A : Around) (outer : List Env) (s : Shared) (H : Hp) (vs : List V) (Q : VK) (E : XK), Room k (A.deeper (envOfC qual scope s.heap.objs.size f cdv)) → sp vs H Q E →
      ∃ t, PSs (cxOf CX P w K mg base N qual scope f cdv A outer s H E) body t ∧ t { nx := fun _ H' => Q .non H', rt := Q } (start N vs) H) :
    FnOk P w K mg base CX (k + 1) f (PySem.W.fnOf name qual params body scope dV kV doc pm an cdv ct) ps sp := by
  refine ⟨len, fun A outer s H args us vs Q E hr e0 hb r hsp => ?_⟩
  have hl := len _ _ _ _ hsp
  have KX : K.In s.heap := e0.mod.kin.keeps fun b o e => (e0.bs b o e).1
  have lim : s.heap.NoLimit := e0.mod.nolimit.keeps fun b o e => (e0.bs b o e).1
  have hkind : ∀ y ∈ ps.zip us, scope.names.lookup y.1 = some .local ∨ (scope.names.lookup y.1 = some .cell ∧ ((cellsFrom (s.heap.objs.size + 1) scope.names []).lookup y.1).isSome = true) := fun ⟨n, v⟩ hy => by
    rcases S.par n (List.of_mem_zip hy).1 with q | q
    · exact .inl q
    · exact .inr ⟨q, PySem.W.cellsFrom_some _ _ _ (.inl q)⟩
  refine codeAny_call_function hr.depth (KX _ _ lk) rfl S.co S.gen rfl (PySem.W.codeRec_of KX hcd) (hb _ _ _ _ ?_)
  refine wpAny_newFunctionEnv_cells S.kind hkind fun env he s1 x => ?_
  subst he
  refine ⟨lim.keeps x.toInCall.keep, codeAny_func ?_⟩
  obtain ⟨t, ht, hq⟩ := hbody A outer s H vs Q E (hr.deeper _) hsp
  have I : Inv (cxOf CX P w K mg base N qual scope f cdv A outer s H E) [] (start N vs) H s1 := inv_start S hr.hd e0 hl r x
  refine wpAny_mono (ht [] s1 (start N vs) H _ I hq) (fun fl s' hs => ?_) fun e s' hs => hs
  have fin : ∀ {σ' : St} {H' : Hp} {v : V} {u : Value}, Inv (cxOf CX P w K mg base N qual scope f cdv A outer s H E) [] σ' H' s' → RelV v u → Q v H' → CE outer P w H s Q u s' :=
    fun {σ' H' v u} J rv q => ⟨v, H', J.os, J.bare, J.base, J.hok, rv, q⟩
  cases fl with
  | ret u =>
    obtain ⟨v, σ', H', J, rv, q⟩ := hs
    exact fin J rv q
  | next =>
    obtain ⟨σ', H', J, q⟩ := hs
    exact fin (v := V.non) (u := Value.none) J rfl q
  | brk =>
    obtain ⟨_, _, _, q⟩ := hs
    exact False.elim q
  | cont =>
    obtain ⟨_, _, _, q⟩ := hs
    exact False.elim q
end L2

namespace L2
open PySem PySem.Spec PyProof.Rows
section
variable {X : Cx} {x : Str} {p pos : Pos} {e : Expr} {es : List Expr} {t : TA} {id T : String} {r : List V → Hp → VK → Prop}

end
end L2

namespace HT
open PySem PyProof.Rows

theorem eqAt_int (A : Around) (s : Shared) (a : Int) (t : Tok) (c : Int) (u : Tok) : ∃ e, SeqAt.EqAt A s (.int a t) (.int c u) e ∧ (e = true ↔ a = c) :=
  ⟨(a == c), SeqAt.EqAt.int_int a t c u, by simp⟩
section
open PySem.SeqAt
open PySem.AutoSeq1 (wpAny_loadPart')
open PySem.MeetsSeq PySem.MeetsSeq2 PySem.MeetsSeq3

end

section
variable {prog : Program} {w : World} {A : Around} {E : Value → Shared → Prop} {s : Shared}

/-! ### t[a:b], not the whole -/
/-- a slice's bound as a place among n (d where it is left out) -/
def sIx (n d : Nat) : Option Int → Nat
  | none => d
  | some v => if v < 0 then (v + (n : Int)).toNat else min v.toNat n
end
end HT

namespace L2
open PySem PySem.Spec PyProof.Rows

/-! ### the parts of a slice -/
abbrev TO := St → Hp → (Option Int → Hp → Prop) → Prop
theorem intsAre_of {ns : List Int} : ∀ {us : List Value}, Vals (ns.map V.int) us → IntsAre us ns := by
  induction ns with
  | nil => intro us r; rw [List.map_nil] at r; cases r; exact .nil
  | cons n ns ih =>
    intro us r
    rw [List.map_cons] at r
    cases r with
    | cons r1 r2 =>
      obtain ⟨t, e⟩ := r1
      subst e
      exact .cons n t (ih r2)

section
variable {X : Cx} {e : Expr} {te : TE} {lo hi : Option Expr} {tl th : TO} {pos p2 : Pos}

/-- what a slice of a value is, by values: the slice object stands at sl -/
def SlR (X : Cx) (r : V → Option Int → Option Int → Hp → VK → Prop) : Prop :=
  ∀ (pins : List (Addr × Obj)) (s : Shared) (σ : St) (H : Hp) (x : V) (v vl vu : Value) (lo hi : Option Int) (sl : Addr) (Q : VK), Inv X pins σ H s → RelV x v → s.heap.IsSliceOf sl vl vu .none → IsPart vl lo → IsPart vu hi → r x lo hi H Q →
    ∃ T id, typeLookup (.type T) "__getitem__" = pure (some (.builtin id)) ∧ s.TypeIs v T ∧ wpAny (model X.prog X.w) X.A (getItem v (.ref sl)) (EP X pins σ Q) X.xe s
/-- the items of xs[lo:hi] -/
def cutV (xs : List V) (lo hi : Option Int) : List V := (xs.drop (HT.sIx xs.length 0 lo)).take (HT.sIx xs.length xs.length hi - HT.sIx xs.length 0 lo)
theorem cutV_length (xs : List V) (lo hi : Option Int) : (cutV xs lo hi).length ≤ xs.length := by
  unfold cutV
  rw [List.length_take, List.length_drop]
  omega
/-! ### t < u, t + u -/
end
end L2

namespace L2
open PySem PySem.Spec PyProof.Rows

/-! ### places -/
/-- the place that an index of any sign means -/
def ixN (n : Nat) (i : Int) : Option Nat := if 0 ≤ i then (if i < n then some i.toNat else none) else if -(n : Int) ≤ i then some (i + n).toNat else none
def atI {α : Type} (xs : List α) (i : Int) : Option α := (ixN xs.length i).bind fun j => xs[j]?
theorem ixN_seq {n : Nat} {i : Int} {j : Nat} (h : ixN n i = some j) : seqIndex? i n = some j ∧ j < n ∧ -(n : Int) ≤ i ∧ i < n := by
  unfold ixN at h
  by_cases h0 : 0 ≤ i
  · rw [if_pos h0] at h
    by_cases h1 : i < n
    · rw [if_pos h1] at h
      have e : i.toNat = j := Option.some.inj h
      exact ⟨by rw [seqIndex_of h0 h1, e], by omega, by omega, h1⟩
    · rw [if_neg h1] at h; cases h
  · rw [if_neg h0] at h
    by_cases h1 : -(n : Int) ≤ i
    · rw [if_pos h1] at h
      have e : (i + n).toNat = j := Option.some.inj h
      exact ⟨by rw [seqIndex_neg (by omega) h1, e], by omega, h1, by omega⟩
    · rw [if_neg h1] at h; cases h
theorem atI_get {α : Type} {xs : List α} {i : Int} {v : α} (h : atI xs i = some v) : ∃ j, seqIndex? i xs.length = some j ∧ xs[j]? = some v ∧ j < xs.length ∧ -(xs.length : Int) ≤ i ∧ i < xs.length := by
  unfold atI at h
  cases e : ixN xs.length i with
  | none => rw [e] at h; cases h
  | some j =>
    rw [e] at h
    obtain ⟨h1, h2, h3, h4⟩ := ixN_seq e
    exact ⟨j, h1, h, h2, h3, h4⟩
theorem atI_nat {α : Type} {xs : List α} {j : Nat} {v : α} (h : xs[j]? = some v) : atI xs (j : Int) = some v := by
  have hj : j < xs.length := (List.getElem?_eq_some_iff.mp h).1
  have e : ixN xs.length (j : Int) = some j := by
    unfold ixN
    rw [if_pos (by omega), if_pos (by omega)]; simp
  unfold atI; rw [e]; exact h
/-! ### what may be subscripted -/
/-- what stands as an index of a plain subscript -/
def PlainIx (b : Expr) : Prop := ∀ o i, subscripted b false o i = operate [o, i] (getItem o i)
/-- a subscript by values -/
def IxR (X : Cx) (r : R2) : Prop :=
  ∀ (value slice : Expr) (pins : List (Addr × Obj)) (s : Shared) (σ : St) (H : Hp) (x y : V) (v u : Value) (Q : VK), Inv X pins σ H s → RelV x v → RelV y u → r x y H Q →
    subscripted slice false v u = operate [v, u] (getItem v u) → wpAny (model X.prog X.w) X.A (subscriptTail value slice v u) (EP X pins σ Q) X.xe s
/-- a call of a builtin's method by values: the receiver, the arguments -/
def MtR (X : Cx) (id : String) (r : V → List V → Hp → VK → Prop) : Prop :=
  ∀ (pins : List (Addr × Obj)) (s : Shared) (σ : St) (H : Hp) (x : V) (xs : List V) (v : Value) (us : List Value) (Q : VK), Inv X pins σ H s → RelV x v → Vals xs us → r x xs H Q →
    wpAny (model X.prog X.w) X.A (call (.builtin id) (v :: us)) (EP X pins σ Q) X.xe s
section
variable {X : Cx} {a b : Expr} {ta tb : TE} {pos : Pos}
theorem IxR.or {r r' : R2} (h : IxR X r) (h' : IxR X r') : IxR X (fun x y H Q => r x y H Q ∨ r' x y H Q) := by
  intro value slice pins s σ H x y v u Q I rx ry q hs
  rcases q with q | q
  · exact h value slice pins s σ H x y v u Q I rx ry q hs
  · exact h' value slice pins s σ H x y v u Q I rx ry q hs
def rIxL (K : PySem.W.Frag) : R2 := fun x y H Q => ∃ p xs i v, x = .ref p ∧ y = .int i ∧ SqL K H p xs ∧ atI xs i = some v ∧ Q v H
def rIxT (K : PySem.W.Frag) : R2 := fun x y H Q => ∃ p xs i v, x = .ref p ∧ y = .int i ∧ SqT K H p xs ∧ atI xs i = some v ∧ Q v H
def rIxS : R2 := fun x y H Q => ∃ z i c, x = .str z ∧ y = .int i ∧ z.length ≤ sizeLine ∧ atI z.cps.toList i = some c ∧ Q (.str ⟨#[c]⟩) H
theorem ix_list : IxR X (rIxL X.K) := by
  intro value slice pins s σ H x y v u Q I rx ry h hs
  obtain ⟨p, xs, i, z, rfl, rfl, hq, he, q⟩ := h
  cases rx
  obtain ⟨t, rfl⟩ := ry
  obtain ⟨its, r, pl, hz⟩ := I.list hq
  obtain ⟨j, h1, h2, h3, h4, h5⟩ := atI_get he
  obtain ⟨w, ew, rw'⟩ := r.get h2
  have hl := r.length
  have hn := line63
  have fin : EP X pins σ Q w s := ⟨z, H, I, rw', q⟩
  by_cases h0 : 0 ≤ i
  · have hj : i.toNat = j := by
      rw [seqIndex_of h0 h5] at h1
      exact Option.some.inj h1
    exact item_listR pl.isList h0 (by omega) (by rw [hj]; simpa using ew) fin hs
  · have hj : (i + (its.toArray.size : Int)).toNat = j := by
      rw [seqIndex_neg (by omega) h4] at h1
      rw [List.size_toArray, ← hl]
      exact Option.some.inj h1
    exact subscriptTail_builtinR (x := w) pl.isList.typeIs slot_list_getitem.lookup
      (wpAny_getItem_list_neg (Q := fun r s' => r = w ∧ EP X pins σ Q r s') pl.isList (by omega) (by rw [List.size_toArray] <;> omega) (by omega) (by rw [hj]; simpa using ew) ⟨rfl, fin⟩) hs
theorem ix_tup : IxR X (rIxT X.K) := by
  intro value slice pins s σ H x y v u Q I rx ry h hs
  obtain ⟨p, xs, i, z, rfl, rfl, hq, he, q⟩ := h
  cases rx
  obtain ⟨t, rfl⟩ := ry
  obtain ⟨its, r, pl, hz⟩ := I.tuple hq
  obtain ⟨j, h1, h2, h3, h4, h5⟩ := atI_get he
  obtain ⟨w, ew, rw'⟩ := r.get h2
  have hl := r.length
  have hn := line63
  have fin : EP X pins σ Q w s := ⟨z, H, I, rw', q⟩
  exact subscriptTail_builtinR (x := w) pl.typeIs slot_tuple_getitem.lookup
    (getItem_tuple (j := j) (Q := fun r s' => r = w ∧ EP X pins σ Q r s') pl (by omega) (by omega) (by rw [List.size_toArray, ← hl]; exact h1) (by simpa using ew) ⟨rfl, fin⟩) hs
theorem ix_str : IxR X rIxS := by
  intro value slice pins s σ H x y v u Q I rx ry h hs
  obtain ⟨z, i, c, rfl, rfl, hz, he, q⟩ := h
  obtain ⟨t, rfl⟩ := rx
  obtain ⟨t', rfl⟩ := ry
  obtain ⟨j, h1, h2, h3, h4, h5⟩ := atI_get he
  have hl : z.cps.toList.length = z.length := by simp [Str.length]
  rw [hl] at h1 h4 h5
  have hn := line63
  exact tail_any (typeIs_str s z t) slot_str_getitem.lookup (getItem_str (c := c) (by
    have e1 : decide (i < -(2 ^ 63 : Int)) = false := decide_eq_false (by omega)
    have e2 : decide (i ≥ 2 ^ 63) = false := decide_eq_false (by omega)
    rw [e1, e2, Bool.or_false]) (by rw [h1]; simpa using h2) ⟨.str ⟨#[c]⟩, H, I.tok _, ⟨_, rfl⟩, q⟩) hs
/-- list, tuple or str -/
def rIx (K : PySem.W.Frag) : R2 := fun x y H Q => rIxL K x y H Q ∨ rIxT K x y H Q ∨ rIxS x y H Q
theorem ix_seq : IxR X (rIx X.K) := ix_list.or (ix_tup.or ix_str)

/-! ### xs[i] = v, any sign -/
/-! ### slices -/
theorem slice_bounds (lo hi : Option Int) (n : Nat) : (sliceBounds lo hi none n).1 = ((HT.sIx n 0 lo : Nat) : Int) ∧ (sliceBounds lo hi none n).2.1 = ((HT.sIx n n hi : Nat) : Int) ∧ (sliceBounds lo hi none n).2.2 = 1 := by
  refine ⟨?_, ?_, rfl⟩
  · cases lo with
    | none => simp [sliceBounds, HT.sIx]
    | some i =>
      simp only [sliceBounds, HT.sIx, Option.getD_none, show (1 : Int) > 0 by decide, if_true]
      by_cases h : i < 0
      · simp only [h, if_true] <;> omega
      · simp only [h, if_false] <;> omega
  · cases hi with
    | none => simp [sliceBounds, HT.sIx]
    | some i =>
      simp only [sliceBounds, HT.sIx, Option.getD_none, show (1 : Int) > 0 by decide, if_true]
      by_cases h : i < 0
      · simp only [h, if_true] <;> omega
      · simp only [h, if_false] <;> omega
theorem slicePick_cut (its : List Value) (lo hi : Option Int) : slicePick its.toArray lo hi none = ((its.drop (HT.sIx its.length 0 lo)).take (HT.sIx its.length its.length hi - HT.sIx its.length 0 lo)).toArray := by
  obtain ⟨h1, h2, h3⟩ := slice_bounds lo hi its.toArray.size
  unfold slicePick
  rw [h1, h2, h3]
  simp only [sliceRange_one, pick_run, List.size_toArray] <;> rfl
/-- xs[lo:hi] of a list: a new list -/
def rSlL (K : PySem.W.Frag) : V → Option Int → Option Int → Hp → VK → Prop := fun x lo hi H Q => ∃ a xs, x = .ref a ∧ SqL K H a xs ∧ ∀ p, H p = none → Q (.ref p) (upd H p (.lst (cutV xs lo hi)))
theorem sl_list : SlR X (rSlL X.K) := by
  intro pins s σ H x v vl vu lo hi sl Q I rx hs pl pu h
  obtain ⟨a, xs, rfl, hx, q⟩ := h
  cases rx
  obtain ⟨its, r, ht, hz⟩ := I.list hx
  have hlen := r.length
  refine ⟨"list", _, slot_list_getitem.lookup, ht.isList.typeIs, ?_⟩
  refine wpAny_getItem_list_slice ht.isList hs pl pu .none (by simp) ?_ (by rw [List.size_toArray] <;> omega)
  rw [slicePick_cut, ← hlen]
  refine ⟨.ref s.heap.objs.size, _, I.laid (t' := s.toks) (o := .lst (cutV xs lo hi)) (fun b ob q => Heap.get?_push_of_some _ q) (Nat.le_refl _) ?_, rfl, q _ (I.hok.fresh (Nat.le_refl _))⟩
  exact ⟨Nat.le_trans (cutV_length xs lo hi) hz, _, 0, (r.drop (HT.sIx xs.length 0 lo)).take (HT.sIx xs.length xs.length hi - HT.sIx xs.length 0 lo), Heap.get?_push_size _ rfl⟩

/-! ### in, not in: flat items -/
/-! ### len, list(x), tuple(x) of any list or tuple that is read -/
theorem call_len_seq : CallR X (.builtin "len") (fun xs H Q => ∃ p ys, xs = [.ref p] ∧ (SqL X.K H p ys ∨ SqT X.K H p ys) ∧ Q (.int ys.length) H) := by
  intro pins s σ H xs us Q I r h
  obtain ⟨p, ys, rfl, hq, q⟩ := h
  obtain ⟨u, rfl, rx⟩ := vals1 r
  cases rx
  have hn := line63
  rcases hq with hq | hq
  · obtain ⟨its, r', pl, hz⟩ := I.list hq
    have hlen := r'.length
    exact Calls.call_len_list pl.isList (by simp only [List.size_toArray] <;> omega) ⟨.int ys.length, H, I.tok _, ⟨s.toks + 1, by rw [List.size_toArray, hlen]⟩, q⟩
  · obtain ⟨its, r', pl, hz⟩ := I.tuple hq
    have hlen := r'.length
    exact len_tuple pl (by simp only [List.size_toArray] <;> omega) ⟨.int ys.length, H, I.tok _, ⟨s.toks + 1, by rw [List.size_toArray, hlen]⟩, q⟩
theorem call_len_str : CallR X (.builtin "len") (fun xs H Q => ∃ z, xs = [.str z] ∧ z.length ≤ sizeLine ∧ Q (.int z.length) H) := by
  intro pins s σ H xs us Q I r h
  obtain ⟨z, rfl, hz, q⟩ := h
  obtain ⟨u, rfl, t, rfl⟩ := vals1 r
  have hn := line63
  exact len_str (by omega) ⟨.int z.length, H, I.tok _, ⟨_, rfl⟩, q⟩
theorem CallR.or {f : Value} {r r' : List V → Hp → VK → Prop} (h : CallR X f r) (h' : CallR X f r') : CallR X f (fun xs H Q => r xs H Q ∨ r' xs H Q) := by
  intro pins s σ H xs us Q I rs q
  rcases q with q | q
  · exact h pins s σ H xs us Q I rs q
  · exact h' pins s σ H xs us Q I rs q
/-! ### the call of a builtin's method: o.m(..) -/
variable {o e : Expr} {es : List Expr} {to : TE} {t : TA} {name : Str} {apos cpos : Pos} {T id : String} {r : V → List V → Hp → VK → Prop}
/- xs.append(e), list.index on a module's tuple .. are MtR facts of 06m -/
end
end L2

namespace L2
open PySem PySem.Spec PyProof.Rows

def MtM (X : Cx) (id : String) (r : V → List V → Hp → VK → Prop) : Prop :=
  ∀ (pins : List (Addr × Obj)) (s : Shared) (σ : St) (H : Hp) (x : V) (xs : List V) (v : Value) (us : List Value) (Q : VK), Inv X pins σ H s → RelV x v → Vals xs us → r x xs H Q →
    wpAny (model X.prog X.w) X.A (call (.builtin id) (v :: us)) (EP X pins σ Q) X.xe s

/-! ### lists of values -/
theorem Vals.one {x : V} {us : List Value} (h : Vals [x] us) : ∃ u, us = [u] ∧ RelV x u := by
  cases h with
  | cons r t =>
    cases t
    exact ⟨_, rfl, r⟩
theorem Vals.two {x y : V} {us : List Value} (h : Vals [x, y] us) : ∃ u v, us = [u, v] ∧ RelV x u ∧ RelV y v := by
  cases h with
  | cons r t =>
    cases t with
    | cons q t' =>
      cases t'
      exact ⟨_, _, rfl, r, q⟩
section
variable {X : Cx} {pins : List (Addr × Obj)} {σ : St} {H : Hp} {s : Shared} {l b : Addr} {xs ys zs : List V}

/-! ### the two steps: a tracked list is rewritten, a new list is laid -/
theorem Inv.lset {its its' : List Value} {n : Nat} {f : Array Value → Array Value} {t' : Nat} (I : Inv X pins σ H s) (hH : H l = some (.lst xs))
    (e : s.heap.get? l = some { cls := .type "list", data := .seq its.toArray n }) (hf : f its.toArray = its'.toArray) (hv : Vals ys its') (hz : ys.length ≤ sizeLine) :
    Inv X pins σ (upd H l (.lst ys)) { s with heap := s.heap.update l (Obj.mapSeq f), toks := t' } := by
  have q := PySem.IsL.update e f
  rw [hf] at q
  refine I.write (x := l) (e := l) (by rw [hH]; exact trivial) (.inl rfl) (fun b' u hb hu => (Heap.get?_update_other s.heap (Obj.mapSeq f) (Ne.symm hb)).trans hu) ⟨_, q⟩ ?_
  exact ⟨hz, its', _, hv, q⟩
theorem Inv.lnew {its : List Value} {t' : Nat} (I : Inv X pins σ H s) (hv : Vals ys its) (hz : ys.length ≤ sizeLine) :
    Inv X pins σ (upd H s.heap.objs.size (.lst ys)) { s with heap := s.heap.push { cls := .type "list", data := .seq its.toArray }, toks := t' } :=
  I.laid (fun _ _ q => Heap.get?_push_of_some _ q) (Nat.le_refl _) ⟨hz, its, 0, hv, Heap.get?_push_size _ rfl⟩
theorem Inv.fresh (I : Inv X pins σ H s) : H s.heap.objs.size = none := I.hok.fresh (Nat.le_refl _)
theorem Inv.lstM (I : Inv X pins σ H s) (hH : H l = some (.lst xs)) : xs.length ≤ sizeLine ∧ ∃ (its : List Value) (n : Nat), Vals xs its ∧ xs.length = its.length ∧ s.heap.get? l = some { cls := .type "list", data := .seq its.toArray n } := by
  obtain ⟨z, its, n, r, e⟩ := I.hok l _ hH
  exact ⟨z, its, n, r, r.length, e⟩

end

section
variable {X : Cx}

/-! ### methods -/
def rAppend : V → List V → Hp → VK → Prop := fun x vs H Q => ∃ l xs y, x = .ref l ∧ vs = [y] ∧ H l = some (.lst xs) ∧ xs.length < sizeLine ∧ Q .non (upd H l (.lst (xs ++ [y])))
theorem mt_append : MtM X "list.append" rAppend := by
  intro pins s σ H x vs v us Q I rx rv h
  obtain ⟨l, xs, y, rfl, rfl, hH, hz, q⟩ := h
  cases rx
  obtain ⟨u, rfl, ru⟩ := rv.one
  obtain ⟨z, its, n, r, hl, e⟩ := I.lstM hH
  refine call_meets F.slot_list_append ⟨_, e, rfl⟩ F.entry_list_append (F.args_list_append_2 _ _) (PySem.list_append l its.toArray n u (by rw [List.size_toArray]; omega)) ⟨e, ?_⟩
  refine ⟨.non, _, I.lset (its' := its ++ [u]) hH e (by simp) (r.append (.cons ru .nil)) ?_, rfl, q⟩
  rw [List.length_append, List.length_singleton]
  omega

/-! ### list + list, list += list, list * int -/
def rCat : R2 := fun x y H Q => ∃ l b xs zs, x = .ref l ∧ y = .ref b ∧ H l = some (.lst xs) ∧ H b = some (.lst zs) ∧ xs.length + zs.length ≤ sizeLine ∧ ∀ p, H p = none → Q (.ref p) (upd H p (.lst (xs ++ zs)))
theorem op_cat : OpR X (binaryOp .Add) rCat := by
  intro pins s σ H x y v u Q I rx ry h
  obtain ⟨l, b, xs, zs, rfl, rfl, hH, hB, hz, q⟩ := h
  cases rx
  cases ry
  obtain ⟨z, its, n, r, hl, e⟩ := I.lstM hH
  obtain ⟨z2, its2, n2, r2, hl2, e2⟩ := I.lstM hB
  refine PySem.P.add_list e e2 ?_ (by rw [List.size_toArray, List.size_toArray]; omega)
  have ea : its.toArray ++ its2.toArray = (its ++ its2).toArray := by simp
  rw [ea]
  exact ⟨.ref _, _, I.lnew (t' := s.toks) (r.append r2) (by rw [List.length_append]; omega), rfl, q _ I.fresh⟩
/-! ### del xs[i] -/
end

/-! ### xs[a:b] = ys -/
section
variable {prog : Program} {w : World} {A : Around} {E : Value → Shared → Prop} {s : Shared}
set_option maxRecDepth 100000 in
end

section
variable {X : Cx}
end
end L2

namespace Att
open PySem PySem.W PySem.Calls PyProof.Rows

/-! ### the script -/
theorem ints_of_wellAll {P : Params} {h : Heap} : ∀ (ns : List Int) (vs : List Value), WellAll P h vs (ns.map WData.int) → IntsAre vs ns := by
  intro ns
  induction ns with
  | nil =>
    intro vs w
    rw [List.map_nil] at w
    cases w
    exact .nil
  | cons n ns ih =>
    intro vs w
    rw [List.map_cons] at w
    cases w with
    | cons a b =>
      cases a
      exact .cons _ _ (ih _ b)

theorem script_of {l : OpenLaw} {n : Nat} (hn : l.most = some n) {P : Params} {h : Heap} {args : List WData} {vals : List Value}
    (hpre : l.row.toRowW.claim.pre args = true) (hwl : WellAll P h vals args) :
    ∃ a vs ns, vals = [Value.ref a] ∧ args = [WData.list (ns.map WData.int)] ∧ h.get? a = some { cls := .type "list", data := .seq vs.toArray } ∧ IntsAre vs ns ∧ ns.length ≤ n := by
  have hsh : WShape.hasAll [] args [.list .int] = true := (pre_splitW hpre).1
  have hc : l.pre.holds [] { args := args } = true := (pre_splitW hpre).2
  obtain ⟨d, r, rfl, h1, h2⟩ := hasAllW_cons hsh
  obtain rfl := hasAllW_nil h2
  obtain ⟨xs, rfl, h3⟩ := hasW_list h1
  obtain ⟨ns, rfl⟩ := items_int h3
  have hlen : ns.length ≤ n := by
    unfold OpenLaw.pre at hc
    have h4 : (WTm.not (.lt (.lit (.int (n : Int))) (.len (.arg 0)))).holds [] { args := [.list (ns.map .int)] } = true := by
      have h4 := (holds_andW hc).1
      rw [hn] at h4
      exact h4
    have h5 := condW_of h4 (w_not (w_lt w_lit (w_len_list (w_arg rfl))))
    rw [List.length_map] at h5
    refine Nat.le_of_not_lt fun q => ?_
    have q' : (n : Int) < ((ns.length : Nat) : Int) := by omega
    first
      | (rw [decide_eq_true q'] at h5; exact absurd h5 (by decide))
      | (simp at h5; omega)
  cases hwl with
  | cons w1 w2 =>
    cases w2
    cases w1 with
    | list ho hall => exact ⟨_, _, ns, rfl, rfl, ho, ints_of_wellAll ns _ hall, hlen⟩

theorem post_true (l : OpenLaw) (args : List WData) : l.row.toRowW.claim.post args (.bool true) args = true :=
  postW_of (r := l.row.toRowW) (X := (true == true))
    (show WShape.has [] (.bool true) .bool = true by first | rfl | decide | simp [WShape.has, WShape.arms, WShape.armsAll])
    (show (WTm.eq .res (.lit (.bool true))).value [] { args := args, res := some (.bool true), after := args } = some (.bool (true == true)) from w_eq_bool (w_res rfl) w_lit) rfl

/-! ### the attachment: holds_open's last premise (the goal 'hc' behind k_head) from a wpAny of the law's body -/
/-! ### rules over ANY heap (no ledger) from facts about the written part K: the library's own take a ledger (News) for what they write -/
section
variable {prog : Program} {w : World} {A : Around} {E : Value → Shared → Prop} {s : Shared} {K : Frag}

/-! the whole heap as the ledger: makes every rule that writes through a ledger a rule over any heap -/
def ledger (h : Heap) (L d : Addr) : List (Addr × Obj) := (List.range h.objs.size).filterMap fun a => if a = L ∨ a = d then none else (h.get? a).map fun o => (a, o)
end
end Att

namespace L2
open PySem PySem.Spec PyProof.Rows

theorem vals_ints : ∀ {vs : List Value} {ns : List Int}, IntsAre vs ns → Vals (ns.map V.int) vs
  | _, _, .nil => .nil
  | _, _, .cons n t h => .cons ⟨t, rfl⟩ (vals_ints h)

/-- nothing is tracked but the script, known to the object (or it is an object of the module) -/
def Only (H : Hp) : Prop := ∀ b, H b = none ∨ ∃ o xs, H b = some (.frz o (.lst xs))

/-- THE HEAD: the law's promise, at the heap behind the top. F, the promise of the law's def, may use that base is part of the heap (so K.In base, base.Ns mainGlobals mg stand in Mod) -/
theorem law_call {P : Program} {w : World} {K : PySem.W.Frag} {mg mb : Str → Option Value} {CX : CXT} {k : Nat} {fa a : Addr} {fd : FuncData} {x : Str} {sp : Sp} {s₁ : Shared} {vs : List Value} {ns : List Int}
    (KX : K.In s₁.heap) (hns : s₁.heap.Ns mainGlobals mg) (hb : s₁.heap.Ns builtinsNs mb) (hbb : ∀ x : Str, x ≠ "__name__" → mb x = bootBuiltins x) (hlim : s₁.heap.NoLimit) (hg : s₁.gens = #[])
    (ha : s₁.heap.get? a = some { cls := .type "list", data := .seq vs.toArray }) (hi : IntsAre vs ns) (hl : ns.length ≤ sizeLine) (hr : Room k callerA)
    (F : ∀ base : Heap, K.In base → base.Ns mainGlobals mg → FnOk P w K mg base CX k fa fd [x] sp) (hbind : ∀ (s : Shared) (u : Value), BindsTo s fd ⟨[u], []⟩ [(x, u)])
    (hsp : ∀ H : Hp, Only H → SqL K H a (ns.map V.int) → sp [.ref a] H (fun v _ => v = .bl true) fun _ _ _ => False)
    (hCX : ∀ H e s', CX [] H s₁ (fun _ _ _ => False) e s' → False) :
    codeAny (model P w) callerA (.call (.ref fa) ⟨[.ref a], []⟩) (fun r s' => r = .ok (.ret (.bool true)) ∧ OldK s₁.heap s'.heap ∧ s'.os = s₁.os ∧ AllBare s'.gens) s₁ := by
  have rv := vals_ints hi
  have lenV := hi.length
  -- from an abstract heap in which nothing but the script may be tracked
  have core : ∀ H : Hp, Only H → SqL K H a (ns.map V.int) → HOk P w H s₁.heap → (∀ b, H b ≠ none → b = a) → (H a ≠ none → K.lookup a = none) →
      codeAny (model P w) callerA (.call (.ref fa) ⟨[.ref a], []⟩) (fun r s' => r = .ok (.ret (.bool true)) ∧ OldK s₁.heap s'.heap ∧ s'.os = s₁.os ∧ AllBare s'.gens) s₁ := by
    intro H hO hS hok hA hK
    have base_of : ∀ {b : Addr} {o : Obj}, s₁.heap.get? b = some o → H b = none → (hidT s₁.heap H).get? b = some o := fun e n => hidT_get e n
    have noA : ∀ {b : Addr} {o : Obj} {es : Array DictEntry} {ep : Nat}, s₁.heap.get? b = some o → o.data = .dict es ep → H b = none := fun {b o es ep} e d => by
      cases q : H b with
      | none => rfl
      | some u =>
        have e' : b = a := hA b (by rw [q]; simp)
        subst e'
        rw [ha] at e; cases e
        have d' : Data.seq vs.toArray _ = Data.dict es ep := d
        cases d'
    have nsK : ∀ {b : Addr} {m : Str → Option Value}, s₁.heap.Ns b m → (hidT s₁.heap H).Ns b m := fun {b m} ⟨o, es, ep, e, d, r⟩ => ⟨o, es, ep, base_of e (noA e d), d, r⟩
    have hKb : K.In (hidT s₁.heap H) := fun b o e => base_of (KX b o e) (by
      cases q : H b with
      | none => rfl
      | some u =>
        have e' : b = a := hA b (by rw [q]; simp)
        subst e'
        rw [hK (by rw [q]; simp)] at e; cases e)
    have hM : Mod K mg (hidT s₁.heap H) := ⟨hKb, nsK hns, ⟨mb, nsK hb, hbb⟩, let ⟨mc, h1, h2⟩ := hlim; ⟨mc, nsK h1, h2⟩⟩
    have e0 : Env0 P w K mg (hidT s₁.heap H) callerA [] s₁ H := ⟨rfl, hM, fun b o e => of_hidT e, Nat.le_of_eq (hidT_size _ _), trivial, fun b hb => absurd (show b ∈ ([] : List Addr) from hb) (by simp), hok, .of_eq hg⟩
    refine codeAny_mono ((F _ hKb (nsK hns)).run callerA [] s₁ H ⟨[.ref a], []⟩ [.ref a] [.ref a] _ _ hr e0 (hbind s₁ (.ref a)) (.cons rfl .nil) (hsp H hO hS)) fun r s' h => ?_
    cases r with
    | error e => exact (hCX H e s' h).elim
    | ok fl =>
      cases fl with
      | next => exact False.elim h
      | brk => exact False.elim h
      | cont => exact False.elim h
      | ret u =>
        obtain ⟨v, H', os, bare, un, hok', r', q⟩ := h
        have q' : v = .bl true := q
        subst q'
        obtain rfl : u = Value.bool true := r'
        refine ⟨rfl, OldK.of_keep fun b o e => ?_, os, bare⟩
        cases q : H b with
        | none => exact un.keep b o e q (by intro z; exact absurd (show b ∈ ([] : List Addr) from z) (by simp)) (by simp)
        | some u =>
          rcases hO b with z | ⟨ob, xs, z⟩
          · rw [q] at z; cases z
          · have z2 := un.frzs b ob _ z
            obtain ⟨e1, _⟩ := hok b _ z
            obtain ⟨e2, _⟩ := hok' b _ z2
            rw [e] at e1; cases e1
            exact e2
  cases hk : K.lookup a with
  | some o =>
    -- the script is one of the module's own objects
    have e := KX a o hk
    rw [ha] at e
    cases e
    refine core (fun _ => none) (fun _ => .inl rfl) (.inr ⟨_, vs.toArray, _, hk, rfl, rfl, rfl, by rw [List.size_toArray, lenV]; exact hl, by simpa using rv⟩) (fun b u z => by have z' : (none : Option HO) = some u := z; cases z') (fun b z => absurd rfl z) fun z => absurd rfl z
  | none =>
    refine core (fun b => if b = a then some (.frz { cls := .type "list", data := .seq vs.toArray } (.lst (ns.map V.int))) else none) (fun b => ?_) (.inl (.inr ⟨{ cls := .type "list", data := .seq vs.toArray }, if_pos rfl⟩)) (fun b u z => ?_) (fun b z => ?_) fun _ => hk
    · by_cases hb : b = a
      · exact .inr ⟨_, _, if_pos hb⟩
      · exact .inl (if_neg hb)
    · by_cases hb : b = a
      · have z' := (if_pos hb).symm.trans z
        cases z'
        subst hb
        exact ⟨ha, by rw [List.length_map]; exact hl, vs, _, rv, ha⟩
      · have z' := (if_neg hb).symm.trans z
        cases z'
    · by_cases hb : b = a
      · exact hb
      · exact absurd (if_neg hb) z
end L2

namespace L2
open PySem PySem.Spec PyProof.Rows

abbrev KOf {K : PySem.W.Frag} {h : Heap} (_ : K.In h) : PySem.W.Frag := K

end L2

/- THE LAST THEOREM (shape; LID, My.* are yours):
   My.Adr: a structure of the addresses that your layer names (classes, functions); My.Txt K t: a structure (Prop) of the equations over K;
   My.txt_mk : {K} {implicit addresses ..} (e1 : nsIn K mainGlobals "law" = some (some (.ref f))) (e2 : K.lookup f = some ⟨oc, od, .func (fnOf "law" "law" params body scope dV kV doc pm an cdv ct), sl⟩) (e3 : codeIn K cdv "law" = true) .. : ∃ t, My.Txt K t

set_option maxRecDepth 100000 in
set_option maxHeartbeats 0 in
theorem PySem.Challenge.cw_LID_holds : PySem.Challenge.rw_LID.Holds := by
  w_on; o_law; k_head; (case hw => w_witness2)
  k_fill
  refine L2.walk_of (l := PySem.Challenge.rw_LID) (n := 63) (k := 40) (x := "script") (CX := fun w => ..) (sp := fun _ => My.sp_law) rfl (by decide) rfl ⟨rfl, by decide, by decide⟩ (fun w h Y => PySem.W.kIn_of Y) ?F ?S ?C
  case F =>
    intro w mg fa h KX G hmg
    have T : ∃ t, My.Txt (L2.KOf KX) t := by
      dsimp only [L2.KOf]                          -- K must stand as «<heap const> w.params» for k_is
      refine' My.txt_mk ?e1 ?e2 ?e3 ..
      (case e1 => PySem.W.k_is)                    -- in the order: a name -> its address -> its object -> its parts
      (case e2 => PySem.W.k_is)
      ..
    obtain ⟨t, T⟩ := T
    have e0 := hmg.symm.trans (PySem.W.mg_of KX G T.law)
    cases e0                                       -- fa is the law's own address
    exact ⟨_, fun s u => .of_eq rfl, fun base kb nb => My.law_fn T kb nb⟩     -- if «.of_eq rfl» comes too early: refine' ⟨_, ?b, fun base kb nb => My.law_fn T kb nb⟩; exact fun s u => .of_eq rfl
  case S => exact fun w H a ns hl hO hS => ..
  case C => exact ..
(the tactic k_is has no namespace: write k_is) -/

/-! SHORT WORDS over the layer: a def of the text, its body, what a loop and a test want. -/
namespace L2
open PySem PySem.Spec PyProof.Rows

/-! ### the text by places -/
/-- the j-th statement of a class's body -/
def inClass (s : Stmt) (j : Nat) : Stmt := match s with
  | .ClassDef _ _ _ body _ _ _ _ _ _ _ => body.getD j (.Pass ⟨0, 0, 0, 0⟩)
  | _ => .Pass ⟨0, 0, 0, 0⟩
def defArgs (s : Stmt) : Arguments := match s with
  | .FunctionDef _ a _ _ _ _ _ _ _ _ => a
  | _ => { posonlyargs := [], args := [], vararg := none, kwonlyargs := [], kw_defaults := [], kwarg := none, defaults := [] }
def defBody (s : Stmt) : List Stmt := match s with
  | .FunctionDef _ _ b _ _ _ _ _ _ _ => b
  | _ => []
def defScope (s : Stmt) : Scope := match s with
  | .FunctionDef _ _ _ _ _ _ sc _ _ _ => sc
  | _ => { kind := .function, names := [], isGenerator := false, isCoroutine := false }

/-! ### no exception leaves a def -/
abbrev CX0 : CXT := fun _ _ _ _ _ _ => False
abbrev E0 : XK := fun _ _ _ => False
theorem pass0 {X : Cx} : Passes CX0 X E0 := fun _ _ _ _ _ _ _ h => h.elim

/-! ### a def (or method) of the text as it stands behind the top -/
structure Fun (K : PySem.W.Frag) (x qual : Str) (st : Stmt) (f : Addr) (fd : FuncData) : Prop where
  ex : ∃ (oc : Value) (od : Option Addr) (kV doc pm : Value) (an : Option Addr) (cdv ct : Value) (osl : Array (Option Value)),
    fd = PySem.W.fnOf x qual (defArgs st) (defBody st) (defScope st) .none kV doc pm an cdv ct ∧ K.lookup f = some ⟨oc, od, .func fd, osl⟩ ∧ PySem.W.codeIn K cdv qual = true
  kp : PySem.W.keepIn K (.ref f) = true
section
variable {P : Program} {w : World} {K : PySem.W.Frag} {mg : Str → Option Value} {base : Heap}
/-- THE RULE for a def: its body as a term of rules, and the reading of that term -/
theorem Fun.ok {x qual : Str} {st : Stmt} {f : Addr} {fd : FuncData} {N ps : List Str} {k : Nat} {sp : Sp} (F : Fun K x qual st f fd) (S : FnScope N ps (defScope st)) (len : ∀ vs H Q E, sp vs H Q E → vs.length = ps.length)
    (hbody : ∀ (cdv : Value) (A : Around) (outer : List Env) (s : Shared) (H : Hp) (vs : List V) (Q : VK) (E : XK), Room k (A.deeper (envOfC qual (defScope st) s.heap.objs.size f cdv)) → sp vs H Q E →
      ∃ t, PSs (cxOf CX0 P w K mg base N qual (defScope st) f cdv A outer s H E).nox (defBody st) t ∧ t { nx := fun _ H' => Q .non H', rt := Q } (start N vs) H) : FnOk P w K mg base CX0 (k + 1) f fd ps sp := by
  obtain ⟨oc, od, kV, doc, pm, an, cdv, ct, osl, rfl, lk, hcd⟩ := F.ex
  refine fn_of lk hcd S len fun A outer s H vs Q E hr hsp => ?_
  obtain ⟨t, h, q⟩ := hbody cdv A outer s H vs Q E hr hsp
  exact ⟨t, h.nox, q⟩
/-- how its arguments bind (no defaults): h is «fun _ _ _ _ _ _ us hl => match us, hl with | [_, _], _ => rfl», one _ a parameter -/
theorem Fun.binds {x qual : Str} {st : Stmt} {f : Addr} {fd : FuncData} {ps : List Str} (F : Fun K x qual st f fd)
    (h : ∀ (kV doc pm : Value) (an : Option Addr) (cdv ct : Value) (us : List Value), us.length = ps.length → bindArgs (PySem.W.fnOf x qual (defArgs st) (defBody st) (defScope st) .none kV doc pm an cdv ct) ⟨us, []⟩ = pure (ps.zip us)) : Binds K fd ps [] := by
  obtain ⟨oc, od, kV, doc, pm, an, cdv, ct, osl, rfl, lk, hcd⟩ := F.ex
  exact .all (h kV doc pm an cdv ct)
theorem fun_mk {x qual : Str} {st : Stmt} {f : Addr} {oc : Value} {od an : Option Addr} {osl : Array (Option Value)} {kV doc pm cdv ct : Value} (l : K.lookup f = some ⟨oc, od, .func (PySem.W.fnOf x qual (defArgs st) (defBody st) (defScope st) .none kV doc pm an cdv ct), osl⟩)
    (c : PySem.W.codeIn K cdv qual = true) (k : PySem.W.keepIn K (.ref f) = true) : Fun K x qual st f (PySem.W.fnOf x qual (defArgs st) (defBody st) (defScope st) .none kV doc pm an cdv ct) := ⟨⟨oc, od, kV, doc, pm, an, cdv, ct, osl, rfl, l, c⟩, k⟩
end
/-! ### expressions in short: the name that stands in the i-th slot -/
section
variable {X : Cx}
end

/-! ### tests -/
/-! ### heaps -/
end L2

set_option genInjectivity true

set_option maxHeartbeats 4000000
set_option genSizeOfSpec false
set_option backward.eqns.nonrecursive false
namespace L3
open PySem PySem.Spec PyProof.Rows L2

abbrev Sv := L2.St
/-! # Values with their tuples written out, over the hand layer -/
inductive D where
  | non | bl (b : Bool) | int (i : Int) | str (x : Str) | ty (n : String) | ref (a : Addr) | tup (xs : List D) | rl (xs : List D)
noncomputable instance : DecidableEq D := fun a b => Classical.propDecidable (a = b)

/-- what stays whatever is done: tuples, frozen things -/
structure TX (H H' : Hp) : Prop where
  tups : ∀ b xs, H b = some (.tup xs) → H' b = some (.tup xs)
  frzs : ∀ b o u, H b = some (.frz o u) → H' b = some (.frz o u)
theorem TX.refl {H : Hp} : TX H H := ⟨fun _ _ h => h, fun _ _ _ h => h⟩
theorem TX.trans {H H1 H2 : Hp} (a : TX H H1) (b : TX H1 H2) : TX H H2 := ⟨fun c x h => b.tups c x (a.tups c x h), fun c o u h => b.frzs c o u (a.frzs c o u h)⟩
theorem TX.laid {H : Hp} {p : Addr} {o : HO} (h : H p = none) : TX H (upd H p o) :=
  ⟨fun b xs e => by rw [upd_ne (ne_of_none e h)]; exact e, fun b ob u e => by rw [upd_ne (ne_of_none e h)]; exact e⟩
theorem TX.lst {H : Hp} {p : Addr} {xs : List V} {o : HO} (h : H p = some (.lst xs)) : TX H (upd H p o) :=
  ⟨fun b ys e => by rw [upd_ne (ne_of e h (by intro z; cases z))]; exact e, fun b ob u e => by rw [upd_ne (ne_of e h (by intro z; cases z))]; exact e⟩
theorem TX.seqT {K : PySem.W.Frag} {H H' : Hp} {a : Addr} {xs : List V} (t : TX H H') (h : SqT K H a xs) : SqT K H' a xs := by
  rcases h with (h | ⟨o, h⟩) | h
  · exact .inl (.inl (t.tups _ _ h))
  · exact .inl (.inr ⟨o, t.frzs _ _ _ h⟩)
  · exact .inr h
/-- a list that is read alone: the script -/
def RoL (K : PySem.W.Frag) (H : Hp) (a : Addr) (xs : List V) : Prop :=
  (∃ o, H a = some (.frz o (.lst xs))) ∨
    ∃ (o : Obj) (its : Array Value) (n : Nat), K.lookup a = some o ∧ o.cls = .type "list" ∧ o.dict = none ∧ o.data = .seq its n ∧ its.size ≤ sizeLine ∧ Vals xs its.toList
theorem RoL.sq {K : PySem.W.Frag} {H : Hp} {a : Addr} {xs : List V} (h : RoL K H a xs) : SqL K H a xs := by
  rcases h with ⟨o, h⟩ | h
  · exact .inl (.inr ⟨o, h⟩)
  · exact .inr h
theorem TX.rol {K : PySem.W.Frag} {H H' : Hp} {a : Addr} {xs : List V} (t : TX H H') (h : RoL K H a xs) : RoL K H' a xs := by
  rcases h with ⟨o, h⟩ | h
  · exact .inl ⟨o, t.frzs _ _ _ h⟩
  · exact .inr h

mutual
inductive IsV (K : PySem.W.Frag) (H : Hp) : D → V → Prop where
  | non : IsV K H .non .non
  | bl (b : Bool) : IsV K H (.bl b) (.bl b)
  | int (i : Int) : IsV K H (.int i) (.int i)
  | str (x : Str) : IsV K H (.str x) (.str x)
  | ty (n : String) : IsV K H (.ty n) (.ty n)
  | ref (a : Addr) : IsV K H (.ref a) (.ref a)
  | tup {a : Addr} {ds : List D} {vs : List V} (h : SqT K H a vs) (r : IsVs K H ds vs) : IsV K H (.tup ds) (.ref a)
  | rl {a : Addr} {ds : List D} {vs : List V} (h : RoL K H a vs) (r : IsVs K H ds vs) : IsV K H (.rl ds) (.ref a)
inductive IsVs (K : PySem.W.Frag) (H : Hp) : List D → List V → Prop where
  | nil : IsVs K H [] []
  | cons {d : D} {v : V} {ds : List D} {vs : List V} (r : IsV K H d v) (rs : IsVs K H ds vs) : IsVs K H (d :: ds) (v :: vs)
end
mutual
theorem IsV.mono {K : PySem.W.Frag} {H H' : Hp} (t : TX H H') : ∀ {d : D} {v : V}, IsV K H d v → IsV K H' d v
  | _, _, .non => .non
  | _, _, .bl b => .bl b
  | _, _, .int i => .int i
  | _, _, .str x => .str x
  | _, _, .ty n => .ty n
  | _, _, .ref a => .ref a
  | _, _, .tup h r => .tup (t.seqT h) (IsVs.mono t r)
  | _, _, .rl h r => .rl (t.rol h) (IsVs.mono t r)
theorem IsVs.mono {K : PySem.W.Frag} {H H' : Hp} (t : TX H H') : ∀ {ds : List D} {vs : List V}, IsVs K H ds vs → IsVs K H' ds vs
  | _, _, .nil => .nil
  | _, _, .cons r rs => .cons (IsV.mono t r) (IsVs.mono t rs)
end
section
variable {K : PySem.W.Frag} {H : Hp}
theorem IsVs.length : ∀ {ds : List D} {vs : List V}, IsVs K H ds vs → ds.length = vs.length
  | _, _, .nil => rfl
  | _, _, .cons _ rs => congrArg (· + 1) rs.length
theorem IsVs.get : ∀ {ds : List D} {vs : List V} {i : Nat} {d : D}, IsVs K H ds vs → ds[i]? = some d → ∃ v, vs[i]? = some v ∧ IsV K H d v
  | _, _, _, _, .nil, e => by simp at e
  | _, _, 0, _, .cons r _, e => by simp at e; subst e; exact ⟨_, rfl, r⟩
  | _, _, i + 1, d, .cons _ t, e => by
    obtain ⟨v, h1, h2⟩ := IsVs.get (i := i) (d := d) t (by simpa using e)
    exact ⟨v, by simpa using h1, h2⟩
theorem IsVs.append : ∀ {ds es : List D} {vs ws : List V}, IsVs K H ds vs → IsVs K H es ws → IsVs K H (ds ++ es) (vs ++ ws)
  | _, _, _, _, .nil, s => s
  | _, _, _, _, .cons r t, s => .cons r (IsVs.append t s)
theorem IsVs.take : ∀ {ds : List D} {vs : List V} (n : Nat), IsVs K H ds vs → IsVs K H (ds.take n) (vs.take n)
  | _, _, 0, _ => .nil
  | _, _, _ + 1, .nil => .nil
  | _, _, n + 1, .cons r t => .cons r (IsVs.take n t)
theorem IsVs.drop : ∀ {ds : List D} {vs : List V} (n : Nat), IsVs K H ds vs → IsVs K H (ds.drop n) (vs.drop n)
  | _, _, 0, r => r
  | _, _, _ + 1, .nil => .nil
  | _, _, n + 1, .cons _ t => IsVs.drop n t
theorem IsVs.ints : ∀ (ns : List Int), IsVs K H (ns.map D.int) (ns.map V.int)
  | [] => .nil
  | n :: ns => .cons (.int n) (IsVs.ints ns)
theorem IsVs.of_ints : ∀ {ns : List Int} {vs : List V}, IsVs K H (ns.map D.int) vs → vs = ns.map V.int
  | [], _, .nil => rfl
  | n :: ns, _, .cons r t => by cases r; rw [IsVs.of_ints t]; rfl
end

/-! ### the mutable objects -/
inductive OD where
  | lst (xs : List D)
  | ins (C dx : Addr) (fs : List (Str × D))
abbrev GHp := Addr → Option OD
def gupd (G : GHp) (a : Addr) (o : OD) : GHp := fun b => if b = a then some o else G b
theorem gupd_same {G : GHp} {a : Addr} {o : OD} : gupd G a o a = some o := by unfold gupd; rw [if_pos rfl]
theorem gupd_ne {G : GHp} {a b : Addr} {o : OD} (h : b ≠ a) : gupd G a o b = G b := by unfold gupd; rw [if_neg h]
theorem gne_none {G : GHp} {a b : Addr} {o : OD} (h : G a = some o) (h' : G b = none) : a ≠ b := by
  intro e; subst e; rw [h] at h'; cases h'
/-- all that was there is there still -/
def GS (G G' : GHp) : Prop := ∀ b o, G b = some o → G' b = some o
theorem GS.refl {G : GHp} : GS G G := fun _ _ h => h
theorem GS.trans {G G1 G2 : GHp} (a : GS G G1) (b : GS G1 G2) : GS G G2 := fun c o h => b c o (a c o h)
theorem GS.laid {G : GHp} {p : Addr} {o : OD} (h : G p = none) : GS G (gupd G p o) := fun b u e => by rw [gupd_ne (gne_none e h)]; exact e
/-- fields, one by one -/
inductive IsFs (K : PySem.W.Frag) (H : Hp) : List (Str × D) → List (Str × V) → Prop where
  | nil : IsFs K H [] []
  | cons {x : Str} {d : D} {v : V} {ds : List (Str × D)} {vs : List (Str × V)} (r : IsV K H d v) (rs : IsFs K H ds vs) : IsFs K H ((x, d) :: ds) ((x, v) :: vs)
theorem IsFs.mono {K : PySem.W.Frag} {H H' : Hp} (t : TX H H') : ∀ {ds : List (Str × D)} {vs : List (Str × V)}, IsFs K H ds vs → IsFs K H' ds vs
  | _, _, .nil => .nil
  | _, _, .cons r rs => .cons (r.mono t) (IsFs.mono t rs)
inductive OkO (K : PySem.W.Frag) (H : Hp) (a : Addr) : OD → Prop where
  | lst {ds : List D} {vs : List V} (h : H a = some (.lst vs)) (r : IsVs K H ds vs) : OkO K H a (.lst ds)
  | ins {C dx : Addr} {fs : List (Str × D)} {fv : List (Str × V)} (h : H a = some (.ins C dx fv)) (r : IsFs K H fs fv) : OkO K H a (.ins C dx fs)
theorem OkO.there {K : PySem.W.Frag} {H : Hp} {a : Addr} {o : OD} (h : OkO K H a o) : ∃ u, H a = some u := by
  cases h with
  | lst h _ => exact ⟨_, h⟩
  | ins h _ => exact ⟨_, h⟩
theorem OkO.keep {K : PySem.W.Frag} {H H' : Hp} {a : Addr} {o : OD} (t : TX H H') (e : H' a = H a) (h : OkO K H a o) : OkO K H' a o := by
  cases h with
  | lst h r => exact .lst (e.trans h) (r.mono t)
  | ins h r => exact .ins (e.trans h) (r.mono t)
def GOk (K : PySem.W.Frag) (G : GHp) (H : Hp) : Prop := ∀ a o, G a = some o → OkO K H a o
theorem GOk.free {K : PySem.W.Frag} {G : GHp} {H : Hp} (g : GOk K G H) {p : Addr} (h : H p = none) : G p = none := by
  cases q : G p with
  | none => rfl
  | some o => obtain ⟨u, e⟩ := (g p o q).there; rw [h] at e; cases e
/-- one address is laid or rewritten -/
theorem GOk.put {K : PySem.W.Frag} {G : GHp} {H : Hp} {p : Addr} {o : OD} {u : HO} (g : GOk K G H) (t : TX H (upd H p u)) (n : OkO K (upd H p u) p o) : GOk K (gupd G p o) (upd H p u) := fun a q e => by
  by_cases h : a = p
  · subst h; rw [gupd_same] at e; cases e; exact n
  · rw [gupd_ne h] at e; exact (g a q e).keep t (upd_ne h)
/-- an address that the mutable objects know nothing of -/
theorem GOk.laid {K : PySem.W.Frag} {G : GHp} {H : Hp} {p : Addr} {u : HO} (g : GOk K G H) (h : H p = none) : GOk K G (upd H p u) := fun a q e => by
  obtain ⟨v, hv⟩ := (g a q e).there
  exact (g a q e).keep (.laid h) (upd_ne (ne_of_none hv h))

/-! ### the judgements -/
abbrev DK := D → GHp → Prop
abbrev StD := List (Option D)
abbrev TED := StD → GHp → DK → Prop
abbrev TTD := StD → GHp → (Bool → GHp → Prop) → Prop
abbrev TAD := StD → GHp → (List D → GHp → Prop) → Prop
structure EndsD where
  nx : StD → GHp → Prop
  rt : DK
  bk : StD → GHp → Prop := fun _ _ => False
  ct : StD → GHp → Prop := fun _ _ => False
abbrev TSD := EndsD → StD → GHp → Prop
def IsSt (K : PySem.W.Frag) (H : Hp) (σd : StD) (σ : Sv) : Prop := ∀ (i : Nat) (d : D), σd[i]? = some (some d) → ∃ v, σ[i]? = some (some v) ∧ IsV K H d v
theorem IsSt.mono {K : PySem.W.Frag} {H H' : Hp} {σd : StD} {σ : Sv} (t : TX H H') (h : IsSt K H σd σ) : IsSt K H' σd σ := fun i d e => by
  obtain ⟨v, e1, r⟩ := h i d e
  exact ⟨v, e1, r.mono t⟩
structure J (X : Cx) (pins : List (Addr × Obj)) (σd : StD) (G : GHp) (σ : Sv) (H : Hp) (s : Shared) : Prop where
  inv : Inv X pins σ H s
  len : σd.length = σ.length
  st : IsSt X.K H σd σ
  gh : GOk X.K G H
def EPD (X : Cx) (pins : List (Addr × Obj)) (σd : StD) (σ : Sv) (H : Hp) (Q : DK) (u : Value) (s' : Shared) : Prop := ∃ d v G' H', J X pins σd G' σ H' s' ∧ TX H H' ∧ IsV X.K H' d v ∧ RelV v u ∧ Q d G'
def TPD (X : Cx) (pins : List (Addr × Obj)) (σd : StD) (σ : Sv) (H : Hp) (Q : Bool → GHp → Prop) (b : Bool) (s' : Shared) : Prop := ∃ G' H', J X pins σd G' σ H' s' ∧ TX H H' ∧ Q b G'
def APD (X : Cx) (pins : List (Addr × Obj)) (σd : StD) (σ : Sv) (H : Hp) (Q : List D → GHp → Prop) (us : List Value) (s' : Shared) : Prop := ∃ ds vs G' H', J X pins σd G' σ H' s' ∧ TX H H' ∧ IsVs X.K H' ds vs ∧ Vals vs us ∧ Q ds G'
def SPD (X : Cx) (pins : List (Addr × Obj)) (H : Hp) (E : EndsD) (f : Flow) (s' : Shared) : Prop :=
  match f with
  | .next => ∃ σd' G' σ' H', J X pins σd' G' σ' H' s' ∧ TX H H' ∧ E.nx σd' G'
  | .brk => ∃ σd' G' σ' H', J X pins σd' G' σ' H' s' ∧ TX H H' ∧ E.bk σd' G'
  | .cont => ∃ σd' G' σ' H', J X pins σd' G' σ' H' s' ∧ TX H H' ∧ E.ct σd' G'
  | .ret u => ∃ d v σd' G' σ' H', J X pins σd' G' σ' H' s' ∧ TX H H' ∧ IsV X.K H' d v ∧ RelV v u ∧ E.rt d G'
theorem EPD.use {X : Cx} {pins : List (Addr × Obj)} {σd : StD} {σ : Sv} {H : Hp} {Q : DK} {u : Value} {s' : Shared} {C : Prop} (h : EPD X pins σd σ H Q u s') (k : ∀ d v G' H', J X pins σd G' σ H' s' → TX H H' → IsV X.K H' d v → RelV v u → Q d G' → C) : C := by
  obtain ⟨d, v, G', H', a, b, c, e, f⟩ := h
  exact k d v G' H' a b c e f
theorem TPD.use {X : Cx} {pins : List (Addr × Obj)} {σd : StD} {σ : Sv} {H : Hp} {Q : Bool → GHp → Prop} {u : Bool} {s' : Shared} {C : Prop} (h : TPD X pins σd σ H Q u s') (k : ∀ G' H', J X pins σd G' σ H' s' → TX H H' → Q u G' → C) : C := by
  obtain ⟨G', H', a, b, c⟩ := h
  exact k G' H' a b c
theorem APD.use {X : Cx} {pins : List (Addr × Obj)} {σd : StD} {σ : Sv} {H : Hp} {Q : List D → GHp → Prop} {u : List Value} {s' : Shared} {C : Prop} (h : APD X pins σd σ H Q u s') (k : ∀ d v G' H', J X pins σd G' σ H' s' → TX H H' → IsVs X.K H' d v → Vals v u → Q d G' → C) : C := by
  obtain ⟨d, v, G', H', a, b, c, e, f⟩ := h
  exact k d v G' H' a b c e f
def PED (X : Cx) (e : Expr) (t : TED) : Prop :=
  ∀ (pins : List (Addr × Obj)) (s : Shared) (σd : StD) (G : GHp) (σ : Sv) (H : Hp) (Q : DK), J X pins σd G σ H s → t σd G Q → wpAny (model X.prog X.w) X.A (eval e X.env) (EPD X pins σd σ H Q) X.xe s
def PTD (X : Cx) (e : Expr) (t : TTD) : Prop :=
  ∀ (pins : List (Addr × Obj)) (s : Shared) (σd : StD) (G : GHp) (σ : Sv) (H : Hp) (Q : Bool → GHp → Prop), J X pins σd G σ H s → t σd G Q → wpAny (model X.prog X.w) X.A (isTrue e X.env (eval e X.env)) (TPD X pins σd σ H Q) X.xe s
def PWD (X : Cx) (e : Expr) (t : TTD) : Prop :=
  ∀ (whole : Sem Value) (pins : List (Addr × Obj)) (s : Shared) (σd : StD) (G : GHp) (σ : Sv) (H : Hp) (Q : Bool → GHp → Prop), J X pins σd G σ H s → t σd G Q → wpAny (model X.prog X.w) X.A (isTrue e X.env whole) (TPD X pins σd σ H Q) X.xe s
theorem PWD.pt {X : Cx} {e : Expr} {t : TTD} (h : PWD X e t) : PTD X e t := h _
def PAD (X : Cx) (es : List Expr) (t : TAD) : Prop :=
  ∀ (pos : Pos) (pins : List (Addr × Obj)) (s : Shared) (σd : StD) (G : GHp) (σ : Sv) (H : Hp) (Q : List D → GHp → Prop), J X pins σd G σ H s → t σd G Q → wpAny (model X.prog X.w) X.A (spliced (backTo pos (starEach es X.env))) (APD X pins σd σ H Q) X.xe s
def PSD (X : Cx) (st : Stmt) (t : TSD) : Prop :=
  ∀ (pins : List (Addr × Obj)) (s : Shared) (σd : StD) (G : GHp) (σ : Sv) (H : Hp) (E : EndsD), J X pins σd G σ H s → t E σd G → wpAny (model X.prog X.w) X.A (exec st X.env) (SPD X pins H E) X.xe s
def PSsD (X : Cx) (sts : List Stmt) (t : TSD) : Prop :=
  ∀ (pins : List (Addr × Obj)) (s : Shared) (σd : StD) (G : GHp) (σ : Sv) (H : Hp) (E : EndsD), J X pins σd G σ H s → t E σd G → wpAny (model X.prog X.w) X.A (execs sts X.env) (SPD X pins H E) X.xe s

section
variable {X : Cx} {pins : List (Addr × Obj)} {σd : StD} {G G' : GHp} {σ : Sv} {H H' : Hp} {s s' : Shared}
theorem EPD.from {Q : DK} {u : Value} (h : EPD X pins σd σ H' Q u s) (t : TX H H') : EPD X pins σd σ H Q u s := by
  obtain ⟨d, v, G', H2, j, t2, q⟩ := h
  exact ⟨d, v, G', H2, j, t.trans t2, q⟩
theorem TPD.from {Q : Bool → GHp → Prop} {b : Bool} (h : TPD X pins σd σ H' Q b s) (t : TX H H') : TPD X pins σd σ H Q b s := by
  obtain ⟨G', H2, j, t2, q⟩ := h
  exact ⟨G', H2, j, t.trans t2, q⟩
theorem SPD.from {E : EndsD} {f : Flow} (h : SPD X pins H' E f s) (t : TX H H') : SPD X pins H E f s := by
  cases f with
  | next => obtain ⟨a, b, c, H2, j, t2, q⟩ := h; exact ⟨a, b, c, H2, j, t.trans t2, q⟩
  | brk => obtain ⟨a, b, c, H2, j, t2, q⟩ := h; exact ⟨a, b, c, H2, j, t.trans t2, q⟩
  | cont => obtain ⟨a, b, c, H2, j, t2, q⟩ := h; exact ⟨a, b, c, H2, j, t.trans t2, q⟩
  | ret u => obtain ⟨d, v, a, b, c, H2, j, t2, q⟩ := h; exact ⟨d, v, a, b, c, H2, j, t.trans t2, q⟩
/-- behind a step that leaves the frame's values -/
theorem J.next (j : J X pins σd G σ H s) (I : Inv X pins σ H' s') (t : TX H H') (g : GOk X.K G' H') : J X pins σd G' σ H' s' := ⟨I, j.len, j.st.mono t, g⟩
/-- what an end at the layer below must say -/
abbrev Up (K : PySem.W.Frag) (H : Hp) (Q : DK) : VK := fun v H' => ∃ d G', TX H H' ∧ GOk K G' H' ∧ IsV K H' d v ∧ Q d G'
theorem J.up {Q : DK} {u : Value} (j : J X pins σd G σ H s) (h : EP X pins σ (Up X.K H Q) u s') : EPD X pins σd σ H Q u s' := by
  obtain ⟨v, H', I, r, d, G', t, g, iv, q⟩ := h
  exact ⟨d, v, G', H', j.next I t g, t, iv, r, q⟩
theorem Up.same {K : PySem.W.Frag} {Q : DK} {d : D} {v : V} (g : GOk K G H) (r : IsV K H d v) (q : Q d G) : Up K H Q v H := ⟨d, G, .refl, g, r, q⟩
theorem Up.newL {K : PySem.W.Frag} {Q : DK} {ds : List D} {vs : List V} {p : Addr} (g : GOk K G H) (h : H p = none) (r : IsVs K H ds vs) (q : Q (.ref p) (gupd G p (.lst ds))) : Up K H Q (.ref p) (upd H p (.lst vs)) :=
  ⟨.ref p, _, .laid h, g.put (.laid h) (.lst upd_same (r.mono (.laid h))), .ref p, q⟩
theorem Up.newT {K : PySem.W.Frag} {Q : DK} {ds : List D} {vs : List V} {p : Addr} (g : GOk K G H) (h : H p = none) (r : IsVs K H ds vs) (q : Q (.tup ds) G) : Up K H Q (.ref p) (upd H p (.tup vs)) :=
  ⟨.tup ds, G, .laid h, g.laid h, .tup (SqT.of upd_same) (r.mono (.laid h)), q⟩
theorem Up.setL {K : PySem.W.Frag} {Q : DK} {d : D} {v : V} {ds : List D} {vs ws : List V} {p : Addr} (g : GOk K G H) (h : H p = some (.lst ws)) (r : IsVs K H ds vs) (rv : IsV K H d v) (q : Q d (gupd G p (.lst ds))) : Up K H Q v (upd H p (.lst vs)) :=
  ⟨d, _, .lst h, g.put (.lst h) (.lst upd_same (r.mono (.lst h))), rv.mono (.lst h), q⟩

/-! ### names and constants -/
def dVar (i : Nat) : TED := fun σd G Q => match σd[i]? with
  | some (some d) => Q d G
  | _ => False
def dC (d : D) : TED := fun _ G Q => Q d G
theorem de_var {i : Nat} {x : Str} {pos : Pos} (h : PE X (.Name x pos) (tVar i)) : PED X (.Name x pos) (dVar i) := by
  intro pins s σd G σ H Q j hq
  unfold dVar at hq
  split at hq
  · rename_i d e
    obtain ⟨v, e1, r⟩ := j.st i d e
    exact thn (h pins s σ H _ j.inv ⟨v, e1, Up.same j.gh r hq⟩) fun u s' z => j.up z
  · exact False.elim hq
theorem dv (i : Nat) {x : Str} {pos : Pos} (hN : X.N[i]? = some x := by rfl) (hv : Vis X.env.scope x := by first | exact Or.inl rfl | exact Or.inr (Or.inl rfl) | exact Or.inr (Or.inr rfl)) (hd : (x == ("__debug__" : Str)) = false := by decide)
    (hcd : (x == ("__classdict__" : Str)) = false := by decide) : PED X (.Name x pos) (dVar i) := de_var (pe_var hN hv hd hcd)
theorem de_const {e : Expr} {v : V} {d : D} (h : PE X e (tC v)) (r : ∀ K H, IsV K H d v) : PED X e (dC d) := by
  intro pins s σd G σ H Q j hq
  exact thn (h pins s σ H (Up X.K H Q) j.inv (Up.same j.gh (r _ _) hq)) fun u s' z => j.up z
theorem de_int {i j pos} : PED X (.Constant (.int i) j pos) (dC (.int i)) := de_const pe_int fun _ _ => .int i
theorem de_bl {b j pos} : PED X (.Constant (.bool b) j pos) (dC (.bl b)) := de_const pe_bl fun _ _ => .bl b
theorem de_non {j pos} : PED X (.Constant .none j pos) (dC .non) := de_const pe_non fun _ _ => .non
theorem de_str {x j pos} : PED X (.Constant (.str x) j pos) (dC (.str x)) := de_const pe_str fun _ _ => .str x
theorem de_ty {x : Str} {T : String} {pos : Pos} (hg : Gl X x) (hm : X.mg x = none) (hv : bootBuiltins x = some (.type T)) (hn : x ≠ "__name__" := by decide) (hd : (x == ("__debug__" : Str)) = false := by decide) : PED X (.Name x pos) (dC (.ty T)) :=
  de_const (pe_bltn (v := .ty T) hg hm hv rfl hn hd) fun _ _ => .ty T
end

/-- sizes that must fit, kept shut -/
structure Fits (n : Nat) : Prop where
  le : n ≤ sizeLine
structure MulOk (a b : Int) : Prop where
  ok : IntMulOk a b
structure PowOk (i j : Int) : Prop where
  nn : 0 ≤ j
  le : j ≤ 1000000
  lt : i.natAbs < 2 ^ 64
/-! ### operations -/
abbrev RD2 := D → D → GHp → DK → Prop
def OpD (X : Cx) (f : Value → Value → Sem Value) (r : RD2) : Prop :=
  ∀ (pins : List (Addr × Obj)) (s : Shared) (σd : StD) (G : GHp) (σ : Sv) (H : Hp) (dx dy : D) (x y : V) (v u : Value) (Q : DK), J X pins σd G σ H s → IsV X.K H dx x → IsV X.K H dy y → RelV x v → RelV y u → r dx dy G Q →
    wpAny (model X.prog X.w) X.A (f v u) (EPD X pins σd σ H Q) X.xe s
def UnD (X : Cx) (f : Value → Sem Value) (r : D → GHp → DK → Prop) : Prop :=
  ∀ (pins : List (Addr × Obj)) (s : Shared) (σd : StD) (G : GHp) (σ : Sv) (H : Hp) (dx : D) (x : V) (v : Value) (Q : DK), J X pins σd G σ H s → IsV X.K H dx x → RelV x v → r dx G Q →
    wpAny (model X.prog X.w) X.A (f v) (EPD X pins σd σ H Q) X.xe s
def CallD (X : Cx) (f : Value) (r : List D → GHp → DK → Prop) : Prop :=
  ∀ (pins : List (Addr × Obj)) (s : Shared) (σd : StD) (G : GHp) (σ : Sv) (H : Hp) (ds : List D) (xs : List V) (us : List Value) (Q : DK), J X pins σd G σ H s → IsVs X.K H ds xs → Vals xs us → r ds G Q →
    wpAny (model X.prog X.w) X.A (call f us) (EPD X pins σd σ H Q) X.xe s
section
variable {X : Cx} {f : Value → Value → Sem Value} {g : Value → Sem Value}
theorem OpD.of {r : R2} {rd : RD2} (h : OpR X f r) (k : ∀ (G : GHp) (H : Hp) (dx dy : D) (x y : V) (Q : DK), GOk X.K G H → IsV X.K H dx x → IsV X.K H dy y → rd dx dy G Q → r x y H (Up X.K H Q)) : OpD X f rd :=
  fun pins s σd G σ H dx dy x y v u Q j ix iy rx ry q => thn (h pins s σ H x y v u _ j.inv rx ry (k G H dx dy x y Q j.gh ix iy q)) fun _ _ z => j.up z
theorem OpD.imp {r r' : RD2} (h : OpD X f r) (k : ∀ x y G Q, r' x y G Q → r x y G Q) : OpD X f r' :=
  fun pins s σd G σ H dx dy x y v u Q j ix iy rx ry q => h pins s σd G σ H dx dy x y v u Q j ix iy rx ry (k _ _ _ _ q)
theorem UnD.of {r : V → Hp → VK → Prop} {rd : D → GHp → DK → Prop} (h : UnR X g r) (k : ∀ (G : GHp) (H : Hp) (dx : D) (x : V) (Q : DK), GOk X.K G H → IsV X.K H dx x → rd dx G Q → r x H (Up X.K H Q)) : UnD X g rd :=
  fun pins s σd G σ H dx x v Q j ix rx q => thn (h pins s σ H x v _ j.inv rx (k G H dx x Q j.gh ix q)) fun _ _ z => j.up z
theorem CallD.of {c : Value} {r : List V → Hp → VK → Prop} {rd : List D → GHp → DK → Prop} (h : CallR X c r) (k : ∀ (G : GHp) (H : Hp) (ds : List D) (xs : List V) (Q : DK), GOk X.K G H → IsVs X.K H ds xs → rd ds G Q → r xs H (Up X.K H Q)) : CallD X c rd :=
  fun pins s σd G σ H ds xs us Q j ix rx q => thn (h pins s σ H xs us _ j.inv rx (k G H ds xs Q j.gh ix q)) fun _ _ z => j.up z

/-- ints in, under C, a value out -/
def qI (C : Int → Int → Prop) (g : Int → Int → D) : RD2 := fun x y G Q => match x, y with
  | .int i, .int j => C i j ∧ Q (g i j) G
  | _, _ => False
theorem OpD.ints {C : Int → Int → Prop} {g : Int → Int → V} {gd : Int → Int → D} (h : OpR X f (rI C g)) (k : ∀ K H i j, IsV K H (gd i j) (g i j)) : OpD X f (qI C gd) := .of h fun G H dx dy x y Q gok ix iy q => by
  cases ix <;> cases iy <;> first
    | exact False.elim q
    | exact ⟨_, _, rfl, rfl, q.1, Up.same gok (k _ _ _ _) q.2⟩
/-- ints, nothing asked -/
def qI0 (g : Int → Int → D) : RD2 := fun x y G Q => match x, y with
  | .int i, .int j => Q (g i j) G
  | _, _ => False
theorem OpD.ints1 {g : Int → Int → V} {gd : Int → Int → D} (h : OpR X f (rI0 g)) (k : ∀ K H i j, IsV K H (gd i j) (g i j)) : OpD X f (qI0 gd) := .of h fun G H dx dy x y Q gok ix iy q => by
  cases ix <;> cases iy <;> first
    | exact False.elim q
    | exact ⟨_, _, rfl, rfl, Up.same gok (k _ _ _ _) q⟩
theorem od_sub : OpD X (binaryOp .Sub) (qI0 fun i j => .int (i - j)) := .ints1 op_sub fun _ _ i j => .int (i - j)
theorem od_lt : OpD X (compareOp .Lt) (qI0 fun i j => .bl (decide (i < j))) := .ints1 op_lt fun _ _ i j => .bl (decide (i < j))
theorem od_le : OpD X (compareOp .LtE) (qI0 fun i j => .bl (decide (i ≤ j))) := .ints1 op_le fun _ _ i j => .bl (decide (i ≤ j))
theorem od_gt : OpD X (compareOp .Gt) (qI0 fun i j => .bl (decide (j < i))) := .ints1 op_gt fun _ _ i j => .bl (decide (j < i))
/-- a product: the sizes fit -/
theorem op_mulB : OpR X (binaryOp .Mult) (rI L3.MulOk fun i j => .int (i * j)) := opI fun _ _ _ _ _ _ _ hc q => mul_int q hc.ok
theorem od_mul : OpD X (binaryOp .Mult) (qI L3.MulOk fun i j => .int (i * j)) := .ints op_mulB fun _ _ i j => .int (i * j)
/-- .. by a positive number -/
def CDivP (_ j : Int) : Prop := 0 < j ∧ j.natAbs < 2 ^ 9000
theorem op_fdivP : OpR X (binaryOp .FloorDiv) (rI CDivP fun i j => .int (i / j)) := opI fun i j _ _ _ _ _ hc q => by
  have h1 : (0 : Int) < j := hc.1
  exact floordiv_int (by omega) (by rw [Int.fdiv_eq_ediv_of_nonneg i (by omega)]; exact q) (.inl (PyProof.noPylong_of_log2 ((Nat.log2_lt (by omega)).mpr hc.2)))
theorem od_fdivP : OpD X (binaryOp .FloorDiv) (qI CDivP fun i j => .int (i / j)) := .ints op_fdivP fun _ _ i j => .int (i / j)
theorem od_modP : OpD X (binaryOp .Mod) (qI (fun _ j => 0 < j) fun i j => .int (i % j)) := .ints op_mod fun _ _ i j => .int (i % j)
theorem op_powB : OpR X (binaryOp .Pow) (rI PowOk fun i j => .int (i ^ j.toNat)) := opI fun _ _ _ _ _ _ _ hc q => pow_int_small hc.nn hc.le hc.lt q
theorem od_pow : OpD X (binaryOp .Pow) (qI PowOk fun i j => .int (i ^ j.toNat)) := .ints op_powB fun _ _ i j => .int (i ^ j.toNat)
def qUn (g : Int → D) : D → GHp → DK → Prop := fun x G Q => match x with
  | .int i => Q (g i) G
  | _ => False
theorem ud_neg : UnD X (unaryOp .USub) (qUn fun i => .int (-i)) := .of un_neg fun G H dx x Q gok ix q => by
  cases ix <;> first
    | exact False.elim q
    | exact ⟨_, rfl, Up.same gok (.int _) q⟩
end

/-! ### expressions -/
def dOp (r : RD2) (ta tb : TED) : TED := fun σd G Q => ta σd G fun x G1 => tb σd G1 fun y G2 => r x y G2 Q
def dUn (r : D → GHp → DK → Prop) (ta : TED) : TED := fun σd G Q => ta σd G fun x G1 => r x G1 Q
def dTest (t : TED) : TTD := fun σd G Q => t σd G fun x G' => match x with
  | .bl k => Q k G'
  | _ => False
def dOr (t u : TTD) : TTD := fun σd G Q => t σd G fun c G1 => if c = true then Q true G1 else u σd G1 Q
def dNot (t : TTD) : TTD := fun σd G Q => t σd G fun c G1 => Q (!c) G1
def dAndV (ta tb : TED) : TED := fun σd G Q => ta σd G fun x G1 => match x with
  | .bl c => if c = true then tb σd G1 Q else Q (.bl false) G1
  | _ => False
def dOrV (ta tb : TED) : TED := fun σd G Q => ta σd G fun x G1 => match x with
  | .bl c => if c = true then Q (.bl true) G1 else tb σd G1 Q
  | _ => False
def dNil : TAD := fun _ G Q => Q [] G
def dCons (ta : TED) (tr : TAD) : TAD := fun σd G Q => ta σd G fun x G1 => tr σd G1 fun xs G2 => Q (x :: xs) G2
def dTup (t : TAD) : TED := fun σd G Q => t σd G fun xs G1 => Fits xs.length ∧ Q (.tup xs) G1
def dLst (t : TAD) : TED := fun σd G Q => t σd G fun xs G1 => Fits xs.length ∧ ∀ p, G1 p = none → Q (.ref p) (gupd G1 p (.lst xs))
section
variable {X : Cx} {a b c e : Expr} {es rest : List Expr} {ta tb : TED} {tA tB : TTD} {t : TAD} {pos : Pos}
/-- two expressions in a row -/
theorem binD (ha : PED X a ta) (hb : PED X b tb) {pins : List (Addr × Obj)} {s : Shared} {σd : StD} {G : GHp} {σ : Sv} {H : Hp} {R : D → D → GHp → Prop} (j : J X pins σd G σ H s) (h : ta σd G fun x G1 => tb σd G1 fun y G2 => R x y G2)
    {α : Type} {Q : α → Shared → Prop} {f : Value → Value → Sem α}
    (hf : ∀ v u s2 dx dy x y G2 H2, J X pins σd G2 σ H2 s2 → TX H H2 → IsV X.K H2 dx x → IsV X.K H2 dy y → RelV x v → RelV y u → R dx dy G2 → wpAny (model X.prog X.w) X.A (f v u) Q X.xe s2) :
    wpAny (model X.prog X.w) X.A (eval a X.env) (fun v s₁ => wpAny (model X.prog X.w) X.A (eval b X.env) (fun u s₂ => wpAny (model X.prog X.w) X.A (f v u) Q X.xe s₂) X.xe s₁) X.xe s := by
  refine thn (ha pins s σd G σ H _ j h) fun v s1 zz => zz.use fun dx x G1 H1 j1 t1 i1 r1 q1 => ?_
  refine thn (hb pins s1 σd G1 σ H1 _ j1 q1) fun u s2 zz => zz.use fun dy y G2 H2 j2 t2 i2 r2 q2 => ?_
  exact hf v u s2 dx dy x y G2 H2 j2 (t1.trans t2) (i1.mono t2) i2 r1 r2 q2
theorem de_op {op : Operator} {r : RD2} (ho : OpD X (binaryOp op) r) (ha : PED X a ta) (hb : PED X b tb) : PED X (.BinOp a op b pos) (dOp r ta tb) := by
  intro pins s σd G σ H Q j h
  exact wpAny_BinOp (binD ha hb j h fun v u s2 dx dy x y G2 H2 j2 t2 ix iy rx ry q => thn (ho pins s2 σd G2 σ H2 dx dy x y v u Q j2 ix iy rx ry q) fun _ _ z => z.from t2)
theorem de_un {op : UnaryOp} {r : D → GHp → DK → Prop} (ho : UnD X (unaryOp op) r) (ha : PED X a ta) : PED X (.UnaryOp op a pos) (dUn r ta) := by
  intro pins s σd G σ H Q j h
  exact UnaryOp_ (thn (ha pins s σd G σ H _ j h) fun v s1 zz => zz.use fun dx x G1 H1 j1 t1 i1 r1 q1 => thn (ho pins s1 σd G1 σ H1 dx x v Q j1 i1 r1 q1) fun _ _ z => z.from t1)
theorem de_cmp {op : CmpOp} {r : RD2} (ho : OpD X (compareOp op) r) (ha : PED X a ta) (hb : PED X b tb) (hm : behindInMarks op b = false) : PED X (.Compare a [op] [b] pos) (dOp r ta tb) := by
  intro pins s σd G σ H Q j h
  exact wpAny_Compare1 (binD ha hb j h fun v u s2 dx dy x y G2 H2 j2 t2 ix iy rx ry q => thn (ho pins s2 σd G2 σ H2 dx dy x y v u Q j2 ix iy rx ry q) fun _ _ z => z.from t2) hm
theorem IsV.bl_of {K : PySem.W.Frag} {H : Hp} {k : Bool} {v : V} {u : Value} (i : IsV K H (.bl k) v) (r : RelV v u) : u = .bool k := by cases i; exact r
theorem dt_cmp {op : CmpOp} {r : RD2} (ho : OpD X (compareOp op) r) (ha : PED X a ta) (hb : PED X b tb) (hm : behindInMarks op b = false) : PTD X (.Compare a [op] [b] pos) (dTest (dOp r ta tb)) := by
  intro pins s σd G σ H Q j h
  refine wpAny_isTrue_Compare1 (thn (ha pins s σd G σ H _ j h) fun v s1 zz => zz.use fun dx x G1 H1 j1 t1 i1 r1 q1 => thn (hb pins s1 σd G1 σ H1 _ j1 q1) fun u s2 zz => zz.use fun dy y G2 H2 j2 t2 i2 r2 q2 =>
    thn (ho pins s2 σd G2 σ H2 dx dy x y v u _ j2 (i1.mono t2) i2 r1 r2 q2) fun c s3 zz => zz.use fun dz z G3 H3 j3 t3 i3 r3 q3 => ?_) hm
  cases dz with
  | bl k =>
    cases i3.bl_of r3
    exact wpAny_truthy_bool ⟨G3, H3, j3, (t1.trans t2).trans t3, q3⟩
  | _ => exact False.elim q3
/-- an expression whose value is a bool, as a test -/
theorem dt_val {e : Expr} {t : TED} (h : PED X e t) (he : ∀ whole, isTrue e X.env whole = (do let v ← whole; standAt e.pos; holding [v] (truthy v)) := by intro _; rfl) : PTD X e (dTest t) := by
  intro pins s σd G σ H Q j hw
  refine isTrue_plain (thn (h pins s σd G σ H _ j hw) fun v s1 zz => zz.use fun dx x G1 H1 j1 t1 i1 r1 q1 => ?_) (he _)
  cases dx with
  | bl k =>
    cases i1.bl_of r1
    exact wpAny_truthy_bool ⟨G1, H1, j1, t1, q1⟩
  | _ => exact False.elim q1
theorem dw_or1 (ha : PTD X a tA) : PWD X (.BoolOp .Or [a] pos) tA := by
  intro wh pins s σd G σ H Q j h
  refine isTrue_or (thn (ha pins s σd G σ H Q j h) fun c s1 e => ?_)
  cases c with
  | false => exact isTrue_or_nil e
  | true => exact e
theorem dw_or (ha : PTD X a tA) (hb : PWD X (.BoolOp .Or (b :: rest) pos) tB) : PWD X (.BoolOp .Or (a :: b :: rest) pos) (dOr tA tB) := by
  intro wh pins s σd G σ H Q j h
  refine isTrue_or (thn (ha pins s σd G σ H _ j h) fun c s1 zz => zz.use fun G1 H1 j1 t1 q1 => ?_)
  cases c with
  | true => exact ⟨G1, H1, j1, t1, q1⟩
  | false => exact thn (hb wh pins s1 σd G1 σ H1 Q j1 q1) fun _ _ z => z.from t1
theorem dt_not (ha : PTD X a tA) : PTD X (.UnaryOp .Not a pos) (dNot tA) := by
  intro pins s σd G σ H Q j h
  exact isTrue_not (ha pins s σd G σ H (fun c G1 => Q (!c) G1) j h)
theorem de_one {op} {t : TED} (h : PED X a t) : PED X (.BoolOp op [a] pos) t := fun pins s σd G σ H Q j hw => BoolOp_one (h pins s σd G σ H Q j hw)
theorem de_and (ha : PED X a ta) (hb : PED X (.BoolOp .And (b :: rest) pos) tb) : PED X (.BoolOp .And (a :: b :: rest) pos) (dAndV ta tb) := by
  intro pins s σd G σ H Q j h
  refine BoolOp_and (thn (ha pins s σd G σ H _ j h) fun v s1 zz => zz.use fun dx x G1 H1 j1 t1 i1 r1 q1 => ?_)
  cases dx with
  | bl k =>
    cases i1.bl_of r1
    refine wpAny_truthy_bool ?_
    cases k with
    | true => exact thn (hb pins s1 σd G1 σ H1 Q j1 q1) fun _ _ z => z.from t1
    | false => exact ⟨.bl false, .bl false, G1, H1, j1, t1, .bl false, rfl, q1⟩
  | _ => exact False.elim q1
theorem de_or (ha : PED X a ta) (hb : PED X (.BoolOp .Or (b :: rest) pos) tb) : PED X (.BoolOp .Or (a :: b :: rest) pos) (dOrV ta tb) := by
  intro pins s σd G σ H Q j h
  refine BoolOp_or (thn (ha pins s σd G σ H _ j h) fun v s1 zz => zz.use fun dx x G1 H1 j1 t1 i1 r1 q1 => ?_)
  cases dx with
  | bl k =>
    cases i1.bl_of r1
    refine wpAny_truthy_bool ?_
    cases k with
    | false => exact thn (hb pins s1 σd G1 σ H1 Q j1 q1) fun _ _ z => z.from t1
    | true => exact ⟨.bl true, .bl true, G1, H1, j1, t1, .bl true, rfl, q1⟩
  | _ => exact False.elim q1
theorem da_nil : PAD X [] dNil := fun _ _ _ _ G _ H Q j h => Calls.spliced_nil ⟨[], [], G, H, j, .refl, .nil, .nil, h⟩
theorem da_cons {te : TED} (ha : PED X e te) (hr : PAD X es t) (hs : starEach (e :: es) X.env = (false, eval e X.env) :: starEach es X.env := by rfl) : PAD X (e :: es) (dCons te t) := by
  intro pos pins s σd G σ H Q j h
  rw [hs]
  show wpAny _ _ (spliced ((false, eval e X.env) :: backTo pos (starEach es X.env))) _ _ s
  refine Calls.spliced_cons (thn (ha pins s σd G σ H _ j h) fun u s1 zz => zz.use fun dx x G1 H1 j1 t1 i1 r1 q1 => ?_)
  exact thn (hr pos pins s1 σd G1 σ H1 _ j1 q1) fun us s2 zz => zz.use fun ds xs G2 H2 j2 t2 i2 r2 q2 => ⟨dx :: ds, x :: xs, G2, H2, j2, t1.trans t2, .cons (i1.mono t2) i2, .cons r1 r2, q2⟩
theorem de_tup {x1} (h : PAD X es t) : PED X (.Tuple es x1 pos) (dTup t) := by
  intro pins s σd G σ H Q j hq
  refine wpAny_Tuple_spliced (thn (h pos pins s σd G σ H _ j hq) fun us s1 ⟨ds, xs, G1, H1, j1, t1, i1, r, z, q⟩ => ⟨by rw [← r.length, ← i1.length]; exact z.le, ?_⟩)
  have hf : H1 s1.heap.objs.size = none := j1.inv.hok.fresh (Nat.le_refl _)
  have z' : xs.length ≤ sizeLine := by rw [← i1.length]; exact z.le
  have I2 : Inv X pins σ (upd H1 s1.heap.objs.size (.tup xs)) { s1 with heap := s1.heap.push { cls := .type "tuple", data := .seq us.toArray } } :=
    j1.inv.laid (t' := s1.toks) (fun b u e => Heap.get?_push_of_some _ e) (Nat.le_refl _) ⟨z', us, r, ⟨_, Heap.get?_push_size _ rfl, rfl, _, rfl⟩⟩
  exact (j1.up (s' := { s1 with heap := s1.heap.push { cls := .type "tuple", data := .seq us.toArray } }) ⟨.ref s1.heap.objs.size, _, I2, rfl, Up.newT j1.gh hf i1 q⟩).from t1
theorem de_lst (h : PAD X es t) : PED X (.List es pos) (dLst t) := by
  intro pins s σd G σ H Q j hq
  refine wpAny_List_spliced (thn (h pos pins s σd G σ H _ j hq) fun us s1 ⟨ds, xs, G1, H1, j1, t1, i1, r, z, q⟩ => ⟨by rw [← r.length, ← i1.length]; exact z.le, ?_⟩)
  have hf : H1 s1.heap.objs.size = none := j1.inv.hok.fresh (Nat.le_refl _)
  have z' : xs.length ≤ sizeLine := by rw [← i1.length]; exact z.le
  have I2 : Inv X pins σ (upd H1 s1.heap.objs.size (.lst xs)) { s1 with heap := s1.heap.push { cls := .type "list", data := .seq us.toArray } } :=
    j1.inv.laid (t' := s1.toks) (fun b u e => Heap.get?_push_of_some _ e) (Nat.le_refl _) ⟨z', us, 0, r, Heap.get?_push_size _ rfl⟩
  exact (j1.up (s' := { s1 with heap := s1.heap.push { cls := .type "list", data := .seq us.toArray } }) ⟨.ref s1.heap.objs.size, _, I2, rfl, Up.newL j1.gh hf i1 (q _ (j1.gh.free hf))⟩).from t1
end

/-! ### subscripts, slices -/
/-- the items of what may be indexed -/
def seqD (G : GHp) : D → Option (List D)
  | .tup xs => some xs
  | .rl xs => some xs
  | .ref a => match G a with
    | some (.lst xs) => some xs
    | _ => none
  | _ => none
theorem seqD_ref {G : GHp} {a : Addr} {xs : List D} (h : seqD G (.ref a) = some xs) : G a = some (.lst xs) := by
  have h' : (match G a with
    | some (.lst xs) => some xs
    | _ => none) = some xs := h
  split at h'
  · rename_i ys e
    cases h'
    exact e
  · cases h'
def qIx : RD2 := fun x y G Q => match y with
  | .int i => match seqD G x with
    | some xs => match atI xs i with
      | some d => Q d G
      | none => False
    | none => False
  | _ => False
def IxD (X : Cx) (r : RD2) : Prop :=
  ∀ (value slice : Expr) (pins : List (Addr × Obj)) (s : Shared) (σd : StD) (G : GHp) (σ : Sv) (H : Hp) (dx dy : D) (x y : V) (v u : Value) (Q : DK), J X pins σd G σ H s → IsV X.K H dx x → IsV X.K H dy y → RelV x v → RelV y u → r dx dy G Q →
    subscripted slice false v u = operate [v, u] (getItem v u) → wpAny (model X.prog X.w) X.A (subscriptTail value slice v u) (EPD X pins σd σ H Q) X.xe s
section
variable {X : Cx} {a b e : Expr} {es : List Expr} {ta tb te : TED} {t : TAD} {pos p2 : Pos}
theorem IsVs.atI {K : PySem.W.Frag} {H : Hp} {ds : List D} {vs : List V} {i : Int} {d : D} (r : IsVs K H ds vs) (h : L2.atI ds i = some d) : ∃ v, L2.atI vs i = some v ∧ IsV K H d v := by
  unfold L2.atI at h ⊢
  rw [← r.length]
  cases e : ixN ds.length i with
  | none => rw [e] at h; cases h
  | some n =>
    rw [e] at h
    exact r.get h
theorem seqD_of {K : PySem.W.Frag} {G : GHp} {H : Hp} {d : D} {v : V} {xs : List D} (g : GOk K G H) (i : IsV K H d v) (h : seqD G d = some xs) : ∃ p vs, v = .ref p ∧ (SqL K H p vs ∨ SqT K H p vs) ∧ IsVs K H xs vs := by
  cases i with
  | tup hs r => cases h; exact ⟨_, _, rfl, .inr hs, r⟩
  | rl hs r => cases h; exact ⟨_, _, rfl, .inl hs.sq, r⟩
  | ref p =>
    obtain ⟨hs, r⟩ := g _ _ (seqD_ref h)
    exact ⟨_, _, rfl, .inl (.of hs), r⟩
  | _ => cases h
theorem ixd : IxD X qIx := by
  intro value slice pins s σd G σ H dx dy x y v u Q j ix iy rx ry q hs
  cases iy with
  | int i =>
    unfold qIx at q
    dsimp only at q
    split at q
    rotate_left
    · exact False.elim q
    rename_i xs h1
    split at q
    rotate_left
    · exact False.elim q
    rename_i d h2
    obtain ⟨p, vs, rfl, hp, r⟩ := seqD_of j.gh ix h1
    obtain ⟨w, e, iw⟩ := r.atI h2
    refine thn (ix_seq value slice pins s σ H _ _ v u (Up X.K H Q) j.inv rx ry ?_ hs) fun _ _ z => j.up z
    rcases hp with hp | hp
    · exact .inl ⟨p, vs, i, w, rfl, rfl, hp, e, Up.same j.gh iw q⟩
    · exact .inr (.inl ⟨p, vs, i, w, rfl, rfl, hp, e, Up.same j.gh iw q⟩)
  | _ => exact False.elim q
theorem de_ix (ha : PED X a ta) (hb : PED X b tb) (hs : PlainIx b) : PED X (.Subscript a b pos) (dOp qIx ta tb) := by
  intro pins s σd G σ H Q j h
  exact Subscript_ (binD ha hb j h fun v u s2 dx dy x y G2 H2 j2 t2 ix iy rx ry q => thn (ixd a b pins s2 σd G2 σ H2 dx dy x y v u Q j2 ix iy rx ry q (hs _ _)) fun _ _ z => z.from t2)
/-- a slice's parts -/
abbrev TOD := StD → GHp → (Option Int → GHp → Prop) → Prop
def POD (X : Cx) (e : Option Expr) (t : TOD) : Prop :=
  ∀ (pins : List (Addr × Obj)) (s : Shared) (σd : StD) (G : GHp) (σ : Sv) (H : Hp) (Q : Option Int → GHp → Prop), J X pins σd G σ H s → t σd G Q →
    wpAny (model X.prog X.w) X.A (evalPart e X.env) (fun u s' => ∃ o G' H', J X pins σd G' σ H' s' ∧ TX H H' ∧ IsPart u o ∧ Q o G') X.xe s
def dPart (t : TED) : TOD := fun σd G Q => t σd G fun x G1 => match x with
  | .int i => Q (some i) G1
  | _ => False
theorem do_some (h : PED X e te) : POD X (some e) (dPart te) := by
  intro pins s σd G σ H Q j hw
  rw [evalPart_some]
  refine thn (h pins s σd G σ H _ j hw) fun u s1 zz => zz.use fun dx x G1 H1 j1 t1 i1 r1 q1 => ?_
  cases i1 with
  | int i =>
    obtain ⟨t, rfl⟩ := r1
    exact ⟨some i, G1, H1, j1, t1, .int i t, q1⟩
  | _ => exact False.elim q1
def cutD (xs : List D) (lo hi : Option Int) : List D := (xs.drop (HT.sIx xs.length 0 lo)).take (HT.sIx xs.length xs.length hi - HT.sIx xs.length 0 lo)
/-- xs[lo:hi] of a list: a new list -/
def qSl : D → Option Int → Option Int → GHp → DK → Prop := fun x lo hi G Q => match x with
  | .tup _ => False
  | x => match seqD G x with
    | some xs => ∀ p, G p = none → Q (.ref p) (gupd G p (.lst (cutD xs lo hi)))
    | none => False
def dSl (r : D → Option Int → Option Int → GHp → DK → Prop) (te : TED) (tl th : TOD) : TED := fun σd G Q => te σd G fun x G1 => tl σd G1 fun l G2 => th σd G2 fun u G3 => r x l u G3 Q
theorem de_slice {lo hi : Option Expr} {tl th : TOD} (he : PED X e te) (hl : POD X lo tl) (hu : POD X hi th) : PED X (.Subscript e (.Slice lo hi none p2) pos) (dSl qSl te tl th) := by
  intro pins s σd G σ H Q j h
  refine Subscript_ (thn (he pins s σd G σ H _ j h) fun v s1 zz => zz.use fun dx x G1 H1 j1 t1 i1 r1 q1 => ?_)
  refine wpAny_Slice (thn (hl pins s1 σd G1 σ H1 _ j1 q1) fun vl s2 ⟨l, G2, H2, j2, t2, pl, q2⟩ => thn (hu pins s2 σd G2 σ H2 _ j2 q2) fun vu s3 zz5 => ?_)
  obtain ⟨u, G3, H3, j3, t3, pu, q3⟩ := zz5
  rw [evalPart_none]
  refine wpAny_pure ?_
  have I4 : Inv X pins σ H3 { s3 with heap := s3.heap.push { cls := .type "slice", data := .fields #[vl, vu, .none] } } := j3.inv.kept (t' := s3.toks) fun b ob q => Heap.get?_push_of_some _ q
  have i3 := (i1.mono t2).mono t3
  have key : ∃ p vs xs, x = .ref p ∧ SqL X.K H3 p vs ∧ IsVs X.K H3 xs vs ∧ ∀ p, G3 p = none → Q (.ref p) (gupd G3 p (.lst (cutD xs l u))) := by
    unfold qSl at q3
    split at q3
    · exact False.elim q3
    · rename_i hnt
      split at q3
      rotate_left
      · exact False.elim q3
      rename_i xs e
      cases i3 with
      | tup hs r => exact absurd rfl (hnt _)
      | rl hs r =>
        cases e
        exact ⟨_, _, _, rfl, hs.sq, r, q3⟩
      | ref p =>
        obtain ⟨hs, r⟩ := j3.gh _ _ (seqD_ref e)
        exact ⟨_, _, _, rfl, .of hs, r, q3⟩
      | _ => cases e
  obtain ⟨p, vs, xs, rfl, hs, r, q⟩ := key
  obtain ⟨T, id, hT, ht, hg⟩ := sl_list pins { s3 with heap := s3.heap.push { cls := .type "slice", data := .fields #[vl, vu, .none] } } σ H3 (.ref p) v vl vu l u s3.heap.objs.size (Up X.K H3 Q) I4 r1 (Heap.IsSliceOf.new ..) pl pu
    ⟨p, vs, rfl, hs, fun b hb => by
      refine Up.newL (ds := cutD xs l u) j3.gh hb ?_ (q b (j3.gh.free hb))
      unfold cutD cutV
      rw [r.length]
      exact (r.drop _).take _⟩
  show wpAny (model X.prog X.w) X.A (subscriptTail e (.Slice lo hi none p2) v (.ref s3.heap.objs.size)) (EPD X pins σd σ H Q) X.xe { s3 with heap := s3.heap.push { cls := .type "slice", data := .fields #[vl, vu, .none] } }
  exact tail_any (ops := [.ref s3.heap.objs.size, v]) ht hT (thn hg fun _ _ z => (j3.up z).from ((t1.trans t2).trans t3)) (by with_unfolding_all rfl)
end

/-! ### calls of built-ins -/
def dCB (r : List D → GHp → DK → Prop) (t : TAD) : TED := fun σd G Q => t σd G fun ds G1 => r ds G1 Q
section
variable {X : Cx} {x : Str} {p pos : Pos} {e : Expr} {es : List Expr} {t : TAD} {id T : String} {r : List D → GHp → DK → Prop}
theorem de_callB (hc : CallD X (.builtin id) r) (hg : Gl X x) (hm : X.mg x = none) (hv : bootBuiltins x = some (.builtin id)) (ha : PAD X (e :: es) t) (hn : x ≠ "__name__" := by decide) (hdb : (x == ("__debug__" : Str)) = false := by decide)
    (he : starEach (e :: es) X.env = (false, eval e X.env) :: starEach es X.env := by rfl) (hpl : (backTo pos (starEach es X.env)).any (·.1) = false := by rfl) : PED X (.Call (.Name x p) (e :: es) [] pos) (dCB r t) := by
  intro pins s σd G σ H Q j h
  refine wpAny_Call_Name_kw (ld_blt j.inv hg hm hv ?_ hn hdb)
  exact PyProof.Rows.callWith_builtin1 (thn (ha pos pins s σd G σ H _ j h) fun us s1 zz => zz.use fun ds vs G1 H1 j1 t1 i1 r1 q1 => thn (hc pins s1 σd G1 σ H1 ds vs us Q j1 i1 r1 q1) fun _ _ z => z.from t1) he hpl
/-- the size of a number -/
def absI (i : Int) : Int := if i < 0 then -i else i
def qAbs : List D → GHp → DK → Prop := fun ds G Q => match ds with
  | [.int i] => Q (.int (absI i)) G
  | _ => False
theorem cd_abs : CallD X (.builtin "abs") qAbs := .of call_abs fun G H ds xs Q gok ix q => by
  unfold qAbs at q
  split at q
  · cases ix with
    | cons r rs => cases r; cases rs; exact ⟨_, rfl, Up.same gok (.int _) q⟩
  · exact False.elim q
def qLen : List D → GHp → DK → Prop := fun ds G Q => match ds with
  | [.str z] => Fits z.length ∧ Q (.int z.length) G
  | [x] => match seqD G x with
    | some xs => Q (.int xs.length) G
    | none => False
  | _ => False
theorem cd_len : CallD X (.builtin "len") qLen := .of (call_len_str.or call_len_seq) fun G H ds xs Q gok ix q => by
  unfold qLen at q
  split at q
  · cases ix with
    | cons r rs => cases r; cases rs; exact .inl ⟨_, rfl, q.1.le, Up.same gok (.int _) q.2⟩
  · split at q
    rotate_left
    · exact False.elim q
    rename_i ys e
    cases ix with
    | cons r rs =>
      cases rs
      obtain ⟨p, vs, rfl, hp, rr⟩ := seqD_of gok r e
      exact .inr ⟨p, vs, rfl, hp, Up.same gok (d := .int vs.length) (.int _) (by rw [← rr.length]; exact q)⟩
  · exact False.elim q
end

/-! ### statements -/
def dNext : TSD := fun E σd G => E.nx σd G
def dSeq (t u : TSD) : TSD := fun E σd G => t { E with nx := u E } σd G
def dDrop (te : TED) : TSD := fun E σd G => te σd G fun _ G1 => E.nx σd G1
def dRet (te : TED) : TSD := fun E σd G => te σd G E.rt
def dIfS (c : TTD) (t u : TSD) : TSD := fun E σd G => c σd G fun b G1 => if b = true then t E σd G1 else u E σd G1
abbrev TGD := D → StD → GHp → (StD → GHp → Prop) → Prop
def gdName (i : Nat) : TGD := fun d σd G Q => Q (σd.set i (some d)) G
def dAsg (te : TED) (g : TGD) : TSD := fun E σd G => te σd G fun x G1 => g x σd G1 E.nx
def dWhile (c : TTD) (tb : TSD) : TSD := fun E σd G => ∃ W : Nat → StD → GHp → Prop, (∃ m, W m σd G) ∧ ∀ m σd G, W m σd G →
  c σd G fun b G1 => if b = true then ∃ N : StD → GHp → Prop, (∀ σ' G', N σ' G' → ∃ m', m' < m ∧ W m' σ' G') ∧ tb { E with nx := N, ct := N, bk := E.nx } σd G1 else E.nx σd G1
section
variable {X : Cx} {st : Stmt} {rest : List Stmt} {t u : TSD} {e : Expr} {te : TED} {pos : Pos}
theorem dss_nil : PSsD X [] dNext := fun _ _ σd G σ H _ j h => wpAny_execs_nil ⟨σd, G, σ, H, j, .refl, h⟩
theorem dss_cons (h1 : PSD X st t) (h2 : PSsD X rest u) : PSsD X (st :: rest) (dSeq t u) := by
  intro pins s σd G σ H E j h
  refine wpAny_execs_cons (thn (h1 pins s σd G σ H { E with nx := u E } j h) fun f s1 q => ?_)
  cases f with
  | next =>
    obtain ⟨σd', G', σ', H', j', t', q⟩ := q
    exact thn (h2 pins s1 σd' G' σ' H' E j' q) fun _ _ z => z.from t'
  | ret v => exact q
  | brk => exact q
  | cont => exact q
theorem dss_one (h1 : PSD X st t) : PSsD X [st] t := by
  intro pins s σd G σ H E j h
  refine wpAny_execs_cons (thn (h1 pins s σd G σ H E j h) fun f s1 q => ?_)
  cases f with
  | next => exact wpAny_execs_nil q
  | ret v => exact q
  | brk => exact q
  | cont => exact q
theorem ds_expr (he : PED X e te) (hs : swapsWith e none pos.line X.env = pure false := by rfl) : PSD X (.Expr e pos) (dDrop te) := by
  intro pins s σd G σ H E j h
  exact wpAny_Expr_any (thn (he pins s σd G σ H _ j h) fun v s1 zz => zz.use fun dx x G1 H1 j1 t1 i1 r1 q1 => ⟨σd, G1, σ, H1, j1, t1, q1⟩) j.inv.quiet hs
theorem ds_ret (he : PED X e te) : PSD X (.Return (some e) pos) (dRet te) := by
  intro pins s σd G σ H E j h
  exact wpAny_Return_some (thn (he pins s σd G σ H _ j h) fun v s1 zz => zz.use fun dx x G1 H1 j1 t1 i1 r1 q1 => ⟨dx, x, σd, G1, σ, H1, j1, t1, i1, r1, q1⟩)
theorem ds_if {c : Expr} {a b : List Stmt} {tc : TTD} (hc : PTD X c tc) (ha : PSsD X a t) (hb : PSsD X b u) : PSD X (.If c a b pos) (dIfS tc t u) := by
  intro pins s σd G σ H E j h
  refine wpAny_If (thn (hc pins s σd G σ H _ j h) fun d s1 zz => zz.use fun G1 H1 j1 t1 q1 => ?_)
  cases d with
  | true => exact thn (ha pins s1 σd G1 σ H1 E j1 q1) fun _ _ z => z.from t1
  | false => exact thn (hb pins s1 σd G1 σ H1 E j1 q1) fun _ _ z => z.from t1
/-- a name is stored -/
theorem J.store {pins : List (Addr × Obj)} {σd : StD} {G : GHp} {σ : Sv} {H : Hp} {s s' : Shared} {i : Nat} {d : D} {v : V} (j : J X pins σd G σ H s) (I : Inv X pins (σ.set i (some v)) H s') (r : IsV X.K H d v) : J X pins (σd.set i (some d)) G (σ.set i (some v)) H s' := by
  refine ⟨I, by simp [j.len], fun k d' e => ?_, j.gh⟩
  by_cases hk : i = k
  · subst hk
    have hl : i < σd.length := by
      have := (List.getElem?_eq_some_iff.mp e).1
      simpa using this
    rw [List.getElem?_set_self hl] at e
    cases e
    exact ⟨v, List.getElem?_set_self (by rw [← j.len]; exact hl), r⟩
  · rw [List.getElem?_set_ne hk] at e
    obtain ⟨v', e1, r1⟩ := j.st k d' e
    exact ⟨v', by rw [List.getElem?_set_ne hk]; exact e1, r1⟩
theorem ds_set {i : Nat} {x : Str} {pos' : Pos} (hN : X.N.Nodup) (hi : X.N[i]? = some x) (hx : Loc X.env.scope x) (he : PED X e te) (hs : swapsWith e (some (.Name x pos')) pos.line X.env = pure false := by rfl) (hf : X.fn x = true ∨ X.env.scope.names.lookup x = some .local := by first | exact .inl rfl | exact .inr rfl | assumption) :
    PSD X (.Assign [.Name x pos'] e pos) (dAsg te (gdName i)) := by
  intro pins s σd G σ H E j h
  refine wpAny_Assign_Name (thn (he pins s σd G σ H _ j h) fun v s1 zz => zz.use fun dx x G1 H1 j1 t1 i1 r1 q1 => ?_) hs
  exact store_ok j1.inv hN hi hx r1 (fun s2 I2 => ⟨_, G1, _, H1, j1.store I2 i1, t1, q1⟩) hf
theorem ds_while {c : Expr} {body : List Stmt} {tc : TTD} {tb : TSD} (hp : PassesOwn (model X.prog X.w) X.A X.env X.xe) (hc : PTD X c tc) (hb : PSsD X body tb) : PSD X (.While c body [] pos) (dWhile tc tb) := by
  intro pins s σd G σ H E j h
  obtain ⟨W, ⟨m0, w0⟩, turn⟩ := h
  refine wpAny_While (codeAny_whileLoop (fun n s' => ∃ σd' G' σ' H', J X pins σd' G' σ' H' s' ∧ TX H H' ∧ W n σd' G') ?_ m0 ⟨σd, G, σ, H, j, .refl, w0⟩)
  rintro n s1 ⟨σd1, G1, σ1, H1, j1, t1, w1⟩
  refine wpAny_passesOwn hp (thn (hc pins s1 σd1 G1 σ1 H1 _ j1 (turn n σd1 G1 w1)) fun b s2 zz => zz.use fun G2 H2 j2 t2 q2 => ?_)
  cases b with
  | true =>
    obtain ⟨N, hN, q2⟩ := q2
    rw [if_pos rfl]
    refine wpAny_passesOwn hp (thn (hb pins s2 σd1 G2 σ1 H2 _ j2 q2) fun f s3 q3 => ?_)
    cases f with
    | next =>
      obtain ⟨σd3, G3, σ3, H3, j3, t3, n3⟩ := q3
      obtain ⟨m', hm, w3⟩ := hN σd3 G3 n3
      exact ⟨m', hm, σd3, G3, σ3, H3, j3, (t1.trans t2).trans t3, w3⟩
    | cont =>
      obtain ⟨σd3, G3, σ3, H3, j3, t3, n3⟩ := q3
      obtain ⟨m', hm, w3⟩ := hN σd3 G3 n3
      exact ⟨m', hm, σd3, G3, σ3, H3, j3, (t1.trans t2).trans t3, w3⟩
    | brk => exact SPD.from (E := E) (f := .next) q3 (t1.trans t2)
    | ret v => exact SPD.from (E := E) (f := .ret v) q3 (t1.trans t2)
  | false =>
    rw [if_neg Bool.false_ne_true]
    exact wpAny_execs_nil ⟨σd1, G2, σ1, H2, j2, t1.trans t2, q2⟩
end

/-! ### for -/
/-- what a loop walks: its items, what must stay true of the heap -/
abbrev TID := StD → GHp → (List D → (GHp → Prop) → GHp → Prop) → Prop
def PIDE (X : Cx) (pins : List (Addr × Obj)) (σd : StD) (σ : Sv) (H : Hp) (tg : Expr) (R : List D → (GHp → Prop) → GHp → Prop) (itv : Value) (s2 : Shared) : Prop :=
  ∃ (it : Addr) (fp : List Addr) (tn : Nat → Heap → Prop) (I : It) (G' : GHp) (H' : Hp) (ds : List D) (kp : GHp → Prop), itv = .ref it ∧ J X pins σd G' σ H' s2 ∧ TX H H' ∧ Turn X.prog X.w X.K tg I fp it tn ∧ tn 0 s2.heap ∧ (∀ b ∈ fp, FpOk X pins H' b) ∧
    (∀ i G2 H2, TX H' H2 → GOk X.K G2 H2 → kp G2 → ds.length ≤ i → I.stop i H2) ∧
    (∀ i d G2 H2, TX H' H2 → GOk X.K G2 H2 → kp G2 → ds[i]? = some d → I.go i H2 ∧ ∀ x H3, I.yld i H2 x H3 → TX H2 H3 ∧ GOk X.K G2 H3 ∧ IsV X.K H3 d x) ∧ R ds kp G'
def PID (X : Cx) (tg iter : Expr) (wi : TID) : Prop :=
  ∀ (pins : List (Addr × Obj)) (s : Shared) (σd : StD) (G : GHp) (σ : Sv) (H : Hp) (R : List D → (GHp → Prop) → GHp → Prop), J X pins σd G σ H s → wi σd G R →
    wpAny (model X.prog X.w) X.A (eval iter X.env) (fun v s1 => wpAny (model X.prog X.w) X.A (pyIter v) (PIDE X pins σd σ H tg R) X.xe s1) X.xe s
def PGD (X : Cx) (target : Expr) (t : TGD) : Prop :=
  ∀ (pins : List (Addr × Obj)) (s : Shared) (σd : StD) (G : GHp) (σ : Sv) (H : Hp) (d : D) (v : V) (u : Value) (Q : StD → GHp → Prop), J X pins σd G σ H s → IsV X.K H d v → RelV v u → t d σd G Q →
    wpAny (model X.prog X.w) X.A (assign target X.env u) (fun _ s' => ∃ σd' G' σ' H', J X pins σd' G' σ' H' s' ∧ TX H H' ∧ Q σd' G') X.xe s
/-- the loop over these items, by its word P -/
def Loop (ds : List D) (kp : GHp → Prop) (g : TGD) (tb : TSD) (E : EndsD) (σd : StD) (G : GHp) : Prop := ∃ P : Nat → StD → GHp → Prop, P 0 σd G ∧ (∀ i σ' G', i ≤ ds.length → P i σ' G' → kp G') ∧
  (∀ i d σ' G', ds[i]? = some d → P i σ' G' → g d σ' G' fun σ2 G2 => tb { E with nx := P (i + 1), ct := P (i + 1), bk := E.nx } σ2 G2) ∧ ∀ σ' G', P ds.length σ' G' → E.nx σ' G'
def dFor (wi : TID) (g : TGD) (tb : TSD) : TSD := fun E σd G => wi σd G fun ds kp G1 => Loop ds kp g tb E σd G1
theorem loop_by {ds : List D} {kp : GHp → Prop} {g : TGD} {tb : TSD} {E : EndsD} {σd : StD} {G : GHp} (P : Nat → StD → GHp → Prop) (h0 : P 0 σd G) (hk : ∀ i σ' G', i ≤ ds.length → P i σ' G' → kp G')
    (hs : ∀ i d σ' G', ds[i]? = some d → P i σ' G' → g d σ' G' fun σ2 G2 => tb { E with nx := P (i + 1), ct := P (i + 1), bk := E.nx } σ2 G2) (hd : ∀ σ' G', P ds.length σ' G' → E.nx σ' G') : Loop ds kp g tb E σd G := ⟨P, h0, hk, hs, hd⟩
section
variable {X : Cx} {tg : Expr} {pos : Pos}
theorem gd_name {i : Nat} {x : Str} (hN : X.N.Nodup) (hi : X.N[i]? = some x) (hx : Loc X.env.scope x) (hf : X.fn x = true ∨ X.env.scope.names.lookup x = some .local := by first | exact .inl rfl | exact .inr rfl | assumption) : PGD X (.Name x pos) (gdName i) := by
  intro pins s σd G σ H d v u Q j iv r h
  exact wpAny_assign_Name (store_ok j.inv hN hi hx r (fun s' I' => ⟨_, G, _, H, j.store I' iv, .refl, h⟩) hf)
theorem J.pinned {pins : List (Addr × Obj)} {σd : StD} {G : GHp} {σ : Sv} {H : Hp} {s : Shared} {fp : List Addr} (j : J X pins σd G σ H s) (hf : ∀ b ∈ fp, FpOk X pins H b) (ho : ∀ b ∈ fp, ∃ o, s.heap.get? b = some o ∧ ∀ v, o.data ≠ .cell v) : J X (pins ++ pinsAt fp s.heap) σd G σ H s :=
  ⟨j.inv.pinned hf ho, j.len, j.st, j.gh⟩
theorem J.unpinned {pins pl : List (Addr × Obj)} {σd : StD} {G : GHp} {σ : Sv} {H : Hp} {s : Shared} (j : J X (pins ++ pl) σd G σ H s) : J X pins σd G σ H s := ⟨j.inv.unpinned, j.len, j.st, j.gh⟩
theorem ds_for {iter : Expr} {body : List Stmt} {wi : TID} {g : TGD} {tb : TSD} (hp : PassesOwn (model X.prog X.w) X.A X.env X.xe) (hc : X.calm = true) (hi : PID X tg iter wi) (hg : PGD X tg g) (hb : PSsD X body tb)
    (hs : ∀ x, foldedSetIterable iter X.env x = pure x := by intro _; rfl) : PSD X (.For tg iter body [] pos) (dFor wi g tb) := by
  intro pins s σd G σ H E j h
  refine wpAny_For (thn (hi pins s σd G σ H _ j h) fun v s1 h1 => thn h1 fun itv s2 h2 => ?_) hs
  obtain ⟨it, fp, tn, I, G2, H2, ds, kp, e, j2, t2, T, st2, f2, hstop, hgo, P, p0, pk, turn, fin⟩ := h2
  subst e
  have stat : ∀ {H' : Hp}, (∀ b ∈ fp, H' b = none) → ∀ b ∈ fp, FpOk X pins H' b := fun hn b hb => ⟨hn b hb, (f2 b hb).2⟩
  refine codeAny_forLoop_any (fun n s' => ∃ i σd' G' σ' H', n = ds.length - i ∧ i ≤ ds.length ∧ J X pins σd' G' σ' H' s' ∧ TX H2 H' ∧ tn i s'.heap ∧ (∀ b ∈ fp, H' b = none) ∧ P i σd' G') ?_ ds.length
    ⟨0, σd, G2, σ, H2, rfl, Nat.zero_le _, j2, .refl, st2, fun b hb => (f2 b hb).1, p0⟩
  rintro n s3 ⟨i, σd3, G3, σ3, H3, rfl, hil, j3, t3, st3, fr3, p3⟩
  have k3 := pk i σd3 G3 hil p3
  by_cases hlt : i < ds.length
  · have hd : ds[i]? = some ds[i] := by simp [hlt]
    obtain ⟨go, yl⟩ := hgo i ds[i] G3 H3 t3 j3.gh k3 hd
    refine wpAny_passesOwn hp (thn (T.item X rfl rfl rfl hc i pins s3 σ3 H3 X.xe j3.inv (stat fr3) st3 go) fun r s4 zz1 => ?_)
    obtain ⟨u, hr, h4⟩ := zz1
    subst hr
    refine wpAny_passesOwn hp (thn h4 fun _ s5 zz2 => ?_)
    obtain ⟨x, H5, I5, r5, y5, st5, fr5⟩ := zz2
    obtain ⟨t5, g5, iv5⟩ := yl x H5 y5
    have j5 : J X pins σd3 G3 σ3 H5 s5 := ⟨I5, j3.len, j3.st.mono t5, g5⟩
    have t3 := t3.trans t5
    have j5' := j5.pinned (stat fr5) (T.obj _ _ st5)
    refine wpAny_passesOwn hp (thn (hg _ s5 σd3 G3 σ3 H5 ds[i] x u _ j5' iv5 r5 (turn i ds[i] σd3 G3 hd p3)) fun _ s6 zz3 => ?_)
    obtain ⟨σd6, G6, σ6, H6, j6, t6, q6⟩ := zz3
    refine wpAny_passesOwn hp (thn (hb _ s6 σd6 G6 σ6 H6 _ j6 q6) fun f s7 q7 => ?_)
    have again : ∀ {σd7 : StD} {G7 : GHp} {σ7 : Sv} {H7 : Hp}, J X (pins ++ pinsAt fp s5.heap) σd7 G7 σ7 H7 s7 → TX H6 H7 → P (i + 1) σd7 G7 →
        ∃ m, m < ds.length - i ∧ ∃ i σd' G' σ' H', m = ds.length - i ∧ i ≤ ds.length ∧ J X pins σd' G' σ' H' s7 ∧ TX H2 H' ∧ tn i s7.heap ∧ (∀ b ∈ fp, H' b = none) ∧ P i σd' G' := fun {σd7 G7 σ7 H7} j7 t7 p7 => by
      refine ⟨ds.length - (i + 1), by omega, i + 1, σd7, G7, σ7, H7, rfl, hlt, j7.unpinned, (t3.trans t6).trans t7, T.keep _ _ _ st5 fun b hb o e => (j7.inv.pin (b, o) (List.mem_append_right _ (List.mem_append_right _ (mem_pinsAt hb e)))).1, fun b hb => ?_, p7⟩
      obtain ⟨o, e, d⟩ := T.obj _ _ st5 b hb
      exact (j7.inv.pin (b, o) (List.mem_append_right _ (List.mem_append_right _ (mem_pinsAt hb e)))).2.1
    cases f with
    | next => obtain ⟨σd7, G7, σ7, H7, j7, t7, n7⟩ := q7; exact again j7 t7 n7
    | cont => obtain ⟨σd7, G7, σ7, H7, j7, t7, n7⟩ := q7; exact again j7 t7 n7
    | brk => obtain ⟨σd7, G7, σ7, H7, j7, t7, n7⟩ := q7; exact ⟨σd7, G7, σ7, H7, j7.unpinned, ((t2.trans t3).trans t6).trans t7, n7⟩
    | ret v => obtain ⟨d7, v7, σd7, G7, σ7, H7, j7, t7, iv7, r7, n7⟩ := q7; exact ⟨d7, v7, σd7, G7, σ7, H7, j7.unpinned, ((t2.trans t3).trans t6).trans t7, iv7, r7, n7⟩
  · have e : i = ds.length := by omega
    subst e
    refine wpAny_passesOwn hp (thn (T.done X rfl rfl rfl hc _ pins s3 σ3 H3 X.xe j3.inv (stat fr3) st3 (hstop _ G3 H3 t3 j3.gh k3 (Nat.le_refl _))) fun r s4 zz4 => ?_)
    obtain ⟨hr, I4⟩ := zz4
    subst hr
    exact wpAny_execs_nil ⟨σd3, G3, σ3, H3, ⟨I4, j3.len, j3.st, j3.gh⟩, t2.trans t3, fin σd3 G3 p3⟩
/-- over a list, the script, a tuple -/
def iSeq (tl : TED) : TID := fun σd G R => tl σd G fun x G1 => match x with
  | .tup xs => R xs (fun _ => True) G1
  | .rl xs => R xs (fun _ => True) G1
  | .ref a => match G1 a with
    | some (.lst xs) => R xs (fun G' => G' a = some (.lst xs)) G1
    | _ => False
  | _ => False
theorem id_seq {l : Expr} {tl : TED} (hl : PED X l tl) : PID X tg l (iSeq tl) := by
  intro pins s σd G σ H R j h
  refine thn (hl pins s σd G σ H _ j h) fun v s1 zz => zz.use fun dx x G1 H1 j1 t1 i1 r1 q1 => ?_
  have list : ∀ (a : Addr) (ds : List D) (kp : GHp → Prop), v = .ref a → (∃ vs, SqL X.K H1 a vs) → (∀ G2 H2, TX H1 H2 → GOk X.K G2 H2 → kp G2 → ∃ vs, SqL X.K H2 a vs ∧ IsVs X.K H2 ds vs) → R ds kp G1 →
      wpAny (model X.prog X.w) X.A (pyIter v) (PIDE X pins σd σ H tg R) X.xe s1 := by
    intro a ds kp e hv hk q
    subst e
    obtain ⟨vs, hq⟩ := hv
    obtain ⟨its, rv, p, hz⟩ := j1.inv.list hq
    refine wpAny_pyIter_list p.isList ?_
    refine ⟨s1.heap.objs.size, [s1.heap.objs.size], _, _, G1, H1, ds, kp, rfl, j1.next (j1.inv.kept (t' := s1.toks) fun b o e => Heap.get?_push_of_some _ e) .refl j1.gh, t1, turn_list a _, ⟨_, Heap.get?_push_size _ rfl, rfl, rfl⟩, fun b hb => ?_, ?_, ?_, q⟩
    · have e : b = s1.heap.objs.size := by simpa using hb
      subst e
      exact j1.inv.fpOk (Nat.le_refl _) (j1.inv.hok.fresh (Nat.le_refl _))
    · intro i G2 H2 tx g2 k2 hl
      obtain ⟨vs2, h2, r2⟩ := hk G2 H2 tx g2 k2
      exact ⟨vs2, h2, by rw [← r2.length]; exact hl⟩
    · intro i d G2 H2 tx g2 k2 hd
      obtain ⟨vs2, h2, r2⟩ := hk G2 H2 tx g2 k2
      obtain ⟨w, ew, iw⟩ := r2.get hd
      refine ⟨⟨vs2, w, h2, ew⟩, fun x H3 y => ?_⟩
      obtain ⟨e, y⟩ := y
      subst e
      have := y vs2 h2
      rw [ew] at this
      cases this
      exact ⟨.refl, g2, iw⟩
  cases dx with
  | rl xs =>
    cases i1 with
    | rl hs r =>
      cases r1
      exact list _ xs _ rfl ⟨_, hs.sq⟩ (fun G2 H2 tx _ _ => ⟨_, (tx.rol hs).sq, r.mono tx⟩) q1
  | ref a =>
    cases i1
    cases r1
    dsimp only at q1
    split at q1
    rotate_left
    · exact False.elim q1
    rename_i xs e
    have q := q1
    obtain ⟨hs, r⟩ := j1.gh _ _ e
    exact list a xs _ rfl ⟨_, SqL.of hs⟩ (fun G2 H2 tx g2 k2 => by
      obtain ⟨hs2, r2⟩ := g2 _ _ k2
      exact ⟨_, SqL.of hs2, r2⟩) q
  | tup xs =>
    cases i1 with
    | tup hs r =>
      cases r1
      obtain ⟨its, rv, p, hz⟩ := j1.inv.tuple hs
      refine wpAny_pyIter_tuple p ?_
      refine ⟨s1.heap.objs.size, [s1.heap.objs.size], _, _, G1, H1, xs, fun _ => True, rfl, j1.next (j1.inv.kept (t' := s1.toks) fun b o e => Heap.get?_push_of_some _ e) .refl j1.gh, t1, turn_tuple _ _, ⟨_, Heap.get?_push_size _ rfl, rfl, rfl⟩, fun b hb => ?_, ?_, ?_, q1⟩
      · have e : b = s1.heap.objs.size := by simpa using hb
        subst e
        exact j1.inv.fpOk (Nat.le_refl _) (j1.inv.hok.fresh (Nat.le_refl _))
      · intro i G2 H2 tx g2 k2 hl
        exact ⟨_, tx.seqT hs, by rw [← r.length]; exact hl⟩
      · intro i d G2 H2 tx g2 k2 hd
        obtain ⟨w, ew, iw⟩ := (r.mono tx).get hd
        refine ⟨⟨_, w, tx.seqT hs, ew⟩, fun x H3 y => ?_⟩
        obtain ⟨e, y⟩ := y
        subst e
        have := y _ (tx.seqT hs)
        rw [ew] at this
        cases this
        exact ⟨.refl, g2, iw⟩
  | _ => exact False.elim q1
/-- the ints lo, lo + c, .. -/
def rngD (lo c : Int) (n : Nat) : List D := (List.range n).map fun i : Nat => D.int (lo + (i : Int) * c)
theorem turn_rangeC {P : Program} {w : World} {K : PySem.W.Frag} {tg : Expr} (it : Addr) (lo c : Int) (n : Nat) : Turn P w K tg ⟨fun i _ => i < n, fun i H x H' => H' = H ∧ x = .int (lo + i * c), fun i _ => n ≤ i⟩ [it] it (fun i h => IsRangeIter h it (lo + (i : Nat) * c) ((n : Int) - (i : Nat)) c) where
  mem := by simp
  obj := fun i h st b hb => by
    have e : b = it := by simpa using hb
    subst e
    exact ⟨_, st, fun v z => by
      have z' : Data.fields _ = Data.cell v := z
      cases z'⟩
  keep := fun i h h' st k => k it (by simp) _ st
  item := by
    intro X hP hw hK hc i pins s σ H E I hf st hg
    subst hP hw hK
    obtain ⟨f0, f1, f2, f3, f4, f5⟩ := hf it (by simp)
    have W := Walks.range (prog := X.prog) (w := X.w) (I.ok.hd hc) it lo c n
    refine W.item i s _ _ hg st fun v h' tk hv st' kk => ?_
    obtain ⟨t, rfl⟩ := hv
    have I1 : Inv X pins σ H { s with heap := h', toks := tk } := I.turned (fun b o hb e => kk b o (by simpa using hb) e) f0 f1 f3 f4 f5
    exact ⟨_, rfl, go_of (s := { s with heap := h', toks := tk }) (n := "range_iterator") st' rfl rfl (by decide) ⟨.int (lo + i * c), H, I1, ⟨t, rfl⟩, ⟨rfl, rfl⟩, st', fun b hb => (hf b hb).1⟩⟩
  done := by
    intro X hP hw hK hc i pins s σ H E I hf st hg
    subst hP hw hK
    obtain ⟨f0, f1, f2, f3, f4, f5⟩ := hf it (by simp)
    exact wpAny_pyNext_range_end (I.ok.hd hc) st (by have : n ≤ i := hg; omega) fun h' eb => ⟨rfl, I.turned (t' := s.toks) (fun b o hb e => eb b o hb e) f0 f1 f3 f4 f5⟩
  self := fun _ _ _ _ _ st h => wpAny_pyIter_rangeiter st h
theorem isV_int {K : PySem.W.Frag} {H : Hp} {i : Int} {v : V} (h : IsV K H (.int i) v) : v = .int i := by cases h; rfl
theorem isV_tup {K : PySem.W.Frag} {H : Hp} {xs : List D} {v : V} (h : IsV K H (.tup xs) v) : ∃ a vs, v = .ref a ∧ SqT K H a vs ∧ IsVs K H xs vs := by
  cases h with
  | tup h r => exact ⟨_, _, rfl, h, r⟩
theorem isVs_cons {K : PySem.W.Frag} {H : Hp} {d : D} {ds : List D} {vs : List V} (h : IsVs K H (d :: ds) vs) : ∃ v ws, vs = v :: ws ∧ IsV K H d v ∧ IsVs K H ds ws := by
  cases h with
  | cons r rs => exact ⟨_, _, rfl, r, rs⟩
theorem isVs_nil {K : PySem.W.Frag} {H : Hp} {vs : List V} (h : IsVs K H [] vs) : vs = [] := by cases h; rfl
theorem vals_cons {v : V} {vs : List V} {us : List Value} (h : Vals (v :: vs) us) : ∃ u ws, us = u :: ws ∧ RelV v u ∧ Vals vs ws := by
  cases h with
  | cons r rs => exact ⟨_, _, rfl, r, rs⟩
theorem vals_nil {us : List Value} (h : Vals [] us) : us = [] := by cases h; rfl
end

/-! ### defs -/
abbrev SpD := List D → GHp → DK → Prop
def spOf (K : PySem.W.Frag) (sp : SpD) : Sp := fun vs H Q _ => ∃ ds G Qd, IsVs K H ds vs ∧ GOk K G H ∧ sp ds G Qd ∧ ∀ v H', Up K H Qd v H' → Q v H'
def startD (N : List Str) (ds : List D) : StD := ds.map some ++ List.replicate (N.length - ds.length) none
/-- n names beside the parameters -/
def st0 (n : Nat) (ds : List D) : StD := ds.map some ++ List.replicate n none
theorem startD_st0 {N ps : List Str} {ds : List D} {n : Nat} (hn : N.length = ps.length + n) (hl : ds.length = ps.length) : startD N ds = st0 n ds := by
  unfold startD st0
  rw [hn, hl, Nat.add_sub_cancel_left]
theorem start_ok {K : PySem.W.Frag} {H : Hp} {N : List Str} {ds : List D} {vs : List V} (r : IsVs K H ds vs) : (startD N ds).length = (L2.start N vs).length ∧ IsSt K H (startD N ds) (L2.start N vs) := by
  have hl := r.length
  constructor
  · simp [startD, L2.start, hl]
  · intro i d e
    unfold startD at e
    by_cases hi : i < ds.length
    · rw [List.getElem?_append_left (by simpa using hi), List.getElem?_map] at e
      cases q : ds[i]? with
      | none => rw [q] at e; cases e
      | some d' =>
        rw [q] at e
        cases e
        obtain ⟨v, e1, r1⟩ := r.get q
        refine ⟨v, ?_, r1⟩
        unfold L2.start
        rw [List.getElem?_append_left (by rw [List.length_map, ← hl]; exact hi), List.getElem?_map, e1]
        rfl
    · rw [List.getElem?_append_right (by simpa using hi), List.getElem?_replicate] at e
      split at e <;> cases e
section
variable {P : Program} {w : World} {K : PySem.W.Frag} {mg : Str → Option Value} {base : Heap}
theorem Fun.okD {x qual : Str} {st : Stmt} {f : Addr} {fd : FuncData} {N ps : List Str} {k : Nat} {sp : SpD} (n : Nat) (hn : N.length = ps.length + n) (F : Fun K x qual st f fd) (S : FnScope N ps (defScope st)) (len : ∀ ds G Q, sp ds G Q → ds.length = ps.length)
    (hbody : ∀ (cdv : Value) (A : Around) (outer : List Env) (s : Shared) (H : Hp) (ds : List D) (G : GHp) (Q : DK) (E : XK), Room k (A.deeper (envOfC qual (defScope st) s.heap.objs.size f cdv)) → sp ds G Q →
      ∃ t, PSsD (cxOf CX0 P w K mg base N qual (defScope st) f cdv A outer s H E).nox (defBody st) t ∧ t { nx := fun _ G' => Q .non G', rt := Q } (st0 n ds) G) : FnOk P w K mg base CX0 (k + 1) f fd ps (spOf K sp) := by
  refine F.ok S (fun vs H Q E h => ?_) (fun cdv A outer s H vs Q E hr h => ?_)
  · obtain ⟨ds, G, Qd, iv, _, h, _⟩ := h
    rw [← iv.length]
    exact len _ _ _ h
  · obtain ⟨ds, G, Qd, iv, gok, h, kk⟩ := h
    obtain ⟨t, ht, hq⟩ := hbody cdv A outer s H ds G Qd E hr h
    rw [← startD_st0 hn (len _ _ _ h)] at hq
    refine ⟨fun De σ H0 => ∃ σd G0, σd.length = σ.length ∧ IsSt K H0 σd σ ∧ GOk K G0 H0 ∧ t { nx := fun _ G' => Qd .non G', rt := Qd } σd G0 ∧ (∀ v H', Up K H0 Qd v H' → De.rt v H') ∧ ∀ σ' H', Up K H0 Qd .non H' → De.nx σ' H', ?_, ?_⟩
    · intro pins s' σ H0 De I hz
      obtain ⟨σd, G0, hl, hst, hg, hqq, k1, k2⟩ := hz
      refine thn (ht pins s' σd G0 σ H0 _ ⟨I, hl, hst, hg⟩ hqq) fun fl s2 z => ?_
      cases fl with
      | next => obtain ⟨σd', G', σ', H', j, tx, q⟩ := z; exact ⟨σ', H', j.inv, k2 σ' H' ⟨.non, G', tx, j.gh, .non, q⟩⟩
      | ret u => obtain ⟨d, v, σd', G', σ', H', j, tx, iv, r, q⟩ := z; exact ⟨v, σ', H', j.inv, r, k1 v H' ⟨d, G', tx, j.gh, iv, q⟩⟩
      | brk => obtain ⟨_, _, _, _, _, _, q⟩ := z; exact False.elim q
      | cont => obtain ⟨_, _, _, _, _, _, q⟩ := z; exact False.elim q
    · obtain ⟨h1, h2⟩ := start_ok (N := N) iv
      exact ⟨startD N ds, G, h1, h2, gok, hq, kk, fun _ H' z => kk _ H' z⟩
end
def dCall (sp : SpD) (t : TAD) : TED := fun σd G Q => t σd G fun ds G1 => sp ds G1 Q
section
variable {X : Cx} {CX : CXT} {k : Nat} {f : Addr} {fd : FuncData} {ps : List Str} {sp : SpD} {x : Str} {p pos : Pos} {e : Expr} {es : List Expr} {t : TAD}
theorem run_fnD {pins : List (Addr × Obj)} {σd : StD} {G : GHp} {σ : Sv} {H : Hp} {s : Shared} {Q : DK} {us : List Value} {ds : List D} {vs : List V} (F : FnOk X.prog X.w X.K X.mg X.base CX0 k f fd ps (spOf X.K sp)) (hr : Room k X.A) (hb : Binds X.K fd ps [])
    (j : J X pins σd G σ H s) (iv : IsVs X.K H ds vs) (r : Vals vs us) (h : sp ds G Q) : wpAny (model X.prog X.w) X.A (call (.ref f) us) (EPD X pins σd σ H Q) X.xe s := by
  refine thn (run_fn (Q := Up X.K H Q) (dvs := []) (E := E0) F hr hb .nil pass0 j.inv r ?_) fun _ _ z => j.up z
  rw [List.append_nil]
  exact ⟨ds, G, Q, iv, j.gh, h, fun v H' z => z⟩
theorem de_call (F : FnOk X.prog X.w X.K X.mg X.base CX0 k f fd ps (spOf X.K sp)) (hr : Room k X.A) (hg : Gl X x) (hm : X.mg x = some (.ref f)) (hk : PySem.W.keepIn X.K (.ref f) = true) (hb : Binds X.K fd ps [])
    (ha : PAD X (e :: es) t) (hdb : (x == ("__debug__" : Str)) = false := by decide) (he : starEach (e :: es) X.env = (false, eval e X.env) :: starEach es X.env := by rfl) (hpl : (backTo pos (starEach es X.env)).any (·.1) = false := by rfl) :
    PED X (.Call (.Name x p) (e :: es) [] pos) (dCall sp t) := by
  intro pins s σd G σ H Q j h
  refine wpAny_Call_Name_kw (ld_glob j.inv hg hm ?_ hdb)
  refine PySem.W.callWith_K (h₀ := X.base) j.inv.ok.mod.kin hk (thn (ha pos pins s σd G σ H _ j h) fun us s1 zz => zz.use fun ds vs G1 H1 j1 t1 i1 r1 q1 => ⟨j1.inv.kIn, ?_⟩) he hpl
  exact thn (run_fnD F hr hb j1 i1 r1 q1) fun _ _ z => z.from t1
end

/-! ### the law -/
theorem bits_of_layable {ns : List Int} (h : PySem.W.WData.layableAll [PySem.W.WData.list (ns.map PySem.W.WData.int)] = true) : ∀ n ∈ ns, n.natAbs < 2 ^ 1048576 := fun n hn => by
  have h1 := PySem.W.layableW_arg h (PySem.W.WData.list (ns.map PySem.W.WData.int)) (List.mem_singleton.mpr rfl)
  have h2 := PySem.W.layableW_item h1 (.int n) (List.mem_map.mpr ⟨n, hn, rfl⟩)
  have h3 := (PySem.W.layableW_iff.mp h2).2.2
  exact PySem.intBits_le_iff.mp (show PySem.Builtin.Int.intBits n ≤ 1048576 from h3)
end L3
namespace L3
section
open PySem PySem.W PySem.Calls PyProof.Rows
theorem attachB {l : OpenLaw} {n : Nat} {q : Program} {loose : List Str} {XP : (Str → Option Value) → Heap → Prop} {YP : World → Heap → Prop} {d : DefRec}
    (hn : l.most = some n) (hdf : d.params.defaults = [])
    (call : ∀ (w : World) (s₀ s₁ : Shared) (mg mb : Str → Option Value) (fa : Addr) (o : Obj) (pm cd doc : Value) (a : Addr) (vs : List Value) (ns : List Int),
      Ground q loose [] XP w s₀ mg mb s₁.heap → YP w s₁.heap →
      s₁.heap.get? fa = some o → o.data = .func (docDef d.name d.params d.body d.scope pm cd doc) → s₁.heap.CodeRec cd d.name → mg d.name = some (.ref fa) →
      s₁.heap.get? a = some { cls := .type "list", data := .seq vs.toArray } → IntsAre vs ns → ns.length ≤ n → (∀ n ∈ ns, n.natAbs < 2 ^ 1048576) → s₁.gens = #[] →
      codeAny (model l.prog w) callerA (.call (.ref fa) ⟨[.ref a], []⟩) (fun r s' => r = .ok (.ret (.bool true)) ∧ OldK s₁.heap s'.heap ∧ s'.os = s₁.os ∧ AllBare s'.gens) s₁) :
    WalkO q loose XP YP l.row.toRowW d [] (fun f vs => PySem.call f vs) := by
  intro w s₀ s₁ mg mb G Y fa o pm cd doc dV kV ho hd hcd hD hmg hg args vals as hpre hlay hrd hwl hlo
  obtain rfl : dV = .none := Dflts.none hD hdf
  obtain rfl : kV = .none := Dflts.noKw hD
  obtain ⟨a, vs, ns, rfl, rfl, hobj, hints, hlen⟩ := Att.script_of hn hpre hwl
  refine enter_call (codeAny_mono (call w s₀ s₁ mg mb fa o pm cd doc a vs ns G Y ho (fd_plain hd) hcd hmg hobj hints hlen (bits_of_layable hlay) hg) fun r s' hq => ?_)
  obtain ⟨rfl, h2, h3, h4⟩ := hq
  exact ⟨.inl ⟨.bool true, .bool true, [], rfl, fun _ => rfl, .bool true, Att.post_true l _, fun _ => ⟨List.Pairwise.nil, fun _ hm => (nomatch hm)⟩⟩, h2, h3, h4⟩
end
end L3
namespace L3
open PySem PySem.Spec PyProof.Rows L2
/-- what a law promises -/
def spLaw : SpD := fun ds _ Q => ∃ ns : List Int, ds = [.rl (ns.map D.int)] ∧ ns.length ≤ 63 ∧ (∀ n ∈ ns, n.natAbs < 2 ^ 1048576) ∧ ∀ G', Q (.bl true) G'
theorem walkD {l : PySem.W.OpenLaw} {k : Nat} {q : Program} {loose : List Str} {XP : (Str → Option Value) → Heap → Prop} {YP : World → Heap → Prop} {d : DefRec} {K : Params → PySem.W.Frag} {x : Str}
    (hn : l.most = some 63) (hdf : d.params.defaults = []) (hr : Room k callerA)
    (hY : ∀ (w : World) (h : Heap), YP w h → (K w.params).In h)
    (F : ∀ (w : World) (mg : Str → Option Value) (fa : Addr) (h : Heap), (K w.params).In h → h.Ns mainGlobals mg → mg d.name = some (.ref fa) →
      ∃ fd : FuncData, (∀ (s : Shared) (u : Value), BindsTo s fd ⟨[u], []⟩ [(x, u)]) ∧
        ∀ base : Heap, (K w.params).In base → base.Ns mainGlobals mg → FnOk l.prog w (K w.params) mg base CX0 k fa fd [x] (spOf (K w.params) spLaw)) :
    PySem.W.WalkO q loose XP YP l.row.toRowW d [] (fun f vs => PySem.call f vs) := by
  refine attachB hn hdf fun w s₀ s₁ mg mb fa o pm cd doc a vs ns G Y ho hd hcd hmg hobj hints hlen hbits hg => ?_
  have KX := hY w _ Y
  obtain ⟨fd, hb, hF⟩ := F w mg fa _ KX G.T.g hmg
  refine law_call KX G.T.g G.T.b G.T.builtins G.T.nolimit hg hobj hints (Nat.le_trans hlen (by decide)) hr hF hb (fun H hO hS => ?_) fun H e s' z => z
  have hro : RoL (K w.params) H a (ns.map V.int) := by
    rcases hS with (h | ⟨ob, h⟩) | h
    · rcases hO a with z | ⟨ob, xs, z⟩
      · rw [h] at z; cases z
      · rw [h] at z; cases z
    · exact .inl ⟨ob, h⟩
    · exact .inr h
  refine ⟨[.rl (ns.map D.int)], fun _ => none, fun d _ => d = .bl true, .cons (.rl hro (IsVs.ints ns)) .nil, fun b o e => (by cases e), ⟨ns, rfl, hlen, hbits, fun _ => rfl⟩, fun v H' z => ?_⟩
  obtain ⟨dd, G', _, _, iv, e⟩ := z
  subst e
  cases iv
  rfl
end L3

/-! ### comprehensions -/
namespace L3
open PySem PySem.Spec PyProof.Rows L2
/-- a turn of a comprehension's block, whatever its target -/
theorem comp_go {prog : Program} {w : World} {A : Around} {R : Result → Shared → Prop} {s : Shared} {elt target iter : Expr} {ifs : List Expr} {scope : Scope} {pos : Pos} {it acc : Value} {env : Env} (I : Nat → Shared → Prop)
    (turn : ∀ n s, I n s → wpAny (model prog w) A (pyNext it) (fun r s₁ => match r with
      | none => R (.ok .next) s₁
      | some v => wpAny (model prog w) A (letOwnedTupleGo target it v) (fun _ s₂' => wpAny (model prog w) A (assign target env v) (fun _ s₂ =>
          wpAny (model prog w) A (forIn ifs true fun c r => if r = true then do let ok ← isTrue c env (eval c env); pure (ForInStep.yield ok) else pure (ForInStep.yield r)) (fun ok s₃ =>
            if ok = true then wpAny (model prog w) A (eval elt env) (fun x s₄ =>
              wpAny (model prog w) A (call (.builtin "list.append") [acc, x]) (fun _ s₅ => ∃ m, m < n ∧ I m s₅) (fun _ _ => False) s₄) (fun _ _ => False) s₃
            else ∃ m, m < n ∧ I m s₃) (fun _ _ => False) s₂) (fun _ _ => False) s₂') (fun _ _ => False) s₁) (fun _ _ => False) s)
    (n : Nat) (h : I n s) : codeAny (model prog w) A (.compLoop (.ListComp elt [⟨target, iter, ifs, 0⟩] scope pos) 0 it acc env) R s := by
  refine codeAny_loop rfl I (fun n s hI => ?_) n h
  show wpAny _ A ((compTurn (.ListComp elt [⟨target, iter, ifs, 0⟩] scope pos) 0 it acc env).onRaise (fun x => do noteFrame x env; theTreesLotGoes x)) _ _ s
  refine wpAny_noted ?_
  rw [compTurn_list]
  refine wpAny_bind (wpAny_standAt (wpAny_bind (wpAny_mono (turn n s hI) (fun r s₁ h₁ => ?_) fun _ _ h' => h'.elim)))
  cases r with
  | none => exact wpAny_pure h₁
  | some v =>
    refine wpAny_bind (wpAny_mono h₁ (fun _ s₂' h₂' => ?_) fun _ _ h' => h'.elim)
    refine wpAny_bind (wpAny_mono h₂' (fun _ s₂ h₂ => wpAny_bind (wpAny_mono h₂ (fun ok s₃ h₃ => ?_) fun _ _ h' => h'.elim)) fun _ _ h' => h'.elim)
    cases ok with
    | false => exact wpAny_pure ⟨rfl, h₃⟩
    | true =>
      exact wpAny_bind (wpAny_bind (wpAny_mono h₃ (fun x s₄ h₄ => wpAny_bind (wpAny_mono h₄ (fun _ s₅ h₅ => wpAny_pure (wpAny_pure ⟨rfl, h₅⟩)) fun _ _ h' => h'.elim)) fun _ _ h' => h'.elim))
/-- the block's context -/
def compCx (X : Cx) (N : List Str) (scope : Scope) (cl : List (Str × Addr)) (C : Addr) (s : Shared) (H : Hp) (ex : List Addr) : Cx where
  prog := X.prog
  w := X.w
  K := X.K
  mg := X.mg
  base := X.base
  A := X.A
  N := N
  s₀ := s
  H₀ := H
  env := compEnvC scope cl C X.env
  outer := X.stack
  stack := X.stack
  ex := ex
  fn := fun _ => false
  calm := true
  pn := []
  xe := fun _ _ => False
/-- the cells that the block is given -/
def ClOk (X : Cx) : List (Str × Addr) → Prop
  | [] => True
  | p :: r => X.env.cells.lookup p.1 = some p.2 ∧ ClOk X r
theorem ClOk.get {X : Cx} : ∀ {cl : List (Str × Addr)} {x : Str} {c : Addr}, ClOk X cl → cl.lookup x = some c → X.env.cells.lookup x = some c
  | [], _, _, _, h => by cases h
  | (y, d) :: r, x, c, k, h => by
    rw [List.lookup_cons] at h
    cases e : x == y with
    | true =>
      rw [e] at h
      cases h
      have : x = y := by simpa using e
      rw [this]
      exact k.1
    | false =>
      rw [e] at h
      exact ClOk.get k.2 h
/-- the names from around: where they stand there -/
def FrOk (X : Cx) (scope : Scope) (cl : List (Str × Addr)) : List Str → List Nat → Prop
  | [], [] => True
  | y :: ys, k :: ks => (X.N[k]? = some y ∧ X.env.kindOf y = some .cell ∧ (relabel scope X.env).names.lookup y = some .cell ∧ ∃ c, cl.lookup y = some c) ∧ FrOk X scope cl ys ks
  | _, _ => False
theorem FrOk.get {X : Cx} {scope : Scope} {cl : List (Str × Addr)} : ∀ {ys : List Str} {ks : List Nat} {i : Nat} {y : Str}, FrOk X scope cl ys ks → ys[i]? = some y →
    ∃ k, ks[i]? = some k ∧ X.N[k]? = some y ∧ X.env.kindOf y = some .cell ∧ (relabel scope X.env).names.lookup y = some .cell ∧ ∃ c, cl.lookup y = some c
  | [], _, _, _, _, h => by simp at h
  | _ :: _, [], _, _, f, _ => False.elim f
  | z :: ys, k :: ks, 0, y, f, h => by
    simp at h
    subst h
    exact ⟨k, rfl, f.1⟩
  | z :: ys, k :: ks, i + 1, y, f, h => by
    obtain ⟨k', e, r⟩ := FrOk.get (i := i) f.2 (by simpa using h)
    exact ⟨k', by simpa using e, r⟩
theorem FrOk.len {X : Cx} {scope : Scope} {cl : List (Str × Addr)} : ∀ {ys : List Str} {ks : List Nat}, FrOk X scope cl ys ks → ys.length = ks.length
  | [], [], _ => rfl
  | [], _ :: _, f => False.elim f
  | _ :: _, [], f => False.elim f
  | _ :: _, _ :: _, f => congrArg (· + 1) (FrOk.len f.2)
def pickS {α : Type} (σ : List (Option α)) (ks : List Nat) : List (Option α) := ks.map fun k => match σ[k]? with
  | some o => o
  | none => none
theorem pick_some {α : Type} {σ : List (Option α)} {ks : List Nat} {i : Nat} {v : α} (h : (pickS σ ks)[i]? = some (some v)) : ∃ k, ks[i]? = some k ∧ σ[k]? = some (some v) := by
  unfold pickS at h
  rw [List.getElem?_map] at h
  cases e : ks[i]? with
  | none => rw [e] at h; cases h
  | some k =>
    rw [e] at h
    have h' : (match σ[k]? with
      | some o => o
      | none => none) = some v := Option.some.inj h
    cases e2 : σ[k]? with
    | none => rw [e2] at h'; cases h'
    | some o => rw [e2] at h'; cases h'; exact ⟨k, rfl, e2⟩
/-- the tests of a comprehension: none or one -/
inductive PCs (X : Cx) : List Expr → TTD → Prop where
  | nil : PCs X [] (fun _ G Q => Q true G)
  | one {c : Expr} {t : TTD} (h : PTD X c t) : PCs X [c] t
/-- out: what has come so far; fv: the values from around -/
def CLoop (ds : List D) (kp : GHp → Prop) (tc : TTD) (te : TED) (fv : StD) (G : GHp) (Q : DK) : Prop := ∀ p, G p = none → ∃ P : Nat → List D → GHp → Prop, P 0 [] (gupd G p (.lst [])) ∧
  (∀ i out G', i ≤ ds.length → P i out G' → kp G' ∧ G' p = some (.lst out) ∧ out.length ≤ i) ∧
  (∀ i d out G', ds[i]? = some d → P i out G' → tc (some d :: fv) G' fun b G1 => if b = true then te (some d :: fv) G1 fun y G2 => G2 p = some (.lst out) ∧ P (i + 1) (out ++ [y]) (gupd G2 p (.lst (out ++ [y]))) else P (i + 1) out G1) ∧
  ∀ out G', P ds.length out G' → Q (.ref p) G'
def dComp (wi : TID) (ks : List Nat) (tc : TTD) (te : TED) : TED := fun σd G Q => wi σd G fun ds kp G1 => Fits ds.length ∧ CLoop ds kp tc te (pickS σd ks) G1 Q
theorem cells_ok {names : List (Str × NameKind)} {cl : List (Str × Addr)} (h : (names.all fun p => !(p.2 == .cell || p.2 == .free) || (cl.lookup p.1).isSome) = true) (z : Str) (hz : names.lookup z = some .cell ∨ names.lookup z = some .free) : ∃ c, cl.lookup z = some c := by
  have key : ∀ k : NameKind, (k == .cell || k == .free) = true → names.lookup z = some k → ∃ c, cl.lookup z = some c := fun k hk e => by
    have hm := PySem.mem_of_lookup e
    have := List.all_eq_true.mp h _ hm
    dsimp only at this
    rw [hk, Bool.not_true, Bool.false_or] at this
    exact Option.isSome_iff_exists.mp this
  rcases hz with e | e
  · exact key _ rfl e
  · exact key _ rfl e
section
variable {X : Cx} {elt iter : Expr} {x : Str} {px pos : Pos} {ifs : List Expr} {scope : Scope} {cl : List (Str × Addr)} {wi : TID} {ks : List Nat} {ys : List Str} {tc : TTD} {te : TED}
theorem comp_inv {pins : List (Addr × Obj)} {σd : StD} {G : GHp} {σ : Sv} {H : Hp} {s : Shared} {fp : List Addr} {h₁ : Heap} {C : Addr} {tk : Nat} (hc : X.calm = true) (hcl : ClOk X cl) (hfr : FrOk X scope cl ys ks) (hkind : scope.kind = .function) (hx : scope.names.lookup x = some .local)
    (hcells : ∀ z, (relabel scope X.env).names.lookup z = some .cell ∨ (relabel scope X.env).names.lookup z = some .free → ∃ c, cl.lookup z = some c)
    (j : J X pins σd G σ H s) (hf : ∀ b ∈ fp, FpOk X pins H b) (hlt : ∀ b ∈ fp, b < s.heap.objs.size) (hC : s.heap.objs.size ≤ C) (hk : ∀ b u, s.heap.get? b = some u → h₁.get? b = some u) (hns : h₁.Ns C fun _ => none) :
    Inv (compCx X (x :: ys) scope cl C s H fp) [] (none :: pickS σ ks) H { s with heap := h₁, toks := tk } := by
  have I := j.inv
  refine ⟨⟨I.ok.mod, hkind, I.ok.glob, I.ok.blt, hC, fun y z c e1 e2 => I.ok.inj y z c (hcl.get e1) (hcl.get e2), fun y hy => hcells y hy, fun y c hy => (by cases hy), fun _ => I.ok.hd hc, I.ok.frames, .inl rfl, fun b hb => ⟨Nat.ne_of_lt (Nat.lt_of_lt_of_le (hlt b hb) hC), fun y c e => (hf b hb).2.2.2.2.1 y c (hcl.get e)⟩,
      I.bs, Nat.le_trans I.ok.bsz I.sz, fun b o e hb => ?_, fun b hb hs => ?_, I.stack, I.stkFree⟩, rfl, I.bare, Un.kept hk, ⟨_, hns, fun i y v e1 e2 e3 => ?_⟩, fun y c e => ?_, I.hok.fresh hC, fun y c e => I.freeC y c (hcl.get e), fun p hp => absurd hp (by simp [compCx]), I.hok.kept hk, ?_⟩
  · rcases (hf b hb).2.2.2.1 with z | z
    · exact I.ok.noex b o e z
    · exact absurd (Nat.lt_of_lt_of_le (Heap.lt_size e) (Nat.le_trans I.ok.bsz z)) (Nat.lt_irrefl _)
  · rcases List.mem_cons.mp (I.stkSub b hs) with z | z
    · exact (hf b hb).2.1 z
    · exact (hf b hb).2.2.1 z
  · cases i with
    | zero => simp at e2
    | succ i =>
      have e1' : ys[i]? = some y := by simpa [compCx] using e1
      have e2' : (pickS σ ks)[i]? = some (some v) := by simpa using e2
      obtain ⟨k, ek, eN, ekind, erel, c, ec⟩ := hfr.get e1'
      obtain ⟨k', ek', eσ⟩ := pick_some e2'
      rw [ek] at ek'
      cases ek'
      obtain ⟨m, _, hl⟩ := I.loc
      obtain ⟨u, r, look⟩ := hl k y v eN eσ (.inr (.inl ekind))
      refine ⟨u, r, .inr ⟨.inl erel, c, ec, ?_⟩⟩
      rcases look with ⟨z, _⟩ | ⟨_, c', ec', z⟩
      · rw [ekind] at z; cases z
      · rw [hcl.get ec] at ec'
        cases ec'
        obtain ⟨o, ho, hd⟩ := z
        exact ⟨o, hk _ _ ho, hd⟩
  · obtain ⟨v, o, ho, hd⟩ := I.cell y c (hcl.get e)
    exact ⟨v, o, hk _ _ ho, hd⟩
  · simp [pickS, compCx, hfr.len]
theorem comp_st {K : PySem.W.Frag} {H : Hp} {σd : StD} {σ : Sv} (h : IsSt K H σd σ) : IsSt K H (none :: pickS σd ks) (none :: pickS σ ks) := fun i d e => by
  cases i with
  | zero => simp at e
  | succ i =>
    obtain ⟨k, e1, e2⟩ := pick_some (show (pickS σd ks)[i]? = some (some d) by simpa using e)
    obtain ⟨v, e3, r⟩ := h k d e2
    refine ⟨v, ?_, r⟩
    show (pickS σ ks)[i]? = some (some v)
    unfold pickS
    rw [List.getElem?_map, e1]
    simp only [Option.map_some, e3]
/-- behind the block: its names still stand at C -/
def CEnd (X : Cx) (pins : List (Addr × Obj)) (σd : StD) (σ : Sv) (H : Hp) (Q : DK) (acc : Value) (C : Addr) (s' : Shared) : Prop :=
  (∃ m, s'.heap.Ns C m) ∧ ∃ d v G' H', J X pins σd G' σ H' s' ∧ TX H H' ∧ IsV X.K H' d v ∧ RelV v acc ∧ Q d G' ∧ FpOk X pins H' C
/-- the block's names are let go -/
theorem J.letGo {pins : List (Addr × Obj)} {σd : StD} {G : GHp} {σ : Sv} {H : Hp} {s : Shared} {C : Addr} {h' : Heap} (j : J X pins σd G σ H s) (f : FpOk X pins H C) (hs : Heap.SameBut C s.heap h') : J X pins σd G σ H { s with heap := h' } :=
  ⟨j.inv.turned (t' := s.toks) (fun b o hb e => (hs.2 b hb).trans e) f.1 f.2.1 f.2.2.2.1 f.2.2.2.2.1 f.2.2.2.2.2, j.len, j.st, j.gh⟩
theorem run_comp {pins : List (Addr × Obj)} {s : Shared} {σd : StD} {G : GHp} {σ : Sv} {H : Hp} {Q : DK} (hc : X.calm = true) (hi : PID X (.Name x px) iter wi)
    (hcs : ∀ C s H ex, PCs (compCx X (x :: ys) scope cl C s H ex) ifs tc) (he : ∀ C s H ex, PED (compCx X (x :: ys) scope cl C s H ex) elt te)
    (hcl : ClOk X cl) (hfr : FrOk X scope cl ys ks) (hkind : scope.kind = .function) (hx : scope.names.lookup x = some .local) (hxr : (relabel scope X.env).names.lookup x = some .local) (hnd : (x :: ys).Nodup)
    (hcells : ∀ z, (relabel scope X.env).names.lookup z = some .cell ∨ (relabel scope X.env).names.lookup z = some .free → ∃ c, cl.lookup z = some c) (hcell : ∀ y ∈ scope.names, y.2 ≠ .cell)
    (j : J X pins σd G σ H s) (h : dComp wi ks tc te σd G Q) :
    wpAny (model X.prog X.w) X.A (eval iter X.env) (fun v s1 => wpAny (model X.prog X.w) X.A (pyIter v) (fun it s₂ => wpAny (model X.prog X.w) X.A (newList []) (fun acc s₃ =>
      wpAny (model X.prog X.w) X.A (newFunctionEnv scope X.env.globals cl [] X.env.qual none .none (some X.env)) (fun cenv s₄ =>
        codeAny (model X.prog X.w) X.A (.compStart (.ListComp elt [⟨.Name x px, iter, ifs, 0⟩] scope pos) 0 it acc { cenv with scope := relabel scope X.env })
          (fun r s' => r = .ok .next ∧ CEnd X pins σd σ H Q acc cenv.locals s') s₄) X.xe s₃) X.xe s₂) X.xe s1) X.xe s := by
  refine thn (hi pins s σd G σ H _ j h) fun v s1 h1 => thn h1 fun itv s2 h2 => ?_
  obtain ⟨it, fp, tn, I, G2, H2, ds, kp, rfl, j2, t2, T, st2, f2, hstop, hgo, ⟨hsz⟩, cloop⟩ := h2
  have fpLt : ∀ b ∈ fp, b < s2.heap.objs.size := fun b hb => by
    obtain ⟨o, e, _⟩ := T.obj _ _ st2 b hb
    exact Heap.lt_size e
  refine wpAny_newObj_type (wpAny_newFunctionEnv hcell (by intro y hy; simp at hy) (fun h₁ hns₁ hsb₁ => ?_) hkind)
  have hD : H2 s2.heap.objs.size = none := j2.inv.hok.fresh (Nat.le_refl _)
  obtain ⟨P, p0, pk, turn, fin⟩ := cloop s2.heap.objs.size (j2.gh.free hD)
  have eC : (s2.heap.push { cls := Value.type "list", dict := none, data := Data.seq ([] : List Value).toArray }).objs.size = s2.heap.objs.size + 1 := Heap.size_push ..
  have hC : s2.heap.objs.size ≤ (s2.heap.push { cls := Value.type "list", dict := none, data := Data.seq ([] : List Value).toArray }).objs.size := by rw [eC]; exact Nat.le_succ _
  have old : ∀ b u, s2.heap.get? b = some u → h₁.get? b = some u := fun b u e =>
    (hsb₁.2 b (Nat.ne_of_lt (Nat.lt_of_lt_of_le (Heap.lt_size e) hC))).trans (Heap.get?_push_of_some _ (Heap.get?_push_of_some _ e))
  have accAt : h₁.get? s2.heap.objs.size = some { cls := .type "list", data := .seq ([] : List Value).toArray } := by
    refine (hsb₁.2 _ (by rw [eC]; exact Nat.ne_of_lt (Nat.lt_succ_self _))).trans (Heap.get?_push_of_some _ (Heap.get?_push_size _ rfl))
  have I0 := comp_inv (x := x) (tk := s2.toks + ([] : List (Str × Value)).length) hc hcl hfr hkind hx hcells j2 f2 fpLt hC old hns₁
  generalize hCdef : (s2.heap.push { cls := Value.type "list", dict := none, data := Data.seq ([] : List Value).toArray }).objs.size = C at *
  -- the list that is built is tracked
  have I1 : Inv (compCx X (x :: ys) scope cl C s2 H2 fp) [] (none :: pickS σ ks) (upd H2 s2.heap.objs.size (.lst [])) { s2 with heap := h₁, toks := s2.toks + ([] : List (Str × Value)).length } := by
    refine ⟨I0.ok, I0.os, I0.bare, Un.laid old (Nat.le_refl _) hD, I0.loc, I0.cell, ?_, fun y c e => ?_, fun p hp => absurd hp (by simp [compCx]), j2.inv.hok.laid old (Nat.le_refl _) ⟨Nat.zero_le _, [], 0, .nil, accAt⟩, I0.len⟩
    · show upd H2 s2.heap.objs.size (.lst []) C = none
      rw [upd_ne (show C ≠ _ by rw [eC]; exact Nat.ne_of_gt (Nat.lt_succ_self _))]
      exact I0.free
    · have hc' := I0.freeC y c e
      by_cases z : c = s2.heap.objs.size
      · obtain ⟨vv, o, ho, _⟩ := j2.inv.cell y c (hcl.get e)
        exact absurd (Heap.lt_size ho) (by rw [z]; exact Nat.lt_irrefl _)
      · rw [upd_ne z]; exact hc'
  have jj : J (compCx X (x :: ys) scope cl C s2 H2 fp) [] (none :: pickS σd ks) (gupd G2 s2.heap.objs.size (.lst [])) (none :: pickS σ ks) (upd H2 s2.heap.objs.size (.lst [])) { s2 with heap := h₁, toks := s2.toks + ([] : List (Str × Value)).length } :=
    ⟨I1, by simp [pickS], comp_st (j2.st.mono (.laid hD)), j2.gh.put (.laid hD) (.lst upd_same .nil)⟩
  have fpT : ∀ b ∈ fp, FpOk (compCx X (x :: ys) scope cl C s2 H2 fp) [] H2 b := fun b hb =>
    ⟨(f2 b hb).1, Nat.ne_of_lt (Nat.lt_of_lt_of_le (fpLt b hb) hC), I0.ok.exfs b hb, .inl hb, fun y c e => (f2 b hb).2.2.2.2.1 y c (hcl.get e), fun p hp => absurd hp (by simp [compCx])⟩
  have stat : ∀ {H' : Hp}, (∀ b ∈ fp, H' b = none) → ∀ b ∈ fp, FpOk (compCx X (x :: ys) scope cl C s2 H2 fp) [] H' b := fun hn b hb => ⟨hn b hb, (fpT b hb).2⟩
  have st0 : tn 0 h₁ := T.keep _ _ _ st2 fun b hb o e => old b o e
  have loop : ∀ s₃ : Shared, s₃ = { s2 with heap := h₁, toks := s2.toks + ([] : List (Str × Value)).length } →
      codeAny (model X.prog X.w) X.A (.compLoop (.ListComp elt [⟨.Name x px, iter, ifs, 0⟩] scope pos) 0 (.ref it) (.ref s2.heap.objs.size) (compEnvC scope cl C X.env))
        (fun r s' => r = .ok .next ∧ CEnd X pins σd σ H Q (.ref s2.heap.objs.size) C s') s₃ := by
    rintro s₃ rfl
    refine comp_go (fun n s' => ∃ i out z zd σ' G' H', n = ds.length - i ∧ i ≤ ds.length ∧ J (compCx X (x :: ys) scope cl C s2 H2 fp) [] (zd :: pickS σd ks) G' (z :: σ') H' s' ∧ TX H2 H' ∧ tn i s'.heap ∧ (∀ b ∈ fp, H' b = none) ∧ P i out G') ?_ ds.length
      ⟨0, [], none, none, _, _, _, rfl, Nat.zero_le _, jj, .laid hD, st0, fun b hb => ?_, p0⟩
    · rintro n s3 ⟨i, out, z, zd, σ3, G3, H3, rfl, hil, j3, t3, st3, fr3, p3⟩
      obtain ⟨k3, e3, hol⟩ := pk i out G3 hil p3
      by_cases hlt : i < ds.length
      · have hd : ds[i]? = some ds[i] := by simp [hlt]
        obtain ⟨go, yl⟩ := hgo i ds[i] G3 H3 t3 j3.gh k3 hd
        refine thn (T.item (compCx X (x :: ys) scope cl C s2 H2 fp) rfl rfl rfl rfl i [] s3 (z :: σ3) H3 _ j3.inv (stat fr3) st3 go) fun r s4 zz21 => ?_
        obtain ⟨u, hr, h4⟩ := zz21
        subst hr
        refine thn h4 fun _ s5 zz22 => ?_
        obtain ⟨xv, H5, I5, r5, y5, st5, fr5⟩ := zz22
        obtain ⟨t5, g5, iv5⟩ := yl xv H5 y5
        have j5 : J (compCx X (x :: ys) scope cl C s2 H2 fp) [] (zd :: pickS σd ks) G3 (z :: σ3) H5 s5 := ⟨I5, j3.len, j3.st.mono t5, g5⟩
        have t3 := t3.trans t5
        have j5' := j5.pinned (stat fr5) (T.obj _ _ st5)
        refine wpAny_assign_Name (store_ok (i := 0) (x := x) j5'.inv hnd rfl (.inl hxr) r5 (fun s6 I6 => ?_) (.inr hxr))
        have j6 : J (compCx X (x :: ys) scope cl C s2 H2 fp) ([] ++ pinsAt fp s5.heap) (some ds[i] :: pickS σd ks) G3 (some xv :: σ3) H5 s6 := j5'.store (i := 0) I6 iv5
        have tt := turn i ds[i] out G3 hd p3
        have again : ∀ {out' : List D} {G7 : GHp} {H7 : Hp} {s7 : Shared}, J (compCx X (x :: ys) scope cl C s2 H2 fp) ([] ++ pinsAt fp s5.heap) (some ds[i] :: pickS σd ks) G7 (some xv :: σ3) H7 s7 → TX H5 H7 → P (i + 1) out' G7 →
            ∃ m, m < ds.length - i ∧ ∃ i out z zd σ' G' H', m = ds.length - i ∧ i ≤ ds.length ∧ J (compCx X (x :: ys) scope cl C s2 H2 fp) [] (zd :: pickS σd ks) G' (z :: σ') H' s7 ∧ TX H2 H' ∧ tn i s7.heap ∧ (∀ b ∈ fp, H' b = none) ∧ P i out G' := fun {out' G7 H7 s7} j7 t7 p7 => by
          refine ⟨ds.length - (i + 1), by omega, i + 1, out', _, _, _, G7, H7, rfl, hlt, j7.unpinned, t3.trans t7, T.keep _ _ _ st5 fun b hb o e => (j7.inv.pin (b, o) (List.mem_append_right _ (List.mem_append_right _ (mem_pinsAt hb e)))).1, fun b hb => ?_, p7⟩
          obtain ⟨o, e, d⟩ := T.obj _ _ st5 b hb
          exact (j7.inv.pin (b, o) (List.mem_append_right _ (List.mem_append_right _ (mem_pinsAt hb e)))).2.1
        have body : ∀ (ok : Bool) (s8 : Shared), TPD (compCx X (x :: ys) scope cl C s2 H2 fp) ([] ++ pinsAt fp s5.heap) (some ds[i] :: pickS σd ks) (some xv :: σ3) H5 (fun b G1 => if b = true then te (some ds[i] :: pickS σd ks) G1 fun y G2' => G2' s2.heap.objs.size = some (.lst out) ∧ P (i + 1) (out ++ [y]) (gupd G2' s2.heap.objs.size (.lst (out ++ [y]))) else P (i + 1) out G1) ok s8 →
            if ok = true then wpAny (model X.prog X.w) X.A (eval elt (compEnvC scope cl C X.env)) (fun xx s₄ =>
              wpAny (model X.prog X.w) X.A (call (.builtin "list.append") [.ref s2.heap.objs.size, xx]) (fun _ s₅ => ∃ m, m < ds.length - i ∧ ∃ i out z zd σ' G' H', m = ds.length - i ∧ i ≤ ds.length ∧ J (compCx X (x :: ys) scope cl C s2 H2 fp) [] (zd :: pickS σd ks) G' (z :: σ') H' s₅ ∧ TX H2 H' ∧ tn i s₅.heap ∧ (∀ b ∈ fp, H' b = none) ∧ P i out G') (fun _ _ => False) s₄) (fun _ _ => False) s8
            else ∃ m, m < ds.length - i ∧ ∃ i out z zd σ' G' H', m = ds.length - i ∧ i ≤ ds.length ∧ J (compCx X (x :: ys) scope cl C s2 H2 fp) [] (zd :: pickS σd ks) G' (z :: σ') H' s8 ∧ TX H2 H' ∧ tn i s8.heap ∧ (∀ b ∈ fp, H' b = none) ∧ P i out G' := by
          intro ok s8 z8
          obtain ⟨G8, H8, j8, t8, q8⟩ := z8
          cases ok with
          | false =>
            rw [if_neg Bool.false_ne_true] at q8 ⊢
            exact again j8 t8 q8
          | true =>
            rw [if_pos rfl] at q8 ⊢
            refine thn (he C s2 H2 fp _ s8 _ G8 _ H8 _ j8 q8) fun xx s9 zz23 => ?_
            obtain ⟨dy, yv, G9, H9, j9, t9, i9, r9, g9, p9⟩ := zz23
            obtain ⟨hs9, r9'⟩ := j9.gh _ _ g9
            refine thn (mt_append (X := compCx X (x :: ys) scope cl C s2 H2 fp) _ s9 _ H9 (.ref s2.heap.objs.size) [yv] (.ref s2.heap.objs.size) [xx] (Up X.K H9 fun _ G' => P (i + 1) (out ++ [dy]) G') j9.inv rfl (.cons r9 .nil) ?_) fun _ s10 z10 => ?_
            · refine ⟨_, _, yv, rfl, rfl, hs9, ?_, Up.setL (d := .non) j9.gh hs9 (r9'.append (.cons i9 .nil)) .non p9⟩
              rw [← r9'.length]
              omega
            · obtain ⟨dd, vv, G10, H10, j10, t10, _, _, q10⟩ := j9.up z10
              exact again j10 ((t8.trans t9).trans t10) q10
        rcases hcs C s2 H2 fp with _ | ⟨hcc⟩
        · refine wpAny_tests_nil (body true s6 ⟨G3, H5, j6, .refl, tt⟩)
        · exact wpAny_tests_one (thn (hcc _ s6 _ G3 _ H5 _ j6 tt) fun ok s8 z8 => body ok s8 z8)
      · have e : i = ds.length := by omega
        subst e
        refine thn (T.done (compCx X (x :: ys) scope cl C s2 H2 fp) rfl rfl rfl rfl _ [] s3 (z :: σ3) H3 _ j3.inv (stat fr3) st3 (hstop _ G3 H3 t3 j3.gh k3 (Nat.le_refl _))) fun r s4 zz24 => ?_
        obtain ⟨hr, I4⟩ := zz24
        subst hr
        obtain ⟨m, hm, _⟩ := I4.loc
        have I' : Inv X pins σ H3 s4 := j2.inv.call' (ch := fp) I4.os I4.base I4.hok I4.bare fun b hb => ⟨(f2 b hb).2.2.2.1, (f2 b hb).2.1, (f2 b hb).2.2.2.2.1, (f2 b hb).2.2.2.2.2⟩
        exact ⟨rfl, ⟨m, hm⟩, .ref s2.heap.objs.size, .ref s2.heap.objs.size, G3, H3, j2.next I' t3 j3.gh, t2.trans t3, .ref _, rfl, fin out G3 p3, j2.inv.fpOk hC I4.free⟩
    · by_cases z : b = s2.heap.objs.size
      · exact absurd (fpLt b hb) (by rw [z]; exact Nat.lt_irrefl _)
      · rw [upd_ne z]; exact (f2 b hb).1
  exact codeAny_compStart_list (loop _ rfl) (T.self _ 0 _ _ _ st0 (loop _ rfl))
/-- name = [elt for x in iter if ..] -/
theorem ds_comp {i : Nat} {y : Str} {py spos : Pos} (hN : X.N.Nodup) (hi' : X.N[i]? = some y) (hy : Loc X.env.scope y) (hc : X.calm = true) (hi : PID X (.Name x px) iter wi)
    (hcs : ∀ C s H ex, PCs (compCx X (x :: ys) scope cl C s H ex) ifs tc) (he : ∀ C s H ex, PED (compCx X (x :: ys) scope cl C s H ex) elt te)
    (hclos : closureFor scope X.env = pure cl) (hcl : ClOk X cl) (hfr : FrOk X scope cl ys ks) (hkind : scope.kind = .function) (hx : scope.names.lookup x = some .local) (hxr : (relabel scope X.env).names.lookup x = some .local) (hnd : (x :: ys).Nodup)
    (hcells : ∀ z, (relabel scope X.env).names.lookup z = some .cell ∨ (relabel scope X.env).names.lookup z = some .free → ∃ c, cl.lookup z = some c) (hcell : ∀ y ∈ scope.names, y.2 ≠ .cell)
    (hnames : ∀ z ∈ scope.names, z.2 = .local → scope.names.lookup z.1 = some .local)
    (hsw : swapsWith (.ListComp elt [⟨.Name x px, iter, ifs, 0⟩] scope pos) (some (.Name y py)) spos.line X.env = pure true := by rfl) (hs : ∀ x, foldedSetIterable iter X.env x = pure x := by intro _; rfl)
    (hf : X.fn y = true ∨ X.env.scope.names.lookup y = some .local := by first | exact .inl rfl | exact .inr rfl | assumption) :
    PSD X (.Assign [.Name y py] (.ListComp elt [⟨.Name x px, iter, ifs, 0⟩] scope pos) spos) (dAsg (dComp wi ks tc te) (gdName i)) := by
  intro pins s σd G σ H E j h
  rw [exec_Assign_Name_used _ _ _ _ hsw]
  refine wpAny_bind (wpAny_standAt (wpAny_bind ?_))
  show wpAny _ X.A (do let _ ← comprehension (.ListComp elt [⟨.Name x px, iter, ifs, 0⟩] scope pos) scope X.env _ (newList []) false (eval iter X.env) (some (assign (.Name y py) X.env))) _ _ s
  refine wpAny_bind (thn (wpAny_comprehension_free (use := some (assign (.Name y py) X.env)) (Q := fun _ s' => SPD X pins H E .next s') rfl hs hclos hkind hnames
    (thn (run_comp (pos := pos) hc hi hcs he hcl hfr hkind hx hxr hnd hcells hcell j h) fun v s1 h1 => thn h1 fun it s2 h2 => thn h2 fun acc s3 h3 => thn h3 fun cenv s4 h4 => codeAny_mono h4 fun r s' hr => ?_)) fun _ s' hq => wpAny_pure (wpAny_pure hq))
  obtain ⟨rfl, ⟨m, hm⟩, d, v, G', H', j', tx, iv, r, q, f⟩ := hr
  show wpAny _ X.A (assign (.Name y py) X.env acc) _ _ _
  refine wpAny_assign_Name (store_ok2 j'.inv hN hi' hy r (fun s6 I6 hch => ?_) hf)
  obtain ⟨a, hsb, ha⟩ := hch
  have neC : cenv.locals ≠ a := by
    rcases ha with z | z
    · rw [z]; exact f.2.1
    · exact fun e => f.2.2.2.2.1 _ _ z e.symm
  refine ⟨m, hm.sameBut hsb neC, fun h' hs' => ?_⟩
  have j6 := j'.store (i := i) I6 iv
  exact ⟨_, G', _, H', j6.letGo f hs', tx, q⟩
end
end L3

/-! ### several names from a tuple; tuple(..), int(..); is None; == of tuples -/
namespace L3
open PySem PySem.Spec PyProof.Rows L2
abbrev TGDs := List D → StD → GHp → (StD → GHp → Prop) → Prop
def PGsD (X : Cx) (ts : List Expr) (t : TGDs) : Prop :=
  ∀ (pins : List (Addr × Obj)) (s : Shared) (σd : StD) (G : GHp) (σ : Sv) (H : Hp) (ds : List D) (vs : List V) (us : List Value) (Q : StD → GHp → Prop), J X pins σd G σ H s → IsVs X.K H ds vs → Vals vs us → t ds σd G Q →
    wpAny (model X.prog X.w) X.A (assignInOrder ((assignEach ts X.env).map (·.2)) us) (fun _ s' => ∃ σd' G' σ' H', J X pins σd' G' σ' H' s' ∧ TX H H' ∧ Q σd' G') X.xe s
section
variable {X : Cx} {pos : Pos}
def isNonD : D → Bool
  | .non => true
  | _ => false
def qIs : RD2 := fun x y G Q => match y with
  | .non => Q (.bl (isNonD x)) G
  | _ => False
theorem isNon_of {K : PySem.W.Frag} {H : Hp} {d : D} {v : V} (i : IsV K H d v) : decide (v = .non) = isNonD d := by
  cases i <;> simp [isNonD]
theorem od_is : OpD X (compareOp .Is) qIs := .of op_isN fun G H dx dy x y Q gok ix iy q => by
  cases iy <;> first
    | exact False.elim q
    | exact ⟨rfl, Up.same gok (.bl _) (by rw [isNon_of ix]; exact q)⟩
end

/-! == of tuples of ints and such -/
/-! ints, None, and tuples of them -/
section
variable {X : Cx} {pins : List (Addr × Obj)} {σ : Sv} {H : Hp} {s : Shared}
end
/-- a comprehension whose tests and elements hand back p and f of the item -/
theorem cloop_fm {ds : List D} {kp : GHp → Prop} {tc : TTD} {te : TED} {fv : StD} {G : GHp} {Q : DK} (p : D → Bool) (f : D → D) (hk : ∀ G', GS G G' → kp G')
    (hc : ∀ d ∈ ds, ∀ (G' : GHp) (R : Bool → GHp → Prop), GS G G' → (∀ G2, GS G' G2 → R (p d) G2) → tc (some d :: fv) G' R)
    (he : ∀ d ∈ ds, p d = true → ∀ (G' : GHp) (R : DK), GS G G' → (∀ G2, GS G' G2 → R (f d) G2) → te (some d :: fv) G' R)
    (h : ∀ q G', G q = none → GS G G' → G' q = some (.lst ((ds.filter p).map f)) → Q (.ref q) G') : CLoop ds kp tc te fv G Q := by
  intro q hq
  have gs : ∀ {G2 : GHp} {o : OD}, GS G G2 → GS G (gupd G2 q o) := fun {G2 o} g b u e => by
    rw [gupd_ne (gne_none e hq)]; exact g b u e
  refine ⟨fun i out G' => out = ((ds.take i).filter p).map f ∧ G' q = some (.lst out) ∧ GS G G', ⟨by simp, gupd_same, gs .refl⟩, fun i out G' hi ⟨e1, e2, e3⟩ => ⟨hk G' e3, e2, ?_⟩, ?_, fun out G' ⟨e1, e2, e3⟩ => ?_⟩
  · rw [e1, List.length_map]
    exact Nat.le_trans (List.length_filter_le _ _) (by rw [List.length_take]; omega)
  · rintro i d out G' hd ⟨e1, e2, e3⟩
    have hm : d ∈ ds := List.mem_of_getElem? hd
    have ht : (ds.take (i + 1)).filter p = (ds.take i).filter p ++ (if p d then [d] else []) := take_succ_filter p ds i d hd
    refine hc d hm G' _ e3 fun G2 s2 => ?_
    cases hp : p d with
    | false =>
      rw [if_neg Bool.false_ne_true]
      refine ⟨?_, s2 _ _ e2, e3.trans s2⟩
      rw [ht, hp]
      simp [e1]
    | true =>
      rw [if_pos rfl]
      refine he d hm hp G2 _ (e3.trans s2) fun G3 s3 => ⟨s3 _ _ (s2 _ _ e2), ?_, gupd_same, gs ((e3.trans s2).trans s3)⟩
      rw [ht, hp]
      simp [e1]
  · refine h q G' hq e3 ?_
    rw [e2, e1, List.take_length]
theorem cloop_map {ds : List D} {kp : GHp → Prop} {te : TED} {fv : StD} {G : GHp} {Q : DK} (f : D → D) (hk : ∀ G', GS G G' → kp G')
    (he : ∀ d ∈ ds, ∀ (G' : GHp) (R : DK), GS G G' → (∀ G2, GS G' G2 → R (f d) G2) → te (some d :: fv) G' R)
    (h : ∀ q G', G q = none → GS G G' → G' q = some (.lst (ds.map f)) → Q (.ref q) G') : CLoop ds kp (fun _ G Q => Q true G) te fv G Q :=
  cloop_fm (fun _ => true) f hk (fun _ _ _ _ _ k => k _ .refl) (fun d hd _ => he d hd) fun q G' h1 h2 h3 => h q G' h1 h2 (by rw [h3, List.filter_eq_self.mpr (fun _ _ => rfl)])
end L3

/-! ### append, in, reversed -/
namespace L3
open PySem PySem.Spec PyProof.Rows L2
def dApp (to te : TED) : TED := fun σd G Q => to σd G fun x G1 => match x with
  | .ref l => (∃ xs, G1 l = some (.lst xs)) ∧ te σd G1 fun y G2 => match G2 l with
    | some (.lst xs) => Fits (xs.length + 1) ∧ Q .non (gupd G2 l (.lst (xs ++ [y])))
    | _ => False
  | _ => False
section
variable {X : Cx} {o e : Expr} {to te : TED} {apos cpos : Pos}
end
/-! x in a list or a tuple of plain things -/
section
variable {X : Cx}
end
section
variable {X : Cx} {tg : Expr} {pos : Pos}
end
end L3

namespace L3
open PySem PySem.Spec PyProof.Rows L2
end L3

/-! ### exceptions -/
namespace L3
open PySem PySem.Spec PyProof.Rows L2
abbrev XW := Addr → StD → GHp → Prop
/-- all but the frames -/
abbrev offF (h : Heap) (l : List Env) : Heap := PySem.W.hideAll h (frs l)
/-- how an exception of the class at C lies at a, the frames l running, the innermost at L: just made, come from a callee, noted here -/
inductive Lies (B : Heap) (l : List Env) (L a C : Addr) (h : Heap) : Prop where
  | made {h0 : Heap} {args : List Value} (x : Heap.MadeExcOf h0 h a (.ref C) args) (k : B.StaysIn h0) (f : h0.FunFrames B l) : Lies B l L a C h
  | fly {a0 : Value} (x : Heap.FlyingW B l a (.ref C) a0 h) : Lies B l L a C h
  | held {a0 : Value} (x : Heap.HeldW B l a (.ref C) a0 L h) : Lies B l L a C h
theorem made_free {B h0 h : Heap} {a C : Addr} {args : List Value} (x : Heap.MadeExcOf h0 h a (.ref C) args) (k : B.StaysIn h0) : B.get? a = none := by
  cases q : B.get? a with
  | none => rfl
  | some o => have z := k a o q; rw [x.new] at z; cases z
section
variable {M : Model} {A : Around} {E : Value → Shared → Prop} {s : Shared} {env : Env} {outer : List Env} {L a C : Addr} {B : Heap} {Q : Unit → Shared → Prop}
theorem lies_noted (hfr : A.frames = some (env :: outer)) (hf : env.frame = some L) (x : Lies B (env :: outer) L a C s.heap)
    (h : ∀ h' a0, Heap.HeldW B (env :: outer) a (.ref C) a0 L h' → s.heap.UpToSlots h' → Q () { s with heap := h' }) : wpAny M A (noteFrame (.ref a) env) Q E s := by
  cases x with
  | made x k f =>
    have fr := made_free x k
    obtain ⟨t, he, htn, ht⟩ := x.there
    unfold noteFrame
    simp only [hf]
    refine wpAny_bind (wpAny_field he rfl rfl ?_)
    rw [if_neg (by simp)]
    exact wpAny_entryW (a0 := .ref t) hfr (f.of_keeps fun b o hb _ => ⟨o, x.keeps b o hb, rfl⟩) hf he (fun b o hb => x.keeps b o (k b o hb)) fr rfl (by simp) rfl fun h' ⟨k1, k2, k3, k4⟩ => h h' _ ⟨k1, fr, k2, k3⟩ k4
  | fly x => exact wpAny_looks_onW hfr hf x fun h' hh hs => h h' _ hh hs
  | held x => exact wpAny_noteFrame_againW hf x.2.2.2 (h _ _ x (.refl _))
theorem lies_left (hfr : A.frames = some (env :: outer)) (hf : env.frame = some L) (x : Lies B (env :: outer) L a C s.heap)
    (h : ∀ h' a0, Heap.FlyingW B outer a (.ref C) a0 h' → s.heap.UpToSlots h' → Q () { s with heap := h' }) : wpAny M A (leaving env (.ref a)) Q E s := by
  cases x with
  | made x k f => exact wpAny_leaves_madeW hfr hf k f x fun h' t x1 _ _ x4 => h h' _ x1 x4
  | fly x => exact wpAny_leaves_onW hfr hf x fun h' x1 x2 => h h' _ x1 x2
  | held x =>
    unfold leaving
    refine wpAny_bind (wpAny_noteFrame_againW hf x.2.2.2 ?_)
    refine wpAny_landsW x fun h' hfl hs => ?_
    obtain ⟨k1, k2, ⟨_, _, k3⟩, k4⟩ := hfl
    exact h h' _ ⟨k1, k2, k3, k4⟩ hs
end
/-- all but the frames is kept, the frames up to their slots -/
theorem _root_.L2.Inv.stable {X : Cx} {pins : List (Addr × Obj)} {σ : Sv} {H : Hp} {s : Shared} {h' : Heap} (I : Inv X pins σ H s) (k : (offF s.heap X.stack).StaysIn h') (u : s.heap.UpToSlots h') : Inv X pins σ H { s with heap := h' } := by
  have keep : ∀ b o, s.heap.get? b = some o → b ∉ frs X.stack → h'.get? b = some o := fun b o e n => k b o (PySem.W.hideAll_get _ e n)
  have fr : ∀ b ∈ frs X.stack, ∀ o, s.heap.get? b = some o → ∃ sl, h'.get? b = some { o with slots := sl } := fun b hb o e => by
    obtain ⟨_, o', e', d⟩ := I.stack.mem hb
    rw [e] at e'
    cases e'
    exact u b o e d
  refine I.call' (s' := { s with heap := h' }) (ch := []) rfl ⟨fun b o e _ hb _ => keep b o e hb, fun b o e _ hb _ => fr b hb o e, fun _ _ _ n _ => n, fun b o e _ => ?_, fun _ _ e => e, fun _ _ _ e => e, fun b ps e => ⟨#[], by rw [e]; simp⟩⟩
    (fun a o e => (I.hok a o e).stay (fun b u hb q => keep b u q fun hf => ?_) (fun _ q => q) fun _ _ q => q) I.bare (fun b z => nomatch z)
  · by_cases hb : b ∈ frs X.stack
    · obtain ⟨sl, q⟩ := fr b hb o e
      exact ⟨_, q⟩
    · exact ⟨o, keep b o e hb⟩
  · have n := I.stkFree b hf
    rcases hb with z | z
    · rw [z, e] at n; cases n
    · rw [z] at n; cases n
theorem _root_.L2.ObjOk.here {P : Program} {w : World} {H : Hp} {h : Heap} {a : Addr} {o : HO} (x : ObjOk P w H h a o) : ∃ u, h.get? a = some u := by
  cases o with
  | lst xs => exact ⟨_, x.2.choose_spec.choose_spec.2⟩
  | tup xs =>
    obtain ⟨_, _, _, o, e, _⟩ := x
    exact ⟨o, e⟩
  | dK kvs =>
    obtain ⟨_, _, _, _, o, _, _, e, _⟩ := x
    exact ⟨o, e⟩
  | dT kvs =>
    obtain ⟨_, _, _, _, o, _, _, e, _⟩ := x
    exact ⟨o, e⟩
  | set S n =>
    obtain ⟨o, _, _, _, e, _⟩ := x
    exact ⟨o, e⟩
  | ins C dx fs => exact ⟨_, x.2.2.2.1⟩
  | own y => exact x
  | xd fs =>
    obtain ⟨_, ⟨o, _, _, e, _⟩, _⟩ := x
    exact ⟨o, e⟩
  | rng lo hi =>
    obtain ⟨_, _, _, e⟩ := x
    exact ⟨_, e⟩
  | frz ob u => exact ⟨ob, x.1⟩
  | tbl ps => exact ⟨_, x⟩
  | met f y => exact ⟨_, x⟩
  | ext φ => exact x.2.1
/-- how an exception lies behind a call -/
def CXE (P : Program) (w : World) : CXT := fun outer H s E e s' =>
  ∃ (a C : Addr) (B : Heap) (a0 : Value) (H' : Hp), e = .ref a ∧ s'.os = s.os ∧ AllBare s'.gens ∧ Heap.FlyingW B outer a (.ref C) a0 s'.heap ∧
    (∀ h', B.StaysIn h' → s'.heap.UpToSlots h' → Un (frs outer) [] H H' s.heap h' ∧ HOk P w H' h') ∧ (∀ b o, H' b = some o → ∃ u, B.get? b = some u) ∧ E (.ref C) none H'
/-- an exception within a frame -/
def xeD (X : Cx) (Ex : XW) (e : Value) (s : Shared) : Prop :=
  ∃ (a C : Addr) (B : Heap) (σd : StD) (G : GHp) (σ : Sv) (H : Hp), e = .ref a ∧ Lies B X.stack X.env.locals a C s.heap ∧ (∀ h', B.StaysIn h' → s.heap.UpToSlots h' → J X [] σd G σ H { s with heap := h' }) ∧ (∀ b o, H b = some o → ∃ u, B.get? b = some u) ∧ Ex C σd G
section
variable {X : Cx} {pins : List (Addr × Obj)} {σd : StD} {G : GHp} {σ : Sv} {H : Hp} {s : Shared}
theorem J.wish (j : J X pins σd G σ H s) (W : Value → Shared → Prop) : J (X.wish W) pins σd G σ H s := ⟨j.inv.wish W, j.len, j.st, j.gh⟩
theorem J.unwish {W : Value → Shared → Prop} (j : J (X.wish W) pins σd G σ H s) : J X pins σd G σ H s := ⟨j.inv.unwish, j.len, j.st, j.gh⟩
theorem J.nopins (j : J X pins σd G σ H s) : J X [] σd G σ H s := ⟨j.inv.pins_of fun p hp => absurd hp (by simp), j.len, j.st, j.gh⟩
/-- just raised -/
theorem xe_made {Ex : XW} {h' : Heap} {a C : Addr} {args : List Value} (j : J X pins σd G σ H s) (x : Heap.MadeExcOf s.heap h' a (.ref C) args) (q : Ex C σd G) : xeD X Ex (.ref a) { s with heap := h' } := by
  have hin : ∀ env ∈ X.stack, ∀ b, env.frame = some b → b ∈ frs X.stack := fun env he b hb => List.mem_filterMap.mpr ⟨env, he, hb⟩
  refine ⟨a, C, offF s.heap X.stack, σd, G, σ, H, rfl, .made x (fun b o e => PySem.W.of_hideAll _ e) (PySem.W.funFrames_hide j.inv.stack hin), fun h2 k u => ?_, fun b o e => ?_, q⟩
  · have j0 := j.nopins
    exact ⟨j0.inv.stable k ((Heap.UpToSlots.of_keeps x.keeps).trans u), j0.len, j0.st, j0.gh⟩
  · obtain ⟨v, hv⟩ := (j.inv.hok b o e).here
    refine ⟨v, PySem.W.hideAll_get _ hv fun hf => ?_⟩
    rw [j.inv.stkFree b hf] at e
    cases e
end

/-! a def that may raise -/
abbrev SpX := List D → GHp → DK → (Addr → GHp → Prop) → Prop
def spOfX (K : PySem.W.Frag) (sp : SpX) : Sp := fun vs H Q E => ∃ ds G Qd Ed, IsVs K H ds vs ∧ GOk K G H ∧ sp ds G Qd Ed ∧ (∀ v H', Up K H Qd v H' → Q v H') ∧ ∀ C G' H', TX H H' → GOk K G' H' → Ed C G' → E (.ref C) none H'
/-- ends without a word about what stayed -/
def SPDw (X : Cx) (pins : List (Addr × Obj)) (E : EndsD) (f : Flow) (s' : Shared) : Prop :=
  match f with
  | .next => ∃ σd' G' σ' H', J X pins σd' G' σ' H' s' ∧ E.nx σd' G'
  | .brk => ∃ σd' G' σ' H', J X pins σd' G' σ' H' s' ∧ E.bk σd' G'
  | .cont => ∃ σd' G' σ' H', J X pins σd' G' σ' H' s' ∧ E.ct σd' G'
  | .ret u => ∃ d v σd' G' σ' H', J X pins σd' G' σ' H' s' ∧ IsV X.K H' d v ∧ RelV v u ∧ E.rt d G'
theorem SPD.weak {X : Cx} {pins : List (Addr × Obj)} {H : Hp} {E : EndsD} {f : Flow} {s' : Shared} (h : SPD X pins H E f s') : SPDw X pins E f s' := by
  cases f with
  | next => obtain ⟨a, b, c, d, j, _, q⟩ := h; exact ⟨a, b, c, d, j, q⟩
  | brk => obtain ⟨a, b, c, d, j, _, q⟩ := h; exact ⟨a, b, c, d, j, q⟩
  | cont => obtain ⟨a, b, c, d, j, _, q⟩ := h; exact ⟨a, b, c, d, j, q⟩
  | ret u => obtain ⟨x, v, a, b, c, d, j, _, q⟩ := h; exact ⟨x, v, a, b, c, d, j, q⟩
def PSDw (X : Cx) (st : Stmt) (t : TSD) : Prop :=
  ∀ (pins : List (Addr × Obj)) (s : Shared) (σd : StD) (G : GHp) (σ : Sv) (H : Hp) (E : EndsD), J X pins σd G σ H s → t E σd G → wpAny (model X.prog X.w) X.A (exec st X.env) (SPDw X pins E) X.xe s
def PSsDw (X : Cx) (sts : List Stmt) (t : TSD) : Prop :=
  ∀ (pins : List (Addr × Obj)) (s : Shared) (σd : StD) (G : GHp) (σ : Sv) (H : Hp) (E : EndsD), J X pins σd G σ H s → t E σd G → wpAny (model X.prog X.w) X.A (execs sts X.env) (SPDw X pins E) X.xe s
section
variable {X : Cx} {st : Stmt} {rest : List Stmt} {t u : TSD} {pos : Pos}
theorem PSD.weak (h : PSD X st t) : PSDw X st t := fun pins s σd G σ H E j q => thn (h pins s σd G σ H E j q) fun _ _ z => z.weak
theorem dssw_cons (h1 : PSDw X st t) (h2 : PSsDw X rest u) : PSsDw X (st :: rest) (dSeq t u) := by
  intro pins s σd G σ H E j h
  refine wpAny_execs_cons (thn (h1 pins s σd G σ H { E with nx := u E } j h) fun f s1 q => ?_)
  cases f with
  | next =>
    obtain ⟨σd', G', σ', H', j', q⟩ := q
    exact h2 pins s1 σd' G' σ' H' E j' q
  | ret v => exact q
  | brk => exact q
  | cont => exact q
theorem dssw_one (h1 : PSDw X st t) : PSsDw X [st] t := by
  intro pins s σd G σ H E j h
  refine wpAny_execs_cons (thn (h1 pins s σd G σ H E j h) fun f s1 q => ?_)
  cases f with
  | next => exact wpAny_execs_nil q
  | ret v => exact q
  | brk => exact q
  | cont => exact q
end
section
variable {P : Program} {w : World} {K : PySem.W.Frag} {mg : Str → Option Value} {base : Heap}
/-- what leaves the body has kept the tuples -/
theorem _root_.L2.Inv.tx {X : Cx} {pins : List (Addr × Obj)} {σ : Sv} {H : Hp} {s : Shared} (I : Inv X pins σ H s) : TX X.H₀ H := ⟨I.base.tups, I.base.frzs⟩
theorem Fun.okW {x qual : Str} {st : Stmt} {f : Addr} {fd : FuncData} {N ps : List Str} {k : Nat} {CX : CXT} {sp : Sp} {good : List D → GHp → DK → XK → Prop} (F : Fun K x qual st f fd) (S : FnScope N ps (defScope st)) (len : ∀ vs H Q E, sp vs H Q E → vs.length = ps.length)
    (hbody : ∀ (cdv : Value) (A : Around) (outer : List Env) (s : Shared) (H : Hp) (vs : List V) (Q : VK) (E : XK), Room k (A.deeper (envOfC qual (defScope st) s.heap.objs.size f cdv)) → sp vs H Q E →
      ∃ ds G Qd t W, IsVs K H ds vs ∧ GOk K G H ∧ (∀ v H', Up K H Qd v H' → Q v H') ∧ (∀ s1, Inv (cxOf CX P w K mg base N qual (defScope st) f cdv A outer s H E) [] (L2.start N vs) H s1 → ∀ e s', W e s' → (cxOf CX P w K mg base N qual (defScope st) f cdv A outer s H E).xe e s') ∧
        PSsDw ((cxOf CX P w K mg base N qual (defScope st) f cdv A outer s H E).wish W) (defBody st) t ∧ t { nx := fun _ G' => Qd .non G', rt := Qd } (startD N ds) G) : FnOk P w K mg base CX (k + 1) f fd ps sp := by
  obtain ⟨oc, od, kV, doc, pm, an, cdv, ct, osl, rfl, lk, hcd⟩ := F.ex
  refine fn_of lk hcd S len fun A outer s H vs Q E hr hsp => ?_
  obtain ⟨ds, G, Qd, t, W, iv, gok, kk, hW, ht, hq⟩ := hbody cdv A outer s H vs Q E hr hsp
  refine ⟨fun De σ H0 => σ = L2.start N vs ∧ H0 = H ∧ (∀ v H', Up K H Qd v H' → De.rt v H') ∧ ∀ σ' H', Up K H Qd .non H' → De.nx σ' H', ?_, rfl, rfl, kk, fun _ H' z => kk _ H' z⟩
  rintro pins s1 σ H0 De I ⟨rfl, rfl, k1, k2⟩
  obtain ⟨h1, h2⟩ := start_ok (N := N) iv
  have I0 : Inv (cxOf CX P w K mg base N qual (defScope st) f cdv A outer s H0 E) [] (L2.start N vs) H0 s1 := I.pins_of fun p hp => absurd hp (by simp)
  have jj : J ((cxOf CX P w K mg base N qual (defScope st) f cdv A outer s H0 E).wish W) pins (startD N ds) G (L2.start N vs) H0 s1 := ⟨I.wish W, h1, h2, gok⟩
  refine wpAny_mono (ht pins s1 (startD N ds) G (L2.start N vs) H0 _ jj hq) (fun fl s2 z => ?_) fun e s' z => hW s1 I0 e s' z
  cases fl with
  | next =>
    obtain ⟨σd', G', σ', H', j, q⟩ := z
    exact ⟨σ', H', j.inv.unwish, k2 σ' H' ⟨.non, G', j.inv.unwish.tx, j.gh, .non, q⟩⟩
  | ret u =>
    obtain ⟨d, v, σd', G', σ', H', j, iv, r, q⟩ := z
    exact ⟨v, σ', H', j.inv.unwish, r, k1 v H' ⟨d, G', j.inv.unwish.tx, j.gh, iv, q⟩⟩
  | brk => obtain ⟨_, _, _, _, _, q⟩ := z; exact False.elim q
  | cont => obtain ⟨_, _, _, _, _, q⟩ := z; exact False.elim q
/-- a def that may raise -/
theorem Fun.okX {x qual : Str} {st : Stmt} {f : Addr} {fd : FuncData} {N ps : List Str} {k : Nat} {sp : SpX} (n : Nat) (hn : N.length = ps.length + n) (F : Fun K x qual st f fd) (S : FnScope N ps (defScope st)) (len : ∀ ds G Q Ed, sp ds G Q Ed → ds.length = ps.length)
    (hbody : ∀ (cdv : Value) (A : Around) (outer : List Env) (s : Shared) (H : Hp) (ds : List D) (G : GHp) (Q : DK) (Ed : Addr → GHp → Prop) (E : XK), Room k (A.deeper (envOfC qual (defScope st) s.heap.objs.size f cdv)) → sp ds G Q Ed →
      ∃ t, PSsDw ((cxOf (CXE P w) P w K mg base N qual (defScope st) f cdv A outer s H E).wish (xeD (cxOf (CXE P w) P w K mg base N qual (defScope st) f cdv A outer s H E) fun C _ G' => Ed C G')) (defBody st) t ∧
        t { nx := fun _ G' => Q .non G', rt := Q } (st0 n ds) G) : FnOk P w K mg base (CXE P w) (k + 1) f fd ps (spOfX K sp) := by
  refine Fun.okW (good := fun _ _ _ _ => True) F S (fun vs H Q E h => ?_) (fun cdv A outer s H vs Q E hr h => ?_)
  · obtain ⟨ds, G, Qd, Ed, iv, _, h, _⟩ := h
    rw [← iv.length]
    exact len _ _ _ _ h
  · obtain ⟨ds, G, Qd, Ed, iv, gok, h, kk, ke⟩ := h
    obtain ⟨t, ht, hq⟩ := hbody cdv A outer s H ds G Qd Ed E hr h
    rw [← startD_st0 hn (len _ _ _ _ h)] at hq
    refine ⟨ds, G, Qd, t, _, iv, gok, kk, fun s1 I0 e s' z => ?_, ht, hq⟩
    obtain ⟨a, C, B, σd, G', σ, H', rfl, li, cl, tr, q⟩ := z
    refine lies_left (outer := outer) I0.ok.frames rfl li fun h' a0 fl up => ?_
    have j' := cl h' fl.1 up
    refine ⟨a, C, B, a0, H', rfl, j'.inv.os, j'.inv.bare, fl, fun h2 k2 u2 => ?_, tr, ke C G' H' j'.inv.tx j'.gh q⟩
    have j2 := cl h2 k2 (up.trans u2)
    exact ⟨j2.inv.base, j2.inv.hok⟩
end

/-! the call of such a def, raise -/
def dCallX (sp : SpX) (Ex : XW) (t : TAD) : TED := fun σd G Q => t σd G fun ds G1 => sp ds G1 Q fun C G' => Ex C σd G'
section
variable {X : Cx} {k : Nat} {f : Addr} {fd : FuncData} {ps : List Str} {sp : SpX} {Ex : XW} {x : Str} {p pos : Pos} {e : Expr} {es : List Expr} {t : TAD}
theorem run_fnX {pins : List (Addr × Obj)} {σd : StD} {G : GHp} {σ : Sv} {H : Hp} {s : Shared} {Q : DK} {us : List Value} {ds : List D} {vs : List V} (F : FnOk X.prog X.w X.K X.mg X.base (CXE X.prog X.w) k f fd ps (spOfX X.K sp)) (hr : Room k X.A) (hb : Binds X.K fd ps [])
    (j : J X pins σd G σ H s) (iv : IsVs X.K H ds vs) (r : Vals vs us) (h : sp ds G Q fun C G' => Ex C σd G') : wpAny (model X.prog X.w) X.A (call (.ref f) us) (EPD X pins σd σ H Q) (xeD X Ex) s := by
  have hsp : spOfX X.K sp vs H (Up X.K H Q) (fun c _ H' => ∃ C G', c = .ref C ∧ TX H H' ∧ GOk X.K G' H' ∧ Ex C σd G') :=
    ⟨ds, G, Q, _, iv, j.gh, h, fun _ _ z => z, fun C G' H' tx g q => ⟨C, G', rfl, tx, g, q⟩⟩
  have hl : us.length = ps.length := by rw [← r.length]; exact F.len _ _ _ _ hsp
  have hbs := hb s us j.inv.kIn (by rw [List.append_nil]; exact hl)
  rw [List.append_nil] at hbs
  refine wpAny_call (codeAny_mono (F.run X.A X.stack s H ⟨us, []⟩ us vs _ _ hr j.inv.env0 hbs r hsp) fun res s' hq => ?_)
  cases res with
  | error er =>
    obtain ⟨a, C, B, a0, H', rfl, os, bare, fl, cl, tr, C', G', ec, tx, g, q⟩ := hq
    cases ec
    refine ⟨a, C, B, σd, G', σ, H', rfl, .fly fl, fun h' k' u' => ?_, tr, q⟩
    obtain ⟨un, hok⟩ := cl h' k' u'
    have I' : Inv X pins σ H' { s' with heap := h' } := j.inv.call' (s' := { s' with heap := h' }) (ch := []) os un hok bare (fun b z => nomatch z)
    exact J.nopins ⟨I', j.len, j.st.mono tx, g⟩
  | ok fl =>
    cases fl with
    | ret u => exact j.up (j.inv.after hq)
    | next => exact False.elim hq
    | brk => exact False.elim hq
    | cont => exact False.elim hq
theorem EPD.wish {pins : List (Addr × Obj)} {σd : StD} {σ : Sv} {H : Hp} {Q : DK} {u : Value} {s' : Shared} {W : Value → Shared → Prop} (h : EPD X pins σd σ H Q u s') : EPD (X.wish W) pins σd σ H Q u s' := by
  obtain ⟨d, v, G', H', j, r⟩ := h
  exact ⟨d, v, G', H', j.wish W, r⟩
theorem de_callX (F : FnOk X.prog X.w X.K X.mg X.base (CXE X.prog X.w) k f fd ps (spOfX X.K sp)) (hr : Room k X.A) (hg : Gl X x) (hm : X.mg x = some (.ref f)) (hk : PySem.W.keepIn X.K (.ref f) = true) (hb : Binds X.K fd ps [])
    (ha : PAD (X.wish (xeD X Ex)) (e :: es) t) (hdb : (x == ("__debug__" : Str)) = false := by decide) (he : starEach (e :: es) X.env = (false, eval e X.env) :: starEach es X.env := by rfl) (hpl : (backTo pos (starEach es X.env)).any (·.1) = false := by rfl) :
    PED (X.wish (xeD X Ex)) (.Call (.Name x p) (e :: es) [] pos) (dCallX sp Ex t) := by
  intro pins s σd G σ H Q j h
  refine wpAny_Call_Name_kw (ld_glob j.inv hg hm ?_ hdb)
  refine PySem.W.callWith_K (h₀ := X.base) j.inv.ok.mod.kin hk (thn (ha pos pins s σd G σ H _ j h) fun us s1 zz => ?_) he hpl
  obtain ⟨ds, vs, G1, H1, j1, t1, i1, r1, q1⟩ := zz
  refine ⟨j1.inv.kIn, ?_⟩
  exact thn (run_fnX F hr hb j1.unwish i1 r1 q1) fun _ _ z => (EPD.from z t1).wish
/-- a class of errors of ours, under ValueError, without __init__ -/
structure Err (K : PySem.W.Frag) (mg : Str → Option Value) (x : Str) (C : Addr) : Prop where
  bound : mg x = some (.ref C)
  exc : PySem.W.excIn K C [.type "ValueError", .type "Exception", .type "BaseException", .type "object"] "ValueError.__new__" = true
  ns : PySem.W.nsIn K mainGlobals x = some (some (.ref C))
def dRaise (C : Addr) (Ex : XW) (t : TAD) : TSD := fun _ σd G => t σd G fun ds G1 => Fits ds.length ∧ Ex C σd G1
theorem loose_of {es : Array DictEntry} {m : Str → Option Value} (k : StrKeys es) (h : ∀ n, nsFind es n = m n) : ∃ l : List Str, ∀ x, x ∉ l → m x = none := by
  refine ⟨es.toList.map fun e => (match e.key with
    | .str n _ => n
    | _ => Str.empty), fun x hx => ?_⟩
  rw [← h]
  unfold nsFind findBy
  rw [Array.find?_eq_none.mpr fun e he z => hx ?_]
  · rfl
  · obtain ⟨n, t, ek⟩ := k e he
    have en : x = n := Value.isStr_inj (.str n t) x n (by rw [← ek]; exact z) (by simp [Value.isStr])
    exact List.mem_map.mpr ⟨e, by simpa using he, by rw [ek, en]⟩
theorem own_of {K : PySem.W.Frag} {h : Heap} {mg : Str → Option Value} {x : Str} {C : Addr} {bmB : List Value} {newId : String} (p : Program) (M : Mod K mg h) (n : PySem.W.nsIn K mainGlobals x = some (some (.ref C))) (q : PySem.W.excIn K C bmB newId = true) :
    ∃ bm N nm q bs hdct sn sub ab col dd k0 k1 k2 k3 k5 mN, h.get? C = some (excClassObj nm q C N bs bm hdct sn sub ab col dd k0 k1 k2 k3 k5 newId) ∧ h.Ns N mN ∧ mN "__init__" = none ∧ OwnTail h bmB bm := by
  obtain ⟨mb, hb, hbb⟩ := M.blt
  obtain ⟨_, _, _, _, _, hk, hm⟩ := id M.glob
  obtain ⟨l, hl⟩ := loose_of hk hm
  exact (PySem.W.own_of_in (p := p) (loose := l) M.kin ⟨M.glob, hb, M.nolimit, hbb, fun x _ z _ _ _ => hl x z⟩ n q).obj
theorem ds_raise {C : Addr} {np cpos : Pos} (R : Err X.K X.mg x C) (hc : X.calm = true) (hg : Gl X x) (ha : PAD (X.wish (xeD X Ex)) (e :: es) t) (hdb : (x == ("__debug__" : Str)) = false := by decide)
    (he : starEach (e :: es) X.env = (false, eval e X.env) :: starEach es X.env := by rfl) (hpl : (backTo cpos (starEach es X.env)).any (·.1) = false := by rfl) :
    PSD (X.wish (xeD X Ex)) (.Raise (some (.Call (.Name x np) (e :: es) [] cpos)) none pos) (dRaise C Ex t) := by
  intro pins s σd G σ H E j h
  obtain ⟨tl, N, nm, qn, bs, hdct, sn, sub, ab, col, dd, k0, k1, k2, k3, k5, mN, hC, hN, hni, T⟩ := own_of X.prog j.inv.ok.mod R.ns R.exc
  have FB := PySem.F.excBase_ValueError
  refine wpAny_Raise_call_subT (C := C) (nm := nm) (q := qn) (N := N) (bs := bs) (bm := tl) (hdct := hdct) (sn := sn) (sub := sub) (ab := ab) (col := col) (dd := dd) (k0 := k0) (k1 := k1) (k2 := k2) (k3 := k3) (k5 := k5)
    FB (mN := mN) (T.hasType FB.hasBase) (j.inv.ok.hd hc) (by rw [he]; show (false || (backTo cpos (starEach es X.env)).any (·.1)) = false; rw [hpl]; rfl) hni (ld_glob j.inv hg R.bound ⟨rfl, ?_⟩ hdb)
  have a1 := ha cpos pins s σd G σ H _ j h
  rw [he] at a1 ⊢
  refine Calls.evalArgs_plain (thn a1 fun us s1 zz => ?_)
  obtain ⟨ds, vs, G1, H1, j1, t1, i1, r1, hz, q1⟩ := zz
  have kp := j1.inv.bk
  exact ⟨rfl, by rw [← r1.length, ← i1.length]; exact hz.le, kp _ _ hC, hN.keeps kp, T.keeps kp, fun h' e hm => xe_made j1.unwish hm q1⟩
end

/-! what an except clause takes -/
def valD : D → Value
  | .ref a => .ref a
  | .ty T => .type T
  | _ => .none
section
variable {M : Model} {K : PySem.W.Frag} {A : Around} {E : Value → Shared → Prop}
end
/-- the exception that is held: its object, its traceback's -/
structure Caught (C T : Addr) (oe oT : Obj) : Prop where
  cls : oe.cls = .ref C
  tr : ∃ vs, oe.data = .fields vs ∧ vs[1]? = some (.ref T)
  rest : ∃ ts, oT.data = .fields ts ∧ ts[3]? = some .none
/-- within an except suite -/
abbrev _root_.L2.Cx.suite (X : Cx) (a : Addr) (oe : Obj) : Cx := { X with A := X.A.mark (some (.ref a)), calm := false, pn := X.pn ++ [(a, oe)], xe := fun _ _ => False }
section
variable {X : Cx} {pins : List (Addr × Obj)} {σd : StD} {G : GHp} {σ : Sv} {H : Hp} {s : Shared}
theorem J.ofSuite {a : Addr} {oe : Obj} {pl : List (Addr × Obj)} (hd : X.calm = true → X.A.handled = none) (j : J (X.suite a oe) (pins ++ pl) σd G σ H s) : J X (pins ++ (a, oe) :: pl) σd G σ H s :=
  ⟨⟨⟨j.inv.ok.mod, j.inv.ok.kind, j.inv.ok.glob, j.inv.ok.blt, j.inv.ok.above, j.inv.ok.inj, j.inv.ok.has, j.inv.ok.cab, hd, j.inv.ok.frames, j.inv.ok.stk, j.inv.ok.exf, j.inv.ok.bs, j.inv.ok.bsz, j.inv.ok.noex, j.inv.ok.exfs, j.inv.ok.funs, j.inv.ok.frf⟩,
    j.inv.os, j.inv.bare, j.inv.base, j.inv.loc, j.inv.cell, j.inv.free, j.inv.freeC, fun p hp => j.inv.pin p (by
      simp only [List.mem_append, List.mem_cons, List.not_mem_nil, or_false] at hp ⊢
      rcases hp with z | (z | z | z) <;> simp [z]), j.inv.hok, j.inv.len⟩, j.len, j.st, j.gh⟩
end
/-- the clauses, for an exception of the class at C that lies at a -/
abbrev THD := Addr → Addr → TSD
def PHD (X : Cx) (hs : List ExceptHandler) (th : THD) : Prop :=
  ∀ (pins : List (Addr × Obj)) (s : Shared) (σd : StD) (G : GHp) (σ : Sv) (H : Hp) (E : EndsD) (a C T : Addr) (oe oT : Obj), J X (pins ++ [(a, oe), (T, oT)]) σd G σ H s → Caught C T oe oT → th a C E σd G →
    wpAny (model X.prog X.w) X.A (handleBy (.ref a) X.env hs) (SPDw X pins E) X.xe s
section
variable {X : Cx} {pins : List (Addr × Obj)} {σd : StD} {G : GHp} {σ : Sv} {H : Hp} {s : Shared}
variable {t : Expr} {b₀ : Stmt} {body : List Stmt} {rest : List ExceptHandler} {tt : TED} {tb : THD} {th : THD} {pos : Pos}
/-- the name of a class -/
theorem de_glob {x : Str} {c : Addr} (hg : Gl X x) (hm : X.mg x = some (.ref c)) (hd : (x == ("__debug__" : Str)) = false := by decide) : PED X (.Name x pos) (dC (.ref c)) := de_const (pe_glob (v := .ref c) hg hm rfl hd) fun _ _ => .ref c
end
end L3

/-! ### instances -/
namespace L3
open PySem PySem.Spec PyProof.Rows L2
theorem TX.ins {H : Hp} {p C dx : Addr} {fs : List (Str × V)} {o : HO} (h : H p = some (.ins C dx fs)) : TX H (upd H p o) :=
  ⟨fun b ys e => by rw [upd_ne (ne_of e h (by intro z; cases z))]; exact e, fun b ob u e => by rw [upd_ne (ne_of e h (by intro z; cases z))]; exact e⟩
def putD (f : Str) (d : D) : List (Str × D) → List (Str × D)
  | [] => [(f, d)]
  | (g, x) :: r => if g = f then (g, d) :: r else (g, x) :: putD f d r
theorem IsFs.length {K : PySem.W.Frag} {H : Hp} : ∀ {ds : List (Str × D)} {vs : List (Str × V)}, IsFs K H ds vs → ds.length = vs.length
  | _, _, .nil => rfl
  | _, _, .cons _ rs => by simp [rs.length]
theorem IsFs.look {K : PySem.W.Frag} {H : Hp} {f : Str} {d : D} : ∀ {ds : List (Str × D)} {vs : List (Str × V)}, IsFs K H ds vs → ds.lookup f = some d → ∃ v, vs.lookup f = some v ∧ IsV K H d v
  | _, _, .nil, e => by cases e
  | _, _, .cons (x := x) r rs, e => by
    rw [List.lookup_cons] at e ⊢
    cases q : f == x with
    | true => rw [q] at e; cases e; exact ⟨_, rfl, r⟩
    | false => rw [q] at e; exact rs.look e
theorem IsFs.none {K : PySem.W.Frag} {H : Hp} {f : Str} : ∀ {ds : List (Str × D)} {vs : List (Str × V)}, IsFs K H ds vs → ds.lookup f = none → vs.lookup f = none
  | _, _, .nil, _ => rfl
  | _, _, .cons (x := x) r rs, e => by
    rw [List.lookup_cons] at e ⊢
    cases q : f == x with
    | true => rw [q] at e; cases e
    | false => rw [q] at e; exact rs.none e
/-- the class of an instance, a value of it -/
structure FldOk (K : PySem.W.Frag) (C : Addr) (f : Str) : Prop where
  cls : Cls K C
  no : NoAttr K C f
def insAt (G : GHp) : D → Option (Addr × Addr × Addr × List (Str × D))
  | .ref a => match G a with
    | some (.ins C dx fs) => some (a, C, dx, fs)
    | _ => none
  | _ => none
theorem insAt_some {G : GHp} {d : D} {a C dx : Addr} {fs : List (Str × D)} (h : insAt G d = some (a, C, dx, fs)) : d = .ref a ∧ G a = some (.ins C dx fs) := by
  unfold insAt at h
  split at h
  · split at h
    · rename_i e; cases h; exact ⟨rfl, e⟩
    · cases h
  · cases h
def dFld (K : PySem.W.Frag) (ta : TED) (f : Str) : TED := fun σd G Q => ta σd G fun x G1 => match insAt G1 x with
  | some (_, C, _, fs) => FldOk K C f ∧ match fs.lookup f with
    | some d => Q d G1
    | none => False
  | none => False
def dsFld (K : PySem.W.Frag) (ta tv : TED) (f : Str) : TSD := fun E σd G => tv σd G fun y G1 => ta σd G1 fun x G2 => match insAt G2 x with
  | some (a, C, dx, fs) => FldOk K C f ∧ fs.length < 1000 ∧ E.nx σd (gupd G2 a (.ins C dx (putD f y fs)))
  | none => False
section
variable {X : Cx} {o e value : Expr} {f : Str} {pos pos' tpos : Pos} {ta tv : TED}
theorem GOk.ins {K : PySem.W.Frag} {G : GHp} {H : Hp} {a C dx : Addr} {fs : List (Str × D)} (g : GOk K G H) (h : G a = some (.ins C dx fs)) : ∃ fv, H a = some (.ins C dx fv) ∧ IsFs K H fs fv := by
  cases g a _ h with
  | ins h r => exact ⟨_, h, r⟩
theorem de_fld (he : PED X e ta) (hb : attributeBase e f X.env (eval e X.env) = eval e X.env := by rfl) : PED X (.Attribute e f pos) (dFld X.K ta f) := by
  intro pins s σd G σ H Q j h
  refine attr_of hb (thn (he pins s σd G σ H _ j h) fun u s1 ⟨x, v, G1, H1, j1, t1, i1, r1, q⟩ => ?_)
  dsimp only at q
  split at q
  · rename_i a C dx fs ei
    obtain ⟨rfl, eg⟩ := insAt_some ei
    obtain ⟨fk, q⟩ := q
    cases i1
    cases r1
    obtain ⟨fv, hv, rf⟩ := j1.gh.ins eg
    split at q
    · rename_i d el
      obtain ⟨v, lv, iv⟩ := rf.look el
      exact getattr_ok j1.inv hv fk.cls fk.no lv fun u' s2 I2 ru => ⟨d, v, G1, H1, j1.next I2 .refl j1.gh, t1, iv, ru, q⟩
    · exact q.elim
  · exact q.elim
theorem IsFs.put {K : PySem.W.Frag} {H : Hp} {f : Str} {d : D} {v : V} (r : IsV K H d v) : ∀ {ds : List (Str × D)} {vs : List (Str × V)}, IsFs K H ds vs → IsFs K H (putD f d ds) (putF f v vs)
  | _, _, .nil => .cons r .nil
  | _, _, .cons (x := x) r' rs => by
    unfold putD putF
    by_cases q : x = f
    · simp only [q, if_true, beq_self_eq_true]; exact .cons r rs
    · first
      | (rw [if_neg q, if_neg q]; exact .cons r' (rs.put r))
      | (simp only [q, if_false, beq_iff_eq]; exact .cons r' (rs.put r))
theorem ds_fld (ha : PED X o ta) (hv : PED X value tv) (hs : swapsWith value (some (.Attribute o f pos')) pos.line X.env = pure false := by rfl) : PSD X (.Assign [.Attribute o f pos'] value pos) (dsFld X.K ta tv f) := by
  intro pins s σd G σ H E j h
  refine plainObj_wpAny_Assign_Attribute (thn (hv pins s σd G σ H _ j h) fun u s1 ⟨y, vy, G1, H1, j1, t1, i1, r1, q⟩ => thn (ha pins s1 σd G1 σ H1 _ j1 q) fun ov s2 ⟨x, vx, G2, H2, j2, t2, i2, r2, q2⟩ => ?_) hs
  dsimp only at q2
  split at q2
  · rename_i a C dx fs ei
    obtain ⟨rfl, eg⟩ := insAt_some ei
    obtain ⟨fk, hl, q2⟩ := q2
    cases i2
    cases r2
    obtain ⟨fv, hv, rf⟩ := j2.gh.ins eg
    refine setattr_ok j2.inv hv fk.cls fk.no (by rw [← rf.length]; exact hl) r1 fun s3 I3 => ?_
    have tx : TX H2 (upd H2 a (.ins C dx (putF f vy fv))) := .ins hv
    exact ⟨σd, _, σ, _, j2.next I3 tx (j2.gh.put tx (.ins upd_same ((rf.put (i1.mono t2)).mono tx))), (t1.trans t2).trans tx, q2⟩
  · exact q2.elim
end

/-! defaults, a def that raises nothing taken for one that may -/
theorem FnOk.lift {P : Program} {w : World} {K : PySem.W.Frag} {mg : Str → Option Value} {base : Heap} {k : Nat} {f : Addr} {fd : FuncData} {ps : List Str} {sp : SpD} (F : FnOk P w K mg base CX0 k f fd ps (spOf K sp)) :
    FnOk P w K mg base (CXE P w) k f fd ps (spOfX K fun ds G Q _ => sp ds G Q) := by
  refine ⟨fun vs H Q E h => ?_, fun A outer s H args us vs Q E hr e0 hb r h => ?_⟩
  · obtain ⟨ds, G, Qd, Ed, iv, g, q, k1, _⟩ := h
    exact F.len vs H Q E ⟨ds, G, Qd, iv, g, q, k1⟩
  · obtain ⟨ds, G, Qd, Ed, iv, g, q, k1, _⟩ := h
    refine codeAny_mono (F.run A outer s H args us vs Q E hr e0 hb r ⟨ds, G, Qd, iv, g, q, k1⟩) fun res s' hq => ?_
    cases res with
    | error er => exact False.elim hq
    | ok fl =>
      cases fl with
      | ret u => exact hq
      | next => exact False.elim hq
      | brk => exact False.elim hq
      | cont => exact False.elim hq
/-- the values that fill up -/
structure Dfl (dd : List D) (dvs : List V) (dus : List Value) : Prop where
  val : Vals dvs dus
  is : ∀ K H, IsVs K H dd dvs
theorem Dfl.nil : Dfl [] [] [] := ⟨.nil, fun _ _ => .nil⟩
theorem Dfl.int {i : Int} {t : Nat} {dd : List D} {dvs : List V} {dus : List Value} (h : Dfl dd dvs dus) : Dfl (.int i :: dd) (.int i :: dvs) (.int i t :: dus) := ⟨.cons ⟨_, rfl⟩ h.val, fun K H => .cons (.int i) (h.is K H)⟩
theorem Dfl.non {dd : List D} {dvs : List V} {dus : List Value} (h : Dfl dd dvs dus) : Dfl (.non :: dd) (.non :: dvs) (.none :: dus) := ⟨.cons rfl h.val, fun K H => .cons .non (h.is K H)⟩
theorem Dfl.bl {b : Bool} {dd : List D} {dvs : List V} {dus : List Value} (h : Dfl dd dvs dus) : Dfl (.bl b :: dd) (.bl b :: dvs) (.bool b :: dus) := ⟨.cons rfl h.val, fun K H => .cons (.bl b) (h.is K H)⟩
section
variable {X : Cx} {k : Nat} {f C : Addr} {fd : FuncData} {ps : List Str} {sp : SpX} {Ex : XW} {x m : Str} {p pos apos : Pos} {e o : Expr} {es : List Expr} {t : TAD} {ta : TED} {dd : List D} {dvs : List V} {dus : List Value}
/-- the callee runs, whatever it was called by: what is behind an exception of it -/
theorem run_codeX {pins : List (Addr × Obj)} {σd : StD} {G : GHp} {σ : Sv} {H : Hp} {s : Shared} {A : Around} {Q : DK} {us : List Value} {ds : List D} {vs : List V} {args : Args} (F : FnOk X.prog X.w X.K X.mg X.base (CXE X.prog X.w) k f fd ps (spOfX X.K sp)) (hr : Room k A)
    (he : Env0 X.prog X.w X.K X.mg X.base A X.stack s H) (hb : us.length = ps.length → BindsTo s fd args (ps.zip us)) (j : J X pins σd G σ H s) (iv : IsVs X.K H ds vs) (r : Vals vs us) (h : sp ds G Q fun C G' => Ex C σd G') (R : Result → Shared → Prop)
    (ok : ∀ u s', EPD X pins σd σ H Q u s' → R (.ok (.ret u)) s') (er : ∀ a s', xeD X Ex a s' → R (.error a) s') : codeAny (model X.prog X.w) A (.call (.ref f) args) R s := by
  have hsp : spOfX X.K sp vs H (Up X.K H Q) (fun c _ H' => ∃ C G', c = .ref C ∧ TX H H' ∧ GOk X.K G' H' ∧ Ex C σd G') :=
    ⟨ds, G, Q, _, iv, j.gh, h, fun _ _ z => z, fun C G' H' tx g q => ⟨C, G', rfl, tx, g, q⟩⟩
  have hl : us.length = ps.length := by rw [← r.length]; exact F.len _ _ _ _ hsp
  refine codeAny_mono (F.run A X.stack s H args us vs _ _ hr he (hb hl) r hsp) fun res s' hq => ?_
  cases res with
  | error er' =>
    obtain ⟨a, C, B, a0, H', rfl, os, bare, fl, cl, tr, C', G', ec, tx, g, q⟩ := hq
    cases ec
    refine er _ _ ⟨a, C, B, σd, G', σ, H', rfl, .fly fl, fun h' k' u' => ?_, tr, q⟩
    obtain ⟨un, hok⟩ := cl h' k' u'
    have I' : Inv X pins σ H' { s' with heap := h' } := j.inv.call' (s' := { s' with heap := h' }) (ch := []) os un hok bare (fun b z => nomatch z)
    exact J.nopins ⟨I', j.len, j.st.mono tx, g⟩
  | ok fl =>
    cases fl with
    | ret u => exact ok u s' (j.up (j.inv.after hq))
    | next => exact False.elim hq
    | brk => exact False.elim hq
    | cont => exact False.elim hq
theorem run_fnXd {pins : List (Addr × Obj)} {σd : StD} {G : GHp} {σ : Sv} {H : Hp} {s : Shared} {Q : DK} {us : List Value} {ds : List D} {vs : List V} (F : FnOk X.prog X.w X.K X.mg X.base (CXE X.prog X.w) k f fd ps (spOfX X.K sp)) (hr : Room k X.A) (hb : Binds X.K fd ps dus) (hd : Dfl dd dvs dus)
    (j : J X pins σd G σ H s) (iv : IsVs X.K H ds vs) (r : Vals vs us) (h : sp (ds ++ dd) G Q fun C G' => Ex C σd G') : wpAny (model X.prog X.w) X.A (call (.ref f) us) (EPD X pins σd σ H Q) (xeD X Ex) s := by
  refine wpAny_call (run_codeX (us := us ++ dus) (vs := vs ++ dvs) (ds := ds ++ dd) (args := ⟨us, []⟩) F hr j.inv.env0 (fun hl => hb s us j.inv.kIn hl) j (iv.append (hd.is _ _)) (r.append hd.val) h _ (fun u s' z => z) fun a s' z => z)

/-- a method of the class at C: what it answers to the object and the written arguments -/
structure MOk (P : Program) (w : World) (K : PySem.W.Frag) (mg : Str → Option Value) (base : Heap) (k : Nat) (m : Str) (C : Addr) (sp : SpX) : Prop where
  ex : ∃ (f : Addr) (fd : FuncData) (ps : List Str) (sp0 : SpX) (dd : List D) (dvs : List V) (dus : List Value), Cls K C ∧ Meth K C m f ∧ FnOk P w K mg base (CXE P w) k f fd ps (spOfX K sp0) ∧ Binds K fd ps dus ∧ Dfl dd dvs dus ∧ ∀ ds, sp ds = sp0 (ds ++ dd)
theorem MOk.plain {P : Program} {w : World} {K : PySem.W.Frag} {mg : Str → Option Value} {base : Heap} (c : Cls K C) (hm : Meth K C m f) (F : FnOk P w K mg base (CXE P w) k f fd ps (spOfX K sp)) (hb : Binds K fd ps []) : MOk P w K mg base k m C sp :=
  ⟨f, fd, ps, sp, [], [], [], c, hm, F, hb, .nil, fun ds => by rw [List.append_nil]⟩
def MTab (P : Program) (w : World) (K : PySem.W.Frag) (mg : Str → Option Value) (base : Heap) (k : Nat) (m : Str) (M : Addr → SpX → Prop) : Prop := ∀ C sp, M C sp → MOk P w K mg base k m C sp
def dMeth (M : Addr → SpX → Prop) (m : Str) (Ex : XW) (ta : TED) (t : TAD) : TED := fun σd G Q => ta σd G fun x G1 => match insAt G1 x with
  | some (_, C, _, fs) => ∃ sp, M C sp ∧ fs.lookup m = none ∧ t σd G1 fun ds G2 => sp (x :: ds) G2 Q fun C' G' => Ex C' σd G'
  | none => False
def noEx : XW := fun _ _ _ => False
theorem xe_no {e : Value} {s : Shared} (h : xeD X noEx e s) : False := by
  obtain ⟨_, _, _, _, _, _, _, _, _, _, _, q⟩ := h
  exact q
variable {M : Addr → SpX → Prop}
theorem de_methN {pl : Sem Bool} (he : PED X o ta) (hM : MTab X.prog X.w X.K X.mg X.base k m M) (hr : Room k X.A) (ha : PAD X (e :: es) t)
    (hst : starEach (e :: es) X.env = (false, eval e X.env) :: starEach es X.env := by rfl) (hpl : (backTo pos (starEach es X.env)).any (·.1) = false := by rfl)
    (ht : eval (.Call (.Attribute o m apos) (e :: es) [] pos) X.env = (do
      let ov ← eval o X.env
      standAt apos.atName
      let (f, first) ← holding [ov] (getMethod ov m pl)
      callWith pos f first (backTo pos (starEach (e :: es) X.env)) (backToKw pos (keywordEach [] X.env))) := by rfl) :
    PED X (.Call (.Attribute o m apos) (e :: es) [] pos) (dMeth M m noEx ta t) := by
  intro pins s σd G σ H Q j h
  refine PySem.W.methodCall_KW (pl := pl) (thn (he pins s σd G σ H _ j h) fun u s1 ⟨x, v, G1, H1, j1, t1, i1, r1, q⟩ => ?_) ht
  dsimp only at q
  split at q
  · rename_i a C dx fs ei
    obtain ⟨rfl, eg⟩ := insAt_some ei
    cases i1
    cases r1
    obtain ⟨fv, hv, rf⟩ := j1.gh.ins eg
    · obtain ⟨sp, es', l, q⟩ := q
      obtain ⟨f, fd, ps, sp0, dd, dvs, dus, c, hm, F, hb, hd, e0⟩ := (hM C sp es').ex
      refine getmeth_ok j1.inv hv c hm (rf.none l) ?_
      refine PySem.W.callWith_K (first := [.ref a]) (h₀ := X.base) j1.inv.ok.mod.kin hm.kp (thn (ha pos pins s1 σd G1 σ H1 _ j1 q) fun us s2 zz => zz.use fun ds vs G2 H2 j2 t2 i2 r2 q2 => ⟨j2.inv.kIn, ?_⟩) hst hpl
      simp only [e0] at q2
      exact wpAny_mono (run_fnXd (Ex := noEx) (us := .ref a :: us) (vs := .ref a :: vs) (ds := .ref a :: ds) F hr hb hd j2 (.cons (.ref a) i2) (.cons rfl r2) q2) (fun _ _ z => EPD.from z (t1.trans t2)) fun _ _ z => (xe_no z).elim
  · exact q.elim
theorem de_methN0 {pl : Sem Bool} (he : PED X o ta) (hM : MTab X.prog X.w X.K X.mg X.base k m M) (hr : Room k X.A)
    (ht : eval (.Call (.Attribute o m apos) [] [] pos) X.env = (do
      let ov ← eval o X.env
      standAt apos.atName
      let (f, first) ← holding [ov] (getMethod ov m pl)
      callWith pos f first (backTo pos (starEach [] X.env)) (backToKw pos (keywordEach [] X.env))) := by rfl) :
    PED X (.Call (.Attribute o m apos) [] [] pos) (dMeth M m noEx ta dNil) := by
  intro pins s σd G σ H Q j h
  refine PySem.W.methodCall_KW (pl := pl) (thn (he pins s σd G σ H _ j h) fun u s1 ⟨x, v, G1, H1, j1, t1, i1, r1, q⟩ => ?_) ht
  dsimp only at q
  split at q
  · rename_i a C dx fs ei
    obtain ⟨rfl, eg⟩ := insAt_some ei
    cases i1
    cases r1
    obtain ⟨fv, hv, rf⟩ := j1.gh.ins eg
    · obtain ⟨sp, es', l, q⟩ := q
      obtain ⟨f, fd, ps, sp0, dd, dvs, dus, c, hm, F, hb, hd, e0⟩ := (hM C sp es').ex
      refine getmeth_ok j1.inv hv c hm (rf.none l) ?_
      have q2 : sp [.ref a] G1 Q fun C' G' => noEx C' σd G' := q
      simp only [e0] at q2
      exact PySem.W.callWith_K0 (first := [.ref a]) j1.inv.kIn hm.kp (wpAny_mono (run_fnXd (Ex := noEx) (us := [.ref a]) (vs := [.ref a]) (ds := [.ref a]) F hr hb hd j1 (.cons (.ref a) .nil) (.cons rfl .nil) q2) (fun _ _ z => EPD.from z t1) fun _ _ z => (xe_no z).elim)
  · exact q.elim

/-- C(..) -/
def dMake (C : Addr) (sp : SpX) (dd : List D) (Ex : XW) (t : TAD) : TED := fun σd G Q => t σd G fun ds G1 => ∀ x dx, G1 x = none → G1 dx = none → dx ≠ x →
  sp (.ref x :: (ds ++ dd)) (gupd G1 x (.ins C dx [])) (fun d G2 => d = .non ∧ Q (.ref x) G2) fun C' G' => Ex C' σd G'
theorem run_makeX {pins : List (Addr × Obj)} {σd : StD} {G : GHp} {σ : Sv} {H : Hp} {s : Shared} {Q : DK} {us : List Value} {ds : List D} {vs : List V} (Mm : Mk X.K C f) (F : FnOk X.prog X.w X.K X.mg X.base (CXE X.prog X.w) k f fd ps (spOfX X.K sp)) (hr : Room (k + 1) X.A) (hb : Binds X.K fd ps dus) (hd : Dfl dd dvs dus)
    (j : J X pins σd G σ H s) (iv : IsVs X.K H ds vs) (r : Vals vs us)
    (h : ∀ x dx, G x = none → G dx = none → dx ≠ x → sp (.ref x :: (ds ++ dd)) (gupd G x (.ins C dx [])) (fun d G2 => d = .non ∧ Q (.ref x) G2) fun C' G' => Ex C' σd G') :
    wpAny (model X.prog X.w) X.A (call (.ref C) us) (EPD X pins σd σ H Q) (xeD X Ex) s := by
  have f1 : H (s.heap.objs.size + 1) = none := j.inv.hok.fresh (Nat.le_succ _)
  have f0 : H s.heap.objs.size = none := j.inv.hok.fresh (Nat.le_refl _)
  have ne : s.heap.objs.size ≠ s.heap.objs.size + 1 := Nat.ne_of_lt (Nat.lt_succ_self _)
  have hq := h (s.heap.objs.size + 1) s.heap.objs.size (j.gh.free f1) (j.gh.free f0) ne
  have I2 := Inv.made (C := C) j.inv
  have tx1 : TX H (upd H s.heap.objs.size (.own (s.heap.objs.size + 1))) := .laid f0
  have f2 : (upd H s.heap.objs.size (.own (s.heap.objs.size + 1))) (s.heap.objs.size + 1) = none := by rw [upd_ne ne.symm]; exact f1
  have tx2 : TX (upd H s.heap.objs.size (.own (s.heap.objs.size + 1))) (upd (upd H s.heap.objs.size (.own (s.heap.objs.size + 1))) (s.heap.objs.size + 1) (.ins C s.heap.objs.size [])) := .laid f2
  have g2 : GOk X.K (gupd G (s.heap.objs.size + 1) (.ins C s.heap.objs.size [])) (upd (upd H s.heap.objs.size (.own (s.heap.objs.size + 1))) (s.heap.objs.size + 1) (.ins C s.heap.objs.size [])) :=
    (j.gh.laid f0).put tx2 (.ins upd_same .nil)
  have j2 := j.next I2 (tx1.trans tx2) g2
  refine wpAny_call (make_map (f := f) j.inv.kIn Mm.makes Mm.init (beq_iff_eq.mp Mm.fn) (run_codeX (us := Value.ref (s.heap.objs.size + 1) :: (us ++ dus)) (vs := .ref (s.heap.objs.size + 1) :: (vs ++ dvs)) (ds := .ref (s.heap.objs.size + 1) :: (ds ++ dd)) (args := ⟨Value.ref (s.heap.objs.size + 1) :: us, []⟩) F (hr.make C us [])
    (j2.inv.env0.make C us []) (fun hl => hb _ (Value.ref (s.heap.objs.size + 1) :: us) j2.inv.kIn hl) j2 (.cons (.ref _) (((iv.mono (tx1.trans tx2)).append (hd.is _ _)))) (.cons rfl (r.append hd.val)) hq _ (fun u s' z => ?_) fun a s' z => z))
  obtain ⟨d, v, G', H', j3, t3, i3, r3, rfl, q3⟩ := z
  cases i3
  cases r3
  exact ⟨rfl, .ref _, .ref _, G', H', j3, (tx1.trans tx2).trans t3, .ref _, rfl, q3⟩
theorem de_makeN (Mm : Mk X.K C f) (F : FnOk X.prog X.w X.K X.mg X.base (CXE X.prog X.w) k f fd ps (spOfX X.K sp)) (hr : Room (k + 1) X.A) (hg : Gl X x) (hm : X.mg x = some (.ref C)) (hb : Binds X.K fd ps dus) (hd : Dfl dd dvs dus)
    (ha : PAD X (e :: es) t) (hdb : (x == ("__debug__" : Str)) = false := by decide) (he : starEach (e :: es) X.env = (false, eval e X.env) :: starEach es X.env := by rfl) (hpl : (backTo pos (starEach es X.env)).any (·.1) = false := by rfl) :
    PED X (.Call (.Name x p) (e :: es) [] pos) (dMake C sp dd noEx t) := by
  intro pins s σd G σ H Q j h
  refine wpAny_Call_Name_kw (ld_glob j.inv hg hm ?_ hdb)
  refine PySem.W.callWith_K (h₀ := X.base) j.inv.ok.mod.kin Mm.kp (thn (ha pos pins s σd G σ H _ j h) fun us s1 ⟨ds, vs, G1, H1, j1, t1, i1, r1, q1⟩ => ⟨j1.inv.kIn, ?_⟩) he hpl
  exact wpAny_mono (run_makeX (Ex := noEx) Mm F hr hb hd j1 i1 r1 q1) (fun _ _ z => EPD.from z t1) fun _ _ z => (xe_no z).elim
end
end L3

/-! ### ranges, exchanged names, greatest and least, tuples joined -/
namespace L3
open PySem PySem.Spec PyProof.Rows L2
section
variable {X : Cx} {pos : Pos}
def dsPar (i k : Nat) (ta : TAD) : TSD := fun E σd G => ta σd G fun ds G1 => match ds with
  | [d, e] => E.nx ((σd.set i (some d)).set k (some e)) G1
  | _ => False
theorem ds_par {i k : Nat} {x y : Str} {a b : Expr} {ta : TAD} {px py pt : Pos} {kt k2 pt2} (hc : X.calm = true) (hN : X.N.Nodup) (hi : X.N[i]? = some x) (hj : X.N[k]? = some y) (hij : i ≠ k)
    (hx : X.env.scope.names.lookup x = some .local) (hy : X.env.scope.names.lookup y = some .local) (ha : PAD X [a, b] ta)
    (hw : swappedStores [.Tuple [.Name x px, .Name y py] kt pt] (.Tuple [a, b] k2 pt2) X.env = pure (some [x, y]))
    (hs : swapsWithSole [.Tuple [.Name x px, .Name y py] kt pt] (.Tuple [a, b] k2 pt2) pos.line X.env = pure false := by rfl) :
    PSD X (.Assign [.Tuple [.Name x px, .Name y py] kt pt] (.Tuple [a, b] k2 pt2) pos) (dsPar i k ta) := by
  intro pins s σd G σ H E j h
  rw [exec_Assign_arm]
  refine wpAny_bind (wpAny_standAt ?_)
  rw [hs]
  refine wpAny_bind (wpAny_pure ?_)
  rw [if_neg (by decide)]
  refine wpAny_bind (Tuple_ (thn (ha _ pins s σd G σ H _ j h) fun us s1 ⟨ds, vs, G1, H1, j1, t1, i1, r1, q1⟩ => ?_))
  dsimp only at q1
  split at q1
  rotate_left
  · exact False.elim q1
  rename_i d e
  cases i1 with
  | @cons _ v _ _ iv i1 =>
  cases i1 with
  | @cons _ w _ _ iw i1 =>
  cases i1
  obtain ⟨u1, u2, rfl, rv, rw'⟩ := Vals.two r1
  refine wpAny_newObj_type ?_ (by show 2 ≤ sizeLine; decide)
  have I2 : Inv X pins σ H1 { s1 with heap := s1.heap.push { cls := .type "tuple", data := .seq [u1, u2].toArray } } := j1.inv.kept (t' := s1.toks) fun b o e => Heap.get?_push_of_some _ e
  rw [hw]
  refine wpAny_bind (wpAny_pure ?_)
  show wpAny (model X.prog X.w) X.A (do rule "assign.swapped-stores"; let items ← unpackItems (.ref s1.heap.objs.size) 2 none; assignInOrder [fun v => bindName X.env y v, fun v => bindName X.env x v] items.reverse; pure Flow.next) _ _ _
  refine wpAny_bind (wpAny_rule (wpAny_bind (unpackItems_tuple (items := #[u1, u2]) (j.inv.ok.hd hc) (IsTup.new s1.heap _) fun h' hx' => ?_)))
  have I3 := I2.kept (h' := h') (t' := s1.toks) fun b o e => hx' b o (Nat.ne_of_lt (Heap.lt_size e)) e
  show wpAny _ _ (assignInOrder [fun v => bindName X.env y v, fun v => bindName X.env x v] [u2, u1] >>= fun _ => pure Flow.next) _ _ _
  refine wpAny_bind (assignInOrder_cons (wpAny_bindName (store_ok I3 hN hj (.inl hy) rw' (fun s2 I4 => ?_) (.inr hy))))
  refine assignInOrder_cons (wpAny_bindName (store_ok I4 hN hi (.inl hx) rv (fun s3 I5 => assignInOrder_nil (wpAny_pure ?_)) (.inr hx)))
  have j3 : J X pins σd G1 σ H1 { s1 with heap := h' } := ⟨I3, j1.len, j1.st, j1.gh⟩
  have j4 := j3.store I4 iw
  have j5 := j4.store I5 iv
  rw [List.set_comm _ _ (Ne.symm hij)] at j5
  exact ⟨_, G1, _, H1, j5, t1, q1⟩

theorem fp_lt {h : Heap} {a : Addr} {o o' : Obj} (ha : h.get? a = some o) : ∀ b ∈ [h.objs.size, a], b < (h.push o').objs.size := fun b hb => by
  rw [Heap.size_push]
  have hlt := Heap.lt_size ha
  rcases List.mem_cons.mp hb with rfl | hb
  · exact Nat.lt_succ_self _
  · rcases List.mem_cons.mp hb with rfl | hb
    · exact Nat.lt_succ_of_lt hlt
    · cases hb
theorem kept_of {h h' : Heap} {o' : Obj} (hk : ∀ b o, b ∉ [h.objs.size] → (h.push o').get? b = some o → h'.get? b = some o) : ∀ b o, h.get? b = some o → h'.get? b = some o := fun b o e => by
  refine hk b o (fun hm => ?_) (Heap.get?_push_of_some _ e)
  rcases List.mem_cons.mp hm with e1 | hm
  · exact absurd (e1 ▸ Heap.lt_size e) (Nat.lt_irrefl _)
  · cases hm
theorem iter_tup {prog : Program} {w : World} {A : Around} {E : Value → Shared → Prop} {s : Shared} {a : Addr} {its : Array Value} {Q : Value → Shared → Prop} (hl : s.heap.IsTuple a its)
    (h : ∀ s₂ : Shared, s₂ = { s with heap := s.heap.push { cls := .type "tuple_iterator", data := .fields #[.ref a, .int 0 0] } } →
      (s₂.heap.IsTupleIter s.heap.objs.size a 0 ∧ s₂.heap.IsTuple a its) → (∀ b ∈ [s.heap.objs.size, a], b < s₂.heap.objs.size) → a ≠ s.heap.objs.size → Q (.ref s.heap.objs.size) s₂) :
    wpAny (model prog w) A (pyIter (.ref a)) Q E s := by
  obtain ⟨o, e, _⟩ := id hl
  exact wpAny_pyIter_tuple hl (h _ rfl ⟨⟨_, Heap.get?_push_size _ rfl, rfl, rfl⟩, hl.at fun o e => Heap.get?_push_of_some _ e⟩ (fp_lt e) (Nat.ne_of_lt (Heap.lt_size e)))
/-- a range just made, walked by ones -/
theorem range_itD {tg : Expr} {pins : List (Addr × Obj)} {σd : StD} {G1 : GHp} {σ : Sv} {H H1 : Hp} {s1 : Shared} {R : List D → (GHp → Prop) → GHp → Prop} {E : Value → Shared → Prop} {lo hi : Int} {t u v : Tok} {tk : Nat} (j1 : J X pins σd G1 σ H1 s1) (t1 : TX H H1)
    (h1 : -(2 ^ 62) ≤ lo) (h2 : lo < 2 ^ 62) (h3 : -(2 ^ 62) ≤ hi) (h4 : hi < 2 ^ 62) (q : R (rngD lo 1 (hi - lo).toNat) (fun _ => True) G1) :
    wpAny (model X.prog X.w) X.A (pyIter (.ref s1.heap.objs.size)) (PIDE X pins σd σ H tg R) E { s1 with heap := s1.heap.push { cls := .type "range", data := .fields #[.int lo t, .int hi u, .int 1 v] }, toks := tk } := by
  refine wpAny_pyIter_range (IsRange.new ..) (small_one h1 h2 h3 h4) ?_
  have I2 : Inv X pins σ H1 { s1 with heap := s1.heap.push { cls := .type "range", data := .fields #[.int lo t, .int hi u, .int 1 v] }, toks := tk } := j1.inv.kept fun b o e => Heap.get?_push_of_some _ e
  have I3 := I2.kept (h' := (s1.heap.push { cls := .type "range", data := .fields #[.int lo t, .int hi u, .int 1 v] }).push { cls := .type "range_iterator", data := .fields #[rawInt lo, rawInt (Builtin.Range.rangeSize lo hi 1), rawInt 1] }) (t' := tk) fun b o e => Heap.get?_push_of_some _ e
  refine ⟨(s1.heap.push { cls := .type "range", data := .fields #[.int lo t, .int hi u, .int 1 v] }).objs.size, [(s1.heap.push { cls := .type "range", data := .fields #[.int lo t, .int hi u, .int 1 v] }).objs.size], _, _, G1, H1, rngD lo 1 (hi - lo).toNat, fun _ => True, rfl, j1.next I3 .refl j1.gh, t1, turn_rangeC _ lo 1 (hi - lo).toNat, ?_, fun b hb => ?_, ?_, ?_, q⟩
  · have e1 : lo + ((0 : Nat) : Int) * 1 = lo := by simp
    have e2 : (((hi - lo).toNat : Nat) : Int) - ((0 : Nat) : Int) = Builtin.Range.rangeSize lo hi 1 := by rw [rangeSize_one]; split <;> omega
    show IsRangeIter _ _ (lo + ((0 : Nat) : Int) * 1) ((((hi - lo).toNat : Nat) : Int) - ((0 : Nat) : Int)) 1
    rw [e1, e2]
    exact Heap.get?_push_size _ rfl
  · have e : b = (s1.heap.push { cls := .type "range", data := .fields #[.int lo t, .int hi u, .int 1 v] }).objs.size := by simpa using hb
    subst e
    exact I2.fpOk (Nat.le_refl _) (I2.hok.fresh (Nat.le_refl _))
  · intro i G2 H2 _ _ _ hl
    have : (rngD lo 1 (hi - lo).toNat).length = (hi - lo).toNat := by simp [rngD]
    rw [this] at hl
    exact hl
  · intro i d G2 H2 _ g2 _ hd
    have hlt : i < (hi - lo).toNat := by
      have := (List.getElem?_eq_some_iff.mp hd).1
      simpa [rngD] using this
    have ed : d = .int (lo + i * 1) := by
      unfold rngD at hd
      rw [List.getElem?_map, List.getElem?_range hlt] at hd
      exact (Option.some.inj hd).symm
    subst ed
    refine ⟨hlt, fun x H3 y => ?_⟩
    obtain ⟨e, y⟩ := y
    subst e y
    exact ⟨.refl, g2, .int _⟩
def iRng1D (ta : TAD) : TID := fun σd G R => ta σd G fun ds G1 => match ds with
  | [.int n] => (-(2 ^ 62) ≤ n ∧ n < 2 ^ 62) ∧ R (rngD 0 1 n.toNat) (fun _ => True) G1
  | _ => False
theorem id_range1 {tg : Expr} {a : Expr} {ta : TAD} {p pos : Pos} (hg : Gl X "range") (hm : X.mg "range" = none) (ha : PAD X [a] ta) (hs : starEach [a] X.env = [(false, eval a X.env)] := by rfl) : PID X tg (.Call (.Name "range" p) [a] [] pos) (iRng1D ta) := by
  intro pins s σd G σ H R j h
  refine Call_ (ld_blt j.inv hg hm boot_range (PyProof.Rows.callWith_type1 (thn (ha pos pins s σd G σ H _ j h) fun us s1 ⟨ds, vs, G1, H1, j1, t1, i1, r1, q1⟩ => ?_) hs rfl))
  dsimp only at q1
  split at q1
  · obtain ⟨⟨b1, b2⟩, q⟩ := q1
    cases i1 with | cons ra rb =>
    cases rb; cases ra
    obtain ⟨u, rfl, t, rfl⟩ := Vals.one r1
    exact call_range_1 (range_itD j1 t1 (by omega) (by omega) b1 b2 (by simpa using q))
  · exact False.elim q1
/-! isinstance, of instances too -/
structure InsTy (K : PySem.W.Frag) (C : Addr) : Prop where
  cl : Cls K C
  ha : PySem.W.findIn K (.ref C) "__class__" = some (some (.builtin "object.__class__"))
  hn : PySem.W.specialIn K (.builtin "object.__class__") "__get__" = some (some (.builtin "getset_descriptor.__get__"))
  htk : PySem.W.takesIn K (.builtin "object.__class__") = some true
  hm : PySem.W.mroIn K C (.type "object") = some true
/-- the class of a value -/
def clsD (G : GHp) : D → Option Value
  | .non => some (.type "NoneType")
  | .bl _ => some (.type "bool")
  | .int _ => some (.type "int")
  | .str _ => some (.type "str")
  | .tup _ => some (.type "tuple")
  | .rl _ => some (.type "list")
  | .ref a => match G a with
    | some (.lst _) => some (.type "list")
    | some (.ins C _ _) => some (.ref C)
    | none => none
  | .ty _ => none
def clsOk (K : PySem.W.Frag) : Value → Prop
  | .ref C => InsTy K C
  | _ => True
def clsV : D → Option Value
  | .ref c => some (.ref c)
  | .ty T => some (.type T)
  | _ => none
def qIsI (K : PySem.W.Frag) : List D → GHp → DK → Prop := fun ds G Q => match ds with
  | [x, c] => ∃ t cv b, clsD G x = some t ∧ clsV c = some cv ∧ clsOk K t ∧ PySem.W.kitOne K t cv = some b ∧ Q (.bl b) G
  | _ => False
theorem cd_isI : CallD X (.builtin "isinstance") (qIsI X.K) := by
  intro pins s σd G σ H ds xs us Q j ix rx q
  unfold qIsI at q
  split at q
  rotate_left
  · exact False.elim q
  rename_i x c
  obtain ⟨t, cv, b, et, ec, ok, ek, q⟩ := q
  cases ix with | cons r1 ix =>
  cases ix with | cons r2 ix =>
  cases ix
  obtain ⟨u, w, rfl, ru, rw'⟩ := Vals.two rx
  have fin : ∀ tk, EPD X pins σd σ H Q (.bool b) { s with toks := tk } := fun tk => ⟨.bl b, .bl b, G, H, j.next (j.inv.tok tk) .refl j.gh, .refl, .bl b, rfl, q⟩
  obtain rfl : w = cv := by
    unfold clsV at ec
    split at ec
    · cases ec; cases r2; exact rw'
    · cases ec; cases r2; exact rw'
    · cases ec
  unfold clsD at et
  split at et
  · cases et; cases r1; exact isinst_ok j.inv ru .non ek fin
  · cases et; cases r1; exact isinst_ok j.inv ru (.bl _) ek fin
  · cases et; cases r1; exact isinst_ok j.inv ru (.int _) ek fin
  · cases et; cases r1; exact isinst_ok j.inv ru (.str _) ek fin
  · cases et
    cases r1 with | tup hs rr =>
    cases ru
    obtain ⟨its, rv, ⟨o, ho, hc, _⟩, hz⟩ := j.inv.tuple hs
    exact PySem.W.kia_one PySem.W.kitx_tuple j.inv.kIn ⟨o, ho, hc⟩ ek (fun z => nomatch z) fin
  · cases et
    cases r1 with | rl hs rr =>
    cases ru
    obtain ⟨its, rv, ⟨o, n, ho, hc, _⟩, hz⟩ := j.inv.list hs.sq
    exact PySem.W.kia_one PySem.W.kitx_list j.inv.kIn ⟨o, ho, hc⟩ ek (fun z => nomatch z) fin
  · rename_i a
    cases r1
    split at et
    · rename_i xs eg
      cases et
      obtain ⟨hl, ri⟩ := j.gh _ _ eg
      exact isinst_ok j.inv ru (.lst hl) ek fin
    · rename_i C dx fs eg
      cases et
      obtain ⟨fv, hv, rf⟩ := j.gh.ins eg
      exact isinst_ok j.inv ru (.ins hv ok.cl ok.ha ok.hn ok.htk ok.hm) ek fin
    · cases et
  · cases et
end
end L3

/-! ### attributes of exceptions -/
namespace L3
open PySem PySem.Spec PyProof.Rows L2
section
variable {K : PySem.W.Frag} {prog : Program} {w : World} {A : Around} {E : Value → Shared → Prop} {x C : Addr} {name : Str} {tk : Tok}
open Builtin Builtin.ObjectAttr Builtin.Getset_descriptor in
end
end L3

/-! ### defs with values that fill up -/
namespace L3
open PySem PySem.Spec PyProof.Rows L2
structure FunV (K : PySem.W.Frag) (x qual : Str) (st : Stmt) (f : Addr) (fd : FuncData) : Prop where
  ex : ∃ (oc : Value) (od : Option Addr) (dV kV doc pm : Value) (an : Option Addr) (cdv ct : Value) (osl : Array (Option Value)),
    fd = PySem.W.fnOf x qual (defArgs st) (defBody st) (defScope st) dV kV doc pm an cdv ct ∧ K.lookup f = some ⟨oc, od, .func fd, osl⟩ ∧ PySem.W.codeIn K cdv qual = true
theorem funV_mk {K : PySem.W.Frag} {x qual : Str} {st : Stmt} {f : Addr} {oc : Value} {od an : Option Addr} {osl : Array (Option Value)} {dV kV doc pm cdv ct : Value} (l : K.lookup f = some ⟨oc, od, .func (PySem.W.fnOf x qual (defArgs st) (defBody st) (defScope st) dV kV doc pm an cdv ct), osl⟩)
    (c : PySem.W.codeIn K cdv qual = true) : FunV K x qual st f (PySem.W.fnOf x qual (defArgs st) (defBody st) (defScope st) dV kV doc pm an cdv ct) := ⟨oc, od, dV, kV, doc, pm, an, cdv, ct, osl, rfl, l, c⟩
section
variable {P : Program} {w : World} {K : PySem.W.Frag} {mg : Str → Option Value} {base : Heap}
theorem FunV.okW {x qual : Str} {st : Stmt} {f : Addr} {fd : FuncData} {N ps : List Str} {k : Nat} {CX : CXT} {sp : Sp} {good : List D → GHp → DK → XK → Prop} (F : FunV K x qual st f fd) (S : FnScope N ps (defScope st)) (len : ∀ vs H Q E, sp vs H Q E → vs.length = ps.length)
    (hbody : ∀ (cdv : Value) (A : Around) (outer : List Env) (s : Shared) (H : Hp) (vs : List V) (Q : VK) (E : XK), Room k (A.deeper (envOfC qual (defScope st) s.heap.objs.size f cdv)) → sp vs H Q E →
      ∃ ds G Qd t W, IsVs K H ds vs ∧ GOk K G H ∧ (∀ v H', Up K H Qd v H' → Q v H') ∧ (∀ s1, Inv (cxOf CX P w K mg base N qual (defScope st) f cdv A outer s H E) [] (L2.start N vs) H s1 → ∀ e s', W e s' → (cxOf CX P w K mg base N qual (defScope st) f cdv A outer s H E).xe e s') ∧
        PSsDw ((cxOf CX P w K mg base N qual (defScope st) f cdv A outer s H E).wish W) (defBody st) t ∧ t { nx := fun _ G' => Qd .non G', rt := Qd } (startD N ds) G) : FnOk P w K mg base CX (k + 1) f fd ps sp := by
  obtain ⟨oc, od, dV, kV, doc, pm, an, cdv, ct, osl, rfl, lk, hcd⟩ := F.ex
  refine fn_of lk hcd S len fun A outer s H vs Q E hr hsp => ?_
  obtain ⟨ds, G, Qd, t, W, iv, gok, kk, hW, ht, hq⟩ := hbody cdv A outer s H vs Q E hr hsp
  refine ⟨fun De σ H0 => σ = L2.start N vs ∧ H0 = H ∧ (∀ v H', Up K H Qd v H' → De.rt v H') ∧ ∀ σ' H', Up K H Qd .non H' → De.nx σ' H', ?_, rfl, rfl, kk, fun _ H' z => kk _ H' z⟩
  rintro pins s1 σ H0 De I ⟨rfl, rfl, k1, k2⟩
  obtain ⟨h1, h2⟩ := start_ok (N := N) iv
  have I0 : Inv (cxOf CX P w K mg base N qual (defScope st) f cdv A outer s H0 E) [] (L2.start N vs) H0 s1 := I.pins_of fun p hp => absurd hp (by simp)
  have jj : J ((cxOf CX P w K mg base N qual (defScope st) f cdv A outer s H0 E).wish W) pins (startD N ds) G (L2.start N vs) H0 s1 := ⟨I.wish W, h1, h2, gok⟩
  refine wpAny_mono (ht pins s1 (startD N ds) G (L2.start N vs) H0 _ jj hq) (fun fl s2 z => ?_) fun e s' z => hW s1 I0 e s' z
  cases fl with
  | next =>
    obtain ⟨σd', G', σ', H', j, q⟩ := z
    exact ⟨σ', H', j.inv.unwish, k2 σ' H' ⟨.non, G', j.inv.unwish.tx, j.gh, .non, q⟩⟩
  | ret u =>
    obtain ⟨d, v, σd', G', σ', H', j, iv, r, q⟩ := z
    exact ⟨v, σ', H', j.inv.unwish, r, k1 v H' ⟨d, G', j.inv.unwish.tx, j.gh, iv, q⟩⟩
  | brk => obtain ⟨_, _, _, _, _, q⟩ := z; exact False.elim q
  | cont => obtain ⟨_, _, _, _, _, q⟩ := z; exact False.elim q
/-- a def that may raise -/
theorem FunV.okX {x qual : Str} {st : Stmt} {f : Addr} {fd : FuncData} {N ps : List Str} {k : Nat} {sp : SpX} (n : Nat) (hn : N.length = ps.length + n) (F : FunV K x qual st f fd) (S : FnScope N ps (defScope st)) (len : ∀ ds G Q Ed, sp ds G Q Ed → ds.length = ps.length)
    (hbody : ∀ (cdv : Value) (A : Around) (outer : List Env) (s : Shared) (H : Hp) (ds : List D) (G : GHp) (Q : DK) (Ed : Addr → GHp → Prop) (E : XK), Room k (A.deeper (envOfC qual (defScope st) s.heap.objs.size f cdv)) → sp ds G Q Ed →
      ∃ t, PSsDw ((cxOf (CXE P w) P w K mg base N qual (defScope st) f cdv A outer s H E).wish (xeD (cxOf (CXE P w) P w K mg base N qual (defScope st) f cdv A outer s H E) fun C _ G' => Ed C G')) (defBody st) t ∧
        t { nx := fun _ G' => Q .non G', rt := Q } (st0 n ds) G) : FnOk P w K mg base (CXE P w) (k + 1) f fd ps (spOfX K sp) := by
  refine FunV.okW (good := fun _ _ _ _ => True) F S (fun vs H Q E h => ?_) (fun cdv A outer s H vs Q E hr h => ?_)
  · obtain ⟨ds, G, Qd, Ed, iv, _, h, _⟩ := h
    rw [← iv.length]
    exact len _ _ _ _ h
  · obtain ⟨ds, G, Qd, Ed, iv, gok, h, kk, ke⟩ := h
    obtain ⟨t, ht, hq⟩ := hbody cdv A outer s H ds G Qd Ed E hr h
    rw [← startD_st0 hn (len _ _ _ _ h)] at hq
    refine ⟨ds, G, Qd, t, _, iv, gok, kk, fun s1 I0 e s' z => ?_, ht, hq⟩
    obtain ⟨a, C, B, σd, G', σ, H', rfl, li, cl, tr, q⟩ := z
    refine lies_left (outer := outer) I0.ok.frames rfl li fun h' a0 fl up => ?_
    have j' := cl h' fl.1 up
    refine ⟨a, C, B, a0, H', rfl, j'.inv.os, j'.inv.bare, fl, fun h2 k2 u2 => ?_, tr, ke C G' H' j'.inv.tx j'.gh q⟩
    have j2 := cl h2 k2 (up.trans u2)
    exact ⟨j2.inv.base, j2.inv.hok⟩
end

/-! ### a method called by its class: C.m(o, ..) -/
structure CMeth (K : PySem.W.Frag) (C : Addr) (m : Str) (f : Addr) : Prop where
  hg : PySem.W.specialIn K (.ref C) "__getattribute__" = some (some (.builtin "type.__getattribute__"))
  hr : PySem.W.readsIn K C (.type "type") = true
  at_ : PySem.W.findCls K (.ref C) (.type "type") m = some (.val (.ref f))
  kp : PySem.W.keepIn K (.ref f) = true
section
variable {X : Cx} {k : Nat} {f C : Addr} {fd : FuncData} {ps : List Str} {sp : SpX} {Ex : XW} {m : Str} {pos apos : Pos} {e o : Expr} {es : List Expr} {t : TAD}
theorem getcm_ok {pins : List (Addr × Obj)} {σd : StD} {G : GHp} {σ : Sv} {H : Hp} {s : Shared} {A : Around} {E : Value → Shared → Prop} {pl : Sem Bool} {Q : Value × List Value → Shared → Prop} (j : J X pins σd G σ H s) (c : CMeth X.K C m f)
    (h : ∀ s', J X pins σd G σ H s' → Q (.ref f, []) s') : wpAny (model X.prog X.w) A (getMethod (.ref C) m pl) Q E s :=
  PySem.W.method_cls j.inv.kIn c.hg (PySem.W.cls_value j.inv.kIn c.hr c.at_ rfl (h _ (j.next (j.inv.tok _) .refl j.gh)))
theorem de_cmethX {pl : Sem Bool} (he : PED (X.wish (xeD X Ex)) o (dC (.ref C))) (c : CMeth X.K C m f) (F : FnOk X.prog X.w X.K X.mg X.base (CXE X.prog X.w) k f fd ps (spOfX X.K sp)) (hr : Room k X.A) (hb : Binds X.K fd ps []) (ha : PAD (X.wish (xeD X Ex)) (e :: es) t)
    (hst : starEach (e :: es) X.env = (false, eval e X.env) :: starEach es X.env := by rfl) (hpl : (backTo pos (starEach es X.env)).any (·.1) = false := by rfl)
    (ht : eval (.Call (.Attribute o m apos) (e :: es) [] pos) X.env = (do
      let ov ← eval o X.env
      standAt apos.atName
      let (f, first) ← holding [ov] (getMethod ov m pl)
      callWith pos f first (backTo pos (starEach (e :: es) X.env)) (backToKw pos (keywordEach [] X.env))) := by rfl) :
    PED (X.wish (xeD X Ex)) (.Call (.Attribute o m apos) (e :: es) [] pos) (dCallX sp Ex t) := by
  intro pins s σd G σ H Q j h
  refine PySem.W.methodCall_KW (pl := pl) (thn (he pins s σd G σ H (fun d G' => d = .ref C ∧ G' = G) j ⟨rfl, rfl⟩) fun u s1 ⟨x, v, G1, H1, j1, t1, i1, r1, q⟩ => ?_) ht
  obtain ⟨rfl, rfl⟩ := q
  cases i1
  cases r1
  refine getcm_ok (X := X.wish (xeD X Ex)) j1 c fun s1' j1' => ?_
  refine PySem.W.callWith_K (first := []) (h₀ := X.base) j1'.inv.ok.mod.kin c.kp (thn (ha pos pins s1' σd G1 σ H1 _ j1' h) fun us s2 zz => zz.use fun ds vs G2 H2 j2 t2 i2 r2 q2 => ⟨j2.inv.kIn, ?_⟩) hst hpl
  exact thn (run_fnX F hr hb j2.unwish i2 r2 q2) fun _ _ z => (EPD.from z (t1.trans t2)).wish
end

/-! ### tuples of ints in their order: (a, b) < (c, d); list(xs) -/
section
variable {X : Cx}
end
end L3

/-! ### tuples of ints in their order: <=, >, the greater and the lesser one; written constants -/
namespace HU
open PySem PyProof.Rows HT
section
open PySem.SeqAt
open PySem.AutoSeq1 (wpAny_loadPart')
open PySem.MeetsSeq PySem.MeetsSeq2 PySem.MeetsSeq3
end
section
variable {prog : Program} {w : World} {A : Around} {E : Value → Shared → Prop} {s : Shared}
end
end HU
namespace L3
open PySem PySem.Spec PyProof.Rows L2
section
variable {X : Cx} {x : Str} {pos : Pos}
/-- a whole number, a text that stands at the top -/
theorem de_globI {i : Int} {t : Tok} (hg : Gl X x) (hm : X.mg x = some (.int i t)) (hd : (x == ("__debug__" : Str)) = false := by decide) : PED X (.Name x pos) (dC (.int i)) := de_const (pe_glob (v := .int i) hg hm ⟨_, rfl⟩ hd) fun _ _ => .int i
end
/-! is not True, is not False, of ints and bools -/
section
variable {X : Cx}
end
/-! loops that may raise -/
section
variable {X : Cx} {Ex : XW} {pos : Pos}
theorem passes_xeD (hfr : X.A.frames = some (X.env :: X.outer)) (hst : X.stack = X.env :: X.outer) (hf : X.env.frame = some X.env.locals) : PassesOwn (model X.prog X.w) X.A X.env (xeD X Ex) := by
  intro e s' z
  obtain ⟨a, C, B, σd, G, σ, H, rfl, li, cl, tr, q⟩ := z
  have li' : Lies B (X.env :: X.outer) X.env.locals a C s'.heap := by rw [← hst]; exact li
  refine lies_noted hfr hf li' fun h2 a0 held up => ?_
  have back : xeD X Ex (.ref a) { s' with heap := h2 } := ⟨a, C, B, σd, G, σ, H, rfl, by rw [hst]; exact .held held, fun h3 k3 u3 => cl h3 k3 (up.trans u3), tr, q⟩
  obtain ⟨f1, f2, f3, oe, vs, T, oT, ts, he, hcls, hd, h1, hnT, hTe, hT, hdT, h3⟩ := held
  have z3 : 3 < ts.size := (Array.getElem?_eq_some_iff.mp h3).1
  have fin : wpAny (model X.prog X.w) X.A (setFlight (.ref a) X.env.frame) (fun _ s2 => xeD X Ex (.ref a) s2) (xeD X Ex) { s' with heap := h2 } := by
    rw [hf]; unfold setFlight
    refine wpAny_bind (wpAny_field he hd h1 ?_); rw [if_pos (by simp)]
    show wpAny _ _ (setField (.ref T) 3 (rawInt X.env.locals)) _ _ _; refine wpAny_setField hT hdT z3 ?_
    rw [Heap.update_setField_same _ T oT ts 3 _ hT hdT h3]; exact back
  unfold cameBackBy
  refine wpAny_bind (wpAny_field he hd h1 ?_); rw [if_neg (by simp)]
  first | exact wpAny_bind (wpAny_pure fin) | exact fin
variable {tg : Expr}
theorem ds_forX {iter : Expr} {body : List Stmt} {wi : TID} {g : TGD} {tb : TSD} (hst : X.stack = X.env :: X.outer) (hf : X.env.frame = some X.env.locals) (hc : (X.wish (xeD X Ex)).calm = true) (hi : PID (X.wish (xeD X Ex)) tg iter wi) (hg : PGD (X.wish (xeD X Ex)) tg g) (hb : PSsD (X.wish (xeD X Ex)) body tb)
    (hs : ∀ x, foldedSetIterable iter X.env x = pure x := by intro _; rfl) : PSD (X.wish (xeD X Ex)) (.For tg iter body [] pos) (dFor wi g tb) := by
  intro pins s σd G σ H E j h
  exact ds_for (passes_xeD (by rw [← hst]; exact j.inv.ok.frames) hst hf) hc hi hg hb hs pins s σd G σ H E j h
end
/-! two values, the better one -/
def KeptIn (h0 h : Heap) : Prop := ∀ b o, h0.get? b = some o → h.get? b = some o
theorem tup_at {h0 h : Heap} {p : Addr} {its : Array Value} (k : KeptIn h0 h) (t : IsTup h0 p its) : IsTup h p its := by
  obtain ⟨o, e, r⟩ := t
  exact ⟨o, k _ _ e, r⟩
section
variable {prog : Program} {w : World} {A : Around} {R : Result → Shared → Prop} {I S : Addr} {fp wr : List Addr} {St : Nat → Heap → Prop} {va vb : Value} {t : Bool} {P : Nat → Value → Prop}
variable {E : Value → Shared → Prop} {s : Shared}
end
section
variable {X : Cx}
end

section
variable {prog : Program} {w : World} {A : Around} {R : Result → Shared → Prop} {I S : Addr} {fp wr : List Addr} {St : Nat → Heap → Prop} {va vb : Value} {t : Bool} {P : Nat → Value → Prop}
variable {E : Value → Shared → Prop} {s : Shared}
end
section
variable {X : Cx}
end

end L3
namespace L3
open PySem L2 PyProof.Rows
section
variable {X : Cx} {pos : Pos}
end
end L3
namespace L3
open PySem PySem.Spec PyProof.Rows L2
/-! for a, b in zip(s, t): two tuples, the second one the shorter -/
section
variable {prog : Program} {w : World} {A : Around} {E : Value → Shared → Prop} {s : Shared}
variable {z I O p q t u : Addr} {k : Nat} {xs ys : Array Value}
end
section
variable {X : Cx} {pos : Pos}
end
/-! isinstance(x, bool), isinstance(x, int) of ints and truths: lighter than cd_isA -/
def isB (x : D) (T : String) : Option Bool := if T = "bool" then (match x with
  | .bl _ => some true
  | .int _ => some false
  | _ => none) else if T = "int" then (match x with
  | .bl _ => some true
  | .int _ => some true
  | _ => none) else none
def qIsB : List D → GHp → DK → Prop := fun ds G Q => match ds with
  | [x, .ty T] => ∃ b, isB x T = some b ∧ Q (.bl b) G
  | _ => False
theorem isB_bb {v : Bool} : isB (.bl v) "bool" = some true := by unfold isB; rw [if_pos rfl]
theorem isB_ib {v : Int} : isB (.int v) "bool" = some false := by unfold isB; rw [if_pos rfl]
theorem isB_bi {v : Bool} : isB (.bl v) "int" = some true := by unfold isB; rw [if_neg (by decide), if_pos rfl]
theorem isB_ii {v : Int} : isB (.int v) "int" = some true := by unfold isB; rw [if_neg (by decide), if_pos rfl]
theorem ex_some {b : Bool} {P : Bool → Prop} (o : Option Bool) (h : o = some b) : (∃ c, o = some c ∧ P c) = P b := by
  subst h
  exact propext ⟨fun ⟨c, e, p⟩ => by cases e; exact p, fun p => ⟨b, rfl, p⟩⟩
theorem qIsB_bb {v : Bool} {G : GHp} {Q : DK} : qIsB [.bl v, .ty "bool"] G Q = Q (.bl true) G := ex_some (P := fun b => Q (.bl b) G) _ isB_bb
theorem qIsB_ib {v : Int} {G : GHp} {Q : DK} : qIsB [.int v, .ty "bool"] G Q = Q (.bl false) G := ex_some (P := fun b => Q (.bl b) G) _ isB_ib
theorem qIsB_bi {v : Bool} {G : GHp} {Q : DK} : qIsB [.bl v, .ty "int"] G Q = Q (.bl true) G := ex_some (P := fun b => Q (.bl b) G) _ isB_bi
theorem qIsB_ii {v : Int} {G : GHp} {Q : DK} : qIsB [.int v, .ty "int"] G Q = Q (.bl true) G := ex_some (P := fun b => Q (.bl b) G) _ isB_ii
theorem qIsB_inv {ds : List D} {G : GHp} {Q : DK} (h : qIsB ds G Q) : ∃ x T b, ds = [x, .ty T] ∧ isB x T = some b ∧ Q (.bl b) G := by
  cases ds with
  | nil => exact h.elim
  | cons x t =>
    cases t with
    | nil => exact h.elim
    | cons y t =>
      cases y with
      | ty T =>
        cases t with
        | nil =>
          obtain ⟨b, e, q⟩ := h
          exact ⟨x, T, b, rfl, e, q⟩
        | cons _ _ => exact h.elim
      | _ => exact h.elim
theorem isB_inv {x : D} {T : String} {b : Bool} (h : isB x T = some b) : ((∃ v, x = .bl v) ∨ ∃ v, x = .int v) ∧ (T = "bool" ∨ T = "int") := by
  unfold isB at h
  by_cases h1 : T = "bool"
  · rw [if_pos h1] at h
    cases x <;> first | exact ⟨.inl ⟨_, rfl⟩, .inl h1⟩ | exact ⟨.inr ⟨_, rfl⟩, .inl h1⟩ | cases h
  · rw [if_neg h1] at h
    by_cases h2 : T = "int"
    · rw [if_pos h2] at h
      cases x <;> first | exact ⟨.inl ⟨_, rfl⟩, .inr h2⟩ | exact ⟨.inr ⟨_, rfl⟩, .inr h2⟩ | cases h
    · rw [if_neg h2] at h
      cases h
theorem isV_bl {K : PySem.W.Frag} {H : Hp} {b : Bool} {v : V} (h : IsV K H (.bl b) v) : v = .bl b := by cases h; rfl
theorem isV_ty {K : PySem.W.Frag} {H : Hp} {n : String} {v : V} (h : IsV K H (.ty n) v) : v = .ty n := by cases h; rfl
section
variable {X : Cx}
theorem cd_isB : CallD X (.builtin "isinstance") qIsB := by
  intro pins s σd G σ H ds xs us Q j ix rx q
  obtain ⟨x, T, b, rfl, e, q⟩ := qIsB_inv q
  obtain ⟨_, _, rfl, r, i1⟩ := isVs_cons ix
  obtain ⟨_, _, rfl, r', i2⟩ := isVs_cons i1
  cases isVs_nil i2
  cases isV_ty r'
  obtain ⟨_, _, rfl, u1, r1⟩ := vals_cons rx
  obtain ⟨_, _, rfl, u2, r2⟩ := vals_cons r1
  cases vals_nil r2
  cases u2
  have fin : ∀ tk, EPD X pins σd σ H Q (.bool b) { s with toks := tk } := fun tk => ⟨.bl b, .bl b, G, H, j.next (j.inv.tok tk) .refl j.gh, .refl, .bl b, rfl, q⟩
  obtain ⟨⟨v, rfl⟩ | ⟨v, rfl⟩, rfl | rfl⟩ := isB_inv e
  · cases isV_bl r; rw [isB_bb] at e; cases e; exact isinst_ok j.inv u1 (.bl _) rfl fin
  · cases isV_bl r; rw [isB_bi] at e; cases e; exact isinst_ok j.inv u1 (.bl _) rfl fin
  · cases isV_int r; rw [isB_ib] at e; cases e; exact isinst_ok j.inv u1 (.int _) rfl fin
  · cases isV_int r; rw [isB_ii] at e; cases e; exact isinst_ok j.inv u1 (.int _) rfl fin
end
/-! pairs of ints in their order, the greater and the lesser one; shapes -/
def cmpF : String → CmpOp → Builtin := (show { f : String → CmpOp → Builtin // f "__lt__" .Lt = Builtin.«tuple.__lt__» } from by unfold Builtin.«tuple.__lt__»; exact ⟨_, rfl⟩).1
def bestF : String → CmpOp → Builtin := (show { f : String → CmpOp → Builtin // f "max" .Gt = Builtin.«max.loop» } from by unfold Builtin.«max.loop»; exact ⟨_, rfl⟩).1
section
open PySem.SeqAt
open PySem.AutoSeq1 (wpAny_loadPart')
open PySem.MeetsSeq PySem.MeetsSeq2 PySem.MeetsSeq3
def lex2 (f : Int → Int → Bool) (z : Bool) (a b c d : Int) : Bool := if a = c then (if b = d then z else f b d) else f a c
theorem pair_cmp {nm : String} {op : CmpOp} {f : Int → Int → Bool} {z : Bool} (hop : op = .Lt ∨ op = .LtE ∨ op = .Gt)
    (hf : ∀ (A : Around) (s : Shared) (a : Int) (t : Tok) (c : Int) (u : Tok) (prog : Program) (w : World) (E : Value → Shared → Prop) (Q : Value → Shared → Prop), Q (.bool (f a c)) s → wpAny (model prog w) A (richCompare op (.int a t) (.int c u)) Q E s)
    (hz : Builtin.Tuple.tupleCompareSizes op 2 2 = .bool z)
    (l k : Addr) (a b c d : Int) (ta tb tc td : Tok) (n n2 : Nat) (dd dd2 : Option Addr) (sl sl2 : Array (Option Value)) :
    Meets (cmpF nm op ⟨[.ref l, .ref k], []⟩)
      (fun _ R s => s.heap.get? l = some { cls := .type "tuple", dict := dd, data := .seq #[.int a ta, .int b tb] n, slots := sl } ∧ s.heap.get? k = some { cls := .type "tuple", dict := dd2, data := .seq #[.int c tc, .int d td] n2, slots := sl2 } ∧
        R (.ok (.ret (.bool (lex2 f z a b c d)))) s) :=
  .of_wp fun prog w A R s h => by
    obtain ⟨hp, g, dr, tk, os⟩ := s
    obtain ⟨hl, hb, h⟩ := h
    have f2 := AutoSeq1.sub_tuple_tuple
    obtain ⟨e, he, hiff⟩ := HT.eqAt_int A.in1 ⟨hp, g, dr, tk, os⟩ a ta c tc
    have he := he prog w
    unfold lex2 at h
    unfold cmpF
    wp_walk using wpAny_loadPart' hl, wpAny_loadPart' hb, he
    have hr := fun a t c u => hf A.in1 ⟨hp, g, dr, tk, os⟩ a t c u prog w
    cases e with
    | false =>
      rw [if_neg (fun q => absurd (hiff.mpr q) Bool.false_ne_true)] at h
      have hra := hr a ta c tc
      rcases hop with rfl | rfl | rfl
      all_goals
        wp_walk using hra
        exact ⟨_, rfl, h⟩
    | true =>
      rw [if_pos (hiff.mp rfl)] at h
      obtain ⟨e2, he2, hiff2⟩ := HT.eqAt_int A.in1 ⟨hp, g, dr, tk, os⟩ b tb d td
      have he2 := he2 prog w
      wp_walk using he2
      cases e2 with
      | false =>
        rw [if_neg (fun q => absurd (hiff2.mpr q) Bool.false_ne_true)] at h
        have hrb := hr b tb d td
        rcases hop with rfl | rfl | rfl
        all_goals
          wp_walk using hrb
          exact ⟨_, rfl, h⟩
      | true =>
        rw [if_pos (hiff2.mp rfl), ← hz] at h
        wp_walk
        exact ⟨_, rfl, h⟩
end
def bestC : String → Builtin := (show { f : String → Builtin // f "max" = Builtin.«max» } from by unfold Builtin.«max»; exact ⟨_, rfl⟩).1
structure Best (nm lp : String) (op : CmpOp) : Prop where
  hn : (toString nm ++ toString ".loop" : String) = lp
  en : entryFor table lp = some (bestF nm op)
  pl : plainId lp = true
  kind : builtinKind nm = none
  plain : plainId nm = true
  entry : entryFor table nm = some (bestC nm)
  args : ∀ a b, argsOk nm ⟨[a, b], []⟩
theorem best_maxB : Best "max" "max.loop" .Gt := ⟨by decide, F.entry_max_loop, F.plain_max_loop, F.kind_max, F.plain_max, F.entry_max, F.args_max2⟩
theorem best_minB : Best "min" "min.loop" .Lt := ⟨by decide, F.entry_min_loop, F.plain_min_loop, F.kind_min, F.plain_min, F.entry_min, F.args_min2⟩
section
variable {prog : Program} {w : World} {A : Around} {R : Result → Shared → Prop} {I S : Addr} {fp wr : List Addr} {St : Nat → Heap → Prop} {va vb : Value} {t : Bool} {P : Nat → Value → Prop} {nm lp : String} {op : CmpOp}
theorem bs_end (B : Best nm lp op) (W : Walks prog w A.in1 I fp wr 2 P St) (hSf : S ∉ fp) {s : Shared} {v : Value} {c : Nat} (hst : St 2 s.heap)
    (hS : s.heap.get? S = some { cls := .type "list", dict := none, data := .seq #[v, v] c, slots := #[] })
    (hR : ∀ h' tk, (∀ b o, b ∉ wr → b ≠ S → s.heap.get? b = some o → h'.get? b = some o) → R (.ok (.ret v)) { s with heap := h', toks := tk }) :
    codeAny (model prog w) A (.builtin lp ⟨[.ref I, .none, .ref S], []⟩) R s := by
  have nS : S ∉ wr := fun z => hSf (W.sub _ z)
  refine codeAny_builtin B.en ?_; rw [Around.under_plainId B.pl _]
  show wpAny _ A.in1 (seqItems? (.ref S) >>= _) _ _ s; refine wpAny_bind (wpAny_seqItems hS rfl ?_)
  show wpAny _ A.in1 (tryCatch (pyNext (.ref I)) _ >>= _) _ _ s; refine wpAny_bind (wpAny_tryCatch (W.done s _ _ hst fun h' tk kk => ?_))
  have zS := kk S _ nS hS
  show wpAny _ A.in1 (updateSeq S (fun _ => #[]) >>= _) _ _ _; refine wpAny_bind (wpAny_updateSeq zS rfl (wpAny_bind (wpAny_letGo (wpAny_pure ?_))))
  exact hR _ tk fun b o n1 n2 e => (Heap.get?_update_other _ _ (Ne.symm n2)).trans (kk b o n1 e)
theorem bs_mid (B : Best nm lp op) (W : Walks prog w A.in1 I fp wr 2 (fun i v => #[va, vb][i]? = some v) St) (hSf : S ∉ fp) {h0 : Heap} (nw : ∀ b ∈ wr, h0.get? b = none)
    (hcmp : ∀ (s' : Shared) (Q : Value → Shared → Prop) (E : Value → Shared → Prop), KeptIn h0 s'.heap → Q (.bool t) s' → wpAny (model prog w) A.in1 (richCompare op vb va) Q E s')
    {s : Shared} {c : Nat} (hK : KeptIn h0 s.heap) (hst : St 1 s.heap) (hS : s.heap.get? S = some { cls := .type "list", dict := none, data := .seq #[va, va] c, slots := #[] })
    (hR : ∀ h' tk, (∀ b o, b ∉ wr → b ≠ S → s.heap.get? b = some o → h'.get? b = some o) → R (.ok (.ret (if t = true then vb else va))) { s with heap := h', toks := tk }) :
    codeAny (model prog w) A (.builtin lp ⟨[.ref I, .none, .ref S], []⟩) R s := by
  have nS : S ∉ wr := fun z => hSf (W.sub _ z)
  refine codeAny_builtin B.en ?_; rw [Around.under_plainId B.pl _]
  show wpAny _ A.in1 (seqItems? (.ref S) >>= _) _ _ s; refine wpAny_bind (wpAny_seqItems hS rfl ?_)
  show wpAny _ A.in1 (tryCatch (pyNext (.ref I)) _ >>= _) _ _ s; refine wpAny_bind (wpAny_tryCatch (W.item 1 s _ _ (by decide) hst fun v h1 t1 p1 st1 k1 => ?_))
  obtain rfl : vb = v := by simpa using p1
  have s1 := k1 S _ nS hS
  show wpAny _ A.in1 (tryCatch (holding [vb, vb] (richCompare op vb va >>= _)) _ >>= _) _ _ _
  refine wpAny_bind (wpAny_tryCatch (wpAny_holding (wpAny_bind (hcmp _ _ _ (fun b o e => k1 b o (fun z => by rw [nw _ z] at e; cases e) (hK b o e)) ?_))))
  refine wpAny_bind (wpAny_holding (wpAny_truthy_bool ?_)); refine wpAny_bind (wpAny_letGo (wpAny_pure ?_))
  cases t with
  | true =>
    simp only [if_true] at hR ⊢
    refine wpAny_bind (wpAny_updateSeq s1 rfl (wpAny_bind (wpAny_letGo ?_))); rw [B.hn]
    refine wpAny_pure ⟨plainId_quiet B.pl _, bs_end B W hSf (W.frame _ _ _ st1 fun b hb o e => (Heap.get?_update_other _ _ (fun z : S = b => hSf (by rw [z]; exact hb))).trans e) (Heap.get?_update_self _ s1 rfl) fun h' tk kk => ?_⟩
    exact hR h' tk fun b o n1 n2 e => kk b o n1 n2 ((Heap.get?_update_other _ _ (Ne.symm n2)).trans (k1 b o n1 e))
  | false =>
    simp only [Bool.false_eq_true, if_false] at hR ⊢
    refine wpAny_bind (wpAny_letGo ?_); rw [B.hn]
    exact wpAny_pure ⟨plainId_quiet B.pl _, bs_end B W hSf st1 s1 fun h' tk kk => hR h' tk fun b o n1 n2 e => kk b o n1 n2 (k1 b o n1 e)⟩
theorem bs_two (B : Best nm lp op) (W : Walks prog w A.in1 I fp wr 2 (fun i v => #[va, vb][i]? = some v) St) (hSf : S ∉ fp) {h0 : Heap} (n0 : h0.get? S = none) (nw : ∀ b ∈ wr, h0.get? b = none)
    (hcmp : ∀ (s' : Shared) (Q : Value → Shared → Prop) (E : Value → Shared → Prop), KeptIn h0 s'.heap → Q (.bool t) s' → wpAny (model prog w) A.in1 (richCompare op vb va) Q E s')
    {s : Shared} {c : Nat} (hK : KeptIn h0 s.heap) (hst : St 0 s.heap) (hS : s.heap.get? S = some { cls := .type "list", dict := none, data := .seq #[] c, slots := #[] })
    (hR : ∀ h' tk, (∀ b o, b ∉ wr → b ≠ S → s.heap.get? b = some o → h'.get? b = some o) → R (.ok (.ret (if t = true then vb else va))) { s with heap := h', toks := tk }) :
    codeAny (model prog w) A (.builtin lp ⟨[.ref I, .none, .ref S], []⟩) R s := by
  have nS : S ∉ wr := fun z => hSf (W.sub _ z)
  refine codeAny_builtin B.en ?_; rw [Around.under_plainId B.pl _]
  show wpAny _ A.in1 (seqItems? (.ref S) >>= _) _ _ s; refine wpAny_bind (wpAny_seqItems hS rfl ?_)
  show wpAny _ A.in1 (tryCatch (pyNext (.ref I)) _ >>= _) _ _ s; refine wpAny_bind (wpAny_tryCatch (W.item 0 s _ _ (by decide) hst fun v h1 t1 p1 st1 k1 => ?_))
  obtain rfl : va = v := by simpa using p1
  have s1 := k1 S _ nS hS
  show wpAny _ A.in1 (updateSeq S (fun _ => #[va, va]) >>= _) _ _ _; refine wpAny_bind (wpAny_updateSeq s1 rfl ?_)
  rw [B.hn]; refine wpAny_pure ⟨plainId_quiet B.pl _, bs_mid B W hSf nw hcmp (fun b o e => ?_) (W.frame _ _ _ st1 fun b hb o e => (Heap.get?_update_other _ _ (fun z : S = b => hSf (by rw [z]; exact hb))).trans e) (Heap.get?_update_self _ s1 rfl) fun h' tk kk => ?_⟩
  · exact (Heap.get?_update_other _ _ (fun z : S = b => by rw [← z, n0] at e; cases e)).trans (k1 b o (fun z => by rw [nw _ z] at e; cases e) (hK b o e))
  · exact hR h' tk fun b o n1 n2 e => kk b o n1 n2 ((Heap.get?_update_other _ _ (Ne.symm n2)).trans (k1 b o n1 e))
variable {E : Value → Shared → Prop} {s : Shared}
theorem call_best_of {Q : Value → Shared → Prop} (B : Best nm lp op) (hh : A.handled = none)
    (hcmp : ∀ (s' : Shared) (Q : Value → Shared → Prop) (E : Value → Shared → Prop), KeptIn s.heap s'.heap → Q (.bool t) s' → wpAny (model prog w) A.in1 (richCompare op vb va) Q E s')
    (h : ∀ h' tk, KeptIn s.heap h' → Q (if t = true then vb else va) { s with heap := h', toks := tk }) : wpAny (model prog w) A (call (.builtin nm) [va, vb]) Q E s := by
  have hT : (s.heap.push { cls := .type "tuple", data := .seq #[va, vb] }).IsTuple s.heap.objs.size #[va, vb] := ⟨_, Heap.get?_push_size _ rfl, rfl, 0, rfl⟩
  have lt : ∀ (g : Heap) (o : Obj), g.objs.size < (g.push o).objs.size := fun g o => by rw [Heap.size_push]; exact Nat.lt_succ_self _
  have fr : ∀ {b : Addr}, s.heap.objs.size ≤ b → s.heap.get? b = none := fun {b} hb => by
    cases q : s.heap.get? b with
    | none => rfl
    | some o => exact absurd (Heap.lt_size q) (Nat.not_lt.mpr hb)
  refine call_function_tree B.kind B.plain B.entry (B.args _ _) ?_
  show wpAny _ A.in1 (Builtin.Builtins.bindParams nm ["key", "default"] 0 ⟨[], []⟩ >>= _) _ _ s; refine wpAny_bind (wpAny_of_eq (show Builtin.Builtins.bindParams nm ["key", "default"] 0 ⟨[], []⟩ = pure [none, none] from rfl) ?_)
  show wpAny _ A.in1 (newTuple [va, vb] >>= _) _ _ s; refine wpAny_bind (wpAny_newObj_type (wpAny_bind (wpAny_pyIter_tuple hT (wpAny_bind (wpAny_newObj_type ?_)))))
  rw [B.hn]
  have kp : ∀ {b : Addr} {o : Obj}, s.heap.get? b = some o → (((s.heap.push { cls := .type "tuple", data := .seq #[va, vb] }).push { cls := .type "tuple_iterator", data := .fields #[.ref s.heap.objs.size, .int 0 0] }).push { cls := .type "list", data := .seq #[] }).get? b = some o :=
    fun e => Heap.get?_push_of_some _ (Heap.get?_push_of_some _ (Heap.get?_push_of_some _ e))
  refine wpAny_pure ⟨plainId_quiet B.pl _, bs_two (h0 := s.heap) B (Walks.tuple (A := A.in1) hh (s.heap.push { cls := .type "tuple", data := .seq #[va, vb] }).objs.size s.heap.objs.size (Nat.ne_of_lt (lt _ _)) #[va, vb]) ?_ (fr (Nat.le_of_lt (Nat.lt_trans (lt _ _) (lt _ _)))) (fun b hb => ?_) hcmp (fun b o e => kp e) ⟨⟨_, Heap.get?_push_of_some _ (Heap.get?_push_size _ rfl), rfl, rfl⟩, (hT.push _).push _⟩ (Heap.get?_push_size _ rfl) fun h' tk kk => ?_⟩
  · intro hm
    rcases List.mem_cons.mp hm with e | hm
    · exact absurd e (Nat.ne_of_gt (lt _ _))
    · rcases List.mem_cons.mp hm with e | hm
      · exact absurd e (Nat.ne_of_gt (Nat.lt_trans (lt _ _) (lt _ _)))
      · cases hm
  · rcases List.mem_cons.mp hb with e | hb
    · rw [e]; exact fr (Nat.le_of_lt (lt _ _))
    · cases hb
  · refine h h' tk fun b o e => kk b o (fun hm => ?_) (fun hb => ?_) (kp e)
    · rcases List.mem_cons.mp hm with e1 | hm
      · rw [e1, fr (Nat.le_of_lt (lt _ _))] at e; cases e
      · cases hm
    · have e1 : s.heap.get? b = none := by rw [hb]; exact fr (Nat.le_of_lt (Nat.lt_trans (lt _ _) (lt _ _)))
      rw [e1] at e; cases e
end

/-- an order of pairs, as the text asks it -/
structure CmpI (op : CmpOp) (f : Int → Int → Bool) (z : Bool) : Prop where
  ex : ∃ nm id, Slot "tuple" (cmpInfo op).2.1 id ∧ entryFor table id = some (cmpF nm op) ∧ ∀ x y, argsOk id ⟨[x, y], []⟩
  hop : op = .Lt ∨ op = .LtE ∨ op = .Gt
  hf : ∀ (A : Around) (s : Shared) (a : Int) (t : Tok) (c : Int) (u : Tok) (prog : Program) (w : World) (E : Value → Shared → Prop) (Q : Value → Shared → Prop), Q (.bool (f a c)) s → wpAny (model prog w) A (richCompare op (.int a t) (.int c u)) Q E s
  hz : Builtin.Tuple.tupleCompareSizes op 2 2 = .bool z
def ltB (a c : Int) : Bool := decide (a < c)
def leB (a c : Int) : Bool := decide (a ≤ c)
def gtB (a c : Int) : Bool := decide (a > c)
theorem cmpI_lt : CmpI .Lt ltB false := ⟨⟨_, _, F.slot_tuple_lt, F.entry_tuple_lt, F.args_tuple_lt_2⟩, .inl rfl, fun _ _ _ _ _ _ _ _ _ _ h => PyProof.Rows.lt_int h, rfl⟩
theorem cmpI_le : CmpI .LtE leB true := ⟨⟨_, _, F.slot_tuple_le, F.entry_tuple_le, F.args_tuple_le_2⟩, .inr (.inl rfl), fun _ _ _ _ _ _ _ _ _ _ h => PyProof.Rows.le_int h, rfl⟩
theorem cmpI_gt : CmpI .Gt gtB false := ⟨⟨_, _, F.slot_tuple_gt, F.entry_tuple_gt, F.args_tuple_gt_2⟩, .inr (.inr rfl), fun _ _ _ _ _ _ _ _ _ _ h => PyProof.Rows.gt_int h, rfl⟩
section
variable {prog : Program} {w : World} {A : Around} {E : Value → Shared → Prop} {s : Shared}
theorem rc_pair {op : CmpOp} {f : Int → Int → Bool} {z : Bool} (C : CmpI op f z) {l k : Addr} {a b c d : Int} {ta tb tc td : Tok} {Q : Value → Shared → Prop} (hl : IsTup s.heap l #[.int a ta, .int b tb]) (hb : IsTup s.heap k #[.int c tc, .int d td])
    (hu : A.units < cLine) (h : Q (.bool (lex2 f z a b c d)) s) : wpAny (model prog w) A (richCompare op (.ref l) (.ref k)) Q E s := by
  obtain ⟨⟨cls, dd, data, sl⟩, ho, hc, n, hd⟩ := hl
  obtain ⟨⟨cls2, dd2, data2, sl2⟩, ho2, hc2, n2, hd2⟩ := hb
  cases hc; cases hd; cases hc2; cases hd2
  obtain ⟨nm, id, slot, entry, args⟩ := C.ex
  exact richCompare_meets_room ⟨_, ho, rfl⟩ ⟨_, ho2, rfl⟩ slot entry (args _ _) (pair_cmp C.hop C.hf C.hz l k a b c d ta tb tc td n n2 dd dd2 sl sl2) ⟨ho, ho2, fun x => (nomatch x), h⟩ hu
end
def cL1 (ds : List D) (k : D → Prop) : Prop := match ds with
  | [a0] => k a0
  | _ => False
theorem cL1_inv {k : D → Prop} {C : List D → Prop} (f : ∀ a0, k a0 → C [a0]) (ds : List D) (h : cL1 ds k) : C ds := by
  cases ds with
  | nil => exact h.elim
  | cons a0 t0 =>
    cases t0 with
    | cons _ _ => exact h.elim
    | nil => exact f a0 h
def cL2 (ds : List D) (k : D → D → Prop) : Prop := match ds with
  | [a0, a1] => k a0 a1
  | _ => False
theorem cL2_inv {k : D → D → Prop} {C : List D → Prop} (f : ∀ a0 a1, k a0 a1 → C [a0, a1]) (ds : List D) (h : cL2 ds k) : C ds := by
  cases ds with
  | nil => exact h.elim
  | cons a0 t0 =>
    cases t0 with
    | nil => exact h.elim
    | cons a1 t1 =>
      cases t1 with
      | cons _ _ => exact h.elim
      | nil => exact f a0 a1 h
def cL3 (ds : List D) (k : D → D → D → Prop) : Prop := match ds with
  | [a0, a1, a2] => k a0 a1 a2
  | _ => False
theorem cL3_inv {k : D → D → D → Prop} {C : List D → Prop} (f : ∀ a0 a1 a2, k a0 a1 a2 → C [a0, a1, a2]) (ds : List D) (h : cL3 ds k) : C ds := by
  cases ds with
  | nil => exact h.elim
  | cons a0 t0 =>
    cases t0 with
    | nil => exact h.elim
    | cons a1 t1 =>
      cases t1 with
      | nil => exact h.elim
      | cons a2 t2 =>
        cases t2 with
        | cons _ _ => exact h.elim
        | nil => exact f a0 a1 a2 h
def cL4 (ds : List D) (k : D → D → D → D → Prop) : Prop := match ds with
  | [a0, a1, a2, a3] => k a0 a1 a2 a3
  | _ => False
theorem cL4_inv {k : D → D → D → D → Prop} {C : List D → Prop} (f : ∀ a0 a1 a2 a3, k a0 a1 a2 a3 → C [a0, a1, a2, a3]) (ds : List D) (h : cL4 ds k) : C ds := by
  cases ds with
  | nil => exact h.elim
  | cons a0 t0 =>
    cases t0 with
    | nil => exact h.elim
    | cons a1 t1 =>
      cases t1 with
      | nil => exact h.elim
      | cons a2 t2 =>
        cases t2 with
        | nil => exact h.elim
        | cons a3 t3 =>
          cases t3 with
          | cons _ _ => exact h.elim
          | nil => exact f a0 a1 a2 a3 h
def cI (d : D) (k : Int → Prop) : Prop := match d with
  | .int i => k i
  | _ => False
theorem cI_inv {k : Int → Prop} {C : D → Prop} (f : ∀ i, k i → C (.int i)) (d : D) (h : cI d k) : C d := by
  cases d with
  | int i => exact f i h
  | _ => exact h.elim
def cR (d : D) (k : Addr → Prop) : Prop := match d with
  | .ref i => k i
  | _ => False
theorem cR_inv {k : Addr → Prop} {C : D → Prop} (f : ∀ i, k i → C (.ref i)) (d : D) (h : cR d k) : C d := by
  cases d with
  | ref i => exact f i h
  | _ => exact h.elim
def cT (d : D) (k : List D → Prop) : Prop := match d with
  | .tup i => k i
  | _ => False
theorem cT_inv {k : List D → Prop} {C : D → Prop} (f : ∀ i, k i → C (.tup i)) (d : D) (h : cT d k) : C d := by
  cases d with
  | tup i => exact f i h
  | _ => exact h.elim
def cT2 (d : D) (k : Int → Int → Prop) : Prop := cT d fun xs => cL2 xs fun a0 a1 => cI a0 fun x0 => cI a1 fun x1 => k x0 x1
theorem cT2_inv {k : Int → Int → Prop} {C : D → Prop} (f : ∀ x0 x1, k x0 x1 → C (.tup [.int x0, .int x1])) (d : D) (h : cT2 d k) : C d :=
  cT_inv (fun xs h => cL2_inv (C := fun ds => C (.tup ds)) (fun a0 a1 h => cI_inv (C := fun d => C (.tup [d, a1])) (fun x0 h => cI_inv (C := fun d => C (.tup [.int x0, d])) (fun x1 h => f x0 x1 h) a1 h) a0 h) xs h) d h
def cT3 (d : D) (k : Int → Int → Int → Prop) : Prop := cT d fun xs => cL3 xs fun a0 a1 a2 => cI a0 fun x0 => cI a1 fun x1 => cI a2 fun x2 => k x0 x1 x2
theorem cT3_inv {k : Int → Int → Int → Prop} {C : D → Prop} (f : ∀ x0 x1 x2, k x0 x1 x2 → C (.tup [.int x0, .int x1, .int x2])) (d : D) (h : cT3 d k) : C d :=
  cT_inv (fun xs h => cL3_inv (C := fun ds => C (.tup ds)) (fun a0 a1 a2 h => cI_inv (C := fun d => C (.tup [d, a1, a2])) (fun x0 h => cI_inv (C := fun d => C (.tup [.int x0, d, a2])) (fun x1 h => cI_inv (C := fun d => C (.tup [.int x0, .int x1, d])) (fun x2 h => f x0 x1 x2 h) a2 h) a1 h) a0 h) xs h) d h

/-- two things handed over -/
theorem two_of {K : PySem.W.Frag} {H : Hp} {a b : D} {vs : List V} {us : List Value} (h : IsVs K H [a, b] vs) (r : Vals vs us) : ∃ x y u v, us = [u, v] ∧ IsV K H a x ∧ IsV K H b y ∧ RelV x u ∧ RelV y v := by
  obtain ⟨x, _, rfl, h1, q1⟩ := isVs_cons h
  obtain ⟨y, _, rfl, h2, q2⟩ := isVs_cons q1
  cases isVs_nil q2
  obtain ⟨u, _, rfl, e1, r1⟩ := vals_cons r
  obtain ⟨v, _, rfl, e2, r2⟩ := vals_cons r1
  cases vals_nil r2
  exact ⟨x, y, u, v, rfl, h1, h2, e1, e2⟩
theorem one_of {K : PySem.W.Frag} {H : Hp} {a : D} {vs : List V} {us : List Value} (h : IsVs K H [a] vs) (r : Vals vs us) : ∃ x u, us = [u] ∧ IsV K H a x ∧ RelV x u := by
  obtain ⟨x, _, rfl, h1, q1⟩ := isVs_cons h
  cases isVs_nil q1
  obtain ⟨u, _, rfl, e1, r1⟩ := vals_cons r
  cases vals_nil r1
  exact ⟨x, u, rfl, h1, e1⟩
/-- an int, a pair of ints as it stands in the heap -/
theorem int_at {K : PySem.W.Frag} {H : Hp} {i : Int} {v : V} {u : Value} (h : IsV K H (.int i) v) (r : RelV v u) : ∃ t, u = .int i t := by
  cases isV_int h
  exact r
theorem pair_at {X : Cx} {pins : List (Addr × Obj)} {σ : Sv} {H : Hp} {s : Shared} (I : Inv X pins σ H s) {a b : Int} {v : V} {u : Value} (h : IsV X.K H (.tup [.int a, .int b]) v) (r : RelV v u) : ∃ p ta tb, v = .ref p ∧ u = .ref p ∧ IsTup s.heap p #[.int a ta, .int b tb] := by
  obtain ⟨p, vs, rfl, hs, i1⟩ := isV_tup h
  obtain ⟨x, _, rfl, h1, q1⟩ := isVs_cons i1
  obtain ⟨y, _, rfl, h2, q2⟩ := isVs_cons q1
  cases isVs_nil q2
  obtain ⟨its, rv, p1, _⟩ := I.tuple hs
  obtain ⟨_, _, rfl, e1, r1⟩ := vals_cons rv
  obtain ⟨_, _, rfl, e2, r2⟩ := vals_cons r1
  cases vals_nil r2
  obtain ⟨ta, rfl⟩ := int_at h1 e1
  obtain ⟨tb, rfl⟩ := int_at h2 e2
  cases r
  exact ⟨p, ta, tb, rfl, rfl, p1⟩
section
variable {X : Cx}
def qBestT (f : Int → Int → Bool) (z : Bool) : List D → GHp → DK → Prop := fun ds G Q => ∃ a b c d, ds = [.tup [.int a, .int b], .tup [.int c, .int d]] ∧ Q (if lex2 f z c d a b = true then .tup [.int c, .int d] else .tup [.int a, .int b]) G
theorem cd_bestT {nm lp : String} {op : CmpOp} {f : Int → Int → Bool} {z : Bool} (B : Best nm lp op) (C : CmpI op f z) (hc : X.calm = true) (hu : X.A.units + 64 < cLine) : CallD X (.builtin nm) (qBestT f z) := by
  intro pins s σd G σ H ds xs us Q j ix rx q0
  obtain ⟨a, b, c, d, rfl, q⟩ := q0
  obtain ⟨x, y, u, v, rfl, i1, i2, r1, r2⟩ := two_of ix rx
  obtain ⟨p, ta, tb, rfl, rfl, t1⟩ := pair_at j.inv i1 r1
  obtain ⟨p', tc, td, rfl, rfl, t2⟩ := pair_at j.inv i2 r2
  refine call_best_of B (t := lex2 f z c d a b) (j.inv.ok.hd hc) (fun s' Q' E' kk q' => rc_pair C (A := X.A.in1) (tup_at kk t2) (tup_at kk t1) (by show X.A.units + 1 < cLine; omega) q') fun h' tk kk => ?_
  have jn := j.next (j.inv.kept (t' := tk) kk) .refl j.gh
  cases hl : lex2 f z c d a b with
  | true => rw [hl] at q; exact ⟨_, _, G, H, jn, .refl, i2, r2, q⟩
  | false => rw [hl] at q; exact ⟨_, _, G, H, jn, .refl, i1, r1, q⟩
def qMaxI : List D → GHp → DK → Prop := fun ds G Q => ∃ i k, ds = [.int i, .int k] ∧ Q (.int (max i k)) G
def qMinI : List D → GHp → DK → Prop := fun ds G Q => ∃ i k, ds = [.int i, .int k] ∧ Q (.int (min i k)) G
theorem best_int {X : Cx} {pins : List (Addr × Obj)} {σd : StD} {G : GHp} {σ : Sv} {H : Hp} {s : Shared} {Q : DK} (j : J X pins σd G σ H s) {h' : Heap} {tk : Nat} (kk : ∀ c o, s.heap.get? c = some o → h'.get? c = some o) {i m : Int} {t : Tok} (e : i = m) (q : Q (.int m) G) : EPD X pins σd σ H Q (.int i t) { s with heap := h', toks := tk } := by
  subst e
  exact ⟨_, .int _, G, H, j.next (j.inv.kept (t' := tk) kk) .refl j.gh, .refl, .int _, ⟨_, rfl⟩, q⟩
theorem cd_maxI (hc : X.calm = true) : CallD X (.builtin "max") qMaxI := by
  intro pins s σd G σ H ds xs us Q j ix rx q0
  obtain ⟨a, b, rfl, q⟩ := q0
  obtain ⟨x, y, u, v, rfl, i1, i2, r1, r2⟩ := two_of ix rx
  obtain ⟨t, rfl⟩ := int_at i1 r1
  obtain ⟨t', rfl⟩ := int_at i2 r2
  refine max_two_ints (j.inv.ok.hd hc) fun h' tk kk => ?_
  by_cases hj : b > a
  · rw [if_pos hj]; exact best_int j kk (Int.max_eq_right (Int.le_of_lt hj)).symm q
  · rw [if_neg hj]; exact best_int j kk (Int.max_eq_left (Int.not_lt.mp hj)).symm q
theorem cd_minI (hc : X.calm = true) : CallD X (.builtin "min") qMinI := by
  intro pins s σd G σ H ds xs us Q j ix rx q0
  obtain ⟨a, b, rfl, q⟩ := q0
  obtain ⟨x, y, u, v, rfl, i1, i2, r1, r2⟩ := two_of ix rx
  obtain ⟨t, rfl⟩ := int_at i1 r1
  obtain ⟨t', rfl⟩ := int_at i2 r2
  refine min_two_ints (j.inv.ok.hd hc) fun h' tk kk => ?_
  by_cases hj : b < a
  · rw [if_pos hj]; exact best_int j kk (Int.min_eq_right (Int.le_of_lt hj)).symm q
  · rw [if_neg hj]; exact best_int j kk (Int.min_eq_left (Int.not_lt.mp hj)).symm q
/-- the greater one of a pair -/
def qMaxP : List D → GHp → DK → Prop := fun ds G Q => ∃ a b, ds = [.tup [.int a, .int b]] ∧ Q (.int (max a b)) G
theorem at_two {a b : Int} {ta tb : Tok} (i : Nat) (v : Value) (e : #[Value.int a ta, .int b tb][i]? = some v) : ∃ t, v = Value.int (if i = 0 then a else b) t := by
  cases i with
  | zero => cases e; exact ⟨_, rfl⟩
  | succ i =>
    cases i with
    | zero => cases e; exact ⟨_, rfl⟩
    | succ i => cases e
theorem best_two {a b : Int} : (if argBest (fun i j => decide ((if i = 0 then a else b) > (if j = 0 then a else b))) 1 = 0 then a else b) = max a b := by
  by_cases hj : b > a
  · have e : argBest (fun i j => decide ((if i = 0 then a else b) > (if j = 0 then a else b))) 1 = 1 := if_pos (decide_eq_true hj)
    rw [e]; exact (Int.max_eq_right (Int.le_of_lt hj)).symm
  · have e : argBest (fun i j => decide ((if i = 0 then a else b) > (if j = 0 then a else b))) 1 = 0 := if_neg fun z => hj (of_decide_eq_true z)
    rw [e]; exact (Int.max_eq_left (Int.not_lt.mp hj)).symm
theorem cd_maxP (hc : X.calm = true) : CallD X (.builtin "max") qMaxP := by
  intro pins s σd G σ H ds xs us Q j ix rx q0
  obtain ⟨a, b, rfl, q⟩ := q0
  obtain ⟨x, u, rfl, i1, r1⟩ := one_of ix rx
  obtain ⟨p, ta, tb, rfl, rfl, t1⟩ := pair_at j.inv i1 r1
  refine call_max_walk (iter_tup t1 fun s₂ e st hfp hlI => ?_)
  subst e
  refine ⟨_, _, _, _, _, _, _, rfl, Walks.tuple (A := X.A.in1) (j.inv.ok.hd hc) _ p hlI _, st, hfp, Nat.zero_lt_two, CmpOf.ints_gt (fun i => if i = 0 then a else b) at_two, fun v h' tk hP hk => ?_⟩
  obtain ⟨t, rfl⟩ := at_two _ _ hP
  exact best_int j (kept_of hk) best_two q
/-- an order of pairs of ints -/
def qLexT (f : Int → Int → Bool) (z : Bool) : RD2 := fun x y G Q => ∃ a b c d, x = .tup [.int a, .int b] ∧ y = .tup [.int c, .int d] ∧ Q (.bl (lex2 f z a b c d)) G
theorem od_lexT {op : CmpOp} {f : Int → Int → Bool} {z : Bool} (C : CmpI op f z) (e : compareOp op = richCompare op) (hu : X.A.units < cLine) : OpD X (compareOp op) (qLexT f z) := by
  intro pins s σd G σ H dx dy x y v u Q j i1 i2 r1 r2 q0
  obtain ⟨a, b, c, d, rfl, rfl, q⟩ := q0
  obtain ⟨p, ta, tb, rfl, rfl, t1⟩ := pair_at j.inv i1 r1
  obtain ⟨p', tc, td, rfl, rfl, t2⟩ := pair_at j.inv i2 r2
  rw [e]
  exact rc_pair C t1 t2 hu ⟨_, .bl _, G, H, j, .refl, .bl _, rfl, q⟩
theorem od_leP (hu : X.A.units < cLine) : OpD X (compareOp .LtE) (qLexT leB true) := od_lexT cmpI_le rfl hu
end
theorem lex_le {a b c d : Int} : lex2 leB true a b c d = decide (a < c ∨ (a = c ∧ b ≤ d)) := by
  unfold lex2
  by_cases h : a = c
  · rw [if_pos h]
    by_cases k : b = d
    · rw [if_pos k]; exact (decide_eq_true (.inr ⟨h, Int.le_of_eq k⟩)).symm
    · rw [if_neg k]; exact decide_eq_decide.mpr ⟨fun z => .inr ⟨h, z⟩, fun z => z.elim (fun y => absurd h (Int.ne_of_lt y)) (·.2)⟩
  · rw [if_neg h]; exact decide_eq_decide.mpr ⟨fun z => .inl (Int.lt_iff_le_and_ne.mpr ⟨z, h⟩), fun z => z.elim Int.le_of_lt fun y => absurd y.1 h⟩
theorem lex_lt {a b c d : Int} : lex2 ltB false a b c d = true ↔ (a < c ∨ (a = c ∧ b < d)) := by
  unfold lex2
  by_cases h : a = c
  · rw [if_pos h]
    by_cases k : b = d
    · rw [if_pos k]; exact ⟨fun z => (nomatch z), fun z => z.elim (fun y => absurd h (Int.ne_of_lt y)) fun y => absurd k (Int.ne_of_lt y.2)⟩
    · rw [if_neg k]; exact ⟨fun z => .inr ⟨h, of_decide_eq_true z⟩, fun z => z.elim (fun y => absurd h (Int.ne_of_lt y)) fun y => decide_eq_true y.2⟩
  · rw [if_neg h]; exact ⟨fun z => .inl (of_decide_eq_true z), fun z => z.elim (fun y => decide_eq_true y) fun y => absurd y.1 h⟩
theorem lex_gt {a b c d : Int} : lex2 gtB false a b c d = true ↔ (c < a ∨ (a = c ∧ d < b)) := by
  unfold lex2
  by_cases h : a = c
  · rw [if_pos h]
    by_cases k : b = d
    · rw [if_pos k]; exact ⟨fun z => (nomatch z), fun z => z.elim (fun y => absurd h.symm (Int.ne_of_lt y)) fun y => absurd k.symm (Int.ne_of_lt y.2)⟩
    · rw [if_neg k]; exact ⟨fun z => .inr ⟨h, of_decide_eq_true z⟩, fun z => z.elim (fun y => absurd h.symm (Int.ne_of_lt y)) fun y => decide_eq_true y.2⟩
  · rw [if_neg h]; exact ⟨fun z => .inl (of_decide_eq_true z), fun z => z.elim (fun y => decide_eq_true y) fun y => absurd y.1 h⟩
section
variable {X : Cx}
/-! == and != of ints, of truths, of tuples of ints; + of ints, of lists: each by itself -/
theorem od_eqI : OpD X (compareOp .Eq) (qI0 fun i j => .bl (decide (i = j))) := .ints1 (opB0 fun _ _ _ _ _ _ _ q => eq_int q) fun _ _ i j => .bl (decide (i = j))
theorem od_neI : OpD X (compareOp .NotEq) (qI0 fun i j => .bl (!decide (i = j))) := .ints1 (opB0 fun _ _ _ _ _ _ _ q => ne_int q) fun _ _ i j => .bl (!decide (i = j))
theorem od_addI : OpD X (binaryOp .Add) (qI0 fun i j => .int (i + j)) := .ints1 op_add fun _ _ i j => .int (i + j)
def qEqB : RD2 := fun x y G Q => ∃ b c, x = .bl b ∧ y = .bl c ∧ Q (.bl (b == c)) G
theorem od_eqB : OpD X (compareOp .Eq) qEqB := by
  intro pins s σd G σ H dx dy x y v u Q j ix iy rx ry q
  obtain ⟨b, c, rfl, rfl, q⟩ := q
  cases isV_bl ix
  cases isV_bl iy
  cases rx
  cases ry
  exact eq_bool ⟨_, .bl _, G, H, j, .refl, .bl _, rfl, q⟩
theorem ints_tup {K : PySem.W.Frag} {H : Hp} : ∀ {ns : List Int} {vs : List V}, IsVs K H (ns.map D.int) vs → ∀ {us : List Value}, Vals vs us → IntsAre us ns := fun h _ r => by
  cases IsVs.of_ints h
  exact intsAre_of r
theorem reads_tupI {pins : List (Addr × Obj)} {σ : Sv} {H : Hp} {s : Shared} (I : Inv X pins σ H s) {ns : List Int} {v : V} {u : Value} (h : IsV X.K H (.tup (ns.map D.int)) v) (r : RelV v u) : Reads s.heap u (.tuple (ns.map PyData.int)) [] := by
  obtain ⟨a, vs, rfl, hs, i1⟩ := isV_tup h
  obtain ⟨its, rv, p, _⟩ := I.tuple hs
  cases r
  obtain ⟨o, e, c, n, d⟩ := p
  exact .tuple e c d (PySem.W.readsAll_of_ints (ints_tup i1 rv))
theorem shaped_tupI (ns : List Int) : PySem.SeqAt.shaped (.tuple (ns.map PyData.int)) = true := by
  have h := PySem.W.shaped_ints ns
  simp only [PySem.SeqAt.shaped, PyData.canLay0, PyData.depth] at h ⊢
  exact h
def qEqT : RD2 := fun x y G Q => ∃ ns ms : List Int, x = .tup (ns.map D.int) ∧ y = .tup (ms.map D.int) ∧ Q (.bl (decide (ns = ms))) G
theorem od_eqT (hu : X.A.units + 64 < cLine) : OpD X (compareOp .Eq) qEqT := by
  intro pins s σd G σ H dx dy x y v u Q j ix iy rx ry q
  obtain ⟨ns, ms, rfl, rfl, q⟩ := q
  refine eq_dataH_same (reads_tupI j.inv ix rx) (reads_tupI j.inv iy ry) (shaped_tupI ns) (shaped_tupI ms) hu (PySem.W.noMix_ints ns ms) ?_
  exact ⟨_, .bl _, G, H, j, .refl, .bl _, congrArg Value.bool (PySem.W.same_ints ns ms), q⟩
def qNeT : RD2 := fun x y G Q => ∃ ns ms : List Int, x = .tup (ns.map D.int) ∧ y = .tup (ms.map D.int) ∧ Q (.bl (!decide (ns = ms))) G
theorem od_neT (hu : X.A.units + 64 < cLine) : OpD X (compareOp .NotEq) qNeT := by
  intro pins s σd G σ H dx dy x y v u Q j ix iy rx ry q
  obtain ⟨ns, ms, rfl, rfl, q⟩ := q
  refine ne_dataH_same (reads_tupI j.inv ix rx) (reads_tupI j.inv iy ry) (shaped_tupI ns) (shaped_tupI ms) hu (PySem.W.noMix_ints ns ms) ?_
  exact ⟨_, .bl _, G, H, j, .refl, .bl _, congrArg (fun b => Value.bool (!b)) (PySem.W.same_ints ns ms), q⟩
def qAddL : RD2 := fun x y G Q => ∃ a b xs ys, x = .ref a ∧ y = .ref b ∧ G a = some (.lst xs) ∧ G b = some (.lst ys) ∧ Fits (xs.length + ys.length) ∧ ∀ p, G p = none → Q (.ref p) (gupd G p (.lst (xs ++ ys)))
theorem isV_ref {K : PySem.W.Frag} {H : Hp} {a : Addr} {v : V} (h : IsV K H (.ref a) v) : v = .ref a := by cases h; rfl
theorem od_addL : OpD X (binaryOp .Add) qAddL := .of op_cat fun G H dx dy x y Q gok ix iy q => by
  obtain ⟨a, b, xs, ys, rfl, rfl, ha, hb, hz, q⟩ := q
  cases isV_ref ix
  cases isV_ref iy
  obtain ⟨h1, r1⟩ := gok _ _ ha
  obtain ⟨h2, r2⟩ := gok _ _ hb
  exact ⟨_, _, _, _, rfl, rfl, h1, h2, by rw [← r1.length, ← r2.length]; exact hz.le, fun p hp => Up.newL gok hp (r1.append r2) (q p (gok.free hp))⟩
end
end L3

set_option backward.eqns.nonrecursive false
set_option genInjectivity false
set_option genSizeOfSpec false
namespace My
open PySem L2 L3
def top (i : Nat) : Stmt := PySem.Challenge.pw_bouncewise_k21_a_wall.main.body.getD i (.Pass ⟨0, 0, 0, 0⟩)
theorem bt_abs : bootBuiltins "abs" = some (.builtin "abs") := by decide +kernel
theorem bt_bool : bootBuiltins "bool" = some (.type "bool") := by decide +kernel
theorem bt_int : bootBuiltins "int" = some (.type "int") := by decide +kernel
theorem bt_isinstance : bootBuiltins "isinstance" = some (.builtin "isinstance") := by decide +kernel
theorem bt_len : bootBuiltins "len" = some (.builtin "len") := by decide +kernel
theorem bt_max : bootBuiltins "max" = some (.builtin "max") := by decide +kernel
theorem bt_min : bootBuiltins "min" = some (.builtin "min") := by decide +kernel
abbrev s_divisor : Stmt := top 6
abbrev s_as_point : Stmt := top 7
abbrev s_heading_of : Stmt := top 9
abbrev s_line_of : Stmt := top 10
abbrev s_across : Stmt := top 11
abbrev s_check_end : Stmt := top 15
abbrev s_line_between : Stmt := top 16
abbrev s_Wall___init__ : Stmt := inClass (top 17) 0
abbrev s_Wall_line : Stmt := inClass (top 17) 1
abbrev s_Wall_offset : Stmt := inClass (top 17) 2
abbrev s_Wall_holds : Stmt := inClass (top 17) 3
abbrev s_Wall_ends_at : Stmt := inClass (top 17) 4
abbrev s_Door___init__ : Stmt := inClass (top 21) 0
abbrev s__law_cell_at : Stmt := top 23
abbrev s__law_shared : Stmt := top 24
abbrev s__law_lean : Stmt := top 25
abbrev s__law_unit : Stmt := top 26
abbrev s__law_begin : Stmt := top 27
abbrev s__law_size : Stmt := top 28
abbrev s__law_made : Stmt := top 29
abbrev s__law_spot : Stmt := top 30
abbrev s__law_right : Stmt := top 31
abbrev s_law : Stmt := top 32
structure Ad where
  f_divisor : Addr
  fd_divisor : FuncData
  f_as_point : Addr
  fd_as_point : FuncData
  f_heading_of : Addr
  fd_heading_of : FuncData
  f_line_of : Addr
  fd_line_of : FuncData
  f_across : Addr
  fd_across : FuncData
  f_check_end : Addr
  fd_check_end : FuncData
  f_line_between : Addr
  fd_line_between : FuncData
  f_Wall___init__ : Addr
  fd_Wall___init__ : FuncData
  f_Wall_line : Addr
  fd_Wall_line : FuncData
  f_Wall_offset : Addr
  fd_Wall_offset : FuncData
  f_Wall_holds : Addr
  fd_Wall_holds : FuncData
  f_Wall_ends_at : Addr
  fd_Wall_ends_at : FuncData
  f_Door___init__ : Addr
  fd_Door___init__ : FuncData
  t_Door___init___0 : Tok
  f__law_cell_at : Addr
  fd__law_cell_at : FuncData
  f__law_shared : Addr
  fd__law_shared : FuncData
  f__law_lean : Addr
  fd__law_lean : FuncData
  f__law_unit : Addr
  fd__law_unit : FuncData
  f__law_begin : Addr
  fd__law_begin : FuncData
  f__law_size : Addr
  fd__law_size : FuncData
  f__law_made : Addr
  fd__law_made : FuncData
  f__law_spot : Addr
  fd__law_spot : FuncData
  f__law_right : Addr
  fd__law_right : FuncData
  f_law : Addr
  fd_law : FuncData
  c_NoWay : Addr
  c_BadWall : Addr
  c_Wall : Addr
  c_Mirror : Addr
  c_Glass : Addr
  c_Hole : Addr
  c_Door : Addr
  tk_FARTHEST : Tok
  tk_GREATEST_EVERY : Tok
structure DefT (K : PySem.W.Frag) (mg : Str → Option Value) (x q : Str) (st : Stmt) (f : Addr) (fd : FuncData) (ps : List Str) : Prop where
  F : Fun K x q st f fd
  m : mg x = some (.ref f)
  b : Binds K fd ps []
structure MetT (K : PySem.W.Frag) (x q : Str) (st : Stmt) (f : Addr) (fd : FuncData) (ps : List Str) : Prop where
  F : Fun K x q st f fd
  m : PySem.W.isFn K (.ref f) = true
  b : Binds K fd ps []
structure ObjT (K : PySem.W.Frag) (A : Ad) (C : Addr) : Prop where
  cl : Cls K C
  it : InsTy K C
  mm : PySem.W.makesIn K C = true
  kc : PySem.W.keepIn K (.ref C) = true
  nf_along : NoAttr K C "along"
  nf_one : NoAttr K C "one"
  nf_two : NoAttr K C "two"
  r_line : PySem.W.findIn K (.ref C) "line" = some (some (.ref A.f_Wall_line))
  r_offset : PySem.W.findIn K (.ref C) "offset" = some (some (.ref A.f_Wall_offset))
  r_holds : PySem.W.findIn K (.ref C) "holds" = some (some (.ref A.f_Wall_holds))
  r_ends_at : PySem.W.findIn K (.ref C) "ends_at" = some (some (.ref A.f_Wall_ends_at))
structure Txt (K : PySem.W.Frag) (mg : Str → Option Value) (A : Ad) : Prop where
  d_divisor : DefT K mg "divisor" "divisor" s_divisor A.f_divisor A.fd_divisor ["one", "other"]
  d_as_point : DefT K mg "as_point" "as_point" s_as_point A.f_as_point A.fd_as_point ["whole"]
  d_heading_of : DefT K mg "heading_of" "heading_of" s_heading_of A.f_heading_of A.fd_heading_of ["a", "b"]
  d_line_of : DefT K mg "line_of" "line_of" s_line_of A.f_line_of A.fd_line_of ["heading"]
  d_across : DefT K mg "across" "across" s_across A.f_across A.fd_across ["line", "x", "y"]
  d_check_end : DefT K mg "check_end" "check_end" s_check_end A.f_check_end A.fd_check_end ["end"]
  d_line_between : DefT K mg "line_between" "line_between" s_line_between A.f_line_between A.fd_line_between ["one", "two"]
  d_Wall___init__ : MetT K "__init__" "Wall.__init__" s_Wall___init__ A.f_Wall___init__ A.fd_Wall___init__ ["self", "one", "two"]
  d_Wall_line : MetT K "line" "Wall.line" s_Wall_line A.f_Wall_line A.fd_Wall_line ["self"]
  d_Wall_offset : MetT K "offset" "Wall.offset" s_Wall_offset A.f_Wall_offset A.fd_Wall_offset ["self"]
  d_Wall_holds : MetT K "holds" "Wall.holds" s_Wall_holds A.f_Wall_holds A.fd_Wall_holds ["self", "P"]
  d_Wall_ends_at : MetT K "ends_at" "Wall.ends_at" s_Wall_ends_at A.f_Wall_ends_at A.fd_Wall_ends_at ["self", "P"]
  F_Door___init__ : FunV K "__init__" "Door.__init__" s_Door___init__ A.f_Door___init__ A.fd_Door___init__
  i_Door___init__ : PySem.W.isFn K (.ref A.f_Door___init__) = true
  k_Door___init__ : PySem.W.keepIn K (.ref A.f_Door___init__) = true
  b_Door___init__ : Binds K A.fd_Door___init__ ["self", "one", "two", "every"] []
  b_Door___init___1 : Binds K A.fd_Door___init__ ["self", "one", "two", "every"] [.int 2 A.t_Door___init___0]
  d__law_cell_at : DefT K mg "_law_cell_at" "_law_cell_at" s__law_cell_at A.f__law_cell_at A.fd__law_cell_at ["_law_script", "_law_k"]
  d__law_shared : DefT K mg "_law_shared" "_law_shared" s__law_shared A.f__law_shared A.fd__law_shared ["_law_one", "_law_other"]
  d__law_lean : DefT K mg "_law_lean" "_law_lean" s__law_lean A.f__law_lean A.fd__law_lean ["_law_x", "_law_y", "_law_w"]
  d__law_unit : DefT K mg "_law_unit" "_law_unit" s__law_unit A.f__law_unit A.fd__law_unit ["_law_line"]
  d__law_begin : DefT K mg "_law_begin" "_law_begin" s__law_begin A.f__law_begin A.fd__law_begin ["_law_xs"]
  d__law_size : DefT K mg "_law_size" "_law_size" s__law_size A.f__law_size A.fd__law_size ["_law_xs", "_law_spot_here"]
  d__law_made : DefT K mg "_law_made" "_law_made" s__law_made A.f__law_made A.fd__law_made ["_law_cell", "_law_one", "_law_two"]
  d__law_spot : DefT K mg "_law_spot" "_law_spot" s__law_spot A.f__law_spot A.fd__law_spot ["_law_cell", "_law_one", "_law_line", "_law_size_here"]
  d__law_right : DefT K mg "_law_right" "_law_right" s__law_right A.f__law_right A.fd__law_right ["_law_shut", "_law_told"]
  d_law : DefT K mg "law" "law" s_law A.f_law A.fd_law ["_law_script"]
  z_abs : mg "abs" = none
  z_bool : mg "bool" = none
  z_int : mg "int" = none
  z_isinstance : mg "isinstance" = none
  z_len : mg "len" = none
  z_max : mg "max" = none
  z_min : mg "min" = none
  z_range : mg "range" = none
  g_FARTHEST : mg "FARTHEST" = some (.int 1000 A.tk_FARTHEST)
  g_GREATEST_EVERY : mg "GREATEST_EVERY" = some (.int 9 A.tk_GREATEST_EVERY)
  mc_NoWay : mg "NoWay" = some (.ref A.c_NoWay)
  mc_BadWall : mg "BadWall" = some (.ref A.c_BadWall)
  mc_Wall : mg "Wall" = some (.ref A.c_Wall)
  mc_Mirror : mg "Mirror" = some (.ref A.c_Mirror)
  mc_Glass : mg "Glass" = some (.ref A.c_Glass)
  mc_Hole : mg "Hole" = some (.ref A.c_Hole)
  mc_Door : mg "Door" = some (.ref A.c_Door)
  o_Mirror : ObjT K A A.c_Mirror
  r_Mirror___init__ : PySem.W.findIn K (.ref A.c_Mirror) "__init__" = some (some (.ref A.f_Wall___init__))
  o_Glass : ObjT K A A.c_Glass
  r_Glass___init__ : PySem.W.findIn K (.ref A.c_Glass) "__init__" = some (some (.ref A.f_Wall___init__))
  o_Hole : ObjT K A A.c_Hole
  r_Hole___init__ : PySem.W.findIn K (.ref A.c_Hole) "__init__" = some (some (.ref A.f_Wall___init__))
  o_Door : ObjT K A A.c_Door
  nf_Door_number : NoAttr K A.c_Door "number"
  r_Door___init__ : PySem.W.findIn K (.ref A.c_Door) "__init__" = some (some (.ref A.f_Door___init__))
  cm_Wall___init__ : CMeth K A.c_Wall "__init__" A.f_Wall___init__
  er_BadWall : Err K mg "BadWall" A.c_BadWall
  er_NoWay : Err K mg "NoWay" A.c_NoWay
  y0 : PySem.W.kitOne K (.ref A.c_Mirror) (.ref A.c_Wall) = some true
  y1 : PySem.W.kitOne K (.ref A.c_Glass) (.ref A.c_Wall) = some true
  y2 : PySem.W.kitOne K (.ref A.c_Hole) (.ref A.c_Wall) = some true
  y3 : PySem.W.kitOne K (.ref A.c_Door) (.ref A.c_Wall) = some true
theorem sc_divisor : FnScope ["one", "other", "left", "right", "rest"] ["one", "other"] (defScope s_divisor) := ⟨rfl, rfl, rfl, by decide +kernel, rfl, by decide +kernel, by decide +kernel⟩
theorem sc_as_point : FnScope ["whole"] ["whole"] (defScope s_as_point) := ⟨rfl, rfl, rfl, by decide +kernel, rfl, by decide +kernel, by decide +kernel⟩
theorem sc_heading_of : FnScope ["a", "b", "share"] ["a", "b"] (defScope s_heading_of) := ⟨rfl, rfl, rfl, by decide +kernel, rfl, by decide +kernel, by decide +kernel⟩
theorem sc_line_of : FnScope ["heading", "a", "b"] ["heading"] (defScope s_line_of) := ⟨rfl, rfl, rfl, by decide +kernel, rfl, by decide +kernel, by decide +kernel⟩
theorem sc_across : FnScope ["line", "x", "y"] ["line", "x", "y"] (defScope s_across) := ⟨rfl, rfl, rfl, by decide +kernel, rfl, by decide +kernel, by decide +kernel⟩
theorem sc_check_end : FnScope ["end", "number"] ["end"] (defScope s_check_end) := ⟨rfl, rfl, rfl, by decide +kernel, rfl, by decide +kernel, by decide +kernel⟩
theorem sc_line_between : FnScope ["one", "two", "line"] ["one", "two"] (defScope s_line_between) := ⟨rfl, rfl, rfl, by decide +kernel, rfl, by decide +kernel, by decide +kernel⟩
theorem sc_Wall___init__ : FnScope ["self", "one", "two"] ["self", "one", "two"] (defScope s_Wall___init__) := ⟨rfl, rfl, rfl, by decide +kernel, rfl, by decide +kernel, by decide +kernel⟩
theorem sc_Wall_line : FnScope ["self"] ["self"] (defScope s_Wall_line) := ⟨rfl, rfl, rfl, by decide +kernel, rfl, by decide +kernel, by decide +kernel⟩
theorem sc_Wall_offset : FnScope ["self"] ["self"] (defScope s_Wall_offset) := ⟨rfl, rfl, rfl, by decide +kernel, rfl, by decide +kernel, by decide +kernel⟩
theorem sc_Wall_holds : FnScope ["self", "P", "w", "spot"] ["self", "P"] (defScope s_Wall_holds) := ⟨rfl, rfl, rfl, by decide +kernel, rfl, by decide +kernel, by decide +kernel⟩
theorem sc_Wall_ends_at : FnScope ["self", "P"] ["self", "P"] (defScope s_Wall_ends_at) := ⟨rfl, rfl, rfl, by decide +kernel, rfl, by decide +kernel, by decide +kernel⟩
theorem sc_Door___init__ : FnScope ["self", "one", "two", "every"] ["self", "one", "two", "every"] (defScope s_Door___init__) := ⟨rfl, rfl, rfl, by decide +kernel, rfl, by decide +kernel, by decide +kernel⟩
theorem sc__law_cell_at : FnScope ["_law_script", "_law_k"] ["_law_script", "_law_k"] (defScope s__law_cell_at) := ⟨rfl, rfl, rfl, by decide +kernel, rfl, by decide +kernel, by decide +kernel⟩
theorem sc__law_shared : FnScope ["_law_one", "_law_other", "_law_high", "_law_low"] ["_law_one", "_law_other"] (defScope s__law_shared) := ⟨rfl, rfl, rfl, by decide +kernel, rfl, by decide +kernel, by decide +kernel⟩
theorem sc__law_lean : FnScope ["_law_x", "_law_y", "_law_w", "_law_by"] ["_law_x", "_law_y", "_law_w"] (defScope s__law_lean) := ⟨rfl, rfl, rfl, by decide +kernel, rfl, by decide +kernel, by decide +kernel⟩
theorem sc__law_unit : FnScope ["_law_line"] ["_law_line"] (defScope s__law_unit) := ⟨rfl, rfl, rfl, by decide +kernel, rfl, by decide +kernel, by decide +kernel⟩
theorem sc__law_begin : FnScope ["_law_xs", "_law_x", "_law_y"] ["_law_xs"] (defScope s__law_begin) := ⟨rfl, rfl, rfl, by decide +kernel, rfl, by decide +kernel, by decide +kernel⟩
theorem sc__law_size : FnScope ["_law_xs", "_law_spot_here", "_law_reach"] ["_law_xs", "_law_spot_here"] (defScope s__law_size) := ⟨rfl, rfl, rfl, by decide +kernel, rfl, by decide +kernel, by decide +kernel⟩
theorem sc__law_made : FnScope ["_law_cell", "_law_one", "_law_two", "_law_ends"] ["_law_cell", "_law_one", "_law_two"] (defScope s__law_made) := ⟨rfl, rfl, rfl, by decide +kernel, rfl, by decide +kernel, by decide +kernel⟩
theorem sc__law_spot : FnScope ["_law_cell", "_law_one", "_law_line", "_law_size_here", "_law_unit_here", "_law_number", "_law_bottom", "_law_along", "_law_off", "_law_x", "_law_y", "_law_on", "_law_at"] ["_law_cell", "_law_one", "_law_line", "_law_size_here"] (defScope s__law_spot) := ⟨rfl, rfl, rfl, by decide +kernel, rfl, by decide +kernel, by decide +kernel⟩
theorem sc__law_right : FnScope ["_law_shut", "_law_told", "_law_on", "_law_at"] ["_law_shut", "_law_told"] (defScope s__law_right) := ⟨rfl, rfl, rfl, by decide +kernel, rfl, by decide +kernel, by decide +kernel⟩
theorem sc_law : FnScope ["_law_script", "_law_xs", "_law_line", "_law_one", "_law_size_here", "_law_unit_here", "_law_two", "_law_shut", "_law_found", "_law_cell"] ["_law_script"] (defScope s_law) := ⟨rfl, rfl, rfl, by decide +kernel, rfl, by decide +kernel, by decide +kernel⟩
theorem inv_rTTiii_bb_ {R : Addr → Int → Int → Int → Bool → Bool → Prop} {C : List D → Prop} (k : ∀ v0 v1 v2 v3 v4 v5, R v0 v1 v2 v3 v4 v5 → C [.ref v0, .tup [.tup [.int v1, .int v2, .int v3], .bl v4, .bl v5]]) (ds : List D) (h : match ds with
    | [.ref v0, .tup [.tup [.int v1, .int v2, .int v3], .bl v4, .bl v5]] => R v0 v1 v2 v3 v4 v5
    | _ => False) : C ds := by
  cases ds with
  | nil => exact h.elim
  | cons d1 t1 =>
    cases d1 with
    | ref v0 =>
      cases t1 with
      | nil => exact h.elim
      | cons d2 t2 =>
        cases d2 with
        | tup t3 =>
          cases t3 with
          | nil => exact h.elim
          | cons d4 t4 =>
            cases d4 with
            | tup t5 =>
              cases t5 with
              | nil => exact h.elim
              | cons d6 t6 =>
                cases d6 with
                | int v1 =>
                  cases t6 with
                  | nil => exact h.elim
                  | cons d7 t7 =>
                    cases d7 with
                    | int v2 =>
                      cases t7 with
                      | nil => exact h.elim
                      | cons d8 t8 =>
                        cases d8 with
                        | int v3 =>
                          cases t8 with
                          | cons _ _ => exact h.elim
                          | nil =>
                            cases t4 with
                            | nil => exact h.elim
                            | cons d9 t9 =>
                              cases d9 with
                              | bl v4 =>
                                cases t9 with
                                | nil => exact h.elim
                                | cons d10 t10 =>
                                  cases d10 with
                                  | bl v5 =>
                                    cases t10 with
                                    | cons _ _ => exact h.elim
                                    | nil =>
                                      cases t2 with
                                      | cons _ _ => exact h.elim
                                      | nil =>
                                        exact k v0 v1 v2 v3 v4 v5 h
                                  | _ => exact h.elim
                              | _ => exact h.elim
                        | _ => exact h.elim
                    | _ => exact h.elim
                | _ => exact h.elim
            | _ => exact h.elim
        | _ => exact h.elim
    | _ => exact h.elim
def sh_ii (ds : List D) (R : Int → Int → Prop) : Prop := cL2 ds fun d0 d1 => cI d0 fun v0 => cI d1 fun v1 => R v0 v1
theorem sh_ii_eq {R : Int → Int → Prop} {v0 : Int} {v1 : Int} : sh_ii [.int v0, .int v1] R = R v0 v1 := rfl
theorem inv_ii {R : Int → Int → Prop} {C : List D → Prop} (k : ∀ v0 v1, R v0 v1 → C [.int v0, .int v1]) (ds : List D) (h : sh_ii ds R) : C ds :=
  cL2_inv (fun d0 d1 h => cI_inv (C := fun d => C [d, d1]) (fun v0 h => cI_inv (C := fun d => C [.int v0, d]) (fun v1 h => k v0 v1 h) d1 h) d0 h) ds h
def sh_i (ds : List D) (R : Int → Prop) : Prop := cL1 ds fun d0 => cI d0 fun v0 => R v0
theorem sh_i_eq {R : Int → Prop} {v0 : Int} : sh_i [.int v0] R = R v0 := rfl
theorem inv_i {R : Int → Prop} {C : List D → Prop} (k : ∀ v0, R v0 → C [.int v0]) (ds : List D) (h : sh_i ds R) : C ds :=
  cL1_inv (fun d0 h => cI_inv (C := fun d => C [d]) (fun v0 h => k v0 h) d0 h) ds h
def sh_r (ds : List D) (R : Addr → Prop) : Prop := cL1 ds fun d0 => cR d0 fun v0 => R v0
theorem sh_r_eq {R : Addr → Prop} {v0 : Addr} : sh_r [.ref v0] R = R v0 := rfl
theorem inv_r {R : Addr → Prop} {C : List D → Prop} (k : ∀ v0, R v0 → C [.ref v0]) (ds : List D) (h : sh_r ds R) : C ds :=
  cL1_inv (fun d0 h => cR_inv (C := fun d => C [d]) (fun v0 h => k v0 h) d0 h) ds h
def sh_rP (ds : List D) (R : Addr → Int → Int → Prop) : Prop := cL2 ds fun d0 d1 => cR d0 fun v0 => cT2 d1 fun v1 v2 => R v0 v1 v2
theorem sh_rP_eq {R : Addr → Int → Int → Prop} {v0 : Addr} {v1 : Int} {v2 : Int} : sh_rP [.ref v0, .tup [.int v1, .int v2]] R = R v0 v1 v2 := rfl
theorem inv_rP {R : Addr → Int → Int → Prop} {C : List D → Prop} (k : ∀ v0 v1 v2, R v0 v1 v2 → C [.ref v0, .tup [.int v1, .int v2]]) (ds : List D) (h : sh_rP ds R) : C ds :=
  cL2_inv (fun d0 d1 h => cR_inv (C := fun d => C [d, d1]) (fun v0 h => cT2_inv (C := fun d => C [.ref v0, d]) (fun v1 v2 h => k v0 v1 v2 h) d1 h) d0 h) ds h
def sh_iii (ds : List D) (R : Int → Int → Int → Prop) : Prop := cL3 ds fun d0 d1 d2 => cI d0 fun v0 => cI d1 fun v1 => cI d2 fun v2 => R v0 v1 v2
theorem sh_iii_eq {R : Int → Int → Int → Prop} {v0 : Int} {v1 : Int} {v2 : Int} : sh_iii [.int v0, .int v1, .int v2] R = R v0 v1 v2 := rfl
theorem inv_iii {R : Int → Int → Int → Prop} {C : List D → Prop} (k : ∀ v0 v1 v2, R v0 v1 v2 → C [.int v0, .int v1, .int v2]) (ds : List D) (h : sh_iii ds R) : C ds :=
  cL3_inv (fun d0 d1 d2 h => cI_inv (C := fun d => C [d, d1, d2]) (fun v0 h => cI_inv (C := fun d => C [.int v0, d, d2]) (fun v1 h => cI_inv (C := fun d => C [.int v0, .int v1, d]) (fun v2 h => k v0 v1 v2 h) d2 h) d1 h) d0 h) ds h
def sh_iPii (ds : List D) (R : Int → Int → Int → Int → Int → Prop) : Prop := cL4 ds fun d0 d1 d2 d3 => cI d0 fun v0 => cT2 d1 fun v1 v2 => cI d2 fun v3 => cI d3 fun v4 => R v0 v1 v2 v3 v4
theorem sh_iPii_eq {R : Int → Int → Int → Int → Int → Prop} {v0 : Int} {v1 : Int} {v2 : Int} {v3 : Int} {v4 : Int} : sh_iPii [.int v0, .tup [.int v1, .int v2], .int v3, .int v4] R = R v0 v1 v2 v3 v4 := rfl
theorem inv_iPii {R : Int → Int → Int → Int → Int → Prop} {C : List D → Prop} (k : ∀ v0 v1 v2 v3 v4, R v0 v1 v2 v3 v4 → C [.int v0, .tup [.int v1, .int v2], .int v3, .int v4]) (ds : List D) (h : sh_iPii ds R) : C ds :=
  cL4_inv (fun d0 d1 d2 d3 h => cI_inv (C := fun d => C [d, d1, d2, d3]) (fun v0 h => cT2_inv (C := fun d => C [.int v0, d, d2, d3]) (fun v1 v2 h => cI_inv (C := fun d => C [.int v0, .tup [.int v1, .int v2], d, d3]) (fun v3 h => cI_inv (C := fun d => C [.int v0, .tup [.int v1, .int v2], .int v3, d]) (fun v4 h => k v0 v1 v2 v3 v4 h) d3 h) d2 h) d1 h) d0 h) ds h
def sh_P (ds : List D) (R : Int → Int → Prop) : Prop := cL1 ds fun d0 => cT2 d0 fun v0 v1 => R v0 v1
theorem sh_P_eq {R : Int → Int → Prop} {v0 : Int} {v1 : Int} : sh_P [.tup [.int v0, .int v1]] R = R v0 v1 := rfl
theorem inv_P {R : Int → Int → Prop} {C : List D → Prop} (k : ∀ v0 v1, R v0 v1 → C [.tup [.int v0, .int v1]]) (ds : List D) (h : sh_P ds R) : C ds :=
  cL1_inv (fun d0 h => cT2_inv (C := fun d => C [d]) (fun v0 v1 h => k v0 v1 h) d0 h) ds h
def sh_PP (ds : List D) (R : Int → Int → Int → Int → Prop) : Prop := cL2 ds fun d0 d1 => cT2 d0 fun v0 v1 => cT2 d1 fun v2 v3 => R v0 v1 v2 v3
theorem sh_PP_eq {R : Int → Int → Int → Int → Prop} {v0 : Int} {v1 : Int} {v2 : Int} {v3 : Int} : sh_PP [.tup [.int v0, .int v1], .tup [.int v2, .int v3]] R = R v0 v1 v2 v3 := rfl
theorem inv_PP {R : Int → Int → Int → Int → Prop} {C : List D → Prop} (k : ∀ v0 v1 v2 v3, R v0 v1 v2 v3 → C [.tup [.int v0, .int v1], .tup [.int v2, .int v3]]) (ds : List D) (h : sh_PP ds R) : C ds :=
  cL2_inv (fun d0 d1 h => cT2_inv (C := fun d => C [d, d1]) (fun v0 v1 h => cT2_inv (C := fun d => C [.tup [.int v0, .int v1], d]) (fun v2 v3 h => k v0 v1 v2 v3 h) d1 h) d0 h) ds h
def sh_rPP (ds : List D) (R : Addr → Int → Int → Int → Int → Prop) : Prop := cL3 ds fun d0 d1 d2 => cR d0 fun v0 => cT2 d1 fun v1 v2 => cT2 d2 fun v3 v4 => R v0 v1 v2 v3 v4
theorem sh_rPP_eq {R : Addr → Int → Int → Int → Int → Prop} {v0 : Addr} {v1 : Int} {v2 : Int} {v3 : Int} {v4 : Int} : sh_rPP [.ref v0, .tup [.int v1, .int v2], .tup [.int v3, .int v4]] R = R v0 v1 v2 v3 v4 := rfl
theorem inv_rPP {R : Addr → Int → Int → Int → Int → Prop} {C : List D → Prop} (k : ∀ v0 v1 v2 v3 v4, R v0 v1 v2 v3 v4 → C [.ref v0, .tup [.int v1, .int v2], .tup [.int v3, .int v4]]) (ds : List D) (h : sh_rPP ds R) : C ds :=
  cL3_inv (fun d0 d1 d2 h => cR_inv (C := fun d => C [d, d1, d2]) (fun v0 h => cT2_inv (C := fun d => C [.ref v0, d, d2]) (fun v1 v2 h => cT2_inv (C := fun d => C [.ref v0, .tup [.int v1, .int v2], d]) (fun v3 v4 h => k v0 v1 v2 v3 v4 h) d2 h) d1 h) d0 h) ds h
def sh_rPPi (ds : List D) (R : Addr → Int → Int → Int → Int → Int → Prop) : Prop := cL4 ds fun d0 d1 d2 d3 => cR d0 fun v0 => cT2 d1 fun v1 v2 => cT2 d2 fun v3 v4 => cI d3 fun v5 => R v0 v1 v2 v3 v4 v5
theorem sh_rPPi_eq {R : Addr → Int → Int → Int → Int → Int → Prop} {v0 : Addr} {v1 : Int} {v2 : Int} {v3 : Int} {v4 : Int} {v5 : Int} : sh_rPPi [.ref v0, .tup [.int v1, .int v2], .tup [.int v3, .int v4], .int v5] R = R v0 v1 v2 v3 v4 v5 := rfl
theorem inv_rPPi {R : Addr → Int → Int → Int → Int → Int → Prop} {C : List D → Prop} (k : ∀ v0 v1 v2 v3 v4 v5, R v0 v1 v2 v3 v4 v5 → C [.ref v0, .tup [.int v1, .int v2], .tup [.int v3, .int v4], .int v5]) (ds : List D) (h : sh_rPPi ds R) : C ds :=
  cL4_inv (fun d0 d1 d2 d3 h => cR_inv (C := fun d => C [d, d1, d2, d3]) (fun v0 h => cT2_inv (C := fun d => C [.ref v0, d, d2, d3]) (fun v1 v2 h => cT2_inv (C := fun d => C [.ref v0, .tup [.int v1, .int v2], d, d3]) (fun v3 v4 h => cI_inv (C := fun d => C [.ref v0, .tup [.int v1, .int v2], .tup [.int v3, .int v4], d]) (fun v5 h => k v0 v1 v2 v3 v4 v5 h) d3 h) d2 h) d1 h) d0 h) ds h
def sh_rQ (ds : List D) (R : Addr → Int → Int → Int → Prop) : Prop := cL2 ds fun d0 d1 => cR d0 fun v0 => cT3 d1 fun v1 v2 v3 => R v0 v1 v2 v3
theorem sh_rQ_eq {R : Addr → Int → Int → Int → Prop} {v0 : Addr} {v1 : Int} {v2 : Int} {v3 : Int} : sh_rQ [.ref v0, .tup [.int v1, .int v2, .int v3]] R = R v0 v1 v2 v3 := rfl
theorem inv_rQ {R : Addr → Int → Int → Int → Prop} {C : List D → Prop} (k : ∀ v0 v1 v2 v3, R v0 v1 v2 v3 → C [.ref v0, .tup [.int v1, .int v2, .int v3]]) (ds : List D) (h : sh_rQ ds R) : C ds :=
  cL2_inv (fun d0 d1 h => cR_inv (C := fun d => C [d, d1]) (fun v0 h => cT3_inv (C := fun d => C [.ref v0, d]) (fun v1 v2 v3 h => k v0 v1 v2 v3 h) d1 h) d0 h) ds h
def sh_iPP (ds : List D) (R : Int → Int → Int → Int → Int → Prop) : Prop := cL3 ds fun d0 d1 d2 => cI d0 fun v0 => cT2 d1 fun v1 v2 => cT2 d2 fun v3 v4 => R v0 v1 v2 v3 v4
theorem sh_iPP_eq {R : Int → Int → Int → Int → Int → Prop} {v0 : Int} {v1 : Int} {v2 : Int} {v3 : Int} {v4 : Int} : sh_iPP [.int v0, .tup [.int v1, .int v2], .tup [.int v3, .int v4]] R = R v0 v1 v2 v3 v4 := rfl
theorem inv_iPP {R : Int → Int → Int → Int → Int → Prop} {C : List D → Prop} (k : ∀ v0 v1 v2 v3 v4, R v0 v1 v2 v3 v4 → C [.int v0, .tup [.int v1, .int v2], .tup [.int v3, .int v4]]) (ds : List D) (h : sh_iPP ds R) : C ds :=
  cL3_inv (fun d0 d1 d2 h => cI_inv (C := fun d => C [d, d1, d2]) (fun v0 h => cT2_inv (C := fun d => C [.int v0, d, d2]) (fun v1 v2 h => cT2_inv (C := fun d => C [.int v0, .tup [.int v1, .int v2], d]) (fun v3 v4 h => k v0 v1 v2 v3 v4 h) d2 h) d1 h) d0 h) ds h

theorem gkept {G : GHp} {p p1 : Addr} {o o1 : OD} (h : gupd G p o p1 = none) : gupd (gupd G p o) p1 o1 p = some o := by
  rw [gupd_ne (fun e => by rw [← e, gupd_same] at h; cases h), gupd_same]
theorem fits_of {n : Nat} (h : n ≤ 1000) : Fits n := ⟨Nat.le_trans h (by decide)⟩
theorem sz_line {n : Nat} (h : n ≤ 1000) : Fits n ↔ True := ⟨fun _ => trivial, fun _ => ⟨Nat.le_trans h (by decide)⟩⟩
theorem at0 {x : D} {xs : List D} : atI (x :: xs) 0 = some x := atI_nat (j := 0) rfl
theorem at1 {x y : D} {xs : List D} : atI (x :: y :: xs) 1 = some y := atI_nat (j := 1) rfl
theorem at2 {x y z : D} {xs : List D} : atI (x :: y :: z :: xs) 2 = some z := atI_nat (j := 2) rfl
theorem at3 {x y z u : D} {xs : List D} : atI (x :: y :: z :: u :: xs) 3 = some u := atI_nat (j := 3) rfl
theorem at4 {x y z u v : D} {xs : List D} : atI (x :: y :: z :: u :: v :: xs) 4 = some v := atI_nat (j := 4) rfl
theorem at5 {x0 x1 x2 x3 x4 v : D} {xs : List D} : atI (x0 :: x1 :: x2 :: x3 :: x4 :: v :: xs) 5 = some v := atI_nat (j := 5) rfl
theorem whileW {c : TTD} {tb : TSD} {E : EndsD} {σd : StD} {G : GHp} (W : Nat → StD → GHp → Prop) (m : Nat) (h0 : W m σd G)
    (hs : ∀ m σd G, W m σd G → c σd G fun b G1 => if b = true then ∃ N : StD → GHp → Prop, (∀ σ' G', N σ' G' → ∃ m', m' < m ∧ W m' σ' G') ∧ tb { E with nx := N, ct := N, bk := E.nx } σd G1 else E.nx σd G1) : dWhile c tb E σd G := ⟨W, ⟨m, h0⟩, hs⟩
theorem gcd_turn {l r : Int} (h : 0 < r) (h0 : 0 ≤ l) : Int.gcd r (l % r) = Int.gcd l r := by
  obtain ⟨a, rfl⟩ := Int.eq_ofNat_of_zero_le h0
  obtain ⟨b, rfl⟩ := Int.eq_ofNat_of_zero_le (Int.le_of_lt h)
  show Int.gcd ((b : Nat) : Int) (((a : Nat) : Int) % ((b : Nat) : Int)) = _
  rw [← Int.natCast_emod]
  simp only [Int.gcd_natCast_natCast]
  rw [Nat.gcd_comm a b, Nat.gcd_comm b (a % b), ← Nat.gcd_rec]
theorem gcd_done (l : Int) (h : 0 ≤ l) : ((Int.gcd l 0 : Nat) : Int) = l := by
  simp; omega
theorem gcd_abs (a b : Int) : Int.gcd (absI a) (absI b) = Int.gcd a b := by
  unfold absI
  split <;> split <;> simp
theorem absI_nn (a : Int) : 0 ≤ absI a := by unfold absI; split <;> omega
theorem gcd_pos {a b : Int} (h : ¬ (a = 0 ∧ b = 0)) : 0 < ((Int.gcd a b : Nat) : Int) := by
  have := mt Int.gcd_eq_zero_iff.mp h
  omega
theorem gcd_le {a b : Int} {N : Nat} (ha : a.natAbs < N) (hb : b.natAbs < N) : ((Int.gcd a b : Nat) : Int).natAbs < N := by
  by_cases h : a = 0
  · subst h; simp; omega
  · have : Int.gcd a b ≤ a.natAbs := Nat.le_of_dvd (by omega) (by rw [← Int.natAbs_natCast (Int.gcd a b)]; exact Int.natAbs_dvd_natAbs.mpr (Int.gcd_dvd_left a b))
    simp; omega
/-- the size of a number, in bits -/
structure Sz (m : Nat) (x : Int) : Prop where
  lt : x.natAbs < 2 ^ m
theorem mulOk {a b : Int} {m n : Nat} (ha : Sz m a) (hb : Sz n b) (h : m + n ≤ 134217728) : MulOk a b := ⟨IntMulOk.of_le (intBits_le_iff.mpr ha.lt) (intBits_le_iff.mpr hb.lt) h⟩
theorem Sz.mul {a b : Int} {m n : Nat} (ha : Sz m a) (hb : Sz n b) : Sz (m + n) (a * b) := ⟨intBits_le_iff.mp (intBits_mul_le (intBits_le_iff.mpr ha.lt) (intBits_le_iff.mpr hb.lt))⟩
theorem Sz.mono {a : Int} {m n : Nat} (ha : Sz m a) (h : m ≤ n) : Sz n a := ⟨Nat.lt_of_lt_of_le ha.lt (Nat.pow_le_pow_right (by decide) h)⟩
theorem Sz.of {z : Int} {m : Nat} (N : Nat) (h : N < 2 ^ m) (h1 : -(N : Int) ≤ z) (h2 : z ≤ N) : Sz m z := ⟨by omega⟩
theorem Sz.mod {a c : Int} {m : Nat} (hc : 0 < c) (h : Sz m c) : Sz m (a % c) := by
  have h1 := Int.emod_nonneg a (by omega : c ≠ 0)
  have h2 := Int.emod_lt_of_pos a hc
  have h3 : c.natAbs < 2 ^ m := h.lt
  exact ⟨by omega⟩
theorem Sz.sub {a b : Int} {m : Nat} (ha : Sz m a) (hb : Sz m b) : Sz (m + 1) (a - b) := by
  have := intBits_le_iff.mp (intBits_sub_le (intBits_le_iff.mpr ha.lt) (intBits_le_iff.mpr hb.lt))
  rw [Nat.max_self] at this
  exact ⟨this⟩
theorem Sz.add {a b : Int} {m : Nat} (ha : Sz m a) (hb : Sz m b) : Sz (m + 1) (a + b) := by
  have := intBits_le_iff.mp (intBits_add_le (intBits_le_iff.mpr ha.lt) (intBits_le_iff.mpr hb.lt))
  rw [Nat.max_self] at this
  exact ⟨this⟩
theorem Sz.gcd {a b : Int} {m : Nat} (ha : Sz m a) (hb : Sz m b) : Sz m (Int.gcd a b : Nat) := ⟨gcd_le ha.lt hb.lt⟩
/-- what is asked of written numbers -/
theorem divP_lit {i j : Int} (h0 : 0 < j) (h1 : j < 1000000) : CDivP i j ↔ True := ⟨fun _ => trivial, fun _ => ⟨h0, Nat.lt_of_lt_of_le (by omega : j.natAbs < 2 ^ 20) (Nat.pow_le_pow_right (by decide) (by decide))⟩⟩
theorem divP_of {i j : Int} {m : Nat} (h0 : 0 < j) (h : Sz m j) (hm : m ≤ 9000) : CDivP i j := ⟨h0, (h.mono hm).lt⟩
theorem pow_lit {i j : Int} (h0 : 0 ≤ j) (h1 : j ≤ 1000) (h2 : 0 ≤ i) (h3 : i < 1000000) : PowOk i j ↔ True := ⟨fun _ => trivial, fun _ => ⟨h0, by omega, by
  have : i.natAbs < 1000000 := by omega
  exact Nat.lt_of_lt_of_le this (by decide)⟩⟩
theorem mul_lit {i j : Int} (h0 : -1000000 < j) (h1 : j < 1000000) : MulOk i j ↔ True := ⟨fun _ => trivial, fun _ => ⟨IntMulOk.of_right (intBits_le_64 (by omega) (by omega))⟩⟩
theorem mul_litB {i j : Int} (h0 : -10000000000000000000000000000000000000000000000000000000000000000000000000000000000000000000000000000000000000000000000000000000000 < i) (h1 : i < 10000000000000000000000000000000000000000000000000000000000000000000000000000000000000000000000000000000000000000000000000000000000) (h2 : -10000000000000000000000000000000000000000000000000000000000000000000000000000000000000000000000000000000000000000000000000000000000 < j) (h3 : j < 10000000000000000000000000000000000000000000000000000000000000000000000000000000000000000000000000000000000000000000000000000000000) : MulOk i j ↔ True := ⟨fun _ => trivial, fun _ => mulOk (m := 500) (n := 500) (Sz.of 10000000000000000000000000000000000000000000000000000000000000000000000000000000000000000000000000000000000000000000000000000000000 (by decide +kernel) (by omega) (by omega)) (Sz.of 10000000000000000000000000000000000000000000000000000000000000000000000000000000000000000000000000000000000000000000000000000000000 (by decide +kernel) (by omega) (by omega)) (by decide)⟩
theorem mul_litL {i j : Int} (h0 : -1000000 < i) (h1 : i < 1000000) : MulOk i j ↔ True := ⟨fun _ => trivial, fun _ => ⟨IntMulOk.of_left (intBits_le_64 (by omega) (by omega))⟩⟩
theorem Sz.lit {m : Nat} {x : Int} (h : decide (x.natAbs < 2 ^ m) = true) : Sz m x := ⟨of_decide_eq_true h⟩
/-- cells: a list of ints, read at a place -/
theorem at_ints {cs : List Int} {i : Int} (h0 : 0 ≤ i) (h1 : i < cs.length) : atI (cs.map D.int) i = some (D.int (cs.getD i.toNat 0)) := by
  have hn : i.toNat < cs.length := by omega
  have e : (cs.map D.int)[i.toNat]? = some (D.int (cs.getD i.toNat 0)) := by
    rw [List.getElem?_map, List.getElem?_eq_getElem hn]
    simp [List.getD, hn]
  have e2 : ((i.toNat : Nat) : Int) = i := by omega
  have := atI_nat e
  rw [e2] at this
  exact this
theorem rng_at {lo c : Int} {n i : Nat} {d : D} (h : (rngD lo c n)[i]? = some d) : d = .int (lo + i * c) ∧ i < n := by
  have hlt : i < n := by
    have := (List.getElem?_eq_some_iff.mp h).1
    simpa [rngD] using this
  refine ⟨?_, hlt⟩
  unfold rngD at h
  rw [List.getElem?_map, List.getElem?_range hlt] at h
  exact (Option.some.inj h).symm
theorem cutD_ints (ns : List Int) (lo hi : Option Int) : ∃ cs : List Int, cutD (ns.map D.int) lo hi = cs.map D.int ∧ cs.length ≤ ns.length ∧ ∀ c ∈ cs, c ∈ ns := by
  refine ⟨(ns.drop (HT.sIx (ns.map D.int).length 0 lo)).take (HT.sIx (ns.map D.int).length (ns.map D.int).length hi - HT.sIx (ns.map D.int).length 0 lo), ?_, ?_, fun c hc => List.mem_of_mem_drop (List.mem_of_mem_take hc)⟩
  · unfold cutD
    rw [List.map_take, List.map_drop]
  · rw [List.length_take, List.length_drop]; omega

def sp_divisor : SpD := fun ds G Q => sh_ii ds fun a b => ∀ G', GS G G' → Q (.int (Int.gcd a b : Nat)) G'





theorem le_of_dvd_sz {a b : Int} {m : Nat} (hb : b ≠ 0) (h : a ∣ b) (hs : Sz m b) : Sz m a :=
  ⟨Nat.lt_of_le_of_lt (Nat.le_of_dvd (by omega) (Int.natAbs_dvd_natAbs.mpr h)) hs.lt⟩
theorem fdiv_of_dvd {g x : Int} (hg : g ≠ 0) : (g * x).fdiv g = x := by
  rw [Int.mul_comm]
  exact Int.mul_fdiv_cancel x hg
/-- a', b', c' are a, b, c in lowest terms, the last one above 0 -/
structure Red3 (a b c a' b' c' : Int) : Prop where
  pos : 0 < c'
  one : Int.gcd (Int.gcd a' b' : Nat) c' = 1
  s1 : a' * c = a * c'
  s2 : b' * c = b * c'
theorem gcd3_dvd {a b c d : Int} (h : Int.gcd (Int.gcd a b : Nat) c = 1) (h1 : c ∣ a * d) (h2 : c ∣ b * d) : c ∣ d := by
  have n1 : c.natAbs ∣ a.natAbs * d.natAbs := by rw [← Int.natAbs_mul]; exact Int.natAbs_dvd_natAbs.mpr h1
  have n2 : c.natAbs ∣ b.natAbs * d.natAbs := by rw [← Int.natAbs_mul]; exact Int.natAbs_dvd_natAbs.mpr h2
  have n3 : c.natAbs ∣ c.natAbs * d.natAbs := ⟨d.natAbs, rfl⟩
  have n4 : c.natAbs ∣ Nat.gcd (Nat.gcd a.natAbs b.natAbs) c.natAbs * d.natAbs := by
    rw [← Nat.gcd_mul_right, ← Nat.gcd_mul_right]
    exact Nat.dvd_gcd (Nat.dvd_gcd n1 n2) n3
  have e : Nat.gcd (Nat.gcd a.natAbs b.natAbs) c.natAbs = 1 := h
  rw [e, Nat.one_mul] at n4
  exact Int.natAbs_dvd_natAbs.mp n4
theorem Red3.dvd {a b c a' b' c' : Int} (h : Red3 a b c a' b' c') : c' ∣ c := gcd3_dvd h.one ⟨a, by rw [h.s1, Int.mul_comm]⟩ ⟨b, by rw [h.s2, Int.mul_comm]⟩
theorem Red3.szc {a b c a' b' c' : Int} {m : Nat} (h : Red3 a b c a' b' c') (hc : c ≠ 0) (hs : Sz m c) : Sz m c' := le_of_dvd_sz hc h.dvd hs
theorem quot_sz {a c a' c' : Int} {m : Nat} (hd : c' ∣ c) (hc : c ≠ 0) (h0 : 0 < c') (e : a' * c = a * c') (hs : Sz m a) : Sz m a' := by
  obtain ⟨q, hq⟩ := hd
  have hq0 : q ≠ 0 := fun z => hc (by rw [hq, z, Int.mul_zero])
  have e2 : a = a' * q := by
    have : a * c' = (a' * q) * c' := by rw [← e, hq]; grind
    exact Int.eq_of_mul_eq_mul_right (by omega) this
  by_cases ha : a = 0
  · have : a' = 0 := by
      have z : a' * q = 0 := by rw [← e2]; exact ha
      rcases Int.mul_eq_zero.mp z with z | z
      · exact z
      · exact absurd z hq0
    rw [this]
    exact ⟨Nat.two_pow_pos m⟩
  · exact le_of_dvd_sz ha ⟨q, e2⟩ hs
theorem Red3.sza {a b c a' b' c' : Int} {m : Nat} (h : Red3 a b c a' b' c') (hc : c ≠ 0) (hs : Sz m a) : Sz m a' := quot_sz h.dvd hc h.pos h.s1 hs
theorem Red3.szb {a b c a' b' c' : Int} {m : Nat} (h : Red3 a b c a' b' c') (hc : c ≠ 0) (hs : Sz m b) : Sz m b' := quot_sz h.dvd hc h.pos h.s2 hs
/-- by a share g of all three, and the last one's sign -/
theorem red3_by {a b c : Int} {g : Nat} (hg : g = Int.gcd (Int.gcd a b : Nat) c) (hc : c ≠ 0) {s : Int} (hs : s = if c < 0 then -(g : Int) else (g : Int)) : Red3 a b c (a.fdiv s) (b.fdiv s) (c.fdiv s) := by
  have g0 : 0 < g := by
    rw [hg]
    exact Nat.pos_of_ne_zero fun z => hc (Int.gcd_eq_zero_iff.mp z).2
  have dg : (g : Int) ∣ (Int.gcd a b : Nat) := by rw [hg]; exact Int.gcd_dvd_left _ _
  have da : (g : Int) ∣ a := Int.dvd_trans dg (Int.gcd_dvd_left a b)
  have db : (g : Int) ∣ b := Int.dvd_trans dg (Int.gcd_dvd_right a b)
  have dc : (g : Int) ∣ c := by rw [hg]; exact Int.gcd_dvd_right _ _
  obtain ⟨x, hx⟩ := da
  obtain ⟨y, hy⟩ := db
  obtain ⟨z, hz⟩ := dc
  have one : Nat.gcd (Nat.gcd x.natAbs y.natAbs) z.natAbs = 1 := by
    have e : g = Nat.gcd (Nat.gcd (g * x.natAbs) (g * y.natAbs)) (g * z.natAbs) := by
      have ea : a.natAbs = g * x.natAbs := by rw [hx, Int.natAbs_mul]; simp
      have eb : b.natAbs = g * y.natAbs := by rw [hy, Int.natAbs_mul]; simp
      have ec : c.natAbs = g * z.natAbs := by rw [hz, Int.natAbs_mul]; simp
      rw [← ea, ← eb, ← ec]
      exact hg
    rw [Nat.gcd_mul_left, Nat.gcd_mul_left] at e
    have e' : g * 1 = g * Nat.gcd (Nat.gcd x.natAbs y.natAbs) z.natAbs := by rw [Nat.mul_one]; exact e
    exact (Nat.eq_of_mul_eq_mul_left g0 e').symm
  have gi : (0 : Int) < g := by omega
  by_cases hneg : c < 0
  · rw [if_pos hneg] at hs
    have f : ∀ u v : Int, u = g * v → u.fdiv s = -v := fun u v e => by
      rw [hs, e, show (g : Int) * v = (-(g : Int)) * (-v) by grind]
      exact fdiv_of_dvd (by omega)
    rw [f a x hx, f b y hy, f c z hz]
    refine ⟨?_, ?_, by rw [hx, hz]; grind, by rw [hy, hz]; grind⟩
    · have h0 : 0 < (g : Int) * (-z) := by
        have : (g : Int) * (-z) = -c := by rw [hz]; grind
        omega
      exact Int.pos_of_mul_pos_right h0 (by omega)
    · show Nat.gcd (Nat.gcd (-x).natAbs (-y).natAbs) (-z).natAbs = 1
      rw [Int.natAbs_neg, Int.natAbs_neg, Int.natAbs_neg]
      exact one
  · rw [if_neg hneg] at hs
    have f : ∀ u v : Int, u = g * v → u.fdiv s = v := fun u v e => by
      rw [hs, e]
      exact fdiv_of_dvd (by omega)
    rw [f a x hx, f b y hy, f c z hz]
    refine ⟨?_, one, by rw [hx, hz]; grind, by rw [hy, hz]; grind⟩
    have h0 : 0 < (g : Int) * z := by rw [← hz]; omega
    exact Int.pos_of_mul_pos_right h0 (by omega)





def sp_cell : SpD := fun ds G Q => match ds with
  | [.rl xs, .int k] => ∃ ns : List Int, xs = ns.map D.int ∧ 0 ≤ k ∧ Q (.int (ns.getD k.toNat 0)) G
  | [.ref p, .int k] => ∃ ns : List Int, G p = some (.lst (ns.map D.int)) ∧ 0 ≤ k ∧ Q (.int (ns.getD k.toNat 0)) G
  | _ => False
def unitX (l : Int) : Int := if l = 2 then 0 else 1
def unitY (l : Int) : Int := if l = 0 then 0 else if l = 3 then -1 else 1
def sp_unit : SpD := fun ds G Q => sh_i ds fun l => (0 ≤ l ∧ l < 4) ∧ ∀ G', GS G G' → Q (.tup [.int (unitX l), .int (unitY l)]) G'

/-- a begin from which a wall along the line l fits within 1000 -/
structure BeginOk (l x y : Int) : Prop where
  x0 : -1000 ≤ x
  x1 : x ≤ 999
  y0 : -1000 ≤ y
  y1 : y ≤ 1000
  up : l ≠ 3 → y ≤ 999
  dn : l = 3 → -999 ≤ y
def sp_begin : SpD := fun ds G Q => sh_r ds fun p => ∃ cs : List Int, G p = some (.lst (cs.map D.int)) ∧ 3 < cs.length ∧ ∀ x y, BeginOk (cs.getD 0 0 % 4) x y → Q (.tup [.int x, .int y]) G

def sp_size : SpD := fun ds G Q => sh_rP ds fun p x y => ∃ cs : List Int, G p = some (.lst (cs.map D.int)) ∧ 3 < cs.length ∧ BeginOk (cs.getD 0 0 % 4) x y ∧
      ∀ n G', GS G G' → 1 ≤ n → n ≤ 2000 → x + n * unitX (cs.getD 0 0 % 4) ≤ 1000 → y + n * unitY (cs.getD 0 0 % 4) ≤ 1000 → -1000 ≤ y + n * unitY (cs.getD 0 0 % 4) → Q (.int n) G'
def sp_lean : SpD := fun ds G Q => sh_iii ds fun x y w => (0 < w ∧ Sz 8000 x ∧ Sz 8000 y ∧ Sz 8000 w) ∧ ∀ x' y' w' G', Red3 x y w x' y' w' → GS G G' → Q (.tup [.int x', .int y', .int w']) G'

theorem red3_lean {x y w : Int} (hw : 0 < w) : Red3 x y w (x / (Int.gcd w (Int.gcd x y : Nat) : Nat)) (y / (Int.gcd w (Int.gcd x y : Nat) : Nat)) (w / (Int.gcd w (Int.gcd x y : Nat) : Nat)) := by
  have h := red3_by (a := x) (b := y) (c := w) (g := Int.gcd w (Int.gcd x y : Nat)) (Int.gcd_comm _ _) (by omega) (s := ((Int.gcd w (Int.gcd x y : Nat) : Nat) : Int)) (by rw [if_neg (by omega)])
  simpa only [Int.fdiv_eq_ediv_of_nonneg _ (Int.natCast_nonneg _)] using h
/-- a point told with what it is to the wall from (a, b) along the line l, n long -/
structure SpotOk (a b l n x y w : Int) (on at_ : Bool) : Prop where
  ex : ∃ bt s off : Int, 0 < bt ∧ Red3 (a * bt + s * unitX l + (if l = 2 then off else 0)) (b * bt + s * unitY l + (if l = 2 then 0 else off)) bt x y w ∧ (on = true ↔ off = 0 ∧ 0 ≤ s ∧ s ≤ n * bt) ∧ (at_ = true ↔ off = 0 ∧ (s = 0 ∨ s = n * bt))
  sx : Sz 500 x
  sy : Sz 500 y
  sw : Sz 500 w
theorem one_dn {l k : Int} (h : l < k + 1) : l < k ∨ l = k := Int.lt_or_eq_of_le (Int.le_of_lt_add_one h)
theorem four {l : Int} (l0 : 0 ≤ l) (l1 : l < 4) : l = 0 ∨ l = 1 ∨ l = 2 ∨ l = 3 :=
  (one_dn (k := 3) l1).elim (fun h => (one_dn (k := 2) h).elim (fun h => (one_dn (k := 1) h).elim (fun h => (one_dn (k := 0) h).elim (fun h => absurd l0 (Int.not_le.mpr h)) .inl) fun e => .inr (.inl e)) fun e => .inr (.inr (.inl e))) fun e => .inr (.inr (.inr e))
theorem six {l : Int} (l0 : 0 ≤ l) (l1 : l < 6) : (l = 0 ∨ l = 1 ∨ l = 2 ∨ l = 3) ∨ l = 4 ∨ l = 5 :=
  (one_dn (k := 5) l1).elim (fun h => (one_dn (k := 4) h).elim (fun h => .inl (four l0 h)) fun e => .inr (.inl e)) fun e => .inr (.inr e)
theorem reach_mk {L : List D} {l m : Int} {P : Int → Prop} (e : atI L l = some (.int (1000 - m))) (m0 : -1000 ≤ m) (m1 : m ≤ 999) (h : ∀ n, 1 ≤ n → n ≤ 1000 - m → P n) : ∃ r : Int, atI L l = some (.int r) ∧ 1 ≤ r ∧ r ≤ 2000 ∧ ∀ n, 1 ≤ n → n ≤ r → P n := ⟨_, e, by omega, by omega, h⟩
theorem reach_up {z m n : Int} (hz : z ≤ m) (hn : n ≤ 1000 - m) : z + n ≤ 1000 := by omega
theorem reach_dn {y m n : Int} (hz : 0 - y ≤ m) (hn : n ≤ 1000 - m) : -1000 ≤ y + n * -1 := by omega
theorem reach_st {y n : Int} (h : -1000 ≤ y) (hn : 1 ≤ n) : -1000 ≤ y + n := Int.le_trans h (Int.le_add_of_nonneg_right (Int.le_trans (by decide) hn))
theorem reach_ls {y n : Int} (h : y ≤ 1000) (hn : 1 ≤ n) : y + n * -1 ≤ 1000 := by omega
theorem reach_ng {y : Int} (h : -999 ≤ y) : 0 - y ≤ 999 := by omega
theorem size_reach {x y l : Int} (l0 : 0 ≤ l) (l1 : l < 4) (x0 : -1000 ≤ x) (x1 : x ≤ 999) (y0 : -1000 ≤ y) (y1 : y ≤ 1000) (up : l ≠ 3 → y ≤ 999) (dn : l = 3 → -999 ≤ y) :
    ∃ r : Int, atI [D.int (1000 - x), D.int (1000 - max x y), D.int (1000 - y), D.int (1000 - max x (0 - y))] l = some (.int r) ∧ 1 ≤ r ∧ r ≤ 2000 ∧ ∀ n, 1 ≤ n → n ≤ r → x + n * unitX l ≤ 1000 ∧ y + n * unitY l ≤ 1000 ∧ -1000 ≤ y + n * unitY l := by
  have hc := four l0 l1
  rcases hc with rfl | rfl | rfl | rfl
  · refine reach_mk at0 x0 x1 fun n h1 h2 => ?_
    show x + n * 1 ≤ 1000 ∧ y + n * 0 ≤ 1000 ∧ -1000 ≤ y + n * 0
    rw [Int.mul_one, Int.mul_zero, Int.add_zero]
    exact ⟨reach_up (Int.le_refl _) h2, y1, y0⟩
  · refine reach_mk at1 (Int.le_trans x0 (Int.le_max_left x y)) (Int.max_le.mpr ⟨x1, up (by decide)⟩) fun n h1 h2 => ?_
    show x + n * 1 ≤ 1000 ∧ y + n * 1 ≤ 1000 ∧ -1000 ≤ y + n * 1
    rw [Int.mul_one]
    exact ⟨reach_up (Int.le_max_left x y) h2, reach_up (Int.le_max_right x y) h2, reach_st y0 h1⟩
  · refine reach_mk at2 y0 (up (by decide)) fun n h1 h2 => ?_
    show x + n * 0 ≤ 1000 ∧ y + n * 1 ≤ 1000 ∧ -1000 ≤ y + n * 1
    rw [Int.mul_one, Int.mul_zero, Int.add_zero]
    exact ⟨Int.le_trans x1 (by decide), reach_up (Int.le_refl _) h2, reach_st y0 h1⟩
  · refine reach_mk at3 (Int.le_trans x0 (Int.le_max_left x (0 - y))) (Int.max_le.mpr ⟨x1, reach_ng (dn rfl)⟩) fun n h1 h2 => ?_
    show x + n * 1 ≤ 1000 ∧ y + n * -1 ≤ 1000 ∧ -1000 ≤ y + n * -1
    rw [Int.mul_one]
    exact ⟨reach_up (Int.le_max_left x (0 - y)) h2, reach_ls y1 h1, reach_dn (Int.le_max_right x (0 - y)) h2⟩
theorem beg_up {z : Int} (h0 : 0 ≤ z) (h1 : z < 2000) : -1000 ≤ z - 1000 ∧ z - 1000 ≤ 999 := by omega
theorem beg_dn {z : Int} (h0 : 0 ≤ z) (h1 : z < 2000) : -999 ≤ 0 - (z - 1000) ∧ 0 - (z - 1000) ≤ 1000 := by omega
theorem spot_bt {z : Int} (m0 : 0 ≤ z) (m1 : z < 4) : ∃ bt : Int, atI [D.int 1, D.int 2, D.int 7, D.int 100000000000000000000000000000000000000000000000000000000000000000000000000000000000000000000000000000000000000] z = some (.int bt) ∧ 0 < bt ∧ Sz 366 bt := by
  have hc := four m0 m1
  rcases hc with rfl | rfl | rfl | rfl
  · exact ⟨_, at0, by decide, .lit (by decide +kernel)⟩
  · exact ⟨_, at1, by decide, .lit (by decide +kernel)⟩
  · exact ⟨_, at2, by decide, .lit (by decide +kernel)⟩
  · exact ⟨_, at3, by decide +kernel, .lit (by decide +kernel)⟩
theorem spot_kk {z : Int} (k0 : 0 ≤ z) (k1 : z < 6) : ∃ kk : Int, atI [D.int 0, D.int 0, D.int 0, D.int 0, D.int 1, D.int (-1)] z = some (.int kk) ∧ Sz 1 kk := by
  have hc := six k0 k1
  rcases hc with (rfl | rfl | rfl | rfl) | rfl | rfl
  · exact ⟨_, at0, .lit (by decide)⟩
  · exact ⟨_, at1, .lit (by decide)⟩
  · exact ⟨_, at2, .lit (by decide)⟩
  · exact ⟨_, at3, .lit (by decide)⟩
  · exact ⟨_, at4, .lit (by decide)⟩
  · exact ⟨_, at5, .lit (by decide)⟩
def sp_spot : SpD := fun ds G Q => sh_iPii ds fun c a b l n => (Sz 1048576 c ∧ (-1000 ≤ a ∧ a ≤ 1000) ∧ (-1000 ≤ b ∧ b ≤ 1000) ∧ (0 ≤ l ∧ l < 4) ∧ 1 ≤ n ∧ n ≤ 2000) ∧
      ∀ x y w on at_ G', SpotOk a b l n x y w on at_ → GS G G' → Q (.tup [.tup [.int x, .int y, .int w], .bl on, .bl at_]) G'
theorem at_cells {cs : List Int} {j : Nat} (h : j < cs.length) : atI (cs.map D.int) (j : Int) = some (D.int (cs.getD j 0)) := by
  have := at_ints (cs := cs) (i := (j : Int)) (by omega) (by omega)
  simpa using this

/-- one statement at a time -/
theorem for_cut {wi : TID} {g : TGD} {tb : TSD} {E : EndsD} {σ : StD} {G : GHp} (h : ∀ tb', tb' = tb → dFor wi g tb' E σ G) : dFor wi g tb E σ G := h _ rfl
theorem seq_cut {t u : TSD} {E : EndsD} {σ : StD} {G : GHp} (h : ∀ N : StD → GHp → Prop, (∀ σ' G', u E σ' G' → N σ' G') → t { E with nx := N } σ G) : dSeq t u E σ G := h _ fun _ _ z => z
def lineD (a b : Int) : D := if b = 0 then .int 0 else if a = b then .int 1 else if a = 0 then .int 2 else if a = -b then .int 3 else .non
theorem lineD_scale {g x y : Int} (hg : 0 < g) : lineD (g * x) (g * y) = lineD x y := by
  have e0 : ∀ u v : Int, g * u = g * v ↔ u = v := fun u v => ⟨fun h => Int.eq_of_mul_eq_mul_left (by omega) h, fun h => by rw [h]⟩
  have e1 : g * y = 0 ↔ y = 0 := by have := e0 y 0; rwa [Int.mul_zero] at this
  have e2 : g * x = 0 ↔ x = 0 := by have := e0 x 0; rwa [Int.mul_zero] at this
  have e3 : g * x = -(g * y) ↔ x = -y := by rw [← Int.mul_neg]; exact e0 x (-y)
  unfold lineD
  simp only [e1, e0 x y, e2, e3]
theorem lineD_neg {x y : Int} : lineD (-x) (-y) = lineD x y := by
  unfold lineD
  simp only [Int.neg_inj, Int.neg_eq_zero]
theorem lineD_form (a b : Int) : lineD a b = .non ∨ ∃ i, lineD a b = .int i := by
  unfold lineD
  repeat' split
  all_goals first | exact .inl rfl | exact .inr ⟨_, rfl⟩
def sp_headX (C : Addr) : SpX := fun ds G Q Ed => sh_ii ds fun a b => (Sz 8000 a ∧ Sz 8000 b) ∧ (a = 0 ∧ b = 0 → ∀ G', GS G G' → Ed C G') ∧ (¬ (a = 0 ∧ b = 0) → ∀ G', GS G G' → Q (.tup [.int (a / (Int.gcd a b : Nat)), .int (b / (Int.gcd a b : Nat))]) G')

def sp_line : SpD := fun ds G Q => sh_P ds fun a b => Q (lineD a b) G

def acr (l x y : Int) : Int := if l = 0 then y else if l = 1 then y - x else if l = 2 then x else x + y
def sp_across : SpD := fun ds G Q => sh_iii ds fun l x y => Q (.int (acr l x y)) G

def sp_aspoint : SpD := fun ds G Q => sh_P ds fun a b => Q (.tup [.int a, .int b, .int 1]) G

structure InW (a b : Int) : Prop where
  a0 : -1000 ≤ a
  a1 : a ≤ 1000
  b0 : -1000 ≤ b
  b1 : b ≤ 1000
def sp_checkX (C : Addr) : SpX := fun ds G Q Ed => sh_P ds fun a b => (InW a b → Q .non G) ∧ (¬ InW a b → Ed C G)

def sp_betweenX (C : Addr) : SpX := fun ds G Q Ed => sh_PP ds fun a b c d => (InW a b ∧ InW c d) ∧ (∀ l, ¬ (a = c ∧ b = d) → lineD (c - a) (d - b) = .int l → ∀ G', GS G G' → Q (.int l) G') ∧ ((a = c ∧ b = d) ∨ lineD (c - a) (d - b) = .non → ∀ G', GS G G' → Ed C G')

structure GoodW (a b c d l : Int) : Prop where
  i1 : InW a b
  i2 : InW c d
  ne : ¬ (a = c ∧ b = d)
  ln : lineD (c - a) (d - b) = .int l
def loP (a b c d : Int) : D := if lex2 ltB false c d a b = true then .tup [.int c, .int d] else .tup [.int a, .int b]
def hiP (a b c d : Int) : D := if lex2 gtB false c d a b = true then .tup [.int c, .int d] else .tup [.int a, .int b]
def wfs (a b c d l : Int) : List (Str × D) := [(("one" : Str), loP a b c d), (("two" : Str), hiP a b c d), (("along" : Str), .int l)]
/-- all but what stands at p is as it was -/
def GSx (p : Addr) (G G' : GHp) : Prop := ∀ b o, b ≠ p → G b = some o → G' b = some o
theorem GSx.of {p : Addr} {G G' : GHp} (h : GS G G') : GSx p G G' := fun b o _ e => h b o e
theorem GSx.put {p : Addr} {G G' : GHp} {o : OD} (h : GSx p G G') : GSx p G (gupd G' p o) := fun b u n e => by rw [gupd_ne n]; exact h b u n e
theorem GSx.trans {p : Addr} {G G1 G2 : GHp} (h : GSx p G G1) (k : GSx p G1 G2) : GSx p G G2 := fun b u n e => k b u n (h b u n e)
/-- made anew at p -/
theorem GSx.gs {p : Addr} {G G' : GHp} {o : OD} (hp : G p = none) (h : GSx p (gupd G p o) G') : GS G G' := fun b u e => h b u (gne_none e hp) (by rw [gupd_ne (gne_none e hp)]; exact e)
inductive Kd where | mirror | glass | hole | door
def Ad.kc (A : Ad) : Kd → Addr
  | .mirror => A.c_Mirror
  | .glass => A.c_Glass
  | .hole => A.c_Hole
  | .door => A.c_Door
def numF : Kd → Int → List (Str × D)
  | .door, n => [(("number" : Str), .int n)]
  | _, _ => []
def wF (k : Kd) (a b c d l n : Int) : List (Str × D) := (("one" : Str), .tup [.int a, .int b]) :: (("two" : Str), .tup [.int c, .int d]) :: (("along" : Str), .int l) :: numF k n
theorem wF_one {k a b c d l n} : (wF k a b c d l n).lookup ("one" : Str) = some (.tup [.int a, .int b]) := rfl
theorem wF_two {k a b c d l n} : (wF k a b c d l n).lookup ("two" : Str) = some (.tup [.int c, .int d]) := rfl
theorem wF_along {k a b c d l n} : (wF k a b c d l n).lookup ("along" : Str) = some (.int l) := rfl
theorem wF_line {k a b c d l n} : (wF k a b c d l n).lookup ("line" : Str) = none := by cases k <;> rfl
theorem wF_offset {k a b c d l n} : (wF k a b c d l n).lookup ("offset" : Str) = none := by cases k <;> rfl
theorem wF_holds {k a b c d l n} : (wF k a b c d l n).lookup ("holds" : Str) = none := by cases k <;> rfl
theorem wF_ends {k a b c d l n} : (wF k a b c d l n).lookup ("ends_at" : Str) = none := by cases k <;> rfl
theorem put1 {y : D} : putD "one" y [] = [(("one" : Str), y)] := rfl
theorem put2 {x y : D} : putD "two" y [(("one" : Str), x)] = [(("one" : Str), x), (("two" : Str), y)] := by
  unfold putD; rw [if_neg (by decide)]; rfl
theorem put3 {x y z : D} : putD "along" z [(("one" : Str), x), (("two" : Str), y)] = [(("one" : Str), x), (("two" : Str), y), (("along" : Str), z)] := by
  unfold putD; rw [if_neg (by decide)]; unfold putD; rw [if_neg (by decide)]; rfl
theorem put4 {x y z u : D} : putD "number" u [(("one" : Str), x), (("two" : Str), y), (("along" : Str), z)] = [(("one" : Str), x), (("two" : Str), y), (("along" : Str), z), (("number" : Str), u)] := by
  unfold putD; rw [if_neg (by decide)]; unfold putD; rw [if_neg (by decide)]; unfold putD; rw [if_neg (by decide)]; rfl
/-- a wall of the kind k at p, from (a, b) to (c, d) along the line l, a door's number n -/
structure WAt (A : Ad) (G : GHp) (p : Addr) (k : Kd) (a b c d l n : Int) : Prop where
  ex : ∃ dx, G p = some (.ins (A.kc k) dx (wF k a b c d l n))
theorem WAt.mono {A : Ad} {G G' : GHp} {p : Addr} {k : Kd} {a b c d l n : Int} (h : WAt A G p k a b c d l n) (s : GS G G') : WAt A G' p k a b c d l n := by
  obtain ⟨dx, e⟩ := h.ex
  exact ⟨dx, s _ _ e⟩
theorem cls_of {G : GHp} {p C dx : Addr} {fs : List (Str × D)} (h : G p = some (.ins C dx fs)) : clsD G (.ref p) = some (.ref C) := by
  show (match G p with
    | some (.lst _) => some (Value.type "list")
    | some (.ins C _ _) => some (.ref C)
    | none => none) = _
  rw [h]
/-- its ends in their order -/
structure Geo (a b c d l : Int) : Prop where
  i1 : InW a b
  i2 : InW c d
  lt : a < c ∨ (a = c ∧ b < d)
  ln : lineD (c - a) (d - b) = .int l
theorem loP_lt {a b c d : Int} (h : a < c ∨ (a = c ∧ b < d)) : loP a b c d = .tup [.int a, .int b] := by
  unfold loP; rw [if_neg (fun z => by have := lex_lt.mp z; omega)]
theorem loP_gt {a b c d : Int} (h : a < c ∨ (a = c ∧ b < d)) : loP c d a b = .tup [.int a, .int b] := by
  unfold loP; rw [if_pos (lex_lt.mpr h)]
theorem hiP_lt {a b c d : Int} (h : a < c ∨ (a = c ∧ b < d)) : hiP a b c d = .tup [.int c, .int d] := by
  unfold hiP; rw [if_pos (lex_gt.mpr (h.imp id fun z => ⟨z.1.symm, z.2⟩))]
theorem hiP_gt {a b c d : Int} (h : a < c ∨ (a = c ∧ b < d)) : hiP c d a b = .tup [.int c, .int d] := by
  unfold hiP; rw [if_neg (fun z => by have := lex_gt.mp z; omega)]
theorem wfs_lt {k : Kd} {a b c d l n : Int} (h : Geo a b c d l) : wfs a b c d l ++ numF k n = wF k a b c d l n := by
  unfold wfs wF; rw [loP_lt h.lt, hiP_lt h.lt]; rfl
theorem wfs_gt {k : Kd} {a b c d l n : Int} (h : Geo a b c d l) : wfs c d a b l ++ numF k n = wF k a b c d l n := by
  unfold wfs wF; rw [loP_gt h.lt, hiP_gt h.lt]; rfl
theorem Geo.good {a b c d l : Int} (h : Geo a b c d l) : GoodW a b c d l := ⟨h.i1, h.i2, fun e => by have := h.lt; omega, h.ln⟩
theorem Geo.back {a b c d l : Int} (h : Geo a b c d l) : GoodW c d a b l := ⟨h.i2, h.i1, fun e => by have := h.lt; omega, by
  rw [show a - c = -(c - a) by omega, show b - d = -(d - b) by omega, lineD_neg]; exact h.ln⟩
def sp_wallX (A : Ad) : SpX := fun ds G Q Ed => sh_rPP ds fun p a b c d => ∃ k dx, G p = some (.ins (A.kc k) dx []) ∧ (∀ l, GoodW a b c d l → ∀ G', GSx p G G' → G' p = some (.ins (A.kc k) dx (wfs a b c d l)) → Q .non G') ∧ ((∀ l, ¬ GoodW a b c d l) → ∀ G', GSx p G G' → Ed A.c_BadWall G')

def sp_doorX (A : Ad) : SpX := fun ds G Q Ed => sh_rPPi ds fun p a b c d n => ∃ dx, G p = some (.ins A.c_Door dx []) ∧ (∀ l, GoodW a b c d l → 1 ≤ n → n ≤ 9 → ∀ G', GSx p G G' → G' p = some (.ins A.c_Door dx (wfs a b c d l ++ numF .door n)) → Q .non G') ∧ ((∀ l, ¬ (GoodW a b c d l ∧ 1 ≤ n ∧ n ≤ 9)) → ∀ G', GSx p G G' → Ed A.c_BadWall G')

def sp_wline (A : Ad) : SpD := fun ds G Q => sh_r ds fun p => ∃ k a b c d l n, WAt A G p k a b c d l n ∧ Q (.int l) G

def sp_woffset (A : Ad) : SpD := fun ds G Q => sh_r ds fun p => ∃ k a b c d l n, WAt A G p k a b c d l n ∧ Q (.int (acr l a b)) G

/-- a point on a wall -/
def onW (a b c d l x y w : Int) : Prop := acr l x y = acr l a b * w ∧ (a * w < x ∨ (a * w = x ∧ b * w ≤ y)) ∧ (x < c * w ∨ (x = c * w ∧ y ≤ d * w))
def atW (a b c d x y w : Int) : Prop := (x = a ∧ y = b ∧ w = 1) ∨ (x = c ∧ y = d ∧ w = 1)
instance {a b c d l x y w : Int} : Decidable (onW a b c d l x y w) := by unfold onW; infer_instance
instance {a b c d x y w : Int} : Decidable (atW a b c d x y w) := by unfold atW; infer_instance
def sp_wholds (A : Ad) : SpD := fun ds G Q => sh_rQ ds fun p x y w => ∃ k a b c d l n, WAt A G p k a b c d l n ∧ Geo a b c d l ∧ Sz 9000 w ∧ Q (.bl (decide (onW a b c d l x y w))) G

def sp_wends (A : Ad) : SpD := fun ds G Q => sh_rQ ds fun p x y w => ∃ k a b c d l n, WAt A G p k a b c d l n ∧ Q (.bl (decide (atW a b c d x y w))) G

theorem InW.sza {a b : Int} (h : InW a b) : Sz 11 a := .of 1000 (by decide) h.a0 h.a1
theorem InW.szb {a b : Int} (h : InW a b) : Sz 11 b := .of 1000 (by decide) h.b0 h.b1
theorem Geo.szo {a b c d l : Int} (h : Geo a b c d l) : Sz 12 (acr l a b) := by
  unfold acr
  split
  · exact h.i1.szb.mono (by decide)
  split
  · exact h.i1.szb.sub h.i1.sza
  split
  · exact h.i1.sza.mono (by decide)
  · exact h.i1.sza.add h.i1.szb
/-- the two ends, told in either order -/
structure Ends (a b c d l p q r t : Int) : Prop where
  good : GoodW p q r t l
  wf : ∀ k n, wfs p q r t l ++ numF k n = wF k a b c d l n
theorem Geo.ends {a b c d l : Int} (g : Geo a b c d l) : Ends a b c d l a b c d := ⟨g.good, fun _ _ => wfs_lt g⟩
theorem Geo.endsB {a b c d l : Int} (g : Geo a b c d l) : Ends a b c d l c d a b := ⟨g.back, fun _ _ => wfs_gt g⟩
theorem mk_wall {A : Ad} {G : GHp} {Q : DK} {Ed : Addr → GHp → Prop} (k : Kd) {a b c d l p q r t : Int} (hn : numF k 0 = []) (g : Ends a b c d l p q r t) {x dx : Addr} (hx : G x = none) (hq : ∀ n G', WAt A G' x k a b c d l n → GS G G' → Q (.ref x) G') :
    sp_wallX A [.ref x, .tup [.int p, .int q], .tup [.int r, .int t]] (gupd G x (.ins (A.kc k) dx [])) (fun dd G2 => dd = .non ∧ Q (.ref x) G2) Ed := by
  refine ⟨k, dx, gupd_same, fun l' gl G' s e => ⟨rfl, hq 0 G' ⟨dx, ?_⟩ (s.gs hx)⟩, fun hbad => absurd g.good (hbad l)⟩
  cases gl.ln.symm.trans g.good.ln
  have e2 := g.wf k 0
  rw [hn, List.append_nil] at e2
  rw [← e2]
  exact e
theorem mk_door {A : Ad} {G : GHp} {Q : DK} {Ed : Addr → GHp → Prop} {a b c d l n p q r t : Int} (g : Ends a b c d l p q r t) (n0 : 1 ≤ n) (n1 : n ≤ 9) {x dx : Addr} (hx : G x = none) (hq : ∀ G', WAt A G' x .door a b c d l n → GS G G' → Q (.ref x) G') :
    sp_doorX A [.ref x, .tup [.int p, .int q], .tup [.int r, .int t], .int n] (gupd G x (.ins A.c_Door dx [])) (fun dd G2 => dd = .non ∧ Q (.ref x) G2) Ed := by
  refine ⟨dx, gupd_same, fun l' gl _ _ G' s e => ⟨rfl, hq G' ⟨dx, ?_⟩ (s.gs hx)⟩, fun hbad => absurd ⟨g.good, n0, n1⟩ (hbad l)⟩
  cases gl.ln.symm.trans g.good.ln
  rw [← g.wf .door n]
  exact e
/-- the wall that the laws make of a begin, a line and a length -/
theorem lineD_unit {l : Int} (l0 : 0 ≤ l) (l1 : l < 4) : lineD (unitX l) (unitY l) = .int l := by
  have hc := four l0 l1
  rcases hc with rfl | rfl | rfl | rfl
  · exact if_pos rfl
  · exact (if_neg (by decide)).trans (if_pos rfl)
  · exact (if_neg (by decide)).trans ((if_neg (by decide)).trans (if_pos rfl))
  · exact (if_neg (by decide)).trans ((if_neg (by decide)).trans ((if_neg (by decide)).trans (if_pos rfl)))
theorem cut_off {x p : Int} : x + p - x = p := by omega
theorem geo_of {l x y n : Int} (l0 : 0 ≤ l) (l1 : l < 4) (h : BeginOk l x y) (n0 : 1 ≤ n) (x1 : x + n * unitX l ≤ 1000) (y1 : y + n * unitY l ≤ 1000) (y0 : -1000 ≤ y + n * unitY l) : Geo x y (x + n * unitX l) (y + n * unitY l) l := by
  have hu : 0 ≤ unitX l := by unfold unitX; split <;> decide
  have hn : 0 < n := n0
  refine ⟨⟨h.x0, Int.le_trans h.x1 (by decide), h.y0, h.y1⟩, ⟨Int.le_trans h.x0 (Int.le_add_of_nonneg_right (Int.mul_nonneg (Int.le_of_lt hn) hu)), x1, y0, y1⟩, ?_, ?_⟩
  · by_cases h2 : l = 2
    · subst h2
      refine .inr ⟨?_, ?_⟩
      · show x = x + n * 0; rw [Int.mul_zero, Int.add_zero]
      · show y < y + n * 1; rw [Int.mul_one]; exact Int.lt_add_of_pos_right _ hn
    · have e : unitX l = 1 := if_neg h2
      rw [e, Int.mul_one]
      exact .inl (Int.lt_add_of_pos_right _ hn)
  · rw [cut_off, cut_off, lineD_scale hn]
    exact lineD_unit l0 l1
theorem sc_lt {p x X w t : Int} (hw : 0 < w) (ht : 0 < t) (e : x * t = X * w) : p * w < x ↔ p * t < X := by
  rw [← Int.mul_lt_mul_right ht, e, Int.mul_right_comm, Int.mul_lt_mul_right hw]
theorem sc_gt {p x X w t : Int} (hw : 0 < w) (ht : 0 < t) (e : x * t = X * w) : x < p * w ↔ X < p * t := by
  rw [← Int.mul_lt_mul_right ht, e, Int.mul_right_comm, Int.mul_lt_mul_right hw]
theorem sc_eq {p x X w t : Int} (hw : 0 < w) (ht : 0 < t) (e : x * t = X * w) : x = p * w ↔ X = p * t := by
  rw [← Int.mul_eq_mul_right_iff (Int.ne_of_gt ht), e, Int.mul_right_comm, Int.mul_eq_mul_right_iff (Int.ne_of_gt hw)]
theorem sc_le {p x X w t : Int} (hw : 0 < w) (ht : 0 < t) (e : x * t = X * w) : p * w ≤ x ↔ p * t ≤ X := Int.not_lt.symm.trans ((not_congr (sc_gt hw ht e)).trans Int.not_lt)
theorem sc_ge {p x X w t : Int} (hw : 0 < w) (ht : 0 < t) (e : x * t = X * w) : x ≤ p * w ↔ X ≤ p * t := Int.not_lt.symm.trans ((not_congr (sc_lt hw ht e)).trans Int.not_lt)
theorem acr_sc {l x y X Y w t : Int} (e1 : x * t = X * w) (e2 : y * t = Y * w) : acr l x y * t = acr l X Y * w := by
  unfold acr
  split
  · exact e2
  split
  · rw [Int.sub_mul, Int.sub_mul, e1, e2]
  split
  · exact e1
  · rw [Int.add_mul, Int.add_mul, e1, e2]
theorem fld_ok {K : PySem.W.Frag} {mg : Str → Option Value} {A : Ad} (T : Txt K mg A) (k : Kd) : FldOk K (A.kc k) "one" ∧ FldOk K (A.kc k) "two" ∧ FldOk K (A.kc k) "along" := by
  cases k
  · exact ⟨⟨T.o_Mirror.cl, T.o_Mirror.nf_one⟩, ⟨T.o_Mirror.cl, T.o_Mirror.nf_two⟩, ⟨T.o_Mirror.cl, T.o_Mirror.nf_along⟩⟩
  · exact ⟨⟨T.o_Glass.cl, T.o_Glass.nf_one⟩, ⟨T.o_Glass.cl, T.o_Glass.nf_two⟩, ⟨T.o_Glass.cl, T.o_Glass.nf_along⟩⟩
  · exact ⟨⟨T.o_Hole.cl, T.o_Hole.nf_one⟩, ⟨T.o_Hole.cl, T.o_Hole.nf_two⟩, ⟨T.o_Hole.cl, T.o_Hole.nf_along⟩⟩
  · exact ⟨⟨T.o_Door.cl, T.o_Door.nf_one⟩, ⟨T.o_Door.cl, T.o_Door.nf_two⟩, ⟨T.o_Door.cl, T.o_Door.nf_along⟩⟩

def sp_made (A : Ad) : SpD := fun ds G Q => sh_iPP ds fun z a b c d => ∃ l, Geo a b c d l ∧ ∀ p k n G', WAt A G' p k a b c d l n → GS G G' → Q (.ref p) G'

def sp_lright (A : Ad) : SpD := fun ds G Q => match ds with
  | [.ref p, .tup [.tup [.int x, .int y, .int w], .bl on, .bl at_]] => ∃ k a b c d l n, WAt A G p k a b c d l n ∧ Geo a b c d l ∧ Sz 9000 w ∧ (on = true ↔ onW a b c d l x y w) ∧ (at_ = true ↔ atW a b c d x y w) ∧ Q (.bl true) G
  | _ => False
theorem one_of_dvd {x y w : Int} (hw : 0 < w) (h : Int.gcd (Int.gcd x y : Nat) w = 1) (hx : w ∣ x) (hy : w ∣ y) : w = 1 := by
  have h1 : w ∣ ((Int.gcd x y : Nat) : Int) := Int.dvd_coe_gcd hx hy
  have h2 : w ∣ ((Int.gcd (Int.gcd x y : Nat) w : Nat) : Int) := Int.dvd_coe_gcd h1 (Int.dvd_refl w)
  rw [h] at h2
  exact Int.eq_one_of_dvd_one (by omega) h2
theorem add_self {u s : Int} : u + s = u ↔ s = 0 := by
  have := Int.add_right_inj (i := s) (j := 0) u
  rwa [Int.add_zero] at this
/-- two points of one line, in their order -/
theorem ln_le {u v s t m r : Int} (h : s = m → t = r) : (u + s < u + m ∨ (u + s = u + m ∧ v + t ≤ v + r)) ↔ s ≤ m :=
  (or_congr (Int.add_lt_add_iff_left u) (and_congr (Int.add_right_inj u) (Int.add_le_add_iff_left v))).trans
    ⟨fun z => z.elim Int.le_of_lt fun y => Int.le_of_eq y.1, fun z => (Int.lt_or_eq_of_le z).imp id fun e => ⟨e, Int.le_of_eq (h e)⟩⟩
theorem ln_le0 {u v m r : Int} (h : m = 0 → r = 0) : (u < u + m ∨ (u = u + m ∧ v ≤ v + r)) ↔ 0 ≤ m := by
  have := ln_le (u := u) (v := v) (s := 0) (t := 0) (m := m) (r := r) fun e => (h e.symm).symm
  rwa [Int.add_zero, Int.add_zero] at this
theorem up_le {u v t r : Int} : (u < u ∨ (u = u ∧ v + t ≤ v + r)) ↔ t ≤ r :=
  ⟨fun z => z.elim (fun y => absurd y (Int.lt_irrefl _)) fun y => (Int.add_le_add_iff_left v).mp y.2, fun z => .inr ⟨rfl, (Int.add_le_add_iff_left v).mpr z⟩⟩
theorem up_le0 {u v r : Int} : (u < u ∨ (u = u ∧ v ≤ v + r)) ↔ 0 ≤ r := by
  have := up_le (u := u) (v := v) (t := 0) (r := r)
  rwa [Int.add_zero] at this
theorem acr_u {l x y : Int} (l0 : 0 ≤ l) (l1 : l < 4) (h : l ≠ 2) : acr l x y = y - unitY l * x := by
  have hc := four l0 l1
  rcases hc with rfl | rfl | e | rfl
  rotate_left 2
  · exact absurd e h
  rotate_left
  · show y = y - 0 * x; rw [Int.zero_mul, Int.sub_zero]
  · show y - x = y - 1 * x; rw [Int.one_mul]
  · show x + y = y - -1 * x; rw [Int.neg_mul, Int.one_mul, Int.sub_neg, Int.add_comm]
/-- where the law's spot lies, by its line -/
theorem spot_x {a b l n X Y bt s off : Int} (h : l ≠ 2) (eX : X = a * bt + s * unitX l + (if l = 2 then off else 0)) (eY : Y = b * bt + s * unitY l + (if l = 2 then 0 else off)) :
    X = a * bt + s ∧ Y = b * bt + s * unitY l + off ∧ (a + n * unitX l) * bt = a * bt + n * bt ∧ (b + n * unitY l) * bt = b * bt + n * bt * unitY l := by
  rw [if_neg h] at eX eY
  unfold unitX at *
  rw [if_neg h] at *
  rw [Int.mul_one, Int.add_zero] at eX
  exact ⟨eX, eY, by rw [Int.mul_one, Int.add_mul], by rw [Int.add_mul, Int.mul_right_comm]⟩
theorem spot_y {a b n X Y bt s off : Int} (eX : X = a * bt + s * unitX 2 + (if (2 : Int) = 2 then off else 0)) (eY : Y = b * bt + s * unitY 2 + (if (2 : Int) = 2 then 0 else off)) :
    X = a * bt + off ∧ Y = b * bt + s ∧ (a + n * unitX 2) * bt = a * bt ∧ (b + n * unitY 2) * bt = b * bt + n * bt := by
  rw [show unitX 2 = 0 from rfl, show unitY 2 = 1 from rfl, if_pos rfl, Int.mul_zero, Int.mul_one, Int.add_zero] at *
  exact ⟨eX, eY, rfl, Int.add_mul ..⟩
theorem spot_on {a b l n X Y bt s off x y w : Int} (l0 : 0 ≤ l) (l1 : l < 4) (hb : 0 < bt) (eX : X = a * bt + s * unitX l + (if l = 2 then off else 0)) (eY : Y = b * bt + s * unitY l + (if l = 2 then 0 else off)) (hR : Red3 X Y bt x y w) :
    onW a b (a + n * unitX l) (b + n * unitY l) l x y w ↔ off = 0 ∧ 0 ≤ s ∧ s ≤ n * bt := by
  have hw := hR.pos
  refine (and_congr (sc_eq hw hb (acr_sc hR.s1 hR.s2)) (and_congr (or_congr (sc_lt hw hb hR.s1) (and_congr (eq_comm.trans ((sc_eq hw hb hR.s1).trans eq_comm)) (sc_le hw hb hR.s2))) (or_congr (sc_gt hw hb hR.s1) (and_congr (sc_eq hw hb hR.s1) (sc_ge hw hb hR.s2))))).trans ?_
  by_cases h : l = 2
  · subst h
    obtain ⟨e1, e2, e3, e4⟩ := spot_y (n := n) eX eY
    rw [e3, e4, e1, e2]
    refine (and_congr_left' (b := off = 0) add_self).trans (and_congr_right fun z => ?_)
    rw [z, Int.add_zero]
    exact and_congr up_le0 up_le
  · obtain ⟨e1, e2, e3, e4⟩ := spot_x (n := n) h eX eY
    rw [acr_u l0 l1 h, acr_u l0 l1 h, e3, e4, e1, e2]
    refine (and_congr_left' (b := off = 0) ?_).trans (and_congr_right fun z => ?_)
    · rw [Int.sub_mul, Int.mul_add, Int.mul_assoc, Int.mul_comm s]
      generalize unitY l * s = p
      generalize unitY l * (a * bt) = q
      omega
    · rw [z, Int.add_zero]
      exact and_congr (ln_le0 fun e => by rw [e, Int.zero_mul]) (ln_le fun e => by rw [e])
theorem at_one {u v s t m r off : Int} (h : s = m → t = r) : (u + s = u + m ∧ v + t + off = v + r) ↔ (off = 0 ∧ s = m) :=
  ⟨fun z => have e := Int.add_left_cancel z.1; ⟨add_self.mp (by have := z.2; rw [h e] at this; exact this), e⟩, fun z => ⟨by rw [z.2], by rw [z.1, h z.2, Int.add_zero]⟩⟩
theorem spot_at {a b l n X Y bt s off x y w : Int} (l0 : 0 ≤ l) (l1 : l < 4) (hb : 0 < bt) (hn : 1 ≤ n) (eX : X = a * bt + s * unitX l + (if l = 2 then off else 0)) (eY : Y = b * bt + s * unitY l + (if l = 2 then 0 else off)) (hR : Red3 X Y bt x y w) :
    atW a b (a + n * unitX l) (b + n * unitY l) x y w ↔ off = 0 ∧ (s = 0 ∨ s = n * bt) := by
  have hw := hR.pos
  have key : ∀ p q : Int, (x = p ∧ y = q ∧ w = 1) ↔ (X = p * bt ∧ Y = q * bt) := fun p q => by
    rw [← sc_eq hw hb hR.s1, ← sc_eq hw hb hR.s2]
    refine ⟨fun z => ?_, fun z => ?_⟩
    · rw [z.1, z.2.1, z.2.2, Int.mul_one, Int.mul_one]; exact ⟨rfl, rfl⟩
    · have e : w = 1 := one_of_dvd hw hR.one ⟨p, by rw [z.1, Int.mul_comm]⟩ ⟨q, by rw [z.2, Int.mul_comm]⟩
      have z1 := z.1
      have z2 := z.2
      rw [e, Int.mul_one] at z1 z2
      exact ⟨z1, z2, e⟩
  refine (or_congr (key _ _) (key _ _)).trans (.trans ?_ and_or_left.symm)
  by_cases h : l = 2
  · subst h
    obtain ⟨e1, e2, e3, e4⟩ := spot_y (n := n) eX eY
    rw [e3, e4, e1, e2]
    exact or_congr (and_congr add_self add_self) (and_congr add_self (Int.add_right_inj _))
  · obtain ⟨e1, e2, e3, e4⟩ := spot_x (n := n) h eX eY
    rw [e3, e4, e1, e2]
    refine or_congr ?_ (at_one fun e => by rw [e])
    have := at_one (u := a * bt) (v := b * bt) (s := s) (t := s * unitY l) (m := 0) (r := 0) (off := off) fun e => by rw [e, Int.zero_mul]
    rwa [Int.add_zero, Int.add_zero] at this

def S_Wall_line (A : Ad) : SpX := fun ds G Q _ => (sp_wline A) ds G Q
def M_line (A : Ad) : Addr → SpX → Prop := fun C sp => (C = A.c_Mirror ∧ sp = S_Wall_line A) ∨ (C = A.c_Glass ∧ sp = S_Wall_line A) ∨ (C = A.c_Hole ∧ sp = S_Wall_line A) ∨ (C = A.c_Door ∧ sp = S_Wall_line A)
def S_Wall_offset (A : Ad) : SpX := fun ds G Q _ => (sp_woffset A) ds G Q
def M_offset (A : Ad) : Addr → SpX → Prop := fun C sp => (C = A.c_Mirror ∧ sp = S_Wall_offset A) ∨ (C = A.c_Glass ∧ sp = S_Wall_offset A) ∨ (C = A.c_Hole ∧ sp = S_Wall_offset A) ∨ (C = A.c_Door ∧ sp = S_Wall_offset A)
def S_Wall_holds (A : Ad) : SpX := fun ds G Q _ => (sp_wholds A) ds G Q
def M_holds (A : Ad) : Addr → SpX → Prop := fun C sp => (C = A.c_Mirror ∧ sp = S_Wall_holds A) ∨ (C = A.c_Glass ∧ sp = S_Wall_holds A) ∨ (C = A.c_Hole ∧ sp = S_Wall_holds A) ∨ (C = A.c_Door ∧ sp = S_Wall_holds A)
def S_Wall_ends_at (A : Ad) : SpX := fun ds G Q _ => (sp_wends A) ds G Q
def M_ends_at (A : Ad) : Addr → SpX → Prop := fun C sp => (C = A.c_Mirror ∧ sp = S_Wall_ends_at A) ∨ (C = A.c_Glass ∧ sp = S_Wall_ends_at A) ∨ (C = A.c_Hole ∧ sp = S_Wall_ends_at A) ∨ (C = A.c_Door ∧ sp = S_Wall_ends_at A)
theorem mk_line {A : Ad} (k : Kd) : M_line A (A.kc k) (S_Wall_line A) := by
  cases k
  · exact Or.inl ⟨rfl, rfl⟩
  · exact Or.inr (Or.inl ⟨rfl, rfl⟩)
  · exact Or.inr (Or.inr (Or.inl ⟨rfl, rfl⟩))
  · exact Or.inr (Or.inr (Or.inr ⟨rfl, rfl⟩))
theorem mk_offset {A : Ad} (k : Kd) : M_offset A (A.kc k) (S_Wall_offset A) := by
  cases k
  · exact Or.inl ⟨rfl, rfl⟩
  · exact Or.inr (Or.inl ⟨rfl, rfl⟩)
  · exact Or.inr (Or.inr (Or.inl ⟨rfl, rfl⟩))
  · exact Or.inr (Or.inr (Or.inr ⟨rfl, rfl⟩))
theorem mk_holds {A : Ad} (k : Kd) : M_holds A (A.kc k) (S_Wall_holds A) := by
  cases k
  · exact Or.inl ⟨rfl, rfl⟩
  · exact Or.inr (Or.inl ⟨rfl, rfl⟩)
  · exact Or.inr (Or.inr (Or.inl ⟨rfl, rfl⟩))
  · exact Or.inr (Or.inr (Or.inr ⟨rfl, rfl⟩))
theorem mk_ends_at {A : Ad} (k : Kd) : M_ends_at A (A.kc k) (S_Wall_ends_at A) := by
  cases k
  · exact Or.inl ⟨rfl, rfl⟩
  · exact Or.inr (Or.inl ⟨rfl, rfl⟩)
  · exact Or.inr (Or.inr (Or.inl ⟨rfl, rfl⟩))
  · exact Or.inr (Or.inr (Or.inr ⟨rfl, rfl⟩))

theorem is_wall {K : PySem.W.Frag} {mg : Str → Option Value} {A : Ad} (T : Txt K mg A) (k : Kd) : InsTy K (A.kc k) ∧ PySem.W.kitOne K (.ref (A.kc k)) (.ref A.c_Wall) = some true := by
  cases k
  · exact ⟨T.o_Mirror.it, T.y0⟩
  · exact ⟨T.o_Glass.it, T.y1⟩
  · exact ⟨T.o_Hole.it, T.y2⟩
  · exact ⟨T.o_Door.it, T.y3⟩

seal L3.PSD L3.PSsD L3.PED L3.PTD L3.PWD L3.PAD L3.PID L3.PGD L3.PGsD L3.POD L3.PSDw L3.PSsDw L3.PHD
section
variable {P : Program} {w : World} {K : PySem.W.Frag} {mg : Str → Option Value} {base : Heap} {A : Ad}
theorem ok_divisor (T : Txt K mg A) : FnOk P w K mg base CX0 1 A.f_divisor A.fd_divisor ["one", "other"] (spOf K (sp_divisor)) := by
  refine L3.Fun.okD 3 rfl T.d_divisor.F sc_divisor (fun ds G Q h => ?_) (fun cdv Ar outer s H ds G Q E hr h => ?_)
  · revert h; revert ds; refine inv_ii ?_; intros; exact rfl
  · refine ⟨_, (show PSsD _ (_ :: _) _ from (dss_cons (ds_set (i := 2) sc_divisor.nd rfl (Or.inl rfl) (de_callB cd_abs (by rfl) T.z_abs bt_abs (da_cons (dv 0) da_nil)))
      (dss_cons (ds_set (i := 3) sc_divisor.nd rfl (Or.inl rfl) (de_callB cd_abs (by rfl) T.z_abs bt_abs (da_cons (dv 1) da_nil)))
      (dss_cons (ds_while PassesOwn.never (dt_cmp od_neI (dv 3) de_int (nomark _)) (dss_cons (ds_set (i := 4) sc_divisor.nd rfl (Or.inl rfl) (de_op od_modP (dv 2) (dv 3)))
      (dss_cons (ds_set (i := 2) sc_divisor.nd rfl (Or.inl rfl) (dv 3))
      (dss_one (ds_set (i := 3) sc_divisor.nd rfl (Or.inl rfl) (dv 4))))))
      (dss_one (ds_ret (dv 2))))))), ?_⟩
    revert h
    revert ds
    refine inv_ii ?_
    intro _ _ h
    rename_i a b
    have hq := h
    simp only [dSeq, dAsg, dCB, dCons, dNil, dVar, dC, dOp, dUn, dTest, dOr, dNot, dAndV, dOrV, dTup, dLst, dSl, dPart, dIfS, dRet, dDrop, dNext, gdName, qAbs, qI, qI0, qUn, qLen, qSl, dCall, st0, seqD, List.map_cons, List.map_nil, List.length_cons, List.length_nil, List.cons_append, List.nil_append, List.set_cons_zero, List.set_cons_succ, List.getElem?_cons_zero, List.getElem?_cons_succ, Option.some.injEq, Nat.reduceAdd, Nat.reduceSub, List.replicate, Bool.not_eq_true', decide_eq_true_eq, decide_eq_false_iff_not, decide_not, ite_not, Bool.not_eq_eq_eq_not, Bool.not_true, Bool.not_false, if_true, if_false, true_and, and_true, List.cons.injEq, D.int.injEq, D.bl.injEq, D.tup.injEq, ite_true, ite_false, reduceCtorEq, Bool.false_eq_true, divP_lit, pow_lit, mul_lit, mul_litL, mul_litB, qIx, at0, at1, at2, at3, at4, at5, gupd_same, Int.reduceLT, Int.reduceLE, Int.reducePow, Int.reduceToNat, Int.reduceMul, Int.reduceAdd, Int.reduceDiv, Int.reduceSub, Int.reduceNeg, Int.reduceEq, Int.reduceMod, Nat.reduceLT, Nat.reduceLeDiff, sz_line, OD.lst.injEq, and_assoc, dFor, iSeq, dComp, pickS, qIs, isNonD, Bool.and_self, Bool.true_and, Bool.and_true, Bool.false_and, Bool.and_false, dRaise, dCallX, valD, sp_divisor, sh_ii_eq, sh_i_eq, sh_r_eq, sh_rP_eq, sh_iii_eq, sh_iPii_eq, sh_P_eq, sh_PP_eq, sh_rPP_eq, sh_rPPi_eq, sh_rQ_eq, sh_iPP_eq, dsPar, iRng1D, insAt, dFld, dsFld, dMeth, dMake, qIsI, sp_cell, sp_unit, sp_begin, sp_size, sp_lean, sp_spot, sp_headX, sp_line, sp_across, sp_aspoint, sp_checkX, sp_betweenX, sp_wline, sp_woffset, sp_wholds, sp_wends, put1, put2, put3, put4, sp_made, sp_lright, qIsB_bb, qIsB_ib, qIsB_bi, qIsB_ii]
    refine whileW (fun m σ' G' => ∃ (l r : Int) (z : Option D), m = r.toNat ∧ σ' = [some (.int a), some (.int b), some (.int l), some (.int r), z] ∧ 0 ≤ l ∧ 0 ≤ r ∧ Int.gcd l r = Int.gcd a b ∧ GS G G')
      _ ⟨_, _, _, rfl, rfl, absI_nn a, absI_nn b, gcd_abs a b, .refl⟩ ?_
    rintro _ σ' G' ⟨l, r, z, rfl, rfl, h0, h1, hg, hs⟩
    simp only [dSeq, dAsg, dCB, dCons, dNil, dVar, dC, dOp, dUn, dTest, dOr, dNot, dAndV, dOrV, dTup, dLst, dSl, dPart, dIfS, dRet, dDrop, dNext, gdName, qAbs, qI, qI0, qUn, qLen, qSl, dCall, st0, seqD, List.map_cons, List.map_nil, List.length_cons, List.length_nil, List.cons_append, List.nil_append, List.set_cons_zero, List.set_cons_succ, List.getElem?_cons_zero, List.getElem?_cons_succ, Option.some.injEq, Nat.reduceAdd, Nat.reduceSub, List.replicate, Bool.not_eq_true', decide_eq_true_eq, decide_eq_false_iff_not, decide_not, ite_not, Bool.not_eq_eq_eq_not, Bool.not_true, Bool.not_false, if_true, if_false, true_and, and_true, List.cons.injEq, D.int.injEq, D.bl.injEq, D.tup.injEq, ite_true, ite_false, reduceCtorEq, Bool.false_eq_true, divP_lit, pow_lit, mul_lit, mul_litL, mul_litB, qIx, at0, at1, at2, at3, at4, at5, gupd_same, Int.reduceLT, Int.reduceLE, Int.reducePow, Int.reduceToNat, Int.reduceMul, Int.reduceAdd, Int.reduceDiv, Int.reduceSub, Int.reduceNeg, Int.reduceEq, Int.reduceMod, Nat.reduceLT, Nat.reduceLeDiff, sz_line, OD.lst.injEq, and_assoc, dFor, iSeq, dComp, pickS, qIs, isNonD, Bool.and_self, Bool.true_and, Bool.and_true, Bool.false_and, Bool.and_false, dRaise, dCallX, valD, sp_divisor, sh_ii_eq, sh_i_eq, sh_r_eq, sh_rP_eq, sh_iii_eq, sh_iPii_eq, sh_P_eq, sh_PP_eq, sh_rPP_eq, sh_rPPi_eq, sh_rQ_eq, sh_iPP_eq, dsPar, iRng1D, insAt, dFld, dsFld, dMeth, dMake, qIsI, sp_cell, sp_unit, sp_begin, sp_size, sp_lean, sp_spot, sp_headX, sp_line, sp_across, sp_aspoint, sp_checkX, sp_betweenX, sp_wline, sp_woffset, sp_wholds, sp_wends, put1, put2, put3, put4, sp_made, sp_lright, qIsB_bb, qIsB_ib, qIsB_bi, qIsB_ii]
    by_cases hr0 : r = 0
    · subst hr0
      simp only [if_true]
      rw [← hg, gcd_done l h0] at hq
      exact hq G' hs
    · rw [if_neg hr0]
      have hr1 : 0 < r := by omega
      have h2 := Int.emod_lt_of_pos l hr1
      have h3 := Int.emod_nonneg l hr0
      exact ⟨_, fun _ _ z => z, hr1, _, (by omega : (l % r).toNat < r.toNat), r, l % r, _, rfl, rfl, h1, h3, (gcd_turn hr1 h0).trans hg, hs⟩
theorem ok_as_point (T : Txt K mg A) : FnOk P w K mg base CX0 1 A.f_as_point A.fd_as_point ["whole"] (spOf K (sp_aspoint)) := by
  refine L3.Fun.okD 0 rfl T.d_as_point.F sc_as_point (fun ds G Q h => ?_) (fun cdv Ar outer s H ds G Q E hr h => ?_)
  · revert h; revert ds; refine inv_P ?_; intros; exact rfl
  · refine ⟨_, (show PSsD _ (_ :: _) _ from (dss_one (ds_ret (de_tup (da_cons (de_ix (dv 0) de_int (fun _ _ => rfl)) (da_cons (de_ix (dv 0) de_int (fun _ _ => rfl)) (da_cons de_int da_nil))))))), ?_⟩
    revert h
    revert ds
    refine inv_P ?_
    intro _ _ h
    have hq := h
    simp only [dSeq, dAsg, dCB, dCons, dNil, dVar, dC, dOp, dUn, dTest, dOr, dNot, dAndV, dOrV, dTup, dLst, dSl, dPart, dIfS, dRet, dDrop, dNext, gdName, qAbs, qI, qI0, qUn, qLen, qSl, dCall, st0, seqD, List.map_cons, List.map_nil, List.length_cons, List.length_nil, List.cons_append, List.nil_append, List.set_cons_zero, List.set_cons_succ, List.getElem?_cons_zero, List.getElem?_cons_succ, Option.some.injEq, Nat.reduceAdd, Nat.reduceSub, List.replicate, Bool.not_eq_true', decide_eq_true_eq, decide_eq_false_iff_not, decide_not, ite_not, Bool.not_eq_eq_eq_not, Bool.not_true, Bool.not_false, if_true, if_false, true_and, and_true, List.cons.injEq, D.int.injEq, D.bl.injEq, D.tup.injEq, ite_true, ite_false, reduceCtorEq, Bool.false_eq_true, divP_lit, pow_lit, mul_lit, mul_litL, mul_litB, qIx, at0, at1, at2, at3, at4, at5, gupd_same, Int.reduceLT, Int.reduceLE, Int.reducePow, Int.reduceToNat, Int.reduceMul, Int.reduceAdd, Int.reduceDiv, Int.reduceSub, Int.reduceNeg, Int.reduceEq, Int.reduceMod, Nat.reduceLT, Nat.reduceLeDiff, sz_line, OD.lst.injEq, and_assoc, dFor, iSeq, dComp, pickS, qIs, isNonD, Bool.and_self, Bool.true_and, Bool.and_true, Bool.false_and, Bool.and_false, dRaise, dCallX, valD, sp_divisor, sh_ii_eq, sh_i_eq, sh_r_eq, sh_rP_eq, sh_iii_eq, sh_iPii_eq, sh_P_eq, sh_PP_eq, sh_rPP_eq, sh_rPPi_eq, sh_rQ_eq, sh_iPP_eq, dsPar, iRng1D, insAt, dFld, dsFld, dMeth, dMake, qIsI, sp_cell, sp_unit, sp_begin, sp_size, sp_lean, sp_spot, sp_headX, sp_line, sp_across, sp_aspoint, sp_checkX, sp_betweenX, sp_wline, sp_woffset, sp_wholds, sp_wends, put1, put2, put3, put4, sp_made, sp_lright, qIsB_bb, qIsB_ib, qIsB_bi, qIsB_ii]
    exact hq
theorem ok_line_of (T : Txt K mg A) : FnOk P w K mg base CX0 1 A.f_line_of A.fd_line_of ["heading"] (spOf K (sp_line)) := by
  refine L3.Fun.okD 2 rfl T.d_line_of.F sc_line_of (fun ds G Q h => ?_) (fun cdv Ar outer s H ds G Q E hr h => ?_)
  · revert h; revert ds; refine inv_P ?_; intros; exact rfl
  · refine ⟨_, (show PSsD _ (_ :: _) _ from (dss_cons (ds_set (i := 1) sc_line_of.nd rfl (Or.inl rfl) (de_ix (dv 0) de_int (fun _ _ => rfl)))
      (dss_cons (ds_set (i := 2) sc_line_of.nd rfl (Or.inl rfl) (de_ix (dv 0) de_int (fun _ _ => rfl)))
      (dss_cons (ds_if (dt_cmp od_eqI (dv 2) de_int (nomark _)) (dss_one (ds_ret de_int)) dss_nil)
      (dss_cons (ds_if (dt_cmp od_eqI (dv 1) (dv 2) (nomark _)) (dss_one (ds_ret de_int)) dss_nil)
      (dss_cons (ds_if (dt_cmp od_eqI (dv 1) de_int (nomark _)) (dss_one (ds_ret de_int)) dss_nil)
      (dss_cons (ds_if (dt_cmp od_eqI (dv 1) (de_un ud_neg (dv 2)) (nomark _)) (dss_one (ds_ret de_int)) dss_nil)
      (dss_one (ds_ret de_non))))))))), ?_⟩
    revert h
    revert ds
    refine inv_P ?_
    intro _ _ h
    rename_i a b
    have hq := h
    unfold lineD at hq
    simp only [dSeq, dAsg, dCB, dCons, dNil, dVar, dC, dOp, dUn, dTest, dOr, dNot, dAndV, dOrV, dTup, dLst, dSl, dPart, dIfS, dRet, dDrop, dNext, gdName, qAbs, qI, qI0, qUn, qLen, qSl, dCall, st0, seqD, List.map_cons, List.map_nil, List.length_cons, List.length_nil, List.cons_append, List.nil_append, List.set_cons_zero, List.set_cons_succ, List.getElem?_cons_zero, List.getElem?_cons_succ, Option.some.injEq, Nat.reduceAdd, Nat.reduceSub, List.replicate, Bool.not_eq_true', decide_eq_true_eq, decide_eq_false_iff_not, decide_not, ite_not, Bool.not_eq_eq_eq_not, Bool.not_true, Bool.not_false, if_true, if_false, true_and, and_true, List.cons.injEq, D.int.injEq, D.bl.injEq, D.tup.injEq, ite_true, ite_false, reduceCtorEq, Bool.false_eq_true, divP_lit, pow_lit, mul_lit, mul_litL, mul_litB, qIx, at0, at1, at2, at3, at4, at5, gupd_same, Int.reduceLT, Int.reduceLE, Int.reducePow, Int.reduceToNat, Int.reduceMul, Int.reduceAdd, Int.reduceDiv, Int.reduceSub, Int.reduceNeg, Int.reduceEq, Int.reduceMod, Nat.reduceLT, Nat.reduceLeDiff, sz_line, OD.lst.injEq, and_assoc, dFor, iSeq, dComp, pickS, qIs, isNonD, Bool.and_self, Bool.true_and, Bool.and_true, Bool.false_and, Bool.and_false, dRaise, dCallX, valD, sp_divisor, sh_ii_eq, sh_i_eq, sh_r_eq, sh_rP_eq, sh_iii_eq, sh_iPii_eq, sh_P_eq, sh_PP_eq, sh_rPP_eq, sh_rPPi_eq, sh_rQ_eq, sh_iPP_eq, dsPar, iRng1D, insAt, dFld, dsFld, dMeth, dMake, qIsI, sp_cell, sp_unit, sp_begin, sp_size, sp_lean, sp_spot, sp_headX, sp_line, sp_across, sp_aspoint, sp_checkX, sp_betweenX, sp_wline, sp_woffset, sp_wholds, sp_wends, put1, put2, put3, put4, sp_made, sp_lright, qIsB_bb, qIsB_ib, qIsB_bi, qIsB_ii]
    by_cases h0 : b = 0
    · simp only [h0, if_true] at hq ⊢
      exact hq
    simp only [h0, if_false] at hq ⊢
    by_cases h1 : a = b
    · simp only [h1, if_true] at hq ⊢
      exact hq
    simp only [h1, if_false] at hq ⊢
    by_cases h2 : a = 0
    · simp only [h2, if_true] at hq ⊢
      exact hq
    simp only [h2, if_false] at hq ⊢
    by_cases h3 : a = -b
    · simp only [h3, if_true] at hq ⊢
      exact hq
    · simp only [h3, if_false] at hq ⊢
      exact hq
theorem ok_across (T : Txt K mg A) : FnOk P w K mg base CX0 1 A.f_across A.fd_across ["line", "x", "y"] (spOf K (sp_across)) := by
  refine L3.Fun.okD 0 rfl T.d_across.F sc_across (fun ds G Q h => ?_) (fun cdv Ar outer s H ds G Q E hr h => ?_)
  · revert h; revert ds; refine inv_iii ?_; intros; exact rfl
  · refine ⟨_, (show PSsD _ (_ :: _) _ from (dss_cons (ds_if (dt_cmp od_eqI (dv 0) de_int (nomark _)) (dss_one (ds_ret (dv 2))) dss_nil)
      (dss_cons (ds_if (dt_cmp od_eqI (dv 0) de_int (nomark _)) (dss_one (ds_ret (de_op od_sub (dv 2) (dv 1)))) dss_nil)
      (dss_cons (ds_if (dt_cmp od_eqI (dv 0) de_int (nomark _)) (dss_one (ds_ret (dv 1))) dss_nil)
      (dss_one (ds_ret (de_op od_addI (dv 1) (dv 2)))))))), ?_⟩
    revert h
    revert ds
    refine inv_iii ?_
    intro _ _ _ h
    rename_i l x y
    have hq := h
    unfold acr at hq
    simp only [dSeq, dAsg, dCB, dCons, dNil, dVar, dC, dOp, dUn, dTest, dOr, dNot, dAndV, dOrV, dTup, dLst, dSl, dPart, dIfS, dRet, dDrop, dNext, gdName, qAbs, qI, qI0, qUn, qLen, qSl, dCall, st0, seqD, List.map_cons, List.map_nil, List.length_cons, List.length_nil, List.cons_append, List.nil_append, List.set_cons_zero, List.set_cons_succ, List.getElem?_cons_zero, List.getElem?_cons_succ, Option.some.injEq, Nat.reduceAdd, Nat.reduceSub, List.replicate, Bool.not_eq_true', decide_eq_true_eq, decide_eq_false_iff_not, decide_not, ite_not, Bool.not_eq_eq_eq_not, Bool.not_true, Bool.not_false, if_true, if_false, true_and, and_true, List.cons.injEq, D.int.injEq, D.bl.injEq, D.tup.injEq, ite_true, ite_false, reduceCtorEq, Bool.false_eq_true, divP_lit, pow_lit, mul_lit, mul_litL, mul_litB, qIx, at0, at1, at2, at3, at4, at5, gupd_same, Int.reduceLT, Int.reduceLE, Int.reducePow, Int.reduceToNat, Int.reduceMul, Int.reduceAdd, Int.reduceDiv, Int.reduceSub, Int.reduceNeg, Int.reduceEq, Int.reduceMod, Nat.reduceLT, Nat.reduceLeDiff, sz_line, OD.lst.injEq, and_assoc, dFor, iSeq, dComp, pickS, qIs, isNonD, Bool.and_self, Bool.true_and, Bool.and_true, Bool.false_and, Bool.and_false, dRaise, dCallX, valD, sp_divisor, sh_ii_eq, sh_i_eq, sh_r_eq, sh_rP_eq, sh_iii_eq, sh_iPii_eq, sh_P_eq, sh_PP_eq, sh_rPP_eq, sh_rPPi_eq, sh_rQ_eq, sh_iPP_eq, dsPar, iRng1D, insAt, dFld, dsFld, dMeth, dMake, qIsI, sp_cell, sp_unit, sp_begin, sp_size, sp_lean, sp_spot, sp_headX, sp_line, sp_across, sp_aspoint, sp_checkX, sp_betweenX, sp_wline, sp_woffset, sp_wholds, sp_wends, put1, put2, put3, put4, sp_made, sp_lright, qIsB_bb, qIsB_ib, qIsB_bi, qIsB_ii]
    by_cases h0 : l = 0
    · simp only [h0, if_true] at hq ⊢
      exact hq
    simp only [h0, if_false] at hq ⊢
    by_cases h1 : l = 1
    · simp only [h1, if_true] at hq ⊢
      exact hq
    simp only [h1, if_false] at hq ⊢
    by_cases h2 : l = 2
    · simp only [h2, if_true] at hq ⊢
      exact hq
    · simp only [h2, if_false] at hq ⊢
      exact hq
theorem ok_check_end (T : Txt K mg A) : FnOk P w K mg base (CXE P w) 1 A.f_check_end A.fd_check_end ["end"] (spOfX K (sp_checkX A.c_BadWall)) := by
  refine L3.Fun.okX 1 rfl T.d_check_end.F sc_check_end (fun ds G Q Ed h => ?_) (fun cdv Ar outer s H ds G Q Ed E hr h => ?_)
  · revert h; revert ds; refine inv_P ?_; intros; exact rfl
  · refine ⟨_, (show PSsDw _ (_ :: _) _ from (dssw_one (PSD.weak (ds_forX rfl rfl rfl (id_seq (dv 0)) (gd_name (i := 1) sc_check_end.nd rfl (Or.inl rfl)) (dss_one (ds_if (dt_cmp od_gt (de_callB cd_abs (by rfl) T.z_abs bt_abs (da_cons (dv 1) da_nil)) (de_globI (by rfl) T.g_FARTHEST) (nomark _)) (dss_one (ds_raise T.er_BadWall rfl (by rfl) (da_cons de_str da_nil))) dss_nil)))))), ?_⟩
    revert h
    revert ds
    refine inv_P ?_
    intro _ _ h
    rename_i a b
    obtain ⟨hq, hx⟩ := h
    simp only [dSeq, dAsg, dCB, dCons, dNil, dVar, dC, dOp, dUn, dTest, dOr, dNot, dAndV, dOrV, dTup, dLst, dSl, dPart, dIfS, dRet, dDrop, dNext, gdName, qAbs, qI, qI0, qUn, qLen, qSl, dCall, st0, seqD, List.map_cons, List.map_nil, List.length_cons, List.length_nil, List.cons_append, List.nil_append, List.set_cons_zero, List.set_cons_succ, List.getElem?_cons_zero, List.getElem?_cons_succ, Option.some.injEq, Nat.reduceAdd, Nat.reduceSub, List.replicate, Bool.not_eq_true', decide_eq_true_eq, decide_eq_false_iff_not, decide_not, ite_not, Bool.not_eq_eq_eq_not, Bool.not_true, Bool.not_false, if_true, if_false, true_and, and_true, List.cons.injEq, D.int.injEq, D.bl.injEq, D.tup.injEq, ite_true, ite_false, reduceCtorEq, Bool.false_eq_true, divP_lit, pow_lit, mul_lit, mul_litL, mul_litB, qIx, at0, at1, at2, at3, at4, at5, gupd_same, Int.reduceLT, Int.reduceLE, Int.reducePow, Int.reduceToNat, Int.reduceMul, Int.reduceAdd, Int.reduceDiv, Int.reduceSub, Int.reduceNeg, Int.reduceEq, Int.reduceMod, Nat.reduceLT, Nat.reduceLeDiff, sz_line, OD.lst.injEq, and_assoc, dFor, iSeq, dComp, pickS, qIs, isNonD, Bool.and_self, Bool.true_and, Bool.and_true, Bool.false_and, Bool.and_false, dRaise, dCallX, valD, sp_divisor, sh_ii_eq, sh_i_eq, sh_r_eq, sh_rP_eq, sh_iii_eq, sh_iPii_eq, sh_P_eq, sh_PP_eq, sh_rPP_eq, sh_rPPi_eq, sh_rQ_eq, sh_iPP_eq, dsPar, iRng1D, insAt, dFld, dsFld, dMeth, dMake, qIsI, sp_cell, sp_unit, sp_begin, sp_size, sp_lean, sp_spot, sp_headX, sp_line, sp_across, sp_aspoint, sp_checkX, sp_betweenX, sp_wline, sp_woffset, sp_wholds, sp_wends, put1, put2, put3, put4, sp_made, sp_lright, qIsB_bb, qIsB_ib, qIsB_bi, qIsB_ii]
    have out : ∀ {n : Int}, 1000 < absI n ↔ ¬ (-1000 ≤ n ∧ n ≤ 1000) := fun {n} => by unfold absI; split <;> omega
    refine loop_by (fun i σ' G' => G' = G ∧ (∃ z, σ' = [some (.tup [.int a, .int b]), z]) ∧ (0 < i → -1000 ≤ a ∧ a ≤ 1000) ∧ (1 < i → -1000 ≤ b ∧ b ≤ 1000)) ⟨rfl, ⟨_, rfl⟩, by omega, by omega⟩ (fun _ _ _ _ _ => trivial) ?_ ?_
    · rintro i d σ' G' hd ⟨rfl, ⟨z, rfl⟩, ha, hb⟩
      match i, hd with
      | 0, hd =>
        simp only [dSeq, dAsg, dCB, dCons, dNil, dVar, dC, dOp, dUn, dTest, dOr, dNot, dAndV, dOrV, dTup, dLst, dSl, dPart, dIfS, dRet, dDrop, dNext, gdName, qAbs, qI, qI0, qUn, qLen, qSl, dCall, st0, seqD, List.map_cons, List.map_nil, List.length_cons, List.length_nil, List.cons_append, List.nil_append, List.set_cons_zero, List.set_cons_succ, List.getElem?_cons_zero, List.getElem?_cons_succ, Option.some.injEq, Nat.reduceAdd, Nat.reduceSub, List.replicate, Bool.not_eq_true', decide_eq_true_eq, decide_eq_false_iff_not, decide_not, ite_not, Bool.not_eq_eq_eq_not, Bool.not_true, Bool.not_false, if_true, if_false, true_and, and_true, List.cons.injEq, D.int.injEq, D.bl.injEq, D.tup.injEq, ite_true, ite_false, reduceCtorEq, Bool.false_eq_true, divP_lit, pow_lit, mul_lit, mul_litL, mul_litB, qIx, at0, at1, at2, at3, at4, at5, gupd_same, Int.reduceLT, Int.reduceLE, Int.reducePow, Int.reduceToNat, Int.reduceMul, Int.reduceAdd, Int.reduceDiv, Int.reduceSub, Int.reduceNeg, Int.reduceEq, Int.reduceMod, Nat.reduceLT, Nat.reduceLeDiff, sz_line, OD.lst.injEq, and_assoc, dFor, iSeq, dComp, pickS, qIs, isNonD, Bool.and_self, Bool.true_and, Bool.and_true, Bool.false_and, Bool.and_false, dRaise, dCallX, valD, sp_divisor, sh_ii_eq, sh_i_eq, sh_r_eq, sh_rP_eq, sh_iii_eq, sh_iPii_eq, sh_P_eq, sh_PP_eq, sh_rPP_eq, sh_rPPi_eq, sh_rQ_eq, sh_iPP_eq, dsPar, iRng1D, insAt, dFld, dsFld, dMeth, dMake, qIsI, sp_cell, sp_unit, sp_begin, sp_size, sp_lean, sp_spot, sp_headX, sp_line, sp_across, sp_aspoint, sp_checkX, sp_betweenX, sp_wline, sp_woffset, sp_wholds, sp_wends, put1, put2, put3, put4, sp_made, sp_lright, qIsB_bb, qIsB_ib, qIsB_bi, qIsB_ii] at hd
        subst hd
        simp only [dSeq, dAsg, dCB, dCons, dNil, dVar, dC, dOp, dUn, dTest, dOr, dNot, dAndV, dOrV, dTup, dLst, dSl, dPart, dIfS, dRet, dDrop, dNext, gdName, qAbs, qI, qI0, qUn, qLen, qSl, dCall, st0, seqD, List.map_cons, List.map_nil, List.length_cons, List.length_nil, List.cons_append, List.nil_append, List.set_cons_zero, List.set_cons_succ, List.getElem?_cons_zero, List.getElem?_cons_succ, Option.some.injEq, Nat.reduceAdd, Nat.reduceSub, List.replicate, Bool.not_eq_true', decide_eq_true_eq, decide_eq_false_iff_not, decide_not, ite_not, Bool.not_eq_eq_eq_not, Bool.not_true, Bool.not_false, if_true, if_false, true_and, and_true, List.cons.injEq, D.int.injEq, D.bl.injEq, D.tup.injEq, ite_true, ite_false, reduceCtorEq, Bool.false_eq_true, divP_lit, pow_lit, mul_lit, mul_litL, mul_litB, qIx, at0, at1, at2, at3, at4, at5, gupd_same, Int.reduceLT, Int.reduceLE, Int.reducePow, Int.reduceToNat, Int.reduceMul, Int.reduceAdd, Int.reduceDiv, Int.reduceSub, Int.reduceNeg, Int.reduceEq, Int.reduceMod, Nat.reduceLT, Nat.reduceLeDiff, sz_line, OD.lst.injEq, and_assoc, dFor, iSeq, dComp, pickS, qIs, isNonD, Bool.and_self, Bool.true_and, Bool.and_true, Bool.false_and, Bool.and_false, dRaise, dCallX, valD, sp_divisor, sh_ii_eq, sh_i_eq, sh_r_eq, sh_rP_eq, sh_iii_eq, sh_iPii_eq, sh_P_eq, sh_PP_eq, sh_rPP_eq, sh_rPPi_eq, sh_rQ_eq, sh_iPP_eq, dsPar, iRng1D, insAt, dFld, dsFld, dMeth, dMake, qIsI, sp_cell, sp_unit, sp_begin, sp_size, sp_lean, sp_spot, sp_headX, sp_line, sp_across, sp_aspoint, sp_checkX, sp_betweenX, sp_wline, sp_woffset, sp_wholds, sp_wends, put1, put2, put3, put4, sp_made, sp_lright, qIsB_bb, qIsB_ib, qIsB_bi, qIsB_ii, out]
        by_cases hc : -1000 ≤ a ∧ a ≤ 1000
        · rw [if_pos hc]
          exact ⟨⟨_, rfl⟩, fun _ => hc, fun z => z.elim⟩
        · rw [if_neg hc]
          exact hx fun z => hc ⟨z.a0, z.a1⟩
      | 1, hd =>
        simp only [dSeq, dAsg, dCB, dCons, dNil, dVar, dC, dOp, dUn, dTest, dOr, dNot, dAndV, dOrV, dTup, dLst, dSl, dPart, dIfS, dRet, dDrop, dNext, gdName, qAbs, qI, qI0, qUn, qLen, qSl, dCall, st0, seqD, List.map_cons, List.map_nil, List.length_cons, List.length_nil, List.cons_append, List.nil_append, List.set_cons_zero, List.set_cons_succ, List.getElem?_cons_zero, List.getElem?_cons_succ, Option.some.injEq, Nat.reduceAdd, Nat.reduceSub, List.replicate, Bool.not_eq_true', decide_eq_true_eq, decide_eq_false_iff_not, decide_not, ite_not, Bool.not_eq_eq_eq_not, Bool.not_true, Bool.not_false, if_true, if_false, true_and, and_true, List.cons.injEq, D.int.injEq, D.bl.injEq, D.tup.injEq, ite_true, ite_false, reduceCtorEq, Bool.false_eq_true, divP_lit, pow_lit, mul_lit, mul_litL, mul_litB, qIx, at0, at1, at2, at3, at4, at5, gupd_same, Int.reduceLT, Int.reduceLE, Int.reducePow, Int.reduceToNat, Int.reduceMul, Int.reduceAdd, Int.reduceDiv, Int.reduceSub, Int.reduceNeg, Int.reduceEq, Int.reduceMod, Nat.reduceLT, Nat.reduceLeDiff, sz_line, OD.lst.injEq, and_assoc, dFor, iSeq, dComp, pickS, qIs, isNonD, Bool.and_self, Bool.true_and, Bool.and_true, Bool.false_and, Bool.and_false, dRaise, dCallX, valD, sp_divisor, sh_ii_eq, sh_i_eq, sh_r_eq, sh_rP_eq, sh_iii_eq, sh_iPii_eq, sh_P_eq, sh_PP_eq, sh_rPP_eq, sh_rPPi_eq, sh_rQ_eq, sh_iPP_eq, dsPar, iRng1D, insAt, dFld, dsFld, dMeth, dMake, qIsI, sp_cell, sp_unit, sp_begin, sp_size, sp_lean, sp_spot, sp_headX, sp_line, sp_across, sp_aspoint, sp_checkX, sp_betweenX, sp_wline, sp_woffset, sp_wholds, sp_wends, put1, put2, put3, put4, sp_made, sp_lright, qIsB_bb, qIsB_ib, qIsB_bi, qIsB_ii] at hd
        subst hd
        simp only [dSeq, dAsg, dCB, dCons, dNil, dVar, dC, dOp, dUn, dTest, dOr, dNot, dAndV, dOrV, dTup, dLst, dSl, dPart, dIfS, dRet, dDrop, dNext, gdName, qAbs, qI, qI0, qUn, qLen, qSl, dCall, st0, seqD, List.map_cons, List.map_nil, List.length_cons, List.length_nil, List.cons_append, List.nil_append, List.set_cons_zero, List.set_cons_succ, List.getElem?_cons_zero, List.getElem?_cons_succ, Option.some.injEq, Nat.reduceAdd, Nat.reduceSub, List.replicate, Bool.not_eq_true', decide_eq_true_eq, decide_eq_false_iff_not, decide_not, ite_not, Bool.not_eq_eq_eq_not, Bool.not_true, Bool.not_false, if_true, if_false, true_and, and_true, List.cons.injEq, D.int.injEq, D.bl.injEq, D.tup.injEq, ite_true, ite_false, reduceCtorEq, Bool.false_eq_true, divP_lit, pow_lit, mul_lit, mul_litL, mul_litB, qIx, at0, at1, at2, at3, at4, at5, gupd_same, Int.reduceLT, Int.reduceLE, Int.reducePow, Int.reduceToNat, Int.reduceMul, Int.reduceAdd, Int.reduceDiv, Int.reduceSub, Int.reduceNeg, Int.reduceEq, Int.reduceMod, Nat.reduceLT, Nat.reduceLeDiff, sz_line, OD.lst.injEq, and_assoc, dFor, iSeq, dComp, pickS, qIs, isNonD, Bool.and_self, Bool.true_and, Bool.and_true, Bool.false_and, Bool.and_false, dRaise, dCallX, valD, sp_divisor, sh_ii_eq, sh_i_eq, sh_r_eq, sh_rP_eq, sh_iii_eq, sh_iPii_eq, sh_P_eq, sh_PP_eq, sh_rPP_eq, sh_rPPi_eq, sh_rQ_eq, sh_iPP_eq, dsPar, iRng1D, insAt, dFld, dsFld, dMeth, dMake, qIsI, sp_cell, sp_unit, sp_begin, sp_size, sp_lean, sp_spot, sp_headX, sp_line, sp_across, sp_aspoint, sp_checkX, sp_betweenX, sp_wline, sp_woffset, sp_wholds, sp_wends, put1, put2, put3, put4, sp_made, sp_lright, qIsB_bb, qIsB_ib, qIsB_bi, qIsB_ii, out]
        by_cases hc : -1000 ≤ b ∧ b ≤ 1000
        · rw [if_pos hc]
          exact ⟨⟨_, rfl⟩, fun _ => ha (by omega), fun _ => hc⟩
        · rw [if_neg hc]
          exact hx fun z => hc ⟨z.b0, z.b1⟩
      | i + 2, hd => simp at hd
    · rintro σ' G' ⟨rfl, ⟨z, rfl⟩, ha, hb⟩
      have h1 := ha Nat.zero_lt_two
      have h2 := hb Nat.one_lt_two
      exact hq ⟨h1.1, h1.2, h2.1, h2.2⟩
theorem ok_Wall_line (T : Txt K mg A) : FnOk P w K mg base CX0 1 A.f_Wall_line A.fd_Wall_line ["self"] (spOf K (sp_wline A)) := by
  refine L3.Fun.okD 0 rfl T.d_Wall_line.F sc_Wall_line (fun ds G Q h => ?_) (fun cdv Ar outer s H ds G Q E hr h => ?_)
  · revert h; revert ds; refine inv_r ?_; intros; exact rfl
  · refine ⟨_, (show PSsD _ (_ :: _) _ from (dss_one (ds_ret (de_fld (dv 0))))), ?_⟩
    revert h
    revert ds
    refine inv_r ?_
    intro _ h
    rename_i p
    obtain ⟨kk, a, b, c, d, l, n, hw, hq⟩ := h
    obtain ⟨dx, hG⟩ := hw.ex
    obtain ⟨f1, f2, f3⟩ := fld_ok T kk
    simp only [dSeq, dAsg, dCB, dCons, dNil, dVar, dC, dOp, dUn, dTest, dOr, dNot, dAndV, dOrV, dTup, dLst, dSl, dPart, dIfS, dRet, dDrop, dNext, gdName, qAbs, qI, qI0, qUn, qLen, qSl, dCall, st0, seqD, List.map_cons, List.map_nil, List.length_cons, List.length_nil, List.cons_append, List.nil_append, List.set_cons_zero, List.set_cons_succ, List.getElem?_cons_zero, List.getElem?_cons_succ, Option.some.injEq, Nat.reduceAdd, Nat.reduceSub, List.replicate, Bool.not_eq_true', decide_eq_true_eq, decide_eq_false_iff_not, decide_not, ite_not, Bool.not_eq_eq_eq_not, Bool.not_true, Bool.not_false, if_true, if_false, true_and, and_true, List.cons.injEq, D.int.injEq, D.bl.injEq, D.tup.injEq, ite_true, ite_false, reduceCtorEq, Bool.false_eq_true, divP_lit, pow_lit, mul_lit, mul_litL, mul_litB, qIx, at0, at1, at2, at3, at4, at5, gupd_same, Int.reduceLT, Int.reduceLE, Int.reducePow, Int.reduceToNat, Int.reduceMul, Int.reduceAdd, Int.reduceDiv, Int.reduceSub, Int.reduceNeg, Int.reduceEq, Int.reduceMod, Nat.reduceLT, Nat.reduceLeDiff, sz_line, OD.lst.injEq, and_assoc, dFor, iSeq, dComp, pickS, qIs, isNonD, Bool.and_self, Bool.true_and, Bool.and_true, Bool.false_and, Bool.and_false, dRaise, dCallX, valD, sp_divisor, sh_ii_eq, sh_i_eq, sh_r_eq, sh_rP_eq, sh_iii_eq, sh_iPii_eq, sh_P_eq, sh_PP_eq, sh_rPP_eq, sh_rPPi_eq, sh_rQ_eq, sh_iPP_eq, dsPar, iRng1D, insAt, dFld, dsFld, dMeth, dMake, qIsI, sp_cell, sp_unit, sp_begin, sp_size, sp_lean, sp_spot, sp_headX, sp_line, sp_across, sp_aspoint, sp_checkX, sp_betweenX, sp_wline, sp_woffset, sp_wholds, sp_wends, put1, put2, put3, put4, sp_made, sp_lright, qIsB_bb, qIsB_ib, qIsB_bi, qIsB_ii, hG, wF_along]
    exact ⟨f3, hq⟩
theorem mt_line (T : Txt K mg A) : MTab P w K mg base 1 "line" (M_line A) := by
  intro C sp h
  rcases h with ⟨rfl, rfl⟩ | ⟨rfl, rfl⟩ | ⟨rfl, rfl⟩ | ⟨rfl, rfl⟩
  · exact MOk.plain T.o_Mirror.cl ⟨T.o_Mirror.r_line, T.d_Wall_line.m, T.d_Wall_line.F.kp⟩ ((L3.FnOk.lift (ok_Wall_line T)).mono (by decide)) T.d_Wall_line.b
  · exact MOk.plain T.o_Glass.cl ⟨T.o_Glass.r_line, T.d_Wall_line.m, T.d_Wall_line.F.kp⟩ ((L3.FnOk.lift (ok_Wall_line T)).mono (by decide)) T.d_Wall_line.b
  · exact MOk.plain T.o_Hole.cl ⟨T.o_Hole.r_line, T.d_Wall_line.m, T.d_Wall_line.F.kp⟩ ((L3.FnOk.lift (ok_Wall_line T)).mono (by decide)) T.d_Wall_line.b
  · exact MOk.plain T.o_Door.cl ⟨T.o_Door.r_line, T.d_Wall_line.m, T.d_Wall_line.F.kp⟩ ((L3.FnOk.lift (ok_Wall_line T)).mono (by decide)) T.d_Wall_line.b
theorem ok__law_cell_at (T : Txt K mg A) : FnOk P w K mg base CX0 1 A.f__law_cell_at A.fd__law_cell_at ["_law_script", "_law_k"] (spOf K (sp_cell)) := by
  refine L3.Fun.okD 0 rfl T.d__law_cell_at.F sc__law_cell_at (fun ds G Q h => ?_) (fun cdv Ar outer s H ds G Q E hr h => ?_)
  · unfold sp_cell at h; split at h; exact rfl; exact rfl; exact h.elim
  · refine ⟨_, (show PSsD _ (_ :: _) _ from (dss_cons (ds_if (dt_cmp od_lt (dv 1) (de_callB cd_len (by rfl) T.z_len bt_len (da_cons (dv 0) da_nil)) (nomark _)) (dss_one (ds_ret (de_ix (dv 0) (dv 1) (fun _ _ => rfl)))) dss_nil)
      (dss_one (ds_ret de_int)))), ?_⟩
    unfold sp_cell at h
    split at h
    · rename_i k
      obtain ⟨ns, rfl, hk, hq⟩ := h
      simp only [dSeq, dAsg, dCB, dCons, dNil, dVar, dC, dOp, dUn, dTest, dOr, dNot, dAndV, dOrV, dTup, dLst, dSl, dPart, dIfS, dRet, dDrop, dNext, gdName, qAbs, qI, qI0, qUn, qLen, qSl, dCall, st0, seqD, List.map_cons, List.map_nil, List.length_cons, List.length_nil, List.cons_append, List.nil_append, List.set_cons_zero, List.set_cons_succ, List.getElem?_cons_zero, List.getElem?_cons_succ, Option.some.injEq, Nat.reduceAdd, Nat.reduceSub, List.replicate, Bool.not_eq_true', decide_eq_true_eq, decide_eq_false_iff_not, decide_not, ite_not, Bool.not_eq_eq_eq_not, Bool.not_true, Bool.not_false, if_true, if_false, true_and, and_true, List.cons.injEq, D.int.injEq, D.bl.injEq, D.tup.injEq, ite_true, ite_false, reduceCtorEq, Bool.false_eq_true, divP_lit, pow_lit, mul_lit, mul_litL, mul_litB, qIx, at0, at1, at2, at3, at4, at5, gupd_same, Int.reduceLT, Int.reduceLE, Int.reducePow, Int.reduceToNat, Int.reduceMul, Int.reduceAdd, Int.reduceDiv, Int.reduceSub, Int.reduceNeg, Int.reduceEq, Int.reduceMod, Nat.reduceLT, Nat.reduceLeDiff, sz_line, OD.lst.injEq, and_assoc, dFor, iSeq, dComp, pickS, qIs, isNonD, Bool.and_self, Bool.true_and, Bool.and_true, Bool.false_and, Bool.and_false, dRaise, dCallX, valD, sp_divisor, sh_ii_eq, sh_i_eq, sh_r_eq, sh_rP_eq, sh_iii_eq, sh_iPii_eq, sh_P_eq, sh_PP_eq, sh_rPP_eq, sh_rPPi_eq, sh_rQ_eq, sh_iPP_eq, dsPar, iRng1D, insAt, dFld, dsFld, dMeth, dMake, qIsI, sp_cell, sp_unit, sp_begin, sp_size, sp_lean, sp_spot, sp_headX, sp_line, sp_across, sp_aspoint, sp_checkX, sp_betweenX, sp_wline, sp_woffset, sp_wholds, sp_wends, put1, put2, put3, put4, sp_made, sp_lright, qIsB_bb, qIsB_ib, qIsB_bi, qIsB_ii]
      have hl : k < (ns.length : Int) ∨ ¬ k < (ns.length : Int) := Classical.em _
      rcases hl with hl | hl
      · rw [if_pos (by simpa using hl), at_ints hk hl]
        exact hq
      · rw [if_neg (by simpa using hl)]
        have e : ns.getD k.toNat 0 = 0 := by
          have : ns.length ≤ k.toNat := by omega
          simp [List.getD, this]
        rw [e] at hq
        exact hq
    · rename_i k
      obtain ⟨ns, hG, hk, hq⟩ := h
      simp only [dSeq, dAsg, dCB, dCons, dNil, dVar, dC, dOp, dUn, dTest, dOr, dNot, dAndV, dOrV, dTup, dLst, dSl, dPart, dIfS, dRet, dDrop, dNext, gdName, qAbs, qI, qI0, qUn, qLen, qSl, dCall, st0, seqD, List.map_cons, List.map_nil, List.length_cons, List.length_nil, List.cons_append, List.nil_append, List.set_cons_zero, List.set_cons_succ, List.getElem?_cons_zero, List.getElem?_cons_succ, Option.some.injEq, Nat.reduceAdd, Nat.reduceSub, List.replicate, Bool.not_eq_true', decide_eq_true_eq, decide_eq_false_iff_not, decide_not, ite_not, Bool.not_eq_eq_eq_not, Bool.not_true, Bool.not_false, if_true, if_false, true_and, and_true, List.cons.injEq, D.int.injEq, D.bl.injEq, D.tup.injEq, ite_true, ite_false, reduceCtorEq, Bool.false_eq_true, divP_lit, pow_lit, mul_lit, mul_litL, mul_litB, qIx, at0, at1, at2, at3, at4, at5, gupd_same, Int.reduceLT, Int.reduceLE, Int.reducePow, Int.reduceToNat, Int.reduceMul, Int.reduceAdd, Int.reduceDiv, Int.reduceSub, Int.reduceNeg, Int.reduceEq, Int.reduceMod, Nat.reduceLT, Nat.reduceLeDiff, sz_line, OD.lst.injEq, and_assoc, dFor, iSeq, dComp, pickS, qIs, isNonD, Bool.and_self, Bool.true_and, Bool.and_true, Bool.false_and, Bool.and_false, dRaise, dCallX, valD, sp_divisor, sh_ii_eq, sh_i_eq, sh_r_eq, sh_rP_eq, sh_iii_eq, sh_iPii_eq, sh_P_eq, sh_PP_eq, sh_rPP_eq, sh_rPPi_eq, sh_rQ_eq, sh_iPP_eq, dsPar, iRng1D, insAt, dFld, dsFld, dMeth, dMake, qIsI, sp_cell, sp_unit, sp_begin, sp_size, sp_lean, sp_spot, sp_headX, sp_line, sp_across, sp_aspoint, sp_checkX, sp_betweenX, sp_wline, sp_woffset, sp_wholds, sp_wends, put1, put2, put3, put4, sp_made, sp_lright, qIsB_bb, qIsB_ib, qIsB_bi, qIsB_ii, hG]
      have hl : k < (ns.length : Int) ∨ ¬ k < (ns.length : Int) := Classical.em _
      rcases hl with hl | hl
      · rw [if_pos (by simpa using hl), at_ints hk hl]
        exact hq
      · rw [if_neg (by simpa using hl)]
        have e : ns.getD k.toNat 0 = 0 := by
          have : ns.length ≤ k.toNat := by omega
          simp [List.getD, this]
        rw [e] at hq
        exact hq
    · exact h.elim
theorem ok__law_shared (T : Txt K mg A) : FnOk P w K mg base CX0 1 A.f__law_shared A.fd__law_shared ["_law_one", "_law_other"] (spOf K (sp_divisor)) := by
  refine L3.Fun.okD 2 rfl T.d__law_shared.F sc__law_shared (fun ds G Q h => ?_) (fun cdv Ar outer s H ds G Q E hr h => ?_)
  · revert h; revert ds; refine inv_ii ?_; intros; exact rfl
  · refine ⟨_, (show PSsD _ (_ :: _) _ from (dss_cons (ds_set (i := 2) sc__law_shared.nd rfl (Or.inl rfl) (de_callB cd_abs (by rfl) T.z_abs bt_abs (da_cons (dv 0) da_nil)))
      (dss_cons (ds_set (i := 3) sc__law_shared.nd rfl (Or.inl rfl) (de_callB cd_abs (by rfl) T.z_abs bt_abs (da_cons (dv 1) da_nil)))
      (dss_cons (ds_while PassesOwn.never (dt_cmp od_gt (dv 3) de_int (nomark _)) (dss_one (ds_par (i := 2) (k := 3) rfl sc__law_shared.nd rfl rfl (by decide) rfl rfl (da_cons (dv 3) (da_cons (de_op od_modP (dv 2) (dv 3)) da_nil)) (by rfl))))
      (dss_one (ds_ret (dv 2))))))), ?_⟩
    revert h
    revert ds
    refine inv_ii ?_
    intro _ _ h
    rename_i a b
    have hq := h
    simp only [dSeq, dAsg, dCB, dCons, dNil, dVar, dC, dOp, dUn, dTest, dOr, dNot, dAndV, dOrV, dTup, dLst, dSl, dPart, dIfS, dRet, dDrop, dNext, gdName, qAbs, qI, qI0, qUn, qLen, qSl, dCall, st0, seqD, List.map_cons, List.map_nil, List.length_cons, List.length_nil, List.cons_append, List.nil_append, List.set_cons_zero, List.set_cons_succ, List.getElem?_cons_zero, List.getElem?_cons_succ, Option.some.injEq, Nat.reduceAdd, Nat.reduceSub, List.replicate, Bool.not_eq_true', decide_eq_true_eq, decide_eq_false_iff_not, decide_not, ite_not, Bool.not_eq_eq_eq_not, Bool.not_true, Bool.not_false, if_true, if_false, true_and, and_true, List.cons.injEq, D.int.injEq, D.bl.injEq, D.tup.injEq, ite_true, ite_false, reduceCtorEq, Bool.false_eq_true, divP_lit, pow_lit, mul_lit, mul_litL, mul_litB, qIx, at0, at1, at2, at3, at4, at5, gupd_same, Int.reduceLT, Int.reduceLE, Int.reducePow, Int.reduceToNat, Int.reduceMul, Int.reduceAdd, Int.reduceDiv, Int.reduceSub, Int.reduceNeg, Int.reduceEq, Int.reduceMod, Nat.reduceLT, Nat.reduceLeDiff, sz_line, OD.lst.injEq, and_assoc, dFor, iSeq, dComp, pickS, qIs, isNonD, Bool.and_self, Bool.true_and, Bool.and_true, Bool.false_and, Bool.and_false, dRaise, dCallX, valD, sp_divisor, sh_ii_eq, sh_i_eq, sh_r_eq, sh_rP_eq, sh_iii_eq, sh_iPii_eq, sh_P_eq, sh_PP_eq, sh_rPP_eq, sh_rPPi_eq, sh_rQ_eq, sh_iPP_eq, dsPar, iRng1D, insAt, dFld, dsFld, dMeth, dMake, qIsI, sp_cell, sp_unit, sp_begin, sp_size, sp_lean, sp_spot, sp_headX, sp_line, sp_across, sp_aspoint, sp_checkX, sp_betweenX, sp_wline, sp_woffset, sp_wholds, sp_wends, put1, put2, put3, put4, sp_made, sp_lright, qIsB_bb, qIsB_ib, qIsB_bi, qIsB_ii]
    refine whileW (fun m σ' G' => ∃ (l r : Int), m = r.toNat ∧ σ' = [some (.int a), some (.int b), some (.int l), some (.int r)] ∧ 0 ≤ l ∧ 0 ≤ r ∧ Int.gcd l r = Int.gcd a b ∧ GS G G')
      _ ⟨_, _, rfl, rfl, absI_nn a, absI_nn b, gcd_abs a b, .refl⟩ ?_
    rintro _ σ' G' ⟨l, r, rfl, rfl, h0, h1, hg, hs⟩
    simp only [dSeq, dAsg, dCB, dCons, dNil, dVar, dC, dOp, dUn, dTest, dOr, dNot, dAndV, dOrV, dTup, dLst, dSl, dPart, dIfS, dRet, dDrop, dNext, gdName, qAbs, qI, qI0, qUn, qLen, qSl, dCall, st0, seqD, List.map_cons, List.map_nil, List.length_cons, List.length_nil, List.cons_append, List.nil_append, List.set_cons_zero, List.set_cons_succ, List.getElem?_cons_zero, List.getElem?_cons_succ, Option.some.injEq, Nat.reduceAdd, Nat.reduceSub, List.replicate, Bool.not_eq_true', decide_eq_true_eq, decide_eq_false_iff_not, decide_not, ite_not, Bool.not_eq_eq_eq_not, Bool.not_true, Bool.not_false, if_true, if_false, true_and, and_true, List.cons.injEq, D.int.injEq, D.bl.injEq, D.tup.injEq, ite_true, ite_false, reduceCtorEq, Bool.false_eq_true, divP_lit, pow_lit, mul_lit, mul_litL, mul_litB, qIx, at0, at1, at2, at3, at4, at5, gupd_same, Int.reduceLT, Int.reduceLE, Int.reducePow, Int.reduceToNat, Int.reduceMul, Int.reduceAdd, Int.reduceDiv, Int.reduceSub, Int.reduceNeg, Int.reduceEq, Int.reduceMod, Nat.reduceLT, Nat.reduceLeDiff, sz_line, OD.lst.injEq, and_assoc, dFor, iSeq, dComp, pickS, qIs, isNonD, Bool.and_self, Bool.true_and, Bool.and_true, Bool.false_and, Bool.and_false, dRaise, dCallX, valD, sp_divisor, sh_ii_eq, sh_i_eq, sh_r_eq, sh_rP_eq, sh_iii_eq, sh_iPii_eq, sh_P_eq, sh_PP_eq, sh_rPP_eq, sh_rPPi_eq, sh_rQ_eq, sh_iPP_eq, dsPar, iRng1D, insAt, dFld, dsFld, dMeth, dMake, qIsI, sp_cell, sp_unit, sp_begin, sp_size, sp_lean, sp_spot, sp_headX, sp_line, sp_across, sp_aspoint, sp_checkX, sp_betweenX, sp_wline, sp_woffset, sp_wholds, sp_wends, put1, put2, put3, put4, sp_made, sp_lright, qIsB_bb, qIsB_ib, qIsB_bi, qIsB_ii]
    by_cases hr1 : 0 < r
    · simp only [hr1, if_true]
      have h2 := Int.emod_lt_of_pos l hr1
      have h3 := Int.emod_nonneg l (by omega : r ≠ 0)
      exact ⟨_, fun _ _ z => z, trivial, _, (by omega : (l % r).toNat < r.toNat), r, l % r, rfl, rfl, h1, h3, (gcd_turn hr1 h0).trans hg, hs⟩
    · simp only [hr1, if_false]
      have hr0 : r = 0 := by omega
      subst hr0
      rw [← hg, gcd_done l h0] at hq
      exact hq G' hs
theorem ok__law_unit (T : Txt K mg A) : FnOk P w K mg base CX0 1 A.f__law_unit A.fd__law_unit ["_law_line"] (spOf K (sp_unit)) := by
  refine L3.Fun.okD 0 rfl T.d__law_unit.F sc__law_unit (fun ds G Q h => ?_) (fun cdv Ar outer s H ds G Q E hr h => ?_)
  · revert h; revert ds; refine inv_i ?_; intros; exact rfl
  · refine ⟨_, (show PSsD _ (_ :: _) _ from (dss_one (ds_ret (de_ix (de_lst (da_cons (de_tup (da_cons de_int (da_cons de_int da_nil))) (da_cons (de_tup (da_cons de_int (da_cons de_int da_nil))) (da_cons (de_tup (da_cons de_int (da_cons de_int da_nil))) (da_cons (de_tup (da_cons de_int (da_cons (de_un ud_neg de_int) da_nil))) da_nil))))) (dv 0) (fun _ _ => rfl))))), ?_⟩
    revert h
    revert ds
    refine inv_i ?_
    intro _ h
    rename_i l
    obtain ⟨⟨h0, h1⟩, hq⟩ := h
    simp only [dSeq, dAsg, dCB, dCons, dNil, dVar, dC, dOp, dUn, dTest, dOr, dNot, dAndV, dOrV, dTup, dLst, dSl, dPart, dIfS, dRet, dDrop, dNext, gdName, qAbs, qI, qI0, qUn, qLen, qSl, dCall, st0, seqD, List.map_cons, List.map_nil, List.length_cons, List.length_nil, List.cons_append, List.nil_append, List.set_cons_zero, List.set_cons_succ, List.getElem?_cons_zero, List.getElem?_cons_succ, Option.some.injEq, Nat.reduceAdd, Nat.reduceSub, List.replicate, Bool.not_eq_true', decide_eq_true_eq, decide_eq_false_iff_not, decide_not, ite_not, Bool.not_eq_eq_eq_not, Bool.not_true, Bool.not_false, if_true, if_false, true_and, and_true, List.cons.injEq, D.int.injEq, D.bl.injEq, D.tup.injEq, ite_true, ite_false, reduceCtorEq, Bool.false_eq_true, divP_lit, pow_lit, mul_lit, mul_litL, mul_litB, qIx, at0, at1, at2, at3, at4, at5, gupd_same, Int.reduceLT, Int.reduceLE, Int.reducePow, Int.reduceToNat, Int.reduceMul, Int.reduceAdd, Int.reduceDiv, Int.reduceSub, Int.reduceNeg, Int.reduceEq, Int.reduceMod, Nat.reduceLT, Nat.reduceLeDiff, sz_line, OD.lst.injEq, and_assoc, dFor, iSeq, dComp, pickS, qIs, isNonD, Bool.and_self, Bool.true_and, Bool.and_true, Bool.false_and, Bool.and_false, dRaise, dCallX, valD, sp_divisor, sh_ii_eq, sh_i_eq, sh_r_eq, sh_rP_eq, sh_iii_eq, sh_iPii_eq, sh_P_eq, sh_PP_eq, sh_rPP_eq, sh_rPPi_eq, sh_rQ_eq, sh_iPP_eq, dsPar, iRng1D, insAt, dFld, dsFld, dMeth, dMake, qIsI, sp_cell, sp_unit, sp_begin, sp_size, sp_lean, sp_spot, sp_headX, sp_line, sp_across, sp_aspoint, sp_checkX, sp_betweenX, sp_wline, sp_woffset, sp_wholds, sp_wends, put1, put2, put3, put4, sp_made, sp_lright, qIsB_bb, qIsB_ib, qIsB_bi, qIsB_ii]
    intro p hp
    have hc := four h0 h1
    rcases hc with rfl | rfl | rfl | rfl <;> simp only [dSeq, dAsg, dCB, dCons, dNil, dVar, dC, dOp, dUn, dTest, dOr, dNot, dAndV, dOrV, dTup, dLst, dSl, dPart, dIfS, dRet, dDrop, dNext, gdName, qAbs, qI, qI0, qUn, qLen, qSl, dCall, st0, seqD, List.map_cons, List.map_nil, List.length_cons, List.length_nil, List.cons_append, List.nil_append, List.set_cons_zero, List.set_cons_succ, List.getElem?_cons_zero, List.getElem?_cons_succ, Option.some.injEq, Nat.reduceAdd, Nat.reduceSub, List.replicate, Bool.not_eq_true', decide_eq_true_eq, decide_eq_false_iff_not, decide_not, ite_not, Bool.not_eq_eq_eq_not, Bool.not_true, Bool.not_false, if_true, if_false, true_and, and_true, List.cons.injEq, D.int.injEq, D.bl.injEq, D.tup.injEq, ite_true, ite_false, reduceCtorEq, Bool.false_eq_true, divP_lit, pow_lit, mul_lit, mul_litL, mul_litB, qIx, at0, at1, at2, at3, at4, at5, gupd_same, Int.reduceLT, Int.reduceLE, Int.reducePow, Int.reduceToNat, Int.reduceMul, Int.reduceAdd, Int.reduceDiv, Int.reduceSub, Int.reduceNeg, Int.reduceEq, Int.reduceMod, Nat.reduceLT, Nat.reduceLeDiff, sz_line, OD.lst.injEq, and_assoc, dFor, iSeq, dComp, pickS, qIs, isNonD, Bool.and_self, Bool.true_and, Bool.and_true, Bool.false_and, Bool.and_false, dRaise, dCallX, valD, sp_divisor, sh_ii_eq, sh_i_eq, sh_r_eq, sh_rP_eq, sh_iii_eq, sh_iPii_eq, sh_P_eq, sh_PP_eq, sh_rPP_eq, sh_rPPi_eq, sh_rQ_eq, sh_iPP_eq, dsPar, iRng1D, insAt, dFld, dsFld, dMeth, dMake, qIsI, sp_cell, sp_unit, sp_begin, sp_size, sp_lean, sp_spot, sp_headX, sp_line, sp_across, sp_aspoint, sp_checkX, sp_betweenX, sp_wline, sp_woffset, sp_wholds, sp_wends, put1, put2, put3, put4, sp_made, sp_lright, qIsB_bb, qIsB_ib, qIsB_bi, qIsB_ii, gupd_same] <;> exact hq _ (.laid hp)
theorem ok__law_begin (T : Txt K mg A) : FnOk P w K mg base CX0 1 A.f__law_begin A.fd__law_begin ["_law_xs"] (spOf K (sp_begin)) := by
  refine L3.Fun.okD 2 rfl T.d__law_begin.F sc__law_begin (fun ds G Q h => ?_) (fun cdv Ar outer s H ds G Q E hr h => ?_)
  · revert h; revert ds; refine inv_r ?_; intros; exact rfl
  · refine ⟨_, (show PSsD _ (_ :: _) _ from (dss_cons (ds_set (i := 1) sc__law_begin.nd rfl (Or.inl rfl) (de_op od_sub (de_op od_modP (de_ix (dv 0) de_int (fun _ _ => rfl)) de_int) de_int))
      (dss_cons (ds_set (i := 2) sc__law_begin.nd rfl (Or.inl rfl) (de_op od_sub (de_op od_modP (de_ix (dv 0) de_int (fun _ _ => rfl)) de_int) de_int))
      (dss_cons (ds_if (dt_cmp od_eqI (de_op od_modP (de_ix (dv 0) de_int (fun _ _ => rfl)) de_int) de_int (nomark _)) (dss_one (ds_set (i := 2) sc__law_begin.nd rfl (Or.inl rfl) (de_op od_sub de_int (dv 2)))) dss_nil)
      (dss_one (ds_ret (de_tup (da_cons (dv 1) (da_cons (dv 2) da_nil))))))))), ?_⟩
    revert h
    revert ds
    refine inv_r ?_
    intro _ h
    rename_i p
    obtain ⟨cs, hG, hl, hq⟩ := h
    have e0 : atI (cs.map D.int) 0 = some (D.int (cs.getD 0 0)) := at_cells (j := 0) (by omega)
    have e1 : atI (cs.map D.int) 1 = some (D.int (cs.getD 1 0)) := at_cells (j := 1) (by omega)
    have e2 : atI (cs.map D.int) 2 = some (D.int (cs.getD 2 0)) := at_cells (j := 2) (by omega)
    have e3 : atI (cs.map D.int) 3 = some (D.int (cs.getD 3 0)) := at_cells (j := 3) (by omega)
    generalize hc0 : cs.getD 0 0 = c0 at *
    generalize cs.getD 1 0 = c1 at *
    generalize cs.getD 2 0 = c2 at *
    generalize cs.getD 3 0 = c3 at *
    simp only [dSeq, dAsg, dCB, dCons, dNil, dVar, dC, dOp, dUn, dTest, dOr, dNot, dAndV, dOrV, dTup, dLst, dSl, dPart, dIfS, dRet, dDrop, dNext, gdName, qAbs, qI, qI0, qUn, qLen, qSl, dCall, st0, seqD, List.map_cons, List.map_nil, List.length_cons, List.length_nil, List.cons_append, List.nil_append, List.set_cons_zero, List.set_cons_succ, List.getElem?_cons_zero, List.getElem?_cons_succ, Option.some.injEq, Nat.reduceAdd, Nat.reduceSub, List.replicate, Bool.not_eq_true', decide_eq_true_eq, decide_eq_false_iff_not, decide_not, ite_not, Bool.not_eq_eq_eq_not, Bool.not_true, Bool.not_false, if_true, if_false, true_and, and_true, List.cons.injEq, D.int.injEq, D.bl.injEq, D.tup.injEq, ite_true, ite_false, reduceCtorEq, Bool.false_eq_true, divP_lit, pow_lit, mul_lit, mul_litL, mul_litB, qIx, at0, at1, at2, at3, at4, at5, gupd_same, Int.reduceLT, Int.reduceLE, Int.reducePow, Int.reduceToNat, Int.reduceMul, Int.reduceAdd, Int.reduceDiv, Int.reduceSub, Int.reduceNeg, Int.reduceEq, Int.reduceMod, Nat.reduceLT, Nat.reduceLeDiff, sz_line, OD.lst.injEq, and_assoc, dFor, iSeq, dComp, pickS, qIs, isNonD, Bool.and_self, Bool.true_and, Bool.and_true, Bool.false_and, Bool.and_false, dRaise, dCallX, valD, sp_divisor, sh_ii_eq, sh_i_eq, sh_r_eq, sh_rP_eq, sh_iii_eq, sh_iPii_eq, sh_P_eq, sh_PP_eq, sh_rPP_eq, sh_rPPi_eq, sh_rQ_eq, sh_iPP_eq, dsPar, iRng1D, insAt, dFld, dsFld, dMeth, dMake, qIsI, sp_cell, sp_unit, sp_begin, sp_size, sp_lean, sp_spot, sp_headX, sp_line, sp_across, sp_aspoint, sp_checkX, sp_betweenX, sp_wline, sp_woffset, sp_wholds, sp_wends, put1, put2, put3, put4, sp_made, sp_lright, qIsB_bb, qIsB_ib, qIsB_bi, qIsB_ii, hG, e0, e1, e2]
    have a1 := Int.emod_nonneg c1 (by decide : (2000 : Int) ≠ 0)
    have a2 := Int.emod_lt_of_pos c1 (by decide : (0 : Int) < 2000)
    have b1 := Int.emod_nonneg c2 (by decide : (2000 : Int) ≠ 0)
    have b2 := Int.emod_lt_of_pos c2 (by decide : (0 : Int) < 2000)
    have hx := beg_up a1 a2
    by_cases h3 : c0 % 4 = 3
    · rw [if_pos h3]
      have hy := beg_dn b1 b2
      exact hq _ _ ⟨hx.1, hx.2, Int.le_trans (by decide) hy.1, hy.2, fun z => absurd h3 z, fun _ => hy.1⟩
    · rw [if_neg h3]
      have hy := beg_up b1 b2
      exact hq _ _ ⟨hx.1, hx.2, hy.1, Int.le_trans hy.2 (by decide), fun _ => hy.2, fun z => absurd z h3⟩
theorem ok__law_size (T : Txt K mg A) : FnOk P w K mg base CX0 1 A.f__law_size A.fd__law_size ["_law_xs", "_law_spot_here"] (spOf K (sp_size)) := by
  refine L3.Fun.okD 1 rfl T.d__law_size.F sc__law_size (fun ds G Q h => ?_) (fun cdv Ar outer s H ds G Q E hr h => ?_)
  · revert h; revert ds; refine inv_rP ?_; intros; exact rfl
  · refine ⟨_, (show PSsD _ (_ :: _) _ from (dss_cons (ds_set (i := 2) sc__law_size.nd rfl (Or.inl rfl) (de_ix (de_lst (da_cons (de_op od_sub de_int (de_ix (dv 1) de_int (fun _ _ => rfl))) (da_cons (de_op od_sub de_int (de_callB (cd_maxP rfl) (by rfl) T.z_max bt_max (da_cons (dv 1) da_nil))) (da_cons (de_op od_sub de_int (de_ix (dv 1) de_int (fun _ _ => rfl))) (da_cons (de_op od_sub de_int (de_callB (cd_maxI rfl) (by rfl) T.z_max bt_max (da_cons (de_ix (dv 1) de_int (fun _ _ => rfl)) (da_cons (de_op od_sub de_int (de_ix (dv 1) de_int (fun _ _ => rfl))) da_nil)))) da_nil))))) (de_op od_modP (de_ix (dv 0) de_int (fun _ _ => rfl)) de_int) (fun _ _ => rfl)))
      (dss_cons (ds_if (dt_cmp od_eqI (de_op od_modP (de_ix (dv 0) de_int (fun _ _ => rfl)) de_int) de_int (nomark _)) (dss_one (ds_set (i := 2) sc__law_size.nd rfl (Or.inl rfl) (de_callB (cd_minI rfl) (by rfl) T.z_min bt_min (da_cons (dv 2) (da_cons de_int da_nil))))) dss_nil)
      (dss_one (ds_ret (de_op od_addI de_int (de_op od_modP (de_op od_fdivP (de_ix (dv 0) de_int (fun _ _ => rfl)) de_int) (dv 2)))))))), ?_⟩
    revert h
    revert ds
    refine inv_rP ?_
    intro _ _ _ h
    rename_i p x y
    obtain ⟨cs, hG, hl, hB, hq⟩ := h
    have e0 : atI (cs.map D.int) 0 = some (D.int (cs.getD 0 0)) := at_cells (j := 0) (by omega)
    have e1 : atI (cs.map D.int) 1 = some (D.int (cs.getD 1 0)) := at_cells (j := 1) (by omega)
    have e2 : atI (cs.map D.int) 2 = some (D.int (cs.getD 2 0)) := at_cells (j := 2) (by omega)
    have e3 : atI (cs.map D.int) 3 = some (D.int (cs.getD 3 0)) := at_cells (j := 3) (by omega)
    generalize hc0 : cs.getD 0 0 = c0 at *
    generalize cs.getD 1 0 = c1 at *
    generalize cs.getD 2 0 = c2 at *
    generalize cs.getD 3 0 = c3 at *
    obtain ⟨x0, x1, y0, y1, up, dn⟩ := hB
    simp only [dSeq, dAsg, dCB, dCons, dNil, dVar, dC, dOp, dUn, dTest, dOr, dNot, dAndV, dOrV, dTup, dLst, dSl, dPart, dIfS, dRet, dDrop, dNext, gdName, qAbs, qI, qI0, qUn, qLen, qSl, dCall, st0, seqD, List.map_cons, List.map_nil, List.length_cons, List.length_nil, List.cons_append, List.nil_append, List.set_cons_zero, List.set_cons_succ, List.getElem?_cons_zero, List.getElem?_cons_succ, Option.some.injEq, Nat.reduceAdd, Nat.reduceSub, List.replicate, Bool.not_eq_true', decide_eq_true_eq, decide_eq_false_iff_not, decide_not, ite_not, Bool.not_eq_eq_eq_not, Bool.not_true, Bool.not_false, if_true, if_false, true_and, and_true, List.cons.injEq, D.int.injEq, D.bl.injEq, D.tup.injEq, ite_true, ite_false, reduceCtorEq, Bool.false_eq_true, divP_lit, pow_lit, mul_lit, mul_litL, mul_litB, qIx, at0, at1, at2, at3, at4, at5, gupd_same, Int.reduceLT, Int.reduceLE, Int.reducePow, Int.reduceToNat, Int.reduceMul, Int.reduceAdd, Int.reduceDiv, Int.reduceSub, Int.reduceNeg, Int.reduceEq, Int.reduceMod, Nat.reduceLT, Nat.reduceLeDiff, sz_line, OD.lst.injEq, and_assoc, dFor, iSeq, dComp, pickS, qIs, isNonD, Bool.and_self, Bool.true_and, Bool.and_true, Bool.false_and, Bool.and_false, dRaise, dCallX, valD, sp_divisor, sh_ii_eq, sh_i_eq, sh_r_eq, sh_rP_eq, sh_iii_eq, sh_iPii_eq, sh_P_eq, sh_PP_eq, sh_rPP_eq, sh_rPPi_eq, sh_rQ_eq, sh_iPP_eq, dsPar, iRng1D, insAt, dFld, dsFld, dMeth, dMake, qIsI, sp_cell, sp_unit, sp_begin, sp_size, sp_lean, sp_spot, sp_headX, sp_line, sp_across, sp_aspoint, sp_checkX, sp_betweenX, sp_wline, sp_woffset, sp_wholds, sp_wends, put1, put2, put3, put4, sp_made, sp_lright, qIsB_bb, qIsB_ib, qIsB_bi, qIsB_ii, hG, e0, e1, e2, e3]
    refine ⟨x, y, rfl, ?_⟩
    simp only [dSeq, dAsg, dCB, dCons, dNil, dVar, dC, dOp, dUn, dTest, dOr, dNot, dAndV, dOrV, dTup, dLst, dSl, dPart, dIfS, dRet, dDrop, dNext, gdName, qAbs, qI, qI0, qUn, qLen, qSl, dCall, st0, seqD, List.map_cons, List.map_nil, List.length_cons, List.length_nil, List.cons_append, List.nil_append, List.set_cons_zero, List.set_cons_succ, List.getElem?_cons_zero, List.getElem?_cons_succ, Option.some.injEq, Nat.reduceAdd, Nat.reduceSub, List.replicate, Bool.not_eq_true', decide_eq_true_eq, decide_eq_false_iff_not, decide_not, ite_not, Bool.not_eq_eq_eq_not, Bool.not_true, Bool.not_false, if_true, if_false, true_and, and_true, List.cons.injEq, D.int.injEq, D.bl.injEq, D.tup.injEq, ite_true, ite_false, reduceCtorEq, Bool.false_eq_true, divP_lit, pow_lit, mul_lit, mul_litL, mul_litB, qIx, at0, at1, at2, at3, at4, at5, gupd_same, Int.reduceLT, Int.reduceLE, Int.reducePow, Int.reduceToNat, Int.reduceMul, Int.reduceAdd, Int.reduceDiv, Int.reduceSub, Int.reduceNeg, Int.reduceEq, Int.reduceMod, Nat.reduceLT, Nat.reduceLeDiff, sz_line, OD.lst.injEq, and_assoc, dFor, iSeq, dComp, pickS, qIs, isNonD, Bool.and_self, Bool.true_and, Bool.and_true, Bool.false_and, Bool.and_false, dRaise, dCallX, valD, sp_divisor, sh_ii_eq, sh_i_eq, sh_r_eq, sh_rP_eq, sh_iii_eq, sh_iPii_eq, sh_P_eq, sh_PP_eq, sh_rPP_eq, sh_rPPi_eq, sh_rQ_eq, sh_iPP_eq, dsPar, iRng1D, insAt, dFld, dsFld, dMeth, dMake, qIsI, sp_cell, sp_unit, sp_begin, sp_size, sp_lean, sp_spot, sp_headX, sp_line, sp_across, sp_aspoint, sp_checkX, sp_betweenX, sp_wline, sp_woffset, sp_wholds, sp_wends, put1, put2, put3, put4, sp_made, sp_lright, qIsB_bb, qIsB_ib, qIsB_bi, qIsB_ii]
    refine ⟨_, _, rfl, ?_⟩
    simp only [dSeq, dAsg, dCB, dCons, dNil, dVar, dC, dOp, dUn, dTest, dOr, dNot, dAndV, dOrV, dTup, dLst, dSl, dPart, dIfS, dRet, dDrop, dNext, gdName, qAbs, qI, qI0, qUn, qLen, qSl, dCall, st0, seqD, List.map_cons, List.map_nil, List.length_cons, List.length_nil, List.cons_append, List.nil_append, List.set_cons_zero, List.set_cons_succ, List.getElem?_cons_zero, List.getElem?_cons_succ, Option.some.injEq, Nat.reduceAdd, Nat.reduceSub, List.replicate, Bool.not_eq_true', decide_eq_true_eq, decide_eq_false_iff_not, decide_not, ite_not, Bool.not_eq_eq_eq_not, Bool.not_true, Bool.not_false, if_true, if_false, true_and, and_true, List.cons.injEq, D.int.injEq, D.bl.injEq, D.tup.injEq, ite_true, ite_false, reduceCtorEq, Bool.false_eq_true, divP_lit, pow_lit, mul_lit, mul_litL, mul_litB, qIx, at0, at1, at2, at3, at4, at5, gupd_same, Int.reduceLT, Int.reduceLE, Int.reducePow, Int.reduceToNat, Int.reduceMul, Int.reduceAdd, Int.reduceDiv, Int.reduceSub, Int.reduceNeg, Int.reduceEq, Int.reduceMod, Nat.reduceLT, Nat.reduceLeDiff, sz_line, OD.lst.injEq, and_assoc, dFor, iSeq, dComp, pickS, qIs, isNonD, Bool.and_self, Bool.true_and, Bool.and_true, Bool.false_and, Bool.and_false, dRaise, dCallX, valD, sp_divisor, sh_ii_eq, sh_i_eq, sh_r_eq, sh_rP_eq, sh_iii_eq, sh_iPii_eq, sh_P_eq, sh_PP_eq, sh_rPP_eq, sh_rPPi_eq, sh_rQ_eq, sh_iPP_eq, dsPar, iRng1D, insAt, dFld, dsFld, dMeth, dMake, qIsI, sp_cell, sp_unit, sp_begin, sp_size, sp_lean, sp_spot, sp_headX, sp_line, sp_across, sp_aspoint, sp_checkX, sp_betweenX, sp_wline, sp_woffset, sp_wholds, sp_wends, put1, put2, put3, put4, sp_made, sp_lright, qIsB_bb, qIsB_ib, qIsB_bi, qIsB_ii, hG, e0]
    intro q hp
    have hpq : p ≠ q := gne_none hG hp
    have ec := (GS.laid (o := OD.lst [D.int (1000 - x), D.int (1000 - max x y), D.int (1000 - y), D.int (1000 - max x (0 - y))]) hp) p _ hG
    have m0 := Int.emod_nonneg c0 (by decide : (4 : Int) ≠ 0)
    have m1 := Int.emod_lt_of_pos c0 (by decide : (0 : Int) < 4)
    simp only [dSeq, dAsg, dCB, dCons, dNil, dVar, dC, dOp, dUn, dTest, dOr, dNot, dAndV, dOrV, dTup, dLst, dSl, dPart, dIfS, dRet, dDrop, dNext, gdName, qAbs, qI, qI0, qUn, qLen, qSl, dCall, st0, seqD, List.map_cons, List.map_nil, List.length_cons, List.length_nil, List.cons_append, List.nil_append, List.set_cons_zero, List.set_cons_succ, List.getElem?_cons_zero, List.getElem?_cons_succ, Option.some.injEq, Nat.reduceAdd, Nat.reduceSub, List.replicate, Bool.not_eq_true', decide_eq_true_eq, decide_eq_false_iff_not, decide_not, ite_not, Bool.not_eq_eq_eq_not, Bool.not_true, Bool.not_false, if_true, if_false, true_and, and_true, List.cons.injEq, D.int.injEq, D.bl.injEq, D.tup.injEq, ite_true, ite_false, reduceCtorEq, Bool.false_eq_true, divP_lit, pow_lit, mul_lit, mul_litL, mul_litB, qIx, at0, at1, at2, at3, at4, at5, gupd_same, Int.reduceLT, Int.reduceLE, Int.reducePow, Int.reduceToNat, Int.reduceMul, Int.reduceAdd, Int.reduceDiv, Int.reduceSub, Int.reduceNeg, Int.reduceEq, Int.reduceMod, Nat.reduceLT, Nat.reduceLeDiff, sz_line, OD.lst.injEq, and_assoc, dFor, iSeq, dComp, pickS, qIs, isNonD, Bool.and_self, Bool.true_and, Bool.and_true, Bool.false_and, Bool.and_false, dRaise, dCallX, valD, sp_divisor, sh_ii_eq, sh_i_eq, sh_r_eq, sh_rP_eq, sh_iii_eq, sh_iPii_eq, sh_P_eq, sh_PP_eq, sh_rPP_eq, sh_rPPi_eq, sh_rQ_eq, sh_iPP_eq, dsPar, iRng1D, insAt, dFld, dsFld, dMeth, dMake, qIsI, sp_cell, sp_unit, sp_begin, sp_size, sp_lean, sp_spot, sp_headX, sp_line, sp_across, sp_aspoint, sp_checkX, sp_betweenX, sp_wline, sp_woffset, sp_wholds, sp_wends, put1, put2, put3, put4, sp_made, sp_lright, qIsB_bb, qIsB_ib, qIsB_bi, qIsB_ii, ec, gupd_same, e0, e3]
    generalize hlz : c0 % 4 = l at *
    obtain ⟨r, er, r0, r1, rf⟩ := size_reach m0 m1 x0 x1 y0 y1 up dn
    simp only [dSeq, dAsg, dCB, dCons, dNil, dVar, dC, dOp, dUn, dTest, dOr, dNot, dAndV, dOrV, dTup, dLst, dSl, dPart, dIfS, dRet, dDrop, dNext, gdName, qAbs, qI, qI0, qUn, qLen, qSl, dCall, st0, seqD, List.map_cons, List.map_nil, List.length_cons, List.length_nil, List.cons_append, List.nil_append, List.set_cons_zero, List.set_cons_succ, List.getElem?_cons_zero, List.getElem?_cons_succ, Option.some.injEq, Nat.reduceAdd, Nat.reduceSub, List.replicate, Bool.not_eq_true', decide_eq_true_eq, decide_eq_false_iff_not, decide_not, ite_not, Bool.not_eq_eq_eq_not, Bool.not_true, Bool.not_false, if_true, if_false, true_and, and_true, List.cons.injEq, D.int.injEq, D.bl.injEq, D.tup.injEq, ite_true, ite_false, reduceCtorEq, Bool.false_eq_true, divP_lit, pow_lit, mul_lit, mul_litL, mul_litB, qIx, at0, at1, at2, at3, at4, at5, gupd_same, Int.reduceLT, Int.reduceLE, Int.reducePow, Int.reduceToNat, Int.reduceMul, Int.reduceAdd, Int.reduceDiv, Int.reduceSub, Int.reduceNeg, Int.reduceEq, Int.reduceMod, Nat.reduceLT, Nat.reduceLeDiff, sz_line, OD.lst.injEq, and_assoc, dFor, iSeq, dComp, pickS, qIs, isNonD, Bool.and_self, Bool.true_and, Bool.and_true, Bool.false_and, Bool.and_false, dRaise, dCallX, valD, sp_divisor, sh_ii_eq, sh_i_eq, sh_r_eq, sh_rP_eq, sh_iii_eq, sh_iPii_eq, sh_P_eq, sh_PP_eq, sh_rPP_eq, sh_rPPi_eq, sh_rQ_eq, sh_iPP_eq, dsPar, iRng1D, insAt, dFld, dsFld, dMeth, dMake, qIsI, sp_cell, sp_unit, sp_begin, sp_size, sp_lean, sp_spot, sp_headX, sp_line, sp_across, sp_aspoint, sp_checkX, sp_betweenX, sp_wline, sp_woffset, sp_wholds, sp_wends, put1, put2, put3, put4, sp_made, sp_lright, qIsB_bb, qIsB_ib, qIsB_bi, qIsB_ii, er, ec, e3]
    have fin : ∀ w : Int, 0 < w → w ≤ r → Q (D.int (1 + c3 / 3 % w)) (gupd G q (OD.lst [D.int (1000 - x), D.int (1000 - max x y), D.int (1000 - y), D.int (1000 - max x (0 - y))])) := fun w h1 h2 => by
      have z0 := Int.emod_nonneg (c3 / 3) (Int.ne_of_gt h1)
      have z1 := Int.emod_lt_of_pos (c3 / 3) h1
      have u0 : 1 ≤ 1 + c3 / 3 % w := Int.le_add_of_nonneg_right z0
      have u1 : 1 + c3 / 3 % w ≤ r := by rw [Int.add_comm]; exact Int.le_trans (Int.add_one_le_iff.mpr z1) h2
      obtain ⟨f1, f2, f3⟩ := rf _ u0 u1
      exact hq _ _ (.laid hp) u0 (Int.le_trans u1 r1) f1 f2 f3
    split
    · refine ⟨_, _, rfl, ?_⟩
      simp only [dSeq, dAsg, dCB, dCons, dNil, dVar, dC, dOp, dUn, dTest, dOr, dNot, dAndV, dOrV, dTup, dLst, dSl, dPart, dIfS, dRet, dDrop, dNext, gdName, qAbs, qI, qI0, qUn, qLen, qSl, dCall, st0, seqD, List.map_cons, List.map_nil, List.length_cons, List.length_nil, List.cons_append, List.nil_append, List.set_cons_zero, List.set_cons_succ, List.getElem?_cons_zero, List.getElem?_cons_succ, Option.some.injEq, Nat.reduceAdd, Nat.reduceSub, List.replicate, Bool.not_eq_true', decide_eq_true_eq, decide_eq_false_iff_not, decide_not, ite_not, Bool.not_eq_eq_eq_not, Bool.not_true, Bool.not_false, if_true, if_false, true_and, and_true, List.cons.injEq, D.int.injEq, D.bl.injEq, D.tup.injEq, ite_true, ite_false, reduceCtorEq, Bool.false_eq_true, divP_lit, pow_lit, mul_lit, mul_litL, mul_litB, qIx, at0, at1, at2, at3, at4, at5, gupd_same, Int.reduceLT, Int.reduceLE, Int.reducePow, Int.reduceToNat, Int.reduceMul, Int.reduceAdd, Int.reduceDiv, Int.reduceSub, Int.reduceNeg, Int.reduceEq, Int.reduceMod, Nat.reduceLT, Nat.reduceLeDiff, sz_line, OD.lst.injEq, and_assoc, dFor, iSeq, dComp, pickS, qIs, isNonD, Bool.and_self, Bool.true_and, Bool.and_true, Bool.false_and, Bool.and_false, dRaise, dCallX, valD, sp_divisor, sh_ii_eq, sh_i_eq, sh_r_eq, sh_rP_eq, sh_iii_eq, sh_iPii_eq, sh_P_eq, sh_PP_eq, sh_rPP_eq, sh_rPPi_eq, sh_rQ_eq, sh_iPP_eq, dsPar, iRng1D, insAt, dFld, dsFld, dMeth, dMake, qIsI, sp_cell, sp_unit, sp_begin, sp_size, sp_lean, sp_spot, sp_headX, sp_line, sp_across, sp_aspoint, sp_checkX, sp_betweenX, sp_wline, sp_woffset, sp_wholds, sp_wends, put1, put2, put3, put4, sp_made, sp_lright, qIsB_bb, qIsB_ib, qIsB_bi, qIsB_ii, ec, e3]
      have p0 : 0 < min r 4 := Int.lt_min.mpr ⟨r0, by decide⟩
      exact ⟨p0, fin _ p0 (Int.min_le_left ..)⟩
    · exact ⟨r0, fin _ r0 (Int.le_refl _)⟩
theorem ok_heading_of (T : Txt K mg A) : FnOk P w K mg base (CXE P w) 2 A.f_heading_of A.fd_heading_of ["a", "b"] (spOfX K (sp_headX A.c_NoWay)) := by
  refine L3.Fun.okX 1 rfl T.d_heading_of.F sc_heading_of (fun ds G Q Ed h => ?_) (fun cdv Ar outer s H ds G Q Ed E hr h => ?_)
  · revert h; revert ds; refine inv_ii ?_; intros; exact rfl
  · refine ⟨_, (show PSsDw _ (_ :: _) _ from (dssw_cons (PSD.weak (ds_set (i := 2) sc_heading_of.nd rfl (Or.inl rfl) (de_call (ok_divisor T) (hr.mono (by decide)) (by rfl) T.d_divisor.m T.d_divisor.F.kp T.d_divisor.b (da_cons (dv 0) (da_cons (dv 1) da_nil)))))
      (dssw_cons (PSD.weak (ds_if (dt_cmp od_eqI (dv 2) de_int (nomark _)) (dss_one (ds_raise T.er_NoWay rfl (by rfl) (da_cons de_str da_nil))) dss_nil))
      (dssw_one (PSD.weak (ds_ret (de_tup (da_cons (de_op od_fdivP (dv 0) (dv 2)) (da_cons (de_op od_fdivP (dv 1) (dv 2)) da_nil))))))))), ?_⟩
    revert h
    revert ds
    refine inv_ii ?_
    intro _ _ h
    rename_i a b
    obtain ⟨⟨ha, hb⟩, hx, hq⟩ := h
    simp only [dSeq, dAsg, dCB, dCons, dNil, dVar, dC, dOp, dUn, dTest, dOr, dNot, dAndV, dOrV, dTup, dLst, dSl, dPart, dIfS, dRet, dDrop, dNext, gdName, qAbs, qI, qI0, qUn, qLen, qSl, dCall, st0, seqD, List.map_cons, List.map_nil, List.length_cons, List.length_nil, List.cons_append, List.nil_append, List.set_cons_zero, List.set_cons_succ, List.getElem?_cons_zero, List.getElem?_cons_succ, Option.some.injEq, Nat.reduceAdd, Nat.reduceSub, List.replicate, Bool.not_eq_true', decide_eq_true_eq, decide_eq_false_iff_not, decide_not, ite_not, Bool.not_eq_eq_eq_not, Bool.not_true, Bool.not_false, if_true, if_false, true_and, and_true, List.cons.injEq, D.int.injEq, D.bl.injEq, D.tup.injEq, ite_true, ite_false, reduceCtorEq, Bool.false_eq_true, divP_lit, pow_lit, mul_lit, mul_litL, mul_litB, qIx, at0, at1, at2, at3, at4, at5, gupd_same, Int.reduceLT, Int.reduceLE, Int.reducePow, Int.reduceToNat, Int.reduceMul, Int.reduceAdd, Int.reduceDiv, Int.reduceSub, Int.reduceNeg, Int.reduceEq, Int.reduceMod, Nat.reduceLT, Nat.reduceLeDiff, sz_line, OD.lst.injEq, and_assoc, dFor, iSeq, dComp, pickS, qIs, isNonD, Bool.and_self, Bool.true_and, Bool.and_true, Bool.false_and, Bool.and_false, dRaise, dCallX, valD, sp_divisor, sh_ii_eq, sh_i_eq, sh_r_eq, sh_rP_eq, sh_iii_eq, sh_iPii_eq, sh_P_eq, sh_PP_eq, sh_rPP_eq, sh_rPPi_eq, sh_rQ_eq, sh_iPP_eq, dsPar, iRng1D, insAt, dFld, dsFld, dMeth, dMake, qIsI, sp_cell, sp_unit, sp_begin, sp_size, sp_lean, sp_spot, sp_headX, sp_line, sp_across, sp_aspoint, sp_checkX, sp_betweenX, sp_wline, sp_woffset, sp_wholds, sp_wends, put1, put2, put3, put4, sp_made, sp_lright, qIsB_bb, qIsB_ib, qIsB_bi, qIsB_ii]
    intro G1 s1
    by_cases h0 : a = 0 ∧ b = 0
    · have e : ((Int.gcd a b : Nat) : Int) = 0 := by obtain ⟨rfl, rfl⟩ := h0; rfl
      rw [if_pos e]
      exact hx h0 G1 s1
    · have hg := gcd_pos h0
      rw [if_neg (by omega)]
      exact ⟨divP_of hg (ha.gcd hb) (by decide), divP_of hg (ha.gcd hb) (by decide), hq h0 G1 s1⟩
theorem ok_Wall_offset (T : Txt K mg A) : FnOk P w K mg base CX0 2 A.f_Wall_offset A.fd_Wall_offset ["self"] (spOf K (sp_woffset A)) := by
  refine L3.Fun.okD 0 rfl T.d_Wall_offset.F sc_Wall_offset (fun ds G Q h => ?_) (fun cdv Ar outer s H ds G Q E hr h => ?_)
  · revert h; revert ds; refine inv_r ?_; intros; exact rfl
  · refine ⟨_, (show PSsD _ (_ :: _) _ from (dss_one (ds_ret (de_call (ok_across T) (hr.mono (by decide)) (by rfl) T.d_across.m T.d_across.F.kp T.d_across.b (da_cons (de_fld (dv 0)) (da_cons (de_ix (de_fld (dv 0)) de_int (fun _ _ => rfl)) (da_cons (de_ix (de_fld (dv 0)) de_int (fun _ _ => rfl)) da_nil))))))), ?_⟩
    revert h
    revert ds
    refine inv_r ?_
    intro _ h
    rename_i p
    obtain ⟨kk, a, b, c, d, l, n, hw, hq⟩ := h
    obtain ⟨dx, hG⟩ := hw.ex
    obtain ⟨f1, f2, f3⟩ := fld_ok T kk
    simp only [dSeq, dAsg, dCB, dCons, dNil, dVar, dC, dOp, dUn, dTest, dOr, dNot, dAndV, dOrV, dTup, dLst, dSl, dPart, dIfS, dRet, dDrop, dNext, gdName, qAbs, qI, qI0, qUn, qLen, qSl, dCall, st0, seqD, List.map_cons, List.map_nil, List.length_cons, List.length_nil, List.cons_append, List.nil_append, List.set_cons_zero, List.set_cons_succ, List.getElem?_cons_zero, List.getElem?_cons_succ, Option.some.injEq, Nat.reduceAdd, Nat.reduceSub, List.replicate, Bool.not_eq_true', decide_eq_true_eq, decide_eq_false_iff_not, decide_not, ite_not, Bool.not_eq_eq_eq_not, Bool.not_true, Bool.not_false, if_true, if_false, true_and, and_true, List.cons.injEq, D.int.injEq, D.bl.injEq, D.tup.injEq, ite_true, ite_false, reduceCtorEq, Bool.false_eq_true, divP_lit, pow_lit, mul_lit, mul_litL, mul_litB, qIx, at0, at1, at2, at3, at4, at5, gupd_same, Int.reduceLT, Int.reduceLE, Int.reducePow, Int.reduceToNat, Int.reduceMul, Int.reduceAdd, Int.reduceDiv, Int.reduceSub, Int.reduceNeg, Int.reduceEq, Int.reduceMod, Nat.reduceLT, Nat.reduceLeDiff, sz_line, OD.lst.injEq, and_assoc, dFor, iSeq, dComp, pickS, qIs, isNonD, Bool.and_self, Bool.true_and, Bool.and_true, Bool.false_and, Bool.and_false, dRaise, dCallX, valD, sp_divisor, sh_ii_eq, sh_i_eq, sh_r_eq, sh_rP_eq, sh_iii_eq, sh_iPii_eq, sh_P_eq, sh_PP_eq, sh_rPP_eq, sh_rPPi_eq, sh_rQ_eq, sh_iPP_eq, dsPar, iRng1D, insAt, dFld, dsFld, dMeth, dMake, qIsI, sp_cell, sp_unit, sp_begin, sp_size, sp_lean, sp_spot, sp_headX, sp_line, sp_across, sp_aspoint, sp_checkX, sp_betweenX, sp_wline, sp_woffset, sp_wholds, sp_wends, put1, put2, put3, put4, sp_made, sp_lright, qIsB_bb, qIsB_ib, qIsB_bi, qIsB_ii, hG, wF_along, wF_one]
    exact ⟨f3, f1, f1, hq⟩
theorem mt_offset (T : Txt K mg A) : MTab P w K mg base 2 "offset" (M_offset A) := by
  intro C sp h
  rcases h with ⟨rfl, rfl⟩ | ⟨rfl, rfl⟩ | ⟨rfl, rfl⟩ | ⟨rfl, rfl⟩
  · exact MOk.plain T.o_Mirror.cl ⟨T.o_Mirror.r_offset, T.d_Wall_offset.m, T.d_Wall_offset.F.kp⟩ ((L3.FnOk.lift (ok_Wall_offset T)).mono (by decide)) T.d_Wall_offset.b
  · exact MOk.plain T.o_Glass.cl ⟨T.o_Glass.r_offset, T.d_Wall_offset.m, T.d_Wall_offset.F.kp⟩ ((L3.FnOk.lift (ok_Wall_offset T)).mono (by decide)) T.d_Wall_offset.b
  · exact MOk.plain T.o_Hole.cl ⟨T.o_Hole.r_offset, T.d_Wall_offset.m, T.d_Wall_offset.F.kp⟩ ((L3.FnOk.lift (ok_Wall_offset T)).mono (by decide)) T.d_Wall_offset.b
  · exact MOk.plain T.o_Door.cl ⟨T.o_Door.r_offset, T.d_Wall_offset.m, T.d_Wall_offset.F.kp⟩ ((L3.FnOk.lift (ok_Wall_offset T)).mono (by decide)) T.d_Wall_offset.b
theorem ok_Wall_ends_at (T : Txt K mg A) : FnOk P w K mg base CX0 2 A.f_Wall_ends_at A.fd_Wall_ends_at ["self", "P"] (spOf K (sp_wends A)) := by
  refine L3.Fun.okD 0 rfl T.d_Wall_ends_at.F sc_Wall_ends_at (fun ds G Q h => ?_) (fun cdv Ar outer s H ds G Q E hr h => ?_)
  · revert h; revert ds; refine inv_rQ ?_; intros; exact rfl
  · refine ⟨_, (show PSsD _ (_ :: _) _ from (dss_one (ds_ret (de_or (de_cmp (od_eqT hr.units) (dv 1) (de_call (ok_as_point T) (hr.mono (by decide)) (by rfl) T.d_as_point.m T.d_as_point.F.kp T.d_as_point.b (da_cons (de_fld (dv 0)) da_nil)) (nomark _)) (de_one (de_cmp (od_eqT hr.units) (dv 1) (de_call (ok_as_point T) (hr.mono (by decide)) (by rfl) T.d_as_point.m T.d_as_point.F.kp T.d_as_point.b (da_cons (de_fld (dv 0)) da_nil)) (nomark _))))))), ?_⟩
    revert h
    revert ds
    refine inv_rQ ?_
    intro _ _ _ _ h
    rename_i p x y w
    obtain ⟨kk, a, b, c, d, l, n, hw, hq⟩ := h
    obtain ⟨dx, hG⟩ := hw.ex
    obtain ⟨f1, f2, f3⟩ := fld_ok T kk
    simp only [dSeq, dAsg, dCB, dCons, dNil, dVar, dC, dOp, dUn, dTest, dOr, dNot, dAndV, dOrV, dTup, dLst, dSl, dPart, dIfS, dRet, dDrop, dNext, gdName, qAbs, qI, qI0, qUn, qLen, qSl, dCall, st0, seqD, List.map_cons, List.map_nil, List.length_cons, List.length_nil, List.cons_append, List.nil_append, List.set_cons_zero, List.set_cons_succ, List.getElem?_cons_zero, List.getElem?_cons_succ, Option.some.injEq, Nat.reduceAdd, Nat.reduceSub, List.replicate, Bool.not_eq_true', decide_eq_true_eq, decide_eq_false_iff_not, decide_not, ite_not, Bool.not_eq_eq_eq_not, Bool.not_true, Bool.not_false, if_true, if_false, true_and, and_true, List.cons.injEq, D.int.injEq, D.bl.injEq, D.tup.injEq, ite_true, ite_false, reduceCtorEq, Bool.false_eq_true, divP_lit, pow_lit, mul_lit, mul_litL, mul_litB, qIx, at0, at1, at2, at3, at4, at5, gupd_same, Int.reduceLT, Int.reduceLE, Int.reducePow, Int.reduceToNat, Int.reduceMul, Int.reduceAdd, Int.reduceDiv, Int.reduceSub, Int.reduceNeg, Int.reduceEq, Int.reduceMod, Nat.reduceLT, Nat.reduceLeDiff, sz_line, OD.lst.injEq, and_assoc, dFor, iSeq, dComp, pickS, qIs, isNonD, Bool.and_self, Bool.true_and, Bool.and_true, Bool.false_and, Bool.and_false, dRaise, dCallX, valD, sp_divisor, sh_ii_eq, sh_i_eq, sh_r_eq, sh_rP_eq, sh_iii_eq, sh_iPii_eq, sh_P_eq, sh_PP_eq, sh_rPP_eq, sh_rPPi_eq, sh_rQ_eq, sh_iPP_eq, dsPar, iRng1D, insAt, dFld, dsFld, dMeth, dMake, qIsI, sp_cell, sp_unit, sp_begin, sp_size, sp_lean, sp_spot, sp_headX, sp_line, sp_across, sp_aspoint, sp_checkX, sp_betweenX, sp_wline, sp_woffset, sp_wholds, sp_wends, put1, put2, put3, put4, sp_made, sp_lright, qIsB_bb, qIsB_ib, qIsB_bi, qIsB_ii, hG, wF_one]
    refine ⟨f1, [x, y, w], [a, b, 1], rfl, rfl, ?_⟩
    simp only [dSeq, dAsg, dCB, dCons, dNil, dVar, dC, dOp, dUn, dTest, dOr, dNot, dAndV, dOrV, dTup, dLst, dSl, dPart, dIfS, dRet, dDrop, dNext, gdName, qAbs, qI, qI0, qUn, qLen, qSl, dCall, st0, seqD, List.map_cons, List.map_nil, List.length_cons, List.length_nil, List.cons_append, List.nil_append, List.set_cons_zero, List.set_cons_succ, List.getElem?_cons_zero, List.getElem?_cons_succ, Option.some.injEq, Nat.reduceAdd, Nat.reduceSub, List.replicate, Bool.not_eq_true', decide_eq_true_eq, decide_eq_false_iff_not, decide_not, ite_not, Bool.not_eq_eq_eq_not, Bool.not_true, Bool.not_false, if_true, if_false, true_and, and_true, List.cons.injEq, D.int.injEq, D.bl.injEq, D.tup.injEq, ite_true, ite_false, reduceCtorEq, Bool.false_eq_true, divP_lit, pow_lit, mul_lit, mul_litL, mul_litB, qIx, at0, at1, at2, at3, at4, at5, gupd_same, Int.reduceLT, Int.reduceLE, Int.reducePow, Int.reduceToNat, Int.reduceMul, Int.reduceAdd, Int.reduceDiv, Int.reduceSub, Int.reduceNeg, Int.reduceEq, Int.reduceMod, Nat.reduceLT, Nat.reduceLeDiff, sz_line, OD.lst.injEq, and_assoc, dFor, iSeq, dComp, pickS, qIs, isNonD, Bool.and_self, Bool.true_and, Bool.and_true, Bool.false_and, Bool.and_false, dRaise, dCallX, valD, sp_divisor, sh_ii_eq, sh_i_eq, sh_r_eq, sh_rP_eq, sh_iii_eq, sh_iPii_eq, sh_P_eq, sh_PP_eq, sh_rPP_eq, sh_rPPi_eq, sh_rQ_eq, sh_iPP_eq, dsPar, iRng1D, insAt, dFld, dsFld, dMeth, dMake, qIsI, sp_cell, sp_unit, sp_begin, sp_size, sp_lean, sp_spot, sp_headX, sp_line, sp_across, sp_aspoint, sp_checkX, sp_betweenX, sp_wline, sp_woffset, sp_wholds, sp_wends, put1, put2, put3, put4, sp_made, sp_lright, qIsB_bb, qIsB_ib, qIsB_bi, qIsB_ii, hG, wF_two]
    by_cases h1 : x = a ∧ y = b ∧ w = 1
    · rw [if_pos h1]
      rw [decide_eq_true (show atW a b c d x y w from .inl h1)] at hq
      exact hq
    rw [if_neg h1]
    refine ⟨f2, [x, y, w], [c, d, 1], rfl, rfl, ?_⟩
    have e : decide (atW a b c d x y w) = decide ([x, y, w] = [c, d, 1]) := decide_eq_decide.mpr ⟨fun z => z.elim (fun z => absurd z h1) fun z => by rw [z.1, z.2.1, z.2.2], fun z => .inr ⟨(List.cons.inj z).1, (List.cons.inj (List.cons.inj z).2).1, (List.cons.inj (List.cons.inj (List.cons.inj z).2).2).1⟩⟩
    rw [← e]
    exact hq
theorem mt_ends_at (T : Txt K mg A) : MTab P w K mg base 2 "ends_at" (M_ends_at A) := by
  intro C sp h
  rcases h with ⟨rfl, rfl⟩ | ⟨rfl, rfl⟩ | ⟨rfl, rfl⟩ | ⟨rfl, rfl⟩
  · exact MOk.plain T.o_Mirror.cl ⟨T.o_Mirror.r_ends_at, T.d_Wall_ends_at.m, T.d_Wall_ends_at.F.kp⟩ ((L3.FnOk.lift (ok_Wall_ends_at T)).mono (by decide)) T.d_Wall_ends_at.b
  · exact MOk.plain T.o_Glass.cl ⟨T.o_Glass.r_ends_at, T.d_Wall_ends_at.m, T.d_Wall_ends_at.F.kp⟩ ((L3.FnOk.lift (ok_Wall_ends_at T)).mono (by decide)) T.d_Wall_ends_at.b
  · exact MOk.plain T.o_Hole.cl ⟨T.o_Hole.r_ends_at, T.d_Wall_ends_at.m, T.d_Wall_ends_at.F.kp⟩ ((L3.FnOk.lift (ok_Wall_ends_at T)).mono (by decide)) T.d_Wall_ends_at.b
  · exact MOk.plain T.o_Door.cl ⟨T.o_Door.r_ends_at, T.d_Wall_ends_at.m, T.d_Wall_ends_at.F.kp⟩ ((L3.FnOk.lift (ok_Wall_ends_at T)).mono (by decide)) T.d_Wall_ends_at.b
theorem ok__law_lean (T : Txt K mg A) : FnOk P w K mg base CX0 2 A.f__law_lean A.fd__law_lean ["_law_x", "_law_y", "_law_w"] (spOf K (sp_lean)) := by
  refine L3.Fun.okD 1 rfl T.d__law_lean.F sc__law_lean (fun ds G Q h => ?_) (fun cdv Ar outer s H ds G Q E hr h => ?_)
  · revert h; revert ds; refine inv_iii ?_; intros; exact rfl
  · refine ⟨_, (show PSsD _ (_ :: _) _ from (dss_cons (ds_set (i := 3) sc__law_lean.nd rfl (Or.inl rfl) (de_call (ok__law_shared T) (hr.mono (by decide)) (by rfl) T.d__law_shared.m T.d__law_shared.F.kp T.d__law_shared.b (da_cons (dv 2) (da_cons (de_call (ok__law_shared T) (hr.mono (by decide)) (by rfl) T.d__law_shared.m T.d__law_shared.F.kp T.d__law_shared.b (da_cons (dv 0) (da_cons (dv 1) da_nil))) da_nil))))
      (dss_one (ds_ret (de_tup (da_cons (de_op od_fdivP (dv 0) (dv 3)) (da_cons (de_op od_fdivP (dv 1) (dv 3)) (da_cons (de_op od_fdivP (dv 2) (dv 3)) da_nil)))))))), ?_⟩
    revert h
    revert ds
    refine inv_iii ?_
    intro _ _ _ h
    rename_i x y w
    obtain ⟨⟨hw, hx, hy, hws⟩, hq⟩ := h
    simp only [dSeq, dAsg, dCB, dCons, dNil, dVar, dC, dOp, dUn, dTest, dOr, dNot, dAndV, dOrV, dTup, dLst, dSl, dPart, dIfS, dRet, dDrop, dNext, gdName, qAbs, qI, qI0, qUn, qLen, qSl, dCall, st0, seqD, List.map_cons, List.map_nil, List.length_cons, List.length_nil, List.cons_append, List.nil_append, List.set_cons_zero, List.set_cons_succ, List.getElem?_cons_zero, List.getElem?_cons_succ, Option.some.injEq, Nat.reduceAdd, Nat.reduceSub, List.replicate, Bool.not_eq_true', decide_eq_true_eq, decide_eq_false_iff_not, decide_not, ite_not, Bool.not_eq_eq_eq_not, Bool.not_true, Bool.not_false, if_true, if_false, true_and, and_true, List.cons.injEq, D.int.injEq, D.bl.injEq, D.tup.injEq, ite_true, ite_false, reduceCtorEq, Bool.false_eq_true, divP_lit, pow_lit, mul_lit, mul_litL, mul_litB, qIx, at0, at1, at2, at3, at4, at5, gupd_same, Int.reduceLT, Int.reduceLE, Int.reducePow, Int.reduceToNat, Int.reduceMul, Int.reduceAdd, Int.reduceDiv, Int.reduceSub, Int.reduceNeg, Int.reduceEq, Int.reduceMod, Nat.reduceLT, Nat.reduceLeDiff, sz_line, OD.lst.injEq, and_assoc, dFor, iSeq, dComp, pickS, qIs, isNonD, Bool.and_self, Bool.true_and, Bool.and_true, Bool.false_and, Bool.and_false, dRaise, dCallX, valD, sp_divisor, sh_ii_eq, sh_i_eq, sh_r_eq, sh_rP_eq, sh_iii_eq, sh_iPii_eq, sh_P_eq, sh_PP_eq, sh_rPP_eq, sh_rPPi_eq, sh_rQ_eq, sh_iPP_eq, dsPar, iRng1D, insAt, dFld, dsFld, dMeth, dMake, qIsI, sp_cell, sp_unit, sp_begin, sp_size, sp_lean, sp_spot, sp_headX, sp_line, sp_across, sp_aspoint, sp_checkX, sp_betweenX, sp_wline, sp_woffset, sp_wholds, sp_wends, put1, put2, put3, put4, sp_made, sp_lright, qIsB_bb, qIsB_ib, qIsB_bi, qIsB_ii]
    have hg : 0 < ((Int.gcd w (Int.gcd x y : Nat) : Nat) : Int) := gcd_pos (fun h => by omega)
    have hgs : Sz 8000 ((Int.gcd w (Int.gcd x y : Nat) : Nat) : Int) := hws.gcd (hx.gcd hy)
    have hd : ∀ i, CDivP i ((Int.gcd w (Int.gcd x y : Nat) : Nat) : Int) := fun i => divP_of hg hgs (by decide)
    have hR := red3_lean (x := x) (y := y) hw
    exact fun G1 s1 G2 s2 => ⟨hd _, hd _, hd _, hq _ _ _ _ hR (s1.trans s2)⟩
theorem ok_line_between (T : Txt K mg A) : FnOk P w K mg base (CXE P w) 3 A.f_line_between A.fd_line_between ["one", "two"] (spOfX K (sp_betweenX A.c_BadWall)) := by
  refine L3.Fun.okX 1 rfl T.d_line_between.F sc_line_between (fun ds G Q Ed h => ?_) (fun cdv Ar outer s H ds G Q Ed E hr h => ?_)
  · revert h; revert ds; refine inv_PP ?_; intros; exact rfl
  · refine ⟨_, (show PSsDw _ (_ :: _) _ from (dssw_cons (PSD.weak (ds_if (dt_cmp (od_eqT hr.units) (dv 0) (dv 1) (nomark _)) (dss_one (ds_raise T.er_BadWall rfl (by rfl) (da_cons de_str da_nil))) dss_nil))
      (dssw_cons (PSD.weak (ds_set (i := 2) sc_line_between.nd rfl (Or.inl rfl) (de_call (ok_line_of T) (hr.mono (by decide)) (by rfl) T.d_line_of.m T.d_line_of.F.kp T.d_line_of.b (da_cons (de_callX (ok_heading_of T) (hr.mono (by decide)) (by rfl) T.d_heading_of.m T.d_heading_of.F.kp T.d_heading_of.b (da_cons (de_op od_sub (de_ix (dv 1) de_int (fun _ _ => rfl)) (de_ix (dv 0) de_int (fun _ _ => rfl))) (da_cons (de_op od_sub (de_ix (dv 1) de_int (fun _ _ => rfl)) (de_ix (dv 0) de_int (fun _ _ => rfl))) da_nil))) da_nil))))
      (dssw_cons (PSD.weak (ds_if (dt_cmp od_is (dv 2) de_non (nomark _)) (dss_one (ds_raise T.er_BadWall rfl (by rfl) (da_cons de_str da_nil))) dss_nil))
      (dssw_one (PSD.weak (ds_ret (dv 2)))))))), ?_⟩
    revert h
    revert ds
    refine inv_PP ?_
    intro _ _ _ _ h
    rename_i a b c d
    obtain ⟨⟨i1, i2⟩, hq, hx⟩ := h
    refine seq_cut fun N1 c1 => ?_
    simp only [dSeq, dAsg, dCB, dCons, dNil, dVar, dC, dOp, dUn, dTest, dOr, dNot, dAndV, dOrV, dTup, dLst, dSl, dPart, dIfS, dRet, dDrop, dNext, gdName, qAbs, qI, qI0, qUn, qLen, qSl, dCall, st0, seqD, List.map_cons, List.map_nil, List.length_cons, List.length_nil, List.cons_append, List.nil_append, List.set_cons_zero, List.set_cons_succ, List.getElem?_cons_zero, List.getElem?_cons_succ, Option.some.injEq, Nat.reduceAdd, Nat.reduceSub, List.replicate, Bool.not_eq_true', decide_eq_true_eq, decide_eq_false_iff_not, decide_not, ite_not, Bool.not_eq_eq_eq_not, Bool.not_true, Bool.not_false, if_true, if_false, true_and, and_true, List.cons.injEq, D.int.injEq, D.bl.injEq, D.tup.injEq, ite_true, ite_false, reduceCtorEq, Bool.false_eq_true, divP_lit, pow_lit, mul_lit, mul_litL, mul_litB, qIx, at0, at1, at2, at3, at4, at5, gupd_same, Int.reduceLT, Int.reduceLE, Int.reducePow, Int.reduceToNat, Int.reduceMul, Int.reduceAdd, Int.reduceDiv, Int.reduceSub, Int.reduceNeg, Int.reduceEq, Int.reduceMod, Nat.reduceLT, Nat.reduceLeDiff, sz_line, OD.lst.injEq, and_assoc, dFor, iSeq, dComp, pickS, qIs, isNonD, Bool.and_self, Bool.true_and, Bool.and_true, Bool.false_and, Bool.and_false, dRaise, dCallX, valD, sp_divisor, sh_ii_eq, sh_i_eq, sh_r_eq, sh_rP_eq, sh_iii_eq, sh_iPii_eq, sh_P_eq, sh_PP_eq, sh_rPP_eq, sh_rPPi_eq, sh_rQ_eq, sh_iPP_eq, dsPar, iRng1D, insAt, dFld, dsFld, dMeth, dMake, qIsI, sp_cell, sp_unit, sp_begin, sp_size, sp_lean, sp_spot, sp_headX, sp_line, sp_across, sp_aspoint, sp_checkX, sp_betweenX, sp_wline, sp_woffset, sp_wholds, sp_wends, put1, put2, put3, put4, sp_made, sp_lright, qIsB_bb, qIsB_ib, qIsB_bi, qIsB_ii]
    refine ⟨[a, b], [c, d], rfl, rfl, ?_⟩
    simp only [dSeq, dAsg, dCB, dCons, dNil, dVar, dC, dOp, dUn, dTest, dOr, dNot, dAndV, dOrV, dTup, dLst, dSl, dPart, dIfS, dRet, dDrop, dNext, gdName, qAbs, qI, qI0, qUn, qLen, qSl, dCall, st0, seqD, List.map_cons, List.map_nil, List.length_cons, List.length_nil, List.cons_append, List.nil_append, List.set_cons_zero, List.set_cons_succ, List.getElem?_cons_zero, List.getElem?_cons_succ, Option.some.injEq, Nat.reduceAdd, Nat.reduceSub, List.replicate, Bool.not_eq_true', decide_eq_true_eq, decide_eq_false_iff_not, decide_not, ite_not, Bool.not_eq_eq_eq_not, Bool.not_true, Bool.not_false, if_true, if_false, true_and, and_true, List.cons.injEq, D.int.injEq, D.bl.injEq, D.tup.injEq, ite_true, ite_false, reduceCtorEq, Bool.false_eq_true, divP_lit, pow_lit, mul_lit, mul_litL, mul_litB, qIx, at0, at1, at2, at3, at4, at5, gupd_same, Int.reduceLT, Int.reduceLE, Int.reducePow, Int.reduceToNat, Int.reduceMul, Int.reduceAdd, Int.reduceDiv, Int.reduceSub, Int.reduceNeg, Int.reduceEq, Int.reduceMod, Nat.reduceLT, Nat.reduceLeDiff, sz_line, OD.lst.injEq, and_assoc, dFor, iSeq, dComp, pickS, qIs, isNonD, Bool.and_self, Bool.true_and, Bool.and_true, Bool.false_and, Bool.and_false, dRaise, dCallX, valD, sp_divisor, sh_ii_eq, sh_i_eq, sh_r_eq, sh_rP_eq, sh_iii_eq, sh_iPii_eq, sh_P_eq, sh_PP_eq, sh_rPP_eq, sh_rPPi_eq, sh_rQ_eq, sh_iPP_eq, dsPar, iRng1D, insAt, dFld, dsFld, dMeth, dMake, qIsI, sp_cell, sp_unit, sp_begin, sp_size, sp_lean, sp_spot, sp_headX, sp_line, sp_across, sp_aspoint, sp_checkX, sp_betweenX, sp_wline, sp_woffset, sp_wholds, sp_wends, put1, put2, put3, put4, sp_made, sp_lright, qIsB_bb, qIsB_ib, qIsB_bi, qIsB_ii]
    by_cases he : a = c ∧ b = d
    · rw [if_pos he]
      exact hx (.inl he) _ .refl
    rw [if_neg he]
    have h1 : Sz 8000 (c - a) := (Sz.sub i2.sza i1.sza).mono (by decide)
    have h2 : Sz 8000 (d - b) := (Sz.sub i2.szb i1.szb).mono (by decide)
    have hn : ¬ (c - a = 0 ∧ d - b = 0) := fun z => he ⟨(Int.sub_eq_zero.mp z.1).symm, (Int.sub_eq_zero.mp z.2).symm⟩
    refine c1 _ _ (seq_cut fun N2 c2 => ?_)
    simp only [dSeq, dAsg, dCB, dCons, dNil, dVar, dC, dOp, dUn, dTest, dOr, dNot, dAndV, dOrV, dTup, dLst, dSl, dPart, dIfS, dRet, dDrop, dNext, gdName, qAbs, qI, qI0, qUn, qLen, qSl, dCall, st0, seqD, List.map_cons, List.map_nil, List.length_cons, List.length_nil, List.cons_append, List.nil_append, List.set_cons_zero, List.set_cons_succ, List.getElem?_cons_zero, List.getElem?_cons_succ, Option.some.injEq, Nat.reduceAdd, Nat.reduceSub, List.replicate, Bool.not_eq_true', decide_eq_true_eq, decide_eq_false_iff_not, decide_not, ite_not, Bool.not_eq_eq_eq_not, Bool.not_true, Bool.not_false, if_true, if_false, true_and, and_true, List.cons.injEq, D.int.injEq, D.bl.injEq, D.tup.injEq, ite_true, ite_false, reduceCtorEq, Bool.false_eq_true, divP_lit, pow_lit, mul_lit, mul_litL, mul_litB, qIx, at0, at1, at2, at3, at4, at5, gupd_same, Int.reduceLT, Int.reduceLE, Int.reducePow, Int.reduceToNat, Int.reduceMul, Int.reduceAdd, Int.reduceDiv, Int.reduceSub, Int.reduceNeg, Int.reduceEq, Int.reduceMod, Nat.reduceLT, Nat.reduceLeDiff, sz_line, OD.lst.injEq, and_assoc, dFor, iSeq, dComp, pickS, qIs, isNonD, Bool.and_self, Bool.true_and, Bool.and_true, Bool.false_and, Bool.and_false, dRaise, dCallX, valD, sp_divisor, sh_ii_eq, sh_i_eq, sh_r_eq, sh_rP_eq, sh_iii_eq, sh_iPii_eq, sh_P_eq, sh_PP_eq, sh_rPP_eq, sh_rPPi_eq, sh_rQ_eq, sh_iPP_eq, dsPar, iRng1D, insAt, dFld, dsFld, dMeth, dMake, qIsI, sp_cell, sp_unit, sp_begin, sp_size, sp_lean, sp_spot, sp_headX, sp_line, sp_across, sp_aspoint, sp_checkX, sp_betweenX, sp_wline, sp_woffset, sp_wholds, sp_wends, put1, put2, put3, put4, sp_made, sp_lright, qIsB_bb, qIsB_ib, qIsB_bi, qIsB_ii]
    refine ⟨h1, h2, fun z => absurd z hn, fun _ G1 s1 => ?_⟩
    have hg := gcd_pos hn
    obtain ⟨x, hx1⟩ := Int.gcd_dvd_left (c - a) (d - b)
    obtain ⟨y, hy1⟩ := Int.gcd_dvd_right (c - a) (d - b)
    have e1 : (c - a) / (Int.gcd (c - a) (d - b) : Nat) = x := by
      conv => lhs; lhs; rw [hx1]
      exact Int.mul_ediv_cancel_left _ (Int.ne_of_gt hg)
    have e2 : (d - b) / (Int.gcd (c - a) (d - b) : Nat) = y := by
      conv => lhs; lhs; rw [hy1]
      exact Int.mul_ediv_cancel_left _ (Int.ne_of_gt hg)
    have ll : lineD x y = lineD (c - a) (d - b) := by
      have := lineD_scale (x := x) (y := y) hg
      rw [← hx1, ← hy1] at this
      exact this.symm
    rw [e1, e2, ll]
    refine c2 _ _ (seq_cut fun N3 c3 => ?_)
    rcases lineD_form (c - a) (d - b) with e | ⟨l, e⟩
    · rw [e]
      simp only [dSeq, dAsg, dCB, dCons, dNil, dVar, dC, dOp, dUn, dTest, dOr, dNot, dAndV, dOrV, dTup, dLst, dSl, dPart, dIfS, dRet, dDrop, dNext, gdName, qAbs, qI, qI0, qUn, qLen, qSl, dCall, st0, seqD, List.map_cons, List.map_nil, List.length_cons, List.length_nil, List.cons_append, List.nil_append, List.set_cons_zero, List.set_cons_succ, List.getElem?_cons_zero, List.getElem?_cons_succ, Option.some.injEq, Nat.reduceAdd, Nat.reduceSub, List.replicate, Bool.not_eq_true', decide_eq_true_eq, decide_eq_false_iff_not, decide_not, ite_not, Bool.not_eq_eq_eq_not, Bool.not_true, Bool.not_false, if_true, if_false, true_and, and_true, List.cons.injEq, D.int.injEq, D.bl.injEq, D.tup.injEq, ite_true, ite_false, reduceCtorEq, Bool.false_eq_true, divP_lit, pow_lit, mul_lit, mul_litL, mul_litB, qIx, at0, at1, at2, at3, at4, at5, gupd_same, Int.reduceLT, Int.reduceLE, Int.reducePow, Int.reduceToNat, Int.reduceMul, Int.reduceAdd, Int.reduceDiv, Int.reduceSub, Int.reduceNeg, Int.reduceEq, Int.reduceMod, Nat.reduceLT, Nat.reduceLeDiff, sz_line, OD.lst.injEq, and_assoc, dFor, iSeq, dComp, pickS, qIs, isNonD, Bool.and_self, Bool.true_and, Bool.and_true, Bool.false_and, Bool.and_false, dRaise, dCallX, valD, sp_divisor, sh_ii_eq, sh_i_eq, sh_r_eq, sh_rP_eq, sh_iii_eq, sh_iPii_eq, sh_P_eq, sh_PP_eq, sh_rPP_eq, sh_rPPi_eq, sh_rQ_eq, sh_iPP_eq, dsPar, iRng1D, insAt, dFld, dsFld, dMeth, dMake, qIsI, sp_cell, sp_unit, sp_begin, sp_size, sp_lean, sp_spot, sp_headX, sp_line, sp_across, sp_aspoint, sp_checkX, sp_betweenX, sp_wline, sp_woffset, sp_wholds, sp_wends, put1, put2, put3, put4, sp_made, sp_lright, qIsB_bb, qIsB_ib, qIsB_bi, qIsB_ii]
      exact hx (.inr e) _ s1
    · rw [e]
      simp only [dSeq, dAsg, dCB, dCons, dNil, dVar, dC, dOp, dUn, dTest, dOr, dNot, dAndV, dOrV, dTup, dLst, dSl, dPart, dIfS, dRet, dDrop, dNext, gdName, qAbs, qI, qI0, qUn, qLen, qSl, dCall, st0, seqD, List.map_cons, List.map_nil, List.length_cons, List.length_nil, List.cons_append, List.nil_append, List.set_cons_zero, List.set_cons_succ, List.getElem?_cons_zero, List.getElem?_cons_succ, Option.some.injEq, Nat.reduceAdd, Nat.reduceSub, List.replicate, Bool.not_eq_true', decide_eq_true_eq, decide_eq_false_iff_not, decide_not, ite_not, Bool.not_eq_eq_eq_not, Bool.not_true, Bool.not_false, if_true, if_false, true_and, and_true, List.cons.injEq, D.int.injEq, D.bl.injEq, D.tup.injEq, ite_true, ite_false, reduceCtorEq, Bool.false_eq_true, divP_lit, pow_lit, mul_lit, mul_litL, mul_litB, qIx, at0, at1, at2, at3, at4, at5, gupd_same, Int.reduceLT, Int.reduceLE, Int.reducePow, Int.reduceToNat, Int.reduceMul, Int.reduceAdd, Int.reduceDiv, Int.reduceSub, Int.reduceNeg, Int.reduceEq, Int.reduceMod, Nat.reduceLT, Nat.reduceLeDiff, sz_line, OD.lst.injEq, and_assoc, dFor, iSeq, dComp, pickS, qIs, isNonD, Bool.and_self, Bool.true_and, Bool.and_true, Bool.false_and, Bool.and_false, dRaise, dCallX, valD, sp_divisor, sh_ii_eq, sh_i_eq, sh_r_eq, sh_rP_eq, sh_iii_eq, sh_iPii_eq, sh_P_eq, sh_PP_eq, sh_rPP_eq, sh_rPPi_eq, sh_rQ_eq, sh_iPP_eq, dsPar, iRng1D, insAt, dFld, dsFld, dMeth, dMake, qIsI, sp_cell, sp_unit, sp_begin, sp_size, sp_lean, sp_spot, sp_headX, sp_line, sp_across, sp_aspoint, sp_checkX, sp_betweenX, sp_wline, sp_woffset, sp_wholds, sp_wends, put1, put2, put3, put4, sp_made, sp_lright, qIsB_bb, qIsB_ib, qIsB_bi, qIsB_ii]
      refine c3 _ _ ?_
      simp only [dSeq, dAsg, dCB, dCons, dNil, dVar, dC, dOp, dUn, dTest, dOr, dNot, dAndV, dOrV, dTup, dLst, dSl, dPart, dIfS, dRet, dDrop, dNext, gdName, qAbs, qI, qI0, qUn, qLen, qSl, dCall, st0, seqD, List.map_cons, List.map_nil, List.length_cons, List.length_nil, List.cons_append, List.nil_append, List.set_cons_zero, List.set_cons_succ, List.getElem?_cons_zero, List.getElem?_cons_succ, Option.some.injEq, Nat.reduceAdd, Nat.reduceSub, List.replicate, Bool.not_eq_true', decide_eq_true_eq, decide_eq_false_iff_not, decide_not, ite_not, Bool.not_eq_eq_eq_not, Bool.not_true, Bool.not_false, if_true, if_false, true_and, and_true, List.cons.injEq, D.int.injEq, D.bl.injEq, D.tup.injEq, ite_true, ite_false, reduceCtorEq, Bool.false_eq_true, divP_lit, pow_lit, mul_lit, mul_litL, mul_litB, qIx, at0, at1, at2, at3, at4, at5, gupd_same, Int.reduceLT, Int.reduceLE, Int.reducePow, Int.reduceToNat, Int.reduceMul, Int.reduceAdd, Int.reduceDiv, Int.reduceSub, Int.reduceNeg, Int.reduceEq, Int.reduceMod, Nat.reduceLT, Nat.reduceLeDiff, sz_line, OD.lst.injEq, and_assoc, dFor, iSeq, dComp, pickS, qIs, isNonD, Bool.and_self, Bool.true_and, Bool.and_true, Bool.false_and, Bool.and_false, dRaise, dCallX, valD, sp_divisor, sh_ii_eq, sh_i_eq, sh_r_eq, sh_rP_eq, sh_iii_eq, sh_iPii_eq, sh_P_eq, sh_PP_eq, sh_rPP_eq, sh_rPPi_eq, sh_rQ_eq, sh_iPP_eq, dsPar, iRng1D, insAt, dFld, dsFld, dMeth, dMake, qIsI, sp_cell, sp_unit, sp_begin, sp_size, sp_lean, sp_spot, sp_headX, sp_line, sp_across, sp_aspoint, sp_checkX, sp_betweenX, sp_wline, sp_woffset, sp_wholds, sp_wends, put1, put2, put3, put4, sp_made, sp_lright, qIsB_bb, qIsB_ib, qIsB_bi, qIsB_ii]
      exact hq l he e _ s1
theorem ok_Wall_holds (T : Txt K mg A) : FnOk P w K mg base CX0 3 A.f_Wall_holds A.fd_Wall_holds ["self", "P"] (spOf K (sp_wholds A)) := by
  refine L3.Fun.okD 2 rfl T.d_Wall_holds.F sc_Wall_holds (fun ds G Q h => ?_) (fun cdv Ar outer s H ds G Q E hr h => ?_)
  · revert h; revert ds; refine inv_rQ ?_; intros; exact rfl
  · refine ⟨_, (show PSsD _ (_ :: _) _ from (dss_cons (ds_set (i := 2) sc_Wall_holds.nd rfl (Or.inl rfl) (de_ix (dv 1) de_int (fun _ _ => rfl)))
      (dss_cons (ds_if (dt_cmp od_neI (de_call (ok_across T) (hr.mono (by decide)) (by rfl) T.d_across.m T.d_across.F.kp T.d_across.b (da_cons (de_fld (dv 0)) (da_cons (de_ix (dv 1) de_int (fun _ _ => rfl)) (da_cons (de_ix (dv 1) de_int (fun _ _ => rfl)) da_nil)))) (de_op od_mul (de_methN0 (M := M_offset A) (dv 0) (mt_offset T) (hr.mono (by decide))) (dv 2)) (nomark _)) (dss_one (ds_ret de_bl)) dss_nil)
      (dss_cons (ds_set (i := 3) sc_Wall_holds.nd rfl (Or.inl rfl) (de_tup (da_cons (de_ix (dv 1) de_int (fun _ _ => rfl)) (da_cons (de_ix (dv 1) de_int (fun _ _ => rfl)) da_nil))))
      (dss_one (ds_ret (de_and (de_cmp (od_leP hr.units0) (de_tup (da_cons (de_op od_mul (de_ix (de_fld (dv 0)) de_int (fun _ _ => rfl)) (dv 2)) (da_cons (de_op od_mul (de_ix (de_fld (dv 0)) de_int (fun _ _ => rfl)) (dv 2)) da_nil))) (dv 3) (nomark _)) (de_one (de_cmp (od_leP hr.units0) (dv 3) (de_tup (da_cons (de_op od_mul (de_ix (de_fld (dv 0)) de_int (fun _ _ => rfl)) (dv 2)) (da_cons (de_op od_mul (de_ix (de_fld (dv 0)) de_int (fun _ _ => rfl)) (dv 2)) da_nil))) (nomark _)))))))))), ?_⟩
    revert h
    revert ds
    refine inv_rQ ?_
    intro _ _ _ _ h
    rename_i p x y w
    obtain ⟨kk, a, b, c, d, l, n, hw, hg, hz, hq⟩ := h
    obtain ⟨dx, hG⟩ := hw.ex
    obtain ⟨f1, f2, f3⟩ := fld_ok T kk
    refine seq_cut fun N1 c1 => ?_
    simp only [dSeq, dAsg, dCB, dCons, dNil, dVar, dC, dOp, dUn, dTest, dOr, dNot, dAndV, dOrV, dTup, dLst, dSl, dPart, dIfS, dRet, dDrop, dNext, gdName, qAbs, qI, qI0, qUn, qLen, qSl, dCall, st0, seqD, List.map_cons, List.map_nil, List.length_cons, List.length_nil, List.cons_append, List.nil_append, List.set_cons_zero, List.set_cons_succ, List.getElem?_cons_zero, List.getElem?_cons_succ, Option.some.injEq, Nat.reduceAdd, Nat.reduceSub, List.replicate, Bool.not_eq_true', decide_eq_true_eq, decide_eq_false_iff_not, decide_not, ite_not, Bool.not_eq_eq_eq_not, Bool.not_true, Bool.not_false, if_true, if_false, true_and, and_true, List.cons.injEq, D.int.injEq, D.bl.injEq, D.tup.injEq, ite_true, ite_false, reduceCtorEq, Bool.false_eq_true, divP_lit, pow_lit, mul_lit, mul_litL, mul_litB, qIx, at0, at1, at2, at3, at4, at5, gupd_same, Int.reduceLT, Int.reduceLE, Int.reducePow, Int.reduceToNat, Int.reduceMul, Int.reduceAdd, Int.reduceDiv, Int.reduceSub, Int.reduceNeg, Int.reduceEq, Int.reduceMod, Nat.reduceLT, Nat.reduceLeDiff, sz_line, OD.lst.injEq, and_assoc, dFor, iSeq, dComp, pickS, qIs, isNonD, Bool.and_self, Bool.true_and, Bool.and_true, Bool.false_and, Bool.and_false, dRaise, dCallX, valD, sp_divisor, sh_ii_eq, sh_i_eq, sh_r_eq, sh_rP_eq, sh_iii_eq, sh_iPii_eq, sh_P_eq, sh_PP_eq, sh_rPP_eq, sh_rPPi_eq, sh_rQ_eq, sh_iPP_eq, dsPar, iRng1D, insAt, dFld, dsFld, dMeth, dMake, qIsI, sp_cell, sp_unit, sp_begin, sp_size, sp_lean, sp_spot, sp_headX, sp_line, sp_across, sp_aspoint, sp_checkX, sp_betweenX, sp_wline, sp_woffset, sp_wholds, sp_wends, put1, put2, put3, put4, sp_made, sp_lright, qIsB_bb, qIsB_ib, qIsB_bi, qIsB_ii]
    refine c1 _ _ (seq_cut fun N2 c2 => ?_)
    simp only [dSeq, dAsg, dCB, dCons, dNil, dVar, dC, dOp, dUn, dTest, dOr, dNot, dAndV, dOrV, dTup, dLst, dSl, dPart, dIfS, dRet, dDrop, dNext, gdName, qAbs, qI, qI0, qUn, qLen, qSl, dCall, st0, seqD, List.map_cons, List.map_nil, List.length_cons, List.length_nil, List.cons_append, List.nil_append, List.set_cons_zero, List.set_cons_succ, List.getElem?_cons_zero, List.getElem?_cons_succ, Option.some.injEq, Nat.reduceAdd, Nat.reduceSub, List.replicate, Bool.not_eq_true', decide_eq_true_eq, decide_eq_false_iff_not, decide_not, ite_not, Bool.not_eq_eq_eq_not, Bool.not_true, Bool.not_false, if_true, if_false, true_and, and_true, List.cons.injEq, D.int.injEq, D.bl.injEq, D.tup.injEq, ite_true, ite_false, reduceCtorEq, Bool.false_eq_true, divP_lit, pow_lit, mul_lit, mul_litL, mul_litB, qIx, at0, at1, at2, at3, at4, at5, gupd_same, Int.reduceLT, Int.reduceLE, Int.reducePow, Int.reduceToNat, Int.reduceMul, Int.reduceAdd, Int.reduceDiv, Int.reduceSub, Int.reduceNeg, Int.reduceEq, Int.reduceMod, Nat.reduceLT, Nat.reduceLeDiff, sz_line, OD.lst.injEq, and_assoc, dFor, iSeq, dComp, pickS, qIs, isNonD, Bool.and_self, Bool.true_and, Bool.and_true, Bool.false_and, Bool.and_false, dRaise, dCallX, valD, sp_divisor, sh_ii_eq, sh_i_eq, sh_r_eq, sh_rP_eq, sh_iii_eq, sh_iPii_eq, sh_P_eq, sh_PP_eq, sh_rPP_eq, sh_rPPi_eq, sh_rQ_eq, sh_iPP_eq, dsPar, iRng1D, insAt, dFld, dsFld, dMeth, dMake, qIsI, sp_cell, sp_unit, sp_begin, sp_size, sp_lean, sp_spot, sp_headX, sp_line, sp_across, sp_aspoint, sp_checkX, sp_betweenX, sp_wline, sp_woffset, sp_wholds, sp_wends, put1, put2, put3, put4, sp_made, sp_lright, qIsB_bb, qIsB_ib, qIsB_bi, qIsB_ii, hG, wF_along]
    refine ⟨f3, _, mk_offset kk, wF_offset, ?_⟩
    show sp_woffset A _ _ _
    refine ⟨kk, a, b, c, d, l, n, hw, mulOk hg.szo hz (by decide), ?_⟩
    by_cases h1 : acr l x y = acr l a b * w
    rotate_left
    · rw [if_neg h1]
      rw [decide_eq_false (fun z => h1 z.1)] at hq
      exact hq
    rw [if_pos h1]
    refine c2 _ _ (seq_cut fun N3 c3 => ?_)
    simp only [dSeq, dAsg, dCB, dCons, dNil, dVar, dC, dOp, dUn, dTest, dOr, dNot, dAndV, dOrV, dTup, dLst, dSl, dPart, dIfS, dRet, dDrop, dNext, gdName, qAbs, qI, qI0, qUn, qLen, qSl, dCall, st0, seqD, List.map_cons, List.map_nil, List.length_cons, List.length_nil, List.cons_append, List.nil_append, List.set_cons_zero, List.set_cons_succ, List.getElem?_cons_zero, List.getElem?_cons_succ, Option.some.injEq, Nat.reduceAdd, Nat.reduceSub, List.replicate, Bool.not_eq_true', decide_eq_true_eq, decide_eq_false_iff_not, decide_not, ite_not, Bool.not_eq_eq_eq_not, Bool.not_true, Bool.not_false, if_true, if_false, true_and, and_true, List.cons.injEq, D.int.injEq, D.bl.injEq, D.tup.injEq, ite_true, ite_false, reduceCtorEq, Bool.false_eq_true, divP_lit, pow_lit, mul_lit, mul_litL, mul_litB, qIx, at0, at1, at2, at3, at4, at5, gupd_same, Int.reduceLT, Int.reduceLE, Int.reducePow, Int.reduceToNat, Int.reduceMul, Int.reduceAdd, Int.reduceDiv, Int.reduceSub, Int.reduceNeg, Int.reduceEq, Int.reduceMod, Nat.reduceLT, Nat.reduceLeDiff, sz_line, OD.lst.injEq, and_assoc, dFor, iSeq, dComp, pickS, qIs, isNonD, Bool.and_self, Bool.true_and, Bool.and_true, Bool.false_and, Bool.and_false, dRaise, dCallX, valD, sp_divisor, sh_ii_eq, sh_i_eq, sh_r_eq, sh_rP_eq, sh_iii_eq, sh_iPii_eq, sh_P_eq, sh_PP_eq, sh_rPP_eq, sh_rPPi_eq, sh_rQ_eq, sh_iPP_eq, dsPar, iRng1D, insAt, dFld, dsFld, dMeth, dMake, qIsI, sp_cell, sp_unit, sp_begin, sp_size, sp_lean, sp_spot, sp_headX, sp_line, sp_across, sp_aspoint, sp_checkX, sp_betweenX, sp_wline, sp_woffset, sp_wholds, sp_wends, put1, put2, put3, put4, sp_made, sp_lright, qIsB_bb, qIsB_ib, qIsB_bi, qIsB_ii]
    refine c3 _ _ ?_
    simp only [dSeq, dAsg, dCB, dCons, dNil, dVar, dC, dOp, dUn, dTest, dOr, dNot, dAndV, dOrV, dTup, dLst, dSl, dPart, dIfS, dRet, dDrop, dNext, gdName, qAbs, qI, qI0, qUn, qLen, qSl, dCall, st0, seqD, List.map_cons, List.map_nil, List.length_cons, List.length_nil, List.cons_append, List.nil_append, List.set_cons_zero, List.set_cons_succ, List.getElem?_cons_zero, List.getElem?_cons_succ, Option.some.injEq, Nat.reduceAdd, Nat.reduceSub, List.replicate, Bool.not_eq_true', decide_eq_true_eq, decide_eq_false_iff_not, decide_not, ite_not, Bool.not_eq_eq_eq_not, Bool.not_true, Bool.not_false, if_true, if_false, true_and, and_true, List.cons.injEq, D.int.injEq, D.bl.injEq, D.tup.injEq, ite_true, ite_false, reduceCtorEq, Bool.false_eq_true, divP_lit, pow_lit, mul_lit, mul_litL, mul_litB, qIx, at0, at1, at2, at3, at4, at5, gupd_same, Int.reduceLT, Int.reduceLE, Int.reducePow, Int.reduceToNat, Int.reduceMul, Int.reduceAdd, Int.reduceDiv, Int.reduceSub, Int.reduceNeg, Int.reduceEq, Int.reduceMod, Nat.reduceLT, Nat.reduceLeDiff, sz_line, OD.lst.injEq, and_assoc, dFor, iSeq, dComp, pickS, qIs, isNonD, Bool.and_self, Bool.true_and, Bool.and_true, Bool.false_and, Bool.and_false, dRaise, dCallX, valD, sp_divisor, sh_ii_eq, sh_i_eq, sh_r_eq, sh_rP_eq, sh_iii_eq, sh_iPii_eq, sh_P_eq, sh_PP_eq, sh_rPP_eq, sh_rPPi_eq, sh_rQ_eq, sh_iPP_eq, dsPar, iRng1D, insAt, dFld, dsFld, dMeth, dMake, qIsI, sp_cell, sp_unit, sp_begin, sp_size, sp_lean, sp_spot, sp_headX, sp_line, sp_across, sp_aspoint, sp_checkX, sp_betweenX, sp_wline, sp_woffset, sp_wholds, sp_wends, put1, put2, put3, put4, sp_made, sp_lright, qIsB_bb, qIsB_ib, qIsB_bi, qIsB_ii, hG, wF_one]
    refine ⟨f1, mulOk hg.i1.sza hz (by decide), f1, mulOk hg.i1.szb hz (by decide), _, _, _, _, rfl, rfl, ?_⟩
    simp only [dSeq, dAsg, dCB, dCons, dNil, dVar, dC, dOp, dUn, dTest, dOr, dNot, dAndV, dOrV, dTup, dLst, dSl, dPart, dIfS, dRet, dDrop, dNext, gdName, qAbs, qI, qI0, qUn, qLen, qSl, dCall, st0, seqD, List.map_cons, List.map_nil, List.length_cons, List.length_nil, List.cons_append, List.nil_append, List.set_cons_zero, List.set_cons_succ, List.getElem?_cons_zero, List.getElem?_cons_succ, Option.some.injEq, Nat.reduceAdd, Nat.reduceSub, List.replicate, Bool.not_eq_true', decide_eq_true_eq, decide_eq_false_iff_not, decide_not, ite_not, Bool.not_eq_eq_eq_not, Bool.not_true, Bool.not_false, if_true, if_false, true_and, and_true, List.cons.injEq, D.int.injEq, D.bl.injEq, D.tup.injEq, ite_true, ite_false, reduceCtorEq, Bool.false_eq_true, divP_lit, pow_lit, mul_lit, mul_litL, mul_litB, qIx, at0, at1, at2, at3, at4, at5, gupd_same, Int.reduceLT, Int.reduceLE, Int.reducePow, Int.reduceToNat, Int.reduceMul, Int.reduceAdd, Int.reduceDiv, Int.reduceSub, Int.reduceNeg, Int.reduceEq, Int.reduceMod, Nat.reduceLT, Nat.reduceLeDiff, sz_line, OD.lst.injEq, and_assoc, dFor, iSeq, dComp, pickS, qIs, isNonD, Bool.and_self, Bool.true_and, Bool.and_true, Bool.false_and, Bool.and_false, dRaise, dCallX, valD, sp_divisor, sh_ii_eq, sh_i_eq, sh_r_eq, sh_rP_eq, sh_iii_eq, sh_iPii_eq, sh_P_eq, sh_PP_eq, sh_rPP_eq, sh_rPPi_eq, sh_rQ_eq, sh_iPP_eq, dsPar, iRng1D, insAt, dFld, dsFld, dMeth, dMake, qIsI, sp_cell, sp_unit, sp_begin, sp_size, sp_lean, sp_spot, sp_headX, sp_line, sp_across, sp_aspoint, sp_checkX, sp_betweenX, sp_wline, sp_woffset, sp_wholds, sp_wends, put1, put2, put3, put4, sp_made, sp_lright, qIsB_bb, qIsB_ib, qIsB_bi, qIsB_ii, lex_le, hG, wF_two]
    by_cases h2 : a * w < x ∨ (a * w = x ∧ b * w ≤ y)
    rotate_left
    · rw [if_neg h2]
      rw [decide_eq_false (fun z => h2 z.2.1)] at hq
      exact hq
    rw [if_pos h2]
    refine ⟨f2, mulOk hg.i2.sza hz (by decide), f2, mulOk hg.i2.szb hz (by decide), _, _, _, _, rfl, rfl, ?_⟩
    have e : decide (onW a b c d l x y w) = decide (x < c * w ∨ (x = c * w ∧ y ≤ d * w)) := decide_eq_decide.mpr ⟨fun z => z.2.2, fun z => ⟨h1, h2, z⟩⟩
    rw [lex_le, ← e]
    exact hq
theorem mt_holds (T : Txt K mg A) : MTab P w K mg base 3 "holds" (M_holds A) := by
  intro C sp h
  rcases h with ⟨rfl, rfl⟩ | ⟨rfl, rfl⟩ | ⟨rfl, rfl⟩ | ⟨rfl, rfl⟩
  · exact MOk.plain T.o_Mirror.cl ⟨T.o_Mirror.r_holds, T.d_Wall_holds.m, T.d_Wall_holds.F.kp⟩ ((L3.FnOk.lift (ok_Wall_holds T)).mono (by decide)) T.d_Wall_holds.b
  · exact MOk.plain T.o_Glass.cl ⟨T.o_Glass.r_holds, T.d_Wall_holds.m, T.d_Wall_holds.F.kp⟩ ((L3.FnOk.lift (ok_Wall_holds T)).mono (by decide)) T.d_Wall_holds.b
  · exact MOk.plain T.o_Hole.cl ⟨T.o_Hole.r_holds, T.d_Wall_holds.m, T.d_Wall_holds.F.kp⟩ ((L3.FnOk.lift (ok_Wall_holds T)).mono (by decide)) T.d_Wall_holds.b
  · exact MOk.plain T.o_Door.cl ⟨T.o_Door.r_holds, T.d_Wall_holds.m, T.d_Wall_holds.F.kp⟩ ((L3.FnOk.lift (ok_Wall_holds T)).mono (by decide)) T.d_Wall_holds.b
theorem ok__law_spot (T : Txt K mg A) : FnOk P w K mg base CX0 3 A.f__law_spot A.fd__law_spot ["_law_cell", "_law_one", "_law_line", "_law_size_here"] (spOf K (sp_spot)) := by
  refine L3.Fun.okD 9 rfl T.d__law_spot.F sc__law_spot (fun ds G Q h => ?_) (fun cdv Ar outer s H ds G Q E hr h => ?_)
  · revert h; revert ds; refine inv_iPii ?_; intros; exact rfl
  · refine ⟨_, (show PSsD _ (_ :: _) _ from (dss_cons (ds_set (i := 4) sc__law_spot.nd rfl (Or.inl rfl) (de_call (ok__law_unit T) (hr.mono (by decide)) (by rfl) T.d__law_unit.m T.d__law_unit.F.kp T.d__law_unit.b (da_cons (dv 2) da_nil)))
      (dss_cons (ds_set (i := 5) sc__law_spot.nd rfl (Or.inl rfl) (de_op od_fdivP (dv 0) de_int))
      (dss_cons (ds_set (i := 6) sc__law_spot.nd rfl (Or.inl rfl) (de_ix (de_lst (da_cons de_int (da_cons de_int (da_cons de_int (da_cons (de_op od_mul (de_op od_pow de_int de_int) (de_op od_pow de_int de_int)) da_nil))))) (de_op od_modP (dv 5) de_int) (fun _ _ => rfl)))
      (dss_cons (ds_set (i := 7) sc__law_spot.nd rfl (Or.inl rfl) (de_op od_sub (de_op od_modP (de_op od_fdivP (dv 5) de_int) (de_op od_addI (de_op od_mul (de_op od_addI (dv 3) de_int) (dv 6)) de_int)) (dv 6)))
      (dss_cons (ds_if (dt_cmp od_eqI (de_op od_modP (dv 0) de_int) de_int (nomark _)) (dss_one (ds_set (i := 7) sc__law_spot.nd rfl (Or.inl rfl) de_int)) dss_nil)
      (dss_cons (ds_if (dt_cmp od_eqI (de_op od_modP (dv 0) de_int) de_int (nomark _)) (dss_one (ds_set (i := 7) sc__law_spot.nd rfl (Or.inl rfl) (de_op od_mul (dv 3) (dv 6)))) dss_nil)
      (dss_cons (ds_set (i := 8) sc__law_spot.nd rfl (Or.inl rfl) (de_op od_mul (de_ix (de_lst (da_cons de_int (da_cons de_int (da_cons de_int (da_cons de_int (da_cons de_int (da_cons (de_un ud_neg de_int) da_nil))))))) (de_op od_modP (dv 0) de_int) (fun _ _ => rfl)) (de_op od_addI de_int (de_op od_modP (de_op od_mul (de_op od_fdivP (dv 5) de_int) de_int) (de_op od_mul de_int (dv 6))))))
      (dss_cons (ds_set (i := 9) sc__law_spot.nd rfl (Or.inl rfl) (de_op od_addI (de_op od_mul (de_ix (dv 1) de_int (fun _ _ => rfl)) (dv 6)) (de_op od_mul (dv 7) (de_ix (dv 4) de_int (fun _ _ => rfl)))))
      (dss_cons (ds_set (i := 10) sc__law_spot.nd rfl (Or.inl rfl) (de_op od_addI (de_op od_mul (de_ix (dv 1) de_int (fun _ _ => rfl)) (dv 6)) (de_op od_mul (dv 7) (de_ix (dv 4) de_int (fun _ _ => rfl)))))
      (dss_cons (ds_if (dt_cmp od_eqI (dv 2) de_int (nomark _)) (dss_one (ds_set (i := 9) sc__law_spot.nd rfl (Or.inl rfl) (de_op od_addI (dv 9) (dv 8)))) (dss_one (ds_set (i := 10) sc__law_spot.nd rfl (Or.inl rfl) (de_op od_addI (dv 10) (dv 8)))))
      (dss_cons (ds_set (i := 11) sc__law_spot.nd rfl (Or.inl rfl) (de_and (de_cmp od_eqI (dv 8) de_int (nomark _)) (de_and (de_cmp od_le de_int (dv 7) (nomark _)) (de_one (de_cmp od_le (dv 7) (de_op od_mul (dv 3) (dv 6)) (nomark _))))))
      (dss_cons (ds_set (i := 12) sc__law_spot.nd rfl (Or.inl rfl) (de_and (de_cmp od_eqI (dv 8) de_int (nomark _)) (de_one (de_or (de_cmp od_eqI (dv 7) de_int (nomark _)) (de_one (de_cmp od_eqI (dv 7) (de_op od_mul (dv 3) (dv 6)) (nomark _)))))))
      (dss_one (ds_ret (de_tup (da_cons (de_call (ok__law_lean T) (hr.mono (by decide)) (by rfl) T.d__law_lean.m T.d__law_lean.F.kp T.d__law_lean.b (da_cons (dv 9) (da_cons (dv 10) (da_cons (dv 6) da_nil)))) (da_cons (dv 11) (da_cons (dv 12) da_nil))))))))))))))))))), ?_⟩
    revert h
    revert ds
    refine inv_iPii ?_
    intro _ _ _ _ _ h
    rename_i c a b l n
    obtain ⟨⟨hc, ⟨a0, a1⟩, ⟨b0, b1⟩, ⟨l0, l1⟩, n0, n1⟩, hq⟩ := h
    have m0 := Int.emod_nonneg (c / 6) (by decide : (4 : Int) ≠ 0)
    have m1 := Int.emod_lt_of_pos (c / 6) (by decide : (0 : Int) < 4)
    have k0 := Int.emod_nonneg c (by decide : (6 : Int) ≠ 0)
    have k1 := Int.emod_lt_of_pos c (by decide : (0 : Int) < 6)
    obtain ⟨bt, eb, bpos, bs⟩ := spot_bt m0 m1
    obtain ⟨kk, ek, hk⟩ := spot_kk k0 k1
    have nS : Sz 11 n := .of 2000 (by decide) (by omega) (by omega)
    have n2S : Sz 11 (n + 2) := .of 2002 (by decide) (by omega) (by omega)
    have aS : Sz 11 a := .of 1000 (by decide) (by omega) (by omega)
    have bS : Sz 11 b := .of 1000 (by decide) (by omega) (by omega)
    have uX : Sz 1 (unitX l) := by unfold unitX; split <;> exact .lit (by decide)
    have uY : Sz 1 (unitY l) := by unfold unitY; split; exact .lit (by decide); split <;> exact .lit (by decide)
    have nb0 : 0 ≤ n * bt := Int.mul_nonneg (by omega) (by omega)
    have n2b0 : 0 ≤ (n + 2) * bt := Int.mul_nonneg (by omega) (by omega)
    have nbS : Sz 377 (n * bt) := nS.mul bs
    have n2bS : Sz 378 ((n + 2) * bt + 1) := (n2S.mul bs).add (.lit (by decide))
    refine seq_cut fun M1 d1 => ?_
    simp only [dSeq, dAsg, dCB, dCons, dNil, dVar, dC, dOp, dUn, dTest, dOr, dNot, dAndV, dOrV, dTup, dLst, dSl, dPart, dIfS, dRet, dDrop, dNext, gdName, qAbs, qI, qI0, qUn, qLen, qSl, dCall, st0, seqD, List.map_cons, List.map_nil, List.length_cons, List.length_nil, List.cons_append, List.nil_append, List.set_cons_zero, List.set_cons_succ, List.getElem?_cons_zero, List.getElem?_cons_succ, Option.some.injEq, Nat.reduceAdd, Nat.reduceSub, List.replicate, Bool.not_eq_true', decide_eq_true_eq, decide_eq_false_iff_not, decide_not, ite_not, Bool.not_eq_eq_eq_not, Bool.not_true, Bool.not_false, if_true, if_false, true_and, and_true, List.cons.injEq, D.int.injEq, D.bl.injEq, D.tup.injEq, ite_true, ite_false, reduceCtorEq, Bool.false_eq_true, divP_lit, pow_lit, mul_lit, mul_litL, mul_litB, qIx, at0, at1, at2, at3, at4, at5, gupd_same, Int.reduceLT, Int.reduceLE, Int.reducePow, Int.reduceToNat, Int.reduceMul, Int.reduceAdd, Int.reduceDiv, Int.reduceSub, Int.reduceNeg, Int.reduceEq, Int.reduceMod, Nat.reduceLT, Nat.reduceLeDiff, sz_line, OD.lst.injEq, and_assoc, dFor, iSeq, dComp, pickS, qIs, isNonD, Bool.and_self, Bool.true_and, Bool.and_true, Bool.false_and, Bool.and_false, dRaise, dCallX, valD, sp_divisor, sh_ii_eq, sh_i_eq, sh_r_eq, sh_rP_eq, sh_iii_eq, sh_iPii_eq, sh_P_eq, sh_PP_eq, sh_rPP_eq, sh_rPPi_eq, sh_rQ_eq, sh_iPP_eq, dsPar, iRng1D, insAt, dFld, dsFld, dMeth, dMake, qIsI, sp_cell, sp_unit, sp_begin, sp_size, sp_lean, sp_spot, sp_headX, sp_line, sp_across, sp_aspoint, sp_checkX, sp_betweenX, sp_wline, sp_woffset, sp_wholds, sp_wends, put1, put2, put3, put4, sp_made, sp_lright, qIsB_bb, qIsB_ib, qIsB_bi, qIsB_ii]
    refine ⟨l0, l1, fun G1 s1 => d1 _ _ (seq_cut fun M2 d2 => ?_)⟩
    simp only [dSeq, dAsg, dCB, dCons, dNil, dVar, dC, dOp, dUn, dTest, dOr, dNot, dAndV, dOrV, dTup, dLst, dSl, dPart, dIfS, dRet, dDrop, dNext, gdName, qAbs, qI, qI0, qUn, qLen, qSl, dCall, st0, seqD, List.map_cons, List.map_nil, List.length_cons, List.length_nil, List.cons_append, List.nil_append, List.set_cons_zero, List.set_cons_succ, List.getElem?_cons_zero, List.getElem?_cons_succ, Option.some.injEq, Nat.reduceAdd, Nat.reduceSub, List.replicate, Bool.not_eq_true', decide_eq_true_eq, decide_eq_false_iff_not, decide_not, ite_not, Bool.not_eq_eq_eq_not, Bool.not_true, Bool.not_false, if_true, if_false, true_and, and_true, List.cons.injEq, D.int.injEq, D.bl.injEq, D.tup.injEq, ite_true, ite_false, reduceCtorEq, Bool.false_eq_true, divP_lit, pow_lit, mul_lit, mul_litL, mul_litB, qIx, at0, at1, at2, at3, at4, at5, gupd_same, Int.reduceLT, Int.reduceLE, Int.reducePow, Int.reduceToNat, Int.reduceMul, Int.reduceAdd, Int.reduceDiv, Int.reduceSub, Int.reduceNeg, Int.reduceEq, Int.reduceMod, Nat.reduceLT, Nat.reduceLeDiff, sz_line, OD.lst.injEq, and_assoc, dFor, iSeq, dComp, pickS, qIs, isNonD, Bool.and_self, Bool.true_and, Bool.and_true, Bool.false_and, Bool.and_false, dRaise, dCallX, valD, sp_divisor, sh_ii_eq, sh_i_eq, sh_r_eq, sh_rP_eq, sh_iii_eq, sh_iPii_eq, sh_P_eq, sh_PP_eq, sh_rPP_eq, sh_rPPi_eq, sh_rQ_eq, sh_iPP_eq, dsPar, iRng1D, insAt, dFld, dsFld, dMeth, dMake, qIsI, sp_cell, sp_unit, sp_begin, sp_size, sp_lean, sp_spot, sp_headX, sp_line, sp_across, sp_aspoint, sp_checkX, sp_betweenX, sp_wline, sp_woffset, sp_wholds, sp_wends, put1, put2, put3, put4, sp_made, sp_lright, qIsB_bb, qIsB_ib, qIsB_bi, qIsB_ii]
    refine d2 _ _ (seq_cut fun M3 d3 => ?_)
    simp only [dSeq, dAsg, dCB, dCons, dNil, dVar, dC, dOp, dUn, dTest, dOr, dNot, dAndV, dOrV, dTup, dLst, dSl, dPart, dIfS, dRet, dDrop, dNext, gdName, qAbs, qI, qI0, qUn, qLen, qSl, dCall, st0, seqD, List.map_cons, List.map_nil, List.length_cons, List.length_nil, List.cons_append, List.nil_append, List.set_cons_zero, List.set_cons_succ, List.getElem?_cons_zero, List.getElem?_cons_succ, Option.some.injEq, Nat.reduceAdd, Nat.reduceSub, List.replicate, Bool.not_eq_true', decide_eq_true_eq, decide_eq_false_iff_not, decide_not, ite_not, Bool.not_eq_eq_eq_not, Bool.not_true, Bool.not_false, if_true, if_false, true_and, and_true, List.cons.injEq, D.int.injEq, D.bl.injEq, D.tup.injEq, ite_true, ite_false, reduceCtorEq, Bool.false_eq_true, divP_lit, pow_lit, mul_lit, mul_litL, mul_litB, qIx, at0, at1, at2, at3, at4, at5, gupd_same, Int.reduceLT, Int.reduceLE, Int.reducePow, Int.reduceToNat, Int.reduceMul, Int.reduceAdd, Int.reduceDiv, Int.reduceSub, Int.reduceNeg, Int.reduceEq, Int.reduceMod, Nat.reduceLT, Nat.reduceLeDiff, sz_line, OD.lst.injEq, and_assoc, dFor, iSeq, dComp, pickS, qIs, isNonD, Bool.and_self, Bool.true_and, Bool.and_true, Bool.false_and, Bool.and_false, dRaise, dCallX, valD, sp_divisor, sh_ii_eq, sh_i_eq, sh_r_eq, sh_rP_eq, sh_iii_eq, sh_iPii_eq, sh_P_eq, sh_PP_eq, sh_rPP_eq, sh_rPPi_eq, sh_rQ_eq, sh_iPP_eq, dsPar, iRng1D, insAt, dFld, dsFld, dMeth, dMake, qIsI, sp_cell, sp_unit, sp_begin, sp_size, sp_lean, sp_spot, sp_headX, sp_line, sp_across, sp_aspoint, sp_checkX, sp_betweenX, sp_wline, sp_woffset, sp_wholds, sp_wends, put1, put2, put3, put4, sp_made, sp_lright, qIsB_bb, qIsB_ib, qIsB_bi, qIsB_ii, eb]
    refine fun p hp => d3 _ _ (seq_cut fun M4 d4 => ?_)
    have s0S : Sz 380 (c / 6 / 4 % ((n + 2) * bt + 1) - bt) := ((Sz.mod (m := 378) (by omega) n2bS).sub (bs.mono (by decide))).mono (by decide)
    simp only [dSeq, dAsg, dCB, dCons, dNil, dVar, dC, dOp, dUn, dTest, dOr, dNot, dAndV, dOrV, dTup, dLst, dSl, dPart, dIfS, dRet, dDrop, dNext, gdName, qAbs, qI, qI0, qUn, qLen, qSl, dCall, st0, seqD, List.map_cons, List.map_nil, List.length_cons, List.length_nil, List.cons_append, List.nil_append, List.set_cons_zero, List.set_cons_succ, List.getElem?_cons_zero, List.getElem?_cons_succ, Option.some.injEq, Nat.reduceAdd, Nat.reduceSub, List.replicate, Bool.not_eq_true', decide_eq_true_eq, decide_eq_false_iff_not, decide_not, ite_not, Bool.not_eq_eq_eq_not, Bool.not_true, Bool.not_false, if_true, if_false, true_and, and_true, List.cons.injEq, D.int.injEq, D.bl.injEq, D.tup.injEq, ite_true, ite_false, reduceCtorEq, Bool.false_eq_true, divP_lit, pow_lit, mul_lit, mul_litL, mul_litB, qIx, at0, at1, at2, at3, at4, at5, gupd_same, Int.reduceLT, Int.reduceLE, Int.reducePow, Int.reduceToNat, Int.reduceMul, Int.reduceAdd, Int.reduceDiv, Int.reduceSub, Int.reduceNeg, Int.reduceEq, Int.reduceMod, Nat.reduceLT, Nat.reduceLeDiff, sz_line, OD.lst.injEq, and_assoc, dFor, iSeq, dComp, pickS, qIs, isNonD, Bool.and_self, Bool.true_and, Bool.and_true, Bool.false_and, Bool.and_false, dRaise, dCallX, valD, sp_divisor, sh_ii_eq, sh_i_eq, sh_r_eq, sh_rP_eq, sh_iii_eq, sh_iPii_eq, sh_P_eq, sh_PP_eq, sh_rPP_eq, sh_rPPi_eq, sh_rQ_eq, sh_iPP_eq, dsPar, iRng1D, insAt, dFld, dsFld, dMeth, dMake, qIsI, sp_cell, sp_unit, sp_begin, sp_size, sp_lean, sp_spot, sp_headX, sp_line, sp_across, sp_aspoint, sp_checkX, sp_betweenX, sp_wline, sp_woffset, sp_wholds, sp_wends, put1, put2, put3, put4, sp_made, sp_lright, qIsB_bb, qIsB_ib, qIsB_bi, qIsB_ii]
    refine ⟨mulOk n2S bs (by decide), by omega, d4 _ _ (seq_cut fun M5 d5 => ?_)⟩
    generalize c / 6 / 4 % ((n + 2) * bt + 1) - bt = s0 at *
    have g1 := s1.trans (GS.laid (o := OD.lst [D.int 1, D.int 2, D.int 7, D.int 100000000000000000000000000000000000000000000000000000000000000000000000000000000000000000000000000000000000000]) hp)
    generalize gupd G1 p _ = G2 at *
    have go5 : ∀ s : Int, Sz 380 s → M5 [some (D.int c), some (D.tup [D.int a, D.int b]), some (D.int l), some (D.int n), some (D.tup [D.int (unitX l), D.int (unitY l)]), some (D.int (c / 6)), some (D.int bt), some (D.int s), none, none, none, none, none] G2 := fun s sS => by
      refine d5 _ _ (seq_cut fun M6 d6 => ?_)
      have go6 : ∀ s : Int, Sz 380 s → M6 [some (D.int c), some (D.tup [D.int a, D.int b]), some (D.int l), some (D.int n), some (D.tup [D.int (unitX l), D.int (unitY l)]), some (D.int (c / 6)), some (D.int bt), some (D.int s), none, none, none, none, none] G2 := fun s sS => by
        refine d6 _ _ (seq_cut fun M7 d7 => ?_)
        have b3 : Sz 368 (3 * bt) := ((Sz.lit (m := 2) (x := 3) (by decide)).mul bs)
        have jS : Sz 369 (1 + c / 6 / 4 * 48271 % (3 * bt)) := (Sz.lit (m := 368) (by decide +kernel)).add (Sz.mod (by omega) b3)
        simp only [dSeq, dAsg, dCB, dCons, dNil, dVar, dC, dOp, dUn, dTest, dOr, dNot, dAndV, dOrV, dTup, dLst, dSl, dPart, dIfS, dRet, dDrop, dNext, gdName, qAbs, qI, qI0, qUn, qLen, qSl, dCall, st0, seqD, List.map_cons, List.map_nil, List.length_cons, List.length_nil, List.cons_append, List.nil_append, List.set_cons_zero, List.set_cons_succ, List.getElem?_cons_zero, List.getElem?_cons_succ, Option.some.injEq, Nat.reduceAdd, Nat.reduceSub, List.replicate, Bool.not_eq_true', decide_eq_true_eq, decide_eq_false_iff_not, decide_not, ite_not, Bool.not_eq_eq_eq_not, Bool.not_true, Bool.not_false, if_true, if_false, true_and, and_true, List.cons.injEq, D.int.injEq, D.bl.injEq, D.tup.injEq, ite_true, ite_false, reduceCtorEq, Bool.false_eq_true, divP_lit, pow_lit, mul_lit, mul_litL, mul_litB, qIx, at0, at1, at2, at3, at4, at5, gupd_same, Int.reduceLT, Int.reduceLE, Int.reducePow, Int.reduceToNat, Int.reduceMul, Int.reduceAdd, Int.reduceDiv, Int.reduceSub, Int.reduceNeg, Int.reduceEq, Int.reduceMod, Nat.reduceLT, Nat.reduceLeDiff, sz_line, OD.lst.injEq, and_assoc, dFor, iSeq, dComp, pickS, qIs, isNonD, Bool.and_self, Bool.true_and, Bool.and_true, Bool.false_and, Bool.and_false, dRaise, dCallX, valD, sp_divisor, sh_ii_eq, sh_i_eq, sh_r_eq, sh_rP_eq, sh_iii_eq, sh_iPii_eq, sh_P_eq, sh_PP_eq, sh_rPP_eq, sh_rPPi_eq, sh_rQ_eq, sh_iPP_eq, dsPar, iRng1D, insAt, dFld, dsFld, dMeth, dMake, qIsI, sp_cell, sp_unit, sp_begin, sp_size, sp_lean, sp_spot, sp_headX, sp_line, sp_across, sp_aspoint, sp_checkX, sp_betweenX, sp_wline, sp_woffset, sp_wholds, sp_wends, put1, put2, put3, put4, sp_made, sp_lright, qIsB_bb, qIsB_ib, qIsB_bi, qIsB_ii, ek]
        refine fun q hq2 => ⟨by omega, mulOk hk jS (by decide), d7 _ _ (seq_cut fun M8 d8 => ?_)⟩
        have offS : Sz 370 (kk * (1 + c / 6 / 4 * 48271 % (3 * bt))) := hk.mul jS
        generalize kk * (1 + c / 6 / 4 * 48271 % (3 * bt)) = off at *
        have g2 := g1.trans (GS.laid (o := OD.lst [D.int 0, D.int 0, D.int 0, D.int 0, D.int 1, D.int (-1)]) hq2)
        generalize gupd G2 q _ = G3 at *
        simp only [dSeq, dAsg, dCB, dCons, dNil, dVar, dC, dOp, dUn, dTest, dOr, dNot, dAndV, dOrV, dTup, dLst, dSl, dPart, dIfS, dRet, dDrop, dNext, gdName, qAbs, qI, qI0, qUn, qLen, qSl, dCall, st0, seqD, List.map_cons, List.map_nil, List.length_cons, List.length_nil, List.cons_append, List.nil_append, List.set_cons_zero, List.set_cons_succ, List.getElem?_cons_zero, List.getElem?_cons_succ, Option.some.injEq, Nat.reduceAdd, Nat.reduceSub, List.replicate, Bool.not_eq_true', decide_eq_true_eq, decide_eq_false_iff_not, decide_not, ite_not, Bool.not_eq_eq_eq_not, Bool.not_true, Bool.not_false, if_true, if_false, true_and, and_true, List.cons.injEq, D.int.injEq, D.bl.injEq, D.tup.injEq, ite_true, ite_false, reduceCtorEq, Bool.false_eq_true, divP_lit, pow_lit, mul_lit, mul_litL, mul_litB, qIx, at0, at1, at2, at3, at4, at5, gupd_same, Int.reduceLT, Int.reduceLE, Int.reducePow, Int.reduceToNat, Int.reduceMul, Int.reduceAdd, Int.reduceDiv, Int.reduceSub, Int.reduceNeg, Int.reduceEq, Int.reduceMod, Nat.reduceLT, Nat.reduceLeDiff, sz_line, OD.lst.injEq, and_assoc, dFor, iSeq, dComp, pickS, qIs, isNonD, Bool.and_self, Bool.true_and, Bool.and_true, Bool.false_and, Bool.and_false, dRaise, dCallX, valD, sp_divisor, sh_ii_eq, sh_i_eq, sh_r_eq, sh_rP_eq, sh_iii_eq, sh_iPii_eq, sh_P_eq, sh_PP_eq, sh_rPP_eq, sh_rPPi_eq, sh_rQ_eq, sh_iPP_eq, dsPar, iRng1D, insAt, dFld, dsFld, dMeth, dMake, qIsI, sp_cell, sp_unit, sp_begin, sp_size, sp_lean, sp_spot, sp_headX, sp_line, sp_across, sp_aspoint, sp_checkX, sp_betweenX, sp_wline, sp_woffset, sp_wholds, sp_wends, put1, put2, put3, put4, sp_made, sp_lright, qIsB_bb, qIsB_ib, qIsB_bi, qIsB_ii]
        refine ⟨mulOk aS bs (by decide), mulOk sS uX (by decide), d8 _ _ (seq_cut fun M9 d9 => ?_)⟩
        simp only [dSeq, dAsg, dCB, dCons, dNil, dVar, dC, dOp, dUn, dTest, dOr, dNot, dAndV, dOrV, dTup, dLst, dSl, dPart, dIfS, dRet, dDrop, dNext, gdName, qAbs, qI, qI0, qUn, qLen, qSl, dCall, st0, seqD, List.map_cons, List.map_nil, List.length_cons, List.length_nil, List.cons_append, List.nil_append, List.set_cons_zero, List.set_cons_succ, List.getElem?_cons_zero, List.getElem?_cons_succ, Option.some.injEq, Nat.reduceAdd, Nat.reduceSub, List.replicate, Bool.not_eq_true', decide_eq_true_eq, decide_eq_false_iff_not, decide_not, ite_not, Bool.not_eq_eq_eq_not, Bool.not_true, Bool.not_false, if_true, if_false, true_and, and_true, List.cons.injEq, D.int.injEq, D.bl.injEq, D.tup.injEq, ite_true, ite_false, reduceCtorEq, Bool.false_eq_true, divP_lit, pow_lit, mul_lit, mul_litL, mul_litB, qIx, at0, at1, at2, at3, at4, at5, gupd_same, Int.reduceLT, Int.reduceLE, Int.reducePow, Int.reduceToNat, Int.reduceMul, Int.reduceAdd, Int.reduceDiv, Int.reduceSub, Int.reduceNeg, Int.reduceEq, Int.reduceMod, Nat.reduceLT, Nat.reduceLeDiff, sz_line, OD.lst.injEq, and_assoc, dFor, iSeq, dComp, pickS, qIs, isNonD, Bool.and_self, Bool.true_and, Bool.and_true, Bool.false_and, Bool.and_false, dRaise, dCallX, valD, sp_divisor, sh_ii_eq, sh_i_eq, sh_r_eq, sh_rP_eq, sh_iii_eq, sh_iPii_eq, sh_P_eq, sh_PP_eq, sh_rPP_eq, sh_rPPi_eq, sh_rQ_eq, sh_iPP_eq, dsPar, iRng1D, insAt, dFld, dsFld, dMeth, dMake, qIsI, sp_cell, sp_unit, sp_begin, sp_size, sp_lean, sp_spot, sp_headX, sp_line, sp_across, sp_aspoint, sp_checkX, sp_betweenX, sp_wline, sp_woffset, sp_wholds, sp_wends, put1, put2, put3, put4, sp_made, sp_lright, qIsB_bb, qIsB_ib, qIsB_bi, qIsB_ii]
        refine ⟨mulOk bS bs (by decide), mulOk sS uY (by decide), d9 _ _ (seq_cut fun M10 d10 => ?_)⟩
        have X1 : Sz 382 (a * bt + s * unitX l) := ((aS.mul bs).mono (by decide : 377 ≤ 381)).add (sS.mul uX)
        have Y1 : Sz 382 (b * bt + s * unitY l) := ((bS.mul bs).mono (by decide : 377 ≤ 381)).add (sS.mul uY)
        have go10 : ∀ X Y : Int, X = a * bt + s * unitX l + (if l = 2 then off else 0) → Y = b * bt + s * unitY l + (if l = 2 then 0 else off) → Sz 383 X → Sz 383 Y → M10 [some (D.int c), some (D.tup [D.int a, D.int b]), some (D.int l), some (D.int n), some (D.tup [D.int (unitX l), D.int (unitY l)]), some (D.int (c / 6)), some (D.int bt), some (D.int s), some (D.int off), some (D.int X), some (D.int Y), none, none] G3 := fun X Y eX eY sX sY => by
          refine d10 _ _ (seq_cut fun M11 d11 => ?_)
          have go11 : ∀ on : Bool, (on = true ↔ off = 0 ∧ 0 ≤ s ∧ s ≤ n * bt) → M11 [some (D.int c), some (D.tup [D.int a, D.int b]), some (D.int l), some (D.int n), some (D.tup [D.int (unitX l), D.int (unitY l)]), some (D.int (c / 6)), some (D.int bt), some (D.int s), some (D.int off), some (D.int X), some (D.int Y), some (D.bl on), none] G3 := fun on e1 => by
            refine d11 _ _ (seq_cut fun M12 d12 => ?_)
            have go12 : ∀ at_ : Bool, (at_ = true ↔ off = 0 ∧ (s = 0 ∨ s = n * bt)) → M12 [some (D.int c), some (D.tup [D.int a, D.int b]), some (D.int l), some (D.int n), some (D.tup [D.int (unitX l), D.int (unitY l)]), some (D.int (c / 6)), some (D.int bt), some (D.int s), some (D.int off), some (D.int X), some (D.int Y), some (D.bl on), some (D.bl at_)] G3 := fun at_ e2 => by
              refine d12 _ _ ?_
              simp only [dSeq, dAsg, dCB, dCons, dNil, dVar, dC, dOp, dUn, dTest, dOr, dNot, dAndV, dOrV, dTup, dLst, dSl, dPart, dIfS, dRet, dDrop, dNext, gdName, qAbs, qI, qI0, qUn, qLen, qSl, dCall, st0, seqD, List.map_cons, List.map_nil, List.length_cons, List.length_nil, List.cons_append, List.nil_append, List.set_cons_zero, List.set_cons_succ, List.getElem?_cons_zero, List.getElem?_cons_succ, Option.some.injEq, Nat.reduceAdd, Nat.reduceSub, List.replicate, Bool.not_eq_true', decide_eq_true_eq, decide_eq_false_iff_not, decide_not, ite_not, Bool.not_eq_eq_eq_not, Bool.not_true, Bool.not_false, if_true, if_false, true_and, and_true, List.cons.injEq, D.int.injEq, D.bl.injEq, D.tup.injEq, ite_true, ite_false, reduceCtorEq, Bool.false_eq_true, divP_lit, pow_lit, mul_lit, mul_litL, mul_litB, qIx, at0, at1, at2, at3, at4, at5, gupd_same, Int.reduceLT, Int.reduceLE, Int.reducePow, Int.reduceToNat, Int.reduceMul, Int.reduceAdd, Int.reduceDiv, Int.reduceSub, Int.reduceNeg, Int.reduceEq, Int.reduceMod, Nat.reduceLT, Nat.reduceLeDiff, sz_line, OD.lst.injEq, and_assoc, dFor, iSeq, dComp, pickS, qIs, isNonD, Bool.and_self, Bool.true_and, Bool.and_true, Bool.false_and, Bool.and_false, dRaise, dCallX, valD, sp_divisor, sh_ii_eq, sh_i_eq, sh_r_eq, sh_rP_eq, sh_iii_eq, sh_iPii_eq, sh_P_eq, sh_PP_eq, sh_rPP_eq, sh_rPPi_eq, sh_rQ_eq, sh_iPP_eq, dsPar, iRng1D, insAt, dFld, dsFld, dMeth, dMake, qIsI, sp_cell, sp_unit, sp_begin, sp_size, sp_lean, sp_spot, sp_headX, sp_line, sp_across, sp_aspoint, sp_checkX, sp_betweenX, sp_wline, sp_woffset, sp_wholds, sp_wends, put1, put2, put3, put4, sp_made, sp_lright, qIsB_bb, qIsB_ib, qIsB_bi, qIsB_ii]
              refine ⟨bpos, sX.mono (by decide), sY.mono (by decide), bs.mono (by decide), fun x' y' w' G' hR g3 => ?_⟩
              exact hq _ _ _ _ _ _ ⟨⟨bt, s, off, bpos, by rw [← eX, ← eY]; exact hR, e1, e2⟩, (hR.sza (by omega) sX).mono (by decide), (hR.szb (by omega) sY).mono (by decide), (hR.szc (by omega) bs).mono (by decide)⟩ (g2.trans g3)
            simp only [dSeq, dAsg, dCB, dCons, dNil, dVar, dC, dOp, dUn, dTest, dOr, dNot, dAndV, dOrV, dTup, dLst, dSl, dPart, dIfS, dRet, dDrop, dNext, gdName, qAbs, qI, qI0, qUn, qLen, qSl, dCall, st0, seqD, List.map_cons, List.map_nil, List.length_cons, List.length_nil, List.cons_append, List.nil_append, List.set_cons_zero, List.set_cons_succ, List.getElem?_cons_zero, List.getElem?_cons_succ, Option.some.injEq, Nat.reduceAdd, Nat.reduceSub, List.replicate, Bool.not_eq_true', decide_eq_true_eq, decide_eq_false_iff_not, decide_not, ite_not, Bool.not_eq_eq_eq_not, Bool.not_true, Bool.not_false, if_true, if_false, true_and, and_true, List.cons.injEq, D.int.injEq, D.bl.injEq, D.tup.injEq, ite_true, ite_false, reduceCtorEq, Bool.false_eq_true, divP_lit, pow_lit, mul_lit, mul_litL, mul_litB, qIx, at0, at1, at2, at3, at4, at5, gupd_same, Int.reduceLT, Int.reduceLE, Int.reducePow, Int.reduceToNat, Int.reduceMul, Int.reduceAdd, Int.reduceDiv, Int.reduceSub, Int.reduceNeg, Int.reduceEq, Int.reduceMod, Nat.reduceLT, Nat.reduceLeDiff, sz_line, OD.lst.injEq, and_assoc, dFor, iSeq, dComp, pickS, qIs, isNonD, Bool.and_self, Bool.true_and, Bool.and_true, Bool.false_and, Bool.and_false, dRaise, dCallX, valD, sp_divisor, sh_ii_eq, sh_i_eq, sh_r_eq, sh_rP_eq, sh_iii_eq, sh_iPii_eq, sh_P_eq, sh_PP_eq, sh_rPP_eq, sh_rPPi_eq, sh_rQ_eq, sh_iPP_eq, dsPar, iRng1D, insAt, dFld, dsFld, dMeth, dMake, qIsI, sp_cell, sp_unit, sp_begin, sp_size, sp_lean, sp_spot, sp_headX, sp_line, sp_across, sp_aspoint, sp_checkX, sp_betweenX, sp_wline, sp_woffset, sp_wholds, sp_wends, put1, put2, put3, put4, sp_made, sp_lright, qIsB_bb, qIsB_ib, qIsB_bi, qIsB_ii]
            by_cases ho : off = 0
            · rw [if_pos ho]
              by_cases hs : s = 0
              · rw [if_pos hs]
                exact go12 _ ⟨fun _ => ⟨ho, .inl hs⟩, fun _ => rfl⟩
              · rw [if_neg hs]
                exact ⟨mulOk nS bs (by decide), go12 _ ⟨fun z => ⟨ho, .inr (of_decide_eq_true z)⟩, fun z => decide_eq_true (z.2.resolve_left hs)⟩⟩
            · rw [if_neg ho]
              exact go12 _ ⟨fun z => (nomatch z), fun z => absurd z.1 ho⟩
          simp only [dSeq, dAsg, dCB, dCons, dNil, dVar, dC, dOp, dUn, dTest, dOr, dNot, dAndV, dOrV, dTup, dLst, dSl, dPart, dIfS, dRet, dDrop, dNext, gdName, qAbs, qI, qI0, qUn, qLen, qSl, dCall, st0, seqD, List.map_cons, List.map_nil, List.length_cons, List.length_nil, List.cons_append, List.nil_append, List.set_cons_zero, List.set_cons_succ, List.getElem?_cons_zero, List.getElem?_cons_succ, Option.some.injEq, Nat.reduceAdd, Nat.reduceSub, List.replicate, Bool.not_eq_true', decide_eq_true_eq, decide_eq_false_iff_not, decide_not, ite_not, Bool.not_eq_eq_eq_not, Bool.not_true, Bool.not_false, if_true, if_false, true_and, and_true, List.cons.injEq, D.int.injEq, D.bl.injEq, D.tup.injEq, ite_true, ite_false, reduceCtorEq, Bool.false_eq_true, divP_lit, pow_lit, mul_lit, mul_litL, mul_litB, qIx, at0, at1, at2, at3, at4, at5, gupd_same, Int.reduceLT, Int.reduceLE, Int.reducePow, Int.reduceToNat, Int.reduceMul, Int.reduceAdd, Int.reduceDiv, Int.reduceSub, Int.reduceNeg, Int.reduceEq, Int.reduceMod, Nat.reduceLT, Nat.reduceLeDiff, sz_line, OD.lst.injEq, and_assoc, dFor, iSeq, dComp, pickS, qIs, isNonD, Bool.and_self, Bool.true_and, Bool.and_true, Bool.false_and, Bool.and_false, dRaise, dCallX, valD, sp_divisor, sh_ii_eq, sh_i_eq, sh_r_eq, sh_rP_eq, sh_iii_eq, sh_iPii_eq, sh_P_eq, sh_PP_eq, sh_rPP_eq, sh_rPPi_eq, sh_rQ_eq, sh_iPP_eq, dsPar, iRng1D, insAt, dFld, dsFld, dMeth, dMake, qIsI, sp_cell, sp_unit, sp_begin, sp_size, sp_lean, sp_spot, sp_headX, sp_line, sp_across, sp_aspoint, sp_checkX, sp_betweenX, sp_wline, sp_woffset, sp_wholds, sp_wends, put1, put2, put3, put4, sp_made, sp_lright, qIsB_bb, qIsB_ib, qIsB_bi, qIsB_ii]
          by_cases ho : off = 0
          · rw [if_pos ho]
            by_cases hs : 0 ≤ s
            · rw [if_pos hs]
              exact ⟨mulOk nS bs (by decide), go11 _ ⟨fun z => ⟨ho, hs, of_decide_eq_true z⟩, fun z => decide_eq_true z.2.2⟩⟩
            · rw [if_neg hs]
              exact go11 _ ⟨fun z => (nomatch z), fun z => absurd z.2.1 hs⟩
          · rw [if_neg ho]
            exact go11 _ ⟨fun z => (nomatch z), fun z => absurd z.1 ho⟩
        simp only [dSeq, dAsg, dCB, dCons, dNil, dVar, dC, dOp, dUn, dTest, dOr, dNot, dAndV, dOrV, dTup, dLst, dSl, dPart, dIfS, dRet, dDrop, dNext, gdName, qAbs, qI, qI0, qUn, qLen, qSl, dCall, st0, seqD, List.map_cons, List.map_nil, List.length_cons, List.length_nil, List.cons_append, List.nil_append, List.set_cons_zero, List.set_cons_succ, List.getElem?_cons_zero, List.getElem?_cons_succ, Option.some.injEq, Nat.reduceAdd, Nat.reduceSub, List.replicate, Bool.not_eq_true', decide_eq_true_eq, decide_eq_false_iff_not, decide_not, ite_not, Bool.not_eq_eq_eq_not, Bool.not_true, Bool.not_false, if_true, if_false, true_and, and_true, List.cons.injEq, D.int.injEq, D.bl.injEq, D.tup.injEq, ite_true, ite_false, reduceCtorEq, Bool.false_eq_true, divP_lit, pow_lit, mul_lit, mul_litL, mul_litB, qIx, at0, at1, at2, at3, at4, at5, gupd_same, Int.reduceLT, Int.reduceLE, Int.reducePow, Int.reduceToNat, Int.reduceMul, Int.reduceAdd, Int.reduceDiv, Int.reduceSub, Int.reduceNeg, Int.reduceEq, Int.reduceMod, Nat.reduceLT, Nat.reduceLeDiff, sz_line, OD.lst.injEq, and_assoc, dFor, iSeq, dComp, pickS, qIs, isNonD, Bool.and_self, Bool.true_and, Bool.and_true, Bool.false_and, Bool.and_false, dRaise, dCallX, valD, sp_divisor, sh_ii_eq, sh_i_eq, sh_r_eq, sh_rP_eq, sh_iii_eq, sh_iPii_eq, sh_P_eq, sh_PP_eq, sh_rPP_eq, sh_rPPi_eq, sh_rQ_eq, sh_iPP_eq, dsPar, iRng1D, insAt, dFld, dsFld, dMeth, dMake, qIsI, sp_cell, sp_unit, sp_begin, sp_size, sp_lean, sp_spot, sp_headX, sp_line, sp_across, sp_aspoint, sp_checkX, sp_betweenX, sp_wline, sp_woffset, sp_wholds, sp_wends, put1, put2, put3, put4, sp_made, sp_lright, qIsB_bb, qIsB_ib, qIsB_bi, qIsB_ii]
        by_cases hl : l = 2
        · rw [if_pos hl]
          exact go10 _ _ (by rw [if_pos hl]) (by rw [if_pos hl, Int.add_zero]) (X1.add (offS.mono (by decide))) (Y1.mono (by decide))
        · rw [if_neg hl]
          exact go10 _ _ (by rw [if_neg hl, Int.add_zero]) (by rw [if_neg hl]) (X1.mono (by decide)) (Y1.add (offS.mono (by decide)))
      simp only [dSeq, dAsg, dCB, dCons, dNil, dVar, dC, dOp, dUn, dTest, dOr, dNot, dAndV, dOrV, dTup, dLst, dSl, dPart, dIfS, dRet, dDrop, dNext, gdName, qAbs, qI, qI0, qUn, qLen, qSl, dCall, st0, seqD, List.map_cons, List.map_nil, List.length_cons, List.length_nil, List.cons_append, List.nil_append, List.set_cons_zero, List.set_cons_succ, List.getElem?_cons_zero, List.getElem?_cons_succ, Option.some.injEq, Nat.reduceAdd, Nat.reduceSub, List.replicate, Bool.not_eq_true', decide_eq_true_eq, decide_eq_false_iff_not, decide_not, ite_not, Bool.not_eq_eq_eq_not, Bool.not_true, Bool.not_false, if_true, if_false, true_and, and_true, List.cons.injEq, D.int.injEq, D.bl.injEq, D.tup.injEq, ite_true, ite_false, reduceCtorEq, Bool.false_eq_true, divP_lit, pow_lit, mul_lit, mul_litL, mul_litB, qIx, at0, at1, at2, at3, at4, at5, gupd_same, Int.reduceLT, Int.reduceLE, Int.reducePow, Int.reduceToNat, Int.reduceMul, Int.reduceAdd, Int.reduceDiv, Int.reduceSub, Int.reduceNeg, Int.reduceEq, Int.reduceMod, Nat.reduceLT, Nat.reduceLeDiff, sz_line, OD.lst.injEq, and_assoc, dFor, iSeq, dComp, pickS, qIs, isNonD, Bool.and_self, Bool.true_and, Bool.and_true, Bool.false_and, Bool.and_false, dRaise, dCallX, valD, sp_divisor, sh_ii_eq, sh_i_eq, sh_r_eq, sh_rP_eq, sh_iii_eq, sh_iPii_eq, sh_P_eq, sh_PP_eq, sh_rPP_eq, sh_rPPi_eq, sh_rQ_eq, sh_iPP_eq, dsPar, iRng1D, insAt, dFld, dsFld, dMeth, dMake, qIsI, sp_cell, sp_unit, sp_begin, sp_size, sp_lean, sp_spot, sp_headX, sp_line, sp_across, sp_aspoint, sp_checkX, sp_betweenX, sp_wline, sp_woffset, sp_wholds, sp_wends, put1, put2, put3, put4, sp_made, sp_lright, qIsB_bb, qIsB_ib, qIsB_bi, qIsB_ii]
      by_cases h1 : c % 6 = 1
      · rw [if_pos h1]
        exact ⟨mulOk nS bs (by decide), go6 _ (nbS.mono (by decide))⟩
      · rw [if_neg h1]
        exact go6 _ sS
    simp only [dSeq, dAsg, dCB, dCons, dNil, dVar, dC, dOp, dUn, dTest, dOr, dNot, dAndV, dOrV, dTup, dLst, dSl, dPart, dIfS, dRet, dDrop, dNext, gdName, qAbs, qI, qI0, qUn, qLen, qSl, dCall, st0, seqD, List.map_cons, List.map_nil, List.length_cons, List.length_nil, List.cons_append, List.nil_append, List.set_cons_zero, List.set_cons_succ, List.getElem?_cons_zero, List.getElem?_cons_succ, Option.some.injEq, Nat.reduceAdd, Nat.reduceSub, List.replicate, Bool.not_eq_true', decide_eq_true_eq, decide_eq_false_iff_not, decide_not, ite_not, Bool.not_eq_eq_eq_not, Bool.not_true, Bool.not_false, if_true, if_false, true_and, and_true, List.cons.injEq, D.int.injEq, D.bl.injEq, D.tup.injEq, ite_true, ite_false, reduceCtorEq, Bool.false_eq_true, divP_lit, pow_lit, mul_lit, mul_litL, mul_litB, qIx, at0, at1, at2, at3, at4, at5, gupd_same, Int.reduceLT, Int.reduceLE, Int.reducePow, Int.reduceToNat, Int.reduceMul, Int.reduceAdd, Int.reduceDiv, Int.reduceSub, Int.reduceNeg, Int.reduceEq, Int.reduceMod, Nat.reduceLT, Nat.reduceLeDiff, sz_line, OD.lst.injEq, and_assoc, dFor, iSeq, dComp, pickS, qIs, isNonD, Bool.and_self, Bool.true_and, Bool.and_true, Bool.false_and, Bool.and_false, dRaise, dCallX, valD, sp_divisor, sh_ii_eq, sh_i_eq, sh_r_eq, sh_rP_eq, sh_iii_eq, sh_iPii_eq, sh_P_eq, sh_PP_eq, sh_rPP_eq, sh_rPPi_eq, sh_rQ_eq, sh_iPP_eq, dsPar, iRng1D, insAt, dFld, dsFld, dMeth, dMake, qIsI, sp_cell, sp_unit, sp_begin, sp_size, sp_lean, sp_spot, sp_headX, sp_line, sp_across, sp_aspoint, sp_checkX, sp_betweenX, sp_wline, sp_woffset, sp_wholds, sp_wends, put1, put2, put3, put4, sp_made, sp_lright, qIsB_bb, qIsB_ib, qIsB_bi, qIsB_ii]
    by_cases h0 : c % 6 = 0
    · rw [if_pos h0]
      exact go5 _ (.lit (by decide))
    · rw [if_neg h0]
      exact go5 _ s0S
theorem ok_Wall___init__ (T : Txt K mg A) : FnOk P w K mg base (CXE P w) 4 A.f_Wall___init__ A.fd_Wall___init__ ["self", "one", "two"] (spOfX K (sp_wallX A)) := by
  refine L3.Fun.okX 0 rfl T.d_Wall___init__.F sc_Wall___init__ (fun ds G Q Ed h => ?_) (fun cdv Ar outer s H ds G Q Ed E hr h => ?_)
  · revert h; revert ds; refine inv_rPP ?_; intros; exact rfl
  · refine ⟨_, (show PSsDw _ (_ :: _) _ from (dssw_cons (PSD.weak (ds_expr (de_callX (ok_check_end T) (hr.mono (by decide)) (by rfl) T.d_check_end.m T.d_check_end.F.kp T.d_check_end.b (da_cons (dv 1) da_nil))))
      (dssw_cons (PSD.weak (ds_expr (de_callX (ok_check_end T) (hr.mono (by decide)) (by rfl) T.d_check_end.m T.d_check_end.F.kp T.d_check_end.b (da_cons (dv 2) da_nil))))
      (dssw_cons (PSD.weak (ds_fld (dv 0) (de_callB (cd_bestT best_minB cmpI_lt rfl hr.units) (by rfl) T.z_min bt_min (da_cons (dv 1) (da_cons (dv 2) da_nil)))))
      (dssw_cons (PSD.weak (ds_fld (dv 0) (de_callB (cd_bestT best_maxB cmpI_gt rfl hr.units) (by rfl) T.z_max bt_max (da_cons (dv 1) (da_cons (dv 2) da_nil)))))
      (dssw_one (PSD.weak (ds_fld (dv 0) (de_callX (ok_line_between T) (hr.mono (by decide)) (by rfl) T.d_line_between.m T.d_line_between.F.kp T.d_line_between.b (da_cons (dv 1) (da_cons (dv 2) da_nil))))))))))), ?_⟩
    revert h
    revert ds
    refine inv_rPP ?_
    intro _ _ _ _ _ h
    rename_i p a b c d
    obtain ⟨kk, dx, hG, hq, hx⟩ := h
    obtain ⟨f1, f2, f3⟩ := fld_ok T kk
    refine seq_cut fun N1 c1 => ?_
    simp only [dSeq, dAsg, dCB, dCons, dNil, dVar, dC, dOp, dUn, dTest, dOr, dNot, dAndV, dOrV, dTup, dLst, dSl, dPart, dIfS, dRet, dDrop, dNext, gdName, qAbs, qI, qI0, qUn, qLen, qSl, dCall, st0, seqD, List.map_cons, List.map_nil, List.length_cons, List.length_nil, List.cons_append, List.nil_append, List.set_cons_zero, List.set_cons_succ, List.getElem?_cons_zero, List.getElem?_cons_succ, Option.some.injEq, Nat.reduceAdd, Nat.reduceSub, List.replicate, Bool.not_eq_true', decide_eq_true_eq, decide_eq_false_iff_not, decide_not, ite_not, Bool.not_eq_eq_eq_not, Bool.not_true, Bool.not_false, if_true, if_false, true_and, and_true, List.cons.injEq, D.int.injEq, D.bl.injEq, D.tup.injEq, ite_true, ite_false, reduceCtorEq, Bool.false_eq_true, divP_lit, pow_lit, mul_lit, mul_litL, mul_litB, qIx, at0, at1, at2, at3, at4, at5, gupd_same, Int.reduceLT, Int.reduceLE, Int.reducePow, Int.reduceToNat, Int.reduceMul, Int.reduceAdd, Int.reduceDiv, Int.reduceSub, Int.reduceNeg, Int.reduceEq, Int.reduceMod, Nat.reduceLT, Nat.reduceLeDiff, sz_line, OD.lst.injEq, and_assoc, dFor, iSeq, dComp, pickS, qIs, isNonD, Bool.and_self, Bool.true_and, Bool.and_true, Bool.false_and, Bool.and_false, dRaise, dCallX, valD, sp_divisor, sh_ii_eq, sh_i_eq, sh_r_eq, sh_rP_eq, sh_iii_eq, sh_iPii_eq, sh_P_eq, sh_PP_eq, sh_rPP_eq, sh_rPPi_eq, sh_rQ_eq, sh_iPP_eq, dsPar, iRng1D, insAt, dFld, dsFld, dMeth, dMake, qIsI, sp_cell, sp_unit, sp_begin, sp_size, sp_lean, sp_spot, sp_headX, sp_line, sp_across, sp_aspoint, sp_checkX, sp_betweenX, sp_wline, sp_woffset, sp_wholds, sp_wends, put1, put2, put3, put4, sp_made, sp_lright, qIsB_bb, qIsB_ib, qIsB_bi, qIsB_ii]
    by_cases i1 : InW a b
    rotate_left
    · exact ⟨fun z => absurd z i1, fun _ => hx (fun l z => i1 z.i1) _ (.of .refl)⟩
    refine ⟨fun _ => c1 _ _ (seq_cut fun N2 c2 => ?_), fun z => absurd i1 z⟩
    simp only [dSeq, dAsg, dCB, dCons, dNil, dVar, dC, dOp, dUn, dTest, dOr, dNot, dAndV, dOrV, dTup, dLst, dSl, dPart, dIfS, dRet, dDrop, dNext, gdName, qAbs, qI, qI0, qUn, qLen, qSl, dCall, st0, seqD, List.map_cons, List.map_nil, List.length_cons, List.length_nil, List.cons_append, List.nil_append, List.set_cons_zero, List.set_cons_succ, List.getElem?_cons_zero, List.getElem?_cons_succ, Option.some.injEq, Nat.reduceAdd, Nat.reduceSub, List.replicate, Bool.not_eq_true', decide_eq_true_eq, decide_eq_false_iff_not, decide_not, ite_not, Bool.not_eq_eq_eq_not, Bool.not_true, Bool.not_false, if_true, if_false, true_and, and_true, List.cons.injEq, D.int.injEq, D.bl.injEq, D.tup.injEq, ite_true, ite_false, reduceCtorEq, Bool.false_eq_true, divP_lit, pow_lit, mul_lit, mul_litL, mul_litB, qIx, at0, at1, at2, at3, at4, at5, gupd_same, Int.reduceLT, Int.reduceLE, Int.reducePow, Int.reduceToNat, Int.reduceMul, Int.reduceAdd, Int.reduceDiv, Int.reduceSub, Int.reduceNeg, Int.reduceEq, Int.reduceMod, Nat.reduceLT, Nat.reduceLeDiff, sz_line, OD.lst.injEq, and_assoc, dFor, iSeq, dComp, pickS, qIs, isNonD, Bool.and_self, Bool.true_and, Bool.and_true, Bool.false_and, Bool.and_false, dRaise, dCallX, valD, sp_divisor, sh_ii_eq, sh_i_eq, sh_r_eq, sh_rP_eq, sh_iii_eq, sh_iPii_eq, sh_P_eq, sh_PP_eq, sh_rPP_eq, sh_rPPi_eq, sh_rQ_eq, sh_iPP_eq, dsPar, iRng1D, insAt, dFld, dsFld, dMeth, dMake, qIsI, sp_cell, sp_unit, sp_begin, sp_size, sp_lean, sp_spot, sp_headX, sp_line, sp_across, sp_aspoint, sp_checkX, sp_betweenX, sp_wline, sp_woffset, sp_wholds, sp_wends, put1, put2, put3, put4, sp_made, sp_lright, qIsB_bb, qIsB_ib, qIsB_bi, qIsB_ii]
    by_cases i2 : InW c d
    rotate_left
    · exact ⟨fun z => absurd z i2, fun _ => hx (fun l z => i2 z.i2) _ (.of .refl)⟩
    refine ⟨fun _ => c2 _ _ (seq_cut fun N3 c3 => ?_), fun z => absurd i2 z⟩
    simp only [dSeq, dAsg, dCB, dCons, dNil, dVar, dC, dOp, dUn, dTest, dOr, dNot, dAndV, dOrV, dTup, dLst, dSl, dPart, dIfS, dRet, dDrop, dNext, gdName, qAbs, qI, qI0, qUn, qLen, qSl, dCall, st0, seqD, List.map_cons, List.map_nil, List.length_cons, List.length_nil, List.cons_append, List.nil_append, List.set_cons_zero, List.set_cons_succ, List.getElem?_cons_zero, List.getElem?_cons_succ, Option.some.injEq, Nat.reduceAdd, Nat.reduceSub, List.replicate, Bool.not_eq_true', decide_eq_true_eq, decide_eq_false_iff_not, decide_not, ite_not, Bool.not_eq_eq_eq_not, Bool.not_true, Bool.not_false, if_true, if_false, true_and, and_true, List.cons.injEq, D.int.injEq, D.bl.injEq, D.tup.injEq, ite_true, ite_false, reduceCtorEq, Bool.false_eq_true, divP_lit, pow_lit, mul_lit, mul_litL, mul_litB, qIx, at0, at1, at2, at3, at4, at5, gupd_same, Int.reduceLT, Int.reduceLE, Int.reducePow, Int.reduceToNat, Int.reduceMul, Int.reduceAdd, Int.reduceDiv, Int.reduceSub, Int.reduceNeg, Int.reduceEq, Int.reduceMod, Nat.reduceLT, Nat.reduceLeDiff, sz_line, OD.lst.injEq, and_assoc, dFor, iSeq, dComp, pickS, qIs, isNonD, Bool.and_self, Bool.true_and, Bool.and_true, Bool.false_and, Bool.and_false, dRaise, dCallX, valD, sp_divisor, sh_ii_eq, sh_i_eq, sh_r_eq, sh_rP_eq, sh_iii_eq, sh_iPii_eq, sh_P_eq, sh_PP_eq, sh_rPP_eq, sh_rPPi_eq, sh_rQ_eq, sh_iPP_eq, dsPar, iRng1D, insAt, dFld, dsFld, dMeth, dMake, qIsI, sp_cell, sp_unit, sp_begin, sp_size, sp_lean, sp_spot, sp_headX, sp_line, sp_across, sp_aspoint, sp_checkX, sp_betweenX, sp_wline, sp_woffset, sp_wholds, sp_wends, put1, put2, put3, put4, sp_made, sp_lright, qIsB_bb, qIsB_ib, qIsB_bi, qIsB_ii]
    refine ⟨_, _, _, _, rfl, ?_⟩
    simp only [dSeq, dAsg, dCB, dCons, dNil, dVar, dC, dOp, dUn, dTest, dOr, dNot, dAndV, dOrV, dTup, dLst, dSl, dPart, dIfS, dRet, dDrop, dNext, gdName, qAbs, qI, qI0, qUn, qLen, qSl, dCall, st0, seqD, List.map_cons, List.map_nil, List.length_cons, List.length_nil, List.cons_append, List.nil_append, List.set_cons_zero, List.set_cons_succ, List.getElem?_cons_zero, List.getElem?_cons_succ, Option.some.injEq, Nat.reduceAdd, Nat.reduceSub, List.replicate, Bool.not_eq_true', decide_eq_true_eq, decide_eq_false_iff_not, decide_not, ite_not, Bool.not_eq_eq_eq_not, Bool.not_true, Bool.not_false, if_true, if_false, true_and, and_true, List.cons.injEq, D.int.injEq, D.bl.injEq, D.tup.injEq, ite_true, ite_false, reduceCtorEq, Bool.false_eq_true, divP_lit, pow_lit, mul_lit, mul_litL, mul_litB, qIx, at0, at1, at2, at3, at4, at5, gupd_same, Int.reduceLT, Int.reduceLE, Int.reducePow, Int.reduceToNat, Int.reduceMul, Int.reduceAdd, Int.reduceDiv, Int.reduceSub, Int.reduceNeg, Int.reduceEq, Int.reduceMod, Nat.reduceLT, Nat.reduceLeDiff, sz_line, OD.lst.injEq, and_assoc, dFor, iSeq, dComp, pickS, qIs, isNonD, Bool.and_self, Bool.true_and, Bool.and_true, Bool.false_and, Bool.and_false, dRaise, dCallX, valD, sp_divisor, sh_ii_eq, sh_i_eq, sh_r_eq, sh_rP_eq, sh_iii_eq, sh_iPii_eq, sh_P_eq, sh_PP_eq, sh_rPP_eq, sh_rPPi_eq, sh_rQ_eq, sh_iPP_eq, dsPar, iRng1D, insAt, dFld, dsFld, dMeth, dMake, qIsI, sp_cell, sp_unit, sp_begin, sp_size, sp_lean, sp_spot, sp_headX, sp_line, sp_across, sp_aspoint, sp_checkX, sp_betweenX, sp_wline, sp_woffset, sp_wholds, sp_wends, put1, put2, put3, put4, sp_made, sp_lright, qIsB_bb, qIsB_ib, qIsB_bi, qIsB_ii, hG]
    refine ⟨f1, c3 _ _ (seq_cut fun N4 c4 => ?_)⟩
    simp only [dSeq, dAsg, dCB, dCons, dNil, dVar, dC, dOp, dUn, dTest, dOr, dNot, dAndV, dOrV, dTup, dLst, dSl, dPart, dIfS, dRet, dDrop, dNext, gdName, qAbs, qI, qI0, qUn, qLen, qSl, dCall, st0, seqD, List.map_cons, List.map_nil, List.length_cons, List.length_nil, List.cons_append, List.nil_append, List.set_cons_zero, List.set_cons_succ, List.getElem?_cons_zero, List.getElem?_cons_succ, Option.some.injEq, Nat.reduceAdd, Nat.reduceSub, List.replicate, Bool.not_eq_true', decide_eq_true_eq, decide_eq_false_iff_not, decide_not, ite_not, Bool.not_eq_eq_eq_not, Bool.not_true, Bool.not_false, if_true, if_false, true_and, and_true, List.cons.injEq, D.int.injEq, D.bl.injEq, D.tup.injEq, ite_true, ite_false, reduceCtorEq, Bool.false_eq_true, divP_lit, pow_lit, mul_lit, mul_litL, mul_litB, qIx, at0, at1, at2, at3, at4, at5, gupd_same, Int.reduceLT, Int.reduceLE, Int.reducePow, Int.reduceToNat, Int.reduceMul, Int.reduceAdd, Int.reduceDiv, Int.reduceSub, Int.reduceNeg, Int.reduceEq, Int.reduceMod, Nat.reduceLT, Nat.reduceLeDiff, sz_line, OD.lst.injEq, and_assoc, dFor, iSeq, dComp, pickS, qIs, isNonD, Bool.and_self, Bool.true_and, Bool.and_true, Bool.false_and, Bool.and_false, dRaise, dCallX, valD, sp_divisor, sh_ii_eq, sh_i_eq, sh_r_eq, sh_rP_eq, sh_iii_eq, sh_iPii_eq, sh_P_eq, sh_PP_eq, sh_rPP_eq, sh_rPPi_eq, sh_rQ_eq, sh_iPP_eq, dsPar, iRng1D, insAt, dFld, dsFld, dMeth, dMake, qIsI, sp_cell, sp_unit, sp_begin, sp_size, sp_lean, sp_spot, sp_headX, sp_line, sp_across, sp_aspoint, sp_checkX, sp_betweenX, sp_wline, sp_woffset, sp_wholds, sp_wends, put1, put2, put3, put4, sp_made, sp_lright, qIsB_bb, qIsB_ib, qIsB_bi, qIsB_ii]
    refine ⟨_, _, _, _, rfl, ?_⟩
    simp only [dSeq, dAsg, dCB, dCons, dNil, dVar, dC, dOp, dUn, dTest, dOr, dNot, dAndV, dOrV, dTup, dLst, dSl, dPart, dIfS, dRet, dDrop, dNext, gdName, qAbs, qI, qI0, qUn, qLen, qSl, dCall, st0, seqD, List.map_cons, List.map_nil, List.length_cons, List.length_nil, List.cons_append, List.nil_append, List.set_cons_zero, List.set_cons_succ, List.getElem?_cons_zero, List.getElem?_cons_succ, Option.some.injEq, Nat.reduceAdd, Nat.reduceSub, List.replicate, Bool.not_eq_true', decide_eq_true_eq, decide_eq_false_iff_not, decide_not, ite_not, Bool.not_eq_eq_eq_not, Bool.not_true, Bool.not_false, if_true, if_false, true_and, and_true, List.cons.injEq, D.int.injEq, D.bl.injEq, D.tup.injEq, ite_true, ite_false, reduceCtorEq, Bool.false_eq_true, divP_lit, pow_lit, mul_lit, mul_litL, mul_litB, qIx, at0, at1, at2, at3, at4, at5, gupd_same, Int.reduceLT, Int.reduceLE, Int.reducePow, Int.reduceToNat, Int.reduceMul, Int.reduceAdd, Int.reduceDiv, Int.reduceSub, Int.reduceNeg, Int.reduceEq, Int.reduceMod, Nat.reduceLT, Nat.reduceLeDiff, sz_line, OD.lst.injEq, and_assoc, dFor, iSeq, dComp, pickS, qIs, isNonD, Bool.and_self, Bool.true_and, Bool.and_true, Bool.false_and, Bool.and_false, dRaise, dCallX, valD, sp_divisor, sh_ii_eq, sh_i_eq, sh_r_eq, sh_rP_eq, sh_iii_eq, sh_iPii_eq, sh_P_eq, sh_PP_eq, sh_rPP_eq, sh_rPPi_eq, sh_rQ_eq, sh_iPP_eq, dsPar, iRng1D, insAt, dFld, dsFld, dMeth, dMake, qIsI, sp_cell, sp_unit, sp_begin, sp_size, sp_lean, sp_spot, sp_headX, sp_line, sp_across, sp_aspoint, sp_checkX, sp_betweenX, sp_wline, sp_woffset, sp_wholds, sp_wends, put1, put2, put3, put4, sp_made, sp_lright, qIsB_bb, qIsB_ib, qIsB_bi, qIsB_ii]
    refine ⟨f2, c4 _ _ ?_⟩
    simp only [dSeq, dAsg, dCB, dCons, dNil, dVar, dC, dOp, dUn, dTest, dOr, dNot, dAndV, dOrV, dTup, dLst, dSl, dPart, dIfS, dRet, dDrop, dNext, gdName, qAbs, qI, qI0, qUn, qLen, qSl, dCall, st0, seqD, List.map_cons, List.map_nil, List.length_cons, List.length_nil, List.cons_append, List.nil_append, List.set_cons_zero, List.set_cons_succ, List.getElem?_cons_zero, List.getElem?_cons_succ, Option.some.injEq, Nat.reduceAdd, Nat.reduceSub, List.replicate, Bool.not_eq_true', decide_eq_true_eq, decide_eq_false_iff_not, decide_not, ite_not, Bool.not_eq_eq_eq_not, Bool.not_true, Bool.not_false, if_true, if_false, true_and, and_true, List.cons.injEq, D.int.injEq, D.bl.injEq, D.tup.injEq, ite_true, ite_false, reduceCtorEq, Bool.false_eq_true, divP_lit, pow_lit, mul_lit, mul_litL, mul_litB, qIx, at0, at1, at2, at3, at4, at5, gupd_same, Int.reduceLT, Int.reduceLE, Int.reducePow, Int.reduceToNat, Int.reduceMul, Int.reduceAdd, Int.reduceDiv, Int.reduceSub, Int.reduceNeg, Int.reduceEq, Int.reduceMod, Nat.reduceLT, Nat.reduceLeDiff, sz_line, OD.lst.injEq, and_assoc, dFor, iSeq, dComp, pickS, qIs, isNonD, Bool.and_self, Bool.true_and, Bool.and_true, Bool.false_and, Bool.and_false, dRaise, dCallX, valD, sp_divisor, sh_ii_eq, sh_i_eq, sh_r_eq, sh_rP_eq, sh_iii_eq, sh_iPii_eq, sh_P_eq, sh_PP_eq, sh_rPP_eq, sh_rPPi_eq, sh_rQ_eq, sh_iPP_eq, dsPar, iRng1D, insAt, dFld, dsFld, dMeth, dMake, qIsI, sp_cell, sp_unit, sp_begin, sp_size, sp_lean, sp_spot, sp_headX, sp_line, sp_across, sp_aspoint, sp_checkX, sp_betweenX, sp_wline, sp_woffset, sp_wholds, sp_wends, put1, put2, put3, put4, sp_made, sp_lright, qIsB_bb, qIsB_ib, qIsB_bi, qIsB_ii]
    refine ⟨i1, i2, fun l hn hl G1 s1 => ?_, fun hbad G1 s1 => hx (fun l z => ?_) _ ?_⟩
    · have e := s1 p _ gupd_same
      simp only [dSeq, dAsg, dCB, dCons, dNil, dVar, dC, dOp, dUn, dTest, dOr, dNot, dAndV, dOrV, dTup, dLst, dSl, dPart, dIfS, dRet, dDrop, dNext, gdName, qAbs, qI, qI0, qUn, qLen, qSl, dCall, st0, seqD, List.map_cons, List.map_nil, List.length_cons, List.length_nil, List.cons_append, List.nil_append, List.set_cons_zero, List.set_cons_succ, List.getElem?_cons_zero, List.getElem?_cons_succ, Option.some.injEq, Nat.reduceAdd, Nat.reduceSub, List.replicate, Bool.not_eq_true', decide_eq_true_eq, decide_eq_false_iff_not, decide_not, ite_not, Bool.not_eq_eq_eq_not, Bool.not_true, Bool.not_false, if_true, if_false, true_and, and_true, List.cons.injEq, D.int.injEq, D.bl.injEq, D.tup.injEq, ite_true, ite_false, reduceCtorEq, Bool.false_eq_true, divP_lit, pow_lit, mul_lit, mul_litL, mul_litB, qIx, at0, at1, at2, at3, at4, at5, gupd_same, Int.reduceLT, Int.reduceLE, Int.reducePow, Int.reduceToNat, Int.reduceMul, Int.reduceAdd, Int.reduceDiv, Int.reduceSub, Int.reduceNeg, Int.reduceEq, Int.reduceMod, Nat.reduceLT, Nat.reduceLeDiff, sz_line, OD.lst.injEq, and_assoc, dFor, iSeq, dComp, pickS, qIs, isNonD, Bool.and_self, Bool.true_and, Bool.and_true, Bool.false_and, Bool.and_false, dRaise, dCallX, valD, sp_divisor, sh_ii_eq, sh_i_eq, sh_r_eq, sh_rP_eq, sh_iii_eq, sh_iPii_eq, sh_P_eq, sh_PP_eq, sh_rPP_eq, sh_rPPi_eq, sh_rQ_eq, sh_iPP_eq, dsPar, iRng1D, insAt, dFld, dsFld, dMeth, dMake, qIsI, sp_cell, sp_unit, sp_begin, sp_size, sp_lean, sp_spot, sp_headX, sp_line, sp_across, sp_aspoint, sp_checkX, sp_betweenX, sp_wline, sp_woffset, sp_wholds, sp_wends, put1, put2, put3, put4, sp_made, sp_lright, qIsB_bb, qIsB_ib, qIsB_bi, qIsB_ii, e]
      refine ⟨f3, hq l ⟨i1, i2, hn, hl⟩ _ ?_ gupd_same⟩
      exact ((GSx.of .refl).put.put.trans (.of s1)).put
    · rcases hbad with z1 | z1
      · exact z.ne z1
      · rw [z.ln] at z1; cases z1
    · exact (GSx.of .refl).put.put.trans (.of s1)
theorem ok__law_right (T : Txt K mg A) : FnOk P w K mg base CX0 4 A.f__law_right A.fd__law_right ["_law_shut", "_law_told"] (spOf K (sp_lright A)) := by
  refine L3.Fun.okD 2 rfl T.d__law_right.F sc__law_right (fun ds G Q h => ?_) (fun cdv Ar outer s H ds G Q E hr h => ?_)
  · revert h; revert ds; refine inv_rTTiii_bb_ ?_; intros; exact rfl
  · refine ⟨_, (show PSsD _ (_ :: _) _ from (dss_cons (ds_set (i := 2) sc__law_right.nd rfl (Or.inl rfl) (de_methN (M := M_holds A) (dv 0) (mt_holds T) (hr.mono (by decide)) (da_cons (de_ix (dv 1) de_int (fun _ _ => rfl)) da_nil)))
      (dss_cons (ds_set (i := 3) sc__law_right.nd rfl (Or.inl rfl) (de_methN (M := M_ends_at A) (dv 0) (mt_ends_at T) (hr.mono (by decide)) (da_cons (de_ix (dv 1) de_int (fun _ _ => rfl)) da_nil)))
      (dss_cons (ds_if (PWD.pt (dw_or (dt_not (dt_val (de_callB cd_isB (by rfl) T.z_isinstance bt_isinstance (da_cons (dv 2) (da_cons (de_ty (by rfl) T.z_bool bt_bool) da_nil))))) (dw_or1 (dt_not (dt_val (de_callB cd_isB (by rfl) T.z_isinstance bt_isinstance (da_cons (dv 3) (da_cons (de_ty (by rfl) T.z_bool bt_bool) da_nil)))))))) (dss_one (ds_ret de_bl)) dss_nil)
      (dss_one (ds_ret (de_and (de_cmp od_eqB (dv 2) (de_ix (dv 1) de_int (fun _ _ => rfl)) (nomark _)) (de_one (de_cmp od_eqB (dv 3) (de_ix (dv 1) de_int (fun _ _ => rfl)) (nomark _)))))))))), ?_⟩
    revert h
    revert ds
    refine inv_rTTiii_bb_ ?_
    intro _ _ _ _ _ _ h
    rename_i p x y w on at_
    obtain ⟨kk, a, b, c, d, l, n, hw, hg, hz, h1, h2, hq⟩ := h
    obtain ⟨dx, hG⟩ := hw.ex
    have e1 : decide (onW a b c d l x y w) = on := by
      cases on with
      | true => exact decide_eq_true (h1.mp rfl)
      | false => exact decide_eq_false fun z => by cases h1.mpr z
    have e2 : decide (atW a b c d x y w) = at_ := by
      cases at_ with
      | true => exact decide_eq_true (h2.mp rfl)
      | false => exact decide_eq_false fun z => by cases h2.mpr z
    refine seq_cut fun N1 c1 => ?_
    simp only [dSeq, dAsg, dCB, dCons, dNil, dVar, dC, dOp, dUn, dTest, dOr, dNot, dAndV, dOrV, dTup, dLst, dSl, dPart, dIfS, dRet, dDrop, dNext, gdName, qAbs, qI, qI0, qUn, qLen, qSl, dCall, st0, seqD, List.map_cons, List.map_nil, List.length_cons, List.length_nil, List.cons_append, List.nil_append, List.set_cons_zero, List.set_cons_succ, List.getElem?_cons_zero, List.getElem?_cons_succ, Option.some.injEq, Nat.reduceAdd, Nat.reduceSub, List.replicate, Bool.not_eq_true', decide_eq_true_eq, decide_eq_false_iff_not, decide_not, ite_not, Bool.not_eq_eq_eq_not, Bool.not_true, Bool.not_false, if_true, if_false, true_and, and_true, List.cons.injEq, D.int.injEq, D.bl.injEq, D.tup.injEq, ite_true, ite_false, reduceCtorEq, Bool.false_eq_true, divP_lit, pow_lit, mul_lit, mul_litL, mul_litB, qIx, at0, at1, at2, at3, at4, at5, gupd_same, Int.reduceLT, Int.reduceLE, Int.reducePow, Int.reduceToNat, Int.reduceMul, Int.reduceAdd, Int.reduceDiv, Int.reduceSub, Int.reduceNeg, Int.reduceEq, Int.reduceMod, Nat.reduceLT, Nat.reduceLeDiff, sz_line, OD.lst.injEq, and_assoc, dFor, iSeq, dComp, pickS, qIs, isNonD, Bool.and_self, Bool.true_and, Bool.and_true, Bool.false_and, Bool.and_false, dRaise, dCallX, valD, sp_divisor, sh_ii_eq, sh_i_eq, sh_r_eq, sh_rP_eq, sh_iii_eq, sh_iPii_eq, sh_P_eq, sh_PP_eq, sh_rPP_eq, sh_rPPi_eq, sh_rQ_eq, sh_iPP_eq, dsPar, iRng1D, insAt, dFld, dsFld, dMeth, dMake, qIsI, sp_cell, sp_unit, sp_begin, sp_size, sp_lean, sp_spot, sp_headX, sp_line, sp_across, sp_aspoint, sp_checkX, sp_betweenX, sp_wline, sp_woffset, sp_wholds, sp_wends, put1, put2, put3, put4, sp_made, sp_lright, qIsB_bb, qIsB_ib, qIsB_bi, qIsB_ii, hG]
    refine ⟨_, mk_holds kk, wF_holds, ?_⟩
    show sp_wholds A _ _ _
    refine ⟨kk, a, b, c, d, l, n, hw, hg, hz, ?_⟩
    rw [e1]
    refine c1 _ _ (seq_cut fun N2 c2 => ?_)
    simp only [dSeq, dAsg, dCB, dCons, dNil, dVar, dC, dOp, dUn, dTest, dOr, dNot, dAndV, dOrV, dTup, dLst, dSl, dPart, dIfS, dRet, dDrop, dNext, gdName, qAbs, qI, qI0, qUn, qLen, qSl, dCall, st0, seqD, List.map_cons, List.map_nil, List.length_cons, List.length_nil, List.cons_append, List.nil_append, List.set_cons_zero, List.set_cons_succ, List.getElem?_cons_zero, List.getElem?_cons_succ, Option.some.injEq, Nat.reduceAdd, Nat.reduceSub, List.replicate, Bool.not_eq_true', decide_eq_true_eq, decide_eq_false_iff_not, decide_not, ite_not, Bool.not_eq_eq_eq_not, Bool.not_true, Bool.not_false, if_true, if_false, true_and, and_true, List.cons.injEq, D.int.injEq, D.bl.injEq, D.tup.injEq, ite_true, ite_false, reduceCtorEq, Bool.false_eq_true, divP_lit, pow_lit, mul_lit, mul_litL, mul_litB, qIx, at0, at1, at2, at3, at4, at5, gupd_same, Int.reduceLT, Int.reduceLE, Int.reducePow, Int.reduceToNat, Int.reduceMul, Int.reduceAdd, Int.reduceDiv, Int.reduceSub, Int.reduceNeg, Int.reduceEq, Int.reduceMod, Nat.reduceLT, Nat.reduceLeDiff, sz_line, OD.lst.injEq, and_assoc, dFor, iSeq, dComp, pickS, qIs, isNonD, Bool.and_self, Bool.true_and, Bool.and_true, Bool.false_and, Bool.and_false, dRaise, dCallX, valD, sp_divisor, sh_ii_eq, sh_i_eq, sh_r_eq, sh_rP_eq, sh_iii_eq, sh_iPii_eq, sh_P_eq, sh_PP_eq, sh_rPP_eq, sh_rPPi_eq, sh_rQ_eq, sh_iPP_eq, dsPar, iRng1D, insAt, dFld, dsFld, dMeth, dMake, qIsI, sp_cell, sp_unit, sp_begin, sp_size, sp_lean, sp_spot, sp_headX, sp_line, sp_across, sp_aspoint, sp_checkX, sp_betweenX, sp_wline, sp_woffset, sp_wholds, sp_wends, put1, put2, put3, put4, sp_made, sp_lright, qIsB_bb, qIsB_ib, qIsB_bi, qIsB_ii, hG]
    refine ⟨_, mk_ends_at kk, wF_ends, ?_⟩
    show sp_wends A _ _ _
    refine ⟨kk, a, b, c, d, l, n, hw, ?_⟩
    rw [e2]
    refine c2 _ _ (seq_cut fun N3 c3 => ?_)
    simp only [dSeq, dAsg, dCB, dCons, dNil, dVar, dC, dOp, dUn, dTest, dOr, dNot, dAndV, dOrV, dTup, dLst, dSl, dPart, dIfS, dRet, dDrop, dNext, gdName, qAbs, qI, qI0, qUn, qLen, qSl, dCall, st0, seqD, List.map_cons, List.map_nil, List.length_cons, List.length_nil, List.cons_append, List.nil_append, List.set_cons_zero, List.set_cons_succ, List.getElem?_cons_zero, List.getElem?_cons_succ, Option.some.injEq, Nat.reduceAdd, Nat.reduceSub, List.replicate, Bool.not_eq_true', decide_eq_true_eq, decide_eq_false_iff_not, decide_not, ite_not, Bool.not_eq_eq_eq_not, Bool.not_true, Bool.not_false, if_true, if_false, true_and, and_true, List.cons.injEq, D.int.injEq, D.bl.injEq, D.tup.injEq, ite_true, ite_false, reduceCtorEq, Bool.false_eq_true, divP_lit, pow_lit, mul_lit, mul_litL, mul_litB, qIx, at0, at1, at2, at3, at4, at5, gupd_same, Int.reduceLT, Int.reduceLE, Int.reducePow, Int.reduceToNat, Int.reduceMul, Int.reduceAdd, Int.reduceDiv, Int.reduceSub, Int.reduceNeg, Int.reduceEq, Int.reduceMod, Nat.reduceLT, Nat.reduceLeDiff, sz_line, OD.lst.injEq, and_assoc, dFor, iSeq, dComp, pickS, qIs, isNonD, Bool.and_self, Bool.true_and, Bool.and_true, Bool.false_and, Bool.and_false, dRaise, dCallX, valD, sp_divisor, sh_ii_eq, sh_i_eq, sh_r_eq, sh_rP_eq, sh_iii_eq, sh_iPii_eq, sh_P_eq, sh_PP_eq, sh_rPP_eq, sh_rPPi_eq, sh_rQ_eq, sh_iPP_eq, dsPar, iRng1D, insAt, dFld, dsFld, dMeth, dMake, qIsI, sp_cell, sp_unit, sp_begin, sp_size, sp_lean, sp_spot, sp_headX, sp_line, sp_across, sp_aspoint, sp_checkX, sp_betweenX, sp_wline, sp_woffset, sp_wholds, sp_wends, put1, put2, put3, put4, sp_made, sp_lright, qIsB_bb, qIsB_ib, qIsB_bi, qIsB_ii]
    refine c3 _ _ ?_
    simp only [dSeq, dAsg, dCB, dCons, dNil, dVar, dC, dOp, dUn, dTest, dOr, dNot, dAndV, dOrV, dTup, dLst, dSl, dPart, dIfS, dRet, dDrop, dNext, gdName, qAbs, qI, qI0, qUn, qLen, qSl, dCall, st0, seqD, List.map_cons, List.map_nil, List.length_cons, List.length_nil, List.cons_append, List.nil_append, List.set_cons_zero, List.set_cons_succ, List.getElem?_cons_zero, List.getElem?_cons_succ, Option.some.injEq, Nat.reduceAdd, Nat.reduceSub, List.replicate, Bool.not_eq_true', decide_eq_true_eq, decide_eq_false_iff_not, decide_not, ite_not, Bool.not_eq_eq_eq_not, Bool.not_true, Bool.not_false, if_true, if_false, true_and, and_true, List.cons.injEq, D.int.injEq, D.bl.injEq, D.tup.injEq, ite_true, ite_false, reduceCtorEq, Bool.false_eq_true, divP_lit, pow_lit, mul_lit, mul_litL, mul_litB, qIx, at0, at1, at2, at3, at4, at5, gupd_same, Int.reduceLT, Int.reduceLE, Int.reducePow, Int.reduceToNat, Int.reduceMul, Int.reduceAdd, Int.reduceDiv, Int.reduceSub, Int.reduceNeg, Int.reduceEq, Int.reduceMod, Nat.reduceLT, Nat.reduceLeDiff, sz_line, OD.lst.injEq, and_assoc, dFor, iSeq, dComp, pickS, qIs, isNonD, Bool.and_self, Bool.true_and, Bool.and_true, Bool.false_and, Bool.and_false, dRaise, dCallX, valD, sp_divisor, sh_ii_eq, sh_i_eq, sh_r_eq, sh_rP_eq, sh_iii_eq, sh_iPii_eq, sh_P_eq, sh_PP_eq, sh_rPP_eq, sh_rPPi_eq, sh_rQ_eq, sh_iPP_eq, dsPar, iRng1D, insAt, dFld, dsFld, dMeth, dMake, qIsI, sp_cell, sp_unit, sp_begin, sp_size, sp_lean, sp_spot, sp_headX, sp_line, sp_across, sp_aspoint, sp_checkX, sp_betweenX, sp_wline, sp_woffset, sp_wholds, sp_wends, put1, put2, put3, put4, sp_made, sp_lright, qIsB_bb, qIsB_ib, qIsB_bi, qIsB_ii]
    refine ⟨on, on, rfl, rfl, ?_⟩
    simp only [dSeq, dAsg, dCB, dCons, dNil, dVar, dC, dOp, dUn, dTest, dOr, dNot, dAndV, dOrV, dTup, dLst, dSl, dPart, dIfS, dRet, dDrop, dNext, gdName, qAbs, qI, qI0, qUn, qLen, qSl, dCall, st0, seqD, List.map_cons, List.map_nil, List.length_cons, List.length_nil, List.cons_append, List.nil_append, List.set_cons_zero, List.set_cons_succ, List.getElem?_cons_zero, List.getElem?_cons_succ, Option.some.injEq, Nat.reduceAdd, Nat.reduceSub, List.replicate, Bool.not_eq_true', decide_eq_true_eq, decide_eq_false_iff_not, decide_not, ite_not, Bool.not_eq_eq_eq_not, Bool.not_true, Bool.not_false, if_true, if_false, true_and, and_true, List.cons.injEq, D.int.injEq, D.bl.injEq, D.tup.injEq, ite_true, ite_false, reduceCtorEq, Bool.false_eq_true, divP_lit, pow_lit, mul_lit, mul_litL, mul_litB, qIx, at0, at1, at2, at3, at4, at5, gupd_same, Int.reduceLT, Int.reduceLE, Int.reducePow, Int.reduceToNat, Int.reduceMul, Int.reduceAdd, Int.reduceDiv, Int.reduceSub, Int.reduceNeg, Int.reduceEq, Int.reduceMod, Nat.reduceLT, Nat.reduceLeDiff, sz_line, OD.lst.injEq, and_assoc, dFor, iSeq, dComp, pickS, qIs, isNonD, Bool.and_self, Bool.true_and, Bool.and_true, Bool.false_and, Bool.and_false, dRaise, dCallX, valD, sp_divisor, sh_ii_eq, sh_i_eq, sh_r_eq, sh_rP_eq, sh_iii_eq, sh_iPii_eq, sh_P_eq, sh_PP_eq, sh_rPP_eq, sh_rPPi_eq, sh_rQ_eq, sh_iPP_eq, dsPar, iRng1D, insAt, dFld, dsFld, dMeth, dMake, qIsI, sp_cell, sp_unit, sp_begin, sp_size, sp_lean, sp_spot, sp_headX, sp_line, sp_across, sp_aspoint, sp_checkX, sp_betweenX, sp_wline, sp_woffset, sp_wholds, sp_wends, put1, put2, put3, put4, sp_made, sp_lright, qIsB_bb, qIsB_ib, qIsB_bi, qIsB_ii, beq_self_eq_true]
    refine ⟨at_, at_, rfl, rfl, ?_⟩
    rw [beq_self_eq_true]
    exact hq
theorem ok_Door___init__ (T : Txt K mg A) : FnOk P w K mg base (CXE P w) 5 A.f_Door___init__ A.fd_Door___init__ ["self", "one", "two", "every"] (spOfX K (sp_doorX A)) := by
  refine L3.FunV.okX 0 rfl T.F_Door___init__ sc_Door___init__ (fun ds G Q Ed h => ?_) (fun cdv Ar outer s H ds G Q Ed E hr h => ?_)
  · revert h; revert ds; refine inv_rPPi ?_; intros; exact rfl
  · refine ⟨_, (show PSsDw _ (_ :: _) _ from (dssw_cons (PSD.weak (ds_expr (de_cmethX (C := A.c_Wall) (de_glob (by rfl) T.mc_Wall) T.cm_Wall___init__ (ok_Wall___init__ T) (hr.mono (by decide)) T.d_Wall___init__.b (da_cons (dv 0) (da_cons (dv 1) (da_cons (dv 2) da_nil))))))
      (dssw_cons (PSD.weak (ds_if (PWD.pt (dw_or (dt_cmp od_lt (dv 3) de_int (nomark _)) (dw_or1 (dt_cmp od_gt (dv 3) (de_globI (by rfl) T.g_GREATEST_EVERY) (nomark _))))) (dss_one (ds_raise T.er_BadWall rfl (by rfl) (da_cons de_str da_nil))) dss_nil))
      (dssw_one (PSD.weak (ds_fld (dv 0) (dv 3))))))), ?_⟩
    revert h
    revert ds
    refine inv_rPPi ?_
    intro _ _ _ _ _ _ h
    rename_i p a b c d n
    obtain ⟨dx, hG, hq, hx⟩ := h
    simp only [dSeq, dAsg, dCB, dCons, dNil, dVar, dC, dOp, dUn, dTest, dOr, dNot, dAndV, dOrV, dTup, dLst, dSl, dPart, dIfS, dRet, dDrop, dNext, gdName, qAbs, qI, qI0, qUn, qLen, qSl, dCall, st0, seqD, List.map_cons, List.map_nil, List.length_cons, List.length_nil, List.cons_append, List.nil_append, List.set_cons_zero, List.set_cons_succ, List.getElem?_cons_zero, List.getElem?_cons_succ, Option.some.injEq, Nat.reduceAdd, Nat.reduceSub, List.replicate, Bool.not_eq_true', decide_eq_true_eq, decide_eq_false_iff_not, decide_not, ite_not, Bool.not_eq_eq_eq_not, Bool.not_true, Bool.not_false, if_true, if_false, true_and, and_true, List.cons.injEq, D.int.injEq, D.bl.injEq, D.tup.injEq, ite_true, ite_false, reduceCtorEq, Bool.false_eq_true, divP_lit, pow_lit, mul_lit, mul_litL, mul_litB, qIx, at0, at1, at2, at3, at4, at5, gupd_same, Int.reduceLT, Int.reduceLE, Int.reducePow, Int.reduceToNat, Int.reduceMul, Int.reduceAdd, Int.reduceDiv, Int.reduceSub, Int.reduceNeg, Int.reduceEq, Int.reduceMod, Nat.reduceLT, Nat.reduceLeDiff, sz_line, OD.lst.injEq, and_assoc, dFor, iSeq, dComp, pickS, qIs, isNonD, Bool.and_self, Bool.true_and, Bool.and_true, Bool.false_and, Bool.and_false, dRaise, dCallX, valD, sp_divisor, sh_ii_eq, sh_i_eq, sh_r_eq, sh_rP_eq, sh_iii_eq, sh_iPii_eq, sh_P_eq, sh_PP_eq, sh_rPP_eq, sh_rPPi_eq, sh_rQ_eq, sh_iPP_eq, dsPar, iRng1D, insAt, dFld, dsFld, dMeth, dMake, qIsI, sp_cell, sp_unit, sp_begin, sp_size, sp_lean, sp_spot, sp_headX, sp_line, sp_across, sp_aspoint, sp_checkX, sp_betweenX, sp_wline, sp_woffset, sp_wholds, sp_wends, put1, put2, put3, put4, sp_made, sp_lright, qIsB_bb, qIsB_ib, qIsB_bi, qIsB_ii, sp_wallX]
    refine ⟨.door, dx, hG, fun l hg G1 s1 e => ?_, fun hbad => hx fun l z => hbad l z.1⟩
    simp only [dSeq, dAsg, dCB, dCons, dNil, dVar, dC, dOp, dUn, dTest, dOr, dNot, dAndV, dOrV, dTup, dLst, dSl, dPart, dIfS, dRet, dDrop, dNext, gdName, qAbs, qI, qI0, qUn, qLen, qSl, dCall, st0, seqD, List.map_cons, List.map_nil, List.length_cons, List.length_nil, List.cons_append, List.nil_append, List.set_cons_zero, List.set_cons_succ, List.getElem?_cons_zero, List.getElem?_cons_succ, Option.some.injEq, Nat.reduceAdd, Nat.reduceSub, List.replicate, Bool.not_eq_true', decide_eq_true_eq, decide_eq_false_iff_not, decide_not, ite_not, Bool.not_eq_eq_eq_not, Bool.not_true, Bool.not_false, if_true, if_false, true_and, and_true, List.cons.injEq, D.int.injEq, D.bl.injEq, D.tup.injEq, ite_true, ite_false, reduceCtorEq, Bool.false_eq_true, divP_lit, pow_lit, mul_lit, mul_litL, mul_litB, qIx, at0, at1, at2, at3, at4, at5, gupd_same, Int.reduceLT, Int.reduceLE, Int.reducePow, Int.reduceToNat, Int.reduceMul, Int.reduceAdd, Int.reduceDiv, Int.reduceSub, Int.reduceNeg, Int.reduceEq, Int.reduceMod, Nat.reduceLT, Nat.reduceLeDiff, sz_line, OD.lst.injEq, and_assoc, dFor, iSeq, dComp, pickS, qIs, isNonD, Bool.and_self, Bool.true_and, Bool.and_true, Bool.false_and, Bool.and_false, dRaise, dCallX, valD, sp_divisor, sh_ii_eq, sh_i_eq, sh_r_eq, sh_rP_eq, sh_iii_eq, sh_iPii_eq, sh_P_eq, sh_PP_eq, sh_rPP_eq, sh_rPPi_eq, sh_rQ_eq, sh_iPP_eq, dsPar, iRng1D, insAt, dFld, dsFld, dMeth, dMake, qIsI, sp_cell, sp_unit, sp_begin, sp_size, sp_lean, sp_spot, sp_headX, sp_line, sp_across, sp_aspoint, sp_checkX, sp_betweenX, sp_wline, sp_woffset, sp_wholds, sp_wends, put1, put2, put3, put4, sp_made, sp_lright, qIsB_bb, qIsB_ib, qIsB_bi, qIsB_ii, e]
    by_cases h1 : n < 1
    · rw [if_pos h1]
      exact hx (fun l z => by omega) _ s1
    rw [if_neg h1]
    by_cases h2 : 9 < n
    · rw [if_pos h2]
      exact hx (fun l z => by omega) _ s1
    rw [if_neg h2]
    unfold wfs
    simp only [dSeq, dAsg, dCB, dCons, dNil, dVar, dC, dOp, dUn, dTest, dOr, dNot, dAndV, dOrV, dTup, dLst, dSl, dPart, dIfS, dRet, dDrop, dNext, gdName, qAbs, qI, qI0, qUn, qLen, qSl, dCall, st0, seqD, List.map_cons, List.map_nil, List.length_cons, List.length_nil, List.cons_append, List.nil_append, List.set_cons_zero, List.set_cons_succ, List.getElem?_cons_zero, List.getElem?_cons_succ, Option.some.injEq, Nat.reduceAdd, Nat.reduceSub, List.replicate, Bool.not_eq_true', decide_eq_true_eq, decide_eq_false_iff_not, decide_not, ite_not, Bool.not_eq_eq_eq_not, Bool.not_true, Bool.not_false, if_true, if_false, true_and, and_true, List.cons.injEq, D.int.injEq, D.bl.injEq, D.tup.injEq, ite_true, ite_false, reduceCtorEq, Bool.false_eq_true, divP_lit, pow_lit, mul_lit, mul_litL, mul_litB, qIx, at0, at1, at2, at3, at4, at5, gupd_same, Int.reduceLT, Int.reduceLE, Int.reducePow, Int.reduceToNat, Int.reduceMul, Int.reduceAdd, Int.reduceDiv, Int.reduceSub, Int.reduceNeg, Int.reduceEq, Int.reduceMod, Nat.reduceLT, Nat.reduceLeDiff, sz_line, OD.lst.injEq, and_assoc, dFor, iSeq, dComp, pickS, qIs, isNonD, Bool.and_self, Bool.true_and, Bool.and_true, Bool.false_and, Bool.and_false, dRaise, dCallX, valD, sp_divisor, sh_ii_eq, sh_i_eq, sh_r_eq, sh_rP_eq, sh_iii_eq, sh_iPii_eq, sh_P_eq, sh_PP_eq, sh_rPP_eq, sh_rPPi_eq, sh_rQ_eq, sh_iPP_eq, dsPar, iRng1D, insAt, dFld, dsFld, dMeth, dMake, qIsI, sp_cell, sp_unit, sp_begin, sp_size, sp_lean, sp_spot, sp_headX, sp_line, sp_across, sp_aspoint, sp_checkX, sp_betweenX, sp_wline, sp_woffset, sp_wholds, sp_wends, put1, put2, put3, put4, sp_made, sp_lright, qIsB_bb, qIsB_ib, qIsB_bi, qIsB_ii]
    exact ⟨⟨T.o_Door.cl, T.nf_Door_number⟩, hq l hg (by omega) (by omega) _ s1.put gupd_same⟩
theorem ok__law_made (T : Txt K mg A) : FnOk P w K mg base CX0 7 A.f__law_made A.fd__law_made ["_law_cell", "_law_one", "_law_two"] (spOf K (sp_made A)) := by
  refine L3.Fun.okD 1 rfl T.d__law_made.F sc__law_made (fun ds G Q h => ?_) (fun cdv Ar outer s H ds G Q E hr h => ?_)
  · revert h; revert ds; refine inv_iPP ?_; intros; exact rfl
  · refine ⟨_, (show PSsD _ (_ :: _) _ from (dss_cons (ds_set (i := 3) sc__law_made.nd rfl (Or.inl rfl) (de_tup (da_cons (dv 1) (da_cons (dv 2) da_nil))))
      (dss_cons (ds_if (dt_cmp od_eqI (de_op od_modP (de_op od_fdivP (dv 0) de_int) de_int) de_int (nomark _)) (dss_one (ds_set (i := 3) sc__law_made.nd rfl (Or.inl rfl) (de_tup (da_cons (dv 2) (da_cons (dv 1) da_nil))))) dss_nil)
      (dss_cons (ds_if (dt_cmp od_eqI (de_op od_modP (dv 0) de_int) de_int (nomark _)) (dss_one (ds_ret (de_makeN (C := A.c_Mirror) ⟨T.o_Mirror.mm, T.r_Mirror___init__, T.d_Wall___init__.m, T.o_Mirror.kc⟩ (ok_Wall___init__ T) (hr.mono (by decide)) (by rfl) T.mc_Mirror T.d_Wall___init__.b Dfl.nil (da_cons (de_ix (dv 3) de_int (fun _ _ => rfl)) (da_cons (de_ix (dv 3) de_int (fun _ _ => rfl)) da_nil))))) dss_nil)
      (dss_cons (ds_if (dt_cmp od_eqI (de_op od_modP (dv 0) de_int) de_int (nomark _)) (dss_one (ds_ret (de_makeN (C := A.c_Glass) ⟨T.o_Glass.mm, T.r_Glass___init__, T.d_Wall___init__.m, T.o_Glass.kc⟩ (ok_Wall___init__ T) (hr.mono (by decide)) (by rfl) T.mc_Glass T.d_Wall___init__.b Dfl.nil (da_cons (de_ix (dv 3) de_int (fun _ _ => rfl)) (da_cons (de_ix (dv 3) de_int (fun _ _ => rfl)) da_nil))))) dss_nil)
      (dss_cons (ds_if (dt_cmp od_eqI (de_op od_modP (dv 0) de_int) de_int (nomark _)) (dss_one (ds_ret (de_makeN (C := A.c_Hole) ⟨T.o_Hole.mm, T.r_Hole___init__, T.d_Wall___init__.m, T.o_Hole.kc⟩ (ok_Wall___init__ T) (hr.mono (by decide)) (by rfl) T.mc_Hole T.d_Wall___init__.b Dfl.nil (da_cons (de_ix (dv 3) de_int (fun _ _ => rfl)) (da_cons (de_ix (dv 3) de_int (fun _ _ => rfl)) da_nil))))) dss_nil)
      (dss_cons (ds_if (dt_cmp od_eqI (de_op od_modP (de_op od_fdivP (dv 0) de_int) de_int) de_int (nomark _)) (dss_one (ds_ret (de_makeN (C := A.c_Door) ⟨T.o_Door.mm, T.r_Door___init__, T.i_Door___init__, T.o_Door.kc⟩ (ok_Door___init__ T) (hr.mono (by decide)) (by rfl) T.mc_Door T.b_Door___init___1 (Dfl.int Dfl.nil) (da_cons (de_ix (dv 3) de_int (fun _ _ => rfl)) (da_cons (de_ix (dv 3) de_int (fun _ _ => rfl)) da_nil))))) dss_nil)
      (dss_one (ds_ret (de_makeN (C := A.c_Door) ⟨T.o_Door.mm, T.r_Door___init__, T.i_Door___init__, T.o_Door.kc⟩ (ok_Door___init__ T) (hr.mono (by decide)) (by rfl) T.mc_Door T.b_Door___init__ Dfl.nil (da_cons (de_ix (dv 3) de_int (fun _ _ => rfl)) (da_cons (de_ix (dv 3) de_int (fun _ _ => rfl)) (da_cons (de_op od_modP (de_op od_fdivP (dv 0) de_int) de_int) da_nil))))))))))))), ?_⟩
    revert h
    revert ds
    refine inv_iPP ?_
    intro _ _ _ _ _ h
    rename_i z a b c d
    obtain ⟨l, g, hq⟩ := h
    have m0 := Int.emod_nonneg (z / 8) (by decide : (10 : Int) ≠ 0)
    have m1 := Int.emod_lt_of_pos (z / 8) (by decide : (0 : Int) < 10)
    refine seq_cut fun N1 c1 => ?_
    simp only [dSeq, dAsg, dCB, dCons, dNil, dVar, dC, dOp, dUn, dTest, dOr, dNot, dAndV, dOrV, dTup, dLst, dSl, dPart, dIfS, dRet, dDrop, dNext, gdName, qAbs, qI, qI0, qUn, qLen, qSl, dCall, st0, seqD, List.map_cons, List.map_nil, List.length_cons, List.length_nil, List.cons_append, List.nil_append, List.set_cons_zero, List.set_cons_succ, List.getElem?_cons_zero, List.getElem?_cons_succ, Option.some.injEq, Nat.reduceAdd, Nat.reduceSub, List.replicate, Bool.not_eq_true', decide_eq_true_eq, decide_eq_false_iff_not, decide_not, ite_not, Bool.not_eq_eq_eq_not, Bool.not_true, Bool.not_false, if_true, if_false, true_and, and_true, List.cons.injEq, D.int.injEq, D.bl.injEq, D.tup.injEq, ite_true, ite_false, reduceCtorEq, Bool.false_eq_true, divP_lit, pow_lit, mul_lit, mul_litL, mul_litB, qIx, at0, at1, at2, at3, at4, at5, gupd_same, Int.reduceLT, Int.reduceLE, Int.reducePow, Int.reduceToNat, Int.reduceMul, Int.reduceAdd, Int.reduceDiv, Int.reduceSub, Int.reduceNeg, Int.reduceEq, Int.reduceMod, Nat.reduceLT, Nat.reduceLeDiff, sz_line, OD.lst.injEq, and_assoc, dFor, iSeq, dComp, pickS, qIs, isNonD, Bool.and_self, Bool.true_and, Bool.and_true, Bool.false_and, Bool.and_false, dRaise, dCallX, valD, sp_divisor, sh_ii_eq, sh_i_eq, sh_r_eq, sh_rP_eq, sh_iii_eq, sh_iPii_eq, sh_P_eq, sh_PP_eq, sh_rPP_eq, sh_rPPi_eq, sh_rQ_eq, sh_iPP_eq, dsPar, iRng1D, insAt, dFld, dsFld, dMeth, dMake, qIsI, sp_cell, sp_unit, sp_begin, sp_size, sp_lean, sp_spot, sp_headX, sp_line, sp_across, sp_aspoint, sp_checkX, sp_betweenX, sp_wline, sp_woffset, sp_wholds, sp_wends, put1, put2, put3, put4, sp_made, sp_lright, qIsB_bb, qIsB_ib, qIsB_bi, qIsB_ii]
    refine c1 _ _ (seq_cut fun N2 c2 => ?_)
    have go : ∀ p q r t : Int, Ends a b c d l p q r t → N2 [some (.int z), some (.tup [.int a, .int b]), some (.tup [.int c, .int d]), some (.tup [.tup [.int p, .int q], .tup [.int r, .int t]])] G := fun p q r t g => by
      refine c2 _ _ (seq_cut fun N3 c3 => ?_)
      simp only [dSeq, dAsg, dCB, dCons, dNil, dVar, dC, dOp, dUn, dTest, dOr, dNot, dAndV, dOrV, dTup, dLst, dSl, dPart, dIfS, dRet, dDrop, dNext, gdName, qAbs, qI, qI0, qUn, qLen, qSl, dCall, st0, seqD, List.map_cons, List.map_nil, List.length_cons, List.length_nil, List.cons_append, List.nil_append, List.set_cons_zero, List.set_cons_succ, List.getElem?_cons_zero, List.getElem?_cons_succ, Option.some.injEq, Nat.reduceAdd, Nat.reduceSub, List.replicate, Bool.not_eq_true', decide_eq_true_eq, decide_eq_false_iff_not, decide_not, ite_not, Bool.not_eq_eq_eq_not, Bool.not_true, Bool.not_false, if_true, if_false, true_and, and_true, List.cons.injEq, D.int.injEq, D.bl.injEq, D.tup.injEq, ite_true, ite_false, reduceCtorEq, Bool.false_eq_true, divP_lit, pow_lit, mul_lit, mul_litL, mul_litB, qIx, at0, at1, at2, at3, at4, at5, gupd_same, Int.reduceLT, Int.reduceLE, Int.reducePow, Int.reduceToNat, Int.reduceMul, Int.reduceAdd, Int.reduceDiv, Int.reduceSub, Int.reduceNeg, Int.reduceEq, Int.reduceMod, Nat.reduceLT, Nat.reduceLeDiff, sz_line, OD.lst.injEq, and_assoc, dFor, iSeq, dComp, pickS, qIs, isNonD, Bool.and_self, Bool.true_and, Bool.and_true, Bool.false_and, Bool.and_false, dRaise, dCallX, valD, sp_divisor, sh_ii_eq, sh_i_eq, sh_r_eq, sh_rP_eq, sh_iii_eq, sh_iPii_eq, sh_P_eq, sh_PP_eq, sh_rPP_eq, sh_rPPi_eq, sh_rQ_eq, sh_iPP_eq, dsPar, iRng1D, insAt, dFld, dsFld, dMeth, dMake, qIsI, sp_cell, sp_unit, sp_begin, sp_size, sp_lean, sp_spot, sp_headX, sp_line, sp_across, sp_aspoint, sp_checkX, sp_betweenX, sp_wline, sp_woffset, sp_wholds, sp_wends, put1, put2, put3, put4, sp_made, sp_lright, qIsB_bb, qIsB_ib, qIsB_bi, qIsB_ii]
      by_cases h2 : z % 4 = 0
      · rw [if_pos h2]
        exact fun x dx hx _ _ => mk_wall .mirror rfl g hx fun n G' hw s => hq x _ n G' hw s
      rw [if_neg h2]
      refine c3 _ _ (seq_cut fun N4 c4 => ?_)
      simp only [dSeq, dAsg, dCB, dCons, dNil, dVar, dC, dOp, dUn, dTest, dOr, dNot, dAndV, dOrV, dTup, dLst, dSl, dPart, dIfS, dRet, dDrop, dNext, gdName, qAbs, qI, qI0, qUn, qLen, qSl, dCall, st0, seqD, List.map_cons, List.map_nil, List.length_cons, List.length_nil, List.cons_append, List.nil_append, List.set_cons_zero, List.set_cons_succ, List.getElem?_cons_zero, List.getElem?_cons_succ, Option.some.injEq, Nat.reduceAdd, Nat.reduceSub, List.replicate, Bool.not_eq_true', decide_eq_true_eq, decide_eq_false_iff_not, decide_not, ite_not, Bool.not_eq_eq_eq_not, Bool.not_true, Bool.not_false, if_true, if_false, true_and, and_true, List.cons.injEq, D.int.injEq, D.bl.injEq, D.tup.injEq, ite_true, ite_false, reduceCtorEq, Bool.false_eq_true, divP_lit, pow_lit, mul_lit, mul_litL, mul_litB, qIx, at0, at1, at2, at3, at4, at5, gupd_same, Int.reduceLT, Int.reduceLE, Int.reducePow, Int.reduceToNat, Int.reduceMul, Int.reduceAdd, Int.reduceDiv, Int.reduceSub, Int.reduceNeg, Int.reduceEq, Int.reduceMod, Nat.reduceLT, Nat.reduceLeDiff, sz_line, OD.lst.injEq, and_assoc, dFor, iSeq, dComp, pickS, qIs, isNonD, Bool.and_self, Bool.true_and, Bool.and_true, Bool.false_and, Bool.and_false, dRaise, dCallX, valD, sp_divisor, sh_ii_eq, sh_i_eq, sh_r_eq, sh_rP_eq, sh_iii_eq, sh_iPii_eq, sh_P_eq, sh_PP_eq, sh_rPP_eq, sh_rPPi_eq, sh_rQ_eq, sh_iPP_eq, dsPar, iRng1D, insAt, dFld, dsFld, dMeth, dMake, qIsI, sp_cell, sp_unit, sp_begin, sp_size, sp_lean, sp_spot, sp_headX, sp_line, sp_across, sp_aspoint, sp_checkX, sp_betweenX, sp_wline, sp_woffset, sp_wholds, sp_wends, put1, put2, put3, put4, sp_made, sp_lright, qIsB_bb, qIsB_ib, qIsB_bi, qIsB_ii]
      by_cases h3 : z % 4 = 1
      · rw [if_pos h3]
        exact fun x dx hx _ _ => mk_wall .glass rfl g hx fun n G' hw s => hq x _ n G' hw s
      rw [if_neg h3]
      refine c4 _ _ (seq_cut fun N5 c5 => ?_)
      simp only [dSeq, dAsg, dCB, dCons, dNil, dVar, dC, dOp, dUn, dTest, dOr, dNot, dAndV, dOrV, dTup, dLst, dSl, dPart, dIfS, dRet, dDrop, dNext, gdName, qAbs, qI, qI0, qUn, qLen, qSl, dCall, st0, seqD, List.map_cons, List.map_nil, List.length_cons, List.length_nil, List.cons_append, List.nil_append, List.set_cons_zero, List.set_cons_succ, List.getElem?_cons_zero, List.getElem?_cons_succ, Option.some.injEq, Nat.reduceAdd, Nat.reduceSub, List.replicate, Bool.not_eq_true', decide_eq_true_eq, decide_eq_false_iff_not, decide_not, ite_not, Bool.not_eq_eq_eq_not, Bool.not_true, Bool.not_false, if_true, if_false, true_and, and_true, List.cons.injEq, D.int.injEq, D.bl.injEq, D.tup.injEq, ite_true, ite_false, reduceCtorEq, Bool.false_eq_true, divP_lit, pow_lit, mul_lit, mul_litL, mul_litB, qIx, at0, at1, at2, at3, at4, at5, gupd_same, Int.reduceLT, Int.reduceLE, Int.reducePow, Int.reduceToNat, Int.reduceMul, Int.reduceAdd, Int.reduceDiv, Int.reduceSub, Int.reduceNeg, Int.reduceEq, Int.reduceMod, Nat.reduceLT, Nat.reduceLeDiff, sz_line, OD.lst.injEq, and_assoc, dFor, iSeq, dComp, pickS, qIs, isNonD, Bool.and_self, Bool.true_and, Bool.and_true, Bool.false_and, Bool.and_false, dRaise, dCallX, valD, sp_divisor, sh_ii_eq, sh_i_eq, sh_r_eq, sh_rP_eq, sh_iii_eq, sh_iPii_eq, sh_P_eq, sh_PP_eq, sh_rPP_eq, sh_rPPi_eq, sh_rQ_eq, sh_iPP_eq, dsPar, iRng1D, insAt, dFld, dsFld, dMeth, dMake, qIsI, sp_cell, sp_unit, sp_begin, sp_size, sp_lean, sp_spot, sp_headX, sp_line, sp_across, sp_aspoint, sp_checkX, sp_betweenX, sp_wline, sp_woffset, sp_wholds, sp_wends, put1, put2, put3, put4, sp_made, sp_lright, qIsB_bb, qIsB_ib, qIsB_bi, qIsB_ii]
      by_cases h4 : z % 4 = 2
      · rw [if_pos h4]
        exact fun x dx hx _ _ => mk_wall .hole rfl g hx fun n G' hw s => hq x _ n G' hw s
      rw [if_neg h4]
      refine c5 _ _ (seq_cut fun N6 c6 => ?_)
      simp only [dSeq, dAsg, dCB, dCons, dNil, dVar, dC, dOp, dUn, dTest, dOr, dNot, dAndV, dOrV, dTup, dLst, dSl, dPart, dIfS, dRet, dDrop, dNext, gdName, qAbs, qI, qI0, qUn, qLen, qSl, dCall, st0, seqD, List.map_cons, List.map_nil, List.length_cons, List.length_nil, List.cons_append, List.nil_append, List.set_cons_zero, List.set_cons_succ, List.getElem?_cons_zero, List.getElem?_cons_succ, Option.some.injEq, Nat.reduceAdd, Nat.reduceSub, List.replicate, Bool.not_eq_true', decide_eq_true_eq, decide_eq_false_iff_not, decide_not, ite_not, Bool.not_eq_eq_eq_not, Bool.not_true, Bool.not_false, if_true, if_false, true_and, and_true, List.cons.injEq, D.int.injEq, D.bl.injEq, D.tup.injEq, ite_true, ite_false, reduceCtorEq, Bool.false_eq_true, divP_lit, pow_lit, mul_lit, mul_litL, mul_litB, qIx, at0, at1, at2, at3, at4, at5, gupd_same, Int.reduceLT, Int.reduceLE, Int.reducePow, Int.reduceToNat, Int.reduceMul, Int.reduceAdd, Int.reduceDiv, Int.reduceSub, Int.reduceNeg, Int.reduceEq, Int.reduceMod, Nat.reduceLT, Nat.reduceLeDiff, sz_line, OD.lst.injEq, and_assoc, dFor, iSeq, dComp, pickS, qIs, isNonD, Bool.and_self, Bool.true_and, Bool.and_true, Bool.false_and, Bool.and_false, dRaise, dCallX, valD, sp_divisor, sh_ii_eq, sh_i_eq, sh_r_eq, sh_rP_eq, sh_iii_eq, sh_iPii_eq, sh_P_eq, sh_PP_eq, sh_rPP_eq, sh_rPPi_eq, sh_rQ_eq, sh_iPP_eq, dsPar, iRng1D, insAt, dFld, dsFld, dMeth, dMake, qIsI, sp_cell, sp_unit, sp_begin, sp_size, sp_lean, sp_spot, sp_headX, sp_line, sp_across, sp_aspoint, sp_checkX, sp_betweenX, sp_wline, sp_woffset, sp_wholds, sp_wends, put1, put2, put3, put4, sp_made, sp_lright, qIsB_bb, qIsB_ib, qIsB_bi, qIsB_ii]
      by_cases h5 : z / 8 % 10 = 0
      · rw [if_pos h5]
        exact fun x dx hx _ _ => mk_door g (by decide) (by decide) hx fun G' hw s => hq x _ _ G' hw s
      rw [if_neg h5]
      refine c6 _ _ ?_
      simp only [dSeq, dAsg, dCB, dCons, dNil, dVar, dC, dOp, dUn, dTest, dOr, dNot, dAndV, dOrV, dTup, dLst, dSl, dPart, dIfS, dRet, dDrop, dNext, gdName, qAbs, qI, qI0, qUn, qLen, qSl, dCall, st0, seqD, List.map_cons, List.map_nil, List.length_cons, List.length_nil, List.cons_append, List.nil_append, List.set_cons_zero, List.set_cons_succ, List.getElem?_cons_zero, List.getElem?_cons_succ, Option.some.injEq, Nat.reduceAdd, Nat.reduceSub, List.replicate, Bool.not_eq_true', decide_eq_true_eq, decide_eq_false_iff_not, decide_not, ite_not, Bool.not_eq_eq_eq_not, Bool.not_true, Bool.not_false, if_true, if_false, true_and, and_true, List.cons.injEq, D.int.injEq, D.bl.injEq, D.tup.injEq, ite_true, ite_false, reduceCtorEq, Bool.false_eq_true, divP_lit, pow_lit, mul_lit, mul_litL, mul_litB, qIx, at0, at1, at2, at3, at4, at5, gupd_same, Int.reduceLT, Int.reduceLE, Int.reducePow, Int.reduceToNat, Int.reduceMul, Int.reduceAdd, Int.reduceDiv, Int.reduceSub, Int.reduceNeg, Int.reduceEq, Int.reduceMod, Nat.reduceLT, Nat.reduceLeDiff, sz_line, OD.lst.injEq, and_assoc, dFor, iSeq, dComp, pickS, qIs, isNonD, Bool.and_self, Bool.true_and, Bool.and_true, Bool.false_and, Bool.and_false, dRaise, dCallX, valD, sp_divisor, sh_ii_eq, sh_i_eq, sh_r_eq, sh_rP_eq, sh_iii_eq, sh_iPii_eq, sh_P_eq, sh_PP_eq, sh_rPP_eq, sh_rPPi_eq, sh_rQ_eq, sh_iPP_eq, dsPar, iRng1D, insAt, dFld, dsFld, dMeth, dMake, qIsI, sp_cell, sp_unit, sp_begin, sp_size, sp_lean, sp_spot, sp_headX, sp_line, sp_across, sp_aspoint, sp_checkX, sp_betweenX, sp_wline, sp_woffset, sp_wholds, sp_wends, put1, put2, put3, put4, sp_made, sp_lright, qIsB_bb, qIsB_ib, qIsB_bi, qIsB_ii]
      exact fun x dx hx _ _ => mk_door g (by omega) (by omega) hx fun G' hw s => hq x _ _ G' hw s
    simp only [dSeq, dAsg, dCB, dCons, dNil, dVar, dC, dOp, dUn, dTest, dOr, dNot, dAndV, dOrV, dTup, dLst, dSl, dPart, dIfS, dRet, dDrop, dNext, gdName, qAbs, qI, qI0, qUn, qLen, qSl, dCall, st0, seqD, List.map_cons, List.map_nil, List.length_cons, List.length_nil, List.cons_append, List.nil_append, List.set_cons_zero, List.set_cons_succ, List.getElem?_cons_zero, List.getElem?_cons_succ, Option.some.injEq, Nat.reduceAdd, Nat.reduceSub, List.replicate, Bool.not_eq_true', decide_eq_true_eq, decide_eq_false_iff_not, decide_not, ite_not, Bool.not_eq_eq_eq_not, Bool.not_true, Bool.not_false, if_true, if_false, true_and, and_true, List.cons.injEq, D.int.injEq, D.bl.injEq, D.tup.injEq, ite_true, ite_false, reduceCtorEq, Bool.false_eq_true, divP_lit, pow_lit, mul_lit, mul_litL, mul_litB, qIx, at0, at1, at2, at3, at4, at5, gupd_same, Int.reduceLT, Int.reduceLE, Int.reducePow, Int.reduceToNat, Int.reduceMul, Int.reduceAdd, Int.reduceDiv, Int.reduceSub, Int.reduceNeg, Int.reduceEq, Int.reduceMod, Nat.reduceLT, Nat.reduceLeDiff, sz_line, OD.lst.injEq, and_assoc, dFor, iSeq, dComp, pickS, qIs, isNonD, Bool.and_self, Bool.true_and, Bool.and_true, Bool.false_and, Bool.and_false, dRaise, dCallX, valD, sp_divisor, sh_ii_eq, sh_i_eq, sh_r_eq, sh_rP_eq, sh_iii_eq, sh_iPii_eq, sh_P_eq, sh_PP_eq, sh_rPP_eq, sh_rPPi_eq, sh_rQ_eq, sh_iPP_eq, dsPar, iRng1D, insAt, dFld, dsFld, dMeth, dMake, qIsI, sp_cell, sp_unit, sp_begin, sp_size, sp_lean, sp_spot, sp_headX, sp_line, sp_across, sp_aspoint, sp_checkX, sp_betweenX, sp_wline, sp_woffset, sp_wholds, sp_wends, put1, put2, put3, put4, sp_made, sp_lright, qIsB_bb, qIsB_ib, qIsB_bi, qIsB_ii]
    by_cases h1 : z / 4 % 2 = 1
    · rw [if_pos h1]
      exact go _ _ _ _ g.endsB
    · rw [if_neg h1]
      exact go _ _ _ _ g.ends
theorem ok_law (T : Txt K mg A) : FnOk P w K mg base CX0 8 A.f_law A.fd_law ["_law_script"] (spOf K (spLaw)) := by
  refine L3.Fun.okD 9 rfl T.d_law.F sc_law (fun ds G Q h => ?_) (fun cdv Ar outer s H ds G Q E hr h => ?_)
  · obtain ⟨ns, rfl, _⟩ := h; rfl
  · refine ⟨_, (show PSsD _ (_ :: _) _ from (dss_cons (ds_comp (i := 1) sc_law.nd rfl (Or.inl rfl) (ys := ["_law_script"]) (ks := [0]) rfl (id_range1 (by rfl) T.z_range (da_cons de_int da_nil)) (fun _ _ _ _ => PCs.nil) (fun _ _ _ _ => (de_call (ok__law_cell_at T) (hr.mono (by decide)) (by rfl) T.d__law_cell_at.m T.d__law_cell_at.F.kp T.d__law_cell_at.b (da_cons (dv 1) (da_cons (dv 0) da_nil)))) rfl ⟨rfl, trivial⟩ ⟨⟨rfl, rfl, rfl, _, rfl⟩, trivial⟩ rfl rfl rfl (by decide +kernel) (cells_ok (by rfl)) (by decide +kernel) (by decide +kernel))
      (dss_cons (ds_set (i := 2) sc_law.nd rfl (Or.inl rfl) (de_op od_modP (de_ix (dv 1) de_int (fun _ _ => rfl)) de_int))
      (dss_cons (ds_set (i := 3) sc_law.nd rfl (Or.inl rfl) (de_call (ok__law_begin T) (hr.mono (by decide)) (by rfl) T.d__law_begin.m T.d__law_begin.F.kp T.d__law_begin.b (da_cons (dv 1) da_nil)))
      (dss_cons (ds_set (i := 4) sc_law.nd rfl (Or.inl rfl) (de_call (ok__law_size T) (hr.mono (by decide)) (by rfl) T.d__law_size.m T.d__law_size.F.kp T.d__law_size.b (da_cons (dv 1) (da_cons (dv 3) da_nil))))
      (dss_cons (ds_set (i := 5) sc_law.nd rfl (Or.inl rfl) (de_call (ok__law_unit T) (hr.mono (by decide)) (by rfl) T.d__law_unit.m T.d__law_unit.F.kp T.d__law_unit.b (da_cons (dv 2) da_nil)))
      (dss_cons (ds_set (i := 6) sc_law.nd rfl (Or.inl rfl) (de_tup (da_cons (de_op od_addI (de_ix (dv 3) de_int (fun _ _ => rfl)) (de_op od_mul (dv 4) (de_ix (dv 5) de_int (fun _ _ => rfl)))) (da_cons (de_op od_addI (de_ix (dv 3) de_int (fun _ _ => rfl)) (de_op od_mul (dv 4) (de_ix (dv 5) de_int (fun _ _ => rfl)))) da_nil))))
      (dss_cons (ds_set (i := 7) sc_law.nd rfl (Or.inl rfl) (de_call (ok__law_made T) (hr.mono (by decide)) (by rfl) T.d__law_made.m T.d__law_made.F.kp T.d__law_made.b (da_cons (de_ix (dv 1) de_int (fun _ _ => rfl)) (da_cons (dv 3) (da_cons (dv 6) da_nil)))))
      (dss_cons (ds_if (PWD.pt (dw_or (dt_not (dt_val (de_callB cd_isI (by rfl) T.z_isinstance bt_isinstance (da_cons (dv 7) (da_cons (de_glob (by rfl) T.mc_Wall) da_nil))))) (dw_or (dt_cmp (od_neT hr.units) (de_fld (dv 7)) (dv 3) (nomark _)) (dw_or1 (dt_cmp (od_neT hr.units) (de_fld (dv 7)) (dv 6) (nomark _)))))) (dss_one (ds_ret de_bl)) dss_nil)
      (dss_cons (ds_set (i := 8) sc_law.nd rfl (Or.inl rfl) (de_methN0 (M := M_line A) (dv 7) (mt_line T) (hr.mono (by decide))))
      (dss_cons (ds_if (PWD.pt (dw_or (dt_not (dt_val (de_callB cd_isB (by rfl) T.z_isinstance bt_isinstance (da_cons (dv 8) (da_cons (de_ty (by rfl) T.z_int bt_int) da_nil))))) (dw_or (dt_val (de_callB cd_isB (by rfl) T.z_isinstance bt_isinstance (da_cons (dv 8) (da_cons (de_ty (by rfl) T.z_bool bt_bool) da_nil)))) (dw_or1 (dt_cmp od_neI (dv 8) (dv 2) (nomark _)))))) (dss_one (ds_ret de_bl)) dss_nil)
      (dss_cons (ds_for PassesOwn.never rfl (id_seq (de_op od_addL (de_slice (dv 0) (do_some de_int) (do_some de_int)) (de_lst (da_cons de_int (da_cons de_int (da_cons de_int da_nil)))))) (gd_name (i := 9) sc_law.nd rfl (Or.inl rfl)) (dss_one (ds_if (dt_not (dt_val (de_call (ok__law_right T) (hr.mono (by decide)) (by rfl) T.d__law_right.m T.d__law_right.F.kp T.d__law_right.b (da_cons (dv 7) (da_cons (de_call (ok__law_spot T) (hr.mono (by decide)) (by rfl) T.d__law_spot.m T.d__law_spot.F.kp T.d__law_spot.b (da_cons (dv 9) (da_cons (dv 3) (da_cons (dv 2) (da_cons (dv 4) da_nil))))) da_nil))))) (dss_one (ds_ret de_bl)) dss_nil)))
      (dss_one (ds_ret de_bl)))))))))))))), ?_⟩
    obtain ⟨ns, rfl, hl, hb, hq⟩ := h
    refine seq_cut fun N1 c1 => ?_
    simp only [dSeq, dAsg, dCB, dCons, dNil, dVar, dC, dOp, dUn, dTest, dOr, dNot, dAndV, dOrV, dTup, dLst, dSl, dPart, dIfS, dRet, dDrop, dNext, gdName, qAbs, qI, qI0, qUn, qLen, qSl, dCall, st0, seqD, List.map_cons, List.map_nil, List.length_cons, List.length_nil, List.cons_append, List.nil_append, List.set_cons_zero, List.set_cons_succ, List.getElem?_cons_zero, List.getElem?_cons_succ, Option.some.injEq, Nat.reduceAdd, Nat.reduceSub, List.replicate, Bool.not_eq_true', decide_eq_true_eq, decide_eq_false_iff_not, decide_not, ite_not, Bool.not_eq_eq_eq_not, Bool.not_true, Bool.not_false, if_true, if_false, true_and, and_true, List.cons.injEq, D.int.injEq, D.bl.injEq, D.tup.injEq, ite_true, ite_false, reduceCtorEq, Bool.false_eq_true, divP_lit, pow_lit, mul_lit, mul_litL, mul_litB, qIx, at0, at1, at2, at3, at4, at5, gupd_same, Int.reduceLT, Int.reduceLE, Int.reducePow, Int.reduceToNat, Int.reduceMul, Int.reduceAdd, Int.reduceDiv, Int.reduceSub, Int.reduceNeg, Int.reduceEq, Int.reduceMod, Nat.reduceLT, Nat.reduceLeDiff, sz_line, OD.lst.injEq, and_assoc, dFor, iSeq, dComp, pickS, qIs, isNonD, Bool.and_self, Bool.true_and, Bool.and_true, Bool.false_and, Bool.and_false, dRaise, dCallX, valD, sp_divisor, sh_ii_eq, sh_i_eq, sh_r_eq, sh_rP_eq, sh_iii_eq, sh_iPii_eq, sh_P_eq, sh_PP_eq, sh_rPP_eq, sh_rPPi_eq, sh_rQ_eq, sh_iPP_eq, dsPar, iRng1D, insAt, dFld, dsFld, dMeth, dMake, qIsI, sp_cell, sp_unit, sp_begin, sp_size, sp_lean, sp_spot, sp_headX, sp_line, sp_across, sp_aspoint, sp_checkX, sp_betweenX, sp_wline, sp_woffset, sp_wholds, sp_wends, put1, put2, put3, put4, sp_made, sp_lright, qIsB_bb, qIsB_ib, qIsB_bi, qIsB_ii]
    refine ⟨fits_of (by simp [rngD]), ?_⟩
    refine cloop_map (fun d => match d with
      | .int k => .int (ns.getD k.toNat 0)
      | d => d) (fun _ _ => trivial) ?_ ?_
    · intro d hd G' R s1 k
      obtain ⟨i, hi⟩ := List.mem_iff_getElem?.mp hd
      obtain ⟨rfl, hlt⟩ := rng_at hi
      simp only [dSeq, dAsg, dCB, dCons, dNil, dVar, dC, dOp, dUn, dTest, dOr, dNot, dAndV, dOrV, dTup, dLst, dSl, dPart, dIfS, dRet, dDrop, dNext, gdName, qAbs, qI, qI0, qUn, qLen, qSl, dCall, st0, seqD, List.map_cons, List.map_nil, List.length_cons, List.length_nil, List.cons_append, List.nil_append, List.set_cons_zero, List.set_cons_succ, List.getElem?_cons_zero, List.getElem?_cons_succ, Option.some.injEq, Nat.reduceAdd, Nat.reduceSub, List.replicate, Bool.not_eq_true', decide_eq_true_eq, decide_eq_false_iff_not, decide_not, ite_not, Bool.not_eq_eq_eq_not, Bool.not_true, Bool.not_false, if_true, if_false, true_and, and_true, List.cons.injEq, D.int.injEq, D.bl.injEq, D.tup.injEq, ite_true, ite_false, reduceCtorEq, Bool.false_eq_true, divP_lit, pow_lit, mul_lit, mul_litL, mul_litB, qIx, at0, at1, at2, at3, at4, at5, gupd_same, Int.reduceLT, Int.reduceLE, Int.reducePow, Int.reduceToNat, Int.reduceMul, Int.reduceAdd, Int.reduceDiv, Int.reduceSub, Int.reduceNeg, Int.reduceEq, Int.reduceMod, Nat.reduceLT, Nat.reduceLeDiff, sz_line, OD.lst.injEq, and_assoc, dFor, iSeq, dComp, pickS, qIs, isNonD, Bool.and_self, Bool.true_and, Bool.and_true, Bool.false_and, Bool.and_false, dRaise, dCallX, valD, sp_divisor, sh_ii_eq, sh_i_eq, sh_r_eq, sh_rP_eq, sh_iii_eq, sh_iPii_eq, sh_P_eq, sh_PP_eq, sh_rPP_eq, sh_rPPi_eq, sh_rQ_eq, sh_iPP_eq, dsPar, iRng1D, insAt, dFld, dsFld, dMeth, dMake, qIsI, sp_cell, sp_unit, sp_begin, sp_size, sp_lean, sp_spot, sp_headX, sp_line, sp_across, sp_aspoint, sp_checkX, sp_betweenX, sp_wline, sp_woffset, sp_wholds, sp_wends, put1, put2, put3, put4, sp_made, sp_lright, qIsB_bb, qIsB_ib, qIsB_bi, qIsB_ii]
      exact ⟨ns, rfl, by omega, k _ .refl⟩
    intro q G1 hq0 s1 hG1
    obtain ⟨cs, hcs, hcl, hcz⟩ : ∃ cs : List Int, (rngD 0 1 5).map (fun d => match d with
      | .int k => .int (ns.getD k.toNat 0)
      | d => d) = cs.map D.int ∧ cs.length = 5 ∧ ∀ c ∈ cs, Sz 1048576 c := by
      refine ⟨(List.range 5).map fun i => ns.getD i 0, ?_, by simp, fun c hc => ?_⟩
      · simp [rngD, List.map_map, Function.comp_def]
      · obtain ⟨i, _, rfl⟩ := List.mem_map.mp hc
        by_cases hi : i < ns.length
        · have e : ns.getD i 0 = ns[i] := by simp [List.getD, hi]
          rw [e]
          exact ⟨hb _ (List.getElem_mem hi)⟩
        · have e : ns.getD i 0 = 0 := by simp [List.getD, Nat.not_lt.mp hi]
          rw [e]
          exact ⟨Nat.two_pow_pos _⟩
    rw [hcs] at hG1
    clear hcs
    have e0 : atI (cs.map D.int) 0 = some (D.int (cs.getD 0 0)) := at_cells (j := 0) (by omega)
    have e1 : atI (cs.map D.int) 1 = some (D.int (cs.getD 1 0)) := at_cells (j := 1) (by omega)
    have e2 : atI (cs.map D.int) 2 = some (D.int (cs.getD 2 0)) := at_cells (j := 2) (by omega)
    have e3 : atI (cs.map D.int) 3 = some (D.int (cs.getD 3 0)) := at_cells (j := 3) (by omega)
    have e4 : atI (cs.map D.int) 4 = some (D.int (cs.getD 4 0)) := at_cells (j := 4) (by omega)
    refine c1 _ _ (seq_cut fun N2 c2 => ?_)
    simp only [dSeq, dAsg, dCB, dCons, dNil, dVar, dC, dOp, dUn, dTest, dOr, dNot, dAndV, dOrV, dTup, dLst, dSl, dPart, dIfS, dRet, dDrop, dNext, gdName, qAbs, qI, qI0, qUn, qLen, qSl, dCall, st0, seqD, List.map_cons, List.map_nil, List.length_cons, List.length_nil, List.cons_append, List.nil_append, List.set_cons_zero, List.set_cons_succ, List.getElem?_cons_zero, List.getElem?_cons_succ, Option.some.injEq, Nat.reduceAdd, Nat.reduceSub, List.replicate, Bool.not_eq_true', decide_eq_true_eq, decide_eq_false_iff_not, decide_not, ite_not, Bool.not_eq_eq_eq_not, Bool.not_true, Bool.not_false, if_true, if_false, true_and, and_true, List.cons.injEq, D.int.injEq, D.bl.injEq, D.tup.injEq, ite_true, ite_false, reduceCtorEq, Bool.false_eq_true, divP_lit, pow_lit, mul_lit, mul_litL, mul_litB, qIx, at0, at1, at2, at3, at4, at5, gupd_same, Int.reduceLT, Int.reduceLE, Int.reducePow, Int.reduceToNat, Int.reduceMul, Int.reduceAdd, Int.reduceDiv, Int.reduceSub, Int.reduceNeg, Int.reduceEq, Int.reduceMod, Nat.reduceLT, Nat.reduceLeDiff, sz_line, OD.lst.injEq, and_assoc, dFor, iSeq, dComp, pickS, qIs, isNonD, Bool.and_self, Bool.true_and, Bool.and_true, Bool.false_and, Bool.and_false, dRaise, dCallX, valD, sp_divisor, sh_ii_eq, sh_i_eq, sh_r_eq, sh_rP_eq, sh_iii_eq, sh_iPii_eq, sh_P_eq, sh_PP_eq, sh_rPP_eq, sh_rPPi_eq, sh_rQ_eq, sh_iPP_eq, dsPar, iRng1D, insAt, dFld, dsFld, dMeth, dMake, qIsI, sp_cell, sp_unit, sp_begin, sp_size, sp_lean, sp_spot, sp_headX, sp_line, sp_across, sp_aspoint, sp_checkX, sp_betweenX, sp_wline, sp_woffset, sp_wholds, sp_wends, put1, put2, put3, put4, sp_made, sp_lright, qIsB_bb, qIsB_ib, qIsB_bi, qIsB_ii, hG1, e0]
    refine c2 _ _ (seq_cut fun N3 c3 => ?_)
    simp only [dSeq, dAsg, dCB, dCons, dNil, dVar, dC, dOp, dUn, dTest, dOr, dNot, dAndV, dOrV, dTup, dLst, dSl, dPart, dIfS, dRet, dDrop, dNext, gdName, qAbs, qI, qI0, qUn, qLen, qSl, dCall, st0, seqD, List.map_cons, List.map_nil, List.length_cons, List.length_nil, List.cons_append, List.nil_append, List.set_cons_zero, List.set_cons_succ, List.getElem?_cons_zero, List.getElem?_cons_succ, Option.some.injEq, Nat.reduceAdd, Nat.reduceSub, List.replicate, Bool.not_eq_true', decide_eq_true_eq, decide_eq_false_iff_not, decide_not, ite_not, Bool.not_eq_eq_eq_not, Bool.not_true, Bool.not_false, if_true, if_false, true_and, and_true, List.cons.injEq, D.int.injEq, D.bl.injEq, D.tup.injEq, ite_true, ite_false, reduceCtorEq, Bool.false_eq_true, divP_lit, pow_lit, mul_lit, mul_litL, mul_litB, qIx, at0, at1, at2, at3, at4, at5, gupd_same, Int.reduceLT, Int.reduceLE, Int.reducePow, Int.reduceToNat, Int.reduceMul, Int.reduceAdd, Int.reduceDiv, Int.reduceSub, Int.reduceNeg, Int.reduceEq, Int.reduceMod, Nat.reduceLT, Nat.reduceLeDiff, sz_line, OD.lst.injEq, and_assoc, dFor, iSeq, dComp, pickS, qIs, isNonD, Bool.and_self, Bool.true_and, Bool.and_true, Bool.false_and, Bool.and_false, dRaise, dCallX, valD, sp_divisor, sh_ii_eq, sh_i_eq, sh_r_eq, sh_rP_eq, sh_iii_eq, sh_iPii_eq, sh_P_eq, sh_PP_eq, sh_rPP_eq, sh_rPPi_eq, sh_rQ_eq, sh_iPP_eq, dsPar, iRng1D, insAt, dFld, dsFld, dMeth, dMake, qIsI, sp_cell, sp_unit, sp_begin, sp_size, sp_lean, sp_spot, sp_headX, sp_line, sp_across, sp_aspoint, sp_checkX, sp_betweenX, sp_wline, sp_woffset, sp_wholds, sp_wends, put1, put2, put3, put4, sp_made, sp_lright, qIsB_bb, qIsB_ib, qIsB_bi, qIsB_ii]
    refine ⟨cs, hG1, by omega, fun x y hB => c3 _ _ (seq_cut fun N4 c4 => ?_)⟩
    simp only [dSeq, dAsg, dCB, dCons, dNil, dVar, dC, dOp, dUn, dTest, dOr, dNot, dAndV, dOrV, dTup, dLst, dSl, dPart, dIfS, dRet, dDrop, dNext, gdName, qAbs, qI, qI0, qUn, qLen, qSl, dCall, st0, seqD, List.map_cons, List.map_nil, List.length_cons, List.length_nil, List.cons_append, List.nil_append, List.set_cons_zero, List.set_cons_succ, List.getElem?_cons_zero, List.getElem?_cons_succ, Option.some.injEq, Nat.reduceAdd, Nat.reduceSub, List.replicate, Bool.not_eq_true', decide_eq_true_eq, decide_eq_false_iff_not, decide_not, ite_not, Bool.not_eq_eq_eq_not, Bool.not_true, Bool.not_false, if_true, if_false, true_and, and_true, List.cons.injEq, D.int.injEq, D.bl.injEq, D.tup.injEq, ite_true, ite_false, reduceCtorEq, Bool.false_eq_true, divP_lit, pow_lit, mul_lit, mul_litL, mul_litB, qIx, at0, at1, at2, at3, at4, at5, gupd_same, Int.reduceLT, Int.reduceLE, Int.reducePow, Int.reduceToNat, Int.reduceMul, Int.reduceAdd, Int.reduceDiv, Int.reduceSub, Int.reduceNeg, Int.reduceEq, Int.reduceMod, Nat.reduceLT, Nat.reduceLeDiff, sz_line, OD.lst.injEq, and_assoc, dFor, iSeq, dComp, pickS, qIs, isNonD, Bool.and_self, Bool.true_and, Bool.and_true, Bool.false_and, Bool.and_false, dRaise, dCallX, valD, sp_divisor, sh_ii_eq, sh_i_eq, sh_r_eq, sh_rP_eq, sh_iii_eq, sh_iPii_eq, sh_P_eq, sh_PP_eq, sh_rPP_eq, sh_rPPi_eq, sh_rQ_eq, sh_iPP_eq, dsPar, iRng1D, insAt, dFld, dsFld, dMeth, dMake, qIsI, sp_cell, sp_unit, sp_begin, sp_size, sp_lean, sp_spot, sp_headX, sp_line, sp_across, sp_aspoint, sp_checkX, sp_betweenX, sp_wline, sp_woffset, sp_wholds, sp_wends, put1, put2, put3, put4, sp_made, sp_lright, qIsB_bb, qIsB_ib, qIsB_bi, qIsB_ii]
    refine ⟨cs, hG1, by omega, hB, fun n G2 s2 n0 n1 x1 y1 y0 => c4 _ _ (seq_cut fun N5 c5 => ?_)⟩
    have l0 := Int.emod_nonneg (cs.getD 0 0) (by decide : (4 : Int) ≠ 0)
    have l1 := Int.emod_lt_of_pos (cs.getD 0 0) (by decide : (0 : Int) < 4)
    have hG2 := s2 _ _ hG1
    generalize cs.getD 0 0 % 4 = l at *
    simp only [dSeq, dAsg, dCB, dCons, dNil, dVar, dC, dOp, dUn, dTest, dOr, dNot, dAndV, dOrV, dTup, dLst, dSl, dPart, dIfS, dRet, dDrop, dNext, gdName, qAbs, qI, qI0, qUn, qLen, qSl, dCall, st0, seqD, List.map_cons, List.map_nil, List.length_cons, List.length_nil, List.cons_append, List.nil_append, List.set_cons_zero, List.set_cons_succ, List.getElem?_cons_zero, List.getElem?_cons_succ, Option.some.injEq, Nat.reduceAdd, Nat.reduceSub, List.replicate, Bool.not_eq_true', decide_eq_true_eq, decide_eq_false_iff_not, decide_not, ite_not, Bool.not_eq_eq_eq_not, Bool.not_true, Bool.not_false, if_true, if_false, true_and, and_true, List.cons.injEq, D.int.injEq, D.bl.injEq, D.tup.injEq, ite_true, ite_false, reduceCtorEq, Bool.false_eq_true, divP_lit, pow_lit, mul_lit, mul_litL, mul_litB, qIx, at0, at1, at2, at3, at4, at5, gupd_same, Int.reduceLT, Int.reduceLE, Int.reducePow, Int.reduceToNat, Int.reduceMul, Int.reduceAdd, Int.reduceDiv, Int.reduceSub, Int.reduceNeg, Int.reduceEq, Int.reduceMod, Nat.reduceLT, Nat.reduceLeDiff, sz_line, OD.lst.injEq, and_assoc, dFor, iSeq, dComp, pickS, qIs, isNonD, Bool.and_self, Bool.true_and, Bool.and_true, Bool.false_and, Bool.and_false, dRaise, dCallX, valD, sp_divisor, sh_ii_eq, sh_i_eq, sh_r_eq, sh_rP_eq, sh_iii_eq, sh_iPii_eq, sh_P_eq, sh_PP_eq, sh_rPP_eq, sh_rPPi_eq, sh_rQ_eq, sh_iPP_eq, dsPar, iRng1D, insAt, dFld, dsFld, dMeth, dMake, qIsI, sp_cell, sp_unit, sp_begin, sp_size, sp_lean, sp_spot, sp_headX, sp_line, sp_across, sp_aspoint, sp_checkX, sp_betweenX, sp_wline, sp_woffset, sp_wholds, sp_wends, put1, put2, put3, put4, sp_made, sp_lright, qIsB_bb, qIsB_ib, qIsB_bi, qIsB_ii]
    refine ⟨l0, l1, fun G3 s3 => c5 _ _ (seq_cut fun N6 c6 => ?_)⟩
    have nS : Sz 11 n := .of 2000 (by decide) (by omega) (by omega)
    have uX : Sz 1 (unitX l) := by unfold unitX; split <;> exact .lit (by decide)
    have uY : Sz 1 (unitY l) := by unfold unitY; split; exact .lit (by decide); split <;> exact .lit (by decide)
    have hG3 := s3 _ _ hG2
    simp only [dSeq, dAsg, dCB, dCons, dNil, dVar, dC, dOp, dUn, dTest, dOr, dNot, dAndV, dOrV, dTup, dLst, dSl, dPart, dIfS, dRet, dDrop, dNext, gdName, qAbs, qI, qI0, qUn, qLen, qSl, dCall, st0, seqD, List.map_cons, List.map_nil, List.length_cons, List.length_nil, List.cons_append, List.nil_append, List.set_cons_zero, List.set_cons_succ, List.getElem?_cons_zero, List.getElem?_cons_succ, Option.some.injEq, Nat.reduceAdd, Nat.reduceSub, List.replicate, Bool.not_eq_true', decide_eq_true_eq, decide_eq_false_iff_not, decide_not, ite_not, Bool.not_eq_eq_eq_not, Bool.not_true, Bool.not_false, if_true, if_false, true_and, and_true, List.cons.injEq, D.int.injEq, D.bl.injEq, D.tup.injEq, ite_true, ite_false, reduceCtorEq, Bool.false_eq_true, divP_lit, pow_lit, mul_lit, mul_litL, mul_litB, qIx, at0, at1, at2, at3, at4, at5, gupd_same, Int.reduceLT, Int.reduceLE, Int.reducePow, Int.reduceToNat, Int.reduceMul, Int.reduceAdd, Int.reduceDiv, Int.reduceSub, Int.reduceNeg, Int.reduceEq, Int.reduceMod, Nat.reduceLT, Nat.reduceLeDiff, sz_line, OD.lst.injEq, and_assoc, dFor, iSeq, dComp, pickS, qIs, isNonD, Bool.and_self, Bool.true_and, Bool.and_true, Bool.false_and, Bool.and_false, dRaise, dCallX, valD, sp_divisor, sh_ii_eq, sh_i_eq, sh_r_eq, sh_rP_eq, sh_iii_eq, sh_iPii_eq, sh_P_eq, sh_PP_eq, sh_rPP_eq, sh_rPPi_eq, sh_rQ_eq, sh_iPP_eq, dsPar, iRng1D, insAt, dFld, dsFld, dMeth, dMake, qIsI, sp_cell, sp_unit, sp_begin, sp_size, sp_lean, sp_spot, sp_headX, sp_line, sp_across, sp_aspoint, sp_checkX, sp_betweenX, sp_wline, sp_woffset, sp_wholds, sp_wends, put1, put2, put3, put4, sp_made, sp_lright, qIsB_bb, qIsB_ib, qIsB_bi, qIsB_ii]
    refine ⟨mulOk nS uX (by decide), mulOk nS uY (by decide), c6 _ _ (seq_cut fun N7 c7 => ?_)⟩
    have g := geo_of l0 l1 hB n0 x1 y1 y0
    simp only [dSeq, dAsg, dCB, dCons, dNil, dVar, dC, dOp, dUn, dTest, dOr, dNot, dAndV, dOrV, dTup, dLst, dSl, dPart, dIfS, dRet, dDrop, dNext, gdName, qAbs, qI, qI0, qUn, qLen, qSl, dCall, st0, seqD, List.map_cons, List.map_nil, List.length_cons, List.length_nil, List.cons_append, List.nil_append, List.set_cons_zero, List.set_cons_succ, List.getElem?_cons_zero, List.getElem?_cons_succ, Option.some.injEq, Nat.reduceAdd, Nat.reduceSub, List.replicate, Bool.not_eq_true', decide_eq_true_eq, decide_eq_false_iff_not, decide_not, ite_not, Bool.not_eq_eq_eq_not, Bool.not_true, Bool.not_false, if_true, if_false, true_and, and_true, List.cons.injEq, D.int.injEq, D.bl.injEq, D.tup.injEq, ite_true, ite_false, reduceCtorEq, Bool.false_eq_true, divP_lit, pow_lit, mul_lit, mul_litL, mul_litB, qIx, at0, at1, at2, at3, at4, at5, gupd_same, Int.reduceLT, Int.reduceLE, Int.reducePow, Int.reduceToNat, Int.reduceMul, Int.reduceAdd, Int.reduceDiv, Int.reduceSub, Int.reduceNeg, Int.reduceEq, Int.reduceMod, Nat.reduceLT, Nat.reduceLeDiff, sz_line, OD.lst.injEq, and_assoc, dFor, iSeq, dComp, pickS, qIs, isNonD, Bool.and_self, Bool.true_and, Bool.and_true, Bool.false_and, Bool.and_false, dRaise, dCallX, valD, sp_divisor, sh_ii_eq, sh_i_eq, sh_r_eq, sh_rP_eq, sh_iii_eq, sh_iPii_eq, sh_P_eq, sh_PP_eq, sh_rPP_eq, sh_rPPi_eq, sh_rQ_eq, sh_iPP_eq, dsPar, iRng1D, insAt, dFld, dsFld, dMeth, dMake, qIsI, sp_cell, sp_unit, sp_begin, sp_size, sp_lean, sp_spot, sp_headX, sp_line, sp_across, sp_aspoint, sp_checkX, sp_betweenX, sp_wline, sp_woffset, sp_wholds, sp_wends, put1, put2, put3, put4, sp_made, sp_lright, qIsB_bb, qIsB_ib, qIsB_bi, qIsB_ii, hG3, e4]
    refine ⟨l, g, fun p k m G4 hw s4 => c7 _ _ (seq_cut fun N8 c8 => ?_)⟩
    obtain ⟨dx, hW⟩ := hw.ex
    obtain ⟨w1, w2⟩ := is_wall T k
    obtain ⟨f1, f2, f3⟩ := fld_ok T k
    simp only [dSeq, dAsg, dCB, dCons, dNil, dVar, dC, dOp, dUn, dTest, dOr, dNot, dAndV, dOrV, dTup, dLst, dSl, dPart, dIfS, dRet, dDrop, dNext, gdName, qAbs, qI, qI0, qUn, qLen, qSl, dCall, st0, seqD, List.map_cons, List.map_nil, List.length_cons, List.length_nil, List.cons_append, List.nil_append, List.set_cons_zero, List.set_cons_succ, List.getElem?_cons_zero, List.getElem?_cons_succ, Option.some.injEq, Nat.reduceAdd, Nat.reduceSub, List.replicate, Bool.not_eq_true', decide_eq_true_eq, decide_eq_false_iff_not, decide_not, ite_not, Bool.not_eq_eq_eq_not, Bool.not_true, Bool.not_false, if_true, if_false, true_and, and_true, List.cons.injEq, D.int.injEq, D.bl.injEq, D.tup.injEq, ite_true, ite_false, reduceCtorEq, Bool.false_eq_true, divP_lit, pow_lit, mul_lit, mul_litL, mul_litB, qIx, at0, at1, at2, at3, at4, at5, gupd_same, Int.reduceLT, Int.reduceLE, Int.reducePow, Int.reduceToNat, Int.reduceMul, Int.reduceAdd, Int.reduceDiv, Int.reduceSub, Int.reduceNeg, Int.reduceEq, Int.reduceMod, Nat.reduceLT, Nat.reduceLeDiff, sz_line, OD.lst.injEq, and_assoc, dFor, iSeq, dComp, pickS, qIs, isNonD, Bool.and_self, Bool.true_and, Bool.and_true, Bool.false_and, Bool.and_false, dRaise, dCallX, valD, sp_divisor, sh_ii_eq, sh_i_eq, sh_r_eq, sh_rP_eq, sh_iii_eq, sh_iPii_eq, sh_P_eq, sh_PP_eq, sh_rPP_eq, sh_rPPi_eq, sh_rQ_eq, sh_iPP_eq, dsPar, iRng1D, insAt, dFld, dsFld, dMeth, dMake, qIsI, sp_cell, sp_unit, sp_begin, sp_size, sp_lean, sp_spot, sp_headX, sp_line, sp_across, sp_aspoint, sp_checkX, sp_betweenX, sp_wline, sp_woffset, sp_wholds, sp_wends, put1, put2, put3, put4, sp_made, sp_lright, qIsB_bb, qIsB_ib, qIsB_bi, qIsB_ii]
    refine ⟨.ref (A.kc k), .ref A.c_Wall, true, cls_of hW, rfl, w1, w2, ?_⟩
    simp only [dSeq, dAsg, dCB, dCons, dNil, dVar, dC, dOp, dUn, dTest, dOr, dNot, dAndV, dOrV, dTup, dLst, dSl, dPart, dIfS, dRet, dDrop, dNext, gdName, qAbs, qI, qI0, qUn, qLen, qSl, dCall, st0, seqD, List.map_cons, List.map_nil, List.length_cons, List.length_nil, List.cons_append, List.nil_append, List.set_cons_zero, List.set_cons_succ, List.getElem?_cons_zero, List.getElem?_cons_succ, Option.some.injEq, Nat.reduceAdd, Nat.reduceSub, List.replicate, Bool.not_eq_true', decide_eq_true_eq, decide_eq_false_iff_not, decide_not, ite_not, Bool.not_eq_eq_eq_not, Bool.not_true, Bool.not_false, if_true, if_false, true_and, and_true, List.cons.injEq, D.int.injEq, D.bl.injEq, D.tup.injEq, ite_true, ite_false, reduceCtorEq, Bool.false_eq_true, divP_lit, pow_lit, mul_lit, mul_litL, mul_litB, qIx, at0, at1, at2, at3, at4, at5, gupd_same, Int.reduceLT, Int.reduceLE, Int.reducePow, Int.reduceToNat, Int.reduceMul, Int.reduceAdd, Int.reduceDiv, Int.reduceSub, Int.reduceNeg, Int.reduceEq, Int.reduceMod, Nat.reduceLT, Nat.reduceLeDiff, sz_line, OD.lst.injEq, and_assoc, dFor, iSeq, dComp, pickS, qIs, isNonD, Bool.and_self, Bool.true_and, Bool.and_true, Bool.false_and, Bool.and_false, dRaise, dCallX, valD, sp_divisor, sh_ii_eq, sh_i_eq, sh_r_eq, sh_rP_eq, sh_iii_eq, sh_iPii_eq, sh_P_eq, sh_PP_eq, sh_rPP_eq, sh_rPPi_eq, sh_rQ_eq, sh_iPP_eq, dsPar, iRng1D, insAt, dFld, dsFld, dMeth, dMake, qIsI, sp_cell, sp_unit, sp_begin, sp_size, sp_lean, sp_spot, sp_headX, sp_line, sp_across, sp_aspoint, sp_checkX, sp_betweenX, sp_wline, sp_woffset, sp_wholds, sp_wends, put1, put2, put3, put4, sp_made, sp_lright, qIsB_bb, qIsB_ib, qIsB_bi, qIsB_ii, hW, wF_one]
    refine ⟨f1, [x, y], [x, y], rfl, rfl, ?_⟩
    simp only [dSeq, dAsg, dCB, dCons, dNil, dVar, dC, dOp, dUn, dTest, dOr, dNot, dAndV, dOrV, dTup, dLst, dSl, dPart, dIfS, dRet, dDrop, dNext, gdName, qAbs, qI, qI0, qUn, qLen, qSl, dCall, st0, seqD, List.map_cons, List.map_nil, List.length_cons, List.length_nil, List.cons_append, List.nil_append, List.set_cons_zero, List.set_cons_succ, List.getElem?_cons_zero, List.getElem?_cons_succ, Option.some.injEq, Nat.reduceAdd, Nat.reduceSub, List.replicate, Bool.not_eq_true', decide_eq_true_eq, decide_eq_false_iff_not, decide_not, ite_not, Bool.not_eq_eq_eq_not, Bool.not_true, Bool.not_false, if_true, if_false, true_and, and_true, List.cons.injEq, D.int.injEq, D.bl.injEq, D.tup.injEq, ite_true, ite_false, reduceCtorEq, Bool.false_eq_true, divP_lit, pow_lit, mul_lit, mul_litL, mul_litB, qIx, at0, at1, at2, at3, at4, at5, gupd_same, Int.reduceLT, Int.reduceLE, Int.reducePow, Int.reduceToNat, Int.reduceMul, Int.reduceAdd, Int.reduceDiv, Int.reduceSub, Int.reduceNeg, Int.reduceEq, Int.reduceMod, Nat.reduceLT, Nat.reduceLeDiff, sz_line, OD.lst.injEq, and_assoc, dFor, iSeq, dComp, pickS, qIs, isNonD, Bool.and_self, Bool.true_and, Bool.and_true, Bool.false_and, Bool.and_false, dRaise, dCallX, valD, sp_divisor, sh_ii_eq, sh_i_eq, sh_r_eq, sh_rP_eq, sh_iii_eq, sh_iPii_eq, sh_P_eq, sh_PP_eq, sh_rPP_eq, sh_rPPi_eq, sh_rQ_eq, sh_iPP_eq, dsPar, iRng1D, insAt, dFld, dsFld, dMeth, dMake, qIsI, sp_cell, sp_unit, sp_begin, sp_size, sp_lean, sp_spot, sp_headX, sp_line, sp_across, sp_aspoint, sp_checkX, sp_betweenX, sp_wline, sp_woffset, sp_wholds, sp_wends, put1, put2, put3, put4, sp_made, sp_lright, qIsB_bb, qIsB_ib, qIsB_bi, qIsB_ii, hW, wF_two]
    refine ⟨f2, [x + n * unitX l, y + n * unitY l], [x + n * unitX l, y + n * unitY l], rfl, rfl, ?_⟩
    simp only [dSeq, dAsg, dCB, dCons, dNil, dVar, dC, dOp, dUn, dTest, dOr, dNot, dAndV, dOrV, dTup, dLst, dSl, dPart, dIfS, dRet, dDrop, dNext, gdName, qAbs, qI, qI0, qUn, qLen, qSl, dCall, st0, seqD, List.map_cons, List.map_nil, List.length_cons, List.length_nil, List.cons_append, List.nil_append, List.set_cons_zero, List.set_cons_succ, List.getElem?_cons_zero, List.getElem?_cons_succ, Option.some.injEq, Nat.reduceAdd, Nat.reduceSub, List.replicate, Bool.not_eq_true', decide_eq_true_eq, decide_eq_false_iff_not, decide_not, ite_not, Bool.not_eq_eq_eq_not, Bool.not_true, Bool.not_false, if_true, if_false, true_and, and_true, List.cons.injEq, D.int.injEq, D.bl.injEq, D.tup.injEq, ite_true, ite_false, reduceCtorEq, Bool.false_eq_true, divP_lit, pow_lit, mul_lit, mul_litL, mul_litB, qIx, at0, at1, at2, at3, at4, at5, gupd_same, Int.reduceLT, Int.reduceLE, Int.reducePow, Int.reduceToNat, Int.reduceMul, Int.reduceAdd, Int.reduceDiv, Int.reduceSub, Int.reduceNeg, Int.reduceEq, Int.reduceMod, Nat.reduceLT, Nat.reduceLeDiff, sz_line, OD.lst.injEq, and_assoc, dFor, iSeq, dComp, pickS, qIs, isNonD, Bool.and_self, Bool.true_and, Bool.and_true, Bool.false_and, Bool.and_false, dRaise, dCallX, valD, sp_divisor, sh_ii_eq, sh_i_eq, sh_r_eq, sh_rP_eq, sh_iii_eq, sh_iPii_eq, sh_P_eq, sh_PP_eq, sh_rPP_eq, sh_rPPi_eq, sh_rQ_eq, sh_iPP_eq, dsPar, iRng1D, insAt, dFld, dsFld, dMeth, dMake, qIsI, sp_cell, sp_unit, sp_begin, sp_size, sp_lean, sp_spot, sp_headX, sp_line, sp_across, sp_aspoint, sp_checkX, sp_betweenX, sp_wline, sp_woffset, sp_wholds, sp_wends, put1, put2, put3, put4, sp_made, sp_lright, qIsB_bb, qIsB_ib, qIsB_bi, qIsB_ii]
    refine c8 _ _ (seq_cut fun N9 c9 => ?_)
    simp only [dSeq, dAsg, dCB, dCons, dNil, dVar, dC, dOp, dUn, dTest, dOr, dNot, dAndV, dOrV, dTup, dLst, dSl, dPart, dIfS, dRet, dDrop, dNext, gdName, qAbs, qI, qI0, qUn, qLen, qSl, dCall, st0, seqD, List.map_cons, List.map_nil, List.length_cons, List.length_nil, List.cons_append, List.nil_append, List.set_cons_zero, List.set_cons_succ, List.getElem?_cons_zero, List.getElem?_cons_succ, Option.some.injEq, Nat.reduceAdd, Nat.reduceSub, List.replicate, Bool.not_eq_true', decide_eq_true_eq, decide_eq_false_iff_not, decide_not, ite_not, Bool.not_eq_eq_eq_not, Bool.not_true, Bool.not_false, if_true, if_false, true_and, and_true, List.cons.injEq, D.int.injEq, D.bl.injEq, D.tup.injEq, ite_true, ite_false, reduceCtorEq, Bool.false_eq_true, divP_lit, pow_lit, mul_lit, mul_litL, mul_litB, qIx, at0, at1, at2, at3, at4, at5, gupd_same, Int.reduceLT, Int.reduceLE, Int.reducePow, Int.reduceToNat, Int.reduceMul, Int.reduceAdd, Int.reduceDiv, Int.reduceSub, Int.reduceNeg, Int.reduceEq, Int.reduceMod, Nat.reduceLT, Nat.reduceLeDiff, sz_line, OD.lst.injEq, and_assoc, dFor, iSeq, dComp, pickS, qIs, isNonD, Bool.and_self, Bool.true_and, Bool.and_true, Bool.false_and, Bool.and_false, dRaise, dCallX, valD, sp_divisor, sh_ii_eq, sh_i_eq, sh_r_eq, sh_rP_eq, sh_iii_eq, sh_iPii_eq, sh_P_eq, sh_PP_eq, sh_rPP_eq, sh_rPPi_eq, sh_rQ_eq, sh_iPP_eq, dsPar, iRng1D, insAt, dFld, dsFld, dMeth, dMake, qIsI, sp_cell, sp_unit, sp_begin, sp_size, sp_lean, sp_spot, sp_headX, sp_line, sp_across, sp_aspoint, sp_checkX, sp_betweenX, sp_wline, sp_woffset, sp_wholds, sp_wends, put1, put2, put3, put4, sp_made, sp_lright, qIsB_bb, qIsB_ib, qIsB_bi, qIsB_ii, hW]
    refine ⟨_, mk_line k, wF_line, ?_⟩
    show sp_wline A _ _ _
    refine ⟨k, _, _, _, _, l, m, hw, c9 _ _ (seq_cut fun N10 c10 => ?_)⟩
    simp only [dSeq, dAsg, dCB, dCons, dNil, dVar, dC, dOp, dUn, dTest, dOr, dNot, dAndV, dOrV, dTup, dLst, dSl, dPart, dIfS, dRet, dDrop, dNext, gdName, qAbs, qI, qI0, qUn, qLen, qSl, dCall, st0, seqD, List.map_cons, List.map_nil, List.length_cons, List.length_nil, List.cons_append, List.nil_append, List.set_cons_zero, List.set_cons_succ, List.getElem?_cons_zero, List.getElem?_cons_succ, Option.some.injEq, Nat.reduceAdd, Nat.reduceSub, List.replicate, Bool.not_eq_true', decide_eq_true_eq, decide_eq_false_iff_not, decide_not, ite_not, Bool.not_eq_eq_eq_not, Bool.not_true, Bool.not_false, if_true, if_false, true_and, and_true, List.cons.injEq, D.int.injEq, D.bl.injEq, D.tup.injEq, ite_true, ite_false, reduceCtorEq, Bool.false_eq_true, divP_lit, pow_lit, mul_lit, mul_litL, mul_litB, qIx, at0, at1, at2, at3, at4, at5, gupd_same, Int.reduceLT, Int.reduceLE, Int.reducePow, Int.reduceToNat, Int.reduceMul, Int.reduceAdd, Int.reduceDiv, Int.reduceSub, Int.reduceNeg, Int.reduceEq, Int.reduceMod, Nat.reduceLT, Nat.reduceLeDiff, sz_line, OD.lst.injEq, and_assoc, dFor, iSeq, dComp, pickS, qIs, isNonD, Bool.and_self, Bool.true_and, Bool.and_true, Bool.false_and, Bool.and_false, dRaise, dCallX, valD, sp_divisor, sh_ii_eq, sh_i_eq, sh_r_eq, sh_rP_eq, sh_iii_eq, sh_iPii_eq, sh_P_eq, sh_PP_eq, sh_rPP_eq, sh_rPPi_eq, sh_rQ_eq, sh_iPP_eq, dsPar, iRng1D, insAt, dFld, dsFld, dMeth, dMake, qIsI, sp_cell, sp_unit, sp_begin, sp_size, sp_lean, sp_spot, sp_headX, sp_line, sp_across, sp_aspoint, sp_checkX, sp_betweenX, sp_wline, sp_woffset, sp_wholds, sp_wends, put1, put2, put3, put4, sp_made, sp_lright, qIsB_bb, qIsB_ib, qIsB_bi, qIsB_ii]
    refine c10 _ _ (seq_cut fun N11 c11 => for_cut fun tb htb => ?_)
    obtain ⟨cs2, e1, e2, e3⟩ := cutD_ints ns (some 5) (some 65)
    simp only [dSeq, dAsg, dCB, dCons, dNil, dVar, dC, dOp, dUn, dTest, dOr, dNot, dAndV, dOrV, dTup, dLst, dSl, dPart, dIfS, dRet, dDrop, dNext, gdName, qAbs, qI, qI0, qUn, qLen, qSl, dCall, st0, seqD, List.map_cons, List.map_nil, List.length_cons, List.length_nil, List.cons_append, List.nil_append, List.set_cons_zero, List.set_cons_succ, List.getElem?_cons_zero, List.getElem?_cons_succ, Option.some.injEq, Nat.reduceAdd, Nat.reduceSub, List.replicate, Bool.not_eq_true', decide_eq_true_eq, decide_eq_false_iff_not, decide_not, ite_not, Bool.not_eq_eq_eq_not, Bool.not_true, Bool.not_false, if_true, if_false, true_and, and_true, List.cons.injEq, D.int.injEq, D.bl.injEq, D.tup.injEq, ite_true, ite_false, reduceCtorEq, Bool.false_eq_true, divP_lit, pow_lit, mul_lit, mul_litL, mul_litB, qIx, at0, at1, at2, at3, at4, at5, gupd_same, Int.reduceLT, Int.reduceLE, Int.reducePow, Int.reduceToNat, Int.reduceMul, Int.reduceAdd, Int.reduceDiv, Int.reduceSub, Int.reduceNeg, Int.reduceEq, Int.reduceMod, Nat.reduceLT, Nat.reduceLeDiff, sz_line, OD.lst.injEq, and_assoc, dFor, iSeq, dComp, pickS, qIs, isNonD, Bool.and_self, Bool.true_and, Bool.and_true, Bool.false_and, Bool.and_false, dRaise, dCallX, valD, sp_divisor, sh_ii_eq, sh_i_eq, sh_r_eq, sh_rP_eq, sh_iii_eq, sh_iPii_eq, sh_P_eq, sh_PP_eq, sh_rPP_eq, sh_rPPi_eq, sh_rQ_eq, sh_iPP_eq, dsPar, iRng1D, insAt, dFld, dsFld, dMeth, dMake, qIsI, sp_cell, sp_unit, sp_begin, sp_size, sp_lean, sp_spot, sp_headX, sp_line, sp_across, sp_aspoint, sp_checkX, sp_betweenX, sp_wline, sp_woffset, sp_wholds, sp_wends, put1, put2, put3, put4, sp_made, sp_lright, qIsB_bb, qIsB_ib, qIsB_bi, qIsB_ii, e1]
    intro p1 hp1 p2 hp2
    refine ⟨p1, p2, _, _, rfl, rfl, gkept hp2, gupd_same, fits_of (by rw [List.length_map]; show cs2.length + 3 ≤ 1000; omega), fun p3 hp3 => ?_⟩
    simp only [dSeq, dAsg, dCB, dCons, dNil, dVar, dC, dOp, dUn, dTest, dOr, dNot, dAndV, dOrV, dTup, dLst, dSl, dPart, dIfS, dRet, dDrop, dNext, gdName, qAbs, qI, qI0, qUn, qLen, qSl, dCall, st0, seqD, List.map_cons, List.map_nil, List.length_cons, List.length_nil, List.cons_append, List.nil_append, List.set_cons_zero, List.set_cons_succ, List.getElem?_cons_zero, List.getElem?_cons_succ, Option.some.injEq, Nat.reduceAdd, Nat.reduceSub, List.replicate, Bool.not_eq_true', decide_eq_true_eq, decide_eq_false_iff_not, decide_not, ite_not, Bool.not_eq_eq_eq_not, Bool.not_true, Bool.not_false, if_true, if_false, true_and, and_true, List.cons.injEq, D.int.injEq, D.bl.injEq, D.tup.injEq, ite_true, ite_false, reduceCtorEq, Bool.false_eq_true, divP_lit, pow_lit, mul_lit, mul_litL, mul_litB, qIx, at0, at1, at2, at3, at4, at5, gupd_same, Int.reduceLT, Int.reduceLE, Int.reducePow, Int.reduceToNat, Int.reduceMul, Int.reduceAdd, Int.reduceDiv, Int.reduceSub, Int.reduceNeg, Int.reduceEq, Int.reduceMod, Nat.reduceLT, Nat.reduceLeDiff, sz_line, OD.lst.injEq, and_assoc, dFor, iSeq, dComp, pickS, qIs, isNonD, Bool.and_self, Bool.true_and, Bool.and_true, Bool.false_and, Bool.and_false, dRaise, dCallX, valD, sp_divisor, sh_ii_eq, sh_i_eq, sh_r_eq, sh_rP_eq, sh_iii_eq, sh_iPii_eq, sh_P_eq, sh_PP_eq, sh_rPP_eq, sh_rPPi_eq, sh_rQ_eq, sh_iPP_eq, dsPar, iRng1D, insAt, dFld, dsFld, dMeth, dMake, qIsI, sp_cell, sp_unit, sp_begin, sp_size, sp_lean, sp_spot, sp_headX, sp_line, sp_across, sp_aspoint, sp_checkX, sp_betweenX, sp_wline, sp_woffset, sp_wholds, sp_wends, put1, put2, put3, put4, sp_made, sp_lright, qIsB_bb, qIsB_ib, qIsB_bi, qIsB_ii]
    have ec : cs2.map D.int ++ [D.int 0, D.int 1, D.int 4] = (cs2 ++ [0, 1, 4]).map D.int := by simp
    rw [ec]
    have hcl2 : ∀ c ∈ cs2 ++ [0, 1, 4], Sz 1048576 c := fun c hc => by
      rcases List.mem_append.mp hc with z | z
      · exact ⟨hb c (e3 c z)⟩
      · simp only [List.mem_cons, List.not_mem_nil, or_false] at z
        refine Sz.mono (m := 3) ?_ (by decide)
        rcases z with rfl | rfl | rfl <;> exact .lit (by decide)
    generalize cs2 ++ [0, 1, 4] = cells at *
    have s5 := ((GS.laid (o := OD.lst (cs2.map D.int)) hp1).trans (GS.laid (o := OD.lst [D.int 0, D.int 1, D.int 4]) hp2)).trans (GS.laid (o := OD.lst (cells.map D.int)) hp3)
    refine loop_by (fun i σ' G' => (∃ z, σ' = [some (.rl (ns.map D.int)), some (.ref q), some (.int l), some (.tup [.int x, .int y]), some (.int n), some (.tup [.int (unitX l), .int (unitY l)]), some (.tup [.int (x + n * unitX l), .int (y + n * unitY l)]), some (.ref p), some (.int l), z]) ∧ GS G4 G' ∧ G' p3 = some (.lst (cells.map D.int))) ⟨⟨_, rfl⟩, s5, gupd_same⟩ (fun _ _ _ _ h => h.2.2) ?_ ?_
    · rintro i d σ' G' hd ⟨⟨z, rfl⟩, s6, hG6⟩
      rw [List.getElem?_map] at hd
      obtain ⟨c, hc, rfl⟩ := Option.map_eq_some_iff.mp hd
      have hcs := hcl2 c (List.mem_of_getElem? hc)
      subst htb
      simp only [dSeq, dAsg, dCB, dCons, dNil, dVar, dC, dOp, dUn, dTest, dOr, dNot, dAndV, dOrV, dTup, dLst, dSl, dPart, dIfS, dRet, dDrop, dNext, gdName, qAbs, qI, qI0, qUn, qLen, qSl, dCall, st0, seqD, List.map_cons, List.map_nil, List.length_cons, List.length_nil, List.cons_append, List.nil_append, List.set_cons_zero, List.set_cons_succ, List.getElem?_cons_zero, List.getElem?_cons_succ, Option.some.injEq, Nat.reduceAdd, Nat.reduceSub, List.replicate, Bool.not_eq_true', decide_eq_true_eq, decide_eq_false_iff_not, decide_not, ite_not, Bool.not_eq_eq_eq_not, Bool.not_true, Bool.not_false, if_true, if_false, true_and, and_true, List.cons.injEq, D.int.injEq, D.bl.injEq, D.tup.injEq, ite_true, ite_false, reduceCtorEq, Bool.false_eq_true, divP_lit, pow_lit, mul_lit, mul_litL, mul_litB, qIx, at0, at1, at2, at3, at4, at5, gupd_same, Int.reduceLT, Int.reduceLE, Int.reducePow, Int.reduceToNat, Int.reduceMul, Int.reduceAdd, Int.reduceDiv, Int.reduceSub, Int.reduceNeg, Int.reduceEq, Int.reduceMod, Nat.reduceLT, Nat.reduceLeDiff, sz_line, OD.lst.injEq, and_assoc, dFor, iSeq, dComp, pickS, qIs, isNonD, Bool.and_self, Bool.true_and, Bool.and_true, Bool.false_and, Bool.and_false, dRaise, dCallX, valD, sp_divisor, sh_ii_eq, sh_i_eq, sh_r_eq, sh_rP_eq, sh_iii_eq, sh_iPii_eq, sh_P_eq, sh_PP_eq, sh_rPP_eq, sh_rPPi_eq, sh_rQ_eq, sh_iPP_eq, dsPar, iRng1D, insAt, dFld, dsFld, dMeth, dMake, qIsI, sp_cell, sp_unit, sp_begin, sp_size, sp_lean, sp_spot, sp_headX, sp_line, sp_across, sp_aspoint, sp_checkX, sp_betweenX, sp_wline, sp_woffset, sp_wholds, sp_wends, put1, put2, put3, put4, sp_made, sp_lright, qIsB_bb, qIsB_ib, qIsB_bi, qIsB_ii]
      refine ⟨hcs, g.i1.a0, g.i1.a1, g.i1.b0, g.i1.b1, l0, l1, n0, n1, fun X Y Wd on at_ G7 hs s7 => ?_⟩
      obtain ⟨⟨bt, sp, off, hbt, hR, h1, h2⟩, sx, sy, sw⟩ := hs
      refine ⟨k, _, _, _, _, l, m, hw.mono (s6.trans s7), g, sw.mono (by decide), h1.trans (spot_on l0 l1 hbt rfl rfl hR).symm, h2.trans (spot_at l0 l1 hbt n0 rfl rfl hR).symm, ?_⟩
      exact ⟨⟨_, rfl⟩, s6.trans s7, s7 _ _ hG6⟩
    · rintro σ' G' ⟨⟨z, rfl⟩, s6, hG6⟩
      refine c11 _ _ ?_
      simp only [dSeq, dAsg, dCB, dCons, dNil, dVar, dC, dOp, dUn, dTest, dOr, dNot, dAndV, dOrV, dTup, dLst, dSl, dPart, dIfS, dRet, dDrop, dNext, gdName, qAbs, qI, qI0, qUn, qLen, qSl, dCall, st0, seqD, List.map_cons, List.map_nil, List.length_cons, List.length_nil, List.cons_append, List.nil_append, List.set_cons_zero, List.set_cons_succ, List.getElem?_cons_zero, List.getElem?_cons_succ, Option.some.injEq, Nat.reduceAdd, Nat.reduceSub, List.replicate, Bool.not_eq_true', decide_eq_true_eq, decide_eq_false_iff_not, decide_not, ite_not, Bool.not_eq_eq_eq_not, Bool.not_true, Bool.not_false, if_true, if_false, true_and, and_true, List.cons.injEq, D.int.injEq, D.bl.injEq, D.tup.injEq, ite_true, ite_false, reduceCtorEq, Bool.false_eq_true, divP_lit, pow_lit, mul_lit, mul_litL, mul_litB, qIx, at0, at1, at2, at3, at4, at5, gupd_same, Int.reduceLT, Int.reduceLE, Int.reducePow, Int.reduceToNat, Int.reduceMul, Int.reduceAdd, Int.reduceDiv, Int.reduceSub, Int.reduceNeg, Int.reduceEq, Int.reduceMod, Nat.reduceLT, Nat.reduceLeDiff, sz_line, OD.lst.injEq, and_assoc, dFor, iSeq, dComp, pickS, qIs, isNonD, Bool.and_self, Bool.true_and, Bool.and_true, Bool.false_and, Bool.and_false, dRaise, dCallX, valD, sp_divisor, sh_ii_eq, sh_i_eq, sh_r_eq, sh_rP_eq, sh_iii_eq, sh_iPii_eq, sh_P_eq, sh_PP_eq, sh_rPP_eq, sh_rPPi_eq, sh_rQ_eq, sh_iPP_eq, dsPar, iRng1D, insAt, dFld, dsFld, dMeth, dMake, qIsI, sp_cell, sp_unit, sp_begin, sp_size, sp_lean, sp_spot, sp_headX, sp_line, sp_across, sp_aspoint, sp_checkX, sp_betweenX, sp_wline, sp_woffset, sp_wholds, sp_wends, put1, put2, put3, put4, sp_made, sp_lright, qIsB_bb, qIsB_ib, qIsB_bi, qIsB_ii]
      exact hq G'
end
theorem len1 {fd : FuncData} {ps : List Str} (h : ∀ u0, bindArgs fd { pos := [u0] } = pure (ps.zip [u0])) (us : List Value) (hl : us.length = 1) : bindArgs fd { pos := us } = pure (ps.zip us) := by
  cases us with
  | nil => exact nomatch hl
  | cons u0 t0 =>
    cases t0 with
    | nil => exact h u0
    | cons _ _ => exact nomatch hl
theorem len2 {fd : FuncData} {ps : List Str} (h : ∀ u0 u1, bindArgs fd { pos := [u0, u1] } = pure (ps.zip [u0, u1])) (us : List Value) (hl : us.length = 2) : bindArgs fd { pos := us } = pure (ps.zip us) := by
  cases us with
  | nil => exact nomatch hl
  | cons u0 t0 =>
    cases t0 with
    | nil => exact nomatch hl
    | cons u1 t1 =>
      cases t1 with
      | nil => exact h u0 u1
      | cons _ _ => exact nomatch hl
theorem len3 {fd : FuncData} {ps : List Str} (h : ∀ u0 u1 u2, bindArgs fd { pos := [u0, u1, u2] } = pure (ps.zip [u0, u1, u2])) (us : List Value) (hl : us.length = 3) : bindArgs fd { pos := us } = pure (ps.zip us) := by
  cases us with
  | nil => exact nomatch hl
  | cons u0 t0 =>
    cases t0 with
    | nil => exact nomatch hl
    | cons u1 t1 =>
      cases t1 with
      | nil => exact nomatch hl
      | cons u2 t2 =>
        cases t2 with
        | nil => exact h u0 u1 u2
        | cons _ _ => exact nomatch hl
theorem len4 {fd : FuncData} {ps : List Str} (h : ∀ u0 u1 u2 u3, bindArgs fd { pos := [u0, u1, u2, u3] } = pure (ps.zip [u0, u1, u2, u3])) (us : List Value) (hl : us.length = 4) : bindArgs fd { pos := us } = pure (ps.zip us) := by
  cases us with
  | nil => exact nomatch hl
  | cons u0 t0 =>
    cases t0 with
    | nil => exact nomatch hl
    | cons u1 t1 =>
      cases t1 with
      | nil => exact nomatch hl
      | cons u2 t2 =>
        cases t2 with
        | nil => exact nomatch hl
        | cons u3 t3 =>
          cases t3 with
          | nil => exact h u0 u1 u2 u3
          | cons _ _ => exact nomatch hl
theorem lenP3 {P : List Value → Prop} (h : ∀ u0 u1 u2, P [u0, u1, u2]) (us : List Value) (hl : us.length = 3) : P us := by
  cases us with
  | nil => exact nomatch hl
  | cons u0 t0 =>
    cases t0 with
    | nil => exact nomatch hl
    | cons u1 t1 =>
      cases t1 with
      | nil => exact nomatch hl
      | cons u2 t2 =>
        cases t2 with
        | nil => exact h u0 u1 u2
        | cons _ _ => exact nomatch hl
theorem lenP4 {P : List Value → Prop} (h : ∀ u0 u1 u2 u3, P [u0, u1, u2, u3]) (us : List Value) (hl : us.length = 4) : P us := by
  cases us with
  | nil => exact nomatch hl
  | cons u0 t0 =>
    cases t0 with
    | nil => exact nomatch hl
    | cons u1 t1 =>
      cases t1 with
      | nil => exact nomatch hl
      | cons u2 t2 =>
        cases t2 with
        | nil => exact nomatch hl
        | cons u3 t3 =>
          cases t3 with
          | nil => exact h u0 u1 u2 u3
          | cons _ _ => exact nomatch hl
theorem all_mk {l : PySem.W.OpenLaw} {w : World} {K : PySem.W.Frag} {h : Heap} {mg : Str → Option Value} {fa : Addr} (X : K.In h) (G : h.Ns mainGlobals mg) (hfa : mg "law" = some (.ref fa))
    {f0 : Addr} {od0 an0 : Option Addr} {sl0 : Array (Option Value)} {oc0 kV0 dc0 pm0 cd0 ct0 : Value}
    {f1 : Addr} {od1 an1 : Option Addr} {sl1 : Array (Option Value)} {oc1 kV1 dc1 pm1 cd1 ct1 : Value}
    {f2 : Addr} {od2 an2 : Option Addr} {sl2 : Array (Option Value)} {oc2 kV2 dc2 pm2 cd2 ct2 : Value}
    {f3 : Addr} {od3 an3 : Option Addr} {sl3 : Array (Option Value)} {oc3 kV3 dc3 pm3 cd3 ct3 : Value}
    {f4 : Addr} {od4 an4 : Option Addr} {sl4 : Array (Option Value)} {oc4 kV4 dc4 pm4 cd4 ct4 : Value}
    {f5 : Addr} {od5 an5 : Option Addr} {sl5 : Array (Option Value)} {oc5 kV5 dc5 pm5 cd5 ct5 : Value}
    {f6 : Addr} {od6 an6 : Option Addr} {sl6 : Array (Option Value)} {oc6 kV6 dc6 pm6 cd6 ct6 : Value}
    {f7 : Addr} {od7 an7 : Option Addr} {sl7 : Array (Option Value)} {oc7 kV7 dc7 pm7 cd7 ct7 : Value}
    {f8 : Addr} {od8 an8 : Option Addr} {sl8 : Array (Option Value)} {oc8 kV8 dc8 pm8 cd8 ct8 : Value}
    {f9 : Addr} {od9 an9 : Option Addr} {sl9 : Array (Option Value)} {oc9 kV9 dc9 pm9 cd9 ct9 : Value}
    {f10 : Addr} {od10 an10 : Option Addr} {sl10 : Array (Option Value)} {oc10 kV10 dc10 pm10 cd10 ct10 : Value}
    {f11 : Addr} {od11 an11 : Option Addr} {sl11 : Array (Option Value)} {oc11 kV11 dc11 pm11 cd11 ct11 : Value}
    {f12 : Addr} {od12 an12 : Option Addr} {sl12 : Array (Option Value)} {oc12 kV12 dc12 pm12 cd12 ct12 : Value}
    {T12 : Addr} {Tc12 : Value} {Td12 : Option Addr} {Tn12 : Nat} {Ts12 : Array (Option Value)} {tk12_0 : Tok}
    {f13 : Addr} {od13 an13 : Option Addr} {sl13 : Array (Option Value)} {oc13 kV13 dc13 pm13 cd13 ct13 : Value}
    {f14 : Addr} {od14 an14 : Option Addr} {sl14 : Array (Option Value)} {oc14 kV14 dc14 pm14 cd14 ct14 : Value}
    {f15 : Addr} {od15 an15 : Option Addr} {sl15 : Array (Option Value)} {oc15 kV15 dc15 pm15 cd15 ct15 : Value}
    {f16 : Addr} {od16 an16 : Option Addr} {sl16 : Array (Option Value)} {oc16 kV16 dc16 pm16 cd16 ct16 : Value}
    {f17 : Addr} {od17 an17 : Option Addr} {sl17 : Array (Option Value)} {oc17 kV17 dc17 pm17 cd17 ct17 : Value}
    {f18 : Addr} {od18 an18 : Option Addr} {sl18 : Array (Option Value)} {oc18 kV18 dc18 pm18 cd18 ct18 : Value}
    {f19 : Addr} {od19 an19 : Option Addr} {sl19 : Array (Option Value)} {oc19 kV19 dc19 pm19 cd19 ct19 : Value}
    {f20 : Addr} {od20 an20 : Option Addr} {sl20 : Array (Option Value)} {oc20 kV20 dc20 pm20 cd20 ct20 : Value}
    {f21 : Addr} {od21 an21 : Option Addr} {sl21 : Array (Option Value)} {oc21 kV21 dc21 pm21 cd21 ct21 : Value}
    {f22 : Addr} {od22 an22 : Option Addr} {sl22 : Array (Option Value)} {oc22 kV22 dc22 pm22 cd22 ct22 : Value}
    {C_NoWay : Addr}
    {C_BadWall : Addr}
    {C_Wall : Addr}
    {C_Mirror : Addr}
    {C_Glass : Addr}
    {C_Hole : Addr}
    {C_Door : Addr}
    {TK_FARTHEST : Tok}
    {TK_GREATEST_EVERY : Tok}
    (n_NoWay : PySem.W.nsIn K mainGlobals "NoWay" = some (some (.ref C_NoWay)))
    (n_BadWall : PySem.W.nsIn K mainGlobals "BadWall" = some (some (.ref C_BadWall)))
    (n_Wall : PySem.W.nsIn K mainGlobals "Wall" = some (some (.ref C_Wall)))
    (n_Mirror : PySem.W.nsIn K mainGlobals "Mirror" = some (some (.ref C_Mirror)))
    (n_Glass : PySem.W.nsIn K mainGlobals "Glass" = some (some (.ref C_Glass)))
    (n_Hole : PySem.W.nsIn K mainGlobals "Hole" = some (some (.ref C_Hole)))
    (n_Door : PySem.W.nsIn K mainGlobals "Door" = some (some (.ref C_Door)))
    (a0 : PySem.W.nsIn K mainGlobals "divisor" = some (some (.ref f0))) (l0 : K.lookup f0 = some ⟨oc0, od0, .func (PySem.W.fnOf "divisor" "divisor" (defArgs s_divisor) (defBody s_divisor) (defScope s_divisor) .none kV0 dc0 pm0 an0 cd0 ct0), sl0⟩) (c0 : PySem.W.codeIn K cd0 "divisor" = true) (k0 : PySem.W.keepIn K (.ref f0) = true)
    (a1 : PySem.W.nsIn K mainGlobals "as_point" = some (some (.ref f1))) (l1 : K.lookup f1 = some ⟨oc1, od1, .func (PySem.W.fnOf "as_point" "as_point" (defArgs s_as_point) (defBody s_as_point) (defScope s_as_point) .none kV1 dc1 pm1 an1 cd1 ct1), sl1⟩) (c1 : PySem.W.codeIn K cd1 "as_point" = true) (k1 : PySem.W.keepIn K (.ref f1) = true)
    (a2 : PySem.W.nsIn K mainGlobals "heading_of" = some (some (.ref f2))) (l2 : K.lookup f2 = some ⟨oc2, od2, .func (PySem.W.fnOf "heading_of" "heading_of" (defArgs s_heading_of) (defBody s_heading_of) (defScope s_heading_of) .none kV2 dc2 pm2 an2 cd2 ct2), sl2⟩) (c2 : PySem.W.codeIn K cd2 "heading_of" = true) (k2 : PySem.W.keepIn K (.ref f2) = true)
    (a3 : PySem.W.nsIn K mainGlobals "line_of" = some (some (.ref f3))) (l3 : K.lookup f3 = some ⟨oc3, od3, .func (PySem.W.fnOf "line_of" "line_of" (defArgs s_line_of) (defBody s_line_of) (defScope s_line_of) .none kV3 dc3 pm3 an3 cd3 ct3), sl3⟩) (c3 : PySem.W.codeIn K cd3 "line_of" = true) (k3 : PySem.W.keepIn K (.ref f3) = true)
    (a4 : PySem.W.nsIn K mainGlobals "across" = some (some (.ref f4))) (l4 : K.lookup f4 = some ⟨oc4, od4, .func (PySem.W.fnOf "across" "across" (defArgs s_across) (defBody s_across) (defScope s_across) .none kV4 dc4 pm4 an4 cd4 ct4), sl4⟩) (c4 : PySem.W.codeIn K cd4 "across" = true) (k4 : PySem.W.keepIn K (.ref f4) = true)
    (a5 : PySem.W.nsIn K mainGlobals "check_end" = some (some (.ref f5))) (l5 : K.lookup f5 = some ⟨oc5, od5, .func (PySem.W.fnOf "check_end" "check_end" (defArgs s_check_end) (defBody s_check_end) (defScope s_check_end) .none kV5 dc5 pm5 an5 cd5 ct5), sl5⟩) (c5 : PySem.W.codeIn K cd5 "check_end" = true) (k5 : PySem.W.keepIn K (.ref f5) = true)
    (a6 : PySem.W.nsIn K mainGlobals "line_between" = some (some (.ref f6))) (l6 : K.lookup f6 = some ⟨oc6, od6, .func (PySem.W.fnOf "line_between" "line_between" (defArgs s_line_between) (defBody s_line_between) (defScope s_line_between) .none kV6 dc6 pm6 an6 cd6 ct6), sl6⟩) (c6 : PySem.W.codeIn K cd6 "line_between" = true) (k6 : PySem.W.keepIn K (.ref f6) = true)
    (a7 : PySem.W.findIn K (.ref C_Wall) "__init__" = some (some (.ref f7))) (l7 : K.lookup f7 = some ⟨oc7, od7, .func (PySem.W.fnOf "__init__" "Wall.__init__" (defArgs s_Wall___init__) (defBody s_Wall___init__) (defScope s_Wall___init__) .none kV7 dc7 pm7 an7 cd7 ct7), sl7⟩) (c7 : PySem.W.codeIn K cd7 "Wall.__init__" = true) (k7 : PySem.W.keepIn K (.ref f7) = true)
    (i7 : PySem.W.isFn K (.ref f7) = true)
    (a8 : PySem.W.findIn K (.ref C_Wall) "line" = some (some (.ref f8))) (l8 : K.lookup f8 = some ⟨oc8, od8, .func (PySem.W.fnOf "line" "Wall.line" (defArgs s_Wall_line) (defBody s_Wall_line) (defScope s_Wall_line) .none kV8 dc8 pm8 an8 cd8 ct8), sl8⟩) (c8 : PySem.W.codeIn K cd8 "Wall.line" = true) (k8 : PySem.W.keepIn K (.ref f8) = true)
    (i8 : PySem.W.isFn K (.ref f8) = true)
    (a9 : PySem.W.findIn K (.ref C_Wall) "offset" = some (some (.ref f9))) (l9 : K.lookup f9 = some ⟨oc9, od9, .func (PySem.W.fnOf "offset" "Wall.offset" (defArgs s_Wall_offset) (defBody s_Wall_offset) (defScope s_Wall_offset) .none kV9 dc9 pm9 an9 cd9 ct9), sl9⟩) (c9 : PySem.W.codeIn K cd9 "Wall.offset" = true) (k9 : PySem.W.keepIn K (.ref f9) = true)
    (i9 : PySem.W.isFn K (.ref f9) = true)
    (a10 : PySem.W.findIn K (.ref C_Wall) "holds" = some (some (.ref f10))) (l10 : K.lookup f10 = some ⟨oc10, od10, .func (PySem.W.fnOf "holds" "Wall.holds" (defArgs s_Wall_holds) (defBody s_Wall_holds) (defScope s_Wall_holds) .none kV10 dc10 pm10 an10 cd10 ct10), sl10⟩) (c10 : PySem.W.codeIn K cd10 "Wall.holds" = true) (k10 : PySem.W.keepIn K (.ref f10) = true)
    (i10 : PySem.W.isFn K (.ref f10) = true)
    (a11 : PySem.W.findIn K (.ref C_Wall) "ends_at" = some (some (.ref f11))) (l11 : K.lookup f11 = some ⟨oc11, od11, .func (PySem.W.fnOf "ends_at" "Wall.ends_at" (defArgs s_Wall_ends_at) (defBody s_Wall_ends_at) (defScope s_Wall_ends_at) .none kV11 dc11 pm11 an11 cd11 ct11), sl11⟩) (c11 : PySem.W.codeIn K cd11 "Wall.ends_at" = true) (k11 : PySem.W.keepIn K (.ref f11) = true)
    (i11 : PySem.W.isFn K (.ref f11) = true)
    (a12 : PySem.W.findIn K (.ref C_Door) "__init__" = some (some (.ref f12))) (l12 : K.lookup f12 = some ⟨oc12, od12, .func (PySem.W.fnOf "__init__" "Door.__init__" (defArgs s_Door___init__) (defBody s_Door___init__) (defScope s_Door___init__) (.ref T12) kV12 dc12 pm12 an12 cd12 ct12), sl12⟩) (c12 : PySem.W.codeIn K cd12 "Door.__init__" = true) (k12 : PySem.W.keepIn K (.ref f12) = true)
    (i12 : PySem.W.isFn K (.ref f12) = true)
    (lt12 : K.lookup T12 = some ⟨Tc12, Td12, .seq #[.int 2 tk12_0] Tn12, Ts12⟩)
    (a13 : PySem.W.nsIn K mainGlobals "_law_cell_at" = some (some (.ref f13))) (l13 : K.lookup f13 = some ⟨oc13, od13, .func (PySem.W.fnOf "_law_cell_at" "_law_cell_at" (defArgs s__law_cell_at) (defBody s__law_cell_at) (defScope s__law_cell_at) .none kV13 dc13 pm13 an13 cd13 ct13), sl13⟩) (c13 : PySem.W.codeIn K cd13 "_law_cell_at" = true) (k13 : PySem.W.keepIn K (.ref f13) = true)
    (a14 : PySem.W.nsIn K mainGlobals "_law_shared" = some (some (.ref f14))) (l14 : K.lookup f14 = some ⟨oc14, od14, .func (PySem.W.fnOf "_law_shared" "_law_shared" (defArgs s__law_shared) (defBody s__law_shared) (defScope s__law_shared) .none kV14 dc14 pm14 an14 cd14 ct14), sl14⟩) (c14 : PySem.W.codeIn K cd14 "_law_shared" = true) (k14 : PySem.W.keepIn K (.ref f14) = true)
    (a15 : PySem.W.nsIn K mainGlobals "_law_lean" = some (some (.ref f15))) (l15 : K.lookup f15 = some ⟨oc15, od15, .func (PySem.W.fnOf "_law_lean" "_law_lean" (defArgs s__law_lean) (defBody s__law_lean) (defScope s__law_lean) .none kV15 dc15 pm15 an15 cd15 ct15), sl15⟩) (c15 : PySem.W.codeIn K cd15 "_law_lean" = true) (k15 : PySem.W.keepIn K (.ref f15) = true)
    (a16 : PySem.W.nsIn K mainGlobals "_law_unit" = some (some (.ref f16))) (l16 : K.lookup f16 = some ⟨oc16, od16, .func (PySem.W.fnOf "_law_unit" "_law_unit" (defArgs s__law_unit) (defBody s__law_unit) (defScope s__law_unit) .none kV16 dc16 pm16 an16 cd16 ct16), sl16⟩) (c16 : PySem.W.codeIn K cd16 "_law_unit" = true) (k16 : PySem.W.keepIn K (.ref f16) = true)
    (a17 : PySem.W.nsIn K mainGlobals "_law_begin" = some (some (.ref f17))) (l17 : K.lookup f17 = some ⟨oc17, od17, .func (PySem.W.fnOf "_law_begin" "_law_begin" (defArgs s__law_begin) (defBody s__law_begin) (defScope s__law_begin) .none kV17 dc17 pm17 an17 cd17 ct17), sl17⟩) (c17 : PySem.W.codeIn K cd17 "_law_begin" = true) (k17 : PySem.W.keepIn K (.ref f17) = true)
    (a18 : PySem.W.nsIn K mainGlobals "_law_size" = some (some (.ref f18))) (l18 : K.lookup f18 = some ⟨oc18, od18, .func (PySem.W.fnOf "_law_size" "_law_size" (defArgs s__law_size) (defBody s__law_size) (defScope s__law_size) .none kV18 dc18 pm18 an18 cd18 ct18), sl18⟩) (c18 : PySem.W.codeIn K cd18 "_law_size" = true) (k18 : PySem.W.keepIn K (.ref f18) = true)
    (a19 : PySem.W.nsIn K mainGlobals "_law_made" = some (some (.ref f19))) (l19 : K.lookup f19 = some ⟨oc19, od19, .func (PySem.W.fnOf "_law_made" "_law_made" (defArgs s__law_made) (defBody s__law_made) (defScope s__law_made) .none kV19 dc19 pm19 an19 cd19 ct19), sl19⟩) (c19 : PySem.W.codeIn K cd19 "_law_made" = true) (k19 : PySem.W.keepIn K (.ref f19) = true)
    (a20 : PySem.W.nsIn K mainGlobals "_law_spot" = some (some (.ref f20))) (l20 : K.lookup f20 = some ⟨oc20, od20, .func (PySem.W.fnOf "_law_spot" "_law_spot" (defArgs s__law_spot) (defBody s__law_spot) (defScope s__law_spot) .none kV20 dc20 pm20 an20 cd20 ct20), sl20⟩) (c20 : PySem.W.codeIn K cd20 "_law_spot" = true) (k20 : PySem.W.keepIn K (.ref f20) = true)
    (a21 : PySem.W.nsIn K mainGlobals "_law_right" = some (some (.ref f21))) (l21 : K.lookup f21 = some ⟨oc21, od21, .func (PySem.W.fnOf "_law_right" "_law_right" (defArgs s__law_right) (defBody s__law_right) (defScope s__law_right) .none kV21 dc21 pm21 an21 cd21 ct21), sl21⟩) (c21 : PySem.W.codeIn K cd21 "_law_right" = true) (k21 : PySem.W.keepIn K (.ref f21) = true)
    (a22 : PySem.W.nsIn K mainGlobals "law" = some (some (.ref f22))) (l22 : K.lookup f22 = some ⟨oc22, od22, .func (PySem.W.fnOf "law" "law" (defArgs s_law) (defBody s_law) (defScope s_law) .none kV22 dc22 pm22 an22 cd22 ct22), sl22⟩) (c22 : PySem.W.codeIn K cd22 "law" = true) (k22 : PySem.W.keepIn K (.ref f22) = true)
    (z0 : PySem.W.nsIn K mainGlobals "abs" = some none)
    (z1 : PySem.W.nsIn K mainGlobals "bool" = some none)
    (z2 : PySem.W.nsIn K mainGlobals "int" = some none)
    (z3 : PySem.W.nsIn K mainGlobals "isinstance" = some none)
    (z4 : PySem.W.nsIn K mainGlobals "len" = some none)
    (z5 : PySem.W.nsIn K mainGlobals "max" = some none)
    (z6 : PySem.W.nsIn K mainGlobals "min" = some none)
    (z7 : PySem.W.nsIn K mainGlobals "range" = some none)
    (g_FARTHEST : PySem.W.nsIn K mainGlobals "FARTHEST" = some (some (.int 1000 TK_FARTHEST)))
    (g_GREATEST_EVERY : PySem.W.nsIn K mainGlobals "GREATEST_EVERY" = some (some (.int 9 TK_GREATEST_EVERY)))
    (pg_Mirror : PySem.W.plainGet K C_Mirror Str.empty = true)
    (hd_Mirror : PySem.W.hasDictIn K C_Mirror = true)
    (po_Mirror : PySem.W.plainOver K C_Mirror = true)
    (sa_Mirror : PySem.W.findIn K (.ref C_Mirror) "__setattr__" = some (some (.builtin "object.__setattr__")))
    (ha_Mirror : PySem.W.findIn K (.ref C_Mirror) "__class__" = some (some (.builtin "object.__class__")))
    (hn_Mirror : PySem.W.specialIn K (.builtin "object.__class__") "__get__" = some (some (.builtin "getset_descriptor.__get__")))
    (ht_Mirror : PySem.W.takesIn K (.builtin "object.__class__") = some true)
    (hm_Mirror : PySem.W.mroIn K C_Mirror (.type "object") = some true)
    (mm_Mirror : PySem.W.makesIn K C_Mirror = true)
    (kc_Mirror : PySem.W.keepIn K (.ref C_Mirror) = true)
    (nf_Mirror_along : PySem.W.findIn K (.ref C_Mirror) "along" = some none)
    (nf_Mirror_one : PySem.W.findIn K (.ref C_Mirror) "one" = some none)
    (nf_Mirror_two : PySem.W.findIn K (.ref C_Mirror) "two" = some none)
    (pg_Glass : PySem.W.plainGet K C_Glass Str.empty = true)
    (hd_Glass : PySem.W.hasDictIn K C_Glass = true)
    (po_Glass : PySem.W.plainOver K C_Glass = true)
    (sa_Glass : PySem.W.findIn K (.ref C_Glass) "__setattr__" = some (some (.builtin "object.__setattr__")))
    (ha_Glass : PySem.W.findIn K (.ref C_Glass) "__class__" = some (some (.builtin "object.__class__")))
    (hn_Glass : PySem.W.specialIn K (.builtin "object.__class__") "__get__" = some (some (.builtin "getset_descriptor.__get__")))
    (ht_Glass : PySem.W.takesIn K (.builtin "object.__class__") = some true)
    (hm_Glass : PySem.W.mroIn K C_Glass (.type "object") = some true)
    (mm_Glass : PySem.W.makesIn K C_Glass = true)
    (kc_Glass : PySem.W.keepIn K (.ref C_Glass) = true)
    (nf_Glass_along : PySem.W.findIn K (.ref C_Glass) "along" = some none)
    (nf_Glass_one : PySem.W.findIn K (.ref C_Glass) "one" = some none)
    (nf_Glass_two : PySem.W.findIn K (.ref C_Glass) "two" = some none)
    (pg_Hole : PySem.W.plainGet K C_Hole Str.empty = true)
    (hd_Hole : PySem.W.hasDictIn K C_Hole = true)
    (po_Hole : PySem.W.plainOver K C_Hole = true)
    (sa_Hole : PySem.W.findIn K (.ref C_Hole) "__setattr__" = some (some (.builtin "object.__setattr__")))
    (ha_Hole : PySem.W.findIn K (.ref C_Hole) "__class__" = some (some (.builtin "object.__class__")))
    (hn_Hole : PySem.W.specialIn K (.builtin "object.__class__") "__get__" = some (some (.builtin "getset_descriptor.__get__")))
    (ht_Hole : PySem.W.takesIn K (.builtin "object.__class__") = some true)
    (hm_Hole : PySem.W.mroIn K C_Hole (.type "object") = some true)
    (mm_Hole : PySem.W.makesIn K C_Hole = true)
    (kc_Hole : PySem.W.keepIn K (.ref C_Hole) = true)
    (nf_Hole_along : PySem.W.findIn K (.ref C_Hole) "along" = some none)
    (nf_Hole_one : PySem.W.findIn K (.ref C_Hole) "one" = some none)
    (nf_Hole_two : PySem.W.findIn K (.ref C_Hole) "two" = some none)
    (pg_Door : PySem.W.plainGet K C_Door Str.empty = true)
    (hd_Door : PySem.W.hasDictIn K C_Door = true)
    (po_Door : PySem.W.plainOver K C_Door = true)
    (sa_Door : PySem.W.findIn K (.ref C_Door) "__setattr__" = some (some (.builtin "object.__setattr__")))
    (ha_Door : PySem.W.findIn K (.ref C_Door) "__class__" = some (some (.builtin "object.__class__")))
    (hn_Door : PySem.W.specialIn K (.builtin "object.__class__") "__get__" = some (some (.builtin "getset_descriptor.__get__")))
    (ht_Door : PySem.W.takesIn K (.builtin "object.__class__") = some true)
    (hm_Door : PySem.W.mroIn K C_Door (.type "object") = some true)
    (mm_Door : PySem.W.makesIn K C_Door = true)
    (kc_Door : PySem.W.keepIn K (.ref C_Door) = true)
    (nf_Door_along : PySem.W.findIn K (.ref C_Door) "along" = some none)
    (nf_Door_number : PySem.W.findIn K (.ref C_Door) "number" = some none)
    (nf_Door_one : PySem.W.findIn K (.ref C_Door) "one" = some none)
    (nf_Door_two : PySem.W.findIn K (.ref C_Door) "two" = some none)
    (r_Mirror___init__ : PySem.W.findIn K (.ref C_Mirror) "__init__" = some (some (.ref f7)))
    (r_Mirror_line : PySem.W.findIn K (.ref C_Mirror) "line" = some (some (.ref f8)))
    (r_Mirror_offset : PySem.W.findIn K (.ref C_Mirror) "offset" = some (some (.ref f9)))
    (r_Mirror_holds : PySem.W.findIn K (.ref C_Mirror) "holds" = some (some (.ref f10)))
    (r_Mirror_ends_at : PySem.W.findIn K (.ref C_Mirror) "ends_at" = some (some (.ref f11)))
    (r_Glass___init__ : PySem.W.findIn K (.ref C_Glass) "__init__" = some (some (.ref f7)))
    (r_Glass_line : PySem.W.findIn K (.ref C_Glass) "line" = some (some (.ref f8)))
    (r_Glass_offset : PySem.W.findIn K (.ref C_Glass) "offset" = some (some (.ref f9)))
    (r_Glass_holds : PySem.W.findIn K (.ref C_Glass) "holds" = some (some (.ref f10)))
    (r_Glass_ends_at : PySem.W.findIn K (.ref C_Glass) "ends_at" = some (some (.ref f11)))
    (r_Hole___init__ : PySem.W.findIn K (.ref C_Hole) "__init__" = some (some (.ref f7)))
    (r_Hole_line : PySem.W.findIn K (.ref C_Hole) "line" = some (some (.ref f8)))
    (r_Hole_offset : PySem.W.findIn K (.ref C_Hole) "offset" = some (some (.ref f9)))
    (r_Hole_holds : PySem.W.findIn K (.ref C_Hole) "holds" = some (some (.ref f10)))
    (r_Hole_ends_at : PySem.W.findIn K (.ref C_Hole) "ends_at" = some (some (.ref f11)))
    (r_Door___init__ : PySem.W.findIn K (.ref C_Door) "__init__" = some (some (.ref f12)))
    (r_Door_line : PySem.W.findIn K (.ref C_Door) "line" = some (some (.ref f8)))
    (r_Door_offset : PySem.W.findIn K (.ref C_Door) "offset" = some (some (.ref f9)))
    (r_Door_holds : PySem.W.findIn K (.ref C_Door) "holds" = some (some (.ref f10)))
    (r_Door_ends_at : PySem.W.findIn K (.ref C_Door) "ends_at" = some (some (.ref f11)))
    (cg_Wall___init__ : PySem.W.specialIn K (.ref C_Wall) "__getattribute__" = some (some (.builtin "type.__getattribute__"))) (cr_Wall___init__ : PySem.W.readsIn K C_Wall (.type "type") = true) (ca_Wall___init__ : PySem.W.findCls K (.ref C_Wall) (.type "type") "__init__" = some (.val (.ref f7)))
    (e_BadWall : PySem.W.excIn K C_BadWall [.type "ValueError", .type "Exception", .type "BaseException", .type "object"] "ValueError.__new__" = true)
    (e_NoWay : PySem.W.excIn K C_NoWay [.type "ValueError", .type "Exception", .type "BaseException", .type "object"] "ValueError.__new__" = true)
    (y0 : PySem.W.kitOne K (.ref C_Mirror) (.ref C_Wall) = some true)
    (y1 : PySem.W.kitOne K (.ref C_Glass) (.ref C_Wall) = some true)
    (y2 : PySem.W.kitOne K (.ref C_Hole) (.ref C_Wall) = some true)
    (y3 : PySem.W.kitOne K (.ref C_Door) (.ref C_Wall) = some true)
    : ∃ fd : FuncData, (∀ (s : Shared) (v : Value), BindsTo s fd ⟨[v], []⟩ [("_law_script", v)]) ∧ ∀ base : Heap, K.In base → base.Ns mainGlobals mg → FnOk l.prog w K mg base CX0 8 fa fd ["_law_script"] (spOf K spLaw) := by
  have e := hfa.symm.trans (PySem.W.mg_of X G a22)
  cases e
  have F0 := fun_mk (st := s_divisor) l0 c0 k0
  have b0 := F0.binds (ps := ["one", "other"]) fun _ _ _ _ _ _ us hl => by refine len2 ?_ us hl; exact fun _ _ => rfl
  have F1 := fun_mk (st := s_as_point) l1 c1 k1
  have b1 := F1.binds (ps := ["whole"]) fun _ _ _ _ _ _ us hl => by refine len1 ?_ us hl; exact fun _ => rfl
  have F2 := fun_mk (st := s_heading_of) l2 c2 k2
  have b2 := F2.binds (ps := ["a", "b"]) fun _ _ _ _ _ _ us hl => by refine len2 ?_ us hl; exact fun _ _ => rfl
  have F3 := fun_mk (st := s_line_of) l3 c3 k3
  have b3 := F3.binds (ps := ["heading"]) fun _ _ _ _ _ _ us hl => by refine len1 ?_ us hl; exact fun _ => rfl
  have F4 := fun_mk (st := s_across) l4 c4 k4
  have b4 := F4.binds (ps := ["line", "x", "y"]) fun _ _ _ _ _ _ us hl => by refine len3 ?_ us hl; exact fun _ _ _ => rfl
  have F5 := fun_mk (st := s_check_end) l5 c5 k5
  have b5 := F5.binds (ps := ["end"]) fun _ _ _ _ _ _ us hl => by refine len1 ?_ us hl; exact fun _ => rfl
  have F6 := fun_mk (st := s_line_between) l6 c6 k6
  have b6 := F6.binds (ps := ["one", "two"]) fun _ _ _ _ _ _ us hl => by refine len2 ?_ us hl; exact fun _ _ => rfl
  have F7 := fun_mk (st := s_Wall___init__) l7 c7 k7
  have b7 := F7.binds (ps := ["self", "one", "two"]) fun _ _ _ _ _ _ us hl => by refine len3 ?_ us hl; exact fun _ _ _ => rfl
  have F8 := fun_mk (st := s_Wall_line) l8 c8 k8
  have b8 := F8.binds (ps := ["self"]) fun _ _ _ _ _ _ us hl => by refine len1 ?_ us hl; exact fun _ => rfl
  have F9 := fun_mk (st := s_Wall_offset) l9 c9 k9
  have b9 := F9.binds (ps := ["self"]) fun _ _ _ _ _ _ us hl => by refine len1 ?_ us hl; exact fun _ => rfl
  have F10 := fun_mk (st := s_Wall_holds) l10 c10 k10
  have b10 := F10.binds (ps := ["self", "P"]) fun _ _ _ _ _ _ us hl => by refine len2 ?_ us hl; exact fun _ _ => rfl
  have F11 := fun_mk (st := s_Wall_ends_at) l11 c11 k11
  have b11 := F11.binds (ps := ["self", "P"]) fun _ _ _ _ _ _ us hl => by refine len2 ?_ us hl; exact fun _ _ => rfl
  have F12 := funV_mk (st := s_Door___init__) l12 c12
  have b12 : Binds K (PySem.W.fnOf "__init__" "Door.__init__" (defArgs s_Door___init__) (defBody s_Door___init__) (defScope s_Door___init__) (.ref T12) kV12 dc12 pm12 an12 cd12 ct12) ["self", "one", "two", "every"] [] := fun s us KX hl => lenP4 (P := fun us => BindsTo s _ ⟨us, []⟩ (List.zip _ (us ++ _))) (fun _ _ _ _ => BindsTo.of_defaults rfl (KX _ _ lt12) rfl rfl rfl) us (by simpa using hl)
  have b12_1 : Binds K (PySem.W.fnOf "__init__" "Door.__init__" (defArgs s_Door___init__) (defBody s_Door___init__) (defScope s_Door___init__) (.ref T12) kV12 dc12 pm12 an12 cd12 ct12) ["self", "one", "two", "every"] [.int 2 tk12_0] := fun s us KX hl => lenP3 (P := fun us => BindsTo s _ ⟨us, []⟩ (List.zip _ (us ++ _))) (fun _ _ _ => BindsTo.of_defaults rfl (KX _ _ lt12) rfl rfl rfl) us (by simpa using hl)
  have F13 := fun_mk (st := s__law_cell_at) l13 c13 k13
  have b13 := F13.binds (ps := ["_law_script", "_law_k"]) fun _ _ _ _ _ _ us hl => by refine len2 ?_ us hl; exact fun _ _ => rfl
  have F14 := fun_mk (st := s__law_shared) l14 c14 k14
  have b14 := F14.binds (ps := ["_law_one", "_law_other"]) fun _ _ _ _ _ _ us hl => by refine len2 ?_ us hl; exact fun _ _ => rfl
  have F15 := fun_mk (st := s__law_lean) l15 c15 k15
  have b15 := F15.binds (ps := ["_law_x", "_law_y", "_law_w"]) fun _ _ _ _ _ _ us hl => by refine len3 ?_ us hl; exact fun _ _ _ => rfl
  have F16 := fun_mk (st := s__law_unit) l16 c16 k16
  have b16 := F16.binds (ps := ["_law_line"]) fun _ _ _ _ _ _ us hl => by refine len1 ?_ us hl; exact fun _ => rfl
  have F17 := fun_mk (st := s__law_begin) l17 c17 k17
  have b17 := F17.binds (ps := ["_law_xs"]) fun _ _ _ _ _ _ us hl => by refine len1 ?_ us hl; exact fun _ => rfl
  have F18 := fun_mk (st := s__law_size) l18 c18 k18
  have b18 := F18.binds (ps := ["_law_xs", "_law_spot_here"]) fun _ _ _ _ _ _ us hl => by refine len2 ?_ us hl; exact fun _ _ => rfl
  have F19 := fun_mk (st := s__law_made) l19 c19 k19
  have b19 := F19.binds (ps := ["_law_cell", "_law_one", "_law_two"]) fun _ _ _ _ _ _ us hl => by refine len3 ?_ us hl; exact fun _ _ _ => rfl
  have F20 := fun_mk (st := s__law_spot) l20 c20 k20
  have b20 := F20.binds (ps := ["_law_cell", "_law_one", "_law_line", "_law_size_here"]) fun _ _ _ _ _ _ us hl => by refine len4 ?_ us hl; exact fun _ _ _ _ => rfl
  have F21 := fun_mk (st := s__law_right) l21 c21 k21
  have b21 := F21.binds (ps := ["_law_shut", "_law_told"]) fun _ _ _ _ _ _ us hl => by refine len2 ?_ us hl; exact fun _ _ => rfl
  have F22 := fun_mk (st := s_law) l22 c22 k22
  have b22 := F22.binds (ps := ["_law_script"]) fun _ _ _ _ _ _ us hl => by refine len1 ?_ us hl; exact fun _ => rfl
  have T : Txt K mg ⟨f0, _, f1, _, f2, _, f3, _, f4, _, f5, _, f6, _, f7, _, f8, _, f9, _, f10, _, f11, _, f12, _, tk12_0, f13, _, f14, _, f15, _, f16, _, f17, _, f18, _, f19, _, f20, _, f21, _, fa, _, C_NoWay, C_BadWall, C_Wall, C_Mirror, C_Glass, C_Hole, C_Door, TK_FARTHEST, TK_GREATEST_EVERY⟩ := ⟨⟨F0, PySem.W.mg_of X G a0, b0⟩, ⟨F1, PySem.W.mg_of X G a1, b1⟩, ⟨F2, PySem.W.mg_of X G a2, b2⟩, ⟨F3, PySem.W.mg_of X G a3, b3⟩, ⟨F4, PySem.W.mg_of X G a4, b4⟩, ⟨F5, PySem.W.mg_of X G a5, b5⟩, ⟨F6, PySem.W.mg_of X G a6, b6⟩, ⟨F7, i7, b7⟩, ⟨F8, i8, b8⟩, ⟨F9, i9, b9⟩, ⟨F10, i10, b10⟩, ⟨F11, i11, b11⟩, F12, i12, k12, b12, b12_1, ⟨F13, PySem.W.mg_of X G a13, b13⟩, ⟨F14, PySem.W.mg_of X G a14, b14⟩, ⟨F15, PySem.W.mg_of X G a15, b15⟩, ⟨F16, PySem.W.mg_of X G a16, b16⟩, ⟨F17, PySem.W.mg_of X G a17, b17⟩, ⟨F18, PySem.W.mg_of X G a18, b18⟩, ⟨F19, PySem.W.mg_of X G a19, b19⟩, ⟨F20, PySem.W.mg_of X G a20, b20⟩, ⟨F21, PySem.W.mg_of X G a21, b21⟩, ⟨F22, PySem.W.mg_of X G a22, b22⟩, PySem.W.mg_none_of X G z0, PySem.W.mg_none_of X G z1, PySem.W.mg_none_of X G z2, PySem.W.mg_none_of X G z3, PySem.W.mg_none_of X G z4, PySem.W.mg_none_of X G z5, PySem.W.mg_none_of X G z6, PySem.W.mg_none_of X G z7, PySem.W.mg_of X G g_FARTHEST, PySem.W.mg_of X G g_GREATEST_EVERY, PySem.W.mg_of X G n_NoWay, PySem.W.mg_of X G n_BadWall, PySem.W.mg_of X G n_Wall, PySem.W.mg_of X G n_Mirror, PySem.W.mg_of X G n_Glass, PySem.W.mg_of X G n_Hole, PySem.W.mg_of X G n_Door, ⟨⟨pg_Mirror, hd_Mirror, po_Mirror, sa_Mirror⟩, ⟨⟨pg_Mirror, hd_Mirror, po_Mirror, sa_Mirror⟩, ha_Mirror, hn_Mirror, ht_Mirror, hm_Mirror⟩, mm_Mirror, kc_Mirror, nf_Mirror_along, nf_Mirror_one, nf_Mirror_two, r_Mirror_line, r_Mirror_offset, r_Mirror_holds, r_Mirror_ends_at⟩, r_Mirror___init__, ⟨⟨pg_Glass, hd_Glass, po_Glass, sa_Glass⟩, ⟨⟨pg_Glass, hd_Glass, po_Glass, sa_Glass⟩, ha_Glass, hn_Glass, ht_Glass, hm_Glass⟩, mm_Glass, kc_Glass, nf_Glass_along, nf_Glass_one, nf_Glass_two, r_Glass_line, r_Glass_offset, r_Glass_holds, r_Glass_ends_at⟩, r_Glass___init__, ⟨⟨pg_Hole, hd_Hole, po_Hole, sa_Hole⟩, ⟨⟨pg_Hole, hd_Hole, po_Hole, sa_Hole⟩, ha_Hole, hn_Hole, ht_Hole, hm_Hole⟩, mm_Hole, kc_Hole, nf_Hole_along, nf_Hole_one, nf_Hole_two, r_Hole_line, r_Hole_offset, r_Hole_holds, r_Hole_ends_at⟩, r_Hole___init__, ⟨⟨pg_Door, hd_Door, po_Door, sa_Door⟩, ⟨⟨pg_Door, hd_Door, po_Door, sa_Door⟩, ha_Door, hn_Door, ht_Door, hm_Door⟩, mm_Door, kc_Door, nf_Door_along, nf_Door_one, nf_Door_two, r_Door_line, r_Door_offset, r_Door_holds, r_Door_ends_at⟩, nf_Door_number, r_Door___init__, ⟨cg_Wall___init__, cr_Wall___init__, ca_Wall___init__, k7⟩, ⟨PySem.W.mg_of X G n_BadWall, e_BadWall, n_BadWall⟩, ⟨PySem.W.mg_of X G n_NoWay, e_NoWay, n_NoWay⟩, y0, y1, y2, y3⟩
  exact ⟨_, fun s v => .of_eq rfl, fun base _ _ => ok_law T⟩
end My
open PySem PySem.W PyProof.Rows
set_option maxRecDepth 100000 in
set_option maxHeartbeats 0 in
theorem PySem.Challenge.cw_bouncewise_k21_a_wall_holds : PySem.Challenge.rw_bouncewise_k21_a_wall.Holds := by
  w_on; o_law; k_head; (case hw => w_witness2)
  k_fill
  refine L3.walkD (l := PySem.Challenge.rw_bouncewise_k21_a_wall) (k := 8) (x := "_law_script") rfl rfl ⟨rfl, by decide, by decide⟩ (fun w h Y => PySem.W.kIn_of Y) ?F
  case F =>
    intro w mg fa h KX G hmg
    refine' My.all_mk KX G hmg ?n_NoWay ?n_BadWall ?n_Wall ?n_Mirror ?n_Glass ?n_Hole ?n_Door ?a0 ?l0 ?c0 ?k0 ?a1 ?l1 ?c1 ?k1 ?a2 ?l2 ?c2 ?k2 ?a3 ?l3 ?c3 ?k3 ?a4 ?l4 ?c4 ?k4 ?a5 ?l5 ?c5 ?k5 ?a6 ?l6 ?c6 ?k6 ?a7 ?l7 ?c7 ?k7 ?i7 ?a8 ?l8 ?c8 ?k8 ?i8 ?a9 ?l9 ?c9 ?k9 ?i9 ?a10 ?l10 ?c10 ?k10 ?i10 ?a11 ?l11 ?c11 ?k11 ?i11 ?a12 ?l12 ?c12 ?k12 ?i12 ?lt12 ?a13 ?l13 ?c13 ?k13 ?a14 ?l14 ?c14 ?k14 ?a15 ?l15 ?c15 ?k15 ?a16 ?l16 ?c16 ?k16 ?a17 ?l17 ?c17 ?k17 ?a18 ?l18 ?c18 ?k18 ?a19 ?l19 ?c19 ?k19 ?a20 ?l20 ?c20 ?k20 ?a21 ?l21 ?c21 ?k21 ?a22 ?l22 ?c22 ?k22 ?z0 ?z1 ?z2 ?z3 ?z4 ?z5 ?z6 ?z7 ?g_FARTHEST ?g_GREATEST_EVERY ?pg_Mirror ?hd_Mirror ?po_Mirror ?sa_Mirror ?ha_Mirror ?hn_Mirror ?ht_Mirror ?hm_Mirror ?mm_Mirror ?kc_Mirror ?nf_Mirror_along ?nf_Mirror_one ?nf_Mirror_two ?pg_Glass ?hd_Glass ?po_Glass ?sa_Glass ?ha_Glass ?hn_Glass ?ht_Glass ?hm_Glass ?mm_Glass ?kc_Glass ?nf_Glass_along ?nf_Glass_one ?nf_Glass_two ?pg_Hole ?hd_Hole ?po_Hole ?sa_Hole ?ha_Hole ?hn_Hole ?ht_Hole ?hm_Hole ?mm_Hole ?kc_Hole ?nf_Hole_along ?nf_Hole_one ?nf_Hole_two ?pg_Door ?hd_Door ?po_Door ?sa_Door ?ha_Door ?hn_Door ?ht_Door ?hm_Door ?mm_Door ?kc_Door ?nf_Door_along ?nf_Door_number ?nf_Door_one ?nf_Door_two ?r_Mirror___init__ ?r_Mirror_line ?r_Mirror_offset ?r_Mirror_holds ?r_Mirror_ends_at ?r_Glass___init__ ?r_Glass_line ?r_Glass_offset ?r_Glass_holds ?r_Glass_ends_at ?r_Hole___init__ ?r_Hole_line ?r_Hole_offset ?r_Hole_holds ?r_Hole_ends_at ?r_Door___init__ ?r_Door_line ?r_Door_offset ?r_Door_holds ?r_Door_ends_at ?cg_Wall___init__ ?cr_Wall___init__ ?ca_Wall___init__ ?e_BadWall ?e_NoWay ?y0 ?y1 ?y2 ?y3
    (case n_NoWay => k_is)
    (case n_BadWall => k_is)
    (case n_Wall => k_is)
    (case n_Mirror => k_is)
    (case n_Glass => k_is)
    (case n_Hole => k_is)
    (case n_Door => k_is)
    (case a0 => k_is)
    (case l0 => k_is)
    (case c0 => k_is)
    (case k0 => k_is)
    (case a1 => k_is)
    (case l1 => k_is)
    (case c1 => k_is)
    (case k1 => k_is)
    (case a2 => k_is)
    (case l2 => k_is)
    (case c2 => k_is)
    (case k2 => k_is)
    (case a3 => k_is)
    (case l3 => k_is)
    (case c3 => k_is)
    (case k3 => k_is)
    (case a4 => k_is)
    (case l4 => k_is)
    (case c4 => k_is)
    (case k4 => k_is)
    (case a5 => k_is)
    (case l5 => k_is)
    (case c5 => k_is)
    (case k5 => k_is)
    (case a6 => k_is)
    (case l6 => k_is)
    (case c6 => k_is)
    (case k6 => k_is)
    (case a7 => k_is)
    (case l7 => k_is)
    (case c7 => k_is)
    (case k7 => k_is)
    (case i7 => k_is)
    (case a8 => k_is)
    (case l8 => k_is)
    (case c8 => k_is)
    (case k8 => k_is)
    (case i8 => k_is)
    (case a9 => k_is)
    (case l9 => k_is)
    (case c9 => k_is)
    (case k9 => k_is)
    (case i9 => k_is)
    (case a10 => k_is)
    (case l10 => k_is)
    (case c10 => k_is)
    (case k10 => k_is)
    (case i10 => k_is)
    (case a11 => k_is)
    (case l11 => k_is)
    (case c11 => k_is)
    (case k11 => k_is)
    (case i11 => k_is)
    (case a12 => k_is)
    (case l12 => k_is)
    (case c12 => k_is)
    (case k12 => k_is)
    (case i12 => k_is)
    (case lt12 => k_is)
    (case a13 => k_is)
    (case l13 => k_is)
    (case c13 => k_is)
    (case k13 => k_is)
    (case a14 => k_is)
    (case l14 => k_is)
    (case c14 => k_is)
    (case k14 => k_is)
    (case a15 => k_is)
    (case l15 => k_is)
    (case c15 => k_is)
    (case k15 => k_is)
    (case a16 => k_is)
    (case l16 => k_is)
    (case c16 => k_is)
    (case k16 => k_is)
    (case a17 => k_is)
    (case l17 => k_is)
    (case c17 => k_is)
    (case k17 => k_is)
    (case a18 => k_is)
    (case l18 => k_is)
    (case c18 => k_is)
    (case k18 => k_is)
    (case a19 => k_is)
    (case l19 => k_is)
    (case c19 => k_is)
    (case k19 => k_is)
    (case a20 => k_is)
    (case l20 => k_is)
    (case c20 => k_is)
    (case k20 => k_is)
    (case a21 => k_is)
    (case l21 => k_is)
    (case c21 => k_is)
    (case k21 => k_is)
    (case a22 => k_is)
    (case l22 => k_is)
    (case c22 => k_is)
    (case k22 => k_is)
    (case z0 => k_is)
    (case z1 => k_is)
    (case z2 => k_is)
    (case z3 => k_is)
    (case z4 => k_is)
    (case z5 => k_is)
    (case z6 => k_is)
    (case z7 => k_is)
    (case g_FARTHEST => k_is)
    (case g_GREATEST_EVERY => k_is)
    (case pg_Mirror => k_is)
    (case hd_Mirror => k_is)
    (case po_Mirror => k_is)
    (case sa_Mirror => k_is)
    (case ha_Mirror => k_is)
    (case hn_Mirror => k_is)
    (case ht_Mirror => k_is)
    (case hm_Mirror => k_is)
    (case mm_Mirror => k_is)
    (case kc_Mirror => k_is)
    (case nf_Mirror_along => k_is)
    (case nf_Mirror_one => k_is)
    (case nf_Mirror_two => k_is)
    (case pg_Glass => k_is)
    (case hd_Glass => k_is)
    (case po_Glass => k_is)
    (case sa_Glass => k_is)
    (case ha_Glass => k_is)
    (case hn_Glass => k_is)
    (case ht_Glass => k_is)
    (case hm_Glass => k_is)
    (case mm_Glass => k_is)
    (case kc_Glass => k_is)
    (case nf_Glass_along => k_is)
    (case nf_Glass_one => k_is)
    (case nf_Glass_two => k_is)
    (case pg_Hole => k_is)
    (case hd_Hole => k_is)
    (case po_Hole => k_is)
    (case sa_Hole => k_is)
    (case ha_Hole => k_is)
    (case hn_Hole => k_is)
    (case ht_Hole => k_is)
    (case hm_Hole => k_is)
    (case mm_Hole => k_is)
    (case kc_Hole => k_is)
    (case nf_Hole_along => k_is)
    (case nf_Hole_one => k_is)
    (case nf_Hole_two => k_is)
    (case pg_Door => k_is)
    (case hd_Door => k_is)
    (case po_Door => k_is)
    (case sa_Door => k_is)
    (case ha_Door => k_is)
    (case hn_Door => k_is)
    (case ht_Door => k_is)
    (case hm_Door => k_is)
    (case mm_Door => k_is)
    (case kc_Door => k_is)
    (case nf_Door_along => k_is)
    (case nf_Door_number => k_is)
    (case nf_Door_one => k_is)
    (case nf_Door_two => k_is)
    (case r_Mirror___init__ => k_is)
    (case r_Mirror_line => k_is)
    (case r_Mirror_offset => k_is)
    (case r_Mirror_holds => k_is)
    (case r_Mirror_ends_at => k_is)
    (case r_Glass___init__ => k_is)
    (case r_Glass_line => k_is)
    (case r_Glass_offset => k_is)
    (case r_Glass_holds => k_is)
    (case r_Glass_ends_at => k_is)
    (case r_Hole___init__ => k_is)
    (case r_Hole_line => k_is)
    (case r_Hole_offset => k_is)
    (case r_Hole_holds => k_is)
    (case r_Hole_ends_at => k_is)
    (case r_Door___init__ => k_is)
    (case r_Door_line => k_is)
    (case r_Door_offset => k_is)
    (case r_Door_holds => k_is)
    (case r_Door_ends_at => k_is)
    (case cg_Wall___init__ => k_is)
    (case cr_Wall___init__ => k_is)
    (case ca_Wall___init__ => k_is)
    (case e_BadWall => k_exc)
    (case e_NoWay => k_exc)
    (case y0 => kit_is)
    (case y1 => kit_is)
    (case y2 => kit_is)
    (case y3 => kit_is)
#print axioms PySem.Challenge.cw_bouncewise_k21_a_wall_holds

