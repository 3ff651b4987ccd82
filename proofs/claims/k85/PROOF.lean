import PyProof.Rows.All
import Wide.All
import OpenK.AllK
import Wide.FinOn
import Lean
import PyProof.EqAt
import PyProof.EqKinds
import PyProof.TupleCall
import PySem.Challenge.RW_bouncewise_k85_out_of_the_box
set_option genInjectivity false
set_option genSizeOfSpec false
set_option backward.eqns.nonrecursive false
set_option Elab.async false
set_option linter.all false
set_option maxRecDepth 100000
/-! THE HAND LAYER, for ints, bools, texts, own classes, LISTS and tuples (index, slices, in, append, pop ..), calls, loops. Paste it whole ahead of your own text; what your proof does not reach may be deleted. -/
namespace L2
open PySem PySem.Spec PyProof.Rows

/-- a key: an int or a str -/
abbrev Key := Sum Int Str
def keyIs : Key → Value → Bool
  | .inl k, v => Value.isInt k v
  | .inr x, v => Value.isStrOf x v
def keyH (w : World) : Key → Int
  | .inl k => hashInt k
  | .inr x => hashStr w x
theorem keyIs_shape : ∀ {k : Key} {v : Value}, keyIs k v = true → (∃ i t, k = Sum.inl i ∧ v = Value.int i t) ∨ (∃ x t, k = Sum.inr x ∧ v = Value.str x t)
  | .inl i, v, h => by
    obtain ⟨t, e⟩ := Value.isInt_shape (k := i) (v := v) h
    exact .inl ⟨i, t, rfl, e⟩
  | .inr x, v, h => by
    obtain ⟨t, e⟩ := Value.isStrOf_shape (x := x) (v := v) h
    exact .inr ⟨x, t, rfl, e⟩
theorem key_ll (a b : Int) : decide ((Sum.inl a : Key) = Sum.inl b) = (a == b) := by
  by_cases e : a = b
  · subst e; simp
  · have h : ¬ (Sum.inl a : Key) = Sum.inl b := fun q => e (Sum.inl.inj q)
    rw [decide_eq_false h]
    exact (beq_eq_false_iff_ne.mpr e).symm
theorem key_rr (a b : Str) : decide ((Sum.inr a : Key) = Sum.inr b) = decide (a = b) := by
  by_cases e : a = b
  · subst e; simp
  · have h : ¬ (Sum.inr a : Key) = Sum.inr b := fun q => e (Sum.inr.inj q)
    rw [decide_eq_false h, decide_eq_false e]
theorem key_lr (a : Int) (b : Str) : decide ((Sum.inl a : Key) = Sum.inr b) = false := decide_eq_false (fun q => nomatch q)
theorem key_rl (a : Str) (b : Int) : decide ((Sum.inr a : Key) = Sum.inl b) = false := decide_eq_false (fun q => nomatch q)

def mixKind (prog : Program) (w : World) : PySem.KeyKind prog w Key where
  is := keyIs
  hash := keyH w
  inj := fun v a b ha hb => by
    rcases keyIs_shape ha with ⟨i, t, rfl, rfl⟩ | ⟨x, t, rfl, rfl⟩
    · rcases keyIs_shape hb with ⟨j, u, rfl, e⟩ | ⟨y, u, rfl, e⟩
      · injection e with e1 _; rw [e1]
      · exact nomatch e
    · rcases keyIs_shape hb with ⟨j, u, rfl, e⟩ | ⟨y, u, rfl, e⟩
      · exact nomatch e
      · injection e with e1 _; rw [e1]
  byValue := fun k v h => by
    rcases keyIs_shape h with ⟨i, t, rfl, rfl⟩ | ⟨x, t, rfl, rfl⟩ <;> rfl
  pyHash := fun hv h => by
    rcases keyIs_shape hv with ⟨i, t, rfl, rfl⟩ | ⟨x, t, rfl, rfl⟩
    · exact wpAny_pyHash_int h
    · exact wpAny_pyHash_str h
  eqBool := fun hu hv h => by
    rcases keyIs_shape hu with ⟨i, t, rfl, rfl⟩ | ⟨x, t, rfl, rfl⟩
    · rcases keyIs_shape hv with ⟨j, u, rfl, rfl⟩ | ⟨y, u, rfl, rfl⟩
      · rw [key_ll] at h; exact wpAny_eqBool_int h
      · rw [key_lr] at h; exact SeqAt.EqAt.int_str i t y u _ _ _ _ h
    · rcases keyIs_shape hv with ⟨j, u, rfl, rfl⟩ | ⟨y, u, rfl, rfl⟩
      · rw [key_rl] at h; exact SeqAt.EqAt.str_int x t j u _ _ _ _ h
      · rw [key_rr] at h; exact wpAny_eqBool_str h
  «strs» := fun k x t v h => by
    rcases keyIs_shape h with ⟨i, u, rfl, e⟩ | ⟨y, u, rfl, e⟩
    · exact nomatch e
    · injection e with e1 _
      subst e1
      cases v <;> rfl

end L2

namespace L2
open PySem PySem.Spec PyProof.Rows

set_option genInjectivity true in
/-- a value, without the heap -/
inductive V where
  | non | bl (b : Bool) | int (i : Int) | str (x : Str) | byt (b : Array UInt8) | flt (b : UInt64) | ref (a : Addr) | ty (n : String)
  deriving DecidableEq

def RelV : V → Value → Prop
  | .non, u => u = Value.none
  | .bl b, u => u = Value.bool b
  | .int i, u => ∃ t, u = Value.int i t
  | .str x, u => ∃ t, u = Value.str x t
  | .byt b, u => ∃ t, u = Value.bytes b t
  | .flt b, u => ∃ t, u = Value.float b t
  | .ref a, u => u = Value.ref a
  | .ty n, u => u = Value.type n

abbrev Vals : List V → List Value → Prop := Paired RelV
theorem Vals.length {xs : List V} {us : List Value} (r : Vals xs us) : xs.length = us.length := Paired.length r
theorem Vals.get : ∀ {xs : List V} {us : List Value} {i : Nat} {x : V}, Vals xs us → xs[i]? = some x → ∃ u, us[i]? = some u ∧ RelV x u
  | _, _, _, _, .nil, e => by simp at e
  | _, _, 0, _, .cons r _, e => by simp at e; subst e; exact ⟨_, rfl, r⟩
  | _, _, i + 1, x, .cons _ t, e => by
    obtain ⟨u, h1, h2⟩ := Vals.get (i := i) (x := x) t (by simpa using e)
    exact ⟨u, by simpa using h1, h2⟩
theorem Vals.append : ∀ {xs ys : List V} {us ws : List Value}, Vals xs us → Vals ys ws → Vals (xs ++ ys) (us ++ ws)
  | _, _, _, _, .nil, s => s
  | _, _, _, _, .cons r t, s => .cons r (Vals.append t s)
theorem Vals.take : ∀ {xs : List V} {us : List Value} (n : Nat), Vals xs us → Vals (xs.take n) (us.take n)
  | _, _, 0, _ => .nil
  | _, _, _ + 1, .nil => .nil
  | _, _, n + 1, .cons r t => .cons r (Vals.take n t)
theorem Vals.drop : ∀ {xs : List V} {us : List Value} (n : Nat), Vals xs us → Vals (xs.drop n) (us.drop n)
  | _, _, 0, r => r
  | _, _, _ + 1, .nil => .nil
  | _, _, n + 1, .cons _ t => Vals.drop n t
def RelO : Option V → Option Value → Prop
  | some v, some u => RelV v u
  | none, none => True
  | _, _ => False
def KV {κ : Type} : List (κ × V) → List (κ × Value) → Prop := Paired fun (p : κ × V) (q : κ × Value) => p.1 = q.1 ∧ RelV p.2 q.2

/-- a key of a dict (00_mix): an int or a text -/
def kV : Key → V
  | .inl i => .int i
  | .inr x => .str x

/-- what stands at a tracked address -/
inductive HO where
  /-- a list -/
  | lst (xs : List V)
  /-- a tuple (never changes) -/
  | tup (xs : List V)
  /-- a dict whose keys are ints and texts; one whose keys are tuples of ints and texts (the empty one is both) -/
  | dK (kvs : List (Key × V)) | dT (kvs : List (List Key × V))
  /-- a set of ints: its members, its size -/
  | set (S : Int → Bool) (n : Nat)
  /-- an instance of the class at C, its dict at dx, its attributes -/
  | ins (C dx : Addr) (fs : List (Str × V))
  /-- the dict of the instance at x -/
  | own (x : Addr)
  /-- the dict of an exception -/
  | xd (fs : List (Str × V))
  /-- a bound method, f of x -/
  | met (f x : Addr)
  /-- a range object lo, lo + 1, .. below hi -/
  | rng (lo hi : Int)
  /-- a thing that is known to the object (the script; a dict while a loop walks it): read, never written while it is so -/
  | frz (o : Obj) (u : HO)
  /-- a code object's table -/
  | tbl (ps : Array Value)
  /-- any other thing, by what is true of its one object (a def of one's own: SetO a S n := HO.ext fun h => ..) -/
  | ext (φ : Heap → Prop)

abbrev Hp := Addr → Option HO
def upd (H : Hp) (a : Addr) (o : HO) : Hp := fun b => if b = a then some o else H b
theorem upd_same {H : Hp} {a : Addr} {o : HO} : upd H a o a = some o := by unfold upd; rw [if_pos rfl]
theorem upd_ne {H : Hp} {a b : Addr} {o : HO} (h : b ≠ a) : upd H a o b = H b := by unfold upd; rw [if_neg h]
/-- two objects of different content stand apart -/
theorem ne_of {H : Hp} {a b : Addr} {o u : HO} (h : H a = some o) (h' : H b = some u) (d : o ≠ u) : a ≠ b := by
  intro e; subst e; rw [h] at h'; exact d (Option.some.inj h')
theorem ne_of_none {H : Hp} {a b : Addr} {o : HO} (h : H a = some o) (h' : H b = none) : a ≠ b := by
  intro e; subst e; rw [h] at h'; cases h'

section
variable (P : Program) (w : World)
def ObjOk (H : Hp) (h : Heap) (a : Addr) : HO → Prop
  | .lst xs => xs.length ≤ sizeLine ∧ ∃ (its : List Value) (n : Nat), Vals xs its ∧ h.get? a = some { cls := .type "list", data := .seq its.toArray n }
  | .tup xs => xs.length ≤ sizeLine ∧ ∃ its : List Value, Vals xs its ∧ IsTup h a its.toArray
  | .dK kvs => kvs.length ≤ sizeLine ∧ (a == sysModules) = false ∧ ∃ vs, KV kvs vs ∧ h.DictOf (mixKind P w) a vs
  | .dT kvs => kvs.length ≤ sizeLine ∧ (a == sysModules) = false ∧ ∃ xs : List (List Key × Addr × Value),
      Paired (fun (p : List Key × V) (q : List Key × Addr × Value) => p.1 = q.1 ∧ H q.2.1 = some (.tup (p.1.map kV)) ∧ RelV p.2 q.2.2) kvs xs ∧
      ∃ o es ep, h.get? a = some o ∧ o.ExactDict ∧ o.data = .dict es ep ∧ es.toList = xs.map (entryOfKey (tupleKind (mixKind P w))) ∧ (xs.map (·.1)).Nodup
  | .set S n => h.SetOf (intKind P w) a S n
  | .ins C dx fs => H dx = some (.own a) ∧ fs.length ≤ 1000 ∧ dx ≠ a ∧ h.get? a = some (PySem.W.instObj C dx) ∧
      ∃ mA, h.Ns1 dx mA ∧ (∀ f, RelO (fs.lookup f) (mA f)) ∧ PySem.Within mA (fs.map (·.1))
  | .own _ => ∃ o, h.get? a = some o
  | .xd fs => ∃ mA, h.Ns1 a mA ∧ ∀ f, RelO (fs.lookup f) (mA f)
  | .rng lo hi => ∃ t u v, h.get? a = some { cls := .type "range", data := .fields #[.int lo t, .int hi u, .int 1 v] }
  | .frz o u => h.get? a = some o ∧ ObjOk H h a u
  | .tbl ps => h.get? a = some { cls := .none, data := .fields ps }
  | .met f x => h.get? a = some (PySem.W.methodObj (.ref f) (.ref x))
  | .ext φ => φ h ∧ (∃ o, h.get? a = some o) ∧ ∀ h1 h2 : Heap, φ h1 → (∀ o, h1.get? a = some o → h2.get? a = some o) → φ h2
/-- the abstract heap is held -/
def HOk (H : Hp) (h : Heap) : Prop := ∀ a o, H a = some o → ObjOk P w H h a o
end

section
variable {P : Program} {w : World} {H H' : Hp} {h h' : Heap} {a : Addr} {o : HO}
theorem ObjOk.lt (x : ObjOk P w H h a o) : a < h.objs.size := by
  cases o with
  | lst xs => obtain ⟨_, _, _, _, e⟩ := x; exact Heap.lt_size e
  | tup xs => obtain ⟨_, _, _, p⟩ := x; exact p.lt
  | dK kvs => obtain ⟨_, _, _, _, o, _, _, e, _⟩ := x; exact Heap.lt_size e
  | dT kvs => obtain ⟨_, _, _, _, o, _, _, e, _⟩ := x; exact Heap.lt_size e
  | set S n => obtain ⟨o, _, _, _, e, _⟩ := x; exact Heap.lt_size e
  | ins C dx fs => obtain ⟨_, _, _, e, _⟩ := x; exact Heap.lt_size e
  | own y => obtain ⟨_, e⟩ := x; exact Heap.lt_size e
  | xd fs => obtain ⟨_, ⟨_, _, _, e, _⟩, _⟩ := x; exact Heap.lt_size e
  | rng lo hi => obtain ⟨_, _, _, e⟩ := x; exact Heap.lt_size e
  | frz ob u => obtain ⟨e, _⟩ := x; exact Heap.lt_size e
  | tbl ps => exact Heap.lt_size (show h.get? a = some _ from x)
  | met f y => exact Heap.lt_size (show h.get? a = some _ from x)
  | ext φ => obtain ⟨_, ⟨_, e⟩, _⟩ := x; exact Heap.lt_size e
theorem Paired.mapP {α β : Type} {F G : α → β → Prop} : ∀ {l₁ : List α} {l₂ : List β}, Paired F l₁ l₂ → (∀ a b, F a b → G a b) → Paired G l₁ l₂
  | _, _, .nil, _ => .nil
  | _, _, .cons r t, f => .cons (f _ _ r) (Paired.mapP t f)
/-- what an object's description leans on: its own object, its own dict, the tuples -/
theorem ObjOk.stay (x : ObjOk P w H h a o) (k : ∀ b u, (b = a ∨ H b = some (.own a)) → h.get? b = some u → h'.get? b = some u)
    (ho : ∀ b, H b = some (.own a) → H' b = some (.own a)) (ht : ∀ b xs, H b = some (.tup xs) → H' b = some (.tup xs)) : ObjOk P w H' h' a o := by
  induction o with
  | lst xs => obtain ⟨z, its, n, r, e⟩ := x; exact ⟨z, its, n, r, k _ _ (.inl rfl) e⟩
  | tup xs => obtain ⟨z, its, r, ob, e, c⟩ := x; exact ⟨z, its, r, ob, k _ _ (.inl rfl) e, c⟩
  | dK kvs => obtain ⟨z, y, vs, r, ob, es, ep, e, c⟩ := x; exact ⟨z, y, vs, r, ob, es, ep, k _ _ (.inl rfl) e, c⟩
  | dT kvs =>
    obtain ⟨z, y, xs, r, ob, es, ep, e, c⟩ := x
    exact ⟨z, y, xs, Paired.mapP r fun p q z => ⟨z.1, ht _ _ z.2.1, z.2.2⟩, ob, es, ep, k _ _ (.inl rfl) e, c⟩
  | set S n => obtain ⟨ob, es, ep, t, e, c⟩ := x; exact ⟨ob, es, ep, t, k _ _ (.inl rfl) e, c⟩
  | ins C dx fs =>
    obtain ⟨d, z, ne, e, mA, ⟨od, es, ep, e2, c⟩, r⟩ := x
    exact ⟨ho _ d, z, ne, k _ _ (.inl rfl) e, mA, ⟨od, es, ep, k _ _ (.inr d) e2, c⟩, r⟩
  | own y => obtain ⟨ob, e⟩ := x; exact ⟨ob, k _ _ (.inl rfl) e⟩
  | xd fs => obtain ⟨mA, ⟨od, es, ep, e, c⟩, r⟩ := x; exact ⟨mA, ⟨od, es, ep, k _ _ (.inl rfl) e, c⟩, r⟩
  | rng lo hi => obtain ⟨t, u, v, e⟩ := x; exact ⟨t, u, v, k _ _ (.inl rfl) e⟩
  | frz ob u ih => obtain ⟨e, q⟩ := x; exact ⟨k _ _ (.inl rfl) e, ih q⟩
  | tbl ps =>
    have e : h.get? a = some { cls := .none, data := .fields ps } := x
    show h'.get? a = some { cls := .none, data := .fields ps }
    exact k a _ (.inl rfl) e
  | met f y =>
    have e : h.get? a = some (PySem.W.methodObj (.ref f) (.ref y)) := x
    show h'.get? a = some (PySem.W.methodObj (.ref f) (.ref y))
    exact k a _ (.inl rfl) e
  | ext φ => obtain ⟨p, ⟨o, e⟩, st⟩ := x; exact ⟨st _ _ p fun o q => k _ _ (.inl rfl) q, ⟨o, k _ _ (.inl rfl) e⟩, st⟩
theorem HOk.lt (x : HOk P w H h) (e : H a = some o) : a < h.objs.size := (x a o e).lt
theorem HOk.fresh (x : HOk P w H h) (e : h.objs.size ≤ a) : H a = none := by
  cases q : H a with
  | none => rfl
  | some u => exact absurd (Nat.lt_of_lt_of_le (x.lt q) e) (Nat.lt_irrefl _)
/-- every object of the heap is kept -/
theorem HOk.kept (x : HOk P w H h) (k : ∀ b u, h.get? b = some u → h'.get? b = some u) : HOk P w H h' := fun a o e =>
  (x a o e).stay (fun b u _ q => k b u q) (fun _ q => q) fun _ _ q => q
/-- a new object is laid and tracked -/
theorem HOk.laid (x : HOk P w H h) (k : ∀ b u, h.get? b = some u → h'.get? b = some u) (hp : h.objs.size ≤ a) (new : ObjOk P w (upd H a o) h' a o) : HOk P w (upd H a o) h' := fun b u e => by
  have hn := x.fresh hp
  by_cases hb : b = a
  · subst hb; rw [upd_same] at e; cases e; exact new
  · rw [upd_ne hb] at e
    exact (x b u e).stay (fun c v _ q => k c v q) (fun c q => by rw [upd_ne (ne_of_none q hn)]; exact q) fun c xs q => by rw [upd_ne (ne_of_none q hn)]; exact q
end

/-- what may be read as u: it is u, or a known u -/
def Rd (H : Hp) (a : Addr) (u : HO) : Prop := H a = some u ∨ ∃ o, H a = some (.frz o u)
theorem Rd.ok {P : Program} {w : World} {H : Hp} {h : Heap} {a : Addr} {u : HO} (r : Rd H a u) (x : HOk P w H h) : ObjOk P w H h a u := by
  rcases r with r | ⟨o, r⟩
  · exact x a u r
  · obtain ⟨_, q⟩ := x a _ r
    exact q
/-- what may be written -/
def Mut : Option HO → Prop
  | some (.lst _) => True
  | some (.dK _) => True
  | some (.dT _) => True
  | some (.set _ _) => True
  | some (.ins _ _ _) => True
  | some (.ext _) => True
  | _ => False
section
variable {P : Program} {w : World} {H : Hp} {h h' : Heap} {x e : Addr} {o' : HO}
/-- the object at e is changed: x itself, or the dict of the instance x -/
theorem HOk.write (ok : HOk P w H h) (mu : Mut (H x)) (he : e = x ∨ H e = some (.own x)) (k : ∀ b u, b ≠ e → h.get? b = some u → h'.get? b = some u) (heo : ∃ u, h'.get? e = some u)
    (new : ObjOk P w (upd H x o') h' x o') : HOk P w (upd H x o') h' := fun b u q => by
  have nown : ∀ c y, H c = some (.own y) → c ≠ x := fun c y r z => by subst z; rw [r] at mu; exact mu
  have ntup : ∀ c xs, H c = some (.tup xs) → c ≠ x := fun c xs r z => by subst z; rw [r] at mu; exact mu
  by_cases hb : b = x
  · subst hb; rw [upd_same] at q; cases q; exact new
  · rw [upd_ne hb] at q
    by_cases hbe : b = e
    · have q' : H b = some (.own x) := by
        rcases he with z | z
        · exact absurd (hbe.trans z) hb
        · rw [hbe]; exact z
      rw [q] at q'; cases q'
      obtain ⟨v, hv⟩ := heo
      exact ⟨v, by rw [hbe]; exact hv⟩
    · refine (ok b u q).stay (fun c v hc r => k c v ?_ r) (fun c r => by rw [upd_ne (nown c b r)]; exact r) fun c xs r => by rw [upd_ne (ntup c xs r)]; exact r
      rcases hc with rfl | hc
      · exact hbe
      · rintro rfl
        rcases he with z | z
        · exact nown c b hc z
        · rw [hc] at z; cases z; exact hb rfl
end

/-! ### kept unless tracked; of the frames at fs (the callers') the slots may change (an exception that passes writes there); of the records at ex (iterators) nothing is said -/
structure Un (fs ex : List Addr) (H H' : Hp) (h h' : Heap) : Prop where
  keep : ∀ b o, h.get? b = some o → H b = none → b ∉ fs → b ∉ ex → h'.get? b = some o
  slot : ∀ b o, h.get? b = some o → H b = none → b ∈ fs → b ∉ ex → ∃ sl, h'.get? b = some { o with slots := sl }
  free : ∀ b o, h.get? b = some o → H b = none → b ∉ ex → H' b = none
  there : ∀ b o, h.get? b = some o → b ∉ ex → ∃ o', h'.get? b = some o'
  tups : ∀ b xs, H b = some (.tup xs) → H' b = some (.tup xs)
  frzs : ∀ b o u, H b = some (.frz o u) → H' b = some (.frz o u)
  tbls : ∀ b ps, H b = some (.tbl ps) → ∃ more, H' b = some (.tbl (ps ++ more))
section
variable {fs fs' ex ex' : List Addr} {H H1 H2 : Hp} {h h1 h2 h' : Heap} {a x e : Addr} {o : HO}
theorem Un.any (u : Un fs ex H H1 h h1) {b : Addr} {ob : Obj} (q : h.get? b = some ob) (n : H b = none) (hx : b ∉ ex) : ∃ sl, h1.get? b = some { ob with slots := sl } := by
  by_cases hb : b ∈ fs
  · exact u.slot b ob q n hb hx
  · exact ⟨ob.slots, u.keep b ob q n hb hx⟩
theorem Un.kept (k : ∀ b u, h.get? b = some u → h'.get? b = some u) : Un fs ex H H h h' :=
  ⟨fun b ob q _ _ _ => k b ob q, fun b ob q _ _ _ => ⟨ob.slots, k b ob q⟩, fun _ _ _ n _ => n, fun b ob q _ => ⟨ob, k b ob q⟩, fun _ _ q => q, fun _ _ _ q => q, fun _ ps q => ⟨#[], by rw [q]; simp⟩⟩
theorem Un.refl : Un fs ex H H h h := Un.kept fun _ _ q => q
theorem Un.laid (k : ∀ b u, h.get? b = some u → h'.get? b = some u) (hp : h.objs.size ≤ a) (hn : H a = none) : Un fs ex H (upd H a o) h h' where
  keep := fun b u q _ _ _ => k b u q
  slot := fun b u q _ _ _ => ⟨u.slots, k b u q⟩
  free := fun b u q n _ => by rw [upd_ne (Nat.ne_of_lt (Nat.lt_of_lt_of_le (Heap.lt_size q) hp))]; exact n
  there := fun b u q _ => ⟨u, k b u q⟩
  tups := fun b xs q => by rw [upd_ne (ne_of_none q hn)]; exact q
  frzs := fun b u xs q => by rw [upd_ne (ne_of_none q hn)]; exact q
  tbls := fun b ps q => ⟨#[], by rw [upd_ne (ne_of_none q hn), q]; simp⟩
theorem Un.write (mu : Mut (H x)) (he : e = x ∨ H e = some (.own x)) (k : ∀ b u, b ≠ e → h.get? b = some u → h'.get? b = some u) (heo : ∃ u, h'.get? e = some u) : Un fs ex H (upd H x o) h h' := by
  have hx : ∀ b, H b = none → b ≠ x := fun b n z => by subst z; rw [n] at mu; exact mu
  have hb : ∀ b, H b = none → b ≠ e := fun b n z => by
    subst z
    rcases he with r | r
    · exact hx b n r
    · rw [n] at r; cases r
  have hm : ∀ b u, H b = some u → ¬ Mut (some u) → b ≠ x := fun b u q nm z => by subst z; rw [q] at mu; exact nm mu
  refine ⟨fun b u q n _ _ => k b u (hb b n) q, fun b u q n _ _ => ⟨u.slots, k b u (hb b n) q⟩, fun b u q n _ => by rw [upd_ne (hx b n)]; exact n, fun b u q _ => ?_,
    fun b xs q => by rw [upd_ne (hm b _ q fun z => z)]; exact q, fun b u xs q => by rw [upd_ne (hm b _ q fun z => z)]; exact q, fun b ps q => ⟨#[], by rw [upd_ne (hm b _ q fun z => z), q]; simp⟩⟩
  by_cases hbe : b = e
  · subst hbe; exact heo
  · exact ⟨u, k b u hbe q⟩
end

/-! ### the heap without what is tracked -/
def trk (h : Heap) (H : Hp) : List Addr := (List.range h.objs.size).filter fun a => (H a).isSome
def hidT (h : Heap) (H : Hp) : Heap := PySem.W.hideAll h (trk h H)
theorem hidT_size (h : Heap) (H : Hp) : (hidT h H).objs.size = h.objs.size := PySem.W.hideAll_size _ _
theorem hidT_get {h : Heap} {H : Hp} {b : Addr} {o : Obj} (e : h.get? b = some o) (n : H b = none) : (hidT h H).get? b = some o :=
  PySem.W.hideAll_get _ e fun hm => by
    have q : (H b).isSome = true := (List.mem_filter.mp hm).2
    rw [n] at q; simp at q
theorem of_hidT {h : Heap} {H : Hp} {b : Addr} {o : Obj} (e : (hidT h H).get? b = some o) : h.get? b = some o ∧ H b = none := by
  have e' : h.get? b = some o := PySem.W.of_hideAll (trk h H) e
  refine ⟨e', ?_⟩
  cases q : H b with
  | none => rfl
  | some x =>
    have hm : b ∈ trk h H := List.mem_filter.mpr ⟨List.mem_range.mpr (Heap.lt_size e'), by simp [q]⟩
    have z : (hidT h H).get? b = none := PySem.W.hideAll_none (trk h H) hm
    rw [z] at e; cases e

/-! ### OpenK's ledger, filled with every new object but one -/
def allNews (g h : Heap) (L : Addr) : List (Addr × Obj) := (List.range h.objs.size).filterMap fun a => if a = L ∨ (g.get? a).isSome = true then none else (h.get? a).map fun o => (a, o)
def rest (g h : Heap) (L d : Addr) : List (Addr × Obj) := (allNews g h L).filter fun p => decide (p.1 ≠ d)
end L2

namespace L2
open PySem PySem.Spec PyProof.Rows

/-- the module's facts, over the base: the heap at the law's entry without what is tracked there -/
structure Mod (K : PySem.W.Frag) (mg : Str → Option Value) (base : Heap) : Prop where
  kin : K.In base
  glob : base.Ns mainGlobals mg
  blt : ∃ mb, base.Ns builtinsNs mb ∧ ∀ x : Str, x ≠ "__name__" → mb x = bootBuiltins x
  nolimit : base.NoLimit

/-- the context: a def's body (or a comprehension's block) running. base: fixed through the whole law; s₀, H₀: the entry; outer: the frames whose slots others may change (a def's callers); stack: all frames that run;
   ex: iterators that were made ahead of the entry and are walked here (a comprehension's); fn: the names whose cells were made at the entry (a def: all; a comprehension's block: its own); calm: not within an except suite; pn: pins that every state bears; xe: what is wanted of an exception that leaves the code -/
structure Cx where
  prog : Program
  w : World
  K : PySem.W.Frag
  mg : Str → Option Value
  base : Heap
  A : Around
  N : List Str
  s₀ : Shared
  H₀ : Hp
  env : Env
  outer : List Env
  stack : List Env
  ex : List Addr
  fn : Str → Bool
  calm : Bool
  pn : List (Addr × Obj)
  xe : Value → Shared → Prop
/-- the callers' frames -/
def frs (l : List Env) : List Addr := l.filterMap (·.frame)
abbrev Cx.fs (X : Cx) : List Addr := frs X.outer

def Vis (sc : Scope) (x : Str) : Prop := sc.names.lookup x = some .local ∨ sc.names.lookup x = some .cell ∨ sc.names.lookup x = some .free
def Loc (sc : Scope) (x : Str) : Prop := sc.names.lookup x = some .local ∨ sc.names.lookup x = some .cell
def Look (env : Env) (h : Heap) (m : Str → Option Value) (x : Str) (u : Value) : Prop :=
  (env.kindOf x = some .local ∧ m x = some u) ∨ ((env.kindOf x = some .cell ∨ env.kindOf x = some .free) ∧ ∃ c, env.cells.lookup x = some c ∧ h.IsCell c (some u))

structure Cx.Ok (X : Cx) : Prop where
  mod : Mod X.K X.mg X.base
  kind : X.env.scope.kind = .function
  glob : X.env.globals = mainGlobals
  blt : X.env.builtins = builtinsNs
  above : X.s₀.heap.objs.size ≤ X.env.locals
  inj : ∀ x y c, X.env.cells.lookup x = some c → X.env.cells.lookup y = some c → x = y
  has : ∀ x, (X.env.kindOf x = some .cell ∨ X.env.kindOf x = some .free) → ∃ c, X.env.cells.lookup x = some c
  cab : ∀ x c, X.fn x = true → X.env.cells.lookup x = some c → X.s₀.heap.objs.size ≤ c
  hd : X.calm = true → X.A.handled = none
  frames : X.A.frames = some X.stack
  stk : X.stack = X.outer ∨ (X.stack = X.env :: X.outer ∧ X.env.frame = some X.env.locals)
  exf : ∀ b ∈ X.ex, b ≠ X.env.locals ∧ ∀ x c, X.env.cells.lookup x = some c → c ≠ b
  bs : ∀ b o, X.base.get? b = some o → X.s₀.heap.get? b = some o ∧ X.H₀ b = none
  bsz : X.base.objs.size ≤ X.s₀.heap.objs.size
  noex : ∀ b o, X.base.get? b = some o → b ∉ X.ex
  exfs : ∀ b ∈ X.ex, b ∉ X.fs
  funs : X.s₀.heap.FunFrames X.base X.outer
  frf : ∀ b ∈ X.fs, X.H₀ b = none

structure Inv (X : Cx) (pins : List (Addr × Obj)) (σ : List (Option V)) (H : Hp) (s : Shared) : Prop where
  ok : X.Ok
  os : s.os = X.s₀.os
  bare : AllBare s.gens
  base : Un X.fs X.ex X.H₀ H X.s₀.heap s.heap
  loc : ∃ m, s.heap.Ns X.env.locals m ∧ ∀ (i : Nat) (x : Str) (v : V), X.N[i]? = some x → σ[i]? = some (some v) → Vis X.env.scope x → ∃ u, RelV v u ∧ Look X.env s.heap m x u
  cell : ∀ x c, X.env.cells.lookup x = some c → ∃ v, s.heap.IsCell c v
  free : H X.env.locals = none
  freeC : ∀ x c, X.env.cells.lookup x = some c → H c = none
  pin : ∀ p ∈ X.pn ++ pins, s.heap.get? p.1 = some p.2 ∧ H p.1 = none ∧ p.1 ≠ X.env.locals ∧ p.1 ∉ X.fs ∧ ∀ v, p.2.data ≠ .cell v
  hok : HOk X.prog X.w H s.heap
  len : σ.length = X.N.length

section
variable {X : Cx} {pins : List (Addr × Obj)} {σ : List (Option V)} {H H' : Hp} {s : Shared} {h' : Heap}

theorem Cx.Ok.nofr (ok : X.Ok) {b : Addr} {o : Obj} (e : X.base.get? b = some o) : b ∉ X.fs := fun hb => by
  have := (ok.funs.mem hb).1
  rw [e] at this; cases this
theorem Inv.bs (I : Inv X pins σ H s) : ∀ b o, X.base.get? b = some o → s.heap.get? b = some o ∧ H b = none := fun b o e =>
  ⟨I.base.keep b o (I.ok.bs b o e).1 (I.ok.bs b o e).2 (I.ok.nofr e) (I.ok.noex b o e), I.base.free b o (I.ok.bs b o e).1 (I.ok.bs b o e).2 (I.ok.noex b o e)⟩
theorem Inv.bk (I : Inv X pins σ H s) : ∀ b o, X.base.get? b = some o → s.heap.get? b = some o := fun b o e => (I.bs b o e).1
theorem Inv.mod (I : Inv X pins σ H s) : Mod X.K X.mg X.base := I.ok.mod
theorem Inv.kIn (I : Inv X pins σ H s) : X.K.In s.heap := I.ok.mod.kin.keeps I.bk
theorem Inv.nolimit (I : Inv X pins σ H s) : s.heap.NoLimit := I.ok.mod.nolimit.keeps I.bk
theorem Inv.lt (I : Inv X pins σ H s) : X.env.locals < s.heap.objs.size := let ⟨_, hn, _⟩ := I.loc; hn.lt
theorem Inv.sz (I : Inv X pins σ H s) : X.s₀.heap.objs.size ≤ s.heap.objs.size := Nat.le_trans I.ok.above (Nat.le_of_lt I.lt)
theorem Inv.nofs (I : Inv X pins σ H s) {a : Addr} (h : s.heap.objs.size ≤ a) : a ∉ X.fs := fun hb => by
  obtain ⟨_, o, ho, _⟩ := I.ok.funs.mem hb
  exact absurd (Nat.lt_of_lt_of_le (Heap.lt_size ho) (Nat.le_trans I.sz h)) (Nat.lt_irrefl _)
theorem Inv.cne (I : Inv X pins σ H s) : ∀ x c, X.env.cells.lookup x = some c → c ≠ X.env.locals := fun x c e z => by
  obtain ⟨v, o, ho, hd⟩ := I.cell x c e
  obtain ⟨m, ⟨o', es, ep, ho', hd', _⟩, _⟩ := I.loc
  rw [z, ho'] at ho; cases ho; rw [hd'] at hd; cases hd
theorem Inv.funs (I : Inv X pins σ H s) : s.heap.FunFrames X.base X.outer := by
  have all : ∀ (l : List Env), (∀ b ∈ frs l, b ∈ X.fs) → X.s₀.heap.FunFrames X.base l → s.heap.FunFrames X.base l := by
    intro l
    induction l with
    | nil => intro _ _; trivial
    | cons env r ih =>
      intro hs hl
      obtain ⟨hk, ⟨L, o, hf, hn, ho, hd⟩, hr⟩ := hl
      have hL : L ∈ X.fs := hs L (by unfold frs; rw [List.filterMap_cons, hf]; exact List.mem_cons_self)
      obtain ⟨sl, e⟩ := I.base.slot L o ho (I.ok.frf L hL) hL fun z => I.ok.exfs L z hL
      exact ⟨hk, ⟨L, _, hf, hn, e, hd⟩, ih (fun b hb => hs b (by unfold frs; rw [List.filterMap_cons, hf]; exact List.mem_cons_of_mem _ hb)) hr⟩
  exact all X.outer (fun _ hb => hb) I.ok.funs

/-- the frames that run, for a call -/
theorem Inv.stack (I : Inv X pins σ H s) : s.heap.FunFrames X.base X.stack := by
  rcases I.ok.stk with e | ⟨e, hf⟩
  · rw [e]; exact I.funs
  · rw [e]
    obtain ⟨m, hn, _⟩ := I.loc
    refine .cons (by rw [I.ok.kind]; decide) hf hn ?_ I.funs
    exact Heap.get?_none_of_le (Nat.le_trans I.ok.bsz I.ok.above)
theorem Inv.stkSub (I : Inv X pins σ H s) : ∀ b ∈ frs X.stack, b ∈ X.env.locals :: X.fs := fun b hb => by
  rcases I.ok.stk with e | ⟨e, hf⟩
  · rw [e] at hb; exact List.mem_cons_of_mem _ hb
  · rw [e] at hb
    unfold frs at hb
    rw [List.filterMap_cons, hf] at hb
    exact hb
theorem Inv.stkFree (I : Inv X pins σ H s) : ∀ b ∈ frs X.stack, H b = none := fun b hb => by
  rcases List.mem_cons.mp (I.stkSub b hb) with e | hb
  · rw [e]; exact I.free
  · obtain ⟨_, o, ho, _⟩ := I.ok.funs.mem hb
    exact I.base.free b o ho (I.ok.frf b hb) fun z => I.ok.exfs b z hb

/-- THE STEP: the untracked objects but the frame and the records at ch are kept (the callers' frames up to slots), the frame's map is kept, the new abstract heap is held -/
theorem Inv.step {g' : Array GenState} {t' : Nat} {d' : Drawn} {ch : List Addr} (I : Inv X pins σ H s)
    (hch : ∀ b ∈ ch, (b ∈ X.ex ∨ X.s₀.heap.objs.size ≤ b) ∧ b ≠ X.env.locals ∧ (∀ x c, X.env.cells.lookup x = some c → c ≠ b) ∧ ∀ p ∈ X.pn ++ pins, p.1 ≠ b)
    (keep : ∀ b o, b ≠ X.env.locals → b ∉ X.fs → b ∉ ch → s.heap.get? b = some o → H b = none → h'.get? b = some o)
    (slot : ∀ b o, b ≠ X.env.locals → b ∈ X.fs → b ∉ ch → s.heap.get? b = some o → H b = none → ∃ sl, h'.get? b = some { o with slots := sl }) (free : ∀ b o, b ∉ ch → s.heap.get? b = some o → H b = none → H' b = none)
    (there : ∀ b o, b ∉ ch → s.heap.get? b = some o → ∃ o', h'.get? b = some o')
    (tups : ∀ b xs, H b = some (.tup xs) → H' b = some (.tup xs)) (frzs : ∀ b o u, H b = some (.frz o u) → H' b = some (.frz o u)) (tbls : ∀ b ps, H b = some (.tbl ps) → ∃ more, H' b = some (.tbl (ps ++ more)))
    (ns : ∀ m, s.heap.Ns X.env.locals m → h'.Ns X.env.locals m) (hok : HOk X.prog X.w H' h') (hg : AllBare g') :
    Inv X pins σ H' { s with heap := h', gens := g', drawn := d', toks := t' } := by
  have neL : ∀ b o, X.s₀.heap.get? b = some o → b ≠ X.env.locals := fun b o e => Nat.ne_of_lt (Nat.lt_of_lt_of_le (Heap.lt_size e) I.ok.above)
  have neC : ∀ b o, X.s₀.heap.get? b = some o → b ∉ X.ex → b ∉ ch := fun b o e hx hb => by
    rcases (hch b hb).1 with z | z
    · exact hx z
    · exact absurd (Nat.lt_of_lt_of_le (Heap.lt_size e) z) (Nat.lt_irrefl _)
  have cellK : ∀ x c, X.env.cells.lookup x = some c → ∀ v, s.heap.IsCell c v → h'.IsCell c v := fun x c e v ⟨o, ho, hd⟩ => by
    have nch : c ∉ ch := fun z => (hch c z).2.2.1 x c e rfl
    by_cases hc : c ∈ X.fs
    · obtain ⟨sl, q⟩ := slot c o (I.cne x c e) hc nch ho (I.freeC x c e)
      exact ⟨_, q, hd⟩
    · exact ⟨o, keep c o (I.cne x c e) hc nch ho (I.freeC x c e), hd⟩
  refine ⟨I.ok, I.os, hg, ⟨fun b o e n hb hx => ?_, fun b o e n hb hx => ?_, fun b o e n hx => ?_, fun b o e hx => ?_, fun b xs e => tups b xs (I.base.tups b xs e), fun b o xs e => frzs b o xs (I.base.frzs b o xs e), fun b ps e => ?_⟩, ?_, fun x c e => ?_, ?_, fun x c e => ?_, fun p hp => ?_, hok, I.len⟩
  · exact keep b o (neL b o e) hb (neC b o e hx) (I.base.keep b o e n hb hx) (I.base.free b o e n hx)
  · obtain ⟨sl, e1⟩ := I.base.slot b o e n hb hx
    obtain ⟨sl', e2⟩ := slot b _ (neL b o e) hb (neC b o e hx) e1 (I.base.free b o e n hx)
    exact ⟨sl', e2⟩
  · obtain ⟨o', e1⟩ := I.base.there b o e hx
    exact free b o' (neC b o e hx) e1 (I.base.free b o e n hx)
  · obtain ⟨o', e1⟩ := I.base.there b o e hx
    exact there b o' (neC b o e hx) e1
  · obtain ⟨m1, e1⟩ := I.base.tbls b ps e
    obtain ⟨m2, e2⟩ := tbls b _ e1
    exact ⟨m1 ++ m2, by rw [e2, Array.append_assoc]⟩
  · obtain ⟨m, hn, hl⟩ := I.loc
    refine ⟨m, ns m hn, fun i x v e1 e2 e3 => ?_⟩
    obtain ⟨u, r, l⟩ := hl i x v e1 e2 e3
    refine ⟨u, r, ?_⟩
    rcases l with l | ⟨k, c, e, z⟩
    · exact .inl l
    · exact .inr ⟨k, c, e, cellK x c e _ z⟩
  · obtain ⟨v, z⟩ := I.cell x c e
    exact ⟨v, cellK x c e v z⟩
  · obtain ⟨m, ⟨o, _, _, ho, _⟩, _⟩ := I.loc
    exact free _ o (fun z => (hch _ z).2.1 rfl) ho I.free
  · obtain ⟨v, o, ho, hd⟩ := I.cell x c e
    exact free c o (fun z => (hch c z).2.2.1 x c e rfl) ho (I.freeC x c e)
  · obtain ⟨e, n, ne, nf, d⟩ := I.pin p hp
    have nch : p.1 ∉ ch := fun z => (hch p.1 z).2.2.2 p hp rfl
    exact ⟨keep p.1 p.2 ne nf nch e n, free p.1 p.2 nch e n, ne, nf, d⟩
/-- .. where the frame's own object is kept too -/
theorem Inv.un {t' : Nat} (I : Inv X pins σ H s) (u : Un X.fs [] H H' s.heap h') (hok : HOk X.prog X.w H' h') : Inv X pins σ H' { s with heap := h', toks := t' } := by
  obtain ⟨m, ⟨o, es, ep, ho, r⟩, _⟩ := id I.loc
  obtain ⟨sl, hL⟩ := u.any ho I.free (by simp)
  exact I.step (g' := s.gens) (d' := s.drawn) (ch := []) (fun _ z => nomatch z) (fun b o _ hb _ e n => u.keep b o e n hb (by simp)) (fun b o _ hb _ e n => u.slot b o e n hb (by simp)) (fun b o _ e n => u.free b o e n (by simp)) (fun b o _ e => u.there b o e (by simp)) u.tups u.frzs u.tbls (fun m' hm => by
    obtain ⟨o', es', ep', ho', r'⟩ := hm
    rw [ho] at ho'; cases ho'
    exact ⟨_, es', ep', hL, r'⟩) hok I.bare
/-- behind a call (or a comprehension's block): the slots of this frame may have changed too, the records at ch may have turned -/
theorem Inv.call {g' : Array GenState} {t' : Nat} {d' : Drawn} {ch : List Addr} (I : Inv X pins σ H s) (u : Un (frs X.stack) ch H H' s.heap h') (hok : HOk X.prog X.w H' h') (hg : AllBare g')
    (hch : ∀ b ∈ ch, (b ∈ X.ex ∨ X.s₀.heap.objs.size ≤ b) ∧ b ≠ X.env.locals ∧ (∀ x c, X.env.cells.lookup x = some c → c ≠ b) ∧ ∀ p ∈ X.pn ++ pins, p.1 ≠ b) :
    Inv X pins σ H' { s with heap := h', gens := g', drawn := d', toks := t' } := by
  obtain ⟨m, ⟨o, es, ep, ho, r⟩, _⟩ := id I.loc
  obtain ⟨sl, hL⟩ := u.any ho I.free fun z => (hch _ z).2.1 rfl
  exact I.step (ch := ch) hch (fun b o hL hb hc e n => u.keep b o e n (fun z => (List.mem_cons.mp (I.stkSub b z)).elim hL hb) hc) (fun b o _ _ hc e n => u.any e n hc) (fun b o hc e n => u.free b o e n hc) (fun b o hc e => u.there b o e hc) u.tups u.frzs u.tbls (fun m' hm => by
    obtain ⟨o', es', ep', ho', r'⟩ := hm
    rw [ho] at ho'; cases ho'
    exact ⟨_, es', ep', hL, r'⟩) hok hg
/-- an untracked record of ours (an iterator) has turned -/
theorem Inv.turned {t' : Nat} {it : Addr} (I : Inv X pins σ H s) (k : ∀ b o, b ≠ it → s.heap.get? b = some o → h'.get? b = some o) (hn : H it = none) (hL : it ≠ X.env.locals)
    (h1 : it ∈ X.ex ∨ X.s₀.heap.objs.size ≤ it) (h2 : ∀ x c, X.env.cells.lookup x = some c → c ≠ it) (h3 : ∀ p ∈ X.pn ++ pins, p.1 ≠ it) : Inv X pins σ H { s with heap := h', toks := t' } := by
  have nit : ∀ b u, H b = some u → b ≠ it := fun b u e z => by rw [z, hn] at e; cases e
  refine I.step (g' := s.gens) (d' := s.drawn) (ch := [it]) (fun b hb => ?_) (fun b o _ _ hc e _ => k b o (fun z => hc (by simp [z])) e) (fun b o _ _ hc e _ => ⟨o.slots, k b o (fun z => hc (by simp [z])) e⟩) (fun _ _ _ _ n => n)
    (fun b o hc e => ⟨o, k b o (fun z => hc (by simp [z])) e⟩) (fun _ _ e => e) (fun _ _ _ e => e) (fun b ps e => ⟨#[], by rw [e]; simp⟩) (fun m hm => ?_) (fun b u e => ?_) I.bare
  · have e : b = it := by simpa using hb
    subst e
    exact ⟨h1, hL, h2, h3⟩
  · obtain ⟨o, es, ep, ho, r⟩ := hm
    exact ⟨o, es, ep, k _ o (Ne.symm hL) ho, r⟩
  · refine (I.hok b u e).stay (fun c v hc q => k c v ?_ q) (fun _ q => q) fun _ _ q => q
    rcases hc with z | z
    · rw [z]; exact nit b u e
    · exact nit c _ z
theorem Inv.tok (I : Inv X pins σ H s) (t : Nat) : Inv X pins σ H { s with toks := t } := I.un (h' := s.heap) (t' := t) Un.refl I.hok
/-- all objects kept -/
theorem Inv.kept {t' : Nat} (I : Inv X pins σ H s) (k : ∀ b u, s.heap.get? b = some u → h'.get? b = some u) : Inv X pins σ H { s with heap := h', toks := t' } := I.un (Un.kept k) (I.hok.kept k)
/-- a new object laid and tracked -/
theorem Inv.laid {a : Addr} {o : HO} {t' : Nat} (I : Inv X pins σ H s) (k : ∀ b u, s.heap.get? b = some u → h'.get? b = some u) (hp : s.heap.objs.size ≤ a) (new : ObjOk X.prog X.w (upd H a o) h' a o) :
    Inv X pins σ (upd H a o) { s with heap := h', toks := t' } := I.un (Un.laid k hp (I.hok.fresh hp)) (I.hok.laid k hp new)
/-- an object written -/
theorem Inv.write {x e : Addr} {o : HO} {t' : Nat} (I : Inv X pins σ H s) (mu : Mut (H x)) (he : e = x ∨ H e = some (.own x)) (k : ∀ b u, b ≠ e → s.heap.get? b = some u → h'.get? b = some u) (heo : ∃ u, h'.get? e = some u)
    (new : ObjOk X.prog X.w (upd H x o) h' x o) : Inv X pins σ (upd H x o) { s with heap := h', toks := t' } := I.un (Un.write mu he k heo) (I.hok.write mu he k heo new)
theorem Inv.pins_of {pins' : List (Addr × Obj)} (I : Inv X pins σ H s) (h : ∀ p ∈ pins', s.heap.get? p.1 = some p.2 ∧ H p.1 = none ∧ p.1 ≠ X.env.locals ∧ p.1 ∉ X.fs ∧ ∀ v, p.2.data ≠ .cell v) : Inv X pins' σ H s :=
  ⟨I.ok, I.os, I.bare, I.base, I.loc, I.cell, I.free, I.freeC, fun p hp => (List.mem_append.mp hp).elim (fun z => I.pin p (List.mem_append_left _ z)) (h p), I.hok, I.len⟩

theorem nodup_ix {N : List Str} (hN : N.Nodup) {i j : Nat} {x : Str} (a : N[i]? = some x) (b : N[j]? = some x) : i = j := by
  obtain ⟨h1, e1⟩ := List.getElem?_eq_some_iff.mp a
  obtain ⟨h2, e2⟩ := List.getElem?_eq_some_iff.mp b
  exact (List.getElem_inj hN).mp (e1.trans e2.symm)

/-- a name is stored; what changed -/
theorem store_ok2 {M : Model} {A : Around} {E : Value → Shared → Prop} {i : Nat} {x : Str} {v : V} {u : Value} {Q : Unit → Shared → Prop} (I : Inv X pins σ H s) (hN : X.N.Nodup) (hi : X.N[i]? = some x) (hx : Loc X.env.scope x) (r : RelV v u)
    (h : ∀ s', Inv X pins (σ.set i (some v)) H s' → (∃ a, Heap.SameBut a s.heap s'.heap ∧ (a = X.env.locals ∨ X.env.cells.lookup x = some a)) → Q () s') (hf : X.fn x = true ∨ X.env.scope.names.lookup x = some .local := by first | exact .inl rfl | exact .inr rfl | assumption) : wpAny M A (storeName X.env x u) Q E s := by
  obtain ⟨m, hn, hl⟩ := id I.loc
  have hcls : (X.env.scope.kind == .class || (X.env.scope.kind == .module && X.env.locals != X.env.globals)) = false := by rw [I.ok.kind]; rfl
  have hiσ : i < σ.length := by rw [I.len]; exact (List.getElem?_eq_some_iff.mp hi).1
  have cne := I.cne
  have tracked : ∀ {a : Addr} {h' : Heap}, (∃ o, s.heap.get? a = some o ∧ H a = none) → Heap.SameBut a s.heap h' → HOk X.prog X.w H h' := fun {a h'} ha hs b ob e => by
    obtain ⟨_, _, hfree⟩ := ha
    refine (I.hok b ob e).stay (fun c w' hc q => (hs.2 c ?_).trans q) (fun _ q => q) fun _ _ q => q
    rintro rfl
    rcases hc with rfl | hc
    · rw [hfree] at e; cases e
    · rw [hfree] at hc; cases hc
  rcases hx with hk | hk
  · refine wpAny_storeName_local hk hn (fun h' hn' hs => ?_) hcls
    obtain ⟨oL, _, _, hoL, _⟩ := id hn
    refine h _ ⟨I.ok, I.os, I.bare, ⟨fun b o e n hb hx => ?_, fun b o e n hb hx => ?_, I.base.free, fun b o e hx => ?_, I.base.tups, I.base.frzs, I.base.tbls⟩, ⟨_, hn', fun j y v' e1 e2 e3 => ?_⟩, fun y c e => ?_, I.free, I.freeC, fun p hp => ?_, tracked ⟨oL, hoL, I.free⟩ hs, by simpa using I.len⟩ ⟨_, hs, .inl rfl⟩
    · exact (hs.2 b (Nat.ne_of_lt (Nat.lt_of_lt_of_le (Heap.lt_size e) I.ok.above))).trans (I.base.keep b o e n hb hx)
    · obtain ⟨sl, e1⟩ := I.base.slot b o e n hb hx
      exact ⟨sl, (hs.2 b (Nat.ne_of_lt (Nat.lt_of_lt_of_le (Heap.lt_size e) I.ok.above))).trans e1⟩
    · obtain ⟨o', e1⟩ := I.base.there b o e hx
      exact ⟨o', (hs.2 b (Nat.ne_of_lt (Nat.lt_of_lt_of_le (Heap.lt_size e) I.ok.above))).trans e1⟩
    · by_cases hj : j = i
      · subst hj
        rw [hi] at e1; cases e1
        rw [List.getElem?_set_self hiσ] at e2
        cases e2
        exact ⟨u, r, .inl ⟨hk, by simp⟩⟩
      · rw [List.getElem?_set_ne (Ne.symm hj)] at e2
        obtain ⟨u', r', q⟩ := hl j y v' e1 e2 e3
        refine ⟨u', r', ?_⟩
        rcases q with ⟨k, e⟩ | ⟨k, c, e, z⟩
        · refine .inl ⟨k, ?_⟩
          have : y ≠ x := fun e => hj (nodup_ix hN e1 (e ▸ hi))
          simp [this, e]
        · exact .inr ⟨k, c, e, z.sameBut hs (cne y c e)⟩
    · obtain ⟨w', z⟩ := I.cell y c e
      exact ⟨w', z.sameBut hs (cne y c e)⟩
    · obtain ⟨e, n, ne, nf, d⟩ := I.pin p hp
      exact ⟨(hs.2 p.1 ne).trans e, n, ne, nf, d⟩
  · have hfn : X.fn x = true := by
      rcases hf with z | z
      · exact z
      · rw [z] at hk; cases hk
    obtain ⟨c, hc⟩ := I.ok.has x (.inl hk)
    obtain ⟨w', z⟩ := I.cell x c hc
    refine wpAny_storeName_cell I.ok.kind hk hc z (fun h' hc' hs => ?_)
    obtain ⟨oc, hoc, hocd⟩ := id z
    refine h { s with heap := h' } ⟨I.ok, I.os, I.bare, ⟨fun b o e n hb hx => ?_, fun b o e n hb hx => ?_, I.base.free, fun b o e hx => ?_, I.base.tups, I.base.frzs, I.base.tbls⟩, ⟨m, hn.sameBut hs (Ne.symm (cne x c hc)), fun j y v' e1 e2 e3 => ?_⟩, fun y c' e => ?_, I.free, I.freeC, fun p hp => ?_, tracked ⟨oc, hoc, I.freeC x c hc⟩ hs, by simpa using I.len⟩ ⟨c, hs, .inr hc⟩
    · exact (hs.2 b (Nat.ne_of_lt (Nat.lt_of_lt_of_le (Heap.lt_size e) (I.ok.cab x c hfn hc)))).trans (I.base.keep b o e n hb hx)
    · obtain ⟨sl, e1⟩ := I.base.slot b o e n hb hx
      exact ⟨sl, (hs.2 b (Nat.ne_of_lt (Nat.lt_of_lt_of_le (Heap.lt_size e) (I.ok.cab x c hfn hc)))).trans e1⟩
    · obtain ⟨o', e1⟩ := I.base.there b o e hx
      exact ⟨o', (hs.2 b (Nat.ne_of_lt (Nat.lt_of_lt_of_le (Heap.lt_size e) (I.ok.cab x c hfn hc)))).trans e1⟩
    · by_cases hj : j = i
      · subst hj
        rw [hi] at e1; cases e1
        rw [List.getElem?_set_self hiσ] at e2
        cases e2
        exact ⟨u, r, .inr ⟨.inl hk, c, hc, hc'⟩⟩
      · rw [List.getElem?_set_ne (Ne.symm hj)] at e2
        obtain ⟨u', r', q⟩ := hl j y v' e1 e2 e3
        refine ⟨u', r', ?_⟩
        rcases q with q | ⟨k, c', e, z'⟩
        · exact .inl q
        · refine .inr ⟨k, c', e, z'.sameBut hs ?_⟩
          rintro rfl
          exact hj (nodup_ix hN e1 (I.ok.inj _ _ _ e hc ▸ hi))
    · by_cases hcc : c' = c
      · subst hcc; exact ⟨_, hc'⟩
      · obtain ⟨w2, z2⟩ := I.cell y c' e
        exact ⟨w2, z2.sameBut hs hcc⟩
    · obtain ⟨e, n, ne, nf, d⟩ := I.pin p hp
      refine ⟨(hs.2 p.1 ?_).trans e, n, ne, nf, d⟩
      intro q
      rw [q, hoc] at e
      have q' : oc = p.2 := Option.some.inj e
      exact d w' (by rw [← q']; exact hocd)
theorem store_ok {M : Model} {A : Around} {E : Value → Shared → Prop} {i : Nat} {x : Str} {v : V} {u : Value} {Q : Unit → Shared → Prop} (I : Inv X pins σ H s) (hN : X.N.Nodup) (hi : X.N[i]? = some x) (hx : Loc X.env.scope x) (r : RelV v u)
    (h : ∀ s', Inv X pins (σ.set i (some v)) H s' → Q () s') (hf : X.fn x = true ∨ X.env.scope.names.lookup x = some .local := by first | exact .inl rfl | exact .inr rfl | assumption) : wpAny M A (storeName X.env x u) Q E s :=
  store_ok2 I hN hi hx r (fun s' I' _ => h s' I') hf
/-- behind a call or a block, the state as it is -/
theorem Inv.call' {s' : Shared} {ch : List Addr} (I : Inv X pins σ H s) (ho : s'.os = s.os) (u : Un (frs X.stack) ch H H' s.heap s'.heap) (hok : HOk X.prog X.w H' s'.heap) (hg : AllBare s'.gens)
    (hch : ∀ b ∈ ch, (b ∈ X.ex ∨ X.s₀.heap.objs.size ≤ b) ∧ b ≠ X.env.locals ∧ (∀ x c, X.env.cells.lookup x = some c → c ≠ b) ∧ ∀ p ∈ X.pn ++ pins, p.1 ≠ b) : Inv X pins σ H' s' := by
  obtain ⟨h', g', d', t', o'⟩ := s'
  have e : o' = s.os := ho
  subst e
  exact I.call (g' := g') (t' := t') (d' := d') u hok hg hch
end

/-! ### the judgements -/
/-- an exception: its class, its own dict's address (where it has one), the abstract heap behind it -/
abbrev XK := Value → Option Addr → Hp → Prop
abbrev St := List (Option V)
abbrev VK := V → Hp → Prop
/-- an expression's reading; a test's; an argument list's -/
abbrev TE := St → Hp → VK → Prop
abbrev TT := St → Hp → (Bool → Hp → Prop) → Prop
abbrev TA := St → Hp → (List V → Hp → Prop) → Prop
/-- what is wanted behind a statement -/
structure Ends where
  nx : St → Hp → Prop
  rt : VK
  bk : St → Hp → Prop := fun _ _ => False
  ct : St → Hp → Prop := fun _ _ => False
abbrev TS := Ends → St → Hp → Prop

def EP (X : Cx) (pins : List (Addr × Obj)) (σ : St) (Q : VK) (u : Value) (s' : Shared) : Prop := ∃ v H', Inv X pins σ H' s' ∧ RelV v u ∧ Q v H'
def SP (X : Cx) (pins : List (Addr × Obj)) (D : Ends) (f : Flow) (s' : Shared) : Prop :=
  match f with
  | .next => ∃ σ' H', Inv X pins σ' H' s' ∧ D.nx σ' H'
  | .brk => ∃ σ' H', Inv X pins σ' H' s' ∧ D.bk σ' H'
  | .cont => ∃ σ' H', Inv X pins σ' H' s' ∧ D.ct σ' H'
  | .ret u => ∃ v σ' H', Inv X pins σ' H' s' ∧ RelV v u ∧ D.rt v H'

def PE (X : Cx) (e : Expr) (t : TE) : Prop :=
  ∀ (pins : List (Addr × Obj)) (s : Shared) (σ : St) (H : Hp) (Q : VK), Inv X pins σ H s → t σ H Q → wpAny (model X.prog X.w) X.A (eval e X.env) (EP X pins σ Q) X.xe s
def PSs (X : Cx) (st : List Stmt) (t : TS) : Prop :=
  ∀ (pins : List (Addr × Obj)) (s : Shared) (σ : St) (H : Hp) (D : Ends), Inv X pins σ H s → t D σ H → wpAny (model X.prog X.w) X.A (execs st X.env) (SP X pins D) X.xe s
/-- weaken the end -/
theorem thn {α : Type} {t : Sem α} {Q Q' : α → Shared → Prop} {M : Model} {A : Around} {E : Value → Shared → Prop} {s : Shared} (h : wpAny M A t Q E s) (hQ : ∀ a s, Q a s → Q' a s) : wpAny M A t Q' E s := wpAny_mono h hQ fun _ _ x => x
end L2

namespace L2
open PySem PySem.Spec PyProof.Rows
section
variable {X : Cx}

/-! ### names and constants -/
def tVar (i : Nat) : TE := fun σ H Q => ∃ v, σ[i]? = some (some v) ∧ Q v H
def tC (v : V) : TE := fun _ H Q => Q v H
theorem pe_var {i : Nat} {x : Str} {pos : Pos} (hN : X.N[i]? = some x) (hv : Vis X.env.scope x) (hd : (x == ("__debug__" : Str)) = false := by decide) (hcd : (x == ("__classdict__" : Str)) = false := by decide) : PE X (.Name x pos) (tVar i) := by
  intro pins s σ H Q I h
  obtain ⟨v, e, h⟩ := h
  obtain ⟨m, hn, hl⟩ := I.loc
  obtain ⟨u, r, l⟩ := hl i x v hN e hv
  have fin : EP X pins σ Q u s := ⟨v, H, I, r, h⟩
  rcases l with ⟨hk, hm⟩ | ⟨hk, c, hc, hcell⟩
  · exact wpAny_Name (wpAny_loadName_local I.ok.kind hk hn hm fin) hd
  · rcases hk with hk | hk
    · exact wpAny_Name (wpAny_loadName_cell I.ok.kind hk hc hcell fin) hd
    · exact wpAny_Name (wpAny_loadName_free I.ok.kind hk hc hcell fin hcd) hd
theorem pe_int {i j pos} : PE X (.Constant (.int i) j pos) (tC (.int i)) := fun _ _ _ H _ I h => wpAny_Constant_int ⟨.int i, H, I.tok _, ⟨_, rfl⟩, h⟩
theorem pe_bl {b j pos} : PE X (.Constant (.bool b) j pos) (tC (.bl b)) := fun _ _ _ H _ I h => Constant_bool ⟨.bl b, H, I, rfl, h⟩
theorem pe_str {x j pos} : PE X (.Constant (.str x) j pos) (tC (.str x)) := fun _ _ _ H _ I h => Calls.Constant_str ⟨.str x, H, I.tok _, ⟨_, rfl⟩, h⟩

/-- a global name of the def -/
def Gl (X : Cx) (x : Str) : Prop := X.env.kindOf x = some .globalImplicit
theorem ld_glob {E : Value → Shared → Prop} {pins : List (Addr × Obj)} {s : Shared} {σ : St} {H : Hp} {x : Str} {u : Value} {pos : Pos} {Q : Value → Shared → Prop} (I : Inv X pins σ H s) (hg : Gl X x) (hm : X.mg x = some u) (h : Q u s)
    (hd : (x == ("__debug__" : Str)) = false := by decide) : wpAny (model X.prog X.w) X.A (eval (.Name x pos) X.env) Q E s :=
  Calls.Name_function_global I.ok.kind hg (Calls.loadGlobal_global (by rw [I.ok.glob]; exact I.mod.glob.keeps I.bk) hm h) hd
theorem ld_blt {E : Value → Shared → Prop} {pins : List (Addr × Obj)} {s : Shared} {σ : St} {H : Hp} {x : Str} {u : Value} {pos : Pos} {Q : Value → Shared → Prop} (I : Inv X pins σ H s) (hg : Gl X x) (hm : X.mg x = none) (hv : bootBuiltins x = some u) (h : Q u s)
    (hn : x ≠ "__name__" := by decide) (hd : (x == ("__debug__" : Str)) = false := by decide) : wpAny (model X.prog X.w) X.A (eval (.Name x pos) X.env) Q E s := by
  obtain ⟨mb, h1, h2⟩ := I.mod.blt
  exact Calls.Name_function_global I.ok.kind hg (Calls.loadGlobal_builtin (by rw [I.ok.glob]; exact I.mod.glob.keeps I.bk) hm (by rw [I.ok.blt]; exact h1.keeps I.bk) ((h2 x hn).trans hv) h) hd
/-- a module's constant, a class, a function, as a value -/
theorem pe_glob {x : Str} {v : V} {u : Value} {pos : Pos} (hg : Gl X x) (hm : X.mg x = some u) (r : RelV v u) (hd : (x == ("__debug__" : Str)) = false := by decide) : PE X (.Name x pos) (tC v) :=
  fun _ _ _ H _ I h => ld_glob I hg hm ⟨v, H, I, r, h⟩ hd
theorem pe_bltn {x : Str} {v : V} {u : Value} {pos : Pos} (hg : Gl X x) (hm : X.mg x = none) (hv : bootBuiltins x = some u) (r : RelV v u) (hn : x ≠ "__name__" := by decide) (hd : (x == ("__debug__" : Str)) = false := by decide) : PE X (.Name x pos) (tC v) :=
  fun _ _ _ H _ I h => ld_blt I hg hm hv ⟨v, H, I, r, h⟩ hn hd

/-! ### arithmetic -/
variable {a b : Expr} {ta tb : TE} {pos : Pos}
/-! ### comparisons -/
/-- a comparison as a value, as a test -/
def tB (t : TE) : TT := fun σ H Q => t σ H fun x H1 => ∃ c, x = .bl c ∧ Q c H1
/-! ### and, or, not -/
variable {tA tB' : TT} {rest : List Expr}
end
end L2

namespace L2
open PySem PySem.Spec PyProof.Rows

/-! ### a list, a tuple that is read: tracked, frozen, or an object of the module -/
def SqL (K : PySem.W.Frag) (H : Hp) (a : Addr) (xs : List V) : Prop :=
  Rd H a (.lst xs) ∨
    ∃ (o : Obj) (its : Array Value) (n : Nat), K.lookup a = some o ∧ o.cls = .type "list" ∧ o.dict = none ∧ o.data = .seq its n ∧ its.size ≤ sizeLine ∧ Vals xs its.toList
def SqT (K : PySem.W.Frag) (H : Hp) (a : Addr) (xs : List V) : Prop :=
  Rd H a (.tup xs) ∨
    ∃ (o : Obj) (its : Array Value) (n : Nat), K.lookup a = some o ∧ o.cls = .type "tuple" ∧ o.data = .seq its n ∧ its.size ≤ sizeLine ∧ Vals xs its.toList
def absV : Value → Option V
  | .none => some .non
  | .bool b => some (.bl b)
  | .int i _ => some (.int i)
  | .str x _ => some (.str x)
  | .bytes b _ => some (.byt b)
  | .float b _ => some (.flt b)
  | .ref a => some (.ref a)
  | .type n => some (.ty n)
  | _ => none
theorem RelV.abs {x : V} {u : Value} (r : RelV x u) : absV u = some x := by
  cases x with
  | non => cases r; rfl
  | bl _ => cases r; rfl
  | int _ => obtain ⟨t, rfl⟩ := r; rfl
  | str _ => obtain ⟨t, rfl⟩ := r; rfl
  | byt _ => obtain ⟨t, rfl⟩ := r; rfl
  | flt _ => obtain ⟨t, rfl⟩ := r; rfl
  | ref _ => cases r; rfl
  | ty _ => cases r; rfl
theorem RelV.inj {x y : V} {u : Value} (r : RelV x u) (q : RelV y u) : x = y := Option.some.inj (r.abs.symm.trans q.abs)
theorem Vals.inj : ∀ {xs ys : List V} {us : List Value}, Vals xs us → Vals ys us → xs = ys
  | _, _, _, .nil, .nil => rfl
  | _, _, _, .cons r t, .cons r' t' => by rw [r.inj r', Vals.inj t t']
section
variable {X : Cx} {pins : List (Addr × Obj)} {σ : St} {H : Hp} {s : Shared} {a : Addr} {xs ys : List V}
theorem SqL.of {K : PySem.W.Frag} (h : H a = some (.lst xs)) : SqL K H a xs := .inl (.inl h)
theorem SqT.of {K : PySem.W.Frag} (h : H a = some (.tup xs)) : SqT K H a xs := .inl (.inl h)
theorem Inv.list (I : Inv X pins σ H s) (h : SqL X.K H a xs) : ∃ its : List Value, Vals xs its ∧ PlainL s.heap a its.toArray ∧ xs.length ≤ sizeLine := by
  rcases h with h | ⟨o, its, n, hk, hc, hd, hs, hz, r⟩
  · obtain ⟨z, its, n, r, e⟩ := h.ok I.hok
    exact ⟨its, r, ⟨_, n, e, rfl, rfl, rfl⟩, z⟩
  · refine ⟨its.toList, r, ⟨o, n, I.kIn a o hk, hc, hd, by simpa using hs⟩, ?_⟩
    have e := r.length
    simp only [Array.length_toList] at e
    omega
theorem Inv.tuple (I : Inv X pins σ H s) (h : SqT X.K H a xs) : ∃ its : List Value, Vals xs its ∧ IsTup s.heap a its.toArray ∧ xs.length ≤ sizeLine := by
  rcases h with h | ⟨o, its, n, hk, hc, hs, hz, r⟩
  · obtain ⟨z, its, r, p⟩ := h.ok I.hok
    exact ⟨its, r, p, z⟩
  · refine ⟨its.toList, r, ⟨o, I.kIn a o hk, hc, n, by simpa using hs⟩, ?_⟩
    have e := r.length
    simp only [Array.length_toList] at e
    omega
theorem Inv.list_inj (I : Inv X pins σ H s) (h : SqL X.K H a xs) (h' : SqL X.K H a ys) : xs = ys := by
  obtain ⟨its, r, ⟨o, n, e, _, _, d⟩, _⟩ := I.list h
  obtain ⟨its', r', ⟨o', n', e', _, _, d'⟩, _⟩ := I.list h'
  rw [e] at e'; cases e'
  rw [d] at d'
  injection d' with d1 _
  have : its = its' := by simpa using congrArg Array.toList d1
  subst this
  exact r.inj r'
theorem Inv.tuple_inj (I : Inv X pins σ H s) (h : SqT X.K H a xs) (h' : SqT X.K H a ys) : xs = ys := by
  obtain ⟨its, r, ⟨o, e, _, n, d⟩, _⟩ := I.tuple h
  obtain ⟨its', r', ⟨o', e', _, n', d'⟩, _⟩ := I.tuple h'
  rw [e] at e'; cases e'
  rw [d] at d'
  injection d' with d1 _
  have : its = its' := by simpa using congrArg Array.toList d1
  subst this
  exact r.inj r'
end

/-! ### another wish about exceptions -/
abbrev Cx.wish (X : Cx) (E : Value → Shared → Prop) : Cx := { X with xe := E }
/-- no exception leaves -/
abbrev Cx.nox (X : Cx) : Cx := X.wish fun _ _ => False
theorem Cx.Ok.wish {X : Cx} (ok : X.Ok) (E : Value → Shared → Prop) : (X.wish E).Ok :=
  ⟨ok.mod, ok.kind, ok.glob, ok.blt, ok.above, ok.inj, ok.has, ok.cab, ok.hd, ok.frames, ok.stk, ok.exf, ok.bs, ok.bsz, ok.noex, ok.exfs, ok.funs, ok.frf⟩
theorem Cx.Ok.unwish {X : Cx} {E : Value → Shared → Prop} (ok : (X.wish E).Ok) : X.Ok :=
  ⟨ok.mod, ok.kind, ok.glob, ok.blt, ok.above, ok.inj, ok.has, ok.cab, ok.hd, ok.frames, ok.stk, ok.exf, ok.bs, ok.bsz, ok.noex, ok.exfs, ok.funs, ok.frf⟩
section
variable {X : Cx} {pins : List (Addr × Obj)} {σ : St} {H : Hp} {s : Shared} {E : Value → Shared → Prop}
theorem Inv.wish (I : Inv X pins σ H s) (E : Value → Shared → Prop) : Inv (X.wish E) pins σ H s := ⟨I.ok.wish E, I.os, I.bare, I.base, I.loc, I.cell, I.free, I.freeC, I.pin, I.hok, I.len⟩
theorem Inv.unwish (I : Inv (X.wish E) pins σ H s) : Inv X pins σ H s := ⟨I.ok.unwish, I.os, I.bare, I.base, I.loc, I.cell, I.free, I.freeC, I.pin, I.hok, I.len⟩
theorem SP.unwish {D : Ends} {f : Flow} {s' : Shared} (h : SP (X.wish E) pins D f s') : SP X pins D f s' := by
  cases f with
  | next => obtain ⟨σ', H', I, q⟩ := h; exact ⟨σ', H', I.unwish, q⟩
  | brk => obtain ⟨σ', H', I, q⟩ := h; exact ⟨σ', H', I.unwish, q⟩
  | cont => obtain ⟨σ', H', I, q⟩ := h; exact ⟨σ', H', I.unwish, q⟩
  | ret u => obtain ⟨v, σ', H', I, r, q⟩ := h; exact ⟨v, σ', H', I.unwish, r, q⟩
theorem PSs.nox {st : List Stmt} {t : TS} (h : PSs X.nox st t) : PSs X st t := fun pins s σ H D I hw =>
  wpAny_mono (h pins s σ H D (I.wish _) hw) (fun _ _ q => q.unwish) fun _ _ z => False.elim z
end

/-! ### blocks and small statements -/
section
variable {X : Cx} {st : Stmt} {rest : List Stmt} {t u : TS} {e : Expr} {te : TE} {pos : Pos}
/-- in a def's body nothing is shown -/
theorem Inv.quiet {pins : List (Addr × Obj)} {σ : St} {H : Hp} {s : Shared} (I : Inv X pins σ H s) : interactive X.env = false := by simp [interactive, I.ok.kind]
end

/-! ### targets -/
section
variable {X : Cx} {pos : Pos}
end

/-! ### while -/
section
variable {X : Cx} {pos : Pos}
end

/-! ### what a loop or a comprehension walks -/
/-- at turn i: it yields x (the heap may grow), or it stops -/
structure It where
  go : Nat → Hp → Prop
  yld : Nat → Hp → V → Hp → Prop
  stop : Nat → Hp → Prop
/-- the iterator's own objects may turn: they are not the frame's, not pinned, younger than the entry (or a comprehension's own) -/
def FpOk (X : Cx) (pins : List (Addr × Obj)) (H : Hp) (b : Addr) : Prop :=
  H b = none ∧ b ≠ X.env.locals ∧ b ∉ X.fs ∧ (b ∈ X.ex ∨ X.s₀.heap.objs.size ≤ b) ∧ (∀ x c, X.env.cells.lookup x = some c → c ≠ b) ∧ ∀ p ∈ X.pn ++ pins, p.1 ≠ b
theorem Inv.fpOk {X : Cx} {pins : List (Addr × Obj)} {σ : St} {H H' : Hp} {s : Shared} {b : Addr} (I : Inv X pins σ H s) (hb : s.heap.objs.size ≤ b) (hn : H' b = none) : FpOk X pins H' b := by
  refine ⟨hn, Nat.ne_of_gt (Nat.lt_of_lt_of_le I.lt hb), I.nofs hb, .inr (Nat.le_trans I.sz hb), fun x c e z => ?_, fun p hp z => ?_⟩
  · obtain ⟨v, q⟩ := I.cell x c e
    exact absurd (Nat.lt_of_lt_of_le q.lt (by rw [z]; exact hb)) (Nat.lt_irrefl _)
  · exact absurd (Nat.lt_of_lt_of_le (Heap.lt_size (I.pin p hp).1) (by rw [z]; exact hb)) (Nat.lt_irrefl _)
structure Turn (P : Program) (w : World) (K : PySem.W.Frag) (tg : Expr) (J : It) (fp : List Addr) (it : Addr) (tn : Nat → Heap → Prop) : Prop where
  mem : it ∈ fp
  obj : ∀ i h, tn i h → ∀ b ∈ fp, ∃ o, h.get? b = some o ∧ ∀ v, o.data ≠ .cell v
  keep : ∀ i h h', tn i h → (∀ b ∈ fp, ∀ o, h.get? b = some o → h'.get? b = some o) → tn i h'
  item : ∀ (X : Cx), X.prog = P → X.w = w → X.K = K → X.calm = true → ∀ (i : Nat) (pins : List (Addr × Obj)) (s : Shared) (σ : St) (H : Hp) (E : Value → Shared → Prop), Inv X pins σ H s → (∀ b ∈ fp, FpOk X pins H b) → tn i s.heap → J.go i H →
    wpAny (model P w) X.A (pyNext (.ref it)) (fun r s1 => ∃ u, r = some u ∧
      wpAny (model P w) X.A (letOwnedTupleGo tg (.ref it) u) (fun _ s2 => ∃ x H', Inv X pins σ H' s2 ∧ RelV x u ∧ J.yld i H x H' ∧ tn (i + 1) s2.heap ∧ ∀ b ∈ fp, H' b = none) E s1) E s
  done : ∀ (X : Cx), X.prog = P → X.w = w → X.K = K → X.calm = true → ∀ (i : Nat) (pins : List (Addr × Obj)) (s : Shared) (σ : St) (H : Hp) (E : Value → Shared → Prop), Inv X pins σ H s → (∀ b ∈ fp, FpOk X pins H b) → tn i s.heap → J.stop i H →
    wpAny (model P w) X.A (pyNext (.ref it)) (fun r s1 => r = none ∧ Inv X pins σ H s1) E s
  self : ∀ (A : Around) (i : Nat) (s : Shared) (Q : Value → Shared → Prop) (E : Value → Shared → Prop), tn i s.heap → Q (.ref it) s → wpAny (model P w) A (pyIter (.ref it)) Q E s
/-- the step ahead of the store is nothing for an iterator that keeps no tuple -/
theorem go_of {M : Model} {A : Around} {E : Value → Shared → Prop} {s : Shared} {tg : Expr} {it : Addr} {u : Value} {o : Obj} {n : String} {vs : Array Value} {Q : Unit → Shared → Prop} (ho : s.heap.get? it = some o) (hc : o.cls = .type n) (hd : o.data = .fields vs)
    (hn : ["enumerate", "zip", "dict_itemiterator", "dict_reverseitemiterator", "odict_iterator", "itertools.zip_longest", "itertools.pairwise"].contains n = false) (hQ : Q () s) : wpAny M A (letOwnedTupleGo tg (.ref it) u) Q E s := by
  unfold letOwnedTupleGo
  cases tg <;> first
    | exact wpAny_pure hQ
    | (cases u <;> first
        | exact wpAny_pure hQ
        | (refine wpAny_bind (wpAny_load ho ?_)
           rw [hc, hd]
           show wpAny M A (if (["enumerate", "zip", "dict_itemiterator", "dict_reverseitemiterator", "odict_iterator", "itertools.zip_longest", "itertools.pairwise"].contains n && vs[0]? == some (rawInt _)) = true then _ else _) Q E s
           rw [if_neg (by intro h; rw [hn, Bool.false_and] at h; cases h)]
           exact wpAny_pure hQ))

/-- the list at a, as it stands at each turn (a loop may append to it) -/
def Itl (K : PySem.W.Frag) (a : Addr) : It :=
  ⟨fun i H => ∃ xs x, SqL K H a xs ∧ xs[i]? = some x, fun i H x H' => H' = H ∧ ∀ xs, SqL K H a xs → xs[i]? = some x, fun i H => ∃ xs, SqL K H a xs ∧ xs.length ≤ i⟩
def Itt (K : PySem.W.Frag) (a : Addr) : It :=
  ⟨fun i H => ∃ xs x, SqT K H a xs ∧ xs[i]? = some x, fun i H x H' => H' = H ∧ ∀ xs, SqT K H a xs → xs[i]? = some x, fun i H => ∃ xs, SqT K H a xs ∧ xs.length ≤ i⟩
theorem turn_list {P : Program} {w : World} {K : PySem.W.Frag} {tg : Expr} (a it : Addr) : Turn P w K tg (Itl K a) [it] it (fun i h => h.IsListIter it a i) where
  mem := by simp
  obj := fun i h st b hb => by
    have e : b = it := by simpa using hb
    subst e
    obtain ⟨o, e, c, d⟩ := st
    exact ⟨o, e, fun v z => by rw [d] at z; cases z⟩
  keep := fun i h h' st k => st.at fun o e => k it (by simp) o e
  item := by
    intro X hP hw hK hc i pins s σ H E I hf st hg
    subst hP hw hK
    obtain ⟨xs, x, hq, hx⟩ := hg
    obtain ⟨its, rv, p, hz⟩ := I.list hq
    obtain ⟨u, hu, ru⟩ := rv.get hx
    obtain ⟨f0, f1, f2, f3, f4, f5⟩ := hf it (by simp)
    refine wpAny_pyNext_list_item st p.isList (x := u) (by simpa using hu) fun h' st' sb => ?_
    have I1 : Inv X pins σ H { s with heap := h' } := I.turned (t' := s.toks) (fun b o hb e => (sb.2 b hb).trans e) f0 f1 f3 f4 f5
    obtain ⟨o, e, c, d⟩ := id st'
    exact ⟨u, rfl, go_of (s := { s with heap := h' }) e c d (by decide) ⟨x, H, I1, ru, ⟨rfl, fun ys hy => by rw [I.list_inj hy hq]; exact hx⟩, st', fun b hb => (hf b hb).1⟩⟩
  done := by
    intro X hP hw hK hc i pins s σ H E I hf st hg
    subst hP hw hK
    obtain ⟨xs, hq, hx⟩ := hg
    obtain ⟨its, rv, p, hz⟩ := I.list hq
    obtain ⟨f0, f1, f2, f3, f4, f5⟩ := hf it (by simp)
    have hl := rv.length
    exact wpAny_pyNext_list_end (I.ok.hd hc) st p.isList (by simp; omega) fun h' eb => ⟨rfl, I.turned (t' := s.toks) (fun b o hb e => eb b o hb e) f0 f1 f3 f4 f5⟩
  self := fun _ _ _ _ _ st h => wpAny_pyIter_listiter st h
theorem turn_tuple {P : Program} {w : World} {K : PySem.W.Frag} {tg : Expr} (a it : Addr) : Turn P w K tg (Itt K a) [it] it (fun i h => h.IsTupleIter it a i) where
  mem := by simp
  obj := fun i h st b hb => by
    have e : b = it := by simpa using hb
    subst e
    obtain ⟨o, e, c, d⟩ := st
    exact ⟨o, e, fun v z => by rw [d] at z; cases z⟩
  keep := fun i h h' st k => st.at fun o e => k it (by simp) o e
  item := by
    intro X hP hw hK hc i pins s σ H E I hf st hg
    subst hP hw hK
    obtain ⟨xs, x, hq, hx⟩ := hg
    obtain ⟨its, rv, p, hz⟩ := I.tuple hq
    obtain ⟨u, hu, ru⟩ := rv.get hx
    obtain ⟨f0, f1, f2, f3, f4, f5⟩ := hf it (by simp)
    refine wpAny_pyNext_tuple_item st (show s.heap.IsTuple a its.toArray from p) (x := u) (by simpa using hu) fun h' st' sb => ?_
    have I1 : Inv X pins σ H { s with heap := h' } := I.turned (t' := s.toks) (fun b o hb e => (sb.2 b hb).trans e) f0 f1 f3 f4 f5
    obtain ⟨o, e, c, d⟩ := id st'
    exact ⟨u, rfl, go_of (s := { s with heap := h' }) e c d (by decide) ⟨x, H, I1, ru, ⟨rfl, fun ys hy => by rw [I.tuple_inj hy hq]; exact hx⟩, st', fun b hb => (hf b hb).1⟩⟩
  done := by
    intro X hP hw hK hc i pins s σ H E I hf st hg
    subst hP hw hK
    obtain ⟨xs, hq, hx⟩ := hg
    obtain ⟨its, rv, p, hz⟩ := I.tuple hq
    obtain ⟨f0, f1, f2, f3, f4, f5⟩ := hf it (by simp)
    have hl := rv.length
    exact wpAny_pyNext_tuple_end (I.ok.hd hc) st (show s.heap.IsTuple a its.toArray from p) (by simp; omega) fun h' eb => ⟨rfl, I.turned (t' := s.toks) (fun b o hb e => eb b o hb e) f0 f1 f3 f4 f5⟩
  self := fun _ _ _ _ _ st h => wpAny_pyIter_tupleiter st h
end L2

namespace L2
open PySem PySem.Spec PyProof.Rows
section
variable {X : Cx} {tg : Expr}
/-! ### for -/
/-- the records at fp as they stand -/
def pinsAt (fp : List Addr) (h : Heap) : List (Addr × Obj) := fp.filterMap fun b => (h.get? b).map fun o => (b, o)
theorem mem_pinsAt {fp : List Addr} {h : Heap} {b : Addr} {o : Obj} (hb : b ∈ fp) (e : h.get? b = some o) : (b, o) ∈ pinsAt fp h := List.mem_filterMap.mpr ⟨b, hb, by rw [e]; rfl⟩
theorem of_pinsAt {fp : List Addr} {h : Heap} {p : Addr × Obj} (hp : p ∈ pinsAt fp h) : p.1 ∈ fp ∧ h.get? p.1 = some p.2 := by
  obtain ⟨b, hb, e⟩ := List.mem_filterMap.mp hp
  cases q : h.get? b with
  | none => rw [q] at e; cases e
  | some o =>
    rw [q] at e
    have e' : (b, o) = p := Option.some.inj e
    subst e'
    exact ⟨hb, q⟩
theorem Inv.pinned {pins : List (Addr × Obj)} {σ : St} {H : Hp} {s : Shared} {fp : List Addr} (I : Inv X pins σ H s) (hf : ∀ b ∈ fp, FpOk X pins H b) (ho : ∀ b ∈ fp, ∃ o, s.heap.get? b = some o ∧ ∀ v, o.data ≠ .cell v) : Inv X (pins ++ pinsAt fp s.heap) σ H s :=
  I.pins_of fun p hp => (List.mem_append.mp hp).elim (fun z => I.pin p (List.mem_append_right _ z)) fun z => by
    obtain ⟨hb, e⟩ := of_pinsAt z
    obtain ⟨f0, f1, f2, _⟩ := hf p.1 hb
    obtain ⟨o, e', d⟩ := ho p.1 hb
    rw [e] at e'; cases e'
    exact ⟨e, f0, f1, f2, d⟩
theorem Inv.unpinned {pins pl : List (Addr × Obj)} {σ : St} {H : Hp} {s : Shared} (I : Inv X (pins ++ pl) σ H s) : Inv X pins σ H s := I.pins_of fun p hp => I.pin p (List.mem_append_right _ (List.mem_append_left _ hp))
end

/-! ### the forms one uses -/
end L2

namespace L2
open PySem PySem.Spec PyProof.Rows

abbrev R2 := V → V → Hp → VK → Prop
/-- a two-place operation on values: f is binaryOp op, inplaceOp op or compareOp op -/
def OpR (X : Cx) (f : Value → Value → Sem Value) (r : R2) : Prop :=
  ∀ (pins : List (Addr × Obj)) (s : Shared) (σ : St) (H : Hp) (x y : V) (v u : Value) (Q : VK), Inv X pins σ H s → RelV x v → RelV y u → r x y H Q →
    wpAny (model X.prog X.w) X.A (f v u) (EP X pins σ Q) X.xe s
/-- a one-place operation -/
def UnR (X : Cx) (f : Value → Sem Value) (r : V → Hp → VK → Prop) : Prop :=
  ∀ (pins : List (Addr × Obj)) (s : Shared) (σ : St) (H : Hp) (x : V) (v : Value) (Q : VK), Inv X pins σ H s → RelV x v → r x H Q →
    wpAny (model X.prog X.w) X.A (f v) (EP X pins σ Q) X.xe s
/-- a call of a value that is known (a builtin, a type) with values -/
def CallR (X : Cx) (f : Value) (r : List V → Hp → VK → Prop) : Prop :=
  ∀ (pins : List (Addr × Obj)) (s : Shared) (σ : St) (H : Hp) (xs : List V) (us : List Value) (Q : VK), Inv X pins σ H s → Vals xs us → r xs H Q →
    wpAny (model X.prog X.w) X.A (call f us) (EP X pins σ Q) X.xe s
/-- ints in, under C, and a value out -/
def rI (C : Int → Int → Prop) (g : Int → Int → V) : R2 := fun x y H Q => ∃ i j, x = .int i ∧ y = .int j ∧ C i j ∧ Q (g i j) H
def rI0 (g : Int → Int → V) : R2 := fun x y H Q => ∃ i j, x = .int i ∧ y = .int j ∧ Q (g i j) H
def rU (g : Int → V) : V → Hp → VK → Prop := fun x H Q => ∃ i, x = .int i ∧ Q (g i) H

section
variable {X : Cx} {a b c : Expr} {ta tb tc : TE} {pos : Pos}

/-! ### ints -/
theorem opI {f : Value → Value → Sem Value} {C : Int → Int → Prop} {g : Int → Int → Int}
    (rule : ∀ (i j : Int) (t u : Tok) (s : Shared) (Q : Value → Shared → Prop) (E : Value → Shared → Prop), C i j → Q (.int (g i j) s.toks) { s with toks := s.toks + 1 } → wpAny (model X.prog X.w) X.A (f (.int i t) (.int j u)) Q E s) :
    OpR X f (rI C fun i j => .int (g i j)) := by
  intro pins s σ H x y v u Q I rx ry h
  obtain ⟨i, j, rfl, rfl, hc, q⟩ := h
  obtain ⟨t, rfl⟩ := rx
  obtain ⟨t', rfl⟩ := ry
  exact rule i j t t' s _ _ hc ⟨.int (g i j), H, I.tok _, ⟨_, rfl⟩, q⟩
theorem opI0 {f : Value → Value → Sem Value} {g : Int → Int → Int}
    (rule : ∀ (i j : Int) (t u : Tok) (s : Shared) (Q : Value → Shared → Prop) (E : Value → Shared → Prop), Q (.int (g i j) s.toks) { s with toks := s.toks + 1 } → wpAny (model X.prog X.w) X.A (f (.int i t) (.int j u)) Q E s) :
    OpR X f (rI0 fun i j => .int (g i j)) := by
  intro pins s σ H x y v u Q I rx ry h
  obtain ⟨i, j, rfl, rfl, q⟩ := h
  obtain ⟨t, rfl⟩ := rx
  obtain ⟨t', rfl⟩ := ry
  exact rule i j t t' s _ _ ⟨.int (g i j), H, I.tok _, ⟨_, rfl⟩, q⟩
theorem opB0 {f : Value → Value → Sem Value} {g : Int → Int → Bool}
    (rule : ∀ (i j : Int) (t u : Tok) (s : Shared) (Q : Value → Shared → Prop) (E : Value → Shared → Prop), Q (.bool (g i j)) s → wpAny (model X.prog X.w) X.A (f (.int i t) (.int j u)) Q E s) :
    OpR X f (rI0 fun i j => .bl (g i j)) := by
  intro pins s σ H x y v u Q I rx ry h
  obtain ⟨i, j, rfl, rfl, q⟩ := h
  obtain ⟨t, rfl⟩ := rx
  obtain ⟨t', rfl⟩ := ry
  exact rule i j t t' s _ _ ⟨.bl (g i j), H, I, rfl, q⟩

theorem op_add : OpR X (binaryOp .Add) (rI0 fun i j => .int (i + j)) := opI0 fun _ _ _ _ _ _ _ q => add_int q
theorem op_sub : OpR X (binaryOp .Sub) (rI0 fun i j => .int (i - j)) := opI0 fun _ _ _ _ _ _ _ q => sub_int q
/-- % by a positive divisor of any size -/
theorem op_mod : OpR X (binaryOp .Mod) (rI (fun _ j => 0 < j) fun i j => .int (i % j)) := opI fun i j _ _ _ _ _ hc q => by
  have h1 : (0 : Int) < j := hc
  exact mod_int' (by omega) (by rw [Int.fmod_eq_emod_of_nonneg i (by omega)]; exact q)
theorem unI {f : Value → Sem Value} {g : Int → Int}
    (rule : ∀ (i : Int) (t : Tok) (s : Shared) (Q : Value → Shared → Prop) (E : Value → Shared → Prop), Q (.int (g i) s.toks) { s with toks := s.toks + 1 } → wpAny (model X.prog X.w) X.A (f (.int i t)) Q E s) :
    UnR X f (rU fun i => .int (g i)) := by
  intro pins s σ H x v Q I rx h
  obtain ⟨i, rfl, q⟩ := h
  obtain ⟨t, rfl⟩ := rx
  exact rule i t s _ _ ⟨.int (g i), H, I.tok _, ⟨_, rfl⟩, q⟩
theorem un_neg : UnR X (unaryOp .USub) (rU fun i => .int (-i)) := unI fun _ _ _ _ _ q => neg_int q
/-! ### bools among ints: n += (a < b) -/
end

/-! ### comparisons -/
/-- the scalars that == tells apart as data does -/
def scal : V → V → Bool
  | .non, .non => true | .non, .int _ => true | .int _, .non => true | .non, .bl _ => true | .bl _, .non => true | .non, .str _ => true | .str _, .non => true
  | .int _, .int _ => true | .bl _, .bl _ => true | .str _, .str _ => true | .byt _, .byt _ => true
  | .int _, .str _ => true | .str _, .int _ => true | .bl _, .str _ => true | .str _, .bl _ => true
  | _, _ => false
def rEq : R2 := fun x y H Q => scal x y = true ∧ Q (.bl (decide (x = y))) H
def rNe : R2 := fun x y H Q => scal x y = true ∧ Q (.bl (!decide (x = y))) H

theorem dec_int {i j : Int} : decide (V.int i = V.int j) = (i == j) := by
  rw [Bool.eq_iff_iff]
  simp
theorem dec_bl {i j : Bool} : decide (V.bl i = V.bl j) = (i == j) := by
  rw [Bool.eq_iff_iff]
  simp
theorem dec_str {i j : Str} : decide (V.str i = V.str j) = (i == j) := by
  rw [Bool.eq_iff_iff]
  simp
theorem dec_byt {i j : Array UInt8} : decide (V.byt i = V.byt j) = (i.toList == j.toList) := by
  rw [Bool.eq_iff_iff]
  cases i
  cases j
  simp

section
variable {X : Cx} {a b c : Expr} {ta tb tc : TE} {pos : Pos}
theorem fin_bl {pins : List (Addr × Obj)} {σ : St} {H : Hp} {s : Shared} {Q : VK} {k k' : Bool} (I : Inv X pins σ H s) (q : Q (.bl k) H) (e : k = k') : EP X pins σ Q (.bool k') s := by
  subst e
  exact ⟨.bl k, H, I, rfl, q⟩
theorem op_eq : OpR X (compareOp .Eq) rEq := by
  intro pins s σ H x y v u Q I rx ry h
  obtain ⟨hs, q⟩ := h
  cases x with
  | non =>
    cases rx
    cases y with
    | non => cases ry; exact PySem.EqNone.eq_none_none (fin_bl I q (by simp))
    | bl j => cases ry; exact PySem.EqNone.eq_none_bool (fin_bl I q (by simp))
    | int j => obtain ⟨t', rfl⟩ := ry; exact PySem.EqNone.eq_none_int (fin_bl I q (by simp))
    | str j => obtain ⟨t', rfl⟩ := ry; exact PySem.EqNone.eq_none_str (fin_bl I q (by simp))
    | _ => exact absurd (show false = true from hs) Bool.false_ne_true
  | bl i =>
    cases rx
    cases y with
    | non => cases ry; exact PySem.EqNone.eq_bool_none (fin_bl I q (by simp))
    | bl j => cases ry; exact eq_bool (fin_bl I q dec_bl)
    | str j => obtain ⟨t', rfl⟩ := ry; exact PySem.EqMixed.eq_bool_str (fin_bl I q (by simp))
    | _ => exact absurd (show false = true from hs) Bool.false_ne_true
  | int i =>
    obtain ⟨t, rfl⟩ := rx
    cases y with
    | non => cases ry; exact PySem.EqNone.eq_int_none (fin_bl I q (by simp))
    | int j => obtain ⟨t', rfl⟩ := ry; exact eq_int (fin_bl I q dec_int)
    | str j => obtain ⟨t', rfl⟩ := ry; exact PySem.EqMixed.eq_int_str (fin_bl I q (by simp))
    | _ => exact absurd (show false = true from hs) Bool.false_ne_true
  | str i =>
    obtain ⟨t, rfl⟩ := rx
    cases y with
    | non => cases ry; exact PySem.EqNone.eq_str_none (fin_bl I q (by simp))
    | bl j => cases ry; exact PySem.EqMixed.eq_str_bool (fin_bl I q (by simp))
    | int j => obtain ⟨t', rfl⟩ := ry; exact PySem.EqMixed.eq_str_int (fin_bl I q (by simp))
    | str j => obtain ⟨t', rfl⟩ := ry; exact eq_str (fin_bl I q dec_str)
    | _ => exact absurd (show false = true from hs) Bool.false_ne_true
  | byt i =>
    obtain ⟨t, rfl⟩ := rx
    cases y with
    | byt j => obtain ⟨t', rfl⟩ := ry; exact PySem.W.eq_bytes (fin_bl I q dec_byt)
    | _ => exact absurd (show false = true from hs) Bool.false_ne_true
  | _ => cases y <;> exact absurd (show false = true from hs) Bool.false_ne_true
theorem op_ne : OpR X (compareOp .NotEq) rNe := by
  intro pins s σ H x y v u Q I rx ry h
  obtain ⟨hs, q⟩ := h
  cases x with
  | non =>
    cases rx
    cases y with
    | non => cases ry; exact PySem.EqNone.ne_none_none (fin_bl I q (by simp))
    | bl j => cases ry; exact PySem.EqNone.ne_none_bool (fin_bl I q (by simp))
    | int j => obtain ⟨t', rfl⟩ := ry; exact PySem.EqNone.ne_none_int (fin_bl I q (by simp))
    | str j => obtain ⟨t', rfl⟩ := ry; exact PySem.EqNone.ne_none_str (fin_bl I q (by simp))
    | _ => exact absurd (show false = true from hs) Bool.false_ne_true
  | bl i =>
    cases rx
    cases y with
    | non => cases ry; exact PySem.EqNone.ne_bool_none (fin_bl I q (by simp))
    | bl j => cases ry; exact ne_bool (fin_bl I q (congrArg not dec_bl))
    | str j => obtain ⟨t', rfl⟩ := ry; exact PySem.EqMixed.ne_bool_str (fin_bl I q (by simp))
    | _ => exact absurd (show false = true from hs) Bool.false_ne_true
  | int i =>
    obtain ⟨t, rfl⟩ := rx
    cases y with
    | non => cases ry; exact PySem.EqNone.ne_int_none (fin_bl I q (by simp))
    | int j => obtain ⟨t', rfl⟩ := ry; exact ne_int (fin_bl I q (congrArg not dec_int))
    | str j => obtain ⟨t', rfl⟩ := ry; exact PySem.EqMixed.ne_int_str (fin_bl I q (by simp))
    | _ => exact absurd (show false = true from hs) Bool.false_ne_true
  | str i =>
    obtain ⟨t, rfl⟩ := rx
    cases y with
    | non => cases ry; exact PySem.EqNone.ne_str_none (fin_bl I q (by simp))
    | bl j => cases ry; exact PySem.EqMixed.ne_str_bool (fin_bl I q (by simp))
    | int j => obtain ⟨t', rfl⟩ := ry; exact PySem.EqMixed.ne_str_int (fin_bl I q (by simp))
    | str j => obtain ⟨t', rfl⟩ := ry; exact ne_str (fin_bl I q (congrArg not dec_str))
    | _ => exact absurd (show false = true from hs) Bool.false_ne_true
  | byt i =>
    obtain ⟨t, rfl⟩ := rx
    cases y with
    | byt j => obtain ⟨t', rfl⟩ := ry; exact PySem.W.ne_bytes (fin_bl I q (congrArg not dec_byt))
    | _ => exact absurd (show false = true from hs) Bool.false_ne_true
  | _ => cases y <;> exact absurd (show false = true from hs) Bool.false_ne_true

theorem op_lt : OpR X (compareOp .Lt) (rI0 fun i j => .bl (decide (i < j))) := opB0 fun _ _ _ _ _ _ _ q => lt_int q
theorem op_le : OpR X (compareOp .LtE) (rI0 fun i j => .bl (decide (i ≤ j))) := opB0 fun _ _ _ _ _ _ _ q => le_int q
theorem op_gt : OpR X (compareOp .Gt) (rI0 fun i j => .bl (decide (j < i))) := opB0 fun _ _ _ _ _ _ _ q => gt_int q
theorem op_ge : OpR X (compareOp .GtE) (rI0 fun i j => .bl (decide (j ≤ i))) := opB0 fun _ _ _ _ _ _ _ q => ge_int q
/-- two rules for one operation: by cases -/
theorem OpR.or {f : Value → Value → Sem Value} {r r' : R2} (h : OpR X f r) (h' : OpR X f r') : OpR X f (fun x y H Q => r x y H Q ∨ r' x y H Q) := by
  intro pins s σ H x y v u Q I rx ry q
  rcases q with q | q
  · exact h pins s σ H x y v u Q I rx ry q
  · exact h' pins s σ H x y v u Q I rx ry q

theorem nomark (b : Expr) {op : CmpOp} (h : op ≠ .In := by decide) (h2 : op ≠ .NotIn := by decide) : behindInMarks op b = false := by
  have e1 : (op == CmpOp.In) = false := by cases op <;> first | rfl | exact absurd rfl h
  have e2 : (op == CmpOp.NotIn) = false := by cases op <;> first | rfl | exact absurd rfl h2
  cases b <;> simp [behindInMarks, e1, e2]
/-! ### truth -/
theorem line63 : (sizeLine : Nat) < 2 ^ 63 := by rw [sizeLine_eq]; decide
/-! ### strs and bytes -/
theorem op_add_str : OpR X (binaryOp .Add) (fun x y H Q => ∃ i j, x = .str i ∧ y = .str j ∧ i.length + j.length ≤ sizeLine ∧ Q (.str (i ++ j)) H) := by
  intro pins s σ H x y v u Q I rx ry h
  obtain ⟨i, j, rfl, rfl, hz, q⟩ := h
  obtain ⟨t, rfl⟩ := rx
  obtain ⟨t', rfl⟩ := ry
  exact add_str (fun t' tk => ⟨.str (i ++ j), H, I.tok _, ⟨_, rfl⟩, q⟩) hz
/-! ### scalar builtins, by CallR -/
theorem vals1 {x : V} {us : List Value} (r : Vals [x] us) : ∃ u, us = [u] ∧ RelV x u := by
  cases r with
  | cons r1 r2 => cases r2; exact ⟨_, rfl, r1⟩
theorem call_abs : CallR X (.builtin "abs") (fun xs H Q => ∃ i, xs = [.int i] ∧ Q (.int (if i < 0 then -i else i)) H) := by
  intro pins s σ H xs us Q I r h
  obtain ⟨i, rfl, q⟩ := h
  obtain ⟨u, rfl, t, rfl⟩ := vals1 r
  exact call_abs_int fun u tk => ⟨.int (if i < 0 then -i else i), H, I.tok _, ⟨_, rfl⟩, q⟩
theorem call_int1 : CallR X (.type "int") (fun xs H Q => (∃ i, xs = [.int i] ∧ Q (.int i) H) ∨ ∃ k, xs = [.bl k] ∧ Q (.int (if k then 1 else 0)) H) := by
  intro pins s σ H xs us Q I r h
  rcases h with ⟨i, rfl, q⟩ | ⟨k, rfl, q⟩
  · obtain ⟨u, rfl, t, rfl⟩ := vals1 r
    exact call_int_int ⟨.int i, H, I, ⟨_, rfl⟩, q⟩
  · obtain ⟨u, rfl, r1⟩ := vals1 r
    cases r1
    exact call_int_bool ⟨.int (if k then 1 else 0), H, I.tok _, ⟨_, rfl⟩, q⟩
end
end L2

namespace L2
open PySem PySem.Spec PyProof.Rows

/-! ### an instance, its attributes a map -/
section
variable {prog : Program} {w : World} {A : Around} {E : Value → Shared → Prop} {s : Shared} {K : PySem.W.Frag} {x dx C f : Addr} {mA : Str → Option Value} {name : Str} {v : Value}

end

/-! ### the attributes as a list of pairs -/
section
variable {P : Program} {w : World} {H H' : Hp} {h h' : Heap} {a C dx : Addr} {fs fs' : List (Str × V)}
end

/-! ### what of the text a class must have -/
section
variable {X : Cx} {pins : List (Addr × Obj)} {σ : St} {H : Hp} {s : Shared} {a C dx : Addr} {fs : List (Str × V)} {f : Str} {v : V} {A : Around} {E : Value → Shared → Prop}

end

/-! ### readings and rules -/
section
variable {X : Cx} {o e value : Expr} {f : Str} {pos pos' tpos : Pos} {ta tv : TE}
end

/-! ### isinstance -/
section
variable {X : Cx} {pins : List (Addr × Obj)} {σ : St} {H : Hp} {s : Shared} {A : Around} {E : Value → Shared → Prop} {Q : Value → Shared → Prop} {c : Value} {b : Bool}
end
end L2

namespace L2
open PySem PySem.Spec PyProof.Rows

/-! ### room -/
structure Room (k : Nat) (A : Around) : Prop where
  hd : A.handled = none
  dp : A.depth + 3 * k + 5 < recursionLimit
  un : A.units + 16 * k + 200 < cLine
theorem Room.mono {j k : Nat} {A : Around} (r : Room k A) (h : j ≤ k) : Room j A := ⟨r.hd, by have := r.dp; omega, by have := r.un; omega⟩
theorem Room.deeper {k : Nat} {A : Around} (r : Room (k + 1) A) (env : Env) : Room k (A.deeper env) :=
  ⟨r.hd, by have := r.dp; show A.depth + 1 + 3 * k + 5 < _; omega, by have := r.un; show A.units + 3 + 16 * k + 200 < _; omega⟩
theorem Room.depth {k : Nat} {A : Around} (r : Room k A) : A.depth < recursionLimit := by have := r.dp; omega
theorem Room.units {k : Nat} {A : Around} (r : Room k A) : A.units + 64 < cLine := by have := r.un; omega
/-! ### argument lists and displays -/
section
variable {X : Cx} {e : Expr} {es : List Expr} {te : TE} {t : TA} {pos : Pos}
end

/-! ### what a def promises -/
/-- a def's promise: the bound arguments in the parameters' order, the heap, the wanted end, the wanted exception -/
abbrev Sp := List V → Hp → VK → XK → Prop
/-- how an exception lies behind a call (file 08 gives it): the callers' frames, abstract heap and state ahead of the call, the wish, the exception, the state -/
abbrev CXT := List Env → Hp → Shared → XK → Value → Shared → Prop

/-- the state at a call -/
structure Env0 (P : Program) (w : World) (K : PySem.W.Frag) (mg : Str → Option Value) (base : Heap) (A : Around) (outer : List Env) (s : Shared) (H : Hp) : Prop where
  frames : A.frames = some outer
  mod : Mod K mg base
  bs : ∀ b o, base.get? b = some o → s.heap.get? b = some o ∧ H b = none
  bsz : base.objs.size ≤ s.heap.objs.size
  funs : s.heap.FunFrames base outer
  frf : ∀ b ∈ frs outer, H b = none
  hok : HOk P w H s.heap
  bare : AllBare s.gens
/-- a call's end -/
def CE (outer : List Env) (P : Program) (w : World) (H : Hp) (s : Shared) (Q : VK) (u : Value) (s' : Shared) : Prop :=
  ∃ v H', s'.os = s.os ∧ AllBare s'.gens ∧ Un (frs outer) [] H H' s.heap s'.heap ∧ HOk P w H' s'.heap ∧ RelV v u ∧ Q v H'
def CR (CX : CXT) (outer : List Env) (P : Program) (w : World) (H : Hp) (s : Shared) (Q : VK) (E : XK) (r : Result) (s' : Shared) : Prop :=
  match r with
  | .ok (.ret u) => CE outer P w H s Q u s'
  | .ok _ => False
  | .error e => CX outer H s E e s'
structure FnOk (P : Program) (w : World) (K : PySem.W.Frag) (mg : Str → Option Value) (base : Heap) (CX : CXT) (k : Nat) (f : Addr) (fd : FuncData) (ps : List Str) (sp : Sp) : Prop where
  len : ∀ vs H Q E, sp vs H Q E → vs.length = ps.length
  run : ∀ (A : Around) (outer : List Env) (s : Shared) (H : Hp) (args : Args) (us : List Value) (vs : List V) (Q : VK) (E : XK), Room k A → Env0 P w K mg base A outer s H → BindsTo s fd args (ps.zip us) → Vals vs us → sp vs H Q E →
    codeAny (model P w) A (.call (.ref f) args) (CR CX outer P w H s Q E) s
section
variable {X : Cx} {pins : List (Addr × Obj)} {σ : St} {H : Hp} {s s' : Shared}
/-- from a body: what a callee wants -/
theorem Inv.env0 (I : Inv X pins σ H s) : Env0 X.prog X.w X.K X.mg X.base X.A X.stack s H :=
  ⟨I.ok.frames, I.ok.mod, I.bs, Nat.le_trans I.ok.bsz I.sz, I.stack, I.stkFree, I.hok, I.bare⟩
/-- behind a call -/
theorem Inv.after {Q : VK} {u : Value} (I : Inv X pins σ H s) (h : CE X.stack X.prog X.w H s Q u s') : EP X pins σ Q u s' := by
  obtain ⟨v, H', os, bare, un, hok, r, q⟩ := h
  obtain ⟨hh, g, d, t, os'⟩ := s'
  obtain rfl : os' = s.os := os
  exact ⟨v, H', I.call (h' := hh) (g' := g) (d' := d) (t' := t) (ch := []) un hok bare (fun b z => absurd z (by simp)), r, q⟩
end

/-! ### calls -/
/-- how the parameters are bound: us the positional arguments, kw the keywords' values by name, ds the defaults that fill up -/
def Binds (K : PySem.W.Frag) (fd : FuncData) (ps : List Str) (ds : List Value) : Prop :=
  ∀ (s : Shared) (us : List Value), K.In s.heap → (us ++ ds).length = ps.length → BindsTo s fd ⟨us, []⟩ (ps.zip (us ++ ds))
/-- every parameter is given -/
theorem Binds.all {K : PySem.W.Frag} {fd : FuncData} {ps : List Str} (h : ∀ us : List Value, us.length = ps.length → bindArgs fd ⟨us, []⟩ = pure (ps.zip us)) : Binds K fd ps [] := fun s us _ hl => by
  rw [List.append_nil] at hl ⊢
  exact .of_eq (h us hl)

/-- an exception of a callee reaches what this body wants of exceptions -/
def Passes (CX : CXT) (X : Cx) (E : XK) : Prop := ∀ (pins : List (Addr × Obj)) (σ : St) (H : Hp) (s : Shared) (e : Value) (s' : Shared), Inv X pins σ H s → CX X.stack H s E e s' → X.xe e s'

section
variable {X : Cx} {CX : CXT} {k : Nat} {f C : Addr} {fd : FuncData} {ps : List Str} {sp : Sp} {dvs : List V} {ds : List Value} {E : XK} {x m : Str} {p pos apos : Pos} {e o : Expr} {es : List Expr} {ta : TE} {t : TA}

/-- the callee runs -/
theorem run_fn {pins : List (Addr × Obj)} {σ : St} {H : Hp} {s : Shared} {Q : VK} {us : List Value} {vs : List V} (F : FnOk X.prog X.w X.K X.mg X.base CX k f fd ps sp) (hr : Room k X.A) (hb : Binds X.K fd ps ds) (hd : Vals dvs ds) (hx : Passes CX X E)
    (I : Inv X pins σ H s) (r : Vals vs us) (h : sp (vs ++ dvs) H Q E) : wpAny (model X.prog X.w) X.A (call (.ref f) us) (EP X pins σ Q) X.xe s := by
  have r2 : Vals (vs ++ dvs) (us ++ ds) := r.append hd
  have hl : (us ++ ds).length = ps.length := by rw [← r2.length]; exact F.len _ _ _ _ h
  refine wpAny_call (codeAny_mono (F.run X.A X.stack s H ⟨us, []⟩ (us ++ ds) (vs ++ dvs) Q E hr I.env0 (hb s us I.kIn hl) r2 h) fun r s' hq => ?_)
  cases r with
  | error e => exact hx pins σ H s e s' I hq
  | ok fl =>
    cases fl with
    | ret u => exact I.after hq
    | next => exact False.elim hq
    | brk => exact False.elim hq
    | cont => exact False.elim hq

end

/-! ### keywords -/
section
variable {X : Cx} {CX : CXT} {k : Nat} {f C : Addr} {fd : FuncData} {ps ks : List Str} {sp : Sp} {E : XK} {x m : Str} {p pos apos kpos : Pos} {e o : Expr} {es : List Expr} {kws : List Keyword} {te ta : TE} {t tk : TA} {nm : Option Str}
variable {g : List Value → List Value → List Value} {gV : List V → List V → List V}
end

/-! ### a def's body keeps its promise -/
/-- names: the parameters first -/
structure FnScope (N P : List Str) (sc : Scope) : Prop where
  kind : sc.kind = .function
  co : sc.isCoroutine = false
  gen : sc.isGenerator = false
  nd : N.Nodup
  pre : N.take P.length = P
  par : ∀ x ∈ P, sc.names.lookup x = some .local ∨ sc.names.lookup x = some .cell
  nofree : ∀ y ∈ sc.names, y.2 ≠ .free

theorem bindL_out {kindOf : Str → Option NameKind} {x : Str} : ∀ {binds : List (Str × Value)} {m : Str → Option Value}, (∀ v, (x, v) ∉ binds) → bindL kindOf binds m x = m x
  | [], _, _ => rfl
  | (n, v) :: r, m, h => by
    unfold bindL
    rw [bindL_out fun w hw => h w (List.mem_cons_of_mem _ hw)]
    split
    · have : x ≠ n := by rintro rfl; exact h v List.mem_cons_self
      simp [this]
    · rfl
theorem bindC_out {kindOf : Str → Option NameKind} {x : Str} : ∀ {binds : List (Str × Value)} {m : Str → Option Value}, (∀ v, (x, v) ∉ binds) → bindC kindOf binds m x = m x
  | [], _, _ => rfl
  | (n, v) :: r, m, h => by
    unfold bindC
    rw [bindC_out fun w hw => h w (List.mem_cons_of_mem _ hw)]
    split
    · rfl
    · have : x ≠ n := by rintro rfl; exact h v List.mem_cons_self
      simp [this]
theorem bindL_get {kindOf : Str → Option NameKind} {x : Str} {v : Value} : ∀ {P : List Str} {vs : List Value} {i : Nat} {m : Str → Option Value}, P.Nodup → P[i]? = some x → vs[i]? = some v → kindOf x = some .local →
    bindL kindOf (P.zip vs) m x = some v
  | [], _, _, _, _, h, _, _ => by simp at h
  | _ :: _, [], _, _, _, _, h, _ => by simp at h
  | p :: P, w :: vs, 0, m, nd, h1, h2, hk => by
    simp at h1 h2; subst h1; subst h2
    show bindL kindOf ((p, w) :: P.zip vs) m p = _
    unfold bindL
    rw [bindL_out fun v hv => (List.nodup_cons.mp nd).1 (List.of_mem_zip hv).1, if_pos hk]
    simp
  | p :: P, w :: vs, i + 1, m, nd, h1, h2, hk => by
    show bindL kindOf ((p, w) :: P.zip vs) m x = _
    unfold bindL
    exact bindL_get (i := i) (List.nodup_cons.mp nd).2 (by simpa using h1) (by simpa using h2) hk
theorem bindC_get {kindOf : Str → Option NameKind} {x : Str} {v : Value} : ∀ {P : List Str} {vs : List Value} {i : Nat} {m : Str → Option Value}, P.Nodup → P[i]? = some x → vs[i]? = some v → kindOf x ≠ some .local →
    bindC kindOf (P.zip vs) m x = some v
  | [], _, _, _, _, h, _, _ => by simp at h
  | _ :: _, [], _, _, _, _, h, _ => by simp at h
  | p :: P, w :: vs, 0, m, nd, h1, h2, hk => by
    simp at h1 h2; subst h1; subst h2
    show bindC kindOf ((p, w) :: P.zip vs) m p = _
    unfold bindC
    rw [bindC_out fun v hv => (List.nodup_cons.mp nd).1 (List.of_mem_zip hv).1, if_neg hk]
    simp
  | p :: P, w :: vs, i + 1, m, nd, h1, h2, hk => by
    show bindC kindOf ((p, w) :: P.zip vs) m x = _
    unfold bindC
    exact bindC_get (i := i) (List.nodup_cons.mp nd).2 (by simpa using h1) (by simpa using h2) hk

/-- the names' values at the entry -/
def start (N : List Str) (vs : List V) : St := vs.map some ++ List.replicate (N.length - vs.length) none

/-- the context of a def's body, at its entry; an exception leaves the frame, then lies as CX says -/
def cxOf (CX : CXT) (P : Program) (w : World) (K : PySem.W.Frag) (mg : Str → Option Value) (base : Heap) (N : List Str) (qual : Str) (scope : Scope) (f : Addr) (cd : Value) (A : Around) (outer : List Env) (s : Shared) (H : Hp) (E : XK) : Cx where
  prog := P
  w := w
  K := K
  mg := mg
  base := base
  A := A.deeper (envOfC qual scope s.heap.objs.size f cd)
  N := N
  s₀ := s
  H₀ := H
  env := envOfC qual scope s.heap.objs.size f cd
  outer := outer
  stack := envOfC qual scope s.heap.objs.size f cd :: outer
  ex := []
  calm := true
  fn := fun _ => true
  pn := []
  xe := fun e s' => wpAny (model P w) (A.deeper (envOfC qual scope s.heap.objs.size f cd)) (leaving (envOfC qual scope s.heap.objs.size f cd) e) (fun _ s'' => CX outer H s E e s'') (fun e' s'' => CX outer H s E e' s'') s'

theorem cell_has {sc : Scope} {n : Nat} {x : Str} (h : sc.names.lookup x = some .cell) : ∃ c, (cellsFrom n sc.names []).lookup x = some c := by
  have q := PySem.W.cellsFrom_some sc.names n [] (.inl h)
  exact Option.isSome_iff_exists.mp q

theorem inv_start {CX : CXT} {P : Program} {w : World} {K : PySem.W.Frag} {mg : Str → Option Value} {base : Heap} {N ps : List Str} {qual : Str} {scope : Scope} {f : Addr} {cd : Value} {A : Around} {outer : List Env} {s s1 : Shared} {H : Hp} {E : XK} {us : List Value} {vs : List V}
    (S : FnScope N ps scope) (hd : A.handled = none) (e0 : Env0 P w K mg base A outer s H) (hl : vs.length = ps.length) (r : Vals vs us)
    (x : InCallC s s.heap.objs.size (bindL (envOfC qual scope s.heap.objs.size f cd).kindOf (ps.zip us) fun _ => none) (cellsFrom (s.heap.objs.size + 1) scope.names []) (bindC (envOfC qual scope s.heap.objs.size f cd).kindOf (ps.zip us) fun _ => none) s1) :
    Inv (cxOf CX P w K mg base N qual scope f cd A outer s H E) [] (start N vs) H s1 := by
  have hpl : ps.length ≤ N.length := by have := congrArg List.length S.pre; rw [List.length_take] at this; omega
  obtain ⟨h1, tk, rfl, hk⟩ := x.done
  have noA : ∀ b : Addr, b ∉ (cxOf CX P w K mg base N qual scope f cd A outer s H E).ex := fun b z => absurd (show b ∈ ([] : List Addr) from z) (by simp)
  refine ⟨⟨e0.mod, S.kind, rfl, rfl, Nat.le_refl _, fun y z c h1 h2 => ?_, fun y hy => ?_, fun y c _ h => ?_, fun _ => hd, Around.frames_deeper e0.frames, .inr ⟨rfl, rfl⟩, fun b z => absurd z (noA b), e0.bs, e0.bsz, fun b _ _ => noA b, fun b z => absurd z (noA b), e0.funs, e0.frf⟩,
    rfl, e0.bare, Un.kept hk, ⟨_, x.toInCall.ns, fun i y v h1 h2 h3 => ?_⟩, fun y c h => ⟨_, x.cell y c h⟩, e0.hok.fresh (Nat.le_refl _), fun y c h => ?_, fun p hp => absurd (show p ∈ ([] : List (Addr × Obj)) from hp) (by simp), e0.hok.kept hk, ?_⟩
  · exact name_of_addr x.apart (PySem.mem_of_lookup h1) (PySem.mem_of_lookup h2)
  · have hy : scope.names.lookup y = some .cell ∨ scope.names.lookup y = some .free := hy
    rcases hy with hy | hy
    · exact cell_has hy
    · exact absurd rfl (S.nofree _ (PySem.mem_of_lookup hy))
  · exact Nat.le_of_lt (x.above y c (PySem.mem_of_lookup h))
  · have hi : i < vs.length := by
      unfold start at h2
      by_cases hi : i < vs.length
      · exact hi
      · rw [List.getElem?_append_right (by simpa using hi)] at h2
        rw [List.getElem?_replicate] at h2
        split at h2 <;> cases h2
    have ha : vs[i]? = some v := by
      unfold start at h2
      rw [List.getElem?_append_left (by simpa using hi), List.getElem?_map] at h2
      cases e : vs[i]? with
      | none => rw [e] at h2; cases h2
      | some a => rw [e] at h2; cases h2; rfl
    obtain ⟨u, hu, rv⟩ := r.get ha
    have hp : ps[i]? = some y := by
      rw [← S.pre, List.getElem?_take_of_lt (by omega)]; exact h1
    have ndP : ps.Nodup := by rw [← S.pre]; exact S.nd.sublist (List.take_sublist _ _)
    refine ⟨u, rv, ?_⟩
    rcases S.par y (List.mem_of_getElem? hp) with k | k
    · exact .inl ⟨k, bindL_get ndP hp hu k⟩
    · obtain ⟨c, e⟩ := cell_has (n := s.heap.objs.size + 1) k
      refine .inr ⟨.inl k, c, e, ?_⟩
      have q := x.cell y c e
      rw [bindC_get ndP hp hu (by show scope.names.lookup y ≠ _; rw [k]; decide)] at q
      exact q
  · exact e0.hok.fresh (Nat.le_of_lt (x.above y c (PySem.mem_of_lookup h)))
  · unfold start
    show _ = N.length
    rw [List.length_append, List.length_map, List.length_replicate]
    omega

/-- THE RULE: a def (or a method) of the text, by its body. The body's reading t is chosen for each entry; it is run at the parameters' values -/
theorem fn_of {CX : CXT} {P : Program} {w : World} {K : PySem.W.Frag} {mg : Str → Option Value} {base : Heap} {k : Nat} {f : Addr} {name qual : Str} {params : Arguments} {body : List Stmt} {scope : Scope} {dV kV doc pm cdv ct oc : Value} {an od : Option Addr}
    {osl : Array (Option Value)} {N ps : List Str} {sp : Sp} (lk : K.lookup f = some ⟨oc, od, .func (PySem.W.fnOf name qual params body scope dV kV doc pm an cdv ct), osl⟩) (hcd : PySem.W.codeIn K cdv qual = true) (S : FnScope N ps scope)
    (len : ∀ vs H Q E, sp vs H Q E → vs.length = ps.length)
    (hbody : ∀ (A : Around) (outer : List Env) (s : Shared) (H : Hp) (vs : List V) (Q : VK) (E : XK), Room k (A.deeper (envOfC qual scope s.heap.objs.size f cdv)) → sp vs H Q E →
      ∃ t, PSs (cxOf CX P w K mg base N qual scope f cdv A outer s H E) body t ∧ t { nx := fun _ H' => Q .non H', rt := Q } (start N vs) H) :
    FnOk P w K mg base CX (k + 1) f (PySem.W.fnOf name qual params body scope dV kV doc pm an cdv ct) ps sp := by
  refine ⟨len, fun A outer s H args us vs Q E hr e0 hb r hsp => ?_⟩
  have hl := len _ _ _ _ hsp
  have KX : K.In s.heap := e0.mod.kin.keeps fun b o e => (e0.bs b o e).1
  have lim : s.heap.NoLimit := e0.mod.nolimit.keeps fun b o e => (e0.bs b o e).1
  have hkind : ∀ y ∈ ps.zip us, scope.names.lookup y.1 = some .local ∨ (scope.names.lookup y.1 = some .cell ∧ ((cellsFrom (s.heap.objs.size + 1) scope.names []).lookup y.1).isSome = true) := fun ⟨n, v⟩ hy => by
    rcases S.par n (List.of_mem_zip hy).1 with q | q
    · exact .inl q
    · exact .inr ⟨q, PySem.W.cellsFrom_some _ _ _ (.inl q)⟩
  refine codeAny_call_function hr.depth (KX _ _ lk) rfl S.co S.gen rfl (PySem.W.codeRec_of KX hcd) (hb _ _ _ _ ?_)
  refine wpAny_newFunctionEnv_cells S.kind hkind fun env he s1 x => ?_
  subst he
  refine ⟨lim.keeps x.toInCall.keep, codeAny_func ?_⟩
  obtain ⟨t, ht, hq⟩ := hbody A outer s H vs Q E (hr.deeper _) hsp
  have I : Inv (cxOf CX P w K mg base N qual scope f cdv A outer s H E) [] (start N vs) H s1 := inv_start S hr.hd e0 hl r x
  refine wpAny_mono (ht [] s1 (start N vs) H _ I hq) (fun fl s' hs => ?_) fun e s' hs => hs
  have fin : ∀ {σ' : St} {H' : Hp} {v : V} {u : Value}, Inv (cxOf CX P w K mg base N qual scope f cdv A outer s H E) [] σ' H' s' → RelV v u → Q v H' → CE outer P w H s Q u s' :=
    fun {σ' H' v u} J rv q => ⟨v, H', J.os, J.bare, J.base, J.hok, rv, q⟩
  cases fl with
  | ret u =>
    obtain ⟨v, σ', H', J, rv, q⟩ := hs
    exact fin J rv q
  | next =>
    obtain ⟨σ', H', J, q⟩ := hs
    exact fin (v := V.non) (u := Value.none) J rfl q
  | brk =>
    obtain ⟨_, _, _, q⟩ := hs
    exact False.elim q
  | cont =>
    obtain ⟨_, _, _, q⟩ := hs
    exact False.elim q
end L2

namespace L2
open PySem PySem.Spec PyProof.Rows
section
variable {X : Cx} {x : Str} {p pos : Pos} {e : Expr} {es : List Expr} {t : TA} {id T : String} {r : List V → Hp → VK → Prop}

end
end L2

namespace HT
open PySem PyProof.Rows

section
open PySem.SeqAt
open PySem.AutoSeq1 (wpAny_loadPart')
open PySem.MeetsSeq PySem.MeetsSeq2 PySem.MeetsSeq3

end

section
variable {prog : Program} {w : World} {A : Around} {E : Value → Shared → Prop} {s : Shared}

/-! ### t[a:b], not the whole -/
/-- a slice's bound as a place among n (d where it is left out) -/
def sIx (n d : Nat) : Option Int → Nat
  | none => d
  | some v => if v < 0 then (v + (n : Int)).toNat else min v.toNat n
theorem sIx_nat (n d k : Nat) : sIx n d (some (k : Int)) = min k n := by
  show (if (k : Int) < 0 then ((k : Int) + (n : Int)).toNat else min (k : Int).toNat n) = min k n
  rw [if_neg (by omega), Int.toNat_natCast]
end
end HT

namespace L2
open PySem PySem.Spec PyProof.Rows

/-! ### the parts of a slice -/
abbrev TO := St → Hp → (Option Int → Hp → Prop) → Prop
theorem intsAre_of {ns : List Int} : ∀ {us : List Value}, Vals (ns.map V.int) us → IntsAre us ns := by
  induction ns with
  | nil => intro us r; rw [List.map_nil] at r; cases r; exact .nil
  | cons n ns ih =>
    intro us r
    rw [List.map_cons] at r
    cases r with
    | cons r1 r2 =>
      obtain ⟨t, e⟩ := r1
      subst e
      exact .cons n t (ih r2)

section
variable {X : Cx} {e : Expr} {te : TE} {lo hi : Option Expr} {tl th : TO} {pos p2 : Pos}

/-- what a slice of a value is, by values: the slice object stands at sl -/
def SlR (X : Cx) (r : V → Option Int → Option Int → Hp → VK → Prop) : Prop :=
  ∀ (pins : List (Addr × Obj)) (s : Shared) (σ : St) (H : Hp) (x : V) (v vl vu : Value) (lo hi : Option Int) (sl : Addr) (Q : VK), Inv X pins σ H s → RelV x v → s.heap.IsSliceOf sl vl vu .none → IsPart vl lo → IsPart vu hi → r x lo hi H Q →
    ∃ T id, typeLookup (.type T) "__getitem__" = pure (some (.builtin id)) ∧ s.TypeIs v T ∧ wpAny (model X.prog X.w) X.A (getItem v (.ref sl)) (EP X pins σ Q) X.xe s
/-- the items of xs[lo:hi] -/
def cutV (xs : List V) (lo hi : Option Int) : List V := (xs.drop (HT.sIx xs.length 0 lo)).take (HT.sIx xs.length xs.length hi - HT.sIx xs.length 0 lo)
theorem cutV_length (xs : List V) (lo hi : Option Int) : (cutV xs lo hi).length ≤ xs.length := by
  unfold cutV
  rw [List.length_take, List.length_drop]
  omega
/-! ### t < u, t + u -/
end
end L2

namespace L2
open PySem PySem.Spec PyProof.Rows

/-! ### places -/
/-- the place that an index of any sign means -/
def ixN (n : Nat) (i : Int) : Option Nat := if 0 ≤ i then (if i < n then some i.toNat else none) else if -(n : Int) ≤ i then some (i + n).toNat else none
def atI {α : Type} (xs : List α) (i : Int) : Option α := (ixN xs.length i).bind fun j => xs[j]?
theorem ixN_seq {n : Nat} {i : Int} {j : Nat} (h : ixN n i = some j) : seqIndex? i n = some j ∧ j < n ∧ -(n : Int) ≤ i ∧ i < n := by
  unfold ixN at h
  by_cases h0 : 0 ≤ i
  · rw [if_pos h0] at h
    by_cases h1 : i < n
    · rw [if_pos h1] at h
      have e : i.toNat = j := Option.some.inj h
      exact ⟨by rw [seqIndex_of h0 h1, e], by omega, by omega, h1⟩
    · rw [if_neg h1] at h; cases h
  · rw [if_neg h0] at h
    by_cases h1 : -(n : Int) ≤ i
    · rw [if_pos h1] at h
      have e : (i + n).toNat = j := Option.some.inj h
      exact ⟨by rw [seqIndex_neg (by omega) h1, e], by omega, h1, by omega⟩
    · rw [if_neg h1] at h; cases h
theorem atI_get {α : Type} {xs : List α} {i : Int} {v : α} (h : atI xs i = some v) : ∃ j, seqIndex? i xs.length = some j ∧ xs[j]? = some v ∧ j < xs.length ∧ -(xs.length : Int) ≤ i ∧ i < xs.length := by
  unfold atI at h
  cases e : ixN xs.length i with
  | none => rw [e] at h; cases h
  | some j =>
    rw [e] at h
    obtain ⟨h1, h2, h3, h4⟩ := ixN_seq e
    exact ⟨j, h1, h, h2, h3, h4⟩
theorem atI_nat {α : Type} {xs : List α} {j : Nat} {v : α} (h : xs[j]? = some v) : atI xs (j : Int) = some v := by
  have hj : j < xs.length := (List.getElem?_eq_some_iff.mp h).1
  have e : ixN xs.length (j : Int) = some j := by
    unfold ixN
    rw [if_pos (by omega), if_pos (by omega)]; simp
  unfold atI; rw [e]; exact h
/-! ### what may be subscripted -/
/-- what stands as an index of a plain subscript -/
def PlainIx (b : Expr) : Prop := ∀ o i, subscripted b false o i = operate [o, i] (getItem o i)
/-- a subscript by values -/
def IxR (X : Cx) (r : R2) : Prop :=
  ∀ (value slice : Expr) (pins : List (Addr × Obj)) (s : Shared) (σ : St) (H : Hp) (x y : V) (v u : Value) (Q : VK), Inv X pins σ H s → RelV x v → RelV y u → r x y H Q →
    subscripted slice false v u = operate [v, u] (getItem v u) → wpAny (model X.prog X.w) X.A (subscriptTail value slice v u) (EP X pins σ Q) X.xe s
/-- a call of a builtin's method by values: the receiver, the arguments -/
def MtR (X : Cx) (id : String) (r : V → List V → Hp → VK → Prop) : Prop :=
  ∀ (pins : List (Addr × Obj)) (s : Shared) (σ : St) (H : Hp) (x : V) (xs : List V) (v : Value) (us : List Value) (Q : VK), Inv X pins σ H s → RelV x v → Vals xs us → r x xs H Q →
    wpAny (model X.prog X.w) X.A (call (.builtin id) (v :: us)) (EP X pins σ Q) X.xe s
section
variable {X : Cx} {a b : Expr} {ta tb : TE} {pos : Pos}
theorem IxR.or {r r' : R2} (h : IxR X r) (h' : IxR X r') : IxR X (fun x y H Q => r x y H Q ∨ r' x y H Q) := by
  intro value slice pins s σ H x y v u Q I rx ry q hs
  rcases q with q | q
  · exact h value slice pins s σ H x y v u Q I rx ry q hs
  · exact h' value slice pins s σ H x y v u Q I rx ry q hs
def rIxL (K : PySem.W.Frag) : R2 := fun x y H Q => ∃ p xs i v, x = .ref p ∧ y = .int i ∧ SqL K H p xs ∧ atI xs i = some v ∧ Q v H
def rIxT (K : PySem.W.Frag) : R2 := fun x y H Q => ∃ p xs i v, x = .ref p ∧ y = .int i ∧ SqT K H p xs ∧ atI xs i = some v ∧ Q v H
def rIxS : R2 := fun x y H Q => ∃ z i c, x = .str z ∧ y = .int i ∧ z.length ≤ sizeLine ∧ atI z.cps.toList i = some c ∧ Q (.str ⟨#[c]⟩) H
theorem ix_list : IxR X (rIxL X.K) := by
  intro value slice pins s σ H x y v u Q I rx ry h hs
  obtain ⟨p, xs, i, z, rfl, rfl, hq, he, q⟩ := h
  cases rx
  obtain ⟨t, rfl⟩ := ry
  obtain ⟨its, r, pl, hz⟩ := I.list hq
  obtain ⟨j, h1, h2, h3, h4, h5⟩ := atI_get he
  obtain ⟨w, ew, rw'⟩ := r.get h2
  have hl := r.length
  have hn := line63
  have fin : EP X pins σ Q w s := ⟨z, H, I, rw', q⟩
  by_cases h0 : 0 ≤ i
  · have hj : i.toNat = j := by
      rw [seqIndex_of h0 h5] at h1
      exact Option.some.inj h1
    exact item_listR pl.isList h0 (by omega) (by rw [hj]; simpa using ew) fin hs
  · have hj : (i + (its.toArray.size : Int)).toNat = j := by
      rw [seqIndex_neg (by omega) h4] at h1
      rw [List.size_toArray, ← hl]
      exact Option.some.inj h1
    exact subscriptTail_builtinR (x := w) pl.isList.typeIs slot_list_getitem.lookup
      (wpAny_getItem_list_neg (Q := fun r s' => r = w ∧ EP X pins σ Q r s') pl.isList (by omega) (by rw [List.size_toArray] <;> omega) (by omega) (by rw [hj]; simpa using ew) ⟨rfl, fin⟩) hs
theorem ix_tup : IxR X (rIxT X.K) := by
  intro value slice pins s σ H x y v u Q I rx ry h hs
  obtain ⟨p, xs, i, z, rfl, rfl, hq, he, q⟩ := h
  cases rx
  obtain ⟨t, rfl⟩ := ry
  obtain ⟨its, r, pl, hz⟩ := I.tuple hq
  obtain ⟨j, h1, h2, h3, h4, h5⟩ := atI_get he
  obtain ⟨w, ew, rw'⟩ := r.get h2
  have hl := r.length
  have hn := line63
  have fin : EP X pins σ Q w s := ⟨z, H, I, rw', q⟩
  exact subscriptTail_builtinR (x := w) pl.typeIs slot_tuple_getitem.lookup
    (getItem_tuple (j := j) (Q := fun r s' => r = w ∧ EP X pins σ Q r s') pl (by omega) (by omega) (by rw [List.size_toArray, ← hl]; exact h1) (by simpa using ew) ⟨rfl, fin⟩) hs
theorem ix_str : IxR X rIxS := by
  intro value slice pins s σ H x y v u Q I rx ry h hs
  obtain ⟨z, i, c, rfl, rfl, hz, he, q⟩ := h
  obtain ⟨t, rfl⟩ := rx
  obtain ⟨t', rfl⟩ := ry
  obtain ⟨j, h1, h2, h3, h4, h5⟩ := atI_get he
  have hl : z.cps.toList.length = z.length := by simp [Str.length]
  rw [hl] at h1 h4 h5
  have hn := line63
  exact tail_any (typeIs_str s z t) slot_str_getitem.lookup (getItem_str (c := c) (by
    have e1 : decide (i < -(2 ^ 63 : Int)) = false := decide_eq_false (by omega)
    have e2 : decide (i ≥ 2 ^ 63) = false := decide_eq_false (by omega)
    rw [e1, e2, Bool.or_false]) (by rw [h1]; simpa using h2) ⟨.str ⟨#[c]⟩, H, I.tok _, ⟨_, rfl⟩, q⟩) hs
/-- list, tuple or str -/
def rIx (K : PySem.W.Frag) : R2 := fun x y H Q => rIxL K x y H Q ∨ rIxT K x y H Q ∨ rIxS x y H Q
theorem ix_seq : IxR X (rIx X.K) := ix_list.or (ix_tup.or ix_str)

/-! ### xs[i] = v, any sign -/
/-! ### slices -/
theorem slice_bounds (lo hi : Option Int) (n : Nat) : (sliceBounds lo hi none n).1 = ((HT.sIx n 0 lo : Nat) : Int) ∧ (sliceBounds lo hi none n).2.1 = ((HT.sIx n n hi : Nat) : Int) ∧ (sliceBounds lo hi none n).2.2 = 1 := by
  refine ⟨?_, ?_, rfl⟩
  · cases lo with
    | none => simp [sliceBounds, HT.sIx]
    | some i =>
      simp only [sliceBounds, HT.sIx, Option.getD_none, show (1 : Int) > 0 by decide, if_true]
      by_cases h : i < 0
      · simp only [h, if_true] <;> omega
      · simp only [h, if_false] <;> omega
  · cases hi with
    | none => simp [sliceBounds, HT.sIx]
    | some i =>
      simp only [sliceBounds, HT.sIx, Option.getD_none, show (1 : Int) > 0 by decide, if_true]
      by_cases h : i < 0
      · simp only [h, if_true] <;> omega
      · simp only [h, if_false] <;> omega
theorem slicePick_cut (its : List Value) (lo hi : Option Int) : slicePick its.toArray lo hi none = ((its.drop (HT.sIx its.length 0 lo)).take (HT.sIx its.length its.length hi - HT.sIx its.length 0 lo)).toArray := by
  obtain ⟨h1, h2, h3⟩ := slice_bounds lo hi its.toArray.size
  unfold slicePick
  rw [h1, h2, h3]
  simp only [sliceRange_one, pick_run, List.size_toArray] <;> rfl
/-- xs[lo:hi] of a list: a new list -/
def rSlL (K : PySem.W.Frag) : V → Option Int → Option Int → Hp → VK → Prop := fun x lo hi H Q => ∃ a xs, x = .ref a ∧ SqL K H a xs ∧ ∀ p, H p = none → Q (.ref p) (upd H p (.lst (cutV xs lo hi)))
theorem sl_list : SlR X (rSlL X.K) := by
  intro pins s σ H x v vl vu lo hi sl Q I rx hs pl pu h
  obtain ⟨a, xs, rfl, hx, q⟩ := h
  cases rx
  obtain ⟨its, r, ht, hz⟩ := I.list hx
  have hlen := r.length
  refine ⟨"list", _, slot_list_getitem.lookup, ht.isList.typeIs, ?_⟩
  refine wpAny_getItem_list_slice ht.isList hs pl pu .none (by simp) ?_ (by rw [List.size_toArray] <;> omega)
  rw [slicePick_cut, ← hlen]
  refine ⟨.ref s.heap.objs.size, _, I.laid (t' := s.toks) (o := .lst (cutV xs lo hi)) (fun b ob q => Heap.get?_push_of_some _ q) (Nat.le_refl _) ?_, rfl, q _ (I.hok.fresh (Nat.le_refl _))⟩
  exact ⟨Nat.le_trans (cutV_length xs lo hi) hz, _, 0, (r.drop (HT.sIx xs.length 0 lo)).take (HT.sIx xs.length xs.length hi - HT.sIx xs.length 0 lo), Heap.get?_push_size _ rfl⟩

/-! ### in, not in: flat items -/
/-! ### len, list(x), tuple(x) of any list or tuple that is read -/
theorem call_len_seq : CallR X (.builtin "len") (fun xs H Q => ∃ p ys, xs = [.ref p] ∧ (SqL X.K H p ys ∨ SqT X.K H p ys) ∧ Q (.int ys.length) H) := by
  intro pins s σ H xs us Q I r h
  obtain ⟨p, ys, rfl, hq, q⟩ := h
  obtain ⟨u, rfl, rx⟩ := vals1 r
  cases rx
  have hn := line63
  rcases hq with hq | hq
  · obtain ⟨its, r', pl, hz⟩ := I.list hq
    have hlen := r'.length
    exact Calls.call_len_list pl.isList (by simp only [List.size_toArray] <;> omega) ⟨.int ys.length, H, I.tok _, ⟨s.toks + 1, by rw [List.size_toArray, hlen]⟩, q⟩
  · obtain ⟨its, r', pl, hz⟩ := I.tuple hq
    have hlen := r'.length
    exact len_tuple pl (by simp only [List.size_toArray] <;> omega) ⟨.int ys.length, H, I.tok _, ⟨s.toks + 1, by rw [List.size_toArray, hlen]⟩, q⟩
theorem call_len_str : CallR X (.builtin "len") (fun xs H Q => ∃ z, xs = [.str z] ∧ z.length ≤ sizeLine ∧ Q (.int z.length) H) := by
  intro pins s σ H xs us Q I r h
  obtain ⟨z, rfl, hz, q⟩ := h
  obtain ⟨u, rfl, t, rfl⟩ := vals1 r
  have hn := line63
  exact len_str (by omega) ⟨.int z.length, H, I.tok _, ⟨_, rfl⟩, q⟩
theorem CallR.or {f : Value} {r r' : List V → Hp → VK → Prop} (h : CallR X f r) (h' : CallR X f r') : CallR X f (fun xs H Q => r xs H Q ∨ r' xs H Q) := by
  intro pins s σ H xs us Q I rs q
  rcases q with q | q
  · exact h pins s σ H xs us Q I rs q
  · exact h' pins s σ H xs us Q I rs q
theorem call_tuple_of : CallR X (.type "tuple") (fun xs H Q => ∃ p ys, xs = [.ref p] ∧ ((SqL X.K H p ys ∧ ∀ l, H l = none → Q (.ref l) (upd H l (.tup ys))) ∨ (SqT X.K H p ys ∧ Q (.ref p) H))) := by
  intro pins s σ H xs us Q I r h
  obtain ⟨p, ys, rfl, h⟩ := h
  obtain ⟨u, rfl, rx⟩ := vals1 r
  cases rx
  rcases h with ⟨hq, q⟩ | ⟨hq, q⟩
  · obtain ⟨its, r', pl, hz⟩ := I.list hq
    have hlen := r'.length
    refine call_tuple_list pl.isList (fun h' kp => ?_) (by simp only [List.size_toArray] <;> omega)
    have I1 : Inv X pins σ H { s with heap := h' } := I.kept (t' := s.toks) kp
    have I2 : Inv X pins σ (upd H h'.objs.size (.tup ys)) { s with heap := h'.push { cls := .type "tuple", data := .seq its.toArray } } :=
      I1.laid (t' := s.toks) (fun b o e => Heap.get?_push_of_some _ e) (Nat.le_refl _) (show ObjOk X.prog X.w _ _ _ (.tup ys) from ⟨hz, its, r', IsTup.new _ _⟩)
    exact ⟨.ref h'.objs.size, _, I2, rfl, q _ (I1.hok.fresh (Nat.le_refl _))⟩
  · obtain ⟨its, r', pl, hz⟩ := I.tuple hq
    exact call_tuple_same pl ⟨.ref p, H, I, rfl, q⟩

/-! ### the call of a builtin's method: o.m(..) -/
variable {o e : Expr} {es : List Expr} {to : TE} {t : TA} {name : Str} {apos cpos : Pos} {T id : String} {r : V → List V → Hp → VK → Prop}
/- xs.append(e), list.index on a module's tuple .. are MtR facts of 06m -/
end
end L2

namespace L2
open PySem PySem.Spec PyProof.Rows

def MtM (X : Cx) (id : String) (r : V → List V → Hp → VK → Prop) : Prop :=
  ∀ (pins : List (Addr × Obj)) (s : Shared) (σ : St) (H : Hp) (x : V) (xs : List V) (v : Value) (us : List Value) (Q : VK), Inv X pins σ H s → RelV x v → Vals xs us → r x xs H Q →
    wpAny (model X.prog X.w) X.A (call (.builtin id) (v :: us)) (EP X pins σ Q) X.xe s

/-! ### lists of values -/
theorem Vals.one {x : V} {us : List Value} (h : Vals [x] us) : ∃ u, us = [u] ∧ RelV x u := by
  cases h with
  | cons r t =>
    cases t
    exact ⟨_, rfl, r⟩
section
variable {X : Cx} {pins : List (Addr × Obj)} {σ : St} {H : Hp} {s : Shared} {l b : Addr} {xs ys zs : List V}

/-! ### the two steps: a tracked list is rewritten, a new list is laid -/
theorem Inv.lset {its its' : List Value} {n : Nat} {f : Array Value → Array Value} {t' : Nat} (I : Inv X pins σ H s) (hH : H l = some (.lst xs))
    (e : s.heap.get? l = some { cls := .type "list", data := .seq its.toArray n }) (hf : f its.toArray = its'.toArray) (hv : Vals ys its') (hz : ys.length ≤ sizeLine) :
    Inv X pins σ (upd H l (.lst ys)) { s with heap := s.heap.update l (Obj.mapSeq f), toks := t' } := by
  have q := PySem.IsL.update e f
  rw [hf] at q
  refine I.write (x := l) (e := l) (by rw [hH]; exact trivial) (.inl rfl) (fun b' u hb hu => (Heap.get?_update_other s.heap (Obj.mapSeq f) (Ne.symm hb)).trans hu) ⟨_, q⟩ ?_
  exact ⟨hz, its', _, hv, q⟩
theorem Inv.lnew {its : List Value} {t' : Nat} (I : Inv X pins σ H s) (hv : Vals ys its) (hz : ys.length ≤ sizeLine) :
    Inv X pins σ (upd H s.heap.objs.size (.lst ys)) { s with heap := s.heap.push { cls := .type "list", data := .seq its.toArray }, toks := t' } :=
  I.laid (fun _ _ q => Heap.get?_push_of_some _ q) (Nat.le_refl _) ⟨hz, its, 0, hv, Heap.get?_push_size _ rfl⟩
theorem Inv.fresh (I : Inv X pins σ H s) : H s.heap.objs.size = none := I.hok.fresh (Nat.le_refl _)
theorem Inv.lstM (I : Inv X pins σ H s) (hH : H l = some (.lst xs)) : xs.length ≤ sizeLine ∧ ∃ (its : List Value) (n : Nat), Vals xs its ∧ xs.length = its.length ∧ s.heap.get? l = some { cls := .type "list", data := .seq its.toArray n } := by
  obtain ⟨z, its, n, r, e⟩ := I.hok l _ hH
  exact ⟨z, its, n, r, r.length, e⟩

end

section
variable {X : Cx}

/-! ### methods -/
def rAppend : V → List V → Hp → VK → Prop := fun x vs H Q => ∃ l xs y, x = .ref l ∧ vs = [y] ∧ H l = some (.lst xs) ∧ xs.length < sizeLine ∧ Q .non (upd H l (.lst (xs ++ [y])))
theorem mt_append : MtM X "list.append" rAppend := by
  intro pins s σ H x vs v us Q I rx rv h
  obtain ⟨l, xs, y, rfl, rfl, hH, hz, q⟩ := h
  cases rx
  obtain ⟨u, rfl, ru⟩ := rv.one
  obtain ⟨z, its, n, r, hl, e⟩ := I.lstM hH
  refine call_meets F.slot_list_append ⟨_, e, rfl⟩ F.entry_list_append (F.args_list_append_2 _ _) (PySem.list_append l its.toArray n u (by rw [List.size_toArray]; omega)) ⟨e, ?_⟩
  refine ⟨.non, _, I.lset (its' := its ++ [u]) hH e (by simp) (r.append (.cons ru .nil)) ?_, rfl, q⟩
  rw [List.length_append, List.length_singleton]
  omega

/-! ### list + list, list += list, list * int -/
def rCat : R2 := fun x y H Q => ∃ l b xs zs, x = .ref l ∧ y = .ref b ∧ H l = some (.lst xs) ∧ H b = some (.lst zs) ∧ xs.length + zs.length ≤ sizeLine ∧ ∀ p, H p = none → Q (.ref p) (upd H p (.lst (xs ++ zs)))
theorem op_cat : OpR X (binaryOp .Add) rCat := by
  intro pins s σ H x y v u Q I rx ry h
  obtain ⟨l, b, xs, zs, rfl, rfl, hH, hB, hz, q⟩ := h
  cases rx
  cases ry
  obtain ⟨z, its, n, r, hl, e⟩ := I.lstM hH
  obtain ⟨z2, its2, n2, r2, hl2, e2⟩ := I.lstM hB
  refine PySem.P.add_list e e2 ?_ (by rw [List.size_toArray, List.size_toArray]; omega)
  have ea : its.toArray ++ its2.toArray = (its ++ its2).toArray := by simp
  rw [ea]
  exact ⟨.ref _, _, I.lnew (t' := s.toks) (r.append r2) (by rw [List.length_append]; omega), rfl, q _ I.fresh⟩
/-! ### del xs[i] -/
end

/-! ### xs[a:b] = ys -/
section
variable {prog : Program} {w : World} {A : Around} {E : Value → Shared → Prop} {s : Shared}
set_option maxRecDepth 100000 in
end

section
variable {X : Cx}
end
end L2

namespace Att
open PySem PySem.W PySem.Calls PyProof.Rows

/-! ### the script -/
theorem ints_of_wellAll {P : Params} {h : Heap} : ∀ (ns : List Int) (vs : List Value), WellAll P h vs (ns.map WData.int) → IntsAre vs ns := by
  intro ns
  induction ns with
  | nil =>
    intro vs w
    rw [List.map_nil] at w
    cases w
    exact .nil
  | cons n ns ih =>
    intro vs w
    rw [List.map_cons] at w
    cases w with
    | cons a b =>
      cases a
      exact .cons _ _ (ih _ b)

theorem script_of {l : OpenLaw} {n : Nat} (hn : l.most = some n) {P : Params} {h : Heap} {args : List WData} {vals : List Value}
    (hpre : l.row.toRowW.claim.pre args = true) (hwl : WellAll P h vals args) :
    ∃ a vs ns, vals = [Value.ref a] ∧ args = [WData.list (ns.map WData.int)] ∧ h.get? a = some { cls := .type "list", data := .seq vs.toArray } ∧ IntsAre vs ns ∧ ns.length ≤ n := by
  have hsh : WShape.hasAll [] args [.list .int] = true := (pre_splitW hpre).1
  have hc : l.pre.holds [] { args := args } = true := (pre_splitW hpre).2
  obtain ⟨d, r, rfl, h1, h2⟩ := hasAllW_cons hsh
  obtain rfl := hasAllW_nil h2
  obtain ⟨xs, rfl, h3⟩ := hasW_list h1
  obtain ⟨ns, rfl⟩ := items_int h3
  have hlen : ns.length ≤ n := by
    unfold OpenLaw.pre at hc
    have h4 : (WTm.not (.lt (.lit (.int (n : Int))) (.len (.arg 0)))).holds [] { args := [.list (ns.map .int)] } = true := by
      have h4 := (holds_andW hc).1
      rw [hn] at h4
      exact h4
    have h5 := condW_of h4 (w_not (w_lt w_lit (w_len_list (w_arg rfl))))
    rw [List.length_map] at h5
    refine Nat.le_of_not_lt fun q => ?_
    have q' : (n : Int) < ((ns.length : Nat) : Int) := by omega
    first
      | (rw [decide_eq_true q'] at h5; exact absurd h5 (by decide))
      | (simp at h5; omega)
  cases hwl with
  | cons w1 w2 =>
    cases w2
    cases w1 with
    | list ho hall => exact ⟨_, _, ns, rfl, rfl, ho, ints_of_wellAll ns _ hall, hlen⟩

theorem post_true (l : OpenLaw) (args : List WData) : l.row.toRowW.claim.post args (.bool true) args = true :=
  postW_of (r := l.row.toRowW) (X := (true == true))
    (show WShape.has [] (.bool true) .bool = true by first | rfl | decide | simp [WShape.has, WShape.arms, WShape.armsAll])
    (show (WTm.eq .res (.lit (.bool true))).value [] { args := args, res := some (.bool true), after := args } = some (.bool (true == true)) from w_eq_bool (w_res rfl) w_lit) rfl

/-! ### the attachment: holds_open's last premise (the goal 'hc' behind k_head) from a wpAny of the law's body -/
/-! ### rules over ANY heap (no ledger) from facts about the written part K: the library's own take a ledger (News) for what they write -/
section
variable {prog : Program} {w : World} {A : Around} {E : Value → Shared → Prop} {s : Shared} {K : Frag}

/-! the whole heap as the ledger: makes every rule that writes through a ledger a rule over any heap -/
def ledger (h : Heap) (L d : Addr) : List (Addr × Obj) := (List.range h.objs.size).filterMap fun a => if a = L ∨ a = d then none else (h.get? a).map fun o => (a, o)
end
end Att

namespace L2
open PySem PySem.Spec PyProof.Rows

theorem vals_ints : ∀ {vs : List Value} {ns : List Int}, IntsAre vs ns → Vals (ns.map V.int) vs
  | _, _, .nil => .nil
  | _, _, .cons n t h => .cons ⟨t, rfl⟩ (vals_ints h)

/-- nothing is tracked but the script, known to the object (or it is an object of the module) -/
def Only (H : Hp) : Prop := ∀ b, H b = none ∨ ∃ o xs, H b = some (.frz o (.lst xs))

/-- THE HEAD: the law's promise, at the heap behind the top. F, the promise of the law's def, may use that base is part of the heap (so K.In base, base.Ns mainGlobals mg stand in Mod) -/
theorem law_call {P : Program} {w : World} {K : PySem.W.Frag} {mg mb : Str → Option Value} {CX : CXT} {k : Nat} {fa a : Addr} {fd : FuncData} {x : Str} {sp : Sp} {s₁ : Shared} {vs : List Value} {ns : List Int}
    (KX : K.In s₁.heap) (hns : s₁.heap.Ns mainGlobals mg) (hb : s₁.heap.Ns builtinsNs mb) (hbb : ∀ x : Str, x ≠ "__name__" → mb x = bootBuiltins x) (hlim : s₁.heap.NoLimit) (hg : s₁.gens = #[])
    (ha : s₁.heap.get? a = some { cls := .type "list", data := .seq vs.toArray }) (hi : IntsAre vs ns) (hl : ns.length ≤ sizeLine) (hr : Room k callerA)
    (F : ∀ base : Heap, K.In base → base.Ns mainGlobals mg → FnOk P w K mg base CX k fa fd [x] sp) (hbind : ∀ (s : Shared) (u : Value), BindsTo s fd ⟨[u], []⟩ [(x, u)])
    (hsp : ∀ H : Hp, Only H → SqL K H a (ns.map V.int) → sp [.ref a] H (fun v _ => v = .bl true) fun _ _ _ => False)
    (hCX : ∀ H e s', CX [] H s₁ (fun _ _ _ => False) e s' → False) :
    codeAny (model P w) callerA (.call (.ref fa) ⟨[.ref a], []⟩) (fun r s' => r = .ok (.ret (.bool true)) ∧ OldK s₁.heap s'.heap ∧ s'.os = s₁.os ∧ AllBare s'.gens) s₁ := by
  have rv := vals_ints hi
  have lenV := hi.length
  -- from an abstract heap in which nothing but the script may be tracked
  have core : ∀ H : Hp, Only H → SqL K H a (ns.map V.int) → HOk P w H s₁.heap → (∀ b, H b ≠ none → b = a) → (H a ≠ none → K.lookup a = none) →
      codeAny (model P w) callerA (.call (.ref fa) ⟨[.ref a], []⟩) (fun r s' => r = .ok (.ret (.bool true)) ∧ OldK s₁.heap s'.heap ∧ s'.os = s₁.os ∧ AllBare s'.gens) s₁ := by
    intro H hO hS hok hA hK
    have base_of : ∀ {b : Addr} {o : Obj}, s₁.heap.get? b = some o → H b = none → (hidT s₁.heap H).get? b = some o := fun e n => hidT_get e n
    have noA : ∀ {b : Addr} {o : Obj} {es : Array DictEntry} {ep : Nat}, s₁.heap.get? b = some o → o.data = .dict es ep → H b = none := fun {b o es ep} e d => by
      cases q : H b with
      | none => rfl
      | some u =>
        have e' : b = a := hA b (by rw [q]; simp)
        subst e'
        rw [ha] at e; cases e
        have d' : Data.seq vs.toArray _ = Data.dict es ep := d
        cases d'
    have nsK : ∀ {b : Addr} {m : Str → Option Value}, s₁.heap.Ns b m → (hidT s₁.heap H).Ns b m := fun {b m} ⟨o, es, ep, e, d, r⟩ => ⟨o, es, ep, base_of e (noA e d), d, r⟩
    have hKb : K.In (hidT s₁.heap H) := fun b o e => base_of (KX b o e) (by
      cases q : H b with
      | none => rfl
      | some u =>
        have e' : b = a := hA b (by rw [q]; simp)
        subst e'
        rw [hK (by rw [q]; simp)] at e; cases e)
    have hM : Mod K mg (hidT s₁.heap H) := ⟨hKb, nsK hns, ⟨mb, nsK hb, hbb⟩, let ⟨mc, h1, h2⟩ := hlim; ⟨mc, nsK h1, h2⟩⟩
    have e0 : Env0 P w K mg (hidT s₁.heap H) callerA [] s₁ H := ⟨rfl, hM, fun b o e => of_hidT e, Nat.le_of_eq (hidT_size _ _), trivial, fun b hb => absurd (show b ∈ ([] : List Addr) from hb) (by simp), hok, .of_eq hg⟩
    refine codeAny_mono ((F _ hKb (nsK hns)).run callerA [] s₁ H ⟨[.ref a], []⟩ [.ref a] [.ref a] _ _ hr e0 (hbind s₁ (.ref a)) (.cons rfl .nil) (hsp H hO hS)) fun r s' h => ?_
    cases r with
    | error e => exact (hCX H e s' h).elim
    | ok fl =>
      cases fl with
      | next => exact False.elim h
      | brk => exact False.elim h
      | cont => exact False.elim h
      | ret u =>
        obtain ⟨v, H', os, bare, un, hok', r', q⟩ := h
        have q' : v = .bl true := q
        subst q'
        obtain rfl : u = Value.bool true := r'
        refine ⟨rfl, OldK.of_keep fun b o e => ?_, os, bare⟩
        cases q : H b with
        | none => exact un.keep b o e q (by intro z; exact absurd (show b ∈ ([] : List Addr) from z) (by simp)) (by simp)
        | some u =>
          rcases hO b with z | ⟨ob, xs, z⟩
          · rw [q] at z; cases z
          · have z2 := un.frzs b ob _ z
            obtain ⟨e1, _⟩ := hok b _ z
            obtain ⟨e2, _⟩ := hok' b _ z2
            rw [e] at e1; cases e1
            exact e2
  cases hk : K.lookup a with
  | some o =>
    -- the script is one of the module's own objects
    have e := KX a o hk
    rw [ha] at e
    cases e
    refine core (fun _ => none) (fun _ => .inl rfl) (.inr ⟨_, vs.toArray, _, hk, rfl, rfl, rfl, by rw [List.size_toArray, lenV]; exact hl, by simpa using rv⟩) (fun b u z => by have z' : (none : Option HO) = some u := z; cases z') (fun b z => absurd rfl z) fun z => absurd rfl z
  | none =>
    refine core (fun b => if b = a then some (.frz { cls := .type "list", data := .seq vs.toArray } (.lst (ns.map V.int))) else none) (fun b => ?_) (.inl (.inr ⟨{ cls := .type "list", data := .seq vs.toArray }, if_pos rfl⟩)) (fun b u z => ?_) (fun b z => ?_) fun _ => hk
    · by_cases hb : b = a
      · exact .inr ⟨_, _, if_pos hb⟩
      · exact .inl (if_neg hb)
    · by_cases hb : b = a
      · have z' := (if_pos hb).symm.trans z
        cases z'
        subst hb
        exact ⟨ha, by rw [List.length_map]; exact hl, vs, _, rv, ha⟩
      · have z' := (if_neg hb).symm.trans z
        cases z'
    · by_cases hb : b = a
      · exact hb
      · exact absurd (if_neg hb) z
end L2

namespace L2
open PySem PySem.Spec PyProof.Rows

abbrev KOf {K : PySem.W.Frag} {h : Heap} (_ : K.In h) : PySem.W.Frag := K

end L2

/- THE LAST THEOREM (shape; LID, My.* are yours):
   My.Adr: a structure of the addresses that your layer names (classes, functions); My.Txt K t: a structure (Prop) of the equations over K;
   My.txt_mk : {K} {implicit addresses ..} (e1 : nsIn K mainGlobals "law" = some (some (.ref f))) (e2 : K.lookup f = some ⟨oc, od, .func (fnOf "law" "law" params body scope dV kV doc pm an cdv ct), sl⟩) (e3 : codeIn K cdv "law" = true) .. : ∃ t, My.Txt K t

set_option maxRecDepth 100000 in
set_option maxHeartbeats 0 in
theorem PySem.Challenge.cw_LID_holds : PySem.Challenge.rw_LID.Holds := by
  w_on; o_law; k_head; (case hw => w_witness2)
  k_fill
  refine L2.walk_of (l := PySem.Challenge.rw_LID) (n := 63) (k := 40) (x := "script") (CX := fun w => ..) (sp := fun _ => My.sp_law) rfl (by decide) rfl ⟨rfl, by decide, by decide⟩ (fun w h Y => PySem.W.kIn_of Y) ?F ?S ?C
  case F =>
    intro w mg fa h KX G hmg
    have T : ∃ t, My.Txt (L2.KOf KX) t := by
      dsimp only [L2.KOf]                          -- K must stand as «<heap const> w.params» for k_is
      refine' My.txt_mk ?e1 ?e2 ?e3 ..
      (case e1 => PySem.W.k_is)                    -- in the order: a name -> its address -> its object -> its parts
      (case e2 => PySem.W.k_is)
      ..
    obtain ⟨t, T⟩ := T
    have e0 := hmg.symm.trans (PySem.W.mg_of KX G T.law)
    cases e0                                       -- fa is the law's own address
    exact ⟨_, fun s u => .of_eq rfl, fun base kb nb => My.law_fn T kb nb⟩     -- if «.of_eq rfl» comes too early: refine' ⟨_, ?b, fun base kb nb => My.law_fn T kb nb⟩; exact fun s u => .of_eq rfl
  case S => exact fun w H a ns hl hO hS => ..
  case C => exact ..
(the tactic k_is has no namespace: write k_is) -/

/-! SHORT WORDS over the layer: a def of the text, its body, what a loop and a test want. -/
namespace L2
open PySem PySem.Spec PyProof.Rows

/-! ### the text by places -/
def defArgs (s : Stmt) : Arguments := match s with
  | .FunctionDef _ a _ _ _ _ _ _ _ _ => a
  | _ => { posonlyargs := [], args := [], vararg := none, kwonlyargs := [], kw_defaults := [], kwarg := none, defaults := [] }
def defBody (s : Stmt) : List Stmt := match s with
  | .FunctionDef _ _ b _ _ _ _ _ _ _ => b
  | _ => []
def defScope (s : Stmt) : Scope := match s with
  | .FunctionDef _ _ _ _ _ _ sc _ _ _ => sc
  | _ => { kind := .function, names := [], isGenerator := false, isCoroutine := false }

/-! ### no exception leaves a def -/
abbrev CX0 : CXT := fun _ _ _ _ _ _ => False
abbrev E0 : XK := fun _ _ _ => False
theorem pass0 {X : Cx} : Passes CX0 X E0 := fun _ _ _ _ _ _ _ h => h.elim

/-! ### a def (or method) of the text as it stands behind the top -/
structure Fun (K : PySem.W.Frag) (x qual : Str) (st : Stmt) (f : Addr) (fd : FuncData) : Prop where
  ex : ∃ (oc : Value) (od : Option Addr) (kV doc pm : Value) (an : Option Addr) (cdv ct : Value) (osl : Array (Option Value)),
    fd = PySem.W.fnOf x qual (defArgs st) (defBody st) (defScope st) .none kV doc pm an cdv ct ∧ K.lookup f = some ⟨oc, od, .func fd, osl⟩ ∧ PySem.W.codeIn K cdv qual = true
  kp : PySem.W.keepIn K (.ref f) = true
section
variable {P : Program} {w : World} {K : PySem.W.Frag} {mg : Str → Option Value} {base : Heap}
/-- THE RULE for a def: its body as a term of rules, and the reading of that term -/
theorem Fun.ok {x qual : Str} {st : Stmt} {f : Addr} {fd : FuncData} {N ps : List Str} {k : Nat} {sp : Sp} (F : Fun K x qual st f fd) (S : FnScope N ps (defScope st)) (len : ∀ vs H Q E, sp vs H Q E → vs.length = ps.length)
    (hbody : ∀ (cdv : Value) (A : Around) (outer : List Env) (s : Shared) (H : Hp) (vs : List V) (Q : VK) (E : XK), Room k (A.deeper (envOfC qual (defScope st) s.heap.objs.size f cdv)) → sp vs H Q E →
      ∃ t, PSs (cxOf CX0 P w K mg base N qual (defScope st) f cdv A outer s H E).nox (defBody st) t ∧ t { nx := fun _ H' => Q .non H', rt := Q } (start N vs) H) : FnOk P w K mg base CX0 (k + 1) f fd ps sp := by
  obtain ⟨oc, od, kV, doc, pm, an, cdv, ct, osl, rfl, lk, hcd⟩ := F.ex
  refine fn_of lk hcd S len fun A outer s H vs Q E hr hsp => ?_
  obtain ⟨t, h, q⟩ := hbody cdv A outer s H vs Q E hr hsp
  exact ⟨t, h.nox, q⟩
/-- how its arguments bind (no defaults): h is «fun _ _ _ _ _ _ us hl => match us, hl with | [_, _], _ => rfl», one _ a parameter -/
theorem Fun.binds {x qual : Str} {st : Stmt} {f : Addr} {fd : FuncData} {ps : List Str} (F : Fun K x qual st f fd)
    (h : ∀ (kV doc pm : Value) (an : Option Addr) (cdv ct : Value) (us : List Value), us.length = ps.length → bindArgs (PySem.W.fnOf x qual (defArgs st) (defBody st) (defScope st) .none kV doc pm an cdv ct) ⟨us, []⟩ = pure (ps.zip us)) : Binds K fd ps [] := by
  obtain ⟨oc, od, kV, doc, pm, an, cdv, ct, osl, rfl, lk, hcd⟩ := F.ex
  exact .all (h kV doc pm an cdv ct)
theorem fun_mk {x qual : Str} {st : Stmt} {f : Addr} {oc : Value} {od an : Option Addr} {osl : Array (Option Value)} {kV doc pm cdv ct : Value} (l : K.lookup f = some ⟨oc, od, .func (PySem.W.fnOf x qual (defArgs st) (defBody st) (defScope st) .none kV doc pm an cdv ct), osl⟩)
    (c : PySem.W.codeIn K cdv qual = true) (k : PySem.W.keepIn K (.ref f) = true) : Fun K x qual st f (PySem.W.fnOf x qual (defArgs st) (defBody st) (defScope st) .none kV doc pm an cdv ct) := ⟨⟨oc, od, kV, doc, pm, an, cdv, ct, osl, rfl, l, c⟩, k⟩
end
/-! ### expressions in short: the name that stands in the i-th slot -/
section
variable {X : Cx}
end

/-! ### tests -/
/-! ### heaps -/
end L2

set_option genInjectivity true

set_option maxHeartbeats 4000000
set_option genSizeOfSpec false
set_option backward.eqns.nonrecursive false
namespace L3
open PySem PySem.Spec PyProof.Rows L2

abbrev Sv := L2.St
/-! # Values with their tuples written out, over the hand layer -/
inductive D where
  | non | bl (b : Bool) | int (i : Int) | str (x : Str) | ty (n : String) | ref (a : Addr) | tup (xs : List D) | rl (xs : List D)
noncomputable instance : DecidableEq D := fun a b => Classical.propDecidable (a = b)

/-- what stays whatever is done: tuples, frozen things -/
structure TX (H H' : Hp) : Prop where
  tups : ∀ b xs, H b = some (.tup xs) → H' b = some (.tup xs)
  frzs : ∀ b o u, H b = some (.frz o u) → H' b = some (.frz o u)
theorem TX.refl {H : Hp} : TX H H := ⟨fun _ _ h => h, fun _ _ _ h => h⟩
theorem TX.trans {H H1 H2 : Hp} (a : TX H H1) (b : TX H1 H2) : TX H H2 := ⟨fun c x h => b.tups c x (a.tups c x h), fun c o u h => b.frzs c o u (a.frzs c o u h)⟩
theorem TX.laid {H : Hp} {p : Addr} {o : HO} (h : H p = none) : TX H (upd H p o) :=
  ⟨fun b xs e => by rw [upd_ne (ne_of_none e h)]; exact e, fun b ob u e => by rw [upd_ne (ne_of_none e h)]; exact e⟩
theorem TX.lst {H : Hp} {p : Addr} {xs : List V} {o : HO} (h : H p = some (.lst xs)) : TX H (upd H p o) :=
  ⟨fun b ys e => by rw [upd_ne (ne_of e h (by intro z; cases z))]; exact e, fun b ob u e => by rw [upd_ne (ne_of e h (by intro z; cases z))]; exact e⟩
theorem TX.seqT {K : PySem.W.Frag} {H H' : Hp} {a : Addr} {xs : List V} (t : TX H H') (h : SqT K H a xs) : SqT K H' a xs := by
  rcases h with (h | ⟨o, h⟩) | h
  · exact .inl (.inl (t.tups _ _ h))
  · exact .inl (.inr ⟨o, t.frzs _ _ _ h⟩)
  · exact .inr h
/-- a list that is read alone: the script -/
def RoL (K : PySem.W.Frag) (H : Hp) (a : Addr) (xs : List V) : Prop :=
  (∃ o, H a = some (.frz o (.lst xs))) ∨
    ∃ (o : Obj) (its : Array Value) (n : Nat), K.lookup a = some o ∧ o.cls = .type "list" ∧ o.dict = none ∧ o.data = .seq its n ∧ its.size ≤ sizeLine ∧ Vals xs its.toList
theorem RoL.sq {K : PySem.W.Frag} {H : Hp} {a : Addr} {xs : List V} (h : RoL K H a xs) : SqL K H a xs := by
  rcases h with ⟨o, h⟩ | h
  · exact .inl (.inr ⟨o, h⟩)
  · exact .inr h
theorem TX.rol {K : PySem.W.Frag} {H H' : Hp} {a : Addr} {xs : List V} (t : TX H H') (h : RoL K H a xs) : RoL K H' a xs := by
  rcases h with ⟨o, h⟩ | h
  · exact .inl ⟨o, t.frzs _ _ _ h⟩
  · exact .inr h

mutual
inductive IsV (K : PySem.W.Frag) (H : Hp) : D → V → Prop where
  | non : IsV K H .non .non
  | bl (b : Bool) : IsV K H (.bl b) (.bl b)
  | int (i : Int) : IsV K H (.int i) (.int i)
  | str (x : Str) : IsV K H (.str x) (.str x)
  | ty (n : String) : IsV K H (.ty n) (.ty n)
  | ref (a : Addr) : IsV K H (.ref a) (.ref a)
  | tup {a : Addr} {ds : List D} {vs : List V} (h : SqT K H a vs) (r : IsVs K H ds vs) : IsV K H (.tup ds) (.ref a)
  | rl {a : Addr} {ds : List D} {vs : List V} (h : RoL K H a vs) (r : IsVs K H ds vs) : IsV K H (.rl ds) (.ref a)
inductive IsVs (K : PySem.W.Frag) (H : Hp) : List D → List V → Prop where
  | nil : IsVs K H [] []
  | cons {d : D} {v : V} {ds : List D} {vs : List V} (r : IsV K H d v) (rs : IsVs K H ds vs) : IsVs K H (d :: ds) (v :: vs)
end
mutual
theorem IsV.mono {K : PySem.W.Frag} {H H' : Hp} (t : TX H H') : ∀ {d : D} {v : V}, IsV K H d v → IsV K H' d v
  | _, _, .non => .non
  | _, _, .bl b => .bl b
  | _, _, .int i => .int i
  | _, _, .str x => .str x
  | _, _, .ty n => .ty n
  | _, _, .ref a => .ref a
  | _, _, .tup h r => .tup (t.seqT h) (IsVs.mono t r)
  | _, _, .rl h r => .rl (t.rol h) (IsVs.mono t r)
theorem IsVs.mono {K : PySem.W.Frag} {H H' : Hp} (t : TX H H') : ∀ {ds : List D} {vs : List V}, IsVs K H ds vs → IsVs K H' ds vs
  | _, _, .nil => .nil
  | _, _, .cons r rs => .cons (IsV.mono t r) (IsVs.mono t rs)
end
section
variable {K : PySem.W.Frag} {H : Hp}
theorem IsVs.length : ∀ {ds : List D} {vs : List V}, IsVs K H ds vs → ds.length = vs.length
  | _, _, .nil => rfl
  | _, _, .cons _ rs => congrArg (· + 1) rs.length
theorem IsVs.get : ∀ {ds : List D} {vs : List V} {i : Nat} {d : D}, IsVs K H ds vs → ds[i]? = some d → ∃ v, vs[i]? = some v ∧ IsV K H d v
  | _, _, _, _, .nil, e => by simp at e
  | _, _, 0, _, .cons r _, e => by simp at e; subst e; exact ⟨_, rfl, r⟩
  | _, _, i + 1, d, .cons _ t, e => by
    obtain ⟨v, h1, h2⟩ := IsVs.get (i := i) (d := d) t (by simpa using e)
    exact ⟨v, by simpa using h1, h2⟩
theorem IsVs.append : ∀ {ds es : List D} {vs ws : List V}, IsVs K H ds vs → IsVs K H es ws → IsVs K H (ds ++ es) (vs ++ ws)
  | _, _, _, _, .nil, s => s
  | _, _, _, _, .cons r t, s => .cons r (IsVs.append t s)
theorem IsVs.take : ∀ {ds : List D} {vs : List V} (n : Nat), IsVs K H ds vs → IsVs K H (ds.take n) (vs.take n)
  | _, _, 0, _ => .nil
  | _, _, _ + 1, .nil => .nil
  | _, _, n + 1, .cons r t => .cons r (IsVs.take n t)
theorem IsVs.drop : ∀ {ds : List D} {vs : List V} (n : Nat), IsVs K H ds vs → IsVs K H (ds.drop n) (vs.drop n)
  | _, _, 0, r => r
  | _, _, _ + 1, .nil => .nil
  | _, _, n + 1, .cons _ t => IsVs.drop n t
theorem IsVs.ints : ∀ (ns : List Int), IsVs K H (ns.map D.int) (ns.map V.int)
  | [] => .nil
  | n :: ns => .cons (.int n) (IsVs.ints ns)
theorem IsVs.of_ints : ∀ {ns : List Int} {vs : List V}, IsVs K H (ns.map D.int) vs → vs = ns.map V.int
  | [], _, .nil => rfl
  | n :: ns, _, .cons r t => by cases r; rw [IsVs.of_ints t]; rfl
end

/-! ### the mutable objects -/
inductive OD where
  | lst (xs : List D)
  | ins (C dx : Addr) (fs : List (Str × D))
abbrev GHp := Addr → Option OD
def gupd (G : GHp) (a : Addr) (o : OD) : GHp := fun b => if b = a then some o else G b
theorem gupd_same {G : GHp} {a : Addr} {o : OD} : gupd G a o a = some o := by unfold gupd; rw [if_pos rfl]
theorem gupd_ne {G : GHp} {a b : Addr} {o : OD} (h : b ≠ a) : gupd G a o b = G b := by unfold gupd; rw [if_neg h]
theorem gne_none {G : GHp} {a b : Addr} {o : OD} (h : G a = some o) (h' : G b = none) : a ≠ b := by
  intro e; subst e; rw [h] at h'; cases h'
/-- all that was there is there still -/
def GS (G G' : GHp) : Prop := ∀ b o, G b = some o → G' b = some o
theorem GS.refl {G : GHp} : GS G G := fun _ _ h => h
theorem GS.trans {G G1 G2 : GHp} (a : GS G G1) (b : GS G1 G2) : GS G G2 := fun c o h => b c o (a c o h)
theorem GS.laid {G : GHp} {p : Addr} {o : OD} (h : G p = none) : GS G (gupd G p o) := fun b u e => by rw [gupd_ne (gne_none e h)]; exact e
/-- fields, one by one -/
inductive IsFs (K : PySem.W.Frag) (H : Hp) : List (Str × D) → List (Str × V) → Prop where
  | nil : IsFs K H [] []
  | cons {x : Str} {d : D} {v : V} {ds : List (Str × D)} {vs : List (Str × V)} (r : IsV K H d v) (rs : IsFs K H ds vs) : IsFs K H ((x, d) :: ds) ((x, v) :: vs)
theorem IsFs.mono {K : PySem.W.Frag} {H H' : Hp} (t : TX H H') : ∀ {ds : List (Str × D)} {vs : List (Str × V)}, IsFs K H ds vs → IsFs K H' ds vs
  | _, _, .nil => .nil
  | _, _, .cons r rs => .cons (r.mono t) (IsFs.mono t rs)
inductive OkO (K : PySem.W.Frag) (H : Hp) (a : Addr) : OD → Prop where
  | lst {ds : List D} {vs : List V} (h : H a = some (.lst vs)) (r : IsVs K H ds vs) : OkO K H a (.lst ds)
  | ins {C dx : Addr} {fs : List (Str × D)} {fv : List (Str × V)} (h : H a = some (.ins C dx fv)) (r : IsFs K H fs fv) : OkO K H a (.ins C dx fs)
theorem OkO.there {K : PySem.W.Frag} {H : Hp} {a : Addr} {o : OD} (h : OkO K H a o) : ∃ u, H a = some u := by
  cases h with
  | lst h _ => exact ⟨_, h⟩
  | ins h _ => exact ⟨_, h⟩
theorem OkO.keep {K : PySem.W.Frag} {H H' : Hp} {a : Addr} {o : OD} (t : TX H H') (e : H' a = H a) (h : OkO K H a o) : OkO K H' a o := by
  cases h with
  | lst h r => exact .lst (e.trans h) (r.mono t)
  | ins h r => exact .ins (e.trans h) (r.mono t)
def GOk (K : PySem.W.Frag) (G : GHp) (H : Hp) : Prop := ∀ a o, G a = some o → OkO K H a o
theorem GOk.free {K : PySem.W.Frag} {G : GHp} {H : Hp} (g : GOk K G H) {p : Addr} (h : H p = none) : G p = none := by
  cases q : G p with
  | none => rfl
  | some o => obtain ⟨u, e⟩ := (g p o q).there; rw [h] at e; cases e
/-- one address is laid or rewritten -/
theorem GOk.put {K : PySem.W.Frag} {G : GHp} {H : Hp} {p : Addr} {o : OD} {u : HO} (g : GOk K G H) (t : TX H (upd H p u)) (n : OkO K (upd H p u) p o) : GOk K (gupd G p o) (upd H p u) := fun a q e => by
  by_cases h : a = p
  · subst h; rw [gupd_same] at e; cases e; exact n
  · rw [gupd_ne h] at e; exact (g a q e).keep t (upd_ne h)
/-- an address that the mutable objects know nothing of -/
theorem GOk.laid {K : PySem.W.Frag} {G : GHp} {H : Hp} {p : Addr} {u : HO} (g : GOk K G H) (h : H p = none) : GOk K G (upd H p u) := fun a q e => by
  obtain ⟨v, hv⟩ := (g a q e).there
  exact (g a q e).keep (.laid h) (upd_ne (ne_of_none hv h))

/-! ### the judgements -/
abbrev DK := D → GHp → Prop
abbrev StD := List (Option D)
abbrev TED := StD → GHp → DK → Prop
abbrev TTD := StD → GHp → (Bool → GHp → Prop) → Prop
abbrev TAD := StD → GHp → (List D → GHp → Prop) → Prop
structure EndsD where
  nx : StD → GHp → Prop
  rt : DK
  bk : StD → GHp → Prop := fun _ _ => False
  ct : StD → GHp → Prop := fun _ _ => False
abbrev TSD := EndsD → StD → GHp → Prop
def IsSt (K : PySem.W.Frag) (H : Hp) (σd : StD) (σ : Sv) : Prop := ∀ (i : Nat) (d : D), σd[i]? = some (some d) → ∃ v, σ[i]? = some (some v) ∧ IsV K H d v
theorem IsSt.mono {K : PySem.W.Frag} {H H' : Hp} {σd : StD} {σ : Sv} (t : TX H H') (h : IsSt K H σd σ) : IsSt K H' σd σ := fun i d e => by
  obtain ⟨v, e1, r⟩ := h i d e
  exact ⟨v, e1, r.mono t⟩
structure J (X : Cx) (pins : List (Addr × Obj)) (σd : StD) (G : GHp) (σ : Sv) (H : Hp) (s : Shared) : Prop where
  inv : Inv X pins σ H s
  len : σd.length = σ.length
  st : IsSt X.K H σd σ
  gh : GOk X.K G H
def EPD (X : Cx) (pins : List (Addr × Obj)) (σd : StD) (σ : Sv) (H : Hp) (Q : DK) (u : Value) (s' : Shared) : Prop := ∃ d v G' H', J X pins σd G' σ H' s' ∧ TX H H' ∧ IsV X.K H' d v ∧ RelV v u ∧ Q d G'
def TPD (X : Cx) (pins : List (Addr × Obj)) (σd : StD) (σ : Sv) (H : Hp) (Q : Bool → GHp → Prop) (b : Bool) (s' : Shared) : Prop := ∃ G' H', J X pins σd G' σ H' s' ∧ TX H H' ∧ Q b G'
def APD (X : Cx) (pins : List (Addr × Obj)) (σd : StD) (σ : Sv) (H : Hp) (Q : List D → GHp → Prop) (us : List Value) (s' : Shared) : Prop := ∃ ds vs G' H', J X pins σd G' σ H' s' ∧ TX H H' ∧ IsVs X.K H' ds vs ∧ Vals vs us ∧ Q ds G'
def SPD (X : Cx) (pins : List (Addr × Obj)) (H : Hp) (E : EndsD) (f : Flow) (s' : Shared) : Prop :=
  match f with
  | .next => ∃ σd' G' σ' H', J X pins σd' G' σ' H' s' ∧ TX H H' ∧ E.nx σd' G'
  | .brk => ∃ σd' G' σ' H', J X pins σd' G' σ' H' s' ∧ TX H H' ∧ E.bk σd' G'
  | .cont => ∃ σd' G' σ' H', J X pins σd' G' σ' H' s' ∧ TX H H' ∧ E.ct σd' G'
  | .ret u => ∃ d v σd' G' σ' H', J X pins σd' G' σ' H' s' ∧ TX H H' ∧ IsV X.K H' d v ∧ RelV v u ∧ E.rt d G'
theorem EPD.use {X : Cx} {pins : List (Addr × Obj)} {σd : StD} {σ : Sv} {H : Hp} {Q : DK} {u : Value} {s' : Shared} {C : Prop} (h : EPD X pins σd σ H Q u s') (k : ∀ d v G' H', J X pins σd G' σ H' s' → TX H H' → IsV X.K H' d v → RelV v u → Q d G' → C) : C := by
  obtain ⟨d, v, G', H', a, b, c, e, f⟩ := h
  exact k d v G' H' a b c e f
theorem TPD.use {X : Cx} {pins : List (Addr × Obj)} {σd : StD} {σ : Sv} {H : Hp} {Q : Bool → GHp → Prop} {u : Bool} {s' : Shared} {C : Prop} (h : TPD X pins σd σ H Q u s') (k : ∀ G' H', J X pins σd G' σ H' s' → TX H H' → Q u G' → C) : C := by
  obtain ⟨G', H', a, b, c⟩ := h
  exact k G' H' a b c
theorem APD.use {X : Cx} {pins : List (Addr × Obj)} {σd : StD} {σ : Sv} {H : Hp} {Q : List D → GHp → Prop} {u : List Value} {s' : Shared} {C : Prop} (h : APD X pins σd σ H Q u s') (k : ∀ d v G' H', J X pins σd G' σ H' s' → TX H H' → IsVs X.K H' d v → Vals v u → Q d G' → C) : C := by
  obtain ⟨d, v, G', H', a, b, c, e, f⟩ := h
  exact k d v G' H' a b c e f
def PED (X : Cx) (e : Expr) (t : TED) : Prop :=
  ∀ (pins : List (Addr × Obj)) (s : Shared) (σd : StD) (G : GHp) (σ : Sv) (H : Hp) (Q : DK), J X pins σd G σ H s → t σd G Q → wpAny (model X.prog X.w) X.A (eval e X.env) (EPD X pins σd σ H Q) X.xe s
def PTD (X : Cx) (e : Expr) (t : TTD) : Prop :=
  ∀ (pins : List (Addr × Obj)) (s : Shared) (σd : StD) (G : GHp) (σ : Sv) (H : Hp) (Q : Bool → GHp → Prop), J X pins σd G σ H s → t σd G Q → wpAny (model X.prog X.w) X.A (isTrue e X.env (eval e X.env)) (TPD X pins σd σ H Q) X.xe s
def PWD (X : Cx) (e : Expr) (t : TTD) : Prop :=
  ∀ (whole : Sem Value) (pins : List (Addr × Obj)) (s : Shared) (σd : StD) (G : GHp) (σ : Sv) (H : Hp) (Q : Bool → GHp → Prop), J X pins σd G σ H s → t σd G Q → wpAny (model X.prog X.w) X.A (isTrue e X.env whole) (TPD X pins σd σ H Q) X.xe s
theorem PWD.pt {X : Cx} {e : Expr} {t : TTD} (h : PWD X e t) : PTD X e t := h _
def PAD (X : Cx) (es : List Expr) (t : TAD) : Prop :=
  ∀ (pos : Pos) (pins : List (Addr × Obj)) (s : Shared) (σd : StD) (G : GHp) (σ : Sv) (H : Hp) (Q : List D → GHp → Prop), J X pins σd G σ H s → t σd G Q → wpAny (model X.prog X.w) X.A (spliced (backTo pos (starEach es X.env))) (APD X pins σd σ H Q) X.xe s
def PSD (X : Cx) (st : Stmt) (t : TSD) : Prop :=
  ∀ (pins : List (Addr × Obj)) (s : Shared) (σd : StD) (G : GHp) (σ : Sv) (H : Hp) (E : EndsD), J X pins σd G σ H s → t E σd G → wpAny (model X.prog X.w) X.A (exec st X.env) (SPD X pins H E) X.xe s
def PSsD (X : Cx) (sts : List Stmt) (t : TSD) : Prop :=
  ∀ (pins : List (Addr × Obj)) (s : Shared) (σd : StD) (G : GHp) (σ : Sv) (H : Hp) (E : EndsD), J X pins σd G σ H s → t E σd G → wpAny (model X.prog X.w) X.A (execs sts X.env) (SPD X pins H E) X.xe s

section
variable {X : Cx} {pins : List (Addr × Obj)} {σd : StD} {G G' : GHp} {σ : Sv} {H H' : Hp} {s s' : Shared}
theorem EPD.from {Q : DK} {u : Value} (h : EPD X pins σd σ H' Q u s) (t : TX H H') : EPD X pins σd σ H Q u s := by
  obtain ⟨d, v, G', H2, j, t2, q⟩ := h
  exact ⟨d, v, G', H2, j, t.trans t2, q⟩
theorem TPD.from {Q : Bool → GHp → Prop} {b : Bool} (h : TPD X pins σd σ H' Q b s) (t : TX H H') : TPD X pins σd σ H Q b s := by
  obtain ⟨G', H2, j, t2, q⟩ := h
  exact ⟨G', H2, j, t.trans t2, q⟩
theorem SPD.from {E : EndsD} {f : Flow} (h : SPD X pins H' E f s) (t : TX H H') : SPD X pins H E f s := by
  cases f with
  | next => obtain ⟨a, b, c, H2, j, t2, q⟩ := h; exact ⟨a, b, c, H2, j, t.trans t2, q⟩
  | brk => obtain ⟨a, b, c, H2, j, t2, q⟩ := h; exact ⟨a, b, c, H2, j, t.trans t2, q⟩
  | cont => obtain ⟨a, b, c, H2, j, t2, q⟩ := h; exact ⟨a, b, c, H2, j, t.trans t2, q⟩
  | ret u => obtain ⟨d, v, a, b, c, H2, j, t2, q⟩ := h; exact ⟨d, v, a, b, c, H2, j, t.trans t2, q⟩
/-- behind a step that leaves the frame's values -/
theorem J.next (j : J X pins σd G σ H s) (I : Inv X pins σ H' s') (t : TX H H') (g : GOk X.K G' H') : J X pins σd G' σ H' s' := ⟨I, j.len, j.st.mono t, g⟩
/-- what an end at the layer below must say -/
abbrev Up (K : PySem.W.Frag) (H : Hp) (Q : DK) : VK := fun v H' => ∃ d G', TX H H' ∧ GOk K G' H' ∧ IsV K H' d v ∧ Q d G'
theorem J.up {Q : DK} {u : Value} (j : J X pins σd G σ H s) (h : EP X pins σ (Up X.K H Q) u s') : EPD X pins σd σ H Q u s' := by
  obtain ⟨v, H', I, r, d, G', t, g, iv, q⟩ := h
  exact ⟨d, v, G', H', j.next I t g, t, iv, r, q⟩
theorem Up.same {K : PySem.W.Frag} {Q : DK} {d : D} {v : V} (g : GOk K G H) (r : IsV K H d v) (q : Q d G) : Up K H Q v H := ⟨d, G, .refl, g, r, q⟩
theorem Up.newL {K : PySem.W.Frag} {Q : DK} {ds : List D} {vs : List V} {p : Addr} (g : GOk K G H) (h : H p = none) (r : IsVs K H ds vs) (q : Q (.ref p) (gupd G p (.lst ds))) : Up K H Q (.ref p) (upd H p (.lst vs)) :=
  ⟨.ref p, _, .laid h, g.put (.laid h) (.lst upd_same (r.mono (.laid h))), .ref p, q⟩
theorem Up.newT {K : PySem.W.Frag} {Q : DK} {ds : List D} {vs : List V} {p : Addr} (g : GOk K G H) (h : H p = none) (r : IsVs K H ds vs) (q : Q (.tup ds) G) : Up K H Q (.ref p) (upd H p (.tup vs)) :=
  ⟨.tup ds, G, .laid h, g.laid h, .tup (SqT.of upd_same) (r.mono (.laid h)), q⟩
theorem Up.setL {K : PySem.W.Frag} {Q : DK} {d : D} {v : V} {ds : List D} {vs ws : List V} {p : Addr} (g : GOk K G H) (h : H p = some (.lst ws)) (r : IsVs K H ds vs) (rv : IsV K H d v) (q : Q d (gupd G p (.lst ds))) : Up K H Q v (upd H p (.lst vs)) :=
  ⟨d, _, .lst h, g.put (.lst h) (.lst upd_same (r.mono (.lst h))), rv.mono (.lst h), q⟩

/-! ### names and constants -/
def dVar (i : Nat) : TED := fun σd G Q => match σd[i]? with
  | some (some d) => Q d G
  | _ => False
def dC (d : D) : TED := fun _ G Q => Q d G
theorem de_var {i : Nat} {x : Str} {pos : Pos} (h : PE X (.Name x pos) (tVar i)) : PED X (.Name x pos) (dVar i) := by
  intro pins s σd G σ H Q j hq
  unfold dVar at hq
  split at hq
  · rename_i d e
    obtain ⟨v, e1, r⟩ := j.st i d e
    exact thn (h pins s σ H _ j.inv ⟨v, e1, Up.same j.gh r hq⟩) fun u s' z => j.up z
  · exact False.elim hq
theorem dv (i : Nat) {x : Str} {pos : Pos} (hN : X.N[i]? = some x := by rfl) (hv : Vis X.env.scope x := by first | exact Or.inl rfl | exact Or.inr (Or.inl rfl) | exact Or.inr (Or.inr rfl)) (hd : (x == ("__debug__" : Str)) = false := by decide)
    (hcd : (x == ("__classdict__" : Str)) = false := by decide) : PED X (.Name x pos) (dVar i) := de_var (pe_var hN hv hd hcd)
theorem de_const {e : Expr} {v : V} {d : D} (h : PE X e (tC v)) (r : ∀ K H, IsV K H d v) : PED X e (dC d) := by
  intro pins s σd G σ H Q j hq
  exact thn (h pins s σ H (Up X.K H Q) j.inv (Up.same j.gh (r _ _) hq)) fun u s' z => j.up z
theorem de_int {i j pos} : PED X (.Constant (.int i) j pos) (dC (.int i)) := de_const pe_int fun _ _ => .int i
theorem de_bl {b j pos} : PED X (.Constant (.bool b) j pos) (dC (.bl b)) := de_const pe_bl fun _ _ => .bl b
theorem de_str {x j pos} : PED X (.Constant (.str x) j pos) (dC (.str x)) := de_const pe_str fun _ _ => .str x
theorem de_ty {x : Str} {T : String} {pos : Pos} (hg : Gl X x) (hm : X.mg x = none) (hv : bootBuiltins x = some (.type T)) (hn : x ≠ "__name__" := by decide) (hd : (x == ("__debug__" : Str)) = false := by decide) : PED X (.Name x pos) (dC (.ty T)) :=
  de_const (pe_bltn (v := .ty T) hg hm hv rfl hn hd) fun _ _ => .ty T
end

/-- sizes that must fit, kept shut -/
structure Fits (n : Nat) : Prop where
  le : n ≤ sizeLine
structure MulOk (a b : Int) : Prop where
  ok : IntMulOk a b
structure PowOk (i j : Int) : Prop where
  nn : 0 ≤ j
  le : j ≤ 1000000
  lt : i.natAbs < 2 ^ 64
/-! ### operations -/
abbrev RD2 := D → D → GHp → DK → Prop
def OpD (X : Cx) (f : Value → Value → Sem Value) (r : RD2) : Prop :=
  ∀ (pins : List (Addr × Obj)) (s : Shared) (σd : StD) (G : GHp) (σ : Sv) (H : Hp) (dx dy : D) (x y : V) (v u : Value) (Q : DK), J X pins σd G σ H s → IsV X.K H dx x → IsV X.K H dy y → RelV x v → RelV y u → r dx dy G Q →
    wpAny (model X.prog X.w) X.A (f v u) (EPD X pins σd σ H Q) X.xe s
def UnD (X : Cx) (f : Value → Sem Value) (r : D → GHp → DK → Prop) : Prop :=
  ∀ (pins : List (Addr × Obj)) (s : Shared) (σd : StD) (G : GHp) (σ : Sv) (H : Hp) (dx : D) (x : V) (v : Value) (Q : DK), J X pins σd G σ H s → IsV X.K H dx x → RelV x v → r dx G Q →
    wpAny (model X.prog X.w) X.A (f v) (EPD X pins σd σ H Q) X.xe s
def CallD (X : Cx) (f : Value) (r : List D → GHp → DK → Prop) : Prop :=
  ∀ (pins : List (Addr × Obj)) (s : Shared) (σd : StD) (G : GHp) (σ : Sv) (H : Hp) (ds : List D) (xs : List V) (us : List Value) (Q : DK), J X pins σd G σ H s → IsVs X.K H ds xs → Vals xs us → r ds G Q →
    wpAny (model X.prog X.w) X.A (call f us) (EPD X pins σd σ H Q) X.xe s
section
variable {X : Cx} {f : Value → Value → Sem Value} {g : Value → Sem Value}
theorem OpD.of {r : R2} {rd : RD2} (h : OpR X f r) (k : ∀ (G : GHp) (H : Hp) (dx dy : D) (x y : V) (Q : DK), GOk X.K G H → IsV X.K H dx x → IsV X.K H dy y → rd dx dy G Q → r x y H (Up X.K H Q)) : OpD X f rd :=
  fun pins s σd G σ H dx dy x y v u Q j ix iy rx ry q => thn (h pins s σ H x y v u _ j.inv rx ry (k G H dx dy x y Q j.gh ix iy q)) fun _ _ z => j.up z
theorem UnD.of {r : V → Hp → VK → Prop} {rd : D → GHp → DK → Prop} (h : UnR X g r) (k : ∀ (G : GHp) (H : Hp) (dx : D) (x : V) (Q : DK), GOk X.K G H → IsV X.K H dx x → rd dx G Q → r x H (Up X.K H Q)) : UnD X g rd :=
  fun pins s σd G σ H dx x v Q j ix rx q => thn (h pins s σ H x v _ j.inv rx (k G H dx x Q j.gh ix q)) fun _ _ z => j.up z
theorem CallD.of {c : Value} {r : List V → Hp → VK → Prop} {rd : List D → GHp → DK → Prop} (h : CallR X c r) (k : ∀ (G : GHp) (H : Hp) (ds : List D) (xs : List V) (Q : DK), GOk X.K G H → IsVs X.K H ds xs → rd ds G Q → r xs H (Up X.K H Q)) : CallD X c rd :=
  fun pins s σd G σ H ds xs us Q j ix rx q => thn (h pins s σ H xs us _ j.inv rx (k G H ds xs Q j.gh ix q)) fun _ _ z => j.up z

/-- ints in, under C, a value out -/
def qI (C : Int → Int → Prop) (g : Int → Int → D) : RD2 := fun x y G Q => match x, y with
  | .int i, .int j => C i j ∧ Q (g i j) G
  | _, _ => False
theorem OpD.ints {C : Int → Int → Prop} {g : Int → Int → V} {gd : Int → Int → D} (h : OpR X f (rI C g)) (k : ∀ K H i j, IsV K H (gd i j) (g i j)) : OpD X f (qI C gd) := .of h fun G H dx dy x y Q gok ix iy q => by
  cases ix <;> cases iy <;> first
    | exact False.elim q
    | exact ⟨_, _, rfl, rfl, q.1, Up.same gok (k _ _ _ _) q.2⟩
/-- ints, nothing asked -/
def qI0 (g : Int → Int → D) : RD2 := fun x y G Q => match x, y with
  | .int i, .int j => Q (g i j) G
  | _, _ => False
theorem OpD.ints1 {g : Int → Int → V} {gd : Int → Int → D} (h : OpR X f (rI0 g)) (k : ∀ K H i j, IsV K H (gd i j) (g i j)) : OpD X f (qI0 gd) := .of h fun G H dx dy x y Q gok ix iy q => by
  cases ix <;> cases iy <;> first
    | exact False.elim q
    | exact ⟨_, _, rfl, rfl, Up.same gok (k _ _ _ _) q⟩
theorem od_sub : OpD X (binaryOp .Sub) (qI0 fun i j => .int (i - j)) := .ints1 op_sub fun _ _ i j => .int (i - j)
theorem od_lt : OpD X (compareOp .Lt) (qI0 fun i j => .bl (decide (i < j))) := .ints1 op_lt fun _ _ i j => .bl (decide (i < j))
theorem od_le : OpD X (compareOp .LtE) (qI0 fun i j => .bl (decide (i ≤ j))) := .ints1 op_le fun _ _ i j => .bl (decide (i ≤ j))
theorem od_gt : OpD X (compareOp .Gt) (qI0 fun i j => .bl (decide (j < i))) := .ints1 op_gt fun _ _ i j => .bl (decide (j < i))
theorem od_ge : OpD X (compareOp .GtE) (qI0 fun i j => .bl (decide (j ≤ i))) := .ints1 op_ge fun _ _ i j => .bl (decide (j ≤ i))
/-- a product: the sizes fit -/
theorem op_mulB : OpR X (binaryOp .Mult) (rI L3.MulOk fun i j => .int (i * j)) := opI fun _ _ _ _ _ _ _ hc q => mul_int q hc.ok
theorem od_mul : OpD X (binaryOp .Mult) (qI L3.MulOk fun i j => .int (i * j)) := .ints op_mulB fun _ _ i j => .int (i * j)
/-- // and % -/
def CDivB (_ j : Int) : Prop := j ≠ 0 ∧ j.natAbs < 2 ^ 9000
theorem op_fdivB : OpR X (binaryOp .FloorDiv) (rI CDivB fun i j => .int (i.fdiv j)) := opI fun i j _ _ _ _ _ hc q =>
  floordiv_int hc.1 q (.inl (PyProof.noPylong_of_log2 ((Nat.log2_lt (by have := hc.1; omega)).mpr hc.2)))
theorem od_fdiv : OpD X (binaryOp .FloorDiv) (qI CDivB fun i j => .int (i.fdiv j)) := .ints op_fdivB fun _ _ i j => .int (i.fdiv j)
/-- .. by a positive number -/
def CDivP (_ j : Int) : Prop := 0 < j ∧ j.natAbs < 2 ^ 9000
theorem op_fdivP : OpR X (binaryOp .FloorDiv) (rI CDivP fun i j => .int (i / j)) := opI fun i j _ _ _ _ _ hc q => by
  have h1 : (0 : Int) < j := hc.1
  exact floordiv_int (by omega) (by rw [Int.fdiv_eq_ediv_of_nonneg i (by omega)]; exact q) (.inl (PyProof.noPylong_of_log2 ((Nat.log2_lt (by omega)).mpr hc.2)))
theorem od_fdivP : OpD X (binaryOp .FloorDiv) (qI CDivP fun i j => .int (i / j)) := .ints op_fdivP fun _ _ i j => .int (i / j)
theorem od_modP : OpD X (binaryOp .Mod) (qI (fun _ j => 0 < j) fun i j => .int (i % j)) := .ints op_mod fun _ _ i j => .int (i % j)
theorem op_powB : OpR X (binaryOp .Pow) (rI PowOk fun i j => .int (i ^ j.toNat)) := opI fun _ _ _ _ _ _ _ hc q => pow_int_small hc.nn hc.le hc.lt q
theorem od_pow : OpD X (binaryOp .Pow) (qI PowOk fun i j => .int (i ^ j.toNat)) := .ints op_powB fun _ _ i j => .int (i ^ j.toNat)
/-- + of ints, texts, lists -/
def qAdd : RD2 := fun x y G Q => match x, y with
  | .int i, .int j => Q (.int (i + j)) G
  | .str i, .str j => Fits (i.length + j.length) ∧ Q (.str (i ++ j)) G
  | .ref a, .ref b => match G a, G b with
    | some (.lst xs), some (.lst ys) => Fits (xs.length + ys.length) ∧ ∀ p, G p = none → Q (.ref p) (gupd G p (.lst (xs ++ ys)))
    | _, _ => False
  | _, _ => False
theorem od_add : OpD X (binaryOp .Add) qAdd := .of (op_add.or (op_add_str.or op_cat)) fun G H dx dy x y Q gok ix iy q => by
  cases ix <;> cases iy <;> first
    | exact False.elim q
    | exact .inl ⟨_, _, rfl, rfl, Up.same gok (.int _) q⟩
    | exact .inr (.inl ⟨_, _, rfl, rfl, q.1.le, Up.same gok (.str _) q.2⟩)
    | skip
  unfold qAdd at q
  dsimp only at q
  split at q
  rotate_left
  · exact False.elim q
  rename_i xs ys ha hb
  obtain ⟨hz, q⟩ := q
  obtain ⟨h1, r1⟩ := gok _ _ ha
  obtain ⟨h2, r2⟩ := gok _ _ hb
  exact .inr (.inr ⟨_, _, _, _, rfl, rfl, h1, h2, by rw [← r1.length, ← r2.length]; exact hz.le, fun p hp => Up.newL gok hp (r1.append r2) (q p (gok.free hp))⟩)
def qUn (g : Int → D) : D → GHp → DK → Prop := fun x G Q => match x with
  | .int i => Q (g i) G
  | _ => False
theorem ud_neg : UnD X (unaryOp .USub) (qUn fun i => .int (-i)) := .of un_neg fun G H dx x Q gok ix q => by
  cases ix <;> first
    | exact False.elim q
    | exact ⟨_, rfl, Up.same gok (.int _) q⟩
/-- == and != of scalars -/
def scalD : D → D → Bool
  | .non, .non => true | .non, .int _ => true | .int _, .non => true | .non, .bl _ => true | .bl _, .non => true | .non, .str _ => true | .str _, .non => true
  | .int _, .int _ => true | .bl _, .bl _ => true | .str _, .str _ => true
  | .int _, .str _ => true | .str _, .int _ => true | .bl _, .str _ => true | .str _, .bl _ => true
  | _, _ => false
def qEq : RD2 := fun x y G Q => match x, y with
  | .int i, .int j => Q (.bl (decide (i = j))) G
  | .bl i, .bl j => Q (.bl (decide (i = j))) G
  | .str i, .str j => Q (.bl (decide (i = j))) G
  | x, y => scalD x y = true ∧ Q (.bl (decide (x = y))) G
def qNe : RD2 := fun x y G Q => match x, y with
  | .int i, .int j => Q (.bl (!decide (i = j))) G
  | .bl i, .bl j => Q (.bl (!decide (i = j))) G
  | .str i, .str j => Q (.bl (!decide (i = j))) G
  | x, y => scalD x y = true ∧ Q (.bl (!decide (x = y))) G
theorem dd_int {i j : Int} : decide (V.int i = V.int j) = decide (i = j) := by simp
theorem dd_bl {i j : Bool} : decide (V.bl i = V.bl j) = decide (i = j) := by simp
theorem dd_str {i j : Str} : decide (V.str i = V.str j) = decide (i = j) := by simp
theorem od_eq : OpD X (compareOp .Eq) qEq := .of op_eq fun G H dx dy x y Q gok ix iy q => by
  cases ix <;> cases iy <;> first
    | (have z : false = true := q.1; cases z)
    | exact ⟨rfl, Up.same gok (.bl _) (by rw [dd_int]; exact q)⟩
    | exact ⟨rfl, Up.same gok (.bl _) (by rw [dd_bl]; exact q)⟩
    | exact ⟨rfl, Up.same gok (.bl _) (by rw [dd_str]; exact q)⟩
    | exact ⟨rfl, Up.same gok (.bl _) (by have z := q.2; simpa using z)⟩
theorem od_ne : OpD X (compareOp .NotEq) qNe := .of op_ne fun G H dx dy x y Q gok ix iy q => by
  cases ix <;> cases iy <;> first
    | (have z : false = true := q.1; cases z)
    | exact ⟨rfl, Up.same gok (.bl _) (by rw [dd_int]; exact q)⟩
    | exact ⟨rfl, Up.same gok (.bl _) (by rw [dd_bl]; exact q)⟩
    | exact ⟨rfl, Up.same gok (.bl _) (by rw [dd_str]; exact q)⟩
    | exact ⟨rfl, Up.same gok (.bl _) (by have z := q.2; simpa using z)⟩
end

/-! ### expressions -/
def dOp (r : RD2) (ta tb : TED) : TED := fun σd G Q => ta σd G fun x G1 => tb σd G1 fun y G2 => r x y G2 Q
def dUn (r : D → GHp → DK → Prop) (ta : TED) : TED := fun σd G Q => ta σd G fun x G1 => r x G1 Q
def dTest (t : TED) : TTD := fun σd G Q => t σd G fun x G' => match x with
  | .bl k => Q k G'
  | _ => False
def dAnd (t u : TTD) : TTD := fun σd G Q => t σd G fun c G1 => if c = true then u σd G1 Q else Q false G1
def dOr (t u : TTD) : TTD := fun σd G Q => t σd G fun c G1 => if c = true then Q true G1 else u σd G1 Q
def dNot (t : TTD) : TTD := fun σd G Q => t σd G fun c G1 => Q (!c) G1
def dAndV (ta tb : TED) : TED := fun σd G Q => ta σd G fun x G1 => match x with
  | .bl c => if c = true then tb σd G1 Q else Q (.bl false) G1
  | _ => False
def dIf (t : TTD) (ta tb : TED) : TED := fun σd G Q => t σd G fun c G1 => if c = true then ta σd G1 Q else tb σd G1 Q
def dNil : TAD := fun _ G Q => Q [] G
def dCons (ta : TED) (tr : TAD) : TAD := fun σd G Q => ta σd G fun x G1 => tr σd G1 fun xs G2 => Q (x :: xs) G2
def dTup (t : TAD) : TED := fun σd G Q => t σd G fun xs G1 => Fits xs.length ∧ Q (.tup xs) G1
def dLst (t : TAD) : TED := fun σd G Q => t σd G fun xs G1 => Fits xs.length ∧ ∀ p, G1 p = none → Q (.ref p) (gupd G1 p (.lst xs))
section
variable {X : Cx} {a b c e : Expr} {es rest : List Expr} {ta tb : TED} {tA tB : TTD} {t : TAD} {pos : Pos}
/-- two expressions in a row -/
theorem binD (ha : PED X a ta) (hb : PED X b tb) {pins : List (Addr × Obj)} {s : Shared} {σd : StD} {G : GHp} {σ : Sv} {H : Hp} {R : D → D → GHp → Prop} (j : J X pins σd G σ H s) (h : ta σd G fun x G1 => tb σd G1 fun y G2 => R x y G2)
    {α : Type} {Q : α → Shared → Prop} {f : Value → Value → Sem α}
    (hf : ∀ v u s2 dx dy x y G2 H2, J X pins σd G2 σ H2 s2 → TX H H2 → IsV X.K H2 dx x → IsV X.K H2 dy y → RelV x v → RelV y u → R dx dy G2 → wpAny (model X.prog X.w) X.A (f v u) Q X.xe s2) :
    wpAny (model X.prog X.w) X.A (eval a X.env) (fun v s₁ => wpAny (model X.prog X.w) X.A (eval b X.env) (fun u s₂ => wpAny (model X.prog X.w) X.A (f v u) Q X.xe s₂) X.xe s₁) X.xe s := by
  refine thn (ha pins s σd G σ H _ j h) fun v s1 zz => zz.use fun dx x G1 H1 j1 t1 i1 r1 q1 => ?_
  refine thn (hb pins s1 σd G1 σ H1 _ j1 q1) fun u s2 zz => zz.use fun dy y G2 H2 j2 t2 i2 r2 q2 => ?_
  exact hf v u s2 dx dy x y G2 H2 j2 (t1.trans t2) (i1.mono t2) i2 r1 r2 q2
theorem de_op {op : Operator} {r : RD2} (ho : OpD X (binaryOp op) r) (ha : PED X a ta) (hb : PED X b tb) : PED X (.BinOp a op b pos) (dOp r ta tb) := by
  intro pins s σd G σ H Q j h
  exact wpAny_BinOp (binD ha hb j h fun v u s2 dx dy x y G2 H2 j2 t2 ix iy rx ry q => thn (ho pins s2 σd G2 σ H2 dx dy x y v u Q j2 ix iy rx ry q) fun _ _ z => z.from t2)
theorem de_un {op : UnaryOp} {r : D → GHp → DK → Prop} (ho : UnD X (unaryOp op) r) (ha : PED X a ta) : PED X (.UnaryOp op a pos) (dUn r ta) := by
  intro pins s σd G σ H Q j h
  exact UnaryOp_ (thn (ha pins s σd G σ H _ j h) fun v s1 zz => zz.use fun dx x G1 H1 j1 t1 i1 r1 q1 => thn (ho pins s1 σd G1 σ H1 dx x v Q j1 i1 r1 q1) fun _ _ z => z.from t1)
theorem de_cmp {op : CmpOp} {r : RD2} (ho : OpD X (compareOp op) r) (ha : PED X a ta) (hb : PED X b tb) (hm : behindInMarks op b = false) : PED X (.Compare a [op] [b] pos) (dOp r ta tb) := by
  intro pins s σd G σ H Q j h
  exact wpAny_Compare1 (binD ha hb j h fun v u s2 dx dy x y G2 H2 j2 t2 ix iy rx ry q => thn (ho pins s2 σd G2 σ H2 dx dy x y v u Q j2 ix iy rx ry q) fun _ _ z => z.from t2) hm
theorem IsV.bl_of {K : PySem.W.Frag} {H : Hp} {k : Bool} {v : V} {u : Value} (i : IsV K H (.bl k) v) (r : RelV v u) : u = .bool k := by cases i; exact r
theorem dt_cmp {op : CmpOp} {r : RD2} (ho : OpD X (compareOp op) r) (ha : PED X a ta) (hb : PED X b tb) (hm : behindInMarks op b = false) : PTD X (.Compare a [op] [b] pos) (dTest (dOp r ta tb)) := by
  intro pins s σd G σ H Q j h
  refine wpAny_isTrue_Compare1 (thn (ha pins s σd G σ H _ j h) fun v s1 zz => zz.use fun dx x G1 H1 j1 t1 i1 r1 q1 => thn (hb pins s1 σd G1 σ H1 _ j1 q1) fun u s2 zz => zz.use fun dy y G2 H2 j2 t2 i2 r2 q2 =>
    thn (ho pins s2 σd G2 σ H2 dx dy x y v u _ j2 (i1.mono t2) i2 r1 r2 q2) fun c s3 zz => zz.use fun dz z G3 H3 j3 t3 i3 r3 q3 => ?_) hm
  cases dz with
  | bl k =>
    cases i3.bl_of r3
    exact wpAny_truthy_bool ⟨G3, H3, j3, (t1.trans t2).trans t3, q3⟩
  | _ => exact False.elim q3
/-- an expression whose value is a bool, as a test -/
theorem dt_val {e : Expr} {t : TED} (h : PED X e t) (he : ∀ whole, isTrue e X.env whole = (do let v ← whole; standAt e.pos; holding [v] (truthy v)) := by intro _; rfl) : PTD X e (dTest t) := by
  intro pins s σd G σ H Q j hw
  refine isTrue_plain (thn (h pins s σd G σ H _ j hw) fun v s1 zz => zz.use fun dx x G1 H1 j1 t1 i1 r1 q1 => ?_) (he _)
  cases dx with
  | bl k =>
    cases i1.bl_of r1
    exact wpAny_truthy_bool ⟨G1, H1, j1, t1, q1⟩
  | _ => exact False.elim q1
theorem dw_and1 (ha : PTD X a tA) : PWD X (.BoolOp .And [a] pos) tA := by
  intro wh pins s σd G σ H Q j h
  refine isTrue_and (thn (ha pins s σd G σ H Q j h) fun c s1 e => ?_)
  cases c with
  | true => exact isTrue_and_nil e
  | false => exact e
theorem dw_or1 (ha : PTD X a tA) : PWD X (.BoolOp .Or [a] pos) tA := by
  intro wh pins s σd G σ H Q j h
  refine isTrue_or (thn (ha pins s σd G σ H Q j h) fun c s1 e => ?_)
  cases c with
  | false => exact isTrue_or_nil e
  | true => exact e
theorem dw_and (ha : PTD X a tA) (hb : PWD X (.BoolOp .And (b :: rest) pos) tB) : PWD X (.BoolOp .And (a :: b :: rest) pos) (dAnd tA tB) := by
  intro wh pins s σd G σ H Q j h
  refine isTrue_and (thn (ha pins s σd G σ H _ j h) fun c s1 zz => zz.use fun G1 H1 j1 t1 q1 => ?_)
  cases c with
  | true => exact thn (hb wh pins s1 σd G1 σ H1 Q j1 q1) fun _ _ z => z.from t1
  | false => exact ⟨G1, H1, j1, t1, q1⟩
theorem dw_or (ha : PTD X a tA) (hb : PWD X (.BoolOp .Or (b :: rest) pos) tB) : PWD X (.BoolOp .Or (a :: b :: rest) pos) (dOr tA tB) := by
  intro wh pins s σd G σ H Q j h
  refine isTrue_or (thn (ha pins s σd G σ H _ j h) fun c s1 zz => zz.use fun G1 H1 j1 t1 q1 => ?_)
  cases c with
  | true => exact ⟨G1, H1, j1, t1, q1⟩
  | false => exact thn (hb wh pins s1 σd G1 σ H1 Q j1 q1) fun _ _ z => z.from t1
theorem dt_not (ha : PTD X a tA) : PTD X (.UnaryOp .Not a pos) (dNot tA) := by
  intro pins s σd G σ H Q j h
  exact isTrue_not (ha pins s σd G σ H (fun c G1 => Q (!c) G1) j h)
theorem de_one {op} {t : TED} (h : PED X a t) : PED X (.BoolOp op [a] pos) t := fun pins s σd G σ H Q j hw => BoolOp_one (h pins s σd G σ H Q j hw)
theorem de_and (ha : PED X a ta) (hb : PED X (.BoolOp .And (b :: rest) pos) tb) : PED X (.BoolOp .And (a :: b :: rest) pos) (dAndV ta tb) := by
  intro pins s σd G σ H Q j h
  refine BoolOp_and (thn (ha pins s σd G σ H _ j h) fun v s1 zz => zz.use fun dx x G1 H1 j1 t1 i1 r1 q1 => ?_)
  cases dx with
  | bl k =>
    cases i1.bl_of r1
    refine wpAny_truthy_bool ?_
    cases k with
    | true => exact thn (hb pins s1 σd G1 σ H1 Q j1 q1) fun _ _ z => z.from t1
    | false => exact ⟨.bl false, .bl false, G1, H1, j1, t1, .bl false, rfl, q1⟩
  | _ => exact False.elim q1
theorem de_if {c : Expr} (hc : PTD X c tA) (ha : PED X a ta) (hb : PED X b tb) : PED X (.IfExp c a b pos) (dIf tA ta tb) := by
  intro pins s σd G σ H Q j h
  refine wpAny_IfExp (thn (hc pins s σd G σ H _ j h) fun d s1 zz => zz.use fun G1 H1 j1 t1 q1 => ?_)
  cases d with
  | true => exact thn (ha pins s1 σd G1 σ H1 Q j1 q1) fun _ _ z => z.from t1
  | false => exact thn (hb pins s1 σd G1 σ H1 Q j1 q1) fun _ _ z => z.from t1
theorem da_nil : PAD X [] dNil := fun _ _ _ _ G _ H Q j h => Calls.spliced_nil ⟨[], [], G, H, j, .refl, .nil, .nil, h⟩
theorem da_cons {te : TED} (ha : PED X e te) (hr : PAD X es t) (hs : starEach (e :: es) X.env = (false, eval e X.env) :: starEach es X.env := by rfl) : PAD X (e :: es) (dCons te t) := by
  intro pos pins s σd G σ H Q j h
  rw [hs]
  show wpAny _ _ (spliced ((false, eval e X.env) :: backTo pos (starEach es X.env))) _ _ s
  refine Calls.spliced_cons (thn (ha pins s σd G σ H _ j h) fun u s1 zz => zz.use fun dx x G1 H1 j1 t1 i1 r1 q1 => ?_)
  exact thn (hr pos pins s1 σd G1 σ H1 _ j1 q1) fun us s2 zz => zz.use fun ds xs G2 H2 j2 t2 i2 r2 q2 => ⟨dx :: ds, x :: xs, G2, H2, j2, t1.trans t2, .cons (i1.mono t2) i2, .cons r1 r2, q2⟩
theorem de_tup {x1} (h : PAD X es t) : PED X (.Tuple es x1 pos) (dTup t) := by
  intro pins s σd G σ H Q j hq
  refine wpAny_Tuple_spliced (thn (h pos pins s σd G σ H _ j hq) fun us s1 ⟨ds, xs, G1, H1, j1, t1, i1, r, z, q⟩ => ⟨by rw [← r.length, ← i1.length]; exact z.le, ?_⟩)
  have hf : H1 s1.heap.objs.size = none := j1.inv.hok.fresh (Nat.le_refl _)
  have z' : xs.length ≤ sizeLine := by rw [← i1.length]; exact z.le
  have I2 : Inv X pins σ (upd H1 s1.heap.objs.size (.tup xs)) { s1 with heap := s1.heap.push { cls := .type "tuple", data := .seq us.toArray } } :=
    j1.inv.laid (t' := s1.toks) (fun b u e => Heap.get?_push_of_some _ e) (Nat.le_refl _) ⟨z', us, r, ⟨_, Heap.get?_push_size _ rfl, rfl, _, rfl⟩⟩
  exact (j1.up (s' := { s1 with heap := s1.heap.push { cls := .type "tuple", data := .seq us.toArray } }) ⟨.ref s1.heap.objs.size, _, I2, rfl, Up.newT j1.gh hf i1 q⟩).from t1
theorem de_lst (h : PAD X es t) : PED X (.List es pos) (dLst t) := by
  intro pins s σd G σ H Q j hq
  refine wpAny_List_spliced (thn (h pos pins s σd G σ H _ j hq) fun us s1 ⟨ds, xs, G1, H1, j1, t1, i1, r, z, q⟩ => ⟨by rw [← r.length, ← i1.length]; exact z.le, ?_⟩)
  have hf : H1 s1.heap.objs.size = none := j1.inv.hok.fresh (Nat.le_refl _)
  have z' : xs.length ≤ sizeLine := by rw [← i1.length]; exact z.le
  have I2 : Inv X pins σ (upd H1 s1.heap.objs.size (.lst xs)) { s1 with heap := s1.heap.push { cls := .type "list", data := .seq us.toArray } } :=
    j1.inv.laid (t' := s1.toks) (fun b u e => Heap.get?_push_of_some _ e) (Nat.le_refl _) ⟨z', us, 0, r, Heap.get?_push_size _ rfl⟩
  exact (j1.up (s' := { s1 with heap := s1.heap.push { cls := .type "list", data := .seq us.toArray } }) ⟨.ref s1.heap.objs.size, _, I2, rfl, Up.newL j1.gh hf i1 (q _ (j1.gh.free hf))⟩).from t1
end

/-! ### subscripts, slices -/
/-- the items of what may be indexed -/
def seqD (G : GHp) : D → Option (List D)
  | .tup xs => some xs
  | .rl xs => some xs
  | .ref a => match G a with
    | some (.lst xs) => some xs
    | _ => none
  | _ => none
theorem seqD_ref {G : GHp} {a : Addr} {xs : List D} (h : seqD G (.ref a) = some xs) : G a = some (.lst xs) := by
  have h' : (match G a with
    | some (.lst xs) => some xs
    | _ => none) = some xs := h
  split at h'
  · rename_i ys e
    cases h'
    exact e
  · cases h'
def qIx : RD2 := fun x y G Q => match y with
  | .int i => match seqD G x with
    | some xs => match atI xs i with
      | some d => Q d G
      | none => False
    | none => False
  | _ => False
def IxD (X : Cx) (r : RD2) : Prop :=
  ∀ (value slice : Expr) (pins : List (Addr × Obj)) (s : Shared) (σd : StD) (G : GHp) (σ : Sv) (H : Hp) (dx dy : D) (x y : V) (v u : Value) (Q : DK), J X pins σd G σ H s → IsV X.K H dx x → IsV X.K H dy y → RelV x v → RelV y u → r dx dy G Q →
    subscripted slice false v u = operate [v, u] (getItem v u) → wpAny (model X.prog X.w) X.A (subscriptTail value slice v u) (EPD X pins σd σ H Q) X.xe s
section
variable {X : Cx} {a b e : Expr} {es : List Expr} {ta tb te : TED} {t : TAD} {pos p2 : Pos}
theorem IsVs.atI {K : PySem.W.Frag} {H : Hp} {ds : List D} {vs : List V} {i : Int} {d : D} (r : IsVs K H ds vs) (h : L2.atI ds i = some d) : ∃ v, L2.atI vs i = some v ∧ IsV K H d v := by
  unfold L2.atI at h ⊢
  rw [← r.length]
  cases e : ixN ds.length i with
  | none => rw [e] at h; cases h
  | some n =>
    rw [e] at h
    exact r.get h
theorem seqD_of {K : PySem.W.Frag} {G : GHp} {H : Hp} {d : D} {v : V} {xs : List D} (g : GOk K G H) (i : IsV K H d v) (h : seqD G d = some xs) : ∃ p vs, v = .ref p ∧ (SqL K H p vs ∨ SqT K H p vs) ∧ IsVs K H xs vs := by
  cases i with
  | tup hs r => cases h; exact ⟨_, _, rfl, .inr hs, r⟩
  | rl hs r => cases h; exact ⟨_, _, rfl, .inl hs.sq, r⟩
  | ref p =>
    obtain ⟨hs, r⟩ := g _ _ (seqD_ref h)
    exact ⟨_, _, rfl, .inl (.of hs), r⟩
  | _ => cases h
theorem ixd : IxD X qIx := by
  intro value slice pins s σd G σ H dx dy x y v u Q j ix iy rx ry q hs
  cases iy with
  | int i =>
    unfold qIx at q
    dsimp only at q
    split at q
    rotate_left
    · exact False.elim q
    rename_i xs h1
    split at q
    rotate_left
    · exact False.elim q
    rename_i d h2
    obtain ⟨p, vs, rfl, hp, r⟩ := seqD_of j.gh ix h1
    obtain ⟨w, e, iw⟩ := r.atI h2
    refine thn (ix_seq value slice pins s σ H _ _ v u (Up X.K H Q) j.inv rx ry ?_ hs) fun _ _ z => j.up z
    rcases hp with hp | hp
    · exact .inl ⟨p, vs, i, w, rfl, rfl, hp, e, Up.same j.gh iw q⟩
    · exact .inr (.inl ⟨p, vs, i, w, rfl, rfl, hp, e, Up.same j.gh iw q⟩)
  | _ => exact False.elim q
theorem de_ix (ha : PED X a ta) (hb : PED X b tb) (hs : PlainIx b) : PED X (.Subscript a b pos) (dOp qIx ta tb) := by
  intro pins s σd G σ H Q j h
  exact Subscript_ (binD ha hb j h fun v u s2 dx dy x y G2 H2 j2 t2 ix iy rx ry q => thn (ixd a b pins s2 σd G2 σ H2 dx dy x y v u Q j2 ix iy rx ry q (hs _ _)) fun _ _ z => z.from t2)
/-- a slice's parts -/
abbrev TOD := StD → GHp → (Option Int → GHp → Prop) → Prop
def POD (X : Cx) (e : Option Expr) (t : TOD) : Prop :=
  ∀ (pins : List (Addr × Obj)) (s : Shared) (σd : StD) (G : GHp) (σ : Sv) (H : Hp) (Q : Option Int → GHp → Prop), J X pins σd G σ H s → t σd G Q →
    wpAny (model X.prog X.w) X.A (evalPart e X.env) (fun u s' => ∃ o G' H', J X pins σd G' σ H' s' ∧ TX H H' ∧ IsPart u o ∧ Q o G') X.xe s
def dNoPart : TOD := fun _ G Q => Q none G
def dPart (t : TED) : TOD := fun σd G Q => t σd G fun x G1 => match x with
  | .int i => Q (some i) G1
  | _ => False
theorem do_none : POD X none dNoPart := by
  intro pins s σd G σ H Q j h
  rw [evalPart_none]
  exact wpAny_pure ⟨none, G, H, j, .refl, .none, h⟩
theorem do_some (h : PED X e te) : POD X (some e) (dPart te) := by
  intro pins s σd G σ H Q j hw
  rw [evalPart_some]
  refine thn (h pins s σd G σ H _ j hw) fun u s1 zz => zz.use fun dx x G1 H1 j1 t1 i1 r1 q1 => ?_
  cases i1 with
  | int i =>
    obtain ⟨t, rfl⟩ := r1
    exact ⟨some i, G1, H1, j1, t1, .int i t, q1⟩
  | _ => exact False.elim q1
def cutD (xs : List D) (lo hi : Option Int) : List D := (xs.drop (HT.sIx xs.length 0 lo)).take (HT.sIx xs.length xs.length hi - HT.sIx xs.length 0 lo)
/-- xs[lo:hi] of a list: a new list -/
def qSl : D → Option Int → Option Int → GHp → DK → Prop := fun x lo hi G Q => match x with
  | .tup _ => False
  | x => match seqD G x with
    | some xs => ∀ p, G p = none → Q (.ref p) (gupd G p (.lst (cutD xs lo hi)))
    | none => False
def dSl (r : D → Option Int → Option Int → GHp → DK → Prop) (te : TED) (tl th : TOD) : TED := fun σd G Q => te σd G fun x G1 => tl σd G1 fun l G2 => th σd G2 fun u G3 => r x l u G3 Q
theorem de_slice {lo hi : Option Expr} {tl th : TOD} (he : PED X e te) (hl : POD X lo tl) (hu : POD X hi th) : PED X (.Subscript e (.Slice lo hi none p2) pos) (dSl qSl te tl th) := by
  intro pins s σd G σ H Q j h
  refine Subscript_ (thn (he pins s σd G σ H _ j h) fun v s1 zz => zz.use fun dx x G1 H1 j1 t1 i1 r1 q1 => ?_)
  refine wpAny_Slice (thn (hl pins s1 σd G1 σ H1 _ j1 q1) fun vl s2 ⟨l, G2, H2, j2, t2, pl, q2⟩ => thn (hu pins s2 σd G2 σ H2 _ j2 q2) fun vu s3 zz5 => ?_)
  obtain ⟨u, G3, H3, j3, t3, pu, q3⟩ := zz5
  rw [evalPart_none]
  refine wpAny_pure ?_
  have I4 : Inv X pins σ H3 { s3 with heap := s3.heap.push { cls := .type "slice", data := .fields #[vl, vu, .none] } } := j3.inv.kept (t' := s3.toks) fun b ob q => Heap.get?_push_of_some _ q
  have i3 := (i1.mono t2).mono t3
  have key : ∃ p vs xs, x = .ref p ∧ SqL X.K H3 p vs ∧ IsVs X.K H3 xs vs ∧ ∀ p, G3 p = none → Q (.ref p) (gupd G3 p (.lst (cutD xs l u))) := by
    unfold qSl at q3
    split at q3
    · exact False.elim q3
    · rename_i hnt
      split at q3
      rotate_left
      · exact False.elim q3
      rename_i xs e
      cases i3 with
      | tup hs r => exact absurd rfl (hnt _)
      | rl hs r =>
        cases e
        exact ⟨_, _, _, rfl, hs.sq, r, q3⟩
      | ref p =>
        obtain ⟨hs, r⟩ := j3.gh _ _ (seqD_ref e)
        exact ⟨_, _, _, rfl, .of hs, r, q3⟩
      | _ => cases e
  obtain ⟨p, vs, xs, rfl, hs, r, q⟩ := key
  obtain ⟨T, id, hT, ht, hg⟩ := sl_list pins { s3 with heap := s3.heap.push { cls := .type "slice", data := .fields #[vl, vu, .none] } } σ H3 (.ref p) v vl vu l u s3.heap.objs.size (Up X.K H3 Q) I4 r1 (Heap.IsSliceOf.new ..) pl pu
    ⟨p, vs, rfl, hs, fun b hb => by
      refine Up.newL (ds := cutD xs l u) j3.gh hb ?_ (q b (j3.gh.free hb))
      unfold cutD cutV
      rw [r.length]
      exact (r.drop _).take _⟩
  show wpAny (model X.prog X.w) X.A (subscriptTail e (.Slice lo hi none p2) v (.ref s3.heap.objs.size)) (EPD X pins σd σ H Q) X.xe { s3 with heap := s3.heap.push { cls := .type "slice", data := .fields #[vl, vu, .none] } }
  exact tail_any (ops := [.ref s3.heap.objs.size, v]) ht hT (thn hg fun _ _ z => (j3.up z).from ((t1.trans t2).trans t3)) (by with_unfolding_all rfl)
end

/-! ### calls of built-ins -/
def dCB (r : List D → GHp → DK → Prop) (t : TAD) : TED := fun σd G Q => t σd G fun ds G1 => r ds G1 Q
section
variable {X : Cx} {x : Str} {p pos : Pos} {e : Expr} {es : List Expr} {t : TAD} {id T : String} {r : List D → GHp → DK → Prop}
theorem de_callB (hc : CallD X (.builtin id) r) (hg : Gl X x) (hm : X.mg x = none) (hv : bootBuiltins x = some (.builtin id)) (ha : PAD X (e :: es) t) (hn : x ≠ "__name__" := by decide) (hdb : (x == ("__debug__" : Str)) = false := by decide)
    (he : starEach (e :: es) X.env = (false, eval e X.env) :: starEach es X.env := by rfl) (hpl : (backTo pos (starEach es X.env)).any (·.1) = false := by rfl) : PED X (.Call (.Name x p) (e :: es) [] pos) (dCB r t) := by
  intro pins s σd G σ H Q j h
  refine wpAny_Call_Name_kw (ld_blt j.inv hg hm hv ?_ hn hdb)
  exact PyProof.Rows.callWith_builtin1 (thn (ha pos pins s σd G σ H _ j h) fun us s1 zz => zz.use fun ds vs G1 H1 j1 t1 i1 r1 q1 => thn (hc pins s1 σd G1 σ H1 ds vs us Q j1 i1 r1 q1) fun _ _ z => z.from t1) he hpl
theorem de_callTy (hc : CallD X (.type T) r) (hg : Gl X x) (hm : X.mg x = none) (hv : bootBuiltins x = some (.type T)) (ha : PAD X (e :: es) t) (hn : x ≠ "__name__" := by decide) (hdb : (x == ("__debug__" : Str)) = false := by decide)
    (he : starEach (e :: es) X.env = (false, eval e X.env) :: starEach es X.env := by rfl) (hpl : (backTo pos (starEach es X.env)).any (·.1) = false := by rfl) : PED X (.Call (.Name x p) (e :: es) [] pos) (dCB r t) := by
  intro pins s σd G σ H Q j h
  refine wpAny_Call_Name_kw (ld_blt j.inv hg hm hv ?_ hn hdb)
  exact PyProof.Rows.callWith_type1 (thn (ha pos pins s σd G σ H _ j h) fun us s1 zz => zz.use fun ds vs G1 H1 j1 t1 i1 r1 q1 => thn (hc pins s1 σd G1 σ H1 ds vs us Q j1 i1 r1 q1) fun _ _ z => z.from t1) he hpl
/-- the size of a number -/
def absI (i : Int) : Int := if i < 0 then -i else i
def qAbs : List D → GHp → DK → Prop := fun ds G Q => match ds with
  | [.int i] => Q (.int (absI i)) G
  | _ => False
theorem cd_abs : CallD X (.builtin "abs") qAbs := .of call_abs fun G H ds xs Q gok ix q => by
  unfold qAbs at q
  split at q
  · cases ix with
    | cons r rs => cases r; cases rs; exact ⟨_, rfl, Up.same gok (.int _) q⟩
  · exact False.elim q
def qLen : List D → GHp → DK → Prop := fun ds G Q => match ds with
  | [.str z] => Fits z.length ∧ Q (.int z.length) G
  | [x] => match seqD G x with
    | some xs => Q (.int xs.length) G
    | none => False
  | _ => False
theorem cd_len : CallD X (.builtin "len") qLen := .of (call_len_str.or call_len_seq) fun G H ds xs Q gok ix q => by
  unfold qLen at q
  split at q
  · cases ix with
    | cons r rs => cases r; cases rs; exact .inl ⟨_, rfl, q.1.le, Up.same gok (.int _) q.2⟩
  · split at q
    rotate_left
    · exact False.elim q
    rename_i ys e
    cases ix with
    | cons r rs =>
      cases rs
      obtain ⟨p, vs, rfl, hp, rr⟩ := seqD_of gok r e
      exact .inr ⟨p, vs, rfl, hp, Up.same gok (d := .int vs.length) (.int _) (by rw [← rr.length]; exact q)⟩
  · exact False.elim q
/-- sorted of two ints -/
def qSorted2 : List D → GHp → DK → Prop := fun ds G Q => match ds with
  | [.ref a] => match G a with
    | some (.lst [.int i, .int j]) => ∀ p, G p = none → Q (.ref p) (gupd G p (.lst [.int (min i j), .int (max i j)]))
    | _ => False
  | _ => False
theorem two_sorted {ns : List Int} {i j : Int} (h1 : ns.Perm [i, j]) (h2 : ns.Pairwise (· ≤ ·)) : ns = [min i j, max i j] := by
  have hl := h1.length_eq
  match ns, hl, h1, h2 with
  | [a, b], _, h1, h2 =>
    have hab : a ≤ b := by
      cases h2 with
      | cons h _ => exact h b (by simp)
    have ma : a ∈ [i, j] := h1.subset (by simp)
    have mb : b ∈ [i, j] := h1.subset (by simp)
    have mi : i ∈ [a, b] := h1.symm.subset (by simp)
    have mj : j ∈ [a, b] := h1.symm.subset (by simp)
    simp only [List.mem_cons, List.not_mem_nil, or_false] at ma mb mi mj
    have e1 : a = min i j := by omega
    have e2 : b = max i j := by omega
    rw [e1, e2]
theorem vals_of_ints : ∀ {us : List Value} {ns : List Int}, IntsAre us ns → Vals (ns.map V.int) us := by
  intro us ns h
  induction h with
  | nil => exact .nil
  | cons n t _ ih => exact .cons ⟨_, rfl⟩ ih
theorem cd_sorted2 : CallD X (.builtin "sorted") qSorted2 := by
  intro pins s σd G σ H ds xs us Q j ix rx q
  unfold qSorted2 at q
  split at q
  · split at q
    rotate_left
    · exact False.elim q
    rename_i i k e
    cases ix with
    | cons r rs =>
      cases rs
      cases r
      cases rx with
      | cons r1 r2 =>
        cases r2
        cases r1
        obtain ⟨hs, rr⟩ := j.gh _ _ e
        have ev := IsVs.of_ints (ns := [i, k]) rr
        subst ev
        obtain ⟨its, rv, pl, hz⟩ := j.inv.list (SqL.of hs)
        have ia : IntsAre its [i, k] := intsAre_of rv
        have hlen : its.length = 2 := by rw [← rv.length]; rfl
        refine sorted_ints (vs := its) pl.isList ia (by rw [hlen]; decide) fun out ns' a1 a2 a3 => ?_
        have en := two_sorted a2 a3
        subst en
        obtain ⟨ee, he⟩ := sortedAll_at s.heap its out
        have hf : H (s.heap.objs.size + 1) = none := j.inv.hok.fresh (Nat.le_succ _)
        have I2 : Inv X pins σ (upd H (s.heap.objs.size + 1) (.lst ([min i k, max i k].map V.int))) { s with heap := sortedAll s.heap its out } :=
          j.inv.laid (t' := s.toks) (fun b u e => sortedAll_old e) (Nat.le_succ _) ⟨by show 2 ≤ sizeLine; decide, out.toList, ee, vals_of_ints a1, he⟩
        exact j.up (s' := { s with heap := sortedAll s.heap its out }) ⟨.ref _, _, I2, rfl, Up.newL j.gh hf (IsVs.ints [min i k, max i k]) (q _ (j.gh.free hf))⟩
  · exact False.elim q
end

/-! ### statements -/
def dNext : TSD := fun E σd G => E.nx σd G
def dSeq (t u : TSD) : TSD := fun E σd G => t { E with nx := u E } σd G
def dDrop (te : TED) : TSD := fun E σd G => te σd G fun _ G1 => E.nx σd G1
def dRet (te : TED) : TSD := fun E σd G => te σd G E.rt
def dIfS (c : TTD) (t u : TSD) : TSD := fun E σd G => c σd G fun b G1 => if b = true then t E σd G1 else u E σd G1
def dNever : TSD := fun _ _ _ => False
abbrev TGD := D → StD → GHp → (StD → GHp → Prop) → Prop
def gdName (i : Nat) : TGD := fun d σd G Q => Q (σd.set i (some d)) G
def dAsg (te : TED) (g : TGD) : TSD := fun E σd G => te σd G fun x G1 => g x σd G1 E.nx
def dWhile (c : TTD) (tb : TSD) : TSD := fun E σd G => ∃ W : Nat → StD → GHp → Prop, (∃ m, W m σd G) ∧ ∀ m σd G, W m σd G →
  c σd G fun b G1 => if b = true then ∃ N : StD → GHp → Prop, (∀ σ' G', N σ' G' → ∃ m', m' < m ∧ W m' σ' G') ∧ tb { E with nx := N, ct := N, bk := E.nx } σd G1 else E.nx σd G1
section
variable {X : Cx} {st : Stmt} {rest : List Stmt} {t u : TSD} {e : Expr} {te : TED} {pos : Pos}
theorem dss_nil : PSsD X [] dNext := fun _ _ σd G σ H _ j h => wpAny_execs_nil ⟨σd, G, σ, H, j, .refl, h⟩
theorem dss_cons (h1 : PSD X st t) (h2 : PSsD X rest u) : PSsD X (st :: rest) (dSeq t u) := by
  intro pins s σd G σ H E j h
  refine wpAny_execs_cons (thn (h1 pins s σd G σ H { E with nx := u E } j h) fun f s1 q => ?_)
  cases f with
  | next =>
    obtain ⟨σd', G', σ', H', j', t', q⟩ := q
    exact thn (h2 pins s1 σd' G' σ' H' E j' q) fun _ _ z => z.from t'
  | ret v => exact q
  | brk => exact q
  | cont => exact q
theorem dss_one (h1 : PSD X st t) : PSsD X [st] t := by
  intro pins s σd G σ H E j h
  refine wpAny_execs_cons (thn (h1 pins s σd G σ H E j h) fun f s1 q => ?_)
  cases f with
  | next => exact wpAny_execs_nil q
  | ret v => exact q
  | brk => exact q
  | cont => exact q
theorem ds_expr (he : PED X e te) (hs : swapsWith e none pos.line X.env = pure false := by rfl) : PSD X (.Expr e pos) (dDrop te) := by
  intro pins s σd G σ H E j h
  exact wpAny_Expr_any (thn (he pins s σd G σ H _ j h) fun v s1 zz => zz.use fun dx x G1 H1 j1 t1 i1 r1 q1 => ⟨σd, G1, σ, H1, j1, t1, q1⟩) j.inv.quiet hs
theorem ds_ret (he : PED X e te) : PSD X (.Return (some e) pos) (dRet te) := by
  intro pins s σd G σ H E j h
  exact wpAny_Return_some (thn (he pins s σd G σ H _ j h) fun v s1 zz => zz.use fun dx x G1 H1 j1 t1 i1 r1 q1 => ⟨dx, x, σd, G1, σ, H1, j1, t1, i1, r1, q1⟩)
theorem ds_if {c : Expr} {a b : List Stmt} {tc : TTD} (hc : PTD X c tc) (ha : PSsD X a t) (hb : PSsD X b u) : PSD X (.If c a b pos) (dIfS tc t u) := by
  intro pins s σd G σ H E j h
  refine wpAny_If (thn (hc pins s σd G σ H _ j h) fun d s1 zz => zz.use fun G1 H1 j1 t1 q1 => ?_)
  cases d with
  | true => exact thn (ha pins s1 σd G1 σ H1 E j1 q1) fun _ _ z => z.from t1
  | false => exact thn (hb pins s1 σd G1 σ H1 E j1 q1) fun _ _ z => z.from t1
theorem ds_never : PSD X st dNever := fun _ _ _ _ _ _ _ _ h => h.elim
theorem dss_never {sts : List Stmt} : PSsD X sts dNever := fun _ _ _ _ _ _ _ _ h => h.elim
/-- a name is stored -/
theorem J.store {pins : List (Addr × Obj)} {σd : StD} {G : GHp} {σ : Sv} {H : Hp} {s s' : Shared} {i : Nat} {d : D} {v : V} (j : J X pins σd G σ H s) (I : Inv X pins (σ.set i (some v)) H s') (r : IsV X.K H d v) : J X pins (σd.set i (some d)) G (σ.set i (some v)) H s' := by
  refine ⟨I, by simp [j.len], fun k d' e => ?_, j.gh⟩
  by_cases hk : i = k
  · subst hk
    have hl : i < σd.length := by
      have := (List.getElem?_eq_some_iff.mp e).1
      simpa using this
    rw [List.getElem?_set_self hl] at e
    cases e
    exact ⟨v, List.getElem?_set_self (by rw [← j.len]; exact hl), r⟩
  · rw [List.getElem?_set_ne hk] at e
    obtain ⟨v', e1, r1⟩ := j.st k d' e
    exact ⟨v', by rw [List.getElem?_set_ne hk]; exact e1, r1⟩
theorem ds_set {i : Nat} {x : Str} {pos' : Pos} (hN : X.N.Nodup) (hi : X.N[i]? = some x) (hx : Loc X.env.scope x) (he : PED X e te) (hs : swapsWith e (some (.Name x pos')) pos.line X.env = pure false := by rfl) (hf : X.fn x = true ∨ X.env.scope.names.lookup x = some .local := by first | exact .inl rfl | exact .inr rfl | assumption) :
    PSD X (.Assign [.Name x pos'] e pos) (dAsg te (gdName i)) := by
  intro pins s σd G σ H E j h
  refine wpAny_Assign_Name (thn (he pins s σd G σ H _ j h) fun v s1 zz => zz.use fun dx x G1 H1 j1 t1 i1 r1 q1 => ?_) hs
  exact store_ok j1.inv hN hi hx r1 (fun s2 I2 => ⟨_, G1, _, H1, j1.store I2 i1, t1, q1⟩) hf
theorem ds_while {c : Expr} {body : List Stmt} {tc : TTD} {tb : TSD} (hp : PassesOwn (model X.prog X.w) X.A X.env X.xe) (hc : PTD X c tc) (hb : PSsD X body tb) : PSD X (.While c body [] pos) (dWhile tc tb) := by
  intro pins s σd G σ H E j h
  obtain ⟨W, ⟨m0, w0⟩, turn⟩ := h
  refine wpAny_While (codeAny_whileLoop (fun n s' => ∃ σd' G' σ' H', J X pins σd' G' σ' H' s' ∧ TX H H' ∧ W n σd' G') ?_ m0 ⟨σd, G, σ, H, j, .refl, w0⟩)
  rintro n s1 ⟨σd1, G1, σ1, H1, j1, t1, w1⟩
  refine wpAny_passesOwn hp (thn (hc pins s1 σd1 G1 σ1 H1 _ j1 (turn n σd1 G1 w1)) fun b s2 zz => zz.use fun G2 H2 j2 t2 q2 => ?_)
  cases b with
  | true =>
    obtain ⟨N, hN, q2⟩ := q2
    rw [if_pos rfl]
    refine wpAny_passesOwn hp (thn (hb pins s2 σd1 G2 σ1 H2 _ j2 q2) fun f s3 q3 => ?_)
    cases f with
    | next =>
      obtain ⟨σd3, G3, σ3, H3, j3, t3, n3⟩ := q3
      obtain ⟨m', hm, w3⟩ := hN σd3 G3 n3
      exact ⟨m', hm, σd3, G3, σ3, H3, j3, (t1.trans t2).trans t3, w3⟩
    | cont =>
      obtain ⟨σd3, G3, σ3, H3, j3, t3, n3⟩ := q3
      obtain ⟨m', hm, w3⟩ := hN σd3 G3 n3
      exact ⟨m', hm, σd3, G3, σ3, H3, j3, (t1.trans t2).trans t3, w3⟩
    | brk => exact SPD.from (E := E) (f := .next) q3 (t1.trans t2)
    | ret v => exact SPD.from (E := E) (f := .ret v) q3 (t1.trans t2)
  | false =>
    rw [if_neg Bool.false_ne_true]
    exact wpAny_execs_nil ⟨σd1, G2, σ1, H2, j2, t1.trans t2, q2⟩
end

/-! ### for -/
/-- what a loop walks: its items, what must stay true of the heap -/
abbrev TID := StD → GHp → (List D → (GHp → Prop) → GHp → Prop) → Prop
def PIDE (X : Cx) (pins : List (Addr × Obj)) (σd : StD) (σ : Sv) (H : Hp) (tg : Expr) (R : List D → (GHp → Prop) → GHp → Prop) (itv : Value) (s2 : Shared) : Prop :=
  ∃ (it : Addr) (fp : List Addr) (tn : Nat → Heap → Prop) (I : It) (G' : GHp) (H' : Hp) (ds : List D) (kp : GHp → Prop), itv = .ref it ∧ J X pins σd G' σ H' s2 ∧ TX H H' ∧ Turn X.prog X.w X.K tg I fp it tn ∧ tn 0 s2.heap ∧ (∀ b ∈ fp, FpOk X pins H' b) ∧
    (∀ i G2 H2, TX H' H2 → GOk X.K G2 H2 → kp G2 → ds.length ≤ i → I.stop i H2) ∧
    (∀ i d G2 H2, TX H' H2 → GOk X.K G2 H2 → kp G2 → ds[i]? = some d → I.go i H2 ∧ ∀ x H3, I.yld i H2 x H3 → TX H2 H3 ∧ GOk X.K G2 H3 ∧ IsV X.K H3 d x) ∧ R ds kp G'
def PID (X : Cx) (tg iter : Expr) (wi : TID) : Prop :=
  ∀ (pins : List (Addr × Obj)) (s : Shared) (σd : StD) (G : GHp) (σ : Sv) (H : Hp) (R : List D → (GHp → Prop) → GHp → Prop), J X pins σd G σ H s → wi σd G R →
    wpAny (model X.prog X.w) X.A (eval iter X.env) (fun v s1 => wpAny (model X.prog X.w) X.A (pyIter v) (PIDE X pins σd σ H tg R) X.xe s1) X.xe s
def PGD (X : Cx) (target : Expr) (t : TGD) : Prop :=
  ∀ (pins : List (Addr × Obj)) (s : Shared) (σd : StD) (G : GHp) (σ : Sv) (H : Hp) (d : D) (v : V) (u : Value) (Q : StD → GHp → Prop), J X pins σd G σ H s → IsV X.K H d v → RelV v u → t d σd G Q →
    wpAny (model X.prog X.w) X.A (assign target X.env u) (fun _ s' => ∃ σd' G' σ' H', J X pins σd' G' σ' H' s' ∧ TX H H' ∧ Q σd' G') X.xe s
/-- the loop over these items, by its word P -/
def Loop (ds : List D) (kp : GHp → Prop) (g : TGD) (tb : TSD) (E : EndsD) (σd : StD) (G : GHp) : Prop := ∃ P : Nat → StD → GHp → Prop, P 0 σd G ∧ (∀ i σ' G', i ≤ ds.length → P i σ' G' → kp G') ∧
  (∀ i d σ' G', ds[i]? = some d → P i σ' G' → g d σ' G' fun σ2 G2 => tb { E with nx := P (i + 1), ct := P (i + 1), bk := E.nx } σ2 G2) ∧ ∀ σ' G', P ds.length σ' G' → E.nx σ' G'
def dFor (wi : TID) (g : TGD) (tb : TSD) : TSD := fun E σd G => wi σd G fun ds kp G1 => Loop ds kp g tb E σd G1
theorem loop_by {ds : List D} {kp : GHp → Prop} {g : TGD} {tb : TSD} {E : EndsD} {σd : StD} {G : GHp} (P : Nat → StD → GHp → Prop) (h0 : P 0 σd G) (hk : ∀ i σ' G', i ≤ ds.length → P i σ' G' → kp G')
    (hs : ∀ i d σ' G', ds[i]? = some d → P i σ' G' → g d σ' G' fun σ2 G2 => tb { E with nx := P (i + 1), ct := P (i + 1), bk := E.nx } σ2 G2) (hd : ∀ σ' G', P ds.length σ' G' → E.nx σ' G') : Loop ds kp g tb E σd G := ⟨P, h0, hk, hs, hd⟩
section
variable {X : Cx} {tg : Expr} {pos : Pos}
theorem gd_name {i : Nat} {x : Str} (hN : X.N.Nodup) (hi : X.N[i]? = some x) (hx : Loc X.env.scope x) (hf : X.fn x = true ∨ X.env.scope.names.lookup x = some .local := by first | exact .inl rfl | exact .inr rfl | assumption) : PGD X (.Name x pos) (gdName i) := by
  intro pins s σd G σ H d v u Q j iv r h
  exact wpAny_assign_Name (store_ok j.inv hN hi hx r (fun s' I' => ⟨_, G, _, H, j.store I' iv, .refl, h⟩) hf)
theorem J.pinned {pins : List (Addr × Obj)} {σd : StD} {G : GHp} {σ : Sv} {H : Hp} {s : Shared} {fp : List Addr} (j : J X pins σd G σ H s) (hf : ∀ b ∈ fp, FpOk X pins H b) (ho : ∀ b ∈ fp, ∃ o, s.heap.get? b = some o ∧ ∀ v, o.data ≠ .cell v) : J X (pins ++ pinsAt fp s.heap) σd G σ H s :=
  ⟨j.inv.pinned hf ho, j.len, j.st, j.gh⟩
theorem J.unpinned {pins pl : List (Addr × Obj)} {σd : StD} {G : GHp} {σ : Sv} {H : Hp} {s : Shared} (j : J X (pins ++ pl) σd G σ H s) : J X pins σd G σ H s := ⟨j.inv.unpinned, j.len, j.st, j.gh⟩
theorem ds_for {iter : Expr} {body : List Stmt} {wi : TID} {g : TGD} {tb : TSD} (hp : PassesOwn (model X.prog X.w) X.A X.env X.xe) (hc : X.calm = true) (hi : PID X tg iter wi) (hg : PGD X tg g) (hb : PSsD X body tb)
    (hs : ∀ x, foldedSetIterable iter X.env x = pure x := by intro _; rfl) : PSD X (.For tg iter body [] pos) (dFor wi g tb) := by
  intro pins s σd G σ H E j h
  refine wpAny_For (thn (hi pins s σd G σ H _ j h) fun v s1 h1 => thn h1 fun itv s2 h2 => ?_) hs
  obtain ⟨it, fp, tn, I, G2, H2, ds, kp, e, j2, t2, T, st2, f2, hstop, hgo, P, p0, pk, turn, fin⟩ := h2
  subst e
  have stat : ∀ {H' : Hp}, (∀ b ∈ fp, H' b = none) → ∀ b ∈ fp, FpOk X pins H' b := fun hn b hb => ⟨hn b hb, (f2 b hb).2⟩
  refine codeAny_forLoop_any (fun n s' => ∃ i σd' G' σ' H', n = ds.length - i ∧ i ≤ ds.length ∧ J X pins σd' G' σ' H' s' ∧ TX H2 H' ∧ tn i s'.heap ∧ (∀ b ∈ fp, H' b = none) ∧ P i σd' G') ?_ ds.length
    ⟨0, σd, G2, σ, H2, rfl, Nat.zero_le _, j2, .refl, st2, fun b hb => (f2 b hb).1, p0⟩
  rintro n s3 ⟨i, σd3, G3, σ3, H3, rfl, hil, j3, t3, st3, fr3, p3⟩
  have k3 := pk i σd3 G3 hil p3
  by_cases hlt : i < ds.length
  · have hd : ds[i]? = some ds[i] := by simp [hlt]
    obtain ⟨go, yl⟩ := hgo i ds[i] G3 H3 t3 j3.gh k3 hd
    refine wpAny_passesOwn hp (thn (T.item X rfl rfl rfl hc i pins s3 σ3 H3 X.xe j3.inv (stat fr3) st3 go) fun r s4 zz1 => ?_)
    obtain ⟨u, hr, h4⟩ := zz1
    subst hr
    refine wpAny_passesOwn hp (thn h4 fun _ s5 zz2 => ?_)
    obtain ⟨x, H5, I5, r5, y5, st5, fr5⟩ := zz2
    obtain ⟨t5, g5, iv5⟩ := yl x H5 y5
    have j5 : J X pins σd3 G3 σ3 H5 s5 := ⟨I5, j3.len, j3.st.mono t5, g5⟩
    have t3 := t3.trans t5
    have j5' := j5.pinned (stat fr5) (T.obj _ _ st5)
    refine wpAny_passesOwn hp (thn (hg _ s5 σd3 G3 σ3 H5 ds[i] x u _ j5' iv5 r5 (turn i ds[i] σd3 G3 hd p3)) fun _ s6 zz3 => ?_)
    obtain ⟨σd6, G6, σ6, H6, j6, t6, q6⟩ := zz3
    refine wpAny_passesOwn hp (thn (hb _ s6 σd6 G6 σ6 H6 _ j6 q6) fun f s7 q7 => ?_)
    have again : ∀ {σd7 : StD} {G7 : GHp} {σ7 : Sv} {H7 : Hp}, J X (pins ++ pinsAt fp s5.heap) σd7 G7 σ7 H7 s7 → TX H6 H7 → P (i + 1) σd7 G7 →
        ∃ m, m < ds.length - i ∧ ∃ i σd' G' σ' H', m = ds.length - i ∧ i ≤ ds.length ∧ J X pins σd' G' σ' H' s7 ∧ TX H2 H' ∧ tn i s7.heap ∧ (∀ b ∈ fp, H' b = none) ∧ P i σd' G' := fun {σd7 G7 σ7 H7} j7 t7 p7 => by
      refine ⟨ds.length - (i + 1), by omega, i + 1, σd7, G7, σ7, H7, rfl, hlt, j7.unpinned, (t3.trans t6).trans t7, T.keep _ _ _ st5 fun b hb o e => (j7.inv.pin (b, o) (List.mem_append_right _ (List.mem_append_right _ (mem_pinsAt hb e)))).1, fun b hb => ?_, p7⟩
      obtain ⟨o, e, d⟩ := T.obj _ _ st5 b hb
      exact (j7.inv.pin (b, o) (List.mem_append_right _ (List.mem_append_right _ (mem_pinsAt hb e)))).2.1
    cases f with
    | next => obtain ⟨σd7, G7, σ7, H7, j7, t7, n7⟩ := q7; exact again j7 t7 n7
    | cont => obtain ⟨σd7, G7, σ7, H7, j7, t7, n7⟩ := q7; exact again j7 t7 n7
    | brk => obtain ⟨σd7, G7, σ7, H7, j7, t7, n7⟩ := q7; exact ⟨σd7, G7, σ7, H7, j7.unpinned, ((t2.trans t3).trans t6).trans t7, n7⟩
    | ret v => obtain ⟨d7, v7, σd7, G7, σ7, H7, j7, t7, iv7, r7, n7⟩ := q7; exact ⟨d7, v7, σd7, G7, σ7, H7, j7.unpinned, ((t2.trans t3).trans t6).trans t7, iv7, r7, n7⟩
  · have e : i = ds.length := by omega
    subst e
    refine wpAny_passesOwn hp (thn (T.done X rfl rfl rfl hc _ pins s3 σ3 H3 X.xe j3.inv (stat fr3) st3 (hstop _ G3 H3 t3 j3.gh k3 (Nat.le_refl _))) fun r s4 zz4 => ?_)
    obtain ⟨hr, I4⟩ := zz4
    subst hr
    exact wpAny_execs_nil ⟨σd3, G3, σ3, H3, ⟨I4, j3.len, j3.st, j3.gh⟩, t2.trans t3, fin σd3 G3 p3⟩
/-- over a list, the script, a tuple -/
def iSeq (tl : TED) : TID := fun σd G R => tl σd G fun x G1 => match x with
  | .tup xs => R xs (fun _ => True) G1
  | .rl xs => R xs (fun _ => True) G1
  | .ref a => match G1 a with
    | some (.lst xs) => R xs (fun G' => G' a = some (.lst xs)) G1
    | _ => False
  | _ => False
theorem id_seq {l : Expr} {tl : TED} (hl : PED X l tl) : PID X tg l (iSeq tl) := by
  intro pins s σd G σ H R j h
  refine thn (hl pins s σd G σ H _ j h) fun v s1 zz => zz.use fun dx x G1 H1 j1 t1 i1 r1 q1 => ?_
  have list : ∀ (a : Addr) (ds : List D) (kp : GHp → Prop), v = .ref a → (∃ vs, SqL X.K H1 a vs) → (∀ G2 H2, TX H1 H2 → GOk X.K G2 H2 → kp G2 → ∃ vs, SqL X.K H2 a vs ∧ IsVs X.K H2 ds vs) → R ds kp G1 →
      wpAny (model X.prog X.w) X.A (pyIter v) (PIDE X pins σd σ H tg R) X.xe s1 := by
    intro a ds kp e hv hk q
    subst e
    obtain ⟨vs, hq⟩ := hv
    obtain ⟨its, rv, p, hz⟩ := j1.inv.list hq
    refine wpAny_pyIter_list p.isList ?_
    refine ⟨s1.heap.objs.size, [s1.heap.objs.size], _, _, G1, H1, ds, kp, rfl, j1.next (j1.inv.kept (t' := s1.toks) fun b o e => Heap.get?_push_of_some _ e) .refl j1.gh, t1, turn_list a _, ⟨_, Heap.get?_push_size _ rfl, rfl, rfl⟩, fun b hb => ?_, ?_, ?_, q⟩
    · have e : b = s1.heap.objs.size := by simpa using hb
      subst e
      exact j1.inv.fpOk (Nat.le_refl _) (j1.inv.hok.fresh (Nat.le_refl _))
    · intro i G2 H2 tx g2 k2 hl
      obtain ⟨vs2, h2, r2⟩ := hk G2 H2 tx g2 k2
      exact ⟨vs2, h2, by rw [← r2.length]; exact hl⟩
    · intro i d G2 H2 tx g2 k2 hd
      obtain ⟨vs2, h2, r2⟩ := hk G2 H2 tx g2 k2
      obtain ⟨w, ew, iw⟩ := r2.get hd
      refine ⟨⟨vs2, w, h2, ew⟩, fun x H3 y => ?_⟩
      obtain ⟨e, y⟩ := y
      subst e
      have := y vs2 h2
      rw [ew] at this
      cases this
      exact ⟨.refl, g2, iw⟩
  cases dx with
  | rl xs =>
    cases i1 with
    | rl hs r =>
      cases r1
      exact list _ xs _ rfl ⟨_, hs.sq⟩ (fun G2 H2 tx _ _ => ⟨_, (tx.rol hs).sq, r.mono tx⟩) q1
  | ref a =>
    cases i1
    cases r1
    dsimp only at q1
    split at q1
    rotate_left
    · exact False.elim q1
    rename_i xs e
    have q := q1
    obtain ⟨hs, r⟩ := j1.gh _ _ e
    exact list a xs _ rfl ⟨_, SqL.of hs⟩ (fun G2 H2 tx g2 k2 => by
      obtain ⟨hs2, r2⟩ := g2 _ _ k2
      exact ⟨_, SqL.of hs2, r2⟩) q
  | tup xs =>
    cases i1 with
    | tup hs r =>
      cases r1
      obtain ⟨its, rv, p, hz⟩ := j1.inv.tuple hs
      refine wpAny_pyIter_tuple p ?_
      refine ⟨s1.heap.objs.size, [s1.heap.objs.size], _, _, G1, H1, xs, fun _ => True, rfl, j1.next (j1.inv.kept (t' := s1.toks) fun b o e => Heap.get?_push_of_some _ e) .refl j1.gh, t1, turn_tuple _ _, ⟨_, Heap.get?_push_size _ rfl, rfl, rfl⟩, fun b hb => ?_, ?_, ?_, q1⟩
      · have e : b = s1.heap.objs.size := by simpa using hb
        subst e
        exact j1.inv.fpOk (Nat.le_refl _) (j1.inv.hok.fresh (Nat.le_refl _))
      · intro i G2 H2 tx g2 k2 hl
        exact ⟨_, tx.seqT hs, by rw [← r.length]; exact hl⟩
      · intro i d G2 H2 tx g2 k2 hd
        obtain ⟨w, ew, iw⟩ := (r.mono tx).get hd
        refine ⟨⟨_, w, tx.seqT hs, ew⟩, fun x H3 y => ?_⟩
        obtain ⟨e, y⟩ := y
        subst e
        have := y _ (tx.seqT hs)
        rw [ew] at this
        cases this
        exact ⟨.refl, g2, iw⟩
  | _ => exact False.elim q1
/-- the ints lo, lo + c, .. -/
def rngD (lo c : Int) (n : Nat) : List D := (List.range n).map fun i : Nat => D.int (lo + (i : Int) * c)
theorem turn_rangeC {P : Program} {w : World} {K : PySem.W.Frag} {tg : Expr} (it : Addr) (lo c : Int) (n : Nat) : Turn P w K tg ⟨fun i _ => i < n, fun i H x H' => H' = H ∧ x = .int (lo + i * c), fun i _ => n ≤ i⟩ [it] it (fun i h => IsRangeIter h it (lo + (i : Nat) * c) ((n : Int) - (i : Nat)) c) where
  mem := by simp
  obj := fun i h st b hb => by
    have e : b = it := by simpa using hb
    subst e
    exact ⟨_, st, fun v z => by
      have z' : Data.fields _ = Data.cell v := z
      cases z'⟩
  keep := fun i h h' st k => k it (by simp) _ st
  item := by
    intro X hP hw hK hc i pins s σ H E I hf st hg
    subst hP hw hK
    obtain ⟨f0, f1, f2, f3, f4, f5⟩ := hf it (by simp)
    have W := Walks.range (prog := X.prog) (w := X.w) (I.ok.hd hc) it lo c n
    refine W.item i s _ _ hg st fun v h' tk hv st' kk => ?_
    obtain ⟨t, rfl⟩ := hv
    have I1 : Inv X pins σ H { s with heap := h', toks := tk } := I.turned (fun b o hb e => kk b o (by simpa using hb) e) f0 f1 f3 f4 f5
    exact ⟨_, rfl, go_of (s := { s with heap := h', toks := tk }) (n := "range_iterator") st' rfl rfl (by decide) ⟨.int (lo + i * c), H, I1, ⟨t, rfl⟩, ⟨rfl, rfl⟩, st', fun b hb => (hf b hb).1⟩⟩
  done := by
    intro X hP hw hK hc i pins s σ H E I hf st hg
    subst hP hw hK
    obtain ⟨f0, f1, f2, f3, f4, f5⟩ := hf it (by simp)
    exact wpAny_pyNext_range_end (I.ok.hd hc) st (by have : n ≤ i := hg; omega) fun h' eb => ⟨rfl, I.turned (t' := s.toks) (fun b o hb e => eb b o hb e) f0 f1 f3 f4 f5⟩
  self := fun _ _ _ _ _ st h => wpAny_pyIter_rangeiter st h
theorem isV_int {K : PySem.W.Frag} {H : Hp} {i : Int} {v : V} (h : IsV K H (.int i) v) : v = .int i := by cases h; rfl
theorem isV_tup {K : PySem.W.Frag} {H : Hp} {xs : List D} {v : V} (h : IsV K H (.tup xs) v) : ∃ a vs, v = .ref a ∧ SqT K H a vs ∧ IsVs K H xs vs := by
  cases h with
  | tup h r => exact ⟨_, _, rfl, h, r⟩
theorem isVs_cons {K : PySem.W.Frag} {H : Hp} {d : D} {ds : List D} {vs : List V} (h : IsVs K H (d :: ds) vs) : ∃ v ws, vs = v :: ws ∧ IsV K H d v ∧ IsVs K H ds ws := by
  cases h with
  | cons r rs => exact ⟨_, _, rfl, r, rs⟩
theorem isVs_nil {K : PySem.W.Frag} {H : Hp} {vs : List V} (h : IsVs K H [] vs) : vs = [] := by cases h; rfl
theorem vals_cons {v : V} {vs : List V} {us : List Value} (h : Vals (v :: vs) us) : ∃ u ws, us = u :: ws ∧ RelV v u ∧ Vals vs ws := by
  cases h with
  | cons r rs => exact ⟨_, _, rfl, r, rs⟩
theorem vals_nil {us : List Value} (h : Vals [] us) : us = [] := by cases h; rfl
/-- three ints handed over -/
theorem ints3 {K : PySem.W.Frag} {H : Hp} {i j k : Int} {vs : List V} {us : List Value} (h : IsVs K H [.int i, .int j, .int k] vs) (r : Vals vs us) : ∃ a b c, us = [.int i a, .int j b, .int k c] := by
  obtain ⟨_, _, rfl, h1, q1⟩ := isVs_cons h
  obtain ⟨_, _, rfl, h2, q2⟩ := isVs_cons q1
  obtain ⟨_, _, rfl, h3, q3⟩ := isVs_cons q2
  cases isVs_nil q3
  cases isV_int h1
  cases isV_int h2
  cases isV_int h3
  obtain ⟨_, _, rfl, ⟨a, rfl⟩, r1⟩ := vals_cons r
  obtain ⟨_, _, rfl, ⟨b, rfl⟩, r2⟩ := vals_cons r1
  obtain ⟨_, _, rfl, ⟨c, rfl⟩, r3⟩ := vals_cons r2
  cases vals_nil r3
  exact ⟨a, b, c, rfl⟩
/-- the number of turns of range(i, j, c), c above 0 -/
def rngN (i j c : Int) : Nat := if i < j then ((j - i - 1) / c + 1).toNat else 0
def iRng3 (ta : TAD) : TID := fun σd G R => ta σd G fun ds G1 => match ds with
  | [.int i, .int j, .int c] => (0 < c ∧ c ≤ 1000) ∧ (-(2 ^ 60) ≤ i ∧ i < 2 ^ 60 ∧ -(2 ^ 60) ≤ j ∧ j < 2 ^ 60) ∧ R (rngD i c (rngN i j c)) (fun _ => True) G1
  | _ => False
theorem id_range3 {a b c : Expr} {ta : TAD} {p pos : Pos} (hg : Gl X "range") (hm : X.mg "range" = none) (ha : PAD X [a, b, c] ta) (hs : starEach [a, b, c] X.env = (false, eval a X.env) :: starEach [b, c] X.env := by rfl) (hpl : (backTo pos (starEach [b, c] X.env)).any (·.1) = false := by rfl) :
    PID X tg (.Call (.Name "range" p) [a, b, c] [] pos) (iRng3 ta) := by
  intro pins s σd G σ H R j h
  refine Call_ (ld_blt j.inv hg hm boot_range (PyProof.Rows.callWith_type1 (thn (ha pos pins s σd G σ H _ j h) fun us s1 zz => zz.use fun ds vs G1 H1 j1 t1 i1 r1 q1 => ?_) hs hpl))
  try dsimp only at q1
  split at q1
  · rename_i lo hi cc
    obtain ⟨⟨c0, c1⟩, ⟨b1, b2, b3, b4⟩, q⟩ := q1
    obtain ⟨ta', tb', tc', rfl⟩ := ints3 i1 r1
    have hsz : Builtin.Range.rangeSize lo hi cc = ((rngN lo hi cc : Nat) : Int) := by
      unfold Builtin.Range.rangeSize rngN
      rw [if_pos c0]
      by_cases hlt : lo < hi
      · rw [if_pos hlt, if_pos hlt]
        have : 0 ≤ (hi - lo - 1) / cc := Int.ediv_nonneg (by omega) (by omega)
        omega
      · rw [if_neg hlt, if_neg hlt]; rfl
    have hle : ((rngN lo hi cc : Nat) : Int) ≤ 2 ^ 61 := by
      unfold rngN
      by_cases hlt : lo < hi
      · rw [if_pos hlt]
        have h1 : (hi - lo - 1) / cc ≤ hi - lo - 1 := Int.ediv_le_self _ (by omega)
        have h2 : 0 ≤ (hi - lo - 1) / cc := Int.ediv_nonneg (by omega) (by omega)
        omega
      · rw [if_neg hlt]; decide
    refine call_range_3 (by omega) ?_ (Or.inl (PyProof.noPylong_small (by omega)))
    have I2 : Inv X pins σ H1 { s1 with heap := s1.heap.push { cls := .type "range", data := .fields #[.int lo ta', .int hi tb', .int cc tc'] } } := j1.inv.kept (t' := s1.toks) fun b o e => Heap.get?_push_of_some _ e
    refine wpAny_pyIter_range (IsRange.new ..) ?_ ?_
    · unfold Builtin.Range.small
      rw [hsz]
      simp only [Builtin.Range.rangeFitsLong, Bool.and_eq_true, Bool.or_eq_true, decide_eq_true_eq, beq_iff_eq, c0, gt_iff_lt, if_true]
      omega
    · have I3 : Inv X pins σ H1 { s1 with heap := (s1.heap.push { cls := .type "range", data := .fields #[.int lo ta', .int hi tb', .int cc tc'] }).push { cls := .type "range_iterator", data := .fields #[rawInt lo, rawInt (Builtin.Range.rangeSize lo hi cc), rawInt cc] } } := I2.kept (t' := s1.toks) fun b o e => Heap.get?_push_of_some _ e
      refine ⟨(s1.heap.push { cls := .type "range", data := .fields #[.int lo ta', .int hi tb', .int cc tc'] }).objs.size, [(s1.heap.push { cls := .type "range", data := .fields #[.int lo ta', .int hi tb', .int cc tc'] }).objs.size], _, _, G1, H1, rngD lo cc (rngN lo hi cc), fun _ => True, rfl, j1.next I3 .refl j1.gh, t1, turn_rangeC _ lo cc (rngN lo hi cc), ?_, fun b hb => ?_, ?_, ?_, q⟩
      · have e1 : lo + ((0 : Nat) : Int) * cc = lo := by simp
        have e2 : ((rngN lo hi cc : Nat) : Int) - ((0 : Nat) : Int) = Builtin.Range.rangeSize lo hi cc := by rw [hsz]; simp
        show IsRangeIter _ _ (lo + ((0 : Nat) : Int) * cc) (((rngN lo hi cc : Nat) : Int) - ((0 : Nat) : Int)) cc
        rw [e1, e2]
        exact Heap.get?_push_size _ rfl
      · have e : b = (s1.heap.push { cls := .type "range", data := .fields #[.int lo ta', .int hi tb', .int cc tc'] }).objs.size := by simpa using hb
        subst e
        exact I2.fpOk (Nat.le_refl _) (I2.hok.fresh (Nat.le_refl _))
      · intro i G2 H2 _ _ _ hl
        have : (rngD lo cc (rngN lo hi cc)).length = rngN lo hi cc := by simp [rngD]
        rw [this] at hl
        exact hl
      · intro i d G2 H2 _ g2 _ hd
        have hlt : i < rngN lo hi cc := by
          have := (List.getElem?_eq_some_iff.mp hd).1
          simpa [rngD] using this
        have ed : d = .int (lo + i * cc) := by
          unfold rngD at hd
          rw [List.getElem?_map, List.getElem?_range hlt] at hd
          exact (Option.some.inj hd).symm
        subst ed
        refine ⟨hlt, fun x H3 y => ?_⟩
        obtain ⟨e, y⟩ := y
        subst e y
        exact ⟨.refl, g2, .int _⟩
  · exact False.elim q1
end

/-! ### defs -/
abbrev SpD := List D → GHp → DK → Prop
def spOf (K : PySem.W.Frag) (sp : SpD) : Sp := fun vs H Q _ => ∃ ds G Qd, IsVs K H ds vs ∧ GOk K G H ∧ sp ds G Qd ∧ ∀ v H', Up K H Qd v H' → Q v H'
def startD (N : List Str) (ds : List D) : StD := ds.map some ++ List.replicate (N.length - ds.length) none
/-- n names beside the parameters -/
def st0 (n : Nat) (ds : List D) : StD := ds.map some ++ List.replicate n none
theorem startD_st0 {N ps : List Str} {ds : List D} {n : Nat} (hn : N.length = ps.length + n) (hl : ds.length = ps.length) : startD N ds = st0 n ds := by
  unfold startD st0
  rw [hn, hl, Nat.add_sub_cancel_left]
theorem start_ok {K : PySem.W.Frag} {H : Hp} {N : List Str} {ds : List D} {vs : List V} (r : IsVs K H ds vs) : (startD N ds).length = (L2.start N vs).length ∧ IsSt K H (startD N ds) (L2.start N vs) := by
  have hl := r.length
  constructor
  · simp [startD, L2.start, hl]
  · intro i d e
    unfold startD at e
    by_cases hi : i < ds.length
    · rw [List.getElem?_append_left (by simpa using hi), List.getElem?_map] at e
      cases q : ds[i]? with
      | none => rw [q] at e; cases e
      | some d' =>
        rw [q] at e
        cases e
        obtain ⟨v, e1, r1⟩ := r.get q
        refine ⟨v, ?_, r1⟩
        unfold L2.start
        rw [List.getElem?_append_left (by rw [List.length_map, ← hl]; exact hi), List.getElem?_map, e1]
        rfl
    · rw [List.getElem?_append_right (by simpa using hi), List.getElem?_replicate] at e
      split at e <;> cases e
section
variable {P : Program} {w : World} {K : PySem.W.Frag} {mg : Str → Option Value} {base : Heap}
theorem Fun.okD {x qual : Str} {st : Stmt} {f : Addr} {fd : FuncData} {N ps : List Str} {k : Nat} {sp : SpD} (n : Nat) (hn : N.length = ps.length + n) (F : Fun K x qual st f fd) (S : FnScope N ps (defScope st)) (len : ∀ ds G Q, sp ds G Q → ds.length = ps.length)
    (hbody : ∀ (cdv : Value) (A : Around) (outer : List Env) (s : Shared) (H : Hp) (ds : List D) (G : GHp) (Q : DK) (E : XK), Room k (A.deeper (envOfC qual (defScope st) s.heap.objs.size f cdv)) → sp ds G Q →
      ∃ t, PSsD (cxOf CX0 P w K mg base N qual (defScope st) f cdv A outer s H E).nox (defBody st) t ∧ t { nx := fun _ G' => Q .non G', rt := Q } (st0 n ds) G) : FnOk P w K mg base CX0 (k + 1) f fd ps (spOf K sp) := by
  refine F.ok S (fun vs H Q E h => ?_) (fun cdv A outer s H vs Q E hr h => ?_)
  · obtain ⟨ds, G, Qd, iv, _, h, _⟩ := h
    rw [← iv.length]
    exact len _ _ _ h
  · obtain ⟨ds, G, Qd, iv, gok, h, kk⟩ := h
    obtain ⟨t, ht, hq⟩ := hbody cdv A outer s H ds G Qd E hr h
    rw [← startD_st0 hn (len _ _ _ h)] at hq
    refine ⟨fun De σ H0 => ∃ σd G0, σd.length = σ.length ∧ IsSt K H0 σd σ ∧ GOk K G0 H0 ∧ t { nx := fun _ G' => Qd .non G', rt := Qd } σd G0 ∧ (∀ v H', Up K H0 Qd v H' → De.rt v H') ∧ ∀ σ' H', Up K H0 Qd .non H' → De.nx σ' H', ?_, ?_⟩
    · intro pins s' σ H0 De I hz
      obtain ⟨σd, G0, hl, hst, hg, hqq, k1, k2⟩ := hz
      refine thn (ht pins s' σd G0 σ H0 _ ⟨I, hl, hst, hg⟩ hqq) fun fl s2 z => ?_
      cases fl with
      | next => obtain ⟨σd', G', σ', H', j, tx, q⟩ := z; exact ⟨σ', H', j.inv, k2 σ' H' ⟨.non, G', tx, j.gh, .non, q⟩⟩
      | ret u => obtain ⟨d, v, σd', G', σ', H', j, tx, iv, r, q⟩ := z; exact ⟨v, σ', H', j.inv, r, k1 v H' ⟨d, G', tx, j.gh, iv, q⟩⟩
      | brk => obtain ⟨_, _, _, _, _, _, q⟩ := z; exact False.elim q
      | cont => obtain ⟨_, _, _, _, _, _, q⟩ := z; exact False.elim q
    · obtain ⟨h1, h2⟩ := start_ok (N := N) iv
      exact ⟨startD N ds, G, h1, h2, gok, hq, kk, fun _ H' z => kk _ H' z⟩
end
def dCall (sp : SpD) (t : TAD) : TED := fun σd G Q => t σd G fun ds G1 => sp ds G1 Q
section
variable {X : Cx} {CX : CXT} {k : Nat} {f : Addr} {fd : FuncData} {ps : List Str} {sp : SpD} {x : Str} {p pos : Pos} {e : Expr} {es : List Expr} {t : TAD}
theorem run_fnD {pins : List (Addr × Obj)} {σd : StD} {G : GHp} {σ : Sv} {H : Hp} {s : Shared} {Q : DK} {us : List Value} {ds : List D} {vs : List V} (F : FnOk X.prog X.w X.K X.mg X.base CX0 k f fd ps (spOf X.K sp)) (hr : Room k X.A) (hb : Binds X.K fd ps [])
    (j : J X pins σd G σ H s) (iv : IsVs X.K H ds vs) (r : Vals vs us) (h : sp ds G Q) : wpAny (model X.prog X.w) X.A (call (.ref f) us) (EPD X pins σd σ H Q) X.xe s := by
  refine thn (run_fn (Q := Up X.K H Q) (dvs := []) (E := E0) F hr hb .nil pass0 j.inv r ?_) fun _ _ z => j.up z
  rw [List.append_nil]
  exact ⟨ds, G, Q, iv, j.gh, h, fun v H' z => z⟩
theorem de_call (F : FnOk X.prog X.w X.K X.mg X.base CX0 k f fd ps (spOf X.K sp)) (hr : Room k X.A) (hg : Gl X x) (hm : X.mg x = some (.ref f)) (hk : PySem.W.keepIn X.K (.ref f) = true) (hb : Binds X.K fd ps [])
    (ha : PAD X (e :: es) t) (hdb : (x == ("__debug__" : Str)) = false := by decide) (he : starEach (e :: es) X.env = (false, eval e X.env) :: starEach es X.env := by rfl) (hpl : (backTo pos (starEach es X.env)).any (·.1) = false := by rfl) :
    PED X (.Call (.Name x p) (e :: es) [] pos) (dCall sp t) := by
  intro pins s σd G σ H Q j h
  refine wpAny_Call_Name_kw (ld_glob j.inv hg hm ?_ hdb)
  refine PySem.W.callWith_K (h₀ := X.base) j.inv.ok.mod.kin hk (thn (ha pos pins s σd G σ H _ j h) fun us s1 zz => zz.use fun ds vs G1 H1 j1 t1 i1 r1 q1 => ⟨j1.inv.kIn, ?_⟩) he hpl
  exact thn (run_fnD F hr hb j1 i1 r1 q1) fun _ _ z => z.from t1
end

/-! ### the law -/
theorem bits_of_layable {ns : List Int} (h : PySem.W.WData.layableAll [PySem.W.WData.list (ns.map PySem.W.WData.int)] = true) : ∀ n ∈ ns, n.natAbs < 2 ^ 1048576 := fun n hn => by
  have h1 := PySem.W.layableW_arg h (PySem.W.WData.list (ns.map PySem.W.WData.int)) (List.mem_singleton.mpr rfl)
  have h2 := PySem.W.layableW_item h1 (.int n) (List.mem_map.mpr ⟨n, hn, rfl⟩)
  have h3 := (PySem.W.layableW_iff.mp h2).2.2
  exact PySem.intBits_le_iff.mp (show PySem.Builtin.Int.intBits n ≤ 1048576 from h3)
end L3
namespace L3
section
open PySem PySem.W PySem.Calls PyProof.Rows
theorem attachB {l : OpenLaw} {n : Nat} {q : Program} {loose : List Str} {XP : (Str → Option Value) → Heap → Prop} {YP : World → Heap → Prop} {d : DefRec}
    (hn : l.most = some n) (hdf : d.params.defaults = [])
    (call : ∀ (w : World) (s₀ s₁ : Shared) (mg mb : Str → Option Value) (fa : Addr) (o : Obj) (pm cd doc : Value) (a : Addr) (vs : List Value) (ns : List Int),
      Ground q loose [] XP w s₀ mg mb s₁.heap → YP w s₁.heap →
      s₁.heap.get? fa = some o → o.data = .func (docDef d.name d.params d.body d.scope pm cd doc) → s₁.heap.CodeRec cd d.name → mg d.name = some (.ref fa) →
      s₁.heap.get? a = some { cls := .type "list", data := .seq vs.toArray } → IntsAre vs ns → ns.length ≤ n → (∀ n ∈ ns, n.natAbs < 2 ^ 1048576) → s₁.gens = #[] →
      codeAny (model l.prog w) callerA (.call (.ref fa) ⟨[.ref a], []⟩) (fun r s' => r = .ok (.ret (.bool true)) ∧ OldK s₁.heap s'.heap ∧ s'.os = s₁.os ∧ AllBare s'.gens) s₁) :
    WalkO q loose XP YP l.row.toRowW d [] (fun f vs => PySem.call f vs) := by
  intro w s₀ s₁ mg mb G Y fa o pm cd doc dV kV ho hd hcd hD hmg hg args vals as hpre hlay hrd hwl hlo
  obtain rfl : dV = .none := Dflts.none hD hdf
  obtain rfl : kV = .none := Dflts.noKw hD
  obtain ⟨a, vs, ns, rfl, rfl, hobj, hints, hlen⟩ := Att.script_of hn hpre hwl
  refine enter_call (codeAny_mono (call w s₀ s₁ mg mb fa o pm cd doc a vs ns G Y ho (fd_plain hd) hcd hmg hobj hints hlen (bits_of_layable hlay) hg) fun r s' hq => ?_)
  obtain ⟨rfl, h2, h3, h4⟩ := hq
  exact ⟨.inl ⟨.bool true, .bool true, [], rfl, fun _ => rfl, .bool true, Att.post_true l _, fun _ => ⟨List.Pairwise.nil, fun _ hm => (nomatch hm)⟩⟩, h2, h3, h4⟩
end
end L3
namespace L3
open PySem PySem.Spec PyProof.Rows L2
/-- what a law promises -/
def spLaw : SpD := fun ds _ Q => ∃ ns : List Int, ds = [.rl (ns.map D.int)] ∧ ns.length ≤ 63 ∧ (∀ n ∈ ns, n.natAbs < 2 ^ 1048576) ∧ ∀ G', Q (.bl true) G'
theorem walkD {l : PySem.W.OpenLaw} {k : Nat} {q : Program} {loose : List Str} {XP : (Str → Option Value) → Heap → Prop} {YP : World → Heap → Prop} {d : DefRec} {K : Params → PySem.W.Frag} {x : Str}
    (hn : l.most = some 63) (hdf : d.params.defaults = []) (hr : Room k callerA)
    (hY : ∀ (w : World) (h : Heap), YP w h → (K w.params).In h)
    (F : ∀ (w : World) (mg : Str → Option Value) (fa : Addr) (h : Heap), (K w.params).In h → h.Ns mainGlobals mg → mg d.name = some (.ref fa) →
      ∃ fd : FuncData, (∀ (s : Shared) (u : Value), BindsTo s fd ⟨[u], []⟩ [(x, u)]) ∧
        ∀ base : Heap, (K w.params).In base → base.Ns mainGlobals mg → FnOk l.prog w (K w.params) mg base CX0 k fa fd [x] (spOf (K w.params) spLaw)) :
    PySem.W.WalkO q loose XP YP l.row.toRowW d [] (fun f vs => PySem.call f vs) := by
  refine attachB hn hdf fun w s₀ s₁ mg mb fa o pm cd doc a vs ns G Y ho hd hcd hmg hobj hints hlen hbits hg => ?_
  have KX := hY w _ Y
  obtain ⟨fd, hb, hF⟩ := F w mg fa _ KX G.T.g hmg
  refine law_call KX G.T.g G.T.b G.T.builtins G.T.nolimit hg hobj hints (Nat.le_trans hlen (by decide)) hr hF hb (fun H hO hS => ?_) fun H e s' z => z
  have hro : RoL (K w.params) H a (ns.map V.int) := by
    rcases hS with (h | ⟨ob, h⟩) | h
    · rcases hO a with z | ⟨ob, xs, z⟩
      · rw [h] at z; cases z
      · rw [h] at z; cases z
    · exact .inl ⟨ob, h⟩
    · exact .inr h
  refine ⟨[.rl (ns.map D.int)], fun _ => none, fun d _ => d = .bl true, .cons (.rl hro (IsVs.ints ns)) .nil, fun b o e => (by cases e), ⟨ns, rfl, hlen, hbits, fun _ => rfl⟩, fun v H' z => ?_⟩
  obtain ⟨dd, G', _, _, iv, e⟩ := z
  subst e
  cases iv
  rfl
end L3

/-! ### comprehensions -/
namespace L3
open PySem PySem.Spec PyProof.Rows L2
/-- a turn of a comprehension's block, whatever its target -/
theorem comp_go {prog : Program} {w : World} {A : Around} {R : Result → Shared → Prop} {s : Shared} {elt target iter : Expr} {ifs : List Expr} {scope : Scope} {pos : Pos} {it acc : Value} {env : Env} (I : Nat → Shared → Prop)
    (turn : ∀ n s, I n s → wpAny (model prog w) A (pyNext it) (fun r s₁ => match r with
      | none => R (.ok .next) s₁
      | some v => wpAny (model prog w) A (letOwnedTupleGo target it v) (fun _ s₂' => wpAny (model prog w) A (assign target env v) (fun _ s₂ =>
          wpAny (model prog w) A (forIn ifs true fun c r => if r = true then do let ok ← isTrue c env (eval c env); pure (ForInStep.yield ok) else pure (ForInStep.yield r)) (fun ok s₃ =>
            if ok = true then wpAny (model prog w) A (eval elt env) (fun x s₄ =>
              wpAny (model prog w) A (call (.builtin "list.append") [acc, x]) (fun _ s₅ => ∃ m, m < n ∧ I m s₅) (fun _ _ => False) s₄) (fun _ _ => False) s₃
            else ∃ m, m < n ∧ I m s₃) (fun _ _ => False) s₂) (fun _ _ => False) s₂') (fun _ _ => False) s₁) (fun _ _ => False) s)
    (n : Nat) (h : I n s) : codeAny (model prog w) A (.compLoop (.ListComp elt [⟨target, iter, ifs, 0⟩] scope pos) 0 it acc env) R s := by
  refine codeAny_loop rfl I (fun n s hI => ?_) n h
  show wpAny _ A ((compTurn (.ListComp elt [⟨target, iter, ifs, 0⟩] scope pos) 0 it acc env).onRaise (fun x => do noteFrame x env; theTreesLotGoes x)) _ _ s
  refine wpAny_noted ?_
  rw [compTurn_list]
  refine wpAny_bind (wpAny_standAt (wpAny_bind (wpAny_mono (turn n s hI) (fun r s₁ h₁ => ?_) fun _ _ h' => h'.elim)))
  cases r with
  | none => exact wpAny_pure h₁
  | some v =>
    refine wpAny_bind (wpAny_mono h₁ (fun _ s₂' h₂' => ?_) fun _ _ h' => h'.elim)
    refine wpAny_bind (wpAny_mono h₂' (fun _ s₂ h₂ => wpAny_bind (wpAny_mono h₂ (fun ok s₃ h₃ => ?_) fun _ _ h' => h'.elim)) fun _ _ h' => h'.elim)
    cases ok with
    | false => exact wpAny_pure ⟨rfl, h₃⟩
    | true =>
      exact wpAny_bind (wpAny_bind (wpAny_mono h₃ (fun x s₄ h₄ => wpAny_bind (wpAny_mono h₄ (fun _ s₅ h₅ => wpAny_pure (wpAny_pure ⟨rfl, h₅⟩)) fun _ _ h' => h'.elim)) fun _ _ h' => h'.elim))
/-- the block's context -/
def compCx (X : Cx) (N : List Str) (scope : Scope) (cl : List (Str × Addr)) (C : Addr) (s : Shared) (H : Hp) (ex : List Addr) : Cx where
  prog := X.prog
  w := X.w
  K := X.K
  mg := X.mg
  base := X.base
  A := X.A
  N := N
  s₀ := s
  H₀ := H
  env := compEnvC scope cl C X.env
  outer := X.stack
  stack := X.stack
  ex := ex
  fn := fun _ => false
  calm := true
  pn := []
  xe := fun _ _ => False
/-- the cells that the block is given -/
def ClOk (X : Cx) : List (Str × Addr) → Prop
  | [] => True
  | p :: r => X.env.cells.lookup p.1 = some p.2 ∧ ClOk X r
theorem ClOk.get {X : Cx} : ∀ {cl : List (Str × Addr)} {x : Str} {c : Addr}, ClOk X cl → cl.lookup x = some c → X.env.cells.lookup x = some c
  | [], _, _, _, h => by cases h
  | (y, d) :: r, x, c, k, h => by
    rw [List.lookup_cons] at h
    cases e : x == y with
    | true =>
      rw [e] at h
      cases h
      have : x = y := by simpa using e
      rw [this]
      exact k.1
    | false =>
      rw [e] at h
      exact ClOk.get k.2 h
/-- the names from around: where they stand there -/
def FrOk (X : Cx) (scope : Scope) (cl : List (Str × Addr)) : List Str → List Nat → Prop
  | [], [] => True
  | y :: ys, k :: ks => (X.N[k]? = some y ∧ X.env.kindOf y = some .cell ∧ (relabel scope X.env).names.lookup y = some .cell ∧ ∃ c, cl.lookup y = some c) ∧ FrOk X scope cl ys ks
  | _, _ => False
theorem FrOk.get {X : Cx} {scope : Scope} {cl : List (Str × Addr)} : ∀ {ys : List Str} {ks : List Nat} {i : Nat} {y : Str}, FrOk X scope cl ys ks → ys[i]? = some y →
    ∃ k, ks[i]? = some k ∧ X.N[k]? = some y ∧ X.env.kindOf y = some .cell ∧ (relabel scope X.env).names.lookup y = some .cell ∧ ∃ c, cl.lookup y = some c
  | [], _, _, _, _, h => by simp at h
  | _ :: _, [], _, _, f, _ => False.elim f
  | z :: ys, k :: ks, 0, y, f, h => by
    simp at h
    subst h
    exact ⟨k, rfl, f.1⟩
  | z :: ys, k :: ks, i + 1, y, f, h => by
    obtain ⟨k', e, r⟩ := FrOk.get (i := i) f.2 (by simpa using h)
    exact ⟨k', by simpa using e, r⟩
theorem FrOk.len {X : Cx} {scope : Scope} {cl : List (Str × Addr)} : ∀ {ys : List Str} {ks : List Nat}, FrOk X scope cl ys ks → ys.length = ks.length
  | [], [], _ => rfl
  | [], _ :: _, f => False.elim f
  | _ :: _, [], f => False.elim f
  | _ :: _, _ :: _, f => congrArg (· + 1) (FrOk.len f.2)
def pickS {α : Type} (σ : List (Option α)) (ks : List Nat) : List (Option α) := ks.map fun k => match σ[k]? with
  | some o => o
  | none => none
theorem pick_some {α : Type} {σ : List (Option α)} {ks : List Nat} {i : Nat} {v : α} (h : (pickS σ ks)[i]? = some (some v)) : ∃ k, ks[i]? = some k ∧ σ[k]? = some (some v) := by
  unfold pickS at h
  rw [List.getElem?_map] at h
  cases e : ks[i]? with
  | none => rw [e] at h; cases h
  | some k =>
    rw [e] at h
    have h' : (match σ[k]? with
      | some o => o
      | none => none) = some v := Option.some.inj h
    cases e2 : σ[k]? with
    | none => rw [e2] at h'; cases h'
    | some o => rw [e2] at h'; cases h'; exact ⟨k, rfl, e2⟩
theorem Un.but {fs ex : List Addr} {H H1 : Hp} {h h1 h2 : Heap} {C : Addr} (u : Un fs ex H H1 h h1) (hs : Heap.SameBut C h1 h2) (hC : h.objs.size ≤ C) : Un fs ex H H1 h h2 := by
  have ne : ∀ b o, h.get? b = some o → b ≠ C := fun b o e => Nat.ne_of_lt (Nat.lt_of_lt_of_le (Heap.lt_size e) hC)
  refine ⟨fun b o e n hb hx => (hs.2 b (ne b o e)).trans (u.keep b o e n hb hx), fun b o e n hb hx => ?_, u.free, fun b o e hx => ?_, u.tups, u.frzs, u.tbls⟩
  · obtain ⟨sl, q⟩ := u.slot b o e n hb hx
    exact ⟨sl, (hs.2 b (ne b o e)).trans q⟩
  · obtain ⟨o', q⟩ := u.there b o e hx
    exact ⟨o', (hs.2 b (ne b o e)).trans q⟩
theorem HOk.but {P : Program} {w : World} {H : Hp} {h h2 : Heap} {C : Addr} (x : HOk P w H h) (hs : Heap.SameBut C h h2) (hn : H C = none) : HOk P w H h2 := fun a o e =>
  (x a o e).stay (fun b u hb q => (hs.2 b (by
    rintro rfl
    rcases hb with z | z
    · rw [z, e] at hn; cases hn
    · rw [hn] at z; cases z)).trans q) (fun _ q => q) fun _ _ q => q
/-- the tests of a comprehension: none or one -/
inductive PCs (X : Cx) : List Expr → TTD → Prop where
  | nil : PCs X [] (fun _ G Q => Q true G)
  | one {c : Expr} {t : TTD} (h : PTD X c t) : PCs X [c] t
/-- out: what has come so far; fv: the values from around -/
def CLoop (ds : List D) (kp : GHp → Prop) (tc : TTD) (te : TED) (fv : StD) (G : GHp) (Q : DK) : Prop := ∀ p, G p = none → ∃ P : Nat → List D → GHp → Prop, P 0 [] (gupd G p (.lst [])) ∧
  (∀ i out G', i ≤ ds.length → P i out G' → kp G' ∧ G' p = some (.lst out) ∧ out.length ≤ i) ∧
  (∀ i d out G', ds[i]? = some d → P i out G' → tc (some d :: fv) G' fun b G1 => if b = true then te (some d :: fv) G1 fun y G2 => G2 p = some (.lst out) ∧ P (i + 1) (out ++ [y]) (gupd G2 p (.lst (out ++ [y]))) else P (i + 1) out G1) ∧
  ∀ out G', P ds.length out G' → Q (.ref p) G'
def dComp (wi : TID) (ks : List Nat) (tc : TTD) (te : TED) : TED := fun σd G Q => wi σd G fun ds kp G1 => Fits ds.length ∧ CLoop ds kp tc te (pickS σd ks) G1 Q
theorem cells_ok {names : List (Str × NameKind)} {cl : List (Str × Addr)} (h : (names.all fun p => !(p.2 == .cell || p.2 == .free) || (cl.lookup p.1).isSome) = true) (z : Str) (hz : names.lookup z = some .cell ∨ names.lookup z = some .free) : ∃ c, cl.lookup z = some c := by
  have key : ∀ k : NameKind, (k == .cell || k == .free) = true → names.lookup z = some k → ∃ c, cl.lookup z = some c := fun k hk e => by
    have hm := PySem.mem_of_lookup e
    have := List.all_eq_true.mp h _ hm
    dsimp only at this
    rw [hk, Bool.not_true, Bool.false_or] at this
    exact Option.isSome_iff_exists.mp this
  rcases hz with e | e
  · exact key _ rfl e
  · exact key _ rfl e
section
variable {X : Cx} {elt iter : Expr} {x : Str} {px pos : Pos} {ifs : List Expr} {scope : Scope} {cl : List (Str × Addr)} {wi : TID} {ks : List Nat} {ys : List Str} {tc : TTD} {te : TED}
theorem comp_inv {pins : List (Addr × Obj)} {σd : StD} {G : GHp} {σ : Sv} {H : Hp} {s : Shared} {fp : List Addr} {h₁ : Heap} {C : Addr} {tk : Nat} (hc : X.calm = true) (hcl : ClOk X cl) (hfr : FrOk X scope cl ys ks) (hkind : scope.kind = .function) (hx : scope.names.lookup x = some .local)
    (hcells : ∀ z, (relabel scope X.env).names.lookup z = some .cell ∨ (relabel scope X.env).names.lookup z = some .free → ∃ c, cl.lookup z = some c)
    (j : J X pins σd G σ H s) (hf : ∀ b ∈ fp, FpOk X pins H b) (hlt : ∀ b ∈ fp, b < s.heap.objs.size) (hC : s.heap.objs.size ≤ C) (hk : ∀ b u, s.heap.get? b = some u → h₁.get? b = some u) (hns : h₁.Ns C fun _ => none) :
    Inv (compCx X (x :: ys) scope cl C s H fp) [] (none :: pickS σ ks) H { s with heap := h₁, toks := tk } := by
  have I := j.inv
  refine ⟨⟨I.ok.mod, hkind, I.ok.glob, I.ok.blt, hC, fun y z c e1 e2 => I.ok.inj y z c (hcl.get e1) (hcl.get e2), fun y hy => hcells y hy, fun y c hy => (by cases hy), fun _ => I.ok.hd hc, I.ok.frames, .inl rfl, fun b hb => ⟨Nat.ne_of_lt (Nat.lt_of_lt_of_le (hlt b hb) hC), fun y c e => (hf b hb).2.2.2.2.1 y c (hcl.get e)⟩,
      I.bs, Nat.le_trans I.ok.bsz I.sz, fun b o e hb => ?_, fun b hb hs => ?_, I.stack, I.stkFree⟩, rfl, I.bare, Un.kept hk, ⟨_, hns, fun i y v e1 e2 e3 => ?_⟩, fun y c e => ?_, I.hok.fresh hC, fun y c e => I.freeC y c (hcl.get e), fun p hp => absurd hp (by simp [compCx]), I.hok.kept hk, ?_⟩
  · rcases (hf b hb).2.2.2.1 with z | z
    · exact I.ok.noex b o e z
    · exact absurd (Nat.lt_of_lt_of_le (Heap.lt_size e) (Nat.le_trans I.ok.bsz z)) (Nat.lt_irrefl _)
  · rcases List.mem_cons.mp (I.stkSub b hs) with z | z
    · exact (hf b hb).2.1 z
    · exact (hf b hb).2.2.1 z
  · cases i with
    | zero => simp at e2
    | succ i =>
      have e1' : ys[i]? = some y := by simpa [compCx] using e1
      have e2' : (pickS σ ks)[i]? = some (some v) := by simpa using e2
      obtain ⟨k, ek, eN, ekind, erel, c, ec⟩ := hfr.get e1'
      obtain ⟨k', ek', eσ⟩ := pick_some e2'
      rw [ek] at ek'
      cases ek'
      obtain ⟨m, _, hl⟩ := I.loc
      obtain ⟨u, r, look⟩ := hl k y v eN eσ (.inr (.inl ekind))
      refine ⟨u, r, .inr ⟨.inl erel, c, ec, ?_⟩⟩
      rcases look with ⟨z, _⟩ | ⟨_, c', ec', z⟩
      · rw [ekind] at z; cases z
      · rw [hcl.get ec] at ec'
        cases ec'
        obtain ⟨o, ho, hd⟩ := z
        exact ⟨o, hk _ _ ho, hd⟩
  · obtain ⟨v, o, ho, hd⟩ := I.cell y c (hcl.get e)
    exact ⟨v, o, hk _ _ ho, hd⟩
  · simp [pickS, compCx, hfr.len]
theorem comp_st {K : PySem.W.Frag} {H : Hp} {σd : StD} {σ : Sv} (h : IsSt K H σd σ) : IsSt K H (none :: pickS σd ks) (none :: pickS σ ks) := fun i d e => by
  cases i with
  | zero => simp at e
  | succ i =>
    obtain ⟨k, e1, e2⟩ := pick_some (show (pickS σd ks)[i]? = some (some d) by simpa using e)
    obtain ⟨v, e3, r⟩ := h k d e2
    refine ⟨v, ?_, r⟩
    show (pickS σ ks)[i]? = some (some v)
    unfold pickS
    rw [List.getElem?_map, e1]
    simp only [Option.map_some, e3]
/-- behind the block: its names still stand at C -/
def CEnd (X : Cx) (pins : List (Addr × Obj)) (σd : StD) (σ : Sv) (H : Hp) (Q : DK) (acc : Value) (C : Addr) (s' : Shared) : Prop :=
  (∃ m, s'.heap.Ns C m) ∧ ∃ d v G' H', J X pins σd G' σ H' s' ∧ TX H H' ∧ IsV X.K H' d v ∧ RelV v acc ∧ Q d G' ∧ FpOk X pins H' C
/-- the block's names are let go -/
theorem J.letGo {pins : List (Addr × Obj)} {σd : StD} {G : GHp} {σ : Sv} {H : Hp} {s : Shared} {C : Addr} {h' : Heap} (j : J X pins σd G σ H s) (f : FpOk X pins H C) (hs : Heap.SameBut C s.heap h') : J X pins σd G σ H { s with heap := h' } :=
  ⟨j.inv.turned (t' := s.toks) (fun b o hb e => (hs.2 b hb).trans e) f.1 f.2.1 f.2.2.2.1 f.2.2.2.2.1 f.2.2.2.2.2, j.len, j.st, j.gh⟩
theorem run_comp {pins : List (Addr × Obj)} {s : Shared} {σd : StD} {G : GHp} {σ : Sv} {H : Hp} {Q : DK} (hc : X.calm = true) (hi : PID X (.Name x px) iter wi)
    (hcs : ∀ C s H ex, PCs (compCx X (x :: ys) scope cl C s H ex) ifs tc) (he : ∀ C s H ex, PED (compCx X (x :: ys) scope cl C s H ex) elt te)
    (hcl : ClOk X cl) (hfr : FrOk X scope cl ys ks) (hkind : scope.kind = .function) (hx : scope.names.lookup x = some .local) (hxr : (relabel scope X.env).names.lookup x = some .local) (hnd : (x :: ys).Nodup)
    (hcells : ∀ z, (relabel scope X.env).names.lookup z = some .cell ∨ (relabel scope X.env).names.lookup z = some .free → ∃ c, cl.lookup z = some c) (hcell : ∀ y ∈ scope.names, y.2 ≠ .cell)
    (j : J X pins σd G σ H s) (h : dComp wi ks tc te σd G Q) :
    wpAny (model X.prog X.w) X.A (eval iter X.env) (fun v s1 => wpAny (model X.prog X.w) X.A (pyIter v) (fun it s₂ => wpAny (model X.prog X.w) X.A (newList []) (fun acc s₃ =>
      wpAny (model X.prog X.w) X.A (newFunctionEnv scope X.env.globals cl [] X.env.qual none .none (some X.env)) (fun cenv s₄ =>
        codeAny (model X.prog X.w) X.A (.compStart (.ListComp elt [⟨.Name x px, iter, ifs, 0⟩] scope pos) 0 it acc { cenv with scope := relabel scope X.env })
          (fun r s' => r = .ok .next ∧ CEnd X pins σd σ H Q acc cenv.locals s') s₄) X.xe s₃) X.xe s₂) X.xe s1) X.xe s := by
  refine thn (hi pins s σd G σ H _ j h) fun v s1 h1 => thn h1 fun itv s2 h2 => ?_
  obtain ⟨it, fp, tn, I, G2, H2, ds, kp, rfl, j2, t2, T, st2, f2, hstop, hgo, ⟨hsz⟩, cloop⟩ := h2
  have fpLt : ∀ b ∈ fp, b < s2.heap.objs.size := fun b hb => by
    obtain ⟨o, e, _⟩ := T.obj _ _ st2 b hb
    exact Heap.lt_size e
  refine wpAny_newObj_type (wpAny_newFunctionEnv hcell (by intro y hy; simp at hy) (fun h₁ hns₁ hsb₁ => ?_) hkind)
  have hD : H2 s2.heap.objs.size = none := j2.inv.hok.fresh (Nat.le_refl _)
  obtain ⟨P, p0, pk, turn, fin⟩ := cloop s2.heap.objs.size (j2.gh.free hD)
  have eC : (s2.heap.push { cls := Value.type "list", dict := none, data := Data.seq ([] : List Value).toArray }).objs.size = s2.heap.objs.size + 1 := Heap.size_push ..
  have hC : s2.heap.objs.size ≤ (s2.heap.push { cls := Value.type "list", dict := none, data := Data.seq ([] : List Value).toArray }).objs.size := by rw [eC]; exact Nat.le_succ _
  have old : ∀ b u, s2.heap.get? b = some u → h₁.get? b = some u := fun b u e =>
    (hsb₁.2 b (Nat.ne_of_lt (Nat.lt_of_lt_of_le (Heap.lt_size e) hC))).trans (Heap.get?_push_of_some _ (Heap.get?_push_of_some _ e))
  have accAt : h₁.get? s2.heap.objs.size = some { cls := .type "list", data := .seq ([] : List Value).toArray } := by
    refine (hsb₁.2 _ (by rw [eC]; exact Nat.ne_of_lt (Nat.lt_succ_self _))).trans (Heap.get?_push_of_some _ (Heap.get?_push_size _ rfl))
  have I0 := comp_inv (x := x) (tk := s2.toks + ([] : List (Str × Value)).length) hc hcl hfr hkind hx hcells j2 f2 fpLt hC old hns₁
  generalize hCdef : (s2.heap.push { cls := Value.type "list", dict := none, data := Data.seq ([] : List Value).toArray }).objs.size = C at *
  -- the list that is built is tracked
  have I1 : Inv (compCx X (x :: ys) scope cl C s2 H2 fp) [] (none :: pickS σ ks) (upd H2 s2.heap.objs.size (.lst [])) { s2 with heap := h₁, toks := s2.toks + ([] : List (Str × Value)).length } := by
    refine ⟨I0.ok, I0.os, I0.bare, Un.laid old (Nat.le_refl _) hD, I0.loc, I0.cell, ?_, fun y c e => ?_, fun p hp => absurd hp (by simp [compCx]), j2.inv.hok.laid old (Nat.le_refl _) ⟨Nat.zero_le _, [], 0, .nil, accAt⟩, I0.len⟩
    · show upd H2 s2.heap.objs.size (.lst []) C = none
      rw [upd_ne (show C ≠ _ by rw [eC]; exact Nat.ne_of_gt (Nat.lt_succ_self _))]
      exact I0.free
    · have hc' := I0.freeC y c e
      by_cases z : c = s2.heap.objs.size
      · obtain ⟨vv, o, ho, _⟩ := j2.inv.cell y c (hcl.get e)
        exact absurd (Heap.lt_size ho) (by rw [z]; exact Nat.lt_irrefl _)
      · rw [upd_ne z]; exact hc'
  have jj : J (compCx X (x :: ys) scope cl C s2 H2 fp) [] (none :: pickS σd ks) (gupd G2 s2.heap.objs.size (.lst [])) (none :: pickS σ ks) (upd H2 s2.heap.objs.size (.lst [])) { s2 with heap := h₁, toks := s2.toks + ([] : List (Str × Value)).length } :=
    ⟨I1, by simp [pickS], comp_st (j2.st.mono (.laid hD)), j2.gh.put (.laid hD) (.lst upd_same .nil)⟩
  have fpT : ∀ b ∈ fp, FpOk (compCx X (x :: ys) scope cl C s2 H2 fp) [] H2 b := fun b hb =>
    ⟨(f2 b hb).1, Nat.ne_of_lt (Nat.lt_of_lt_of_le (fpLt b hb) hC), I0.ok.exfs b hb, .inl hb, fun y c e => (f2 b hb).2.2.2.2.1 y c (hcl.get e), fun p hp => absurd hp (by simp [compCx])⟩
  have stat : ∀ {H' : Hp}, (∀ b ∈ fp, H' b = none) → ∀ b ∈ fp, FpOk (compCx X (x :: ys) scope cl C s2 H2 fp) [] H' b := fun hn b hb => ⟨hn b hb, (fpT b hb).2⟩
  have st0 : tn 0 h₁ := T.keep _ _ _ st2 fun b hb o e => old b o e
  have loop : ∀ s₃ : Shared, s₃ = { s2 with heap := h₁, toks := s2.toks + ([] : List (Str × Value)).length } →
      codeAny (model X.prog X.w) X.A (.compLoop (.ListComp elt [⟨.Name x px, iter, ifs, 0⟩] scope pos) 0 (.ref it) (.ref s2.heap.objs.size) (compEnvC scope cl C X.env))
        (fun r s' => r = .ok .next ∧ CEnd X pins σd σ H Q (.ref s2.heap.objs.size) C s') s₃ := by
    rintro s₃ rfl
    refine comp_go (fun n s' => ∃ i out z zd σ' G' H', n = ds.length - i ∧ i ≤ ds.length ∧ J (compCx X (x :: ys) scope cl C s2 H2 fp) [] (zd :: pickS σd ks) G' (z :: σ') H' s' ∧ TX H2 H' ∧ tn i s'.heap ∧ (∀ b ∈ fp, H' b = none) ∧ P i out G') ?_ ds.length
      ⟨0, [], none, none, _, _, _, rfl, Nat.zero_le _, jj, .laid hD, st0, fun b hb => ?_, p0⟩
    · rintro n s3 ⟨i, out, z, zd, σ3, G3, H3, rfl, hil, j3, t3, st3, fr3, p3⟩
      obtain ⟨k3, e3, hol⟩ := pk i out G3 hil p3
      by_cases hlt : i < ds.length
      · have hd : ds[i]? = some ds[i] := by simp [hlt]
        obtain ⟨go, yl⟩ := hgo i ds[i] G3 H3 t3 j3.gh k3 hd
        refine thn (T.item (compCx X (x :: ys) scope cl C s2 H2 fp) rfl rfl rfl rfl i [] s3 (z :: σ3) H3 _ j3.inv (stat fr3) st3 go) fun r s4 zz21 => ?_
        obtain ⟨u, hr, h4⟩ := zz21
        subst hr
        refine thn h4 fun _ s5 zz22 => ?_
        obtain ⟨xv, H5, I5, r5, y5, st5, fr5⟩ := zz22
        obtain ⟨t5, g5, iv5⟩ := yl xv H5 y5
        have j5 : J (compCx X (x :: ys) scope cl C s2 H2 fp) [] (zd :: pickS σd ks) G3 (z :: σ3) H5 s5 := ⟨I5, j3.len, j3.st.mono t5, g5⟩
        have t3 := t3.trans t5
        have j5' := j5.pinned (stat fr5) (T.obj _ _ st5)
        refine wpAny_assign_Name (store_ok (i := 0) (x := x) j5'.inv hnd rfl (.inl hxr) r5 (fun s6 I6 => ?_) (.inr hxr))
        have j6 : J (compCx X (x :: ys) scope cl C s2 H2 fp) ([] ++ pinsAt fp s5.heap) (some ds[i] :: pickS σd ks) G3 (some xv :: σ3) H5 s6 := j5'.store (i := 0) I6 iv5
        have tt := turn i ds[i] out G3 hd p3
        have again : ∀ {out' : List D} {G7 : GHp} {H7 : Hp} {s7 : Shared}, J (compCx X (x :: ys) scope cl C s2 H2 fp) ([] ++ pinsAt fp s5.heap) (some ds[i] :: pickS σd ks) G7 (some xv :: σ3) H7 s7 → TX H5 H7 → P (i + 1) out' G7 →
            ∃ m, m < ds.length - i ∧ ∃ i out z zd σ' G' H', m = ds.length - i ∧ i ≤ ds.length ∧ J (compCx X (x :: ys) scope cl C s2 H2 fp) [] (zd :: pickS σd ks) G' (z :: σ') H' s7 ∧ TX H2 H' ∧ tn i s7.heap ∧ (∀ b ∈ fp, H' b = none) ∧ P i out G' := fun {out' G7 H7 s7} j7 t7 p7 => by
          refine ⟨ds.length - (i + 1), by omega, i + 1, out', _, _, _, G7, H7, rfl, hlt, j7.unpinned, t3.trans t7, T.keep _ _ _ st5 fun b hb o e => (j7.inv.pin (b, o) (List.mem_append_right _ (List.mem_append_right _ (mem_pinsAt hb e)))).1, fun b hb => ?_, p7⟩
          obtain ⟨o, e, d⟩ := T.obj _ _ st5 b hb
          exact (j7.inv.pin (b, o) (List.mem_append_right _ (List.mem_append_right _ (mem_pinsAt hb e)))).2.1
        have body : ∀ (ok : Bool) (s8 : Shared), TPD (compCx X (x :: ys) scope cl C s2 H2 fp) ([] ++ pinsAt fp s5.heap) (some ds[i] :: pickS σd ks) (some xv :: σ3) H5 (fun b G1 => if b = true then te (some ds[i] :: pickS σd ks) G1 fun y G2' => G2' s2.heap.objs.size = some (.lst out) ∧ P (i + 1) (out ++ [y]) (gupd G2' s2.heap.objs.size (.lst (out ++ [y]))) else P (i + 1) out G1) ok s8 →
            if ok = true then wpAny (model X.prog X.w) X.A (eval elt (compEnvC scope cl C X.env)) (fun xx s₄ =>
              wpAny (model X.prog X.w) X.A (call (.builtin "list.append") [.ref s2.heap.objs.size, xx]) (fun _ s₅ => ∃ m, m < ds.length - i ∧ ∃ i out z zd σ' G' H', m = ds.length - i ∧ i ≤ ds.length ∧ J (compCx X (x :: ys) scope cl C s2 H2 fp) [] (zd :: pickS σd ks) G' (z :: σ') H' s₅ ∧ TX H2 H' ∧ tn i s₅.heap ∧ (∀ b ∈ fp, H' b = none) ∧ P i out G') (fun _ _ => False) s₄) (fun _ _ => False) s8
            else ∃ m, m < ds.length - i ∧ ∃ i out z zd σ' G' H', m = ds.length - i ∧ i ≤ ds.length ∧ J (compCx X (x :: ys) scope cl C s2 H2 fp) [] (zd :: pickS σd ks) G' (z :: σ') H' s8 ∧ TX H2 H' ∧ tn i s8.heap ∧ (∀ b ∈ fp, H' b = none) ∧ P i out G' := by
          intro ok s8 z8
          obtain ⟨G8, H8, j8, t8, q8⟩ := z8
          cases ok with
          | false =>
            rw [if_neg Bool.false_ne_true] at q8 ⊢
            exact again j8 t8 q8
          | true =>
            rw [if_pos rfl] at q8 ⊢
            refine thn (he C s2 H2 fp _ s8 _ G8 _ H8 _ j8 q8) fun xx s9 zz23 => ?_
            obtain ⟨dy, yv, G9, H9, j9, t9, i9, r9, g9, p9⟩ := zz23
            obtain ⟨hs9, r9'⟩ := j9.gh _ _ g9
            refine thn (mt_append (X := compCx X (x :: ys) scope cl C s2 H2 fp) _ s9 _ H9 (.ref s2.heap.objs.size) [yv] (.ref s2.heap.objs.size) [xx] (Up X.K H9 fun _ G' => P (i + 1) (out ++ [dy]) G') j9.inv rfl (.cons r9 .nil) ?_) fun _ s10 z10 => ?_
            · refine ⟨_, _, yv, rfl, rfl, hs9, ?_, Up.setL (d := .non) j9.gh hs9 (r9'.append (.cons i9 .nil)) .non p9⟩
              rw [← r9'.length]
              omega
            · obtain ⟨dd, vv, G10, H10, j10, t10, _, _, q10⟩ := j9.up z10
              exact again j10 ((t8.trans t9).trans t10) q10
        rcases hcs C s2 H2 fp with _ | ⟨hcc⟩
        · refine wpAny_tests_nil (body true s6 ⟨G3, H5, j6, .refl, tt⟩)
        · exact wpAny_tests_one (thn (hcc _ s6 _ G3 _ H5 _ j6 tt) fun ok s8 z8 => body ok s8 z8)
      · have e : i = ds.length := by omega
        subst e
        refine thn (T.done (compCx X (x :: ys) scope cl C s2 H2 fp) rfl rfl rfl rfl _ [] s3 (z :: σ3) H3 _ j3.inv (stat fr3) st3 (hstop _ G3 H3 t3 j3.gh k3 (Nat.le_refl _))) fun r s4 zz24 => ?_
        obtain ⟨hr, I4⟩ := zz24
        subst hr
        obtain ⟨m, hm, _⟩ := I4.loc
        have I' : Inv X pins σ H3 s4 := j2.inv.call' (ch := fp) I4.os I4.base I4.hok I4.bare fun b hb => ⟨(f2 b hb).2.2.2.1, (f2 b hb).2.1, (f2 b hb).2.2.2.2.1, (f2 b hb).2.2.2.2.2⟩
        exact ⟨rfl, ⟨m, hm⟩, .ref s2.heap.objs.size, .ref s2.heap.objs.size, G3, H3, j2.next I' t3 j3.gh, t2.trans t3, .ref _, rfl, fin out G3 p3, j2.inv.fpOk hC I4.free⟩
    · by_cases z : b = s2.heap.objs.size
      · exact absurd (fpLt b hb) (by rw [z]; exact Nat.lt_irrefl _)
      · rw [upd_ne z]; exact (f2 b hb).1
  exact codeAny_compStart_list (loop _ rfl) (T.self _ 0 _ _ _ st0 (loop _ rfl))
/-- [elt for x in iter if ..] -/
theorem de_comp (hc : X.calm = true) (hi : PID X (.Name x px) iter wi)
    (hcs : ∀ C s H ex, PCs (compCx X (x :: ys) scope cl C s H ex) ifs tc) (he : ∀ C s H ex, PED (compCx X (x :: ys) scope cl C s H ex) elt te)
    (hclos : closureFor scope X.env = pure cl) (hcl : ClOk X cl) (hfr : FrOk X scope cl ys ks) (hkind : scope.kind = .function) (hx : scope.names.lookup x = some .local) (hxr : (relabel scope X.env).names.lookup x = some .local) (hnd : (x :: ys).Nodup)
    (hcells : ∀ z, (relabel scope X.env).names.lookup z = some .cell ∨ (relabel scope X.env).names.lookup z = some .free → ∃ c, cl.lookup z = some c) (hcell : ∀ y ∈ scope.names, y.2 ≠ .cell)
    (hnames : ∀ z ∈ scope.names, z.2 = .local → scope.names.lookup z.1 = some .local) (hs : ∀ x, foldedSetIterable iter X.env x = pure x := by intro _; rfl) :
    PED X (.ListComp elt [⟨.Name x px, iter, ifs, 0⟩] scope pos) (dComp wi ks tc te) := by
  intro pins s σd G σ H Q j h
  rw [eval_ListComp]
  refine wpAny_comprehension_free (use := none) rfl hs hclos hkind hnames (thn (run_comp (pos := pos) hc hi hcs he hcl hfr hkind hx hxr hnd hcells hcell j h) fun v s1 h1 => thn h1 fun it s2 h2 => thn h2 fun acc s3 h3 => thn h3 fun cenv s4 h4 => codeAny_mono h4 fun r s' hr => ?_)
  obtain ⟨rfl, ⟨m, hm⟩, d, v, G', H', j', tx, iv, r, q, f⟩ := hr
  exact ⟨m, hm, fun h' hs' => ⟨d, v, G', H', j'.letGo f hs', tx, iv, r, q⟩⟩
/-- name = [elt for x in iter if ..] -/
theorem ds_comp {i : Nat} {y : Str} {py spos : Pos} (hN : X.N.Nodup) (hi' : X.N[i]? = some y) (hy : Loc X.env.scope y) (hc : X.calm = true) (hi : PID X (.Name x px) iter wi)
    (hcs : ∀ C s H ex, PCs (compCx X (x :: ys) scope cl C s H ex) ifs tc) (he : ∀ C s H ex, PED (compCx X (x :: ys) scope cl C s H ex) elt te)
    (hclos : closureFor scope X.env = pure cl) (hcl : ClOk X cl) (hfr : FrOk X scope cl ys ks) (hkind : scope.kind = .function) (hx : scope.names.lookup x = some .local) (hxr : (relabel scope X.env).names.lookup x = some .local) (hnd : (x :: ys).Nodup)
    (hcells : ∀ z, (relabel scope X.env).names.lookup z = some .cell ∨ (relabel scope X.env).names.lookup z = some .free → ∃ c, cl.lookup z = some c) (hcell : ∀ y ∈ scope.names, y.2 ≠ .cell)
    (hnames : ∀ z ∈ scope.names, z.2 = .local → scope.names.lookup z.1 = some .local)
    (hsw : swapsWith (.ListComp elt [⟨.Name x px, iter, ifs, 0⟩] scope pos) (some (.Name y py)) spos.line X.env = pure true := by rfl) (hs : ∀ x, foldedSetIterable iter X.env x = pure x := by intro _; rfl)
    (hf : X.fn y = true ∨ X.env.scope.names.lookup y = some .local := by first | exact .inl rfl | exact .inr rfl | assumption) :
    PSD X (.Assign [.Name y py] (.ListComp elt [⟨.Name x px, iter, ifs, 0⟩] scope pos) spos) (dAsg (dComp wi ks tc te) (gdName i)) := by
  intro pins s σd G σ H E j h
  rw [exec_Assign_Name_used _ _ _ _ hsw]
  refine wpAny_bind (wpAny_standAt (wpAny_bind ?_))
  show wpAny _ X.A (do let _ ← comprehension (.ListComp elt [⟨.Name x px, iter, ifs, 0⟩] scope pos) scope X.env _ (newList []) false (eval iter X.env) (some (assign (.Name y py) X.env))) _ _ s
  refine wpAny_bind (thn (wpAny_comprehension_free (use := some (assign (.Name y py) X.env)) (Q := fun _ s' => SPD X pins H E .next s') rfl hs hclos hkind hnames
    (thn (run_comp (pos := pos) hc hi hcs he hcl hfr hkind hx hxr hnd hcells hcell j h) fun v s1 h1 => thn h1 fun it s2 h2 => thn h2 fun acc s3 h3 => thn h3 fun cenv s4 h4 => codeAny_mono h4 fun r s' hr => ?_)) fun _ s' hq => wpAny_pure (wpAny_pure hq))
  obtain ⟨rfl, ⟨m, hm⟩, d, v, G', H', j', tx, iv, r, q, f⟩ := hr
  show wpAny _ X.A (assign (.Name y py) X.env acc) _ _ _
  refine wpAny_assign_Name (store_ok2 j'.inv hN hi' hy r (fun s6 I6 hch => ?_) hf)
  obtain ⟨a, hsb, ha⟩ := hch
  have neC : cenv.locals ≠ a := by
    rcases ha with z | z
    · rw [z]; exact f.2.1
    · exact fun e => f.2.2.2.2.1 _ _ z e.symm
  refine ⟨m, hm.sameBut hsb neC, fun h' hs' => ?_⟩
  have j6 := j'.store (i := i) I6 iv
  exact ⟨_, G', _, H', j6.letGo f hs', tx, q⟩
end
end L3

/-! ### several names from a tuple; tuple(..), int(..); is None; == of tuples -/
namespace L3
open PySem PySem.Spec PyProof.Rows L2
abbrev TGDs := List D → StD → GHp → (StD → GHp → Prop) → Prop
def PGsD (X : Cx) (ts : List Expr) (t : TGDs) : Prop :=
  ∀ (pins : List (Addr × Obj)) (s : Shared) (σd : StD) (G : GHp) (σ : Sv) (H : Hp) (ds : List D) (vs : List V) (us : List Value) (Q : StD → GHp → Prop), J X pins σd G σ H s → IsVs X.K H ds vs → Vals vs us → t ds σd G Q →
    wpAny (model X.prog X.w) X.A (assignInOrder ((assignEach ts X.env).map (·.2)) us) (fun _ s' => ∃ σd' G' σ' H', J X pins σd' G' σ' H' s' ∧ TX H H' ∧ Q σd' G') X.xe s
def gdNil : TGDs := fun ds σd G Q => match ds with
  | [] => Q σd G
  | _ => False
def gdCons (t : TGD) (u : TGDs) : TGDs := fun ds σd G Q => match ds with
  | d :: r => t d σd G fun σ' G' => u r σ' G' Q
  | [] => False
def gdTup (n : Nat) (u : TGDs) : TGD := fun d σd G Q => match d with
  | .tup ds => ds.length = n ∧ u ds σd G Q
  | _ => False
section
variable {X : Cx} {pos : Pos}
theorem gds_nil : PGsD X [] gdNil := by
  intro pins s σd G σ H ds vs us Q j iv r h
  cases iv with
  | nil =>
    cases r
    exact assignInOrder_nil ⟨σd, G, σ, H, j, .refl, h⟩
  | cons _ _ => exact False.elim h
theorem gds_cons {e : Expr} {es : List Expr} {t : TGD} {u : TGDs} (h1 : PGD X e t) (h2 : PGsD X es u)
    (hs : (assignEach (e :: es) X.env).map (·.2) = assign e X.env :: (assignEach es X.env).map (·.2) := by rfl) : PGsD X (e :: es) (gdCons t u) := by
  intro pins s σd G σ H ds vs us Q j iv r h
  cases iv with
  | nil => exact False.elim h
  | cons i1 i2 =>
    cases r with
    | cons r1 r2 =>
      rw [hs]
      refine assignInOrder_cons (thn (h1 pins s σd G σ H _ _ _ _ j i1 r1 h) fun _ s1 zz6 => ?_)
      obtain ⟨σd1, G1, σ1, H1, j1, t1, q1⟩ := zz6
      exact thn (h2 pins s1 σd1 G1 σ1 H1 _ _ _ Q j1 (i2.mono t1) r2 q1) fun _ s2 ⟨σd2, G2, σ2, H2, j2, t2, q2⟩ => ⟨σd2, G2, σ2, H2, j2, t1.trans t2, q2⟩
theorem gd_tup {es : List Expr} {k : Nat} {t : TGDs} {n : Nat} (hc : X.calm = true) (h : PGsD X es t)
    (hn : (assignEach es X.env).length = n := by rfl) (hst : (assignEach es X.env).findIdx? (·.1) = none := by rfl) : PGD X (.Tuple es k pos) (gdTup n t) := by
  intro pins s σd G σ H d v u Q j iv r hw
  cases iv with
  | tup hs rr =>
    cases r
    obtain ⟨hl, hw⟩ := hw
    obtain ⟨its, rv, ht, hz⟩ := j.inv.tuple hs
    refine assign_Tuple_tuple (j.inv.ok.hd hc) ht (by simp [hn, ← hl, rr.length, rv.length]) hst fun h' hx => ?_
    have I1 : Inv X pins σ H { s with heap := h' } := j.inv.kept (t' := s.toks) fun b o e => hx b o (Nat.ne_of_lt (Heap.lt_size e)) e
    exact h pins _ σd G σ H _ _ _ Q (j.next I1 .refl j.gh) rr (by simpa using rv) hw
  | _ => exact False.elim hw
theorem ds_asg {tg e : Expr} {te : TED} {g : TGD} (he : PED X e te) (hg : PGD X tg g) (hs : swapsWithSole [tg] e pos.line X.env = pure false := by rfl) (hw : swappedStores [tg] e X.env = pure none := by rfl)
    (h1 : (assignEach [tg] X.env).map (·.2) = [assign tg X.env] := by rfl) : PSD X (.Assign [tg] e pos) (dAsg te g) := by
  intro pins s σd G σ H E j h
  refine wpAny_Assign_stores (thn (he pins s σd G σ H _ j h) fun v s1 zz => zz.use fun dx x G1 H1 j1 t1 i1 r1 q1 => ?_) hs hw
  rw [h1]
  exact thn (hg pins s1 σd G1 σ H1 dx x v _ j1 i1 r1 q1) fun _ s2 ⟨σd2, G2, σ2, H2, j2, t2, q2⟩ => ⟨σd2, G2, σ2, H2, j2, t1.trans t2, q2⟩
def qTuple : List D → GHp → DK → Prop := fun ds G Q => match ds with
  | [.ref a] => match G a with
    | some (.lst xs) => Q (.tup xs) G
    | _ => False
  | [.tup xs] => Q (.tup xs) G
  | _ => False
theorem cd_tuple : CallD X (.type "tuple") qTuple := .of call_tuple_of fun G H ds xs Q gok ix q => by
  unfold qTuple at q
  split at q
  · split at q
    rotate_left
    · exact False.elim q
    rename_i ys e
    cases ix with
    | cons r rs =>
      cases r
      cases rs
      obtain ⟨hs, rr⟩ := gok _ _ e
      exact ⟨_, _, rfl, .inl ⟨.of hs, fun l hl => Up.newT gok hl rr q⟩⟩
  · cases ix with
    | cons r rs =>
      cases rs
      cases r with
      | tup hs rr => exact ⟨_, _, rfl, .inr ⟨hs, Up.same gok (.tup hs rr) q⟩⟩
  · exact False.elim q
def qInt : List D → GHp → DK → Prop := fun ds G Q => match ds with
  | [.int i] => Q (.int i) G
  | [.bl k] => Q (.int (if k then 1 else 0)) G
  | _ => False
theorem cd_int : CallD X (.type "int") qInt := .of call_int1 fun G H ds xs Q gok ix q => by
  unfold qInt at q
  split at q
  · cases ix with
    | cons r rs => cases r; cases rs; exact .inl ⟨_, rfl, Up.same gok (.int _) q⟩
  · cases ix with
    | cons r rs => cases r; cases rs; exact .inr ⟨_, rfl, Up.same gok (.int _) q⟩
  · exact False.elim q
end

/-! == of tuples of ints and such -/
mutual
def datD : D → PySem.W.Dat
  | .non => .none
  | .bl b => .bool b
  | .int i => .int i
  | .str x => .str x
  | .ty _ => .none
  | .ref _ => .none
  | .tup ds => .tuple (datDs ds)
  | .rl ds => .list (datDs ds)
def datDs : List D → List PySem.W.Dat
  | [] => []
  | d :: ds => datD d :: datDs ds
end
/-! ints, None, and tuples of them -/
mutual
def plD : D → Bool
  | .non => true
  | .int _ => true
  | .tup ds => plDs ds
  | .rl ds => plDs ds
  | _ => false
def plDs : List D → Bool
  | [] => true
  | d :: ds => plD d && plDs ds
end
mutual
def dpD : D → Nat
  | .tup ds => dpDs ds + 1
  | .rl ds => dpDs ds + 1
  | _ => 0
def dpDs : List D → Nat
  | [] => 0
  | d :: ds => max (dpD d) (dpDs ds)
end
mutual
theorem dat_inj : ∀ {x y : D}, plD x = true → plD y = true → datD x = datD y → x = y
  | .non, y, _, hy, e => by cases y <;> simp_all [datD, plD]
  | .int i, y, _, hy, e => by cases y <;> simp_all [datD, plD]
  | .tup xs, y, hx, hy, e => by
    cases y with
    | tup ys =>
      simp only [datD, PySem.W.Dat.tuple.injEq] at e
      simp only [plD] at hx hy
      rw [dats_inj hx hy e]
    | _ => simp_all [datD, plD]
  | .bl _, _, hx, _, _ => by simp [plD] at hx
  | .str _, _, hx, _, _ => by simp [plD] at hx
  | .ty _, _, hx, _, _ => by simp [plD] at hx
  | .ref _, _, hx, _, _ => by simp [plD] at hx
  | .rl xs, y, hx, hy, e => by
    cases y with
    | rl ys =>
      simp only [datD, PySem.W.Dat.list.injEq] at e
      simp only [plD] at hx hy
      rw [dats_inj hx hy e]
    | _ => simp_all [datD, plD]
theorem dats_inj : ∀ {xs ys : List D}, plDs xs = true → plDs ys = true → datDs xs = datDs ys → xs = ys
  | [], [], _, _, _ => rfl
  | [], _ :: _, _, _, e => by simp [datDs] at e
  | _ :: _, [], _, _, e => by simp [datDs] at e
  | x :: xs, y :: ys, hx, hy, e => by
    simp only [plDs, Bool.and_eq_true] at hx hy
    simp only [datDs, List.cons.injEq] at e
    rw [dat_inj hx.1 hy.1 e.1, dats_inj hx.2 hy.2 e.2]
end
mutual
theorem dat_ok : ∀ {x : D} {n : Nat}, plD x = true → dpD x ≤ n → PySem.W.kqdOk n (datD x) = true
  | .non, n, _, _ => by cases n <;> rfl
  | .int i, n, _, _ => by cases n <;> rfl
  | .tup xs, 0, _, h => by simp [dpD] at h
  | .tup xs, n + 1, hx, h => by
    simp only [plD] at hx
    simp only [dpD] at h
    simp only [datD, PySem.W.kqdOk, List.all_eq_true]
    exact dats_ok hx (by omega)
  | .bl _, _, hx, _ => by simp [plD] at hx
  | .str _, _, hx, _ => by simp [plD] at hx
  | .ty _, _, hx, _ => by simp [plD] at hx
  | .ref _, _, hx, _ => by simp [plD] at hx
  | .rl xs, 0, _, h => by simp [dpD] at h
  | .rl xs, n + 1, hx, h => by
    simp only [plD] at hx
    simp only [dpD] at h
    simp only [datD, PySem.W.kqdOk, List.all_eq_true]
    exact dats_ok hx (by omega)
theorem dats_ok : ∀ {xs : List D} {n : Nat}, plDs xs = true → dpDs xs ≤ n → ∀ d ∈ datDs xs, PySem.W.kqdOk n d = true
  | [], _, _, _ => by simp [datDs]
  | x :: xs, n, hx, h => by
    simp only [plDs, Bool.and_eq_true] at hx
    simp only [dpDs] at h
    intro d hd
    simp only [datDs, List.mem_cons] at hd
    rcases hd with rfl | hd
    · exact dat_ok hx.1 (by omega)
    · exact dats_ok hx.2 (by omega) d hd
end
section
variable {X : Cx} {pins : List (Addr × Obj)} {σ : Sv} {H : Hp} {s : Shared}
mutual
theorem reads_of (I : Inv X pins σ H s) : ∀ {d : D} {v : V} {u : Value}, plD d = true → IsV X.K H d v → RelV v u → ∃ as, Reads s.heap u (PySem.W.kqdP (datD d)) as
  | .non, _, _, _, .non, r => by cases r; exact ⟨_, .none⟩
  | .int i, _, _, _, .int _, r => by obtain ⟨t, rfl⟩ := r; exact ⟨_, .int i t⟩
  | .tup ds, _, _, hp, .tup hs rr, r => by
    cases r
    obtain ⟨its, rv, ⟨o, ho, hc, n, hd⟩, hz⟩ := I.tuple hs
    simp only [plD] at hp
    obtain ⟨as, q⟩ := reads_all I hp rr rv
    simp only [datD, PySem.W.kqdP]
    exact ⟨as, reads_tuple_at ho hc hd (by simpa using q)⟩
  | .bl _, _, _, hx, _, _ => by simp [plD] at hx
  | .str _, _, _, hx, _, _ => by simp [plD] at hx
  | .ty _, _, _, hx, _, _ => by simp [plD] at hx
  | .ref _, _, _, hx, _, _ => by simp [plD] at hx
  | .rl ds, _, _, hp, .rl hs rr, r => by
    cases r
    obtain ⟨its, rv, ⟨o, n, ho, hc, _, hd⟩, hz⟩ := I.list hs.sq
    simp only [plD] at hp
    obtain ⟨as, q⟩ := reads_all I hp rr rv
    simp only [datD, PySem.W.kqdP]
    exact ⟨_, reads_list_at ho hc hd (by simpa using q)⟩
theorem reads_all (I : Inv X pins σ H s) : ∀ {ds : List D} {vs : List V} {us : List Value}, plDs ds = true → IsVs X.K H ds vs → Vals vs us → ∃ as, ReadsAll s.heap us (PySem.W.kqdPs (datDs ds)) as
  | [], _, _, _, .nil, r => by cases r; exact ⟨_, .nil⟩
  | d :: ds, _, _, hp, .cons i1 i2, r => by
    cases r with
    | cons r1 r2 =>
      simp only [plDs, Bool.and_eq_true] at hp
      obtain ⟨as, q1⟩ := reads_of I hp.1 i1 r1
      obtain ⟨bs, q2⟩ := reads_all I hp.2 i2 r2
      simp only [datDs, PySem.W.kqdPs]
      exact ⟨_, .cons q1 q2⟩
end
/-- a list of ours, read -/
theorem reads_lst (I : Inv X pins σ H s) {G : GHp} {a : Addr} {xs : List D} (g : GOk X.K G H) (e : G a = some (.lst xs)) (hp : plDs xs = true) : ∃ as, Reads s.heap (.ref a) (PySem.W.kqdP (datD (.rl xs))) as := by
  obtain ⟨hs, rr⟩ := g _ _ e
  obtain ⟨its, rv, ⟨o, n, ho, hc, _, hd⟩, hz⟩ := I.list (SqL.of hs)
  obtain ⟨as, q⟩ := reads_all I hp rr rv
  simp only [datD, PySem.W.kqdP]
  exact ⟨_, reads_list_at ho hc hd (by simpa using q)⟩
theorem shaped_of {d : D} (hp : plD d = true) (hd : dpD d ≤ 8) : PySem.SeqAt.shaped (PySem.W.kqdP (datD d)) = true := by
  have l := PySem.W.kqd_lay 8 (datD d) (dat_ok hp hd)
  unfold PySem.SeqAt.shaped
  rw [l.1, Bool.true_and]
  exact decide_eq_true (Nat.le_trans l.2 (by decide))
theorem eqv_of {x y : D} (hx : plD x = true) (hy : plD y = true) (dx : dpD x ≤ 8) (dy : dpD y ≤ 8) : PySem.PyData.eqv (PySem.W.kqdP (datD x)) (PySem.W.kqdP (datD y)) = decide (x = y) := by
  have q := PySem.W.kqd_eqv 8 (datD x) (datD y) 8 (dat_ok hx dx) (dat_ok hy dy)
  by_cases e : x = y
  · rw [decide_eq_true e, q, e]
  · rw [decide_eq_false e]
    exact Bool.eq_false_iff.mpr fun z => e (dat_inj hx hy (q.mp z))
/-- == and != of plain data -/
def qEqD : RD2 := fun x y G Q => match x, y with
  | .int i, .int j => Q (.bl (decide (i = j))) G
  | .bl i, .bl j => Q (.bl (decide (i = j))) G
  | .str i, .str j => Q (.bl (decide (i = j))) G
  | .tup xs, .tup ys => (plDs xs = true ∧ plDs ys = true ∧ dpDs xs ≤ 7 ∧ dpDs ys ≤ 7) ∧ Q (.bl (decide (xs = ys))) G
  | .ref a, .ref b => match G a, G b with
    | some (.lst xs), some (.lst ys) => (plDs xs = true ∧ plDs ys = true ∧ dpDs xs ≤ 7 ∧ dpDs ys ≤ 7) ∧ Q (.bl (decide (xs = ys))) G
    | _, _ => False
  | x, y => scalD x y = true ∧ Q (.bl (decide (x = y))) G
def qNeD : RD2 := fun x y G Q => match x, y with
  | .int i, .int j => Q (.bl (!decide (i = j))) G
  | .bl i, .bl j => Q (.bl (!decide (i = j))) G
  | .str i, .str j => Q (.bl (!decide (i = j))) G
  | .tup xs, .tup ys => (plDs xs = true ∧ plDs ys = true ∧ dpDs xs ≤ 7 ∧ dpDs ys ≤ 7) ∧ Q (.bl (!decide (xs = ys))) G
  | .ref a, .ref b => match G a, G b with
    | some (.lst xs), some (.lst ys) => (plDs xs = true ∧ plDs ys = true ∧ dpDs xs ≤ 7 ∧ dpDs ys ≤ 7) ∧ Q (.bl (!decide (xs = ys))) G
    | _, _ => False
  | x, y => scalD x y = true ∧ Q (.bl (!decide (x = y))) G
theorem od_eqD (hu : X.A.units + 64 < cLine) : OpD X (compareOp .Eq) qEqD := by
  intro pins s σd G σ H dx dy x y v u Q j ix iy rx ry q
  unfold qEqD at q
  split at q
  · exact od_eq pins s σd G σ H _ _ x y v u Q j ix iy rx ry q
  · exact od_eq pins s σd G σ H _ _ x y v u Q j ix iy rx ry q
  · exact od_eq pins s σd G σ H _ _ x y v u Q j ix iy rx ry q
  · rename_i xs ys
    obtain ⟨⟨p1, p2, d1, d2⟩, q⟩ := q
    have P1 : plD (.tup xs) = true := by simp only [plD]; exact p1
    have P2 : plD (.tup ys) = true := by simp only [plD]; exact p2
    have D1 : dpD (.tup xs) ≤ 8 := by simp only [dpD]; omega
    have D2 : dpD (.tup ys) ≤ 8 := by simp only [dpD]; omega
    obtain ⟨as, ra⟩ := reads_of j.inv P1 ix rx
    obtain ⟨bs, rb⟩ := reads_of j.inv P2 iy ry
    refine eq_dataH ra rb (shaped_of P1 D1) (shaped_of P2 D2) hu ?_
    rw [eqv_of P1 P2 D1 D2]
    refine ⟨.bl (decide (xs = ys)), .bl (decide (xs = ys)), G, H, j, .refl, .bl _, ?_, q⟩
    show _ = _
    congr 1
    simp
  · split at q
    rotate_left
    · exact False.elim q
    rename_i xs ys e1 e2
    obtain ⟨⟨p1, p2, d1, d2⟩, q⟩ := q
    have P1 : plD (.rl xs) = true := by simp only [plD]; exact p1
    have P2 : plD (.rl ys) = true := by simp only [plD]; exact p2
    have D1 : dpD (.rl xs) ≤ 8 := by simp only [dpD]; omega
    have D2 : dpD (.rl ys) ≤ 8 := by simp only [dpD]; omega
    cases ix
    cases iy
    cases rx
    cases ry
    obtain ⟨as, ra⟩ := reads_lst j.inv j.gh e1 p1
    obtain ⟨bs, rb⟩ := reads_lst j.inv j.gh e2 p2
    refine eq_dataH ra rb (shaped_of P1 D1) (shaped_of P2 D2) hu ?_
    rw [eqv_of P1 P2 D1 D2]
    refine ⟨.bl (decide (xs = ys)), .bl (decide (xs = ys)), G, H, j, .refl, .bl _, ?_, q⟩
    show _ = _
    congr 1
    simp
  · exact od_eq pins s σd G σ H _ _ x y v u Q j ix iy rx ry (by unfold qEq; split <;> simp_all)
theorem od_neD (hu : X.A.units + 64 < cLine) : OpD X (compareOp .NotEq) qNeD := by
  intro pins s σd G σ H dx dy x y v u Q j ix iy rx ry q
  unfold qNeD at q
  split at q
  · exact od_ne pins s σd G σ H _ _ x y v u Q j ix iy rx ry q
  · exact od_ne pins s σd G σ H _ _ x y v u Q j ix iy rx ry q
  · exact od_ne pins s σd G σ H _ _ x y v u Q j ix iy rx ry q
  · rename_i xs ys
    obtain ⟨⟨p1, p2, d1, d2⟩, q⟩ := q
    have P1 : plD (.tup xs) = true := by simp only [plD]; exact p1
    have P2 : plD (.tup ys) = true := by simp only [plD]; exact p2
    have D1 : dpD (.tup xs) ≤ 8 := by simp only [dpD]; omega
    have D2 : dpD (.tup ys) ≤ 8 := by simp only [dpD]; omega
    obtain ⟨as, ra⟩ := reads_of j.inv P1 ix rx
    obtain ⟨bs, rb⟩ := reads_of j.inv P2 iy ry
    refine ne_dataH ra rb (shaped_of P1 D1) (shaped_of P2 D2) hu ?_
    rw [eqv_of P1 P2 D1 D2]
    refine ⟨.bl (!decide (xs = ys)), .bl (!decide (xs = ys)), G, H, j, .refl, .bl _, ?_, q⟩
    show _ = _
    congr 1
    simp
  · split at q
    rotate_left
    · exact False.elim q
    rename_i xs ys e1 e2
    obtain ⟨⟨p1, p2, d1, d2⟩, q⟩ := q
    have P1 : plD (.rl xs) = true := by simp only [plD]; exact p1
    have P2 : plD (.rl ys) = true := by simp only [plD]; exact p2
    have D1 : dpD (.rl xs) ≤ 8 := by simp only [dpD]; omega
    have D2 : dpD (.rl ys) ≤ 8 := by simp only [dpD]; omega
    cases ix
    cases iy
    cases rx
    cases ry
    obtain ⟨as, ra⟩ := reads_lst j.inv j.gh e1 p1
    obtain ⟨bs, rb⟩ := reads_lst j.inv j.gh e2 p2
    refine ne_dataH ra rb (shaped_of P1 D1) (shaped_of P2 D2) hu ?_
    rw [eqv_of P1 P2 D1 D2]
    refine ⟨.bl (!decide (xs = ys)), .bl (!decide (xs = ys)), G, H, j, .refl, .bl _, ?_, q⟩
    show _ = _
    congr 1
    simp
  · exact od_ne pins s σd G σ H _ _ x y v u Q j ix iy rx ry (by unfold qNe; split <;> simp_all)
end
/-- a comprehension whose tests and elements hand back p and f of the item -/
theorem cloop_fm {ds : List D} {kp : GHp → Prop} {tc : TTD} {te : TED} {fv : StD} {G : GHp} {Q : DK} (p : D → Bool) (f : D → D) (hk : ∀ G', GS G G' → kp G')
    (hc : ∀ d ∈ ds, ∀ (G' : GHp) (R : Bool → GHp → Prop), GS G G' → (∀ G2, GS G' G2 → R (p d) G2) → tc (some d :: fv) G' R)
    (he : ∀ d ∈ ds, p d = true → ∀ (G' : GHp) (R : DK), GS G G' → (∀ G2, GS G' G2 → R (f d) G2) → te (some d :: fv) G' R)
    (h : ∀ q G', G q = none → GS G G' → G' q = some (.lst ((ds.filter p).map f)) → Q (.ref q) G') : CLoop ds kp tc te fv G Q := by
  intro q hq
  have gs : ∀ {G2 : GHp} {o : OD}, GS G G2 → GS G (gupd G2 q o) := fun {G2 o} g b u e => by
    rw [gupd_ne (gne_none e hq)]; exact g b u e
  refine ⟨fun i out G' => out = ((ds.take i).filter p).map f ∧ G' q = some (.lst out) ∧ GS G G', ⟨by simp, gupd_same, gs .refl⟩, fun i out G' hi ⟨e1, e2, e3⟩ => ⟨hk G' e3, e2, ?_⟩, ?_, fun out G' ⟨e1, e2, e3⟩ => ?_⟩
  · rw [e1, List.length_map]
    exact Nat.le_trans (List.length_filter_le _ _) (by rw [List.length_take]; omega)
  · rintro i d out G' hd ⟨e1, e2, e3⟩
    have hm : d ∈ ds := List.mem_of_getElem? hd
    have ht : (ds.take (i + 1)).filter p = (ds.take i).filter p ++ (if p d then [d] else []) := take_succ_filter p ds i d hd
    refine hc d hm G' _ e3 fun G2 s2 => ?_
    cases hp : p d with
    | false =>
      rw [if_neg Bool.false_ne_true]
      refine ⟨?_, s2 _ _ e2, e3.trans s2⟩
      rw [ht, hp]
      simp [e1]
    | true =>
      rw [if_pos rfl]
      refine he d hm hp G2 _ (e3.trans s2) fun G3 s3 => ⟨s3 _ _ (s2 _ _ e2), ?_, gupd_same, gs ((e3.trans s2).trans s3)⟩
      rw [ht, hp]
      simp [e1]
  · refine h q G' hq e3 ?_
    rw [e2, e1, List.take_length]
theorem cloop_map {ds : List D} {kp : GHp → Prop} {te : TED} {fv : StD} {G : GHp} {Q : DK} (f : D → D) (hk : ∀ G', GS G G' → kp G')
    (he : ∀ d ∈ ds, ∀ (G' : GHp) (R : DK), GS G G' → (∀ G2, GS G' G2 → R (f d) G2) → te (some d :: fv) G' R)
    (h : ∀ q G', G q = none → GS G G' → G' q = some (.lst (ds.map f)) → Q (.ref q) G') : CLoop ds kp (fun _ G Q => Q true G) te fv G Q :=
  cloop_fm (fun _ => true) f hk (fun _ _ _ _ _ k => k _ .refl) (fun d hd _ => he d hd) fun q G' h1 h2 h3 => h q G' h1 h2 (by rw [h3, List.filter_eq_self.mpr (fun _ _ => rfl)])
end L3

/-! ### append, in, reversed -/
namespace L3
open PySem PySem.Spec PyProof.Rows L2
def dApp (to te : TED) : TED := fun σd G Q => to σd G fun x G1 => match x with
  | .ref l => (∃ xs, G1 l = some (.lst xs)) ∧ te σd G1 fun y G2 => match G2 l with
    | some (.lst xs) => Fits (xs.length + 1) ∧ Q .non (gupd G2 l (.lst (xs ++ [y])))
    | _ => False
  | _ => False
section
variable {X : Cx} {o e : Expr} {to te : TED} {apos cpos : Pos}
end
/-! x in a list or a tuple of plain things -/
section
variable {X : Cx}
end
section
variable {X : Cx} {tg : Expr} {pos : Pos}
end
end L3

namespace L3
open PySem PySem.Spec PyProof.Rows L2
/-- a comprehension each of whose elements is as Ok says -/
theorem cloop_all {ds : List D} {kp : GHp → Prop} {te : TED} {fv : StD} {G : GHp} {Q : DK} (Ok : D → Prop) (hk : ∀ G', GS G G' → kp G')
    (he : ∀ d ∈ ds, ∀ (G' : GHp) (R : DK), GS G G' → (∀ y G2, Ok y → GS G' G2 → R y G2) → te (some d :: fv) G' R)
    (h : ∀ q G' out, G q = none → GS G G' → G' q = some (.lst out) → out.length = ds.length → (∀ y ∈ out, Ok y) → Q (.ref q) G') : CLoop ds kp (fun _ G Q => Q true G) te fv G Q := by
  intro q hq
  have gs : ∀ {G2 : GHp} {o : OD}, GS G G2 → GS G (gupd G2 q o) := fun {G2 o} g b u e => by
    rw [gupd_ne (gne_none e hq)]; exact g b u e
  refine ⟨fun i out G' => out.length = i ∧ (∀ y ∈ out, Ok y) ∧ G' q = some (.lst out) ∧ GS G G', ⟨rfl, fun _ z => (by cases z), gupd_same, gs .refl⟩, fun i out G' _ ⟨e1, _, e2, e3⟩ => ⟨hk G' e3, e2, Nat.le_of_eq e1⟩, ?_, fun out G' ⟨e1, e4, e2, e3⟩ => h q G' out hq e3 e2 e1 e4⟩
  rintro i d out G' hd ⟨e1, e4, e2, e3⟩
  dsimp only
  rw [if_pos rfl]
  refine he d (List.mem_of_getElem? hd) G' _ e3 fun y G2 hy s2 => ⟨s2 _ _ e2, by simp [e1], fun z hz => ?_, gupd_same, gs (e3.trans s2)⟩
  rcases List.mem_append.mp hz with w | w
  · exact e4 z w
  · have : z = y := by simpa using w
    rw [this]
    exact hy
/-- n items from the place k on -/
theorem cut_length {xs : List D} {k n : Nat} (h : k + n ≤ xs.length) : (cutD xs (some (k : Int)) (some ((k + n : Nat) : Int))).length = n := by
  unfold cutD
  rw [HT.sIx_nat, HT.sIx_nat, List.length_take, List.length_drop]
  omega
end L3

/-! ### exceptions -/
namespace L3
open PySem PySem.Spec PyProof.Rows L2
abbrev XW := Addr → StD → GHp → Prop
/-- all but the frames -/
abbrev offF (h : Heap) (l : List Env) : Heap := PySem.W.hideAll h (frs l)
/-- how an exception of the class at C lies at a, the frames l running, the innermost at L: just made, come from a callee, noted here -/
inductive Lies (B : Heap) (l : List Env) (L a C : Addr) (h : Heap) : Prop where
  | made {h0 : Heap} {args : List Value} (x : Heap.MadeExcOf h0 h a (.ref C) args) (k : B.StaysIn h0) (f : h0.FunFrames B l) : Lies B l L a C h
  | fly {a0 : Value} (x : Heap.FlyingW B l a (.ref C) a0 h) : Lies B l L a C h
  | held {a0 : Value} (x : Heap.HeldW B l a (.ref C) a0 L h) : Lies B l L a C h
theorem made_free {B h0 h : Heap} {a C : Addr} {args : List Value} (x : Heap.MadeExcOf h0 h a (.ref C) args) (k : B.StaysIn h0) : B.get? a = none := by
  cases q : B.get? a with
  | none => rfl
  | some o => have z := k a o q; rw [x.new] at z; cases z
section
variable {M : Model} {A : Around} {E : Value → Shared → Prop} {s : Shared} {env : Env} {outer : List Env} {L a C : Addr} {B : Heap} {Q : Unit → Shared → Prop}
theorem lies_noted (hfr : A.frames = some (env :: outer)) (hf : env.frame = some L) (x : Lies B (env :: outer) L a C s.heap)
    (h : ∀ h' a0, Heap.HeldW B (env :: outer) a (.ref C) a0 L h' → s.heap.UpToSlots h' → Q () { s with heap := h' }) : wpAny M A (noteFrame (.ref a) env) Q E s := by
  cases x with
  | made x k f =>
    have fr := made_free x k
    obtain ⟨t, he, htn, ht⟩ := x.there
    unfold noteFrame
    simp only [hf]
    refine wpAny_bind (wpAny_field he rfl rfl ?_)
    rw [if_neg (by simp)]
    exact wpAny_entryW (a0 := .ref t) hfr (f.of_keeps fun b o hb _ => ⟨o, x.keeps b o hb, rfl⟩) hf he (fun b o hb => x.keeps b o (k b o hb)) fr rfl (by simp) rfl fun h' ⟨k1, k2, k3, k4⟩ => h h' _ ⟨k1, fr, k2, k3⟩ k4
  | fly x => exact wpAny_looks_onW hfr hf x fun h' hh hs => h h' _ hh hs
  | held x => exact wpAny_noteFrame_againW hf x.2.2.2 (h _ _ x (.refl _))
theorem lies_left (hfr : A.frames = some (env :: outer)) (hf : env.frame = some L) (x : Lies B (env :: outer) L a C s.heap)
    (h : ∀ h' a0, Heap.FlyingW B outer a (.ref C) a0 h' → s.heap.UpToSlots h' → Q () { s with heap := h' }) : wpAny M A (leaving env (.ref a)) Q E s := by
  cases x with
  | made x k f => exact wpAny_leaves_madeW hfr hf k f x fun h' t x1 _ _ x4 => h h' _ x1 x4
  | fly x => exact wpAny_leaves_onW hfr hf x fun h' x1 x2 => h h' _ x1 x2
  | held x =>
    unfold leaving
    refine wpAny_bind (wpAny_noteFrame_againW hf x.2.2.2 ?_)
    refine wpAny_landsW x fun h' hfl hs => ?_
    obtain ⟨k1, k2, ⟨_, _, k3⟩, k4⟩ := hfl
    exact h h' _ ⟨k1, k2, k3, k4⟩ hs
end
/-- all but the frames is kept, the frames up to their slots -/
theorem _root_.L2.Inv.stable {X : Cx} {pins : List (Addr × Obj)} {σ : Sv} {H : Hp} {s : Shared} {h' : Heap} (I : Inv X pins σ H s) (k : (offF s.heap X.stack).StaysIn h') (u : s.heap.UpToSlots h') : Inv X pins σ H { s with heap := h' } := by
  have keep : ∀ b o, s.heap.get? b = some o → b ∉ frs X.stack → h'.get? b = some o := fun b o e n => k b o (PySem.W.hideAll_get _ e n)
  have fr : ∀ b ∈ frs X.stack, ∀ o, s.heap.get? b = some o → ∃ sl, h'.get? b = some { o with slots := sl } := fun b hb o e => by
    obtain ⟨_, o', e', d⟩ := I.stack.mem hb
    rw [e] at e'
    cases e'
    exact u b o e d
  refine I.call' (s' := { s with heap := h' }) (ch := []) rfl ⟨fun b o e _ hb _ => keep b o e hb, fun b o e _ hb _ => fr b hb o e, fun _ _ _ n _ => n, fun b o e _ => ?_, fun _ _ e => e, fun _ _ _ e => e, fun b ps e => ⟨#[], by rw [e]; simp⟩⟩
    (fun a o e => (I.hok a o e).stay (fun b u hb q => keep b u q fun hf => ?_) (fun _ q => q) fun _ _ q => q) I.bare (fun b z => nomatch z)
  · by_cases hb : b ∈ frs X.stack
    · obtain ⟨sl, q⟩ := fr b hb o e
      exact ⟨_, q⟩
    · exact ⟨o, keep b o e hb⟩
  · have n := I.stkFree b hf
    rcases hb with z | z
    · rw [z, e] at n; cases n
    · rw [z] at n; cases n
theorem _root_.L2.ObjOk.here {P : Program} {w : World} {H : Hp} {h : Heap} {a : Addr} {o : HO} (x : ObjOk P w H h a o) : ∃ u, h.get? a = some u := by
  cases o with
  | lst xs => exact ⟨_, x.2.choose_spec.choose_spec.2⟩
  | tup xs =>
    obtain ⟨_, _, _, o, e, _⟩ := x
    exact ⟨o, e⟩
  | dK kvs =>
    obtain ⟨_, _, _, _, o, _, _, e, _⟩ := x
    exact ⟨o, e⟩
  | dT kvs =>
    obtain ⟨_, _, _, _, o, _, _, e, _⟩ := x
    exact ⟨o, e⟩
  | set S n =>
    obtain ⟨o, _, _, _, e, _⟩ := x
    exact ⟨o, e⟩
  | ins C dx fs => exact ⟨_, x.2.2.2.1⟩
  | own y => exact x
  | xd fs =>
    obtain ⟨_, ⟨o, _, _, e, _⟩, _⟩ := x
    exact ⟨o, e⟩
  | rng lo hi =>
    obtain ⟨_, _, _, e⟩ := x
    exact ⟨_, e⟩
  | frz ob u => exact ⟨ob, x.1⟩
  | tbl ps => exact ⟨_, x⟩
  | met f y => exact ⟨_, x⟩
  | ext φ => exact x.2.1
/-- how an exception lies behind a call -/
def CXE (P : Program) (w : World) : CXT := fun outer H s E e s' =>
  ∃ (a C : Addr) (B : Heap) (a0 : Value) (H' : Hp), e = .ref a ∧ s'.os = s.os ∧ AllBare s'.gens ∧ Heap.FlyingW B outer a (.ref C) a0 s'.heap ∧
    (∀ h', B.StaysIn h' → s'.heap.UpToSlots h' → Un (frs outer) [] H H' s.heap h' ∧ HOk P w H' h') ∧ (∀ b o, H' b = some o → ∃ u, B.get? b = some u) ∧ E (.ref C) none H'
/-- an exception within a frame -/
def xeD (X : Cx) (Ex : XW) (e : Value) (s : Shared) : Prop :=
  ∃ (a C : Addr) (B : Heap) (σd : StD) (G : GHp) (σ : Sv) (H : Hp), e = .ref a ∧ Lies B X.stack X.env.locals a C s.heap ∧ (∀ h', B.StaysIn h' → s.heap.UpToSlots h' → J X [] σd G σ H { s with heap := h' }) ∧ (∀ b o, H b = some o → ∃ u, B.get? b = some u) ∧ Ex C σd G
section
variable {X : Cx} {pins : List (Addr × Obj)} {σd : StD} {G : GHp} {σ : Sv} {H : Hp} {s : Shared}
theorem J.wish (j : J X pins σd G σ H s) (W : Value → Shared → Prop) : J (X.wish W) pins σd G σ H s := ⟨j.inv.wish W, j.len, j.st, j.gh⟩
theorem J.unwish {W : Value → Shared → Prop} (j : J (X.wish W) pins σd G σ H s) : J X pins σd G σ H s := ⟨j.inv.unwish, j.len, j.st, j.gh⟩
theorem J.nopins (j : J X pins σd G σ H s) : J X [] σd G σ H s := ⟨j.inv.pins_of fun p hp => absurd hp (by simp), j.len, j.st, j.gh⟩
/-- just raised -/
theorem xe_made {Ex : XW} {h' : Heap} {a C : Addr} {args : List Value} (j : J X pins σd G σ H s) (x : Heap.MadeExcOf s.heap h' a (.ref C) args) (q : Ex C σd G) : xeD X Ex (.ref a) { s with heap := h' } := by
  have hin : ∀ env ∈ X.stack, ∀ b, env.frame = some b → b ∈ frs X.stack := fun env he b hb => List.mem_filterMap.mpr ⟨env, he, hb⟩
  refine ⟨a, C, offF s.heap X.stack, σd, G, σ, H, rfl, .made x (fun b o e => PySem.W.of_hideAll _ e) (PySem.W.funFrames_hide j.inv.stack hin), fun h2 k u => ?_, fun b o e => ?_, q⟩
  · have j0 := j.nopins
    exact ⟨j0.inv.stable k ((Heap.UpToSlots.of_keeps x.keeps).trans u), j0.len, j0.st, j0.gh⟩
  · obtain ⟨v, hv⟩ := (j.inv.hok b o e).here
    refine ⟨v, PySem.W.hideAll_get _ hv fun hf => ?_⟩
    rw [j.inv.stkFree b hf] at e
    cases e
end

/-! a def that may raise -/
abbrev SpX := List D → GHp → DK → (Addr → GHp → Prop) → Prop
def spOfX (K : PySem.W.Frag) (sp : SpX) : Sp := fun vs H Q E => ∃ ds G Qd Ed, IsVs K H ds vs ∧ GOk K G H ∧ sp ds G Qd Ed ∧ (∀ v H', Up K H Qd v H' → Q v H') ∧ ∀ C G' H', TX H H' → GOk K G' H' → Ed C G' → E (.ref C) none H'
/-- ends without a word about what stayed -/
def SPDw (X : Cx) (pins : List (Addr × Obj)) (E : EndsD) (f : Flow) (s' : Shared) : Prop :=
  match f with
  | .next => ∃ σd' G' σ' H', J X pins σd' G' σ' H' s' ∧ E.nx σd' G'
  | .brk => ∃ σd' G' σ' H', J X pins σd' G' σ' H' s' ∧ E.bk σd' G'
  | .cont => ∃ σd' G' σ' H', J X pins σd' G' σ' H' s' ∧ E.ct σd' G'
  | .ret u => ∃ d v σd' G' σ' H', J X pins σd' G' σ' H' s' ∧ IsV X.K H' d v ∧ RelV v u ∧ E.rt d G'
theorem SPD.weak {X : Cx} {pins : List (Addr × Obj)} {H : Hp} {E : EndsD} {f : Flow} {s' : Shared} (h : SPD X pins H E f s') : SPDw X pins E f s' := by
  cases f with
  | next => obtain ⟨a, b, c, d, j, _, q⟩ := h; exact ⟨a, b, c, d, j, q⟩
  | brk => obtain ⟨a, b, c, d, j, _, q⟩ := h; exact ⟨a, b, c, d, j, q⟩
  | cont => obtain ⟨a, b, c, d, j, _, q⟩ := h; exact ⟨a, b, c, d, j, q⟩
  | ret u => obtain ⟨x, v, a, b, c, d, j, _, q⟩ := h; exact ⟨x, v, a, b, c, d, j, q⟩
def PSDw (X : Cx) (st : Stmt) (t : TSD) : Prop :=
  ∀ (pins : List (Addr × Obj)) (s : Shared) (σd : StD) (G : GHp) (σ : Sv) (H : Hp) (E : EndsD), J X pins σd G σ H s → t E σd G → wpAny (model X.prog X.w) X.A (exec st X.env) (SPDw X pins E) X.xe s
def PSsDw (X : Cx) (sts : List Stmt) (t : TSD) : Prop :=
  ∀ (pins : List (Addr × Obj)) (s : Shared) (σd : StD) (G : GHp) (σ : Sv) (H : Hp) (E : EndsD), J X pins σd G σ H s → t E σd G → wpAny (model X.prog X.w) X.A (execs sts X.env) (SPDw X pins E) X.xe s
section
variable {X : Cx} {st : Stmt} {rest : List Stmt} {t u : TSD} {pos : Pos}
theorem PSD.weak (h : PSD X st t) : PSDw X st t := fun pins s σd G σ H E j q => thn (h pins s σd G σ H E j q) fun _ _ z => z.weak
theorem PSsD.weak (h : PSsD X rest t) : PSsDw X rest t := fun pins s σd G σ H E j q => thn (h pins s σd G σ H E j q) fun _ _ z => z.weak
theorem dssw_cons (h1 : PSDw X st t) (h2 : PSsDw X rest u) : PSsDw X (st :: rest) (dSeq t u) := by
  intro pins s σd G σ H E j h
  refine wpAny_execs_cons (thn (h1 pins s σd G σ H { E with nx := u E } j h) fun f s1 q => ?_)
  cases f with
  | next =>
    obtain ⟨σd', G', σ', H', j', q⟩ := q
    exact h2 pins s1 σd' G' σ' H' E j' q
  | ret v => exact q
  | brk => exact q
  | cont => exact q
theorem dssw_one (h1 : PSDw X st t) : PSsDw X [st] t := by
  intro pins s σd G σ H E j h
  refine wpAny_execs_cons (thn (h1 pins s σd G σ H E j h) fun f s1 q => ?_)
  cases f with
  | next => exact wpAny_execs_nil q
  | ret v => exact q
  | brk => exact q
  | cont => exact q
end
section
variable {P : Program} {w : World} {K : PySem.W.Frag} {mg : Str → Option Value} {base : Heap}
/-- what leaves the body has kept the tuples -/
theorem _root_.L2.Inv.tx {X : Cx} {pins : List (Addr × Obj)} {σ : Sv} {H : Hp} {s : Shared} (I : Inv X pins σ H s) : TX X.H₀ H := ⟨I.base.tups, I.base.frzs⟩
theorem SPDw.unwish {X : Cx} {W : Value → Shared → Prop} {pins : List (Addr × Obj)} {E : EndsD} {f : Flow} {s' : Shared} (h : SPDw (X.wish W) pins E f s') : SPDw X pins E f s' := by
  cases f with
  | next => obtain ⟨a, b, c, d, j, q⟩ := h; exact ⟨a, b, c, d, j.unwish, q⟩
  | brk => obtain ⟨a, b, c, d, j, q⟩ := h; exact ⟨a, b, c, d, j.unwish, q⟩
  | cont => obtain ⟨a, b, c, d, j, q⟩ := h; exact ⟨a, b, c, d, j.unwish, q⟩
  | ret u => obtain ⟨x, v, a, b, c, d, j, q⟩ := h; exact ⟨x, v, a, b, c, d, j.unwish, q⟩
theorem Fun.okW {x qual : Str} {st : Stmt} {f : Addr} {fd : FuncData} {N ps : List Str} {k : Nat} {CX : CXT} {sp : Sp} {good : List D → GHp → DK → XK → Prop} (F : Fun K x qual st f fd) (S : FnScope N ps (defScope st)) (len : ∀ vs H Q E, sp vs H Q E → vs.length = ps.length)
    (hbody : ∀ (cdv : Value) (A : Around) (outer : List Env) (s : Shared) (H : Hp) (vs : List V) (Q : VK) (E : XK), Room k (A.deeper (envOfC qual (defScope st) s.heap.objs.size f cdv)) → sp vs H Q E →
      ∃ ds G Qd t W, IsVs K H ds vs ∧ GOk K G H ∧ (∀ v H', Up K H Qd v H' → Q v H') ∧ (∀ s1, Inv (cxOf CX P w K mg base N qual (defScope st) f cdv A outer s H E) [] (L2.start N vs) H s1 → ∀ e s', W e s' → (cxOf CX P w K mg base N qual (defScope st) f cdv A outer s H E).xe e s') ∧
        PSsDw ((cxOf CX P w K mg base N qual (defScope st) f cdv A outer s H E).wish W) (defBody st) t ∧ t { nx := fun _ G' => Qd .non G', rt := Qd } (startD N ds) G) : FnOk P w K mg base CX (k + 1) f fd ps sp := by
  obtain ⟨oc, od, kV, doc, pm, an, cdv, ct, osl, rfl, lk, hcd⟩ := F.ex
  refine fn_of lk hcd S len fun A outer s H vs Q E hr hsp => ?_
  obtain ⟨ds, G, Qd, t, W, iv, gok, kk, hW, ht, hq⟩ := hbody cdv A outer s H vs Q E hr hsp
  refine ⟨fun De σ H0 => σ = L2.start N vs ∧ H0 = H ∧ (∀ v H', Up K H Qd v H' → De.rt v H') ∧ ∀ σ' H', Up K H Qd .non H' → De.nx σ' H', ?_, rfl, rfl, kk, fun _ H' z => kk _ H' z⟩
  rintro pins s1 σ H0 De I ⟨rfl, rfl, k1, k2⟩
  obtain ⟨h1, h2⟩ := start_ok (N := N) iv
  have I0 : Inv (cxOf CX P w K mg base N qual (defScope st) f cdv A outer s H0 E) [] (L2.start N vs) H0 s1 := I.pins_of fun p hp => absurd hp (by simp)
  have jj : J ((cxOf CX P w K mg base N qual (defScope st) f cdv A outer s H0 E).wish W) pins (startD N ds) G (L2.start N vs) H0 s1 := ⟨I.wish W, h1, h2, gok⟩
  refine wpAny_mono (ht pins s1 (startD N ds) G (L2.start N vs) H0 _ jj hq) (fun fl s2 z => ?_) fun e s' z => hW s1 I0 e s' z
  cases fl with
  | next =>
    obtain ⟨σd', G', σ', H', j, q⟩ := z
    exact ⟨σ', H', j.inv.unwish, k2 σ' H' ⟨.non, G', j.inv.unwish.tx, j.gh, .non, q⟩⟩
  | ret u =>
    obtain ⟨d, v, σd', G', σ', H', j, iv, r, q⟩ := z
    exact ⟨v, σ', H', j.inv.unwish, r, k1 v H' ⟨d, G', j.inv.unwish.tx, j.gh, iv, q⟩⟩
  | brk => obtain ⟨_, _, _, _, _, q⟩ := z; exact False.elim q
  | cont => obtain ⟨_, _, _, _, _, q⟩ := z; exact False.elim q
/-- a def from which no exception comes, whatever is caught in it -/
theorem Fun.okDw {x qual : Str} {st : Stmt} {f : Addr} {fd : FuncData} {N ps : List Str} {k : Nat} {sp : SpD} (n : Nat) (hn : N.length = ps.length + n) (F : Fun K x qual st f fd) (S : FnScope N ps (defScope st)) (len : ∀ ds G Q, sp ds G Q → ds.length = ps.length)
    (hbody : ∀ (cdv : Value) (A : Around) (outer : List Env) (s : Shared) (H : Hp) (ds : List D) (G : GHp) (Q : DK) (E : XK), Room k (A.deeper (envOfC qual (defScope st) s.heap.objs.size f cdv)) → sp ds G Q →
      ∃ t, PSsDw (cxOf CX0 P w K mg base N qual (defScope st) f cdv A outer s H E).nox (defBody st) t ∧ t { nx := fun _ G' => Q .non G', rt := Q } (st0 n ds) G) : FnOk P w K mg base CX0 (k + 1) f fd ps (spOf K sp) := by
  refine Fun.okW (good := fun _ _ _ _ => True) F S (fun vs H Q E h => ?_) (fun cdv A outer s H vs Q E hr h => ?_)
  · obtain ⟨ds, G, Qd, iv, _, h, _⟩ := h
    rw [← iv.length]
    exact len _ _ _ h
  · obtain ⟨ds, G, Qd, iv, gok, h, kk⟩ := h
    obtain ⟨t, ht, hq⟩ := hbody cdv A outer s H ds G Qd E hr h
    rw [← startD_st0 hn (len _ _ _ h)] at hq
    exact ⟨ds, G, Qd, t, fun _ _ => False, iv, gok, kk, fun _ _ _ _ z => z.elim, ht, hq⟩
/-- a def that may raise -/
theorem Fun.okX {x qual : Str} {st : Stmt} {f : Addr} {fd : FuncData} {N ps : List Str} {k : Nat} {sp : SpX} (n : Nat) (hn : N.length = ps.length + n) (F : Fun K x qual st f fd) (S : FnScope N ps (defScope st)) (len : ∀ ds G Q Ed, sp ds G Q Ed → ds.length = ps.length)
    (hbody : ∀ (cdv : Value) (A : Around) (outer : List Env) (s : Shared) (H : Hp) (ds : List D) (G : GHp) (Q : DK) (Ed : Addr → GHp → Prop) (E : XK), Room k (A.deeper (envOfC qual (defScope st) s.heap.objs.size f cdv)) → sp ds G Q Ed →
      ∃ t, PSsDw ((cxOf (CXE P w) P w K mg base N qual (defScope st) f cdv A outer s H E).wish (xeD (cxOf (CXE P w) P w K mg base N qual (defScope st) f cdv A outer s H E) fun C _ G' => Ed C G')) (defBody st) t ∧
        t { nx := fun _ G' => Q .non G', rt := Q } (st0 n ds) G) : FnOk P w K mg base (CXE P w) (k + 1) f fd ps (spOfX K sp) := by
  refine Fun.okW (good := fun _ _ _ _ => True) F S (fun vs H Q E h => ?_) (fun cdv A outer s H vs Q E hr h => ?_)
  · obtain ⟨ds, G, Qd, Ed, iv, _, h, _⟩ := h
    rw [← iv.length]
    exact len _ _ _ _ h
  · obtain ⟨ds, G, Qd, Ed, iv, gok, h, kk, ke⟩ := h
    obtain ⟨t, ht, hq⟩ := hbody cdv A outer s H ds G Qd Ed E hr h
    rw [← startD_st0 hn (len _ _ _ _ h)] at hq
    refine ⟨ds, G, Qd, t, _, iv, gok, kk, fun s1 I0 e s' z => ?_, ht, hq⟩
    obtain ⟨a, C, B, σd, G', σ, H', rfl, li, cl, tr, q⟩ := z
    refine lies_left (outer := outer) I0.ok.frames rfl li fun h' a0 fl up => ?_
    have j' := cl h' fl.1 up
    refine ⟨a, C, B, a0, H', rfl, j'.inv.os, j'.inv.bare, fl, fun h2 k2 u2 => ?_, tr, ke C G' H' j'.inv.tx j'.gh q⟩
    have j2 := cl h2 k2 (up.trans u2)
    exact ⟨j2.inv.base, j2.inv.hok⟩
end

/-! the call of such a def, raise -/
def dCallX (sp : SpX) (Ex : XW) (t : TAD) : TED := fun σd G Q => t σd G fun ds G1 => sp ds G1 Q fun C G' => Ex C σd G'
section
variable {X : Cx} {k : Nat} {f : Addr} {fd : FuncData} {ps : List Str} {sp : SpX} {Ex : XW} {x : Str} {p pos : Pos} {e : Expr} {es : List Expr} {t : TAD}
theorem run_fnX {pins : List (Addr × Obj)} {σd : StD} {G : GHp} {σ : Sv} {H : Hp} {s : Shared} {Q : DK} {us : List Value} {ds : List D} {vs : List V} (F : FnOk X.prog X.w X.K X.mg X.base (CXE X.prog X.w) k f fd ps (spOfX X.K sp)) (hr : Room k X.A) (hb : Binds X.K fd ps [])
    (j : J X pins σd G σ H s) (iv : IsVs X.K H ds vs) (r : Vals vs us) (h : sp ds G Q fun C G' => Ex C σd G') : wpAny (model X.prog X.w) X.A (call (.ref f) us) (EPD X pins σd σ H Q) (xeD X Ex) s := by
  have hsp : spOfX X.K sp vs H (Up X.K H Q) (fun c _ H' => ∃ C G', c = .ref C ∧ TX H H' ∧ GOk X.K G' H' ∧ Ex C σd G') :=
    ⟨ds, G, Q, _, iv, j.gh, h, fun _ _ z => z, fun C G' H' tx g q => ⟨C, G', rfl, tx, g, q⟩⟩
  have hl : us.length = ps.length := by rw [← r.length]; exact F.len _ _ _ _ hsp
  have hbs := hb s us j.inv.kIn (by rw [List.append_nil]; exact hl)
  rw [List.append_nil] at hbs
  refine wpAny_call (codeAny_mono (F.run X.A X.stack s H ⟨us, []⟩ us vs _ _ hr j.inv.env0 hbs r hsp) fun res s' hq => ?_)
  cases res with
  | error er =>
    obtain ⟨a, C, B, a0, H', rfl, os, bare, fl, cl, tr, C', G', ec, tx, g, q⟩ := hq
    cases ec
    refine ⟨a, C, B, σd, G', σ, H', rfl, .fly fl, fun h' k' u' => ?_, tr, q⟩
    obtain ⟨un, hok⟩ := cl h' k' u'
    have I' : Inv X pins σ H' { s' with heap := h' } := j.inv.call' (s' := { s' with heap := h' }) (ch := []) os un hok bare (fun b z => nomatch z)
    exact J.nopins ⟨I', j.len, j.st.mono tx, g⟩
  | ok fl =>
    cases fl with
    | ret u => exact j.up (j.inv.after hq)
    | next => exact False.elim hq
    | brk => exact False.elim hq
    | cont => exact False.elim hq
theorem EPD.wish {pins : List (Addr × Obj)} {σd : StD} {σ : Sv} {H : Hp} {Q : DK} {u : Value} {s' : Shared} {W : Value → Shared → Prop} (h : EPD X pins σd σ H Q u s') : EPD (X.wish W) pins σd σ H Q u s' := by
  obtain ⟨d, v, G', H', j, r⟩ := h
  exact ⟨d, v, G', H', j.wish W, r⟩
theorem de_callX (F : FnOk X.prog X.w X.K X.mg X.base (CXE X.prog X.w) k f fd ps (spOfX X.K sp)) (hr : Room k X.A) (hg : Gl X x) (hm : X.mg x = some (.ref f)) (hk : PySem.W.keepIn X.K (.ref f) = true) (hb : Binds X.K fd ps [])
    (ha : PAD (X.wish (xeD X Ex)) (e :: es) t) (hdb : (x == ("__debug__" : Str)) = false := by decide) (he : starEach (e :: es) X.env = (false, eval e X.env) :: starEach es X.env := by rfl) (hpl : (backTo pos (starEach es X.env)).any (·.1) = false := by rfl) :
    PED (X.wish (xeD X Ex)) (.Call (.Name x p) (e :: es) [] pos) (dCallX sp Ex t) := by
  intro pins s σd G σ H Q j h
  refine wpAny_Call_Name_kw (ld_glob j.inv hg hm ?_ hdb)
  refine PySem.W.callWith_K (h₀ := X.base) j.inv.ok.mod.kin hk (thn (ha pos pins s σd G σ H _ j h) fun us s1 zz => ?_) he hpl
  obtain ⟨ds, vs, G1, H1, j1, t1, i1, r1, q1⟩ := zz
  refine ⟨j1.inv.kIn, ?_⟩
  exact thn (run_fnX F hr hb j1.unwish i1 r1 q1) fun _ _ z => (EPD.from z t1).wish
/-- .. where it can't raise -/
def dCallN (sp : SpX) (t : TAD) : TED := fun σd G Q => t σd G fun ds G1 => sp ds G1 Q fun _ _ => False
theorem de_callN (F : FnOk X.prog X.w X.K X.mg X.base (CXE X.prog X.w) k f fd ps (spOfX X.K sp)) (hr : Room k X.A) (hg : Gl X x) (hm : X.mg x = some (.ref f)) (hk : PySem.W.keepIn X.K (.ref f) = true) (hb : Binds X.K fd ps [])
    (ha : PAD X (e :: es) t) (hdb : (x == ("__debug__" : Str)) = false := by decide) (he : starEach (e :: es) X.env = (false, eval e X.env) :: starEach es X.env := by rfl) (hpl : (backTo pos (starEach es X.env)).any (·.1) = false := by rfl) :
    PED X (.Call (.Name x p) (e :: es) [] pos) (dCallN sp t) := by
  intro pins s σd G σ H Q j h
  refine wpAny_Call_Name_kw (ld_glob j.inv hg hm ?_ hdb)
  refine PySem.W.callWith_K (h₀ := X.base) j.inv.ok.mod.kin hk (thn (ha pos pins s σd G σ H _ j h) fun us s1 zz => ?_) he hpl
  obtain ⟨ds, vs, G1, H1, j1, t1, i1, r1, q1⟩ := zz
  refine ⟨j1.inv.kIn, ?_⟩
  refine wpAny_mono (run_fnX (Ex := fun _ _ _ => False) F hr hb j1 i1 r1 q1) (fun _ _ z => EPD.from z t1) fun e s' z => ?_
  obtain ⟨_, _, _, _, _, _, _, _, _, _, _, q⟩ := z
  exact q.elim
/-- a class of errors of ours, under ValueError, without __init__ -/
structure Err (K : PySem.W.Frag) (mg : Str → Option Value) (x : Str) (C : Addr) : Prop where
  bound : mg x = some (.ref C)
  exc : PySem.W.excIn K C [.type "ValueError", .type "Exception", .type "BaseException", .type "object"] "ValueError.__new__" = true
  ns : PySem.W.nsIn K mainGlobals x = some (some (.ref C))
def dRaise (C : Addr) (Ex : XW) (t : TAD) : TSD := fun _ σd G => t σd G fun ds G1 => Fits ds.length ∧ Ex C σd G1
theorem loose_of {es : Array DictEntry} {m : Str → Option Value} (k : StrKeys es) (h : ∀ n, nsFind es n = m n) : ∃ l : List Str, ∀ x, x ∉ l → m x = none := by
  refine ⟨es.toList.map fun e => (match e.key with
    | .str n _ => n
    | _ => Str.empty), fun x hx => ?_⟩
  rw [← h]
  unfold nsFind findBy
  rw [Array.find?_eq_none.mpr fun e he z => hx ?_]
  · rfl
  · obtain ⟨n, t, ek⟩ := k e he
    have en : x = n := Value.isStr_inj (.str n t) x n (by rw [← ek]; exact z) (by simp [Value.isStr])
    exact List.mem_map.mpr ⟨e, by simpa using he, by rw [ek, en]⟩
theorem own_of {K : PySem.W.Frag} {h : Heap} {mg : Str → Option Value} {x : Str} {C : Addr} {bmB : List Value} {newId : String} (p : Program) (M : Mod K mg h) (n : PySem.W.nsIn K mainGlobals x = some (some (.ref C))) (q : PySem.W.excIn K C bmB newId = true) :
    ∃ bm N nm q bs hdct sn sub ab col dd k0 k1 k2 k3 k5 mN, h.get? C = some (excClassObj nm q C N bs bm hdct sn sub ab col dd k0 k1 k2 k3 k5 newId) ∧ h.Ns N mN ∧ mN "__init__" = none ∧ OwnTail h bmB bm := by
  obtain ⟨mb, hb, hbb⟩ := M.blt
  obtain ⟨_, _, _, _, _, hk, hm⟩ := id M.glob
  obtain ⟨l, hl⟩ := loose_of hk hm
  exact (PySem.W.own_of_in (p := p) (loose := l) M.kin ⟨M.glob, hb, M.nolimit, hbb, fun x _ z _ _ _ => hl x z⟩ n q).obj
theorem ds_raise {C : Addr} {np cpos : Pos} (R : Err X.K X.mg x C) (hc : X.calm = true) (hg : Gl X x) (ha : PAD (X.wish (xeD X Ex)) (e :: es) t) (hdb : (x == ("__debug__" : Str)) = false := by decide)
    (he : starEach (e :: es) X.env = (false, eval e X.env) :: starEach es X.env := by rfl) (hpl : (backTo cpos (starEach es X.env)).any (·.1) = false := by rfl) :
    PSD (X.wish (xeD X Ex)) (.Raise (some (.Call (.Name x np) (e :: es) [] cpos)) none pos) (dRaise C Ex t) := by
  intro pins s σd G σ H E j h
  obtain ⟨tl, N, nm, qn, bs, hdct, sn, sub, ab, col, dd, k0, k1, k2, k3, k5, mN, hC, hN, hni, T⟩ := own_of X.prog j.inv.ok.mod R.ns R.exc
  have FB := PySem.F.excBase_ValueError
  refine wpAny_Raise_call_subT (C := C) (nm := nm) (q := qn) (N := N) (bs := bs) (bm := tl) (hdct := hdct) (sn := sn) (sub := sub) (ab := ab) (col := col) (dd := dd) (k0 := k0) (k1 := k1) (k2 := k2) (k3 := k3) (k5 := k5)
    FB (mN := mN) (T.hasType FB.hasBase) (j.inv.ok.hd hc) (by rw [he]; show (false || (backTo cpos (starEach es X.env)).any (·.1)) = false; rw [hpl]; rfl) hni (ld_glob j.inv hg R.bound ⟨rfl, ?_⟩ hdb)
  have a1 := ha cpos pins s σd G σ H _ j h
  rw [he] at a1 ⊢
  refine Calls.evalArgs_plain (thn a1 fun us s1 zz => ?_)
  obtain ⟨ds, vs, G1, H1, j1, t1, i1, r1, hz, q1⟩ := zz
  have kp := j1.inv.bk
  exact ⟨rfl, by rw [← r1.length, ← i1.length]; exact hz.le, kp _ _ hC, hN.keeps kp, T.keeps kp, fun h' e hm => xe_made j1.unwish hm q1⟩
end

/-! what an except clause takes -/
def valD : D → Value
  | .ref a => .ref a
  | .ty T => .type T
  | _ => .none
/-- does an exception of the class at C go to the clause of c? -/
def exmD (K : PySem.W.Frag) (C : Addr) : D → Option Bool
  | .ref c => PySem.W.exmOne K (.ref C) (.ref c)
  | .ty T => PySem.W.exmOne K (.ref C) (.type T)
  | .tup ds => PySem.W.exmAny K (.ref C) (ds.map valD)
  | _ => none
section
variable {M : Model} {K : PySem.W.Frag} {A : Around} {E : Value → Shared → Prop}
theorem each_yield {f : Value → PUnit → Sem (ForInStep PUnit)} {s : Shared} : ∀ {cs : List Value} {Q : PUnit → Shared → Prop}, (∀ c ∈ cs, ∀ R : ForInStep PUnit → Shared → Prop, R (.yield ⟨⟩) s → wpAny M A (f c ⟨⟩) R E s) → Q ⟨⟩ s → wpAny M A (forIn cs ⟨⟩ f) Q E s
  | [], Q, _, q => by
    rw [List.forIn_nil]
    exact wpAny_pure q
  | c :: cs, Q, h, q => by
    rw [List.forIn_cons]
    exact wpAny_bind (h c (.head _) _ (each_yield (fun d hd => h d (.tail _ hd)) q))
theorem exm_all {cls : Value} : ∀ {cs : List Value} {b : Bool}, PySem.W.exmAny K cls cs = some b → ∀ c ∈ cs, ∃ v, PySem.W.exmOne K cls c = some v
  | [], _, _, c, hc => by cases hc
  | d :: cs, b, e, c, hc => by
    obtain ⟨b1, d1, x1, y1, _⟩ := PySem.W.exmAny_cons e
    rcases List.mem_cons.mp hc with z | z
    · exact ⟨b1, by rw [z]; exact x1⟩
    · exact exm_all y1 c z
theorem exm_find {cls : Value} {s : Shared} {f : Value → Option Bool × PUnit → Sem (ForInStep (Option Bool × PUnit))}
    (hf : ∀ c v, PySem.W.exmOne K cls c = some v → ∀ R : ForInStep (Option Bool × PUnit) → Shared → Prop, R (if v = true then .done (some true, ⟨⟩) else .yield (none, ⟨⟩)) s → wpAny M A (f c (none, ⟨⟩)) R E s) :
    ∀ {cs : List Value} {b : Bool} {Q : Option Bool × PUnit → Shared → Prop}, PySem.W.exmAny K cls cs = some b → Q (if b = true then some true else none, ⟨⟩) s → wpAny M A (forIn cs (none, ⟨⟩) f) Q E s
  | [], b, Q, e, q => by
    have e' : some false = some b := e
    cases e'
    rw [List.forIn_nil]
    exact wpAny_pure q
  | c :: cs, b, Q, e, q => by
    obtain ⟨b1, d1, x1, y1, rfl⟩ := PySem.W.exmAny_cons e
    rw [List.forIn_cons]
    refine wpAny_bind (hf c b1 x1 _ ?_)
    cases b1 with
    | true =>
      rw [if_pos rfl]
      exact wpAny_pure q
    | false =>
      rw [if_neg Bool.false_ne_true]
      rw [Bool.false_or] at q
      exact exm_find hf y1 q
theorem exm_tupN {cls : Value} {cs : List Value} {tp e : Addr} {n : Nat} {o : Obj} {b : Bool} {h : Heap} (X : K.In h) (LT : PySem.W.Looks M h (typeOf (.ref e)) cls) (hp : h.get? tp = some o) (hc : o.cls = .type "tuple") (hd : o.data = .seq cs.toArray n)
    (hx : PySem.W.exmAny K cls cs = some b) : PySem.W.Looks M h (excMatches (.ref e) (.ref tp)) b := by
  intro A Q E s k q
  obtain ⟨hh, g, d, tk, os⟩ := s
  have k : ∀ b o, h.get? b = some o → hh.get? b = some o := k
  have L0 : PySem.W.Looks M h (isInstance (.ref tp) (.type "tuple")) true := by
    have l1 : PySem.W.Looks M h (typeOf (.ref tp)) o.cls := (PySem.W.Looks.ld hp).andThen .now
    rw [hc] at l1
    exact l1.andThen (PySem.W.Looks.of_pure isSubtype_tuple_tuple)
  unfold excMatches
  refine wpAny_bind ((L0.keeps k).here ?_)
  dsimp only
  rw [if_pos rfl]
  refine wpAny_bind (wpAny_seqItems (k _ _ hp) hd ?_)
  dsimp only [Option.getD_some, Option.getD]
  refine wpAny_bind (wpAny_pure ?_)
  refine wpAny_bind (each_yield (fun c hc R r => ?_) ?_)
  · obtain ⟨v, hv⟩ := exm_all hx c (by simpa using hc)
    refine wpAny_bind (((PySem.W.exm_cls (M := M) X hv).1.keeps k).here ?_)
    simp only [Bool.not_true, Bool.false_eq_true, if_false]
    exact wpAny_pure r
  · refine wpAny_bind ((LT.keeps k).here ?_)
    refine wpAny_bind (exm_find (K := K) (cls := cls) (b := b) (fun c v hv R r => ?_) (by simpa using hx) ?_)
    · refine wpAny_bind (((PySem.W.exm_cls (M := M) X hv).2.keeps k).here ?_)
      cases v with
      | true => exact wpAny_pure r
      | false => exact wpAny_pure r
    · cases b with
      | true => exact wpAny_pure q
      | false => exact wpAny_pure q
end
/-- the exception that is held: its object, its traceback's -/
structure Caught (C T : Addr) (oe oT : Obj) : Prop where
  cls : oe.cls = .ref C
  tr : ∃ vs, oe.data = .fields vs ∧ vs[1]? = some (.ref T)
  rest : ∃ ts, oT.data = .fields ts ∧ ts[3]? = some .none
/-- pins put into the context -/
abbrev _root_.L2.Cx.pinD (X : Cx) (pins : List (Addr × Obj)) : Cx := { X with pn := X.pn ++ pins }
/-- within an except suite -/
abbrev _root_.L2.Cx.suite (X : Cx) (a : Addr) (oe : Obj) : Cx := { X with A := X.A.mark (some (.ref a)), calm := false, pn := X.pn ++ [(a, oe)], xe := fun _ _ => False }
section
variable {X : Cx} {pins : List (Addr × Obj)} {σd : StD} {G : GHp} {σ : Sv} {H : Hp} {s : Shared}
theorem J.toPin (j : J X pins σd G σ H s) : J (X.pinD pins) [] σd G σ H s :=
  ⟨⟨⟨j.inv.ok.mod, j.inv.ok.kind, j.inv.ok.glob, j.inv.ok.blt, j.inv.ok.above, j.inv.ok.inj, j.inv.ok.has, j.inv.ok.cab, j.inv.ok.hd, j.inv.ok.frames, j.inv.ok.stk, j.inv.ok.exf, j.inv.ok.bs, j.inv.ok.bsz, j.inv.ok.noex, j.inv.ok.exfs, j.inv.ok.funs, j.inv.ok.frf⟩,
    j.inv.os, j.inv.bare, j.inv.base, j.inv.loc, j.inv.cell, j.inv.free, j.inv.freeC, fun p hp => j.inv.pin p (by simpa using hp), j.inv.hok, j.inv.len⟩, j.len, j.st, j.gh⟩
theorem J.ofPin (j : J (X.pinD pins) [] σd G σ H s) : J X pins σd G σ H s :=
  ⟨⟨⟨j.inv.ok.mod, j.inv.ok.kind, j.inv.ok.glob, j.inv.ok.blt, j.inv.ok.above, j.inv.ok.inj, j.inv.ok.has, j.inv.ok.cab, j.inv.ok.hd, j.inv.ok.frames, j.inv.ok.stk, j.inv.ok.exf, j.inv.ok.bs, j.inv.ok.bsz, j.inv.ok.noex, j.inv.ok.exfs, j.inv.ok.funs, j.inv.ok.frf⟩,
    j.inv.os, j.inv.bare, j.inv.base, j.inv.loc, j.inv.cell, j.inv.free, j.inv.freeC, fun p hp => j.inv.pin p (by simpa using hp), j.inv.hok, j.inv.len⟩, j.len, j.st, j.gh⟩
theorem J.toSuite {a : Addr} {oe : Obj} {pl : List (Addr × Obj)} (j : J X (pins ++ (a, oe) :: pl) σd G σ H s) : J (X.suite a oe) (pins ++ pl) σd G σ H s :=
  ⟨⟨⟨j.inv.ok.mod, j.inv.ok.kind, j.inv.ok.glob, j.inv.ok.blt, j.inv.ok.above, j.inv.ok.inj, j.inv.ok.has, j.inv.ok.cab, fun z => Bool.noConfusion z, j.inv.ok.frames, j.inv.ok.stk, j.inv.ok.exf, j.inv.ok.bs, j.inv.ok.bsz, j.inv.ok.noex, j.inv.ok.exfs, j.inv.ok.funs, j.inv.ok.frf⟩,
    j.inv.os, j.inv.bare, j.inv.base, j.inv.loc, j.inv.cell, j.inv.free, j.inv.freeC, fun p hp => j.inv.pin p (by
      simp only [List.mem_append, List.mem_cons, List.not_mem_nil, or_false] at hp ⊢
      rcases hp with (z | z) | (z | z) <;> simp [z]), j.inv.hok, j.inv.len⟩, j.len, j.st, j.gh⟩
theorem J.ofSuite {a : Addr} {oe : Obj} {pl : List (Addr × Obj)} (hd : X.calm = true → X.A.handled = none) (j : J (X.suite a oe) (pins ++ pl) σd G σ H s) : J X (pins ++ (a, oe) :: pl) σd G σ H s :=
  ⟨⟨⟨j.inv.ok.mod, j.inv.ok.kind, j.inv.ok.glob, j.inv.ok.blt, j.inv.ok.above, j.inv.ok.inj, j.inv.ok.has, j.inv.ok.cab, hd, j.inv.ok.frames, j.inv.ok.stk, j.inv.ok.exf, j.inv.ok.bs, j.inv.ok.bsz, j.inv.ok.noex, j.inv.ok.exfs, j.inv.ok.funs, j.inv.ok.frf⟩,
    j.inv.os, j.inv.bare, j.inv.base, j.inv.loc, j.inv.cell, j.inv.free, j.inv.freeC, fun p hp => j.inv.pin p (by
      simp only [List.mem_append, List.mem_cons, List.not_mem_nil, or_false] at hp ⊢
      rcases hp with z | (z | z | z) <;> simp [z]), j.inv.hok, j.inv.len⟩, j.len, j.st, j.gh⟩
end
/-- the clauses, for an exception of the class at C that lies at a -/
abbrev THD := Addr → Addr → TSD
def PHD (X : Cx) (hs : List ExceptHandler) (th : THD) : Prop :=
  ∀ (pins : List (Addr × Obj)) (s : Shared) (σd : StD) (G : GHp) (σ : Sv) (H : Hp) (E : EndsD) (a C T : Addr) (oe oT : Obj), J X (pins ++ [(a, oe), (T, oT)]) σd G σ H s → Caught C T oe oT → th a C E σd G →
    wpAny (model X.prog X.w) X.A (handleBy (.ref a) X.env hs) (SPDw X pins E) X.xe s
def dHand (K : PySem.W.Frag) (tt : TED) (tb : THD) (th : THD) : THD := fun a C E σd G => tt σd G fun c G1 => ∃ b, exmD K C c = some b ∧ if b = true then tb a C E σd G1 else th a C E σd G1
/-- except .. as x -/
def dAs (i : Nat) (tb : THD) : THD := fun a C E σd G => tb a C { nx := fun σ' G' => E.nx (σ'.set i none) G', rt := E.rt, bk := fun σ' G' => E.bk (σ'.set i none) G', ct := fun σ' G' => E.ct (σ'.set i none) G' } (σd.set i (some (.ref a))) G
def dNoHand : THD := fun _ _ _ _ _ => False
section
variable {X : Cx} {pins : List (Addr × Obj)} {σd : StD} {G : GHp} {σ : Sv} {H : Hp} {s : Shared}
theorem exm_none {K : PySem.W.Frag} {cls : Value} : PySem.W.exmOne K cls .none = none := by
  unfold PySem.W.exmOne PySem.W.kitCls
  split <;> rfl
theorem exm_val {K : PySem.W.Frag} {H : Hp} {C : Addr} {d : D} {v : V} {u : Value} {b : Bool} (i : IsV K H d v) (r : RelV v u) (e : PySem.W.exmOne K (.ref C) (valD d) = some b) : valD d = u := by
  cases i with
  | ref a => exact (show u = Value.ref a from r).symm
  | ty n => exact (show u = Value.type n from r).symm
  | _ => exact absurd (exm_none.symm.trans e) (by intro z; cases z)
theorem exm_vals {K : PySem.W.Frag} {H : Hp} {C : Addr} : ∀ {ds : List D} {vs : List V} {us : List Value} {b : Bool}, IsVs K H ds vs → Vals vs us → PySem.W.exmAny K (.ref C) (ds.map valD) = some b → PySem.W.exmAny K (.ref C) us = some b
  | _, _, _, _, .nil, .nil, e => e
  | _, _, _, _, .cons i is, .cons r rs, e => by
    obtain ⟨b1, d1, x1, y1, rfl⟩ := PySem.W.exmAny_cons e
    have z := exm_val i r x1
    rw [z] at x1
    have w := exm_vals is rs y1
    show (match PySem.W.exmOne K (.ref C) _, PySem.W.exmAny K (.ref C) _ with
      | some b, some d => some (b || d)
      | _, _ => none) = _
    rw [x1, w]
/-- is it of the clause? -/
theorem match_ok {M : Model} {A : Around} {E : Value → Shared → Prop} {a C T : Addr} {oe oT : Obj} {c : D} {cv : V} {cu : Value} {b : Bool} {Q : Bool → Shared → Prop} (j : J X (pins ++ [(a, oe), (T, oT)]) σd G σ H s) (ct : Caught C T oe oT) (ic : IsV X.K H c cv) (rc : RelV cv cu) (e : exmD X.K C c = some b) (q : Q b s) :
    wpAny M A (excMatches (.ref a) cu) Q E s := by
  have ha := (j.inv.pin (a, oe) (by simp)).1
  have LT : PySem.W.Looks M s.heap (typeOf (.ref a)) (.ref C) := by
    have l1 : PySem.W.Looks M s.heap (typeOf (.ref a)) oe.cls := (PySem.W.Looks.ld ha).andThen .now
    rwa [ct.cls] at l1
  cases ic with
  | ref p =>
    cases rc
    exact (PySem.W.exm_one j.inv.kIn LT e).here q
  | ty T' =>
    cases rc
    exact (PySem.W.exm_one j.inv.kIn LT e).here q
  | tup hs r =>
    cases rc
    obtain ⟨its, rv, ⟨o, ho, hc, n, hd⟩, hz⟩ := j.inv.tuple hs
    exact (exm_tupN j.inv.kIn LT ho hc hd (exm_vals r rv e)).here q
  | _ => cases e
/-- the flight's mark, laid again: nothing changes -/
theorem flight_ok {M : Model} {A : Around} {E : Value → Shared → Prop} {a C T : Addr} {oe oT : Obj} {Q : Unit → Shared → Prop} (j : J X (pins ++ [(a, oe), (T, oT)]) σd G σ H s) (ct : Caught C T oe oT)
    (h : ∀ s', J X (pins ++ [(a, oe), (T, oT)]) σd G σ H s' → Q () s') : wpAny M A (setFlight (.ref a) none) Q E s := by
  have ha := (j.inv.pin (a, oe) (by simp)).1
  have hT := (j.inv.pin (T, oT) (by simp)).1
  obtain ⟨vs, hd, h1⟩ := ct.tr
  obtain ⟨ts, hdT, h3⟩ := ct.rest
  obtain ⟨hlt, hget⟩ := Array.getElem?_eq_some_iff.mp h3
  have same : ts.setIfInBounds 3 Value.none = ts := by
    apply Array.ext
    · simp
    · intro i h1 h2
      rw [Array.getElem_setIfInBounds]
      split
      · rename_i e
        subst e
        exact hget.symm
      · rfl
  refine wpAny_setFlight_none ha hd h1 hT hdT hlt (h { s with heap := s.heap.update T (Obj.mapFields (·.setIfInBounds 3 .none)) } (j.next (j.inv.kept (t' := s.toks) fun b u e => ?_) .refl j.gh))
  by_cases hb : b = T
  · subst hb
    rw [hT] at e
    cases e
    have em : Obj.mapFields (·.setIfInBounds 3 .none) oT = oT := by
      obtain ⟨c, dd, dt, sl⟩ := oT
      dsimp only at hdT
      subst hdT
      simp only [Obj.mapFields, same]
    refine (Heap.get?_update_self _ hT ?_).trans (by rw [em])
    rw [em]
    exact Obj.isFreed_of_fields hdT
  · rw [Heap.get?_update_other _ _ (Ne.symm hb)]
    exact e
/-- the name goes behind the suite -/
theorem gone_ok {M : Model} {A : Around} {E : Value → Shared → Prop} {i : Nat} {n : Str} {pos : Pos} {Q : Unit → Shared → Prop} (hN : X.N.Nodup) (hi : X.N[i]? = some n) (hl : X.env.kindOf n = some .local) (j : J X pins σd G σ H s)
    (h : ∀ s', J X pins (σd.set i none) G (σ.set i none) H s' → Q () s') : wpAny M A (do bindName X.env n .none; unbindBehindTheSuite X.env n pos) Q E s := by
  have hk := j.inv.ok.kind
  have hp : (X.env.scope.kind == .class || (X.env.scope.kind == .module && X.env.locals != X.env.globals)) = false := by rw [hk]; rfl
  obtain ⟨m, hn, hm⟩ := j.inv.loc
  refine wpAny_bind (wpAny_bindName (wpAny_storeName_local hl hn (fun h₁ hn₁ hs₁ => ?_) hp))
  unfold unbindBehindTheSuite
  refine wpAny_onRaise (wpAny_unbindName_local hl hn₁ (v := .none) (by simp) hp fun h₂ u hn₂ hs₂ => h _ ?_)
  have hs := hs₁.trans hs₂
  refine ⟨⟨j.inv.ok, j.inv.os, j.inv.bare, Un.but j.inv.base hs j.inv.ok.above, ⟨_, hn₂, fun k y v e1 e2 e3 => ?_⟩, fun y c e => ?_, j.inv.free, j.inv.freeC, fun p hpn => ?_, HOk.but j.inv.hok hs j.inv.free, by simp [j.inv.len]⟩, by simp [j.len], fun k d e => ?_, j.gh⟩
  · have hk' : k ≠ i := fun z => by
      subst z
      rw [List.getElem?_set] at e2
      simp at e2
    rw [List.getElem?_set_ne (Ne.symm hk')] at e2
    obtain ⟨u', r, lk⟩ := hm k y v e1 e2 e3
    have hy : y ≠ n := fun z => hk' (nodup_ix hN e1 (by rw [z]; exact hi))
    refine ⟨u', r, ?_⟩
    rcases lk with ⟨l1, l2⟩ | ⟨l1, c, l2, o, l3, l4⟩
    · exact .inl ⟨l1, by simp [hy, l2]⟩
    · exact .inr ⟨l1, c, l2, o, (hs.2 c (j.inv.cne y c l2)).trans l3, l4⟩
  · obtain ⟨v, o, ho, hd⟩ := j.inv.cell y c e
    exact ⟨v, o, (hs.2 c (j.inv.cne y c e)).trans ho, hd⟩
  · obtain ⟨p1, p2, p3, p4, p5⟩ := j.inv.pin p hpn
    exact ⟨(hs.2 p.1 p3).trans p1, p2, p3, p4, p5⟩
  · by_cases hk' : i = k
    · subst hk'
      rw [List.getElem?_set] at e
      simp at e
    · rw [List.getElem?_set_ne hk'] at e
      obtain ⟨v, e1, r⟩ := j.st k d e
      exact ⟨v, by rw [List.getElem?_set_ne hk']; exact e1, r⟩
theorem ph_nil : PHD X [] dNoHand := fun _ _ _ _ _ _ _ _ _ _ _ _ _ _ h => h.elim
variable {t : Expr} {b₀ : Stmt} {body : List Stmt} {rest : List ExceptHandler} {tt : TED} {tb : THD} {th : THD} {pos : Pos}
theorem SPD.ofSuite {a T : Addr} {oe oT : Obj} {E : EndsD} {f : Flow} {s' : Shared} {pl : List (Addr × Obj)} (hd : X.calm = true → X.A.handled = none) (h : SPD (X.suite a oe) (pins ++ pl) H E f s') : SPDw X (pins ++ (a, oe) :: pl) E f s' := by
  cases f with
  | next => obtain ⟨a, b, c, d, j, _, q⟩ := h; exact ⟨a, b, c, d, j.ofSuite hd, q⟩
  | brk => obtain ⟨a, b, c, d, j, _, q⟩ := h; exact ⟨a, b, c, d, j.ofSuite hd, q⟩
  | cont => obtain ⟨a, b, c, d, j, _, q⟩ := h; exact ⟨a, b, c, d, j.ofSuite hd, q⟩
  | ret u => obtain ⟨x, v, a, b, c, d, j, _, q⟩ := h; exact ⟨x, v, a, b, c, d, j.ofSuite hd, q⟩
theorem SPDw.less {E : EndsD} {f : Flow} {s' : Shared} {pl : List (Addr × Obj)} (h : SPDw X (pins ++ pl) E f s') : SPDw X pins E f s' := by
  cases f with
  | next => obtain ⟨a, b, c, d, j, q⟩ := h; exact ⟨a, b, c, d, j.unpinned, q⟩
  | brk => obtain ⟨a, b, c, d, j, q⟩ := h; exact ⟨a, b, c, d, j.unpinned, q⟩
  | cont => obtain ⟨a, b, c, d, j, q⟩ := h; exact ⟨a, b, c, d, j.unpinned, q⟩
  | ret u => obtain ⟨x, v, a, b, c, d, j, q⟩ := h; exact ⟨x, v, a, b, c, d, j.unpinned, q⟩
/-- except t: body -/
theorem ph_cons (ht : ∀ a oe, PED (X.suite a oe) t tt) (hb : ∀ a C oe, oe.cls = .ref C → PSsD (X.suite a oe) (b₀ :: body) (tb a C)) (hr : PHD X rest th) : PHD X (.ExceptHandler (some t) none (b₀ :: body) pos :: rest) (dHand X.K tt tb th) := by
  intro pins s σd G σ H E a C T oe oT j ct h
  have hd := j.inv.ok.hd
  refine wpAny_handleBy_cons (codeAny_handlers_test ?_) (by intro q; cases q)
  refine wpAny_mono (ht a oe (pins ++ [(T, oT)]) s σd G σ H _ (J.toSuite (pl := [(T, oT)]) (by simpa using j)) h) (fun cu s1 zz => ?_) fun _ _ z => z.elim
  obtain ⟨c, cv, G1, H1, j1, t1, ic, rc, b, eb, q1⟩ := zz
  have j1' : J X (pins ++ [(a, oe), (T, oT)]) σd G1 σ H1 s1 := J.ofSuite (pl := [(T, oT)]) hd j1
  refine match_ok j1' ct ic rc eb ?_
  cases b with
  | false =>
    rw [if_neg Bool.false_ne_true] at q1
    exact hr pins s1 σd G1 σ H1 E a C T oe oT j1' ct q1
  | true =>
    rw [if_pos rfl] at q1
    refine codeAny_handlers_suite (flight_ok j1' ct fun s2 j2 => ?_)
    refine wpAny_mono (hb a C oe ct.cls (pins ++ [(T, oT)]) s2 σd G1 σ H1 E (J.toSuite (pl := [(T, oT)]) j2) q1) (fun f s3 z => ?_) fun _ _ z => z.elim
    exact (SPD.ofSuite (T := T) (oT := oT) (pl := [(T, oT)]) hd z).less
/-- except t as n: body -/
theorem ph_as {i : Nat} {n : Str} (hN : X.N.Nodup) (hi : X.N[i]? = some n) (hl : X.env.scope.names.lookup n = some .local) (ht : ∀ a oe, PED (X.suite a oe) t tt) (hb : ∀ a C oe, oe.cls = .ref C → PSsD (X.suite a oe) (b₀ :: body) (tb a C)) (hr : PHD X rest th) :
    PHD X (.ExceptHandler (some t) (some n) (b₀ :: body) pos :: rest) (dHand X.K tt (dAs i tb) th) := by
  intro pins s σd G σ H E a C T oe oT j ct h
  have hd := j.inv.ok.hd
  refine wpAny_handleBy_cons (codeAny_handlers_test ?_) (by intro q; cases q)
  refine wpAny_mono (ht a oe (pins ++ [(T, oT)]) s σd G σ H _ (J.toSuite (pl := [(T, oT)]) (by simpa using j)) h) (fun cu s1 zz => ?_) fun _ _ z => z.elim
  obtain ⟨c, cv, G1, H1, j1, t1, ic, rc, b, eb, q1⟩ := zz
  have j1' : J X (pins ++ [(a, oe), (T, oT)]) σd G1 σ H1 s1 := J.ofSuite (pl := [(T, oT)]) hd j1
  refine match_ok j1' ct ic rc eb ?_
  cases b with
  | false =>
    rw [if_neg Bool.false_ne_true] at q1
    exact hr pins s1 σd G1 σ H1 E a C T oe oT j1' ct q1
  | true =>
    rw [if_pos rfl] at q1
    refine codeAny_handlers_suite_as (flight_ok j1' ct fun s2 j2 => ?_)
    refine store_ok j2.inv hN hi (.inl hl) (v := .ref a) rfl (fun s3 I3 => ?_) (.inr hl)
    have j3 := j2.store I3 (.ref a)
    refine wpAny_mono (hb a C oe ct.cls (pins ++ [(T, oT)]) s3 _ G1 _ H1 _ (J.toSuite (pl := [(T, oT)]) j3) q1) (fun f s4 z => ?_) fun _ _ z => z.elim
    have z' := SPD.ofSuite (T := T) (oT := oT) (pl := [(T, oT)]) hd z
    show wpAny _ _ (do bindName X.env n .none; unbindBehindTheSuite X.env n pos) _ _ _
    cases f with
    | next => obtain ⟨σ5, G5, σ6, H5, j5, q5⟩ := z'; exact gone_ok hN hi hl j5.unpinned fun s6 j6 => ⟨_, G5, _, H5, j6, q5⟩
    | brk => obtain ⟨σ5, G5, σ6, H5, j5, q5⟩ := z'; exact gone_ok hN hi hl j5.unpinned fun s6 j6 => ⟨_, G5, _, H5, j6, q5⟩
    | cont => obtain ⟨σ5, G5, σ6, H5, j5, q5⟩ := z'; exact gone_ok hN hi hl j5.unpinned fun s6 j6 => ⟨_, G5, _, H5, j6, q5⟩
    | ret u => obtain ⟨x, v, σ5, G5, σ6, H5, j5, iv, r, q5⟩ := z'; exact gone_ok hN hi hl j5.unpinned fun s6 j6 => ⟨x, v, _, G5, _, H5, j6, iv, r, q5⟩
/-- try: body except ..: .. -/
def dTry (tb : XW → TSD) (th : THD) : TSD := fun E σd G => tb (fun C σd' G' => ∀ a, th a C E σd' G') E σd G
theorem dsw_try {h₀ : ExceptHandler} {hs : List ExceptHandler} {stms : List Stmt} {tr : XW → TSD} (hst : X.stack = X.env :: X.outer) (hfr : X.env.frame = some X.env.locals)
    (hb : ∀ pins Ex, PSsDw ((X.pinD pins).wish (xeD (X.pinD pins) Ex)) stms (tr Ex)) (hh : PHD X (h₀ :: hs) th) : PSDw X (.Try stms (h₀ :: hs) [] [] pos) (dTry tr th) := by
  intro pins s σd G σ H E j h
  refine wpAny_Try_except (wpAny_mono (hb pins _ [] s σd G σ H E (j.toPin.wish _) h) (fun f s1 z => ?_) (fun e s1 z => ?_))
  · have z' := SPDw.unwish z
    have w : SPDw X pins E f s1 := by
      cases f with
      | next => obtain ⟨a, b, c, d, j, q⟩ := z'; exact ⟨a, b, c, d, j.ofPin, q⟩
      | brk => obtain ⟨a, b, c, d, j, q⟩ := z'; exact ⟨a, b, c, d, j.ofPin, q⟩
      | cont => obtain ⟨a, b, c, d, j, q⟩ := z'; exact ⟨a, b, c, d, j.ofPin, q⟩
      | ret u => obtain ⟨x, v, a, b, c, d, j, q⟩ := z'; exact ⟨x, v, a, b, c, d, j.ofPin, q⟩
    cases f with
    | next => exact wpAny_execs_nil w
    | brk => exact w
    | cont => exact w
    | ret u => exact w
  · obtain ⟨a, C, B, σd1, G1, σ1, H1, rfl, li, cl, tr', q⟩ := z
    have li' : Lies B (X.env :: X.outer) X.env.locals a C s1.heap := by rw [← hst]; exact li
    refine lies_noted (by rw [← hst]; exact j.inv.ok.frames) hfr li' fun h2 a0 held up => ?_
    refine wpAny_landsW held fun h3 fly up2 => ?_
    have j3 : J X pins σd1 G1 σ1 H1 { s1 with heap := h3 } := J.ofPin (cl h3 fly.1 (up.trans up2))
    obtain ⟨f1, f2, f3, oe, vs, T, oT, ts, he, ⟨hc, _⟩, hd, h1, hT0, hTe, hT, hdT, hn3⟩ := fly
    have other : ∀ b o ws, h3.get? b = some o → o.data = .fields ws → b ∉ frs (X.env :: X.outer) := fun b o ws e d hm => by
      obtain ⟨_, o', e', d'⟩ := f3.mem hm
      rw [e] at e'
      cases e'
      exact d' ws d
    have pinOk : ∀ b o ws, h3.get? b = some o → o.data = .fields ws → B.get? b = none → h3.get? b = some o ∧ H1 b = none ∧ b ≠ X.env.locals ∧ b ∉ X.fs ∧ ∀ v, o.data ≠ .cell v := fun b o ws e d n => by
      have nf := other b o ws e d
      refine ⟨e, ?_, fun z => nf ?_, fun z => nf ?_, fun v z => by rw [d] at z; cases z⟩
      · cases q' : H1 b with
        | none => rfl
        | some u => obtain ⟨v, z⟩ := tr' b u q'; rw [n] at z; cases z
      · rw [z]; exact List.mem_filterMap.mpr ⟨X.env, .head _, hfr⟩
      · obtain ⟨en, m1, m2⟩ := List.mem_filterMap.mp z
        exact List.mem_filterMap.mpr ⟨en, .tail _ m1, m2⟩
    have jp : J X (pins ++ [(a, oe), (T, oT)]) σd1 G1 σ1 H1 { s1 with heap := h3 } := by
      refine ⟨j3.inv.pins_of fun p hp => ?_, j3.len, j3.st, j3.gh⟩
      simp only [List.mem_append, List.mem_cons, List.not_mem_nil, or_false] at hp
      rcases hp with z | z | z
      · exact j3.inv.pin p (List.mem_append_right _ z)
      · subst z; exact pinOk a oe vs he hd f2
      · subst z; exact pinOk T oT ts hT hdT hT0
    exact hh pins _ σd1 G1 σ1 H1 E a C T oe oT jp ⟨hc, ⟨vs, hd, h1⟩, ts, hdT, hn3⟩ (q a)
/-- the name of a class -/
theorem de_glob {x : Str} {c : Addr} (hg : Gl X x) (hm : X.mg x = some (.ref c)) (hd : (x == ("__debug__" : Str)) = false := by decide) : PED X (.Name x pos) (dC (.ref c)) := de_const (pe_glob (v := .ref c) hg hm rfl hd) fun _ _ => .ref c
/-- isinstance(e, C), of the exception that is held -/
def kitD (K : PySem.W.Frag) (C : Addr) : D → Option Bool
  | .ref c => PySem.W.kitOne K (.ref C) (.ref c)
  | .ty T => PySem.W.kitOne K (.ref C) (.type T)
  | _ => none
def qIsX (K : PySem.W.Frag) (a C : Addr) : List D → GHp → DK → Prop := fun ds G Q => match ds with
  | [.ref p, c] => p = a ∧ kitD K C c = some true ∧ Q (.bl true) G
  | _ => False
theorem isX_ans {K : PySem.W.Frag} {x cl c : Value} {Hq : Heap → Prop} (ty : ∀ (M : Model) (h : Heap), Hq h → PySem.W.Looks M h (typeOf x) cl) (e : PySem.W.kitOne K cl c = some true) : Answers (fun s => K.In s.heap ∧ Hq s.heap) x c true := by
  intro dep tk prog w A R s hs
  obtain ⟨⟨KX, p⟩, hq⟩ := hs
  have l := ty (model prog w) s.heap p
  unfold Builtin.«isinstance.nested»
  refine wpAny_bind (l.here ?_)
  unfold PySem.W.kitOne at e
  by_cases q : (cl == c) = true
  · rw [if_pos q]
    exact wpAny_bind (wpAny_rule (wpAny_pure (hq s.toks)))
  · rw [if_neg q] at e ⊢
    obtain ⟨l1, l2, l3⟩ := PySem.W.kit_cls (M := model prog w) KX e
    refine wpAny_bind (l1.here ?_)
    rw [if_pos (by decide)]
    k_delta "plainIsInstance"
    refine wpAny_bind (wpAny_bind (l2.here ?_))
    simp only [Bool.not_true, Bool.false_eq_true, if_false]
    refine wpAny_bind ((l.andThen l3).here ?_)
    exact wpAny_pure (wpAny_pure (hq s.toks))
theorem cd_isX {K : PySem.W.Frag} {a C : Addr} {oe : Obj} (hK : X.K = K) (hp : (a, oe) ∈ X.pn) (hC : oe.cls = .ref C) : CallD X (.builtin "isinstance") (qIsX K a C) := by
  subst hK
  intro pins s σd G σ H ds xs us Q j ix rx q
  unfold qIsX at q
  split at q
  rotate_left
  · exact False.elim q
  rename_i p c
  obtain ⟨rfl, ek, q⟩ := q
  cases ix with
  | cons r rs =>
    cases rs with
    | cons r' rs =>
      cases rs
      cases r
      cases rx with
      | cons r1 r2 =>
        cases r2 with
        | cons r3 r4 =>
          cases r4
          cases r1
          have fin : ∀ tk, EPD X pins σd σ H Q (.bool true) { s with toks := tk } := fun tk => ⟨.bl true, .bl true, G, H, j.next (j.inv.tok tk) .refl j.gh, .refl, .bl true, rfl, q⟩
          have at_ : ∃ o, s.heap.get? p = some o ∧ o.cls = .ref C := ⟨oe, (j.inv.pin (p, oe) (List.mem_append_left _ hp)).1, hC⟩
          have ty : ∀ (M : Model) (h : Heap), (∃ o, h.get? p = some o ∧ o.cls = .ref C) → PySem.W.Looks M h (typeOf (.ref p)) (.ref C) := fun M h ⟨o, e1, e2⟩ => by
            have l1 : PySem.W.Looks M h (typeOf (.ref p)) o.cls := (PySem.W.Looks.ld e1).andThen .now
            rwa [e2] at l1
          have go : ∀ cu, PySem.W.kitOne X.K (.ref C) cu = some true → wpAny (model X.prog X.w) X.A (call (.builtin "isinstance") [.ref p, cu]) (EPD X pins σd σ H Q) X.xe s := fun cu e =>
            call_isinstance (S := fun _ R s => (X.K.In s.heap ∧ ∃ o, s.heap.get? p = some o ∧ o.cls = .ref C) ∧ ∀ tk, R (.ok (.ret (.bool true))) { s with toks := tk })
              (fun prog w A R s hs => isinstance_outer (isX_ans ty e 0 _ prog w A R s hs) (by intro z; cases z)) ⟨⟨j.inv.kIn, at_⟩, fin⟩
          cases r' with
          | ref c => cases r3; exact go _ ek
          | ty T => cases r3; exact go _ ek
          | _ => cases ek
end
end L3

/-! ### instances -/
namespace L3
open PySem PySem.Spec PyProof.Rows L2
section
variable {X : Cx} {o e value : Expr} {f : Str} {pos pos' tpos : Pos} {ta tv : TED}
end

/-! defaults, a def that raises nothing taken for one that may -/
/-- the values that fill up -/
structure Dfl (dd : List D) (dvs : List V) (dus : List Value) : Prop where
  val : Vals dvs dus
  is : ∀ K H, IsVs K H dd dvs
theorem Dfl.nil : Dfl [] [] [] := ⟨.nil, fun _ _ => .nil⟩
theorem Dfl.int {i : Int} {t : Nat} {dd : List D} {dvs : List V} {dus : List Value} (h : Dfl dd dvs dus) : Dfl (.int i :: dd) (.int i :: dvs) (.int i t :: dus) := ⟨.cons ⟨_, rfl⟩ h.val, fun K H => .cons (.int i) (h.is K H)⟩
theorem Dfl.non {dd : List D} {dvs : List V} {dus : List Value} (h : Dfl dd dvs dus) : Dfl (.non :: dd) (.non :: dvs) (.none :: dus) := ⟨.cons rfl h.val, fun K H => .cons .non (h.is K H)⟩
theorem Dfl.bl {b : Bool} {dd : List D} {dvs : List V} {dus : List Value} (h : Dfl dd dvs dus) : Dfl (.bl b :: dd) (.bl b :: dvs) (.bool b :: dus) := ⟨.cons rfl h.val, fun K H => .cons (.bl b) (h.is K H)⟩
section
variable {X : Cx} {k : Nat} {f C : Addr} {fd : FuncData} {ps : List Str} {sp : SpX} {Ex : XW} {x m : Str} {p pos apos : Pos} {e o : Expr} {es : List Expr} {t : TAD} {ta : TED} {dd : List D} {dvs : List V} {dus : List Value}
variable {M : Addr → SpX → Prop}
end
end L3

/-! ### ranges, exchanged names, greatest and least, tuples joined -/
namespace L3
open PySem PySem.Spec PyProof.Rows L2
section
variable {X : Cx} {pos : Pos}
def dsPar (i k : Nat) (ta : TAD) : TSD := fun E σd G => ta σd G fun ds G1 => match ds with
  | [d, e] => E.nx ((σd.set i (some d)).set k (some e)) G1
  | _ => False
/-- a range just made, walked by ones -/
theorem range_itD {tg : Expr} {pins : List (Addr × Obj)} {σd : StD} {G1 : GHp} {σ : Sv} {H H1 : Hp} {s1 : Shared} {R : List D → (GHp → Prop) → GHp → Prop} {E : Value → Shared → Prop} {lo hi : Int} {t u v : Tok} {tk : Nat} (j1 : J X pins σd G1 σ H1 s1) (t1 : TX H H1)
    (h1 : -(2 ^ 62) ≤ lo) (h2 : lo < 2 ^ 62) (h3 : -(2 ^ 62) ≤ hi) (h4 : hi < 2 ^ 62) (q : R (rngD lo 1 (hi - lo).toNat) (fun _ => True) G1) :
    wpAny (model X.prog X.w) X.A (pyIter (.ref s1.heap.objs.size)) (PIDE X pins σd σ H tg R) E { s1 with heap := s1.heap.push { cls := .type "range", data := .fields #[.int lo t, .int hi u, .int 1 v] }, toks := tk } := by
  refine wpAny_pyIter_range (IsRange.new ..) (small_one h1 h2 h3 h4) ?_
  have I2 : Inv X pins σ H1 { s1 with heap := s1.heap.push { cls := .type "range", data := .fields #[.int lo t, .int hi u, .int 1 v] }, toks := tk } := j1.inv.kept fun b o e => Heap.get?_push_of_some _ e
  have I3 := I2.kept (h' := (s1.heap.push { cls := .type "range", data := .fields #[.int lo t, .int hi u, .int 1 v] }).push { cls := .type "range_iterator", data := .fields #[rawInt lo, rawInt (Builtin.Range.rangeSize lo hi 1), rawInt 1] }) (t' := tk) fun b o e => Heap.get?_push_of_some _ e
  refine ⟨(s1.heap.push { cls := .type "range", data := .fields #[.int lo t, .int hi u, .int 1 v] }).objs.size, [(s1.heap.push { cls := .type "range", data := .fields #[.int lo t, .int hi u, .int 1 v] }).objs.size], _, _, G1, H1, rngD lo 1 (hi - lo).toNat, fun _ => True, rfl, j1.next I3 .refl j1.gh, t1, turn_rangeC _ lo 1 (hi - lo).toNat, ?_, fun b hb => ?_, ?_, ?_, q⟩
  · have e1 : lo + ((0 : Nat) : Int) * 1 = lo := by simp
    have e2 : (((hi - lo).toNat : Nat) : Int) - ((0 : Nat) : Int) = Builtin.Range.rangeSize lo hi 1 := by rw [rangeSize_one]; split <;> omega
    show IsRangeIter _ _ (lo + ((0 : Nat) : Int) * 1) ((((hi - lo).toNat : Nat) : Int) - ((0 : Nat) : Int)) 1
    rw [e1, e2]
    exact Heap.get?_push_size _ rfl
  · have e : b = (s1.heap.push { cls := .type "range", data := .fields #[.int lo t, .int hi u, .int 1 v] }).objs.size := by simpa using hb
    subst e
    exact I2.fpOk (Nat.le_refl _) (I2.hok.fresh (Nat.le_refl _))
  · intro i G2 H2 _ _ _ hl
    have : (rngD lo 1 (hi - lo).toNat).length = (hi - lo).toNat := by simp [rngD]
    rw [this] at hl
    exact hl
  · intro i d G2 H2 _ g2 _ hd
    have hlt : i < (hi - lo).toNat := by
      have := (List.getElem?_eq_some_iff.mp hd).1
      simpa [rngD] using this
    have ed : d = .int (lo + i * 1) := by
      unfold rngD at hd
      rw [List.getElem?_map, List.getElem?_range hlt] at hd
      exact (Option.some.inj hd).symm
    subst ed
    refine ⟨hlt, fun x H3 y => ?_⟩
    obtain ⟨e, y⟩ := y
    subst e y
    exact ⟨.refl, g2, .int _⟩
def iRng1D (ta : TAD) : TID := fun σd G R => ta σd G fun ds G1 => match ds with
  | [.int n] => (-(2 ^ 62) ≤ n ∧ n < 2 ^ 62) ∧ R (rngD 0 1 n.toNat) (fun _ => True) G1
  | _ => False
theorem id_range1 {tg : Expr} {a : Expr} {ta : TAD} {p pos : Pos} (hg : Gl X "range") (hm : X.mg "range" = none) (ha : PAD X [a] ta) (hs : starEach [a] X.env = [(false, eval a X.env)] := by rfl) : PID X tg (.Call (.Name "range" p) [a] [] pos) (iRng1D ta) := by
  intro pins s σd G σ H R j h
  refine Call_ (ld_blt j.inv hg hm boot_range (PyProof.Rows.callWith_type1 (thn (ha pos pins s σd G σ H _ j h) fun us s1 ⟨ds, vs, G1, H1, j1, t1, i1, r1, q1⟩ => ?_) hs rfl))
  dsimp only at q1
  split at q1
  · obtain ⟨⟨b1, b2⟩, q⟩ := q1
    cases i1 with | cons ra rb =>
    cases rb; cases ra
    obtain ⟨u, rfl, t, rfl⟩ := Vals.one r1
    exact call_range_1 (range_itD j1 t1 (by omega) (by omega) b1 b2 (by simpa using q))
  · exact False.elim q1
/-! isinstance, of instances too -/
end
end L3

/-! ### attributes of exceptions -/
namespace L3
open PySem PySem.Spec PyProof.Rows L2
section
variable {K : PySem.W.Frag} {prog : Program} {w : World} {A : Around} {E : Value → Shared → Prop} {x C : Addr} {name : Str} {tk : Tok}
open Builtin Builtin.ObjectAttr Builtin.Getset_descriptor in
end
end L3

/-! ### defs with values that fill up -/
namespace L3
open PySem PySem.Spec PyProof.Rows L2
section
variable {P : Program} {w : World} {K : PySem.W.Frag} {mg : Str → Option Value} {base : Heap}
end

/-! ### a method called by its class: C.m(o, ..) -/
section
variable {X : Cx} {k : Nat} {f C : Addr} {fd : FuncData} {ps : List Str} {sp : SpX} {Ex : XW} {m : Str} {pos apos : Pos} {e o : Expr} {es : List Expr} {t : TAD}
end

/-! ### tuples of ints in their order: (a, b) < (c, d); list(xs) -/
section
variable {X : Cx}
end
end L3

/-! ### tuples of ints in their order: <=, >, the greater and the lesser one; written constants -/
namespace HU
open PySem PyProof.Rows HT
section
open PySem.SeqAt
open PySem.AutoSeq1 (wpAny_loadPart')
open PySem.MeetsSeq PySem.MeetsSeq2 PySem.MeetsSeq3
end
section
variable {prog : Program} {w : World} {A : Around} {E : Value → Shared → Prop} {s : Shared}
end
end HU
namespace L3
open PySem PySem.Spec PyProof.Rows L2
section
variable {X : Cx} {x : Str} {pos : Pos}
end
/-! is not True, is not False, of ints and bools -/
section
variable {X : Cx}
end
/-! loops that may raise -/
section
variable {X : Cx} {Ex : XW} {pos : Pos}
theorem passes_xeD (hfr : X.A.frames = some (X.env :: X.outer)) (hst : X.stack = X.env :: X.outer) (hf : X.env.frame = some X.env.locals) : PassesOwn (model X.prog X.w) X.A X.env (xeD X Ex) := by
  intro e s' z
  obtain ⟨a, C, B, σd, G, σ, H, rfl, li, cl, tr, q⟩ := z
  have li' : Lies B (X.env :: X.outer) X.env.locals a C s'.heap := by rw [← hst]; exact li
  refine lies_noted hfr hf li' fun h2 a0 held up => ?_
  have back : xeD X Ex (.ref a) { s' with heap := h2 } := ⟨a, C, B, σd, G, σ, H, rfl, by rw [hst]; exact .held held, fun h3 k3 u3 => cl h3 k3 (up.trans u3), tr, q⟩
  obtain ⟨f1, f2, f3, oe, vs, T, oT, ts, he, hcls, hd, h1, hnT, hTe, hT, hdT, h3⟩ := held
  have z3 : 3 < ts.size := (Array.getElem?_eq_some_iff.mp h3).1
  have fin : wpAny (model X.prog X.w) X.A (setFlight (.ref a) X.env.frame) (fun _ s2 => xeD X Ex (.ref a) s2) (xeD X Ex) { s' with heap := h2 } := by
    rw [hf]; unfold setFlight
    refine wpAny_bind (wpAny_field he hd h1 ?_); rw [if_pos (by simp)]
    show wpAny _ _ (setField (.ref T) 3 (rawInt X.env.locals)) _ _ _; refine wpAny_setField hT hdT z3 ?_
    rw [Heap.update_setField_same _ T oT ts 3 _ hT hdT h3]; exact back
  unfold cameBackBy
  refine wpAny_bind (wpAny_field he hd h1 ?_); rw [if_neg (by simp)]
  first | exact wpAny_bind (wpAny_pure fin) | exact fin
variable {tg : Expr}
theorem ds_forX {iter : Expr} {body : List Stmt} {wi : TID} {g : TGD} {tb : TSD} (hst : X.stack = X.env :: X.outer) (hf : X.env.frame = some X.env.locals) (hc : (X.wish (xeD X Ex)).calm = true) (hi : PID (X.wish (xeD X Ex)) tg iter wi) (hg : PGD (X.wish (xeD X Ex)) tg g) (hb : PSsD (X.wish (xeD X Ex)) body tb)
    (hs : ∀ x, foldedSetIterable iter X.env x = pure x := by intro _; rfl) : PSD (X.wish (xeD X Ex)) (.For tg iter body [] pos) (dFor wi g tb) := by
  intro pins s σd G σ H E j h
  exact ds_for (passes_xeD (by rw [← hst]; exact j.inv.ok.frames) hst hf) hc hi hg hb hs pins s σd G σ H E j h
end
/-! two values, the better one -/
section
variable {prog : Program} {w : World} {A : Around} {R : Result → Shared → Prop} {I S : Addr} {fp wr : List Addr} {St : Nat → Heap → Prop} {va vb : Value} {t : Bool} {P : Nat → Value → Prop}
variable {E : Value → Shared → Prop} {s : Shared}
end
section
variable {X : Cx}
end

section
variable {prog : Program} {w : World} {A : Around} {R : Result → Shared → Prop} {I S : Addr} {fp wr : List Addr} {St : Nat → Heap → Prop} {va vb : Value} {t : Bool} {P : Nat → Value → Prop}
variable {E : Value → Shared → Prop} {s : Shared}
end
section
variable {X : Cx}
end

end L3
namespace L3
open PySem L2 PyProof.Rows
section
variable {X : Cx} {pos : Pos}
end
end L3
namespace L3
open PySem PySem.Spec PyProof.Rows L2
/-! for a, b in zip(s, t): two tuples, the second one the shorter -/
section
variable {prog : Program} {w : World} {A : Around} {E : Value → Shared → Prop} {s : Shared}
/-- a tuple's iterator, asked by another one -/
theorem nxT_item {p t : Addr} {k : Nat} {xs : Array Value} {x : Value} {Q : Value → Shared → Prop} (hp : s.heap.IsTupleIter p t k) (ht : s.heap.IsTuple t xs) (ex : xs[k]? = some x)
    (q : ∀ h', h'.IsTupleIter p t (k + 1) → Heap.SameBut p s.heap h' → Q x { s with heap := h' }) : wpAny (model prog w) A (Builtin.SmallTypes.nextOf (.ref p)) Q E s := by
  obtain ⟨o, e, c, d⟩ := id hp
  obtain ⟨ot, et, _, _, dt⟩ := ht
  unfold Builtin.SmallTypes.nextOf
  refine wpAny_bind (wpAny_callSpecial?_slot (name := Str.ofString "__next__") hp.typeIs F.slot_tuple_iterator_next (wpAny_call_entry F.slot_tuple_iterator_next hp.typeIs F.entry_tuple_iterator_next ?_ (F.args_tuple_iterator_next_1 _)))
  refine (show wpAny _ _ (field (.ref p) 0 >>= _) _ _ s from wpAny_bind (wpAny_field e d (x := .ref t) rfl ?_))
  refine (show wpAny _ _ (if (Value.ref t == Value.none) = true then _ else _) _ _ s from ?_)
  rw [if_neg (fun z : (Value.ref t == Value.none) = true => absurd z Bool.false_ne_true)]
  refine (show wpAny _ _ (field (.ref p) 1 >>= _) _ _ s from wpAny_bind (wpAny_field e d (x := .int k 0) rfl ?_))
  refine (show wpAny _ _ (seqItems? (.ref t) >>= _) _ _ s from wpAny_bind (wpAny_seqItems et dt ?_))
  simp only [Int.toNat_natCast, ex]
  refine wpAny_bind (wpAny_setField e d (by simp) (wpAny_pure ⟨x, rfl, wpAny_pure (q _ ⟨_, Heap.get?_update_self _ e (Obj.isFreed_of_fields (Obj.data_mapFields d _)), (Obj.cls_mapFields ..).trans c, ?_⟩ (Heap.SameBut.update ..))⟩))
  rw [Obj.data_mapFields d]; simp [rawInt]
theorem nxT_end {p t : Addr} {k : Nat} {xs : Array Value} {Q : Value → Shared → Prop} (hh : A.handled = none) (hp : s.heap.IsTupleIter p t k) (ht : s.heap.IsTuple t xs) (ex : xs[k]? = none)
    (q : ∀ h' e, Heap.ExtBut p s.heap h' → (∃ o, h'.get? e = some o ∧ o.cls = .type "StopIteration") → E (.ref e) { s with heap := h' }) : wpAny (model prog w) A (Builtin.SmallTypes.nextOf (.ref p)) Q E s := by
  obtain ⟨o, e, c, d⟩ := id hp
  obtain ⟨ot, et, _, _, dt⟩ := ht
  unfold Builtin.SmallTypes.nextOf
  refine wpAny_bind (wpAny_callSpecial?_slot (name := Str.ofString "__next__") hp.typeIs F.slot_tuple_iterator_next (wpAny_call_entry F.slot_tuple_iterator_next hp.typeIs F.entry_tuple_iterator_next ?_ (F.args_tuple_iterator_next_1 _)))
  refine (show wpAny _ _ (field (.ref p) 0 >>= _) _ _ s from wpAny_bind (wpAny_field e d (x := .ref t) rfl ?_))
  refine (show wpAny _ _ (if (Value.ref t == Value.none) = true then _ else _) _ _ s from ?_)
  rw [if_neg (fun z : (Value.ref t == Value.none) = true => absurd z Bool.false_ne_true)]
  refine (show wpAny _ _ (field (.ref p) 1 >>= _) _ _ s from wpAny_bind (wpAny_field e d (x := .int k 0) rfl ?_))
  refine (show wpAny _ _ (seqItems? (.ref t) >>= _) _ _ s from wpAny_bind (wpAny_seqItems et dt ?_))
  simp only [Int.toNat_natCast, ex]
  refine wpAny_bind (wpAny_rule (wpAny_bind (wpAny_setField e d (by simp) (show wpAny _ _ (newExc (.type "StopIteration") [] >>= _) _ _ _ from wpAny_bind ?_))))
  simp only [newExc, newTuple]
  refine wpAny_bind (wpAny_newObj_type (wpAny_bind (m := firstArgMember _ _) (wpAny_of_eq (a := Value.none) (by first | rfl | (simp only [firstArgMember]; rfl)) (wpAny_newObj_type ?_ (by size_fits)))) (by size_fits))
  simp only [raiseNew]
  refine wpAny_bind (wpAny_handled ?_)
  first | rw [hh] | rw [show A.in1.handled = none from hh]
  exact wpAny_bind (wpAny_pure (wpAny_throw (q _ _ (((Heap.SameBut.update ..).extBut.push _).push _) ⟨_, Heap.get?_push_size _ rfl, rfl⟩)))
/-- what a zip of two tuples keeps -/
def ZTn (z I O p q t u : Addr) (k : Nat) (h : Heap) : Prop := IsZip h z I O .none ∧ IsPair h I (.ref p) (.ref q) ∧ (∃ a b, IsPair h O a b) ∧ h.IsTupleIter p t k ∧ h.IsTupleIter q u k
variable {z I O p q t u : Addr} {k : Nat} {xs ys : Array Value}
theorem zT_item {x y : Value} {Q : Value → Shared → Prop} (D : ZipApart z I O p q t u) (st : ZTn z I O p q t u k s.heap) (ht : s.heap.IsTuple t xs) (hu : s.heap.IsTuple u ys) (ex : xs[k]? = some x) (ey : ys[k]? = some y)
    (hq : ∀ h', IsZip h' z I O (rawInt s.heap.objs.size) → IsPair h' O x y → h'.IsTupleIter p t (k + 1) → h'.IsTupleIter q u (k + 1) → IsPair h' s.heap.objs.size x y →
      (∀ c o, c ≠ z → c ≠ O → c ≠ p → c ≠ q → s.heap.get? c = some o → h'.get? c = some o) → Q (.ref s.heap.objs.size) { s with heap := h' }) :
    wpAny (model prog w) A (Builtin.«zip.__next__» ⟨[.ref z], []⟩) (fun fin s' => ∃ v, fin = .done (.ret v) ∧ Q v s') E s := by
  obtain ⟨hz, hI, ⟨a, b, hO⟩, h1, h2⟩ := st
  refine (show wpAny _ _ (field (.ref z) 2 >>= _) _ _ _ from wpAny_bind (wpAny_field hz rfl (x := .bool false) rfl ?_))
  refine (show wpAny _ _ (field (.ref z) 3 >>= _) _ _ _ from wpAny_bind (wpAny_field hz rfl (x := .ref I) rfl (wpAny_bind (wpAny_seqItems hI rfl ?_))))
  refine (show wpAny _ _ (Builtin.SmallTypes.ownedTupleIsFree (.ref z) >>= _) _ _ _ from wpAny_bind ?_)
  unfold Builtin.SmallTypes.ownedTupleIsFree
  refine wpAny_bind (wpAny_field hz rfl (x := .none) rfl (wpAny_pure ?_))
  simp only [if_true]
  refine wpAny_bind (wpAny_rule (wpAny_bind (wpAny_field hz rfl (x := .ref O) rfl (wpAny_bind (wpAny_setField_rec hz (by simp) fun g1 z1 b1 => wpAny_bind ?_)))))
  replace z1 : IsZip g1 z I O .ellipsis := z1
  simp only [List.zipIdx_cons, List.zipIdx_nil, List.forIn_cons, List.forIn_nil]
  refine wpAny_bind (wpAny_bind (wpAny_onRaise (show wpAny _ _ (Builtin.SmallTypes.nextOf (.ref p) >>= _) _ _ _ from wpAny_bind (nxT_item (h1.extBut b1.extBut D.i1z) (ht.extBut b1.extBut D.l1z) ex fun g2 p2 b2 => wpAny_pure ?_))))
  have o2 : IsPair g2 O a b := b2.extBut _ _ D.TOi1 (b1.extBut _ _ D.TOz hO)
  refine wpAny_bind (wpAny_seqItems o2 rfl (wpAny_bind (wpAny_updateSeq_pair o2 fun g3 o3 b3 => wpAny_bind (wpAny_letGo (wpAny_pure ?_)))))
  replace o3 : IsPair g3 O x b := o3
  refine wpAny_bind (wpAny_bind (wpAny_onRaise (show wpAny _ _ (Builtin.SmallTypes.nextOf (.ref q) >>= _) _ _ _ from wpAny_bind (nxT_item (((h2.extBut b1.extBut D.i2z).extBut b2.extBut D.i12.symm).extBut b3.extBut D.TOi2.symm)
    (((hu.extBut b1.extBut D.l2z).extBut b2.extBut D.l2i1).extBut b3.extBut D.l2TO) ey fun g4 q4 b4 => wpAny_pure ?_))))
  have o4 : IsPair g4 O x b := b4.extBut _ _ D.TOi2 o3
  refine wpAny_bind (wpAny_seqItems o4 rfl (wpAny_bind (wpAny_updateSeq_pair o4 fun g5 o5 b5 => wpAny_bind (wpAny_letGo (wpAny_pure (wpAny_pure ?_))))))
  replace o5 : IsPair g5 O x y := o5
  refine wpAny_bind (wpAny_seqItems o5 rfl (wpAny_bind (wpAny_newTuple ?_)))
  have sz : g5.objs.size = s.heap.objs.size := by rw [b5.1, b4.1, b3.1, b2.1, b1.1]
  have z5 : IsZip g5 z I O .ellipsis := b5.extBut _ _ D.TOz.symm (b4.extBut _ _ D.i2z.symm (b3.extBut _ _ D.TOz.symm (b2.extBut _ _ D.i1z.symm z1)))
  have k5 : ∀ c o, c ≠ z → c ≠ O → c ≠ p → c ≠ q → s.heap.get? c = some o → g5.get? c = some o := fun c o c1 c2 c3 c4 e => b5.extBut _ _ c2 (b4.extBut _ _ c4 (b3.extBut _ _ c2 (b2.extBut _ _ c3 (b1.extBut _ _ c1 e))))
  have p5 : g5.IsTupleIter p t (k + 1) := ((p2.extBut b3.extBut D.TOi1.symm).extBut b4.extBut D.i12).extBut b5.extBut D.TOi1.symm
  have q5 : g5.IsTupleIter q u (k + 1) := q4.extBut b5.extBut D.TOi2.symm
  have zl : z < g5.objs.size := Heap.lt_size z5
  refine (show wpAny _ _ (Builtin.SmallTypes.ownedTupleHandOut (.ref z) (.ref g5.objs.size) >>= _) _ _ _ from wpAny_bind ?_)
  unfold Builtin.SmallTypes.ownedTupleHandOut
  refine wpAny_bind (wpAny_setField_rec (show IsZip (g5.push { cls := .type "tuple", data := .seq #[x, y] }) z I O .ellipsis from Heap.get?_push_of_some _ z5) (by simp) fun g7 z7 b7 => ?_)
  refine wpAny_setField_rec (show IsZip g7 z I O (rawInt g5.objs.size) from z7) (by simp) fun g8 z8 b8 => ?_
  replace z8 : IsZip g8 z I O (rawInt g5.objs.size) := z8
  have up : ∀ c o, c ≠ z → g5.get? c = some o → g8.get? c = some o := fun c o n e => b8.extBut _ _ n (b7.extBut _ _ n (Heap.get?_push_of_some _ e))
  have t8 : IsPair g8 g5.objs.size x y := b8.extBut _ _ (Nat.ne_of_gt zl) (b7.extBut _ _ (Nat.ne_of_gt zl) (Heap.get?_push_size _ rfl))
  refine wpAny_pure ⟨_, rfl, show Q (.ref g5.objs.size) _ from ?_⟩
  rw [sz] at z8 t8 ⊢
  exact hq g8 z8 (up _ _ D.TOz o5) (p5.at fun o e => up _ o D.i1z e) (q5.at fun o e => up _ o D.i2z e) t8 fun c o c1 c2 c3 c4 e => up c o c1 (k5 c o c1 c2 c3 c4 e)
theorem zT_end {x : Value} {Q : Fin → Shared → Prop} (hh : A.handled = none) (D : ZipApart z I O p q t u) (st : ZTn z I O p q t u k s.heap) (ht : s.heap.IsTuple t xs) (hu : s.heap.IsTuple u ys) (ex : xs[k]? = some x) (ey : ys[k]? = none)
    (hE : ∀ h' e, (∀ c o, c ≠ z → c ≠ O → c ≠ p → c ≠ q → s.heap.get? c = some o → h'.get? c = some o) → (∃ o, h'.get? e = some o ∧ o.cls = .type "StopIteration") → E (.ref e) { s with heap := h' }) :
    wpAny (model prog w) A (Builtin.«zip.__next__» ⟨[.ref z], []⟩) Q E s := by
  obtain ⟨hz, hI, ⟨a, b, hO⟩, h1, h2⟩ := st
  refine (show wpAny _ _ (field (.ref z) 2 >>= _) _ _ _ from wpAny_bind (wpAny_field hz rfl (x := .bool false) rfl ?_))
  refine (show wpAny _ _ (field (.ref z) 3 >>= _) _ _ _ from wpAny_bind (wpAny_field hz rfl (x := .ref I) rfl (wpAny_bind (wpAny_seqItems hI rfl ?_))))
  refine (show wpAny _ _ (Builtin.SmallTypes.ownedTupleIsFree (.ref z) >>= _) _ _ _ from wpAny_bind ?_)
  unfold Builtin.SmallTypes.ownedTupleIsFree
  refine wpAny_bind (wpAny_field hz rfl (x := .none) rfl (wpAny_pure ?_))
  simp only [if_true]
  refine wpAny_bind (wpAny_rule (wpAny_bind (wpAny_field hz rfl (x := .ref O) rfl (wpAny_bind (wpAny_setField_rec hz (by simp) fun g1 z1 b1 => wpAny_bind ?_)))))
  replace z1 : IsZip g1 z I O .ellipsis := z1
  simp only [List.zipIdx_cons, List.zipIdx_nil, List.forIn_cons, List.forIn_nil]
  refine wpAny_bind (wpAny_bind (wpAny_onRaise (show wpAny _ _ (Builtin.SmallTypes.nextOf (.ref p) >>= _) _ _ _ from wpAny_bind (nxT_item (h1.extBut b1.extBut D.i1z) (ht.extBut b1.extBut D.l1z) ex fun g2 p2 b2 => wpAny_pure ?_))))
  have o2 : IsPair g2 O a b := b2.extBut _ _ D.TOi1 (b1.extBut _ _ D.TOz hO)
  refine wpAny_bind (wpAny_seqItems o2 rfl (wpAny_bind (wpAny_updateSeq_pair o2 fun g3 o3 b3 => wpAny_bind (wpAny_letGo (wpAny_pure ?_)))))
  refine wpAny_bind (wpAny_bind (wpAny_onRaise (show wpAny _ _ (Builtin.SmallTypes.nextOf (.ref q) >>= _) _ _ _ from wpAny_bind (nxT_end hh (((h2.extBut b1.extBut D.i2z).extBut b2.extBut D.i12.symm).extBut b3.extBut D.TOi2.symm)
    (((hu.extBut b1.extBut D.l2z).extBut b2.extBut D.l2i1).extBut b3.extBut D.l2TO) ey fun g4 e b4 he => ?_))))
  obtain ⟨oe, e1, e2⟩ := he
  have z4 : IsZip g4 z I O .ellipsis := b4 _ _ D.i2z.symm (b3.extBut _ _ D.TOz.symm (b2.extBut _ _ D.i1z.symm z1))
  have ez : e ≠ z := fun n => by subst n; rw [z4] at e1; cases e1; simp at e2
  exact wpAny_setField_rec z4 (by simp) fun g5 _ b5 => hE g5 e (fun c o c1 c2 c3 c4 n => b5.extBut _ _ c1 (b4 _ _ c4 (b3.extBut _ _ c2 (b2.extBut _ _ c3 (b1.extBut _ _ c1 n))))) ⟨oe, b5.extBut _ _ ez e1, e2⟩
theorem zT_laid (h : Heap) (t u : Addr) (h1 h2 h3 h4 h5 : Heap) (e1 : h1 = h.push { cls := .type "tuple_iterator", data := .fields #[.ref t, .int 0 0] }) (e2 : h2 = h1.push { cls := .type "tuple_iterator", data := .fields #[.ref u, .int 0 0] })
    (e3 : h3 = h2.push { cls := .type "tuple", data := .seq #[.ref h.objs.size, .ref h1.objs.size] }) (e4 : h4 = h3.push { cls := .type "tuple", data := .seq #[.none, .none] })
    (e5 : h5 = h4.push { cls := .type "zip", data := .fields #[.none, .bool false, .bool false, .ref h2.objs.size, .ref h3.objs.size] }) :
    h4.objs.size = h.objs.size + 4 ∧ ZTn (h.objs.size + 4) (h.objs.size + 2) (h.objs.size + 3) h.objs.size (h.objs.size + 1) t u 0 h5 ∧ ∀ c o, h.get? c = some o → h5.get? c = some o := by
  have s1 : h1.objs.size = h.objs.size + 1 := by rw [e1, Heap.size_push]
  have s2 : h2.objs.size = h.objs.size + 2 := by rw [e2, Heap.size_push, s1]
  have s3 : h3.objs.size = h.objs.size + 3 := by rw [e3, Heap.size_push, s2]
  have s4 : h4.objs.size = h.objs.size + 4 := by rw [e4, Heap.size_push, s3]
  have u1 : ∀ c o, h1.get? c = some o → h5.get? c = some o := fun c o n => by rw [e5, e4, e3, e2]; exact Heap.get?_push_of_some _ (Heap.get?_push_of_some _ (Heap.get?_push_of_some _ (Heap.get?_push_of_some _ n)))
  have u2 : ∀ c o, h2.get? c = some o → h5.get? c = some o := fun c o n => by rw [e5, e4, e3]; exact Heap.get?_push_of_some _ (Heap.get?_push_of_some _ (Heap.get?_push_of_some _ n))
  have u3 : ∀ c o, h3.get? c = some o → h5.get? c = some o := fun c o n => by rw [e5, e4]; exact Heap.get?_push_of_some _ (Heap.get?_push_of_some _ n)
  have g1 := u1 h.objs.size _ (by rw [e1]; exact Heap.get?_push_size _ rfl)
  have g2 := u2 h1.objs.size _ (by rw [e2]; exact Heap.get?_push_size _ rfl)
  have g3 := u3 h2.objs.size _ (by rw [e3]; exact Heap.get?_push_size _ rfl)
  have u4 : ∀ c o, h4.get? c = some o → h5.get? c = some o := fun c o n => by rw [e5]; exact Heap.get?_push_of_some _ n
  have u5 : ∀ c o, h5.get? c = some o → h5.get? c = some o := fun _ _ n => n
  have g4 := u4 h3.objs.size _ (by rw [e4]; exact Heap.get?_push_size _ rfl)
  have g5 := u5 h4.objs.size _ (by rw [e5]; exact Heap.get?_push_size _ rfl)
  rw [s4, s2, s3] at g5
  rw [s2, s1] at g3
  rw [s3] at g4
  rw [s1] at g2
  exact ⟨s4, ⟨g5, g3, ⟨_, _, g4⟩, ⟨_, g1, rfl, rfl⟩, ⟨_, g2, rfl, rfl⟩⟩, fun c o n => u1 c o (by rw [e1]; exact Heap.get?_push_of_some _ n)⟩
/-- zip(s, t) is made -/
theorem zT_new (t u : Addr) (xs ys : Array Value) : Meets (Builtin.«zip.__new__» ⟨[.type "zip", .ref t, .ref u], []⟩) (fun _ R s => s.heap.IsTuple t xs ∧ s.heap.IsTuple u ys ∧ ∀ h', ZTn (s.heap.objs.size + 4) (s.heap.objs.size + 2) (s.heap.objs.size + 3) s.heap.objs.size (s.heap.objs.size + 1) t u 0 h' →
      (∀ c o, s.heap.get? c = some o → h'.get? c = some o) → R (.ok (.ret (.ref (s.heap.objs.size + 4)))) { s with heap := h' }) :=
  .of_wp fun prog w A R s h => by
    obtain ⟨hp, g, d, tk, os⟩ := s
    obtain ⟨l1, l2, h⟩ := h
    have hsub := sub_zip
    have L1 : Heap.IsTuple (Shared.heap ⟨hp, g, d, tk, os⟩) t xs := l1
    have L2 : Heap.IsTuple (Shared.heap ⟨hp.push { cls := .type "tuple_iterator", data := .fields #[.ref t, .int 0 0] }, g, d, tk, os⟩) u ys := Heap.IsTuple.push l2 _
    wp_walk using wpAny_pyIter_tuple L1, wpAny_pyIter_tuple L2
    refine ⟨_, rfl, ?_⟩
    obtain ⟨e, st, k⟩ := zT_laid hp t u _ _ _ _ _ rfl rfl rfl rfl rfl
    have z := h _ st k
    rw [← e] at z
    exact z
theorem fp1 {z I O p q : Addr} : z ∈ [z, I, O, p, q] := .head _
theorem fp2 {z I O p q : Addr} : I ∈ [z, I, O, p, q] := .tail _ (.head _)
theorem fp3 {z I O p q : Addr} : O ∈ [z, I, O, p, q] := .tail _ (.tail _ (.head _))
theorem fp4 {z I O p q : Addr} : p ∈ [z, I, O, p, q] := .tail _ (.tail _ (.tail _ (.head _)))
theorem fp5 {z I O p q : Addr} : q ∈ [z, I, O, p, q] := .tail _ (.tail _ (.tail _ (.tail _ (.head _))))
theorem not_fp {z I O p q c : Addr} (h : c ∉ [z, I, O, p, q]) : c ≠ z ∧ c ≠ O ∧ c ≠ p ∧ c ≠ q := ⟨fun n => h (n ▸ fp1), fun n => h (n ▸ fp3), fun n => h (n ▸ fp4), fun n => h (n ▸ fp5)⟩
theorem two_fits : 2 ≤ sizeLine := by decide
/-- the objects of an iterator have turned -/
theorem inv_turns {X : Cx} {pins : List (Addr × Obj)} {σ : Sv} {H : Hp} {s : Shared} {h' : Heap} {t' : Nat} {fp : List Addr} (I : Inv X pins σ H s) (f : ∀ b ∈ fp, FpOk X pins H b) (k : ∀ b o, b ∉ fp → s.heap.get? b = some o → h'.get? b = some o) : Inv X pins σ H { s with heap := h', toks := t' } := by
  refine I.step (g' := s.gens) (d' := s.drawn) (ch := fp) (fun b hb => ⟨(f b hb).2.2.2.1, (f b hb).2.1, (f b hb).2.2.2.2.1, (f b hb).2.2.2.2.2⟩) (fun b o _ _ hc e _ => k b o hc e) (fun b o _ _ hc e _ => ⟨o.slots, k b o hc e⟩) (fun _ _ _ _ n => n)
    (fun b o hc e => ⟨o, k b o hc e⟩) (fun _ _ e => e) (fun _ _ _ e => e) (fun b ps e => ⟨#[], by rw [e]; simp⟩) (fun m hm => ?_) (fun b v e => ?_) I.bare
  · obtain ⟨o, es, ep, ho, r⟩ := hm
    exact ⟨o, es, ep, k _ o (fun y => (f _ y).2.1 rfl) ho, r⟩
  · refine (I.hok b v e).stay (fun c o hc n => k c o (fun y => ?_) n) (fun _ n => n) fun _ _ n => n
    have y0 := (f c y).1
    rcases hc with m | m
    · rw [m, e] at y0; cases y0
    · rw [m] at y0; cases y0
theorem zT_obj {h : Heap} (st : ZTn z I O p q t u k h) : ∀ b ∈ [z, I, O, p, q], ∃ o, h.get? b = some o ∧ ∀ v, o.data ≠ .cell v := by
  obtain ⟨hz, hI, ⟨a, c, hO⟩, ⟨o1, e1, _, d1⟩, ⟨o2, e2, _, d2⟩⟩ := st
  have no : ∀ {o : Obj} {x : Array Value} (v : Option Value), o.data = .fields x → o.data ≠ .cell v := fun v e n => by rw [e] at n; cases n
  exact List.forall_mem_cons.mpr ⟨⟨_, hz, fun v => no v rfl⟩, List.forall_mem_cons.mpr ⟨⟨_, hI, fun v n => nomatch n⟩, List.forall_mem_cons.mpr ⟨⟨_, hO, fun v n => nomatch n⟩, List.forall_mem_cons.mpr ⟨⟨o1, e1, fun v => no v d1⟩, List.forall_mem_cons.mpr ⟨⟨o2, e2, fun v => no v d2⟩, fun _ n => nomatch n⟩⟩⟩⟩⟩
theorem turn_zip {P : Program} {w : World} {K : PySem.W.Frag} {es : List Expr} {x1} {pos : Pos} (D : ZipApart z I O p q t u) (n : Nat) : Turn P w K (.Tuple es x1 pos)
    ⟨fun i H => ∃ xs ys x y, SqT K H t xs ∧ SqT K H u ys ∧ xs[i]? = some x ∧ ys[i]? = some y ∧ i < n,
      fun i H v H' => ∃ T x y, v = .ref T ∧ H T = none ∧ H' = upd H T (.tup [x, y]) ∧ ∀ xs ys, SqT K H t xs → SqT K H u ys → xs[i]? = some x ∧ ys[i]? = some y,
      fun i H => n ≤ i ∧ ∃ xs ys, SqT K H t xs ∧ SqT K H u ys ∧ ys.length = n ∧ n < xs.length⟩ [z, I, O, p, q] z (fun k h => k ≤ n ∧ ZTn z I O p q t u k h) where
  mem := fp1
  obj := fun i h st => zT_obj st.2
  keep := fun i h h' st k => by
    obtain ⟨hi, hz, hI, ⟨a, c, hO⟩, h1, h2⟩ := st
    exact ⟨hi, k z fp1 _ hz, k I fp2 _ hI, ⟨a, c, k O fp3 _ hO⟩, h1.at fun o e => k p fp4 o e, h2.at fun o e => k q fp5 o e⟩
  item := by
    intro X hP hw hK hc i pins s σ H E I0 hf st hg
    subst hP hw hK
    obtain ⟨xs, ys, x, y, hx, hy, ex, ey, hin⟩ := hg
    obtain ⟨is, rx, px, _⟩ := I0.tuple hx
    obtain ⟨js, ry, py, _⟩ := I0.tuple hy
    obtain ⟨a, ea, ra⟩ := rx.get ex
    obtain ⟨b, eb, rb⟩ := ry.get ey
    obtain ⟨_, hz, hI, ⟨c0, c1, hO⟩, h1, h2⟩ := id st
    have hT : s.TypeIs (.ref z) "zip" := ⟨_, hz, rfl⟩
    unfold pyNext
    refine wpAny_bind (wpAny_attempt (wpAny_callSpecial?_slot (name := Str.ofString "__next__") hT F.slot_zip_next (wpAny_call_entry F.slot_zip_next hT F.entry_zip_next
      (zT_item D st.2 (show s.heap.IsTuple t is.toArray from px) (show s.heap.IsTuple u js.toArray from py) (x := a) (by simpa using ea) (y := b) (by simpa using eb) fun h' z' o' p' q' t' kk => wpAny_pure ⟨_, rfl, ?_⟩) (F.args_zip_next_1 _))))
    refine wpAny_letOwnedTupleGo_zip z' fun h2' z2 b2 => ?_
    have hN : H s.heap.objs.size = none := I0.hok.fresh (Nat.le_refl _)
    have lt : ∀ c ∈ [z, I, O, p, q], c ≠ s.heap.objs.size := fun c hc n => by
      obtain ⟨o, e, _⟩ := zT_obj st.2 c hc
      rw [n] at e
      exact absurd (Heap.lt_size e) (Nat.lt_irrefl _)
    have J1 : Inv X pins σ (upd H s.heap.objs.size (.tup [x, y])) { s with heap := s.heap.push { cls := .type "tuple", data := .seq #[a, b] } } :=
      I0.laid (t' := s.toks) (fun b u e => Heap.get?_push_of_some _ e) (Nat.le_refl _) ⟨two_fits, [a, b], .cons ra (.cons rb .nil), ⟨_, Heap.get?_push_size _ rfl, rfl, _, rfl⟩⟩
    have fr : ∀ c ∈ [z, I, O, p, q], FpOk X pins (upd H s.heap.objs.size (.tup [x, y])) c := fun c hc => ⟨by rw [upd_ne (lt c hc)]; exact (hf c hc).1, (hf c hc).2⟩
    have J2 : Inv X pins σ (upd H s.heap.objs.size (.tup [x, y])) { s with heap := h2' } := by
      have kp : ∀ c o, c ∉ [z, I, O, p, q] → (s.heap.push { cls := .type "tuple", data := .seq #[a, b] }).get? c = some o → h2'.get? c = some o := fun c o hc e => ?_
      · have r := inv_turns (h' := h2') (t' := s.toks) J1 fr kp
        exact r
      obtain ⟨cz, cO, cp, cq⟩ := not_fp hc
      refine b2.extBut _ _ cz ?_
      rcases Heap.get?_push_cases e with ⟨rfl, rfl⟩ | e
      · exact t'
      · exact kk c o cz cO cp cq e
    exact ⟨.ref s.heap.objs.size, _, J2, rfl, ⟨_, x, y, rfl, hN, rfl, fun as bs h3 h4 => by rw [I0.tuple_inj h3 hx, I0.tuple_inj h4 hy]; exact ⟨ex, ey⟩⟩, ⟨hin, z2, b2.extBut _ _ D.TIz (kk _ _ D.TIz D.TITO D.TIi1 D.TIi2 hI), ⟨_, _, b2.extBut _ _ D.TOz o'⟩, p'.extBut b2.extBut D.i1z, q'.extBut b2.extBut D.i2z⟩, fun c hc => (fr c hc).1⟩
  done := by
    intro X hP hw hK hc i pins s σ H E I0 hf st hg
    subst hP hw hK
    obtain ⟨hni, xs, ys, hx, hy, hl, hlt⟩ := hg
    have e : i = n := Nat.le_antisymm st.1 hni
    subst e
    obtain ⟨is, rx, px, _⟩ := I0.tuple hx
    obtain ⟨js, ry, py, _⟩ := I0.tuple hy
    have l1 := rx.length
    have l2 := ry.length
    have hT : s.TypeIs (.ref z) "zip" := ⟨_, st.2.1, rfl⟩
    unfold pyNext
    refine wpAny_bind (wpAny_attempt (wpAny_callSpecial?_slot (name := Str.ofString "__next__") hT F.slot_zip_next (wpAny_call_entry F.slot_zip_next hT F.entry_zip_next
      (zT_end (I0.ok.hd hc) D st.2 (show s.heap.IsTuple t is.toArray from px) (show s.heap.IsTuple u js.toArray from py) (x := is[i]'(by omega)) (by simp) (by simp; omega) fun h' e kk he => ?_) (F.args_zip_next_1 _))))
    obtain ⟨o, ho, co⟩ := he
    refine wpAny_bind (wpAny_isInstance (T := "StopIteration") (b := true) ⟨o, ho, co⟩ isSubtype_stop (wpAny_pure ⟨rfl, ?_⟩))
    exact inv_turns (t' := s.toks) I0 hf fun c o hc e => (not_fp hc).elim fun cz n => n.elim fun cO n => n.elim fun cp cq => kk c o cz cO cp cq e
  self := fun _ _ _ _ _ st h => wpAny_pyIter_zip st.2.1 h
end
def zipD (xs ys : List D) : List D := List.zipWith (fun x y => D.tup [x, y]) xs ys
def zQ (ds : List D) (k : List D → List D → Prop) : Prop := match ds with
  | [.tup xs, .tup ys] => k xs ys
  | _ => False
theorem zQ_eq {xs ys : List D} {k : List D → List D → Prop} : zQ [.tup xs, .tup ys] k = k xs ys := rfl
theorem zQ_inv {ds : List D} {k : List D → List D → Prop} (h : zQ ds k) : ∃ xs ys, ds = [.tup xs, .tup ys] ∧ k xs ys := by
  cases ds with
  | nil => exact h.elim
  | cons a t =>
    cases t with
    | nil => cases a <;> exact h.elim
    | cons b t =>
      cases a with
      | tup xs =>
        cases b with
        | tup ys =>
          cases t with
          | nil => exact ⟨xs, ys, rfl, h⟩
          | cons _ _ => exact h.elim
        | _ => exact h.elim
      | _ => exact h.elim
def iZip (ta : TAD) : TID := fun σd G R => ta σd G fun ds G1 => zQ ds fun xs ys => ys.length < xs.length ∧ R (zipD xs ys) (fun _ => True) G1
/-- two tuples handed over -/
theorem tups2 {K : PySem.W.Frag} {H : Hp} {xs ys : List D} {vs : List V} {us : List Value} (h : IsVs K H [.tup xs, .tup ys] vs) (r : Vals vs us) : ∃ t vx u vy, us = [.ref t, .ref u] ∧ SqT K H t vx ∧ IsVs K H xs vx ∧ SqT K H u vy ∧ IsVs K H ys vy := by
  obtain ⟨_, _, rfl, h1, q1⟩ := isVs_cons h
  obtain ⟨_, _, rfl, h2, q2⟩ := isVs_cons q1
  cases isVs_nil q2
  obtain ⟨t, vx, rfl, sx, wx⟩ := isV_tup h1
  obtain ⟨u, vy, rfl, sy, wy⟩ := isV_tup h2
  obtain ⟨_, _, rfl, e1, r1⟩ := vals_cons r
  cases e1
  obtain ⟨_, _, rfl, e2, r2⟩ := vals_cons r1
  cases e2
  cases vals_nil r2
  exact ⟨t, vx, u, vy, rfl, sx, wx, sy, wy⟩
section
variable {X : Cx} {pos : Pos}
theorem id_zip {es : List Expr} {x1} {pt : Pos} {a b : Expr} {ta : TAD} {p : Pos} (hg : Gl X "zip") (hm : X.mg "zip" = none) (ha : PAD X [a, b] ta) (hs : starEach [a, b] X.env = [(false, eval a X.env), (false, eval b X.env)] := by rfl) (hs2 : starEach [b] X.env = [(false, eval b X.env)] := by rfl) :
    PID X (.Tuple es x1 pt) (.Call (.Name "zip" p) [a, b] [] pos) (iZip ta) := by
  intro pins s σd G σ H R j h
  refine Call_ (ld_blt j.inv hg hm boot_zip (PyProof.Rows.callWith_type1 (thn (ha pos pins s σd G σ H _ j h) fun us s1 zz => zz.use fun ds vs G1 H1 j1 t1 i1 r1 q1 => ?_) (by rw [hs, hs2]) (by rw [hs2]; rfl)))
  obtain ⟨xs, ys, rfl, hl, q⟩ := zQ_inv q1
  obtain ⟨t, vx, u, vy, rfl, sx, wx, sy, wy⟩ := tups2 i1 r1
  obtain ⟨is, _, px, _⟩ := j1.inv.tuple sx
  obtain ⟨js, _, py, _⟩ := j1.inv.tuple sy
  have lx := wx.length
  have ly := wy.length
  have bt : ∀ {c : Addr} {its : Array Value}, IsTup s1.heap c its → c < s1.heap.objs.size := fun ⟨o, e, _⟩ => Heap.lt_size e
  refine callType_new F.called_zip (by decide) (F.typeCall_zip_2 _ _) (F.newCall_zip_2 _ _) (fun obj => F.args_object_init_3 obj _ _) F.entry_zip_new (zT_new t u is.toArray js.toArray) ⟨px, py, fun h' st kk => ⟨⟨_, st.1, rfl⟩, wpAny_pyIter_zip st.1 ?_⟩⟩
  have up : ∀ c ∈ [s1.heap.objs.size + 4, s1.heap.objs.size + 2, s1.heap.objs.size + 3, s1.heap.objs.size, s1.heap.objs.size + 1], s1.heap.objs.size ≤ c := fun c hc => by
    simp only [List.mem_cons, List.not_mem_nil, or_false] at hc
    omega
  refine ⟨_, _, _, _, G1, H1, zipD xs ys, fun _ => True, rfl, j1.next (j1.inv.kept (t' := s1.toks) kk) .refl j1.gh, t1, turn_zip (zipApart_new (bt px) (bt py)) vy.length, ⟨Nat.zero_le _, st⟩, fun c hc => j1.inv.fpOk (up c hc) (j1.inv.hok.fresh (up c hc)), fun i G2 H2 tx g2 _ hn => ?_, fun i d G2 H2 tx g2 _ hd => ?_, q⟩
  · have e : (zipD xs ys).length = vy.length := by unfold zipD; rw [List.length_zipWith]; omega
    exact ⟨by omega, _, _, tx.seqT sx, tx.seqT sy, rfl, by omega⟩
  · unfold zipD at hd
    obtain ⟨x, y, ex, ey, rfl⟩ := List.getElem?_zipWith_eq_some.mp hd
    obtain ⟨v, e1, w1⟩ := (wx.mono tx).get ex
    obtain ⟨v', e2, w2⟩ := (wy.mono tx).get ey
    refine ⟨⟨_, _, v, v', tx.seqT sx, tx.seqT sy, e1, e2, (List.getElem?_eq_some_iff.mp e2).1⟩, fun vv H3 yd => ?_⟩
    obtain ⟨T, c, c', rfl, hT, rfl, al⟩ := yd
    obtain ⟨e3, e4⟩ := al _ _ (tx.seqT sx) (tx.seqT sy)
    rw [e1] at e3
    rw [e2] at e4
    cases e3
    cases e4
    exact ⟨.laid hT, g2.laid hT, .tup (SqT.of upd_same) (.cons (w1.mono (.laid hT)) (.cons (w2.mono (.laid hT)) .nil))⟩
end
end L3

set_option backward.eqns.nonrecursive false
set_option genInjectivity false
set_option genSizeOfSpec false
namespace My
open PySem L2 L3
def top (i : Nat) : Stmt := PySem.Challenge.pw_bouncewise_k85_out_of_the_box.main.body.getD i (.Pass ⟨0, 0, 0, 0⟩)
theorem bt_ValueError : bootBuiltins "ValueError" = some (.type "ValueError") := by decide +kernel
theorem bt_abs : bootBuiltins "abs" = some (.builtin "abs") := by decide +kernel
theorem bt_int : bootBuiltins "int" = some (.type "int") := by decide +kernel
theorem bt_isinstance : bootBuiltins "isinstance" = some (.builtin "isinstance") := by decide +kernel
theorem bt_len : bootBuiltins "len" = some (.builtin "len") := by decide +kernel
theorem bt_sorted : bootBuiltins "sorted" = some (.builtin "sorted") := by decide +kernel
theorem bt_tuple : bootBuiltins "tuple" = some (.type "tuple") := by decide +kernel
abbrev s_divisor : Stmt := top 16
abbrev s_point_of : Stmt := top 17
abbrev s_with_sign_of : Stmt := top 19
abbrev s_spot_at : Stmt := top 20
abbrev s_check_inside : Stmt := top 22
abbrev s_turned : Stmt := top 23
abbrev s_box_at : Stmt := top 24
abbrev s_box_corner : Stmt := top 27
abbrev s_box_round : Stmt := top 28
abbrev s__law_number : Stmt := top 30
abbrev s__law_side : Stmt := top 31
abbrev s__law_measure : Stmt := top 32
abbrev s__law_reduced : Stmt := top 33
abbrev s__law_point : Stmt := top 34
abbrev s__law_heading : Stmt := top 35
abbrev s__law_inside : Stmt := top 36
abbrev s__law_spoiled : Stmt := top 37
abbrev s__law_asked : Stmt := top 38
abbrev s__law_refused : Stmt := top 39
abbrev s_law : Stmt := top 40
structure Ad where
  f_divisor : Addr
  fd_divisor : FuncData
  f_point_of : Addr
  fd_point_of : FuncData
  f_with_sign_of : Addr
  fd_with_sign_of : FuncData
  f_spot_at : Addr
  fd_spot_at : FuncData
  f_check_inside : Addr
  fd_check_inside : FuncData
  f_turned : Addr
  fd_turned : FuncData
  f_box_at : Addr
  fd_box_at : FuncData
  f_box_corner : Addr
  fd_box_corner : FuncData
  f_box_round : Addr
  fd_box_round : FuncData
  f__law_number : Addr
  fd__law_number : FuncData
  f__law_side : Addr
  fd__law_side : FuncData
  f__law_measure : Addr
  fd__law_measure : FuncData
  f__law_reduced : Addr
  fd__law_reduced : FuncData
  f__law_point : Addr
  fd__law_point : FuncData
  f__law_heading : Addr
  fd__law_heading : FuncData
  f__law_inside : Addr
  fd__law_inside : FuncData
  f__law_spoiled : Addr
  fd__law_spoiled : FuncData
  f__law_asked : Addr
  fd__law_asked : FuncData
  f__law_refused : Addr
  fd__law_refused : FuncData
  f_law : Addr
  fd_law : FuncData
  c_RoomError : Addr
  c_NoPoint : Addr
  c_NoWay : Addr
  c_BadWall : Addr
  c_TooMany : Addr
  c_Overlap : Addr
  c_OnWall : Addr
  c_Over : Addr
  c_TooLong : Addr
  c_OutOfBox : Addr
  c_BadDrawing : Addr
  c_NoText : Addr
  c_NoName : Addr
  c_NoRow : Addr
structure Txt (K : PySem.W.Frag) (mg : Str → Option Value) (A : Ad) : Prop where
  F_divisor : Fun K "divisor" "divisor" s_divisor A.f_divisor A.fd_divisor
  m_divisor : mg "divisor" = some (.ref A.f_divisor)
  k_divisor : PySem.W.keepIn K (.ref A.f_divisor) = true
  b_divisor : Binds K A.fd_divisor ["one", "other"] []
  F_point_of : Fun K "point_of" "point_of" s_point_of A.f_point_of A.fd_point_of
  m_point_of : mg "point_of" = some (.ref A.f_point_of)
  k_point_of : PySem.W.keepIn K (.ref A.f_point_of) = true
  b_point_of : Binds K A.fd_point_of ["x", "y", "w"] []
  F_with_sign_of : Fun K "with_sign_of" "with_sign_of" s_with_sign_of A.f_with_sign_of A.fd_with_sign_of
  m_with_sign_of : mg "with_sign_of" = some (.ref A.f_with_sign_of)
  k_with_sign_of : PySem.W.keepIn K (.ref A.f_with_sign_of) = true
  b_with_sign_of : Binds K A.fd_with_sign_of ["last", "share"] []
  F_spot_at : Fun K "spot_at" "spot_at" s_spot_at A.f_spot_at A.fd_spot_at
  m_spot_at : mg "spot_at" = some (.ref A.f_spot_at)
  k_spot_at : PySem.W.keepIn K (.ref A.f_spot_at) = true
  b_spot_at : Binds K A.fd_spot_at ["P", "heading", "t"] []
  F_check_inside : Fun K "check_inside" "check_inside" s_check_inside A.f_check_inside A.fd_check_inside
  m_check_inside : mg "check_inside" = some (.ref A.f_check_inside)
  k_check_inside : PySem.W.keepIn K (.ref A.f_check_inside) = true
  b_check_inside : Binds K A.fd_check_inside ["wide", "high", "P"] []
  F_turned : Fun K "turned" "turned" s_turned A.f_turned A.fd_turned
  m_turned : mg "turned" = some (.ref A.f_turned)
  k_turned : PySem.W.keepIn K (.ref A.f_turned) = true
  b_turned : Binds K A.fd_turned ["far", "side", "speed"] []
  F_box_at : Fun K "box_at" "box_at" s_box_at A.f_box_at A.fd_box_at
  m_box_at : mg "box_at" = some (.ref A.f_box_at)
  k_box_at : PySem.W.keepIn K (.ref A.f_box_at) = true
  b_box_at : Binds K A.fd_box_at ["wide", "high", "P", "heading", "t"] []
  F_box_corner : Fun K "box_corner" "box_corner" s_box_corner A.f_box_corner A.fd_box_corner
  m_box_corner : mg "box_corner" = some (.ref A.f_box_corner)
  k_box_corner : PySem.W.keepIn K (.ref A.f_box_corner) = true
  b_box_corner : Binds K A.fd_box_corner ["wide", "high", "P", "heading"] []
  F_box_round : Fun K "box_round" "box_round" s_box_round A.f_box_round A.fd_box_round
  m_box_round : mg "box_round" = some (.ref A.f_box_round)
  k_box_round : PySem.W.keepIn K (.ref A.f_box_round) = true
  b_box_round : Binds K A.fd_box_round ["wide", "high", "P", "heading"] []
  F__law_number : Fun K "_law_number" "_law_number" s__law_number A.f__law_number A.fd__law_number
  m__law_number : mg "_law_number" = some (.ref A.f__law_number)
  k__law_number : PySem.W.keepIn K (.ref A.f__law_number) = true
  b__law_number : Binds K A.fd__law_number ["_law_cell"] []
  F__law_side : Fun K "_law_side" "_law_side" s__law_side A.f__law_side A.fd__law_side
  m__law_side : mg "_law_side" = some (.ref A.f__law_side)
  k__law_side : PySem.W.keepIn K (.ref A.f__law_side) = true
  b__law_side : Binds K A.fd__law_side ["_law_cell"] []
  F__law_measure : Fun K "_law_measure" "_law_measure" s__law_measure A.f__law_measure A.fd__law_measure
  m__law_measure : mg "_law_measure" = some (.ref A.f__law_measure)
  k__law_measure : PySem.W.keepIn K (.ref A.f__law_measure) = true
  b__law_measure : Binds K A.fd__law_measure ["_law_one", "_law_other"] []
  F__law_reduced : Fun K "_law_reduced" "_law_reduced" s__law_reduced A.f__law_reduced A.fd__law_reduced
  m__law_reduced : mg "_law_reduced" = some (.ref A.f__law_reduced)
  k__law_reduced : PySem.W.keepIn K (.ref A.f__law_reduced) = true
  b__law_reduced : Binds K A.fd__law_reduced ["_law_top", "_law_bottom"] []
  F__law_point : Fun K "_law_point" "_law_point" s__law_point A.f__law_point A.fd__law_point
  m__law_point : mg "_law_point" = some (.ref A.f__law_point)
  k__law_point : PySem.W.keepIn K (.ref A.f__law_point) = true
  b__law_point : Binds K A.fd__law_point ["_law_x", "_law_y", "_law_w"] []
  F__law_heading : Fun K "_law_heading" "_law_heading" s__law_heading A.f__law_heading A.fd__law_heading
  m__law_heading : mg "_law_heading" = some (.ref A.f__law_heading)
  k__law_heading : PySem.W.keepIn K (.ref A.f__law_heading) = true
  b__law_heading : Binds K A.fd__law_heading ["_law_a", "_law_b"] []
  F__law_inside : Fun K "_law_inside" "_law_inside" s__law_inside A.f__law_inside A.fd__law_inside
  m__law_inside : mg "_law_inside" = some (.ref A.f__law_inside)
  k__law_inside : PySem.W.keepIn K (.ref A.f__law_inside) = true
  b__law_inside : Binds K A.fd__law_inside ["_law_wide", "_law_high", "_law_some"] []
  F__law_spoiled : Fun K "_law_spoiled" "_law_spoiled" s__law_spoiled A.f__law_spoiled A.fd__law_spoiled
  m__law_spoiled : mg "_law_spoiled" = some (.ref A.f__law_spoiled)
  k__law_spoiled : PySem.W.keepIn K (.ref A.f__law_spoiled) = true
  b__law_spoiled : Binds K A.fd__law_spoiled ["_law_way", "_law_wide", "_law_high", "_law_kp", "_law_low"] []
  F__law_asked : Fun K "_law_asked" "_law_asked" s__law_asked A.f__law_asked A.fd__law_asked
  m__law_asked : mg "_law_asked" = some (.ref A.f__law_asked)
  k__law_asked : PySem.W.keepIn K (.ref A.f__law_asked) = true
  b__law_asked : Binds K A.fd__law_asked ["_law_number_here", "_law_wide", "_law_high", "_law_kp", "_law_heading_here"] []
  F__law_refused : Fun K "_law_refused" "_law_refused" s__law_refused A.f__law_refused A.fd__law_refused
  m__law_refused : mg "_law_refused" = some (.ref A.f__law_refused)
  k__law_refused : PySem.W.keepIn K (.ref A.f__law_refused) = true
  b__law_refused : Binds K A.fd__law_refused ["_law_number_here", "_law_wide", "_law_high", "_law_kp", "_law_heading_here"] []
  F_law : Fun K "law" "law" s_law A.f_law A.fd_law
  m_law : mg "law" = some (.ref A.f_law)
  k_law : PySem.W.keepIn K (.ref A.f_law) = true
  b_law : Binds K A.fd_law ["_law_script"] []
  z_ValueError : mg "ValueError" = none
  z_abs : mg "abs" = none
  z_int : mg "int" = none
  z_isinstance : mg "isinstance" = none
  z_len : mg "len" = none
  z_range : mg "range" = none
  z_sorted : mg "sorted" = none
  z_tuple : mg "tuple" = none
  z_zip : mg "zip" = none
  mc_RoomError : mg "RoomError" = some (.ref A.c_RoomError)
  mc_NoPoint : mg "NoPoint" = some (.ref A.c_NoPoint)
  mc_NoWay : mg "NoWay" = some (.ref A.c_NoWay)
  mc_BadWall : mg "BadWall" = some (.ref A.c_BadWall)
  mc_TooMany : mg "TooMany" = some (.ref A.c_TooMany)
  mc_Overlap : mg "Overlap" = some (.ref A.c_Overlap)
  mc_OnWall : mg "OnWall" = some (.ref A.c_OnWall)
  mc_Over : mg "Over" = some (.ref A.c_Over)
  mc_TooLong : mg "TooLong" = some (.ref A.c_TooLong)
  mc_OutOfBox : mg "OutOfBox" = some (.ref A.c_OutOfBox)
  mc_BadDrawing : mg "BadDrawing" = some (.ref A.c_BadDrawing)
  mc_NoText : mg "NoText" = some (.ref A.c_NoText)
  mc_NoName : mg "NoName" = some (.ref A.c_NoName)
  mc_NoRow : mg "NoRow" = some (.ref A.c_NoRow)
  er_OutOfBox : Err K mg "OutOfBox" A.c_OutOfBox
  x0 : PySem.W.exmAny K (.ref A.c_OutOfBox) [(.ref A.c_BadDrawing), (.ref A.c_BadWall), (.ref A.c_NoName), (.ref A.c_NoPoint), (.ref A.c_NoRow), (.ref A.c_NoText), (.ref A.c_NoWay), (.ref A.c_OnWall), (.ref A.c_Over), (.ref A.c_Overlap), (.ref A.c_TooLong), (.ref A.c_TooMany)] = some false
  x1 : PySem.W.exmOne K (.ref A.c_OutOfBox) (.ref A.c_OutOfBox) = some true
  y0 : PySem.W.kitOne K (.ref A.c_OutOfBox) (.ref A.c_RoomError) = some true
  y1 : PySem.W.kitOne K (.ref A.c_OutOfBox) (.type "ValueError") = some true
theorem sc_divisor : FnScope ["one", "other", "left", "right", "rest"] ["one", "other"] (defScope s_divisor) := ⟨rfl, rfl, rfl, by decide +kernel, rfl, by decide +kernel, by decide +kernel⟩
theorem sc_point_of : FnScope ["x", "y", "w", "share"] ["x", "y", "w"] (defScope s_point_of) := ⟨rfl, rfl, rfl, by decide +kernel, rfl, by decide +kernel, by decide +kernel⟩
theorem sc_with_sign_of : FnScope ["last", "share"] ["last", "share"] (defScope s_with_sign_of) := ⟨rfl, rfl, rfl, by decide +kernel, rfl, by decide +kernel, by decide +kernel⟩
theorem sc_spot_at : FnScope ["P", "heading", "t", "top", "bottom"] ["P", "heading", "t"] (defScope s_spot_at) := ⟨rfl, rfl, rfl, by decide +kernel, rfl, by decide +kernel, by decide +kernel⟩
theorem sc_check_inside : FnScope ["wide", "high", "P", "number", "side"] ["wide", "high", "P"] (defScope s_check_inside) := ⟨rfl, rfl, rfl, by decide +kernel, rfl, by decide +kernel, by decide +kernel⟩
theorem sc_turned : FnScope ["far", "side", "speed", "place"] ["far", "side", "speed"] (defScope s_turned) := ⟨rfl, rfl, rfl, by decide +kernel, rfl, by decide +kernel, by decide +kernel⟩
theorem sc_box_at : FnScope ["wide", "high", "P", "heading", "t", "far", "w", "right", "up"] ["wide", "high", "P", "heading", "t"] (defScope s_box_at) := ⟨rfl, rfl, rfl, by decide +kernel, rfl, by decide +kernel, by decide +kernel⟩
theorem sc_box_corner : FnScope ["wide", "high", "P", "heading", "a", "b", "w", "g", "aside", "multiple", "m", "some", "apart"] ["wide", "high", "P", "heading"] (defScope s_box_corner) := ⟨rfl, rfl, rfl, by decide +kernel, rfl, by decide +kernel, by decide +kernel⟩
theorem sc_box_round : FnScope ["wide", "high", "P", "heading", "g", "hits"] ["wide", "high", "P", "heading"] (defScope s_box_round) := ⟨rfl, rfl, rfl, by decide +kernel, rfl, by decide +kernel, by decide +kernel⟩
theorem sc__law_number : FnScope ["_law_cell", "_law_way"] ["_law_cell"] (defScope s__law_number) := ⟨rfl, rfl, rfl, by decide +kernel, rfl, by decide +kernel, by decide +kernel⟩
theorem sc__law_side : FnScope ["_law_cell", "_law_way"] ["_law_cell"] (defScope s__law_side) := ⟨rfl, rfl, rfl, by decide +kernel, rfl, by decide +kernel, by decide +kernel⟩
theorem sc__law_measure : FnScope ["_law_one", "_law_other", "_law_pair"] ["_law_one", "_law_other"] (defScope s__law_measure) := ⟨rfl, rfl, rfl, by decide +kernel, rfl, by decide +kernel, by decide +kernel⟩
theorem sc__law_reduced : FnScope ["_law_top", "_law_bottom", "_law_size"] ["_law_top", "_law_bottom"] (defScope s__law_reduced) := ⟨rfl, rfl, rfl, by decide +kernel, rfl, by decide +kernel, by decide +kernel⟩
theorem sc__law_point : FnScope ["_law_x", "_law_y", "_law_w", "_law_size"] ["_law_x", "_law_y", "_law_w"] (defScope s__law_point) := ⟨rfl, rfl, rfl, by decide +kernel, rfl, by decide +kernel, by decide +kernel⟩
theorem sc__law_heading : FnScope ["_law_a", "_law_b"] ["_law_a", "_law_b"] (defScope s__law_heading) := ⟨rfl, rfl, rfl, by decide +kernel, rfl, by decide +kernel, by decide +kernel⟩
theorem sc__law_inside : FnScope ["_law_wide", "_law_high", "_law_some", "_law_w"] ["_law_wide", "_law_high", "_law_some"] (defScope s__law_inside) := ⟨rfl, rfl, rfl, by decide +kernel, rfl, by decide +kernel, by decide +kernel⟩
theorem sc__law_spoiled : FnScope ["_law_way", "_law_wide", "_law_high", "_law_kp", "_law_low", "_law_x", "_law_y", "_law_w"] ["_law_way", "_law_wide", "_law_high", "_law_kp", "_law_low"] (defScope s__law_spoiled) := ⟨rfl, rfl, rfl, by decide +kernel, rfl, by decide +kernel, by decide +kernel⟩
theorem sc__law_asked : FnScope ["_law_number_here", "_law_wide", "_law_high", "_law_kp", "_law_heading_here"] ["_law_number_here", "_law_wide", "_law_high", "_law_kp", "_law_heading_here"] (defScope s__law_asked) := ⟨rfl, rfl, rfl, by decide +kernel, rfl, by decide +kernel, by decide +kernel⟩
theorem sc__law_refused : FnScope ["_law_number_here", "_law_wide", "_law_high", "_law_kp", "_law_heading_here", "_law_word", "e"] ["_law_number_here", "_law_wide", "_law_high", "_law_kp", "_law_heading_here"] (defScope s__law_refused) := ⟨rfl, rfl, rfl, by decide +kernel, rfl, by decide +kernel, by decide +kernel⟩
theorem sc_law : FnScope ["_law_script", "_law_cells", "_law_k", "_law_wide", "_law_high", "_law_some", "_law_kp", "_law_heading_here", "_law_way", "_law_bad", "_law_tall", "_law_kq", "_law_number_here"] ["_law_script"] (defScope s_law) := ⟨rfl, rfl, rfl, by decide +kernel, rfl, by decide +kernel, by decide +kernel⟩
def cL1 (ds : List D) (k : D → Prop) : Prop := match ds with
  | [a0] => k a0
  | _ => False
theorem cL1_inv {k : D → Prop} {C : List D → Prop} (f : ∀ a0, k a0 → C [a0]) (ds : List D) (h : cL1 ds k) : C ds := by
  cases ds with
  | nil => exact h.elim
  | cons a0 t0 =>
    cases t0 with
    | cons _ _ => exact h.elim
    | nil => exact f a0 h
def cL2 (ds : List D) (k : D → D → Prop) : Prop := match ds with
  | [a0, a1] => k a0 a1
  | _ => False
theorem cL2_inv {k : D → D → Prop} {C : List D → Prop} (f : ∀ a0 a1, k a0 a1 → C [a0, a1]) (ds : List D) (h : cL2 ds k) : C ds := by
  cases ds with
  | nil => exact h.elim
  | cons a0 t0 =>
    cases t0 with
    | nil => exact h.elim
    | cons a1 t1 =>
      cases t1 with
      | cons _ _ => exact h.elim
      | nil => exact f a0 a1 h
def cL3 (ds : List D) (k : D → D → D → Prop) : Prop := match ds with
  | [a0, a1, a2] => k a0 a1 a2
  | _ => False
theorem cL3_inv {k : D → D → D → Prop} {C : List D → Prop} (f : ∀ a0 a1 a2, k a0 a1 a2 → C [a0, a1, a2]) (ds : List D) (h : cL3 ds k) : C ds := by
  cases ds with
  | nil => exact h.elim
  | cons a0 t0 =>
    cases t0 with
    | nil => exact h.elim
    | cons a1 t1 =>
      cases t1 with
      | nil => exact h.elim
      | cons a2 t2 =>
        cases t2 with
        | cons _ _ => exact h.elim
        | nil => exact f a0 a1 a2 h
def cL4 (ds : List D) (k : D → D → D → D → Prop) : Prop := match ds with
  | [a0, a1, a2, a3] => k a0 a1 a2 a3
  | _ => False
theorem cL4_inv {k : D → D → D → D → Prop} {C : List D → Prop} (f : ∀ a0 a1 a2 a3, k a0 a1 a2 a3 → C [a0, a1, a2, a3]) (ds : List D) (h : cL4 ds k) : C ds := by
  cases ds with
  | nil => exact h.elim
  | cons a0 t0 =>
    cases t0 with
    | nil => exact h.elim
    | cons a1 t1 =>
      cases t1 with
      | nil => exact h.elim
      | cons a2 t2 =>
        cases t2 with
        | nil => exact h.elim
        | cons a3 t3 =>
          cases t3 with
          | cons _ _ => exact h.elim
          | nil => exact f a0 a1 a2 a3 h
def cL5 (ds : List D) (k : D → D → D → D → D → Prop) : Prop := match ds with
  | [a0, a1, a2, a3, a4] => k a0 a1 a2 a3 a4
  | _ => False
theorem cL5_inv {k : D → D → D → D → D → Prop} {C : List D → Prop} (f : ∀ a0 a1 a2 a3 a4, k a0 a1 a2 a3 a4 → C [a0, a1, a2, a3, a4]) (ds : List D) (h : cL5 ds k) : C ds := by
  cases ds with
  | nil => exact h.elim
  | cons a0 t0 =>
    cases t0 with
    | nil => exact h.elim
    | cons a1 t1 =>
      cases t1 with
      | nil => exact h.elim
      | cons a2 t2 =>
        cases t2 with
        | nil => exact h.elim
        | cons a3 t3 =>
          cases t3 with
          | nil => exact h.elim
          | cons a4 t4 =>
            cases t4 with
            | cons _ _ => exact h.elim
            | nil => exact f a0 a1 a2 a3 a4 h
def cI (d : D) (k : Int → Prop) : Prop := match d with
  | .int i => k i
  | _ => False
theorem cI_inv {k : Int → Prop} {C : D → Prop} (f : ∀ i, k i → C (.int i)) (d : D) (h : cI d k) : C d := by
  cases d with
  | int i => exact f i h
  | _ => exact h.elim
def cR (d : D) (k : Addr → Prop) : Prop := match d with
  | .ref i => k i
  | _ => False
theorem cR_inv {k : Addr → Prop} {C : D → Prop} (f : ∀ i, k i → C (.ref i)) (d : D) (h : cR d k) : C d := by
  cases d with
  | ref i => exact f i h
  | _ => exact h.elim
def cT (d : D) (k : List D → Prop) : Prop := match d with
  | .tup i => k i
  | _ => False
theorem cT_inv {k : List D → Prop} {C : D → Prop} (f : ∀ i, k i → C (.tup i)) (d : D) (h : cT d k) : C d := by
  cases d with
  | tup i => exact f i h
  | _ => exact h.elim
def cT2 (d : D) (k : Int → Int → Prop) : Prop := cT d fun xs => cL2 xs fun a0 a1 => cI a0 fun x0 => cI a1 fun x1 => k x0 x1
theorem cT2_inv {k : Int → Int → Prop} {C : D → Prop} (f : ∀ x0 x1, k x0 x1 → C (.tup [.int x0, .int x1])) (d : D) (h : cT2 d k) : C d :=
  cT_inv (fun xs h => cL2_inv (C := fun ds => C (.tup ds)) (fun a0 a1 h => cI_inv (C := fun d => C (.tup [d, a1])) (fun x0 h => cI_inv (C := fun d => C (.tup [.int x0, d])) (fun x1 h => f x0 x1 h) a1 h) a0 h) xs h) d h
def cT3 (d : D) (k : Int → Int → Int → Prop) : Prop := cT d fun xs => cL3 xs fun a0 a1 a2 => cI a0 fun x0 => cI a1 fun x1 => cI a2 fun x2 => k x0 x1 x2
theorem cT3_inv {k : Int → Int → Int → Prop} {C : D → Prop} (f : ∀ x0 x1 x2, k x0 x1 x2 → C (.tup [.int x0, .int x1, .int x2])) (d : D) (h : cT3 d k) : C d :=
  cT_inv (fun xs h => cL3_inv (C := fun ds => C (.tup ds)) (fun a0 a1 a2 h => cI_inv (C := fun d => C (.tup [d, a1, a2])) (fun x0 h => cI_inv (C := fun d => C (.tup [.int x0, d, a2])) (fun x1 h => cI_inv (C := fun d => C (.tup [.int x0, .int x1, d])) (fun x2 h => f x0 x1 x2 h) a2 h) a1 h) a0 h) xs h) d h
def sh_ii (ds : List D) (R : Int → Int → Prop) : Prop := cL2 ds fun d0 d1 => cI d0 fun v0 => cI d1 fun v1 => R v0 v1
theorem sh_ii_eq {R : Int → Int → Prop} {v0 : Int} {v1 : Int} : sh_ii [.int v0, .int v1] R = R v0 v1 := rfl
theorem inv_ii {R : Int → Int → Prop} {C : List D → Prop} (k : ∀ v0 v1, R v0 v1 → C [.int v0, .int v1]) (ds : List D) (h : sh_ii ds R) : C ds :=
  cL2_inv (fun d0 d1 h => cI_inv (C := fun d => C [d, d1]) (fun v0 h => cI_inv (C := fun d => C [.int v0, d]) (fun v1 h => k v0 v1 h) d1 h) d0 h) ds h
def sh_i (ds : List D) (R : Int → Prop) : Prop := cL1 ds fun d0 => cI d0 fun v0 => R v0
theorem sh_i_eq {R : Int → Prop} {v0 : Int} : sh_i [.int v0] R = R v0 := rfl
theorem inv_i {R : Int → Prop} {C : List D → Prop} (k : ∀ v0, R v0 → C [.int v0]) (ds : List D) (h : sh_i ds R) : C ds :=
  cL1_inv (fun d0 h => cI_inv (C := fun d => C [d]) (fun v0 h => k v0 h) d0 h) ds h
def sh_iii (ds : List D) (R : Int → Int → Int → Prop) : Prop := cL3 ds fun d0 d1 d2 => cI d0 fun v0 => cI d1 fun v1 => cI d2 fun v2 => R v0 v1 v2
theorem sh_iii_eq {R : Int → Int → Int → Prop} {v0 : Int} {v1 : Int} {v2 : Int} : sh_iii [.int v0, .int v1, .int v2] R = R v0 v1 v2 := rfl
theorem inv_iii {R : Int → Int → Int → Prop} {C : List D → Prop} (k : ∀ v0 v1 v2, R v0 v1 v2 → C [.int v0, .int v1, .int v2]) (ds : List D) (h : sh_iii ds R) : C ds :=
  cL3_inv (fun d0 d1 d2 h => cI_inv (C := fun d => C [d, d1, d2]) (fun v0 h => cI_inv (C := fun d => C [.int v0, d, d2]) (fun v1 h => cI_inv (C := fun d => C [.int v0, .int v1, d]) (fun v2 h => k v0 v1 v2 h) d2 h) d1 h) d0 h) ds h
def sh_iir (ds : List D) (R : Int → Int → Addr → Prop) : Prop := cL3 ds fun d0 d1 d2 => cI d0 fun v0 => cI d1 fun v1 => cR d2 fun v2 => R v0 v1 v2
theorem sh_iir_eq {R : Int → Int → Addr → Prop} {v0 : Int} {v1 : Int} {v2 : Addr} : sh_iir [.int v0, .int v1, .ref v2] R = R v0 v1 v2 := rfl
theorem inv_iir {R : Int → Int → Addr → Prop} {C : List D → Prop} (k : ∀ v0 v1 v2, R v0 v1 v2 → C [.int v0, .int v1, .ref v2]) (ds : List D) (h : sh_iir ds R) : C ds :=
  cL3_inv (fun d0 d1 d2 h => cI_inv (C := fun d => C [d, d1, d2]) (fun v0 h => cI_inv (C := fun d => C [.int v0, d, d2]) (fun v1 h => cR_inv (C := fun d => C [.int v0, .int v1, d]) (fun v2 h => k v0 v1 v2 h) d2 h) d1 h) d0 h) ds h
def sh_iiQ (ds : List D) (R : Int → Int → Int → Int → Int → Prop) : Prop := cL3 ds fun d0 d1 d2 => cI d0 fun v0 => cI d1 fun v1 => cT3 d2 fun v2 v3 v4 => R v0 v1 v2 v3 v4
theorem sh_iiQ_eq {R : Int → Int → Int → Int → Int → Prop} {v0 : Int} {v1 : Int} {v2 : Int} {v3 : Int} {v4 : Int} : sh_iiQ [.int v0, .int v1, .tup [.int v2, .int v3, .int v4]] R = R v0 v1 v2 v3 v4 := rfl
theorem inv_iiQ {R : Int → Int → Int → Int → Int → Prop} {C : List D → Prop} (k : ∀ v0 v1 v2 v3 v4, R v0 v1 v2 v3 v4 → C [.int v0, .int v1, .tup [.int v2, .int v3, .int v4]]) (ds : List D) (h : sh_iiQ ds R) : C ds :=
  cL3_inv (fun d0 d1 d2 h => cI_inv (C := fun d => C [d, d1, d2]) (fun v0 h => cI_inv (C := fun d => C [.int v0, d, d2]) (fun v1 h => cT3_inv (C := fun d => C [.int v0, .int v1, d]) (fun v2 v3 v4 h => k v0 v1 v2 v3 v4 h) d2 h) d1 h) d0 h) ds h
def sh_iiQPP (ds : List D) (R : Int → Int → Int → Int → Int → Int → Int → Int → Int → Prop) : Prop := cL5 ds fun d0 d1 d2 d3 d4 => cI d0 fun v0 => cI d1 fun v1 => cT3 d2 fun v2 v3 v4 => cT2 d3 fun v5 v6 => cT2 d4 fun v7 v8 => R v0 v1 v2 v3 v4 v5 v6 v7 v8
theorem sh_iiQPP_eq {R : Int → Int → Int → Int → Int → Int → Int → Int → Int → Prop} {v0 : Int} {v1 : Int} {v2 : Int} {v3 : Int} {v4 : Int} {v5 : Int} {v6 : Int} {v7 : Int} {v8 : Int} : sh_iiQPP [.int v0, .int v1, .tup [.int v2, .int v3, .int v4], .tup [.int v5, .int v6], .tup [.int v7, .int v8]] R = R v0 v1 v2 v3 v4 v5 v6 v7 v8 := rfl
theorem inv_iiQPP {R : Int → Int → Int → Int → Int → Int → Int → Int → Int → Prop} {C : List D → Prop} (k : ∀ v0 v1 v2 v3 v4 v5 v6 v7 v8, R v0 v1 v2 v3 v4 v5 v6 v7 v8 → C [.int v0, .int v1, .tup [.int v2, .int v3, .int v4], .tup [.int v5, .int v6], .tup [.int v7, .int v8]]) (ds : List D) (h : sh_iiQPP ds R) : C ds :=
  cL5_inv (fun d0 d1 d2 d3 d4 h => cI_inv (C := fun d => C [d, d1, d2, d3, d4]) (fun v0 h => cI_inv (C := fun d => C [.int v0, d, d2, d3, d4]) (fun v1 h => cT3_inv (C := fun d => C [.int v0, .int v1, d, d3, d4]) (fun v2 v3 v4 h => cT2_inv (C := fun d => C [.int v0, .int v1, .tup [.int v2, .int v3, .int v4], d, d4]) (fun v5 v6 h => cT2_inv (C := fun d => C [.int v0, .int v1, .tup [.int v2, .int v3, .int v4], .tup [.int v5, .int v6], d]) (fun v7 v8 h => k v0 v1 v2 v3 v4 v5 v6 v7 v8 h) d4 h) d3 h) d2 h) d1 h) d0 h) ds h
def sh_QPP (ds : List D) (R : Int → Int → Int → Int → Int → Int → Int → Prop) : Prop := cL3 ds fun d0 d1 d2 => cT3 d0 fun v0 v1 v2 => cT2 d1 fun v3 v4 => cT2 d2 fun v5 v6 => R v0 v1 v2 v3 v4 v5 v6
theorem sh_QPP_eq {R : Int → Int → Int → Int → Int → Int → Int → Prop} {v0 : Int} {v1 : Int} {v2 : Int} {v3 : Int} {v4 : Int} {v5 : Int} {v6 : Int} : sh_QPP [.tup [.int v0, .int v1, .int v2], .tup [.int v3, .int v4], .tup [.int v5, .int v6]] R = R v0 v1 v2 v3 v4 v5 v6 := rfl
theorem inv_QPP {R : Int → Int → Int → Int → Int → Int → Int → Prop} {C : List D → Prop} (k : ∀ v0 v1 v2 v3 v4 v5 v6, R v0 v1 v2 v3 v4 v5 v6 → C [.tup [.int v0, .int v1, .int v2], .tup [.int v3, .int v4], .tup [.int v5, .int v6]]) (ds : List D) (h : sh_QPP ds R) : C ds :=
  cL3_inv (fun d0 d1 d2 h => cT3_inv (C := fun d => C [d, d1, d2]) (fun v0 v1 v2 h => cT2_inv (C := fun d => C [.tup [.int v0, .int v1, .int v2], d, d2]) (fun v3 v4 h => cT2_inv (C := fun d => C [.tup [.int v0, .int v1, .int v2], .tup [.int v3, .int v4], d]) (fun v5 v6 h => k v0 v1 v2 v3 v4 v5 v6 h) d2 h) d1 h) d0 h) ds h
def sh_iiQP (ds : List D) (R : Int → Int → Int → Int → Int → Int → Int → Prop) : Prop := cL4 ds fun d0 d1 d2 d3 => cI d0 fun v0 => cI d1 fun v1 => cT3 d2 fun v2 v3 v4 => cT2 d3 fun v5 v6 => R v0 v1 v2 v3 v4 v5 v6
theorem sh_iiQP_eq {R : Int → Int → Int → Int → Int → Int → Int → Prop} {v0 : Int} {v1 : Int} {v2 : Int} {v3 : Int} {v4 : Int} {v5 : Int} {v6 : Int} : sh_iiQP [.int v0, .int v1, .tup [.int v2, .int v3, .int v4], .tup [.int v5, .int v6]] R = R v0 v1 v2 v3 v4 v5 v6 := rfl
theorem inv_iiQP {R : Int → Int → Int → Int → Int → Int → Int → Prop} {C : List D → Prop} (k : ∀ v0 v1 v2 v3 v4 v5 v6, R v0 v1 v2 v3 v4 v5 v6 → C [.int v0, .int v1, .tup [.int v2, .int v3, .int v4], .tup [.int v5, .int v6]]) (ds : List D) (h : sh_iiQP ds R) : C ds :=
  cL4_inv (fun d0 d1 d2 d3 h => cI_inv (C := fun d => C [d, d1, d2, d3]) (fun v0 h => cI_inv (C := fun d => C [.int v0, d, d2, d3]) (fun v1 h => cT3_inv (C := fun d => C [.int v0, .int v1, d, d3]) (fun v2 v3 v4 h => cT2_inv (C := fun d => C [.int v0, .int v1, .tup [.int v2, .int v3, .int v4], d]) (fun v5 v6 h => k v0 v1 v2 v3 v4 v5 v6 h) d3 h) d2 h) d1 h) d0 h) ds h
def sh_iiiQP (ds : List D) (R : Int → Int → Int → Int → Int → Int → Int → Int → Prop) : Prop := cL5 ds fun d0 d1 d2 d3 d4 => cI d0 fun v0 => cI d1 fun v1 => cI d2 fun v2 => cT3 d3 fun v3 v4 v5 => cT2 d4 fun v6 v7 => R v0 v1 v2 v3 v4 v5 v6 v7
theorem sh_iiiQP_eq {R : Int → Int → Int → Int → Int → Int → Int → Int → Prop} {v0 : Int} {v1 : Int} {v2 : Int} {v3 : Int} {v4 : Int} {v5 : Int} {v6 : Int} {v7 : Int} : sh_iiiQP [.int v0, .int v1, .int v2, .tup [.int v3, .int v4, .int v5], .tup [.int v6, .int v7]] R = R v0 v1 v2 v3 v4 v5 v6 v7 := rfl
theorem inv_iiiQP {R : Int → Int → Int → Int → Int → Int → Int → Int → Prop} {C : List D → Prop} (k : ∀ v0 v1 v2 v3 v4 v5 v6 v7, R v0 v1 v2 v3 v4 v5 v6 v7 → C [.int v0, .int v1, .int v2, .tup [.int v3, .int v4, .int v5], .tup [.int v6, .int v7]]) (ds : List D) (h : sh_iiiQP ds R) : C ds :=
  cL5_inv (fun d0 d1 d2 d3 d4 h => cI_inv (C := fun d => C [d, d1, d2, d3, d4]) (fun v0 h => cI_inv (C := fun d => C [.int v0, d, d2, d3, d4]) (fun v1 h => cI_inv (C := fun d => C [.int v0, .int v1, d, d3, d4]) (fun v2 h => cT3_inv (C := fun d => C [.int v0, .int v1, .int v2, d, d4]) (fun v3 v4 v5 h => cT2_inv (C := fun d => C [.int v0, .int v1, .int v2, .tup [.int v3, .int v4, .int v5], d]) (fun v6 v7 h => k v0 v1 v2 v3 v4 v5 v6 v7 h) d4 h) d3 h) d2 h) d1 h) d0 h) ds h
def sh_iiiQi (ds : List D) (R : Int → Int → Int → Int → Int → Int → Int → Prop) : Prop := cL5 ds fun d0 d1 d2 d3 d4 => cI d0 fun v0 => cI d1 fun v1 => cI d2 fun v2 => cT3 d3 fun v3 v4 v5 => cI d4 fun v6 => R v0 v1 v2 v3 v4 v5 v6
theorem sh_iiiQi_eq {R : Int → Int → Int → Int → Int → Int → Int → Prop} {v0 : Int} {v1 : Int} {v2 : Int} {v3 : Int} {v4 : Int} {v5 : Int} {v6 : Int} : sh_iiiQi [.int v0, .int v1, .int v2, .tup [.int v3, .int v4, .int v5], .int v6] R = R v0 v1 v2 v3 v4 v5 v6 := rfl
theorem inv_iiiQi {R : Int → Int → Int → Int → Int → Int → Int → Prop} {C : List D → Prop} (k : ∀ v0 v1 v2 v3 v4 v5 v6, R v0 v1 v2 v3 v4 v5 v6 → C [.int v0, .int v1, .int v2, .tup [.int v3, .int v4, .int v5], .int v6]) (ds : List D) (h : sh_iiiQi ds R) : C ds :=
  cL5_inv (fun d0 d1 d2 d3 d4 h => cI_inv (C := fun d => C [d, d1, d2, d3, d4]) (fun v0 h => cI_inv (C := fun d => C [.int v0, d, d2, d3, d4]) (fun v1 h => cI_inv (C := fun d => C [.int v0, .int v1, d, d3, d4]) (fun v2 h => cT3_inv (C := fun d => C [.int v0, .int v1, .int v2, d, d4]) (fun v3 v4 v5 h => cI_inv (C := fun d => C [.int v0, .int v1, .int v2, .tup [.int v3, .int v4, .int v5], d]) (fun v6 h => k v0 v1 v2 v3 v4 v5 v6 h) d4 h) d3 h) d2 h) d1 h) d0 h) ds h

theorem gkept {G : GHp} {p p1 : Addr} {o o1 : OD} (h : gupd G p o p1 = none) : gupd (gupd G p o) p1 o1 p = some o := by
  rw [gupd_ne (fun e => by rw [← e, gupd_same] at h; cases h), gupd_same]
theorem fits_of {n : Nat} (h : n ≤ 1000) : Fits n := ⟨Nat.le_trans h (by decide)⟩
theorem sz_line {n : Nat} (h : n ≤ 1000) : Fits n ↔ True := ⟨fun _ => trivial, fun _ => ⟨Nat.le_trans h (by decide)⟩⟩
theorem at0 {x : D} {xs : List D} : atI (x :: xs) 0 = some x := atI_nat (j := 0) rfl
theorem at1 {x y : D} {xs : List D} : atI (x :: y :: xs) 1 = some y := atI_nat (j := 1) rfl
theorem at2 {x y z : D} {xs : List D} : atI (x :: y :: z :: xs) 2 = some z := atI_nat (j := 2) rfl
theorem at3 {x y z u : D} {xs : List D} : atI (x :: y :: z :: u :: xs) 3 = some u := atI_nat (j := 3) rfl
theorem at4 {x y z u v : D} {xs : List D} : atI (x :: y :: z :: u :: v :: xs) 4 = some v := atI_nat (j := 4) rfl
theorem at5 {x0 x1 x2 x3 x4 v : D} {xs : List D} : atI (x0 :: x1 :: x2 :: x3 :: x4 :: v :: xs) 5 = some v := atI_nat (j := 5) rfl
theorem whileW {c : TTD} {tb : TSD} {E : EndsD} {σd : StD} {G : GHp} (W : Nat → StD → GHp → Prop) (m : Nat) (h0 : W m σd G)
    (hs : ∀ m σd G, W m σd G → c σd G fun b G1 => if b = true then ∃ N : StD → GHp → Prop, (∀ σ' G', N σ' G' → ∃ m', m' < m ∧ W m' σ' G') ∧ tb { E with nx := N, ct := N, bk := E.nx } σd G1 else E.nx σd G1) : dWhile c tb E σd G := ⟨W, ⟨m, h0⟩, hs⟩
theorem gcd_turn {l r : Int} (h : 0 < r) (h0 : 0 ≤ l) : Int.gcd r (l % r) = Int.gcd l r := by
  obtain ⟨a, rfl⟩ := Int.eq_ofNat_of_zero_le h0
  obtain ⟨b, rfl⟩ := Int.eq_ofNat_of_zero_le (Int.le_of_lt h)
  show Int.gcd ((b : Nat) : Int) (((a : Nat) : Int) % ((b : Nat) : Int)) = _
  rw [← Int.natCast_emod]
  simp only [Int.gcd_natCast_natCast]
  rw [Nat.gcd_comm a b, Nat.gcd_comm b (a % b), ← Nat.gcd_rec]
theorem gcd_done (l : Int) (h : 0 ≤ l) : ((Int.gcd l 0 : Nat) : Int) = l := by
  simp; omega
theorem gcd_abs (a b : Int) : Int.gcd (absI a) (absI b) = Int.gcd a b := by
  unfold absI
  split <;> split <;> simp
theorem absI_nn (a : Int) : 0 ≤ absI a := by unfold absI; split <;> omega
theorem gcd_coprime {a b : Int} (h : ¬ (a = 0 ∧ b = 0)) : Int.gcd (a / (Int.gcd a b : Nat)) (b / (Int.gcd a b : Nat)) = 1 := by
  apply Int.gcd_ediv_gcd_ediv_gcd
  have := mt Int.gcd_eq_zero_iff.mp h
  omega
theorem gcd_pos {a b : Int} (h : ¬ (a = 0 ∧ b = 0)) : 0 < ((Int.gcd a b : Nat) : Int) := by
  have := mt Int.gcd_eq_zero_iff.mp h
  omega
theorem gcd_minmax (a b : Int) : Int.gcd (max a b) (min a b) = Int.gcd a b := by
  by_cases h : a ≤ b
  · rw [Int.max_eq_right h, Int.min_eq_left h, Int.gcd_comm]
  · rw [Int.max_eq_left (by omega), Int.min_eq_right (by omega)]
theorem gcd_le {a b : Int} {N : Nat} (ha : a.natAbs < N) (hb : b.natAbs < N) : ((Int.gcd a b : Nat) : Int).natAbs < N := by
  by_cases h : a = 0
  · subst h; simp; omega
  · have : Int.gcd a b ≤ a.natAbs := Nat.le_of_dvd (by omega) (by rw [← Int.natAbs_natCast (Int.gcd a b)]; exact Int.natAbs_dvd_natAbs.mpr (Int.gcd_dvd_left a b))
    simp; omega
/-- the size of a number, in bits -/
structure Sz (m : Nat) (x : Int) : Prop where
  lt : x.natAbs < 2 ^ m
theorem mulOk {a b : Int} {m n : Nat} (ha : Sz m a) (hb : Sz n b) (h : m + n ≤ 134217728) : MulOk a b := ⟨IntMulOk.of_le (intBits_le_iff.mpr ha.lt) (intBits_le_iff.mpr hb.lt) h⟩
theorem Sz.mul {a b : Int} {m n : Nat} (ha : Sz m a) (hb : Sz n b) : Sz (m + n) (a * b) := ⟨intBits_le_iff.mp (intBits_mul_le (intBits_le_iff.mpr ha.lt) (intBits_le_iff.mpr hb.lt))⟩
theorem Sz.mono {a : Int} {m n : Nat} (ha : Sz m a) (h : m ≤ n) : Sz n a := ⟨Nat.lt_of_lt_of_le ha.lt (Nat.pow_le_pow_right (by decide) h)⟩
theorem Sz.div {a : Int} {m : Nat} (ha : Sz m a) {c : Int} (hc : 0 ≤ c) : Sz m (a / c) := by
  have := intBits_le_iff.mp (intBits_fdiv_le (y := c) (intBits_le_iff.mpr ha.lt))
  rw [Int.fdiv_eq_ediv_of_nonneg a hc] at this
  exact ⟨this⟩
theorem Sz.of {z : Int} {m : Nat} (N : Nat) (h : N < 2 ^ m) (h1 : -(N : Int) ≤ z) (h2 : z ≤ N) : Sz m z := ⟨by omega⟩
theorem Sz.mod {a c : Int} {m : Nat} (hc : 0 < c) (h : Sz m c) : Sz m (a % c) := by
  have h1 := Int.emod_nonneg a (by omega : c ≠ 0)
  have h2 := Int.emod_lt_of_pos a hc
  have h3 : c.natAbs < 2 ^ m := h.lt
  exact ⟨by omega⟩
theorem Sz.sub {a b : Int} {m : Nat} (ha : Sz m a) (hb : Sz m b) : Sz (m + 1) (a - b) := by
  have := intBits_le_iff.mp (intBits_sub_le (intBits_le_iff.mpr ha.lt) (intBits_le_iff.mpr hb.lt))
  rw [Nat.max_self] at this
  exact ⟨this⟩
theorem Sz.add {a b : Int} {m : Nat} (ha : Sz m a) (hb : Sz m b) : Sz (m + 1) (a + b) := by
  have := intBits_le_iff.mp (intBits_add_le (intBits_le_iff.mpr ha.lt) (intBits_le_iff.mpr hb.lt))
  rw [Nat.max_self] at this
  exact ⟨this⟩
theorem Sz.neg {a : Int} {m : Nat} (ha : Sz m a) : Sz m (-a) := ⟨by rw [Int.natAbs_neg]; exact ha.lt⟩
theorem Sz.abs {a : Int} {m : Nat} (ha : Sz m a) : Sz m (absI a) := by
  unfold absI
  split
  · exact ha.neg
  · exact ha
theorem Sz.gcd {a b : Int} {m : Nat} (ha : Sz m a) (hb : Sz m b) : Sz m (Int.gcd a b : Nat) := ⟨gcd_le ha.lt hb.lt⟩
/-- what is asked of written numbers -/
theorem divP_lit {i j : Int} (h0 : 0 < j) (h1 : j < 1000000) : CDivP i j ↔ True := ⟨fun _ => trivial, fun _ => ⟨h0, Nat.lt_of_lt_of_le (by omega : j.natAbs < 2 ^ 20) (Nat.pow_le_pow_right (by decide) (by decide))⟩⟩
theorem divP_of {i j : Int} {m : Nat} (h0 : 0 < j) (h : Sz m j) (hm : m ≤ 9000) : CDivP i j := ⟨h0, (h.mono hm).lt⟩
theorem pow_lit {i j : Int} (h0 : 0 ≤ j) (h1 : j ≤ 1000) (h2 : 0 ≤ i) (h3 : i < 1000000) : PowOk i j ↔ True := ⟨fun _ => trivial, fun _ => ⟨h0, by omega, by
  have : i.natAbs < 1000000 := by omega
  exact Nat.lt_of_lt_of_le this (by decide)⟩⟩
theorem mul_lit {i j : Int} (h0 : -1000000 < j) (h1 : j < 1000000) : MulOk i j ↔ True := ⟨fun _ => trivial, fun _ => ⟨IntMulOk.of_right (intBits_le_64 (by omega) (by omega))⟩⟩
theorem mul_litL {i j : Int} (h0 : -1000000 < i) (h1 : i < 1000000) : MulOk i j ↔ True := ⟨fun _ => trivial, fun _ => ⟨IntMulOk.of_left (intBits_le_64 (by omega) (by omega))⟩⟩
theorem Sz.lit {m : Nat} {x : Int} (h : decide (x.natAbs < 2 ^ m) = true) : Sz m x := ⟨of_decide_eq_true h⟩
/-- cells: a list of ints, read at a place -/
theorem at_ints {cs : List Int} {i : Int} (h0 : 0 ≤ i) (h1 : i < cs.length) : atI (cs.map D.int) i = some (D.int (cs.getD i.toNat 0)) := by
  have hn : i.toNat < cs.length := by omega
  have e : (cs.map D.int)[i.toNat]? = some (D.int (cs.getD i.toNat 0)) := by
    rw [List.getElem?_map, List.getElem?_eq_getElem hn]
    simp [List.getD, hn]
  have e2 : ((i.toNat : Nat) : Int) = i := by omega
  have := atI_nat e
  rw [e2] at this
  exact this
theorem rng_at {lo c : Int} {n i : Nat} {d : D} (h : (rngD lo c n)[i]? = some d) : d = .int (lo + i * c) ∧ i < n := by
  have hlt : i < n := by
    have := (List.getElem?_eq_some_iff.mp h).1
    simpa [rngD] using this
  refine ⟨?_, hlt⟩
  unfold rngD at h
  rw [List.getElem?_map, List.getElem?_range hlt] at h
  exact (Option.some.inj h).symm
theorem rng_lt {i : Nat} {j c : Int} (hc : 0 < c) (h : i < rngN 0 j c) : (i : Int) * c < j := by
  unfold rngN at h
  by_cases h0 : 0 < j
  · rw [if_pos h0] at h
    have h1 : (i : Int) ≤ (j - 0 - 1) / c := by
      have : 0 ≤ (j - 0 - 1) / c := Int.ediv_nonneg (by omega) (by omega)
      omega
    have h2 := Int.mul_le_of_le_ediv hc h1
    omega
  · rw [if_neg h0] at h
    omega
theorem at_mem {cs : List Int} {i : Nat} {Pr : Int → Prop} (h : ∀ c ∈ cs, Pr c) (hi : i < cs.length) : Pr (cs.getD i 0) := by
  have : cs.getD i 0 = cs[i] := by simp [List.getD, hi]
  rw [this]
  exact h _ (List.getElem_mem hi)
theorem cutD_ints (ns : List Int) (lo hi : Option Int) : ∃ cs : List Int, cutD (ns.map D.int) lo hi = cs.map D.int ∧ cs.length ≤ ns.length ∧ ∀ c ∈ cs, c ∈ ns := by
  refine ⟨(ns.drop (HT.sIx (ns.map D.int).length 0 lo)).take (HT.sIx (ns.map D.int).length (ns.map D.int).length hi - HT.sIx (ns.map D.int).length 0 lo), ?_, ?_, fun c hc => List.mem_of_mem_drop (List.mem_of_mem_take hc)⟩
  · unfold cutD
    rw [List.map_take, List.map_drop]
  · rw [List.length_take, List.length_drop]; omega

def sp_divisor : SpD := fun ds G Q => sh_ii ds fun a b => ∀ G', GS G G' → Q (.int (Int.gcd a b : Nat)) G'

def sp_is_int : SpD := fun ds G Q => sh_i ds fun _ => Q (.bl true) G

def sp_number (m : Nat) : SpD := fun ds G Q => sh_i ds fun c => Sz 1048576 c ∧ ∀ z, Sz m z → Q (.int z) G


def sp_sign : SpD := fun ds G Q => sh_ii ds fun l s => Q (.int (if l < 0 then -s else s)) G

theorem le_of_dvd_sz {a b : Int} {m : Nat} (hb : b ≠ 0) (h : a ∣ b) (hs : Sz m b) : Sz m a :=
  ⟨Nat.lt_of_le_of_lt (Nat.le_of_dvd (by omega) (Int.natAbs_dvd_natAbs.mpr h)) hs.lt⟩
theorem fdiv_of_dvd {g x : Int} (hg : g ≠ 0) : (g * x).fdiv g = x := by
  rw [Int.mul_comm]
  exact Int.mul_fdiv_cancel x hg
/-- a', b', c' are a, b, c in lowest terms, the last one above 0 -/
structure Red3 (a b c a' b' c' : Int) : Prop where
  pos : 0 < c'
  one : Int.gcd (Int.gcd a' b' : Nat) c' = 1
  s1 : a' * c = a * c'
  s2 : b' * c = b * c'
theorem gcd3_dvd {a b c d : Int} (h : Int.gcd (Int.gcd a b : Nat) c = 1) (h1 : c ∣ a * d) (h2 : c ∣ b * d) : c ∣ d := by
  have n1 : c.natAbs ∣ a.natAbs * d.natAbs := by rw [← Int.natAbs_mul]; exact Int.natAbs_dvd_natAbs.mpr h1
  have n2 : c.natAbs ∣ b.natAbs * d.natAbs := by rw [← Int.natAbs_mul]; exact Int.natAbs_dvd_natAbs.mpr h2
  have n3 : c.natAbs ∣ c.natAbs * d.natAbs := ⟨d.natAbs, rfl⟩
  have n4 : c.natAbs ∣ Nat.gcd (Nat.gcd a.natAbs b.natAbs) c.natAbs * d.natAbs := by
    rw [← Nat.gcd_mul_right, ← Nat.gcd_mul_right]
    exact Nat.dvd_gcd (Nat.dvd_gcd n1 n2) n3
  have e : Nat.gcd (Nat.gcd a.natAbs b.natAbs) c.natAbs = 1 := h
  rw [e, Nat.one_mul] at n4
  exact Int.natAbs_dvd_natAbs.mp n4
theorem Red3.dvd {a b c a' b' c' : Int} (h : Red3 a b c a' b' c') : c' ∣ c := gcd3_dvd h.one ⟨a, by rw [h.s1, Int.mul_comm]⟩ ⟨b, by rw [h.s2, Int.mul_comm]⟩
/-- lowest terms are told once -/
theorem Red3.uniq {a b c x y z a' b' c' x' y' z' : Int} (h : Red3 a b c a' b' c') (k : Red3 x y z x' y' z') (hc : c ≠ 0) (hz : z ≠ 0) (e1 : a * z = x * c) (e2 : b * z = y * c) : a' = x' ∧ b' = y' ∧ c' = z' := by
  have f1 : a' * z' = x' * c' := by
    have : (a' * z') * (c * z) = (x' * c') * (c * z) := by
      have h1 := h.s1
      have k1 := k.s1
      calc (a' * z') * (c * z) = (a' * c) * (z' * z) := by grind
        _ = (a * z) * (c' * z') := by rw [h1]; grind
        _ = (x' * z) * c' * c := by rw [e1, k1]; grind
        _ = (x' * c') * (c * z) := by grind
    exact Int.eq_of_mul_eq_mul_right (Int.mul_ne_zero hc hz) this
  have f2 : b' * z' = y' * c' := by
    have : (b' * z') * (c * z) = (y' * c') * (c * z) := by
      have h1 := h.s2
      have k1 := k.s2
      calc (b' * z') * (c * z) = (b' * c) * (z' * z) := by grind
        _ = (b * z) * (c' * z') := by rw [h1]; grind
        _ = (y' * z) * c' * c := by rw [e2, k1]; grind
        _ = (y' * c') * (c * z) := by grind
    exact Int.eq_of_mul_eq_mul_right (Int.mul_ne_zero hc hz) this
  have d1 : c' ∣ z' := gcd3_dvd h.one ⟨x', by rw [f1, Int.mul_comm]⟩ ⟨y', by rw [f2, Int.mul_comm]⟩
  have d2 : z' ∣ c' := gcd3_dvd k.one ⟨a', by rw [← f1, Int.mul_comm]⟩ ⟨b', by rw [← f2, Int.mul_comm]⟩
  have e3 : c' = z' := Int.dvd_antisymm (Int.le_of_lt h.pos) (Int.le_of_lt k.pos) d1 d2
  have hz0 : z' ≠ 0 := by have := k.pos; omega
  rw [e3] at f1 f2
  exact ⟨Int.eq_of_mul_eq_mul_right hz0 f1, Int.eq_of_mul_eq_mul_right hz0 f2, e3⟩
theorem Red3.szc {a b c a' b' c' : Int} {m : Nat} (h : Red3 a b c a' b' c') (hc : c ≠ 0) (hs : Sz m c) : Sz m c' := le_of_dvd_sz hc h.dvd hs
theorem quot_sz {a c a' c' : Int} {m : Nat} (hd : c' ∣ c) (hc : c ≠ 0) (h0 : 0 < c') (e : a' * c = a * c') (hs : Sz m a) : Sz m a' := by
  obtain ⟨q, hq⟩ := hd
  have hq0 : q ≠ 0 := fun z => hc (by rw [hq, z, Int.mul_zero])
  have e2 : a = a' * q := by
    have : a * c' = (a' * q) * c' := by rw [← e, hq]; grind
    exact Int.eq_of_mul_eq_mul_right (by omega) this
  by_cases ha : a = 0
  · have : a' = 0 := by
      have z : a' * q = 0 := by rw [← e2]; exact ha
      rcases Int.mul_eq_zero.mp z with z | z
      · exact z
      · exact absurd z hq0
    rw [this]
    exact ⟨Nat.two_pow_pos m⟩
  · exact le_of_dvd_sz ha ⟨q, e2⟩ hs
theorem Red3.sza {a b c a' b' c' : Int} {m : Nat} (h : Red3 a b c a' b' c') (hc : c ≠ 0) (hs : Sz m a) : Sz m a' := quot_sz h.dvd hc h.pos h.s1 hs
theorem Red3.szb {a b c a' b' c' : Int} {m : Nat} (h : Red3 a b c a' b' c') (hc : c ≠ 0) (hs : Sz m b) : Sz m b' := quot_sz h.dvd hc h.pos h.s2 hs
/-- by a share g of all three, and the last one's sign -/
theorem red3_by {a b c : Int} {g : Nat} (hg : g = Int.gcd (Int.gcd a b : Nat) c) (hc : c ≠ 0) {s : Int} (hs : s = if c < 0 then -(g : Int) else (g : Int)) : Red3 a b c (a.fdiv s) (b.fdiv s) (c.fdiv s) := by
  have g0 : 0 < g := by
    rw [hg]
    exact Nat.pos_of_ne_zero fun z => hc (Int.gcd_eq_zero_iff.mp z).2
  have dg : (g : Int) ∣ (Int.gcd a b : Nat) := by rw [hg]; exact Int.gcd_dvd_left _ _
  have da : (g : Int) ∣ a := Int.dvd_trans dg (Int.gcd_dvd_left a b)
  have db : (g : Int) ∣ b := Int.dvd_trans dg (Int.gcd_dvd_right a b)
  have dc : (g : Int) ∣ c := by rw [hg]; exact Int.gcd_dvd_right _ _
  obtain ⟨x, hx⟩ := da
  obtain ⟨y, hy⟩ := db
  obtain ⟨z, hz⟩ := dc
  have one : Nat.gcd (Nat.gcd x.natAbs y.natAbs) z.natAbs = 1 := by
    have e : g = Nat.gcd (Nat.gcd (g * x.natAbs) (g * y.natAbs)) (g * z.natAbs) := by
      have ea : a.natAbs = g * x.natAbs := by rw [hx, Int.natAbs_mul]; simp
      have eb : b.natAbs = g * y.natAbs := by rw [hy, Int.natAbs_mul]; simp
      have ec : c.natAbs = g * z.natAbs := by rw [hz, Int.natAbs_mul]; simp
      rw [← ea, ← eb, ← ec]
      exact hg
    rw [Nat.gcd_mul_left, Nat.gcd_mul_left] at e
    have e' : g * 1 = g * Nat.gcd (Nat.gcd x.natAbs y.natAbs) z.natAbs := by rw [Nat.mul_one]; exact e
    exact (Nat.eq_of_mul_eq_mul_left g0 e').symm
  have gi : (0 : Int) < g := by omega
  by_cases hneg : c < 0
  · rw [if_pos hneg] at hs
    have f : ∀ u v : Int, u = g * v → u.fdiv s = -v := fun u v e => by
      rw [hs, e, show (g : Int) * v = (-(g : Int)) * (-v) by grind]
      exact fdiv_of_dvd (by omega)
    rw [f a x hx, f b y hy, f c z hz]
    refine ⟨?_, ?_, by rw [hx, hz]; grind, by rw [hy, hz]; grind⟩
    · have h0 : 0 < (g : Int) * (-z) := by
        have : (g : Int) * (-z) = -c := by rw [hz]; grind
        omega
      exact Int.pos_of_mul_pos_right h0 (by omega)
    · show Nat.gcd (Nat.gcd (-x).natAbs (-y).natAbs) (-z).natAbs = 1
      rw [Int.natAbs_neg, Int.natAbs_neg, Int.natAbs_neg]
      exact one
  · rw [if_neg hneg] at hs
    have f : ∀ u v : Int, u = g * v → u.fdiv s = v := fun u v e => by
      rw [hs, e]
      exact fdiv_of_dvd (by omega)
    rw [f a x hx, f b y hy, f c z hz]
    refine ⟨?_, one, by rw [hx, hz]; grind, by rw [hy, hz]; grind⟩
    have h0 : 0 < (g : Int) * z := by rw [← hz]; omega
    exact Int.pos_of_mul_pos_right h0 (by omega)
/-- the point of three, where the last is not 0 -/
def sp_point : SpD := fun ds G Q => sh_iii ds fun a b c => (c ≠ 0 ∧ Sz 8000 a ∧ Sz 8000 b ∧ Sz 8000 c) ∧ ∀ a' b' c' G', Red3 a b c a' b' c' → GS G G' → Q (.tup [.int a', .int b', .int c']) G'





/-- one statement at a time -/
theorem seq_cut {t u : TSD} {E : EndsD} {σ : StD} {G : GHp} (h : ∀ N : StD → GHp → Prop, (∀ σ' G', u E σ' G' → N σ' G') → t { E with nx := N } σ G) : dSeq t u E σ G := h _ fun _ _ z => z
def sp_side (m : Nat) : SpD := fun ds G Q => sh_i ds fun c => Sz 1048576 c ∧ ∀ z, 0 < z → Sz m z → Q (.int z) G

def sp_red : SpD := fun ds G Q => sh_ii ds fun t b => (¬ (t = 0 ∧ b = 0) ∧ Sz 8000 t ∧ Sz 8000 b) ∧ ∀ t' b' G', t' * (Int.gcd b t : Nat) = t → b' * (Int.gcd b t : Nat) = b → Int.gcd t' b' = 1 → GS G G' → Q (.tup [.int t', .int b']) G'

def sp_point3 : SpD := fun ds G Q => sh_iii ds fun x y w => (0 < w ∧ Sz 8000 x ∧ Sz 8000 y ∧ Sz 8000 w) ∧ ∀ x' y' w' G', Red3 x y w x' y' w' → GS G G' → Q (.tup [.int x', .int y', .int w']) G'

/-- a heading: lowest terms -/
structure Hd (m : Nat) (a b : Int) : Prop where
  one : Int.gcd a b = 1
  sa : Sz m a
  sb : Sz m b
def sp_hd (m : Nat) : SpD := fun ds G Q => sh_ii ds fun a b => (Sz m a ∧ Sz m b) ∧ ∀ x y G', Hd m x y → GS G G' → Q (.tup [.int x, .int y]) G'

/-- a point strictly inside a box -/
structure InBox (m : Nat) (wide high x y w : Int) : Prop where
  pos : 0 < w
  one : Int.gcd (Int.gcd x y : Nat) w = 1
  x0 : 0 < x
  x1 : x < wide * w
  y0 : 0 < y
  y1 : y < high * w
  sx : Sz m x
  sy : Sz m y
  sw : Sz m w
theorem Red3.inBox {m : Nat} {wide high X Y W x y w : Int} (h : Red3 X Y W x y w) (hW : 0 < W) (x0 : 0 < X) (x1 : X < wide * W) (y0 : 0 < Y) (y1 : Y < high * W) (sx : Sz m X) (sy : Sz m Y) (sw : Sz m W) : InBox m wide high x y w := by
  have hw := h.pos
  have ne : W ≠ 0 := by omega
  have p : ∀ {u U : Int}, u * W = U * w → 0 < U → 0 < u := fun {u U} e hU => by
    have : 0 < u * W := by rw [e]; exact Int.mul_pos hU hw
    exact Int.pos_of_mul_pos_left this (by omega)
  have l : ∀ {u U s : Int}, u * W = U * w → U < s * W → u < s * w := fun {u U s} e hU => by
    have h1 : U * w < s * W * w := Int.mul_lt_mul_of_pos_right hU hw
    have h2 : u * W < (s * w) * W := by rw [e]; rw [show s * w * W = s * W * w by grind]; exact h1
    exact Int.lt_of_mul_lt_mul_right h2 (by omega)
  exact ⟨hw, h.one, p h.s1 x0, l h.s1 x1, p h.s2 y0, l h.s2 y1, h.sza ne sx, h.szb ne sy, h.szc ne sw⟩
theorem for_cut {wi : TID} {g : TGD} {tb : TSD} {E : EndsD} {σ : StD} {G : GHp} (h : ∀ tb', tb' = tb → dFor wi g tb' E σ G) : dFor wi g tb E σ G := h _ rfl
/-- seven drawn numbers -/
def Seven (G : GHp) (p : Addr) (m : Nat) (f : Nat → Int) : Prop := G p = some (.lst [.int (f 0), .int (f 1), .int (f 2), .int (f 3), .int (f 4), .int (f 5), .int (f 6)]) ∧ ∀ i, Sz m (f i)
theorem seven_of {out : List D} {m : Nat} (h : out.length = 7) (ok : ∀ y ∈ out, ∃ z, y = D.int z ∧ Sz m z) : ∃ f : Nat → Int, out = [.int (f 0), .int (f 1), .int (f 2), .int (f 3), .int (f 4), .int (f 5), .int (f 6)] ∧ ∀ i, Sz m (f i) := by
  match out, h, ok with
  | [y0, y1, y2, y3, y4, y5, y6], _, ok =>
    obtain ⟨z0, rfl, s0⟩ := ok y0 (by simp)
    obtain ⟨z1, rfl, s1⟩ := ok y1 (by simp)
    obtain ⟨z2, rfl, s2⟩ := ok y2 (by simp)
    obtain ⟨z3, rfl, s3⟩ := ok y3 (by simp)
    obtain ⟨z4, rfl, s4⟩ := ok y4 (by simp)
    obtain ⟨z5, rfl, s5⟩ := ok y5 (by simp)
    obtain ⟨z6, rfl, s6⟩ := ok y6 (by simp)
    refine ⟨fun i => [z0, z1, z2, z3, z4, z5].getD i z6, rfl, fun i => ?_⟩
    match i with
    | 0 => exact s0
    | 1 => exact s1
    | 2 => exact s2
    | 3 => exact s3
    | 4 => exact s4
    | 5 => exact s5
    | i + 6 => exact s6
theorem Seven.mono {G G' : GHp} {p : Addr} {m : Nat} {f : Nat → Int} (h : Seven G p m f) (s : GS G G') : Seven G' p m f := ⟨s _ _ h.1, h.2⟩



/-- how one number stands: at p / w, going b, of one that began to go a and would be at X / W straight on -/
structure Swung (side X W a p w b : Int) : Prop where
  p0 : 0 ≤ p
  p1 : p ≤ side * w
  z : a = 0 → b = 0 ∧ p * W = X * w
  lo : a ≠ 0 → p = 0 → 0 < b
  hi : a ≠ 0 → p = side * w → b < 0
  or : a ≠ 0 → (b = a ∧ (2 * side * W * w) ∣ (X * w - p * W)) ∨ (b = -a ∧ (2 * side * W * w) ∣ (X * w + p * W))
def sp_inside3 : SpD := fun ds G Q => sh_iir ds fun wide high p => ∃ u v z rest, G p = some (.lst (.int u :: .int v :: .int z :: rest)) ∧ (0 < wide ∧ 0 < high ∧ Sz 200 wide ∧ Sz 200 high ∧ Sz 200 z) ∧ ∀ x y w G', InBox 410 wide high x y w → GS G G' → Q (.tup [.int x, .int y, .int w]) G'

theorem ites {c : Prop} [Decidable c] {A B : Prop} (h1 : c → A) (h2 : ¬ c → B) : if c then A else B := by
  by_cases h : c
  · rw [if_pos h]; exact h1 h
  · rw [if_neg h]; exact h2 h
theorem Swung.same {side X W a p w b X' W' : Int} (h : Swung side X W a p w b) (W0 : 0 < W) (e : X' * W = X * W') : Swung side X' W' a p w b := by
  have ne : W ≠ 0 := by omega
  refine ⟨h.p0, h.p1, fun z => ⟨(h.z z).1, ?_⟩, h.lo, h.hi, fun z => ?_⟩
  · refine Int.eq_of_mul_eq_mul_right ne ?_
    calc p * W' * W = (p * W) * W' := by grind
      _ = X' * w * W := by rw [(h.z z).2, show X * w * W' = (X * W') * w by grind, ← e]; grind
  · rcases h.or z with ⟨e1, k, d⟩ | ⟨e1, k, d⟩
    · refine .inl ⟨e1, k, Int.eq_of_mul_eq_mul_right ne ?_⟩
      calc (X' * w - p * W') * W = (X * w - p * W) * W' := by rw [show (X' * w - p * W') * W = (X' * W) * w - p * W * W' by grind, e]; grind
        _ = 2 * side * W' * w * k * W := by rw [d]; grind
    · refine .inr ⟨e1, k, Int.eq_of_mul_eq_mul_right ne ?_⟩
      calc (X' * w + p * W') * W = (X * w + p * W) * W' := by rw [show (X' * w + p * W') * W = (X' * W) * w + p * W * W' by grind, e]; grind
        _ = 2 * side * W' * w * k * W := by rw [d]; grind
theorem zip32 {a b c e f : D} {i : Nat} {d : D} (h : (zipD [a, b, c] [e, f])[i]? = some d) : (i = 0 ∧ d = .tup [a, e]) ∨ (i = 1 ∧ d = .tup [b, f]) := by
  match i, h with
  | 0, h => exact .inl ⟨rfl, (Option.some.inj h).symm⟩
  | 1, h => exact .inr ⟨rfl, (Option.some.inj h).symm⟩
  | i + 2, h => simp [zipD] at h





def sp_checkX (C : Addr) : SpX := fun ds G Q Ed => sh_iiQ ds fun wide high x y w => (0 < w ∧ Sz 210 wide ∧ Sz 210 high ∧ Sz 700 w) ∧ ((0 < wide ∧ 0 < high) ∧ (0 < x ∧ x < wide * w) ∧ (0 < y ∧ y < high * w) → Q .non G) ∧ (¬ ((0 < wide ∧ 0 < high) ∧ (0 < x ∧ x < wide * w) ∧ (0 < y ∧ y < high * w)) → Ed C G)


/-- lowest terms of one place are told once -/
theorem low_uniq {x y w x' y' w' : Int} (w0 : 0 < w) (w0' : 0 < w') (h : Int.gcd (Int.gcd x y : Nat) w = 1) (h' : Int.gcd (Int.gcd x' y' : Nat) w' = 1) (e1 : x * w' = x' * w) (e2 : y * w' = y' * w) : x = x' ∧ y = y' ∧ w = w' :=
  Red3.uniq (⟨w0, h, rfl, rfl⟩ : Red3 x y w x y w) (⟨w0', h', rfl, rfl⟩ : Red3 x' y' w' x' y' w') (by omega) (by omega) e1 e2
def Ins (wide high x y w : Int) : Prop := (0 < wide ∧ 0 < high) ∧ (0 < x ∧ x < wide * w) ∧ (0 < y ∧ y < high * w)
structure Pre (wide high x y w a b : Int) : Prop where
  ws : Sz 201 wide
  hs : Sz 201 high
  pos : 0 < w
  one : Int.gcd (Int.gcd x y : Nat) w = 1
  sx : Sz 700 x
  sy : Sz 700 y
  sw : Sz 700 w
  hd : Hd 400 a b
def sp_boxAt85 (C : Addr) : SpX := fun ds G Q Ed => sh_iiQPP ds fun wide high x y w a b t s => Pre wide high x y w a b ∧ (Ins wide high x y w → (t = 0 ∧ s = 1) ∧ ∀ G', GS G G' → Q (.tup [.tup [.int x, .int y, .int w], .tup [.int a, .int b]]) G') ∧ (¬ Ins wide high x y w → ∀ G', GS G G' → Ed C G')

/-- who does not come to the side -/
def sp_turned85 : SpD := fun ds G Q => sh_iii ds fun X L a => (0 < X ∧ X < L) ∧ Q (.tup [.int X, .int a]) G

/-- at the time 0 -/
def sp_spot85 : SpD := fun ds G Q => sh_QPP ds fun x y w a b t s => ((t = 0 ∧ s = 1) ∧ 0 < w ∧ Int.gcd (Int.gcd x y : Nat) w = 1 ∧ Sz 700 x ∧ Sz 700 y ∧ Sz 700 w ∧ Sz 400 a ∧ Sz 400 b) ∧ ∀ G', GS G G' → Q (.tup [.int x, .int y, .int w]) G'

def sp_boxBad (C : Addr) : SpX := fun ds G Q Ed => sh_iiQP ds fun wide high x y w a b => (Pre wide high x y w a b ∧ ¬ Ins wide high x y w) ∧ ∀ G', GS G G' → Ed C G'

def sp_asked (C : Addr) : SpX := fun ds G Q Ed => sh_iiiQP ds fun n wide high x y w a b => (Pre wide high x y w a b ∧ ¬ Ins wide high x y w) ∧ ∀ G', GS G G' → Ed C G'

def sp_refused85 : SpD := fun ds G Q => sh_iiiQP ds fun n wide high x y w a b => (Pre wide high x y w a b ∧ ¬ Ins wide high x y w) ∧ ∀ G', GS G G' → Q (.bl true) G'

def sp_spoiled : SpD := fun ds G Q => sh_iiiQi ds fun way wide high x y w low => ((0 ≤ way ∧ way < 10) ∧ 0 ≤ low ∧ Sz 200 low ∧ 0 < wide ∧ 0 < high ∧ Sz 200 wide ∧ Sz 200 high ∧ InBox 410 wide high x y w) ∧
      ∀ wide' high' x' y' w' G', Sz 201 wide' → Sz 201 high' → 0 < w' → Int.gcd (Int.gcd x' y' : Nat) w' = 1 → Sz 700 x' → Sz 700 y' → Sz 700 w' → ¬ Ins wide' high' x' y' w' → GS G G' → Q (.tup [.int wide', .int high', .tup [.int x', .int y', .int w']]) G'
theorem Red3.out {wide high X Y W x y w : Int} (h : Red3 X Y W x y w) (hW : 0 < W) (o : ¬ ((0 < X ∧ X < wide * W) ∧ (0 < Y ∧ Y < high * W))) : ¬ Ins wide high x y w := by
  rintro ⟨_, ⟨x0, x1⟩, y0, y1⟩
  have hw := h.pos
  have p : ∀ {u U : Int}, u * W = U * w → 0 < u → 0 < U := fun {u U} e hu => by
    have : 0 < U * w := by rw [← e]; exact Int.mul_pos hu hW
    exact Int.pos_of_mul_pos_left this hw
  have l : ∀ {u U s : Int}, u * W = U * w → u < s * w → U < s * W := fun {u U s} e hu => by
    have h1 : u * W < s * w * W := Int.mul_lt_mul_of_pos_right hu hW
    have h2 : U * w < (s * W) * w := by rw [← e]; rw [show s * W * w = s * w * W by grind]; exact h1
    exact Int.lt_of_mul_lt_mul_right h2 (by omega)
  exact o ⟨⟨p h.s1 x0, l h.s1 x1⟩, p h.s2 y0, l h.s2 y1⟩


seal L3.PSD L3.PSsD L3.PED L3.PTD L3.PWD L3.PAD L3.PID L3.PGD L3.PGsD L3.POD L3.PSDw L3.PSsDw L3.PHD
section
variable {P : Program} {w : World} {K : PySem.W.Frag} {mg : Str → Option Value} {base : Heap} {A : Ad}
theorem ok_divisor (T : Txt K mg A) : FnOk P w K mg base CX0 1 A.f_divisor A.fd_divisor ["one", "other"] (spOf K (sp_divisor)) := by
  refine L3.Fun.okD 3 rfl T.F_divisor sc_divisor (fun ds G Q h => ?_) (fun cdv Ar outer s H ds G Q E hr h => ?_)
  · revert h; revert ds; refine inv_ii ?_; intros; exact rfl
  · refine ⟨_, (show PSsD _ (_ :: _) _ from (dss_cons (ds_set (i := 2) sc_divisor.nd rfl (Or.inl rfl) (de_callB cd_abs (by rfl) T.z_abs bt_abs (da_cons (dv 0) da_nil)))
      (dss_cons (ds_set (i := 3) sc_divisor.nd rfl (Or.inl rfl) (de_callB cd_abs (by rfl) T.z_abs bt_abs (da_cons (dv 1) da_nil)))
      (dss_cons (ds_while PassesOwn.never (dt_cmp (od_neD hr.units) (dv 3) de_int (nomark _)) (dss_cons (ds_set (i := 4) sc_divisor.nd rfl (Or.inl rfl) (de_op od_modP (dv 2) (dv 3)))
      (dss_cons (ds_set (i := 2) sc_divisor.nd rfl (Or.inl rfl) (dv 3))
      (dss_one (ds_set (i := 3) sc_divisor.nd rfl (Or.inl rfl) (dv 4))))))
      (dss_one (ds_ret (dv 2))))))), ?_⟩
    revert h
    revert ds
    refine inv_ii ?_
    intro _ _ h
    rename_i a b
    have hq := h
    simp only [dSeq, dAsg, dCB, dCons, dNil, dVar, dC, dOp, dUn, dTest, dAnd, dOr, dNot, dAndV, dIf, dTup, dLst, dSl, dPart, dNoPart, dIfS, dRet, dDrop, dNext, dNever, gdName, qAbs, qAdd, qI, qI0, qUn, qEq, qNe, qLen, qSl, qSorted2, dCall, st0, seqD, List.map_cons, List.map_nil, List.length_cons, List.length_nil, List.cons_append, List.nil_append, List.set_cons_zero, List.set_cons_succ, List.getElem?_cons_zero, List.getElem?_cons_succ, Option.some.injEq, Nat.reduceAdd, Nat.reduceSub, List.replicate, Bool.not_eq_true', decide_eq_true_eq, decide_eq_false_iff_not, decide_not, ite_not, Bool.not_eq_eq_eq_not, Bool.not_true, Bool.not_false, if_true, if_false, true_and, and_true, List.cons.injEq, D.int.injEq, D.bl.injEq, D.tup.injEq, ite_true, ite_false, reduceCtorEq, Bool.false_eq_true, divP_lit, pow_lit, mul_lit, mul_litL, qIx, at0, at1, at2, at3, at4, at5, gupd_same, Int.reduceLT, Int.reduceLE, Int.reducePow, Int.reduceToNat, Int.reduceMul, Int.reduceAdd, Int.reduceDiv, Int.reduceSub, Int.reduceNeg, Int.reduceEq, Int.reduceMod, Nat.reduceLT, Nat.reduceLeDiff, sz_line, and_assoc, dFor, iRng3, iSeq, dComp, pickS, qTuple, qInt, gdTup, gdCons, gdNil, qEqD, qNeD, plD, plDs, dpD, dpDs, Bool.and_self, Bool.true_and, Bool.and_true, Nat.max_self, Nat.zero_le, Bool.false_and, Bool.and_false, dRaise, dCallX, dCallN, dTry, dHand, dAs, dNoHand, exmD, valD, qIsX, kitD, sp_point, sh_ii_eq, sh_i_eq, sh_iii_eq, sh_iir_eq, sh_iiQ_eq, sh_iiQPP_eq, sh_QPP_eq, sh_iiQP_eq, sh_iiiQP_eq, sh_iiiQi_eq, sp_divisor, sp_is_int, sp_number, sp_sign, sp_side, sp_red, sp_point3, sp_hd, iRng1D, sp_inside3, iZip, zQ_eq, sp_checkX, sp_turned85, sp_spot85, sp_boxAt85, sp_boxBad, sp_asked, sp_refused85, sp_spoiled]
    refine whileW (fun m σ' G' => ∃ (l r : Int) (z : Option D), m = r.toNat ∧ σ' = [some (.int a), some (.int b), some (.int l), some (.int r), z] ∧ 0 ≤ l ∧ 0 ≤ r ∧ Int.gcd l r = Int.gcd a b ∧ GS G G')
      _ ⟨_, _, _, rfl, rfl, absI_nn a, absI_nn b, gcd_abs a b, .refl⟩ ?_
    rintro _ σ' G' ⟨l, r, z, rfl, rfl, h0, h1, hg, hs⟩
    simp only [dSeq, dAsg, dCB, dCons, dNil, dVar, dC, dOp, dUn, dTest, dAnd, dOr, dNot, dAndV, dIf, dTup, dLst, dSl, dPart, dNoPart, dIfS, dRet, dDrop, dNext, dNever, gdName, qAbs, qAdd, qI, qI0, qUn, qEq, qNe, qLen, qSl, qSorted2, dCall, st0, seqD, List.map_cons, List.map_nil, List.length_cons, List.length_nil, List.cons_append, List.nil_append, List.set_cons_zero, List.set_cons_succ, List.getElem?_cons_zero, List.getElem?_cons_succ, Option.some.injEq, Nat.reduceAdd, Nat.reduceSub, List.replicate, Bool.not_eq_true', decide_eq_true_eq, decide_eq_false_iff_not, decide_not, ite_not, Bool.not_eq_eq_eq_not, Bool.not_true, Bool.not_false, if_true, if_false, true_and, and_true, List.cons.injEq, D.int.injEq, D.bl.injEq, D.tup.injEq, ite_true, ite_false, reduceCtorEq, Bool.false_eq_true, divP_lit, pow_lit, mul_lit, mul_litL, qIx, at0, at1, at2, at3, at4, at5, gupd_same, Int.reduceLT, Int.reduceLE, Int.reducePow, Int.reduceToNat, Int.reduceMul, Int.reduceAdd, Int.reduceDiv, Int.reduceSub, Int.reduceNeg, Int.reduceEq, Int.reduceMod, Nat.reduceLT, Nat.reduceLeDiff, sz_line, and_assoc, dFor, iRng3, iSeq, dComp, pickS, qTuple, qInt, gdTup, gdCons, gdNil, qEqD, qNeD, plD, plDs, dpD, dpDs, Bool.and_self, Bool.true_and, Bool.and_true, Nat.max_self, Nat.zero_le, Bool.false_and, Bool.and_false, dRaise, dCallX, dCallN, dTry, dHand, dAs, dNoHand, exmD, valD, qIsX, kitD, sp_point, sh_ii_eq, sh_i_eq, sh_iii_eq, sh_iir_eq, sh_iiQ_eq, sh_iiQPP_eq, sh_QPP_eq, sh_iiQP_eq, sh_iiiQP_eq, sh_iiiQi_eq, sp_divisor, sp_is_int, sp_number, sp_sign, sp_side, sp_red, sp_point3, sp_hd, iRng1D, sp_inside3, iZip, zQ_eq, sp_checkX, sp_turned85, sp_spot85, sp_boxAt85, sp_boxBad, sp_asked, sp_refused85, sp_spoiled]
    by_cases hr0 : r = 0
    · subst hr0
      simp only [if_true]
      rw [← hg, gcd_done l h0] at hq
      exact hq G' hs
    · rw [if_neg hr0]
      have hr1 : 0 < r := by omega
      have h2 := Int.emod_lt_of_pos l hr1
      have h3 := Int.emod_nonneg l hr0
      exact ⟨_, fun _ _ z => z, hr1, _, (by omega : (l % r).toNat < r.toNat), r, l % r, _, rfl, rfl, h1, h3, (gcd_turn hr1 h0).trans hg, hs⟩
theorem ok_with_sign_of (T : Txt K mg A) : FnOk P w K mg base CX0 1 A.f_with_sign_of A.fd_with_sign_of ["last", "share"] (spOf K (sp_sign)) := by
  refine L3.Fun.okD 0 rfl T.F_with_sign_of sc_with_sign_of (fun ds G Q h => ?_) (fun cdv Ar outer s H ds G Q E hr h => ?_)
  · revert h; revert ds; refine inv_ii ?_; intros; exact rfl
  · refine ⟨_, (show PSsD _ (_ :: _) _ from (dss_one (ds_ret (de_if (dt_cmp od_lt (dv 0) de_int (nomark _)) (de_un ud_neg (dv 1)) (dv 1))))), ?_⟩
    revert h
    revert ds
    refine inv_ii ?_
    intro _ _ h
    rename_i l s
    have hq := h
    simp only [dSeq, dAsg, dCB, dCons, dNil, dVar, dC, dOp, dUn, dTest, dAnd, dOr, dNot, dAndV, dIf, dTup, dLst, dSl, dPart, dNoPart, dIfS, dRet, dDrop, dNext, dNever, gdName, qAbs, qAdd, qI, qI0, qUn, qEq, qNe, qLen, qSl, qSorted2, dCall, st0, seqD, List.map_cons, List.map_nil, List.length_cons, List.length_nil, List.cons_append, List.nil_append, List.set_cons_zero, List.set_cons_succ, List.getElem?_cons_zero, List.getElem?_cons_succ, Option.some.injEq, Nat.reduceAdd, Nat.reduceSub, List.replicate, Bool.not_eq_true', decide_eq_true_eq, decide_eq_false_iff_not, decide_not, ite_not, Bool.not_eq_eq_eq_not, Bool.not_true, Bool.not_false, if_true, if_false, true_and, and_true, List.cons.injEq, D.int.injEq, D.bl.injEq, D.tup.injEq, ite_true, ite_false, reduceCtorEq, Bool.false_eq_true, divP_lit, pow_lit, mul_lit, mul_litL, qIx, at0, at1, at2, at3, at4, at5, gupd_same, Int.reduceLT, Int.reduceLE, Int.reducePow, Int.reduceToNat, Int.reduceMul, Int.reduceAdd, Int.reduceDiv, Int.reduceSub, Int.reduceNeg, Int.reduceEq, Int.reduceMod, Nat.reduceLT, Nat.reduceLeDiff, sz_line, and_assoc, dFor, iRng3, iSeq, dComp, pickS, qTuple, qInt, gdTup, gdCons, gdNil, qEqD, qNeD, plD, plDs, dpD, dpDs, Bool.and_self, Bool.true_and, Bool.and_true, Nat.max_self, Nat.zero_le, Bool.false_and, Bool.and_false, dRaise, dCallX, dCallN, dTry, dHand, dAs, dNoHand, exmD, valD, qIsX, kitD, sp_point, sh_ii_eq, sh_i_eq, sh_iii_eq, sh_iir_eq, sh_iiQ_eq, sh_iiQPP_eq, sh_QPP_eq, sh_iiQP_eq, sh_iiiQP_eq, sh_iiiQi_eq, sp_divisor, sp_is_int, sp_number, sp_sign, sp_side, sp_red, sp_point3, sp_hd, iRng1D, sp_inside3, iZip, zQ_eq, sp_checkX, sp_turned85, sp_spot85, sp_boxAt85, sp_boxBad, sp_asked, sp_refused85, sp_spoiled]
    by_cases hl : l < 0
    · rw [if_pos hl] at hq ⊢
      exact hq
    · rw [if_neg hl] at hq ⊢
      exact hq
theorem ok_check_inside (T : Txt K mg A) : FnOk P w K mg base (CXE P w) 1 A.f_check_inside A.fd_check_inside ["wide", "high", "P"] (spOfX K (sp_checkX A.c_OutOfBox)) := by
  refine L3.Fun.okX 2 rfl T.F_check_inside sc_check_inside (fun ds G Q Ed h => ?_) (fun cdv Ar outer s H ds G Q Ed E hr h => ?_)
  · revert h; revert ds; refine inv_iiQ ?_; intros; exact rfl
  · refine ⟨_, (show PSsDw _ (_ :: _) _ from (dssw_one (PSD.weak (ds_forX rfl rfl rfl (id_zip (by rfl) T.z_zip (da_cons (dv 2) (da_cons (de_tup (da_cons (dv 0) (da_cons (dv 1) da_nil))) da_nil))) (gd_tup (n := 2) rfl (gds_cons (gd_name (i := 3) sc_check_inside.nd rfl (Or.inl rfl)) (gds_cons (gd_name (i := 4) sc_check_inside.nd rfl (Or.inl rfl)) gds_nil))) (dss_one (ds_if (PWD.pt (dw_or (dt_cmp od_le (dv 3) de_int (nomark _)) (dw_or1 (dt_cmp od_ge (dv 3) (de_op od_mul (dv 4) (de_ix (dv 2) de_int (fun _ _ => rfl))) (nomark _))))) (dss_one (ds_raise T.er_OutOfBox rfl (by rfl) (da_cons de_str da_nil))) dss_nil)))))), ?_⟩
    revert h
    revert ds
    refine inv_iiQ ?_
    intro _ _ _ _ _ h
    rename_i wide high x y w
    obtain ⟨⟨v0, ws, hs, sw⟩, hy, hn⟩ := h
    have pos : ∀ {u s : Int}, 0 < u → u < s * w → 0 < s := fun {u s} h1 h2 => Int.pos_of_mul_pos_left (b := w) (by omega) (by omega)
    simp only [dSeq, dAsg, dCB, dCons, dNil, dVar, dC, dOp, dUn, dTest, dAnd, dOr, dNot, dAndV, dIf, dTup, dLst, dSl, dPart, dNoPart, dIfS, dRet, dDrop, dNext, dNever, gdName, qAbs, qAdd, qI, qI0, qUn, qEq, qNe, qLen, qSl, qSorted2, dCall, st0, seqD, List.map_cons, List.map_nil, List.length_cons, List.length_nil, List.cons_append, List.nil_append, List.set_cons_zero, List.set_cons_succ, List.getElem?_cons_zero, List.getElem?_cons_succ, Option.some.injEq, Nat.reduceAdd, Nat.reduceSub, List.replicate, Bool.not_eq_true', decide_eq_true_eq, decide_eq_false_iff_not, decide_not, ite_not, Bool.not_eq_eq_eq_not, Bool.not_true, Bool.not_false, if_true, if_false, true_and, and_true, List.cons.injEq, D.int.injEq, D.bl.injEq, D.tup.injEq, ite_true, ite_false, reduceCtorEq, Bool.false_eq_true, divP_lit, pow_lit, mul_lit, mul_litL, qIx, at0, at1, at2, at3, at4, at5, gupd_same, Int.reduceLT, Int.reduceLE, Int.reducePow, Int.reduceToNat, Int.reduceMul, Int.reduceAdd, Int.reduceDiv, Int.reduceSub, Int.reduceNeg, Int.reduceEq, Int.reduceMod, Nat.reduceLT, Nat.reduceLeDiff, sz_line, and_assoc, dFor, iRng3, iSeq, dComp, pickS, qTuple, qInt, gdTup, gdCons, gdNil, qEqD, qNeD, plD, plDs, dpD, dpDs, Bool.and_self, Bool.true_and, Bool.and_true, Nat.max_self, Nat.zero_le, Bool.false_and, Bool.and_false, dRaise, dCallX, dCallN, dTry, dHand, dAs, dNoHand, exmD, valD, qIsX, kitD, sp_point, sh_ii_eq, sh_i_eq, sh_iii_eq, sh_iir_eq, sh_iiQ_eq, sh_iiQPP_eq, sh_QPP_eq, sh_iiQP_eq, sh_iiiQP_eq, sh_iiiQi_eq, sp_divisor, sp_is_int, sp_number, sp_sign, sp_side, sp_red, sp_point3, sp_hd, iRng1D, sp_inside3, iZip, zQ_eq, sp_checkX, sp_turned85, sp_spot85, sp_boxAt85, sp_boxBad, sp_asked, sp_refused85, sp_spoiled]
    refine loop_by (fun i σ' G' => (0 < i → 0 < x ∧ x < wide * w) ∧ (1 < i → 0 < y ∧ y < high * w) ∧ ∃ n m : Option D, σ' = [some (.int wide), some (.int high), some (.tup [.int x, .int y, .int w]), n, m] ∧ G' = G) ⟨fun z => absurd z (by omega), fun z => absurd z (by omega), _, _, rfl, rfl⟩ (fun _ _ _ _ _ => trivial) ?_ ?_
    · rintro i d σ' G' hd ⟨p1, p2, n, m, rfl, rfl⟩
      rcases zip32 hd with ⟨rfl, rfl⟩ | ⟨rfl, rfl⟩
      · simp only [dSeq, dAsg, dCB, dCons, dNil, dVar, dC, dOp, dUn, dTest, dAnd, dOr, dNot, dAndV, dIf, dTup, dLst, dSl, dPart, dNoPart, dIfS, dRet, dDrop, dNext, dNever, gdName, qAbs, qAdd, qI, qI0, qUn, qEq, qNe, qLen, qSl, qSorted2, dCall, st0, seqD, List.map_cons, List.map_nil, List.length_cons, List.length_nil, List.cons_append, List.nil_append, List.set_cons_zero, List.set_cons_succ, List.getElem?_cons_zero, List.getElem?_cons_succ, Option.some.injEq, Nat.reduceAdd, Nat.reduceSub, List.replicate, Bool.not_eq_true', decide_eq_true_eq, decide_eq_false_iff_not, decide_not, ite_not, Bool.not_eq_eq_eq_not, Bool.not_true, Bool.not_false, if_true, if_false, true_and, and_true, List.cons.injEq, D.int.injEq, D.bl.injEq, D.tup.injEq, ite_true, ite_false, reduceCtorEq, Bool.false_eq_true, divP_lit, pow_lit, mul_lit, mul_litL, qIx, at0, at1, at2, at3, at4, at5, gupd_same, Int.reduceLT, Int.reduceLE, Int.reducePow, Int.reduceToNat, Int.reduceMul, Int.reduceAdd, Int.reduceDiv, Int.reduceSub, Int.reduceNeg, Int.reduceEq, Int.reduceMod, Nat.reduceLT, Nat.reduceLeDiff, sz_line, and_assoc, dFor, iRng3, iSeq, dComp, pickS, qTuple, qInt, gdTup, gdCons, gdNil, qEqD, qNeD, plD, plDs, dpD, dpDs, Bool.and_self, Bool.true_and, Bool.and_true, Nat.max_self, Nat.zero_le, Bool.false_and, Bool.and_false, dRaise, dCallX, dCallN, dTry, dHand, dAs, dNoHand, exmD, valD, qIsX, kitD, sp_point, sh_ii_eq, sh_i_eq, sh_iii_eq, sh_iir_eq, sh_iiQ_eq, sh_iiQPP_eq, sh_QPP_eq, sh_iiQP_eq, sh_iiiQP_eq, sh_iiiQi_eq, sp_divisor, sp_is_int, sp_number, sp_sign, sp_side, sp_red, sp_point3, sp_hd, iRng1D, sp_inside3, iZip, zQ_eq, sp_checkX, sp_turned85, sp_spot85, sp_boxAt85, sp_boxBad, sp_asked, sp_refused85, sp_spoiled]
        refine ites (fun c1 => hn fun z => by omega) fun c1 => ?_
        refine ⟨mulOk ws sw (by decide), ?_⟩
        refine ites (fun c2 => hn fun z => by omega) fun c2 => ?_
        exact ⟨fun _ => ⟨by omega, by omega⟩, fun z => z.elim, _, _, rfl, rfl⟩
      · simp only [dSeq, dAsg, dCB, dCons, dNil, dVar, dC, dOp, dUn, dTest, dAnd, dOr, dNot, dAndV, dIf, dTup, dLst, dSl, dPart, dNoPart, dIfS, dRet, dDrop, dNext, dNever, gdName, qAbs, qAdd, qI, qI0, qUn, qEq, qNe, qLen, qSl, qSorted2, dCall, st0, seqD, List.map_cons, List.map_nil, List.length_cons, List.length_nil, List.cons_append, List.nil_append, List.set_cons_zero, List.set_cons_succ, List.getElem?_cons_zero, List.getElem?_cons_succ, Option.some.injEq, Nat.reduceAdd, Nat.reduceSub, List.replicate, Bool.not_eq_true', decide_eq_true_eq, decide_eq_false_iff_not, decide_not, ite_not, Bool.not_eq_eq_eq_not, Bool.not_true, Bool.not_false, if_true, if_false, true_and, and_true, List.cons.injEq, D.int.injEq, D.bl.injEq, D.tup.injEq, ite_true, ite_false, reduceCtorEq, Bool.false_eq_true, divP_lit, pow_lit, mul_lit, mul_litL, qIx, at0, at1, at2, at3, at4, at5, gupd_same, Int.reduceLT, Int.reduceLE, Int.reducePow, Int.reduceToNat, Int.reduceMul, Int.reduceAdd, Int.reduceDiv, Int.reduceSub, Int.reduceNeg, Int.reduceEq, Int.reduceMod, Nat.reduceLT, Nat.reduceLeDiff, sz_line, and_assoc, dFor, iRng3, iSeq, dComp, pickS, qTuple, qInt, gdTup, gdCons, gdNil, qEqD, qNeD, plD, plDs, dpD, dpDs, Bool.and_self, Bool.true_and, Bool.and_true, Nat.max_self, Nat.zero_le, Bool.false_and, Bool.and_false, dRaise, dCallX, dCallN, dTry, dHand, dAs, dNoHand, exmD, valD, qIsX, kitD, sp_point, sh_ii_eq, sh_i_eq, sh_iii_eq, sh_iir_eq, sh_iiQ_eq, sh_iiQPP_eq, sh_QPP_eq, sh_iiQP_eq, sh_iiiQP_eq, sh_iiiQi_eq, sp_divisor, sp_is_int, sp_number, sp_sign, sp_side, sp_red, sp_point3, sp_hd, iRng1D, sp_inside3, iZip, zQ_eq, sp_checkX, sp_turned85, sp_spot85, sp_boxAt85, sp_boxBad, sp_asked, sp_refused85, sp_spoiled]
        refine ites (fun c1 => hn fun z => by omega) fun c1 => ?_
        refine ⟨mulOk hs sw (by decide), ?_⟩
        refine ites (fun c2 => hn fun z => by omega) fun c2 => ?_
        exact ⟨fun _ => p1 (by omega), fun _ => ⟨by omega, by omega⟩, _, _, rfl, rfl⟩
    · rintro σ' G' ⟨p1, p2, n, m, rfl, rfl⟩
      have q1 := p1 (by simp [zipD])
      have q2 := p2 (by simp [zipD])
      exact hy ⟨⟨pos q1.1 q1.2, pos q2.1 q2.2⟩, q1, q2⟩
theorem ok_turned (T : Txt K mg A) : FnOk P w K mg base CX0 1 A.f_turned A.fd_turned ["far", "side", "speed"] (spOf K (sp_turned85)) := by
  refine L3.Fun.okD 1 rfl T.F_turned sc_turned (fun ds G Q h => ?_) (fun cdv Ar outer s H ds G Q E hr h => ?_)
  · revert h; revert ds; refine inv_iii ?_; intros; exact rfl
  · refine ⟨_, (show PSsD _ (_ :: _) _ from (dss_cons (ds_set (i := 3) sc_turned.nd rfl (Or.inl rfl) (de_op od_modP (dv 0) (de_op od_mul de_int (dv 1))))
      (dss_cons (ds_if (dt_cmp (od_eqD hr.units) (dv 3) de_int (nomark _)) (dss_one (ds_ret (de_tup (da_cons (dv 3) (da_cons (de_callB cd_abs (by rfl) T.z_abs bt_abs (da_cons (dv 2) da_nil)) da_nil))))) dss_nil)
      (dss_cons (ds_if (dt_cmp (od_eqD hr.units) (dv 3) (dv 1) (nomark _)) (dss_one (ds_ret (de_tup (da_cons (dv 3) (da_cons (de_un ud_neg (de_callB cd_abs (by rfl) T.z_abs bt_abs (da_cons (dv 2) da_nil))) da_nil))))) dss_nil)
      (dss_cons (ds_if (dt_cmp od_lt (dv 3) (dv 1) (nomark _)) (dss_one (ds_ret (de_tup (da_cons (dv 3) (da_cons (dv 2) da_nil))))) dss_nil)
      (dss_one (ds_ret (de_tup (da_cons (de_op od_sub (de_op od_mul de_int (dv 1)) (dv 3)) (da_cons (de_un ud_neg (dv 2)) da_nil)))))))))), ?_⟩
    revert h
    revert ds
    refine inv_iii ?_
    intro _ _ _ h
    rename_i X L a
    obtain ⟨⟨x0, x1⟩, hq⟩ := h
    have e : X % (2 * L) = X := Int.emod_eq_of_lt (by omega) (by omega)
    simp only [dSeq, dAsg, dCB, dCons, dNil, dVar, dC, dOp, dUn, dTest, dAnd, dOr, dNot, dAndV, dIf, dTup, dLst, dSl, dPart, dNoPart, dIfS, dRet, dDrop, dNext, dNever, gdName, qAbs, qAdd, qI, qI0, qUn, qEq, qNe, qLen, qSl, qSorted2, dCall, st0, seqD, List.map_cons, List.map_nil, List.length_cons, List.length_nil, List.cons_append, List.nil_append, List.set_cons_zero, List.set_cons_succ, List.getElem?_cons_zero, List.getElem?_cons_succ, Option.some.injEq, Nat.reduceAdd, Nat.reduceSub, List.replicate, Bool.not_eq_true', decide_eq_true_eq, decide_eq_false_iff_not, decide_not, ite_not, Bool.not_eq_eq_eq_not, Bool.not_true, Bool.not_false, if_true, if_false, true_and, and_true, List.cons.injEq, D.int.injEq, D.bl.injEq, D.tup.injEq, ite_true, ite_false, reduceCtorEq, Bool.false_eq_true, divP_lit, pow_lit, mul_lit, mul_litL, qIx, at0, at1, at2, at3, at4, at5, gupd_same, Int.reduceLT, Int.reduceLE, Int.reducePow, Int.reduceToNat, Int.reduceMul, Int.reduceAdd, Int.reduceDiv, Int.reduceSub, Int.reduceNeg, Int.reduceEq, Int.reduceMod, Nat.reduceLT, Nat.reduceLeDiff, sz_line, and_assoc, dFor, iRng3, iSeq, dComp, pickS, qTuple, qInt, gdTup, gdCons, gdNil, qEqD, qNeD, plD, plDs, dpD, dpDs, Bool.and_self, Bool.true_and, Bool.and_true, Nat.max_self, Nat.zero_le, Bool.false_and, Bool.and_false, dRaise, dCallX, dCallN, dTry, dHand, dAs, dNoHand, exmD, valD, qIsX, kitD, sp_point, sh_ii_eq, sh_i_eq, sh_iii_eq, sh_iir_eq, sh_iiQ_eq, sh_iiQPP_eq, sh_QPP_eq, sh_iiQP_eq, sh_iiiQP_eq, sh_iiiQi_eq, sp_divisor, sp_is_int, sp_number, sp_sign, sp_side, sp_red, sp_point3, sp_hd, iRng1D, sp_inside3, iZip, zQ_eq, sp_checkX, sp_turned85, sp_spot85, sp_boxAt85, sp_boxBad, sp_asked, sp_refused85, sp_spoiled]
    refine ⟨by omega, ?_⟩
    rw [e, if_neg (by omega), if_neg (by omega), if_pos x1]
    exact hq
theorem ok__law_number (T : Txt K mg A) : FnOk P w K mg base CX0 1 A.f__law_number A.fd__law_number ["_law_cell"] (spOf K ((sp_number 200))) := by
  refine L3.Fun.okD 1 rfl T.F__law_number sc__law_number (fun ds G Q h => ?_) (fun cdv Ar outer s H ds G Q E hr h => ?_)
  · revert h; revert ds; refine inv_i ?_; intros; exact rfl
  · refine ⟨_, (show PSsD _ (_ :: _) _ from (dss_cons (ds_set (i := 1) sc__law_number.nd rfl (Or.inl rfl) (de_op od_modP (dv 0) de_int))
      (dss_cons (ds_if (dt_cmp od_lt (dv 1) de_int (nomark _)) (dss_one (ds_ret (de_op od_sub (de_op od_modP (de_op od_mul (de_op od_fdivP (dv 0) de_int) (de_op od_add (de_op od_fdivP (de_op od_pow de_int de_int) de_int) de_int)) (de_op od_add (de_op od_mul de_int (de_op od_pow de_int de_int)) de_int)) (de_op od_pow de_int de_int)))) dss_nil)
      (dss_cons (ds_if (dt_cmp (od_eqD hr.units) (dv 1) de_int (nomark _)) (dss_one (ds_ret (de_op od_sub (de_op od_modP (de_op od_fdivP (dv 0) de_int) de_int) de_int))) dss_nil)
      (dss_one (ds_ret (de_op od_sub (de_op od_modP (de_op od_fdivP (dv 0) de_int) de_int) de_int))))))), ?_⟩
    revert h
    revert ds
    refine inv_i ?_
    intro _ h
    rename_i c
    obtain ⟨hc, hq⟩ := h
    simp only [dSeq, dAsg, dCB, dCons, dNil, dVar, dC, dOp, dUn, dTest, dAnd, dOr, dNot, dAndV, dIf, dTup, dLst, dSl, dPart, dNoPart, dIfS, dRet, dDrop, dNext, dNever, gdName, qAbs, qAdd, qI, qI0, qUn, qEq, qNe, qLen, qSl, qSorted2, dCall, st0, seqD, List.map_cons, List.map_nil, List.length_cons, List.length_nil, List.cons_append, List.nil_append, List.set_cons_zero, List.set_cons_succ, List.getElem?_cons_zero, List.getElem?_cons_succ, Option.some.injEq, Nat.reduceAdd, Nat.reduceSub, List.replicate, Bool.not_eq_true', decide_eq_true_eq, decide_eq_false_iff_not, decide_not, ite_not, Bool.not_eq_eq_eq_not, Bool.not_true, Bool.not_false, if_true, if_false, true_and, and_true, List.cons.injEq, D.int.injEq, D.bl.injEq, D.tup.injEq, ite_true, ite_false, reduceCtorEq, Bool.false_eq_true, divP_lit, pow_lit, mul_lit, mul_litL, qIx, at0, at1, at2, at3, at4, at5, gupd_same, Int.reduceLT, Int.reduceLE, Int.reducePow, Int.reduceToNat, Int.reduceMul, Int.reduceAdd, Int.reduceDiv, Int.reduceSub, Int.reduceNeg, Int.reduceEq, Int.reduceMod, Nat.reduceLT, Nat.reduceLeDiff, sz_line, and_assoc, dFor, iRng3, iSeq, dComp, pickS, qTuple, qInt, gdTup, gdCons, gdNil, qEqD, qNeD, plD, plDs, dpD, dpDs, Bool.and_self, Bool.true_and, Bool.and_true, Nat.max_self, Nat.zero_le, Bool.false_and, Bool.and_false, dRaise, dCallX, dCallN, dTry, dHand, dAs, dNoHand, exmD, valD, qIsX, kitD, sp_point, sh_ii_eq, sh_i_eq, sh_iii_eq, sh_iir_eq, sh_iiQ_eq, sh_iiQPP_eq, sh_QPP_eq, sh_iiQP_eq, sh_iiiQP_eq, sh_iiiQi_eq, sp_divisor, sp_is_int, sp_number, sp_sign, sp_side, sp_red, sp_point3, sp_hd, iRng1D, sp_inside3, iZip, zQ_eq, sp_checkX, sp_turned85, sp_spot85, sp_boxAt85, sp_boxBad, sp_asked, sp_refused85, sp_spoiled]
    split
    · refine ⟨mulOk (m := 1048576) (n := 199) (hc.div (by decide)) (.lit (by decide +kernel)) (by decide), hq _ ?_⟩
      exact ((Sz.mod (m := 199) (by decide +kernel) (.lit (by decide +kernel))).sub (.lit (by decide +kernel))).mono (by decide)
    · split
      · exact hq _ (((Sz.mod (m := 199) (by decide +kernel) (.lit (by decide +kernel))).sub (.lit (by decide +kernel))).mono (by decide))
      · exact hq _ (((Sz.mod (m := 199) (by decide +kernel) (.lit (by decide +kernel))).sub (.lit (by decide +kernel))).mono (by decide))
theorem ok__law_side (T : Txt K mg A) : FnOk P w K mg base CX0 1 A.f__law_side A.fd__law_side ["_law_cell"] (spOf K ((sp_side 200))) := by
  refine L3.Fun.okD 1 rfl T.F__law_side sc__law_side (fun ds G Q h => ?_) (fun cdv Ar outer s H ds G Q E hr h => ?_)
  · revert h; revert ds; refine inv_i ?_; intros; exact rfl
  · refine ⟨_, (show PSsD _ (_ :: _) _ from (dss_cons (ds_set (i := 1) sc__law_side.nd rfl (Or.inl rfl) (de_op od_modP (dv 0) de_int))
      (dss_cons (ds_if (dt_cmp (od_eqD hr.units) (dv 1) de_int (nomark _)) (dss_one (ds_ret (de_op od_add de_int (de_op od_modP (de_op od_mul (de_op od_fdivP (dv 0) de_int) (de_op od_add (de_op od_fdivP (de_op od_pow de_int de_int) de_int) de_int)) (de_op od_sub (de_op od_pow de_int de_int) de_int))))) dss_nil)
      (dss_cons (ds_if (dt_cmp (od_eqD hr.units) (dv 1) de_int (nomark _)) (dss_one (ds_ret (de_op od_add de_int (de_op od_modP (de_op od_fdivP (dv 0) de_int) de_int)))) dss_nil)
      (dss_one (ds_ret (de_op od_add de_int (de_op od_modP (de_op od_fdivP (dv 0) de_int) de_int)))))))), ?_⟩
    revert h
    revert ds
    refine inv_i ?_
    intro _ h
    rename_i c
    obtain ⟨hc, hq⟩ := h
    simp only [dSeq, dAsg, dCB, dCons, dNil, dVar, dC, dOp, dUn, dTest, dAnd, dOr, dNot, dAndV, dIf, dTup, dLst, dSl, dPart, dNoPart, dIfS, dRet, dDrop, dNext, dNever, gdName, qAbs, qAdd, qI, qI0, qUn, qEq, qNe, qLen, qSl, qSorted2, dCall, st0, seqD, List.map_cons, List.map_nil, List.length_cons, List.length_nil, List.cons_append, List.nil_append, List.set_cons_zero, List.set_cons_succ, List.getElem?_cons_zero, List.getElem?_cons_succ, Option.some.injEq, Nat.reduceAdd, Nat.reduceSub, List.replicate, Bool.not_eq_true', decide_eq_true_eq, decide_eq_false_iff_not, decide_not, ite_not, Bool.not_eq_eq_eq_not, Bool.not_true, Bool.not_false, if_true, if_false, true_and, and_true, List.cons.injEq, D.int.injEq, D.bl.injEq, D.tup.injEq, ite_true, ite_false, reduceCtorEq, Bool.false_eq_true, divP_lit, pow_lit, mul_lit, mul_litL, qIx, at0, at1, at2, at3, at4, at5, gupd_same, Int.reduceLT, Int.reduceLE, Int.reducePow, Int.reduceToNat, Int.reduceMul, Int.reduceAdd, Int.reduceDiv, Int.reduceSub, Int.reduceNeg, Int.reduceEq, Int.reduceMod, Nat.reduceLT, Nat.reduceLeDiff, sz_line, and_assoc, dFor, iRng3, iSeq, dComp, pickS, qTuple, qInt, gdTup, gdCons, gdNil, qEqD, qNeD, plD, plDs, dpD, dpDs, Bool.and_self, Bool.true_and, Bool.and_true, Nat.max_self, Nat.zero_le, Bool.false_and, Bool.and_false, dRaise, dCallX, dCallN, dTry, dHand, dAs, dNoHand, exmD, valD, qIsX, kitD, sp_point, sh_ii_eq, sh_i_eq, sh_iii_eq, sh_iir_eq, sh_iiQ_eq, sh_iiQPP_eq, sh_QPP_eq, sh_iiQP_eq, sh_iiiQP_eq, sh_iiiQi_eq, sp_divisor, sp_is_int, sp_number, sp_sign, sp_side, sp_red, sp_point3, sp_hd, iRng1D, sp_inside3, iZip, zQ_eq, sp_checkX, sp_turned85, sp_spot85, sp_boxAt85, sp_boxBad, sp_asked, sp_refused85, sp_spoiled]
    have S : ∀ {u j : Int} (N : Nat), 0 < j → j ≤ N → N < 2 ^ 200 → 0 < 1 + u % j ∧ Sz 200 (1 + u % j) := fun {u j} N h0 h1 h2 => by
      have m0 := Int.emod_nonneg u (by omega : j ≠ 0)
      have m1 := Int.emod_lt_of_pos u h0
      exact ⟨by omega, .of N h2 (by omega) (by omega)⟩
    split
    · obtain ⟨s0, s1⟩ := S (u := c / 4 * 9090909090909090909090909090909090909090909090909091013819) (j := 999999999999999999999999999999999999999999999999999999999999) 999999999999999999999999999999999999999999999999999999999999 (by decide +kernel) (by decide +kernel) (by decide +kernel)
      exact ⟨mulOk (m := 1048576) (n := 199) (hc.div (by decide)) (.lit (by decide +kernel)) (by decide), hq _ s0 s1⟩
    · split
      · obtain ⟨s0, s1⟩ := S (u := c / 4) (j := 1000) 1000 (by decide) (by decide) (by decide +kernel)
        exact hq _ s0 s1
      · obtain ⟨s0, s1⟩ := S (u := c / 4) (j := 9) 9 (by decide) (by decide) (by decide +kernel)
        exact hq _ s0 s1
theorem ok__law_measure (T : Txt K mg A) : FnOk P w K mg base CX0 1 A.f__law_measure A.fd__law_measure ["_law_one", "_law_other"] (spOf K (sp_divisor)) := by
  refine L3.Fun.okD 1 rfl T.F__law_measure sc__law_measure (fun ds G Q h => ?_) (fun cdv Ar outer s H ds G Q E hr h => ?_)
  · revert h; revert ds; refine inv_ii ?_; intros; exact rfl
  · refine ⟨_, (show PSsD _ (_ :: _) _ from (dss_cons (ds_set (i := 2) sc__law_measure.nd rfl (Or.inl rfl) (de_callB cd_sorted2 (by rfl) T.z_sorted bt_sorted (da_cons (de_lst (da_cons (de_callB cd_abs (by rfl) T.z_abs bt_abs (da_cons (dv 0) da_nil)) (da_cons (de_callB cd_abs (by rfl) T.z_abs bt_abs (da_cons (dv 1) da_nil)) da_nil))) da_nil)))
      (dss_cons (ds_while PassesOwn.never (dt_cmp od_gt (de_ix (dv 2) de_int (fun _ _ => rfl)) de_int (nomark _)) (dss_one (ds_set (i := 2) sc__law_measure.nd rfl (Or.inl rfl) (de_lst (da_cons (de_op od_modP (de_ix (dv 2) de_int (fun _ _ => rfl)) (de_ix (dv 2) de_int (fun _ _ => rfl))) (da_cons (de_ix (dv 2) de_int (fun _ _ => rfl)) da_nil))))))
      (dss_one (ds_ret (de_ix (dv 2) de_int (fun _ _ => rfl))))))), ?_⟩
    revert h
    revert ds
    refine inv_ii ?_
    intro _ _ h
    rename_i a b
    have hq := h
    simp only [dSeq, dAsg, dCB, dCons, dNil, dVar, dC, dOp, dUn, dTest, dAnd, dOr, dNot, dAndV, dIf, dTup, dLst, dSl, dPart, dNoPart, dIfS, dRet, dDrop, dNext, dNever, gdName, qAbs, qAdd, qI, qI0, qUn, qEq, qNe, qLen, qSl, qSorted2, dCall, st0, seqD, List.map_cons, List.map_nil, List.length_cons, List.length_nil, List.cons_append, List.nil_append, List.set_cons_zero, List.set_cons_succ, List.getElem?_cons_zero, List.getElem?_cons_succ, Option.some.injEq, Nat.reduceAdd, Nat.reduceSub, List.replicate, Bool.not_eq_true', decide_eq_true_eq, decide_eq_false_iff_not, decide_not, ite_not, Bool.not_eq_eq_eq_not, Bool.not_true, Bool.not_false, if_true, if_false, true_and, and_true, List.cons.injEq, D.int.injEq, D.bl.injEq, D.tup.injEq, ite_true, ite_false, reduceCtorEq, Bool.false_eq_true, divP_lit, pow_lit, mul_lit, mul_litL, qIx, at0, at1, at2, at3, at4, at5, gupd_same, Int.reduceLT, Int.reduceLE, Int.reducePow, Int.reduceToNat, Int.reduceMul, Int.reduceAdd, Int.reduceDiv, Int.reduceSub, Int.reduceNeg, Int.reduceEq, Int.reduceMod, Nat.reduceLT, Nat.reduceLeDiff, sz_line, and_assoc, dFor, iRng3, iSeq, dComp, pickS, qTuple, qInt, gdTup, gdCons, gdNil, qEqD, qNeD, plD, plDs, dpD, dpDs, Bool.and_self, Bool.true_and, Bool.and_true, Nat.max_self, Nat.zero_le, Bool.false_and, Bool.and_false, dRaise, dCallX, dCallN, dTry, dHand, dAs, dNoHand, exmD, valD, qIsX, kitD, sp_point, sh_ii_eq, sh_i_eq, sh_iii_eq, sh_iir_eq, sh_iiQ_eq, sh_iiQPP_eq, sh_QPP_eq, sh_iiQP_eq, sh_iiiQP_eq, sh_iiiQi_eq, sp_divisor, sp_is_int, sp_number, sp_sign, sp_side, sp_red, sp_point3, sp_hd, iRng1D, sp_inside3, iZip, zQ_eq, sp_checkX, sp_turned85, sp_spot85, sp_boxAt85, sp_boxBad, sp_asked, sp_refused85, sp_spoiled]
    intro p hp p1 hp1
    have s1 := GS.laid (o := .lst [.int (absI a), .int (absI b)]) hp
    have s2 := s1.trans (GS.laid (o := .lst [.int (min (absI a) (absI b)), .int (max (absI a) (absI b))]) hp1)
    refine whileW (fun m σ' G' => ∃ (l r : Int) (q : Addr), m = l.toNat ∧ σ' = [some (.int a), some (.int b), some (.ref q)] ∧ G' q = some (.lst [.int l, .int r]) ∧ 0 ≤ l ∧ 0 ≤ r ∧ Int.gcd r l = Int.gcd a b ∧ GS G G')
      _ ⟨_, _, _, rfl, rfl, gupd_same, ?_, ?_, (gcd_minmax _ _).trans (gcd_abs a b), s2⟩ ?_
    · have := absI_nn a
      have := absI_nn b
      omega
    · have := absI_nn a
      have := absI_nn b
      omega
    rintro _ σ' G' ⟨l, r, q, rfl, rfl, hG, h0, h1, hg, hs⟩
    simp only [dSeq, dAsg, dCB, dCons, dNil, dVar, dC, dOp, dUn, dTest, dAnd, dOr, dNot, dAndV, dIf, dTup, dLst, dSl, dPart, dNoPart, dIfS, dRet, dDrop, dNext, dNever, gdName, qAbs, qAdd, qI, qI0, qUn, qEq, qNe, qLen, qSl, qSorted2, dCall, st0, seqD, List.map_cons, List.map_nil, List.length_cons, List.length_nil, List.cons_append, List.nil_append, List.set_cons_zero, List.set_cons_succ, List.getElem?_cons_zero, List.getElem?_cons_succ, Option.some.injEq, Nat.reduceAdd, Nat.reduceSub, List.replicate, Bool.not_eq_true', decide_eq_true_eq, decide_eq_false_iff_not, decide_not, ite_not, Bool.not_eq_eq_eq_not, Bool.not_true, Bool.not_false, if_true, if_false, true_and, and_true, List.cons.injEq, D.int.injEq, D.bl.injEq, D.tup.injEq, ite_true, ite_false, reduceCtorEq, Bool.false_eq_true, divP_lit, pow_lit, mul_lit, mul_litL, qIx, at0, at1, at2, at3, at4, at5, gupd_same, Int.reduceLT, Int.reduceLE, Int.reducePow, Int.reduceToNat, Int.reduceMul, Int.reduceAdd, Int.reduceDiv, Int.reduceSub, Int.reduceNeg, Int.reduceEq, Int.reduceMod, Nat.reduceLT, Nat.reduceLeDiff, sz_line, and_assoc, dFor, iRng3, iSeq, dComp, pickS, qTuple, qInt, gdTup, gdCons, gdNil, qEqD, qNeD, plD, plDs, dpD, dpDs, Bool.and_self, Bool.true_and, Bool.and_true, Nat.max_self, Nat.zero_le, Bool.false_and, Bool.and_false, dRaise, dCallX, dCallN, dTry, dHand, dAs, dNoHand, exmD, valD, qIsX, kitD, sp_point, sh_ii_eq, sh_i_eq, sh_iii_eq, sh_iir_eq, sh_iiQ_eq, sh_iiQPP_eq, sh_QPP_eq, sh_iiQP_eq, sh_iiiQP_eq, sh_iiiQi_eq, sp_divisor, sp_is_int, sp_number, sp_sign, sp_side, sp_red, sp_point3, sp_hd, iRng1D, sp_inside3, iZip, zQ_eq, sp_checkX, sp_turned85, sp_spot85, sp_boxAt85, sp_boxBad, sp_asked, sp_refused85, sp_spoiled, hG]
    by_cases hr0 : 0 < l
    · rw [if_pos hr0]
      have h2 := Int.emod_lt_of_pos r hr0
      have h3 := Int.emod_nonneg r (by omega : l ≠ 0)
      exact ⟨_, fun _ _ z => z, hr0, fun p2 hp2 => ⟨_, (by omega : (r % l).toNat < l.toNat), r % l, l, _, rfl, rfl, gupd_same, h3, h0, (gcd_turn hr0 h1).trans hg, hs.trans (GS.laid hp2)⟩⟩
    · rw [if_neg hr0]
      have hl : l = 0 := by omega
      subst hl
      rw [← hg, gcd_done r h1] at hq
      exact hq G' hs
theorem ok_point_of (T : Txt K mg A) : FnOk P w K mg base CX0 2 A.f_point_of A.fd_point_of ["x", "y", "w"] (spOf K (sp_point)) := by
  refine L3.Fun.okD 1 rfl T.F_point_of sc_point_of (fun ds G Q h => ?_) (fun cdv Ar outer s H ds G Q E hr h => ?_)
  · revert h; revert ds; refine inv_iii ?_; intros; exact rfl
  · refine ⟨_, (show PSsD _ (_ :: _) _ from (dss_cons (ds_if (dt_cmp (od_eqD hr.units) (dv 2) de_int (nomark _)) (dss_one ds_never) dss_nil)
      (dss_cons (ds_set (i := 3) sc_point_of.nd rfl (Or.inl rfl) (de_call (ok_with_sign_of T) (hr.mono (by decide)) (by rfl) T.m_with_sign_of T.k_with_sign_of T.b_with_sign_of (da_cons (dv 2) (da_cons (de_call (ok_divisor T) (hr.mono (by decide)) (by rfl) T.m_divisor T.k_divisor T.b_divisor (da_cons (de_call (ok_divisor T) (hr.mono (by decide)) (by rfl) T.m_divisor T.k_divisor T.b_divisor (da_cons (dv 0) (da_cons (dv 1) da_nil))) (da_cons (dv 2) da_nil))) da_nil))))
      (dss_one (ds_ret (de_tup (da_cons (de_op od_fdiv (dv 0) (dv 3)) (da_cons (de_op od_fdiv (dv 1) (dv 3)) (da_cons (de_op od_fdiv (dv 2) (dv 3)) da_nil))))))))), ?_⟩
    revert h
    revert ds
    refine inv_iii ?_
    intro _ _ _ h
    rename_i a b c
    obtain ⟨⟨hc0, ha, hb, hc⟩, hq⟩ := h
    simp only [dSeq, dAsg, dCB, dCons, dNil, dVar, dC, dOp, dUn, dTest, dAnd, dOr, dNot, dAndV, dIf, dTup, dLst, dSl, dPart, dNoPart, dIfS, dRet, dDrop, dNext, dNever, gdName, qAbs, qAdd, qI, qI0, qUn, qEq, qNe, qLen, qSl, qSorted2, dCall, st0, seqD, List.map_cons, List.map_nil, List.length_cons, List.length_nil, List.cons_append, List.nil_append, List.set_cons_zero, List.set_cons_succ, List.getElem?_cons_zero, List.getElem?_cons_succ, Option.some.injEq, Nat.reduceAdd, Nat.reduceSub, List.replicate, Bool.not_eq_true', decide_eq_true_eq, decide_eq_false_iff_not, decide_not, ite_not, Bool.not_eq_eq_eq_not, Bool.not_true, Bool.not_false, if_true, if_false, true_and, and_true, List.cons.injEq, D.int.injEq, D.bl.injEq, D.tup.injEq, ite_true, ite_false, reduceCtorEq, Bool.false_eq_true, divP_lit, pow_lit, mul_lit, mul_litL, qIx, at0, at1, at2, at3, at4, at5, gupd_same, Int.reduceLT, Int.reduceLE, Int.reducePow, Int.reduceToNat, Int.reduceMul, Int.reduceAdd, Int.reduceDiv, Int.reduceSub, Int.reduceNeg, Int.reduceEq, Int.reduceMod, Nat.reduceLT, Nat.reduceLeDiff, sz_line, and_assoc, dFor, iRng3, iSeq, dComp, pickS, qTuple, qInt, gdTup, gdCons, gdNil, qEqD, qNeD, plD, plDs, dpD, dpDs, Bool.and_self, Bool.true_and, Bool.and_true, Nat.max_self, Nat.zero_le, Bool.false_and, Bool.and_false, dRaise, dCallX, dCallN, dTry, dHand, dAs, dNoHand, exmD, valD, qIsX, kitD, sp_point, sh_ii_eq, sh_i_eq, sh_iii_eq, sh_iir_eq, sh_iiQ_eq, sh_iiQPP_eq, sh_QPP_eq, sh_iiQP_eq, sh_iiiQP_eq, sh_iiiQi_eq, sp_divisor, sp_is_int, sp_number, sp_sign, sp_side, sp_red, sp_point3, sp_hd, iRng1D, sp_inside3, iZip, zQ_eq, sp_checkX, sp_turned85, sp_spot85, sp_boxAt85, sp_boxBad, sp_asked, sp_refused85, sp_spoiled, hc0]
    have hz : ((Int.gcd (Int.gcd a b : Nat) c : Nat) : Int).natAbs < 2 ^ 8000 := gcd_le (gcd_le ha.lt hb.lt) hc.lt
    have hR := red3_by (a := a) (b := b) rfl hc0 rfl
    have hg : 0 < Int.gcd (Int.gcd a b : Nat) c := Nat.pos_of_ne_zero fun z => hc0 (Int.gcd_eq_zero_iff.mp z).2
    have hd : ∀ x, CDivB x (if c < 0 then -((Int.gcd (Int.gcd a b : Nat) c : Nat) : Int) else ((Int.gcd (Int.gcd a b : Nat) c : Nat) : Int)) := fun x => by
      refine ⟨by split <;> omega, ?_⟩
      have : (if c < 0 then -((Int.gcd (Int.gcd a b : Nat) c : Nat) : Int) else ((Int.gcd (Int.gcd a b : Nat) c : Nat) : Int)).natAbs = ((Int.gcd (Int.gcd a b : Nat) c : Nat) : Int).natAbs := by split <;> omega
      rw [this]
      exact Nat.lt_of_lt_of_le hz (Nat.pow_le_pow_right (by decide) (by decide))
    exact fun G1 s1 G2 s2 => ⟨hd _, hd _, hd _, hq _ _ _ _ hR (s1.trans s2)⟩
theorem ok__law_reduced (T : Txt K mg A) : FnOk P w K mg base CX0 2 A.f__law_reduced A.fd__law_reduced ["_law_top", "_law_bottom"] (spOf K (sp_red)) := by
  refine L3.Fun.okD 1 rfl T.F__law_reduced sc__law_reduced (fun ds G Q h => ?_) (fun cdv Ar outer s H ds G Q E hr h => ?_)
  · revert h; revert ds; refine inv_ii ?_; intros; exact rfl
  · refine ⟨_, (show PSsD _ (_ :: _) _ from (dss_cons (ds_set (i := 2) sc__law_reduced.nd rfl (Or.inr rfl) (de_call (ok__law_measure T) (hr.mono (by decide)) (by rfl) T.m__law_measure T.k__law_measure T.b__law_measure (da_cons (dv 1) (da_cons (dv 0) da_nil))))
      (dss_one (ds_ret (de_callTy cd_tuple (by rfl) T.z_tuple bt_tuple (da_cons (de_comp (ys := ["_law_size"]) (ks := [2]) rfl (id_seq (de_tup (da_cons (dv 0) (da_cons (dv 1) da_nil)))) (fun _ _ _ _ => PCs.nil) (fun _ _ _ _ => (de_op od_fdivP (dv 0) (dv 1))) rfl ⟨rfl, trivial⟩ ⟨⟨rfl, rfl, rfl, _, rfl⟩, trivial⟩ rfl rfl rfl (by decide +kernel) (cells_ok (by rfl)) (by decide +kernel) (by decide +kernel)) da_nil)))))), ?_⟩
    revert h
    revert ds
    refine inv_ii ?_
    intro _ _ h
    rename_i t b
    obtain ⟨⟨hn0, ht, hbs⟩, hq⟩ := h
    simp only [dSeq, dAsg, dCB, dCons, dNil, dVar, dC, dOp, dUn, dTest, dAnd, dOr, dNot, dAndV, dIf, dTup, dLst, dSl, dPart, dNoPart, dIfS, dRet, dDrop, dNext, dNever, gdName, qAbs, qAdd, qI, qI0, qUn, qEq, qNe, qLen, qSl, qSorted2, dCall, st0, seqD, List.map_cons, List.map_nil, List.length_cons, List.length_nil, List.cons_append, List.nil_append, List.set_cons_zero, List.set_cons_succ, List.getElem?_cons_zero, List.getElem?_cons_succ, Option.some.injEq, Nat.reduceAdd, Nat.reduceSub, List.replicate, Bool.not_eq_true', decide_eq_true_eq, decide_eq_false_iff_not, decide_not, ite_not, Bool.not_eq_eq_eq_not, Bool.not_true, Bool.not_false, if_true, if_false, true_and, and_true, List.cons.injEq, D.int.injEq, D.bl.injEq, D.tup.injEq, ite_true, ite_false, reduceCtorEq, Bool.false_eq_true, divP_lit, pow_lit, mul_lit, mul_litL, qIx, at0, at1, at2, at3, at4, at5, gupd_same, Int.reduceLT, Int.reduceLE, Int.reducePow, Int.reduceToNat, Int.reduceMul, Int.reduceAdd, Int.reduceDiv, Int.reduceSub, Int.reduceNeg, Int.reduceEq, Int.reduceMod, Nat.reduceLT, Nat.reduceLeDiff, sz_line, and_assoc, dFor, iRng3, iSeq, dComp, pickS, qTuple, qInt, gdTup, gdCons, gdNil, qEqD, qNeD, plD, plDs, dpD, dpDs, Bool.and_self, Bool.true_and, Bool.and_true, Nat.max_self, Nat.zero_le, Bool.false_and, Bool.and_false, dRaise, dCallX, dCallN, dTry, dHand, dAs, dNoHand, exmD, valD, qIsX, kitD, sp_point, sh_ii_eq, sh_i_eq, sh_iii_eq, sh_iir_eq, sh_iiQ_eq, sh_iiQPP_eq, sh_QPP_eq, sh_iiQP_eq, sh_iiiQP_eq, sh_iiiQi_eq, sp_divisor, sp_is_int, sp_number, sp_sign, sp_side, sp_red, sp_point3, sp_hd, iRng1D, sp_inside3, iZip, zQ_eq, sp_checkX, sp_turned85, sp_spot85, sp_boxAt85, sp_boxBad, sp_asked, sp_refused85, sp_spoiled]
    intro G1 s1
    have hn : ¬ (b = 0 ∧ t = 0) := fun h => hn0 ⟨h.2, h.1⟩
    have hg := gcd_pos hn
    have hdv : ∀ i, CDivP i (Int.gcd b t : Nat) := fun i => divP_of hg (hbs.gcd ht) (by decide)
    refine cloop_map (fun d => match d with
      | .int i => .int (i / (Int.gcd b t : Nat))
      | d => d) (fun _ _ => trivial) ?_ ?_
    · intro d hd G' R s2 k
      simp only [List.mem_cons, List.not_mem_nil, or_false] at hd
      rcases hd with rfl | rfl
      · simp only [dSeq, dAsg, dCB, dCons, dNil, dVar, dC, dOp, dUn, dTest, dAnd, dOr, dNot, dAndV, dIf, dTup, dLst, dSl, dPart, dNoPart, dIfS, dRet, dDrop, dNext, dNever, gdName, qAbs, qAdd, qI, qI0, qUn, qEq, qNe, qLen, qSl, qSorted2, dCall, st0, seqD, List.map_cons, List.map_nil, List.length_cons, List.length_nil, List.cons_append, List.nil_append, List.set_cons_zero, List.set_cons_succ, List.getElem?_cons_zero, List.getElem?_cons_succ, Option.some.injEq, Nat.reduceAdd, Nat.reduceSub, List.replicate, Bool.not_eq_true', decide_eq_true_eq, decide_eq_false_iff_not, decide_not, ite_not, Bool.not_eq_eq_eq_not, Bool.not_true, Bool.not_false, if_true, if_false, true_and, and_true, List.cons.injEq, D.int.injEq, D.bl.injEq, D.tup.injEq, ite_true, ite_false, reduceCtorEq, Bool.false_eq_true, divP_lit, pow_lit, mul_lit, mul_litL, qIx, at0, at1, at2, at3, at4, at5, gupd_same, Int.reduceLT, Int.reduceLE, Int.reducePow, Int.reduceToNat, Int.reduceMul, Int.reduceAdd, Int.reduceDiv, Int.reduceSub, Int.reduceNeg, Int.reduceEq, Int.reduceMod, Nat.reduceLT, Nat.reduceLeDiff, sz_line, and_assoc, dFor, iRng3, iSeq, dComp, pickS, qTuple, qInt, gdTup, gdCons, gdNil, qEqD, qNeD, plD, plDs, dpD, dpDs, Bool.and_self, Bool.true_and, Bool.and_true, Nat.max_self, Nat.zero_le, Bool.false_and, Bool.and_false, dRaise, dCallX, dCallN, dTry, dHand, dAs, dNoHand, exmD, valD, qIsX, kitD, sp_point, sh_ii_eq, sh_i_eq, sh_iii_eq, sh_iir_eq, sh_iiQ_eq, sh_iiQPP_eq, sh_QPP_eq, sh_iiQP_eq, sh_iiiQP_eq, sh_iiiQi_eq, sp_divisor, sp_is_int, sp_number, sp_sign, sp_side, sp_red, sp_point3, sp_hd, iRng1D, sp_inside3, iZip, zQ_eq, sp_checkX, sp_turned85, sp_spot85, sp_boxAt85, sp_boxBad, sp_asked, sp_refused85, sp_spoiled]
        exact ⟨hdv _, k _ .refl⟩
      · simp only [dSeq, dAsg, dCB, dCons, dNil, dVar, dC, dOp, dUn, dTest, dAnd, dOr, dNot, dAndV, dIf, dTup, dLst, dSl, dPart, dNoPart, dIfS, dRet, dDrop, dNext, dNever, gdName, qAbs, qAdd, qI, qI0, qUn, qEq, qNe, qLen, qSl, qSorted2, dCall, st0, seqD, List.map_cons, List.map_nil, List.length_cons, List.length_nil, List.cons_append, List.nil_append, List.set_cons_zero, List.set_cons_succ, List.getElem?_cons_zero, List.getElem?_cons_succ, Option.some.injEq, Nat.reduceAdd, Nat.reduceSub, List.replicate, Bool.not_eq_true', decide_eq_true_eq, decide_eq_false_iff_not, decide_not, ite_not, Bool.not_eq_eq_eq_not, Bool.not_true, Bool.not_false, if_true, if_false, true_and, and_true, List.cons.injEq, D.int.injEq, D.bl.injEq, D.tup.injEq, ite_true, ite_false, reduceCtorEq, Bool.false_eq_true, divP_lit, pow_lit, mul_lit, mul_litL, qIx, at0, at1, at2, at3, at4, at5, gupd_same, Int.reduceLT, Int.reduceLE, Int.reducePow, Int.reduceToNat, Int.reduceMul, Int.reduceAdd, Int.reduceDiv, Int.reduceSub, Int.reduceNeg, Int.reduceEq, Int.reduceMod, Nat.reduceLT, Nat.reduceLeDiff, sz_line, and_assoc, dFor, iRng3, iSeq, dComp, pickS, qTuple, qInt, gdTup, gdCons, gdNil, qEqD, qNeD, plD, plDs, dpD, dpDs, Bool.and_self, Bool.true_and, Bool.and_true, Nat.max_self, Nat.zero_le, Bool.false_and, Bool.and_false, dRaise, dCallX, dCallN, dTry, dHand, dAs, dNoHand, exmD, valD, qIsX, kitD, sp_point, sh_ii_eq, sh_i_eq, sh_iii_eq, sh_iir_eq, sh_iiQ_eq, sh_iiQPP_eq, sh_QPP_eq, sh_iiQP_eq, sh_iiiQP_eq, sh_iiiQi_eq, sp_divisor, sp_is_int, sp_number, sp_sign, sp_side, sp_red, sp_point3, sp_hd, iRng1D, sp_inside3, iZip, zQ_eq, sp_checkX, sp_turned85, sp_spot85, sp_boxAt85, sp_boxBad, sp_asked, sp_refused85, sp_spoiled]
        exact ⟨hdv _, k _ .refl⟩
    · intro q G2 hq0 s2 hG2
      simp only [dSeq, dAsg, dCB, dCons, dNil, dVar, dC, dOp, dUn, dTest, dAnd, dOr, dNot, dAndV, dIf, dTup, dLst, dSl, dPart, dNoPart, dIfS, dRet, dDrop, dNext, dNever, gdName, qAbs, qAdd, qI, qI0, qUn, qEq, qNe, qLen, qSl, qSorted2, dCall, st0, seqD, List.map_cons, List.map_nil, List.length_cons, List.length_nil, List.cons_append, List.nil_append, List.set_cons_zero, List.set_cons_succ, List.getElem?_cons_zero, List.getElem?_cons_succ, Option.some.injEq, Nat.reduceAdd, Nat.reduceSub, List.replicate, Bool.not_eq_true', decide_eq_true_eq, decide_eq_false_iff_not, decide_not, ite_not, Bool.not_eq_eq_eq_not, Bool.not_true, Bool.not_false, if_true, if_false, true_and, and_true, List.cons.injEq, D.int.injEq, D.bl.injEq, D.tup.injEq, ite_true, ite_false, reduceCtorEq, Bool.false_eq_true, divP_lit, pow_lit, mul_lit, mul_litL, qIx, at0, at1, at2, at3, at4, at5, gupd_same, Int.reduceLT, Int.reduceLE, Int.reducePow, Int.reduceToNat, Int.reduceMul, Int.reduceAdd, Int.reduceDiv, Int.reduceSub, Int.reduceNeg, Int.reduceEq, Int.reduceMod, Nat.reduceLT, Nat.reduceLeDiff, sz_line, and_assoc, dFor, iRng3, iSeq, dComp, pickS, qTuple, qInt, gdTup, gdCons, gdNil, qEqD, qNeD, plD, plDs, dpD, dpDs, Bool.and_self, Bool.true_and, Bool.and_true, Nat.max_self, Nat.zero_le, Bool.false_and, Bool.and_false, dRaise, dCallX, dCallN, dTry, dHand, dAs, dNoHand, exmD, valD, qIsX, kitD, sp_point, sh_ii_eq, sh_i_eq, sh_iii_eq, sh_iir_eq, sh_iiQ_eq, sh_iiQPP_eq, sh_QPP_eq, sh_iiQP_eq, sh_iiiQP_eq, sh_iiiQi_eq, sp_divisor, sp_is_int, sp_number, sp_sign, sp_side, sp_red, sp_point3, sp_hd, iRng1D, sp_inside3, iZip, zQ_eq, sp_checkX, sp_turned85, sp_spot85, sp_boxAt85, sp_boxBad, sp_asked, sp_refused85, sp_spoiled, hG2]
      refine hq _ _ _ (Int.ediv_mul_cancel (Int.gcd_dvd_right b t)) (Int.ediv_mul_cancel (Int.gcd_dvd_left b t)) ?_ (s1.trans s2)
      have := gcd_coprime hn
      rw [Int.gcd_comm] at this
      exact this
theorem ok__law_point (T : Txt K mg A) : FnOk P w K mg base CX0 2 A.f__law_point A.fd__law_point ["_law_x", "_law_y", "_law_w"] (spOf K (sp_point3)) := by
  refine L3.Fun.okD 1 rfl T.F__law_point sc__law_point (fun ds G Q h => ?_) (fun cdv Ar outer s H ds G Q E hr h => ?_)
  · revert h; revert ds; refine inv_iii ?_; intros; exact rfl
  · refine ⟨_, (show PSsD _ (_ :: _) _ from (dss_cons (ds_set (i := 3) sc__law_point.nd rfl (Or.inr rfl) (de_call (ok__law_measure T) (hr.mono (by decide)) (by rfl) T.m__law_measure T.k__law_measure T.b__law_measure (da_cons (dv 2) (da_cons (de_call (ok__law_measure T) (hr.mono (by decide)) (by rfl) T.m__law_measure T.k__law_measure T.b__law_measure (da_cons (dv 0) (da_cons (dv 1) da_nil))) da_nil))))
      (dss_one (ds_ret (de_callTy cd_tuple (by rfl) T.z_tuple bt_tuple (da_cons (de_comp (ys := ["_law_size"]) (ks := [3]) rfl (id_seq (de_tup (da_cons (dv 0) (da_cons (dv 1) (da_cons (dv 2) da_nil))))) (fun _ _ _ _ => PCs.nil) (fun _ _ _ _ => (de_op od_fdivP (dv 0) (dv 1))) rfl ⟨rfl, trivial⟩ ⟨⟨rfl, rfl, rfl, _, rfl⟩, trivial⟩ rfl rfl rfl (by decide +kernel) (cells_ok (by rfl)) (by decide +kernel) (by decide +kernel)) da_nil)))))), ?_⟩
    revert h
    revert ds
    refine inv_iii ?_
    intro _ _ _ h
    rename_i x y w
    obtain ⟨⟨hw, hx, hy, hws⟩, hq⟩ := h
    simp only [dSeq, dAsg, dCB, dCons, dNil, dVar, dC, dOp, dUn, dTest, dAnd, dOr, dNot, dAndV, dIf, dTup, dLst, dSl, dPart, dNoPart, dIfS, dRet, dDrop, dNext, dNever, gdName, qAbs, qAdd, qI, qI0, qUn, qEq, qNe, qLen, qSl, qSorted2, dCall, st0, seqD, List.map_cons, List.map_nil, List.length_cons, List.length_nil, List.cons_append, List.nil_append, List.set_cons_zero, List.set_cons_succ, List.getElem?_cons_zero, List.getElem?_cons_succ, Option.some.injEq, Nat.reduceAdd, Nat.reduceSub, List.replicate, Bool.not_eq_true', decide_eq_true_eq, decide_eq_false_iff_not, decide_not, ite_not, Bool.not_eq_eq_eq_not, Bool.not_true, Bool.not_false, if_true, if_false, true_and, and_true, List.cons.injEq, D.int.injEq, D.bl.injEq, D.tup.injEq, ite_true, ite_false, reduceCtorEq, Bool.false_eq_true, divP_lit, pow_lit, mul_lit, mul_litL, qIx, at0, at1, at2, at3, at4, at5, gupd_same, Int.reduceLT, Int.reduceLE, Int.reducePow, Int.reduceToNat, Int.reduceMul, Int.reduceAdd, Int.reduceDiv, Int.reduceSub, Int.reduceNeg, Int.reduceEq, Int.reduceMod, Nat.reduceLT, Nat.reduceLeDiff, sz_line, and_assoc, dFor, iRng3, iSeq, dComp, pickS, qTuple, qInt, gdTup, gdCons, gdNil, qEqD, qNeD, plD, plDs, dpD, dpDs, Bool.and_self, Bool.true_and, Bool.and_true, Nat.max_self, Nat.zero_le, Bool.false_and, Bool.and_false, dRaise, dCallX, dCallN, dTry, dHand, dAs, dNoHand, exmD, valD, qIsX, kitD, sp_point, sh_ii_eq, sh_i_eq, sh_iii_eq, sh_iir_eq, sh_iiQ_eq, sh_iiQPP_eq, sh_QPP_eq, sh_iiQP_eq, sh_iiiQP_eq, sh_iiiQi_eq, sp_divisor, sp_is_int, sp_number, sp_sign, sp_side, sp_red, sp_point3, sp_hd, iRng1D, sp_inside3, iZip, zQ_eq, sp_checkX, sp_turned85, sp_spot85, sp_boxAt85, sp_boxBad, sp_asked, sp_refused85, sp_spoiled]
    intro G1 s1 G1' s1'
    have hg : 0 < ((Int.gcd w (Int.gcd x y : Nat) : Nat) : Int) := gcd_pos (fun h => by omega)
    have hgs : Sz 8000 ((Int.gcd w (Int.gcd x y : Nat) : Nat) : Int) := hws.gcd (hx.gcd hy)
    have hdv : ∀ i, CDivP i ((Int.gcd w (Int.gcd x y : Nat) : Nat) : Int) := fun i => divP_of hg hgs (by decide)
    have hR := red3_by (a := x) (b := y) (c := w) (g := Int.gcd w (Int.gcd x y : Nat)) (Int.gcd_comm _ _) (by omega) (s := ((Int.gcd w (Int.gcd x y : Nat) : Nat) : Int)) (by rw [if_neg (by omega)])
    simp only [Int.fdiv_eq_ediv_of_nonneg _ (Int.natCast_nonneg _)] at hR
    refine cloop_map (fun d => match d with
      | .int i => .int (i / ((Int.gcd w (Int.gcd x y : Nat) : Nat) : Int))
      | d => d) (fun _ _ => trivial) ?_ ?_
    · intro d hd G' R s2 k
      simp only [List.mem_cons, List.not_mem_nil, or_false] at hd
      rcases hd with rfl | rfl | rfl
      · simp only [dSeq, dAsg, dCB, dCons, dNil, dVar, dC, dOp, dUn, dTest, dAnd, dOr, dNot, dAndV, dIf, dTup, dLst, dSl, dPart, dNoPart, dIfS, dRet, dDrop, dNext, dNever, gdName, qAbs, qAdd, qI, qI0, qUn, qEq, qNe, qLen, qSl, qSorted2, dCall, st0, seqD, List.map_cons, List.map_nil, List.length_cons, List.length_nil, List.cons_append, List.nil_append, List.set_cons_zero, List.set_cons_succ, List.getElem?_cons_zero, List.getElem?_cons_succ, Option.some.injEq, Nat.reduceAdd, Nat.reduceSub, List.replicate, Bool.not_eq_true', decide_eq_true_eq, decide_eq_false_iff_not, decide_not, ite_not, Bool.not_eq_eq_eq_not, Bool.not_true, Bool.not_false, if_true, if_false, true_and, and_true, List.cons.injEq, D.int.injEq, D.bl.injEq, D.tup.injEq, ite_true, ite_false, reduceCtorEq, Bool.false_eq_true, divP_lit, pow_lit, mul_lit, mul_litL, qIx, at0, at1, at2, at3, at4, at5, gupd_same, Int.reduceLT, Int.reduceLE, Int.reducePow, Int.reduceToNat, Int.reduceMul, Int.reduceAdd, Int.reduceDiv, Int.reduceSub, Int.reduceNeg, Int.reduceEq, Int.reduceMod, Nat.reduceLT, Nat.reduceLeDiff, sz_line, and_assoc, dFor, iRng3, iSeq, dComp, pickS, qTuple, qInt, gdTup, gdCons, gdNil, qEqD, qNeD, plD, plDs, dpD, dpDs, Bool.and_self, Bool.true_and, Bool.and_true, Nat.max_self, Nat.zero_le, Bool.false_and, Bool.and_false, dRaise, dCallX, dCallN, dTry, dHand, dAs, dNoHand, exmD, valD, qIsX, kitD, sp_point, sh_ii_eq, sh_i_eq, sh_iii_eq, sh_iir_eq, sh_iiQ_eq, sh_iiQPP_eq, sh_QPP_eq, sh_iiQP_eq, sh_iiiQP_eq, sh_iiiQi_eq, sp_divisor, sp_is_int, sp_number, sp_sign, sp_side, sp_red, sp_point3, sp_hd, iRng1D, sp_inside3, iZip, zQ_eq, sp_checkX, sp_turned85, sp_spot85, sp_boxAt85, sp_boxBad, sp_asked, sp_refused85, sp_spoiled]
        exact ⟨hdv _, k _ .refl⟩
      · simp only [dSeq, dAsg, dCB, dCons, dNil, dVar, dC, dOp, dUn, dTest, dAnd, dOr, dNot, dAndV, dIf, dTup, dLst, dSl, dPart, dNoPart, dIfS, dRet, dDrop, dNext, dNever, gdName, qAbs, qAdd, qI, qI0, qUn, qEq, qNe, qLen, qSl, qSorted2, dCall, st0, seqD, List.map_cons, List.map_nil, List.length_cons, List.length_nil, List.cons_append, List.nil_append, List.set_cons_zero, List.set_cons_succ, List.getElem?_cons_zero, List.getElem?_cons_succ, Option.some.injEq, Nat.reduceAdd, Nat.reduceSub, List.replicate, Bool.not_eq_true', decide_eq_true_eq, decide_eq_false_iff_not, decide_not, ite_not, Bool.not_eq_eq_eq_not, Bool.not_true, Bool.not_false, if_true, if_false, true_and, and_true, List.cons.injEq, D.int.injEq, D.bl.injEq, D.tup.injEq, ite_true, ite_false, reduceCtorEq, Bool.false_eq_true, divP_lit, pow_lit, mul_lit, mul_litL, qIx, at0, at1, at2, at3, at4, at5, gupd_same, Int.reduceLT, Int.reduceLE, Int.reducePow, Int.reduceToNat, Int.reduceMul, Int.reduceAdd, Int.reduceDiv, Int.reduceSub, Int.reduceNeg, Int.reduceEq, Int.reduceMod, Nat.reduceLT, Nat.reduceLeDiff, sz_line, and_assoc, dFor, iRng3, iSeq, dComp, pickS, qTuple, qInt, gdTup, gdCons, gdNil, qEqD, qNeD, plD, plDs, dpD, dpDs, Bool.and_self, Bool.true_and, Bool.and_true, Nat.max_self, Nat.zero_le, Bool.false_and, Bool.and_false, dRaise, dCallX, dCallN, dTry, dHand, dAs, dNoHand, exmD, valD, qIsX, kitD, sp_point, sh_ii_eq, sh_i_eq, sh_iii_eq, sh_iir_eq, sh_iiQ_eq, sh_iiQPP_eq, sh_QPP_eq, sh_iiQP_eq, sh_iiiQP_eq, sh_iiiQi_eq, sp_divisor, sp_is_int, sp_number, sp_sign, sp_side, sp_red, sp_point3, sp_hd, iRng1D, sp_inside3, iZip, zQ_eq, sp_checkX, sp_turned85, sp_spot85, sp_boxAt85, sp_boxBad, sp_asked, sp_refused85, sp_spoiled]
        exact ⟨hdv _, k _ .refl⟩
      · simp only [dSeq, dAsg, dCB, dCons, dNil, dVar, dC, dOp, dUn, dTest, dAnd, dOr, dNot, dAndV, dIf, dTup, dLst, dSl, dPart, dNoPart, dIfS, dRet, dDrop, dNext, dNever, gdName, qAbs, qAdd, qI, qI0, qUn, qEq, qNe, qLen, qSl, qSorted2, dCall, st0, seqD, List.map_cons, List.map_nil, List.length_cons, List.length_nil, List.cons_append, List.nil_append, List.set_cons_zero, List.set_cons_succ, List.getElem?_cons_zero, List.getElem?_cons_succ, Option.some.injEq, Nat.reduceAdd, Nat.reduceSub, List.replicate, Bool.not_eq_true', decide_eq_true_eq, decide_eq_false_iff_not, decide_not, ite_not, Bool.not_eq_eq_eq_not, Bool.not_true, Bool.not_false, if_true, if_false, true_and, and_true, List.cons.injEq, D.int.injEq, D.bl.injEq, D.tup.injEq, ite_true, ite_false, reduceCtorEq, Bool.false_eq_true, divP_lit, pow_lit, mul_lit, mul_litL, qIx, at0, at1, at2, at3, at4, at5, gupd_same, Int.reduceLT, Int.reduceLE, Int.reducePow, Int.reduceToNat, Int.reduceMul, Int.reduceAdd, Int.reduceDiv, Int.reduceSub, Int.reduceNeg, Int.reduceEq, Int.reduceMod, Nat.reduceLT, Nat.reduceLeDiff, sz_line, and_assoc, dFor, iRng3, iSeq, dComp, pickS, qTuple, qInt, gdTup, gdCons, gdNil, qEqD, qNeD, plD, plDs, dpD, dpDs, Bool.and_self, Bool.true_and, Bool.and_true, Nat.max_self, Nat.zero_le, Bool.false_and, Bool.and_false, dRaise, dCallX, dCallN, dTry, dHand, dAs, dNoHand, exmD, valD, qIsX, kitD, sp_point, sh_ii_eq, sh_i_eq, sh_iii_eq, sh_iir_eq, sh_iiQ_eq, sh_iiQPP_eq, sh_QPP_eq, sh_iiQP_eq, sh_iiiQP_eq, sh_iiiQi_eq, sp_divisor, sp_is_int, sp_number, sp_sign, sp_side, sp_red, sp_point3, sp_hd, iRng1D, sp_inside3, iZip, zQ_eq, sp_checkX, sp_turned85, sp_spot85, sp_boxAt85, sp_boxBad, sp_asked, sp_refused85, sp_spoiled]
        exact ⟨hdv _, k _ .refl⟩
    · intro q G2 hq0 s2 hG2
      simp only [dSeq, dAsg, dCB, dCons, dNil, dVar, dC, dOp, dUn, dTest, dAnd, dOr, dNot, dAndV, dIf, dTup, dLst, dSl, dPart, dNoPart, dIfS, dRet, dDrop, dNext, dNever, gdName, qAbs, qAdd, qI, qI0, qUn, qEq, qNe, qLen, qSl, qSorted2, dCall, st0, seqD, List.map_cons, List.map_nil, List.length_cons, List.length_nil, List.cons_append, List.nil_append, List.set_cons_zero, List.set_cons_succ, List.getElem?_cons_zero, List.getElem?_cons_succ, Option.some.injEq, Nat.reduceAdd, Nat.reduceSub, List.replicate, Bool.not_eq_true', decide_eq_true_eq, decide_eq_false_iff_not, decide_not, ite_not, Bool.not_eq_eq_eq_not, Bool.not_true, Bool.not_false, if_true, if_false, true_and, and_true, List.cons.injEq, D.int.injEq, D.bl.injEq, D.tup.injEq, ite_true, ite_false, reduceCtorEq, Bool.false_eq_true, divP_lit, pow_lit, mul_lit, mul_litL, qIx, at0, at1, at2, at3, at4, at5, gupd_same, Int.reduceLT, Int.reduceLE, Int.reducePow, Int.reduceToNat, Int.reduceMul, Int.reduceAdd, Int.reduceDiv, Int.reduceSub, Int.reduceNeg, Int.reduceEq, Int.reduceMod, Nat.reduceLT, Nat.reduceLeDiff, sz_line, and_assoc, dFor, iRng3, iSeq, dComp, pickS, qTuple, qInt, gdTup, gdCons, gdNil, qEqD, qNeD, plD, plDs, dpD, dpDs, Bool.and_self, Bool.true_and, Bool.and_true, Nat.max_self, Nat.zero_le, Bool.false_and, Bool.and_false, dRaise, dCallX, dCallN, dTry, dHand, dAs, dNoHand, exmD, valD, qIsX, kitD, sp_point, sh_ii_eq, sh_i_eq, sh_iii_eq, sh_iir_eq, sh_iiQ_eq, sh_iiQPP_eq, sh_QPP_eq, sh_iiQP_eq, sh_iiiQP_eq, sh_iiiQi_eq, sp_divisor, sp_is_int, sp_number, sp_sign, sp_side, sp_red, sp_point3, sp_hd, iRng1D, sp_inside3, iZip, zQ_eq, sp_checkX, sp_turned85, sp_spot85, sp_boxAt85, sp_boxBad, sp_asked, sp_refused85, sp_spoiled, hG2]
      exact hq _ _ _ _ hR (s1.trans (s1'.trans s2))
theorem ok_spot_at (T : Txt K mg A) : FnOk P w K mg base CX0 3 A.f_spot_at A.fd_spot_at ["P", "heading", "t"] (spOf K (sp_spot85)) := by
  refine L3.Fun.okD 2 rfl T.F_spot_at sc_spot_at (fun ds G Q h => ?_) (fun cdv Ar outer s H ds G Q E hr h => ?_)
  · revert h; revert ds; refine inv_QPP ?_; intros; exact rfl
  · refine ⟨_, (show PSsD _ (_ :: _) _ from (dss_cons (ds_set (i := 3) sc_spot_at.nd rfl (Or.inl rfl) (de_op od_mul (de_ix (dv 2) de_int (fun _ _ => rfl)) (de_ix (dv 0) de_int (fun _ _ => rfl))))
      (dss_cons (ds_set (i := 4) sc_spot_at.nd rfl (Or.inl rfl) (de_ix (dv 2) de_int (fun _ _ => rfl)))
      (dss_one (ds_ret (de_call (ok_point_of T) (hr.mono (by decide)) (by rfl) T.m_point_of T.k_point_of T.b_point_of (da_cons (de_op od_add (de_op od_mul (de_ix (dv 0) de_int (fun _ _ => rfl)) (dv 4)) (de_op od_mul (de_ix (dv 1) de_int (fun _ _ => rfl)) (dv 3))) (da_cons (de_op od_add (de_op od_mul (de_ix (dv 0) de_int (fun _ _ => rfl)) (dv 4)) (de_op od_mul (de_ix (dv 1) de_int (fun _ _ => rfl)) (dv 3))) (da_cons (de_op od_mul (de_ix (dv 0) de_int (fun _ _ => rfl)) (dv 4)) da_nil))))))))), ?_⟩
    revert h
    revert ds
    refine inv_QPP ?_
    intro _ _ _ _ _ _ _ h
    rename_i x y w a b t s
    obtain ⟨⟨⟨rfl, rfl⟩, w0, one, sx, sy, sw, sa, sb⟩, hq⟩ := h
    simp only [dSeq, dAsg, dCB, dCons, dNil, dVar, dC, dOp, dUn, dTest, dAnd, dOr, dNot, dAndV, dIf, dTup, dLst, dSl, dPart, dNoPart, dIfS, dRet, dDrop, dNext, dNever, gdName, qAbs, qAdd, qI, qI0, qUn, qEq, qNe, qLen, qSl, qSorted2, dCall, st0, seqD, List.map_cons, List.map_nil, List.length_cons, List.length_nil, List.cons_append, List.nil_append, List.set_cons_zero, List.set_cons_succ, List.getElem?_cons_zero, List.getElem?_cons_succ, Option.some.injEq, Nat.reduceAdd, Nat.reduceSub, List.replicate, Bool.not_eq_true', decide_eq_true_eq, decide_eq_false_iff_not, decide_not, ite_not, Bool.not_eq_eq_eq_not, Bool.not_true, Bool.not_false, if_true, if_false, true_and, and_true, List.cons.injEq, D.int.injEq, D.bl.injEq, D.tup.injEq, ite_true, ite_false, reduceCtorEq, Bool.false_eq_true, divP_lit, pow_lit, mul_lit, mul_litL, qIx, at0, at1, at2, at3, at4, at5, gupd_same, Int.reduceLT, Int.reduceLE, Int.reducePow, Int.reduceToNat, Int.reduceMul, Int.reduceAdd, Int.reduceDiv, Int.reduceSub, Int.reduceNeg, Int.reduceEq, Int.reduceMod, Nat.reduceLT, Nat.reduceLeDiff, sz_line, and_assoc, dFor, iRng3, iSeq, dComp, pickS, qTuple, qInt, gdTup, gdCons, gdNil, qEqD, qNeD, plD, plDs, dpD, dpDs, Bool.and_self, Bool.true_and, Bool.and_true, Nat.max_self, Nat.zero_le, Bool.false_and, Bool.and_false, dRaise, dCallX, dCallN, dTry, dHand, dAs, dNoHand, exmD, valD, qIsX, kitD, sp_point, sh_ii_eq, sh_i_eq, sh_iii_eq, sh_iir_eq, sh_iiQ_eq, sh_iiQPP_eq, sh_QPP_eq, sh_iiQP_eq, sh_iiiQP_eq, sh_iiiQi_eq, sp_divisor, sp_is_int, sp_number, sp_sign, sp_side, sp_red, sp_point3, sp_hd, iRng1D, sp_inside3, iZip, zQ_eq, sp_checkX, sp_turned85, sp_spot85, sp_boxAt85, sp_boxBad, sp_asked, sp_refused85, sp_spoiled]
    have z : Sz 10 (0 * w) := by rw [Int.zero_mul]; exact .lit (by decide)
    have e : ∀ {p c : Int}, p * 1 + c * (0 * w) = p := fun {p c} => by rw [Int.zero_mul, Int.mul_zero, Int.mul_one, Int.add_zero]
    rw [e, e, Int.mul_one]
    refine ⟨mulOk sa z (by decide), mulOk sb z (by decide), by omega, sx.mono (by decide), sy.mono (by decide), sw.mono (by decide), fun x' y' w' G1 hR g1 => ?_⟩
    obtain ⟨q1, q2, q3⟩ := low_uniq hR.pos w0 hR.one one hR.s1 hR.s2
    rw [q1, q2, q3]
    exact hq _ g1
theorem ok__law_heading (T : Txt K mg A) : FnOk P w K mg base CX0 3 A.f__law_heading A.fd__law_heading ["_law_a", "_law_b"] (spOf K ((sp_hd 400))) := by
  refine L3.Fun.okD 0 rfl T.F__law_heading sc__law_heading (fun ds G Q h => ?_) (fun cdv Ar outer s H ds G Q E hr h => ?_)
  · revert h; revert ds; refine inv_ii ?_; intros; exact rfl
  · refine ⟨_, (show PSsD _ (_ :: _) _ from (dss_cons (ds_if (PWD.pt (dw_and (dt_cmp (od_eqD hr.units) (dv 0) de_int (nomark _)) (dw_and1 (dt_cmp (od_eqD hr.units) (dv 1) de_int (nomark _))))) (dss_one (ds_ret (de_tup (da_cons de_int (da_cons de_int da_nil))))) dss_nil)
      (dss_one (ds_ret (de_call (ok__law_reduced T) (hr.mono (by decide)) (by rfl) T.m__law_reduced T.k__law_reduced T.b__law_reduced (da_cons (dv 0) (da_cons (dv 1) da_nil))))))), ?_⟩
    revert h
    revert ds
    refine inv_ii ?_
    intro _ _ h
    rename_i a b
    obtain ⟨⟨ha, hb⟩, hq⟩ := h
    simp only [dSeq, dAsg, dCB, dCons, dNil, dVar, dC, dOp, dUn, dTest, dAnd, dOr, dNot, dAndV, dIf, dTup, dLst, dSl, dPart, dNoPart, dIfS, dRet, dDrop, dNext, dNever, gdName, qAbs, qAdd, qI, qI0, qUn, qEq, qNe, qLen, qSl, qSorted2, dCall, st0, seqD, List.map_cons, List.map_nil, List.length_cons, List.length_nil, List.cons_append, List.nil_append, List.set_cons_zero, List.set_cons_succ, List.getElem?_cons_zero, List.getElem?_cons_succ, Option.some.injEq, Nat.reduceAdd, Nat.reduceSub, List.replicate, Bool.not_eq_true', decide_eq_true_eq, decide_eq_false_iff_not, decide_not, ite_not, Bool.not_eq_eq_eq_not, Bool.not_true, Bool.not_false, if_true, if_false, true_and, and_true, List.cons.injEq, D.int.injEq, D.bl.injEq, D.tup.injEq, ite_true, ite_false, reduceCtorEq, Bool.false_eq_true, divP_lit, pow_lit, mul_lit, mul_litL, qIx, at0, at1, at2, at3, at4, at5, gupd_same, Int.reduceLT, Int.reduceLE, Int.reducePow, Int.reduceToNat, Int.reduceMul, Int.reduceAdd, Int.reduceDiv, Int.reduceSub, Int.reduceNeg, Int.reduceEq, Int.reduceMod, Nat.reduceLT, Nat.reduceLeDiff, sz_line, and_assoc, dFor, iRng3, iSeq, dComp, pickS, qTuple, qInt, gdTup, gdCons, gdNil, qEqD, qNeD, plD, plDs, dpD, dpDs, Bool.and_self, Bool.true_and, Bool.and_true, Nat.max_self, Nat.zero_le, Bool.false_and, Bool.and_false, dRaise, dCallX, dCallN, dTry, dHand, dAs, dNoHand, exmD, valD, qIsX, kitD, sp_point, sh_ii_eq, sh_i_eq, sh_iii_eq, sh_iir_eq, sh_iiQ_eq, sh_iiQPP_eq, sh_QPP_eq, sh_iiQP_eq, sh_iiiQP_eq, sh_iiiQi_eq, sp_divisor, sp_is_int, sp_number, sp_sign, sp_side, sp_red, sp_point3, sp_hd, iRng1D, sp_inside3, iZip, zQ_eq, sp_checkX, sp_turned85, sp_spot85, sp_boxAt85, sp_boxBad, sp_asked, sp_refused85, sp_spoiled]
    have R : ¬ (a = 0 ∧ b = 0) → ¬ (a = 0 ∧ b = 0) ∧ Sz 8000 a ∧ Sz 8000 b ∧ ∀ (t' b' : Int) (G' : GHp), t' * (Int.gcd b a : Nat) = a → b' * (Int.gcd b a : Nat) = b → Int.gcd t' b' = 1 → GS G G' → Q (D.tup [D.int t', D.int b']) G' := fun hn => by
      have hg := gcd_pos (a := b) (b := a) fun z => hn ⟨z.2, z.1⟩
      refine ⟨hn, ha.mono (by decide), hb.mono (by decide), fun t' b' G1 e1 e2 h1 s1 => hq _ _ _ ⟨h1, ?_, ?_⟩ s1⟩
      · by_cases z : a = 0
        · rw [z] at e1 hg
          rcases Int.mul_eq_zero.mp e1 with e | e
          · rw [e]; exact ⟨Nat.two_pow_pos _⟩
          · omega
        · exact le_of_dvd_sz z ⟨_, e1.symm⟩ ha
      · by_cases z : b = 0
        · rw [z] at e2
          rcases Int.mul_eq_zero.mp e2 with e | e
          · rw [e]; exact ⟨Nat.two_pow_pos _⟩
          · rw [z] at hg; omega
        · exact le_of_dvd_sz z ⟨_, e2.symm⟩ hb
    by_cases h0 : a = 0
    · by_cases h1 : b = 0
      · rw [if_pos h0, if_pos h1]
        exact hq _ _ _ ⟨by decide, .mono (.lit (by decide : decide ((2 : Int).natAbs < 2 ^ 3) = true)) (by decide), .mono (.lit (by decide : decide ((1 : Int).natAbs < 2 ^ 3) = true)) (by decide)⟩ .refl
      · rw [if_pos h0, if_neg h1]
        exact R fun z => h1 z.2
    · rw [if_neg h0]
      exact R fun z => h0 z.1
theorem ok__law_inside (T : Txt K mg A) : FnOk P w K mg base CX0 3 A.f__law_inside A.fd__law_inside ["_law_wide", "_law_high", "_law_some"] (spOf K (sp_inside3)) := by
  refine L3.Fun.okD 1 rfl T.F__law_inside sc__law_inside (fun ds G Q h => ?_) (fun cdv Ar outer s H ds G Q E hr h => ?_)
  · revert h; revert ds; refine inv_iir ?_; intros; exact rfl
  · refine ⟨_, (show PSsD _ (_ :: _) _ from (dss_cons (ds_set (i := 3) sc__law_inside.nd rfl (Or.inl rfl) (de_op od_add de_int (de_callB cd_abs (by rfl) T.z_abs bt_abs (da_cons (de_ix (dv 2) de_int (fun _ _ => rfl)) da_nil))))
      (dss_one (ds_ret (de_call (ok__law_point T) (hr.mono (by decide)) (by rfl) T.m__law_point T.k__law_point T.b__law_point (da_cons (de_op od_add de_int (de_op od_modP (de_ix (dv 2) de_int (fun _ _ => rfl)) (de_op od_sub (de_op od_mul (dv 0) (dv 3)) de_int))) (da_cons (de_op od_add de_int (de_op od_modP (de_ix (dv 2) de_int (fun _ _ => rfl)) (de_op od_sub (de_op od_mul (dv 1) (dv 3)) de_int))) (da_cons (dv 3) da_nil)))))))), ?_⟩
    revert h
    revert ds
    refine inv_iir ?_
    intro _ _ _ h
    rename_i wide high p
    obtain ⟨u, v, z, rest, hG, ⟨w0, h0, ws, hs, zs⟩, hq⟩ := h
    simp only [dSeq, dAsg, dCB, dCons, dNil, dVar, dC, dOp, dUn, dTest, dAnd, dOr, dNot, dAndV, dIf, dTup, dLst, dSl, dPart, dNoPart, dIfS, dRet, dDrop, dNext, dNever, gdName, qAbs, qAdd, qI, qI0, qUn, qEq, qNe, qLen, qSl, qSorted2, dCall, st0, seqD, List.map_cons, List.map_nil, List.length_cons, List.length_nil, List.cons_append, List.nil_append, List.set_cons_zero, List.set_cons_succ, List.getElem?_cons_zero, List.getElem?_cons_succ, Option.some.injEq, Nat.reduceAdd, Nat.reduceSub, List.replicate, Bool.not_eq_true', decide_eq_true_eq, decide_eq_false_iff_not, decide_not, ite_not, Bool.not_eq_eq_eq_not, Bool.not_true, Bool.not_false, if_true, if_false, true_and, and_true, List.cons.injEq, D.int.injEq, D.bl.injEq, D.tup.injEq, ite_true, ite_false, reduceCtorEq, Bool.false_eq_true, divP_lit, pow_lit, mul_lit, mul_litL, qIx, at0, at1, at2, at3, at4, at5, gupd_same, Int.reduceLT, Int.reduceLE, Int.reducePow, Int.reduceToNat, Int.reduceMul, Int.reduceAdd, Int.reduceDiv, Int.reduceSub, Int.reduceNeg, Int.reduceEq, Int.reduceMod, Nat.reduceLT, Nat.reduceLeDiff, sz_line, and_assoc, dFor, iRng3, iSeq, dComp, pickS, qTuple, qInt, gdTup, gdCons, gdNil, qEqD, qNeD, plD, plDs, dpD, dpDs, Bool.and_self, Bool.true_and, Bool.and_true, Nat.max_self, Nat.zero_le, Bool.false_and, Bool.and_false, dRaise, dCallX, dCallN, dTry, dHand, dAs, dNoHand, exmD, valD, qIsX, kitD, sp_point, sh_ii_eq, sh_i_eq, sh_iii_eq, sh_iir_eq, sh_iiQ_eq, sh_iiQPP_eq, sh_QPP_eq, sh_iiQP_eq, sh_iiiQP_eq, sh_iiiQi_eq, sp_divisor, sp_is_int, sp_number, sp_sign, sp_side, sp_red, sp_point3, sp_hd, iRng1D, sp_inside3, iZip, zQ_eq, sp_checkX, sp_turned85, sp_spot85, sp_boxAt85, sp_boxBad, sp_asked, sp_refused85, sp_spoiled, hG]
    have n2 := absI_nn z
    have mS : Sz 201 (2 + absI z) := (Sz.lit (m := 200) (x := 2) (by decide +kernel)).add zs.abs
    have v2 : 2 ≤ 2 + absI z := by omega
    generalize 2 + absI z = m at *
    have a1 : 1 < wide * m := by
      have : 1 * m ≤ wide * m := Int.mul_le_mul_of_nonneg_right (by omega) (by omega)
      omega
    have b1 : 1 < high * m := by
      have : 1 * m ≤ high * m := Int.mul_le_mul_of_nonneg_right (by omega) (by omega)
      omega
    have aS : Sz 401 (wide * m) := ws.mul mS
    have bS : Sz 401 (high * m) := hs.mul mS
    have x0 := Int.emod_nonneg u (by omega : wide * m - 1 ≠ 0)
    have x1 := Int.emod_lt_of_pos u (by omega : 0 < wide * m - 1)
    have y0 := Int.emod_nonneg v (by omega : high * m - 1 ≠ 0)
    have y1 := Int.emod_lt_of_pos v (by omega : 0 < high * m - 1)
    have xS : Sz 403 (1 + u % (wide * m - 1)) := ((Sz.lit (m := 402) (x := 1) (by decide +kernel)).add (Sz.mod (by omega) (aS.sub (.lit (by decide +kernel)))))
    have yS : Sz 403 (1 + v % (high * m - 1)) := ((Sz.lit (m := 402) (x := 1) (by decide +kernel)).add (Sz.mod (by omega) (bS.sub (.lit (by decide +kernel)))))
    refine ⟨mulOk ws mS (by decide), by omega, mulOk hs mS (by decide), by omega, by omega, xS.mono (by decide), yS.mono (by decide), mS.mono (by decide), fun x y w G1 hR s1 => ?_⟩
    exact hq _ _ _ _ (hR.inBox (by omega) (by omega) (by omega) (by omega) (by omega) (xS.mono (by decide)) (yS.mono (by decide)) (mS.mono (by decide))) s1
theorem ok__law_spoiled (T : Txt K mg A) : FnOk P w K mg base CX0 3 A.f__law_spoiled A.fd__law_spoiled ["_law_way", "_law_wide", "_law_high", "_law_kp", "_law_low"] (spOf K (sp_spoiled)) := by
  refine L3.Fun.okD 3 rfl T.F__law_spoiled sc__law_spoiled (fun ds G Q h => ?_) (fun cdv Ar outer s H ds G Q E hr h => ?_)
  · revert h; revert ds; refine inv_iiiQi ?_; intros; exact rfl
  · refine ⟨_, (show PSsD _ (_ :: _) _ from (dss_cons (ds_asg (dv 3) (gd_tup (n := 3) rfl (gds_cons (gd_name (i := 5) sc__law_spoiled.nd rfl (Or.inl rfl)) (gds_cons (gd_name (i := 6) sc__law_spoiled.nd rfl (Or.inl rfl)) (gds_cons (gd_name (i := 7) sc__law_spoiled.nd rfl (Or.inl rfl)) gds_nil)))))
      (dss_cons (ds_if (dt_cmp (od_eqD hr.units) (dv 0) de_int (nomark _)) (dss_one (ds_ret (de_tup (da_cons (de_un ud_neg (dv 4)) (da_cons (dv 2) (da_cons (dv 3) da_nil)))))) dss_nil)
      (dss_cons (ds_if (dt_cmp (od_eqD hr.units) (dv 0) de_int (nomark _)) (dss_one (ds_ret (de_tup (da_cons (dv 1) (da_cons (de_un ud_neg (dv 4)) (da_cons (dv 3) da_nil)))))) dss_nil)
      (dss_cons (ds_if (dt_cmp (od_eqD hr.units) (de_op od_modP (dv 0) de_int) de_int (nomark _)) (dss_one (ds_set (i := 5) sc__law_spoiled.nd rfl (Or.inl rfl) (de_ix (de_lst (da_cons de_int (da_cons (de_op od_mul (dv 1) (dv 7)) (da_cons (de_op od_sub (de_un ud_neg de_int) (dv 4)) (da_cons (de_op od_add (de_op od_add (de_op od_mul (dv 1) (dv 7)) de_int) (dv 4)) da_nil))))) (de_op od_fdivP (dv 0) de_int) (fun _ _ => rfl)))) (dss_one (ds_set (i := 6) sc__law_spoiled.nd rfl (Or.inl rfl) (de_ix (de_lst (da_cons de_int (da_cons (de_op od_mul (dv 2) (dv 7)) (da_cons (de_op od_sub (de_un ud_neg de_int) (dv 4)) (da_cons (de_op od_add (de_op od_add (de_op od_mul (dv 2) (dv 7)) de_int) (dv 4)) da_nil))))) (de_op od_fdivP (dv 0) de_int) (fun _ _ => rfl)))))
      (dss_one (ds_ret (de_tup (da_cons (dv 1) (da_cons (dv 2) (da_cons (de_call (ok__law_point T) (hr.mono (by decide)) (by rfl) T.m__law_point T.k__law_point T.b__law_point (da_cons (dv 5) (da_cons (dv 6) (da_cons (dv 7) da_nil)))) da_nil))))))))))), ?_⟩
    revert h
    revert ds
    refine inv_iiiQi ?_
    intro _ _ _ _ _ _ _ h
    rename_i way wide high x y w low
    obtain ⟨⟨⟨y0, y1⟩, l0, ls, w0, h0, ws, hs, hI⟩, hq⟩ := h
    have sw := hI.sw
    refine seq_cut fun M1 d1 => ?_
    simp only [dSeq, dAsg, dCB, dCons, dNil, dVar, dC, dOp, dUn, dTest, dAnd, dOr, dNot, dAndV, dIf, dTup, dLst, dSl, dPart, dNoPart, dIfS, dRet, dDrop, dNext, dNever, gdName, qAbs, qAdd, qI, qI0, qUn, qEq, qNe, qLen, qSl, qSorted2, dCall, st0, seqD, List.map_cons, List.map_nil, List.length_cons, List.length_nil, List.cons_append, List.nil_append, List.set_cons_zero, List.set_cons_succ, List.getElem?_cons_zero, List.getElem?_cons_succ, Option.some.injEq, Nat.reduceAdd, Nat.reduceSub, List.replicate, Bool.not_eq_true', decide_eq_true_eq, decide_eq_false_iff_not, decide_not, ite_not, Bool.not_eq_eq_eq_not, Bool.not_true, Bool.not_false, if_true, if_false, true_and, and_true, List.cons.injEq, D.int.injEq, D.bl.injEq, D.tup.injEq, ite_true, ite_false, reduceCtorEq, Bool.false_eq_true, divP_lit, pow_lit, mul_lit, mul_litL, qIx, at0, at1, at2, at3, at4, at5, gupd_same, Int.reduceLT, Int.reduceLE, Int.reducePow, Int.reduceToNat, Int.reduceMul, Int.reduceAdd, Int.reduceDiv, Int.reduceSub, Int.reduceNeg, Int.reduceEq, Int.reduceMod, Nat.reduceLT, Nat.reduceLeDiff, sz_line, and_assoc, dFor, iRng3, iSeq, dComp, pickS, qTuple, qInt, gdTup, gdCons, gdNil, qEqD, qNeD, plD, plDs, dpD, dpDs, Bool.and_self, Bool.true_and, Bool.and_true, Nat.max_self, Nat.zero_le, Bool.false_and, Bool.and_false, dRaise, dCallX, dCallN, dTry, dHand, dAs, dNoHand, exmD, valD, qIsX, kitD, sp_point, sh_ii_eq, sh_i_eq, sh_iii_eq, sh_iir_eq, sh_iiQ_eq, sh_iiQPP_eq, sh_QPP_eq, sh_iiQP_eq, sh_iiiQP_eq, sh_iiiQi_eq, sp_divisor, sp_is_int, sp_number, sp_sign, sp_side, sp_red, sp_point3, sp_hd, iRng1D, sp_inside3, iZip, zQ_eq, sp_checkX, sp_turned85, sp_spot85, sp_boxAt85, sp_boxBad, sp_asked, sp_refused85, sp_spoiled]
    refine d1 _ _ (seq_cut fun M2 d2 => ?_)
    simp only [dSeq, dAsg, dCB, dCons, dNil, dVar, dC, dOp, dUn, dTest, dAnd, dOr, dNot, dAndV, dIf, dTup, dLst, dSl, dPart, dNoPart, dIfS, dRet, dDrop, dNext, dNever, gdName, qAbs, qAdd, qI, qI0, qUn, qEq, qNe, qLen, qSl, qSorted2, dCall, st0, seqD, List.map_cons, List.map_nil, List.length_cons, List.length_nil, List.cons_append, List.nil_append, List.set_cons_zero, List.set_cons_succ, List.getElem?_cons_zero, List.getElem?_cons_succ, Option.some.injEq, Nat.reduceAdd, Nat.reduceSub, List.replicate, Bool.not_eq_true', decide_eq_true_eq, decide_eq_false_iff_not, decide_not, ite_not, Bool.not_eq_eq_eq_not, Bool.not_true, Bool.not_false, if_true, if_false, true_and, and_true, List.cons.injEq, D.int.injEq, D.bl.injEq, D.tup.injEq, ite_true, ite_false, reduceCtorEq, Bool.false_eq_true, divP_lit, pow_lit, mul_lit, mul_litL, qIx, at0, at1, at2, at3, at4, at5, gupd_same, Int.reduceLT, Int.reduceLE, Int.reducePow, Int.reduceToNat, Int.reduceMul, Int.reduceAdd, Int.reduceDiv, Int.reduceSub, Int.reduceNeg, Int.reduceEq, Int.reduceMod, Nat.reduceLT, Nat.reduceLeDiff, sz_line, and_assoc, dFor, iRng3, iSeq, dComp, pickS, qTuple, qInt, gdTup, gdCons, gdNil, qEqD, qNeD, plD, plDs, dpD, dpDs, Bool.and_self, Bool.true_and, Bool.and_true, Nat.max_self, Nat.zero_le, Bool.false_and, Bool.and_false, dRaise, dCallX, dCallN, dTry, dHand, dAs, dNoHand, exmD, valD, qIsX, kitD, sp_point, sh_ii_eq, sh_i_eq, sh_iii_eq, sh_iir_eq, sh_iiQ_eq, sh_iiQPP_eq, sh_QPP_eq, sh_iiQP_eq, sh_iiiQP_eq, sh_iiiQi_eq, sp_divisor, sp_is_int, sp_number, sp_sign, sp_side, sp_red, sp_point3, sp_hd, iRng1D, sp_inside3, iZip, zQ_eq, sp_checkX, sp_turned85, sp_spot85, sp_boxAt85, sp_boxBad, sp_asked, sp_refused85, sp_spoiled]
    have lS := ls.neg.mono (by decide : 200 ≤ 201)
    have wS := ws.mono (by decide : 200 ≤ 201)
    have hS := hs.mono (by decide : 200 ≤ 201)
    have xS := hI.sx.mono (by decide : 410 ≤ 700)
    have yS := hI.sy.mono (by decide : 410 ≤ 700)
    have vS := hI.sw.mono (by decide : 410 ≤ 700)
    by_cases h8 : way = 8
    · rw [if_pos h8]
      exact hq _ _ _ _ _ _ lS hS hI.pos hI.one xS yS vS (fun z => by have := z.1.1; omega) .refl
    rw [if_neg h8]
    refine d2 _ _ (seq_cut fun M3 d3 => ?_)
    simp only [dSeq, dAsg, dCB, dCons, dNil, dVar, dC, dOp, dUn, dTest, dAnd, dOr, dNot, dAndV, dIf, dTup, dLst, dSl, dPart, dNoPart, dIfS, dRet, dDrop, dNext, dNever, gdName, qAbs, qAdd, qI, qI0, qUn, qEq, qNe, qLen, qSl, qSorted2, dCall, st0, seqD, List.map_cons, List.map_nil, List.length_cons, List.length_nil, List.cons_append, List.nil_append, List.set_cons_zero, List.set_cons_succ, List.getElem?_cons_zero, List.getElem?_cons_succ, Option.some.injEq, Nat.reduceAdd, Nat.reduceSub, List.replicate, Bool.not_eq_true', decide_eq_true_eq, decide_eq_false_iff_not, decide_not, ite_not, Bool.not_eq_eq_eq_not, Bool.not_true, Bool.not_false, if_true, if_false, true_and, and_true, List.cons.injEq, D.int.injEq, D.bl.injEq, D.tup.injEq, ite_true, ite_false, reduceCtorEq, Bool.false_eq_true, divP_lit, pow_lit, mul_lit, mul_litL, qIx, at0, at1, at2, at3, at4, at5, gupd_same, Int.reduceLT, Int.reduceLE, Int.reducePow, Int.reduceToNat, Int.reduceMul, Int.reduceAdd, Int.reduceDiv, Int.reduceSub, Int.reduceNeg, Int.reduceEq, Int.reduceMod, Nat.reduceLT, Nat.reduceLeDiff, sz_line, and_assoc, dFor, iRng3, iSeq, dComp, pickS, qTuple, qInt, gdTup, gdCons, gdNil, qEqD, qNeD, plD, plDs, dpD, dpDs, Bool.and_self, Bool.true_and, Bool.and_true, Nat.max_self, Nat.zero_le, Bool.false_and, Bool.and_false, dRaise, dCallX, dCallN, dTry, dHand, dAs, dNoHand, exmD, valD, qIsX, kitD, sp_point, sh_ii_eq, sh_i_eq, sh_iii_eq, sh_iir_eq, sh_iiQ_eq, sh_iiQPP_eq, sh_QPP_eq, sh_iiQP_eq, sh_iiiQP_eq, sh_iiiQi_eq, sp_divisor, sp_is_int, sp_number, sp_sign, sp_side, sp_red, sp_point3, sp_hd, iRng1D, sp_inside3, iZip, zQ_eq, sp_checkX, sp_turned85, sp_spot85, sp_boxAt85, sp_boxBad, sp_asked, sp_refused85, sp_spoiled]
    by_cases h9 : way = 9
    · rw [if_pos h9]
      exact hq _ _ _ _ _ _ wS lS hI.pos hI.one xS yS vS (fun z => by have := z.1.2; omega) .refl
    rw [if_neg h9]
    refine d3 _ _ (seq_cut fun M4 d4 => ?_)
    simp only [dSeq, dAsg, dCB, dCons, dNil, dVar, dC, dOp, dUn, dTest, dAnd, dOr, dNot, dAndV, dIf, dTup, dLst, dSl, dPart, dNoPart, dIfS, dRet, dDrop, dNext, dNever, gdName, qAbs, qAdd, qI, qI0, qUn, qEq, qNe, qLen, qSl, qSorted2, dCall, st0, seqD, List.map_cons, List.map_nil, List.length_cons, List.length_nil, List.cons_append, List.nil_append, List.set_cons_zero, List.set_cons_succ, List.getElem?_cons_zero, List.getElem?_cons_succ, Option.some.injEq, Nat.reduceAdd, Nat.reduceSub, List.replicate, Bool.not_eq_true', decide_eq_true_eq, decide_eq_false_iff_not, decide_not, ite_not, Bool.not_eq_eq_eq_not, Bool.not_true, Bool.not_false, if_true, if_false, true_and, and_true, List.cons.injEq, D.int.injEq, D.bl.injEq, D.tup.injEq, ite_true, ite_false, reduceCtorEq, Bool.false_eq_true, divP_lit, pow_lit, mul_lit, mul_litL, qIx, at0, at1, at2, at3, at4, at5, gupd_same, Int.reduceLT, Int.reduceLE, Int.reducePow, Int.reduceToNat, Int.reduceMul, Int.reduceAdd, Int.reduceDiv, Int.reduceSub, Int.reduceNeg, Int.reduceEq, Int.reduceMod, Nat.reduceLT, Nat.reduceLeDiff, sz_line, and_assoc, dFor, iRng3, iSeq, dComp, pickS, qTuple, qInt, gdTup, gdCons, gdNil, qEqD, qNeD, plD, plDs, dpD, dpDs, Bool.and_self, Bool.true_and, Bool.and_true, Nat.max_self, Nat.zero_le, Bool.false_and, Bool.and_false, dRaise, dCallX, dCallN, dTry, dHand, dAs, dNoHand, exmD, valD, qIsX, kitD, sp_point, sh_ii_eq, sh_i_eq, sh_iii_eq, sh_iir_eq, sh_iiQ_eq, sh_iiQPP_eq, sh_QPP_eq, sh_iiQP_eq, sh_iiiQP_eq, sh_iiiQi_eq, sp_divisor, sp_is_int, sp_number, sp_sign, sp_side, sp_red, sp_point3, sp_hd, iRng1D, sp_inside3, iZip, zQ_eq, sp_checkX, sp_turned85, sp_spot85, sp_boxAt85, sp_boxBad, sp_asked, sp_refused85, sp_spoiled]
    have pk : ∀ {B : Int}, 0 < B → Sz 610 B → ∃ X : Int, atI [D.int 0, D.int B, D.int (-1 - low), D.int (B + 1 + low)] (way / 2) = some (.int X) ∧ ¬ (0 < X ∧ X < B) ∧ Sz 650 X := fun {B} hB sB => by
      have m0 : 0 ≤ way / 2 := by omega
      have m1 : way / 2 < 4 := by omega
      have sL : Sz 611 (-1 - low) := ((Sz.lit (m := 610) (x := -1) (by decide +kernel)).sub (ls.mono (by decide)))
      have sM : Sz 612 (B + 1 + low) := ((sB.add (.lit (by decide +kernel))).add (ls.mono (by decide)))
      generalize way / 2 = v at *
      have hc : v = 0 ∨ v = 1 ∨ v = 2 ∨ v = 3 := by omega
      rcases hc with rfl | rfl | rfl | rfl
      · exact ⟨_, at0, by omega, .lit (by decide +kernel)⟩
      · exact ⟨_, at1, by omega, sB.mono (by decide)⟩
      · exact ⟨_, at2, by omega, sL.mono (by decide)⟩
      · exact ⟨_, at3, by omega, sM.mono (by decide)⟩
    have p0 := hI.pos
    have fin : ∀ (X Y : Int) (G1 : GHp), ¬ ((0 < X ∧ X < wide * w) ∧ (0 < Y ∧ Y < high * w)) → Sz 650 X → Sz 650 Y → GS G G1 → M4 [some (.int way), some (.int wide), some (.int high), some (.tup [.int x, .int y, .int w]), some (.int low), some (.int X), some (.int Y), some (.int w)] G1 := by
      intro X Y G1 ho sX sY s1
      refine d4 _ _ ?_
      simp only [dSeq, dAsg, dCB, dCons, dNil, dVar, dC, dOp, dUn, dTest, dAnd, dOr, dNot, dAndV, dIf, dTup, dLst, dSl, dPart, dNoPart, dIfS, dRet, dDrop, dNext, dNever, gdName, qAbs, qAdd, qI, qI0, qUn, qEq, qNe, qLen, qSl, qSorted2, dCall, st0, seqD, List.map_cons, List.map_nil, List.length_cons, List.length_nil, List.cons_append, List.nil_append, List.set_cons_zero, List.set_cons_succ, List.getElem?_cons_zero, List.getElem?_cons_succ, Option.some.injEq, Nat.reduceAdd, Nat.reduceSub, List.replicate, Bool.not_eq_true', decide_eq_true_eq, decide_eq_false_iff_not, decide_not, ite_not, Bool.not_eq_eq_eq_not, Bool.not_true, Bool.not_false, if_true, if_false, true_and, and_true, List.cons.injEq, D.int.injEq, D.bl.injEq, D.tup.injEq, ite_true, ite_false, reduceCtorEq, Bool.false_eq_true, divP_lit, pow_lit, mul_lit, mul_litL, qIx, at0, at1, at2, at3, at4, at5, gupd_same, Int.reduceLT, Int.reduceLE, Int.reducePow, Int.reduceToNat, Int.reduceMul, Int.reduceAdd, Int.reduceDiv, Int.reduceSub, Int.reduceNeg, Int.reduceEq, Int.reduceMod, Nat.reduceLT, Nat.reduceLeDiff, sz_line, and_assoc, dFor, iRng3, iSeq, dComp, pickS, qTuple, qInt, gdTup, gdCons, gdNil, qEqD, qNeD, plD, plDs, dpD, dpDs, Bool.and_self, Bool.true_and, Bool.and_true, Nat.max_self, Nat.zero_le, Bool.false_and, Bool.and_false, dRaise, dCallX, dCallN, dTry, dHand, dAs, dNoHand, exmD, valD, qIsX, kitD, sp_point, sh_ii_eq, sh_i_eq, sh_iii_eq, sh_iir_eq, sh_iiQ_eq, sh_iiQPP_eq, sh_QPP_eq, sh_iiQP_eq, sh_iiiQP_eq, sh_iiiQi_eq, sp_divisor, sp_is_int, sp_number, sp_sign, sp_side, sp_red, sp_point3, sp_hd, iRng1D, sp_inside3, iZip, zQ_eq, sp_checkX, sp_turned85, sp_spot85, sp_boxAt85, sp_boxBad, sp_asked, sp_refused85, sp_spoiled]
      have wn : w ≠ 0 := by omega
      exact ⟨p0, sX.mono (by decide), sY.mono (by decide), hI.sw.mono (by decide), fun x' y' w' G2 hR s2 => hq _ _ _ _ _ _ wS hS hR.pos hR.one ((hR.sza wn sX).mono (by decide)) ((hR.szb wn sY).mono (by decide)) ((hR.szc wn vS)) (hR.out p0 ho) (s1.trans s2)⟩
    by_cases he : way % 2 = 0
    · rw [if_pos he]
      refine ⟨mulOk ws sw (by decide), mulOk ws sw (by decide), fun p hp => ?_⟩
      obtain ⟨X, eX, oX, sX⟩ := pk (Int.mul_pos w0 p0) (ws.mul sw)
      rw [eX]
      exact fin X y _ (fun z => oX z.1) sX (hI.sy.mono (by decide)) (.laid hp)
    · rw [if_neg he]
      refine ⟨mulOk hs sw (by decide), mulOk hs sw (by decide), fun p hp => ?_⟩
      obtain ⟨X, eX, oX, sX⟩ := pk (Int.mul_pos h0 p0) (hs.mul sw)
      rw [eX]
      exact fin x X _ (fun z => oX z.2) (hI.sx.mono (by decide)) sX (.laid hp)
theorem ok_box_at (T : Txt K mg A) : FnOk P w K mg base (CXE P w) 4 A.f_box_at A.fd_box_at ["wide", "high", "P", "heading", "t"] (spOfX K (sp_boxAt85 A.c_OutOfBox)) := by
  refine L3.Fun.okX 4 rfl T.F_box_at sc_box_at (fun ds G Q Ed h => ?_) (fun cdv Ar outer s H ds G Q Ed E hr h => ?_)
  · revert h; revert ds; refine inv_iiQPP ?_; intros; exact rfl
  · refine ⟨_, (show PSsDw _ (_ :: _) _ from (dssw_cons (PSD.weak (ds_expr (de_callX (ok_check_inside T) (hr.mono (by decide)) (by rfl) T.m_check_inside T.k_check_inside T.b_check_inside (da_cons (dv 0) (da_cons (dv 1) (da_cons (dv 2) da_nil))))))
      (dssw_cons (PSD.weak (ds_set (i := 5) sc_box_at.nd rfl (Or.inl rfl) (de_call (ok_spot_at T) (hr.mono (by decide)) (by rfl) T.m_spot_at T.k_spot_at T.b_spot_at (da_cons (dv 2) (da_cons (dv 3) (da_cons (dv 4) da_nil))))))
      (dssw_cons (PSD.weak (ds_set (i := 6) sc_box_at.nd rfl (Or.inl rfl) (de_ix (dv 5) de_int (fun _ _ => rfl))))
      (dssw_cons (PSD.weak (ds_set (i := 7) sc_box_at.nd rfl (Or.inl rfl) (de_call (ok_turned T) (hr.mono (by decide)) (by rfl) T.m_turned T.k_turned T.b_turned (da_cons (de_ix (dv 5) de_int (fun _ _ => rfl)) (da_cons (de_op od_mul (dv 0) (dv 6)) (da_cons (de_ix (dv 3) de_int (fun _ _ => rfl)) da_nil))))))
      (dssw_cons (PSD.weak (ds_set (i := 8) sc_box_at.nd rfl (Or.inl rfl) (de_call (ok_turned T) (hr.mono (by decide)) (by rfl) T.m_turned T.k_turned T.b_turned (da_cons (de_ix (dv 5) de_int (fun _ _ => rfl)) (da_cons (de_op od_mul (dv 1) (dv 6)) (da_cons (de_ix (dv 3) de_int (fun _ _ => rfl)) da_nil))))))
      (dssw_one (PSD.weak (ds_ret (de_tup (da_cons (de_tup (da_cons (de_ix (dv 7) de_int (fun _ _ => rfl)) (da_cons (de_ix (dv 8) de_int (fun _ _ => rfl)) (da_cons (dv 6) da_nil)))) (da_cons (de_tup (da_cons (de_ix (dv 7) de_int (fun _ _ => rfl)) (da_cons (de_ix (dv 8) de_int (fun _ _ => rfl)) da_nil))) da_nil)))))))))))), ?_⟩
    revert h
    revert ds
    refine inv_iiQPP ?_
    intro _ _ _ _ _ _ _ _ _ h
    rename_i wide high x y w a b t s
    obtain ⟨hP, hy, hn⟩ := h
    refine seq_cut fun M1 d1 => ?_
    simp only [dSeq, dAsg, dCB, dCons, dNil, dVar, dC, dOp, dUn, dTest, dAnd, dOr, dNot, dAndV, dIf, dTup, dLst, dSl, dPart, dNoPart, dIfS, dRet, dDrop, dNext, dNever, gdName, qAbs, qAdd, qI, qI0, qUn, qEq, qNe, qLen, qSl, qSorted2, dCall, st0, seqD, List.map_cons, List.map_nil, List.length_cons, List.length_nil, List.cons_append, List.nil_append, List.set_cons_zero, List.set_cons_succ, List.getElem?_cons_zero, List.getElem?_cons_succ, Option.some.injEq, Nat.reduceAdd, Nat.reduceSub, List.replicate, Bool.not_eq_true', decide_eq_true_eq, decide_eq_false_iff_not, decide_not, ite_not, Bool.not_eq_eq_eq_not, Bool.not_true, Bool.not_false, if_true, if_false, true_and, and_true, List.cons.injEq, D.int.injEq, D.bl.injEq, D.tup.injEq, ite_true, ite_false, reduceCtorEq, Bool.false_eq_true, divP_lit, pow_lit, mul_lit, mul_litL, qIx, at0, at1, at2, at3, at4, at5, gupd_same, Int.reduceLT, Int.reduceLE, Int.reducePow, Int.reduceToNat, Int.reduceMul, Int.reduceAdd, Int.reduceDiv, Int.reduceSub, Int.reduceNeg, Int.reduceEq, Int.reduceMod, Nat.reduceLT, Nat.reduceLeDiff, sz_line, and_assoc, dFor, iRng3, iSeq, dComp, pickS, qTuple, qInt, gdTup, gdCons, gdNil, qEqD, qNeD, plD, plDs, dpD, dpDs, Bool.and_self, Bool.true_and, Bool.and_true, Nat.max_self, Nat.zero_le, Bool.false_and, Bool.and_false, dRaise, dCallX, dCallN, dTry, dHand, dAs, dNoHand, exmD, valD, qIsX, kitD, sp_point, sh_ii_eq, sh_i_eq, sh_iii_eq, sh_iir_eq, sh_iiQ_eq, sh_iiQPP_eq, sh_QPP_eq, sh_iiQP_eq, sh_iiiQP_eq, sh_iiiQi_eq, sp_divisor, sp_is_int, sp_number, sp_sign, sp_side, sp_red, sp_point3, sp_hd, iRng1D, sp_inside3, iZip, zQ_eq, sp_checkX, sp_turned85, sp_spot85, sp_boxAt85, sp_boxBad, sp_asked, sp_refused85, sp_spoiled]
    refine ⟨hP.pos, hP.ws.mono (by decide), hP.hs.mono (by decide), hP.sw.mono (by decide), fun z => ?_, fun z => hn (fun i => z ⟨i.1.1, i.1.2, i.2.1.1, i.2.1.2, i.2.2.1, i.2.2.2⟩) _ .refl⟩
    obtain ⟨w0, h0, i1, i2, i3, i4⟩ := z
    obtain ⟨e, hq⟩ := hy ⟨⟨w0, h0⟩, ⟨i1, i2⟩, i3, i4⟩
    refine d1 _ _ (seq_cut fun M2 d2 => ?_)
    simp only [dSeq, dAsg, dCB, dCons, dNil, dVar, dC, dOp, dUn, dTest, dAnd, dOr, dNot, dAndV, dIf, dTup, dLst, dSl, dPart, dNoPart, dIfS, dRet, dDrop, dNext, dNever, gdName, qAbs, qAdd, qI, qI0, qUn, qEq, qNe, qLen, qSl, qSorted2, dCall, st0, seqD, List.map_cons, List.map_nil, List.length_cons, List.length_nil, List.cons_append, List.nil_append, List.set_cons_zero, List.set_cons_succ, List.getElem?_cons_zero, List.getElem?_cons_succ, Option.some.injEq, Nat.reduceAdd, Nat.reduceSub, List.replicate, Bool.not_eq_true', decide_eq_true_eq, decide_eq_false_iff_not, decide_not, ite_not, Bool.not_eq_eq_eq_not, Bool.not_true, Bool.not_false, if_true, if_false, true_and, and_true, List.cons.injEq, D.int.injEq, D.bl.injEq, D.tup.injEq, ite_true, ite_false, reduceCtorEq, Bool.false_eq_true, divP_lit, pow_lit, mul_lit, mul_litL, qIx, at0, at1, at2, at3, at4, at5, gupd_same, Int.reduceLT, Int.reduceLE, Int.reducePow, Int.reduceToNat, Int.reduceMul, Int.reduceAdd, Int.reduceDiv, Int.reduceSub, Int.reduceNeg, Int.reduceEq, Int.reduceMod, Nat.reduceLT, Nat.reduceLeDiff, sz_line, and_assoc, dFor, iRng3, iSeq, dComp, pickS, qTuple, qInt, gdTup, gdCons, gdNil, qEqD, qNeD, plD, plDs, dpD, dpDs, Bool.and_self, Bool.true_and, Bool.and_true, Nat.max_self, Nat.zero_le, Bool.false_and, Bool.and_false, dRaise, dCallX, dCallN, dTry, dHand, dAs, dNoHand, exmD, valD, qIsX, kitD, sp_point, sh_ii_eq, sh_i_eq, sh_iii_eq, sh_iir_eq, sh_iiQ_eq, sh_iiQPP_eq, sh_QPP_eq, sh_iiQP_eq, sh_iiiQP_eq, sh_iiiQi_eq, sp_divisor, sp_is_int, sp_number, sp_sign, sp_side, sp_red, sp_point3, sp_hd, iRng1D, sp_inside3, iZip, zQ_eq, sp_checkX, sp_turned85, sp_spot85, sp_boxAt85, sp_boxBad, sp_asked, sp_refused85, sp_spoiled]
    refine ⟨e.1, e.2, hP.pos, hP.one, hP.sx, hP.sy, hP.sw, hP.hd.sa, hP.hd.sb, fun G1 g1 => d2 _ _ (seq_cut fun M3 d3 => ?_)⟩
    simp only [dSeq, dAsg, dCB, dCons, dNil, dVar, dC, dOp, dUn, dTest, dAnd, dOr, dNot, dAndV, dIf, dTup, dLst, dSl, dPart, dNoPart, dIfS, dRet, dDrop, dNext, dNever, gdName, qAbs, qAdd, qI, qI0, qUn, qEq, qNe, qLen, qSl, qSorted2, dCall, st0, seqD, List.map_cons, List.map_nil, List.length_cons, List.length_nil, List.cons_append, List.nil_append, List.set_cons_zero, List.set_cons_succ, List.getElem?_cons_zero, List.getElem?_cons_succ, Option.some.injEq, Nat.reduceAdd, Nat.reduceSub, List.replicate, Bool.not_eq_true', decide_eq_true_eq, decide_eq_false_iff_not, decide_not, ite_not, Bool.not_eq_eq_eq_not, Bool.not_true, Bool.not_false, if_true, if_false, true_and, and_true, List.cons.injEq, D.int.injEq, D.bl.injEq, D.tup.injEq, ite_true, ite_false, reduceCtorEq, Bool.false_eq_true, divP_lit, pow_lit, mul_lit, mul_litL, qIx, at0, at1, at2, at3, at4, at5, gupd_same, Int.reduceLT, Int.reduceLE, Int.reducePow, Int.reduceToNat, Int.reduceMul, Int.reduceAdd, Int.reduceDiv, Int.reduceSub, Int.reduceNeg, Int.reduceEq, Int.reduceMod, Nat.reduceLT, Nat.reduceLeDiff, sz_line, and_assoc, dFor, iRng3, iSeq, dComp, pickS, qTuple, qInt, gdTup, gdCons, gdNil, qEqD, qNeD, plD, plDs, dpD, dpDs, Bool.and_self, Bool.true_and, Bool.and_true, Nat.max_self, Nat.zero_le, Bool.false_and, Bool.and_false, dRaise, dCallX, dCallN, dTry, dHand, dAs, dNoHand, exmD, valD, qIsX, kitD, sp_point, sh_ii_eq, sh_i_eq, sh_iii_eq, sh_iir_eq, sh_iiQ_eq, sh_iiQPP_eq, sh_QPP_eq, sh_iiQP_eq, sh_iiiQP_eq, sh_iiiQi_eq, sp_divisor, sp_is_int, sp_number, sp_sign, sp_side, sp_red, sp_point3, sp_hd, iRng1D, sp_inside3, iZip, zQ_eq, sp_checkX, sp_turned85, sp_spot85, sp_boxAt85, sp_boxBad, sp_asked, sp_refused85, sp_spoiled]
    refine d3 _ _ (seq_cut fun M4 d4 => ?_)
    simp only [dSeq, dAsg, dCB, dCons, dNil, dVar, dC, dOp, dUn, dTest, dAnd, dOr, dNot, dAndV, dIf, dTup, dLst, dSl, dPart, dNoPart, dIfS, dRet, dDrop, dNext, dNever, gdName, qAbs, qAdd, qI, qI0, qUn, qEq, qNe, qLen, qSl, qSorted2, dCall, st0, seqD, List.map_cons, List.map_nil, List.length_cons, List.length_nil, List.cons_append, List.nil_append, List.set_cons_zero, List.set_cons_succ, List.getElem?_cons_zero, List.getElem?_cons_succ, Option.some.injEq, Nat.reduceAdd, Nat.reduceSub, List.replicate, Bool.not_eq_true', decide_eq_true_eq, decide_eq_false_iff_not, decide_not, ite_not, Bool.not_eq_eq_eq_not, Bool.not_true, Bool.not_false, if_true, if_false, true_and, and_true, List.cons.injEq, D.int.injEq, D.bl.injEq, D.tup.injEq, ite_true, ite_false, reduceCtorEq, Bool.false_eq_true, divP_lit, pow_lit, mul_lit, mul_litL, qIx, at0, at1, at2, at3, at4, at5, gupd_same, Int.reduceLT, Int.reduceLE, Int.reducePow, Int.reduceToNat, Int.reduceMul, Int.reduceAdd, Int.reduceDiv, Int.reduceSub, Int.reduceNeg, Int.reduceEq, Int.reduceMod, Nat.reduceLT, Nat.reduceLeDiff, sz_line, and_assoc, dFor, iRng3, iSeq, dComp, pickS, qTuple, qInt, gdTup, gdCons, gdNil, qEqD, qNeD, plD, plDs, dpD, dpDs, Bool.and_self, Bool.true_and, Bool.and_true, Nat.max_self, Nat.zero_le, Bool.false_and, Bool.and_false, dRaise, dCallX, dCallN, dTry, dHand, dAs, dNoHand, exmD, valD, qIsX, kitD, sp_point, sh_ii_eq, sh_i_eq, sh_iii_eq, sh_iir_eq, sh_iiQ_eq, sh_iiQPP_eq, sh_QPP_eq, sh_iiQP_eq, sh_iiiQP_eq, sh_iiiQi_eq, sp_divisor, sp_is_int, sp_number, sp_sign, sp_side, sp_red, sp_point3, sp_hd, iRng1D, sp_inside3, iZip, zQ_eq, sp_checkX, sp_turned85, sp_spot85, sp_boxAt85, sp_boxBad, sp_asked, sp_refused85, sp_spoiled]
    refine ⟨mulOk hP.ws hP.sw (by decide), i1, i2, d4 _ _ (seq_cut fun M5 d5 => ?_)⟩
    simp only [dSeq, dAsg, dCB, dCons, dNil, dVar, dC, dOp, dUn, dTest, dAnd, dOr, dNot, dAndV, dIf, dTup, dLst, dSl, dPart, dNoPart, dIfS, dRet, dDrop, dNext, dNever, gdName, qAbs, qAdd, qI, qI0, qUn, qEq, qNe, qLen, qSl, qSorted2, dCall, st0, seqD, List.map_cons, List.map_nil, List.length_cons, List.length_nil, List.cons_append, List.nil_append, List.set_cons_zero, List.set_cons_succ, List.getElem?_cons_zero, List.getElem?_cons_succ, Option.some.injEq, Nat.reduceAdd, Nat.reduceSub, List.replicate, Bool.not_eq_true', decide_eq_true_eq, decide_eq_false_iff_not, decide_not, ite_not, Bool.not_eq_eq_eq_not, Bool.not_true, Bool.not_false, if_true, if_false, true_and, and_true, List.cons.injEq, D.int.injEq, D.bl.injEq, D.tup.injEq, ite_true, ite_false, reduceCtorEq, Bool.false_eq_true, divP_lit, pow_lit, mul_lit, mul_litL, qIx, at0, at1, at2, at3, at4, at5, gupd_same, Int.reduceLT, Int.reduceLE, Int.reducePow, Int.reduceToNat, Int.reduceMul, Int.reduceAdd, Int.reduceDiv, Int.reduceSub, Int.reduceNeg, Int.reduceEq, Int.reduceMod, Nat.reduceLT, Nat.reduceLeDiff, sz_line, and_assoc, dFor, iRng3, iSeq, dComp, pickS, qTuple, qInt, gdTup, gdCons, gdNil, qEqD, qNeD, plD, plDs, dpD, dpDs, Bool.and_self, Bool.true_and, Bool.and_true, Nat.max_self, Nat.zero_le, Bool.false_and, Bool.and_false, dRaise, dCallX, dCallN, dTry, dHand, dAs, dNoHand, exmD, valD, qIsX, kitD, sp_point, sh_ii_eq, sh_i_eq, sh_iii_eq, sh_iir_eq, sh_iiQ_eq, sh_iiQPP_eq, sh_QPP_eq, sh_iiQP_eq, sh_iiiQP_eq, sh_iiiQi_eq, sp_divisor, sp_is_int, sp_number, sp_sign, sp_side, sp_red, sp_point3, sp_hd, iRng1D, sp_inside3, iZip, zQ_eq, sp_checkX, sp_turned85, sp_spot85, sp_boxAt85, sp_boxBad, sp_asked, sp_refused85, sp_spoiled]
    refine ⟨mulOk hP.hs hP.sw (by decide), i3, i4, d5 _ _ ?_⟩
    simp only [dSeq, dAsg, dCB, dCons, dNil, dVar, dC, dOp, dUn, dTest, dAnd, dOr, dNot, dAndV, dIf, dTup, dLst, dSl, dPart, dNoPart, dIfS, dRet, dDrop, dNext, dNever, gdName, qAbs, qAdd, qI, qI0, qUn, qEq, qNe, qLen, qSl, qSorted2, dCall, st0, seqD, List.map_cons, List.map_nil, List.length_cons, List.length_nil, List.cons_append, List.nil_append, List.set_cons_zero, List.set_cons_succ, List.getElem?_cons_zero, List.getElem?_cons_succ, Option.some.injEq, Nat.reduceAdd, Nat.reduceSub, List.replicate, Bool.not_eq_true', decide_eq_true_eq, decide_eq_false_iff_not, decide_not, ite_not, Bool.not_eq_eq_eq_not, Bool.not_true, Bool.not_false, if_true, if_false, true_and, and_true, List.cons.injEq, D.int.injEq, D.bl.injEq, D.tup.injEq, ite_true, ite_false, reduceCtorEq, Bool.false_eq_true, divP_lit, pow_lit, mul_lit, mul_litL, qIx, at0, at1, at2, at3, at4, at5, gupd_same, Int.reduceLT, Int.reduceLE, Int.reducePow, Int.reduceToNat, Int.reduceMul, Int.reduceAdd, Int.reduceDiv, Int.reduceSub, Int.reduceNeg, Int.reduceEq, Int.reduceMod, Nat.reduceLT, Nat.reduceLeDiff, sz_line, and_assoc, dFor, iRng3, iSeq, dComp, pickS, qTuple, qInt, gdTup, gdCons, gdNil, qEqD, qNeD, plD, plDs, dpD, dpDs, Bool.and_self, Bool.true_and, Bool.and_true, Nat.max_self, Nat.zero_le, Bool.false_and, Bool.and_false, dRaise, dCallX, dCallN, dTry, dHand, dAs, dNoHand, exmD, valD, qIsX, kitD, sp_point, sh_ii_eq, sh_i_eq, sh_iii_eq, sh_iir_eq, sh_iiQ_eq, sh_iiQPP_eq, sh_QPP_eq, sh_iiQP_eq, sh_iiiQP_eq, sh_iiiQi_eq, sp_divisor, sp_is_int, sp_number, sp_sign, sp_side, sp_red, sp_point3, sp_hd, iRng1D, sp_inside3, iZip, zQ_eq, sp_checkX, sp_turned85, sp_spot85, sp_boxAt85, sp_boxBad, sp_asked, sp_refused85, sp_spoiled]
    exact hq _ g1
theorem ok_box_corner (T : Txt K mg A) : FnOk P w K mg base (CXE P w) 4 A.f_box_corner A.fd_box_corner ["wide", "high", "P", "heading"] (spOfX K (sp_boxBad A.c_OutOfBox)) := by
  refine L3.Fun.okX 9 rfl T.F_box_corner sc_box_corner (fun ds G Q Ed h => ?_) (fun cdv Ar outer s H ds G Q Ed E hr h => ?_)
  · revert h; revert ds; refine inv_iiQP ?_; intros; exact rfl
  · refine ⟨_, (show PSsDw _ (_ :: _) _ from (dssw_cons (PSD.weak (ds_expr (de_callX (ok_check_inside T) (hr.mono (by decide)) (by rfl) T.m_check_inside T.k_check_inside T.b_check_inside (da_cons (dv 0) (da_cons (dv 1) (da_cons (dv 2) da_nil))))))
      (PSsD.weak dss_never))), ?_⟩
    revert h
    revert ds
    refine inv_iiQP ?_
    intro _ _ _ _ _ _ _ h
    rename_i wide high x y w a b
    obtain ⟨⟨hP, hn⟩, hq⟩ := h
    refine seq_cut fun M1 d1 => ?_
    simp only [dSeq, dAsg, dCB, dCons, dNil, dVar, dC, dOp, dUn, dTest, dAnd, dOr, dNot, dAndV, dIf, dTup, dLst, dSl, dPart, dNoPart, dIfS, dRet, dDrop, dNext, dNever, gdName, qAbs, qAdd, qI, qI0, qUn, qEq, qNe, qLen, qSl, qSorted2, dCall, st0, seqD, List.map_cons, List.map_nil, List.length_cons, List.length_nil, List.cons_append, List.nil_append, List.set_cons_zero, List.set_cons_succ, List.getElem?_cons_zero, List.getElem?_cons_succ, Option.some.injEq, Nat.reduceAdd, Nat.reduceSub, List.replicate, Bool.not_eq_true', decide_eq_true_eq, decide_eq_false_iff_not, decide_not, ite_not, Bool.not_eq_eq_eq_not, Bool.not_true, Bool.not_false, if_true, if_false, true_and, and_true, List.cons.injEq, D.int.injEq, D.bl.injEq, D.tup.injEq, ite_true, ite_false, reduceCtorEq, Bool.false_eq_true, divP_lit, pow_lit, mul_lit, mul_litL, qIx, at0, at1, at2, at3, at4, at5, gupd_same, Int.reduceLT, Int.reduceLE, Int.reducePow, Int.reduceToNat, Int.reduceMul, Int.reduceAdd, Int.reduceDiv, Int.reduceSub, Int.reduceNeg, Int.reduceEq, Int.reduceMod, Nat.reduceLT, Nat.reduceLeDiff, sz_line, and_assoc, dFor, iRng3, iSeq, dComp, pickS, qTuple, qInt, gdTup, gdCons, gdNil, qEqD, qNeD, plD, plDs, dpD, dpDs, Bool.and_self, Bool.true_and, Bool.and_true, Nat.max_self, Nat.zero_le, Bool.false_and, Bool.and_false, dRaise, dCallX, dCallN, dTry, dHand, dAs, dNoHand, exmD, valD, qIsX, kitD, sp_point, sh_ii_eq, sh_i_eq, sh_iii_eq, sh_iir_eq, sh_iiQ_eq, sh_iiQPP_eq, sh_QPP_eq, sh_iiQP_eq, sh_iiiQP_eq, sh_iiiQi_eq, sp_divisor, sp_is_int, sp_number, sp_sign, sp_side, sp_red, sp_point3, sp_hd, iRng1D, sp_inside3, iZip, zQ_eq, sp_checkX, sp_turned85, sp_spot85, sp_boxAt85, sp_boxBad, sp_asked, sp_refused85, sp_spoiled]
    exact ⟨hP.pos, hP.ws.mono (by decide), hP.hs.mono (by decide), hP.sw.mono (by decide), fun z => absurd ⟨⟨z.1, z.2.1⟩, ⟨z.2.2.1, z.2.2.2.1⟩, z.2.2.2.2.1, z.2.2.2.2.2⟩ hn, fun _ => hq _ .refl⟩
theorem ok_box_round (T : Txt K mg A) : FnOk P w K mg base (CXE P w) 4 A.f_box_round A.fd_box_round ["wide", "high", "P", "heading"] (spOfX K (sp_boxBad A.c_OutOfBox)) := by
  refine L3.Fun.okX 2 rfl T.F_box_round sc_box_round (fun ds G Q Ed h => ?_) (fun cdv Ar outer s H ds G Q Ed E hr h => ?_)
  · revert h; revert ds; refine inv_iiQP ?_; intros; exact rfl
  · refine ⟨_, (show PSsDw _ (_ :: _) _ from (dssw_cons (PSD.weak (ds_expr (de_callX (ok_check_inside T) (hr.mono (by decide)) (by rfl) T.m_check_inside T.k_check_inside T.b_check_inside (da_cons (dv 0) (da_cons (dv 1) (da_cons (dv 2) da_nil))))))
      (PSsD.weak dss_never))), ?_⟩
    revert h
    revert ds
    refine inv_iiQP ?_
    intro _ _ _ _ _ _ _ h
    rename_i wide high x y w a b
    obtain ⟨⟨hP, hn⟩, hq⟩ := h
    refine seq_cut fun M1 d1 => ?_
    simp only [dSeq, dAsg, dCB, dCons, dNil, dVar, dC, dOp, dUn, dTest, dAnd, dOr, dNot, dAndV, dIf, dTup, dLst, dSl, dPart, dNoPart, dIfS, dRet, dDrop, dNext, dNever, gdName, qAbs, qAdd, qI, qI0, qUn, qEq, qNe, qLen, qSl, qSorted2, dCall, st0, seqD, List.map_cons, List.map_nil, List.length_cons, List.length_nil, List.cons_append, List.nil_append, List.set_cons_zero, List.set_cons_succ, List.getElem?_cons_zero, List.getElem?_cons_succ, Option.some.injEq, Nat.reduceAdd, Nat.reduceSub, List.replicate, Bool.not_eq_true', decide_eq_true_eq, decide_eq_false_iff_not, decide_not, ite_not, Bool.not_eq_eq_eq_not, Bool.not_true, Bool.not_false, if_true, if_false, true_and, and_true, List.cons.injEq, D.int.injEq, D.bl.injEq, D.tup.injEq, ite_true, ite_false, reduceCtorEq, Bool.false_eq_true, divP_lit, pow_lit, mul_lit, mul_litL, qIx, at0, at1, at2, at3, at4, at5, gupd_same, Int.reduceLT, Int.reduceLE, Int.reducePow, Int.reduceToNat, Int.reduceMul, Int.reduceAdd, Int.reduceDiv, Int.reduceSub, Int.reduceNeg, Int.reduceEq, Int.reduceMod, Nat.reduceLT, Nat.reduceLeDiff, sz_line, and_assoc, dFor, iRng3, iSeq, dComp, pickS, qTuple, qInt, gdTup, gdCons, gdNil, qEqD, qNeD, plD, plDs, dpD, dpDs, Bool.and_self, Bool.true_and, Bool.and_true, Nat.max_self, Nat.zero_le, Bool.false_and, Bool.and_false, dRaise, dCallX, dCallN, dTry, dHand, dAs, dNoHand, exmD, valD, qIsX, kitD, sp_point, sh_ii_eq, sh_i_eq, sh_iii_eq, sh_iir_eq, sh_iiQ_eq, sh_iiQPP_eq, sh_QPP_eq, sh_iiQP_eq, sh_iiiQP_eq, sh_iiiQi_eq, sp_divisor, sp_is_int, sp_number, sp_sign, sp_side, sp_red, sp_point3, sp_hd, iRng1D, sp_inside3, iZip, zQ_eq, sp_checkX, sp_turned85, sp_spot85, sp_boxAt85, sp_boxBad, sp_asked, sp_refused85, sp_spoiled]
    exact ⟨hP.pos, hP.ws.mono (by decide), hP.hs.mono (by decide), hP.sw.mono (by decide), fun z => absurd ⟨⟨z.1, z.2.1⟩, ⟨z.2.2.1, z.2.2.2.1⟩, z.2.2.2.2.1, z.2.2.2.2.2⟩ hn, fun _ => hq _ .refl⟩
theorem ok__law_asked (T : Txt K mg A) : FnOk P w K mg base (CXE P w) 5 A.f__law_asked A.fd__law_asked ["_law_number_here", "_law_wide", "_law_high", "_law_kp", "_law_heading_here"] (spOfX K (sp_asked A.c_OutOfBox)) := by
  refine L3.Fun.okX 0 rfl T.F__law_asked sc__law_asked (fun ds G Q Ed h => ?_) (fun cdv Ar outer s H ds G Q Ed E hr h => ?_)
  · revert h; revert ds; refine inv_iiiQP ?_; intros; exact rfl
  · refine ⟨_, (show PSsDw _ (_ :: _) _ from (dssw_cons (PSD.weak (ds_if (dt_cmp (od_eqD hr.units) (dv 0) de_int (nomark _)) (dss_one (ds_ret (de_callX (ok_box_at T) (hr.mono (by decide)) (by rfl) T.m_box_at T.k_box_at T.b_box_at (da_cons (dv 1) (da_cons (dv 2) (da_cons (dv 3) (da_cons (dv 4) (da_cons (de_tup (da_cons de_int (da_cons de_int da_nil))) da_nil)))))))) dss_nil))
      (dssw_cons (PSD.weak (ds_if (dt_cmp (od_eqD hr.units) (dv 0) de_int (nomark _)) (dss_one (ds_ret (de_callX (ok_box_corner T) (hr.mono (by decide)) (by rfl) T.m_box_corner T.k_box_corner T.b_box_corner (da_cons (dv 1) (da_cons (dv 2) (da_cons (dv 3) (da_cons (dv 4) da_nil))))))) dss_nil))
      (dssw_one (PSD.weak (ds_ret (de_callX (ok_box_round T) (hr.mono (by decide)) (by rfl) T.m_box_round T.k_box_round T.b_box_round (da_cons (dv 1) (da_cons (dv 2) (da_cons (dv 3) (da_cons (dv 4) da_nil))))))))))), ?_⟩
    revert h
    revert ds
    refine inv_iiiQP ?_
    intro _ _ _ _ _ _ _ _ h
    rename_i n wide high x y w a b
    obtain ⟨⟨hP, hn⟩, hx⟩ := h
    simp only [dSeq, dAsg, dCB, dCons, dNil, dVar, dC, dOp, dUn, dTest, dAnd, dOr, dNot, dAndV, dIf, dTup, dLst, dSl, dPart, dNoPart, dIfS, dRet, dDrop, dNext, dNever, gdName, qAbs, qAdd, qI, qI0, qUn, qEq, qNe, qLen, qSl, qSorted2, dCall, st0, seqD, List.map_cons, List.map_nil, List.length_cons, List.length_nil, List.cons_append, List.nil_append, List.set_cons_zero, List.set_cons_succ, List.getElem?_cons_zero, List.getElem?_cons_succ, Option.some.injEq, Nat.reduceAdd, Nat.reduceSub, List.replicate, Bool.not_eq_true', decide_eq_true_eq, decide_eq_false_iff_not, decide_not, ite_not, Bool.not_eq_eq_eq_not, Bool.not_true, Bool.not_false, if_true, if_false, true_and, and_true, List.cons.injEq, D.int.injEq, D.bl.injEq, D.tup.injEq, ite_true, ite_false, reduceCtorEq, Bool.false_eq_true, divP_lit, pow_lit, mul_lit, mul_litL, qIx, at0, at1, at2, at3, at4, at5, gupd_same, Int.reduceLT, Int.reduceLE, Int.reducePow, Int.reduceToNat, Int.reduceMul, Int.reduceAdd, Int.reduceDiv, Int.reduceSub, Int.reduceNeg, Int.reduceEq, Int.reduceMod, Nat.reduceLT, Nat.reduceLeDiff, sz_line, and_assoc, dFor, iRng3, iSeq, dComp, pickS, qTuple, qInt, gdTup, gdCons, gdNil, qEqD, qNeD, plD, plDs, dpD, dpDs, Bool.and_self, Bool.true_and, Bool.and_true, Nat.max_self, Nat.zero_le, Bool.false_and, Bool.and_false, dRaise, dCallX, dCallN, dTry, dHand, dAs, dNoHand, exmD, valD, qIsX, kitD, sp_point, sh_ii_eq, sh_i_eq, sh_iii_eq, sh_iir_eq, sh_iiQ_eq, sh_iiQPP_eq, sh_QPP_eq, sh_iiQP_eq, sh_iiiQP_eq, sh_iiiQi_eq, sp_divisor, sp_is_int, sp_number, sp_sign, sp_side, sp_red, sp_point3, sp_hd, iRng1D, sp_inside3, iZip, zQ_eq, sp_checkX, sp_turned85, sp_spot85, sp_boxAt85, sp_boxBad, sp_asked, sp_refused85, sp_spoiled]
    by_cases h0 : n = 0
    · rw [if_pos h0]
      exact ⟨hP, fun z => absurd z hn, fun _ => hx⟩
    rw [if_neg h0]
    by_cases h1 : n = 1
    · rw [if_pos h1]
      exact ⟨hP, hn, hx⟩
    · rw [if_neg h1]
      exact ⟨hP, hn, hx⟩
theorem ok__law_refused (T : Txt K mg A) : FnOk P w K mg base CX0 6 A.f__law_refused A.fd__law_refused ["_law_number_here", "_law_wide", "_law_high", "_law_kp", "_law_heading_here"] (spOf K (sp_refused85)) := by
  refine L3.Fun.okDw 2 rfl T.F__law_refused sc__law_refused (fun ds G Q h => ?_) (fun cdv Ar outer s H ds G Q E hr h => ?_)
  · revert h; revert ds; refine inv_iiiQP ?_; intros; exact rfl
  · refine ⟨_, (show PSsDw _ (_ :: _) _ from (dssw_cons (PSD.weak (ds_set (i := 5) sc__law_refused.nd rfl (Or.inl rfl) de_int))
      (dssw_cons (dsw_try rfl rfl (fun _ _ => (dssw_one (PSD.weak (ds_expr (de_callX (ok__law_asked T) (hr.mono (by decide)) (by rfl) T.m__law_asked T.k__law_asked T.b__law_asked (da_cons (dv 0) (da_cons (dv 1) (da_cons (dv 2) (da_cons (dv 3) (da_cons (dv 4) da_nil)))))))))) (ph_cons (fun _ _ => (de_tup (da_cons (de_glob (by rfl) T.mc_BadDrawing) (da_cons (de_glob (by rfl) T.mc_BadWall) (da_cons (de_glob (by rfl) T.mc_NoName) (da_cons (de_glob (by rfl) T.mc_NoPoint) (da_cons (de_glob (by rfl) T.mc_NoRow) (da_cons (de_glob (by rfl) T.mc_NoText) (da_cons (de_glob (by rfl) T.mc_NoWay) (da_cons (de_glob (by rfl) T.mc_OnWall) (da_cons (de_glob (by rfl) T.mc_Over) (da_cons (de_glob (by rfl) T.mc_Overlap) (da_cons (de_glob (by rfl) T.mc_TooLong) (da_cons (de_glob (by rfl) T.mc_TooMany) da_nil)))))))))))))) (fun _ _ _ hC => (dss_one (ds_set (i := 5) sc__law_refused.nd rfl (Or.inl rfl) de_int))) (ph_as (i := 6) sc__law_refused.nd rfl rfl (fun _ _ => (de_glob (by rfl) T.mc_OutOfBox)) (fun _ _ _ hC => (dss_one (ds_set (i := 5) sc__law_refused.nd rfl (Or.inl rfl) (de_op od_add de_int (de_callTy cd_int (by rfl) T.z_int bt_int (da_cons (de_and (de_callB (cd_isX (K := K) rfl (List.mem_append_right _ (.head _)) hC) (by rfl) T.z_isinstance bt_isinstance (da_cons (dv 6) (da_cons (de_glob (by rfl) T.mc_RoomError) da_nil))) (de_one (de_callB (cd_isX (K := K) rfl (List.mem_append_right _ (.head _)) hC) (by rfl) T.z_isinstance bt_isinstance (da_cons (dv 6) (da_cons (de_ty (by rfl) T.z_ValueError bt_ValueError) da_nil))))) da_nil)))))) ph_nil)))
      (dssw_one (PSD.weak (ds_ret (de_cmp (od_eqD hr.units) (dv 5) de_int (nomark _)))))))), ?_⟩
    revert h
    revert ds
    refine inv_iiiQP ?_
    intro _ _ _ _ _ _ _ _ h
    rename_i n wide high x y w a b
    obtain ⟨⟨hP, hn⟩, hq⟩ := h
    simp only [dSeq, dAsg, dCB, dCons, dNil, dVar, dC, dOp, dUn, dTest, dAnd, dOr, dNot, dAndV, dIf, dTup, dLst, dSl, dPart, dNoPart, dIfS, dRet, dDrop, dNext, dNever, gdName, qAbs, qAdd, qI, qI0, qUn, qEq, qNe, qLen, qSl, qSorted2, dCall, st0, seqD, List.map_cons, List.map_nil, List.length_cons, List.length_nil, List.cons_append, List.nil_append, List.set_cons_zero, List.set_cons_succ, List.getElem?_cons_zero, List.getElem?_cons_succ, Option.some.injEq, Nat.reduceAdd, Nat.reduceSub, List.replicate, Bool.not_eq_true', decide_eq_true_eq, decide_eq_false_iff_not, decide_not, ite_not, Bool.not_eq_eq_eq_not, Bool.not_true, Bool.not_false, if_true, if_false, true_and, and_true, List.cons.injEq, D.int.injEq, D.bl.injEq, D.tup.injEq, ite_true, ite_false, reduceCtorEq, Bool.false_eq_true, divP_lit, pow_lit, mul_lit, mul_litL, qIx, at0, at1, at2, at3, at4, at5, gupd_same, Int.reduceLT, Int.reduceLE, Int.reducePow, Int.reduceToNat, Int.reduceMul, Int.reduceAdd, Int.reduceDiv, Int.reduceSub, Int.reduceNeg, Int.reduceEq, Int.reduceMod, Nat.reduceLT, Nat.reduceLeDiff, sz_line, and_assoc, dFor, iRng3, iSeq, dComp, pickS, qTuple, qInt, gdTup, gdCons, gdNil, qEqD, qNeD, plD, plDs, dpD, dpDs, Bool.and_self, Bool.true_and, Bool.and_true, Nat.max_self, Nat.zero_le, Bool.false_and, Bool.and_false, dRaise, dCallX, dCallN, dTry, dHand, dAs, dNoHand, exmD, valD, qIsX, kitD, sp_point, sh_ii_eq, sh_i_eq, sh_iii_eq, sh_iir_eq, sh_iiQ_eq, sh_iiQPP_eq, sh_QPP_eq, sh_iiQP_eq, sh_iiiQP_eq, sh_iiiQi_eq, sp_divisor, sp_is_int, sp_number, sp_sign, sp_side, sp_red, sp_point3, sp_hd, iRng1D, sp_inside3, iZip, zQ_eq, sp_checkX, sp_turned85, sp_spot85, sp_boxAt85, sp_boxBad, sp_asked, sp_refused85, sp_spoiled]
    refine ⟨hP, hn, fun G1 s1 a' => ⟨false, T.x0, ?_⟩⟩
    rw [if_neg Bool.false_ne_true]
    refine ⟨true, T.x1, ?_⟩
    rw [if_pos rfl]
    exact ⟨T.y0, T.y1, hq _ s1⟩
theorem ok_law (T : Txt K mg A) : FnOk P w K mg base CX0 7 A.f_law A.fd_law ["_law_script"] (spOf K (spLaw)) := by
  refine L3.Fun.okD 12 rfl T.F_law sc_law (fun ds G Q h => ?_) (fun cdv Ar outer s H ds G Q E hr h => ?_)
  · obtain ⟨a, rfl, _⟩ := h; rfl
  · refine ⟨_, (show PSsD _ (_ :: _) _ from (dss_cons (ds_set (i := 1) sc_law.nd rfl (Or.inl rfl) (de_op od_add (de_slice (dv 0) do_none (do_some de_int)) (de_lst (da_cons de_int (da_cons de_int (da_cons de_int (da_cons de_int (da_cons de_int (da_cons de_int (da_cons de_int (da_cons de_int (da_cons de_int da_nil))))))))))))
      (dss_cons (ds_for PassesOwn.never rfl (id_range3 (by rfl) T.z_range (da_cons de_int (da_cons (de_op od_sub (de_callB cd_len (by rfl) T.z_len bt_len (da_cons (dv 1) da_nil)) de_int) (da_cons de_int da_nil)))) (gd_name (i := 2) sc_law.nd rfl (Or.inl rfl)) (dss_cons (ds_set (i := 3) sc_law.nd rfl (Or.inl rfl) (de_call (ok__law_side T) (hr.mono (by decide)) (by rfl) T.m__law_side T.k__law_side T.b__law_side (da_cons (de_ix (dv 1) (dv 2) (fun _ _ => rfl)) da_nil)))
      (dss_cons (ds_set (i := 4) sc_law.nd rfl (Or.inl rfl) (de_call (ok__law_side T) (hr.mono (by decide)) (by rfl) T.m__law_side T.k__law_side T.b__law_side (da_cons (de_ix (dv 1) (de_op od_add (dv 2) de_int) (fun _ _ => rfl)) da_nil)))
      (dss_cons (ds_comp (i := 5) sc_law.nd rfl (Or.inl rfl) (ys := []) (ks := []) rfl (id_seq (de_slice (dv 1) (do_some (de_op od_add (dv 2) de_int)) (do_some (de_op od_add (dv 2) de_int)))) (fun _ _ _ _ => PCs.nil) (fun _ _ _ _ => (de_call (ok__law_number T) (hr.mono (by decide)) (by rfl) T.m__law_number T.k__law_number T.b__law_number (da_cons (dv 0) da_nil))) rfl trivial trivial rfl rfl rfl (by decide +kernel) (cells_ok (by rfl)) (by decide +kernel) (by decide +kernel))
      (dss_cons (ds_set (i := 6) sc_law.nd rfl (Or.inl rfl) (de_call (ok__law_inside T) (hr.mono (by decide)) (by rfl) T.m__law_inside T.k__law_inside T.b__law_inside (da_cons (dv 3) (da_cons (dv 4) (da_cons (dv 5) da_nil)))))
      (dss_cons (ds_set (i := 7) sc_law.nd rfl (Or.inl rfl) (de_call (ok__law_heading T) (hr.mono (by decide)) (by rfl) T.m__law_heading T.k__law_heading T.b__law_heading (da_cons (de_ix (dv 5) de_int (fun _ _ => rfl)) (da_cons (de_ix (dv 5) de_int (fun _ _ => rfl)) da_nil))))
      (dss_cons (ds_if (dt_cmp (od_neD hr.units) (de_callN (ok_box_at T) (hr.mono (by decide)) (by rfl) T.m_box_at T.k_box_at T.b_box_at (da_cons (dv 3) (da_cons (dv 4) (da_cons (dv 6) (da_cons (dv 7) (da_cons (de_tup (da_cons de_int (da_cons de_int da_nil))) da_nil)))))) (de_tup (da_cons (dv 6) (da_cons (dv 7) da_nil))) (nomark _)) (dss_one (ds_ret de_bl)) dss_nil)
      (dss_cons (ds_set (i := 8) sc_law.nd rfl (Or.inl rfl) (de_op od_modP (de_ix (dv 1) (de_op od_add (dv 2) de_int) (fun _ _ => rfl)) de_int))
      (dss_one (ds_if (dt_cmp od_lt (dv 8) de_int (nomark _)) (dss_cons (ds_asg (de_call (ok__law_spoiled T) (hr.mono (by decide)) (by rfl) T.m__law_spoiled T.k__law_spoiled T.b__law_spoiled (da_cons (dv 8) (da_cons (dv 3) (da_cons (dv 4) (da_cons (dv 6) (da_cons (de_callB cd_abs (by rfl) T.z_abs bt_abs (da_cons (de_ix (dv 5) de_int (fun _ _ => rfl)) da_nil)) da_nil)))))) (gd_tup (n := 3) rfl (gds_cons (gd_name (i := 9) sc_law.nd rfl (Or.inl rfl)) (gds_cons (gd_name (i := 10) sc_law.nd rfl (Or.inl rfl)) (gds_cons (gd_name (i := 11) sc_law.nd rfl (Or.inl rfl)) gds_nil)))))
      (dss_one (ds_for PassesOwn.never rfl (id_range1 (by rfl) T.z_range (da_cons de_int da_nil)) (gd_name (i := 12) sc_law.nd rfl (Or.inl rfl)) (dss_one (ds_if (dt_not (dt_val (de_call (ok__law_refused T) (hr.mono (by decide)) (by rfl) T.m__law_refused T.k__law_refused T.b__law_refused (da_cons (dv 12) (da_cons (dv 9) (da_cons (dv 10) (da_cons (dv 11) (da_cons (dv 7) da_nil)))))))) (dss_one (ds_ret de_bl)) dss_nil))))) dss_nil))))))))))
      (dss_one (ds_ret de_bl))))), ?_⟩
    obtain ⟨ns, rfl, hl, hb, hq⟩ := h
    obtain ⟨cs, e1, e2, e3⟩ := cutD_ints ns none (some 63)
    refine seq_cut fun N1 c1 => ?_
    simp only [dSeq, dAsg, dCB, dCons, dNil, dVar, dC, dOp, dUn, dTest, dAnd, dOr, dNot, dAndV, dIf, dTup, dLst, dSl, dPart, dNoPart, dIfS, dRet, dDrop, dNext, dNever, gdName, qAbs, qAdd, qI, qI0, qUn, qEq, qNe, qLen, qSl, qSorted2, dCall, st0, seqD, List.map_cons, List.map_nil, List.length_cons, List.length_nil, List.cons_append, List.nil_append, List.set_cons_zero, List.set_cons_succ, List.getElem?_cons_zero, List.getElem?_cons_succ, Option.some.injEq, Nat.reduceAdd, Nat.reduceSub, List.replicate, Bool.not_eq_true', decide_eq_true_eq, decide_eq_false_iff_not, decide_not, ite_not, Bool.not_eq_eq_eq_not, Bool.not_true, Bool.not_false, if_true, if_false, true_and, and_true, List.cons.injEq, D.int.injEq, D.bl.injEq, D.tup.injEq, ite_true, ite_false, reduceCtorEq, Bool.false_eq_true, divP_lit, pow_lit, mul_lit, mul_litL, qIx, at0, at1, at2, at3, at4, at5, gupd_same, Int.reduceLT, Int.reduceLE, Int.reducePow, Int.reduceToNat, Int.reduceMul, Int.reduceAdd, Int.reduceDiv, Int.reduceSub, Int.reduceNeg, Int.reduceEq, Int.reduceMod, Nat.reduceLT, Nat.reduceLeDiff, sz_line, and_assoc, dFor, iRng3, iSeq, dComp, pickS, qTuple, qInt, gdTup, gdCons, gdNil, qEqD, qNeD, plD, plDs, dpD, dpDs, Bool.and_self, Bool.true_and, Bool.and_true, Nat.max_self, Nat.zero_le, Bool.false_and, Bool.and_false, dRaise, dCallX, dCallN, dTry, dHand, dAs, dNoHand, exmD, valD, qIsX, kitD, sp_point, sh_ii_eq, sh_i_eq, sh_iii_eq, sh_iir_eq, sh_iiQ_eq, sh_iiQPP_eq, sh_QPP_eq, sh_iiQP_eq, sh_iiiQP_eq, sh_iiiQi_eq, sp_divisor, sp_is_int, sp_number, sp_sign, sp_side, sp_red, sp_point3, sp_hd, iRng1D, sp_inside3, iZip, zQ_eq, sp_checkX, sp_turned85, sp_spot85, sp_boxAt85, sp_boxBad, sp_asked, sp_refused85, sp_spoiled, e1]
    intro p hp p1 hp1
    simp only [dSeq, dAsg, dCB, dCons, dNil, dVar, dC, dOp, dUn, dTest, dAnd, dOr, dNot, dAndV, dIf, dTup, dLst, dSl, dPart, dNoPart, dIfS, dRet, dDrop, dNext, dNever, gdName, qAbs, qAdd, qI, qI0, qUn, qEq, qNe, qLen, qSl, qSorted2, dCall, st0, seqD, List.map_cons, List.map_nil, List.length_cons, List.length_nil, List.cons_append, List.nil_append, List.set_cons_zero, List.set_cons_succ, List.getElem?_cons_zero, List.getElem?_cons_succ, Option.some.injEq, Nat.reduceAdd, Nat.reduceSub, List.replicate, Bool.not_eq_true', decide_eq_true_eq, decide_eq_false_iff_not, decide_not, ite_not, Bool.not_eq_eq_eq_not, Bool.not_true, Bool.not_false, if_true, if_false, true_and, and_true, List.cons.injEq, D.int.injEq, D.bl.injEq, D.tup.injEq, ite_true, ite_false, reduceCtorEq, Bool.false_eq_true, divP_lit, pow_lit, mul_lit, mul_litL, qIx, at0, at1, at2, at3, at4, at5, gupd_same, Int.reduceLT, Int.reduceLE, Int.reducePow, Int.reduceToNat, Int.reduceMul, Int.reduceAdd, Int.reduceDiv, Int.reduceSub, Int.reduceNeg, Int.reduceEq, Int.reduceMod, Nat.reduceLT, Nat.reduceLeDiff, sz_line, and_assoc, dFor, iRng3, iSeq, dComp, pickS, qTuple, qInt, gdTup, gdCons, gdNil, qEqD, qNeD, plD, plDs, dpD, dpDs, Bool.and_self, Bool.true_and, Bool.and_true, Nat.max_self, Nat.zero_le, Bool.false_and, Bool.and_false, dRaise, dCallX, dCallN, dTry, dHand, dAs, dNoHand, exmD, valD, qIsX, kitD, sp_point, sh_ii_eq, sh_i_eq, sh_iii_eq, sh_iir_eq, sh_iiQ_eq, sh_iiQPP_eq, sh_QPP_eq, sh_iiQP_eq, sh_iiiQP_eq, sh_iiiQi_eq, sp_divisor, sp_is_int, sp_number, sp_sign, sp_side, sp_red, sp_point3, sp_hd, iRng1D, sp_inside3, iZip, zQ_eq, sp_checkX, sp_turned85, sp_spot85, sp_boxAt85, sp_boxBad, sp_asked, sp_refused85, sp_spoiled, gkept hp1]
    refine ⟨fits_of (by rw [List.length_map]; omega), fun p2 hp2 => c1 _ _ ?_⟩
    have ec : cs.map D.int ++ [D.int 0, D.int 0, D.int 0, D.int 0, D.int 0, D.int 0, D.int 0, D.int 0, D.int 0] = (cs ++ [0, 0, 0, 0, 0, 0, 0, 0, 0]).map D.int := by simp
    rw [ec]
    have hcl : ∀ c ∈ cs ++ [0, 0, 0, 0, 0, 0, 0, 0, 0], Sz 1048576 c := fun c hc => by
      rcases List.mem_append.mp hc with z | z
      · exact ⟨hb c (e3 c z)⟩
      · have : c = 0 := by simpa using z
        subst this
        exact ⟨Nat.two_pow_pos _⟩
    have hlen : (cs ++ [0, 0, 0, 0, 0, 0, 0, 0, 0]).length ≤ 72 := by simp; omega
    generalize cs ++ [0, 0, 0, 0, 0, 0, 0, 0, 0] = cells at *
    refine seq_cut fun N2 c2 => for_cut fun tb htb => ?_
    simp only [dSeq, dAsg, dCB, dCons, dNil, dVar, dC, dOp, dUn, dTest, dAnd, dOr, dNot, dAndV, dIf, dTup, dLst, dSl, dPart, dNoPart, dIfS, dRet, dDrop, dNext, dNever, gdName, qAbs, qAdd, qI, qI0, qUn, qEq, qNe, qLen, qSl, qSorted2, dCall, st0, seqD, List.map_cons, List.map_nil, List.length_cons, List.length_nil, List.cons_append, List.nil_append, List.set_cons_zero, List.set_cons_succ, List.getElem?_cons_zero, List.getElem?_cons_succ, Option.some.injEq, Nat.reduceAdd, Nat.reduceSub, List.replicate, Bool.not_eq_true', decide_eq_true_eq, decide_eq_false_iff_not, decide_not, ite_not, Bool.not_eq_eq_eq_not, Bool.not_true, Bool.not_false, if_true, if_false, true_and, and_true, List.cons.injEq, D.int.injEq, D.bl.injEq, D.tup.injEq, ite_true, ite_false, reduceCtorEq, Bool.false_eq_true, divP_lit, pow_lit, mul_lit, mul_litL, qIx, at0, at1, at2, at3, at4, at5, gupd_same, Int.reduceLT, Int.reduceLE, Int.reducePow, Int.reduceToNat, Int.reduceMul, Int.reduceAdd, Int.reduceDiv, Int.reduceSub, Int.reduceNeg, Int.reduceEq, Int.reduceMod, Nat.reduceLT, Nat.reduceLeDiff, sz_line, and_assoc, dFor, iRng3, iSeq, dComp, pickS, qTuple, qInt, gdTup, gdCons, gdNil, qEqD, qNeD, plD, plDs, dpD, dpDs, Bool.and_self, Bool.true_and, Bool.and_true, Nat.max_self, Nat.zero_le, Bool.false_and, Bool.and_false, dRaise, dCallX, dCallN, dTry, dHand, dAs, dNoHand, exmD, valD, qIsX, kitD, sp_point, sh_ii_eq, sh_i_eq, sh_iii_eq, sh_iir_eq, sh_iiQ_eq, sh_iiQPP_eq, sh_QPP_eq, sh_iiQP_eq, sh_iiiQP_eq, sh_iiiQi_eq, sp_divisor, sp_is_int, sp_number, sp_sign, sp_side, sp_red, sp_point3, sp_hd, iRng1D, sp_inside3, iZip, zQ_eq, sp_checkX, sp_turned85, sp_spot85, sp_boxAt85, sp_boxBad, sp_asked, sp_refused85, sp_spoiled]
    rw [List.length_map]
    refine ⟨by omega, by omega, ?_⟩
    refine loop_by (fun i σ' G' => (∃ z2 z3 z4 z5 z6 z7 z8 z9 z10 z11 z12, σ' = [some (.rl (ns.map D.int)), some (.ref p2), z2, z3, z4, z5, z6, z7, z8, z9, z10, z11, z12]) ∧ G' p2 = some (.lst (cells.map D.int))) ⟨⟨_, _, _, _, _, _, _, _, _, _, _, rfl⟩, gupd_same⟩ (fun _ _ _ _ _ => trivial) ?_ ?_
    · rintro i d σ' G' hd ⟨⟨z2, z3, z4, z5, z6, z7, z8, z9, z10, z11, z12, rfl⟩, hG⟩
      obtain ⟨rfl, hi⟩ := rng_at hd
      have hk := rng_lt (by decide) hi
      subst htb
      have lt : ∀ k : Int, 0 ≤ k → k ≤ 8 → atI (cells.map D.int) (0 + (i : Int) * 9 + k) = some (D.int (cells.getD (0 + (i : Int) * 9 + k).toNat 0)) := fun k h0 h1 => at_ints (by omega) (by omega)
      have sz : ∀ k : Int, 0 ≤ k → k ≤ 8 → Sz 1048576 (cells.getD (0 + (i : Int) * 9 + k).toNat 0) := fun k h0 h1 => at_mem hcl (by omega)
      have a0 := lt 0 (by decide) (by decide)
      have b0 := sz 0 (by decide) (by decide)
      have a1 := lt 1 (by decide) (by decide)
      have b1 := sz 1 (by decide) (by decide)
      have a8 := lt 8 (by decide) (by decide)
      have b8 := sz 8 (by decide) (by decide)
      rw [Int.add_zero] at a0 b0
      have hlk : (0 + (i : Int) * 9) + 9 ≤ cells.length := by omega
      have hk0 : 0 ≤ 0 + (i : Int) * 9 := by omega
      clear lt sz
      generalize 0 + (i : Int) * 9 = k at *
      generalize cells.getD k.toNat 0 = x0 at *
      generalize cells.getD (k + 1).toNat 0 = x1 at *
      generalize cells.getD (k + 8).toNat 0 = x8 at *
      simp only [gdName, List.set_cons_succ, List.set_cons_zero]
      refine seq_cut fun M1 d1 => ?_
      simp only [dSeq, dAsg, dCB, dCons, dNil, dVar, dC, dOp, dUn, dTest, dAnd, dOr, dNot, dAndV, dIf, dTup, dLst, dSl, dPart, dNoPart, dIfS, dRet, dDrop, dNext, dNever, gdName, qAbs, qAdd, qI, qI0, qUn, qEq, qNe, qLen, qSl, qSorted2, dCall, st0, seqD, List.map_cons, List.map_nil, List.length_cons, List.length_nil, List.cons_append, List.nil_append, List.set_cons_zero, List.set_cons_succ, List.getElem?_cons_zero, List.getElem?_cons_succ, Option.some.injEq, Nat.reduceAdd, Nat.reduceSub, List.replicate, Bool.not_eq_true', decide_eq_true_eq, decide_eq_false_iff_not, decide_not, ite_not, Bool.not_eq_eq_eq_not, Bool.not_true, Bool.not_false, if_true, if_false, true_and, and_true, List.cons.injEq, D.int.injEq, D.bl.injEq, D.tup.injEq, ite_true, ite_false, reduceCtorEq, Bool.false_eq_true, divP_lit, pow_lit, mul_lit, mul_litL, qIx, at0, at1, at2, at3, at4, at5, gupd_same, Int.reduceLT, Int.reduceLE, Int.reducePow, Int.reduceToNat, Int.reduceMul, Int.reduceAdd, Int.reduceDiv, Int.reduceSub, Int.reduceNeg, Int.reduceEq, Int.reduceMod, Nat.reduceLT, Nat.reduceLeDiff, sz_line, and_assoc, dFor, iRng3, iSeq, dComp, pickS, qTuple, qInt, gdTup, gdCons, gdNil, qEqD, qNeD, plD, plDs, dpD, dpDs, Bool.and_self, Bool.true_and, Bool.and_true, Nat.max_self, Nat.zero_le, Bool.false_and, Bool.and_false, dRaise, dCallX, dCallN, dTry, dHand, dAs, dNoHand, exmD, valD, qIsX, kitD, sp_point, sh_ii_eq, sh_i_eq, sh_iii_eq, sh_iir_eq, sh_iiQ_eq, sh_iiQPP_eq, sh_QPP_eq, sh_iiQP_eq, sh_iiiQP_eq, sh_iiiQi_eq, sp_divisor, sp_is_int, sp_number, sp_sign, sp_side, sp_red, sp_point3, sp_hd, iRng1D, sp_inside3, iZip, zQ_eq, sp_checkX, sp_turned85, sp_spot85, sp_boxAt85, sp_boxBad, sp_asked, sp_refused85, sp_spoiled, hG, a0]
      refine ⟨b0, fun wide w0 ws => d1 _ _ (seq_cut fun M2 d2 => ?_)⟩
      simp only [dSeq, dAsg, dCB, dCons, dNil, dVar, dC, dOp, dUn, dTest, dAnd, dOr, dNot, dAndV, dIf, dTup, dLst, dSl, dPart, dNoPart, dIfS, dRet, dDrop, dNext, dNever, gdName, qAbs, qAdd, qI, qI0, qUn, qEq, qNe, qLen, qSl, qSorted2, dCall, st0, seqD, List.map_cons, List.map_nil, List.length_cons, List.length_nil, List.cons_append, List.nil_append, List.set_cons_zero, List.set_cons_succ, List.getElem?_cons_zero, List.getElem?_cons_succ, Option.some.injEq, Nat.reduceAdd, Nat.reduceSub, List.replicate, Bool.not_eq_true', decide_eq_true_eq, decide_eq_false_iff_not, decide_not, ite_not, Bool.not_eq_eq_eq_not, Bool.not_true, Bool.not_false, if_true, if_false, true_and, and_true, List.cons.injEq, D.int.injEq, D.bl.injEq, D.tup.injEq, ite_true, ite_false, reduceCtorEq, Bool.false_eq_true, divP_lit, pow_lit, mul_lit, mul_litL, qIx, at0, at1, at2, at3, at4, at5, gupd_same, Int.reduceLT, Int.reduceLE, Int.reducePow, Int.reduceToNat, Int.reduceMul, Int.reduceAdd, Int.reduceDiv, Int.reduceSub, Int.reduceNeg, Int.reduceEq, Int.reduceMod, Nat.reduceLT, Nat.reduceLeDiff, sz_line, and_assoc, dFor, iRng3, iSeq, dComp, pickS, qTuple, qInt, gdTup, gdCons, gdNil, qEqD, qNeD, plD, plDs, dpD, dpDs, Bool.and_self, Bool.true_and, Bool.and_true, Nat.max_self, Nat.zero_le, Bool.false_and, Bool.and_false, dRaise, dCallX, dCallN, dTry, dHand, dAs, dNoHand, exmD, valD, qIsX, kitD, sp_point, sh_ii_eq, sh_i_eq, sh_iii_eq, sh_iir_eq, sh_iiQ_eq, sh_iiQPP_eq, sh_QPP_eq, sh_iiQP_eq, sh_iiiQP_eq, sh_iiiQi_eq, sp_divisor, sp_is_int, sp_number, sp_sign, sp_side, sp_red, sp_point3, sp_hd, iRng1D, sp_inside3, iZip, zQ_eq, sp_checkX, sp_turned85, sp_spot85, sp_boxAt85, sp_boxBad, sp_asked, sp_refused85, sp_spoiled, hG, a1]
      refine ⟨b1, fun high h0 hs => d2 _ _ (seq_cut fun M3 d3 => ?_)⟩
      simp only [dSeq, dAsg, dCB, dCons, dNil, dVar, dC, dOp, dUn, dTest, dAnd, dOr, dNot, dAndV, dIf, dTup, dLst, dSl, dPart, dNoPart, dIfS, dRet, dDrop, dNext, dNever, gdName, qAbs, qAdd, qI, qI0, qUn, qEq, qNe, qLen, qSl, qSorted2, dCall, st0, seqD, List.map_cons, List.map_nil, List.length_cons, List.length_nil, List.cons_append, List.nil_append, List.set_cons_zero, List.set_cons_succ, List.getElem?_cons_zero, List.getElem?_cons_succ, Option.some.injEq, Nat.reduceAdd, Nat.reduceSub, List.replicate, Bool.not_eq_true', decide_eq_true_eq, decide_eq_false_iff_not, decide_not, ite_not, Bool.not_eq_eq_eq_not, Bool.not_true, Bool.not_false, if_true, if_false, true_and, and_true, List.cons.injEq, D.int.injEq, D.bl.injEq, D.tup.injEq, ite_true, ite_false, reduceCtorEq, Bool.false_eq_true, divP_lit, pow_lit, mul_lit, mul_litL, qIx, at0, at1, at2, at3, at4, at5, gupd_same, Int.reduceLT, Int.reduceLE, Int.reducePow, Int.reduceToNat, Int.reduceMul, Int.reduceAdd, Int.reduceDiv, Int.reduceSub, Int.reduceNeg, Int.reduceEq, Int.reduceMod, Nat.reduceLT, Nat.reduceLeDiff, sz_line, and_assoc, dFor, iRng3, iSeq, dComp, pickS, qTuple, qInt, gdTup, gdCons, gdNil, qEqD, qNeD, plD, plDs, dpD, dpDs, Bool.and_self, Bool.true_and, Bool.and_true, Nat.max_self, Nat.zero_le, Bool.false_and, Bool.and_false, dRaise, dCallX, dCallN, dTry, dHand, dAs, dNoHand, exmD, valD, qIsX, kitD, sp_point, sh_ii_eq, sh_i_eq, sh_iii_eq, sh_iir_eq, sh_iiQ_eq, sh_iiQPP_eq, sh_QPP_eq, sh_iiQP_eq, sh_iiiQP_eq, sh_iiiQi_eq, sp_divisor, sp_is_int, sp_number, sp_sign, sp_side, sp_red, sp_point3, sp_hd, iRng1D, sp_inside3, iZip, zQ_eq, sp_checkX, sp_turned85, sp_spot85, sp_boxAt85, sp_boxBad, sp_asked, sp_refused85, sp_spoiled, hG]
      intro p3 hp3
      obtain ⟨cs3, e4, e5, e6⟩ := cutD_ints cells (some (k + 2)) (some (k + 9))
      have hl7 : cs3.length = 7 := by
        have := cut_length (xs := cells.map D.int) (k := k.toNat + 2) (n := 7) (by rw [List.length_map]; omega)
        rw [show ((k.toNat + 2 : Nat) : Int) = k + 2 by omega, show ((k.toNat + 2 + 7 : Nat) : Int) = k + 9 by omega, e4, List.length_map] at this
        exact this
      rw [e4]
      refine ⟨fits_of (by rw [List.length_map]; omega), ?_⟩
      refine cloop_all (fun y => ∃ z, y = D.int z ∧ Sz 200 z) (fun G1 s1 => s1 _ _ gupd_same) ?_ ?_
      · intro d hd G1 R s1 kk
        obtain ⟨c, hc, rfl⟩ := List.mem_map.mp hd
        simp only [dSeq, dAsg, dCB, dCons, dNil, dVar, dC, dOp, dUn, dTest, dAnd, dOr, dNot, dAndV, dIf, dTup, dLst, dSl, dPart, dNoPart, dIfS, dRet, dDrop, dNext, dNever, gdName, qAbs, qAdd, qI, qI0, qUn, qEq, qNe, qLen, qSl, qSorted2, dCall, st0, seqD, List.map_cons, List.map_nil, List.length_cons, List.length_nil, List.cons_append, List.nil_append, List.set_cons_zero, List.set_cons_succ, List.getElem?_cons_zero, List.getElem?_cons_succ, Option.some.injEq, Nat.reduceAdd, Nat.reduceSub, List.replicate, Bool.not_eq_true', decide_eq_true_eq, decide_eq_false_iff_not, decide_not, ite_not, Bool.not_eq_eq_eq_not, Bool.not_true, Bool.not_false, if_true, if_false, true_and, and_true, List.cons.injEq, D.int.injEq, D.bl.injEq, D.tup.injEq, ite_true, ite_false, reduceCtorEq, Bool.false_eq_true, divP_lit, pow_lit, mul_lit, mul_litL, qIx, at0, at1, at2, at3, at4, at5, gupd_same, Int.reduceLT, Int.reduceLE, Int.reducePow, Int.reduceToNat, Int.reduceMul, Int.reduceAdd, Int.reduceDiv, Int.reduceSub, Int.reduceNeg, Int.reduceEq, Int.reduceMod, Nat.reduceLT, Nat.reduceLeDiff, sz_line, and_assoc, dFor, iRng3, iSeq, dComp, pickS, qTuple, qInt, gdTup, gdCons, gdNil, qEqD, qNeD, plD, plDs, dpD, dpDs, Bool.and_self, Bool.true_and, Bool.and_true, Nat.max_self, Nat.zero_le, Bool.false_and, Bool.and_false, dRaise, dCallX, dCallN, dTry, dHand, dAs, dNoHand, exmD, valD, qIsX, kitD, sp_point, sh_ii_eq, sh_i_eq, sh_iii_eq, sh_iir_eq, sh_iiQ_eq, sh_iiQPP_eq, sh_QPP_eq, sh_iiQP_eq, sh_iiiQP_eq, sh_iiiQi_eq, sp_divisor, sp_is_int, sp_number, sp_sign, sp_side, sp_red, sp_point3, sp_hd, iRng1D, sp_inside3, iZip, zQ_eq, sp_checkX, sp_turned85, sp_spot85, sp_boxAt85, sp_boxBad, sp_asked, sp_refused85, sp_spoiled]
        exact ⟨hcl c (e6 c hc), fun z hz => kk _ _ ⟨z, rfl, hz⟩ .refl⟩
      intro q G1 out hq0 s1 hG1 hlo hok
      obtain ⟨f, rfl, hf⟩ := seven_of (hlo.trans (by rw [List.length_map]; exact hl7)) hok
      have hS : Seven G1 q 200 f := ⟨hG1, hf⟩
      have g1 := (GS.laid (o := OD.lst (cs3.map D.int)) hp3).trans s1
      refine d3 _ _ (seq_cut fun M4 d4 => ?_)
      simp only [dSeq, dAsg, dCB, dCons, dNil, dVar, dC, dOp, dUn, dTest, dAnd, dOr, dNot, dAndV, dIf, dTup, dLst, dSl, dPart, dNoPart, dIfS, dRet, dDrop, dNext, dNever, gdName, qAbs, qAdd, qI, qI0, qUn, qEq, qNe, qLen, qSl, qSorted2, dCall, st0, seqD, List.map_cons, List.map_nil, List.length_cons, List.length_nil, List.cons_append, List.nil_append, List.set_cons_zero, List.set_cons_succ, List.getElem?_cons_zero, List.getElem?_cons_succ, Option.some.injEq, Nat.reduceAdd, Nat.reduceSub, List.replicate, Bool.not_eq_true', decide_eq_true_eq, decide_eq_false_iff_not, decide_not, ite_not, Bool.not_eq_eq_eq_not, Bool.not_true, Bool.not_false, if_true, if_false, true_and, and_true, List.cons.injEq, D.int.injEq, D.bl.injEq, D.tup.injEq, ite_true, ite_false, reduceCtorEq, Bool.false_eq_true, divP_lit, pow_lit, mul_lit, mul_litL, qIx, at0, at1, at2, at3, at4, at5, gupd_same, Int.reduceLT, Int.reduceLE, Int.reducePow, Int.reduceToNat, Int.reduceMul, Int.reduceAdd, Int.reduceDiv, Int.reduceSub, Int.reduceNeg, Int.reduceEq, Int.reduceMod, Nat.reduceLT, Nat.reduceLeDiff, sz_line, and_assoc, dFor, iRng3, iSeq, dComp, pickS, qTuple, qInt, gdTup, gdCons, gdNil, qEqD, qNeD, plD, plDs, dpD, dpDs, Bool.and_self, Bool.true_and, Bool.and_true, Nat.max_self, Nat.zero_le, Bool.false_and, Bool.and_false, dRaise, dCallX, dCallN, dTry, dHand, dAs, dNoHand, exmD, valD, qIsX, kitD, sp_point, sh_ii_eq, sh_i_eq, sh_iii_eq, sh_iir_eq, sh_iiQ_eq, sh_iiQPP_eq, sh_QPP_eq, sh_iiQP_eq, sh_iiiQP_eq, sh_iiiQi_eq, sp_divisor, sp_is_int, sp_number, sp_sign, sp_side, sp_red, sp_point3, sp_hd, iRng1D, sp_inside3, iZip, zQ_eq, sp_checkX, sp_turned85, sp_spot85, sp_boxAt85, sp_boxBad, sp_asked, sp_refused85, sp_spoiled]
      refine ⟨_, _, _, _, hG1, w0, h0, ws, hs, hf 2, fun x y w G2 hI s2 => d4 _ _ (seq_cut fun M5 d5 => ?_)⟩
      simp only [dSeq, dAsg, dCB, dCons, dNil, dVar, dC, dOp, dUn, dTest, dAnd, dOr, dNot, dAndV, dIf, dTup, dLst, dSl, dPart, dNoPart, dIfS, dRet, dDrop, dNext, dNever, gdName, qAbs, qAdd, qI, qI0, qUn, qEq, qNe, qLen, qSl, qSorted2, dCall, st0, seqD, List.map_cons, List.map_nil, List.length_cons, List.length_nil, List.cons_append, List.nil_append, List.set_cons_zero, List.set_cons_succ, List.getElem?_cons_zero, List.getElem?_cons_succ, Option.some.injEq, Nat.reduceAdd, Nat.reduceSub, List.replicate, Bool.not_eq_true', decide_eq_true_eq, decide_eq_false_iff_not, decide_not, ite_not, Bool.not_eq_eq_eq_not, Bool.not_true, Bool.not_false, if_true, if_false, true_and, and_true, List.cons.injEq, D.int.injEq, D.bl.injEq, D.tup.injEq, ite_true, ite_false, reduceCtorEq, Bool.false_eq_true, divP_lit, pow_lit, mul_lit, mul_litL, qIx, at0, at1, at2, at3, at4, at5, gupd_same, Int.reduceLT, Int.reduceLE, Int.reducePow, Int.reduceToNat, Int.reduceMul, Int.reduceAdd, Int.reduceDiv, Int.reduceSub, Int.reduceNeg, Int.reduceEq, Int.reduceMod, Nat.reduceLT, Nat.reduceLeDiff, sz_line, and_assoc, dFor, iRng3, iSeq, dComp, pickS, qTuple, qInt, gdTup, gdCons, gdNil, qEqD, qNeD, plD, plDs, dpD, dpDs, Bool.and_self, Bool.true_and, Bool.and_true, Nat.max_self, Nat.zero_le, Bool.false_and, Bool.and_false, dRaise, dCallX, dCallN, dTry, dHand, dAs, dNoHand, exmD, valD, qIsX, kitD, sp_point, sh_ii_eq, sh_i_eq, sh_iii_eq, sh_iir_eq, sh_iiQ_eq, sh_iiQPP_eq, sh_QPP_eq, sh_iiQP_eq, sh_iiiQP_eq, sh_iiiQi_eq, sp_divisor, sp_is_int, sp_number, sp_sign, sp_side, sp_red, sp_point3, sp_hd, iRng1D, sp_inside3, iZip, zQ_eq, sp_checkX, sp_turned85, sp_spot85, sp_boxAt85, sp_boxBad, sp_asked, sp_refused85, sp_spoiled, (hS.mono s2).1]
      refine ⟨(hf 3).mono (by decide), (hf 4).mono (by decide), fun a b G3 hH s3 => d5 _ _ (seq_cut fun M6 d6 => ?_)⟩
      simp only [dSeq, dAsg, dCB, dCons, dNil, dVar, dC, dOp, dUn, dTest, dAnd, dOr, dNot, dAndV, dIf, dTup, dLst, dSl, dPart, dNoPart, dIfS, dRet, dDrop, dNext, dNever, gdName, qAbs, qAdd, qI, qI0, qUn, qEq, qNe, qLen, qSl, qSorted2, dCall, st0, seqD, List.map_cons, List.map_nil, List.length_cons, List.length_nil, List.cons_append, List.nil_append, List.set_cons_zero, List.set_cons_succ, List.getElem?_cons_zero, List.getElem?_cons_succ, Option.some.injEq, Nat.reduceAdd, Nat.reduceSub, List.replicate, Bool.not_eq_true', decide_eq_true_eq, decide_eq_false_iff_not, decide_not, ite_not, Bool.not_eq_eq_eq_not, Bool.not_true, Bool.not_false, if_true, if_false, true_and, and_true, List.cons.injEq, D.int.injEq, D.bl.injEq, D.tup.injEq, ite_true, ite_false, reduceCtorEq, Bool.false_eq_true, divP_lit, pow_lit, mul_lit, mul_litL, qIx, at0, at1, at2, at3, at4, at5, gupd_same, Int.reduceLT, Int.reduceLE, Int.reducePow, Int.reduceToNat, Int.reduceMul, Int.reduceAdd, Int.reduceDiv, Int.reduceSub, Int.reduceNeg, Int.reduceEq, Int.reduceMod, Nat.reduceLT, Nat.reduceLeDiff, sz_line, and_assoc, dFor, iRng3, iSeq, dComp, pickS, qTuple, qInt, gdTup, gdCons, gdNil, qEqD, qNeD, plD, plDs, dpD, dpDs, Bool.and_self, Bool.true_and, Bool.and_true, Nat.max_self, Nat.zero_le, Bool.false_and, Bool.and_false, dRaise, dCallX, dCallN, dTry, dHand, dAs, dNoHand, exmD, valD, qIsX, kitD, sp_point, sh_ii_eq, sh_i_eq, sh_iii_eq, sh_iir_eq, sh_iiQ_eq, sh_iiQPP_eq, sh_QPP_eq, sh_iiQP_eq, sh_iiiQP_eq, sh_iiiQi_eq, sp_divisor, sp_is_int, sp_number, sp_sign, sp_side, sp_red, sp_point3, sp_hd, iRng1D, sp_inside3, iZip, zQ_eq, sp_checkX, sp_turned85, sp_spot85, sp_boxAt85, sp_boxBad, sp_asked, sp_refused85, sp_spoiled]
      have pre : Pre wide high x y w a b := ⟨ws.mono (by decide), hs.mono (by decide), hI.pos, hI.one, hI.sx.mono (by decide), hI.sy.mono (by decide), hI.sw.mono (by decide), hH⟩
      have ins : Ins wide high x y w := ⟨⟨w0, h0⟩, ⟨hI.x0, hI.x1⟩, hI.y0, hI.y1⟩
      refine ⟨pre, fun _ G4 s4 => ?_, fun z => absurd ins z⟩
      refine ⟨by decide, by decide, d6 _ _ (seq_cut fun M7 d7 => ?_)⟩
      have gC := s4 _ _ (s3 _ _ (s2 _ _ (g1 _ _ hG)))
      have gS := (hS.mono s2).mono (s3.trans s4)
      simp only [dSeq, dAsg, dCB, dCons, dNil, dVar, dC, dOp, dUn, dTest, dAnd, dOr, dNot, dAndV, dIf, dTup, dLst, dSl, dPart, dNoPart, dIfS, dRet, dDrop, dNext, dNever, gdName, qAbs, qAdd, qI, qI0, qUn, qEq, qNe, qLen, qSl, qSorted2, dCall, st0, seqD, List.map_cons, List.map_nil, List.length_cons, List.length_nil, List.cons_append, List.nil_append, List.set_cons_zero, List.set_cons_succ, List.getElem?_cons_zero, List.getElem?_cons_succ, Option.some.injEq, Nat.reduceAdd, Nat.reduceSub, List.replicate, Bool.not_eq_true', decide_eq_true_eq, decide_eq_false_iff_not, decide_not, ite_not, Bool.not_eq_eq_eq_not, Bool.not_true, Bool.not_false, if_true, if_false, true_and, and_true, List.cons.injEq, D.int.injEq, D.bl.injEq, D.tup.injEq, ite_true, ite_false, reduceCtorEq, Bool.false_eq_true, divP_lit, pow_lit, mul_lit, mul_litL, qIx, at0, at1, at2, at3, at4, at5, gupd_same, Int.reduceLT, Int.reduceLE, Int.reducePow, Int.reduceToNat, Int.reduceMul, Int.reduceAdd, Int.reduceDiv, Int.reduceSub, Int.reduceNeg, Int.reduceEq, Int.reduceMod, Nat.reduceLT, Nat.reduceLeDiff, sz_line, and_assoc, dFor, iRng3, iSeq, dComp, pickS, qTuple, qInt, gdTup, gdCons, gdNil, qEqD, qNeD, plD, plDs, dpD, dpDs, Bool.and_self, Bool.true_and, Bool.and_true, Nat.max_self, Nat.zero_le, Bool.false_and, Bool.and_false, dRaise, dCallX, dCallN, dTry, dHand, dAs, dNoHand, exmD, valD, qIsX, kitD, sp_point, sh_ii_eq, sh_i_eq, sh_iii_eq, sh_iir_eq, sh_iiQ_eq, sh_iiQPP_eq, sh_QPP_eq, sh_iiQP_eq, sh_iiiQP_eq, sh_iiiQi_eq, sp_divisor, sp_is_int, sp_number, sp_sign, sp_side, sp_red, sp_point3, sp_hd, iRng1D, sp_inside3, iZip, zQ_eq, sp_checkX, sp_turned85, sp_spot85, sp_boxAt85, sp_boxBad, sp_asked, sp_refused85, sp_spoiled, gC, a8]
      refine d7 _ _ ?_
      simp only [dSeq, dAsg, dCB, dCons, dNil, dVar, dC, dOp, dUn, dTest, dAnd, dOr, dNot, dAndV, dIf, dTup, dLst, dSl, dPart, dNoPart, dIfS, dRet, dDrop, dNext, dNever, gdName, qAbs, qAdd, qI, qI0, qUn, qEq, qNe, qLen, qSl, qSorted2, dCall, st0, seqD, List.map_cons, List.map_nil, List.length_cons, List.length_nil, List.cons_append, List.nil_append, List.set_cons_zero, List.set_cons_succ, List.getElem?_cons_zero, List.getElem?_cons_succ, Option.some.injEq, Nat.reduceAdd, Nat.reduceSub, List.replicate, Bool.not_eq_true', decide_eq_true_eq, decide_eq_false_iff_not, decide_not, ite_not, Bool.not_eq_eq_eq_not, Bool.not_true, Bool.not_false, if_true, if_false, true_and, and_true, List.cons.injEq, D.int.injEq, D.bl.injEq, D.tup.injEq, ite_true, ite_false, reduceCtorEq, Bool.false_eq_true, divP_lit, pow_lit, mul_lit, mul_litL, qIx, at0, at1, at2, at3, at4, at5, gupd_same, Int.reduceLT, Int.reduceLE, Int.reducePow, Int.reduceToNat, Int.reduceMul, Int.reduceAdd, Int.reduceDiv, Int.reduceSub, Int.reduceNeg, Int.reduceEq, Int.reduceMod, Nat.reduceLT, Nat.reduceLeDiff, sz_line, and_assoc, dFor, iRng3, iSeq, dComp, pickS, qTuple, qInt, gdTup, gdCons, gdNil, qEqD, qNeD, plD, plDs, dpD, dpDs, Bool.and_self, Bool.true_and, Bool.and_true, Nat.max_self, Nat.zero_le, Bool.false_and, Bool.and_false, dRaise, dCallX, dCallN, dTry, dHand, dAs, dNoHand, exmD, valD, qIsX, kitD, sp_point, sh_ii_eq, sh_i_eq, sh_iii_eq, sh_iir_eq, sh_iiQ_eq, sh_iiQPP_eq, sh_QPP_eq, sh_iiQP_eq, sh_iiiQP_eq, sh_iiiQi_eq, sp_divisor, sp_is_int, sp_number, sp_sign, sp_side, sp_red, sp_point3, sp_hd, iRng1D, sp_inside3, iZip, zQ_eq, sp_checkX, sp_turned85, sp_spot85, sp_boxAt85, sp_boxBad, sp_asked, sp_refused85, sp_spoiled, gS.1]
      refine ites (fun h10 => ?_) fun h10 => ?_
      · refine ⟨Int.emod_nonneg _ (by decide), h10, absI_nn _, (hf 5).abs, w0, h0, ws, hs, hI, fun wide' high' x' y' w' G5 t1 t2 t3 t4 t5 t6 t7 t8 s5 => ?_⟩
        refine loop_by (fun i σ' G' => (∃ z12, σ' = [some (.rl (ns.map D.int)), some (.ref p2), some (.int k), some (.int wide), some (.int high), some (.ref q), some (.tup [.int x, .int y, .int w]), some (.tup [.int a, .int b]), some (.int (x8 % 11)), some (.int wide'), some (.int high'), some (.tup [.int x', .int y', .int w']), z12]) ∧ G' p2 = some (.lst (cells.map D.int))) ⟨⟨_, rfl⟩, s5 _ _ gC⟩ (fun _ _ _ _ _ => trivial) ?_ ?_
        · rintro i5 d5 σ5 G6 hd5 ⟨⟨z, rfl⟩, hG6⟩
          obtain ⟨rfl, hi5⟩ := rng_at hd5
          simp only [dSeq, dAsg, dCB, dCons, dNil, dVar, dC, dOp, dUn, dTest, dAnd, dOr, dNot, dAndV, dIf, dTup, dLst, dSl, dPart, dNoPart, dIfS, dRet, dDrop, dNext, dNever, gdName, qAbs, qAdd, qI, qI0, qUn, qEq, qNe, qLen, qSl, qSorted2, dCall, st0, seqD, List.map_cons, List.map_nil, List.length_cons, List.length_nil, List.cons_append, List.nil_append, List.set_cons_zero, List.set_cons_succ, List.getElem?_cons_zero, List.getElem?_cons_succ, Option.some.injEq, Nat.reduceAdd, Nat.reduceSub, List.replicate, Bool.not_eq_true', decide_eq_true_eq, decide_eq_false_iff_not, decide_not, ite_not, Bool.not_eq_eq_eq_not, Bool.not_true, Bool.not_false, if_true, if_false, true_and, and_true, List.cons.injEq, D.int.injEq, D.bl.injEq, D.tup.injEq, ite_true, ite_false, reduceCtorEq, Bool.false_eq_true, divP_lit, pow_lit, mul_lit, mul_litL, qIx, at0, at1, at2, at3, at4, at5, gupd_same, Int.reduceLT, Int.reduceLE, Int.reducePow, Int.reduceToNat, Int.reduceMul, Int.reduceAdd, Int.reduceDiv, Int.reduceSub, Int.reduceNeg, Int.reduceEq, Int.reduceMod, Nat.reduceLT, Nat.reduceLeDiff, sz_line, and_assoc, dFor, iRng3, iSeq, dComp, pickS, qTuple, qInt, gdTup, gdCons, gdNil, qEqD, qNeD, plD, plDs, dpD, dpDs, Bool.and_self, Bool.true_and, Bool.and_true, Nat.max_self, Nat.zero_le, Bool.false_and, Bool.and_false, dRaise, dCallX, dCallN, dTry, dHand, dAs, dNoHand, exmD, valD, qIsX, kitD, sp_point, sh_ii_eq, sh_i_eq, sh_iii_eq, sh_iir_eq, sh_iiQ_eq, sh_iiQPP_eq, sh_QPP_eq, sh_iiQP_eq, sh_iiiQP_eq, sh_iiiQi_eq, sp_divisor, sp_is_int, sp_number, sp_sign, sp_side, sp_red, sp_point3, sp_hd, iRng1D, sp_inside3, iZip, zQ_eq, sp_checkX, sp_turned85, sp_spot85, sp_boxAt85, sp_boxBad, sp_asked, sp_refused85, sp_spoiled]
          exact ⟨⟨t1, t2, t3, t4, t5, t6, t7, hH⟩, t8, fun G7 s7 => ⟨⟨_, rfl⟩, s7 _ _ hG6⟩⟩
        · rintro σ5 G6 ⟨⟨z, rfl⟩, hG6⟩
          exact ⟨⟨_, _, _, _, _, _, _, _, _, _, _, rfl⟩, hG6⟩
      · exact ⟨⟨_, _, _, _, _, _, _, _, _, _, _, rfl, rfl, rfl, rfl, rfl, rfl, rfl, rfl, rfl, rfl, rfl⟩, gC⟩
    · rintro σ' G' ⟨⟨z2, z3, z4, z5, z6, z7, z8, z9, z10, z11, z12, rfl⟩, hG⟩
      refine c2 _ _ ?_
      simp only [dSeq, dAsg, dCB, dCons, dNil, dVar, dC, dOp, dUn, dTest, dAnd, dOr, dNot, dAndV, dIf, dTup, dLst, dSl, dPart, dNoPart, dIfS, dRet, dDrop, dNext, dNever, gdName, qAbs, qAdd, qI, qI0, qUn, qEq, qNe, qLen, qSl, qSorted2, dCall, st0, seqD, List.map_cons, List.map_nil, List.length_cons, List.length_nil, List.cons_append, List.nil_append, List.set_cons_zero, List.set_cons_succ, List.getElem?_cons_zero, List.getElem?_cons_succ, Option.some.injEq, Nat.reduceAdd, Nat.reduceSub, List.replicate, Bool.not_eq_true', decide_eq_true_eq, decide_eq_false_iff_not, decide_not, ite_not, Bool.not_eq_eq_eq_not, Bool.not_true, Bool.not_false, if_true, if_false, true_and, and_true, List.cons.injEq, D.int.injEq, D.bl.injEq, D.tup.injEq, ite_true, ite_false, reduceCtorEq, Bool.false_eq_true, divP_lit, pow_lit, mul_lit, mul_litL, qIx, at0, at1, at2, at3, at4, at5, gupd_same, Int.reduceLT, Int.reduceLE, Int.reducePow, Int.reduceToNat, Int.reduceMul, Int.reduceAdd, Int.reduceDiv, Int.reduceSub, Int.reduceNeg, Int.reduceEq, Int.reduceMod, Nat.reduceLT, Nat.reduceLeDiff, sz_line, and_assoc, dFor, iRng3, iSeq, dComp, pickS, qTuple, qInt, gdTup, gdCons, gdNil, qEqD, qNeD, plD, plDs, dpD, dpDs, Bool.and_self, Bool.true_and, Bool.and_true, Nat.max_self, Nat.zero_le, Bool.false_and, Bool.and_false, dRaise, dCallX, dCallN, dTry, dHand, dAs, dNoHand, exmD, valD, qIsX, kitD, sp_point, sh_ii_eq, sh_i_eq, sh_iii_eq, sh_iir_eq, sh_iiQ_eq, sh_iiQPP_eq, sh_QPP_eq, sh_iiQP_eq, sh_iiiQP_eq, sh_iiiQi_eq, sp_divisor, sp_is_int, sp_number, sp_sign, sp_side, sp_red, sp_point3, sp_hd, iRng1D, sp_inside3, iZip, zQ_eq, sp_checkX, sp_turned85, sp_spot85, sp_boxAt85, sp_boxBad, sp_asked, sp_refused85, sp_spoiled]
      exact hq G'
end
theorem len1 {fd : FuncData} {ps : List Str} (h : ∀ u0, bindArgs fd { pos := [u0] } = pure (ps.zip [u0])) (us : List Value) (hl : us.length = 1) : bindArgs fd { pos := us } = pure (ps.zip us) := by
  cases us with
  | nil => exact nomatch hl
  | cons u0 t0 =>
    cases t0 with
    | nil => exact h u0
    | cons _ _ => exact nomatch hl
theorem len2 {fd : FuncData} {ps : List Str} (h : ∀ u0 u1, bindArgs fd { pos := [u0, u1] } = pure (ps.zip [u0, u1])) (us : List Value) (hl : us.length = 2) : bindArgs fd { pos := us } = pure (ps.zip us) := by
  cases us with
  | nil => exact nomatch hl
  | cons u0 t0 =>
    cases t0 with
    | nil => exact nomatch hl
    | cons u1 t1 =>
      cases t1 with
      | nil => exact h u0 u1
      | cons _ _ => exact nomatch hl
theorem len3 {fd : FuncData} {ps : List Str} (h : ∀ u0 u1 u2, bindArgs fd { pos := [u0, u1, u2] } = pure (ps.zip [u0, u1, u2])) (us : List Value) (hl : us.length = 3) : bindArgs fd { pos := us } = pure (ps.zip us) := by
  cases us with
  | nil => exact nomatch hl
  | cons u0 t0 =>
    cases t0 with
    | nil => exact nomatch hl
    | cons u1 t1 =>
      cases t1 with
      | nil => exact nomatch hl
      | cons u2 t2 =>
        cases t2 with
        | nil => exact h u0 u1 u2
        | cons _ _ => exact nomatch hl
theorem len4 {fd : FuncData} {ps : List Str} (h : ∀ u0 u1 u2 u3, bindArgs fd { pos := [u0, u1, u2, u3] } = pure (ps.zip [u0, u1, u2, u3])) (us : List Value) (hl : us.length = 4) : bindArgs fd { pos := us } = pure (ps.zip us) := by
  cases us with
  | nil => exact nomatch hl
  | cons u0 t0 =>
    cases t0 with
    | nil => exact nomatch hl
    | cons u1 t1 =>
      cases t1 with
      | nil => exact nomatch hl
      | cons u2 t2 =>
        cases t2 with
        | nil => exact nomatch hl
        | cons u3 t3 =>
          cases t3 with
          | nil => exact h u0 u1 u2 u3
          | cons _ _ => exact nomatch hl
theorem len5 {fd : FuncData} {ps : List Str} (h : ∀ u0 u1 u2 u3 u4, bindArgs fd { pos := [u0, u1, u2, u3, u4] } = pure (ps.zip [u0, u1, u2, u3, u4])) (us : List Value) (hl : us.length = 5) : bindArgs fd { pos := us } = pure (ps.zip us) := by
  cases us with
  | nil => exact nomatch hl
  | cons u0 t0 =>
    cases t0 with
    | nil => exact nomatch hl
    | cons u1 t1 =>
      cases t1 with
      | nil => exact nomatch hl
      | cons u2 t2 =>
        cases t2 with
        | nil => exact nomatch hl
        | cons u3 t3 =>
          cases t3 with
          | nil => exact nomatch hl
          | cons u4 t4 =>
            cases t4 with
            | nil => exact h u0 u1 u2 u3 u4
            | cons _ _ => exact nomatch hl
theorem all_mk {l : PySem.W.OpenLaw} {w : World} {K : PySem.W.Frag} {h : Heap} {mg : Str → Option Value} {fa : Addr} (X : K.In h) (G : h.Ns mainGlobals mg) (hfa : mg "law" = some (.ref fa))
    {f0 : Addr} {od0 an0 : Option Addr} {sl0 : Array (Option Value)} {oc0 kV0 dc0 pm0 cd0 ct0 : Value}
    {f1 : Addr} {od1 an1 : Option Addr} {sl1 : Array (Option Value)} {oc1 kV1 dc1 pm1 cd1 ct1 : Value}
    {f2 : Addr} {od2 an2 : Option Addr} {sl2 : Array (Option Value)} {oc2 kV2 dc2 pm2 cd2 ct2 : Value}
    {f3 : Addr} {od3 an3 : Option Addr} {sl3 : Array (Option Value)} {oc3 kV3 dc3 pm3 cd3 ct3 : Value}
    {f4 : Addr} {od4 an4 : Option Addr} {sl4 : Array (Option Value)} {oc4 kV4 dc4 pm4 cd4 ct4 : Value}
    {f5 : Addr} {od5 an5 : Option Addr} {sl5 : Array (Option Value)} {oc5 kV5 dc5 pm5 cd5 ct5 : Value}
    {f6 : Addr} {od6 an6 : Option Addr} {sl6 : Array (Option Value)} {oc6 kV6 dc6 pm6 cd6 ct6 : Value}
    {f7 : Addr} {od7 an7 : Option Addr} {sl7 : Array (Option Value)} {oc7 kV7 dc7 pm7 cd7 ct7 : Value}
    {f8 : Addr} {od8 an8 : Option Addr} {sl8 : Array (Option Value)} {oc8 kV8 dc8 pm8 cd8 ct8 : Value}
    {f9 : Addr} {od9 an9 : Option Addr} {sl9 : Array (Option Value)} {oc9 kV9 dc9 pm9 cd9 ct9 : Value}
    {f10 : Addr} {od10 an10 : Option Addr} {sl10 : Array (Option Value)} {oc10 kV10 dc10 pm10 cd10 ct10 : Value}
    {f11 : Addr} {od11 an11 : Option Addr} {sl11 : Array (Option Value)} {oc11 kV11 dc11 pm11 cd11 ct11 : Value}
    {f12 : Addr} {od12 an12 : Option Addr} {sl12 : Array (Option Value)} {oc12 kV12 dc12 pm12 cd12 ct12 : Value}
    {f13 : Addr} {od13 an13 : Option Addr} {sl13 : Array (Option Value)} {oc13 kV13 dc13 pm13 cd13 ct13 : Value}
    {f14 : Addr} {od14 an14 : Option Addr} {sl14 : Array (Option Value)} {oc14 kV14 dc14 pm14 cd14 ct14 : Value}
    {f15 : Addr} {od15 an15 : Option Addr} {sl15 : Array (Option Value)} {oc15 kV15 dc15 pm15 cd15 ct15 : Value}
    {f16 : Addr} {od16 an16 : Option Addr} {sl16 : Array (Option Value)} {oc16 kV16 dc16 pm16 cd16 ct16 : Value}
    {f17 : Addr} {od17 an17 : Option Addr} {sl17 : Array (Option Value)} {oc17 kV17 dc17 pm17 cd17 ct17 : Value}
    {f18 : Addr} {od18 an18 : Option Addr} {sl18 : Array (Option Value)} {oc18 kV18 dc18 pm18 cd18 ct18 : Value}
    {f19 : Addr} {od19 an19 : Option Addr} {sl19 : Array (Option Value)} {oc19 kV19 dc19 pm19 cd19 ct19 : Value}
    {C_RoomError : Addr}
    {C_NoPoint : Addr}
    {C_NoWay : Addr}
    {C_BadWall : Addr}
    {C_TooMany : Addr}
    {C_Overlap : Addr}
    {C_OnWall : Addr}
    {C_Over : Addr}
    {C_TooLong : Addr}
    {C_OutOfBox : Addr}
    {C_BadDrawing : Addr}
    {C_NoText : Addr}
    {C_NoName : Addr}
    {C_NoRow : Addr}
    (n_RoomError : PySem.W.nsIn K mainGlobals "RoomError" = some (some (.ref C_RoomError)))
    (n_NoPoint : PySem.W.nsIn K mainGlobals "NoPoint" = some (some (.ref C_NoPoint)))
    (n_NoWay : PySem.W.nsIn K mainGlobals "NoWay" = some (some (.ref C_NoWay)))
    (n_BadWall : PySem.W.nsIn K mainGlobals "BadWall" = some (some (.ref C_BadWall)))
    (n_TooMany : PySem.W.nsIn K mainGlobals "TooMany" = some (some (.ref C_TooMany)))
    (n_Overlap : PySem.W.nsIn K mainGlobals "Overlap" = some (some (.ref C_Overlap)))
    (n_OnWall : PySem.W.nsIn K mainGlobals "OnWall" = some (some (.ref C_OnWall)))
    (n_Over : PySem.W.nsIn K mainGlobals "Over" = some (some (.ref C_Over)))
    (n_TooLong : PySem.W.nsIn K mainGlobals "TooLong" = some (some (.ref C_TooLong)))
    (n_OutOfBox : PySem.W.nsIn K mainGlobals "OutOfBox" = some (some (.ref C_OutOfBox)))
    (n_BadDrawing : PySem.W.nsIn K mainGlobals "BadDrawing" = some (some (.ref C_BadDrawing)))
    (n_NoText : PySem.W.nsIn K mainGlobals "NoText" = some (some (.ref C_NoText)))
    (n_NoName : PySem.W.nsIn K mainGlobals "NoName" = some (some (.ref C_NoName)))
    (n_NoRow : PySem.W.nsIn K mainGlobals "NoRow" = some (some (.ref C_NoRow)))
    (a0 : PySem.W.nsIn K mainGlobals "divisor" = some (some (.ref f0))) (l0 : K.lookup f0 = some ⟨oc0, od0, .func (PySem.W.fnOf "divisor" "divisor" (defArgs s_divisor) (defBody s_divisor) (defScope s_divisor) .none kV0 dc0 pm0 an0 cd0 ct0), sl0⟩) (c0 : PySem.W.codeIn K cd0 "divisor" = true) (k0 : PySem.W.keepIn K (.ref f0) = true)
    (a1 : PySem.W.nsIn K mainGlobals "point_of" = some (some (.ref f1))) (l1 : K.lookup f1 = some ⟨oc1, od1, .func (PySem.W.fnOf "point_of" "point_of" (defArgs s_point_of) (defBody s_point_of) (defScope s_point_of) .none kV1 dc1 pm1 an1 cd1 ct1), sl1⟩) (c1 : PySem.W.codeIn K cd1 "point_of" = true) (k1 : PySem.W.keepIn K (.ref f1) = true)
    (a2 : PySem.W.nsIn K mainGlobals "with_sign_of" = some (some (.ref f2))) (l2 : K.lookup f2 = some ⟨oc2, od2, .func (PySem.W.fnOf "with_sign_of" "with_sign_of" (defArgs s_with_sign_of) (defBody s_with_sign_of) (defScope s_with_sign_of) .none kV2 dc2 pm2 an2 cd2 ct2), sl2⟩) (c2 : PySem.W.codeIn K cd2 "with_sign_of" = true) (k2 : PySem.W.keepIn K (.ref f2) = true)
    (a3 : PySem.W.nsIn K mainGlobals "spot_at" = some (some (.ref f3))) (l3 : K.lookup f3 = some ⟨oc3, od3, .func (PySem.W.fnOf "spot_at" "spot_at" (defArgs s_spot_at) (defBody s_spot_at) (defScope s_spot_at) .none kV3 dc3 pm3 an3 cd3 ct3), sl3⟩) (c3 : PySem.W.codeIn K cd3 "spot_at" = true) (k3 : PySem.W.keepIn K (.ref f3) = true)
    (a4 : PySem.W.nsIn K mainGlobals "check_inside" = some (some (.ref f4))) (l4 : K.lookup f4 = some ⟨oc4, od4, .func (PySem.W.fnOf "check_inside" "check_inside" (defArgs s_check_inside) (defBody s_check_inside) (defScope s_check_inside) .none kV4 dc4 pm4 an4 cd4 ct4), sl4⟩) (c4 : PySem.W.codeIn K cd4 "check_inside" = true) (k4 : PySem.W.keepIn K (.ref f4) = true)
    (a5 : PySem.W.nsIn K mainGlobals "turned" = some (some (.ref f5))) (l5 : K.lookup f5 = some ⟨oc5, od5, .func (PySem.W.fnOf "turned" "turned" (defArgs s_turned) (defBody s_turned) (defScope s_turned) .none kV5 dc5 pm5 an5 cd5 ct5), sl5⟩) (c5 : PySem.W.codeIn K cd5 "turned" = true) (k5 : PySem.W.keepIn K (.ref f5) = true)
    (a6 : PySem.W.nsIn K mainGlobals "box_at" = some (some (.ref f6))) (l6 : K.lookup f6 = some ⟨oc6, od6, .func (PySem.W.fnOf "box_at" "box_at" (defArgs s_box_at) (defBody s_box_at) (defScope s_box_at) .none kV6 dc6 pm6 an6 cd6 ct6), sl6⟩) (c6 : PySem.W.codeIn K cd6 "box_at" = true) (k6 : PySem.W.keepIn K (.ref f6) = true)
    (a7 : PySem.W.nsIn K mainGlobals "box_corner" = some (some (.ref f7))) (l7 : K.lookup f7 = some ⟨oc7, od7, .func (PySem.W.fnOf "box_corner" "box_corner" (defArgs s_box_corner) (defBody s_box_corner) (defScope s_box_corner) .none kV7 dc7 pm7 an7 cd7 ct7), sl7⟩) (c7 : PySem.W.codeIn K cd7 "box_corner" = true) (k7 : PySem.W.keepIn K (.ref f7) = true)
    (a8 : PySem.W.nsIn K mainGlobals "box_round" = some (some (.ref f8))) (l8 : K.lookup f8 = some ⟨oc8, od8, .func (PySem.W.fnOf "box_round" "box_round" (defArgs s_box_round) (defBody s_box_round) (defScope s_box_round) .none kV8 dc8 pm8 an8 cd8 ct8), sl8⟩) (c8 : PySem.W.codeIn K cd8 "box_round" = true) (k8 : PySem.W.keepIn K (.ref f8) = true)
    (a9 : PySem.W.nsIn K mainGlobals "_law_number" = some (some (.ref f9))) (l9 : K.lookup f9 = some ⟨oc9, od9, .func (PySem.W.fnOf "_law_number" "_law_number" (defArgs s__law_number) (defBody s__law_number) (defScope s__law_number) .none kV9 dc9 pm9 an9 cd9 ct9), sl9⟩) (c9 : PySem.W.codeIn K cd9 "_law_number" = true) (k9 : PySem.W.keepIn K (.ref f9) = true)
    (a10 : PySem.W.nsIn K mainGlobals "_law_side" = some (some (.ref f10))) (l10 : K.lookup f10 = some ⟨oc10, od10, .func (PySem.W.fnOf "_law_side" "_law_side" (defArgs s__law_side) (defBody s__law_side) (defScope s__law_side) .none kV10 dc10 pm10 an10 cd10 ct10), sl10⟩) (c10 : PySem.W.codeIn K cd10 "_law_side" = true) (k10 : PySem.W.keepIn K (.ref f10) = true)
    (a11 : PySem.W.nsIn K mainGlobals "_law_measure" = some (some (.ref f11))) (l11 : K.lookup f11 = some ⟨oc11, od11, .func (PySem.W.fnOf "_law_measure" "_law_measure" (defArgs s__law_measure) (defBody s__law_measure) (defScope s__law_measure) .none kV11 dc11 pm11 an11 cd11 ct11), sl11⟩) (c11 : PySem.W.codeIn K cd11 "_law_measure" = true) (k11 : PySem.W.keepIn K (.ref f11) = true)
    (a12 : PySem.W.nsIn K mainGlobals "_law_reduced" = some (some (.ref f12))) (l12 : K.lookup f12 = some ⟨oc12, od12, .func (PySem.W.fnOf "_law_reduced" "_law_reduced" (defArgs s__law_reduced) (defBody s__law_reduced) (defScope s__law_reduced) .none kV12 dc12 pm12 an12 cd12 ct12), sl12⟩) (c12 : PySem.W.codeIn K cd12 "_law_reduced" = true) (k12 : PySem.W.keepIn K (.ref f12) = true)
    (a13 : PySem.W.nsIn K mainGlobals "_law_point" = some (some (.ref f13))) (l13 : K.lookup f13 = some ⟨oc13, od13, .func (PySem.W.fnOf "_law_point" "_law_point" (defArgs s__law_point) (defBody s__law_point) (defScope s__law_point) .none kV13 dc13 pm13 an13 cd13 ct13), sl13⟩) (c13 : PySem.W.codeIn K cd13 "_law_point" = true) (k13 : PySem.W.keepIn K (.ref f13) = true)
    (a14 : PySem.W.nsIn K mainGlobals "_law_heading" = some (some (.ref f14))) (l14 : K.lookup f14 = some ⟨oc14, od14, .func (PySem.W.fnOf "_law_heading" "_law_heading" (defArgs s__law_heading) (defBody s__law_heading) (defScope s__law_heading) .none kV14 dc14 pm14 an14 cd14 ct14), sl14⟩) (c14 : PySem.W.codeIn K cd14 "_law_heading" = true) (k14 : PySem.W.keepIn K (.ref f14) = true)
    (a15 : PySem.W.nsIn K mainGlobals "_law_inside" = some (some (.ref f15))) (l15 : K.lookup f15 = some ⟨oc15, od15, .func (PySem.W.fnOf "_law_inside" "_law_inside" (defArgs s__law_inside) (defBody s__law_inside) (defScope s__law_inside) .none kV15 dc15 pm15 an15 cd15 ct15), sl15⟩) (c15 : PySem.W.codeIn K cd15 "_law_inside" = true) (k15 : PySem.W.keepIn K (.ref f15) = true)
    (a16 : PySem.W.nsIn K mainGlobals "_law_spoiled" = some (some (.ref f16))) (l16 : K.lookup f16 = some ⟨oc16, od16, .func (PySem.W.fnOf "_law_spoiled" "_law_spoiled" (defArgs s__law_spoiled) (defBody s__law_spoiled) (defScope s__law_spoiled) .none kV16 dc16 pm16 an16 cd16 ct16), sl16⟩) (c16 : PySem.W.codeIn K cd16 "_law_spoiled" = true) (k16 : PySem.W.keepIn K (.ref f16) = true)
    (a17 : PySem.W.nsIn K mainGlobals "_law_asked" = some (some (.ref f17))) (l17 : K.lookup f17 = some ⟨oc17, od17, .func (PySem.W.fnOf "_law_asked" "_law_asked" (defArgs s__law_asked) (defBody s__law_asked) (defScope s__law_asked) .none kV17 dc17 pm17 an17 cd17 ct17), sl17⟩) (c17 : PySem.W.codeIn K cd17 "_law_asked" = true) (k17 : PySem.W.keepIn K (.ref f17) = true)
    (a18 : PySem.W.nsIn K mainGlobals "_law_refused" = some (some (.ref f18))) (l18 : K.lookup f18 = some ⟨oc18, od18, .func (PySem.W.fnOf "_law_refused" "_law_refused" (defArgs s__law_refused) (defBody s__law_refused) (defScope s__law_refused) .none kV18 dc18 pm18 an18 cd18 ct18), sl18⟩) (c18 : PySem.W.codeIn K cd18 "_law_refused" = true) (k18 : PySem.W.keepIn K (.ref f18) = true)
    (a19 : PySem.W.nsIn K mainGlobals "law" = some (some (.ref f19))) (l19 : K.lookup f19 = some ⟨oc19, od19, .func (PySem.W.fnOf "law" "law" (defArgs s_law) (defBody s_law) (defScope s_law) .none kV19 dc19 pm19 an19 cd19 ct19), sl19⟩) (c19 : PySem.W.codeIn K cd19 "law" = true) (k19 : PySem.W.keepIn K (.ref f19) = true)
    (z0 : PySem.W.nsIn K mainGlobals "ValueError" = some none)
    (z1 : PySem.W.nsIn K mainGlobals "abs" = some none)
    (z2 : PySem.W.nsIn K mainGlobals "int" = some none)
    (z3 : PySem.W.nsIn K mainGlobals "isinstance" = some none)
    (z4 : PySem.W.nsIn K mainGlobals "len" = some none)
    (z5 : PySem.W.nsIn K mainGlobals "range" = some none)
    (z6 : PySem.W.nsIn K mainGlobals "sorted" = some none)
    (z7 : PySem.W.nsIn K mainGlobals "tuple" = some none)
    (z8 : PySem.W.nsIn K mainGlobals "zip" = some none)
    (e_OutOfBox : PySem.W.excIn K C_OutOfBox [.type "ValueError", .type "Exception", .type "BaseException", .type "object"] "ValueError.__new__" = true)
    (x0 : PySem.W.exmAny K (.ref C_OutOfBox) [(.ref C_BadDrawing), (.ref C_BadWall), (.ref C_NoName), (.ref C_NoPoint), (.ref C_NoRow), (.ref C_NoText), (.ref C_NoWay), (.ref C_OnWall), (.ref C_Over), (.ref C_Overlap), (.ref C_TooLong), (.ref C_TooMany)] = some false)
    (x1 : PySem.W.exmOne K (.ref C_OutOfBox) (.ref C_OutOfBox) = some true)
    (y0 : PySem.W.kitOne K (.ref C_OutOfBox) (.ref C_RoomError) = some true)
    (y1 : PySem.W.kitOne K (.ref C_OutOfBox) (.type "ValueError") = some true)
    : ∃ fd : FuncData, (∀ (s : Shared) (v : Value), BindsTo s fd ⟨[v], []⟩ [("_law_script", v)]) ∧ ∀ base : Heap, K.In base → base.Ns mainGlobals mg → FnOk l.prog w K mg base CX0 7 fa fd ["_law_script"] (spOf K spLaw) := by
  have e := hfa.symm.trans (PySem.W.mg_of X G a19)
  cases e
  have F0 := fun_mk (st := s_divisor) l0 c0 k0
  have b0 := F0.binds (ps := ["one", "other"]) fun _ _ _ _ _ _ us hl => by refine len2 ?_ us hl; exact fun _ _ => rfl
  have F1 := fun_mk (st := s_point_of) l1 c1 k1
  have b1 := F1.binds (ps := ["x", "y", "w"]) fun _ _ _ _ _ _ us hl => by refine len3 ?_ us hl; exact fun _ _ _ => rfl
  have F2 := fun_mk (st := s_with_sign_of) l2 c2 k2
  have b2 := F2.binds (ps := ["last", "share"]) fun _ _ _ _ _ _ us hl => by refine len2 ?_ us hl; exact fun _ _ => rfl
  have F3 := fun_mk (st := s_spot_at) l3 c3 k3
  have b3 := F3.binds (ps := ["P", "heading", "t"]) fun _ _ _ _ _ _ us hl => by refine len3 ?_ us hl; exact fun _ _ _ => rfl
  have F4 := fun_mk (st := s_check_inside) l4 c4 k4
  have b4 := F4.binds (ps := ["wide", "high", "P"]) fun _ _ _ _ _ _ us hl => by refine len3 ?_ us hl; exact fun _ _ _ => rfl
  have F5 := fun_mk (st := s_turned) l5 c5 k5
  have b5 := F5.binds (ps := ["far", "side", "speed"]) fun _ _ _ _ _ _ us hl => by refine len3 ?_ us hl; exact fun _ _ _ => rfl
  have F6 := fun_mk (st := s_box_at) l6 c6 k6
  have b6 := F6.binds (ps := ["wide", "high", "P", "heading", "t"]) fun _ _ _ _ _ _ us hl => by refine len5 ?_ us hl; exact fun _ _ _ _ _ => rfl
  have F7 := fun_mk (st := s_box_corner) l7 c7 k7
  have b7 := F7.binds (ps := ["wide", "high", "P", "heading"]) fun _ _ _ _ _ _ us hl => by refine len4 ?_ us hl; exact fun _ _ _ _ => rfl
  have F8 := fun_mk (st := s_box_round) l8 c8 k8
  have b8 := F8.binds (ps := ["wide", "high", "P", "heading"]) fun _ _ _ _ _ _ us hl => by refine len4 ?_ us hl; exact fun _ _ _ _ => rfl
  have F9 := fun_mk (st := s__law_number) l9 c9 k9
  have b9 := F9.binds (ps := ["_law_cell"]) fun _ _ _ _ _ _ us hl => by refine len1 ?_ us hl; exact fun _ => rfl
  have F10 := fun_mk (st := s__law_side) l10 c10 k10
  have b10 := F10.binds (ps := ["_law_cell"]) fun _ _ _ _ _ _ us hl => by refine len1 ?_ us hl; exact fun _ => rfl
  have F11 := fun_mk (st := s__law_measure) l11 c11 k11
  have b11 := F11.binds (ps := ["_law_one", "_law_other"]) fun _ _ _ _ _ _ us hl => by refine len2 ?_ us hl; exact fun _ _ => rfl
  have F12 := fun_mk (st := s__law_reduced) l12 c12 k12
  have b12 := F12.binds (ps := ["_law_top", "_law_bottom"]) fun _ _ _ _ _ _ us hl => by refine len2 ?_ us hl; exact fun _ _ => rfl
  have F13 := fun_mk (st := s__law_point) l13 c13 k13
  have b13 := F13.binds (ps := ["_law_x", "_law_y", "_law_w"]) fun _ _ _ _ _ _ us hl => by refine len3 ?_ us hl; exact fun _ _ _ => rfl
  have F14 := fun_mk (st := s__law_heading) l14 c14 k14
  have b14 := F14.binds (ps := ["_law_a", "_law_b"]) fun _ _ _ _ _ _ us hl => by refine len2 ?_ us hl; exact fun _ _ => rfl
  have F15 := fun_mk (st := s__law_inside) l15 c15 k15
  have b15 := F15.binds (ps := ["_law_wide", "_law_high", "_law_some"]) fun _ _ _ _ _ _ us hl => by refine len3 ?_ us hl; exact fun _ _ _ => rfl
  have F16 := fun_mk (st := s__law_spoiled) l16 c16 k16
  have b16 := F16.binds (ps := ["_law_way", "_law_wide", "_law_high", "_law_kp", "_law_low"]) fun _ _ _ _ _ _ us hl => by refine len5 ?_ us hl; exact fun _ _ _ _ _ => rfl
  have F17 := fun_mk (st := s__law_asked) l17 c17 k17
  have b17 := F17.binds (ps := ["_law_number_here", "_law_wide", "_law_high", "_law_kp", "_law_heading_here"]) fun _ _ _ _ _ _ us hl => by refine len5 ?_ us hl; exact fun _ _ _ _ _ => rfl
  have F18 := fun_mk (st := s__law_refused) l18 c18 k18
  have b18 := F18.binds (ps := ["_law_number_here", "_law_wide", "_law_high", "_law_kp", "_law_heading_here"]) fun _ _ _ _ _ _ us hl => by refine len5 ?_ us hl; exact fun _ _ _ _ _ => rfl
  have F19 := fun_mk (st := s_law) l19 c19 k19
  have b19 := F19.binds (ps := ["_law_script"]) fun _ _ _ _ _ _ us hl => by refine len1 ?_ us hl; exact fun _ => rfl
  have T : Txt K mg ⟨f0, _, f1, _, f2, _, f3, _, f4, _, f5, _, f6, _, f7, _, f8, _, f9, _, f10, _, f11, _, f12, _, f13, _, f14, _, f15, _, f16, _, f17, _, f18, _, fa, _, C_RoomError, C_NoPoint, C_NoWay, C_BadWall, C_TooMany, C_Overlap, C_OnWall, C_Over, C_TooLong, C_OutOfBox, C_BadDrawing, C_NoText, C_NoName, C_NoRow⟩ := ⟨F0, PySem.W.mg_of X G a0, k0, b0, F1, PySem.W.mg_of X G a1, k1, b1, F2, PySem.W.mg_of X G a2, k2, b2, F3, PySem.W.mg_of X G a3, k3, b3, F4, PySem.W.mg_of X G a4, k4, b4, F5, PySem.W.mg_of X G a5, k5, b5, F6, PySem.W.mg_of X G a6, k6, b6, F7, PySem.W.mg_of X G a7, k7, b7, F8, PySem.W.mg_of X G a8, k8, b8, F9, PySem.W.mg_of X G a9, k9, b9, F10, PySem.W.mg_of X G a10, k10, b10, F11, PySem.W.mg_of X G a11, k11, b11, F12, PySem.W.mg_of X G a12, k12, b12, F13, PySem.W.mg_of X G a13, k13, b13, F14, PySem.W.mg_of X G a14, k14, b14, F15, PySem.W.mg_of X G a15, k15, b15, F16, PySem.W.mg_of X G a16, k16, b16, F17, PySem.W.mg_of X G a17, k17, b17, F18, PySem.W.mg_of X G a18, k18, b18, F19, PySem.W.mg_of X G a19, k19, b19, PySem.W.mg_none_of X G z0, PySem.W.mg_none_of X G z1, PySem.W.mg_none_of X G z2, PySem.W.mg_none_of X G z3, PySem.W.mg_none_of X G z4, PySem.W.mg_none_of X G z5, PySem.W.mg_none_of X G z6, PySem.W.mg_none_of X G z7, PySem.W.mg_none_of X G z8, PySem.W.mg_of X G n_RoomError, PySem.W.mg_of X G n_NoPoint, PySem.W.mg_of X G n_NoWay, PySem.W.mg_of X G n_BadWall, PySem.W.mg_of X G n_TooMany, PySem.W.mg_of X G n_Overlap, PySem.W.mg_of X G n_OnWall, PySem.W.mg_of X G n_Over, PySem.W.mg_of X G n_TooLong, PySem.W.mg_of X G n_OutOfBox, PySem.W.mg_of X G n_BadDrawing, PySem.W.mg_of X G n_NoText, PySem.W.mg_of X G n_NoName, PySem.W.mg_of X G n_NoRow, ⟨PySem.W.mg_of X G n_OutOfBox, e_OutOfBox, n_OutOfBox⟩, x0, x1, y0, y1⟩
  exact ⟨_, fun s v => .of_eq rfl, fun base _ _ => ok_law T⟩
end My
open PySem PySem.W PyProof.Rows
set_option maxRecDepth 100000 in
set_option maxHeartbeats 0 in
theorem PySem.Challenge.cw_bouncewise_k85_out_of_the_box_holds : PySem.Challenge.rw_bouncewise_k85_out_of_the_box.Holds := by
  w_on; o_law; k_head; (case hw => w_witness2)
  k_fill
  refine L3.walkD (l := PySem.Challenge.rw_bouncewise_k85_out_of_the_box) (k := 7) (x := "_law_script") rfl rfl ⟨rfl, by decide, by decide⟩ (fun w h Y => PySem.W.kIn_of Y) ?F
  case F =>
    intro w mg fa h KX G hmg
    refine' My.all_mk KX G hmg ?n_RoomError ?n_NoPoint ?n_NoWay ?n_BadWall ?n_TooMany ?n_Overlap ?n_OnWall ?n_Over ?n_TooLong ?n_OutOfBox ?n_BadDrawing ?n_NoText ?n_NoName ?n_NoRow ?a0 ?l0 ?c0 ?k0 ?a1 ?l1 ?c1 ?k1 ?a2 ?l2 ?c2 ?k2 ?a3 ?l3 ?c3 ?k3 ?a4 ?l4 ?c4 ?k4 ?a5 ?l5 ?c5 ?k5 ?a6 ?l6 ?c6 ?k6 ?a7 ?l7 ?c7 ?k7 ?a8 ?l8 ?c8 ?k8 ?a9 ?l9 ?c9 ?k9 ?a10 ?l10 ?c10 ?k10 ?a11 ?l11 ?c11 ?k11 ?a12 ?l12 ?c12 ?k12 ?a13 ?l13 ?c13 ?k13 ?a14 ?l14 ?c14 ?k14 ?a15 ?l15 ?c15 ?k15 ?a16 ?l16 ?c16 ?k16 ?a17 ?l17 ?c17 ?k17 ?a18 ?l18 ?c18 ?k18 ?a19 ?l19 ?c19 ?k19 ?z0 ?z1 ?z2 ?z3 ?z4 ?z5 ?z6 ?z7 ?z8 ?e_OutOfBox ?x0 ?x1 ?y0 ?y1
    (case n_RoomError => k_is)
    (case n_NoPoint => k_is)
    (case n_NoWay => k_is)
    (case n_BadWall => k_is)
    (case n_TooMany => k_is)
    (case n_Overlap => k_is)
    (case n_OnWall => k_is)
    (case n_Over => k_is)
    (case n_TooLong => k_is)
    (case n_OutOfBox => k_is)
    (case n_BadDrawing => k_is)
    (case n_NoText => k_is)
    (case n_NoName => k_is)
    (case n_NoRow => k_is)
    (case a0 => k_is)
    (case l0 => k_is)
    (case c0 => k_is)
    (case k0 => k_is)
    (case a1 => k_is)
    (case l1 => k_is)
    (case c1 => k_is)
    (case k1 => k_is)
    (case a2 => k_is)
    (case l2 => k_is)
    (case c2 => k_is)
    (case k2 => k_is)
    (case a3 => k_is)
    (case l3 => k_is)
    (case c3 => k_is)
    (case k3 => k_is)
    (case a4 => k_is)
    (case l4 => k_is)
    (case c4 => k_is)
    (case k4 => k_is)
    (case a5 => k_is)
    (case l5 => k_is)
    (case c5 => k_is)
    (case k5 => k_is)
    (case a6 => k_is)
    (case l6 => k_is)
    (case c6 => k_is)
    (case k6 => k_is)
    (case a7 => k_is)
    (case l7 => k_is)
    (case c7 => k_is)
    (case k7 => k_is)
    (case a8 => k_is)
    (case l8 => k_is)
    (case c8 => k_is)
    (case k8 => k_is)
    (case a9 => k_is)
    (case l9 => k_is)
    (case c9 => k_is)
    (case k9 => k_is)
    (case a10 => k_is)
    (case l10 => k_is)
    (case c10 => k_is)
    (case k10 => k_is)
    (case a11 => k_is)
    (case l11 => k_is)
    (case c11 => k_is)
    (case k11 => k_is)
    (case a12 => k_is)
    (case l12 => k_is)
    (case c12 => k_is)
    (case k12 => k_is)
    (case a13 => k_is)
    (case l13 => k_is)
    (case c13 => k_is)
    (case k13 => k_is)
    (case a14 => k_is)
    (case l14 => k_is)
    (case c14 => k_is)
    (case k14 => k_is)
    (case a15 => k_is)
    (case l15 => k_is)
    (case c15 => k_is)
    (case k15 => k_is)
    (case a16 => k_is)
    (case l16 => k_is)
    (case c16 => k_is)
    (case k16 => k_is)
    (case a17 => k_is)
    (case l17 => k_is)
    (case c17 => k_is)
    (case k17 => k_is)
    (case a18 => k_is)
    (case l18 => k_is)
    (case c18 => k_is)
    (case k18 => k_is)
    (case a19 => k_is)
    (case l19 => k_is)
    (case c19 => k_is)
    (case k19 => k_is)
    (case z0 => k_is)
    (case z1 => k_is)
    (case z2 => k_is)
    (case z3 => k_is)
    (case z4 => k_is)
    (case z5 => k_is)
    (case z6 => k_is)
    (case z7 => k_is)
    (case z8 => k_is)
    (case e_OutOfBox => k_exc)
    (case x0 => kts_exm)
    (case x1 => kts_exm)
    (case y0 => kit_is)
    (case y1 => kit_is)
#print axioms PySem.Challenge.cw_bouncewise_k85_out_of_the_box_holds

