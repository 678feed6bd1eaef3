import PyProof.Rows.All
import Wide.All
import OpenK.AllK
import Wide.FinOn
import Lean
import PyProof.EqAt
import PyProof.EqKinds
import PyProof.TupleCall
import PyProof.NeData
import PyProof.P3In
import KE.KRevIter
import KE.KRevSl
import PyProof.Draws
import PyProof.EnumMake
import KE.KItemsList
import PySem.Challenge.RW_shapestring_k52_places_from_signs
section
set_option Elab.async false
set_option linter.all false
set_option maxRecDepth 100000
/-! THE HAND LAYER, for ints, bools, texts, own classes, LISTS and tuples (index, slices, in, append, pop ..), calls, loops. Paste it whole ahead of your own text; what your proof does not reach may be deleted. -/
namespace L2
open PySem PySem.Spec PyProof.Rows

/-- a key: an int or a str -/
abbrev Key := Sum Int Str
def keyIs : Key → Value → Bool
  | .inl k, v => Value.isInt k v
  | .inr x, v => Value.isStrOf x v
def keyH (w : World) : Key → Int
  | .inl k => hashInt k
  | .inr x => hashStr w x
theorem keyIs_shape : ∀ {k : Key} {v : Value}, keyIs k v = true → (∃ i t, k = Sum.inl i ∧ v = Value.int i t) ∨ (∃ x t, k = Sum.inr x ∧ v = Value.str x t)
  | .inl i, v, h => by
    obtain ⟨t, e⟩ := Value.isInt_shape (k := i) (v := v) h
    exact .inl ⟨i, t, rfl, e⟩
  | .inr x, v, h => by
    obtain ⟨t, e⟩ := Value.isStrOf_shape (x := x) (v := v) h
    exact .inr ⟨x, t, rfl, e⟩
theorem key_ll (a b : Int) : decide ((Sum.inl a : Key) = Sum.inl b) = (a == b) := by
  by_cases e : a = b
  · subst e; simp
  · have h : ¬ (Sum.inl a : Key) = Sum.inl b := fun q => e (Sum.inl.inj q)
    rw [decide_eq_false h]
    exact (beq_eq_false_iff_ne.mpr e).symm
theorem key_rr (a b : Str) : decide ((Sum.inr a : Key) = Sum.inr b) = decide (a = b) := by
  by_cases e : a = b
  · subst e; simp
  · have h : ¬ (Sum.inr a : Key) = Sum.inr b := fun q => e (Sum.inr.inj q)
    rw [decide_eq_false h, decide_eq_false e]
theorem key_lr (a : Int) (b : Str) : decide ((Sum.inl a : Key) = Sum.inr b) = false := decide_eq_false (fun q => nomatch q)
theorem key_rl (a : Str) (b : Int) : decide ((Sum.inr a : Key) = Sum.inl b) = false := decide_eq_false (fun q => nomatch q)

def mixKind (prog : Program) (w : World) : PySem.KeyKind prog w Key where
  is := keyIs
  hash := keyH w
  inj := fun v a b ha hb => by
    rcases keyIs_shape ha with ⟨i, t, rfl, rfl⟩ | ⟨x, t, rfl, rfl⟩
    · rcases keyIs_shape hb with ⟨j, u, rfl, e⟩ | ⟨y, u, rfl, e⟩
      · injection e with e1 _; rw [e1]
      · exact nomatch e
    · rcases keyIs_shape hb with ⟨j, u, rfl, e⟩ | ⟨y, u, rfl, e⟩
      · exact nomatch e
      · injection e with e1 _; rw [e1]
  byValue := fun k v h => by
    rcases keyIs_shape h with ⟨i, t, rfl, rfl⟩ | ⟨x, t, rfl, rfl⟩ <;> rfl
  pyHash := fun hv h => by
    rcases keyIs_shape hv with ⟨i, t, rfl, rfl⟩ | ⟨x, t, rfl, rfl⟩
    · exact wpAny_pyHash_int h
    · exact wpAny_pyHash_str h
  eqBool := fun hu hv h => by
    rcases keyIs_shape hu with ⟨i, t, rfl, rfl⟩ | ⟨x, t, rfl, rfl⟩
    · rcases keyIs_shape hv with ⟨j, u, rfl, rfl⟩ | ⟨y, u, rfl, rfl⟩
      · rw [key_ll] at h; exact wpAny_eqBool_int h
      · rw [key_lr] at h; exact SeqAt.EqAt.int_str i t y u _ _ _ _ h
    · rcases keyIs_shape hv with ⟨j, u, rfl, rfl⟩ | ⟨y, u, rfl, rfl⟩
      · rw [key_rl] at h; exact SeqAt.EqAt.str_int x t j u _ _ _ _ h
      · rw [key_rr] at h; exact wpAny_eqBool_str h
  «strs» := fun k x t v h => by
    rcases keyIs_shape h with ⟨i, u, rfl, e⟩ | ⟨y, u, rfl, e⟩
    · exact nomatch e
    · injection e with e1 _
      subst e1
      cases v <;> rfl

end L2

namespace L2
open PySem PySem.Spec PyProof.Rows

/-- a value, without the heap -/
inductive V where
  | non | bl (b : Bool) | int (i : Int) | str (x : Str) | byt (b : Array UInt8) | flt (b : UInt64) | ref (a : Addr) | ty (n : String)
  deriving DecidableEq

def RelV : V → Value → Prop
  | .non, u => u = Value.none
  | .bl b, u => u = Value.bool b
  | .int i, u => ∃ t, u = Value.int i t
  | .str x, u => ∃ t, u = Value.str x t
  | .byt b, u => ∃ t, u = Value.bytes b t
  | .flt b, u => ∃ t, u = Value.float b t
  | .ref a, u => u = Value.ref a
  | .ty n, u => u = Value.type n

abbrev Vals : List V → List Value → Prop := Paired RelV
theorem Vals.length {xs : List V} {us : List Value} (r : Vals xs us) : xs.length = us.length := Paired.length r
theorem Vals.get : ∀ {xs : List V} {us : List Value} {i : Nat} {x : V}, Vals xs us → xs[i]? = some x → ∃ u, us[i]? = some u ∧ RelV x u
  | _, _, _, _, .nil, e => by simp at e
  | _, _, 0, _, .cons r _, e => by simp at e; subst e; exact ⟨_, rfl, r⟩
  | _, _, i + 1, x, .cons _ t, e => by
    obtain ⟨u, h1, h2⟩ := Vals.get (i := i) (x := x) t (by simpa using e)
    exact ⟨u, by simpa using h1, h2⟩
theorem Vals.set {x : V} {u : Value} (r : RelV x u) : ∀ {xs : List V} {us : List Value} (i : Nat), Vals xs us → Vals (xs.set i x) (us.set i u)
  | _, _, _, .nil => .nil
  | _, _, 0, .cons _ t => .cons r t
  | _, _, i + 1, .cons q t => .cons q (Vals.set r i t)
theorem Vals.append : ∀ {xs ys : List V} {us ws : List Value}, Vals xs us → Vals ys ws → Vals (xs ++ ys) (us ++ ws)
  | _, _, _, _, .nil, s => s
  | _, _, _, _, .cons r t, s => .cons r (Vals.append t s)
theorem Vals.take : ∀ {xs : List V} {us : List Value} (n : Nat), Vals xs us → Vals (xs.take n) (us.take n)
  | _, _, 0, _ => .nil
  | _, _, _ + 1, .nil => .nil
  | _, _, n + 1, .cons r t => .cons r (Vals.take n t)
theorem Vals.drop : ∀ {xs : List V} {us : List Value} (n : Nat), Vals xs us → Vals (xs.drop n) (us.drop n)
  | _, _, 0, r => r
  | _, _, _ + 1, .nil => .nil
  | _, _, n + 1, .cons _ t => Vals.drop n t
def RelO : Option V → Option Value → Prop
  | some v, some u => RelV v u
  | none, none => True
  | _, _ => False
def KV {κ : Type} : List (κ × V) → List (κ × Value) → Prop := Paired fun (p : κ × V) (q : κ × Value) => p.1 = q.1 ∧ RelV p.2 q.2

/-- a key of a dict (00_mix): an int or a text -/
def kV : Key → V
  | .inl i => .int i
  | .inr x => .str x

/-- what stands at a tracked address -/
inductive HO where
  /-- a list -/
  | lst (xs : List V)
  /-- a tuple (never changes) -/
  | tup (xs : List V)
  /-- a dict whose keys are ints and texts; one whose keys are tuples of ints and texts (the empty one is both) -/
  | dK (kvs : List (Key × V)) | dT (kvs : List (List Key × V))
  /-- a set of ints: its members, its size -/
  | set (S : Int → Bool) (n : Nat)
  /-- an instance of the class at C, its dict at dx, its attributes -/
  | ins (C dx : Addr) (fs : List (Str × V))
  /-- the dict of the instance at x -/
  | own (x : Addr)
  /-- the dict of an exception -/
  | xd (fs : List (Str × V))
  /-- a bound method, f of x -/
  | met (f x : Addr)
  /-- a range object lo, lo + 1, .. below hi -/
  | rng (lo hi : Int)
  /-- a thing that is known to the object (the script; a dict while a loop walks it): read, never written while it is so -/
  | frz (o : Obj) (u : HO)
  /-- a code object's table -/
  | tbl (ps : Array Value)
  /-- any other thing, by what is true of its one object (a def of one's own: SetO a S n := HO.ext fun h => ..) -/
  | ext (φ : Heap → Prop)

abbrev Hp := Addr → Option HO
def upd (H : Hp) (a : Addr) (o : HO) : Hp := fun b => if b = a then some o else H b
theorem upd_same {H : Hp} {a : Addr} {o : HO} : upd H a o a = some o := by unfold upd; rw [if_pos rfl]
theorem upd_ne {H : Hp} {a b : Addr} {o : HO} (h : b ≠ a) : upd H a o b = H b := by unfold upd; rw [if_neg h]
theorem upd_upd {H : Hp} {a : Addr} {o u : HO} : upd (upd H a o) a u = upd H a u := by
  funext b; unfold upd; split <;> rfl
/-- two objects of different content stand apart -/
theorem ne_of {H : Hp} {a b : Addr} {o u : HO} (h : H a = some o) (h' : H b = some u) (d : o ≠ u) : a ≠ b := by
  intro e; subst e; rw [h] at h'; exact d (Option.some.inj h')
theorem ne_of_none {H : Hp} {a b : Addr} {o : HO} (h : H a = some o) (h' : H b = none) : a ≠ b := by
  intro e; subst e; rw [h] at h'; cases h'

section
variable (P : Program) (w : World)
def ObjOk (H : Hp) (h : Heap) (a : Addr) : HO → Prop
  | .lst xs => xs.length ≤ sizeLine ∧ ∃ (its : List Value) (n : Nat), Vals xs its ∧ h.get? a = some { cls := .type "list", data := .seq its.toArray n }
  | .tup xs => xs.length ≤ sizeLine ∧ ∃ its : List Value, Vals xs its ∧ IsTup h a its.toArray
  | .dK kvs => kvs.length ≤ sizeLine ∧ (a == sysModules) = false ∧ ∃ vs, KV kvs vs ∧ h.DictOf (mixKind P w) a vs
  | .dT kvs => kvs.length ≤ sizeLine ∧ (a == sysModules) = false ∧ ∃ xs : List (List Key × Addr × Value),
      Paired (fun (p : List Key × V) (q : List Key × Addr × Value) => p.1 = q.1 ∧ H q.2.1 = some (.tup (p.1.map kV)) ∧ RelV p.2 q.2.2) kvs xs ∧
      ∃ o es ep, h.get? a = some o ∧ o.ExactDict ∧ o.data = .dict es ep ∧ es.toList = xs.map (entryOfKey (tupleKind (mixKind P w))) ∧ (xs.map (·.1)).Nodup
  | .set S n => h.SetOf (intKind P w) a S n
  | .ins C dx fs => H dx = some (.own a) ∧ fs.length ≤ 1000 ∧ dx ≠ a ∧ h.get? a = some (PySem.W.instObj C dx) ∧
      ∃ mA, h.Ns1 dx mA ∧ (∀ f, RelO (fs.lookup f) (mA f)) ∧ PySem.Within mA (fs.map (·.1))
  | .own _ => ∃ o, h.get? a = some o
  | .xd fs => ∃ mA, h.Ns1 a mA ∧ ∀ f, RelO (fs.lookup f) (mA f)
  | .rng lo hi => ∃ t u v, h.get? a = some { cls := .type "range", data := .fields #[.int lo t, .int hi u, .int 1 v] }
  | .frz o u => h.get? a = some o ∧ ObjOk H h a u
  | .tbl ps => h.get? a = some { cls := .none, data := .fields ps }
  | .met f x => h.get? a = some (PySem.W.methodObj (.ref f) (.ref x))
  | .ext φ => φ h ∧ (∃ o, h.get? a = some o) ∧ ∀ h1 h2 : Heap, φ h1 → (∀ o, h1.get? a = some o → h2.get? a = some o) → φ h2
/-- the abstract heap is held -/
def HOk (H : Hp) (h : Heap) : Prop := ∀ a o, H a = some o → ObjOk P w H h a o
end

section
variable {P : Program} {w : World} {H H' : Hp} {h h' : Heap} {a : Addr} {o : HO}
theorem ObjOk.lt (x : ObjOk P w H h a o) : a < h.objs.size := by
  cases o with
  | lst xs => obtain ⟨_, _, _, _, e⟩ := x; exact Heap.lt_size e
  | tup xs => obtain ⟨_, _, _, p⟩ := x; exact p.lt
  | dK kvs => obtain ⟨_, _, _, _, o, _, _, e, _⟩ := x; exact Heap.lt_size e
  | dT kvs => obtain ⟨_, _, _, _, o, _, _, e, _⟩ := x; exact Heap.lt_size e
  | set S n => obtain ⟨o, _, _, _, e, _⟩ := x; exact Heap.lt_size e
  | ins C dx fs => obtain ⟨_, _, _, e, _⟩ := x; exact Heap.lt_size e
  | own y => obtain ⟨_, e⟩ := x; exact Heap.lt_size e
  | xd fs => obtain ⟨_, ⟨_, _, _, e, _⟩, _⟩ := x; exact Heap.lt_size e
  | rng lo hi => obtain ⟨_, _, _, e⟩ := x; exact Heap.lt_size e
  | frz ob u => obtain ⟨e, _⟩ := x; exact Heap.lt_size e
  | tbl ps => exact Heap.lt_size (show h.get? a = some _ from x)
  | met f y => exact Heap.lt_size (show h.get? a = some _ from x)
  | ext φ => obtain ⟨_, ⟨_, e⟩, _⟩ := x; exact Heap.lt_size e
theorem Paired.mapP {α β : Type} {F G : α → β → Prop} : ∀ {l₁ : List α} {l₂ : List β}, Paired F l₁ l₂ → (∀ a b, F a b → G a b) → Paired G l₁ l₂
  | _, _, .nil, _ => .nil
  | _, _, .cons r t, f => .cons (f _ _ r) (Paired.mapP t f)
/-- what an object's description leans on: its own object, its own dict, the tuples -/
theorem ObjOk.stay (x : ObjOk P w H h a o) (k : ∀ b u, (b = a ∨ H b = some (.own a)) → h.get? b = some u → h'.get? b = some u)
    (ho : ∀ b, H b = some (.own a) → H' b = some (.own a)) (ht : ∀ b xs, H b = some (.tup xs) → H' b = some (.tup xs)) : ObjOk P w H' h' a o := by
  induction o with
  | lst xs => obtain ⟨z, its, n, r, e⟩ := x; exact ⟨z, its, n, r, k _ _ (.inl rfl) e⟩
  | tup xs => obtain ⟨z, its, r, ob, e, c⟩ := x; exact ⟨z, its, r, ob, k _ _ (.inl rfl) e, c⟩
  | dK kvs => obtain ⟨z, y, vs, r, ob, es, ep, e, c⟩ := x; exact ⟨z, y, vs, r, ob, es, ep, k _ _ (.inl rfl) e, c⟩
  | dT kvs =>
    obtain ⟨z, y, xs, r, ob, es, ep, e, c⟩ := x
    exact ⟨z, y, xs, Paired.mapP r fun p q z => ⟨z.1, ht _ _ z.2.1, z.2.2⟩, ob, es, ep, k _ _ (.inl rfl) e, c⟩
  | set S n => obtain ⟨ob, es, ep, t, e, c⟩ := x; exact ⟨ob, es, ep, t, k _ _ (.inl rfl) e, c⟩
  | ins C dx fs =>
    obtain ⟨d, z, ne, e, mA, ⟨od, es, ep, e2, c⟩, r⟩ := x
    exact ⟨ho _ d, z, ne, k _ _ (.inl rfl) e, mA, ⟨od, es, ep, k _ _ (.inr d) e2, c⟩, r⟩
  | own y => obtain ⟨ob, e⟩ := x; exact ⟨ob, k _ _ (.inl rfl) e⟩
  | xd fs => obtain ⟨mA, ⟨od, es, ep, e, c⟩, r⟩ := x; exact ⟨mA, ⟨od, es, ep, k _ _ (.inl rfl) e, c⟩, r⟩
  | rng lo hi => obtain ⟨t, u, v, e⟩ := x; exact ⟨t, u, v, k _ _ (.inl rfl) e⟩
  | frz ob u ih => obtain ⟨e, q⟩ := x; exact ⟨k _ _ (.inl rfl) e, ih q⟩
  | tbl ps =>
    have e : h.get? a = some { cls := .none, data := .fields ps } := x
    show h'.get? a = some { cls := .none, data := .fields ps }
    exact k a _ (.inl rfl) e
  | met f y =>
    have e : h.get? a = some (PySem.W.methodObj (.ref f) (.ref y)) := x
    show h'.get? a = some (PySem.W.methodObj (.ref f) (.ref y))
    exact k a _ (.inl rfl) e
  | ext φ => obtain ⟨p, ⟨o, e⟩, st⟩ := x; exact ⟨st _ _ p fun o q => k _ _ (.inl rfl) q, ⟨o, k _ _ (.inl rfl) e⟩, st⟩
theorem HOk.lt (x : HOk P w H h) (e : H a = some o) : a < h.objs.size := (x a o e).lt
theorem HOk.fresh (x : HOk P w H h) (e : h.objs.size ≤ a) : H a = none := by
  cases q : H a with
  | none => rfl
  | some u => exact absurd (Nat.lt_of_lt_of_le (x.lt q) e) (Nat.lt_irrefl _)
/-- every object of the heap is kept -/
theorem HOk.kept (x : HOk P w H h) (k : ∀ b u, h.get? b = some u → h'.get? b = some u) : HOk P w H h' := fun a o e =>
  (x a o e).stay (fun b u _ q => k b u q) (fun _ q => q) fun _ _ q => q
/-- a new object is laid and tracked -/
theorem HOk.laid (x : HOk P w H h) (k : ∀ b u, h.get? b = some u → h'.get? b = some u) (hp : h.objs.size ≤ a) (new : ObjOk P w (upd H a o) h' a o) : HOk P w (upd H a o) h' := fun b u e => by
  have hn := x.fresh hp
  by_cases hb : b = a
  · subst hb; rw [upd_same] at e; cases e; exact new
  · rw [upd_ne hb] at e
    exact (x b u e).stay (fun c v _ q => k c v q) (fun c q => by rw [upd_ne (ne_of_none q hn)]; exact q) fun c xs q => by rw [upd_ne (ne_of_none q hn)]; exact q
end

/-- what may be read as u: it is u, or a known u -/
def Rd (H : Hp) (a : Addr) (u : HO) : Prop := H a = some u ∨ ∃ o, H a = some (.frz o u)
theorem Rd.ok {P : Program} {w : World} {H : Hp} {h : Heap} {a : Addr} {u : HO} (r : Rd H a u) (x : HOk P w H h) : ObjOk P w H h a u := by
  rcases r with r | ⟨o, r⟩
  · exact x a u r
  · obtain ⟨_, q⟩ := x a _ r
    exact q
/-- what may be written -/
def Mut : Option HO → Prop
  | some (.lst _) => True
  | some (.dK _) => True
  | some (.dT _) => True
  | some (.set _ _) => True
  | some (.ins _ _ _) => True
  | some (.ext _) => True
  | _ => False
section
variable {P : Program} {w : World} {H : Hp} {h h' : Heap} {x e : Addr} {o' : HO}
/-- the object at e is changed: x itself, or the dict of the instance x -/
theorem HOk.write (ok : HOk P w H h) (mu : Mut (H x)) (he : e = x ∨ H e = some (.own x)) (k : ∀ b u, b ≠ e → h.get? b = some u → h'.get? b = some u) (heo : ∃ u, h'.get? e = some u)
    (new : ObjOk P w (upd H x o') h' x o') : HOk P w (upd H x o') h' := fun b u q => by
  have nown : ∀ c y, H c = some (.own y) → c ≠ x := fun c y r z => by subst z; rw [r] at mu; exact mu
  have ntup : ∀ c xs, H c = some (.tup xs) → c ≠ x := fun c xs r z => by subst z; rw [r] at mu; exact mu
  by_cases hb : b = x
  · subst hb; rw [upd_same] at q; cases q; exact new
  · rw [upd_ne hb] at q
    by_cases hbe : b = e
    · have q' : H b = some (.own x) := by
        rcases he with z | z
        · exact absurd (hbe.trans z) hb
        · rw [hbe]; exact z
      rw [q] at q'; cases q'
      obtain ⟨v, hv⟩ := heo
      exact ⟨v, by rw [hbe]; exact hv⟩
    · refine (ok b u q).stay (fun c v hc r => k c v ?_ r) (fun c r => by rw [upd_ne (nown c b r)]; exact r) fun c xs r => by rw [upd_ne (ntup c xs r)]; exact r
      rcases hc with rfl | hc
      · exact hbe
      · rintro rfl
        rcases he with z | z
        · exact nown c b hc z
        · rw [hc] at z; cases z; exact hb rfl
end

/-! ### kept unless tracked; of the frames at fs (the callers') the slots may change (an exception that passes writes there); of the records at ex (iterators) nothing is said -/
structure Un (fs ex : List Addr) (H H' : Hp) (h h' : Heap) : Prop where
  keep : ∀ b o, h.get? b = some o → H b = none → b ∉ fs → b ∉ ex → h'.get? b = some o
  slot : ∀ b o, h.get? b = some o → H b = none → b ∈ fs → b ∉ ex → ∃ sl, h'.get? b = some { o with slots := sl }
  free : ∀ b o, h.get? b = some o → H b = none → b ∉ ex → H' b = none
  there : ∀ b o, h.get? b = some o → b ∉ ex → ∃ o', h'.get? b = some o'
  tups : ∀ b xs, H b = some (.tup xs) → H' b = some (.tup xs)
  frzs : ∀ b o u, H b = some (.frz o u) → H' b = some (.frz o u)
  tbls : ∀ b ps, H b = some (.tbl ps) → ∃ more, H' b = some (.tbl (ps ++ more))
section
variable {fs fs' ex ex' : List Addr} {H H1 H2 : Hp} {h h1 h2 h' : Heap} {a x e : Addr} {o : HO}
theorem Un.any (u : Un fs ex H H1 h h1) {b : Addr} {ob : Obj} (q : h.get? b = some ob) (n : H b = none) (hx : b ∉ ex) : ∃ sl, h1.get? b = some { ob with slots := sl } := by
  by_cases hb : b ∈ fs
  · exact u.slot b ob q n hb hx
  · exact ⟨ob.slots, u.keep b ob q n hb hx⟩
theorem Un.kept (k : ∀ b u, h.get? b = some u → h'.get? b = some u) : Un fs ex H H h h' :=
  ⟨fun b ob q _ _ _ => k b ob q, fun b ob q _ _ _ => ⟨ob.slots, k b ob q⟩, fun _ _ _ n _ => n, fun b ob q _ => ⟨ob, k b ob q⟩, fun _ _ q => q, fun _ _ _ q => q, fun _ ps q => ⟨#[], by rw [q]; simp⟩⟩
theorem Un.refl : Un fs ex H H h h := Un.kept fun _ _ q => q
theorem Un.laid (k : ∀ b u, h.get? b = some u → h'.get? b = some u) (hp : h.objs.size ≤ a) (hn : H a = none) : Un fs ex H (upd H a o) h h' where
  keep := fun b u q _ _ _ => k b u q
  slot := fun b u q _ _ _ => ⟨u.slots, k b u q⟩
  free := fun b u q n _ => by rw [upd_ne (Nat.ne_of_lt (Nat.lt_of_lt_of_le (Heap.lt_size q) hp))]; exact n
  there := fun b u q _ => ⟨u, k b u q⟩
  tups := fun b xs q => by rw [upd_ne (ne_of_none q hn)]; exact q
  frzs := fun b u xs q => by rw [upd_ne (ne_of_none q hn)]; exact q
  tbls := fun b ps q => ⟨#[], by rw [upd_ne (ne_of_none q hn), q]; simp⟩
theorem Un.write (mu : Mut (H x)) (he : e = x ∨ H e = some (.own x)) (k : ∀ b u, b ≠ e → h.get? b = some u → h'.get? b = some u) (heo : ∃ u, h'.get? e = some u) : Un fs ex H (upd H x o) h h' := by
  have hx : ∀ b, H b = none → b ≠ x := fun b n z => by subst z; rw [n] at mu; exact mu
  have hb : ∀ b, H b = none → b ≠ e := fun b n z => by
    subst z
    rcases he with r | r
    · exact hx b n r
    · rw [n] at r; cases r
  have hm : ∀ b u, H b = some u → ¬ Mut (some u) → b ≠ x := fun b u q nm z => by subst z; rw [q] at mu; exact nm mu
  refine ⟨fun b u q n _ _ => k b u (hb b n) q, fun b u q n _ _ => ⟨u.slots, k b u (hb b n) q⟩, fun b u q n _ => by rw [upd_ne (hx b n)]; exact n, fun b u q _ => ?_,
    fun b xs q => by rw [upd_ne (hm b _ q fun z => z)]; exact q, fun b u xs q => by rw [upd_ne (hm b _ q fun z => z)]; exact q, fun b ps q => ⟨#[], by rw [upd_ne (hm b _ q fun z => z), q]; simp⟩⟩
  by_cases hbe : b = e
  · subst hbe; exact heo
  · exact ⟨u, k b u hbe q⟩
end

/-! ### the heap without what is tracked -/
def trk (h : Heap) (H : Hp) : List Addr := (List.range h.objs.size).filter fun a => (H a).isSome
def hidT (h : Heap) (H : Hp) : Heap := PySem.W.hideAll h (trk h H)
theorem hidT_size (h : Heap) (H : Hp) : (hidT h H).objs.size = h.objs.size := PySem.W.hideAll_size _ _
theorem hidT_get {h : Heap} {H : Hp} {b : Addr} {o : Obj} (e : h.get? b = some o) (n : H b = none) : (hidT h H).get? b = some o :=
  PySem.W.hideAll_get _ e fun hm => by
    have q : (H b).isSome = true := (List.mem_filter.mp hm).2
    rw [n] at q; simp at q
theorem of_hidT {h : Heap} {H : Hp} {b : Addr} {o : Obj} (e : (hidT h H).get? b = some o) : h.get? b = some o ∧ H b = none := by
  have e' : h.get? b = some o := PySem.W.of_hideAll (trk h H) e
  refine ⟨e', ?_⟩
  cases q : H b with
  | none => rfl
  | some x =>
    have hm : b ∈ trk h H := List.mem_filter.mpr ⟨List.mem_range.mpr (Heap.lt_size e'), by simp [q]⟩
    have z : (hidT h H).get? b = none := PySem.W.hideAll_none (trk h H) hm
    rw [z] at e; cases e

end L2

namespace L2
open PySem PySem.Spec PyProof.Rows

/-- the module's facts, over the base: the heap at the law's entry without what is tracked there -/
structure Mod (K : PySem.W.Frag) (mg : Str → Option Value) (base : Heap) : Prop where
  kin : K.In base
  glob : base.Ns mainGlobals mg
  blt : ∃ mb, base.Ns builtinsNs mb ∧ ∀ x : Str, x ≠ "__name__" → mb x = bootBuiltins x
  nolimit : base.NoLimit

/-- the context: a def's body (or a comprehension's block) running. base: fixed through the whole law; s₀, H₀: the entry; outer: the frames whose slots others may change (a def's callers); stack: all frames that run;
   ex: iterators that were made ahead of the entry and are walked here (a comprehension's); fn: the names whose cells were made at the entry (a def: all; a comprehension's block: its own); calm: not within an except suite; pn: pins that every state bears; xe: what is wanted of an exception that leaves the code -/
structure Cx where
  prog : Program
  w : World
  K : PySem.W.Frag
  mg : Str → Option Value
  base : Heap
  A : Around
  N : List Str
  s₀ : Shared
  H₀ : Hp
  env : Env
  outer : List Env
  stack : List Env
  ex : List Addr
  fn : Str → Bool
  calm : Bool
  pn : List (Addr × Obj)
  xe : Value → Shared → Prop
/-- the callers' frames -/
def frs (l : List Env) : List Addr := l.filterMap (·.frame)
abbrev Cx.fs (X : Cx) : List Addr := frs X.outer

def Vis (sc : Scope) (x : Str) : Prop := sc.names.lookup x = some .local ∨ sc.names.lookup x = some .cell ∨ sc.names.lookup x = some .free
def Loc (sc : Scope) (x : Str) : Prop := sc.names.lookup x = some .local ∨ sc.names.lookup x = some .cell
def Look (env : Env) (h : Heap) (m : Str → Option Value) (x : Str) (u : Value) : Prop :=
  (env.kindOf x = some .local ∧ m x = some u) ∨ ((env.kindOf x = some .cell ∨ env.kindOf x = some .free) ∧ ∃ c, env.cells.lookup x = some c ∧ h.IsCell c (some u))

structure Cx.Ok (X : Cx) : Prop where
  mod : Mod X.K X.mg X.base
  kind : X.env.scope.kind = .function
  glob : X.env.globals = mainGlobals
  blt : X.env.builtins = builtinsNs
  above : X.s₀.heap.objs.size ≤ X.env.locals
  inj : ∀ x y c, X.env.cells.lookup x = some c → X.env.cells.lookup y = some c → x = y
  has : ∀ x, (X.env.kindOf x = some .cell ∨ X.env.kindOf x = some .free) → ∃ c, X.env.cells.lookup x = some c
  cab : ∀ x c, X.fn x = true → X.env.cells.lookup x = some c → X.s₀.heap.objs.size ≤ c
  hd : X.calm = true → X.A.handled = none
  frames : X.A.frames = some X.stack
  stk : X.stack = X.outer ∨ (X.stack = X.env :: X.outer ∧ X.env.frame = some X.env.locals)
  exf : ∀ b ∈ X.ex, b ≠ X.env.locals ∧ ∀ x c, X.env.cells.lookup x = some c → c ≠ b
  bs : ∀ b o, X.base.get? b = some o → X.s₀.heap.get? b = some o ∧ X.H₀ b = none
  bsz : X.base.objs.size ≤ X.s₀.heap.objs.size
  noex : ∀ b o, X.base.get? b = some o → b ∉ X.ex
  exfs : ∀ b ∈ X.ex, b ∉ X.fs
  funs : X.s₀.heap.FunFrames X.base X.outer
  frf : ∀ b ∈ X.fs, X.H₀ b = none

structure Inv (X : Cx) (pins : List (Addr × Obj)) (σ : List (Option V)) (H : Hp) (s : Shared) : Prop where
  ok : X.Ok
  os : s.os = X.s₀.os
  bare : AllBare s.gens
  base : Un X.fs X.ex X.H₀ H X.s₀.heap s.heap
  loc : ∃ m, s.heap.Ns X.env.locals m ∧ ∀ (i : Nat) (x : Str) (v : V), X.N[i]? = some x → σ[i]? = some (some v) → Vis X.env.scope x → ∃ u, RelV v u ∧ Look X.env s.heap m x u
  cell : ∀ x c, X.env.cells.lookup x = some c → ∃ v, s.heap.IsCell c v
  free : H X.env.locals = none
  freeC : ∀ x c, X.env.cells.lookup x = some c → H c = none
  pin : ∀ p ∈ X.pn ++ pins, s.heap.get? p.1 = some p.2 ∧ H p.1 = none ∧ p.1 ≠ X.env.locals ∧ p.1 ∉ X.fs ∧ ∀ v, p.2.data ≠ .cell v
  hok : HOk X.prog X.w H s.heap
  len : σ.length = X.N.length

section
variable {X : Cx} {pins : List (Addr × Obj)} {σ : List (Option V)} {H H' : Hp} {s : Shared} {h' : Heap}

theorem Cx.Ok.nofr (ok : X.Ok) {b : Addr} {o : Obj} (e : X.base.get? b = some o) : b ∉ X.fs := fun hb => by
  have := (ok.funs.mem hb).1
  rw [e] at this; cases this
theorem Inv.bs (I : Inv X pins σ H s) : ∀ b o, X.base.get? b = some o → s.heap.get? b = some o ∧ H b = none := fun b o e =>
  ⟨I.base.keep b o (I.ok.bs b o e).1 (I.ok.bs b o e).2 (I.ok.nofr e) (I.ok.noex b o e), I.base.free b o (I.ok.bs b o e).1 (I.ok.bs b o e).2 (I.ok.noex b o e)⟩
theorem Inv.bk (I : Inv X pins σ H s) : ∀ b o, X.base.get? b = some o → s.heap.get? b = some o := fun b o e => (I.bs b o e).1
theorem Inv.mod (I : Inv X pins σ H s) : Mod X.K X.mg X.base := I.ok.mod
theorem Inv.kIn (I : Inv X pins σ H s) : X.K.In s.heap := I.ok.mod.kin.keeps I.bk
theorem Inv.lt (I : Inv X pins σ H s) : X.env.locals < s.heap.objs.size := let ⟨_, hn, _⟩ := I.loc; hn.lt
theorem Inv.sz (I : Inv X pins σ H s) : X.s₀.heap.objs.size ≤ s.heap.objs.size := Nat.le_trans I.ok.above (Nat.le_of_lt I.lt)
theorem Inv.nofs (I : Inv X pins σ H s) {a : Addr} (h : s.heap.objs.size ≤ a) : a ∉ X.fs := fun hb => by
  obtain ⟨_, o, ho, _⟩ := I.ok.funs.mem hb
  exact absurd (Nat.lt_of_lt_of_le (Heap.lt_size ho) (Nat.le_trans I.sz h)) (Nat.lt_irrefl _)
theorem Inv.cne (I : Inv X pins σ H s) : ∀ x c, X.env.cells.lookup x = some c → c ≠ X.env.locals := fun x c e z => by
  obtain ⟨v, o, ho, hd⟩ := I.cell x c e
  obtain ⟨m, ⟨o', es, ep, ho', hd', _⟩, _⟩ := I.loc
  rw [z, ho'] at ho; cases ho; rw [hd'] at hd; cases hd
theorem Inv.funs (I : Inv X pins σ H s) : s.heap.FunFrames X.base X.outer := by
  have all : ∀ (l : List Env), (∀ b ∈ frs l, b ∈ X.fs) → X.s₀.heap.FunFrames X.base l → s.heap.FunFrames X.base l := by
    intro l
    induction l with
    | nil => intro _ _; trivial
    | cons env r ih =>
      intro hs hl
      obtain ⟨hk, ⟨L, o, hf, hn, ho, hd⟩, hr⟩ := hl
      have hL : L ∈ X.fs := hs L (by unfold frs; rw [List.filterMap_cons, hf]; exact List.mem_cons_self)
      obtain ⟨sl, e⟩ := I.base.slot L o ho (I.ok.frf L hL) hL fun z => I.ok.exfs L z hL
      exact ⟨hk, ⟨L, _, hf, hn, e, hd⟩, ih (fun b hb => hs b (by unfold frs; rw [List.filterMap_cons, hf]; exact List.mem_cons_of_mem _ hb)) hr⟩
  exact all X.outer (fun _ hb => hb) I.ok.funs

/-- the frames that run, for a call -/
theorem Inv.stack (I : Inv X pins σ H s) : s.heap.FunFrames X.base X.stack := by
  rcases I.ok.stk with e | ⟨e, hf⟩
  · rw [e]; exact I.funs
  · rw [e]
    obtain ⟨m, hn, _⟩ := I.loc
    refine .cons (by rw [I.ok.kind]; decide) hf hn ?_ I.funs
    exact Heap.get?_none_of_le (Nat.le_trans I.ok.bsz I.ok.above)
theorem Inv.stkSub (I : Inv X pins σ H s) : ∀ b ∈ frs X.stack, b ∈ X.env.locals :: X.fs := fun b hb => by
  rcases I.ok.stk with e | ⟨e, hf⟩
  · rw [e] at hb; exact List.mem_cons_of_mem _ hb
  · rw [e] at hb
    unfold frs at hb
    rw [List.filterMap_cons, hf] at hb
    exact hb
theorem Inv.stkFree (I : Inv X pins σ H s) : ∀ b ∈ frs X.stack, H b = none := fun b hb => by
  rcases List.mem_cons.mp (I.stkSub b hb) with e | hb
  · rw [e]; exact I.free
  · obtain ⟨_, o, ho, _⟩ := I.ok.funs.mem hb
    exact I.base.free b o ho (I.ok.frf b hb) fun z => I.ok.exfs b z hb

/-- THE STEP: the untracked objects but the frame and the records at ch are kept (the callers' frames up to slots), the frame's map is kept, the new abstract heap is held -/
theorem Inv.step {g' : Array GenState} {t' : Nat} {d' : Drawn} {ch : List Addr} (I : Inv X pins σ H s)
    (hch : ∀ b ∈ ch, (b ∈ X.ex ∨ X.s₀.heap.objs.size ≤ b) ∧ b ≠ X.env.locals ∧ (∀ x c, X.env.cells.lookup x = some c → c ≠ b) ∧ ∀ p ∈ X.pn ++ pins, p.1 ≠ b)
    (keep : ∀ b o, b ≠ X.env.locals → b ∉ X.fs → b ∉ ch → s.heap.get? b = some o → H b = none → h'.get? b = some o)
    (slot : ∀ b o, b ≠ X.env.locals → b ∈ X.fs → b ∉ ch → s.heap.get? b = some o → H b = none → ∃ sl, h'.get? b = some { o with slots := sl }) (free : ∀ b o, b ∉ ch → s.heap.get? b = some o → H b = none → H' b = none)
    (there : ∀ b o, b ∉ ch → s.heap.get? b = some o → ∃ o', h'.get? b = some o')
    (tups : ∀ b xs, H b = some (.tup xs) → H' b = some (.tup xs)) (frzs : ∀ b o u, H b = some (.frz o u) → H' b = some (.frz o u)) (tbls : ∀ b ps, H b = some (.tbl ps) → ∃ more, H' b = some (.tbl (ps ++ more)))
    (ns : ∀ m, s.heap.Ns X.env.locals m → h'.Ns X.env.locals m) (hok : HOk X.prog X.w H' h') (hg : AllBare g') :
    Inv X pins σ H' { s with heap := h', gens := g', drawn := d', toks := t' } := by
  have neL : ∀ b o, X.s₀.heap.get? b = some o → b ≠ X.env.locals := fun b o e => Nat.ne_of_lt (Nat.lt_of_lt_of_le (Heap.lt_size e) I.ok.above)
  have neC : ∀ b o, X.s₀.heap.get? b = some o → b ∉ X.ex → b ∉ ch := fun b o e hx hb => by
    rcases (hch b hb).1 with z | z
    · exact hx z
    · exact absurd (Nat.lt_of_lt_of_le (Heap.lt_size e) z) (Nat.lt_irrefl _)
  have cellK : ∀ x c, X.env.cells.lookup x = some c → ∀ v, s.heap.IsCell c v → h'.IsCell c v := fun x c e v ⟨o, ho, hd⟩ => by
    have nch : c ∉ ch := fun z => (hch c z).2.2.1 x c e rfl
    by_cases hc : c ∈ X.fs
    · obtain ⟨sl, q⟩ := slot c o (I.cne x c e) hc nch ho (I.freeC x c e)
      exact ⟨_, q, hd⟩
    · exact ⟨o, keep c o (I.cne x c e) hc nch ho (I.freeC x c e), hd⟩
  refine ⟨I.ok, I.os, hg, ⟨fun b o e n hb hx => ?_, fun b o e n hb hx => ?_, fun b o e n hx => ?_, fun b o e hx => ?_, fun b xs e => tups b xs (I.base.tups b xs e), fun b o xs e => frzs b o xs (I.base.frzs b o xs e), fun b ps e => ?_⟩, ?_, fun x c e => ?_, ?_, fun x c e => ?_, fun p hp => ?_, hok, I.len⟩
  · exact keep b o (neL b o e) hb (neC b o e hx) (I.base.keep b o e n hb hx) (I.base.free b o e n hx)
  · obtain ⟨sl, e1⟩ := I.base.slot b o e n hb hx
    obtain ⟨sl', e2⟩ := slot b _ (neL b o e) hb (neC b o e hx) e1 (I.base.free b o e n hx)
    exact ⟨sl', e2⟩
  · obtain ⟨o', e1⟩ := I.base.there b o e hx
    exact free b o' (neC b o e hx) e1 (I.base.free b o e n hx)
  · obtain ⟨o', e1⟩ := I.base.there b o e hx
    exact there b o' (neC b o e hx) e1
  · obtain ⟨m1, e1⟩ := I.base.tbls b ps e
    obtain ⟨m2, e2⟩ := tbls b _ e1
    exact ⟨m1 ++ m2, by rw [e2, Array.append_assoc]⟩
  · obtain ⟨m, hn, hl⟩ := I.loc
    refine ⟨m, ns m hn, fun i x v e1 e2 e3 => ?_⟩
    obtain ⟨u, r, l⟩ := hl i x v e1 e2 e3
    refine ⟨u, r, ?_⟩
    rcases l with l | ⟨k, c, e, z⟩
    · exact .inl l
    · exact .inr ⟨k, c, e, cellK x c e _ z⟩
  · obtain ⟨v, z⟩ := I.cell x c e
    exact ⟨v, cellK x c e v z⟩
  · obtain ⟨m, ⟨o, _, _, ho, _⟩, _⟩ := I.loc
    exact free _ o (fun z => (hch _ z).2.1 rfl) ho I.free
  · obtain ⟨v, o, ho, hd⟩ := I.cell x c e
    exact free c o (fun z => (hch c z).2.2.1 x c e rfl) ho (I.freeC x c e)
  · obtain ⟨e, n, ne, nf, d⟩ := I.pin p hp
    have nch : p.1 ∉ ch := fun z => (hch p.1 z).2.2.2 p hp rfl
    exact ⟨keep p.1 p.2 ne nf nch e n, free p.1 p.2 nch e n, ne, nf, d⟩
/-- .. where the frame's own object is kept too -/
theorem Inv.un {t' : Nat} (I : Inv X pins σ H s) (u : Un X.fs [] H H' s.heap h') (hok : HOk X.prog X.w H' h') : Inv X pins σ H' { s with heap := h', toks := t' } := by
  obtain ⟨m, ⟨o, es, ep, ho, r⟩, _⟩ := id I.loc
  obtain ⟨sl, hL⟩ := u.any ho I.free (by simp)
  exact I.step (g' := s.gens) (d' := s.drawn) (ch := []) (fun _ z => nomatch z) (fun b o _ hb _ e n => u.keep b o e n hb (by simp)) (fun b o _ hb _ e n => u.slot b o e n hb (by simp)) (fun b o _ e n => u.free b o e n (by simp)) (fun b o _ e => u.there b o e (by simp)) u.tups u.frzs u.tbls (fun m' hm => by
    obtain ⟨o', es', ep', ho', r'⟩ := hm
    rw [ho] at ho'; cases ho'
    exact ⟨_, es', ep', hL, r'⟩) hok I.bare
/-- behind a call (or a comprehension's block): the slots of this frame may have changed too, the records at ch may have turned -/
theorem Inv.call {g' : Array GenState} {t' : Nat} {d' : Drawn} {ch : List Addr} (I : Inv X pins σ H s) (u : Un (frs X.stack) ch H H' s.heap h') (hok : HOk X.prog X.w H' h') (hg : AllBare g')
    (hch : ∀ b ∈ ch, (b ∈ X.ex ∨ X.s₀.heap.objs.size ≤ b) ∧ b ≠ X.env.locals ∧ (∀ x c, X.env.cells.lookup x = some c → c ≠ b) ∧ ∀ p ∈ X.pn ++ pins, p.1 ≠ b) :
    Inv X pins σ H' { s with heap := h', gens := g', drawn := d', toks := t' } := by
  obtain ⟨m, ⟨o, es, ep, ho, r⟩, _⟩ := id I.loc
  obtain ⟨sl, hL⟩ := u.any ho I.free fun z => (hch _ z).2.1 rfl
  exact I.step (ch := ch) hch (fun b o hL hb hc e n => u.keep b o e n (fun z => (List.mem_cons.mp (I.stkSub b z)).elim hL hb) hc) (fun b o _ _ hc e n => u.any e n hc) (fun b o hc e n => u.free b o e n hc) (fun b o hc e => u.there b o e hc) u.tups u.frzs u.tbls (fun m' hm => by
    obtain ⟨o', es', ep', ho', r'⟩ := hm
    rw [ho] at ho'; cases ho'
    exact ⟨_, es', ep', hL, r'⟩) hok hg
/-- an untracked record of ours (an iterator) has turned -/
theorem Inv.turned {t' : Nat} {it : Addr} (I : Inv X pins σ H s) (k : ∀ b o, b ≠ it → s.heap.get? b = some o → h'.get? b = some o) (hn : H it = none) (hL : it ≠ X.env.locals)
    (h1 : it ∈ X.ex ∨ X.s₀.heap.objs.size ≤ it) (h2 : ∀ x c, X.env.cells.lookup x = some c → c ≠ it) (h3 : ∀ p ∈ X.pn ++ pins, p.1 ≠ it) : Inv X pins σ H { s with heap := h', toks := t' } := by
  have nit : ∀ b u, H b = some u → b ≠ it := fun b u e z => by rw [z, hn] at e; cases e
  refine I.step (g' := s.gens) (d' := s.drawn) (ch := [it]) (fun b hb => ?_) (fun b o _ _ hc e _ => k b o (fun z => hc (by simp [z])) e) (fun b o _ _ hc e _ => ⟨o.slots, k b o (fun z => hc (by simp [z])) e⟩) (fun _ _ _ _ n => n)
    (fun b o hc e => ⟨o, k b o (fun z => hc (by simp [z])) e⟩) (fun _ _ e => e) (fun _ _ _ e => e) (fun b ps e => ⟨#[], by rw [e]; simp⟩) (fun m hm => ?_) (fun b u e => ?_) I.bare
  · have e : b = it := by simpa using hb
    subst e
    exact ⟨h1, hL, h2, h3⟩
  · obtain ⟨o, es, ep, ho, r⟩ := hm
    exact ⟨o, es, ep, k _ o (Ne.symm hL) ho, r⟩
  · refine (I.hok b u e).stay (fun c v hc q => k c v ?_ q) (fun _ q => q) fun _ _ q => q
    rcases hc with z | z
    · rw [z]; exact nit b u e
    · exact nit c _ z
theorem Inv.tok (I : Inv X pins σ H s) (t : Nat) : Inv X pins σ H { s with toks := t } := I.un (h' := s.heap) (t' := t) Un.refl I.hok
/-- all objects kept -/
theorem Inv.kept {t' : Nat} (I : Inv X pins σ H s) (k : ∀ b u, s.heap.get? b = some u → h'.get? b = some u) : Inv X pins σ H { s with heap := h', toks := t' } := I.un (Un.kept k) (I.hok.kept k)
/-- a new object laid and tracked -/
theorem Inv.laid {a : Addr} {o : HO} {t' : Nat} (I : Inv X pins σ H s) (k : ∀ b u, s.heap.get? b = some u → h'.get? b = some u) (hp : s.heap.objs.size ≤ a) (new : ObjOk X.prog X.w (upd H a o) h' a o) :
    Inv X pins σ (upd H a o) { s with heap := h', toks := t' } := I.un (Un.laid k hp (I.hok.fresh hp)) (I.hok.laid k hp new)
/-- an object written -/
theorem Inv.write {x e : Addr} {o : HO} {t' : Nat} (I : Inv X pins σ H s) (mu : Mut (H x)) (he : e = x ∨ H e = some (.own x)) (k : ∀ b u, b ≠ e → s.heap.get? b = some u → h'.get? b = some u) (heo : ∃ u, h'.get? e = some u)
    (new : ObjOk X.prog X.w (upd H x o) h' x o) : Inv X pins σ (upd H x o) { s with heap := h', toks := t' } := I.un (Un.write mu he k heo) (I.hok.write mu he k heo new)
theorem Inv.pins_of {pins' : List (Addr × Obj)} (I : Inv X pins σ H s) (h : ∀ p ∈ pins', s.heap.get? p.1 = some p.2 ∧ H p.1 = none ∧ p.1 ≠ X.env.locals ∧ p.1 ∉ X.fs ∧ ∀ v, p.2.data ≠ .cell v) : Inv X pins' σ H s :=
  ⟨I.ok, I.os, I.bare, I.base, I.loc, I.cell, I.free, I.freeC, fun p hp => (List.mem_append.mp hp).elim (fun z => I.pin p (List.mem_append_left _ z)) (h p), I.hok, I.len⟩

theorem nodup_ix {N : List Str} (hN : N.Nodup) {i j : Nat} {x : Str} (a : N[i]? = some x) (b : N[j]? = some x) : i = j := by
  obtain ⟨h1, e1⟩ := List.getElem?_eq_some_iff.mp a
  obtain ⟨h2, e2⟩ := List.getElem?_eq_some_iff.mp b
  exact (List.getElem_inj hN).mp (e1.trans e2.symm)

/-- a name is stored; what changed -/
theorem store_ok2 {M : Model} {A : Around} {E : Value → Shared → Prop} {i : Nat} {x : Str} {v : V} {u : Value} {Q : Unit → Shared → Prop} (I : Inv X pins σ H s) (hN : X.N.Nodup) (hi : X.N[i]? = some x) (hx : Loc X.env.scope x) (r : RelV v u)
    (h : ∀ s', Inv X pins (σ.set i (some v)) H s' → (∃ a, Heap.SameBut a s.heap s'.heap ∧ (a = X.env.locals ∨ X.env.cells.lookup x = some a)) → Q () s') (hf : X.fn x = true ∨ X.env.scope.names.lookup x = some .local := by first | exact .inl rfl | exact .inr rfl | assumption) : wpAny M A (storeName X.env x u) Q E s := by
  obtain ⟨m, hn, hl⟩ := id I.loc
  have hcls : (X.env.scope.kind == .class || (X.env.scope.kind == .module && X.env.locals != X.env.globals)) = false := by rw [I.ok.kind]; rfl
  have hiσ : i < σ.length := by rw [I.len]; exact (List.getElem?_eq_some_iff.mp hi).1
  have cne := I.cne
  have tracked : ∀ {a : Addr} {h' : Heap}, (∃ o, s.heap.get? a = some o ∧ H a = none) → Heap.SameBut a s.heap h' → HOk X.prog X.w H h' := fun {a h'} ha hs b ob e => by
    obtain ⟨_, _, hfree⟩ := ha
    refine (I.hok b ob e).stay (fun c w' hc q => (hs.2 c ?_).trans q) (fun _ q => q) fun _ _ q => q
    rintro rfl
    rcases hc with rfl | hc
    · rw [hfree] at e; cases e
    · rw [hfree] at hc; cases hc
  rcases hx with hk | hk
  · refine wpAny_storeName_local hk hn (fun h' hn' hs => ?_) hcls
    obtain ⟨oL, _, _, hoL, _⟩ := id hn
    refine h _ ⟨I.ok, I.os, I.bare, ⟨fun b o e n hb hx => ?_, fun b o e n hb hx => ?_, I.base.free, fun b o e hx => ?_, I.base.tups, I.base.frzs, I.base.tbls⟩, ⟨_, hn', fun j y v' e1 e2 e3 => ?_⟩, fun y c e => ?_, I.free, I.freeC, fun p hp => ?_, tracked ⟨oL, hoL, I.free⟩ hs, by simpa using I.len⟩ ⟨_, hs, .inl rfl⟩
    · exact (hs.2 b (Nat.ne_of_lt (Nat.lt_of_lt_of_le (Heap.lt_size e) I.ok.above))).trans (I.base.keep b o e n hb hx)
    · obtain ⟨sl, e1⟩ := I.base.slot b o e n hb hx
      exact ⟨sl, (hs.2 b (Nat.ne_of_lt (Nat.lt_of_lt_of_le (Heap.lt_size e) I.ok.above))).trans e1⟩
    · obtain ⟨o', e1⟩ := I.base.there b o e hx
      exact ⟨o', (hs.2 b (Nat.ne_of_lt (Nat.lt_of_lt_of_le (Heap.lt_size e) I.ok.above))).trans e1⟩
    · by_cases hj : j = i
      · subst hj
        rw [hi] at e1; cases e1
        rw [List.getElem?_set_self hiσ] at e2
        cases e2
        exact ⟨u, r, .inl ⟨hk, by simp⟩⟩
      · rw [List.getElem?_set_ne (Ne.symm hj)] at e2
        obtain ⟨u', r', q⟩ := hl j y v' e1 e2 e3
        refine ⟨u', r', ?_⟩
        rcases q with ⟨k, e⟩ | ⟨k, c, e, z⟩
        · refine .inl ⟨k, ?_⟩
          have : y ≠ x := fun e => hj (nodup_ix hN e1 (e ▸ hi))
          simp [this, e]
        · exact .inr ⟨k, c, e, z.sameBut hs (cne y c e)⟩
    · obtain ⟨w', z⟩ := I.cell y c e
      exact ⟨w', z.sameBut hs (cne y c e)⟩
    · obtain ⟨e, n, ne, nf, d⟩ := I.pin p hp
      exact ⟨(hs.2 p.1 ne).trans e, n, ne, nf, d⟩
  · have hfn : X.fn x = true := by
      rcases hf with z | z
      · exact z
      · rw [z] at hk; cases hk
    obtain ⟨c, hc⟩ := I.ok.has x (.inl hk)
    obtain ⟨w', z⟩ := I.cell x c hc
    refine wpAny_storeName_cell I.ok.kind hk hc z (fun h' hc' hs => ?_)
    obtain ⟨oc, hoc, hocd⟩ := id z
    refine h { s with heap := h' } ⟨I.ok, I.os, I.bare, ⟨fun b o e n hb hx => ?_, fun b o e n hb hx => ?_, I.base.free, fun b o e hx => ?_, I.base.tups, I.base.frzs, I.base.tbls⟩, ⟨m, hn.sameBut hs (Ne.symm (cne x c hc)), fun j y v' e1 e2 e3 => ?_⟩, fun y c' e => ?_, I.free, I.freeC, fun p hp => ?_, tracked ⟨oc, hoc, I.freeC x c hc⟩ hs, by simpa using I.len⟩ ⟨c, hs, .inr hc⟩
    · exact (hs.2 b (Nat.ne_of_lt (Nat.lt_of_lt_of_le (Heap.lt_size e) (I.ok.cab x c hfn hc)))).trans (I.base.keep b o e n hb hx)
    · obtain ⟨sl, e1⟩ := I.base.slot b o e n hb hx
      exact ⟨sl, (hs.2 b (Nat.ne_of_lt (Nat.lt_of_lt_of_le (Heap.lt_size e) (I.ok.cab x c hfn hc)))).trans e1⟩
    · obtain ⟨o', e1⟩ := I.base.there b o e hx
      exact ⟨o', (hs.2 b (Nat.ne_of_lt (Nat.lt_of_lt_of_le (Heap.lt_size e) (I.ok.cab x c hfn hc)))).trans e1⟩
    · by_cases hj : j = i
      · subst hj
        rw [hi] at e1; cases e1
        rw [List.getElem?_set_self hiσ] at e2
        cases e2
        exact ⟨u, r, .inr ⟨.inl hk, c, hc, hc'⟩⟩
      · rw [List.getElem?_set_ne (Ne.symm hj)] at e2
        obtain ⟨u', r', q⟩ := hl j y v' e1 e2 e3
        refine ⟨u', r', ?_⟩
        rcases q with q | ⟨k, c', e, z'⟩
        · exact .inl q
        · refine .inr ⟨k, c', e, z'.sameBut hs ?_⟩
          rintro rfl
          exact hj (nodup_ix hN e1 (I.ok.inj _ _ _ e hc ▸ hi))
    · by_cases hcc : c' = c
      · subst hcc; exact ⟨_, hc'⟩
      · obtain ⟨w2, z2⟩ := I.cell y c' e
        exact ⟨w2, z2.sameBut hs hcc⟩
    · obtain ⟨e, n, ne, nf, d⟩ := I.pin p hp
      refine ⟨(hs.2 p.1 ?_).trans e, n, ne, nf, d⟩
      intro q
      rw [q, hoc] at e
      have q' : oc = p.2 := Option.some.inj e
      exact d w' (by rw [← q']; exact hocd)
theorem store_ok {M : Model} {A : Around} {E : Value → Shared → Prop} {i : Nat} {x : Str} {v : V} {u : Value} {Q : Unit → Shared → Prop} (I : Inv X pins σ H s) (hN : X.N.Nodup) (hi : X.N[i]? = some x) (hx : Loc X.env.scope x) (r : RelV v u)
    (h : ∀ s', Inv X pins (σ.set i (some v)) H s' → Q () s') (hf : X.fn x = true ∨ X.env.scope.names.lookup x = some .local := by first | exact .inl rfl | exact .inr rfl | assumption) : wpAny M A (storeName X.env x u) Q E s :=
  store_ok2 I hN hi hx r (fun s' I' _ => h s' I') hf
/-- behind a call or a block, the state as it is -/
theorem Inv.call' {s' : Shared} {ch : List Addr} (I : Inv X pins σ H s) (ho : s'.os = s.os) (u : Un (frs X.stack) ch H H' s.heap s'.heap) (hok : HOk X.prog X.w H' s'.heap) (hg : AllBare s'.gens)
    (hch : ∀ b ∈ ch, (b ∈ X.ex ∨ X.s₀.heap.objs.size ≤ b) ∧ b ≠ X.env.locals ∧ (∀ x c, X.env.cells.lookup x = some c → c ≠ b) ∧ ∀ p ∈ X.pn ++ pins, p.1 ≠ b) : Inv X pins σ H' s' := by
  obtain ⟨h', g', d', t', o'⟩ := s'
  have e : o' = s.os := ho
  subst e
  exact I.call (g' := g') (t' := t') (d' := d') u hok hg hch
end

/-! ### the judgements -/
/-- an exception: its class, its own dict's address (where it has one), the abstract heap behind it -/
abbrev XK := Value → Option Addr → Hp → Prop
abbrev St := List (Option V)
abbrev VK := V → Hp → Prop
/-- an expression's reading; a test's; an argument list's -/
abbrev TE := St → Hp → VK → Prop
abbrev TT := St → Hp → (Bool → Hp → Prop) → Prop
abbrev TA := St → Hp → (List V → Hp → Prop) → Prop
/-- what is wanted behind a statement -/
structure Ends where
  nx : St → Hp → Prop
  rt : VK
  bk : St → Hp → Prop := fun _ _ => False
  ct : St → Hp → Prop := fun _ _ => False
abbrev TS := Ends → St → Hp → Prop

def EP (X : Cx) (pins : List (Addr × Obj)) (σ : St) (Q : VK) (u : Value) (s' : Shared) : Prop := ∃ v H', Inv X pins σ H' s' ∧ RelV v u ∧ Q v H'
def TP (X : Cx) (pins : List (Addr × Obj)) (σ : St) (Q : Bool → Hp → Prop) (b : Bool) (s' : Shared) : Prop := ∃ H', Inv X pins σ H' s' ∧ Q b H'
def AP (X : Cx) (pins : List (Addr × Obj)) (σ : St) (Q : List V → Hp → Prop) (us : List Value) (s' : Shared) : Prop := ∃ vs H', Inv X pins σ H' s' ∧ Vals vs us ∧ Q vs H'
def SP (X : Cx) (pins : List (Addr × Obj)) (D : Ends) (f : Flow) (s' : Shared) : Prop :=
  match f with
  | .next => ∃ σ' H', Inv X pins σ' H' s' ∧ D.nx σ' H'
  | .brk => ∃ σ' H', Inv X pins σ' H' s' ∧ D.bk σ' H'
  | .cont => ∃ σ' H', Inv X pins σ' H' s' ∧ D.ct σ' H'
  | .ret u => ∃ v σ' H', Inv X pins σ' H' s' ∧ RelV v u ∧ D.rt v H'

def PE (X : Cx) (e : Expr) (t : TE) : Prop :=
  ∀ (pins : List (Addr × Obj)) (s : Shared) (σ : St) (H : Hp) (Q : VK), Inv X pins σ H s → t σ H Q → wpAny (model X.prog X.w) X.A (eval e X.env) (EP X pins σ Q) X.xe s
def PT (X : Cx) (e : Expr) (t : TT) : Prop :=
  ∀ (pins : List (Addr × Obj)) (s : Shared) (σ : St) (H : Hp) (Q : Bool → Hp → Prop), Inv X pins σ H s → t σ H Q → wpAny (model X.prog X.w) X.A (isTrue e X.env (eval e X.env)) (TP X pins σ Q) X.xe s
/-- a test whatever its 'whole' is (and, or) -/
def PW (X : Cx) (e : Expr) (t : TT) : Prop :=
  ∀ (whole : Sem Value) (pins : List (Addr × Obj)) (s : Shared) (σ : St) (H : Hp) (Q : Bool → Hp → Prop), Inv X pins σ H s → t σ H Q → wpAny (model X.prog X.w) X.A (isTrue e X.env whole) (TP X pins σ Q) X.xe s
theorem PW.pt {X : Cx} {e : Expr} {t : TT} (h : PW X e t) : PT X e t := h _
/-- an argument list (no star), from the left -/
def PA (X : Cx) (es : List Expr) (t : TA) : Prop :=
  ∀ (pos : Pos) (pins : List (Addr × Obj)) (s : Shared) (σ : St) (H : Hp) (Q : List V → Hp → Prop), Inv X pins σ H s → t σ H Q → wpAny (model X.prog X.w) X.A (spliced (backTo pos (starEach es X.env))) (AP X pins σ Q) X.xe s
def PS (X : Cx) (st : Stmt) (t : TS) : Prop :=
  ∀ (pins : List (Addr × Obj)) (s : Shared) (σ : St) (H : Hp) (D : Ends), Inv X pins σ H s → t D σ H → wpAny (model X.prog X.w) X.A (exec st X.env) (SP X pins D) X.xe s
def PSs (X : Cx) (st : List Stmt) (t : TS) : Prop :=
  ∀ (pins : List (Addr × Obj)) (s : Shared) (σ : St) (H : Hp) (D : Ends), Inv X pins σ H s → t D σ H → wpAny (model X.prog X.w) X.A (execs st X.env) (SP X pins D) X.xe s
/-- weaken the end -/
theorem thn {α : Type} {t : Sem α} {Q Q' : α → Shared → Prop} {M : Model} {A : Around} {E : Value → Shared → Prop} {s : Shared} (h : wpAny M A t Q E s) (hQ : ∀ a s, Q a s → Q' a s) : wpAny M A t Q' E s := wpAny_mono h hQ fun _ _ x => x
end L2

namespace L2
open PySem PySem.Spec PyProof.Rows
section
variable {X : Cx}

/-! ### names and constants -/
def tVar (i : Nat) : TE := fun σ H Q => ∃ v, σ[i]? = some (some v) ∧ Q v H
def tC (v : V) : TE := fun _ H Q => Q v H
theorem pe_var {i : Nat} {x : Str} {pos : Pos} (hN : X.N[i]? = some x) (hv : Vis X.env.scope x) (hd : (x == ("__debug__" : Str)) = false := by decide) (hcd : (x == ("__classdict__" : Str)) = false := by decide) : PE X (.Name x pos) (tVar i) := by
  intro pins s σ H Q I h
  obtain ⟨v, e, h⟩ := h
  obtain ⟨m, hn, hl⟩ := I.loc
  obtain ⟨u, r, l⟩ := hl i x v hN e hv
  have fin : EP X pins σ Q u s := ⟨v, H, I, r, h⟩
  rcases l with ⟨hk, hm⟩ | ⟨hk, c, hc, hcell⟩
  · exact wpAny_Name (wpAny_loadName_local I.ok.kind hk hn hm fin) hd
  · rcases hk with hk | hk
    · exact wpAny_Name (wpAny_loadName_cell I.ok.kind hk hc hcell fin) hd
    · exact wpAny_Name (wpAny_loadName_free I.ok.kind hk hc hcell fin hcd) hd
theorem pe_int {i j pos} : PE X (.Constant (.int i) j pos) (tC (.int i)) := fun _ _ _ H _ I h => wpAny_Constant_int ⟨.int i, H, I.tok _, ⟨_, rfl⟩, h⟩
theorem pe_bl {b j pos} : PE X (.Constant (.bool b) j pos) (tC (.bl b)) := fun _ _ _ H _ I h => Constant_bool ⟨.bl b, H, I, rfl, h⟩
theorem pe_non {j pos} : PE X (.Constant .none j pos) (tC .non) := fun _ _ _ H _ I h => Constant_none ⟨.non, H, I, rfl, h⟩
theorem pe_str {x j pos} : PE X (.Constant (.str x) j pos) (tC (.str x)) := fun _ _ _ H _ I h => Calls.Constant_str ⟨.str x, H, I.tok _, ⟨_, rfl⟩, h⟩

/-- a global name of the def -/
def Gl (X : Cx) (x : Str) : Prop := X.env.kindOf x = some .globalImplicit
theorem ld_glob {E : Value → Shared → Prop} {pins : List (Addr × Obj)} {s : Shared} {σ : St} {H : Hp} {x : Str} {u : Value} {pos : Pos} {Q : Value → Shared → Prop} (I : Inv X pins σ H s) (hg : Gl X x) (hm : X.mg x = some u) (h : Q u s)
    (hd : (x == ("__debug__" : Str)) = false := by decide) : wpAny (model X.prog X.w) X.A (eval (.Name x pos) X.env) Q E s :=
  Calls.Name_function_global I.ok.kind hg (Calls.loadGlobal_global (by rw [I.ok.glob]; exact I.mod.glob.keeps I.bk) hm h) hd
theorem ld_blt {E : Value → Shared → Prop} {pins : List (Addr × Obj)} {s : Shared} {σ : St} {H : Hp} {x : Str} {u : Value} {pos : Pos} {Q : Value → Shared → Prop} (I : Inv X pins σ H s) (hg : Gl X x) (hm : X.mg x = none) (hv : bootBuiltins x = some u) (h : Q u s)
    (hn : x ≠ "__name__" := by decide) (hd : (x == ("__debug__" : Str)) = false := by decide) : wpAny (model X.prog X.w) X.A (eval (.Name x pos) X.env) Q E s := by
  obtain ⟨mb, h1, h2⟩ := I.mod.blt
  exact Calls.Name_function_global I.ok.kind hg (Calls.loadGlobal_builtin (by rw [I.ok.glob]; exact I.mod.glob.keeps I.bk) hm (by rw [I.ok.blt]; exact h1.keeps I.bk) ((h2 x hn).trans hv) h) hd
/-- a module's constant, a class, a function, as a value -/
theorem pe_glob {x : Str} {v : V} {u : Value} {pos : Pos} (hg : Gl X x) (hm : X.mg x = some u) (r : RelV v u) (hd : (x == ("__debug__" : Str)) = false := by decide) : PE X (.Name x pos) (tC v) :=
  fun _ _ _ H _ I h => ld_glob I hg hm ⟨v, H, I, r, h⟩ hd
theorem pe_bltn {x : Str} {v : V} {u : Value} {pos : Pos} (hg : Gl X x) (hm : X.mg x = none) (hv : bootBuiltins x = some u) (r : RelV v u) (hn : x ≠ "__name__" := by decide) (hd : (x == ("__debug__" : Str)) = false := by decide) : PE X (.Name x pos) (tC v) :=
  fun _ _ _ H _ I h => ld_blt I hg hm hv ⟨v, H, I, r, h⟩ hn hd

variable {a b : Expr} {ta tb : TE} {pos : Pos}
/-- a comparison as a value, as a test -/
def tB (t : TE) : TT := fun σ H Q => t σ H fun x H1 => ∃ c, x = .bl c ∧ Q c H1
/-- an expression whose value is a bool, as a test -/
theorem pt_val {e : Expr} {t : TE} (h : PE X e t) (he : ∀ whole, isTrue e X.env whole = (do let v ← whole; standAt e.pos; holding [v] (truthy v)) := by intro _; rfl) : PT X e (tB t) := by
  intro pins s σ H Q I hw
  refine isTrue_plain (thn (h pins s σ H _ I hw) fun v s1 ⟨x, H1, I1, r1, q1⟩ => ?_) (he _)
  obtain ⟨d, rfl, q⟩ := q1
  cases r1
  exact wpAny_truthy_bool ⟨H1, I1, q⟩

/-! ### and, or, not -/
variable {tA tB' : TT} {rest : List Expr}
def tAnd (t u : TT) : TT := fun σ H Q => t σ H fun c H1 => if c = true then u σ H1 Q else Q false H1
def tOr (t u : TT) : TT := fun σ H Q => t σ H fun c H1 => if c = true then Q true H1 else u σ H1 Q
def tNot (t : TT) : TT := fun σ H Q => t σ H fun c H1 => Q (!c) H1
theorem pw_and1 (ha : PT X a tA) : PW X (.BoolOp .And [a] pos) tA := by
  intro wh pins s σ H Q I h
  refine isTrue_and (thn (ha pins s σ H Q I h) fun c s1 e => ?_)
  cases c with
  | true => exact isTrue_and_nil e
  | false => exact e
theorem pw_or1 (ha : PT X a tA) : PW X (.BoolOp .Or [a] pos) tA := by
  intro wh pins s σ H Q I h
  refine isTrue_or (thn (ha pins s σ H Q I h) fun c s1 e => ?_)
  cases c with
  | false => exact isTrue_or_nil e
  | true => exact e
theorem pw_and (ha : PT X a tA) (hb : PW X (.BoolOp .And (b :: rest) pos) tB') : PW X (.BoolOp .And (a :: b :: rest) pos) (tAnd tA tB') := by
  intro wh pins s σ H Q I h
  refine isTrue_and (thn (ha pins s σ H _ I h) fun c s1 ⟨H1, I1, q1⟩ => ?_)
  cases c with
  | true => exact hb wh pins s1 σ H1 Q I1 q1
  | false => exact ⟨H1, I1, q1⟩
theorem pw_or (ha : PT X a tA) (hb : PW X (.BoolOp .Or (b :: rest) pos) tB') : PW X (.BoolOp .Or (a :: b :: rest) pos) (tOr tA tB') := by
  intro wh pins s σ H Q I h
  refine isTrue_or (thn (ha pins s σ H _ I h) fun c s1 ⟨H1, I1, q1⟩ => ?_)
  cases c with
  | true => exact ⟨H1, I1, q1⟩
  | false => exact hb wh pins s1 σ H1 Q I1 q1
theorem pt_not (ha : PT X a tA) : PT X (.UnaryOp .Not a pos) (tNot tA) := by
  intro pins s σ H Q I h
  exact isTrue_not (ha pins s σ H (fun c H1 => Q (!c) H1) I h)
end
end L2

namespace L2
open PySem PySem.Spec PyProof.Rows

/-! ### a list, a tuple that is read: tracked, frozen, or an object of the module -/
def SqL (K : PySem.W.Frag) (H : Hp) (a : Addr) (xs : List V) : Prop :=
  Rd H a (.lst xs) ∨
    ∃ (o : Obj) (its : Array Value) (n : Nat), K.lookup a = some o ∧ o.cls = .type "list" ∧ o.dict = none ∧ o.data = .seq its n ∧ its.size ≤ sizeLine ∧ Vals xs its.toList
def SqT (K : PySem.W.Frag) (H : Hp) (a : Addr) (xs : List V) : Prop :=
  Rd H a (.tup xs) ∨
    ∃ (o : Obj) (its : Array Value) (n : Nat), K.lookup a = some o ∧ o.cls = .type "tuple" ∧ o.data = .seq its n ∧ its.size ≤ sizeLine ∧ Vals xs its.toList
def absV : Value → Option V
  | .none => some .non
  | .bool b => some (.bl b)
  | .int i _ => some (.int i)
  | .str x _ => some (.str x)
  | .bytes b _ => some (.byt b)
  | .float b _ => some (.flt b)
  | .ref a => some (.ref a)
  | .type n => some (.ty n)
  | _ => none
theorem RelV.abs {x : V} {u : Value} (r : RelV x u) : absV u = some x := by
  cases x with
  | non => cases r; rfl
  | bl _ => cases r; rfl
  | int _ => obtain ⟨t, rfl⟩ := r; rfl
  | str _ => obtain ⟨t, rfl⟩ := r; rfl
  | byt _ => obtain ⟨t, rfl⟩ := r; rfl
  | flt _ => obtain ⟨t, rfl⟩ := r; rfl
  | ref _ => cases r; rfl
  | ty _ => cases r; rfl
theorem RelV.inj {x y : V} {u : Value} (r : RelV x u) (q : RelV y u) : x = y := Option.some.inj (r.abs.symm.trans q.abs)
theorem Vals.inj : ∀ {xs ys : List V} {us : List Value}, Vals xs us → Vals ys us → xs = ys
  | _, _, _, .nil, .nil => rfl
  | _, _, _, .cons r t, .cons r' t' => by rw [r.inj r', Vals.inj t t']
section
variable {X : Cx} {pins : List (Addr × Obj)} {σ : St} {H : Hp} {s : Shared} {a : Addr} {xs ys : List V}
theorem SqL.of {K : PySem.W.Frag} (h : H a = some (.lst xs)) : SqL K H a xs := .inl (.inl h)
theorem SqT.of {K : PySem.W.Frag} (h : H a = some (.tup xs)) : SqT K H a xs := .inl (.inl h)
theorem Inv.list (I : Inv X pins σ H s) (h : SqL X.K H a xs) : ∃ its : List Value, Vals xs its ∧ PlainL s.heap a its.toArray ∧ xs.length ≤ sizeLine := by
  rcases h with h | ⟨o, its, n, hk, hc, hd, hs, hz, r⟩
  · obtain ⟨z, its, n, r, e⟩ := h.ok I.hok
    exact ⟨its, r, ⟨_, n, e, rfl, rfl, rfl⟩, z⟩
  · refine ⟨its.toList, r, ⟨o, n, I.kIn a o hk, hc, hd, by simpa using hs⟩, ?_⟩
    have e := r.length
    simp only [Array.length_toList] at e
    omega
theorem Inv.tuple (I : Inv X pins σ H s) (h : SqT X.K H a xs) : ∃ its : List Value, Vals xs its ∧ IsTup s.heap a its.toArray ∧ xs.length ≤ sizeLine := by
  rcases h with h | ⟨o, its, n, hk, hc, hs, hz, r⟩
  · obtain ⟨z, its, r, p⟩ := h.ok I.hok
    exact ⟨its, r, p, z⟩
  · refine ⟨its.toList, r, ⟨o, I.kIn a o hk, hc, n, by simpa using hs⟩, ?_⟩
    have e := r.length
    simp only [Array.length_toList] at e
    omega
theorem Inv.list_inj (I : Inv X pins σ H s) (h : SqL X.K H a xs) (h' : SqL X.K H a ys) : xs = ys := by
  obtain ⟨its, r, ⟨o, n, e, _, _, d⟩, _⟩ := I.list h
  obtain ⟨its', r', ⟨o', n', e', _, _, d'⟩, _⟩ := I.list h'
  rw [e] at e'; cases e'
  rw [d] at d'
  injection d' with d1 _
  have : its = its' := by simpa using congrArg Array.toList d1
  subst this
  exact r.inj r'
end

/-! ### another wish about exceptions -/
abbrev Cx.wish (X : Cx) (E : Value → Shared → Prop) : Cx := { X with xe := E }
/-- no exception leaves -/
abbrev Cx.nox (X : Cx) : Cx := X.wish fun _ _ => False
theorem Cx.Ok.wish {X : Cx} (ok : X.Ok) (E : Value → Shared → Prop) : (X.wish E).Ok :=
  ⟨ok.mod, ok.kind, ok.glob, ok.blt, ok.above, ok.inj, ok.has, ok.cab, ok.hd, ok.frames, ok.stk, ok.exf, ok.bs, ok.bsz, ok.noex, ok.exfs, ok.funs, ok.frf⟩
theorem Cx.Ok.unwish {X : Cx} {E : Value → Shared → Prop} (ok : (X.wish E).Ok) : X.Ok :=
  ⟨ok.mod, ok.kind, ok.glob, ok.blt, ok.above, ok.inj, ok.has, ok.cab, ok.hd, ok.frames, ok.stk, ok.exf, ok.bs, ok.bsz, ok.noex, ok.exfs, ok.funs, ok.frf⟩
section
variable {X : Cx} {pins : List (Addr × Obj)} {σ : St} {H : Hp} {s : Shared} {E : Value → Shared → Prop}
theorem Inv.wish (I : Inv X pins σ H s) (E : Value → Shared → Prop) : Inv (X.wish E) pins σ H s := ⟨I.ok.wish E, I.os, I.bare, I.base, I.loc, I.cell, I.free, I.freeC, I.pin, I.hok, I.len⟩
theorem Inv.unwish (I : Inv (X.wish E) pins σ H s) : Inv X pins σ H s := ⟨I.ok.unwish, I.os, I.bare, I.base, I.loc, I.cell, I.free, I.freeC, I.pin, I.hok, I.len⟩
theorem SP.unwish {D : Ends} {f : Flow} {s' : Shared} (h : SP (X.wish E) pins D f s') : SP X pins D f s' := by
  cases f with
  | next => obtain ⟨σ', H', I, q⟩ := h; exact ⟨σ', H', I.unwish, q⟩
  | brk => obtain ⟨σ', H', I, q⟩ := h; exact ⟨σ', H', I.unwish, q⟩
  | cont => obtain ⟨σ', H', I, q⟩ := h; exact ⟨σ', H', I.unwish, q⟩
  | ret u => obtain ⟨v, σ', H', I, r, q⟩ := h; exact ⟨v, σ', H', I.unwish, r, q⟩
theorem PSs.nox {st : List Stmt} {t : TS} (h : PSs X.nox st t) : PSs X st t := fun pins s σ H D I hw =>
  wpAny_mono (h pins s σ H D (I.wish _) hw) (fun _ _ q => q.unwish) fun _ _ z => False.elim z
end

/-! ### blocks and small statements -/
section
variable {X : Cx} {st : Stmt} {rest : List Stmt} {t u : TS} {e : Expr} {te : TE} {pos : Pos}
def tNext : TS := fun D σ H => D.nx σ H
def tSeq (t u : TS) : TS := fun D σ H => t { D with nx := u D } σ H
theorem pss_nil : PSs X [] tNext := fun _ _ σ H _ I h => wpAny_execs_nil ⟨σ, H, I, h⟩
theorem pss_cons (h1 : PS X st t) (h2 : PSs X rest u) : PSs X (st :: rest) (tSeq t u) := by
  intro pins s σ H D I h
  refine wpAny_execs_cons (thn (h1 pins s σ H { D with nx := u D } I h) fun f s1 q => ?_)
  cases f with
  | next =>
    obtain ⟨σ', H', I', q⟩ := q
    exact h2 pins s1 σ' H' D I' q
  | ret v => exact q
  | brk => exact q
  | cont => exact q
theorem pss_one (h1 : PS X st t) : PSs X [st] t := by
  intro pins s σ H D I h
  refine wpAny_execs_cons (thn (h1 pins s σ H D I h) fun f s1 q => ?_)
  cases f with
  | next => exact wpAny_execs_nil q
  | ret v => exact q
  | brk => exact q
  | cont => exact q
def tBreak : TS := fun D σ H => D.bk σ H
theorem ps_break : PS X (.Break pos) tBreak := fun _ _ σ H _ I h => wpAny_Break ⟨σ, H, I, h⟩
/-- in a def's body nothing is shown -/
theorem Inv.quiet {pins : List (Addr × Obj)} {σ : St} {H : Hp} {s : Shared} (I : Inv X pins σ H s) : interactive X.env = false := by simp [interactive, I.ok.kind]
/-- an expression whose value is dropped -/
def tDrop (te : TE) : TS := fun D σ H => te σ H fun _ H1 => D.nx σ H1
theorem ps_expr (he : PE X e te) (hs : swapsWith e none pos.line X.env = pure false := by rfl) : PS X (.Expr e pos) (tDrop te) := by
  intro pins s σ H D I h
  exact wpAny_Expr_any (thn (he pins s σ H _ I h) fun v s1 ⟨x, H1, I1, r1, q1⟩ => ⟨σ, H1, I1, q1⟩) I.quiet hs
def tRet (te : TE) : TS := fun D σ H => te σ H D.rt
theorem ps_ret (he : PE X e te) : PS X (.Return (some e) pos) (tRet te) := by
  intro pins s σ H D I h
  exact wpAny_Return_some (thn (he pins s σ H _ I h) fun v s1 ⟨x, H1, I1, r1, q1⟩ => ⟨x, σ, H1, I1, r1, q1⟩)
def tIfS (c : TT) (t u : TS) : TS := fun D σ H => c σ H fun b H1 => if b = true then t D σ H1 else u D σ H1
theorem ps_if {c : Expr} {a b : List Stmt} {tc : TT} (hc : PT X c tc) (ha : PSs X a t) (hb : PSs X b u) : PS X (.If c a b pos) (tIfS tc t u) := by
  intro pins s σ H D I h
  refine wpAny_If (thn (hc pins s σ H _ I h) fun d s1 ⟨H1, I1, q1⟩ => ?_)
  cases d with
  | true => exact ha pins s1 σ H1 D I1 q1
  | false => exact hb pins s1 σ H1 D I1 q1
/-- code that the proof never comes to -/
def tNever : TS := fun _ _ _ => False
theorem pss_never {sts : List Stmt} : PSs X sts tNever := fun _ _ _ _ _ _ h => h.elim
end

/-! ### targets -/
abbrev TG := V → St → Hp → (St → Hp → Prop) → Prop
abbrev TGs := List V → St → Hp → (St → Hp → Prop) → Prop
def PG (X : Cx) (target : Expr) (t : TG) : Prop :=
  ∀ (pins : List (Addr × Obj)) (s : Shared) (σ : St) (H : Hp) (v : V) (u : Value) (Q : St → Hp → Prop), Inv X pins σ H s → RelV v u → t v σ H Q →
    wpAny (model X.prog X.w) X.A (assign target X.env u) (fun _ s' => ∃ σ' H', Inv X pins σ' H' s' ∧ Q σ' H') X.xe s
/-- several targets, one after another -/
def PGs (X : Cx) (ts : List Expr) (t : TGs) : Prop :=
  ∀ (pins : List (Addr × Obj)) (s : Shared) (σ : St) (H : Hp) (vs : List V) (us : List Value) (Q : St → Hp → Prop), Inv X pins σ H s → Vals vs us → t vs σ H Q →
    wpAny (model X.prog X.w) X.A (assignInOrder ((assignEach ts X.env).map (·.2)) us) (fun _ s' => ∃ σ' H', Inv X pins σ' H' s' ∧ Q σ' H') X.xe s
/-- o[i] = v, by values -/
abbrev TSet := V → V → V → Hp → (Hp → Prop) → Prop
def PSet (X : Cx) (t : TSet) : Prop :=
  ∀ (pins : List (Addr × Obj)) (s : Shared) (σ : St) (H : Hp) (o i v : V) (ov iv u : Value) (Q : Hp → Prop), Inv X pins σ H s → RelV o ov → RelV i iv → RelV v u → t o i v H Q →
    wpAny (model X.prog X.w) X.A (setItem ov iv u) (fun _ s' => ∃ H', Inv X pins σ H' s' ∧ Q H') X.xe s
section
variable {X : Cx} {pos : Pos}
def gName (i : Nat) : TG := fun v σ H Q => Q (σ.set i (some v)) H
theorem pg_name {i : Nat} {x : Str} (hN : X.N.Nodup) (hi : X.N[i]? = some x) (hx : Loc X.env.scope x) (hf : X.fn x = true ∨ X.env.scope.names.lookup x = some .local := by first | exact .inl rfl | exact .inr rfl | assumption) : PG X (.Name x pos) (gName i) := by
  intro pins s σ H v u Q I r h
  exact wpAny_assign_Name (store_ok I hN hi hx r (fun s' I' => ⟨_, H, I', h⟩) hf)
def gNil : TGs := fun vs σ H Q => vs = [] ∧ Q σ H
def gCons (t : TG) (u : TGs) : TGs := fun vs σ H Q => ∃ v r, vs = v :: r ∧ t v σ H fun σ' H' => u r σ' H' Q
theorem pgs_nil : PGs X [] gNil := by
  intro pins s σ H vs us Q I r h
  obtain ⟨e, h⟩ := h
  subst e
  cases r
  exact assignInOrder_nil ⟨σ, H, I, h⟩
theorem pgs_cons {e : Expr} {es : List Expr} {t : TG} {u : TGs} (h1 : PG X e t) (h2 : PGs X es u)
    (hs : (assignEach (e :: es) X.env).map (·.2) = assign e X.env :: (assignEach es X.env).map (·.2) := by rfl) : PGs X (e :: es) (gCons t u) := by
  intro pins s σ H vs us Q I r h
  obtain ⟨v, vr, e1, h⟩ := h
  subst e1
  cases r with
  | cons r rr =>
    rw [hs]
    refine assignInOrder_cons (thn (h1 pins s σ H _ _ _ I r h) fun _ s1 ⟨σ1, H1, I1, q1⟩ => ?_)
    exact h2 pins s1 σ1 H1 _ _ Q I1 rr q1
/-- (a, b, ..) = a tuple of that length -/
def gTup (K : PySem.W.Frag) (n : Nat) (t : TGs) : TG := fun v σ H Q => ∃ a xs, v = .ref a ∧ SqT K H a xs ∧ xs.length = n ∧ t xs σ H Q
theorem pg_tup {es : List Expr} {k : Nat} {t : TGs} {n : Nat} (hc : X.calm = true) (h : PGs X es t)
    (hn : (assignEach es X.env).length = n := by rfl) (hst : (assignEach es X.env).findIdx? (·.1) = none := by rfl) : PG X (.Tuple es k pos) (gTup X.K n t) := by
  intro pins s σ H v u Q I r hw
  obtain ⟨a, xs, e1, hq, hl, hw⟩ := hw
  subst e1
  cases r
  obtain ⟨its, rv, ht, hz⟩ := I.tuple hq
  refine assign_Tuple_tuple (I.ok.hd hc) ht (by simp [hn, ← hl, rv.length]) hst fun h' hx => ?_
  have I1 : Inv X pins σ H { s with heap := h' } := I.kept (t' := s.toks) fun b o e => hx b o (Nat.ne_of_lt (Heap.lt_size e)) e
  exact h pins _ σ H xs _ Q I1 (by simpa using rv) hw
/-- o[i] = .. -/
def gSub (to ti : TE) (t : TSet) : TG := fun v σ H Q => to σ H fun o H1 => ti σ H1 fun i H2 => t o i v H2 fun H3 => Q σ H3
theorem pg_sub {o i : Expr} {to ti : TE} {t : TSet} (ho : PE X o to) (hi : PE X i ti) (hs : PSet X t)
    (ha : ∀ v, assign (.Subscript o i pos) X.env v = (do
      let ov ← holding [v] (eval o X.env)
      let iv ← holding [v, ov] (eval i X.env)
      standAt pos
      holding [v, ov, iv] (setItem ov iv v)
      release [v, ov, iv] []) := by intro _; rfl) : PG X (.Subscript o i pos) (gSub to ti t) := by
  intro pins s σ H v u Q I r h
  rw [ha]
  refine wpAny_bind (wpAny_holding (thn (ho pins s σ H _ I h) fun ov s1 ⟨x, H1, I1, r1, q1⟩ => ?_))
  refine wpAny_bind (wpAny_holding (thn (hi pins s1 σ H1 _ I1 q1) fun iv s2 ⟨y, H2, I2, r2, q2⟩ => ?_))
  refine wpAny_bind (wpAny_standAt (wpAny_bind (wpAny_holding (thn (hs pins s2 σ H2 x y v ov iv u _ I2 r1 r2 r q2) fun _ s3 ⟨H3, I3, q3⟩ => ?_))))
  exact wpAny_release ⟨σ, H3, I3, q3⟩
/-- target = value -/
def tAsg (te : TE) (g : TG) : TS := fun D σ H => te σ H fun x H1 => g x σ H1 D.nx
theorem ps_asg {tg e : Expr} {te : TE} {g : TG} (he : PE X e te) (hg : PG X tg g) (hs : swapsWithSole [tg] e pos.line X.env = pure false := by rfl) (hw : swappedStores [tg] e X.env = pure none := by rfl)
    (h1 : (assignEach [tg] X.env).map (·.2) = [assign tg X.env] := by rfl) : PS X (.Assign [tg] e pos) (tAsg te g) := by
  intro pins s σ H D I h
  refine wpAny_Assign_stores (thn (he pins s σ H _ I h) fun v s1 ⟨x, H1, I1, r1, q1⟩ => ?_) hs hw
  rw [h1]
  exact thn (hg pins s1 σ H1 x v _ I1 r1 q1) fun _ s2 q => q
/-- name = value -/
theorem ps_set {i : Nat} {x : Str} {e : Expr} {te : TE} {pos' : Pos} (hN : X.N.Nodup) (hi : X.N[i]? = some x) (hx : Loc X.env.scope x) (he : PE X e te) (hs : swapsWith e (some (.Name x pos')) pos.line X.env = pure false := by rfl) (hf : X.fn x = true ∨ X.env.scope.names.lookup x = some .local := by first | exact .inl rfl | exact .inr rfl | assumption) :
    PS X (.Assign [.Name x pos'] e pos) (tAsg te (gName i)) := by
  intro pins s σ H D I h
  refine wpAny_Assign_Name (thn (he pins s σ H _ I h) fun v s1 ⟨y, H1, I1, r1, q1⟩ => ?_) hs
  exact store_ok I1 hN hi hx r1 (fun s2 I2 => ⟨_, H1, I2, q1⟩) hf
end

/-! ### while -/
section
variable {X : Cx} {pos : Pos}
end

/-! ### what a loop or a comprehension walks -/
/-- at turn i: it yields x (the heap may grow), or it stops -/
structure It where
  go : Nat → Hp → Prop
  yld : Nat → Hp → V → Hp → Prop
  stop : Nat → Hp → Prop
/-- the iterator's own objects may turn: they are not the frame's, not pinned, younger than the entry (or a comprehension's own) -/
def FpOk (X : Cx) (pins : List (Addr × Obj)) (H : Hp) (b : Addr) : Prop :=
  H b = none ∧ b ≠ X.env.locals ∧ b ∉ X.fs ∧ (b ∈ X.ex ∨ X.s₀.heap.objs.size ≤ b) ∧ (∀ x c, X.env.cells.lookup x = some c → c ≠ b) ∧ ∀ p ∈ X.pn ++ pins, p.1 ≠ b
theorem Inv.fpOk {X : Cx} {pins : List (Addr × Obj)} {σ : St} {H H' : Hp} {s : Shared} {b : Addr} (I : Inv X pins σ H s) (hb : s.heap.objs.size ≤ b) (hn : H' b = none) : FpOk X pins H' b := by
  refine ⟨hn, Nat.ne_of_gt (Nat.lt_of_lt_of_le I.lt hb), I.nofs hb, .inr (Nat.le_trans I.sz hb), fun x c e z => ?_, fun p hp z => ?_⟩
  · obtain ⟨v, q⟩ := I.cell x c e
    exact absurd (Nat.lt_of_lt_of_le q.lt (by rw [z]; exact hb)) (Nat.lt_irrefl _)
  · exact absurd (Nat.lt_of_lt_of_le (Heap.lt_size (I.pin p hp).1) (by rw [z]; exact hb)) (Nat.lt_irrefl _)
structure Turn (P : Program) (w : World) (K : PySem.W.Frag) (tg : Expr) (J : It) (fp : List Addr) (it : Addr) (tn : Nat → Heap → Prop) : Prop where
  mem : it ∈ fp
  obj : ∀ i h, tn i h → ∀ b ∈ fp, ∃ o, h.get? b = some o ∧ ∀ v, o.data ≠ .cell v
  keep : ∀ i h h', tn i h → (∀ b ∈ fp, ∀ o, h.get? b = some o → h'.get? b = some o) → tn i h'
  item : ∀ (X : Cx), X.prog = P → X.w = w → X.K = K → X.calm = true → ∀ (i : Nat) (pins : List (Addr × Obj)) (s : Shared) (σ : St) (H : Hp) (E : Value → Shared → Prop), Inv X pins σ H s → (∀ b ∈ fp, FpOk X pins H b) → tn i s.heap → J.go i H →
    wpAny (model P w) X.A (pyNext (.ref it)) (fun r s1 => ∃ u, r = some u ∧
      wpAny (model P w) X.A (letOwnedTupleGo tg (.ref it) u) (fun _ s2 => ∃ x H', Inv X pins σ H' s2 ∧ RelV x u ∧ J.yld i H x H' ∧ tn (i + 1) s2.heap ∧ ∀ b ∈ fp, H' b = none) E s1) E s
  done : ∀ (X : Cx), X.prog = P → X.w = w → X.K = K → X.calm = true → ∀ (i : Nat) (pins : List (Addr × Obj)) (s : Shared) (σ : St) (H : Hp) (E : Value → Shared → Prop), Inv X pins σ H s → (∀ b ∈ fp, FpOk X pins H b) → tn i s.heap → J.stop i H →
    wpAny (model P w) X.A (pyNext (.ref it)) (fun r s1 => r = none ∧ Inv X pins σ H s1) E s
  self : ∀ (A : Around) (i : Nat) (s : Shared) (Q : Value → Shared → Prop) (E : Value → Shared → Prop), tn i s.heap → Q (.ref it) s → wpAny (model P w) A (pyIter (.ref it)) Q E s
abbrev TI := St → Hp → (It → Hp → Prop) → Prop
/-- an iterator has come -/
def PIE (X : Cx) (pins : List (Addr × Obj)) (σ : St) (tg : Expr) (R : It → Hp → Prop) (itv : Value) (s2 : Shared) : Prop :=
  ∃ (it : Addr) (fp : List Addr) (tn : Nat → Heap → Prop) (J : It) (H' : Hp), itv = .ref it ∧ Inv X pins σ H' s2 ∧ Turn X.prog X.w X.K tg J fp it tn ∧ tn 0 s2.heap ∧ (∀ b ∈ fp, FpOk X pins H' b) ∧ R J H'
def PI (X : Cx) (tg iter : Expr) (wi : TI) : Prop :=
  ∀ (pins : List (Addr × Obj)) (s : Shared) (σ : St) (H : Hp) (R : It → Hp → Prop), Inv X pins σ H s → wi σ H R →
    wpAny (model X.prog X.w) X.A (eval iter X.env) (fun v s1 => wpAny (model X.prog X.w) X.A (pyIter v) (PIE X pins σ tg R) X.xe s1) X.xe s

/-- the step ahead of the store is nothing for an iterator that keeps no tuple -/
theorem go_of {M : Model} {A : Around} {E : Value → Shared → Prop} {s : Shared} {tg : Expr} {it : Addr} {u : Value} {o : Obj} {n : String} {vs : Array Value} {Q : Unit → Shared → Prop} (ho : s.heap.get? it = some o) (hc : o.cls = .type n) (hd : o.data = .fields vs)
    (hn : ["enumerate", "zip", "dict_itemiterator", "dict_reverseitemiterator", "odict_iterator", "itertools.zip_longest", "itertools.pairwise"].contains n = false) (hQ : Q () s) : wpAny M A (letOwnedTupleGo tg (.ref it) u) Q E s := by
  unfold letOwnedTupleGo
  cases tg <;> first
    | exact wpAny_pure hQ
    | (cases u <;> first
        | exact wpAny_pure hQ
        | (refine wpAny_bind (wpAny_load ho ?_)
           rw [hc, hd]
           show wpAny M A (if (["enumerate", "zip", "dict_itemiterator", "dict_reverseitemiterator", "odict_iterator", "itertools.zip_longest", "itertools.pairwise"].contains n && vs[0]? == some (rawInt _)) = true then _ else _) Q E s
           rw [if_neg (by intro h; rw [hn, Bool.false_and] at h; cases h)]
           exact wpAny_pure hQ))

/-- the list at a, as it stands at each turn (a loop may append to it) -/
def Itl (K : PySem.W.Frag) (a : Addr) : It :=
  ⟨fun i H => ∃ xs x, SqL K H a xs ∧ xs[i]? = some x, fun i H x H' => H' = H ∧ ∀ xs, SqL K H a xs → xs[i]? = some x, fun i H => ∃ xs, SqL K H a xs ∧ xs.length ≤ i⟩
/-- lo, lo + 1, .. (n of them) -/
def Itr (lo : Int) (n : Nat) : It := ⟨fun i _ => i < n, fun i H x H' => H' = H ∧ x = .int (lo + i), fun i _ => n ≤ i⟩
theorem turn_list {P : Program} {w : World} {K : PySem.W.Frag} {tg : Expr} (a it : Addr) : Turn P w K tg (Itl K a) [it] it (fun i h => h.IsListIter it a i) where
  mem := by simp
  obj := fun i h st b hb => by
    have e : b = it := by simpa using hb
    subst e
    obtain ⟨o, e, c, d⟩ := st
    exact ⟨o, e, fun v z => by rw [d] at z; cases z⟩
  keep := fun i h h' st k => st.at fun o e => k it (by simp) o e
  item := by
    intro X hP hw hK hc i pins s σ H E I hf st hg
    subst hP hw hK
    obtain ⟨xs, x, hq, hx⟩ := hg
    obtain ⟨its, rv, p, hz⟩ := I.list hq
    obtain ⟨u, hu, ru⟩ := rv.get hx
    obtain ⟨f0, f1, f2, f3, f4, f5⟩ := hf it (by simp)
    refine wpAny_pyNext_list_item st p.isList (x := u) (by simpa using hu) fun h' st' sb => ?_
    have I1 : Inv X pins σ H { s with heap := h' } := I.turned (t' := s.toks) (fun b o hb e => (sb.2 b hb).trans e) f0 f1 f3 f4 f5
    obtain ⟨o, e, c, d⟩ := id st'
    exact ⟨u, rfl, go_of (s := { s with heap := h' }) e c d (by decide) ⟨x, H, I1, ru, ⟨rfl, fun ys hy => by rw [I.list_inj hy hq]; exact hx⟩, st', fun b hb => (hf b hb).1⟩⟩
  done := by
    intro X hP hw hK hc i pins s σ H E I hf st hg
    subst hP hw hK
    obtain ⟨xs, hq, hx⟩ := hg
    obtain ⟨its, rv, p, hz⟩ := I.list hq
    obtain ⟨f0, f1, f2, f3, f4, f5⟩ := hf it (by simp)
    have hl := rv.length
    exact wpAny_pyNext_list_end (I.ok.hd hc) st p.isList (by simp; omega) fun h' eb => ⟨rfl, I.turned (t' := s.toks) (fun b o hb e => eb b o hb e) f0 f1 f3 f4 f5⟩
  self := fun _ _ _ _ _ st h => wpAny_pyIter_listiter st h
theorem turn_range {P : Program} {w : World} {K : PySem.W.Frag} {tg : Expr} (it : Addr) (lo : Int) (n : Nat) : Turn P w K tg (Itr lo n) [it] it (fun i h => IsRangeIter h it (lo + (i : Nat) * 1) ((n : Int) - (i : Nat)) 1) where
  mem := by simp
  obj := fun i h st b hb => by
    have e : b = it := by simpa using hb
    subst e
    exact ⟨_, st, fun v z => by
      have z' : Data.fields _ = Data.cell v := z
      cases z'⟩
  keep := fun i h h' st k => k it (by simp) _ st
  item := by
    intro X hP hw hK hc i pins s σ H E I hf st hg
    subst hP hw hK
    obtain ⟨f0, f1, f2, f3, f4, f5⟩ := hf it (by simp)
    have W := Walks.range (prog := X.prog) (w := X.w) (I.ok.hd hc) it lo 1 n
    refine W.item i s _ _ hg st fun v h' tk hv st' kk => ?_
    obtain ⟨t, rfl⟩ := hv
    have I1 : Inv X pins σ H { s with heap := h', toks := tk } := I.turned (fun b o hb e => kk b o (by simpa using hb) e) f0 f1 f3 f4 f5
    refine ⟨_, rfl, go_of (s := { s with heap := h', toks := tk }) (n := "range_iterator") st' rfl rfl (by decide) ⟨.int (lo + i), H, I1, ⟨t, ?_⟩, ⟨rfl, rfl⟩, st', fun b hb => (hf b hb).1⟩⟩
    rw [Int.mul_one]
  done := by
    intro X hP hw hK hc i pins s σ H E I hf st hg
    subst hP hw hK
    obtain ⟨f0, f1, f2, f3, f4, f5⟩ := hf it (by simp)
    exact wpAny_pyNext_range_end (I.ok.hd hc) st (by have : n ≤ i := hg; omega) fun h' eb => ⟨rfl, I.turned (t' := s.toks) (fun b o hb e => eb b o hb e) f0 f1 f3 f4 f5⟩
  self := fun _ _ _ _ _ st h => wpAny_pyIter_rangeiter st h
end L2

namespace L2
open PySem PySem.Spec PyProof.Rows
section
variable {X : Cx} {tg : Expr}
def iList (K : PySem.W.Frag) (tl : TE) : TI := fun σ H R => tl σ H fun x H1 => ∃ a, x = .ref a ∧ (∃ xs, SqL K H1 a xs) ∧ R (Itl K a) H1
theorem pi_list {l : Expr} {tl : TE} (hl : PE X l tl) : PI X tg l (iList X.K tl) := by
  intro pins s σ H R I h
  refine thn (hl pins s σ H _ I h) fun v s1 ⟨x, H1, I1, r1, q1⟩ => ?_
  obtain ⟨a, e, ⟨xs, hq⟩, q⟩ := q1
  subst e
  cases r1
  obtain ⟨its, rv, p, hz⟩ := I1.list hq
  refine wpAny_pyIter_list p.isList ?_
  refine ⟨s1.heap.objs.size, [s1.heap.objs.size], _, _, H1, rfl, I1.kept (t' := s1.toks) fun b o e => Heap.get?_push_of_some _ e, turn_list a _, ⟨_, Heap.get?_push_size _ rfl, rfl, rfl⟩, fun b hb => ?_, q⟩
  have e : b = s1.heap.objs.size := by simpa using hb
  subst e
  exact I1.fpOk (Nat.le_refl _) (I1.hok.fresh (Nat.le_refl _))
/-- a range object just made, walked -/
theorem range_it {pins : List (Addr × Obj)} {σ : St} {H : Hp} {s : Shared} {R : It → Hp → Prop} {E : Value → Shared → Prop} {lo hi : Int} {t u v : Tok} {tk : Nat} (I : Inv X pins σ H s) (h1 : -(2 ^ 62) ≤ lo) (h2 : lo < 2 ^ 62) (h3 : -(2 ^ 62) ≤ hi) (h4 : hi < 2 ^ 62)
    (q : R (Itr lo (hi - lo).toNat) H) : wpAny (model X.prog X.w) X.A (pyIter (.ref s.heap.objs.size)) (PIE X pins σ tg R) E { s with heap := s.heap.push { cls := .type "range", data := .fields #[.int lo t, .int hi u, .int 1 v] }, toks := tk } := by
  refine wpAny_pyIter_range (IsRange.new ..) (small_one h1 h2 h3 h4) ?_
  have I1 : Inv X pins σ H { s with heap := s.heap.push { cls := .type "range", data := .fields #[.int lo t, .int hi u, .int 1 v] }, toks := tk } := I.kept fun b o e => Heap.get?_push_of_some _ e
  refine ⟨(s.heap.push { cls := .type "range", data := .fields #[.int lo t, .int hi u, .int 1 v] }).objs.size, [(s.heap.push { cls := .type "range", data := .fields #[.int lo t, .int hi u, .int 1 v] }).objs.size], _, _, H, rfl,
    I1.kept (t' := tk) fun b o e => Heap.get?_push_of_some _ e, turn_range _ lo (hi - lo).toNat, ?_, fun b hb => ?_, q⟩
  · have e1 : lo + ((0 : Nat) : Int) * 1 = lo := by simp
    have e2 : (((hi - lo).toNat : Nat) : Int) - ((0 : Nat) : Int) = Builtin.Range.rangeSize lo hi 1 := by rw [rangeSize_one]; split <;> omega
    show IsRangeIter _ _ (lo + ((0 : Nat) : Int) * 1) ((((hi - lo).toNat : Nat) : Int) - ((0 : Nat) : Int)) 1
    rw [e1, e2]
    exact Heap.get?_push_size _ rfl
  · have e : b = (s.heap.push { cls := .type "range", data := .fields #[.int lo t, .int hi u, .int 1 v] }).objs.size := by simpa using hb
    subst e
    exact I1.fpOk (Nat.le_refl _) (I1.hok.fresh (Nat.le_refl _))
def iRng1 (ta : TA) : TI := fun σ H R => ta σ H fun vs H1 => ∃ j : Int, vs = [.int j] ∧ -(2 ^ 62) ≤ j ∧ j < 2 ^ 62 ∧ R (Itr 0 j.toNat) H1
theorem pi_range1 {a : Expr} {ta : TA} {p pos : Pos} (hg : Gl X "range") (hm : X.mg "range" = none) (ha : PA X [a] ta) (hs : starEach [a] X.env = [(false, eval a X.env)] := by rfl) : PI X tg (.Call (.Name "range" p) [a] [] pos) (iRng1 ta) := by
  intro pins s σ H R I h
  refine Call_ (ld_blt I hg hm boot_range (PyProof.Rows.callWith_type1 (thn (ha pos pins s σ H _ I h) fun us s1 ⟨vs, H1, I1, r1, q1⟩ => ?_) hs rfl))
  obtain ⟨j, e, q1, q2, q⟩ := q1
  subst e
  cases r1 with
  | cons r rr =>
    cases rr
    obtain ⟨t, rfl⟩ := r
    exact call_range_1 (range_it I1 (by omega) (by omega) q1 q2 (by simpa using q))
/-! ### for -/
/-- W: the invariant by the turn and a measure; N: what the body is to reach -/
def tFor (wi : TI) (g : TG) (tb : TS) : TS := fun D σ H => wi σ H fun J H1 => ∃ W : Nat → Nat → St → Hp → Prop, (∃ m, W 0 m σ H1) ∧ ∀ i m σ H, W i m σ H →
  (J.stop i H ∧ D.nx σ H) ∨ (J.go i H ∧ ∃ N : St → Hp → Prop, (∀ σ' H', N σ' H' → ∃ m', m' < m ∧ W (i + 1) m' σ' H') ∧ ∀ x H', J.yld i H x H' → g x σ H' fun σ2 H2 => tb { D with nx := N, ct := N, bk := D.nx } σ2 H2)
/-- the records at fp as they stand -/
def pinsAt (fp : List Addr) (h : Heap) : List (Addr × Obj) := fp.filterMap fun b => (h.get? b).map fun o => (b, o)
theorem mem_pinsAt {fp : List Addr} {h : Heap} {b : Addr} {o : Obj} (hb : b ∈ fp) (e : h.get? b = some o) : (b, o) ∈ pinsAt fp h := List.mem_filterMap.mpr ⟨b, hb, by rw [e]; rfl⟩
theorem of_pinsAt {fp : List Addr} {h : Heap} {p : Addr × Obj} (hp : p ∈ pinsAt fp h) : p.1 ∈ fp ∧ h.get? p.1 = some p.2 := by
  obtain ⟨b, hb, e⟩ := List.mem_filterMap.mp hp
  cases q : h.get? b with
  | none => rw [q] at e; cases e
  | some o =>
    rw [q] at e
    have e' : (b, o) = p := Option.some.inj e
    subst e'
    exact ⟨hb, q⟩
theorem Inv.pinned {pins : List (Addr × Obj)} {σ : St} {H : Hp} {s : Shared} {fp : List Addr} (I : Inv X pins σ H s) (hf : ∀ b ∈ fp, FpOk X pins H b) (ho : ∀ b ∈ fp, ∃ o, s.heap.get? b = some o ∧ ∀ v, o.data ≠ .cell v) : Inv X (pins ++ pinsAt fp s.heap) σ H s :=
  I.pins_of fun p hp => (List.mem_append.mp hp).elim (fun z => I.pin p (List.mem_append_right _ z)) fun z => by
    obtain ⟨hb, e⟩ := of_pinsAt z
    obtain ⟨f0, f1, f2, _⟩ := hf p.1 hb
    obtain ⟨o, e', d⟩ := ho p.1 hb
    rw [e] at e'; cases e'
    exact ⟨e, f0, f1, f2, d⟩
theorem Inv.unpinned {pins pl : List (Addr × Obj)} {σ : St} {H : Hp} {s : Shared} (I : Inv X (pins ++ pl) σ H s) : Inv X pins σ H s := I.pins_of fun p hp => I.pin p (List.mem_append_right _ (List.mem_append_left _ hp))
theorem ps_for {iter : Expr} {body : List Stmt} {wi : TI} {g : TG} {tb : TS} {pos : Pos} (hp : PassesOwn (model X.prog X.w) X.A X.env X.xe) (hc : X.calm = true) (hi : PI X tg iter wi) (hg : PG X tg g) (hb : PSs X body tb)
    (hs : ∀ x, foldedSetIterable iter X.env x = pure x := by intro _; rfl) : PS X (.For tg iter body [] pos) (tFor wi g tb) := by
  intro pins s σ H D I h
  refine wpAny_For (thn (hi pins s σ H _ I h) fun v s1 h1 => thn h1 fun itv s2 h2 => ?_) hs
  obtain ⟨it, fp, tn, J, H2, e, I2, T, st2, f2, W, ⟨m0, w0⟩, turn⟩ := h2
  subst e
  -- what stays true of the iterator's objects through the loop
  have stat : ∀ {H' : Hp}, (∀ b ∈ fp, H' b = none) → ∀ b ∈ fp, FpOk X pins H' b := fun hn b hb => ⟨hn b hb, (f2 b hb).2⟩
  refine codeAny_forLoop_any (fun n s' => ∃ i σ' H', Inv X pins σ' H' s' ∧ tn i s'.heap ∧ (∀ b ∈ fp, H' b = none) ∧ W i n σ' H') ?_ m0 ⟨0, σ, H2, I2, st2, fun b hb => (f2 b hb).1, w0⟩
  rintro n s3 ⟨i, σ3, H3, I3, st3, fr3, w3⟩
  rcases turn i n σ3 H3 w3 with ⟨stop, qn⟩ | ⟨go, N, hN, step⟩
  · refine wpAny_passesOwn hp (thn (T.done X rfl rfl rfl hc i pins s3 σ3 H3 X.xe I3 (stat fr3) st3 stop) fun r s4 ⟨hr, I4⟩ => ?_)
    subst hr
    exact wpAny_execs_nil ⟨σ3, H3, I4, qn⟩
  · refine wpAny_passesOwn hp (thn (T.item X rfl rfl rfl hc i pins s3 σ3 H3 X.xe I3 (stat fr3) st3 go) fun r s4 ⟨u, hr, h4⟩ => ?_)
    subst hr
    refine wpAny_passesOwn hp (thn h4 fun _ s5 ⟨x, H5, I5, r5, y5, st5, fr5⟩ => ?_)
    have I5' := I5.pinned (stat fr5) (T.obj _ _ st5)
    refine wpAny_passesOwn hp (thn (hg _ s5 σ3 H5 x u _ I5' r5 (step x H5 y5)) fun _ s6 ⟨σ6, H6, I6, q6⟩ => ?_)
    refine wpAny_passesOwn hp (thn (hb _ s6 σ6 H6 _ I6 q6) fun f s7 q7 => ?_)
    have again : ∀ {σ7 : St} {H7 : Hp}, Inv X (pins ++ pinsAt fp s5.heap) σ7 H7 s7 → N σ7 H7 → ∃ m, m < n ∧ ∃ i σ' H', Inv X pins σ' H' s7 ∧ tn i s7.heap ∧ (∀ b ∈ fp, H' b = none) ∧ W i m σ' H' := fun {σ7 H7} I7 n7 => by
      obtain ⟨m', hm, w7⟩ := hN σ7 H7 n7
      refine ⟨m', hm, i + 1, σ7, H7, I7.unpinned, T.keep _ _ _ st5 fun b hb o e => (I7.pin (b, o) (List.mem_append_right _ (List.mem_append_right _ (mem_pinsAt hb e)))).1, fun b hb => ?_, w7⟩
      obtain ⟨o, e, d⟩ := T.obj _ _ st5 b hb
      exact (I7.pin (b, o) (List.mem_append_right _ (List.mem_append_right _ (mem_pinsAt hb e)))).2.1
    cases f with
    | next => obtain ⟨σ7, H7, I7, n7⟩ := q7; exact again I7 n7
    | cont => obtain ⟨σ7, H7, I7, n7⟩ := q7; exact again I7 n7
    | brk => obtain ⟨σ7, H7, I7, q7⟩ := q7; exact ⟨σ7, H7, I7.unpinned, q7⟩
    | ret v => obtain ⟨x7, σ7, H7, I7, r7, q7⟩ := q7; exact ⟨x7, σ7, H7, I7.unpinned, r7, q7⟩
end

/-! ### the forms one uses -/
/-- over a list that the body leaves as it is -/
theorem for_list {K : PySem.W.Frag} {a : Addr} {xs : List V} {g : TG} {tb : TS} {D : Ends} {σ : St} {H : Hp} (Pv : Nat → St → Hp → Prop) (h0 : Pv 0 σ H) (hl : ∀ i σ H, i ≤ xs.length → Pv i σ H → SqL K H a xs)
    (hs : ∀ i x σ H, xs[i]? = some x → Pv i σ H → g x σ H fun σ2 H2 => tb { D with nx := Pv (i + 1), ct := Pv (i + 1), bk := D.nx } σ2 H2) (hd : ∀ σ H, Pv xs.length σ H → D.nx σ H) :
    ∃ W : Nat → Nat → St → Hp → Prop, (∃ m, W 0 m σ H) ∧ ∀ i m σ H, W i m σ H →
      ((Itl K a).stop i H ∧ D.nx σ H) ∨ ((Itl K a).go i H ∧ ∃ N : St → Hp → Prop, (∀ σ' H', N σ' H' → ∃ m', m' < m ∧ W (i + 1) m' σ' H') ∧ ∀ x H', (Itl K a).yld i H x H' → g x σ H' fun σ2 H2 => tb { D with nx := N, ct := N, bk := D.nx } σ2 H2) := by
  refine ⟨fun i m σ H => m = xs.length - i ∧ i ≤ xs.length ∧ Pv i σ H, ⟨xs.length, by simp, Nat.zero_le _, h0⟩, ?_⟩
  rintro i m σ H ⟨rfl, hi, p⟩
  have q := hl i σ H hi p
  by_cases hlt : i < xs.length
  · refine .inr ⟨⟨xs, xs[i], q, by simp [hlt]⟩, Pv (i + 1), fun σ' H' p' => ⟨xs.length - (i + 1), by omega, rfl, hlt, p'⟩, fun x H' y => ?_⟩
    obtain ⟨e, y⟩ := y
    subst e
    exact hs i x σ _ (y xs q) p
  · have e : i = xs.length := by omega
    subst e
    exact .inl ⟨⟨xs, q, Nat.le_refl _⟩, hd σ H p⟩
theorem for_range {lo : Int} {n : Nat} {g : TG} {tb : TS} {D : Ends} {σ : St} {H : Hp} (Pv : Nat → St → Hp → Prop) (h0 : Pv 0 σ H)
    (hs : ∀ i σ H, i < n → Pv i σ H → g (.int (lo + i)) σ H fun σ2 H2 => tb { D with nx := Pv (i + 1), ct := Pv (i + 1), bk := D.nx } σ2 H2) (hd : ∀ σ H, Pv n σ H → D.nx σ H) :
    ∃ W : Nat → Nat → St → Hp → Prop, (∃ m, W 0 m σ H) ∧ ∀ i m σ H, W i m σ H →
      ((Itr lo n).stop i H ∧ D.nx σ H) ∨ ((Itr lo n).go i H ∧ ∃ N : St → Hp → Prop, (∀ σ' H', N σ' H' → ∃ m', m' < m ∧ W (i + 1) m' σ' H') ∧ ∀ x H', (Itr lo n).yld i H x H' → g x σ H' fun σ2 H2 => tb { D with nx := N, ct := N, bk := D.nx } σ2 H2) := by
  refine ⟨fun i m σ H => m = n - i ∧ i ≤ n ∧ Pv i σ H, ⟨n, by simp, Nat.zero_le _, h0⟩, ?_⟩
  rintro i m σ H ⟨rfl, hi, p⟩
  by_cases hlt : i < n
  · refine .inr ⟨hlt, Pv (i + 1), fun σ' H' p' => ⟨n - (i + 1), by omega, rfl, hlt, p'⟩, fun x H' y => ?_⟩
    obtain ⟨e, y⟩ := y
    subst e y
    exact hs i σ _ hlt p
  · have e : i = n := by omega
    subst e
    exact .inl ⟨Nat.le_refl _, hd σ H p⟩
end L2

namespace L2
open PySem PySem.Spec PyProof.Rows

abbrev R2 := V → V → Hp → VK → Prop
/-- a two-place operation on values: f is binaryOp op, inplaceOp op or compareOp op -/
def OpR (X : Cx) (f : Value → Value → Sem Value) (r : R2) : Prop :=
  ∀ (pins : List (Addr × Obj)) (s : Shared) (σ : St) (H : Hp) (x y : V) (v u : Value) (Q : VK), Inv X pins σ H s → RelV x v → RelV y u → r x y H Q →
    wpAny (model X.prog X.w) X.A (f v u) (EP X pins σ Q) X.xe s
/-- a one-place operation -/
def UnR (X : Cx) (f : Value → Sem Value) (r : V → Hp → VK → Prop) : Prop :=
  ∀ (pins : List (Addr × Obj)) (s : Shared) (σ : St) (H : Hp) (x : V) (v : Value) (Q : VK), Inv X pins σ H s → RelV x v → r x H Q →
    wpAny (model X.prog X.w) X.A (f v) (EP X pins σ Q) X.xe s
/-- a call of a value that is known (a builtin, a type) with values -/
def CallR (X : Cx) (f : Value) (r : List V → Hp → VK → Prop) : Prop :=
  ∀ (pins : List (Addr × Obj)) (s : Shared) (σ : St) (H : Hp) (xs : List V) (us : List Value) (Q : VK), Inv X pins σ H s → Vals xs us → r xs H Q →
    wpAny (model X.prog X.w) X.A (call f us) (EP X pins σ Q) X.xe s
/-- a value's truth -/
def TruR (X : Cx) (r : V → Hp → (Bool → Hp → Prop) → Prop) : Prop :=
  ∀ (pins : List (Addr × Obj)) (s : Shared) (σ : St) (H : Hp) (x : V) (v : Value) (Q : Bool → Hp → Prop), Inv X pins σ H s → RelV x v → r x H Q →
    wpAny (model X.prog X.w) X.A (truthy v) (TP X pins σ Q) X.xe s

def tOp (r : R2) (ta tb : TE) : TE := fun σ H Q => ta σ H fun x H1 => tb σ H1 fun y H2 => r x y H2 Q
def tUn (r : V → Hp → VK → Prop) (ta : TE) : TE := fun σ H Q => ta σ H fun x H1 => r x H1 Q
/-- ints in, under C, and a value out -/
def rI (C : Int → Int → Prop) (g : Int → Int → V) : R2 := fun x y H Q => ∃ i j, x = .int i ∧ y = .int j ∧ C i j ∧ Q (g i j) H
def rI0 (g : Int → Int → V) : R2 := fun x y H Q => ∃ i j, x = .int i ∧ y = .int j ∧ Q (g i j) H
def rU (g : Int → V) : V → Hp → VK → Prop := fun x H Q => ∃ i, x = .int i ∧ Q (g i) H

section
variable {X : Cx} {a b c : Expr} {ta tb tc : TE} {pos : Pos}

theorem binT (ha : PE X a ta) (hb : PE X b tb) {pins : List (Addr × Obj)} {s : Shared} {σ : St} {H : Hp} {R : V → V → Hp → Prop} (I : Inv X pins σ H s)
    (h : ta σ H fun x H1 => tb σ H1 fun y H2 => R x y H2) {Q : Value → Shared → Prop} {f : Value → Value → Sem Value}
    (hf : ∀ v u s2 x y H2, Inv X pins σ H2 s2 → RelV x v → RelV y u → R x y H2 → wpAny (model X.prog X.w) X.A (f v u) Q X.xe s2) :
    wpAny (model X.prog X.w) X.A (eval a X.env) (fun v s₁ => wpAny (model X.prog X.w) X.A (eval b X.env) (fun u s₂ => wpAny (model X.prog X.w) X.A (f v u) Q X.xe s₂) X.xe s₁) X.xe s := by
  refine thn (ha pins s σ H _ I h) fun v s1 ⟨x, H1, I1, r1, q1⟩ => ?_
  refine thn (hb pins s1 σ H1 _ I1 q1) fun u s2 ⟨y, H2, I2, r2, q2⟩ => ?_
  exact hf v u s2 x y H2 I2 r1 r2 q2

theorem pe_op {op : Operator} {r : R2} (ho : OpR X (binaryOp op) r) (ha : PE X a ta) (hb : PE X b tb) : PE X (.BinOp a op b pos) (tOp r ta tb) := by
  intro pins s σ H Q I h
  exact wpAny_BinOp (binT ha hb I h fun v u s2 x y H2 I2 rx ry q => ho pins s2 σ H2 x y v u Q I2 rx ry q)
theorem pe_un {op : UnaryOp} {r : V → Hp → VK → Prop} (ho : UnR X (unaryOp op) r) (ha : PE X a ta) : PE X (.UnaryOp op a pos) (tUn r ta) := by
  intro pins s σ H Q I h
  exact UnaryOp_ (thn (ha pins s σ H _ I h) fun v s1 ⟨x, H1, I1, r1, q1⟩ => ho pins s1 σ H1 x v Q I1 r1 q1)
/-! ### ints -/
theorem opI {f : Value → Value → Sem Value} {C : Int → Int → Prop} {g : Int → Int → Int}
    (rule : ∀ (i j : Int) (t u : Tok) (s : Shared) (Q : Value → Shared → Prop) (E : Value → Shared → Prop), C i j → Q (.int (g i j) s.toks) { s with toks := s.toks + 1 } → wpAny (model X.prog X.w) X.A (f (.int i t) (.int j u)) Q E s) :
    OpR X f (rI C fun i j => .int (g i j)) := by
  intro pins s σ H x y v u Q I rx ry h
  obtain ⟨i, j, rfl, rfl, hc, q⟩ := h
  obtain ⟨t, rfl⟩ := rx
  obtain ⟨t', rfl⟩ := ry
  exact rule i j t t' s _ _ hc ⟨.int (g i j), H, I.tok _, ⟨_, rfl⟩, q⟩
theorem opI0 {f : Value → Value → Sem Value} {g : Int → Int → Int}
    (rule : ∀ (i j : Int) (t u : Tok) (s : Shared) (Q : Value → Shared → Prop) (E : Value → Shared → Prop), Q (.int (g i j) s.toks) { s with toks := s.toks + 1 } → wpAny (model X.prog X.w) X.A (f (.int i t) (.int j u)) Q E s) :
    OpR X f (rI0 fun i j => .int (g i j)) := by
  intro pins s σ H x y v u Q I rx ry h
  obtain ⟨i, j, rfl, rfl, q⟩ := h
  obtain ⟨t, rfl⟩ := rx
  obtain ⟨t', rfl⟩ := ry
  exact rule i j t t' s _ _ ⟨.int (g i j), H, I.tok _, ⟨_, rfl⟩, q⟩
theorem opB0 {f : Value → Value → Sem Value} {g : Int → Int → Bool}
    (rule : ∀ (i j : Int) (t u : Tok) (s : Shared) (Q : Value → Shared → Prop) (E : Value → Shared → Prop), Q (.bool (g i j)) s → wpAny (model X.prog X.w) X.A (f (.int i t) (.int j u)) Q E s) :
    OpR X f (rI0 fun i j => .bl (g i j)) := by
  intro pins s σ H x y v u Q I rx ry h
  obtain ⟨i, j, rfl, rfl, q⟩ := h
  obtain ⟨t, rfl⟩ := rx
  obtain ⟨t', rfl⟩ := ry
  exact rule i j t t' s _ _ ⟨.bl (g i j), H, I, rfl, q⟩

def CDiv (i j : Int) : Prop := 0 < j ∧ j < 1073741824
def CPow (i j : Int) : Prop := 0 ≤ j ∧ j ≤ 1000000 ∧ i.natAbs < 2 ^ 64
def CMul (i j : Int) : Prop := (-(2 ^ 64) < i ∧ i < 2 ^ 64) ∨ (-(2 ^ 64) < j ∧ j < 2 ^ 64)
theorem CMul.ok {i j : Int} (h : CMul i j) : IntMulOk i j := by
  rcases h with ⟨h1, h2⟩ | ⟨h1, h2⟩
  · exact .of_left (intBits_le_64 h1 h2)
  · exact .of_right (intBits_le_64 h1 h2)
theorem op_add : OpR X (binaryOp .Add) (rI0 fun i j => .int (i + j)) := opI0 fun _ _ _ _ _ _ _ q => add_int q
theorem op_sub : OpR X (binaryOp .Sub) (rI0 fun i j => .int (i - j)) := opI0 fun _ _ _ _ _ _ _ q => sub_int q
theorem op_mul : OpR X (binaryOp .Mult) (rI CMul fun i j => .int (i * j)) := opI fun _ _ _ _ _ _ _ hc q => mul_int q hc.ok
/-- // by a positive divisor -/
theorem op_fdiv : OpR X (binaryOp .FloorDiv) (rI CDiv fun i j => .int (i / j)) := opI fun i j _ _ _ _ _ hc q => by
  have h1 : (0 : Int) < j := hc.1
  have h2 : j < 1073741824 := hc.2
  exact floordiv_int (by omega) (by rw [Int.fdiv_eq_ediv_of_nonneg i (by omega)]; exact q) (.inl (PyProof.noPylong_small (by omega)))
/-- % by a positive divisor of any size -/
theorem op_mod : OpR X (binaryOp .Mod) (rI (fun _ j => 0 < j) fun i j => .int (i % j)) := opI fun i j _ _ _ _ _ hc q => by
  have h1 : (0 : Int) < j := hc
  exact mod_int' (by omega) (by rw [Int.fmod_eq_emod_of_nonneg i (by omega)]; exact q)
theorem op_pow : OpR X (binaryOp .Pow) (rI CPow fun i j => .int (i ^ j.toNat)) := opI fun _ _ _ _ _ _ _ hc q => pow_int_small hc.1 hc.2.1 hc.2.2 q
theorem unI {f : Value → Sem Value} {g : Int → Int}
    (rule : ∀ (i : Int) (t : Tok) (s : Shared) (Q : Value → Shared → Prop) (E : Value → Shared → Prop), Q (.int (g i) s.toks) { s with toks := s.toks + 1 } → wpAny (model X.prog X.w) X.A (f (.int i t)) Q E s) :
    UnR X f (rU fun i => .int (g i)) := by
  intro pins s σ H x v Q I rx h
  obtain ⟨i, rfl, q⟩ := h
  obtain ⟨t, rfl⟩ := rx
  exact rule i t s _ _ ⟨.int (g i), H, I.tok _, ⟨_, rfl⟩, q⟩
theorem un_neg : UnR X (unaryOp .USub) (rU fun i => .int (-i)) := unI fun _ _ _ _ _ q => neg_int q
end

/-! ### comparisons -/
/-- the scalars that == tells apart as data does -/
def scal : V → V → Bool
  | .non, .non => true | .non, .int _ => true | .int _, .non => true | .non, .bl _ => true | .bl _, .non => true | .non, .str _ => true | .str _, .non => true
  | .int _, .int _ => true | .bl _, .bl _ => true | .str _, .str _ => true | .byt _, .byt _ => true
  | .int _, .str _ => true | .str _, .int _ => true | .bl _, .str _ => true | .str _, .bl _ => true
  | _, _ => false
def rEq : R2 := fun x y H Q => scal x y = true ∧ Q (.bl (decide (x = y))) H
def rNe : R2 := fun x y H Q => scal x y = true ∧ Q (.bl (!decide (x = y))) H

theorem dec_int {i j : Int} : decide (V.int i = V.int j) = (i == j) := by
  rw [Bool.eq_iff_iff]
  simp
theorem dec_bl {i j : Bool} : decide (V.bl i = V.bl j) = (i == j) := by
  rw [Bool.eq_iff_iff]
  simp
theorem dec_str {i j : Str} : decide (V.str i = V.str j) = (i == j) := by
  rw [Bool.eq_iff_iff]
  simp
theorem dec_byt {i j : Array UInt8} : decide (V.byt i = V.byt j) = (i.toList == j.toList) := by
  rw [Bool.eq_iff_iff]
  cases i
  cases j
  simp

section
variable {X : Cx} {a b c : Expr} {ta tb tc : TE} {pos : Pos}
theorem fin_bl {pins : List (Addr × Obj)} {σ : St} {H : Hp} {s : Shared} {Q : VK} {k k' : Bool} (I : Inv X pins σ H s) (q : Q (.bl k) H) (e : k = k') : EP X pins σ Q (.bool k') s := by
  subst e
  exact ⟨.bl k, H, I, rfl, q⟩
theorem op_eq : OpR X (compareOp .Eq) rEq := by
  intro pins s σ H x y v u Q I rx ry h
  obtain ⟨hs, q⟩ := h
  cases x with
  | non =>
    cases rx
    cases y with
    | non => cases ry; exact PySem.EqNone.eq_none_none (fin_bl I q (by simp))
    | bl j => cases ry; exact PySem.EqNone.eq_none_bool (fin_bl I q (by simp))
    | int j => obtain ⟨t', rfl⟩ := ry; exact PySem.EqNone.eq_none_int (fin_bl I q (by simp))
    | str j => obtain ⟨t', rfl⟩ := ry; exact PySem.EqNone.eq_none_str (fin_bl I q (by simp))
    | _ => exact absurd (show false = true from hs) Bool.false_ne_true
  | bl i =>
    cases rx
    cases y with
    | non => cases ry; exact PySem.EqNone.eq_bool_none (fin_bl I q (by simp))
    | bl j => cases ry; exact eq_bool (fin_bl I q dec_bl)
    | str j => obtain ⟨t', rfl⟩ := ry; exact PySem.EqMixed.eq_bool_str (fin_bl I q (by simp))
    | _ => exact absurd (show false = true from hs) Bool.false_ne_true
  | int i =>
    obtain ⟨t, rfl⟩ := rx
    cases y with
    | non => cases ry; exact PySem.EqNone.eq_int_none (fin_bl I q (by simp))
    | int j => obtain ⟨t', rfl⟩ := ry; exact eq_int (fin_bl I q dec_int)
    | str j => obtain ⟨t', rfl⟩ := ry; exact PySem.EqMixed.eq_int_str (fin_bl I q (by simp))
    | _ => exact absurd (show false = true from hs) Bool.false_ne_true
  | str i =>
    obtain ⟨t, rfl⟩ := rx
    cases y with
    | non => cases ry; exact PySem.EqNone.eq_str_none (fin_bl I q (by simp))
    | bl j => cases ry; exact PySem.EqMixed.eq_str_bool (fin_bl I q (by simp))
    | int j => obtain ⟨t', rfl⟩ := ry; exact PySem.EqMixed.eq_str_int (fin_bl I q (by simp))
    | str j => obtain ⟨t', rfl⟩ := ry; exact eq_str (fin_bl I q dec_str)
    | _ => exact absurd (show false = true from hs) Bool.false_ne_true
  | byt i =>
    obtain ⟨t, rfl⟩ := rx
    cases y with
    | byt j => obtain ⟨t', rfl⟩ := ry; exact PySem.W.eq_bytes (fin_bl I q dec_byt)
    | _ => exact absurd (show false = true from hs) Bool.false_ne_true
  | _ => cases y <;> exact absurd (show false = true from hs) Bool.false_ne_true
theorem op_ne : OpR X (compareOp .NotEq) rNe := by
  intro pins s σ H x y v u Q I rx ry h
  obtain ⟨hs, q⟩ := h
  cases x with
  | non =>
    cases rx
    cases y with
    | non => cases ry; exact PySem.EqNone.ne_none_none (fin_bl I q (by simp))
    | bl j => cases ry; exact PySem.EqNone.ne_none_bool (fin_bl I q (by simp))
    | int j => obtain ⟨t', rfl⟩ := ry; exact PySem.EqNone.ne_none_int (fin_bl I q (by simp))
    | str j => obtain ⟨t', rfl⟩ := ry; exact PySem.EqNone.ne_none_str (fin_bl I q (by simp))
    | _ => exact absurd (show false = true from hs) Bool.false_ne_true
  | bl i =>
    cases rx
    cases y with
    | non => cases ry; exact PySem.EqNone.ne_bool_none (fin_bl I q (by simp))
    | bl j => cases ry; exact ne_bool (fin_bl I q (congrArg not dec_bl))
    | str j => obtain ⟨t', rfl⟩ := ry; exact PySem.EqMixed.ne_bool_str (fin_bl I q (by simp))
    | _ => exact absurd (show false = true from hs) Bool.false_ne_true
  | int i =>
    obtain ⟨t, rfl⟩ := rx
    cases y with
    | non => cases ry; exact PySem.EqNone.ne_int_none (fin_bl I q (by simp))
    | int j => obtain ⟨t', rfl⟩ := ry; exact ne_int (fin_bl I q (congrArg not dec_int))
    | str j => obtain ⟨t', rfl⟩ := ry; exact PySem.EqMixed.ne_int_str (fin_bl I q (by simp))
    | _ => exact absurd (show false = true from hs) Bool.false_ne_true
  | str i =>
    obtain ⟨t, rfl⟩ := rx
    cases y with
    | non => cases ry; exact PySem.EqNone.ne_str_none (fin_bl I q (by simp))
    | bl j => cases ry; exact PySem.EqMixed.ne_str_bool (fin_bl I q (by simp))
    | int j => obtain ⟨t', rfl⟩ := ry; exact PySem.EqMixed.ne_str_int (fin_bl I q (by simp))
    | str j => obtain ⟨t', rfl⟩ := ry; exact ne_str (fin_bl I q (congrArg not dec_str))
    | _ => exact absurd (show false = true from hs) Bool.false_ne_true
  | byt i =>
    obtain ⟨t, rfl⟩ := rx
    cases y with
    | byt j => obtain ⟨t', rfl⟩ := ry; exact PySem.W.ne_bytes (fin_bl I q (congrArg not dec_byt))
    | _ => exact absurd (show false = true from hs) Bool.false_ne_true
  | _ => cases y <;> exact absurd (show false = true from hs) Bool.false_ne_true

theorem op_lt : OpR X (compareOp .Lt) (rI0 fun i j => .bl (decide (i < j))) := opB0 fun _ _ _ _ _ _ _ q => lt_int q
theorem op_gt : OpR X (compareOp .Gt) (rI0 fun i j => .bl (decide (j < i))) := opB0 fun _ _ _ _ _ _ _ q => gt_int q
theorem op_ge : OpR X (compareOp .GtE) (rI0 fun i j => .bl (decide (j ≤ i))) := opB0 fun _ _ _ _ _ _ _ q => ge_int q
/-- is None, is not None: the right side a value none -/
theorem op_isN : OpR X (compareOp .Is) (fun x y H Q => y = .non ∧ Q (.bl (decide (x = .non))) H) := by
  intro pins s σ H x y v u Q I rx ry h
  obtain ⟨rfl, q⟩ := h
  cases ry
  refine is_none_gen (fin_bl I q ?_)
  cases x <;> first
    | (cases rx; rfl)
    | (obtain ⟨t, rfl⟩ := rx; rfl)
theorem nomark (b : Expr) {op : CmpOp} (h : op ≠ .In := by decide) (h2 : op ≠ .NotIn := by decide) : behindInMarks op b = false := by
  have e1 : (op == CmpOp.In) = false := by cases op <;> first | rfl | exact absurd rfl h
  have e2 : (op == CmpOp.NotIn) = false := by cases op <;> first | rfl | exact absurd rfl h2
  cases b <;> simp [behindInMarks, e1, e2]
/-- a comparison as a value; hm: nomark b, or (for in, not in) by with_unfolding_all rfl -/
theorem pe_cmpR {op : CmpOp} {r : R2} (ho : OpR X (compareOp op) r) (ha : PE X a ta) (hb : PE X b tb) (hm : behindInMarks op b = false) : PE X (.Compare a [op] [b] pos) (tOp r ta tb) := by
  intro pins s σ H Q I h
  exact wpAny_Compare1 (binT ha hb I h fun v u s2 x y H2 I2 rx ry q => ho pins s2 σ H2 x y v u Q I2 rx ry q) hm
/-- a reading of a value as a test -/
def tTest (t : TE) : TT := fun σ H Q => t σ H fun x H' => ∃ k, x = .bl k ∧ Q k H'
theorem pt_cmpR {op : CmpOp} {r : R2} (ho : OpR X (compareOp op) r) (ha : PE X a ta) (hb : PE X b tb) (hm : behindInMarks op b = false) : PT X (.Compare a [op] [b] pos) (tTest (tOp r ta tb)) := by
  intro pins s σ H Q I h
  refine wpAny_isTrue_Compare1 (thn (ha pins s σ H _ I h) fun v s1 ⟨x, H1, I1, r1, q1⟩ => thn (hb pins s1 σ H1 _ I1 q1) fun u s2 ⟨y, H2, I2, r2, q2⟩ =>
    thn (ho pins s2 σ H2 x y v u _ I2 r1 r2 q2) fun c s3 ⟨z, H3, I3, r3, k, e, q3⟩ => ?_) hm
  subst e
  cases r3
  exact wpAny_truthy_bool ⟨H3, I3, q3⟩
/-! ### truth -/
/-- a value's truth by the abstract heap -/
def TruV (K : PySem.W.Frag) (x : V) (H : Hp) (k : Bool) : Prop :=
  match x with
  | .non => k = false
  | .bl b => k = b
  | .int i => k = (i != 0)
  | .str y => y.length ≤ sizeLine ∧ k = ((y.length : Int) != 0)
  | .byt y => y.size ≤ sizeLine ∧ k = ((y.size : Int) != 0)
  | .ref p => (∃ xs, SqL K H p xs ∧ k = !xs.isEmpty) ∨ (∃ xs, SqT K H p xs ∧ k = !xs.isEmpty) ∨ ∃ kvs, H p = some (.dK kvs) ∧ k = !kvs.isEmpty
  | _ => False
theorem isEmpty_kv {κ : Type} {kvs : List (κ × V)} {vs : List (κ × Value)} (r : KV kvs vs) : (!vs.isEmpty) = !kvs.isEmpty := by
  cases r <;> rfl
theorem isEmpty_of {xs : List V} {its : List Value} (r : Vals xs its) : (!its.toArray.isEmpty) = !xs.isEmpty := by
  cases r <;> simp
theorem line63 : (sizeLine : Nat) < 2 ^ 63 := by rw [sizeLine_eq]; decide
theorem tru_ok : TruR X (fun x H Q => ∃ k, TruV X.K x H k ∧ Q k H) := by
  intro pins s σ H x v Q I rx h
  obtain ⟨k, e, q⟩ := h
  have hl := line63
  have hs : sizeLine = 16777216 := sizeLine_eq
  cases x with
  | non =>
    cases rx
    have e' : k = false := e
    subst e'
    exact truthy_none ⟨H, I, q⟩
  | bl b =>
    cases rx
    have e' : k = b := e
    subst e'
    exact wpAny_truthy_bool ⟨H, I, q⟩
  | int i =>
    obtain ⟨t, rfl⟩ := rx
    have e' : k = (i != 0) := e
    subst e'
    exact PySem.P.truthy_int ⟨H, I, q⟩
  | str y =>
    obtain ⟨t, rfl⟩ := rx
    obtain ⟨hy, e'⟩ : y.length ≤ sizeLine ∧ k = ((y.length : Int) != 0) := e
    subst e'
    exact PySem.P.truthy_str (by omega) ⟨H, I.tok _, q⟩
  | byt y =>
    obtain ⟨t, rfl⟩ := rx
    obtain ⟨hy, e'⟩ : y.size ≤ sizeLine ∧ k = ((y.size : Int) != 0) := e
    subst e'
    exact PySem.W.truthy_bytes (by omega) ⟨H, I.tok _, q⟩
  | ref p =>
    cases rx
    have e' : (∃ xs, SqL X.K H p xs ∧ k = !xs.isEmpty) ∨ (∃ xs, SqT X.K H p xs ∧ k = !xs.isEmpty) ∨ ∃ kvs, H p = some (.dK kvs) ∧ k = !kvs.isEmpty := e
    rcases e' with ⟨xs, hx, e'⟩ | ⟨xs, hx, e'⟩ | ⟨kvs, hx, e'⟩
    · subst e'
      obtain ⟨its, r, pl, hz⟩ := I.list hx
      have hlen := r.length
      exact wpAny_truthy_list pl.isList (by simp only [List.size_toArray]; omega) ⟨H, I.tok _, by rw [isEmpty_of r]; exact q⟩
    · subst e'
      obtain ⟨its, r, pl, hz⟩ := I.tuple hx
      have hlen := r.length
      exact truthy_tuple pl (by simp only [List.size_toArray]; omega) ⟨H, I.tok _, by rw [isEmpty_of r]; exact q⟩
    · subst e'
      obtain ⟨hz, hS, vs, r, m⟩ : kvs.length ≤ sizeLine ∧ (p == sysModules) = false ∧ ∃ vs, KV kvs vs ∧ s.heap.DictOf (mixKind X.prog X.w) p vs := I.hok p _ hx
      have hlen : kvs.length = vs.length := Paired.length r
      exact wpAny_truthy_dict hS m (by omega) ⟨H, I.tok _, by rw [isEmpty_kv r]; exact q⟩
  | _ => exact (show False from e).elim
/-- any expression whose test is its value's truth (a name, a call, a subscript, a field ..: he by fun _ => rfl) -/
theorem pt_truth (ha : PE X a ta) (he : ∀ whole, isTrue a X.env whole = (do let v ← whole; standAt a.pos; holding [v] (truthy v))) :
    PT X a (fun σ H Q => ta σ H fun x H' => ∃ k, TruV X.K x H' k ∧ Q k H') := by
  intro pins s σ H Q I h
  exact isTrue_plain (thn (ha pins s σ H _ I h) fun v s1 ⟨x, H1, I1, r1, q1⟩ => tru_ok pins s1 σ H1 x v Q I1 r1 q1) (he _)

theorem op_add_str : OpR X (binaryOp .Add) (fun x y H Q => ∃ i j, x = .str i ∧ y = .str j ∧ i.length + j.length ≤ sizeLine ∧ Q (.str (i ++ j)) H) := by
  intro pins s σ H x y v u Q I rx ry h
  obtain ⟨i, j, rfl, rfl, hz, q⟩ := h
  obtain ⟨t, rfl⟩ := rx
  obtain ⟨t', rfl⟩ := ry
  exact add_str (fun t' tk => ⟨.str (i ++ j), H, I.tok _, ⟨_, rfl⟩, q⟩) hz
/-! ### scalar builtins, by CallR -/
theorem vals1 {x : V} {us : List Value} (r : Vals [x] us) : ∃ u, us = [u] ∧ RelV x u := by
  cases r with
  | cons r1 r2 => cases r2; exact ⟨_, rfl, r1⟩
theorem vals2 {x y : V} {us : List Value} (r : Vals [x, y] us) : ∃ u w', us = [u, w'] ∧ RelV x u ∧ RelV y w' := by
  cases r with
  | cons r1 r2 =>
    cases r2 with
    | cons r3 r4 => cases r4; exact ⟨_, _, rfl, r1, r3⟩
theorem call_int1 : CallR X (.type "int") (fun xs H Q => (∃ i, xs = [.int i] ∧ Q (.int i) H) ∨ ∃ k, xs = [.bl k] ∧ Q (.int (if k then 1 else 0)) H) := by
  intro pins s σ H xs us Q I r h
  rcases h with ⟨i, rfl, q⟩ | ⟨k, rfl, q⟩
  · obtain ⟨u, rfl, t, rfl⟩ := vals1 r
    exact call_int_int ⟨.int i, H, I, ⟨_, rfl⟩, q⟩
  · obtain ⟨u, rfl, r1⟩ := vals1 r
    cases r1
    exact call_int_bool ⟨.int (if k then 1 else 0), H, I.tok _, ⟨_, rfl⟩, q⟩
end
end L2

namespace L2
open PySem PySem.Spec PyProof.Rows

/-! ### an instance, its attributes a map -/
structure ObjM (h : Heap) (x dx C : Addr) (mA : Str → Option Value) : Prop where
  obj : h.get? x = some (PySem.W.instObj C dx)
  ns : h.Ns1 dx mA
  ne : dx ≠ x

theorem lookIn_ns {h : Heap} {dx : Addr} {mA : Str → Option Value} (n : h.Ns1 dx mA) : ∃ od, h.get? dx = some od ∧ ∀ name, PySem.W.lookIn name od = some (mA name) := by
  obtain ⟨o, es, ep, ho, hd, hk, _, hm⟩ := n
  refine ⟨o, ho, fun name => ?_⟩
  have e := hm name
  unfold nsFind findBy at e
  rw [← Array.find?_toList] at e
  unfold PySem.W.lookIn
  rw [hd]
  dsimp only
  split
  · rename_i y q
    rw [q] at e
    exact congrArg some e
  · rename_i q
    rw [q] at e
    have a : es.toList.any (·.refKey) = false := by
      rw [List.any_eq_false]
      intro y hy
      obtain ⟨z, t, hkey⟩ := hk y (Array.mem_toList_iff.mp hy)
      simp [DictEntry.refKey, hkey]
    have a' : ¬ es.toList.any (·.refKey) = true := by rw [a]; exact Bool.false_ne_true
    rw [if_neg a']
    exact congrArg some e

theorem ObjM.look {h : Heap} {x dx C : Addr} {mA : Str → Option Value} (I : ObjM h x dx C mA) : ∃ od, PySem.W.InstAt h x (PySem.W.instObj C dx) C (some od) ∧ ∀ name, PySem.W.lookIn name od = some (mA name) :=
  let ⟨od, ho, hl⟩ := lookIn_ns I.ns
  ⟨od, ⟨I.obj, rfl, rfl, ho⟩, hl⟩

section
variable {prog : Program} {w : World} {A : Around} {E : Value → Shared → Prop} {s : Shared} {K : PySem.W.Frag} {x dx C f : Addr} {mA : Str → Option Value} {name : Str} {v : Value}

end

section
variable {P : Program} {w : World} {H H' : Hp} {h h' : Heap} {a C dx : Addr} {fs fs' : List (Str × V)}
theorem ins_get (hok : HOk P w H h) (e : H a = some (.ins C dx fs)) : ∃ mA, ObjM h a dx C mA ∧ (∀ f, RelO (fs.lookup f) (mA f)) ∧ PySem.Within mA (fs.map (·.1)) ∧ fs.length ≤ 1000 ∧ H dx = some (.own a) := by
  obtain ⟨d, z, ne, ob, mA, n, r, q⟩ := (show ObjOk P w H h a (.ins C dx fs) from hok a _ e)
  exact ⟨mA, ⟨ob, n, ne⟩, r, q, z, d⟩
end

/-! ### what of the text a class must have -/
structure Cls (K : PySem.W.Frag) (C : Addr) : Prop where
  pg : PySem.W.plainGet K C Str.empty = true
  hd : PySem.W.hasDictIn K C = true
  po : PySem.W.plainOver K C = true
  sa : PySem.W.findIn K (.ref C) "__setattr__" = some (some (.builtin "object.__setattr__"))
theorem Cls.get {K : PySem.W.Frag} {C : Addr} (c : Cls K C) (f : Str) : PySem.W.plainGet K C f = true := c.pg
section
variable {X : Cx} {pins : List (Addr × Obj)} {σ : St} {H : Hp} {s : Shared} {a C dx : Addr} {fs : List (Str × V)} {f : Str} {v : V} {A : Around} {E : Value → Shared → Prop}

end

section
variable {X : Cx} {o e value : Expr} {f : Str} {pos pos' tpos : Pos} {ta tv : TE}
end

/-! ### isinstance -/
section
variable {X : Cx} {pins : List (Addr × Obj)} {σ : St} {H : Hp} {s : Shared} {A : Around} {E : Value → Shared → Prop} {Q : Value → Shared → Prop} {c : Value} {b : Bool}
/-- the type of a value, as the fragment's deciders take it; for an instance its class -/
inductive TyOf (K : PySem.W.Frag) (H : Hp) : V → Value → Prop where
  | non : TyOf K H .non (.type "NoneType")
  | bl (x : Bool) : TyOf K H (.bl x) (.type "bool")
  | int (i : Int) : TyOf K H (.int i) (.type "int")
  | str (x : Str) : TyOf K H (.str x) (.type "str")
  | flt (x : UInt64) : TyOf K H (.flt x) (.type "float")
  | lst {a : Addr} {xs : List V} (e : H a = some (.lst xs)) : TyOf K H (.ref a) (.type "list")
  | frz {a : Addr} {o : Obj} {xs : List V} (e : H a = some (.frz o (.lst xs))) : TyOf K H (.ref a) (.type "list")
  | tup {a : Addr} {xs : List V} (e : H a = some (.tup xs)) : TyOf K H (.ref a) (.type "tuple")
  | dK {a : Addr} {kvs : List (Key × V)} (e : H a = some (.dK kvs)) : TyOf K H (.ref a) (.type "dict")
  | dT {a : Addr} {kvs : List (List Key × V)} (e : H a = some (.dT kvs)) : TyOf K H (.ref a) (.type "dict")
  | ins {a C dx : Addr} {fs : List (Str × V)} (e : H a = some (.ins C dx fs)) (cl : Cls K C) (ha : PySem.W.findIn K (.ref C) "__class__" = some (some (.builtin "object.__class__")))
      (hn : PySem.W.specialIn K (.builtin "object.__class__") "__get__" = some (some (.builtin "getset_descriptor.__get__"))) (htk : PySem.W.takesIn K (.builtin "object.__class__") = some true)
      (hm : PySem.W.mroIn K C (.type "object") = some true) : TyOf K H (.ref a) (.ref C)
/-- isinstance(x, c) for one class c, a built-in or an own one: kitOne's answer -/
theorem isinst_ok {x : V} {u t : Value} (I : Inv X pins σ H s) (rx : RelV x u) (ty : TyOf X.K H x t) (e : PySem.W.kitOne X.K t c = some b) (h : ∀ tk, Q (.bool b) { s with toks := tk }) :
    wpAny (model X.prog X.w) A (call (.builtin "isinstance") [u, c]) Q E s := by
  cases ty with
  | non => cases (show u = Value.none from rx); exact PySem.W.kia_one PySem.W.kitx_none I.kIn True.intro e (fun z => nomatch z) h
  | bl y => cases (show u = Value.bool y from rx); exact PySem.W.kia_one PySem.W.kitx_bool I.kIn True.intro e (fun z => nomatch z) h
  | int i => obtain ⟨t, q⟩ := (show ∃ t, u = Value.int i t from rx); cases q; exact PySem.W.kia_one PySem.W.kitx_int I.kIn True.intro e (fun z => nomatch z) h
  | str y => obtain ⟨t, q⟩ := (show ∃ t, u = Value.str y t from rx); cases q; exact PySem.W.kia_one PySem.W.kitx_str I.kIn True.intro e (fun z => nomatch z) h
  | flt y => obtain ⟨t, q⟩ := (show ∃ t, u = Value.float y t from rx); cases q; exact PySem.W.kia_one PySem.W.kitx_float I.kIn True.intro e (fun z => nomatch z) h
  | @lst a xs ea =>
    cases (show u = Value.ref a from rx)
    obtain ⟨_, _, n, _, h1⟩ := (show ObjOk X.prog X.w H s.heap a (.lst xs) from I.hok a _ ea)
    exact PySem.W.kia_one PySem.W.kitx_list I.kIn ⟨_, h1, rfl⟩ e (fun z => nomatch z) h
  | @frz a ob xs ea =>
    cases (show u = Value.ref a from rx)
    obtain ⟨_, _, _, n, _, h1⟩ := (show ObjOk X.prog X.w H s.heap a (.frz ob (.lst xs)) from I.hok a _ ea)
    exact PySem.W.kia_one PySem.W.kitx_list I.kIn ⟨_, h1, rfl⟩ e (fun z => nomatch z) h
  | @tup a xs ea =>
    cases (show u = Value.ref a from rx)
    obtain ⟨_, _, _, p⟩ := (show ObjOk X.prog X.w H s.heap a (.tup xs) from I.hok a _ ea)
    obtain ⟨o, h1, h2, _⟩ := p
    exact PySem.W.kia_one PySem.W.kitx_tuple I.kIn ⟨o, h1, h2⟩ e (fun z => nomatch z) h
  | @dK a kvs ea =>
    cases (show u = Value.ref a from rx)
    obtain ⟨_, _, vs, _, p⟩ := (show ObjOk X.prog X.w H s.heap a (.dK kvs) from I.hok a _ ea)
    obtain ⟨o, es, ep, h1, h2, _⟩ := p
    exact PySem.W.kia_one PySem.W.kitx_dict I.kIn ⟨o, h1, h2.1⟩ e (fun z => nomatch z) h
  | @dT a kvs ea =>
    cases (show u = Value.ref a from rx)
    obtain ⟨_, _, xs, _, o, es, ep, h1, h2, _⟩ := (show ObjOk X.prog X.w H s.heap a (.dT kvs) from I.hok a _ ea)
    exact PySem.W.kia_one PySem.W.kitx_dict I.kIn ⟨o, h1, h2.1⟩ e (fun z => nomatch z) h
  | @ins a C dx fs ea cl ha hn htk hm =>
    cases (show u = Value.ref a from rx)
    obtain ⟨mA, O, _⟩ := ins_get I.hok ea
    obtain ⟨od, J, _⟩ := O.look
    exact PySem.W.kia_one (PySem.W.kitx_own (cl.get _) cl.hd ha hn htk hm) I.kIn J e (fun z => nomatch z) h
end
end L2

namespace L2
open PySem PySem.Spec PyProof.Rows

/-! ### room -/
structure Room (k : Nat) (A : Around) : Prop where
  hd : A.handled = none
  dp : A.depth + 3 * k + 5 < recursionLimit
  un : A.units + 16 * k + 200 < cLine
theorem Room.mono {j k : Nat} {A : Around} (r : Room k A) (h : j ≤ k) : Room j A := ⟨r.hd, by have := r.dp; omega, by have := r.un; omega⟩
theorem Room.deeper {k : Nat} {A : Around} (r : Room (k + 1) A) (env : Env) : Room k (A.deeper env) :=
  ⟨r.hd, by have := r.dp; show A.depth + 1 + 3 * k + 5 < _; omega, by have := r.un; show A.units + 3 + 16 * k + 200 < _; omega⟩
theorem Room.depth {k : Nat} {A : Around} (r : Room k A) : A.depth < recursionLimit := by have := r.dp; omega
theorem Room.units {k : Nat} {A : Around} (r : Room k A) : A.units + 64 < cLine := by have := r.un; omega
/-! ### argument lists and displays -/
def tNil : TA := fun _ H Q => Q [] H
def tCons (ta : TE) (tr : TA) : TA := fun σ H Q => ta σ H fun x H1 => tr σ H1 fun xs H2 => Q (x :: xs) H2
section
variable {X : Cx} {e : Expr} {es : List Expr} {te : TE} {t : TA} {pos : Pos}
theorem pa_nil : PA X [] tNil := fun _ _ _ _ H Q I h => Calls.spliced_nil ⟨[], H, I, .nil, h⟩
theorem pa_cons (ha : PE X e te) (hr : PA X es t) (hs : starEach (e :: es) X.env = (false, eval e X.env) :: starEach es X.env := by rfl) : PA X (e :: es) (tCons te t) := by
  intro pos pins s σ H Q I h
  rw [hs]
  show wpAny _ _ (spliced ((false, eval e X.env) :: backTo pos (starEach es X.env))) _ _ s
  refine Calls.spliced_cons (thn (ha pins s σ H _ I h) fun u s1 ⟨x, H1, I1, r1, q1⟩ => ?_)
  exact thn (hr pos pins s1 σ H1 _ I1 q1) fun us s2 ⟨xs, H2, I2, r2, q2⟩ => ⟨x :: xs, H2, I2, .cons r1 r2, q2⟩

/-- a tuple, a list of written items -/
def tTup (t : TA) : TE := fun σ H Q => t σ H fun xs H1 => xs.length ≤ sizeLine ∧ ∀ p, H1 p = none → Q (.ref p) (upd H1 p (.tup xs))
def tLst (t : TA) : TE := fun σ H Q => t σ H fun xs H1 => xs.length ≤ sizeLine ∧ ∀ p, H1 p = none → Q (.ref p) (upd H1 p (.lst xs))
theorem pe_tup {x1} (h : PA X es t) : PE X (.Tuple es x1 pos) (tTup t) := by
  intro pins s σ H Q I hq
  refine wpAny_Tuple_spliced (thn (h pos pins s σ H _ I hq) fun us s1 ⟨xs, H1, I1, r, z, q⟩ => ⟨by rw [← r.length]; exact z, ?_⟩)
  have hf : H1 s1.heap.objs.size = none := I1.hok.fresh (Nat.le_refl _)
  refine ⟨.ref s1.heap.objs.size, upd H1 s1.heap.objs.size (.tup xs), I1.laid (t' := s1.toks) (fun b u e => Heap.get?_push_of_some _ e) (Nat.le_refl _) ?_, rfl, q _ hf⟩
  exact ⟨z, us, r, ⟨_, Heap.get?_push_size _ rfl, rfl, _, rfl⟩⟩
theorem pe_lst (h : PA X es t) : PE X (.List es pos) (tLst t) := by
  intro pins s σ H Q I hq
  refine wpAny_List_spliced (thn (h pos pins s σ H _ I hq) fun us s1 ⟨xs, H1, I1, r, z, q⟩ => ⟨by rw [← r.length]; exact z, ?_⟩)
  have hf : H1 s1.heap.objs.size = none := I1.hok.fresh (Nat.le_refl _)
  refine ⟨.ref s1.heap.objs.size, upd H1 s1.heap.objs.size (.lst xs), I1.laid (t' := s1.toks) (fun b u e => Heap.get?_push_of_some _ e) (Nat.le_refl _) ?_, rfl, q _ hf⟩
  exact ⟨z, us, 0, r, Heap.get?_push_size _ rfl⟩
end

/-! ### what a def promises -/
/-- a def's promise: the bound arguments in the parameters' order, the heap, the wanted end, the wanted exception -/
abbrev Sp := List V → Hp → VK → XK → Prop
/-- how an exception lies behind a call (file 08 gives it): the callers' frames, abstract heap and state ahead of the call, the wish, the exception, the state -/
abbrev CXT := List Env → Hp → Shared → XK → Value → Shared → Prop

/-- the state at a call -/
structure Env0 (P : Program) (w : World) (K : PySem.W.Frag) (mg : Str → Option Value) (base : Heap) (A : Around) (outer : List Env) (s : Shared) (H : Hp) : Prop where
  frames : A.frames = some outer
  mod : Mod K mg base
  bs : ∀ b o, base.get? b = some o → s.heap.get? b = some o ∧ H b = none
  bsz : base.objs.size ≤ s.heap.objs.size
  funs : s.heap.FunFrames base outer
  frf : ∀ b ∈ frs outer, H b = none
  hok : HOk P w H s.heap
  bare : AllBare s.gens
/-- a call's end -/
def CE (outer : List Env) (P : Program) (w : World) (H : Hp) (s : Shared) (Q : VK) (u : Value) (s' : Shared) : Prop :=
  ∃ v H', s'.os = s.os ∧ AllBare s'.gens ∧ Un (frs outer) [] H H' s.heap s'.heap ∧ HOk P w H' s'.heap ∧ RelV v u ∧ Q v H'
def CR (CX : CXT) (outer : List Env) (P : Program) (w : World) (H : Hp) (s : Shared) (Q : VK) (E : XK) (r : Result) (s' : Shared) : Prop :=
  match r with
  | .ok (.ret u) => CE outer P w H s Q u s'
  | .ok _ => False
  | .error e => CX outer H s E e s'
structure FnOk (P : Program) (w : World) (K : PySem.W.Frag) (mg : Str → Option Value) (base : Heap) (CX : CXT) (k : Nat) (f : Addr) (fd : FuncData) (ps : List Str) (sp : Sp) : Prop where
  len : ∀ vs H Q E, sp vs H Q E → vs.length = ps.length
  run : ∀ (A : Around) (outer : List Env) (s : Shared) (H : Hp) (args : Args) (us : List Value) (vs : List V) (Q : VK) (E : XK), Room k A → Env0 P w K mg base A outer s H → BindsTo s fd args (ps.zip us) → Vals vs us → sp vs H Q E →
    codeAny (model P w) A (.call (.ref f) args) (CR CX outer P w H s Q E) s
section
variable {X : Cx} {pins : List (Addr × Obj)} {σ : St} {H : Hp} {s s' : Shared}
/-- from a body: what a callee wants -/
theorem Inv.env0 (I : Inv X pins σ H s) : Env0 X.prog X.w X.K X.mg X.base X.A X.stack s H :=
  ⟨I.ok.frames, I.ok.mod, I.bs, Nat.le_trans I.ok.bsz I.sz, I.stack, I.stkFree, I.hok, I.bare⟩
/-- behind a call -/
theorem Inv.after {Q : VK} {u : Value} (I : Inv X pins σ H s) (h : CE X.stack X.prog X.w H s Q u s') : EP X pins σ Q u s' := by
  obtain ⟨v, H', os, bare, un, hok, r, q⟩ := h
  obtain ⟨hh, g, d, t, os'⟩ := s'
  obtain rfl : os' = s.os := os
  exact ⟨v, H', I.call (h' := hh) (g' := g) (d' := d) (t' := t) (ch := []) un hok bare (fun b z => absurd z (by simp)), r, q⟩
end

/-! ### calls -/
/-- f(..): the written arguments, then the defaults dvs; E: what is wanted of an exception -/
def tCall (sp : Sp) (dvs : List V) (E : XK) (t : TA) : TE := fun σ H Q => t σ H fun vs H1 => sp (vs ++ dvs) H1 Q E
/-- how the parameters are bound: us the positional arguments, kw the keywords' values by name, ds the defaults that fill up -/
def Binds (K : PySem.W.Frag) (fd : FuncData) (ps : List Str) (ds : List Value) : Prop :=
  ∀ (s : Shared) (us : List Value), K.In s.heap → (us ++ ds).length = ps.length → BindsTo s fd ⟨us, []⟩ (ps.zip (us ++ ds))
/-- every parameter is given -/
theorem Binds.all {K : PySem.W.Frag} {fd : FuncData} {ps : List Str} (h : ∀ us : List Value, us.length = ps.length → bindArgs fd ⟨us, []⟩ = pure (ps.zip us)) : Binds K fd ps [] := fun s us _ hl => by
  rw [List.append_nil] at hl ⊢
  exact .of_eq (h us hl)

/-- an exception of a callee reaches what this body wants of exceptions -/
def Passes (CX : CXT) (X : Cx) (E : XK) : Prop := ∀ (pins : List (Addr × Obj)) (σ : St) (H : Hp) (s : Shared) (e : Value) (s' : Shared), Inv X pins σ H s → CX X.stack H s E e s' → X.xe e s'

section
variable {X : Cx} {CX : CXT} {k : Nat} {f C : Addr} {fd : FuncData} {ps : List Str} {sp : Sp} {dvs : List V} {ds : List Value} {E : XK} {x m : Str} {p pos apos : Pos} {e o : Expr} {es : List Expr} {ta : TE} {t : TA}

/-- the callee runs -/
theorem run_fn {pins : List (Addr × Obj)} {σ : St} {H : Hp} {s : Shared} {Q : VK} {us : List Value} {vs : List V} (F : FnOk X.prog X.w X.K X.mg X.base CX k f fd ps sp) (hr : Room k X.A) (hb : Binds X.K fd ps ds) (hd : Vals dvs ds) (hx : Passes CX X E)
    (I : Inv X pins σ H s) (r : Vals vs us) (h : sp (vs ++ dvs) H Q E) : wpAny (model X.prog X.w) X.A (call (.ref f) us) (EP X pins σ Q) X.xe s := by
  have r2 : Vals (vs ++ dvs) (us ++ ds) := r.append hd
  have hl : (us ++ ds).length = ps.length := by rw [← r2.length]; exact F.len _ _ _ _ h
  refine wpAny_call (codeAny_mono (F.run X.A X.stack s H ⟨us, []⟩ (us ++ ds) (vs ++ dvs) Q E hr I.env0 (hb s us I.kIn hl) r2 h) fun r s' hq => ?_)
  cases r with
  | error e => exact hx pins σ H s e s' I hq
  | ok fl =>
    cases fl with
    | ret u => exact I.after hq
    | next => exact False.elim hq
    | brk => exact False.elim hq
    | cont => exact False.elim hq

theorem pe_call (F : FnOk X.prog X.w X.K X.mg X.base CX k f fd ps sp) (hr : Room k X.A) (hg : Gl X x) (hm : X.mg x = some (.ref f)) (hk : PySem.W.keepIn X.K (.ref f) = true) (hb : Binds X.K fd ps ds) (hd : Vals dvs ds) (hx : Passes CX X E)
    (ha : PA X (e :: es) t) (hdb : (x == ("__debug__" : Str)) = false := by decide) (he : starEach (e :: es) X.env = (false, eval e X.env) :: starEach es X.env := by rfl) (hpl : (backTo pos (starEach es X.env)).any (·.1) = false := by rfl) :
    PE X (.Call (.Name x p) (e :: es) [] pos) (tCall sp dvs E t) := by
  intro pins s σ H Q I h
  refine wpAny_Call_Name_kw (ld_glob I hg hm ?_ hdb)
  refine PySem.W.callWith_K (h₀ := X.base) I.ok.mod.kin hk (thn (ha pos pins s σ H _ I h) fun us s1 ⟨vs, H1, I1, r, q⟩ => ⟨I1.kIn, ?_⟩) he hpl
  exact run_fn F hr hb hd hx I1 r q
end

section
variable {X : Cx} {CX : CXT} {k : Nat} {f C : Addr} {fd : FuncData} {ps ks : List Str} {sp : Sp} {E : XK} {x m : Str} {p pos apos kpos : Pos} {e o : Expr} {es : List Expr} {kws : List Keyword} {te ta : TE} {t tk : TA} {nm : Option Str}
variable {g : List Value → List Value → List Value} {gV : List V → List V → List V}
end

/-! ### a def's body keeps its promise -/
/-- names: the parameters first -/
structure FnScope (N P : List Str) (sc : Scope) : Prop where
  kind : sc.kind = .function
  co : sc.isCoroutine = false
  gen : sc.isGenerator = false
  nd : N.Nodup
  pre : N.take P.length = P
  par : ∀ x ∈ P, sc.names.lookup x = some .local ∨ sc.names.lookup x = some .cell
  nofree : ∀ y ∈ sc.names, y.2 ≠ .free

theorem bindL_out {kindOf : Str → Option NameKind} {x : Str} : ∀ {binds : List (Str × Value)} {m : Str → Option Value}, (∀ v, (x, v) ∉ binds) → bindL kindOf binds m x = m x
  | [], _, _ => rfl
  | (n, v) :: r, m, h => by
    unfold bindL
    rw [bindL_out fun w hw => h w (List.mem_cons_of_mem _ hw)]
    split
    · have : x ≠ n := by rintro rfl; exact h v List.mem_cons_self
      simp [this]
    · rfl
theorem bindC_out {kindOf : Str → Option NameKind} {x : Str} : ∀ {binds : List (Str × Value)} {m : Str → Option Value}, (∀ v, (x, v) ∉ binds) → bindC kindOf binds m x = m x
  | [], _, _ => rfl
  | (n, v) :: r, m, h => by
    unfold bindC
    rw [bindC_out fun w hw => h w (List.mem_cons_of_mem _ hw)]
    split
    · rfl
    · have : x ≠ n := by rintro rfl; exact h v List.mem_cons_self
      simp [this]
theorem bindL_get {kindOf : Str → Option NameKind} {x : Str} {v : Value} : ∀ {P : List Str} {vs : List Value} {i : Nat} {m : Str → Option Value}, P.Nodup → P[i]? = some x → vs[i]? = some v → kindOf x = some .local →
    bindL kindOf (P.zip vs) m x = some v
  | [], _, _, _, _, h, _, _ => by simp at h
  | _ :: _, [], _, _, _, _, h, _ => by simp at h
  | p :: P, w :: vs, 0, m, nd, h1, h2, hk => by
    simp at h1 h2; subst h1; subst h2
    show bindL kindOf ((p, w) :: P.zip vs) m p = _
    unfold bindL
    rw [bindL_out fun v hv => (List.nodup_cons.mp nd).1 (List.of_mem_zip hv).1, if_pos hk]
    simp
  | p :: P, w :: vs, i + 1, m, nd, h1, h2, hk => by
    show bindL kindOf ((p, w) :: P.zip vs) m x = _
    unfold bindL
    exact bindL_get (i := i) (List.nodup_cons.mp nd).2 (by simpa using h1) (by simpa using h2) hk
theorem bindC_get {kindOf : Str → Option NameKind} {x : Str} {v : Value} : ∀ {P : List Str} {vs : List Value} {i : Nat} {m : Str → Option Value}, P.Nodup → P[i]? = some x → vs[i]? = some v → kindOf x ≠ some .local →
    bindC kindOf (P.zip vs) m x = some v
  | [], _, _, _, _, h, _, _ => by simp at h
  | _ :: _, [], _, _, _, _, h, _ => by simp at h
  | p :: P, w :: vs, 0, m, nd, h1, h2, hk => by
    simp at h1 h2; subst h1; subst h2
    show bindC kindOf ((p, w) :: P.zip vs) m p = _
    unfold bindC
    rw [bindC_out fun v hv => (List.nodup_cons.mp nd).1 (List.of_mem_zip hv).1, if_neg hk]
    simp
  | p :: P, w :: vs, i + 1, m, nd, h1, h2, hk => by
    show bindC kindOf ((p, w) :: P.zip vs) m x = _
    unfold bindC
    exact bindC_get (i := i) (List.nodup_cons.mp nd).2 (by simpa using h1) (by simpa using h2) hk

/-- the names' values at the entry -/
def start (N : List Str) (vs : List V) : St := vs.map some ++ List.replicate (N.length - vs.length) none

/-- the context of a def's body, at its entry; an exception leaves the frame, then lies as CX says -/
def cxOf (CX : CXT) (P : Program) (w : World) (K : PySem.W.Frag) (mg : Str → Option Value) (base : Heap) (N : List Str) (qual : Str) (scope : Scope) (f : Addr) (cd : Value) (A : Around) (outer : List Env) (s : Shared) (H : Hp) (E : XK) : Cx where
  prog := P
  w := w
  K := K
  mg := mg
  base := base
  A := A.deeper (envOfC qual scope s.heap.objs.size f cd)
  N := N
  s₀ := s
  H₀ := H
  env := envOfC qual scope s.heap.objs.size f cd
  outer := outer
  stack := envOfC qual scope s.heap.objs.size f cd :: outer
  ex := []
  calm := true
  fn := fun _ => true
  pn := []
  xe := fun e s' => wpAny (model P w) (A.deeper (envOfC qual scope s.heap.objs.size f cd)) (leaving (envOfC qual scope s.heap.objs.size f cd) e) (fun _ s'' => CX outer H s E e s'') (fun e' s'' => CX outer H s E e' s'') s'

theorem cell_has {sc : Scope} {n : Nat} {x : Str} (h : sc.names.lookup x = some .cell) : ∃ c, (cellsFrom n sc.names []).lookup x = some c := by
  have q := PySem.W.cellsFrom_some sc.names n [] (.inl h)
  exact Option.isSome_iff_exists.mp q

theorem inv_start {CX : CXT} {P : Program} {w : World} {K : PySem.W.Frag} {mg : Str → Option Value} {base : Heap} {N ps : List Str} {qual : Str} {scope : Scope} {f : Addr} {cd : Value} {A : Around} {outer : List Env} {s s1 : Shared} {H : Hp} {E : XK} {us : List Value} {vs : List V}
    (S : FnScope N ps scope) (hd : A.handled = none) (e0 : Env0 P w K mg base A outer s H) (hl : vs.length = ps.length) (r : Vals vs us)
    (x : InCallC s s.heap.objs.size (bindL (envOfC qual scope s.heap.objs.size f cd).kindOf (ps.zip us) fun _ => none) (cellsFrom (s.heap.objs.size + 1) scope.names []) (bindC (envOfC qual scope s.heap.objs.size f cd).kindOf (ps.zip us) fun _ => none) s1) :
    Inv (cxOf CX P w K mg base N qual scope f cd A outer s H E) [] (start N vs) H s1 := by
  have hpl : ps.length ≤ N.length := by have := congrArg List.length S.pre; rw [List.length_take] at this; omega
  obtain ⟨h1, tk, rfl, hk⟩ := x.done
  have noA : ∀ b : Addr, b ∉ (cxOf CX P w K mg base N qual scope f cd A outer s H E).ex := fun b z => absurd (show b ∈ ([] : List Addr) from z) (by simp)
  refine ⟨⟨e0.mod, S.kind, rfl, rfl, Nat.le_refl _, fun y z c h1 h2 => ?_, fun y hy => ?_, fun y c _ h => ?_, fun _ => hd, Around.frames_deeper e0.frames, .inr ⟨rfl, rfl⟩, fun b z => absurd z (noA b), e0.bs, e0.bsz, fun b _ _ => noA b, fun b z => absurd z (noA b), e0.funs, e0.frf⟩,
    rfl, e0.bare, Un.kept hk, ⟨_, x.toInCall.ns, fun i y v h1 h2 h3 => ?_⟩, fun y c h => ⟨_, x.cell y c h⟩, e0.hok.fresh (Nat.le_refl _), fun y c h => ?_, fun p hp => absurd (show p ∈ ([] : List (Addr × Obj)) from hp) (by simp), e0.hok.kept hk, ?_⟩
  · exact name_of_addr x.apart (PySem.mem_of_lookup h1) (PySem.mem_of_lookup h2)
  · have hy : scope.names.lookup y = some .cell ∨ scope.names.lookup y = some .free := hy
    rcases hy with hy | hy
    · exact cell_has hy
    · exact absurd rfl (S.nofree _ (PySem.mem_of_lookup hy))
  · exact Nat.le_of_lt (x.above y c (PySem.mem_of_lookup h))
  · have hi : i < vs.length := by
      unfold start at h2
      by_cases hi : i < vs.length
      · exact hi
      · rw [List.getElem?_append_right (by simpa using hi)] at h2
        rw [List.getElem?_replicate] at h2
        split at h2 <;> cases h2
    have ha : vs[i]? = some v := by
      unfold start at h2
      rw [List.getElem?_append_left (by simpa using hi), List.getElem?_map] at h2
      cases e : vs[i]? with
      | none => rw [e] at h2; cases h2
      | some a => rw [e] at h2; cases h2; rfl
    obtain ⟨u, hu, rv⟩ := r.get ha
    have hp : ps[i]? = some y := by
      rw [← S.pre, List.getElem?_take_of_lt (by omega)]; exact h1
    have ndP : ps.Nodup := by rw [← S.pre]; exact S.nd.sublist (List.take_sublist _ _)
    refine ⟨u, rv, ?_⟩
    rcases S.par y (List.mem_of_getElem? hp) with k | k
    · exact .inl ⟨k, bindL_get ndP hp hu k⟩
    · obtain ⟨c, e⟩ := cell_has (n := s.heap.objs.size + 1) k
      refine .inr ⟨.inl k, c, e, ?_⟩
      have q := x.cell y c e
      rw [bindC_get ndP hp hu (by show scope.names.lookup y ≠ _; rw [k]; decide)] at q
      exact q
  · exact e0.hok.fresh (Nat.le_of_lt (x.above y c (PySem.mem_of_lookup h)))
  · unfold start
    show _ = N.length
    rw [List.length_append, List.length_map, List.length_replicate]
    omega

/-- THE RULE: a def (or a method) of the text, by its body. The body's reading t is chosen for each entry; it is run at the parameters' values -/
theorem fn_of {CX : CXT} {P : Program} {w : World} {K : PySem.W.Frag} {mg : Str → Option Value} {base : Heap} {k : Nat} {f : Addr} {name qual : Str} {params : Arguments} {body : List Stmt} {scope : Scope} {dV kV doc pm cdv ct oc : Value} {an od : Option Addr}
    {osl : Array (Option Value)} {N ps : List Str} {sp : Sp} (lk : K.lookup f = some ⟨oc, od, .func (PySem.W.fnOf name qual params body scope dV kV doc pm an cdv ct), osl⟩) (hcd : PySem.W.codeIn K cdv qual = true) (S : FnScope N ps scope)
    (len : ∀ vs H Q E, sp vs H Q E → vs.length = ps.length)
    (hbody : ∀ (A : Around) (outer : List Env) (s : Shared) (H : Hp) (vs : List V) (Q : VK) (E : XK), Room k (A.deeper (envOfC qual scope s.heap.objs.size f cdv)) → sp vs H Q E →
      ∃ t, PSs (cxOf CX P w K mg base N qual scope f cdv A outer s H E) body t ∧ t { nx := fun _ H' => Q .non H', rt := Q } (start N vs) H) :
    FnOk P w K mg base CX (k + 1) f (PySem.W.fnOf name qual params body scope dV kV doc pm an cdv ct) ps sp := by
  refine ⟨len, fun A outer s H args us vs Q E hr e0 hb r hsp => ?_⟩
  have hl := len _ _ _ _ hsp
  have KX : K.In s.heap := e0.mod.kin.keeps fun b o e => (e0.bs b o e).1
  have lim : s.heap.NoLimit := e0.mod.nolimit.keeps fun b o e => (e0.bs b o e).1
  have hkind : ∀ y ∈ ps.zip us, scope.names.lookup y.1 = some .local ∨ (scope.names.lookup y.1 = some .cell ∧ ((cellsFrom (s.heap.objs.size + 1) scope.names []).lookup y.1).isSome = true) := fun ⟨n, v⟩ hy => by
    rcases S.par n (List.of_mem_zip hy).1 with q | q
    · exact .inl q
    · exact .inr ⟨q, PySem.W.cellsFrom_some _ _ _ (.inl q)⟩
  refine codeAny_call_function hr.depth (KX _ _ lk) rfl S.co S.gen rfl (PySem.W.codeRec_of KX hcd) (hb _ _ _ _ ?_)
  refine wpAny_newFunctionEnv_cells S.kind hkind fun env he s1 x => ?_
  subst he
  refine ⟨lim.keeps x.toInCall.keep, codeAny_func ?_⟩
  obtain ⟨t, ht, hq⟩ := hbody A outer s H vs Q E (hr.deeper _) hsp
  have I : Inv (cxOf CX P w K mg base N qual scope f cdv A outer s H E) [] (start N vs) H s1 := inv_start S hr.hd e0 hl r x
  refine wpAny_mono (ht [] s1 (start N vs) H _ I hq) (fun fl s' hs => ?_) fun e s' hs => hs
  have fin : ∀ {σ' : St} {H' : Hp} {v : V} {u : Value}, Inv (cxOf CX P w K mg base N qual scope f cdv A outer s H E) [] σ' H' s' → RelV v u → Q v H' → CE outer P w H s Q u s' :=
    fun {σ' H' v u} J rv q => ⟨v, H', J.os, J.bare, J.base, J.hok, rv, q⟩
  cases fl with
  | ret u =>
    obtain ⟨v, σ', H', J, rv, q⟩ := hs
    exact fin J rv q
  | next =>
    obtain ⟨σ', H', J, q⟩ := hs
    exact fin (v := V.non) (u := Value.none) J rfl q
  | brk =>
    obtain ⟨_, _, _, q⟩ := hs
    exact False.elim q
  | cont =>
    obtain ⟨_, _, _, q⟩ := hs
    exact False.elim q
end L2

namespace L2
open PySem PySem.Spec PyProof.Rows
section
variable {X : Cx} {x : Str} {p pos : Pos} {e : Expr} {es : List Expr} {t : TA} {id T : String} {r : List V → Hp → VK → Prop}

def tCB (r : List V → Hp → VK → Prop) (t : TA) : TE := fun σ H Q => t σ H fun vs H1 => r vs H1 Q
/-- f(e, ..), f a built-in function -/
theorem pe_callB (hc : CallR X (.builtin id) r) (hg : Gl X x) (hm : X.mg x = none) (hv : bootBuiltins x = some (.builtin id)) (ha : PA X (e :: es) t) (hn : x ≠ "__name__" := by decide) (hdb : (x == ("__debug__" : Str)) = false := by decide)
    (he : starEach (e :: es) X.env = (false, eval e X.env) :: starEach es X.env := by rfl) (hpl : (backTo pos (starEach es X.env)).any (·.1) = false := by rfl) : PE X (.Call (.Name x p) (e :: es) [] pos) (tCB r t) := by
  intro pins s σ H Q I h
  refine wpAny_Call_Name_kw (ld_blt I hg hm hv ?_ hn hdb)
  exact PyProof.Rows.callWith_builtin1 (thn (ha pos pins s σ H _ I h) fun us s1 ⟨vs, H1, I1, r1, q1⟩ => hc pins s1 σ H1 vs us Q I1 r1 q1) he hpl
/-- T(e, ..), T a built-in type -/
theorem pe_callTy (hc : CallR X (.type T) r) (hg : Gl X x) (hm : X.mg x = none) (hv : bootBuiltins x = some (.type T)) (ha : PA X (e :: es) t) (hn : x ≠ "__name__" := by decide) (hdb : (x == ("__debug__" : Str)) = false := by decide)
    (he : starEach (e :: es) X.env = (false, eval e X.env) :: starEach es X.env := by rfl) (hpl : (backTo pos (starEach es X.env)).any (·.1) = false := by rfl) : PE X (.Call (.Name x p) (e :: es) [] pos) (tCB r t) := by
  intro pins s σ H Q I h
  refine wpAny_Call_Name_kw (ld_blt I hg hm hv ?_ hn hdb)
  exact PyProof.Rows.callWith_type1 (thn (ha pos pins s σ H _ I h) fun us s1 ⟨vs, H1, I1, r1, q1⟩ => hc pins s1 σ H1 vs us Q I1 r1 q1) he hpl
end
end L2

namespace HT
open PySem PyProof.Rows

section
open PySem.SeqAt
open PySem.AutoSeq1 (wpAny_loadPart')
open PySem.MeetsSeq PySem.MeetsSeq2 PySem.MeetsSeq3

end

section
variable {prog : Program} {w : World} {A : Around} {E : Value → Shared → Prop} {s : Shared}

/-! ### t[a:b], not the whole -/
/-- a slice's bound as a place among n (d where it is left out) -/
def sIx (n d : Nat) : Option Int → Nat
  | none => d
  | some v => if v < 0 then (v + (n : Int)).toNat else min v.toNat n
theorem sIx_none (n d : Nat) : sIx n d none = d := rfl
theorem sIx_nat (n d k : Nat) : sIx n d (some (k : Int)) = min k n := by
  show (if (k : Int) < 0 then ((k : Int) + (n : Int)).toNat else min (k : Int).toNat n) = min k n
  rw [if_neg (by omega), Int.toNat_natCast]
theorem sIx_le (n d : Nat) (hd : d ≤ n) (o : Option Int) : sIx n d o ≤ n := by
  cases o with
  | none => exact hd
  | some v =>
    show (if v < 0 then (v + (n : Int)).toNat else min v.toNat n) ≤ n
    by_cases hv : v < 0
    · rw [if_pos hv]; omega
    · rw [if_neg hv]; exact Nat.min_le_right _ _
end
end HT

namespace L2
open PySem PySem.Spec PyProof.Rows

/-! ### the parts of a slice -/
abbrev TO := St → Hp → (Option Int → Hp → Prop) → Prop
/-- a slice's part (left out, or an int) -/
def PO (X : Cx) (e : Option Expr) (t : TO) : Prop :=
  ∀ (pins : List (Addr × Obj)) (s : Shared) (σ : St) (H : Hp) (Q : Option Int → Hp → Prop), Inv X pins σ H s → t σ H Q →
    wpAny (model X.prog X.w) X.A (evalPart e X.env) (fun u s' => ∃ o H', Inv X pins σ H' s' ∧ IsPart u o ∧ Q o H') X.xe s
def tNoPart : TO := fun _ H Q => Q none H
def tPart (t : TE) : TO := fun σ H Q => t σ H fun x H1 => ∃ i, x = .int i ∧ Q (some i) H1

section
variable {X : Cx} {e : Expr} {te : TE} {lo hi : Option Expr} {tl th : TO} {pos p2 : Pos}

theorem po_none : PO X none tNoPart := by
  intro pins s σ H Q I h
  rw [evalPart_none]
  exact wpAny_pure ⟨none, H, I, .none, h⟩
theorem po_some (h : PE X e te) : PO X (some e) (tPart te) := by
  intro pins s σ H Q I hw
  rw [evalPart_some]
  refine thn (h pins s σ H _ I hw) fun u s1 ⟨x, H1, I1, r1, q1⟩ => ?_
  obtain ⟨i, rfl, q⟩ := q1
  obtain ⟨t, rfl⟩ := r1
  exact ⟨some i, H1, I1, .int i t, q⟩

/-- what a slice of a value is, by values: the slice object stands at sl -/
def SlR (X : Cx) (r : V → Option Int → Option Int → Hp → VK → Prop) : Prop :=
  ∀ (pins : List (Addr × Obj)) (s : Shared) (σ : St) (H : Hp) (x : V) (v vl vu : Value) (lo hi : Option Int) (sl : Addr) (Q : VK), Inv X pins σ H s → RelV x v → s.heap.IsSliceOf sl vl vu .none → IsPart vl lo → IsPart vu hi → r x lo hi H Q →
    ∃ T id, typeLookup (.type T) "__getitem__" = pure (some (.builtin id)) ∧ s.TypeIs v T ∧ wpAny (model X.prog X.w) X.A (getItem v (.ref sl)) (EP X pins σ Q) X.xe s
def tSl (r : V → Option Int → Option Int → Hp → VK → Prop) (te : TE) (tl th : TO) : TE := fun σ H Q => te σ H fun x H1 => tl σ H1 fun l H2 => th σ H2 fun u H3 => r x l u H3 Q
/-- a[lo:hi], any a -/
theorem pe_slice {r : V → Option Int → Option Int → Hp → VK → Prop} (hr : SlR X r) (he : PE X e te) (hl : PO X lo tl) (hu : PO X hi th) : PE X (.Subscript e (.Slice lo hi none p2) pos) (tSl r te tl th) := by
  intro pins s σ H Q I h
  refine Subscript_ (thn (he pins s σ H _ I h) fun v s1 ⟨x, H1, I1, r1, q1⟩ => ?_)
  refine wpAny_Slice (thn (hl pins s1 σ H1 _ I1 q1) fun vl s2 ⟨l, H2, I2, pl, q2⟩ => thn (hu pins s2 σ H2 _ I2 q2) fun vu s3 ⟨u, H3, I3, pu, q3⟩ => ?_)
  rw [evalPart_none]
  refine wpAny_pure ?_
  have I4 : Inv X pins σ H3 { s3 with heap := s3.heap.push { cls := .type "slice", data := .fields #[vl, vu, .none] } } := I3.kept (t' := s3.toks) fun b ob q => Heap.get?_push_of_some _ q
  obtain ⟨T, id, hT, ht, hg⟩ := hr pins { s3 with heap := s3.heap.push { cls := .type "slice", data := .fields #[vl, vu, .none] } } σ H3 x v vl vu l u s3.heap.objs.size Q I4 r1 (Heap.IsSliceOf.new ..) pl pu q3
  show wpAny (model X.prog X.w) X.A (subscriptTail e (.Slice lo hi none p2) v (.ref s3.heap.objs.size)) (EP X pins σ Q) X.xe { s3 with heap := s3.heap.push { cls := .type "slice", data := .fields #[vl, vu, .none] } }
  exact tail_any (ops := [.ref s3.heap.objs.size, v]) ht hT hg (by with_unfolding_all rfl)

/-- the items of xs[lo:hi] -/
def cutV (xs : List V) (lo hi : Option Int) : List V := (xs.drop (HT.sIx xs.length 0 lo)).take (HT.sIx xs.length xs.length hi - HT.sIx xs.length 0 lo)
theorem cutV_length (xs : List V) (lo hi : Option Int) : (cutV xs lo hi).length ≤ xs.length := by
  unfold cutV
  rw [List.length_take, List.length_drop]
  omega
end
end L2

namespace L2
open PySem PySem.Spec PyProof.Rows

/-! ### places -/
/-- the place that an index of any sign means -/
def ixN (n : Nat) (i : Int) : Option Nat := if 0 ≤ i then (if i < n then some i.toNat else none) else if -(n : Int) ≤ i then some (i + n).toNat else none
def atI {α : Type} (xs : List α) (i : Int) : Option α := (ixN xs.length i).bind fun j => xs[j]?
theorem ixN_seq {n : Nat} {i : Int} {j : Nat} (h : ixN n i = some j) : seqIndex? i n = some j ∧ j < n ∧ -(n : Int) ≤ i ∧ i < n := by
  unfold ixN at h
  by_cases h0 : 0 ≤ i
  · rw [if_pos h0] at h
    by_cases h1 : i < n
    · rw [if_pos h1] at h
      have e : i.toNat = j := Option.some.inj h
      exact ⟨by rw [seqIndex_of h0 h1, e], by omega, by omega, h1⟩
    · rw [if_neg h1] at h; cases h
  · rw [if_neg h0] at h
    by_cases h1 : -(n : Int) ≤ i
    · rw [if_pos h1] at h
      have e : (i + n).toNat = j := Option.some.inj h
      exact ⟨by rw [seqIndex_neg (by omega) h1, e], by omega, h1, by omega⟩
    · rw [if_neg h1] at h; cases h
theorem atI_get {α : Type} {xs : List α} {i : Int} {v : α} (h : atI xs i = some v) : ∃ j, seqIndex? i xs.length = some j ∧ xs[j]? = some v ∧ j < xs.length ∧ -(xs.length : Int) ≤ i ∧ i < xs.length := by
  unfold atI at h
  cases e : ixN xs.length i with
  | none => rw [e] at h; cases h
  | some j =>
    rw [e] at h
    obtain ⟨h1, h2, h3, h4⟩ := ixN_seq e
    exact ⟨j, h1, h, h2, h3, h4⟩
theorem atI_nat {α : Type} {xs : List α} {j : Nat} {v : α} (h : xs[j]? = some v) : atI xs (j : Int) = some v := by
  have hj : j < xs.length := (List.getElem?_eq_some_iff.mp h).1
  have e : ixN xs.length (j : Int) = some j := by
    unfold ixN
    rw [if_pos (by omega), if_pos (by omega)]; simp
  unfold atI; rw [e]; exact h
/-! ### what may be subscripted -/
/-- what stands as an index of a plain subscript -/
def PlainIx (b : Expr) : Prop := ∀ o i, subscripted b false o i = operate [o, i] (getItem o i)
/-- a subscript by values -/
def IxR (X : Cx) (r : R2) : Prop :=
  ∀ (value slice : Expr) (pins : List (Addr × Obj)) (s : Shared) (σ : St) (H : Hp) (x y : V) (v u : Value) (Q : VK), Inv X pins σ H s → RelV x v → RelV y u → r x y H Q →
    subscripted slice false v u = operate [v, u] (getItem v u) → wpAny (model X.prog X.w) X.A (subscriptTail value slice v u) (EP X pins σ Q) X.xe s
/-- a call of a builtin's method by values: the receiver, the arguments -/
def MtR (X : Cx) (id : String) (r : V → List V → Hp → VK → Prop) : Prop :=
  ∀ (pins : List (Addr × Obj)) (s : Shared) (σ : St) (H : Hp) (x : V) (xs : List V) (v : Value) (us : List Value) (Q : VK), Inv X pins σ H s → RelV x v → Vals xs us → r x xs H Q →
    wpAny (model X.prog X.w) X.A (call (.builtin id) (v :: us)) (EP X pins σ Q) X.xe s
section
variable {X : Cx} {a b : Expr} {ta tb : TE} {pos : Pos}
/-- a[b] -/
theorem pe_ix {r : R2} (hr : IxR X r) (ha : PE X a ta) (hb : PE X b tb) (hs : PlainIx b) : PE X (.Subscript a b pos) (tOp r ta tb) := by
  intro pins s σ H Q I h
  exact Subscript_ (binT ha hb I h fun v u s2 x y H2 I2 rx ry q => hr a b pins s2 σ H2 x y v u Q I2 rx ry q (hs _ _))

def rIxL (K : PySem.W.Frag) : R2 := fun x y H Q => ∃ p xs i v, x = .ref p ∧ y = .int i ∧ SqL K H p xs ∧ atI xs i = some v ∧ Q v H
def rIxT (K : PySem.W.Frag) : R2 := fun x y H Q => ∃ p xs i v, x = .ref p ∧ y = .int i ∧ SqT K H p xs ∧ atI xs i = some v ∧ Q v H
def rIxS : R2 := fun x y H Q => ∃ z i c, x = .str z ∧ y = .int i ∧ z.length ≤ sizeLine ∧ atI z.cps.toList i = some c ∧ Q (.str ⟨#[c]⟩) H
theorem ix_list : IxR X (rIxL X.K) := by
  intro value slice pins s σ H x y v u Q I rx ry h hs
  obtain ⟨p, xs, i, z, rfl, rfl, hq, he, q⟩ := h
  cases rx
  obtain ⟨t, rfl⟩ := ry
  obtain ⟨its, r, pl, hz⟩ := I.list hq
  obtain ⟨j, h1, h2, h3, h4, h5⟩ := atI_get he
  obtain ⟨w, ew, rw'⟩ := r.get h2
  have hl := r.length
  have hn := line63
  have fin : EP X pins σ Q w s := ⟨z, H, I, rw', q⟩
  by_cases h0 : 0 ≤ i
  · have hj : i.toNat = j := by
      rw [seqIndex_of h0 h5] at h1
      exact Option.some.inj h1
    exact item_listR pl.isList h0 (by omega) (by rw [hj]; simpa using ew) fin hs
  · have hj : (i + (its.toArray.size : Int)).toNat = j := by
      rw [seqIndex_neg (by omega) h4] at h1
      rw [List.size_toArray, ← hl]
      exact Option.some.inj h1
    exact subscriptTail_builtinR (x := w) pl.isList.typeIs slot_list_getitem.lookup
      (wpAny_getItem_list_neg (Q := fun r s' => r = w ∧ EP X pins σ Q r s') pl.isList (by omega) (by rw [List.size_toArray] <;> omega) (by omega) (by rw [hj]; simpa using ew) ⟨rfl, fin⟩) hs
theorem ix_tup : IxR X (rIxT X.K) := by
  intro value slice pins s σ H x y v u Q I rx ry h hs
  obtain ⟨p, xs, i, z, rfl, rfl, hq, he, q⟩ := h
  cases rx
  obtain ⟨t, rfl⟩ := ry
  obtain ⟨its, r, pl, hz⟩ := I.tuple hq
  obtain ⟨j, h1, h2, h3, h4, h5⟩ := atI_get he
  obtain ⟨w, ew, rw'⟩ := r.get h2
  have hl := r.length
  have hn := line63
  have fin : EP X pins σ Q w s := ⟨z, H, I, rw', q⟩
  exact subscriptTail_builtinR (x := w) pl.typeIs slot_tuple_getitem.lookup
    (getItem_tuple (j := j) (Q := fun r s' => r = w ∧ EP X pins σ Q r s') pl (by omega) (by omega) (by rw [List.size_toArray, ← hl]; exact h1) (by simpa using ew) ⟨rfl, fin⟩) hs
theorem ix_str : IxR X rIxS := by
  intro value slice pins s σ H x y v u Q I rx ry h hs
  obtain ⟨z, i, c, rfl, rfl, hz, he, q⟩ := h
  obtain ⟨t, rfl⟩ := rx
  obtain ⟨t', rfl⟩ := ry
  obtain ⟨j, h1, h2, h3, h4, h5⟩ := atI_get he
  have hl : z.cps.toList.length = z.length := by simp [Str.length]
  rw [hl] at h1 h4 h5
  have hn := line63
  exact tail_any (typeIs_str s z t) slot_str_getitem.lookup (getItem_str (c := c) (by
    have e1 : decide (i < -(2 ^ 63 : Int)) = false := decide_eq_false (by omega)
    have e2 : decide (i ≥ 2 ^ 63) = false := decide_eq_false (by omega)
    rw [e1, e2, Bool.or_false]) (by rw [h1]; simpa using h2) ⟨.str ⟨#[c]⟩, H, I.tok _, ⟨_, rfl⟩, q⟩) hs
/-! ### xs[i] = v, any sign -/
/-- the list's object behind a store -/
theorem mapSeq_set (its : List Value) (n j : Nat) (u : Value) : Obj.mapSeq (·.setIfInBounds j u) { cls := .type "list", data := .seq its.toArray n } = { cls := .type "list", data := .seq (its.set j u).toArray n } := by
  simp [Obj.mapSeq]
theorem Inv.lst {pins : List (Addr × Obj)} {σ : St} {H : Hp} {s : Shared} {p : Addr} {xs : List V} (I : Inv X pins σ H s) (h : H p = some (.lst xs)) :
    ∃ (its : List Value) (n : Nat), Vals xs its ∧ s.heap.get? p = some { cls := .type "list", data := .seq its.toArray n } ∧ xs.length ≤ sizeLine := by
  obtain ⟨z, its, n, r, e⟩ := I.hok p _ h
  exact ⟨its, n, r, e, z⟩
/-- the list at p is written by an update of its object -/
theorem Inv.lstUpd {pins : List (Addr × Obj)} {σ : St} {H : Hp} {s : Shared} {p : Addr} {xs ys : List V} {its its' : List Value} {n n' : Nat} {f : Obj → Obj} (I : Inv X pins σ H s) (h : H p = some (.lst xs))
    (ho : s.heap.get? p = some { cls := .type "list", data := .seq its.toArray n }) (hf : f { cls := .type "list", data := .seq its.toArray n } = { cls := .type "list", data := .seq its'.toArray n' }) (r : Vals ys its') (hz : ys.length ≤ sizeLine) (t : Nat) :
    Inv X pins σ (upd H p (.lst ys)) { s with heap := s.heap.update p f, toks := t } := by
  have e : (s.heap.update p f).get? p = some { cls := .type "list", data := .seq its'.toArray n' } := by
    rw [Heap.get?_update_self f ho (by rw [hf] <;> rfl), hf]
  refine I.write (x := p) (e := p) (by rw [h]; trivial) (.inl rfl) (fun b u hb q => (Heap.get?_update_other _ _ (Ne.symm hb)).trans q) ⟨_, e⟩ ?_
  exact ⟨hz, its', n', r, e⟩
def rSetL : V → V → V → Hp → (Hp → Prop) → Prop := fun o i v H Q => ∃ p xs k j, o = .ref p ∧ i = .int k ∧ H p = some (.lst xs) ∧ ixN xs.length k = some j ∧ Q (upd H p (.lst (xs.set j v)))
theorem set_list : PSet X rSetL := by
  intro pins s σ H o i v ov iv u Q I ro ri rv h
  obtain ⟨p, xs, k, j, rfl, rfl, hp, hj, q⟩ := h
  cases ro
  obtain ⟨t, rfl⟩ := ri
  obtain ⟨its, n, r, ho, hz⟩ := I.lst hp
  obtain ⟨h1, h2, h3, h4⟩ := ixN_seq hj
  have hl := r.length
  have hn := line63
  have I' : Inv X pins σ (upd H p (.lst (xs.set j v))) { s with heap := s.heap.update p (Obj.mapSeq (·.setIfInBounds j u)) } :=
    I.lstUpd hp ho (mapSeq_set its n j u) (r.set rv j) (by rw [List.length_set]; exact hz) s.toks
  by_cases h0 : 0 ≤ k
  · have hk : k.toNat = j := by
      rw [seqIndex_of h0 h4] at h1
      exact Option.some.inj h1
    exact PySem.W.ki_setAt ho h0 (by omega) (by rw [List.size_toArray, ← hl]; exact h4) (by rw [hk]; exact ⟨_, I', q⟩)
  · have hk : (k + (its.toArray.size : Int)).toNat = j := by
      rw [seqIndex_neg (by omega) h3] at h1
      rw [List.size_toArray, ← hl]
      exact Option.some.inj h1
    exact PySem.W.ki_setBack ho (by omega) (by rw [List.size_toArray, ← hl]; exact h3) (by omega) (by rw [hk]; exact ⟨_, I', q⟩)

/-! ### slices -/
theorem slice_bounds (lo hi : Option Int) (n : Nat) : (sliceBounds lo hi none n).1 = ((HT.sIx n 0 lo : Nat) : Int) ∧ (sliceBounds lo hi none n).2.1 = ((HT.sIx n n hi : Nat) : Int) ∧ (sliceBounds lo hi none n).2.2 = 1 := by
  refine ⟨?_, ?_, rfl⟩
  · cases lo with
    | none => simp [sliceBounds, HT.sIx]
    | some i =>
      simp only [sliceBounds, HT.sIx, Option.getD_none, show (1 : Int) > 0 by decide, if_true]
      by_cases h : i < 0
      · simp only [h, if_true] <;> omega
      · simp only [h, if_false] <;> omega
  · cases hi with
    | none => simp [sliceBounds, HT.sIx]
    | some i =>
      simp only [sliceBounds, HT.sIx, Option.getD_none, show (1 : Int) > 0 by decide, if_true]
      by_cases h : i < 0
      · simp only [h, if_true] <;> omega
      · simp only [h, if_false] <;> omega
theorem slicePick_cut (its : List Value) (lo hi : Option Int) : slicePick its.toArray lo hi none = ((its.drop (HT.sIx its.length 0 lo)).take (HT.sIx its.length its.length hi - HT.sIx its.length 0 lo)).toArray := by
  obtain ⟨h1, h2, h3⟩ := slice_bounds lo hi its.toArray.size
  unfold slicePick
  rw [h1, h2, h3]
  simp only [sliceRange_one, pick_run, List.size_toArray] <;> rfl
/-- xs[lo:hi] of a list: a new list -/
def rSlL (K : PySem.W.Frag) : V → Option Int → Option Int → Hp → VK → Prop := fun x lo hi H Q => ∃ a xs, x = .ref a ∧ SqL K H a xs ∧ ∀ p, H p = none → Q (.ref p) (upd H p (.lst (cutV xs lo hi)))
theorem sl_list : SlR X (rSlL X.K) := by
  intro pins s σ H x v vl vu lo hi sl Q I rx hs pl pu h
  obtain ⟨a, xs, rfl, hx, q⟩ := h
  cases rx
  obtain ⟨its, r, ht, hz⟩ := I.list hx
  have hlen := r.length
  refine ⟨"list", _, slot_list_getitem.lookup, ht.isList.typeIs, ?_⟩
  refine wpAny_getItem_list_slice ht.isList hs pl pu .none (by simp) ?_ (by rw [List.size_toArray] <;> omega)
  rw [slicePick_cut, ← hlen]
  refine ⟨.ref s.heap.objs.size, _, I.laid (t' := s.toks) (o := .lst (cutV xs lo hi)) (fun b ob q => Heap.get?_push_of_some _ q) (Nat.le_refl _) ?_, rfl, q _ (I.hok.fresh (Nat.le_refl _))⟩
  exact ⟨Nat.le_trans (cutV_length xs lo hi) hz, _, 0, (r.drop (HT.sIx xs.length 0 lo)).take (HT.sIx xs.length xs.length hi - HT.sIx xs.length 0 lo), Heap.get?_push_size _ rfl⟩

/-! ### in, not in: flat items -/
def flatV : V → Bool
  | .non => true
  | .bl _ => true
  | .int _ => true
  | .str _ => true
  | _ => false
/-- == of flat values -/
def eqV : V → V → Bool
  | .non, .non => true
  | .bl a, .bl b => a == b
  | .bl a, .int b => (if a then 1 else 0) == b
  | .int a, .bl b => a == (if b then 1 else 0)
  | .int a, .int b => a == b
  | .str a, .str b => a == b
  | _, _ => false
theorem eqAt_V {A : Around} {s : Shared} {y x : V} {u v : Value} (ry : RelV y u) (rx : RelV x v) (fy : flatV y = true) (fx : flatV x = true) : SeqAt.EqAt A s u v (eqV y x) := by
  cases y with
  | non =>
    cases ry
    cases x with
    | non => cases rx; exact SeqAt.EqAt.same _
    | bl b => cases rx; exact SeqAt.EqAt.none_bool b
    | int b => obtain ⟨t, rfl⟩ := rx; exact SeqAt.EqAt.none_int b t
    | str b => obtain ⟨t, rfl⟩ := rx; exact SeqAt.EqAt.none_str b t
    | _ => exact absurd (show false = true from fx) Bool.false_ne_true
  | bl a =>
    cases ry
    cases x with
    | non => cases rx; exact SeqAt.EqAt.bool_none a
    | bl b => cases rx; exact SeqAt.EqAt.bool_bool a b
    | int b => obtain ⟨t, rfl⟩ := rx; exact SeqAt.EqAt.bool_int a b t
    | str b => obtain ⟨t, rfl⟩ := rx; exact SeqAt.EqAt.bool_str a b t
    | _ => exact absurd (show false = true from fx) Bool.false_ne_true
  | int a =>
    obtain ⟨t', rfl⟩ := ry
    cases x with
    | non => cases rx; exact SeqAt.EqAt.int_none a t'
    | bl b => cases rx; exact SeqAt.EqAt.int_bool a t' b
    | int b => obtain ⟨t, rfl⟩ := rx; exact SeqAt.EqAt.int_int a t' b t
    | str b => obtain ⟨t, rfl⟩ := rx; exact SeqAt.EqAt.int_str a t' b t
    | _ => exact absurd (show false = true from fx) Bool.false_ne_true
  | str a =>
    obtain ⟨t', rfl⟩ := ry
    cases x with
    | non => cases rx; exact SeqAt.EqAt.str_none a t'
    | bl b => cases rx; exact SeqAt.EqAt.str_bool a t' b
    | int b => obtain ⟨t, rfl⟩ := rx; exact SeqAt.EqAt.str_int a t' b t
    | str b => obtain ⟨t, rfl⟩ := rx; exact SeqAt.EqAt.str_str a t' b t
    | _ => exact absurd (show false = true from fx) Bool.false_ne_true
  | _ => exact absurd (show false = true from fy) Bool.false_ne_true
/-- the items' answers, read off the values (a value's own answer does not lean on its token) -/
def eqU (x : V) (u : Value) : Bool := match u with
  | .none => eqV .non x
  | .bool b => eqV (.bl b) x
  | .int i _ => eqV (.int i) x
  | .str z _ => eqV (.str z) x
  | _ => false
theorem eqU_of {x y : V} {u : Value} (r : RelV y u) (f : flatV y = true) : eqU x u = eqV y x := by
  cases y with
  | non => cases r; rfl
  | bl b => cases r; rfl
  | int i => obtain ⟨t, rfl⟩ := r; rfl
  | str z => obtain ⟨t, rfl⟩ := r; rfl
  | _ => exact absurd (show false = true from f) Bool.false_ne_true
theorem any_eqU {x : V} : ∀ {xs : List V} {us : List Value}, Vals xs us → xs.all flatV = true → us.any (eqU x) = xs.any fun y => eqV y x
  | _, _, .nil, _ => rfl
  | y :: xs, u :: us, .cons r t, f => by
    rw [List.all_cons, Bool.and_eq_true] at f
    rw [List.any_cons, List.any_cons, eqU_of r f.1, any_eqU t f.2]
theorem mem_eqAt {A : Around} {s : Shared} {x : V} {v : Value} (rx : RelV x v) (fx : flatV x = true) : ∀ {xs : List V} {us : List Value}, Vals xs us → xs.all flatV = true → ∀ u ∈ us, SeqAt.EqAt A s u v (eqU x u)
  | _, _, .nil, _ => fun u hu => by cases hu
  | y :: xs, u :: us, .cons r t, f => fun u' hu => by
    rw [List.all_cons, Bool.and_eq_true] at f
    rcases List.mem_cons.mp hu with rfl | hu
    · rw [eqU_of r f.1]; exact eqAt_V r rx f.1 fx
    · exact mem_eqAt rx fx t f.2 u' hu
def inV (x : V) (xs : List V) : Bool := xs.any fun y => eqV y x
/-- x in a list or tuple of flat items -/
def rIn (K : PySem.W.Frag) (neg : Bool) : R2 := fun x y H Q => ∃ p xs, y = .ref p ∧ (SqL K H p xs ∨ SqT K H p xs) ∧ flatV x = true ∧ xs.all flatV = true ∧ Q (.bl (if neg then !inV x xs else inV x xs)) H
theorem op_in_seq : OpR X (compareOp .In) (rIn X.K false) := by
  intro pins s σ H x y v u Q I rx ry h
  obtain ⟨p, xs, rfl, hq, fx, fs, q⟩ := h
  cases ry
  rcases hq with hq | hq
  · obtain ⟨its, r, pl, hz⟩ := I.list hq
    refine SeqAt.in_listAt (eqU x) pl.isList (fun w hw => mem_eqAt rx fx r fs w (by simpa using hw)) ⟨.bl _, H, I, rfl, ?_⟩
    rw [show its.toArray.any (eqU x) = its.any (eqU x) by simp, any_eqU r fs]
    exact q
  · obtain ⟨its, r, pl, hz⟩ := I.tuple hq
    refine SeqAt.in_tupleAt (eqU x) pl (fun w hw => mem_eqAt rx fx r fs w (by simpa using hw)) ⟨.bl _, H, I, rfl, ?_⟩
    rw [show its.toArray.any (eqU x) = its.any (eqU x) by simp, any_eqU r fs]
    exact q
theorem op_notIn_seq : OpR X (compareOp .NotIn) (rIn X.K true) := by
  intro pins s σ H x y v u Q I rx ry h
  obtain ⟨p, xs, rfl, hq, fx, fs, q⟩ := h
  cases ry
  rcases hq with hq | hq
  · obtain ⟨its, r, pl, hz⟩ := I.list hq
    refine SeqAt.notIn_listAt (eqU x) pl.isList (fun w hw => mem_eqAt rx fx r fs w (by simpa using hw)) ⟨.bl _, H, I, rfl, ?_⟩
    rw [show its.toArray.any (eqU x) = its.any (eqU x) by simp, any_eqU r fs]
    exact q
  · obtain ⟨its, r, pl, hz⟩ := I.tuple hq
    refine SeqAt.notIn_tupleAt (eqU x) pl (fun w hw => mem_eqAt rx fx r fs w (by simpa using hw)) ⟨.bl _, H, I, rfl, ?_⟩
    rw [show its.toArray.any (eqU x) = its.any (eqU x) by simp, any_eqU r fs]
    exact q
/-! ### len, list(x), tuple(x) of any list or tuple that is read -/
theorem call_len_seq : CallR X (.builtin "len") (fun xs H Q => ∃ p ys, xs = [.ref p] ∧ (SqL X.K H p ys ∨ SqT X.K H p ys) ∧ Q (.int ys.length) H) := by
  intro pins s σ H xs us Q I r h
  obtain ⟨p, ys, rfl, hq, q⟩ := h
  obtain ⟨u, rfl, rx⟩ := vals1 r
  cases rx
  have hn := line63
  rcases hq with hq | hq
  · obtain ⟨its, r', pl, hz⟩ := I.list hq
    have hlen := r'.length
    exact Calls.call_len_list pl.isList (by simp only [List.size_toArray] <;> omega) ⟨.int ys.length, H, I.tok _, ⟨s.toks + 1, by rw [List.size_toArray, hlen]⟩, q⟩
  · obtain ⟨its, r', pl, hz⟩ := I.tuple hq
    have hlen := r'.length
    exact len_tuple pl (by simp only [List.size_toArray] <;> omega) ⟨.int ys.length, H, I.tok _, ⟨s.toks + 1, by rw [List.size_toArray, hlen]⟩, q⟩
theorem call_len_str : CallR X (.builtin "len") (fun xs H Q => ∃ z, xs = [.str z] ∧ z.length ≤ sizeLine ∧ Q (.int z.length) H) := by
  intro pins s σ H xs us Q I r h
  obtain ⟨z, rfl, hz, q⟩ := h
  obtain ⟨u, rfl, t, rfl⟩ := vals1 r
  have hn := line63
  exact len_str (by omega) ⟨.int z.length, H, I.tok _, ⟨_, rfl⟩, q⟩
/-! ### the call of a builtin's method: o.m(..) -/
/-- the value is of that builtin type -/
def tyV (K : PySem.W.Frag) (T : String) (x : V) (H : Hp) : Prop := match x with
  | .str _ => T = "str"
  | .int _ => T = "int"
  | .ref p => (T = "list" ∧ ∃ xs, SqL K H p xs) ∨ (T = "tuple" ∧ ∃ o, K.lookup p = some o ∧ o.cls = .type "tuple" ∧ o.dict = none) ∨
      (T = "dict" ∧ ((∃ kvs, H p = some (.dK kvs)) ∨ ∃ kvs, H p = some (.dT kvs))) ∨ (T = "set" ∧ ∃ S n, H p = some (.set S n))
  | _ => False
theorem tyV_is {pins : List (Addr × Obj)} {σ : St} {H : Hp} {s : Shared} {T : String} {x : V} {v : Value} (I : Inv X pins σ H s) (r : RelV x v) (ty : tyV X.K T x H) :
    s.TypeIs v T ∧ ∀ a, v = .ref a → ∃ ob, s.heap.get? a = some ob ∧ ob.dict = none := by
  cases x with
  | str z =>
    obtain ⟨t, rfl⟩ := r
    cases (show T = "str" from ty)
    exact ⟨typeIs_str s z t, fun _ e => nomatch e⟩
  | int i =>
    obtain ⟨t, rfl⟩ := r
    cases (show T = "int" from ty)
    exact ⟨typeIs_int s i t, fun _ e => nomatch e⟩
  | ref p =>
    cases r
    rcases ty with ⟨rfl, xs, hq⟩ | ⟨rfl, o, hk, hc, hd⟩ | ⟨rfl, hk⟩ | ⟨rfl, S, n, hk⟩
    · obtain ⟨its, _, pl, _⟩ := I.list hq
      refine ⟨pl.isList.typeIs, fun a e => ?_⟩
      cases e
      obtain ⟨o, n, e, c, hd, _⟩ := pl
      exact ⟨o, e, hd⟩
    · refine ⟨⟨o, I.kIn p o hk, hc⟩, fun a e => ?_⟩
      cases e
      exact ⟨o, I.kIn _ o hk, hd⟩
    · have z : ∃ o, s.heap.get? p = some o ∧ o.ExactDict := by
        rcases hk with ⟨kvs, hk⟩ | ⟨kvs, hk⟩
        · obtain ⟨_, _, _, _, o, _, _, e, ex, _⟩ := I.hok p _ hk
          exact ⟨o, e, ex⟩
        · obtain ⟨_, _, _, _, o, _, _, e, ex, _⟩ := I.hok p _ hk
          exact ⟨o, e, ex⟩
      obtain ⟨o, e, ex⟩ := z
      refine ⟨⟨o, e, ex.1⟩, fun a e2 => ?_⟩
      cases e2
      exact ⟨o, e, ex.2.1⟩
    · obtain ⟨o, _, _, _, e, ex, _⟩ := I.hok p _ hk
      refine ⟨⟨o, e, ex.1⟩, fun a e2 => ?_⟩
      cases e2
      exact ⟨o, e, ex.2.1⟩
  | _ => exact False.elim ty
def tBM0 (K : PySem.W.Frag) (T : String) (r : V → List V → Hp → VK → Prop) (to : TE) : TE := fun σ H Q => to σ H fun x H1 => tyV K T x H1 ∧ r x [] H1 Q
def tBM (K : PySem.W.Frag) (T : String) (r : V → List V → Hp → VK → Prop) (to : TE) (t : TA) : TE := fun σ H Q => to σ H fun x H1 => tyV K T x H1 ∧ t σ H1 fun xs H2 => r x xs H2 Q
variable {o e : Expr} {es : List Expr} {to : TE} {t : TA} {name : Str} {apos cpos : Pos} {T id : String} {r : V → List V → Hp → VK → Prop}
theorem pe_bm0 (pa : PlainAttrs T) (slot : Slot T name id) (hty : typeOf (.builtin id) = pure (.type "method_descriptor")) (hm : MtR X id r) (ho : PE X o to)
    (hbase : attributeBase o name X.env (eval o X.env) = eval o X.env := by rfl) (hline : (apos.endLine == cpos.line) = true := by rfl) : PE X (.Call (.Attribute o name apos) [] [] cpos) (tBM0 X.K T r to) := by
  intro pins s σ H Q I h
  refine wpAny_Call_method0_late hbase hline (thn (ho pins s σ H _ I h) fun v s1 ⟨x, H1, I1, r1, ty, q1⟩ => ?_)
  obtain ⟨h1, h2⟩ := tyV_is I1 r1 ty
  exact ⟨T, id, pa, slot, hty, h1, h2, Calls.callWith_builtin rfl (PySem.evalArgs_none (hm pins s1 σ H1 x [] v [] Q I1 r1 .nil q1))⟩
theorem pe_bm (pa : PlainAttrs T) (slot : Slot T name id) (hty : typeOf (.builtin id) = pure (.type "method_descriptor")) (hm : MtR X id r) (ho : PE X o to) (ha : PA X (e :: es) t)
    (hbase : attributeBase o name X.env (eval o X.env) = eval o X.env := by rfl)
    (hfew : ((backTo cpos (starEach (e :: es) X.env)).all (fun x => !x.1) && (backToKw cpos (keywordEach [] X.env)).all (fun x => x.1.isSome)
      && decide ((e :: es).length + ([] : List Keyword).length + (if ([] : List Keyword).isEmpty then 0 else 1) < 30)) = true := by rfl)
    (hline : (apos.endLine == cpos.line) = true := by rfl) (hs : starEach (e :: es) X.env = (false, eval e X.env) :: starEach es X.env := by rfl) (hplain : (backTo cpos (starEach es X.env)).any (·.1) = false := by rfl) :
    PE X (.Call (.Attribute o name apos) (e :: es) [] cpos) (tBM X.K T r to t) := by
  intro pins s σ H Q I h
  refine wpAny_Call_method_late hbase hfew hline rfl (thn (ho pins s σ H _ I h) fun v s1 ⟨x, H1, I1, r1, ty, q1⟩ => ?_)
  obtain ⟨h1, h2⟩ := tyV_is I1 r1 ty
  refine ⟨T, id, pa, slot, hty, h1, h2, ?_⟩
  have hA := ha cpos pins s1 σ H1 _ I1 q1
  rw [hs] at hA ⊢
  refine Calls.callWith_builtin (by show (false || (backTo cpos (starEach es X.env)).any (·.1)) = false; rw [hplain] <;> rfl) (Calls.evalArgs_plain ?_)
  exact thn hA fun us s2 ⟨vs, H2, I2, r2, q2⟩ => hm pins s2 σ H2 x vs v us Q I2 r1 r2 q2
/- xs.append(e), list.index on a module's tuple .. are MtR facts of 06m -/
end
end L2

namespace L2
open PySem PySem.Spec PyProof.Rows

def MtM (X : Cx) (id : String) (r : V → List V → Hp → VK → Prop) : Prop :=
  ∀ (pins : List (Addr × Obj)) (s : Shared) (σ : St) (H : Hp) (x : V) (xs : List V) (v : Value) (us : List Value) (Q : VK), Inv X pins σ H s → RelV x v → Vals xs us → r x xs H Q →
    wpAny (model X.prog X.w) X.A (call (.builtin id) (v :: us)) (EP X pins σ Q) X.xe s

/-! ### lists of values -/
theorem Vals.one : ∀ {x : V} {us : List Value}, Vals [x] us → ∃ u, us = [u] ∧ RelV x u
  | _, _, .cons r .nil => ⟨_, rfl, r⟩
theorem Vals.zero : ∀ {us : List Value}, Vals [] us → us = []
  | _, .nil => rfl
theorem Vals.dropLast {xs : List V} {us : List Value} (h : Vals xs us) : Vals xs.dropLast us.dropLast := by
  induction h with
  | nil => exact .nil
  | cons r t ih =>
    cases t with
    | nil => exact .nil
    | cons q t' => exact .cons r ih
theorem erase_last {α : Type} (l : List α) : l.eraseIdx (l.length - 1) = l.dropLast := by
  induction l with
  | nil => rfl
  | cons a r ih =>
    cases r with
    | nil => rfl
    | cons b r =>
      have e : (a :: b :: r).length - 1 = ((b :: r).length - 1) + 1 := by
        have h1 : (a :: b :: r).length = r.length + 2 := rfl
        have h2 : (b :: r).length = r.length + 1 := rfl
        omega
      rw [e, List.eraseIdx_cons_succ, ih]
      all_goals rfl
section
variable {X : Cx} {pins : List (Addr × Obj)} {σ : St} {H : Hp} {s : Shared} {l b : Addr} {xs ys zs : List V}

/-! ### the two steps: a tracked list is rewritten, a new list is laid -/
theorem Inv.lset {its its' : List Value} {n : Nat} {f : Array Value → Array Value} {t' : Nat} (I : Inv X pins σ H s) (hH : H l = some (.lst xs))
    (e : s.heap.get? l = some { cls := .type "list", data := .seq its.toArray n }) (hf : f its.toArray = its'.toArray) (hv : Vals ys its') (hz : ys.length ≤ sizeLine) :
    Inv X pins σ (upd H l (.lst ys)) { s with heap := s.heap.update l (Obj.mapSeq f), toks := t' } := by
  have q := PySem.IsL.update e f
  rw [hf] at q
  refine I.write (x := l) (e := l) (by rw [hH]; exact trivial) (.inl rfl) (fun b' u hb hu => (Heap.get?_update_other s.heap (Obj.mapSeq f) (Ne.symm hb)).trans hu) ⟨_, q⟩ ?_
  exact ⟨hz, its', _, hv, q⟩
theorem Inv.lnew {its : List Value} {t' : Nat} (I : Inv X pins σ H s) (hv : Vals ys its) (hz : ys.length ≤ sizeLine) :
    Inv X pins σ (upd H s.heap.objs.size (.lst ys)) { s with heap := s.heap.push { cls := .type "list", data := .seq its.toArray }, toks := t' } :=
  I.laid (fun _ _ q => Heap.get?_push_of_some _ q) (Nat.le_refl _) ⟨hz, its, 0, hv, Heap.get?_push_size _ rfl⟩
theorem Inv.fresh (I : Inv X pins σ H s) : H s.heap.objs.size = none := I.hok.fresh (Nat.le_refl _)
theorem Inv.lstM (I : Inv X pins σ H s) (hH : H l = some (.lst xs)) : xs.length ≤ sizeLine ∧ ∃ (its : List Value) (n : Nat), Vals xs its ∧ xs.length = its.length ∧ s.heap.get? l = some { cls := .type "list", data := .seq its.toArray n } := by
  obtain ⟨z, its, n, r, e⟩ := I.hok l _ hH
  exact ⟨z, its, n, r, r.length, e⟩

end

section
variable {X : Cx}

/-! ### methods -/
def rAppend : V → List V → Hp → VK → Prop := fun x vs H Q => ∃ l xs y, x = .ref l ∧ vs = [y] ∧ H l = some (.lst xs) ∧ xs.length < sizeLine ∧ Q .non (upd H l (.lst (xs ++ [y])))
theorem mt_append : MtM X "list.append" rAppend := by
  intro pins s σ H x vs v us Q I rx rv h
  obtain ⟨l, xs, y, rfl, rfl, hH, hz, q⟩ := h
  cases rx
  obtain ⟨u, rfl, ru⟩ := rv.one
  obtain ⟨z, its, n, r, hl, e⟩ := I.lstM hH
  refine call_meets F.slot_list_append ⟨_, e, rfl⟩ F.entry_list_append (F.args_list_append_2 _ _) (PySem.list_append l its.toArray n u (by rw [List.size_toArray]; omega)) ⟨e, ?_⟩
  refine ⟨.non, _, I.lset (its' := its ++ [u]) hH e (by simp) (r.append (.cons ru .nil)) ?_, rfl, q⟩
  rw [List.length_append, List.length_singleton]
  omega

def rPop : V → List V → Hp → VK → Prop := fun x vs H Q => ∃ l xs y, x = .ref l ∧ vs = [] ∧ H l = some (.lst xs) ∧ xs[xs.length - 1]? = some y ∧ Q y (upd H l (.lst xs.dropLast))
theorem mt_pop : MtM X "list.pop" rPop := by
  intro pins s σ H x vs v us Q I rx rv h
  obtain ⟨l, xs, y, rfl, rfl, hH, hy, q⟩ := h
  cases rx
  have hus := rv.zero
  subst hus
  obtain ⟨z, its, n, r, hl, e⟩ := I.lstM hH
  obtain ⟨u, hu, ru⟩ := r.get hy
  have hy' : its.toArray[its.toArray.size - 1]? = some u := by
    show its.toArray[its.length - 1]? = some u
    rw [← Array.getElem?_toList, ← hl]
    exact hu
  refine call_meets F.slot_list_pop ⟨_, e, rfl⟩ F.entry_list_pop (F.args_list_pop_1 _) (MeetsSeq.list_pop_last l its.toArray n u hy' (by rw [List.size_toArray]; omega)) ⟨e, ?_⟩
  refine ⟨y, _, I.lset (its' := its.dropLast) hH e ?_ r.dropLast ?_, ru, q⟩
  · show its.toArray.eraseIdxIfInBounds (its.toArray.size - 1) = its.dropLast.toArray
    rw [List.size_toArray, List.eraseIdxIfInBounds_toArray, erase_last]
  · rw [List.length_dropLast]
    omega

def rClear : V → List V → Hp → VK → Prop := fun x vs H Q => ∃ l xs, x = .ref l ∧ vs = [] ∧ H l = some (.lst xs) ∧ Q .non (upd H l (.lst []))
theorem mt_clear : MtM X "list.clear" rClear := by
  intro pins s σ H x vs v us Q I rx rv h
  obtain ⟨l, xs, rfl, rfl, hH, q⟩ := h
  cases rx
  have hus := rv.zero
  subst hus
  obtain ⟨z, its, n, r, hl, e⟩ := I.lstM hH
  refine call_meets F.slot_list_clear ⟨_, e, rfl⟩ F.entry_list_clear (F.args_list_clear_1 _) (AutoSeq1.list_clear_list_0 l its.toArray n (by rw [List.size_toArray]; omega)) ⟨e, ?_⟩
  exact ⟨.non, _, I.lset (its' := []) (ys := []) hH e rfl .nil (Nat.zero_le _), rfl, q⟩

/-! ### list + list, list += list, list * int -/
def rCat : R2 := fun x y H Q => ∃ l b xs zs, x = .ref l ∧ y = .ref b ∧ H l = some (.lst xs) ∧ H b = some (.lst zs) ∧ xs.length + zs.length ≤ sizeLine ∧ ∀ p, H p = none → Q (.ref p) (upd H p (.lst (xs ++ zs)))
theorem op_cat : OpR X (binaryOp .Add) rCat := by
  intro pins s σ H x y v u Q I rx ry h
  obtain ⟨l, b, xs, zs, rfl, rfl, hH, hB, hz, q⟩ := h
  cases rx
  cases ry
  obtain ⟨z, its, n, r, hl, e⟩ := I.lstM hH
  obtain ⟨z2, its2, n2, r2, hl2, e2⟩ := I.lstM hB
  refine PySem.P.add_list e e2 ?_ (by rw [List.size_toArray, List.size_toArray]; omega)
  have ea : its.toArray ++ its2.toArray = (its ++ its2).toArray := by simp
  rw [ea]
  exact ⟨.ref _, _, I.lnew (t' := s.toks) (r.append r2) (by rw [List.length_append]; omega), rfl, q _ I.fresh⟩
end

/-! ### xs[a:b] = ys -/
section
variable {prog : Program} {w : World} {A : Around} {E : Value → Shared → Prop} {s : Shared}
set_option maxRecDepth 100000 in
end

section
variable {X : Cx}
end
end L2


namespace L2
open PySem PySem.Spec PyProof.Rows

/-! ### lists of pairs as tables -/
section
variable {κ : Type} [DecidableEq κ]
end


section
variable {P : Program} {w : World} {H : Hp} {h : Heap} {a : Addr}
end

section
variable {X : Cx} {pins : List (Addr × Obj)} {σ : St} {H : Hp} {s : Shared} {a : Addr} {y v : V} {u r : Value} {o : Option V} {A : Around} {E : Value → Shared → Prop}

theorem Inv.big (I : Inv X pins σ H s) : sysModules < s.heap.objs.size := by
  have h : mainGlobals < s.heap.objs.size := (I.mod.glob.keeps I.bk).lt
  exact Nat.lt_trans (by decide) h

end

section
variable {X : Cx} {pins : List (Addr × Obj)} {σ : St} {H : Hp} {s : Shared} {a : Addr} {kvs : List (Key × V)} {k : Key} {u : Value} {A : Around} {E : Value → Shared → Prop}
end


section
variable {X : Cx} {o i e value : Expr} {pos pos' tpos : Pos} {td ty tv : TE}
end


/-! ### displays -/
theorem dk_empty {P : Program} {w : World} {H : Hp} (h : Heap) (hb : sysModules < h.objs.size) : ObjOk P w H (h.push { cls := .type "dict", data := .dict #[] }) h.objs.size (.dK []) :=
  ⟨Nat.zero_le _, beq_eq_false_iff_ne.mpr (Ne.symm (Nat.ne_of_lt hb)), [], .nil, Heap.DictOf.new h⟩
/-- {}, to be a dict of the kind that is wanted -/
def tDNewK : TE := fun _ H Q => ∀ p, H p = none → Q (.ref p) (upd H p (.dK []))
section
variable {X : Cx} {pos : Pos}
theorem pe_dnewK : PE X (.Dict [] [] pos) tDNewK := fun pins s σ H Q I h =>
  wpAny_Dict_empty ⟨.ref s.heap.objs.size, _, I.laid (a := s.heap.objs.size) (o := .dK []) (t' := s.toks) (fun _ _ q => Heap.get?_push_of_some _ q) (Nat.le_refl _) (dk_empty s.heap I.big), rfl, h _ (I.hok.fresh (Nat.le_refl _))⟩
end

section
variable {X : Cx} {pins : List (Addr × Obj)} {σ : St} {H : Hp} {s : Shared} {a : Addr} {y d : V} {u r : Value} {o : Option V} {A : Around} {E : Value → Shared → Prop}
end

section
variable {X : Cx} {o e f : Expr} {apos cpos : Pos} {td ty tx : TE}
end

/-! ### dict(d): a copy -/
section
variable {X : Cx} {pins : List (Addr × Obj)} {σ : St} {H : Hp} {s : Shared} {a : Addr} {kvs : List (Key × V)} {A : Around} {E : Value → Shared → Prop}
end


section
variable {X : Cx} {pins : List (Addr × Obj)} {σ : St} {H : Hp} {s : Shared} {a : Addr} {y : V} {u : Value} {A : Around} {E : Value → Shared → Prop}
end
end L2

namespace Att
open PySem PySem.W PySem.Calls PyProof.Rows

/-! ### the script -/
theorem ints_of_wellAll {P : Params} {h : Heap} : ∀ (ns : List Int) (vs : List Value), WellAll P h vs (ns.map WData.int) → IntsAre vs ns := by
  intro ns
  induction ns with
  | nil =>
    intro vs w
    rw [List.map_nil] at w
    cases w
    exact .nil
  | cons n ns ih =>
    intro vs w
    rw [List.map_cons] at w
    cases w with
    | cons a b =>
      cases a
      exact .cons _ _ (ih _ b)

theorem script_of {l : OpenLaw} {n : Nat} (hn : l.most = some n) {P : Params} {h : Heap} {args : List WData} {vals : List Value}
    (hpre : l.row.toRowW.claim.pre args = true) (hwl : WellAll P h vals args) :
    ∃ a vs ns, vals = [Value.ref a] ∧ args = [WData.list (ns.map WData.int)] ∧ h.get? a = some { cls := .type "list", data := .seq vs.toArray } ∧ IntsAre vs ns ∧ ns.length ≤ n := by
  have hsh : WShape.hasAll [] args [.list .int] = true := (pre_splitW hpre).1
  have hc : l.pre.holds [] { args := args } = true := (pre_splitW hpre).2
  obtain ⟨d, r, rfl, h1, h2⟩ := hasAllW_cons hsh
  obtain rfl := hasAllW_nil h2
  obtain ⟨xs, rfl, h3⟩ := hasW_list h1
  obtain ⟨ns, rfl⟩ := items_int h3
  have hlen : ns.length ≤ n := by
    unfold OpenLaw.pre at hc
    have h4 : (WTm.not (.lt (.lit (.int (n : Int))) (.len (.arg 0)))).holds [] { args := [.list (ns.map .int)] } = true := by
      have h4 := (holds_andW hc).1
      rw [hn] at h4
      exact h4
    have h5 := condW_of h4 (w_not (w_lt w_lit (w_len_list (w_arg rfl))))
    rw [List.length_map] at h5
    refine Nat.le_of_not_lt fun q => ?_
    have q' : (n : Int) < ((ns.length : Nat) : Int) := by omega
    first
      | (rw [decide_eq_true q'] at h5; exact absurd h5 (by decide))
      | (simp at h5; omega)
  cases hwl with
  | cons w1 w2 =>
    cases w2
    cases w1 with
    | list ho hall => exact ⟨_, _, ns, rfl, rfl, ho, ints_of_wellAll ns _ hall, hlen⟩

theorem post_true (l : OpenLaw) (args : List WData) : l.row.toRowW.claim.post args (.bool true) args = true :=
  postW_of (r := l.row.toRowW) (X := (true == true))
    (show WShape.has [] (.bool true) .bool = true by first | rfl | decide | simp [WShape.has, WShape.arms, WShape.armsAll])
    (show (WTm.eq .res (.lit (.bool true))).value [] { args := args, res := some (.bool true), after := args } = some (.bool (true == true)) from w_eq_bool (w_res rfl) w_lit) rfl

/-- the same from a codeAny of the CALL (for a layer whose function contracts speak of calls) -/
theorem attach_call {l : OpenLaw} {n : Nat} {q : Program} {loose : List Str} {XP : (Str → Option Value) → Heap → Prop} {YP : World → Heap → Prop} {d : DefRec}
    (hn : l.most = some n) (hdf : d.params.defaults = [])
    (call : ∀ (w : World) (s₀ s₁ : Shared) (mg mb : Str → Option Value) (fa : Addr) (o : Obj) (pm cd doc : Value) (a : Addr) (vs : List Value) (ns : List Int),
      Ground q loose [] XP w s₀ mg mb s₁.heap → YP w s₁.heap →
      s₁.heap.get? fa = some o → o.data = .func (docDef d.name d.params d.body d.scope pm cd doc) → s₁.heap.CodeRec cd d.name → mg d.name = some (.ref fa) →
      s₁.heap.get? a = some { cls := .type "list", data := .seq vs.toArray } → IntsAre vs ns → ns.length ≤ n → s₁.gens = #[] →
      codeAny (model l.prog w) callerA (.call (.ref fa) ⟨[.ref a], []⟩) (fun r s' => r = .ok (.ret (.bool true)) ∧ OldK s₁.heap s'.heap ∧ s'.os = s₁.os ∧ AllBare s'.gens) s₁) :
    WalkO q loose XP YP l.row.toRowW d [] (fun f vs => PySem.call f vs) := by
  intro w s₀ s₁ mg mb G Y fa o pm cd doc dV kV ho hd hcd hD hmg hg args vals as hpre hlay hrd hwl hlo
  obtain rfl : dV = .none := Dflts.none hD hdf
  obtain rfl : kV = .none := Dflts.noKw hD
  obtain ⟨a, vs, ns, rfl, rfl, hobj, hints, hlen⟩ := script_of hn hpre hwl
  refine enter_call (codeAny_mono (call w s₀ s₁ mg mb fa o pm cd doc a vs ns G Y ho (fd_plain hd) hcd hmg hobj hints hlen hg) fun r s' hq => ?_)
  obtain ⟨rfl, h2, h3, h4⟩ := hq
  exact ⟨.inl ⟨.bool true, .bool true, [], rfl, fun _ => rfl, .bool true, post_true l _, fun _ => ⟨List.Pairwise.nil, fun _ hm => (nomatch hm)⟩⟩, h2, h3, h4⟩

/-! ### rules over ANY heap (no ledger) from facts about the written part K: the library's own take a ledger (News) for what they write -/
section
variable {prog : Program} {w : World} {A : Around} {E : Value → Shared → Prop} {s : Shared} {K : Frag}

end
end Att

namespace L2
open PySem PySem.Spec PyProof.Rows

theorem vals_ints : ∀ {vs : List Value} {ns : List Int}, IntsAre vs ns → Vals (ns.map V.int) vs
  | _, _, .nil => .nil
  | _, _, .cons n t h => .cons ⟨t, rfl⟩ (vals_ints h)

/-- nothing is tracked but the script, known to the object (or it is an object of the module) -/
def Only (H : Hp) : Prop := ∀ b, H b = none ∨ ∃ o xs, H b = some (.frz o (.lst xs))

/-- THE HEAD: the law's promise, at the heap behind the top. F, the promise of the law's def, may use that base is part of the heap (so K.In base, base.Ns mainGlobals mg stand in Mod) -/
theorem law_call {P : Program} {w : World} {K : PySem.W.Frag} {mg mb : Str → Option Value} {CX : CXT} {k : Nat} {fa a : Addr} {fd : FuncData} {x : Str} {sp : Sp} {s₁ : Shared} {vs : List Value} {ns : List Int}
    (KX : K.In s₁.heap) (hns : s₁.heap.Ns mainGlobals mg) (hb : s₁.heap.Ns builtinsNs mb) (hbb : ∀ x : Str, x ≠ "__name__" → mb x = bootBuiltins x) (hlim : s₁.heap.NoLimit) (hg : s₁.gens = #[])
    (ha : s₁.heap.get? a = some { cls := .type "list", data := .seq vs.toArray }) (hi : IntsAre vs ns) (hl : ns.length ≤ sizeLine) (hr : Room k callerA)
    (F : ∀ base : Heap, K.In base → base.Ns mainGlobals mg → FnOk P w K mg base CX k fa fd [x] sp) (hbind : ∀ (s : Shared) (u : Value), BindsTo s fd ⟨[u], []⟩ [(x, u)])
    (hsp : ∀ H : Hp, Only H → SqL K H a (ns.map V.int) → sp [.ref a] H (fun v _ => v = .bl true) fun _ _ _ => False)
    (hCX : ∀ H e s', CX [] H s₁ (fun _ _ _ => False) e s' → False) :
    codeAny (model P w) callerA (.call (.ref fa) ⟨[.ref a], []⟩) (fun r s' => r = .ok (.ret (.bool true)) ∧ OldK s₁.heap s'.heap ∧ s'.os = s₁.os ∧ AllBare s'.gens) s₁ := by
  have rv := vals_ints hi
  have lenV := hi.length
  -- from an abstract heap in which nothing but the script may be tracked
  have core : ∀ H : Hp, Only H → SqL K H a (ns.map V.int) → HOk P w H s₁.heap → (∀ b, H b ≠ none → b = a) → (H a ≠ none → K.lookup a = none) →
      codeAny (model P w) callerA (.call (.ref fa) ⟨[.ref a], []⟩) (fun r s' => r = .ok (.ret (.bool true)) ∧ OldK s₁.heap s'.heap ∧ s'.os = s₁.os ∧ AllBare s'.gens) s₁ := by
    intro H hO hS hok hA hK
    have base_of : ∀ {b : Addr} {o : Obj}, s₁.heap.get? b = some o → H b = none → (hidT s₁.heap H).get? b = some o := fun e n => hidT_get e n
    have noA : ∀ {b : Addr} {o : Obj} {es : Array DictEntry} {ep : Nat}, s₁.heap.get? b = some o → o.data = .dict es ep → H b = none := fun {b o es ep} e d => by
      cases q : H b with
      | none => rfl
      | some u =>
        have e' : b = a := hA b (by rw [q]; simp)
        subst e'
        rw [ha] at e; cases e
        have d' : Data.seq vs.toArray _ = Data.dict es ep := d
        cases d'
    have nsK : ∀ {b : Addr} {m : Str → Option Value}, s₁.heap.Ns b m → (hidT s₁.heap H).Ns b m := fun {b m} ⟨o, es, ep, e, d, r⟩ => ⟨o, es, ep, base_of e (noA e d), d, r⟩
    have hKb : K.In (hidT s₁.heap H) := fun b o e => base_of (KX b o e) (by
      cases q : H b with
      | none => rfl
      | some u =>
        have e' : b = a := hA b (by rw [q]; simp)
        subst e'
        rw [hK (by rw [q]; simp)] at e; cases e)
    have hM : Mod K mg (hidT s₁.heap H) := ⟨hKb, nsK hns, ⟨mb, nsK hb, hbb⟩, let ⟨mc, h1, h2⟩ := hlim; ⟨mc, nsK h1, h2⟩⟩
    have e0 : Env0 P w K mg (hidT s₁.heap H) callerA [] s₁ H := ⟨rfl, hM, fun b o e => of_hidT e, Nat.le_of_eq (hidT_size _ _), trivial, fun b hb => absurd (show b ∈ ([] : List Addr) from hb) (by simp), hok, .of_eq hg⟩
    refine codeAny_mono ((F _ hKb (nsK hns)).run callerA [] s₁ H ⟨[.ref a], []⟩ [.ref a] [.ref a] _ _ hr e0 (hbind s₁ (.ref a)) (.cons rfl .nil) (hsp H hO hS)) fun r s' h => ?_
    cases r with
    | error e => exact (hCX H e s' h).elim
    | ok fl =>
      cases fl with
      | next => exact False.elim h
      | brk => exact False.elim h
      | cont => exact False.elim h
      | ret u =>
        obtain ⟨v, H', os, bare, un, hok', r', q⟩ := h
        have q' : v = .bl true := q
        subst q'
        obtain rfl : u = Value.bool true := r'
        refine ⟨rfl, OldK.of_keep fun b o e => ?_, os, bare⟩
        cases q : H b with
        | none => exact un.keep b o e q (by intro z; exact absurd (show b ∈ ([] : List Addr) from z) (by simp)) (by simp)
        | some u =>
          rcases hO b with z | ⟨ob, xs, z⟩
          · rw [q] at z; cases z
          · have z2 := un.frzs b ob _ z
            obtain ⟨e1, _⟩ := hok b _ z
            obtain ⟨e2, _⟩ := hok' b _ z2
            rw [e] at e1; cases e1
            exact e2
  cases hk : K.lookup a with
  | some o =>
    -- the script is one of the module's own objects
    have e := KX a o hk
    rw [ha] at e
    cases e
    refine core (fun _ => none) (fun _ => .inl rfl) (.inr ⟨_, vs.toArray, _, hk, rfl, rfl, rfl, by rw [List.size_toArray, lenV]; exact hl, by simpa using rv⟩) (fun b u z => by have z' : (none : Option HO) = some u := z; cases z') (fun b z => absurd rfl z) fun z => absurd rfl z
  | none =>
    refine core (fun b => if b = a then some (.frz { cls := .type "list", data := .seq vs.toArray } (.lst (ns.map V.int))) else none) (fun b => ?_) (.inl (.inr ⟨{ cls := .type "list", data := .seq vs.toArray }, if_pos rfl⟩)) (fun b u z => ?_) (fun b z => ?_) fun _ => hk
    · by_cases hb : b = a
      · exact .inr ⟨_, _, if_pos hb⟩
      · exact .inl (if_neg hb)
    · by_cases hb : b = a
      · have z' := (if_pos hb).symm.trans z
        cases z'
        subst hb
        exact ⟨ha, by rw [List.length_map]; exact hl, vs, _, rv, ha⟩
      · have z' := (if_neg hb).symm.trans z
        cases z'
    · by_cases hb : b = a
      · exact hb
      · exact absurd (if_neg hb) z
end L2

namespace L2
open PySem PySem.Spec PyProof.Rows

/-- the goal that k_head leaves (case hc), from the law's promise. F gives the function object fd (K's own) once, then the promise over every base -/
theorem walk_of {l : PySem.W.OpenLaw} {n k : Nat} {q : Program} {loose : List Str} {XP : (Str → Option Value) → Heap → Prop} {YP : World → Heap → Prop} {d : DefRec} {K : Params → PySem.W.Frag} {CX : World → CXT} {sp : World → Sp} {x : Str}
    (hn : l.most = some n) (hn2 : n ≤ sizeLine) (hdf : d.params.defaults = []) (hr : Room k callerA)
    (hY : ∀ (w : World) (h : Heap), YP w h → (K w.params).In h)
    (F : ∀ (w : World) (mg : Str → Option Value) (fa : Addr) (h : Heap), (K w.params).In h → h.Ns mainGlobals mg → mg d.name = some (.ref fa) →
      ∃ fd : FuncData, (∀ (s : Shared) (u : Value), BindsTo s fd ⟨[u], []⟩ [(x, u)]) ∧
        ∀ base : Heap, (K w.params).In base → base.Ns mainGlobals mg → FnOk l.prog w (K w.params) mg base (CX w) k fa fd [x] (sp w))
    (hsp : ∀ (w : World) (H : Hp) (a : Addr) (ns : List Int), ns.length ≤ n → Only H → SqL (K w.params) H a (ns.map V.int) → sp w [.ref a] H (fun v _ => v = .bl true) fun _ _ _ => False)
    (hCX : ∀ (w : World) (H : Hp) (s : Shared) (e : Value) (s' : Shared), CX w [] H s (fun _ _ _ => False) e s' → False) :
    PySem.W.WalkO q loose XP YP l.row.toRowW d [] (fun f vs => PySem.call f vs) := by
  refine Att.attach_call hn hdf fun w s₀ s₁ mg mb fa o pm cd doc a vs ns G Y ho hd hcd hmg hobj hints hlen hg => ?_
  have KX := hY w _ Y
  obtain ⟨fd, hb, hF⟩ := F w mg fa _ KX G.T.g hmg
  exact law_call KX G.T.g G.T.b G.T.builtins G.T.nolimit hg hobj hints (Nat.le_trans hlen hn2) hr hF hb (fun H hO hS => hsp w H a ns hlen hO hS) fun H e s' => hCX w H s₁ e s'
end L2

/- THE LAST THEOREM (shape; LID, My.* are yours):
   My.Adr: a structure of the addresses that your layer names (classes, functions); My.Txt K t: a structure (Prop) of the equations over K;
   My.txt_mk : {K} {implicit addresses ..} (e1 : nsIn K mainGlobals "law" = some (some (.ref f))) (e2 : K.lookup f = some ⟨oc, od, .func (fnOf "law" "law" params body scope dV kV doc pm an cdv ct), sl⟩) (e3 : codeIn K cdv "law" = true) .. : ∃ t, My.Txt K t

set_option maxRecDepth 100000 in
set_option maxHeartbeats 0 in
theorem PySem.Challenge.cw_LID_holds : PySem.Challenge.rw_LID.Holds := by
  w_on; o_law; k_head; (case hw => w_witness2)
  k_fill
  refine L2.walk_of (l := PySem.Challenge.rw_LID) (n := 63) (k := 40) (x := "script") (CX := fun w => ..) (sp := fun _ => My.sp_law) rfl (by decide) rfl ⟨rfl, by decide, by decide⟩ (fun w h Y => PySem.W.kIn_of Y) ?F ?S ?C
  case F =>
    intro w mg fa h KX G hmg
    have T : ∃ t, My.Txt (L2.KOf KX) t := by
      dsimp only [L2.KOf]                          -- K must stand as «<heap const> w.params» for k_is
      refine' My.txt_mk ?e1 ?e2 ?e3 ..
      (case e1 => PySem.W.k_is)                    -- in the order: a name -> its address -> its object -> its parts
      (case e2 => PySem.W.k_is)
      ..
    obtain ⟨t, T⟩ := T
    have e0 := hmg.symm.trans (PySem.W.mg_of KX G T.law)
    cases e0                                       -- fa is the law's own address
    exact ⟨_, fun s u => .of_eq rfl, fun base kb nb => My.law_fn T kb nb⟩     -- if «.of_eq rfl» comes too early: refine' ⟨_, ?b, fun base kb nb => My.law_fn T kb nb⟩; exact fun s u => .of_eq rfl
  case S => exact fun w H a ns hl hO hS => ..
  case C => exact ..
(the tactic k_is has no namespace: write k_is) -/

/-! SHORT WORDS over the layer: a def of the text, its body, what a loop and a test want. -/
namespace L2
open PySem PySem.Spec PyProof.Rows

def defArgs (s : Stmt) : Arguments := match s with
  | .FunctionDef _ a _ _ _ _ _ _ _ _ => a
  | _ => { posonlyargs := [], args := [], vararg := none, kwonlyargs := [], kw_defaults := [], kwarg := none, defaults := [] }
def defBody (s : Stmt) : List Stmt := match s with
  | .FunctionDef _ _ b _ _ _ _ _ _ _ => b
  | _ => []
def defScope (s : Stmt) : Scope := match s with
  | .FunctionDef _ _ _ _ _ _ sc _ _ _ => sc
  | _ => { kind := .function, names := [], isGenerator := false, isCoroutine := false }

/-! ### no exception leaves a def -/
abbrev CX0 : CXT := fun _ _ _ _ _ _ => False
abbrev E0 : XK := fun _ _ _ => False
theorem pass0 {X : Cx} : Passes CX0 X E0 := fun _ _ _ _ _ _ _ h => h.elim

/-! ### a def (or method) of the text as it stands behind the top -/
structure Fun (K : PySem.W.Frag) (x qual : Str) (st : Stmt) (f : Addr) (fd : FuncData) : Prop where
  ex : ∃ (oc : Value) (od : Option Addr) (kV doc pm : Value) (an : Option Addr) (cdv ct : Value) (osl : Array (Option Value)),
    fd = PySem.W.fnOf x qual (defArgs st) (defBody st) (defScope st) .none kV doc pm an cdv ct ∧ K.lookup f = some ⟨oc, od, .func fd, osl⟩ ∧ PySem.W.codeIn K cdv qual = true
  kp : PySem.W.keepIn K (.ref f) = true
section
variable {P : Program} {w : World} {K : PySem.W.Frag} {mg : Str → Option Value} {base : Heap}
/-- THE RULE for a def: its body as a term of rules, and the reading of that term -/
theorem Fun.ok {x qual : Str} {st : Stmt} {f : Addr} {fd : FuncData} {N ps : List Str} {k : Nat} {sp : Sp} (F : Fun K x qual st f fd) (S : FnScope N ps (defScope st)) (len : ∀ vs H Q E, sp vs H Q E → vs.length = ps.length)
    (hbody : ∀ (cdv : Value) (A : Around) (outer : List Env) (s : Shared) (H : Hp) (vs : List V) (Q : VK) (E : XK), Room k (A.deeper (envOfC qual (defScope st) s.heap.objs.size f cdv)) → sp vs H Q E →
      ∃ t, PSs (cxOf CX0 P w K mg base N qual (defScope st) f cdv A outer s H E).nox (defBody st) t ∧ t { nx := fun _ H' => Q .non H', rt := Q } (start N vs) H) : FnOk P w K mg base CX0 (k + 1) f fd ps sp := by
  obtain ⟨oc, od, kV, doc, pm, an, cdv, ct, osl, rfl, lk, hcd⟩ := F.ex
  refine fn_of lk hcd S len fun A outer s H vs Q E hr hsp => ?_
  obtain ⟨t, h, q⟩ := hbody cdv A outer s H vs Q E hr hsp
  exact ⟨t, h.nox, q⟩
/-- how its arguments bind (no defaults): h is «fun _ _ _ _ _ _ us hl => match us, hl with | [_, _], _ => rfl», one _ a parameter -/
theorem Fun.binds {x qual : Str} {st : Stmt} {f : Addr} {fd : FuncData} {ps : List Str} (F : Fun K x qual st f fd)
    (h : ∀ (kV doc pm : Value) (an : Option Addr) (cdv ct : Value) (us : List Value), us.length = ps.length → bindArgs (PySem.W.fnOf x qual (defArgs st) (defBody st) (defScope st) .none kV doc pm an cdv ct) ⟨us, []⟩ = pure (ps.zip us)) : Binds K fd ps [] := by
  obtain ⟨oc, od, kV, doc, pm, an, cdv, ct, osl, rfl, lk, hcd⟩ := F.ex
  exact .all (h kV doc pm an cdv ct)
theorem fun_mk {x qual : Str} {st : Stmt} {f : Addr} {oc : Value} {od an : Option Addr} {osl : Array (Option Value)} {kV doc pm cdv ct : Value} (l : K.lookup f = some ⟨oc, od, .func (PySem.W.fnOf x qual (defArgs st) (defBody st) (defScope st) .none kV doc pm an cdv ct), osl⟩)
    (c : PySem.W.codeIn K cdv qual = true) (k : PySem.W.keepIn K (.ref f) = true) : Fun K x qual st f (PySem.W.fnOf x qual (defArgs st) (defBody st) (defScope st) .none kV doc pm an cdv ct) := ⟨⟨oc, od, kV, doc, pm, an, cdv, ct, osl, rfl, l, c⟩, k⟩
end
/-! ### expressions in short: the name that stands in the i-th slot -/
section
variable {X : Cx}
theorem pv (i : Nat) {x : Str} {pos : Pos} (hN : X.N[i]? = some x := by rfl) (hv : Vis X.env.scope x := by first | exact Or.inl rfl | exact Or.inr (Or.inl rfl) | exact Or.inr (Or.inr rfl)) (hd : (x == ("__debug__" : Str)) = false := by decide)
    (hcd : (x == ("__classdict__" : Str)) = false := by decide) : PE X (.Name x pos) (tVar i) := pe_var hN hv hd hcd
end

/-! ### tests -/
theorem iteF {A B : Prop} (h : B) : if false = true then A else B := by
  rw [if_neg Bool.false_ne_true]
  exact h
theorem iteT {A B : Prop} (h : A) : if true = true then A else B := by
  rw [if_pos rfl]
  exact h
theorem ite2 {c A B : Prop} [Decidable c] (h1 : c → A) (h2 : ¬ c → B) : if c then A else B := by
  by_cases h : c
  · rw [if_pos h]
    exact h1 h
  · rw [if_neg h]
    exact h2 h
/-! ### heaps -/
/-- all that was tracked is as it was -/
def Same (H H' : Hp) : Prop := ∀ b o, H b = some o → H' b = some o
theorem Same.trans {H H1 H2 : Hp} (a : Same H H1) (b : Same H1 H2) : Same H H2 := fun c o h => b c o (a c o h)
theorem Same.free {H H' : Hp} (e : Same H H') {l : Addr} (h : H' l = Option.none) : H l = Option.none := by
  cases q : H l with
  | none => rfl
  | some o =>
    rw [e l o q] at h
    cases h
theorem Same.seq {K : PySem.W.Frag} {H H' : Hp} {a : Addr} {xs : List V} (e : Same H H') (h : SqL K H a xs) : SqL K H' a xs := by
  rcases h with (h | ⟨o, h⟩) | h
  · exact .inl (.inl (e _ _ h))
  · exact .inl (.inr ⟨o, e _ _ h⟩)
  · exact .inr h

/-! ### a dict's pairs: keys that differ -/
section
variable {κ : Type} [DecidableEq κ]
end
end L2
end
section
set_option Elab.async false
set_option linter.all false
set_option maxRecDepth 100000
set_option maxHeartbeats 4000000
namespace L2
open PySem PySem.Spec PyProof.Rows
/-! ### list comprehensions: one clause, no test or one -/
/-- the closure that a comprehension's block gets -/
def clGo (env : Env) : List (Str × NameKind) → List (Str × Addr) → List (Str × Addr)
  | [], cs => cs
  | (n, k) :: r, cs => clGo env r (if k == .free then (n, (env.cells.lookup n).getD 0) :: cs else cs)
theorem clGo_forIn (env : Env) : ∀ (names : List (Str × NameKind)) (cs : List (Str × Addr)), (∀ x ∈ names, x.2 = .free → ∃ c, env.cells.lookup x.1 = some c) →
    (forIn names cs (fun (x : Str × NameKind) (r : List (Str × Addr)) => (do
      if x.2 == NameKind.free then
        let a ← cellOf env x.1
        pure (ForInStep.yield ((x.1, a) :: r))
      else pure (ForInStep.yield r) : Sem (ForInStep (List (Str × Addr)))))) = pure (clGo env names cs)
  | [], cs, _ => rfl
  | (n, k) :: r, cs, h => by
    have ih := fun cs => clGo_forIn env r cs fun x hx => h x (List.mem_cons_of_mem _ hx)
    rw [List.forIn_cons]
    by_cases hk : k = .free
    · subst hk
      obtain ⟨c, hc⟩ := h (n, .free) List.mem_cons_self rfl
      have e : cellOf env n = pure c := by
        have hc' : env.cells.lookup n = some c := hc
        unfold cellOf
        rw [hc']
        try rfl
      rw [if_pos (show (((n, NameKind.free).2 == NameKind.free) = true) from rfl), e]
      refine Eq.trans ?_ ((ih ((n, c) :: cs)).trans ?_)
      · rfl
      · have hc' : env.cells.lookup n = some c := hc
        show pure (clGo env r ((n, c) :: cs)) = pure (clGo env r ((n, (env.cells.lookup n).getD 0) :: cs))
        rw [hc']
        rfl
    · have hb : (k == NameKind.free) = false := by simpa using hk
      rw [if_neg (show ¬ (((n, k).2 == NameKind.free) = true) by rw [show ((n, k).2 == NameKind.free) = false from hb]; simp)]
      refine Eq.trans ?_ ((ih cs).trans ?_)
      · rfl
      · show pure (clGo env r cs) = pure (clGo env r (if (k == NameKind.free) = true then _ else cs))
        rw [hb]
        rfl
theorem closure_eq {scope : Scope} {env : Env} (h : ∀ x ∈ scope.names, x.2 = .free → ∃ c, env.cells.lookup x.1 = some c) : closureFor scope env = pure (clGo env scope.names []) := by
  have e := clGo_forIn env scope.names [] h
  unfold closureFor
  simp only [bind_pure_comp, map_pure] at e ⊢
  first
    | (rw [e]; rfl)
    | exact e

theorem clGo_in {env : Env} : ∀ {names : List (Str × NameKind)} {cs : List (Str × Addr)} {x : Str} {c : Addr}, (∀ y ∈ names, y.2 = .free → ∃ c, env.cells.lookup y.1 = some c) →
    (clGo env names cs).lookup x = some c → env.cells.lookup x = some c ∨ cs.lookup x = some c
  | [], cs, x, c, _, h => .inr h
  | (n, k) :: r, cs, x, c, hf, h => by
    have hf' : ∀ y ∈ r, y.2 = .free → ∃ c, env.cells.lookup y.1 = some c := fun y hy => hf y (List.mem_cons_of_mem _ hy)
    rcases clGo_in (names := r) hf' h with q | q
    · exact .inl q
    · by_cases hk : (k == NameKind.free) = true
      · rw [if_pos hk] at q
        have hk' : k = .free := by simpa using hk
        obtain ⟨c', e⟩ := hf (n, k) List.mem_cons_self hk'
        have e : env.cells.lookup n = some c' := e
        rw [List.lookup_cons] at q
        cases hx : x == n with
        | true =>
          rw [hx] at q
          have hx' : x = n := by simpa using hx
          subst hx'
          rw [e] at q
          have q' : c' = c := by simpa using q
          exact .inl (q' ▸ e)
        | false =>
          rw [hx] at q
          exact .inr q
      · rw [if_neg hk] at q
        exact .inr q
theorem clGo_has {env : Env} : ∀ {names : List (Str × NameKind)} {cs : List (Str × Addr)} {x : Str}, ((x, NameKind.free) ∈ names ∨ (cs.lookup x).isSome = true) → ((clGo env names cs).lookup x).isSome = true
  | [], cs, x, h => by
    rcases h with h | h
    · simp at h
    · exact h
  | (n, k) :: r, cs, x, h => by
    refine clGo_has (names := r) ?_
    rcases h with h | h
    · rcases List.mem_cons.mp h with e | e
      · cases e
        refine .inr ?_
        rw [if_pos (by rfl), List.lookup_cons, beq_self_eq_true]
        rfl
      · exact .inl e
    · refine .inr ?_
      by_cases hk : (k == NameKind.free) = true
      · rw [if_pos hk, List.lookup_cons]
        cases hx : x == n with
        | true => rfl
        | false => exact h
      · rw [if_neg hk]
        exact h
theorem lookup_relabel (env : Env) : ∀ (names : List (Str × NameKind)) (x : Str),
    (names.map fun (n, k) => if (k == NameKind.free && env.scope.kind == .function && env.kindOf n == some .cell) then (n, NameKind.cell) else (n, k)).lookup x = (names.lookup x).map fun k => if (k == NameKind.free && env.scope.kind == .function && env.kindOf x == some .cell) then NameKind.cell else k
  | [], _ => rfl
  | (n, k) :: r, x => by
    have ih := lookup_relabel env r x
    rw [List.map_cons]
    dsimp only at ih ⊢
    by_cases hc : (k == NameKind.free && env.scope.kind == .function && env.kindOf n == some .cell) = true
    · rw [if_pos hc, List.lookup_cons, List.lookup_cons]
      cases hx : x == n with
      | true =>
        have hx' : x = n := by simpa using hx
        subst hx'
        simp only [Option.map_some, hc, if_true]
      | false => exact ih
    · rw [if_neg hc, List.lookup_cons, List.lookup_cons]
      cases hx : x == n with
      | true =>
        have hx' : x = n := by simpa using hx
        subst hx'
        simp only [Option.map_some]
        rw [if_neg hc]
      | false => exact ih
/-- the context of a comprehension's block -/
def cxComp (X : Cx) (N : List Str) (scope : Scope) (C : Addr) (s : Shared) (H : Hp) (fp : List Addr) (pins : List (Addr × Obj)) : Cx :=
  { X with N := N, s₀ := s, H₀ := H, env := compEnvC scope (clGo X.env scope.names []) C X.env, outer := X.stack, ex := fp, fn := fun _ => false, pn := X.pn ++ pins, xe := fun _ _ => False }
/-- the values of the names at the block's entry: fr says where a free name stands outside -/
def compSt (fr : List (Option Nat)) (σ : St) : St := fr.map fun o => o.bind fun i => (σ[i]?).join
/-- what is asked of the written scope -/
structure CompScope (X : Cx) (N : List Str) (fr : List (Option Nat)) (scope : Scope) : Prop where
  nd : N.Nodup
  len : fr.length = N.length
  kind : scope.kind = .function
  nocell : ∀ y ∈ scope.names, y.2 ≠ .cell
  names : ∀ y ∈ scope.names, y.2 = .local → scope.names.lookup y.1 = some .local
  frees : ∀ y ∈ scope.names, y.2 = .free → X.env.kindOf y.1 = some .cell ∨ X.env.kindOf y.1 = some .free
  fr : ∀ (j i : Nat) (x : Str), fr[j]? = some (some i) → N[j]? = some x → X.N[i]? = some x ∧ scope.names.lookup x = some .free
section
variable {X : Cx} {pins : List (Addr × Obj)} {σ : St} {H : Hp} {s : Shared} {N : List Str} {fr : List (Option Nat)} {scope : Scope} {fp : List Addr}
theorem CompScope.cells (S : CompScope X N fr scope) (ok : X.Ok) : ∀ y ∈ scope.names, y.2 = .free → ∃ c, X.env.cells.lookup y.1 = some c := fun y hy hf => ok.has y.1 (S.frees y hy hf)
theorem mem_of_lookup' {names : List (Str × NameKind)} {x : Str} {k : NameKind} (h : names.lookup x = some k) : (x, k) ∈ names := PySem.mem_of_lookup h
theorem comp_kind {X : Cx} {C : Addr} {x : Str} : (compEnvC scope (clGo X.env scope.names []) C X.env).kindOf x = (scope.names.lookup x).map fun k => if (k == NameKind.free && X.env.scope.kind == .function && X.env.kindOf x == some .cell) then NameKind.cell else k := lookup_relabel X.env scope.names x
theorem CompScope.free_of (S : CompScope X N fr scope) {C : Addr} {x : Str} (h : (compEnvC scope (clGo X.env scope.names []) C X.env).kindOf x = some .cell ∨ (compEnvC scope (clGo X.env scope.names []) C X.env).kindOf x = some .free) : scope.names.lookup x = some .free := by
  rw [comp_kind] at h
  cases e : scope.names.lookup x with
  | none => rw [e] at h; simp at h
  | some k =>
    rw [e] at h
    have nc := S.nocell _ (mem_of_lookup' e)
    cases k with
    | free => rfl
    | cell => exact absurd rfl nc
    | _ =>
      exfalso
      rcases h with h | h <;> simp at h
theorem comp_free {X : Cx} {C : Addr} {x : Str} (h : scope.names.lookup x = some .free) : (compEnvC scope (clGo X.env scope.names []) C X.env).kindOf x = some .cell ∨ (compEnvC scope (clGo X.env scope.names []) C X.env).kindOf x = some .free := by
  rw [comp_kind, h, Option.map_some]
  by_cases c : (NameKind.free == NameKind.free && X.env.scope.kind == .function && X.env.kindOf x == some .cell) = true
  · rw [if_pos c]; exact .inl rfl
  · rw [if_neg c]; exact .inr rfl
end
end L2
end
section
set_option Elab.async false
set_option linter.all false
set_option maxRecDepth 100000
set_option maxHeartbeats 4000000
namespace L2
open PySem PySem.Spec PyProof.Rows
section
variable {X : Cx} {pins : List (Addr × Obj)} {σ : St} {H : Hp} {s : Shared} {N : List Str} {fr : List (Option Nat)} {scope : Scope} {fp : List Addr}
/-- the block's entry: s the state ahead of the new frame, C its address, h1 the heap behind -/
theorem comp_start {C : Addr} {h1 : Heap} {m : Str → Option Value} {t : Nat} (S : CompScope X N fr scope) (I : Inv X pins σ H s) (hf : ∀ b ∈ fp, FpOk X pins H b) (hC : s.heap.objs.size ≤ C) (hfC : ∀ b ∈ fp, b ≠ C)
    (hn : h1.Ns C m) (hk : ∀ b o, s.heap.get? b = some o → h1.get? b = some o) : Inv (cxComp X N scope C s H fp pins) [] (compSt fr σ) H { s with heap := h1, toks := t } := by
  have hcl := S.cells I.ok
  have sub : ∀ x c, (clGo X.env scope.names []).lookup x = some c → X.env.cells.lookup x = some c := fun x c e => by
    rcases clGo_in hcl e with q | q
    · exact q
    · simp at q
  have ok : (cxComp X N scope C s H fp pins).Ok := by
    refine ⟨I.ok.mod, S.kind, I.ok.glob, I.ok.blt, hC, fun x y c h1 h2 => I.ok.inj x y c (sub x c h1) (sub y c h2), fun x hx => ?_, fun x c e => absurd e (by show ¬ (false = true); decide), I.ok.hd, I.ok.frames, .inl rfl, fun b hb => ?_, fun b o e => I.bs b o e, Nat.le_trans I.ok.bsz I.sz, fun b o e hb => ?_, fun b hb => ?_, I.stack, I.stkFree⟩
    · have e := S.free_of hx
      exact Option.isSome_iff_exists.mp (clGo_has (.inl (mem_of_lookup' e)))
    · exact ⟨hfC b hb, fun x c e => (hf b hb).2.2.2.2.1 x c (sub x c e)⟩
    · rcases (hf b hb).2.2.2.1 with z | z
      · exact I.ok.noex b o e z
      · exact absurd (Nat.lt_of_lt_of_le (Heap.lt_size e) (Nat.le_trans I.ok.bsz z)) (Nat.lt_irrefl _)
    · intro z
      rcases List.mem_cons.mp (I.stkSub b z) with q | q
      · exact (hf b hb).2.1 q
      · exact (hf b hb).2.2.1 q
  have hfresh : H C = none := I.hok.fresh hC
  refine ⟨ok, rfl, I.bare, Un.kept hk, ⟨m, hn, fun j x v e1 e2 e3 => ?_⟩, fun x c e => ?_, hfresh, fun x c e => I.freeC x c (sub x c e), fun p hp => ?_, I.hok.kept hk, ?_⟩
  · have e2 : (compSt fr σ)[j]? = some (some v) := e2
    unfold compSt at e2
    rw [List.getElem?_map] at e2
    cases q : fr[j]? with
    | none => rw [q] at e2; cases e2
    | some o =>
      rw [q] at e2
      cases o with
      | none => cases e2
      | some i =>
        have e2 : (σ[i]?).join = some v := Option.some.inj e2
        obtain ⟨hi, hfree⟩ := S.fr j i x q e1
        have hσ : σ[i]? = some (some v) := by
          cases z : σ[i]? with
          | none => rw [z] at e2; cases e2
          | some y => rw [z] at e2; cases y with
            | none => cases e2
            | some y' => have e2 : some y' = some v := e2; rw [e2]
        obtain ⟨m0, _, hl⟩ := I.loc
        have hcf : X.env.kindOf x = some .cell ∨ X.env.kindOf x = some .free := S.frees (x, .free) (mem_of_lookup' hfree) rfl
        have hvis : Vis X.env.scope x := hcf.elim (fun z => .inr (.inl z)) fun z => .inr (.inr z)
        obtain ⟨u, r, lk⟩ := hl i x v hi hσ hvis
        rcases lk with ⟨z, _⟩ | ⟨_, c, ec, hcell⟩
        · rcases hcf with y | y <;> (rw [y] at z; cases z)
        · refine ⟨u, r, .inr ⟨comp_free hfree, ?_⟩⟩
          obtain ⟨c', ec'⟩ := Option.isSome_iff_exists.mp (clGo_has (env := X.env) (names := scope.names) (cs := []) (.inl (mem_of_lookup' hfree)))
          have := sub x c' ec'
          rw [ec] at this
          cases this
          obtain ⟨o, ho, hd⟩ := hcell
          exact ⟨c, ec', o, hk c o ho, hd⟩
  · obtain ⟨v, o, ho, hd⟩ := I.cell x c (sub x c e)
    exact ⟨v, o, hk c o ho, hd⟩
  · have hp : p ∈ (X.pn ++ pins) ++ [] := hp
    rw [List.append_nil] at hp
    obtain ⟨e, n, ne, nf, d⟩ := I.pin p hp
    refine ⟨hk _ _ e, n, fun z => ?_, fun z => ?_, d⟩
    · have z : p.1 = C := z
      exact absurd (Nat.lt_of_lt_of_le (Heap.lt_size e) hC) (by rw [z]; exact Nat.lt_irrefl _)
    · rcases List.mem_cons.mp (I.stkSub p.1 z) with q | q
      · exact ne q
      · exact nf q
  · show (compSt fr σ).length = N.length
    unfold compSt
    rw [List.length_map]
    exact S.len
/-- behind the block -/
theorem comp_end {C : Addr} {H2 : Hp} {s' : Shared} {σ' : St} {p' : List (Addr × Obj)} (I : Inv X pins σ H s) (hf : ∀ b ∈ fp, FpOk X pins H b) (hC : s.heap.objs.size ≤ C) (J : Inv (cxComp X N scope C s H fp pins) p' σ' H2 s') :
    Inv X pins σ H2 s' ∧ FpOk X pins H2 C := by
  have J0 : Inv X pins σ H2 s' := I.call' J.os J.base J.hok J.bare fun b hb => ⟨(hf b hb).2.2.2.1, (hf b hb).2.1, (hf b hb).2.2.2.2.1, (hf b hb).2.2.2.2.2⟩
  exact ⟨J0, I.fpOk hC J.free⟩
end
end L2
end
section
set_option Elab.async false
set_option linter.all false
set_option maxRecDepth 100000
set_option maxHeartbeats 4000000
namespace L2
open PySem PySem.Spec PyProof.Rows
/-- the tests of a clause -/
def PIf (X : Cx) (ifs : List Expr) (t : TT) : Prop :=
  ∀ (pins : List (Addr × Obj)) (s : Shared) (σ : St) (H : Hp) (Q : Bool → Hp → Prop), Inv X pins σ H s → t σ H Q →
    wpAny (model X.prog X.w) X.A (forIn ifs true fun c r => if r = true then do let ok ← isTrue c X.env (eval c X.env); pure (ForInStep.yield ok) else pure (ForInStep.yield r)) (TP X pins σ Q) X.xe s
theorem pif_nil {X : Cx} : PIf X [] (fun _ H Q => Q true H) := fun _ _ _ H _ I h => wpAny_tests_nil ⟨H, I, h⟩
theorem pif_one {X : Cx} {c : Expr} {t : TT} (h : PT X c t) : PIf X [c] t := fun pins s σ H Q I q => wpAny_tests_one (h pins s σ H Q I q)
/-- the comprehension's block: J the walk, D the new list; W: turn, measure, the block's names, the list so far, heap -/
def tBlock (J : It) (g : TG) (tt : TT) (te : TE) (D : Addr) (σ' : St) (H1 : Hp) (Q : Hp → Prop) : Prop :=
  ∃ W : Nat → Nat → St → List V → Hp → Prop, (∃ m, W 0 m σ' [] (upd H1 D (.lst []))) ∧ ∀ i m σ ys H, W i m σ ys H →
    (J.stop i H ∧ Q H) ∨ (J.go i H ∧ ∃ N : St → List V → Hp → Prop, (∀ σ' ys' H', N σ' ys' H' → ∃ m', m' < m ∧ W (i + 1) m' σ' ys' H') ∧ ∀ x H', J.yld i H x H' → g x σ H' fun σ2 H2 => tt σ2 H2 fun b H3 =>
      if b = true then te σ2 H3 fun y H4 => H4 D = some (.lst ys) ∧ ys.length < sizeLine ∧ N σ2 (ys ++ [y]) (upd H4 D (.lst (ys ++ [y]))) else N σ2 ys H3)
theorem comp_loop {P : Program} {w : World} {A : Around} {elt target iter : Expr} {ifs : List Expr} {scope : Scope} {pos : Pos} {it acc : Value} {env : Env} {R : Result → Shared → Prop} {s : Shared} (I : Nat → Shared → Prop)
    (turn : ∀ n s, I n s → wpAny (model P w) A (pyNext it) (fun r s1 => match r with
      | none => R (.ok .next) s1
      | some v => wpAny (model P w) A (letOwnedTupleGo target it v) (fun _ s1' => wpAny (model P w) A (assign target env v) (fun _ s2 =>
          wpAny (model P w) A (forIn ifs true fun c r => if r = true then do let ok ← isTrue c env (eval c env); pure (ForInStep.yield ok) else pure (ForInStep.yield r)) (fun ok s3 =>
            if ok = true then wpAny (model P w) A (eval elt env) (fun x s4 =>
              wpAny (model P w) A (call (.builtin "list.append") [acc, x]) (fun _ s5 => ∃ m, m < n ∧ I m s5) (fun _ _ => False) s4) (fun _ _ => False) s3
            else ∃ m, m < n ∧ I m s3) (fun _ _ => False) s2) (fun _ _ => False) s1') (fun _ _ => False) s1) (fun _ _ => False) s)
    (n : Nat) (h : I n s) :
    codeAny (model P w) A (.compLoop (.ListComp elt [⟨target, iter, ifs, 0⟩] scope pos) 0 it acc env) R s := by
  have no : ∀ (e : Value) (t : Shared), False → notedBy (model P w) A env (fun e s' => R (.error e) s') e t := fun _ _ z => z.elim
  refine codeAny_loop rfl I (fun n s hI => ?_) n h
  refine wpAny_noted ?_
  rw [compTurn_list]
  refine wpAny_bind (wpAny_standAt (wpAny_bind (wpAny_mono (turn n s hI) (fun r s1 h1 => ?_) no)))
  cases r with
  | none => exact wpAny_pure h1
  | some v =>
    refine wpAny_bind (wpAny_mono h1 (fun _ s1' h1' => ?_) no)
    refine wpAny_bind (wpAny_mono h1' (fun _ s2 h2 => wpAny_bind (wpAny_mono h2 (fun ok s3 h3 => ?_) no)) no)
    cases ok with
    | false => exact wpAny_pure ⟨rfl, h3⟩
    | true =>
      exact wpAny_bind (wpAny_bind (wpAny_mono h3 (fun x s4 h4 => wpAny_bind (wpAny_mono h4 (fun _ s5 h5 => wpAny_pure (wpAny_pure ⟨rfl, h5⟩)) no)) no))
section
variable {X : Cx} {pins : List (Addr × Obj)} {σ : St} {H : Hp} {s : Shared} {N : List Str} {fr : List (Option Nat)} {scope : Scope} {fp : List Addr}
end
end L2
end
section
set_option Elab.async false
set_option linter.all false
set_option maxRecDepth 100000
set_option maxHeartbeats 4000000
namespace L2
open PySem PySem.Spec PyProof.Rows
def tComp (wi : TI) (g : TG) (tt : TT) (te : TE) (fr : List (Option Nat)) : TE := fun σ H Q => wi σ H fun J H1 => ∀ D, H1 D = none → tBlock J g tt te D (compSt fr σ) H1 fun H2 => Q (.ref D) H2
section
variable {X : Cx} {N : List Str} {fr : List (Option Nat)} {scope : Scope} {elt tg iter : Expr} {ifs : List Expr} {pos : Pos} {wi : TI} {g : TG} {tt : TT} {te : TE}
/-- the parts of a comprehension, in its block's context -/
def PComp (X : Cx) (N : List Str) (scope : Scope) (tg : Expr) (ifs : List Expr) (elt : Expr) (g : TG) (tt : TT) (te : TE) : Prop :=
  ∀ (C : Addr) (s : Shared) (H : Hp) (fp : List Addr) (pins : List (Addr × Obj)), PG (cxComp X N scope C s H fp pins) tg g ∧ PIf (cxComp X N scope C s H fp pins) ifs tt ∧ PE (cxComp X N scope C s H fp pins) elt te
end
/-! ### the forms one uses -/
section
variable {K : PySem.W.Frag} {a D : Addr} {xs : List V} {g : TG} {tt : TT} {te : TE} {σ' : St} {H1 : Hp} {Q : Hp → Prop}
/-- over a list; Pv: turn, the block's names, the list so far, heap -/
theorem comp_list (Pv : Nat → St → List V → Hp → Prop) (h0 : Pv 0 σ' [] (upd H1 D (.lst []))) (hl : ∀ i σ ys H, i ≤ xs.length → Pv i σ ys H → SqL K H a xs)
    (hs : ∀ i x σ ys H, xs[i]? = some x → Pv i σ ys H → g x σ H fun σ2 H2 => tt σ2 H2 fun b H3 =>
      if b = true then te σ2 H3 fun y H4 => H4 D = some (.lst ys) ∧ ys.length < sizeLine ∧ Pv (i + 1) σ2 (ys ++ [y]) (upd H4 D (.lst (ys ++ [y]))) else Pv (i + 1) σ2 ys H3)
    (hd : ∀ σ ys H, Pv xs.length σ ys H → Q H) : tBlock (Itl K a) g tt te D σ' H1 Q := by
  refine ⟨fun i m σ ys H => m = xs.length - i ∧ i ≤ xs.length ∧ Pv i σ ys H, ⟨xs.length, by simp, Nat.zero_le _, h0⟩, ?_⟩
  rintro i m σ ys H ⟨rfl, hi, p⟩
  have q := hl i σ ys H hi p
  by_cases hlt : i < xs.length
  · refine .inr ⟨⟨xs, xs[i], q, by simp [hlt]⟩, Pv (i + 1), fun σ' ys' H' p' => ⟨xs.length - (i + 1), by omega, rfl, hlt, p'⟩, fun x H' y => ?_⟩
    obtain ⟨e, y⟩ := y
    subst e
    exact hs i x σ ys _ (y xs q) p
  · have e : i = xs.length := by omega
    subst e
    exact .inl ⟨⟨xs, q, Nat.le_refl _⟩, hd σ ys H p⟩
end
end L2
end
section
set_option Elab.async false
set_option linter.all false
set_option maxRecDepth 100000
set_option maxHeartbeats 1000000
namespace L2
open PySem PySem.Spec PyProof.Rows PySem.W
section
variable {X : Cx}
theorem vals_at {xs : List V} {us : List Value} (r : Vals xs us) {i : Nat} {v : Value} (e : us[i]? = some v) : ∃ x, xs[i]? = some x ∧ RelV x v := by
  have hl := r.length
  have hi : i < xs.length := by have := (List.getElem?_eq_some_iff.mp e).1; omega
  obtain ⟨u, e1, e2⟩ := r.get (i := i) (x := xs[i]) (by simp [hi])
  rw [e] at e1; cases e1
  exact ⟨_, by simp [hi], e2⟩
end
end L2
end
section
set_option Elab.async false
set_option linter.all false
set_option maxRecDepth 100000
set_option maxHeartbeats 1000000
namespace L2
open PySem PySem.Spec PyProof.Rows
section
variable {X : Cx}
theorem vals_of_at {xs : List V} {us : List Value} (hl : us.length = xs.length) (h : ∀ (j : Nat) (v : Value), us[j]? = some v → ∃ x, xs[j]? = some x ∧ RelV x v) : Vals xs us := by
  induction xs generalizing us with
  | nil => cases us with
    | nil => exact .nil
    | cons _ _ => simp at hl
  | cons x xs ih => cases us with
    | nil => simp at hl
    | cons u us =>
      obtain ⟨y, e, r⟩ := h 0 u rfl
      cases e
      exact .cons r (ih (by simpa using hl) fun j v e => by simpa using h (j + 1) v (by simpa using e))
/-! ### all of a list of truths -/
def rAll (K : PySem.W.Frag) : List V → Hp → VK → Prop := fun xs H Q => ∃ (a : Addr) (bs : List Bool), xs = [.ref a] ∧ SqL K H a (bs.map V.bl) ∧ Q (.bl (bs.all id)) H
theorem call_all_list (hc : X.calm = true) : CallR X (.builtin "all") (rAll X.K) := by
  intro pins s σ H xs us Q I r h
  obtain ⟨a, bs, rfl, hq, q⟩ := h
  obtain ⟨u, rfl, ru⟩ := Vals.one r
  cases ru
  obtain ⟨its, rv, p, hz⟩ := I.list hq
  have hl := rv.length
  rw [List.length_map] at hl
  have hil := p.isList
  have hlt : a < s.heap.objs.size := by obtain ⟨_, e, _⟩ := hil; exact Heap.lt_size e
  refine call_all_walk (wpAny_pyIter_list hil ?_)
  refine ⟨s.heap.objs.size, _, _, _, _, _, (fun i => bs.getD i false), rfl, Walks.list (A := X.A.in1) (I.ok.hd hc) _ a (Nat.ne_of_lt hlt) its.toArray, ⟨⟨_, Heap.get?_push_size _ rfl, rfl, rfl⟩, hil.push _⟩, fun i v s' Q' E' hP hQ => ?_, fun h' tk hk => ?_⟩
  · obtain ⟨x, e1, e2⟩ := vals_at rv (i := i) (v := v) (by simpa using hP)
    rw [List.getElem?_map] at e1
    obtain ⟨b, e3, rfl⟩ := Option.map_eq_some_iff.mp e1
    cases e2
    have : bs.getD i false = b := by rw [List.getD, e3]; rfl
    dsimp only at hQ
    rw [this] at hQ
    exact wpAny_truthy_bool hQ
  · have e : (List.range its.toArray.size).all (fun i => bs.getD i false) = bs.all id := by
      rw [List.size_toArray, ← hl]
      have e2 : bs = (List.range bs.length).map fun i => bs.getD i false := by
        refine List.ext_getElem (by simp) fun i h1 h2 => ?_
        simp [h1]
      conv => rhs; rw [e2, List.all_map]
      rfl
    rw [e]
    exact ⟨.bl _, H, I.kept (t' := tk) fun b o e => hk b o (fun z => by rw [List.mem_singleton.mp z] at e; exact absurd (Heap.lt_size e) (Nat.lt_irrefl _)) (Heap.get?_push_of_some _ e), rfl, q⟩
end
end L2
end
section
set_option Elab.async false
set_option linter.all false
set_option maxRecDepth 100000
set_option maxHeartbeats 1000000
namespace L2
open PySem PySem.Spec PyProof.Rows
/-! ### what a value is, deep down -/
mutual
inductive Dt (K : PySem.W.Frag) (H : Hp) : V → PyData → Prop
  | non : Dt K H .non .none
  | bl (b : Bool) : Dt K H (.bl b) (.bool b)
  | int (i : Int) : Dt K H (.int i) (.int i)
  | str (x : Str) (h : (PyData.str x).canLay0 = true) : Dt K H (.str x) (.str x)
  | lst {a : Addr} {xs : List V} {ds : List PyData} (h : SqL K H a xs) (r : Dts K H xs ds) : Dt K H (.ref a) (.list ds)
  | tup {a : Addr} {xs : List V} {ds : List PyData} (h : SqT K H a xs) (r : Dts K H xs ds) : Dt K H (.ref a) (.tuple ds)
inductive Dts (K : PySem.W.Frag) (H : Hp) : List V → List PyData → Prop
  | nil : Dts K H [] []
  | cons {x : V} {d : PyData} {xs : List V} {ds : List PyData} (h : Dt K H x d) (r : Dts K H xs ds) : Dts K H (x :: xs) (d :: ds)
end
section
variable {X : Cx} {pins : List (Addr × Obj)} {σ : St} {H H' : Hp} {s : Shared}
mutual
theorem Dt.reads (I : Inv X pins σ H s) : ∀ (d : PyData) (v : V) (u : Value), Dt X.K H v d → RelV v u → ∃ as, Reads s.heap u d as
  | .none, _, _, .non, r => by cases r; exact ⟨_, .none⟩
  | .bool b, _, _, .bl _, r => by cases r; exact ⟨_, .bool b⟩
  | .int i, _, _, .int _, r => by obtain ⟨t, rfl⟩ := r; exact ⟨_, .int i t⟩
  | .str x, _, _, .str _ _, r => by obtain ⟨t, rfl⟩ := r; exact ⟨_, .str x t⟩
  | .list ds, _, _, .lst h hs, r => by
    cases r
    obtain ⟨its, rv, ⟨o, n, e, c, _, dd⟩, _⟩ := I.list h
    obtain ⟨as, q⟩ := Dts.reads I ds _ _ hs rv
    exact ⟨_, .list e c dd (by simpa using q)⟩
  | .tuple ds, _, _, .tup h hs, r => by
    cases r
    obtain ⟨its, rv, ⟨o, e, c, n, dd⟩, _⟩ := I.tuple h
    obtain ⟨as, q⟩ := Dts.reads I ds _ _ hs rv
    exact ⟨_, .tuple e c dd (by simpa using q)⟩
  | .dict _, _, _, h, _ => nomatch h
theorem Dts.reads (I : Inv X pins σ H s) : ∀ (ds : List PyData) (xs : List V) (us : List Value), Dts X.K H xs ds → Vals xs us → ∃ as, ReadsAll s.heap us ds as
  | [], _, _, .nil, r => by cases r; exact ⟨_, .nil⟩
  | d :: ds, _, _, .cons h hs, r => by
    cases r with
    | cons r rs =>
      obtain ⟨as, q⟩ := Dt.reads I d _ _ h r
      obtain ⟨bs, p⟩ := Dts.reads I ds _ _ hs rs
      exact ⟨_, .cons q p⟩
end
mutual
theorem Dt.can {K : PySem.W.Frag} : ∀ (d : PyData) (v : V), Dt K H v d → d.canLay0 = true
  | .none, _, _ => rfl
  | .bool b, _, _ => rfl
  | .int i, _, _ => rfl
  | .str x, _, .str _ h => h
  | .list ds, _, .lst _ hs => Dts.can ds _ hs
  | .tuple ds, _, .tup _ hs => Dts.can ds _ hs
  | .dict _, _, h => nomatch h
theorem Dts.can {K : PySem.W.Frag} : ∀ (ds : List PyData) (xs : List V), Dts K H xs ds → PyData.canLayAll0 ds = true
  | [], _, _ => rfl
  | d :: ds, _, .cons h hs => by rw [PyData.canLayAll0, Dt.can d _ h, Dts.can ds _ hs]; rfl
end
/-! ### data of ints and tuples alone: stays whatever lists become -/
/-! ### without truths, alike is the same -/
mutual
def noBl : PyData → Bool
  | .bool _ => false
  | .list ds => noBlAll ds
  | .tuple ds => noBlAll ds
  | .dict _ => false
  | _ => true
def noBlAll : List PyData → Bool
  | [] => true
  | d :: ds => noBl d && noBlAll ds
end
mutual
theorem eqv_iff : ∀ (d e : PyData), noBl d = true → noBl e = true → (PyData.eqv d e = true ↔ d = e)
  | .none, e, _, h => by cases e <;> simp [PyData.eqv]
  | .bool b, _, h, _ => nomatch h
  | .int i, e, _, h => by
    cases e with
    | bool _ => exact nomatch h
    | _ => simp [PyData.eqv]
  | .str i, e, _, h => by
    cases e with
    | bool _ => exact nomatch h
    | _ => simp [PyData.eqv]
  | .list xs, e, h1, h => by
    cases e with
    | list ys => rw [PyData.eqv, eqvAll_iff xs ys h1 h]; simp
    | _ => simp [PyData.eqv]
  | .tuple xs, e, h1, h => by
    cases e with
    | tuple ys => rw [PyData.eqv, eqvAll_iff xs ys h1 h]; simp
    | _ => simp [PyData.eqv]
  | .dict _, _, h, _ => nomatch h
theorem eqvAll_iff : ∀ (ds es : List PyData), noBlAll ds = true → noBlAll es = true → (PyData.eqvAll ds es = true ↔ ds = es)
  | [], [], _, _ => by simp [PyData.eqvAll]
  | [], _ :: _, _, _ => by simp [PyData.eqvAll]
  | _ :: _, [], _, _ => by simp [PyData.eqvAll]
  | d :: ds, e :: es, h1, h2 => by
    have a1 : noBl d = true ∧ noBlAll ds = true := by simpa [noBlAll] using h1
    have a2 : noBl e = true ∧ noBlAll es = true := by simpa [noBlAll] using h2
    rw [PyData.eqvAll, Bool.and_eq_true, eqv_iff d e a1.1 a2.1, eqvAll_iff ds es a1.2 a2.2]
    simp
end
/-! ### the rules -/
def rEqD (K : PySem.W.Frag) (neg : Bool) : R2 := fun x y H Q => ∃ d e : PyData, Dt K H x d ∧ Dt K H y e ∧ d.depth ≤ 60 ∧ Q (.bl (if neg then !PyData.eqv d e else PyData.eqv d e)) H
theorem min60 {u a b : Nat} (h : u + 64 < cLine) (h' : a ≤ 60) : u + min a b < cLine := by
  have : min a b ≤ a := Nat.min_le_left _ _
  omega
theorem op_eqD (hu : X.A.units + 64 < cLine) : OpR X (compareOp .Eq) (rEqD X.K false) := by
  intro pins s σ H x y v u Q I rx ry h
  obtain ⟨d, e, hd, he, hz, q⟩ := h
  obtain ⟨as, ra⟩ := Dt.reads I d x v hd rx
  obtain ⟨bs, rb⟩ := Dt.reads I e y u he ry
  exact PySem.SeqAt.compareEq_reads ra rb (Dt.can d x hd) (Dt.can e y he) (min60 hu hz) ⟨.bl _, H, I, rfl, q⟩
theorem op_neD (hu : X.A.units + 64 < cLine) : OpR X (compareOp .NotEq) (rEqD X.K true) := by
  intro pins s σ H x y v u Q I rx ry h
  obtain ⟨d, e, hd, he, hz, q⟩ := h
  obtain ⟨as, ra⟩ := Dt.reads I d x v hd rx
  obtain ⟨bs, rb⟩ := Dt.reads I e y u he ry
  exact PySem.SeqAt.compareNe_reads ra rb (Dt.can d x hd) (Dt.can e y he) (min60 hu hz) ⟨.bl _, H, I, rfl, q⟩
end
end L2
end
section
set_option Elab.async false
set_option linter.all false
set_option maxRecDepth 100000
set_option maxHeartbeats 1000000
namespace L2
open PySem PySem.Spec PyProof.Rows
/-! ### exceptions: the object, how it leaves a frame -/
/-- an exception object that is not held in flight -/
def Exc (h : Heap) (e : Addr) (cls : Value) (d : Option Addr) : Prop :=
  ∃ (oe : Obj) (vs : Array Value), h.get? e = some oe ∧ oe.cls = cls ∧ oe.dict = d ∧ oe.data = .fields vs ∧ vs[2]? = some .none ∧
    (vs[1]? = some .none ∨ ∃ (T : Addr) (oT : Obj) (ts : Array Value), vs[1]? = some (.ref T) ∧ T ≠ e ∧ h.get? T = some oT ∧ oT.data = .fields ts ∧ ts[3]? = some .none)
theorem get_same {h : Heap} {a : Addr} {o : Obj} {f : Obj → Obj} (e : h.get? a = some o) (hf : f o = o) (b : Addr) : (h.update a f).get? b = h.get? b := by
  by_cases hb : b = a
  · subst hb
    have hfree : (f o).isFreed = false := by rw [hf]; exact (Heap.get?_some_iff.mp e).2
    rw [Heap.get?_update_self f e hfree, hf, e]
  · exact Heap.get?_update_other h f (Ne.symm hb)
theorem fields_same {o : Obj} {ts : Array Value} {i : Nat} {v : Value} (hd : o.data = .fields ts) (hi : ts[i]? = some v) : Obj.mapFields (·.setIfInBounds i v) o = o := by
  obtain ⟨c, dt, d, sl⟩ := o
  have hd : d = .fields ts := hd
  subst hd
  have e : ts.setIfInBounds i v = ts := by
    refine Array.ext (by simp) fun j h1 h2 => ?_
    by_cases hj : i = j
    · subst hj
      obtain ⟨hlt, z⟩ := Array.getElem?_eq_some_iff.mp hi
      rw [Array.getElem_setIfInBounds]
      · simp [z]
      · exact hlt
    · rw [Array.getElem_setIfInBounds]
      · simp [hj]
      · exact h2
  show ({ cls := c, dict := dt, data := .fields (ts.setIfInBounds i v), slots := sl } : Obj) = _
  rw [e]
section
variable {M : Model} {A : Around} {E : Value → Shared → Prop} {s : Shared} {base : Heap} {env : Env} {outer : List Env} {L e : Addr} {cls : Value} {d : Option Addr}
/-- what a leaving changes -/
structure LeftB (fs : List Addr) (e : Addr) (h h' : Heap) : Prop where
  keep : ∀ b o, b ≠ e → b ∉ fs → h.get? b = some o → h'.get? b = some o
  slot : ∀ b o, b ≠ e → h.get? b = some o → ∃ sl, h'.get? b = some { o with slots := sl }
/-- the entry is made and hung in; fl: what stands in its flight field at the end -/
theorem entry_ok {oe : Obj} {vs : Array Value} {head : Value} {had : Bool} {Q : Unit → Shared → Prop} (hfr : A.frames = some (env :: outer)) (hl : s.heap.FunFrames base (env :: outer)) (hf : env.frame = some L)
    (he : s.heap.get? e = some oe) (hc : oe.cls = cls) (hdd : oe.dict = d) (hd : oe.data = .fields vs) (hc2 : vs[2]? = some .none) (hsz : 1 < vs.size)
    (h : ∀ h', Exc h' e cls d → LeftB (frs (env :: outer)) e s.heap h' → Q () { s with heap := h' }) :
    wpAny M A (do let a ← frameOf env; let pl ← entryPlaceOf L had; let b ← EntryCells.newEntry head a .none (rawInt L) .none pl; setField (.ref e) 1 b) (fun _ s' => wpAny M A (setFlight (.ref e) none) Q E s') E s := by
  have hene : e ∉ frs (env :: outer) := fun hm => by
    obtain ⟨_, o, ho, hnf⟩ := hl.mem hm
    rw [he] at ho; cases ho; exact hnf vs hd
  refine wpAny_bind (wpAny_frameOf_fun hfr hl hf fun h1 hs1 => wpAny_bind (wpAny_entryPlaceOf fun pl hpl => ?_))
  unfold EntryCells.newEntry newFields
  refine wpAny_bind (wpAny_newObj_type ?_ (hpl.sizeOk5 _ _ _ _ _))
  generalize hO : ({ cls := .type "traceback", dict := none, data := .fields ([head, .ref L, .none, rawInt L, .none] ++ (if pl.isEmpty then List.replicate 6 Value.none else pl)).toArray } : Obj) = oT
  have hOd : oT.data = .fields ([head, .ref L, .none, rawInt L, .none] ++ (if pl.isEmpty then List.replicate 6 Value.none else pl)).toArray := by rw [← hO]
  have e1 : h1.get? e = some oe := (hs1.2.1 e hene).trans he
  have e2 : (h1.push oT).get? e = some oe := Heap.get?_push_of_some _ e1
  have hTe : h1.objs.size ≠ e := Nat.ne_of_gt (Heap.lt_size e1)
  have eT : (h1.push oT).get? h1.objs.size = some oT := Heap.get?_push_size _ (Obj.isFreed_of_fields hOd)
  refine wpAny_setField e2 hd hsz ?_
  have hd3 := Obj.data_mapFields hd (·.setIfInBounds 1 (Value.ref h1.objs.size))
  have e3 := Heap.get?_update_self (Obj.mapFields (·.setIfInBounds 1 (Value.ref h1.objs.size))) e2 (Obj.isFreed_of_fields hd3)
  have T3 := (Heap.get?_update_other (h1.push oT) (Obj.mapFields (·.setIfInBounds 1 (Value.ref h1.objs.size))) (Ne.symm hTe)).trans eT
  unfold setFlight
  refine wpAny_bind (wpAny_field e3 hd3 (x := .ref h1.objs.size) (by simp [hsz]) ?_)
  rw [if_pos (show (Value.ref h1.objs.size != Value.none) = true by simp)]
  have h3z : 3 < ([head, .ref L, .none, rawInt L, .none] ++ (if pl.isEmpty then List.replicate 6 Value.none else pl)).toArray.size := by
    simp only [List.size_toArray, List.length_append, List.length_cons, List.length_nil]; omega
  refine wpAny_setField T3 hOd h3z (h _ ?_ ?_)
  · refine ⟨_, _, (Heap.get?_update_other _ _ hTe).trans e3, (Obj.cls_mapFields _ _).trans hc, ?_, hd3, by rw [Array.getElem?_setIfInBounds_ne (by decide)]; exact hc2, .inr ⟨h1.objs.size, _, _, by simp [hsz], hTe, Heap.get?_update_self _ T3 (Obj.isFreed_of_fields (Obj.data_mapFields hOd _)), Obj.data_mapFields hOd _, by simp⟩⟩
    obtain ⟨c0, d0, dt0, sl0⟩ := oe
    cases dt0 <;> exact hdd
  · have keep : ∀ b o, b ≠ e → h1.get? b = some o → (((h1.push oT).update e (Obj.mapFields (·.setIfInBounds 1 (Value.ref h1.objs.size)))).update h1.objs.size (Obj.mapFields (·.setIfInBounds 3 ((none : Option Addr).elim Value.none fun f => rawInt f)))).get? b = some o := fun b o hb q => by
      rw [Heap.get?_update_other _ _ (Nat.ne_of_gt (Heap.lt_size q)), Heap.get?_update_other _ _ (Ne.symm hb)]
      exact Heap.get?_push_of_some _ q
    exact ⟨fun b o hb hn q => keep b o hb ((hs1.2.1 b hn).trans q), fun b o hb q => by
      obtain ⟨sl, z⟩ := hs1.2.2 b o q
      exact ⟨sl, keep b _ hb z⟩⟩
theorem note_ok {Q : Unit → Shared → Prop} (hfr : A.frames = some (env :: outer)) (hl : s.heap.FunFrames base (env :: outer)) (hf : env.frame = some L) (x : Exc s.heap e cls d)
    (h : ∀ h', Exc h' e cls d → LeftB (frs (env :: outer)) e s.heap h' → Q () { s with heap := h' }) : wpAny M A (noteFrame (.ref e) env) (fun _ s' => wpAny M A (setFlight (.ref e) none) Q E s') E s := by
  obtain ⟨oe, vs, he, hc, hdd, hd, hc2, tb⟩ := x
  unfold noteFrame
  simp only [hf]
  rcases tb with h1 | ⟨T, oT, ts, h1, hTe, hT, hdT, h3⟩
  · refine wpAny_bind (wpAny_field he hd h1 ?_)
    rw [if_neg (by decide)]
    exact entry_ok hfr hl hf he hc hdd hd hc2 (Array.getElem?_eq_some_iff.mp h1).1 h
  · refine wpAny_bind (wpAny_field he hd h1 ?_)
    rw [if_pos (show (Value.ref T != Value.none) = true by simp)]
    refine wpAny_bind (wpAny_field hT hdT h3 ?_)
    rw [if_neg (show ¬ ((Value.none == rawInt L) = true) by simp [rawInt])]
    refine wpAny_bind (wpAny_setField hT hdT (Array.getElem?_eq_some_iff.mp h3).1 ?_)
    have same := get_same hT (fields_same hdT h3)
    have hl2 : (s.heap.update T (Obj.mapFields (·.setIfInBounds 3 Value.none))).FunFrames base (env :: outer) := hl.of_keeps fun b o hb _ => ⟨o, (same b).trans hb, rfl⟩
    refine entry_ok (s := { s with heap := s.heap.update T (Obj.mapFields (·.setIfInBounds 3 Value.none)) }) hfr hl2 hf ((same e).trans he) hc hdd hd hc2 (Array.getElem?_eq_some_iff.mp h1).1 fun h' x1 x2 => h h' x1 ⟨fun b o hb hn q => x2.keep b o hb hn ((same b).trans q), fun b o hb q => x2.slot b o hb ((same b).trans q)⟩
theorem leave_ok {Q : Unit → Shared → Prop} (hfr : A.frames = some (env :: outer)) (hl : s.heap.FunFrames base (env :: outer)) (hf : env.frame = some L) (x : Exc s.heap e cls d)
    (h : ∀ h', Exc h' e cls d → LeftB (frs (env :: outer)) e s.heap h' → Q () { s with heap := h' }) : wpAny M A (leaving env (.ref e)) Q E s := by
  unfold leaving
  exact wpAny_bind (note_ok hfr hl hf x h)
/-- once more, at the suite: nothing changes -/
theorem flight_ok {Q : Unit → Shared → Prop} (x : Exc s.heap e cls d) (h : ∀ h', Exc h' e cls d → (∀ b, h'.get? b = s.heap.get? b) → Q () { s with heap := h' }) : wpAny M A (setFlight (.ref e) none) Q E s := by
  obtain ⟨oe, vs, he, hc, hdd, hd, hc2, tb⟩ := id x
  unfold setFlight
  rcases tb with h1 | ⟨T, oT, ts, h1, hTe, hT, hdT, h3⟩
  · refine wpAny_bind (wpAny_field he hd h1 ?_)
    rw [if_neg (by decide)]
    exact wpAny_pure (h s.heap x fun _ => rfl)
  · refine wpAny_bind (wpAny_field he hd h1 ?_)
    rw [if_pos (show (Value.ref T != Value.none) = true by simp)]
    refine wpAny_setField hT hdT (Array.getElem?_eq_some_iff.mp h3).1 ?_
    have same := get_same hT (fields_same hdT h3)
    exact h _ ⟨oe, vs, (same e).trans he, hc, hdd, hd, hc2, .inr ⟨T, oT, ts, h1, hTe, (same T).trans hT, hdT, h3⟩⟩ same
end
theorem ObjOk.isThere {P : Program} {w : World} {H : Hp} {h : Heap} {a : Addr} {o : HO} (x : ObjOk P w H h a o) : ∃ ob, h.get? a = some ob := by
  cases o with
  | lst xs => obtain ⟨_, _, _, _, e⟩ := x; exact ⟨_, e⟩
  | tup xs => obtain ⟨_, _, _, ob, e, _⟩ := x; exact ⟨_, e⟩
  | dK kvs => obtain ⟨_, _, _, _, o, _, _, e, _⟩ := x; exact ⟨_, e⟩
  | dT kvs => obtain ⟨_, _, _, _, o, _, _, e, _⟩ := x; exact ⟨_, e⟩
  | set S n => obtain ⟨o, _, _, _, e, _⟩ := x; exact ⟨_, e⟩
  | ins C dx fs => obtain ⟨_, _, _, e, _⟩ := x; exact ⟨_, e⟩
  | own y => exact x
  | xd fs => obtain ⟨_, ⟨_, _, _, e, _⟩, _⟩ := x; exact ⟨_, e⟩
  | rng lo hi => obtain ⟨_, _, _, e⟩ := x; exact ⟨_, e⟩
  | frz ob u => obtain ⟨e, _⟩ := x; exact ⟨_, e⟩
  | tbl ps => exact ⟨_, (show h.get? a = some _ from x)⟩
  | met f y => exact ⟨_, (show h.get? a = some _ from x)⟩
  | ext φ => obtain ⟨_, e, _⟩ := x; exact e
theorem HOk.none_of' {P : Program} {w : World} {H : Hp} {h : Heap} {a : Addr} (x : HOk P w H h) (e : h.get? a = none) : H a = none := by
  cases q : H a with
  | none => rfl
  | some u =>
    obtain ⟨o, z⟩ := (x a u q).isThere
    rw [e] at z; cases z
/-- how an exception lies behind a call -/
def CX1 (P : Program) (w : World) : CXT := fun outer H s E e s' => ∃ (x : Addr) (cls : Value) (d : Option Addr) (H' : Hp), e = .ref x ∧ Exc s'.heap x cls d ∧ s.heap.get? x = none ∧ H' x = none ∧
  s'.os = s.os ∧ AllBare s'.gens ∧ Un (frs outer) [] H H' s.heap s'.heap ∧ HOk P w H' s'.heap ∧ E cls d H'
section
variable {X : Cx} {pins : List (Addr × Obj)} {σ : St} {H : Hp} {s : Shared}
theorem Inv.oldNone {x : Addr} (I : Inv X pins σ H s) (h : s.heap.get? x = none) (hx : x ∉ X.ex) : X.s₀.heap.get? x = none := by
  cases e : X.s₀.heap.get? x with
  | none => rfl
  | some o =>
    obtain ⟨o', z⟩ := I.base.there x o e hx
    rw [h] at z; cases z
/-- a def's context: the exception e, fresh, at a state of the body, leaves with the wish -/
theorem lets_of {P : Program} {w : World} {K : PySem.W.Frag} {mg : Str → Option Value} {base : Heap} {N : List Str} {qual : Str} {scope : Scope} {f : Addr} {cd : Value} {A : Around} {outer : List Env} {s0 : Shared} {H0 : Hp} {E : XK} {x : Addr} {cls : Value} {d : Option Addr}
    (I : Inv (cxOf (CX1 P w) P w K mg base N qual scope f cd A outer s0 H0 E) pins σ H s) (hx : Exc s.heap x cls d) (hn : s0.heap.get? x = none) (hH : H x = none) (q : E cls d H) :
    (cxOf (CX1 P w) P w K mg base N qual scope f cd A outer s0 H0 E).xe (.ref x) s := by
  show wpAny _ _ (leaving _ (.ref x)) _ _ s
  have hfs := I.stkFree
  refine leave_ok (outer := outer) I.ok.frames I.stack rfl hx fun h' x1 x2 => ?_
  have nx : ∀ b o, s0.heap.get? b = some o → b ≠ x := fun b o e z => by rw [z, hn] at e; cases e
  have nL : ∀ b o, s0.heap.get? b = some o → b ∉ frs outer → b ∉ frs (envOfC qual scope s0.heap.objs.size f cd :: outer) := fun b o e hb hm => by
    rcases List.mem_cons.mp (I.stkSub b hm) with z | z
    · exact absurd (Heap.lt_size e) (by rw [z]; exact Nat.not_lt.mpr I.ok.above)
    · exact hb z
  refine ⟨x, cls, d, H, rfl, x1, hn, hH, I.os, I.bare, ⟨fun b o e n hb hx' => ?_, fun b o e n hb hx' => ?_, fun b o e n hx' => I.base.free b o e n hx', fun b o e hx' => ?_, I.base.tups, I.base.frzs, I.base.tbls⟩, fun b u e => ?_, q⟩
  · exact x2.keep b o (nx b o e) (nL b o e hb) (I.base.keep b o e n hb hx')
  · obtain ⟨sl, z⟩ := I.base.slot b o e n hb hx'
    obtain ⟨sl', z'⟩ := x2.slot b _ (nx b o e) z
    exact ⟨sl', z'⟩
  · obtain ⟨o', z⟩ := I.base.there b o e hx'
    obtain ⟨sl, z'⟩ := x2.slot b _ (nx b o e) z
    exact ⟨_, z'⟩
  · have nf : ∀ c v, H c = some v → c ∉ frs (envOfC qual scope s0.heap.objs.size f cd :: outer) := fun c v z hm => by
      have := hfs c hm
      rw [z] at this; cases this
    have ne : ∀ c v, H c = some v → c ≠ x := fun c v z y => by rw [y, hH] at z; cases z
    refine (I.hok b u e).stay (fun c v hc r => ?_) (fun _ r => r) fun _ _ r => r
    rcases hc with z | z
    · rw [z] at r ⊢; exact x2.keep b v (ne b u e) (nf b u e) r
    · exact x2.keep c v (ne c _ z) (nf c _ z) r
/-- an exception of a callee passes on to the caller's callers -/
theorem pass1 {P : Program} {w : World} {K : PySem.W.Frag} {mg : Str → Option Value} {base : Heap} {N : List Str} {qual : Str} {scope : Scope} {f : Addr} {cd : Value} {A : Around} {outer : List Env} {s0 : Shared} {H0 : Hp} {E : XK} :
    Passes (CX1 P w) (cxOf (CX1 P w) P w K mg base N qual scope f cd A outer s0 H0 E) E := by
  rintro pins σ H s e s' I ⟨x, cls, d, H', rfl, hx, hn, hH, os, bare, un, hok, q⟩
  refine lets_of (I.call' (ch := []) os un hok bare (fun b z => absurd z (by simp))) hx ?_ hH q
  exact I.oldNone hn (fun z => by cases z)
end
/-! ### raise C(e, ..): an own class under ValueError that has no __init__ of its own -/
abbrev bmV : List Value := [.type "ValueError", .type "Exception", .type "BaseException", .type "object"]
theorem exc_obj {K : PySem.W.Frag} {C : Addr} {newId : String} {h : Heap} {bmB : List Value} (X : K.In h) (q : PySem.W.excIn K C bmB newId = true) :
    ∃ bm N nm q bs hdct sn sub ab col dd k0 k1 k2 k3 k5 mN, h.get? C = some (excClassObj nm q C N bs bm hdct sn sub ab col dd k0 k1 k2 k3 k5 newId) ∧ h.Ns N mN ∧ mN "__init__" = none ∧ OwnTail h bmB bm := by
  unfold PySem.W.excIn at q
  split at q
  · rename_i dd cd sl ho
    split at q
    · rename_i C' bm k0 k1 k2 k3 n k5 hm hs
      simp only [Bool.and_eq_true, beq_iff_eq, Bool.not_eq_true'] at q
      obtain ⟨⟨⟨⟨⟨rfl, rfl⟩, hdel⟩, ht⟩, hok⟩, hni⟩ := q
      obtain ⟨nm, bs, mro, ns, qn, hd, sn, sub, ab, col, del⟩ := cd
      dsimp only at hm hdel hok hni
      subst hm hdel
      have hsl : sl = #[k0, k1, k2, k3, some (.builtin n), k5] := by
        cases sl
        simp only at hs
        rw [hs]
      subst hsl
      exact ⟨bm, ns, nm, qn, bs, hd, sn, sub, ab, col, dd, k0, k1, k2, k3, k5, _, X _ _ ho, .of_isNs (PySem.W.isNs_of_in X hok), PySem.W.nsMap_none_of_in X hok hni, PySem.W.tail_of_in X ht⟩
    · cases q
  · cases q
/-- where a fresh exception may go: the class and the dict, the heap behind it -/
def Lets (X : Cx) (E : XK) : Prop := ∀ (pins : List (Addr × Obj)) (σ : St) (H : Hp) (s : Shared) (x : Addr) (cls : Value) (d : Option Addr), Inv X pins σ H s → Exc s.heap x cls d → X.s₀.heap.get? x = none → (∀ p ∈ X.pn ++ pins, p.1 ≠ x) → H x = none → E cls d H → X.xe (.ref x) s
theorem lets1 {P : Program} {w : World} {K : PySem.W.Frag} {mg : Str → Option Value} {base : Heap} {N : List Str} {qual : Str} {scope : Scope} {f : Addr} {cd : Value} {A : Around} {outer : List Env} {s0 : Shared} {H0 : Hp} {E : XK} :
    Lets (cxOf (CX1 P w) P w K mg base N qual scope f cd A outer s0 H0 E) E := fun _ _ _ _ _ _ _ I hx hn _ hH q => lets_of I hx hn hH q
section
variable {X : Cx} {E : XK} {x : Str} {C : Addr} {np cpos pos : Pos} {e : Expr} {es : List Expr} {t : TA}
def tRaise (E : XK) (C : Addr) (t : TA) : TS := fun _ σ H => t σ H fun vs H1 => vs.length ≤ sizeLine ∧ E (.ref C) none H1
theorem ps_raise (hE : Lets X E) (hc : X.calm = true) (hnx : X.ex = []) (hg : Gl X x) (hm : X.mg x = some (.ref C)) (hq : PySem.W.excIn X.K C bmV "ValueError.__new__" = true) (ha : PA X (e :: es) t)
    (he : starEach (e :: es) X.env = (false, eval e X.env) :: starEach es X.env := by rfl) (hpl : (backTo cpos (starEach es X.env)).any (·.1) = false := by rfl) (hd : (x == ("__debug__" : Str)) = false := by decide) :
    PS X (.Raise (some (.Call (.Name x np) (e :: es) [] cpos)) none pos) (tRaise E C t) := by
  intro pins s σ H D I h
  obtain ⟨tl, N, nm, q, bs, hdct, sn, sub, ab, col, dd, k0, k1, k2, k3, k5, mN, hC, hN, hni, T⟩ := exc_obj I.mod.kin hq
  refine wpAny_Raise_call_subT (C := C) (nm := nm) (q := q) (N := N) (bs := bs) (bm := tl) (hdct := hdct) (sn := sn) (sub := sub) (ab := ab) (col := col) (dd := dd) (k0 := k0) (k1 := k1) (k2 := k2) (k3 := k3) (k5 := k5)
    PySem.F.excBase_ValueError (mN := mN) (T.hasType PySem.F.excBase_ValueError.hasBase) (I.ok.hd hc) (by rw [he]; show (false || (backTo cpos (starEach es X.env)).any (·.1)) = false; rw [hpl]; rfl) hni (ld_glob I hg hm ⟨rfl, ?_⟩ hd)
  have ha' := ha cpos pins s σ H _ I h
  rw [he] at ha' ⊢
  refine Calls.evalArgs_plain (thn ha' fun us s1 ⟨vs, H1, I1, r1, hz, q1⟩ => ⟨rfl, by rw [← r1.length]; exact hz, I1.bk _ _ hC, hN.keeps I1.bk, T.keeps I1.bk, fun h' x' me => ?_⟩)
  obtain ⟨tt, hx', _, _⟩ := me.there
  have I2 : Inv X pins σ H1 { s1 with heap := h' } := I1.kept (t' := s1.toks) me.keeps
  exact hE pins σ H1 _ x' (.ref C) none I2 ⟨_, _, hx', rfl, rfl, rfl, rfl, .inl rfl⟩ (I1.oldNone me.new (by rw [hnx]; simp)) (fun p hp z => by
    have e := (I1.pin p hp).1
    rw [z, me.new] at e; cases e) (I1.hok.none_of' me.new) q1
end
end L2
end
section
set_option Elab.async false
set_option linter.all false
set_option maxRecDepth 100000
set_option maxHeartbeats 1000000
namespace L2
open PySem PySem.Spec PyProof.Rows
/-! ### try .. except C as n -/
/-- an own class under ValueError: what stands above it -/
def clsIn (K : PySem.W.Frag) (C : Addr) : Option (List Value) := match K.lookup C with
  | some ⟨.type "type", _, .cls cd, sl⟩ => (match cd.mro, sl.toList with
    | .ref C' :: bm, [_, _, _, _, some (.builtin n), _] => if C' == C && n == "ValueError.__new__" && !cd.hasDel then some bm else none
    | _, _ => none)
  | _ => none
theorem cls_obj {K : PySem.W.Frag} {C : Addr} {h : Heap} {bm : List Value} (X : K.In h) (q : clsIn K C = some bm) :
    ∃ N nm q bs hdct sn sub ab col dd k0 k1 k2 k3 k5, h.get? C = some (excClassObj nm q C N bs bm hdct sn sub ab col dd k0 k1 k2 k3 k5 "ValueError.__new__") := by
  unfold clsIn at q
  split at q
  · rename_i dd cd sl ho
    split at q
    · rename_i C' bm' k0 k1 k2 k3 n k5 hm hs
      split at q
      · rename_i hq
        simp only [Bool.and_eq_true, beq_iff_eq, Bool.not_eq_true'] at hq
        obtain ⟨⟨rfl, rfl⟩, hdel⟩ := hq
        cases q
        obtain ⟨nm, bs, mro, ns, qn, hd, sn, sub, ab, col, del⟩ := cd
        dsimp only at hm hdel
        subst hm hdel
        have hsl : sl = #[k0, k1, k2, k3, some (.builtin "ValueError.__new__"), k5] := by
          cases sl
          simp only at hs
          rw [hs]
        subst hsl
        exact ⟨ns, nm, qn, bs, hd, sn, sub, ab, col, dd, k0, k1, k2, k3, k5, X _ _ ho⟩
      · cases q
    · cases q
  · cases q
theorem exc_match {M : Model} {A : Around} {E : Value → Shared → Prop} {s : Shared} {Q : Bool → Shared → Prop} {e C Ch : Addr} {oe : Obj} {nm q : Str} {N : Addr} {bs bm : List Value} {hdct : Bool} {sn : List Str} {sub : List Value} {ab : Bool} {col : Option Bool} {dd : Option Addr} {k0 k1 k2 k3 k5 : Option Value} {newId : String}
    {nm' q' : Str} {N' : Addr} {bs' bm' : List Value} {hdct' : Bool} {sn' : List Str} {sub' : List Value} {ab' : Bool} {col' : Option Bool} {dd' : Option Addr} {l0 l1 l2 l3 l5 : Option Value} {newId' : String}
    (hC : s.heap.get? C = some (excClassObj nm q C N bs bm hdct sn sub ab col dd k0 k1 k2 k3 k5 newId)) (hH : s.heap.get? Ch = some (excClassObj nm' q' Ch N' bs' bm' hdct' sn' sub' ab' col' dd' l0 l1 l2 l3 l5 newId'))
    (he : s.heap.get? e = some oe) (hcls : oe.cls = .ref C) (hb : bm'.contains (.type "BaseException") = true) (hm : (Value.ref C :: bm).contains (.ref Ch) = true) (hq : Q true s) :
    wpAny M A (excMatches (.ref e) (.ref Ch)) Q E s := by
  obtain ⟨h, g, d, t, os⟩ := s
  have hcB : (Value.ref Ch :: bm').contains (.type "BaseException") = true := by rw [List.contains_cons, hb, Bool.or_true]
  have f := tc_notTuple
  unfold excMatches
  repeat (first | (with_reducible refine wpAny_loadPart_at he ?_; rw [hcls]) | with_reducible refine wpAny_loadPart_at hH ?_ | with_reducible refine wpAny_loadPart_at hC ?_ | (with_reducible refine wpAny_isSubtype_exc hH ?_; rw [hcB]) | (with_reducible refine wpAny_isSubtype_exc hC ?_; rw [hm]) | wp_step)
  exact hq
/-- the caught exception, as the suite knows it -/
def ExcO (x : Addr) (cls : Value) (d : Option Addr) : HO := .ext fun h => ∃ (oe : Obj) (vs : Array Value), h.get? x = some oe ∧ oe.cls = cls ∧ oe.dict = d ∧ oe.data = .fields vs ∧ vs[2]? = some .none
theorem excO_ok {P : Program} {w : World} {H : Hp} {h : Heap} {x : Addr} {cls : Value} {d : Option Addr} (e : Exc h x cls d) : ObjOk P w H h x (ExcO x cls d) := by
  obtain ⟨oe, vs, h1, h2, h3, h4, h5, _⟩ := e
  refine ⟨⟨oe, vs, h1, h2, h3, h4, h5⟩, ⟨oe, h1⟩, fun a b p k => ?_⟩
  obtain ⟨oe, vs, h1, h2, h3, h4, h5⟩ := p
  exact ⟨oe, vs, k oe h1, h2, h3, h4, h5⟩
/-- the suite's context -/
abbrev cxSuite (X : Cx) (x : Addr) : Cx := { X with A := X.A.mark (some (.ref x)), calm := false, xe := fun _ _ => False }
section
variable {X : Cx} {pins : List (Addr × Obj)} {σ : St} {H : Hp} {s : Shared}
theorem Inv.suite (I : Inv X pins σ H s) (x : Addr) : Inv (cxSuite X x) pins σ H s :=
  ⟨⟨I.ok.mod, I.ok.kind, I.ok.glob, I.ok.blt, I.ok.above, I.ok.inj, I.ok.has, I.ok.cab, (fun z => absurd z (by show ¬ (false = true); decide)), I.ok.frames, I.ok.stk, I.ok.exf, I.ok.bs, I.ok.bsz, I.ok.noex, I.ok.exfs, I.ok.funs, I.ok.frf⟩, I.os, I.bare, I.base, I.loc, I.cell, I.free, I.freeC, I.pin, I.hok, I.len⟩
theorem Inv.unsuite {x : Addr} (J : Inv (cxSuite X x) pins σ H s) (ok : X.Ok) : Inv X pins σ H s := ⟨ok, J.os, J.bare, J.base, J.loc, J.cell, J.free, J.freeC, J.pin, J.hok, J.len⟩
theorem Inv.forget (I : Inv X pins σ H s) : Inv X pins (List.replicate X.N.length none) H s := by
  refine ⟨I.ok, I.os, I.bare, I.base, ?_, I.cell, I.free, I.freeC, I.pin, I.hok, by simp⟩
  obtain ⟨m, hn, _⟩ := I.loc
  refine ⟨m, hn, fun i y v e1 e2 e3 => ?_⟩
  rw [List.getElem?_replicate] at e2
  split at e2 <;> cases e2
/-- the name goes -/
theorem Inv.unname {i : Nat} {n : Str} {pos : Pos} {M : Model} {A : Around} {E : Value → Shared → Prop} {Q : Unit → Shared → Prop} (I : Inv X pins σ H s) (hN : X.N.Nodup) (hi : X.N[i]? = some n) (hl : X.env.scope.names.lookup n = some .local)
    (h : ∀ s', Inv X pins (σ.set i none) H s' → Q () s') : wpAny M A (do bindName X.env n .none; unbindBehindTheSuite X.env n pos) Q E s := by
  refine wpAny_bind (wpAny_bindName (store_ok I hN hi (.inl hl) (v := .non) rfl (fun s1 I1 => ?_) (.inr hl)))
  unfold unbindBehindTheSuite
  refine wpAny_onRaise ?_
  have hcls : (X.env.scope.kind == .class || (X.env.scope.kind == .module && X.env.locals != X.env.globals)) = false := by rw [I.ok.kind]; rfl
  obtain ⟨m, hn, hl1⟩ := id I1.loc
  have hiσ : i < σ.length := by rw [I.len]; exact (List.getElem?_eq_some_iff.mp hi).1
  obtain ⟨u, ru, lk⟩ := hl1 i n .non hi (by rw [List.getElem?_set_self hiσ]) (.inl hl)
  have hmn : m n = some u := by
    rcases lk with ⟨_, z⟩ | ⟨z, _⟩
    · exact z
    · have z : X.env.scope.names.lookup n = some .cell ∨ X.env.scope.names.lookup n = some .free := z
      rcases z with z | z <;> (rw [hl] at z; cases z)
  refine wpAny_unbindName_local hl hn hmn hcls fun h' w' hn' hs => h _ ?_
  obtain ⟨oL, _, _, hoL, _⟩ := id hn
  have keepB : ∀ b o, b ≠ X.env.locals → s1.heap.get? b = some o → h'.get? b = some o := fun b o hb e => (hs.2 b hb).trans e
  have hok : HOk X.prog X.w H h' := fun b ob e => by
    refine (I1.hok b ob e).stay (fun c w' hc q => keepB c w' ?_ q) (fun _ q => q) fun _ _ q => q
    rintro rfl
    rcases hc with z | z
    · rw [← z, I1.free] at e; cases e
    · rw [I1.free] at z; cases z
  refine ⟨I1.ok, I1.os, I1.bare, ⟨fun b o e n hb hx => ?_, fun b o e n hb hx => ?_, I1.base.free, fun b o e hx => ?_, I1.base.tups, I1.base.frzs, I1.base.tbls⟩, ⟨_, hn', fun j y v e1 e2 e3 => ?_⟩, fun y c e => ?_, I1.free, I1.freeC, fun p hp => ?_, hok, ?_⟩
  · exact keepB b o (Nat.ne_of_lt (Nat.lt_of_lt_of_le (Heap.lt_size e) I1.ok.above)) (I1.base.keep b o e n hb hx)
  · obtain ⟨sl, z⟩ := I1.base.slot b o e n hb hx
    exact ⟨sl, keepB b _ (Nat.ne_of_lt (Nat.lt_of_lt_of_le (Heap.lt_size e) I1.ok.above)) z⟩
  · obtain ⟨o', z⟩ := I1.base.there b o e hx
    exact ⟨o', keepB b _ (Nat.ne_of_lt (Nat.lt_of_lt_of_le (Heap.lt_size e) I1.ok.above)) z⟩
  · have hj : j ≠ i := fun z => by
      subst z
      rw [List.getElem?_set_self hiσ] at e2
      cases e2
    rw [List.getElem?_set_ne (Ne.symm hj)] at e2
    obtain ⟨u', r', q⟩ := hl1 j y v e1 (by rw [List.getElem?_set_ne (Ne.symm hj)]; exact e2) e3
    refine ⟨u', r', ?_⟩
    rcases q with ⟨k, e⟩ | ⟨k, c, e, z⟩
    · refine .inl ⟨k, ?_⟩
      have : y ≠ n := fun z => hj (nodup_ix hN e1 (z ▸ hi))
      simp [this, e]
    · exact .inr ⟨k, c, e, z.sameBut hs (I1.cne y c e)⟩
  · obtain ⟨w', z⟩ := I1.cell y c e
    exact ⟨w', z.sameBut hs (I1.cne y c e)⟩
  · obtain ⟨e, n', ne, nf, d⟩ := I1.pin p hp
    exact ⟨(hs.2 p.1 ne).trans e, n', ne, nf, d⟩
  · have := I.len
    simpa using this
end
end L2
end
section
set_option Elab.async false
set_option linter.all false
set_option maxRecDepth 100000
set_option maxHeartbeats 1000000
namespace L2
open PySem PySem.Spec PyProof.Rows
section
variable {X : Cx} {body suite : List Stmt} {b0 : Stmt} {cx n : Str} {np hpos pos : Pos} {Ch : Addr} {bmh : List Value} {i : Nat} {tb : XK → TS} {ts : Addr → TS}
/-- what is wanted behind the suite: the name has gone -/
def sufD (i : Nat) (D : Ends) : Ends := { nx := fun σ H => D.nx (σ.set i none) H, rt := D.rt, bk := fun σ H => D.bk (σ.set i none) H, ct := fun σ H => D.ct (σ.set i none) H }
/-- E: what the body's exceptions bear; the suite knows nothing of the names but its own -/
def tTry (K : PySem.W.Frag) (len : Nat) (Ch : Addr) (i : Nat) (tb : XK → TS) (ts : Addr → TS) : TS := fun D σ H => ∃ E : XK, tb E D σ H ∧ ∀ cls d H', E cls d H' →
  ∃ Ce bm, cls = .ref Ce ∧ clsIn K Ce = some bm ∧ (Value.ref Ce :: bm).contains (.ref Ch) = true ∧ ∀ x, H' x = none → ts x (sufD i D) ((List.replicate len none).set i (some (.ref x))) (upd H' x (ExcO x cls d))
/-- an exception lands -/
theorem land {pins : List (Addr × Obj)} {σ : St} {H : Hp} {s : Shared} {D : Ends} {x : Addr} {cls : Value} {d : Option Addr} (hst : X.stack = X.env :: X.outer ∧ X.env.frame = some X.env.locals) (hnx : X.ex = [])
    (hN : X.N.Nodup) (hi : X.N[i]? = some n) (hl : X.env.scope.names.lookup n = some .local) (hg : Gl X cx) (hm : X.mg cx = some (.ref Ch)) (hcl : clsIn X.K Ch = some bmh) (hbm : bmh.contains (.type "BaseException") = true)
    (hs : ∀ x, PSs (cxSuite X x) (b0 :: suite) (ts x)) (hdb : (cx == ("__debug__" : Str)) = false) (I : Inv X pins σ H s) (hx : Exc s.heap x cls d) (hn : X.s₀.heap.get? x = none) (hpx : ∀ p ∈ X.pn ++ pins, p.1 ≠ x) (hH : H x = none)
    (hq : ∃ Ce bm, cls = .ref Ce ∧ clsIn X.K Ce = some bm ∧ (Value.ref Ce :: bm).contains (.ref Ch) = true ∧ ∀ x, H x = none → ts x (sufD i D) ((List.replicate X.N.length none).set i (some (.ref x))) (upd H x (ExcO x cls d))) :
    wpAny (model X.prog X.w) X.A (noteFrame (.ref x) X.env) (fun _ s2 => wpAny (model X.prog X.w) X.A (setFlight (.ref x) none) (fun _ s3 => wpAny (model X.prog X.w) X.A (handleBy (.ref x) X.env [.ExceptHandler (some (.Name cx np)) (some n) (b0 :: suite) hpos]) (SP X pins D) X.xe s3) X.xe s2) X.xe s := by
  obtain ⟨Ce, bm, rfl, hce, hmt, ts0⟩ := hq
  have hfr : X.A.frames = some (X.env :: X.outer) := by rw [← hst.1]; exact I.ok.frames
  have hfl : s.heap.FunFrames X.base (X.env :: X.outer) := by rw [← hst.1]; exact I.stack
  refine note_ok hfr hfl hst.2 hx fun h1 x1 L1 => ?_
  have nx0 : ∀ b o, X.s₀.heap.get? b = some o → b ≠ x := fun b o e z => by rw [z, hn] at e; cases e
  have hxl : x ≠ X.env.locals := fun z => by
    obtain ⟨m, ⟨o, es, ep, ho, hd, _⟩, _⟩ := I.loc
    obtain ⟨oe, vs, he, _, _, hd', _⟩ := hx
    rw [z, ho] at he; cases he; rw [hd] at hd'; cases hd'
  have hxc : ∀ y c, X.env.cells.lookup y = some c → c ≠ x := fun y c e z => by
    obtain ⟨v, o, ho, hd⟩ := I.cell y c e
    obtain ⟨oe, vs, he, _, _, hd', _⟩ := hx
    rw [z, he] at ho; cases ho; rw [hd'] at hd; cases hd
  have nfs : ∀ b, b ∈ frs (X.env :: X.outer) → b ∈ X.env.locals :: X.fs := fun b hb => I.stkSub b (by rw [hst.1]; exact hb)
  -- the state behind the landing, x tracked
  have I1 : Inv X pins (List.replicate X.N.length none) (upd H x (ExcO x (.ref Ce) d)) { s with heap := h1 } := by
    have J := I.forget
    have kp : ∀ b o, b ≠ x → b ∉ frs (X.env :: X.outer) → s.heap.get? b = some o → h1.get? b = some o := L1.keep
    have nfr : ∀ b u, H b = some u → b ∉ frs (X.env :: X.outer) := fun b u e hb => by
      have := I.stkFree b (by rw [hst.1]; exact hb)
      rw [e] at this; cases this
    have nex : ∀ b u, H b = some u → b ≠ x := fun b u e z => by rw [z, hH] at e; cases e
    have hok : HOk X.prog X.w (upd H x (ExcO x (.ref Ce) d)) h1 := fun b u e => by
      by_cases hb : b = x
      · subst hb; rw [upd_same] at e; cases e; exact excO_ok x1
      · rw [upd_ne hb] at e
        refine (I.hok b u e).stay (fun c v hc q => ?_) (fun c q => by rw [upd_ne (nex c _ q)]; exact q) fun c xs q => by rw [upd_ne (nex c _ q)]; exact q
        rcases hc with z | z
        · rw [z] at q ⊢; exact kp b v hb (nfr b u e) q
        · exact kp c v (nex c _ z) (nfr c _ z) q
    refine ⟨J.ok, J.os, J.bare, ⟨fun b o e n' hb hx' => ?_, fun b o e n' hb hx' => ?_, fun b o e n' hx' => ?_, fun b o e hx' => ?_, fun b xs e => ?_, fun b o u e => ?_, fun b ps e => ?_⟩, ?_, fun y c e => ?_, ?_, fun y c e => ?_, fun p hp => ?_, hok, J.len⟩
    · refine kp b o (nx0 b o e) (fun hm' => ?_) (I.base.keep b o e n' hb hx')
      rcases List.mem_cons.mp (nfs b hm') with z | z
      · exact absurd (Nat.lt_of_lt_of_le (Heap.lt_size e) I.ok.above) (by rw [z]; exact Nat.lt_irrefl _)
      · exact hb z
    · obtain ⟨sl, z⟩ := I.base.slot b o e n' hb hx'
      obtain ⟨sl', z'⟩ := L1.slot b _ (nx0 b o e) z
      exact ⟨sl', z'⟩
    · rw [upd_ne (nx0 b o e)]; exact I.base.free b o e n' hx'
    · obtain ⟨o', z⟩ := I.base.there b o e hx'
      obtain ⟨sl, z'⟩ := L1.slot b _ (nx0 b o e) z
      exact ⟨_, z'⟩
    · have q := I.base.tups b xs e
      rw [upd_ne (nex b _ q)]; exact q
    · have q := I.base.frzs b o u e
      rw [upd_ne (nex b _ q)]; exact q
    · obtain ⟨more, q⟩ := I.base.tbls b ps e
      exact ⟨more, by rw [upd_ne (nex b _ q)]; exact q⟩
    · obtain ⟨m, ⟨o, es, ep, ho, r⟩, hl'⟩ := J.loc
      obtain ⟨sl, z⟩ := L1.slot _ o (Ne.symm hxl) ho
      refine ⟨m, ⟨_, es, ep, z, r⟩, fun j y v e1 e2 e3 => ?_⟩
      rw [List.getElem?_replicate] at e2
      split at e2 <;> cases e2
    · obtain ⟨v, o, ho, hd⟩ := I.cell y c e
      obtain ⟨sl, z⟩ := L1.slot c o (hxc y c e) ho
      exact ⟨v, _, z, hd⟩
    · rw [upd_ne (Ne.symm hxl)]; exact I.free
    · rw [upd_ne (hxc y c e)]; exact I.freeC y c e
    · obtain ⟨e, n', ne, nf, dd⟩ := I.pin p hp
      refine ⟨kp p.1 p.2 (hpx p hp) (fun hm' => ?_) e, by rw [upd_ne (hpx p hp)]; exact n', ne, nf, dd⟩
      rcases List.mem_cons.mp (nfs p.1 hm') with z | z
      · exact ne z
      · exact nf z
  obtain ⟨N1, nm1, q1, bs1, hd1, sn1, sub1, ab1, col1, dd1, a0, a1, a2, a3, a5, hC⟩ := cls_obj I1.kIn hce
  obtain ⟨N2, nm2, q2, bs2, hd2, sn2, sub2, ab2, col2, dd2, b0', b1, b2, b3, b5, hHc⟩ := cls_obj I1.kIn hcl
  obtain ⟨oe, vs, he, hcl', _⟩ := id x1
  refine wpAny_handleBy_cons (codeAny_handlers_test (ld_glob (I1.suite x) hg hm (exc_match hC hHc he hcl' hbm hmt ?_) hdb)) (fun z => nomatch z)
  show codeAny _ _ (.handlers (.ref x) [.ExceptHandler none (some n) (b0 :: suite) hpos] X.env) _ _
  refine codeAny_handlers_suite_as (flight_ok x1 fun h2 x2 same => ?_)
  have I2 : Inv X pins (List.replicate X.N.length none) (upd H x (ExcO x (.ref Ce) d)) { s with heap := h2 } := I1.kept (t' := s.toks) fun b o e => (same b).trans e
  refine store_ok I2 hN hi (.inl hl) (v := .ref x) rfl (fun s3 I3 => ?_) (.inr hl)
  have run := hs x pins s3 _ _ (sufD i D) (I3.suite x) (ts0 x hH)
  refine wpAny_mono run (fun f s4 q4 => ?_) fun _ _ z => z.elim
  have fin : ∀ {σ' : St} {H' : Hp}, Inv (cxSuite X x) pins σ' H' s4 → (∀ s', Inv X pins (σ'.set i none) H' s' → SP X pins D f s') → wpAny (model X.prog X.w) X.A (do bindName X.env n .none; unbindBehindTheSuite X.env n hpos) (fun _ s' => SP X pins D f s') X.xe s4 :=
    fun J k => (J.unsuite I.ok).unname hN hi hl k
  cases f with
  | next => obtain ⟨σ', H', J, q⟩ := q4; exact fin J fun s' J' => ⟨_, H', J', q⟩
  | brk => obtain ⟨σ', H', J, q⟩ := q4; exact fin J fun s' J' => ⟨_, H', J', q⟩
  | cont => obtain ⟨σ', H', J, q⟩ := q4; exact fin J fun s' J' => ⟨_, H', J', q⟩
  | ret v => obtain ⟨w', σ', H', J, r, q⟩ := q4; exact fin J fun s' J' => ⟨w', _, H', J', r, q⟩
/-- the body's context: the pins are kept by name -/
abbrev cxBody (X : Cx) (pins : List (Addr × Obj)) (xe : Value → Shared → Prop) : Cx := { X with pn := X.pn ++ pins, xe := xe }
theorem Inv.toBody {pins : List (Addr × Obj)} {σ : St} {H : Hp} {s : Shared} {xe : Value → Shared → Prop} (I : Inv X pins σ H s) : Inv (cxBody X pins xe) [] σ H s :=
  ⟨⟨I.ok.mod, I.ok.kind, I.ok.glob, I.ok.blt, I.ok.above, I.ok.inj, I.ok.has, I.ok.cab, I.ok.hd, I.ok.frames, I.ok.stk, I.ok.exf, I.ok.bs, I.ok.bsz, I.ok.noex, I.ok.exfs, I.ok.funs, I.ok.frf⟩, I.os, I.bare, I.base, I.loc, I.cell, I.free, I.freeC, fun p hp => I.pin p (by rw [List.append_nil] at hp; exact hp), I.hok, I.len⟩
theorem Inv.ofBody {pins pins' : List (Addr × Obj)} {σ : St} {H : Hp} {s : Shared} {xe : Value → Shared → Prop} (J : Inv (cxBody X pins xe) pins' σ H s) : Inv X pins σ H s :=
  ⟨⟨J.ok.mod, J.ok.kind, J.ok.glob, J.ok.blt, J.ok.above, J.ok.inj, J.ok.has, J.ok.cab, J.ok.hd, J.ok.frames, J.ok.stk, J.ok.exf, J.ok.bs, J.ok.bsz, J.ok.noex, J.ok.exfs, J.ok.funs, J.ok.frf⟩, J.os, J.bare, J.base, J.loc, J.cell, J.free, J.freeC, fun p hp => J.pin p (List.mem_append_left _ hp), J.hok, J.len⟩
theorem ps_try (hst : X.stack = X.env :: X.outer ∧ X.env.frame = some X.env.locals) (hnx : X.ex = []) (hN : X.N.Nodup) (hi : X.N[i]? = some n) (hl : X.env.scope.names.lookup n = some .local) (hg : Gl X cx) (hm : X.mg cx = some (.ref Ch))
    (hcl : clsIn X.K Ch = some bmh) (hbm : bmh.contains (.type "BaseException") = true)
    (hb : ∀ (pins : List (Addr × Obj)) (xe : Value → Shared → Prop) (E : XK), Passes (CX1 X.prog X.w) (cxBody X pins xe) E → Lets (cxBody X pins xe) E → PSs (cxBody X pins xe) body (tb E))
    (hs : ∀ x, PSs (cxSuite X x) (b0 :: suite) (ts x)) (hdb : (cx == ("__debug__" : Str)) = false := by decide) :
    PS X (.Try body [.ExceptHandler (some (.Name cx np)) (some n) (b0 :: suite) hpos] [] [] pos) (tTry X.K X.N.length Ch i tb ts) := by
  rintro pins s σ H D I ⟨E, q0, hE⟩
  refine wpAny_Try_except ?_
  have P1 : Passes (CX1 X.prog X.w) (cxBody X pins fun e s1 => wpAny (model X.prog X.w) X.A (noteFrame e X.env) (fun _ s2 => wpAny (model X.prog X.w) X.A (setFlight e none) (fun _ s3 => wpAny (model X.prog X.w) X.A (handleBy e X.env [.ExceptHandler (some (.Name cx np)) (some n) (b0 :: suite) hpos]) (SP X pins D) X.xe s3) X.xe s2) X.xe s1) E := by
    rintro pins' σ' H' s' e s'' J ⟨x, cls, d, H2, rfl, hx, hn, hH, os, bare, un, hok, q⟩
    have J2 := J.call' (ch := []) os un hok bare (fun b z => absurd z (by simp))
    refine land hst hnx hN hi hl hg hm hcl hbm hs hdb J2.ofBody hx (J.ofBody.oldNone hn (by rw [hnx]; simp)) (fun p hp z => ?_) hH (hE _ _ _ q)
    have e := (J.pin p (List.mem_append_left _ hp)).1
    rw [z, hn] at e; cases e
  have P2 : Lets (cxBody X pins fun e s1 => wpAny (model X.prog X.w) X.A (noteFrame e X.env) (fun _ s2 => wpAny (model X.prog X.w) X.A (setFlight e none) (fun _ s3 => wpAny (model X.prog X.w) X.A (handleBy e X.env [.ExceptHandler (some (.Name cx np)) (some n) (b0 :: suite) hpos]) (SP X pins D) X.xe s3) X.xe s2) X.xe s1) E :=
    fun pins' σ' H' s' x cls d J hx hn hp hH q => land hst hnx hN hi hl hg hm hcl hbm hs hdb J.ofBody hx hn (fun p hp' => hp p (List.mem_append_left _ hp')) hH (hE _ _ _ q)
  have run := hb pins _ E P1 P2 [] s σ H D I.toBody q0
  refine wpAny_mono run (fun f s1 q1 => ?_) fun _ _ z => z
  cases f with
  | next =>
    obtain ⟨σ', H', J, q⟩ := q1
    exact wpAny_execs_nil ⟨σ', H', J.ofBody, q⟩
  | brk => obtain ⟨σ', H', J, q⟩ := q1; exact ⟨σ', H', J.ofBody, q⟩
  | cont => obtain ⟨σ', H', J, q⟩ := q1; exact ⟨σ', H', J.ofBody, q⟩
  | ret v => obtain ⟨w', σ', H', J, r, q⟩ := q1; exact ⟨w', σ', H', J.ofBody, r, q⟩
end
end L2
end
section
set_option Elab.async false
set_option linter.all false
set_option maxRecDepth 100000
set_option maxHeartbeats 1000000
namespace L2
open PySem PySem.Spec PyProof.Rows
/-! ### texts: methods, slices, int(..), f-strings, loops -/
section
variable {X : Cx}
/-! slices -/
def txt (l : List Nat) : Str := ⟨l.toArray⟩
theorem txt_cps (l : List Nat) : (txt l).cps.toList = l := by simp [txt]
theorem txt_len (l : List Nat) : (txt l).length = l.length := by simp [txt, Str.length]
theorem txt_inj {a b : List Nat} (h : txt a = txt b) : a = b := by have := congrArg (fun z : Str => z.cps.toList) h; simpa [txt] using this
theorem txt_app (a b : List Nat) : txt a ++ txt b = txt (a ++ b) := by
  show (⟨a.toArray ++ b.toArray⟩ : Str) = ⟨(a ++ b).toArray⟩
  simp
def cutA {α : Type} (xs : List α) (lo hi : Option Int) : List α := (xs.drop (HT.sIx xs.length 0 lo)).take (HT.sIx xs.length xs.length hi - HT.sIx xs.length 0 lo)
theorem sliceIx_eq (lo hi : Option Int) (n : Nat) : Builtin.Str.strSliceIndices lo hi 1 n = sliceRange ((HT.sIx n 0 lo : Nat) : Int) ((HT.sIx n n hi : Nat) : Int) 1 := by
  have c : ∀ (o : Option Int) (d : Nat), (match o with | none => (d : Int) | some i => max 0 (min (if i < 0 then i + (n : Int) else i) (n : Int))) = ((HT.sIx n d o : Nat) : Int) := by
    intro o d
    cases o with
    | none => rfl
    | some i =>
      show max 0 (min (if i < 0 then i + (n : Int) else i) (n : Int)) = (((if i < 0 then (i + (n : Int)).toNat else min i.toNat n) : Nat) : Int)
      split <;> omega
  have c1 := c lo 0
  have c2 := c hi n
  rw [← c1, ← c2]
  cases lo <;> cases hi <;> rfl
theorem slice_made (l : List Nat) (t : Tok) (lo hi : Option (Int × Tok)) {Q : Value → Shared → Prop} {s : Shared} (hz : l.length ≤ sizeLine) (h : ∀ t' k, Q (.str (txt (cutA l (lo.map (·.1)) (hi.map (·.1)))) t') { s with toks := k }) :
    (sliceMade (txt l) t lo hi none).post Q s := by
  have e1 : slicePicked (txt l) lo hi none = (List.range (HT.sIx l.length l.length (hi.map (·.1)) - HT.sIx l.length 0 (lo.map (·.1)))).map (HT.sIx l.length 0 (lo.map (·.1)) + ·) := by
    unfold slicePicked
    show Builtin.Str.strSliceIndices _ _ 1 _ = _
    rw [txt_len, sliceIx_eq, sliceRange_one]
  have e2 : (slicePicked (txt l) lo hi none).filterMap ((txt l).cps[·]?) = cutA l (lo.map (·.1)) (hi.map (·.1)) := by
    rw [e1]
    have := pick_run (txt l).cps (HT.sIx l.length 0 (lo.map (·.1))) (HT.sIx l.length l.length (hi.map (·.1)) - HT.sIx l.length 0 (lo.map (·.1)))
    rw [this, txt_cps]
    rfl
  have hb : HT.sIx l.length l.length (hi.map (·.1)) ≤ l.length := HT.sIx_le _ _ (Nat.le_refl _) _
  have ha : HT.sIx l.length 0 (lo.map (·.1)) ≤ l.length := HT.sIx_le _ _ (Nat.zero_le _) _
  unfold sliceMade
  split
  · rename_i hc
    simp only [Bool.and_eq_true, beq_iff_eq] at hc
    have hl := hc.2
    rw [e1, List.length_map, List.length_range, txt_len] at hl
    have ec : cutA l (lo.map (·.1)) (hi.map (·.1)) = l := by
      unfold cutA
      have : HT.sIx l.length 0 (lo.map (·.1)) = 0 := by omega
      rw [this] at hl ⊢
      rw [List.drop_zero, hl, List.take_length]
    rw [ec] at h
    exact h t s.toks
  · refine ⟨?_, ?_⟩
    · show (List.filterMap _ _).toArray.size ≤ _
      rw [List.size_toArray, e2]
      unfold cutA
      rw [List.length_take, List.length_drop]
      omega
    · rw [e2]
      exact h s.toks (s.toks + 1)
def rSlS : V → Option Int → Option Int → Hp → VK → Prop := fun x lo hi H Q => ∃ l, x = .str (txt l) ∧ l.length ≤ sizeLine ∧ Q (.str (txt (cutA l lo hi))) H
theorem part_val {v : Value} {o : Option Int} (h : IsPart v o) : ∃ p : Option (Int × Tok), v = partValue p ∧ p.map (·.1) = o := by
  cases h with
  | none => exact ⟨none, rfl, rfl⟩
  | int i t => exact ⟨some (i, t), rfl, rfl⟩
theorem sl_str : SlR X rSlS := by
  intro pins s σ H x v vl vu lo hi sl Q I rx hs pl pu h
  obtain ⟨l, rfl, hz, q⟩ := h
  obtain ⟨t, rfl⟩ := rx
  obtain ⟨al, rfl, e1⟩ := part_val pl
  obtain ⟨au, rfl, e2⟩ := part_val pu
  refine ⟨"str", _, slot_str_getitem.lookup, typeIs_str s _ t, wpAny_getItem_str_slice (l := al) (u := au) (st := none) hs rfl (slice_made l t al au hz fun t' k => ?_)⟩
  rw [e1, e2]
  exact ⟨.str _, H, I.tok _, ⟨_, rfl⟩, q⟩

end
end L2
end
section
set_option Elab.async false
set_option linter.all false
set_option maxRecDepth 100000
set_option maxHeartbeats 4000000
namespace L2
open PySem PySem.Spec PyProof.Rows
/-! ### calls and blocks within a suite: an exception is being handled -/
structure TurnAt (Y : Cx) (tg : Expr) (J : It) (fp : List Addr) (it : Addr) (tn : Nat → Heap → Prop) : Prop where
  obj : ∀ i h, tn i h → ∀ b ∈ fp, ∃ o, h.get? b = some o ∧ ∀ v, o.data ≠ .cell v
  keep : ∀ i h h', tn i h → (∀ b ∈ fp, ∀ o, h.get? b = some o → h'.get? b = some o) → tn i h'
  item : ∀ (i : Nat) (pins : List (Addr × Obj)) (s : Shared) (σ : St) (H : Hp) (E : Value → Shared → Prop), Inv Y pins σ H s → (∀ b ∈ fp, FpOk Y pins H b) → tn i s.heap → J.go i H →
    wpAny (model Y.prog Y.w) Y.A (pyNext (.ref it)) (fun r s1 => ∃ u, r = some u ∧
      wpAny (model Y.prog Y.w) Y.A (letOwnedTupleGo tg (.ref it) u) (fun _ s2 => ∃ x H', Inv Y pins σ H' s2 ∧ RelV x u ∧ J.yld i H x H' ∧ tn (i + 1) s2.heap ∧ ∀ b ∈ fp, H' b = none) E s1) E s
  done : ∀ (i : Nat) (pins : List (Addr × Obj)) (s : Shared) (σ : St) (H : Hp) (E : Value → Shared → Prop), Inv Y pins σ H s → (∀ b ∈ fp, FpOk Y pins H b) → tn i s.heap → J.stop i H →
    wpAny (model Y.prog Y.w) Y.A (pyNext (.ref it)) (fun r s1 => r = none ∧ Inv Y pins σ H s1) E s
  self : ∀ (A : Around) (i : Nat) (s : Shared) (Q : Value → Shared → Prop) (E : Value → Shared → Prop), tn i s.heap → Q (.ref it) s → wpAny (model Y.prog Y.w) A (pyIter (.ref it)) Q E s
structure Alike (X Y : Cx) : Prop where
  prog : Y.prog = X.prog
  w : Y.w = X.w
  K : Y.K = X.K
  A : Y.A = X.A
theorem Turn.at {X Y : Cx} {tg : Expr} {J : It} {fp : List Addr} {it : Addr} {tn : Nat → Heap → Prop} (T : Turn X.prog X.w X.K tg J fp it tn) (a : Alike X Y) (hc : Y.calm = true) : TurnAt Y tg J fp it tn := by
  have e1 := a.prog
  have e2 := a.w
  have e3 := a.K
  refine ⟨T.obj, T.keep, fun i pins s σ H E I hf st hg => ?_, fun i pins s σ H E I hf st hg => ?_, fun A i s Q E st q => ?_⟩
  · have := T.item Y e1 e2 e3 hc i pins s σ H E I hf st hg
    rw [e1, e2]; exact this
  · have := T.done Y e1 e2 e3 hc i pins s σ H E I hf st hg
    rw [e1, e2]; exact this
  · have := T.self A i s Q E st q
    rw [e1, e2]; exact this
section
variable {X : Cx} {pins : List (Addr × Obj)} {σ : St} {H : Hp} {s : Shared} {N : List Str} {fr : List (Option Nat)} {scope : Scope} {fp : List Addr}
/-- the loop in its own context -/
theorem comp_runG {elt target iter : Expr} {ifs : List Expr} {pos : Pos} {it D : Addr} {tn : Nat → Heap → Prop} {J : It} {g : TG} {tt : TT} {te : TE} {R : Result → Shared → Prop} {s1 : Shared} {σ1 : St} {H1 : Hp} {Q : Hp → Prop}
    {Y : Cx} (hY : Y.xe = fun _ _ => False) (I : Inv Y [] σ1 (upd H1 D (.lst [])) s1) (T : TurnAt Y target J fp it tn) (ht : tn 0 s1.heap) (hf : ∀ b ∈ fp, FpOk Y [] (upd H1 D (.lst [])) b)
    (hg : PG Y target g) (hi : PIf Y ifs tt) (he : PE Y elt te) (h : tBlock J g tt te D σ1 H1 Q) (hR : ∀ s' σ' H', Inv Y [] σ' H' s' → Q H' → R (.ok .next) s') :
    codeAny (model Y.prog Y.w) Y.A (.compLoop (.ListComp elt [⟨target, iter, ifs, 0⟩] scope pos) 0 (.ref it) (.ref D) Y.env) R s1 := by
  obtain ⟨W, ⟨m0, w0⟩, turn⟩ := h
  have stat : ∀ {H' : Hp}, (∀ b ∈ fp, H' b = none) → ∀ b ∈ fp, FpOk Y [] H' b := fun hn b hb => ⟨hn b hb, (hf b hb).2⟩
  refine comp_loop (fun n s' => ∃ i σ' ys H', Inv Y [] σ' H' s' ∧ tn i s'.heap ∧ (∀ b ∈ fp, H' b = none) ∧ W i n σ' ys H') ?_ m0 ⟨0, σ1, [], _, I, ht, fun b hb => (hf b hb).1, w0⟩
  rintro n s3 ⟨i, σ3, ys, H3, I3, st3, fr3, w3⟩
  have back : ∀ {α : Type} {t : Sem α} {Q : α → Shared → Prop} {s : Shared}, wpAny (model Y.prog Y.w) Y.A t Q Y.xe s → wpAny (model Y.prog Y.w) Y.A t Q (fun _ _ => False) s := fun h => by rw [hY] at h; exact h
  rcases turn i n σ3 ys H3 w3 with ⟨stop, qn⟩ | ⟨go, N', hN', step⟩
  · refine thn (T.done i [] s3 σ3 H3 _ I3 (stat fr3) st3 stop) fun r s4 ⟨hr, I4⟩ => ?_
    subst hr
    exact hR s4 σ3 H3 I4 qn
  · refine thn (T.item i [] s3 σ3 H3 _ I3 (stat fr3) st3 go) fun r s4 ⟨u, hr, h4⟩ => ?_
    subst hr
    refine thn h4 fun _ s5 ⟨x, H5, I5, r5, y5, st5, fr5⟩ => ?_
    have I5' := I5.pinned (stat fr5) (T.obj _ _ st5)
    rw [List.nil_append] at I5'
    refine thn (back (hg _ s5 σ3 H5 x u _ I5' r5 (step x H5 y5))) fun _ s6 ⟨σ6, H6, I6, q6⟩ => ?_
    refine thn (back (hi _ s6 σ6 H6 _ I6 q6)) fun b s7 ⟨H7, I7, q7⟩ => ?_
    have again : ∀ {σ7 : St} {H7 : Hp} {s7 : Shared} {ys' : List V}, Inv Y (pinsAt fp s5.heap) σ7 H7 s7 → (∃ m', m' < n ∧ W (i + 1) m' σ7 ys' H7) → ∃ m, m < n ∧ ∃ i σ' ys H', Inv Y [] σ' H' s7 ∧ tn i s7.heap ∧ (∀ b ∈ fp, H' b = none) ∧ W i m σ' ys H' := fun {σ7 H7 s7 ys'} I7 ⟨m', hm, w7⟩ => by
      refine ⟨m', hm, i + 1, σ7, ys', H7, I7.pins_of (fun p hp => by simp at hp), T.keep _ _ _ st5 fun b hb o e => (I7.pin (b, o) (List.mem_append_right _ (mem_pinsAt hb e))).1, fun b hb => ?_, w7⟩
      obtain ⟨o, e, d⟩ := T.obj _ _ st5 b hb
      exact (I7.pin (b, o) (List.mem_append_right _ (mem_pinsAt hb e))).2.1
    cases b with
    | false =>
      rw [if_neg Bool.false_ne_true] at q7
      rw [if_neg Bool.false_ne_true]
      exact again I7 (hN' _ _ _ q7)
    | true =>
      rw [if_pos rfl] at q7
      rw [if_pos rfl]
      refine thn (back (he _ s7 σ6 H7 _ I7 q7)) fun v s8 ⟨y, H8, I8, r8, hD, hl, q8⟩ => ?_
      refine thn (back (mt_append _ s8 σ6 H8 (.ref D) [y] (.ref D) [v] (fun _ H' => N' σ6 (ys ++ [y]) H') I8 rfl (.cons r8 .nil) ⟨D, ys, y, rfl, rfl, hD, hl, q8⟩)) fun _ s9 ⟨_, H9, I9, _, q9⟩ => ?_
      exact again I9 (hN' _ _ _ q9)
end
section
variable {X : Cx} {N : List Str} {fr : List (Option Nat)} {scope : Scope} {elt tg iter : Expr} {ifs : List Expr} {pos : Pos} {wi : TI} {g : TG} {tt : TT} {te : TE}
/-- an iterator has come -/
def PIEG (X : Cx) (pins : List (Addr × Obj)) (σ : St) (tg : Expr) (R : It → Hp → Prop) (itv : Value) (s2 : Shared) : Prop :=
  ∃ (it : Addr) (fp : List Addr) (tn : Nat → Heap → Prop) (J : It) (H' : Hp), itv = .ref it ∧ Inv X pins σ H' s2 ∧ (∀ Y, Alike X Y → Y.calm = X.calm → TurnAt Y tg J fp it tn) ∧ tn 0 s2.heap ∧ (∀ b ∈ fp, FpOk X pins H' b) ∧ R J H'
def PIG (X : Cx) (tg iter : Expr) (wi : TI) : Prop :=
  ∀ (pins : List (Addr × Obj)) (s : Shared) (σ : St) (H : Hp) (R : It → Hp → Prop), Inv X pins σ H s → wi σ H R →
    wpAny (model X.prog X.w) X.A (eval iter X.env) (fun v s1 => wpAny (model X.prog X.w) X.A (pyIter v) (PIEG X pins σ tg R) X.xe s1) X.xe s
theorem comp_blockG {pins : List (Addr × Obj)} {σ : St} {s : Shared} {itv : Value} {Z : Value → Addr → Result → Shared → Prop} {QQ : Addr → Hp → Prop} {E : Value → Shared → Prop} (S : CompScope X N fr scope)
    (hb : PComp X N scope tg ifs elt g tt te) (h2 : PIEG X pins σ tg (fun J H1 => ∀ D, H1 D = none → tBlock J g tt te D (compSt fr σ) H1 (QQ D)) itv s)
    (hZ : ∀ D C s' H', Inv X pins σ H' s' → FpOk X pins H' C → (∃ m, s'.heap.Ns C m) → QQ D H' → Z (.ref D) C (.ok .next) s') :
    wpAny (model X.prog X.w) X.A (newList []) (fun acc s3 => wpAny (model X.prog X.w) X.A (newFunctionEnv scope X.env.globals (clGo X.env scope.names []) [] X.env.qual none .none (some X.env)) (fun cenv s4 =>
      codeAny (model X.prog X.w) X.A (.compStart (.ListComp elt [⟨tg, iter, ifs, 0⟩] scope pos) 0 itv acc { cenv with scope := relabel scope X.env }) (Z acc cenv.locals) s4) E s3) E s := by
  obtain ⟨it, fp, tn, J, H1, e, I2, TT0, st2, f2, q⟩ := h2
  subst e
  have T := TT0 X ⟨rfl, rfl, rfl, rfl⟩ rfl
  have hD : H1 s.heap.objs.size = none := I2.hok.fresh (Nat.le_refl _)
  have old : ∀ b ∈ fp, b < s.heap.objs.size := fun b hb => by
    obtain ⟨o, e, _⟩ := T.obj _ _ st2 b hb
    exact Heap.lt_size e
  refine wpAny_newObj_type (wpAny_newFunctionEnv S.nocell (by intro y hy; simp at hy) (fun h1 hns hsb => ?_) S.kind)
  dsimp only at hns hsb ⊢
  have I3 : Inv X pins σ (upd H1 s.heap.objs.size (.lst [])) { s with heap := s.heap.push { cls := .type "list", dict := none, data := .seq ([] : List Value).toArray } } := by
    refine I2.laid (t' := s.toks) (fun b u e => Heap.get?_push_of_some _ e) (Nat.le_refl _) ?_
    exact ⟨Nat.zero_le _, [], _, .nil, Heap.get?_push_size _ rfl⟩
  have f3 : ∀ b ∈ fp, FpOk X pins (upd H1 s.heap.objs.size (.lst [])) b := fun b hb => ⟨by rw [upd_ne (Nat.ne_of_lt (old b hb))]; exact (f2 b hb).1, (f2 b hb).2⟩
  have hsz : (s.heap.push { cls := .type "list", dict := none, data := .seq ([] : List Value).toArray }).objs.size = s.heap.objs.size + 1 := Heap.size_push ..
  have I4 := comp_start (C := (s.heap.push { cls := .type "list", dict := none, data := .seq ([] : List Value).toArray }).objs.size) (h1 := h1) (t := s.toks + ([] : List (Str × Value)).length) (fp := fp) S I3 f3 (Nat.le_refl _)
    (fun b hb => by rw [hsz]; exact Nat.ne_of_lt (Nat.lt_succ_of_lt (old b hb))) hns fun b o e => hsb.extBut b o (Nat.ne_of_lt (Heap.lt_size e)) (Heap.get?_push_of_some _ e)
  have st4 : tn 0 h1 := T.keep _ _ _ st2 fun b hb o e => by
    have e1 := Heap.get?_push_of_some { cls := .type "list", dict := none, data := .seq ([] : List Value).toArray } e
    exact hsb.extBut b o (Nat.ne_of_lt (Heap.lt_size e1)) (Heap.get?_push_of_some _ e1)
  have f4 : ∀ b ∈ fp, FpOk (cxComp X N scope (s.heap.push { cls := .type "list", dict := none, data := .seq ([] : List Value).toArray }).objs.size { s with heap := s.heap.push { cls := .type "list", dict := none, data := .seq ([] : List Value).toArray } } (upd H1 s.heap.objs.size (.lst [])) fp pins) [] (upd H1 s.heap.objs.size (.lst [])) b := fun b hb => by
    refine ⟨(f3 b hb).1, (I4.ok.exf b hb).1, I4.ok.exfs b hb, .inl hb, (I4.ok.exf b hb).2, fun p hp => ?_⟩
    have hp : p ∈ (X.pn ++ pins) ++ [] := hp
    rw [List.append_nil] at hp
    exact (f3 b hb).2.2.2.2.2 p hp
  obtain ⟨b1, b2, b3⟩ := hb (s.heap.push { cls := .type "list", dict := none, data := .seq ([] : List Value).toArray }).objs.size { s with heap := s.heap.push { cls := .type "list", dict := none, data := .seq ([] : List Value).toArray } } (upd H1 s.heap.objs.size (.lst [])) fp pins
  have run := comp_runG (Y := cxComp X N scope (s.heap.push { cls := .type "list", dict := none, data := .seq ([] : List Value).toArray }).objs.size { s with heap := s.heap.push { cls := .type "list", dict := none, data := .seq ([] : List Value).toArray } } (upd H1 s.heap.objs.size (.lst [])) fp pins) (elt := elt) (iter := iter) (pos := pos) (scope := scope) (R := Z (.ref s.heap.objs.size) (s.heap.push { cls := .type "list", dict := none, data := .seq ([] : List Value).toArray }).objs.size) rfl I4 (TT0 _ ⟨rfl, rfl, rfl, rfl⟩ rfl) st4 f4 b1 b2 b3 (q _ hD) fun s' σ' H' I' q' => by
    obtain ⟨J1, F1⟩ := comp_end I3 f3 (Nat.le_refl _) I'
    obtain ⟨m, hm, _⟩ := I'.loc
    exact hZ _ _ s' H' J1 F1 ⟨m, hm⟩ q'
  exact codeAny_compStart_list run (T.self _ 0 _ _ _ st4 run)
theorem pe_compG (S : CompScope X N fr scope) (hi : PIG X tg iter wi) (hb : PComp X N scope tg ifs elt g tt te)
    (hs : ∀ x, foldedSetIterable iter X.env x = pure x := by intro _; rfl) : PE X (.ListComp elt [⟨tg, iter, ifs, 0⟩] scope pos) (tComp wi g tt te fr) := by
  intro pins s σ H Q I h
  rw [eval_ListComp]
  refine wpAny_comprehension_free (use := none) rfl hs (closure_eq (S.cells I.ok)) S.kind S.names (thn (hi pins s σ H _ I h) fun v s1 h1 => thn h1 fun itv s2 h2 => ?_)
  refine comp_blockG (QQ := fun D H2 => Q (.ref D) H2) (Z := fun acc C => compPost (model X.prog X.w) X.A X.xe none (EP X pins σ Q) acc C) S hb h2 fun D C s' H' J F hm q => ?_
  obtain ⟨m, hm⟩ := hm
  refine ⟨m, hm, fun h' hs' => ⟨.ref D, H', ?_, rfl, q⟩⟩
  exact J.turned (t' := s'.toks) (fun b o hb e => hs'.extBut b o hb e) F.1 F.2.1 F.2.2.2.1 F.2.2.2.2.1 F.2.2.2.2.2
theorem PI.calm (hc : X.calm = true) (h : PI X tg iter wi) : PIG X tg iter wi := fun pins s σ H R I hw =>
  thn (h pins s σ H R I hw) fun v s1 h1 => thn h1 fun itv s2 ⟨it, fp, tn, J, H', e, I2, T, r⟩ => ⟨it, fp, tn, J, H', e, I2, fun Y a hy => T.at a (hy.trans hc), r⟩
theorem pe_comp (S : CompScope X N fr scope) (hc : X.calm = true) (hi : PI X tg iter wi) (hb : PComp X N scope tg ifs elt g tt te)
    (hs : ∀ x, foldedSetIterable iter X.env x = pure x := by intro _; rfl) : PE X (.ListComp elt [⟨tg, iter, ifs, 0⟩] scope pos) (tComp wi g tt te fr) := pe_compG S (hi.calm hc) hb hs
end
end L2
end
section
set_option Elab.async false
set_option linter.all false
set_option maxRecDepth 100000
set_option maxHeartbeats 4000000
namespace L2
open PySem PySem.Spec PyProof.Rows
section
variable {prog : Program} {w : World} {A : Around} {E : Value → Shared → Prop} {s : Shared}
theorem unchain_ok {x a : Addr} {oe : Obj} {vs : Array Value} {Q : Value → Shared → Prop} (he : s.heap.get? x = some oe) (hd : oe.data = .fields vs) (h2 : vs[2]? = some .none) (h : Q .none s) :
    wpAny (model prog w) A (runValue (.builtin "proto.unchain" ⟨[.ref a, .ref x, .ref x, .bool false], []⟩)) Q E s := by
  refine wpAny_runValue (codeAny_builtin (b := Builtin.«proto.unchain») (entryFor_of_tree (by kernel_rfl)) ?_)
  unfold Builtin.«proto.unchain»
  refine wpAny_bind (wpAny_field he hd h2 ?_)
  exact wpAny_pure h
theorem wpAny_pyNext_range_endH {it x : Addr} {oe : Obj} {vs : Array Value} {y left step : Int} {Q : Option Value → Shared → Prop} (hh : A.handled = some (.ref x)) (he : s.heap.get? x = some oe) (hd : oe.data = .fields vs) (h2 : vs[2]? = some .none)
    (hit : IsRangeIter s.heap it y left step) (hleft : left ≤ 0) (hQ : ∀ h', Heap.ExtBut it s.heap h' → Q none { s with heap := h' }) : wpAny (model prog w) A (pyNext (.ref it)) Q E s := by
  have hT : s.TypeIs (.ref it) "range_iterator" := ⟨_, hit, rfl⟩
  unfold pyNext
  refine wpAny_bind (wpAny_attempt (wpAny_callSpecial?_slot (name := Str.ofString "__next__") hT F.slot_range_iterator_next
    (wpAny_call_entry F.slot_range_iterator_next hT F.entry_range_iterator_next ?_ (F.args_range_iterator_next_1 _))))
  show wpAny _ _ (field (.ref it) 0 >>= _) _ _ s
  refine wpAny_bind (wpAny_field hit rfl (x := rawInt y) rfl ?_)
  show wpAny _ _ (field (.ref it) 1 >>= _) _ _ s
  refine wpAny_bind (wpAny_field hit rfl (x := rawInt left) rfl ?_)
  show wpAny _ _ (field (.ref it) 2 >>= _) _ _ s
  refine wpAny_bind (wpAny_field hit rfl (x := rawInt step) rfl ?_)
  show wpAny _ _ (if left ≤ 0 then _ else _) _ _ s
  rw [if_pos hleft]
  refine wpAny_bind (wpAny_rule ?_)
  refine wpAny_bind ?_
  show wpAny _ _ (newExc (.type "StopIteration") [] >>= _) _ _ _
  refine wpAny_bind ?_
  simp only [newExc, newTuple]
  refine wpAny_bind (wpAny_newObj_type ?_ (by size_fits))
  refine wpAny_bind (m := firstArgMember _ _) (wpAny_of_eq (a := Value.none) (by first | rfl | (simp only [firstArgMember]; rfl)) ?_)
  refine wpAny_newObj_type ?_ (by size_fits)
  simp only [raiseNew]
  refine wpAny_bind (wpAny_handled ?_)
  rw [show A.in1.handled = some (.ref x) from hh]
  generalize hO1 : ({ cls := .type "tuple", dict := none, data := .seq ([] : List Value).toArray } : Obj) = o1
  generalize hO2 : ({ cls := .type "StopIteration", dict := none, data := _ } : Obj) = o2
  have hx1 : x < s.heap.objs.size := Heap.lt_size he
  have hne : (Value.ref x != Value.ref (s.heap.push o1).objs.size) = true := by
    have hsz : (s.heap.push o1).objs.size = s.heap.objs.size + 1 := Heap.size_push ..
    have : x ≠ (s.heap.push o1).objs.size := by rw [hsz]; exact Nat.ne_of_lt (Nat.lt_succ_of_lt hx1)
    simp only [bne_iff_ne, ne_eq]
    intro z
    injection z with z
    exact this z
  have heE : ((s.heap.push o1).push o2).get? x = some oe := Heap.get?_push_of_some _ (Heap.get?_push_of_some _ he)
  have hO2d : o2.data = .fields #[Value.ref s.heap.objs.size, .none, .none, .none, .bool false, .none] := by rw [← hO2]; rfl
  have hO2c : o2.cls = .type "StopIteration" := by rw [← hO2]
  have hE2 : ((s.heap.push o1).push o2).get? (s.heap.push o1).objs.size = some o2 := Heap.get?_push_size _ (Obj.isFreed_of_fields hO2d)
  show wpAny _ _ (if (Value.ref x != Value.ref (s.heap.push o1).objs.size) = true then _ else _) _ _ _
  rw [if_pos hne]
  refine wpAny_bind (wpAny_holding (unchain_ok heE hd h2 ?_))
  refine wpAny_bind (wpAny_setField (s := { s with heap := (s.heap.push o1).push o2 }) hE2 hO2d (by show 2 < 6; decide) (wpAny_throw ?_))
  have hE3 := Heap.get?_update_self (Obj.mapFields (·.setIfInBounds 2 (Value.ref x))) hE2 (Obj.isFreed_of_fields (Obj.data_mapFields hO2d _))
  refine wpAny_bind (wpAny_isInstance (T := "StopIteration") (b := true) ⟨_, hE3, (Obj.cls_mapFields _ _).trans hO2c⟩ isSubtype_stop ?_)
  refine wpAny_pure (hQ _ fun b o hb q => ?_)
  have q2 := Heap.get?_push_of_some o2 (Heap.get?_push_of_some o1 q)
  have hbl : b < s.heap.objs.size := Heap.lt_size q
  have hsz : (s.heap.push o1).objs.size = s.heap.objs.size + 1 := Heap.size_push ..
  rw [Heap.get?_update_other _ _ (by rw [hsz]; exact Nat.ne_of_gt (Nat.lt_succ_of_lt hbl))]
  exact q2
end
/-- lo, lo + 1, .. (n of them), while the exception at x is handled -/
def ItrH (x : Addr) (lo : Int) (n : Nat) : It := ⟨fun i _ => i < n, fun i H x H' => H' = H ∧ x = .int (lo + i), fun i H => n ≤ i ∧ ∃ cls d, H x = some (ExcO x cls d)⟩
theorem turn_rangeH {Y : Cx} {x : Addr} {tg : Expr} (hh : Y.A.handled = some (.ref x)) (it : Addr) (lo : Int) (n : Nat) : TurnAt Y tg (ItrH x lo n) [it] it (fun i h => IsRangeIter h it (lo + (i : Nat) * 1) ((n : Int) - (i : Nat)) 1) where
  obj := fun i h st b hb => by
    have e : b = it := by simpa using hb
    subst e
    exact ⟨_, st, fun v z => by
      have z' : Data.fields _ = Data.cell v := z
      cases z'⟩
  keep := fun i h h' st k => k it (by simp) _ st
  item := by
    intro i pins s σ H E I hf st hg
    have hg : i < n := hg
    obtain ⟨f0, f1, f2, f3, f4, f5⟩ := hf it (by simp)
    refine wpAny_pyNext_range_item st (by omega) fun h' st' sb => ?_
    have I1 : Inv Y pins σ H { s with heap := h', toks := s.toks + 1 } := I.turned (fun b o hb e => (sb.2 b hb).trans e) f0 f1 f3 f4 f5
    have e1 : lo + ((i : Nat) : Int) * 1 + 1 = lo + ((i + 1 : Nat) : Int) * 1 := by omega
    have e2 : ((n : Int) - (i : Nat)) - 1 = (n : Int) - ((i + 1 : Nat) : Int) := by omega
    rw [e1, e2] at st'
    refine ⟨_, rfl, go_of (s := { s with heap := h', toks := s.toks + 1 }) (n := "range_iterator") st' rfl rfl (by decide) ⟨.int (lo + i), H, I1, ⟨s.toks, ?_⟩, ⟨rfl, rfl⟩, st', fun b hb => (hf b hb).1⟩⟩
    rw [Int.mul_one]
  done := by
    intro i pins s σ H E I hf st hg
    obtain ⟨hg, cls, d, hx⟩ := hg
    obtain ⟨f0, f1, f2, f3, f4, f5⟩ := hf it (by simp)
    obtain ⟨⟨oe, vs, h1, _, _, h4, h5⟩, _⟩ := (show ObjOk Y.prog Y.w H s.heap x (ExcO x cls d) from I.hok x _ hx)
    exact wpAny_pyNext_range_endH hh h1 h4 h5 st (by omega) fun h' eb => ⟨rfl, I.turned (t' := s.toks) (fun b o hb e => eb b o hb e) f0 f1 f3 f4 f5⟩
  self := fun _ _ _ _ _ st h => wpAny_pyIter_rangeiter st h
section
variable {X : Cx} {tg : Expr}
theorem range_itH {x : Addr} {pins : List (Addr × Obj)} {σ : St} {H : Hp} {s : Shared} {R : It → Hp → Prop} {E : Value → Shared → Prop} {lo hi : Int} {t u v : Tok} {tk : Nat} (hh : X.A.handled = some (.ref x)) (I : Inv X pins σ H s) (h1 : -(2 ^ 62) ≤ lo) (h2 : lo < 2 ^ 62) (h3 : -(2 ^ 62) ≤ hi) (h4 : hi < 2 ^ 62)
    (q : R (ItrH x lo (hi - lo).toNat) H) : wpAny (model X.prog X.w) X.A (pyIter (.ref s.heap.objs.size)) (PIEG X pins σ tg R) E { s with heap := s.heap.push { cls := .type "range", data := .fields #[.int lo t, .int hi u, .int 1 v] }, toks := tk } := by
  refine wpAny_pyIter_range (IsRange.new ..) (small_one h1 h2 h3 h4) ?_
  have I1 : Inv X pins σ H { s with heap := s.heap.push { cls := .type "range", data := .fields #[.int lo t, .int hi u, .int 1 v] }, toks := tk } := I.kept fun b o e => Heap.get?_push_of_some _ e
  refine ⟨(s.heap.push { cls := .type "range", data := .fields #[.int lo t, .int hi u, .int 1 v] }).objs.size, [(s.heap.push { cls := .type "range", data := .fields #[.int lo t, .int hi u, .int 1 v] }).objs.size], _, _, H, rfl,
    I1.kept (t' := tk) fun b o e => Heap.get?_push_of_some _ e, fun Y al _ => turn_rangeH (by rw [al.A]; exact hh) _ lo (hi - lo).toNat, ?_, fun b hb => ?_, q⟩
  · have e1 : lo + ((0 : Nat) : Int) * 1 = lo := by simp
    have e2 : (((hi - lo).toNat : Nat) : Int) - ((0 : Nat) : Int) = Builtin.Range.rangeSize lo hi 1 := by rw [rangeSize_one]; split <;> omega
    show IsRangeIter _ _ (lo + ((0 : Nat) : Int) * 1) ((((hi - lo).toNat : Nat) : Int) - ((0 : Nat) : Int)) 1
    rw [e1, e2]
    exact Heap.get?_push_size _ rfl
  · have e : b = (s.heap.push { cls := .type "range", data := .fields #[.int lo t, .int hi u, .int 1 v] }).objs.size := by simpa using hb
    subst e
    exact I1.fpOk (Nat.le_refl _) (I1.hok.fresh (Nat.le_refl _))
def iRngH (x : Addr) (ta : TA) : TI := fun σ H R => ta σ H fun vs H1 => ∃ j : Int, vs = [.int j] ∧ -(2 ^ 62) ≤ j ∧ j < 2 ^ 62 ∧ R (ItrH x 0 j.toNat) H1
theorem pi_rangeH {x : Addr} {a : Expr} {ta : TA} {p pos : Pos} (hh : X.A.handled = some (.ref x)) (hg : Gl X "range") (hm : X.mg "range" = none) (ha : PA X [a] ta) (hs : starEach [a] X.env = [(false, eval a X.env)] := by rfl) : PIG X tg (.Call (.Name "range" p) [a] [] pos) (iRngH x ta) := by
  intro pins s σ H R I h
  refine Call_ (ld_blt I hg hm boot_range (PyProof.Rows.callWith_type1 (thn (ha pos pins s σ H _ I h) fun us s1 ⟨vs, H1, I1, r1, q1⟩ => ?_) hs rfl))
  obtain ⟨j, e, q1, q2, q⟩ := q1
  subst e
  cases r1 with
  | cons r rr =>
    cases rr
    obtain ⟨t, rfl⟩ := r
    exact call_range_1 (range_itH hh I1 (by omega) (by omega) q1 q2 (by simpa using q))
end
end L2
end
section
set_option Elab.async false
set_option linter.all false
set_option maxRecDepth 100000
set_option maxHeartbeats 4000000
namespace L2
open PySem PySem.Spec PyProof.Rows
section
variable {D : Addr} {g : TG} {tt : TT} {te : TE} {σ' : St} {H1 : Hp} {Q : Hp → Prop}
theorem comp_rangeH {x : Addr} {lo : Int} {n : Nat} (Pv : Nat → St → List V → Hp → Prop) (h0 : Pv 0 σ' [] (upd H1 D (.lst [])))
    (hs : ∀ i σ ys H, i < n → Pv i σ ys H → g (.int (lo + i)) σ H fun σ2 H2 => tt σ2 H2 fun b H3 =>
      if b = true then te σ2 H3 fun y H4 => H4 D = some (.lst ys) ∧ ys.length < sizeLine ∧ Pv (i + 1) σ2 (ys ++ [y]) (upd H4 D (.lst (ys ++ [y]))) else Pv (i + 1) σ2 ys H3)
    (hd : ∀ σ ys H, Pv n σ ys H → (∃ cls d, H x = some (ExcO x cls d)) ∧ Q H) : tBlock (ItrH x lo n) g tt te D σ' H1 Q := by
  refine ⟨fun i m σ ys H => m = n - i ∧ i ≤ n ∧ Pv i σ ys H, ⟨n, by simp, Nat.zero_le _, h0⟩, ?_⟩
  rintro i m σ ys H ⟨rfl, hi, p⟩
  by_cases hlt : i < n
  · refine .inr ⟨hlt, Pv (i + 1), fun σ' ys' H' p' => ⟨n - (i + 1), by omega, rfl, hlt, p'⟩, fun x H' y => ?_⟩
    obtain ⟨e, y⟩ := y
    subst e y
    exact hs i σ ys _ hlt p
  · have e : i = n := by omega
    subst e
    obtain ⟨z1, z2⟩ := hd σ ys H p
    exact .inl ⟨⟨Nat.le_refl _, z1⟩, z2⟩
end
/-! ### a call out of a suite -/
structure RoomH (k : Nat) (A : Around) (x : Addr) : Prop where
  hd : A.handled = some (.ref x)
  dp : A.depth + 3 * k + 5 < recursionLimit
  un : A.units + 16 * k + 200 < cLine
theorem RoomH.deeper {k : Nat} {A : Around} {x : Addr} (r : RoomH (k + 1) A x) (env : Env) : RoomH k (A.deeper env) x :=
  ⟨r.hd, by have := r.dp; show A.depth + 1 + 3 * k + 5 < _; omega, by have := r.un; show A.units + 3 + 16 * k + 200 < _; omega⟩
theorem Room.suite {k : Nat} {A : Around} (r : Room k A) (x : Addr) : RoomH k (A.mark (some (.ref x))) x := ⟨rfl, r.dp, r.un⟩
structure FnOkH (P : Program) (w : World) (K : PySem.W.Frag) (mg : Str → Option Value) (base : Heap) (k : Nat) (f : Addr) (fd : FuncData) (ps : List Str) (x : Addr) (sp : Sp) : Prop where
  len : ∀ vs H Q E, sp vs H Q E → vs.length = ps.length
  run : ∀ (A : Around) (outer : List Env) (s : Shared) (H : Hp) (args : Args) (us : List Value) (vs : List V) (Q : VK) (E : XK), RoomH k A x → Env0 P w K mg base A outer s H → BindsTo s fd args (ps.zip us) → Vals vs us → sp vs H Q E →
    codeAny (model P w) A (.call (.ref f) args) (CR CX0 outer P w H s Q E) s
def cxOfH (P : Program) (w : World) (K : PySem.W.Frag) (mg : Str → Option Value) (base : Heap) (N : List Str) (qual : Str) (scope : Scope) (f : Addr) (cd : Value) (A : Around) (outer : List Env) (s : Shared) (H : Hp) (E : XK) : Cx :=
  { cxOf CX0 P w K mg base N qual scope f cd A outer s H E with calm := false, xe := fun _ _ => False }
theorem inv_startH {P : Program} {w : World} {K : PySem.W.Frag} {mg : Str → Option Value} {base : Heap} {N ps : List Str} {qual : Str} {scope : Scope} {f : Addr} {cd : Value} {A : Around} {outer : List Env} {s s1 : Shared} {H : Hp} {E : XK} {us : List Value} {vs : List V}
    (S : FnScope N ps scope) (e0 : Env0 P w K mg base A outer s H) (hl : vs.length = ps.length) (r : Vals vs us)
    (x : InCallC s s.heap.objs.size (bindL (envOfC qual scope s.heap.objs.size f cd).kindOf (ps.zip us) fun _ => none) (cellsFrom (s.heap.objs.size + 1) scope.names []) (bindC (envOfC qual scope s.heap.objs.size f cd).kindOf (ps.zip us) fun _ => none) s1) :
    Inv (cxOfH P w K mg base N qual scope f cd A outer s H E) [] (start N vs) H s1 := by
  have e0' : Env0 P w K mg base { A with handled := none } outer s H := ⟨e0.frames, e0.mod, e0.bs, e0.bsz, e0.funs, e0.frf, e0.hok, e0.bare⟩
  have I := inv_start (CX := CX0) (E := E) (A := { A with handled := none }) S rfl e0' hl r x
  exact ⟨⟨I.ok.mod, I.ok.kind, I.ok.glob, I.ok.blt, I.ok.above, I.ok.inj, I.ok.has, I.ok.cab, (fun z => absurd z (by show ¬ (false = true); decide)), I.ok.frames, I.ok.stk, I.ok.exf, I.ok.bs, I.ok.bsz, I.ok.noex, I.ok.exfs, I.ok.funs, I.ok.frf⟩, I.os, I.bare, I.base, I.loc, I.cell, I.free, I.freeC, I.pin, I.hok, I.len⟩
theorem Fun.okH {P : Program} {w : World} {K : PySem.W.Frag} {mg : Str → Option Value} {base : Heap} {x qual : Str} {st : Stmt} {f ex : Addr} {fd : FuncData} {N ps : List Str} {k : Nat} {sp : Sp} (F : Fun K x qual st f fd) (S : FnScope N ps (defScope st)) (len : ∀ vs H Q E, sp vs H Q E → vs.length = ps.length)
    (hbody : ∀ (cdv : Value) (A : Around) (outer : List Env) (s : Shared) (H : Hp) (vs : List V) (Q : VK) (E : XK), RoomH k (A.deeper (envOfC qual (defScope st) s.heap.objs.size f cdv)) ex → sp vs H Q E →
      ∃ t, PSs (cxOfH P w K mg base N qual (defScope st) f cdv A outer s H E) (defBody st) t ∧ t { nx := fun _ H' => Q .non H', rt := Q } (start N vs) H) : FnOkH P w K mg base (k + 1) f fd ps ex sp := by
  obtain ⟨oc, od, kV, doc, pm, an, cdv, ct, osl, rfl, lk, hcd⟩ := F.ex
  refine ⟨len, fun A outer s H args us vs Q E hr e0 hb r hsp => ?_⟩
  have hl := len _ _ _ _ hsp
  have KX : K.In s.heap := e0.mod.kin.keeps fun b o e => (e0.bs b o e).1
  have lim : s.heap.NoLimit := e0.mod.nolimit.keeps fun b o e => (e0.bs b o e).1
  have hkind : ∀ y ∈ ps.zip us, (defScope st).names.lookup y.1 = some .local ∨ ((defScope st).names.lookup y.1 = some .cell ∧ ((cellsFrom (s.heap.objs.size + 1) (defScope st).names []).lookup y.1).isSome = true) := fun ⟨n, v⟩ hy => by
    rcases S.par n (List.of_mem_zip hy).1 with q | q
    · exact .inl q
    · exact .inr ⟨q, PySem.W.cellsFrom_some _ _ _ (.inl q)⟩
  refine codeAny_call_function (by have := hr.dp; omega) (KX _ _ lk) rfl S.co S.gen rfl (PySem.W.codeRec_of KX hcd) (hb _ _ _ _ ?_)
  refine wpAny_newFunctionEnv_cells S.kind hkind fun env he s1 z => ?_
  subst he
  refine ⟨lim.keeps z.toInCall.keep, codeAny_func ?_⟩
  obtain ⟨t, ht, hq⟩ := hbody cdv A outer s H vs Q E (hr.deeper _) hsp
  have I : Inv (cxOfH P w K mg base N qual (defScope st) f cdv A outer s H E) [] (start N vs) H s1 := inv_startH S e0 hl r z
  refine wpAny_mono (ht [] s1 (start N vs) H _ I hq) (fun fl s' hs => ?_) fun e s' hs => hs.elim
  have fin : ∀ {σ' : St} {H' : Hp} {v : V} {u : Value}, Inv (cxOfH P w K mg base N qual (defScope st) f cdv A outer s H E) [] σ' H' s' → RelV v u → Q v H' → CE outer P w H s Q u s' :=
    fun {σ' H' v u} J rv q => ⟨v, H', J.os, J.bare, J.base, J.hok, rv, q⟩
  cases fl with
  | ret u =>
    obtain ⟨v, σ', H', J, rv, q⟩ := hs
    exact fin J rv q
  | next =>
    obtain ⟨σ', H', J, q⟩ := hs
    exact fin (v := V.non) (u := Value.none) J rfl q
  | brk =>
    obtain ⟨_, _, _, q⟩ := hs
    exact False.elim q
  | cont =>
    obtain ⟨_, _, _, q⟩ := hs
    exact False.elim q
section
variable {X : Cx} {k : Nat} {f ex : Addr} {fd : FuncData} {ps : List Str} {sp : Sp} {dvs : List V} {ds : List Value} {x : Str} {p pos : Pos} {e : Expr} {es : List Expr} {t : TA}
/-- f(..) in a suite -/
theorem pe_callH (F : FnOkH X.prog X.w X.K X.mg X.base k f fd ps ex sp) (hr : RoomH k X.A ex) (hg : Gl X x) (hm : X.mg x = some (.ref f)) (hk : PySem.W.keepIn X.K (.ref f) = true) (hb : Binds X.K fd ps ds) (hd : Vals dvs ds)
    (ha : PA X (e :: es) t) (hdb : (x == ("__debug__" : Str)) = false := by decide) (he : starEach (e :: es) X.env = (false, eval e X.env) :: starEach es X.env := by rfl) (hpl : (backTo pos (starEach es X.env)).any (·.1) = false := by rfl) :
    PE X (.Call (.Name x p) (e :: es) [] pos) (tCall sp dvs E0 t) := by
  intro pins s σ H Q I h
  refine wpAny_Call_Name_kw (ld_glob I hg hm ?_ hdb)
  refine PySem.W.callWith_K (h₀ := X.base) I.ok.mod.kin hk (thn (ha pos pins s σ H _ I h) fun us s1 ⟨vs, H1, I1, r, q⟩ => ⟨I1.kIn, ?_⟩) he hpl
  have r2 : Vals (vs ++ dvs) (us ++ ds) := r.append hd
  have hl : (us ++ ds).length = ps.length := by rw [← r2.length]; exact F.len _ _ _ _ q
  refine wpAny_call (codeAny_mono (F.run X.A X.stack s1 H1 ⟨us, []⟩ (us ++ ds) (vs ++ dvs) Q E0 hr I1.env0 (hb s1 us I1.kIn hl) r2 q) fun r s' hq => ?_)
  cases r with
  | error e => exact False.elim hq
  | ok fl =>
    cases fl with
    | ret u => exact I1.after hq
    | next => exact False.elim hq
    | brk => exact False.elim hq
    | cont => exact False.elim hq
end
/-- a def that may raise: its body in a context whose exceptions leave -/
theorem Fun.ok1 {P : Program} {w : World} {K : PySem.W.Frag} {mg : Str → Option Value} {base : Heap} {x qual : Str} {st : Stmt} {f : Addr} {fd : FuncData} {N ps : List Str} {k : Nat} {sp : Sp} (F : Fun K x qual st f fd) (S : FnScope N ps (defScope st)) (len : ∀ vs H Q E, sp vs H Q E → vs.length = ps.length)
    (hbody : ∀ (cdv : Value) (A : Around) (outer : List Env) (s : Shared) (H : Hp) (vs : List V) (Q : VK) (E : XK), Room k (A.deeper (envOfC qual (defScope st) s.heap.objs.size f cdv)) → sp vs H Q E →
      ∃ t, PSs (cxOf (CX1 P w) P w K mg base N qual (defScope st) f cdv A outer s H E) (defBody st) t ∧ t { nx := fun _ H' => Q .non H', rt := Q } (start N vs) H) : FnOk P w K mg base (CX1 P w) (k + 1) f fd ps sp := by
  obtain ⟨oc, od, kV, doc, pm, an, cdv, ct, osl, rfl, lk, hcd⟩ := F.ex
  exact fn_of lk hcd S len fun A outer s H vs Q E hr hsp => hbody cdv A outer s H vs Q E hr hsp
end L2
end
section
set_option Elab.async false
set_option linter.all false
set_option maxRecDepth 100000
set_option maxHeartbeats 4000000
namespace L2
open PySem PySem.Spec PyProof.Rows PySem.W
/-- what an own exception class lets one ask of its objects -/
structure ExcCls (K : PySem.W.Frag) (D : Addr) : Prop where
  ga : PySem.W.findIn K (.ref D) "__getattribute__" = some (some (.builtin "BaseException.__getattribute__"))
  ha : PySem.W.findIn K (.ref D) "__getattr__" = some none
  cl : PySem.W.findIn K (.ref D) "__class__" = some (some (.builtin "object.__class__"))
  gt : PySem.W.specialIn K (.builtin "object.__class__") "__get__" = some (some (.builtin "getset_descriptor.__get__"))
  tk : PySem.W.takesIn K (.builtin "object.__class__") = some true
  mo : PySem.W.mroIn K D (.type "object") = some true
  mb : PySem.W.mroIn K D (.type "BaseException") = some true
  cd : (PySem.W.clsIn K D).isSome = true
section
variable {prog : Program} {w : World} {A : Around} {E : Value → Shared → Prop} {s : Shared} {K : PySem.W.Frag} {x D : Addr} {ox : Obj}
theorem exc_class {Q : Option Value → Shared → Prop} (X : K.In s.heap) (c : ExcCls K D) (I : PySem.W.InstAt s.heap x ox D none) (h : Q (some (.ref D)) { s with toks := s.toks + 1 }) : wpAny (model prog w) A (getAttr? (.ref x) "__class__") Q E s := by
  obtain ⟨hh, g, d, t, os⟩ := s
  have L0 := I.type (M := model prog w)
  have L1 := looks_findIn (M := model prog w) X c.ga
  have L2 := looks_findIn (M := model prog w) X c.ha
  have hf : findObj K D none "__class__" = some (.bind (.builtin "getset_descriptor.__get__") (.builtin "object.__class__")) := by
    obtain ⟨cd, hc⟩ := Option.isSome_iff_exists.mp c.cd
    unfold findObj
    rw [hc, Option.bind_some, c.cl, Option.bind_some]
    simp [c.gt, c.tk]
  have L3 := looks_find (M := model prog w) X I hf
  have L4 := looks_mroIn (M := model prog w) X c.mb
  have hx2 : (onTheHeap (Value.ref D) && Value.builtin "BaseException.__getattribute__" == Value.builtin "object.__getattribute__") = false := by
    have : (Value.builtin "BaseException.__getattribute__" == Value.builtin "object.__getattribute__") = false := by decide +kernel
    rw [this]; rfl
  unfold getAttr? getAttrBy? getAttrBy
  refine wpAny_bind (wpAny_mkText (wpAny_bind (wpAny_attempt (wpAny_holding (wpAny_bind (L0.at (wpAny_bind (L1.at ?_))))))))
  dsimp only
  rw [hx2]
  show wpAny _ _ (getAttrByItsOwn _ _ _ _ _ _) _ _ _
  unfold getAttrByItsOwn hookBefore
  refine wpAny_bind ?_
  show wpAny _ _ (typeLookup (.ref D) "__getattr__") _ _ _
  refine L2.at (wpAny_bind (wpAny_attempt (wpAny_holding ?_)))
  show wpAny _ _ (boundAndCalled _ _ _) _ _ _
  unfold boundAndCalled
  rw [F.excAttr_ValueError.ga.bind (.ref x)]
  refine wpAny_bind (wpAny_pure ?_)
  refine wpAny_call (codeAny_call_builtin F.excAttr_ValueError.ga.plain F.entry_bexc_ga ?_)
  have hk : builtinKind "BaseException.__getattribute__" = some .slot := by decide +kernel
  have hsplit : splitId "BaseException.__getattribute__" = some ("BaseException", "__getattribute__") := by decide +kernel
  have ha := F.args_bexc_ga (.ref x) (.str "__class__" t)
  have LI : Looks (model prog w) hh (isInstance (.ref x) (.type "BaseException")) true := L0.andThen L4
  have chk : ∀ (A : Around) (E : Value → Shared → Prop) (Q : Unit → Shared → Prop), Q () ⟨hh, g, d, t + 1, os⟩ → wpAny (model prog w) A (checkBuiltinCall "BaseException.__getattribute__" ⟨[.ref x, .str "__class__" t], []⟩) Q E ⟨hh, g, d, t + 1, os⟩ := by
    intro A E Q hq
    simp only [checkBuiltinCall, hk, hsplit]
    refine wpAny_bind (LI.at ?_)
    repeat (any_goals (first | assumption | wp_step))
  refine chk _ _ _ ?_
  unfold Builtin.«object.__getattribute__»
  refine wpAny_bind (m := slotArgs _ _ _) (wpAny_of_eq (a := (.ref x, [.str "__class__" t])) rfl ?_)
  refine wpAny_bind (wpAny_of_eq (a := ("__class__" : Str)) rfl ?_)
  refine wpAny_bind (L0.at (wpAny_bind (L3.at ?_)))
  show wpAny _ _ (Builtin.ObjectAttr.bindTo (.builtin "getset_descriptor.__get__") (.builtin "object.__class__") (.ref x) (.ref D)) _ _ _
  unfold Builtin.ObjectAttr.bindTo
  dsimp only
  refine wpAny_bind (wpAny_holding (wpAny_call (class_get (s := ⟨hh, g, d, t + 1, os⟩) X I c.mo ?_)))
  exact wpAny_pure (handed_on rfl (wpAny_pure h))
theorem kitx_exc (c : ExcCls K D) : PySem.W.KitX K (.ref x) (.ref D) (fun h => ∃ ox, PySem.W.InstAt h x ox D none) where
  ty := fun _ _ _ ⟨_, I⟩ => I.type
  it := fun _ _ X _ => by
    obtain ⟨cdD, hcD⟩ := Option.isSome_iff_exists.mp c.cd
    unfold PySem.W.clsIn at hcD
    split at hcD
    · rename_i c' d' cd' sl' ho
      intro A' Q' E' s' k q
      unfold isType loadHead
      exact wpAny_bind (wpAny_loadPart (k _ _ (X _ _ ho)) (wpAny_pure q))
    · cases hcD
  ne := fun h tp dd its n sl X htp => by
    obtain ⟨cdD, hcD⟩ := Option.isSome_iff_exists.mp c.cd
    refine Bool.eq_false_iff.mpr fun q => ?_
    have e : D = tp := Value.ref.inj (beq_iff_eq.mp q)
    subst e
    unfold PySem.W.clsIn at hcD
    split at hcD
    · rename_i c' d' cd' sl' ho
      have z := (X _ _ ho).symm.trans htp
      cases z
    · cases hcD
  ca := fun X ⟨_, I⟩ k => exc_class X c I k
end
section
variable {X : Cx}
/-- isinstance(e, C), e an exception of an own class D (without a dict), C a class -/
def rIsiX (K : PySem.W.Frag) (y : V) (c : Value) : List V → Hp → VK → Prop := fun xs H Q => ∃ (x D : Addr) (b : Bool), xs = [.ref x, y] ∧ H x = some (ExcO x (.ref D) none) ∧ ExcCls K D ∧ PySem.W.kitOne K (.ref D) c = some b ∧ Q (.bl b) H
theorem call_isiX {y : V} {c : Value} (hy : ∀ u, RelV y u → u = c) : CallR X (.builtin "isinstance") (rIsiX X.K y c) := by
  intro pins s σ H xs us Q I r h
  obtain ⟨x, D, b, rfl, hx, hc, e, q⟩ := h
  obtain ⟨u, w', rfl, ru, rw'⟩ := vals2 r
  cases (show u = Value.ref x from ru)
  cases hy w' rw'
  obtain ⟨⟨oe, vs, h1, h2, h3, h4, _⟩, _⟩ := (show ObjOk X.prog X.w H s.heap x (ExcO x (.ref D) none) from I.hok x _ hx)
  refine PySem.W.kia_one (kitx_exc hc) I.kIn ⟨oe, h1, h2, ?_, ?_⟩ e (fun z => nomatch z) fun tk => ⟨.bl b, H, I.tok _, rfl, q⟩
  · unfold PySem.W.notCls; rw [h4]
  · rw [h3]; trivial
/-- isinstance(x, T), T a built-in class -/
theorem call_isiT {c : String} : CallR X (.builtin "isinstance") (fun xs H Q => ∃ (x : V) (ty : Value) (b : Bool), xs = [x, .ty c] ∧ TyOf X.K H x ty ∧ PySem.W.kitOne X.K ty (.type c) = some b ∧ Q (.bl b) H) := by
  intro pins s σ H xs us Q I r h
  obtain ⟨x, ty, b, rfl, hty, e, q⟩ := h
  obtain ⟨u, w', rfl, ru, rw'⟩ := vals2 r
  cases (show w' = Value.type c from rw')
  exact isinst_ok I ru hty e fun tk => ⟨.bl b, H, I.tok _, rfl, q⟩
end
end L2
end
section
set_option Elab.async false
set_option linter.all false
set_option maxRecDepth 100000
set_option maxHeartbeats 1000000
namespace L2
open PySem PySem.Spec PyProof.Rows
/-! ### for x in reversed(list) -/
/-- a list of n items, walked from its end -/
def Itv (K : PySem.W.Frag) (a : Addr) (n : Nat) : It :=
  ⟨fun i H => ∃ xs x, SqL K H a xs ∧ i < n ∧ xs[n - 1 - i]? = some x, fun i H x H' => H' = H ∧ ∀ xs, SqL K H a xs → xs[n - 1 - i]? = some x, fun i _ => i = n⟩
theorem turn_rev {P : Program} {w : World} {K : PySem.W.Frag} {tg : Expr} (a it : Addr) (n : Nat) : Turn P w K tg (Itv K a n) [it] it (fun i h => h.IsRevIter it a ((n : Int) - 1 - (i : Int))) where
  mem := by simp
  obj := fun i h st b hb => by
    have z : b = it := by simpa using hb
    subst z
    obtain ⟨o, q, c, d⟩ := st
    exact ⟨o, q, fun v y => by rw [d] at y; cases y⟩
  keep := fun i h h' st k => st.at fun o q => k it (by simp) o q
  item := by
    intro X hP hw hK hc i pins s σ H E I hf st hg
    subst hP hw hK
    obtain ⟨xs, x, hq, hi, hx⟩ := hg
    obtain ⟨its, rv, p, hz⟩ := I.list hq
    obtain ⟨u, hu, ru⟩ := rv.get hx
    obtain ⟨f0, f1, f2, f3, f4, f5⟩ := hf it (by simp)
    have e1 : (n : Int) - 1 - (i : Int) = ((n - 1 - i : Nat) : Int) := by omega
    have st1 := st
    rw [e1] at st1
    refine wpAny_pyNext_rev_item st1 p.isList (x := u) (by simpa using hu) fun h' st' sb => ?_
    have I1 : Inv X pins σ H { s with heap := h' } := I.turned (t' := s.toks) (fun b o hb q => (sb.2 b hb).trans q) f0 f1 f3 f4 f5
    have e2 : ((n - 1 - i : Nat) : Int) - 1 = (n : Int) - 1 - ((i + 1 : Nat) : Int) := by omega
    rw [e2] at st'
    obtain ⟨o, q, c, d⟩ := id st'
    exact ⟨u, rfl, go_of (s := { s with heap := h' }) q c d (by decide) ⟨x, H, I1, ru, ⟨rfl, fun ys hy => by rw [I.list_inj hy hq]; exact hx⟩, st', fun b hb => (hf b hb).1⟩⟩
  done := by
    intro X hP hw hK hc i pins s σ H E I hf st hg
    subst hP hw hK
    have hi : i = n := hg
    obtain ⟨f0, f1, f2, f3, f4, f5⟩ := hf it (by simp)
    have st1 := st
    rw [show (n : Int) - 1 - (i : Int) = -1 by omega] at st1
    exact wpAny_pyNext_rev_end (I.ok.hd hc) st1 fun h' eb => ⟨rfl, I.turned (t' := s.toks) (fun b o hb q => eb b o hb q) f0 f1 f3 f4 f5⟩
  self := fun _ _ _ _ _ st h => wpAny_pyIter_revIter st h
section
variable {X : Cx} {tg : Expr}
theorem boot_reversed : bootBuiltins "reversed" = some (.type "reversed") := by decide +kernel
def iRev (K : PySem.W.Frag) (ta : TA) : TI := fun σ H R => ta σ H fun vs H1 => ∃ a xs, vs = [.ref a] ∧ SqL K H1 a xs ∧ R (Itv K a xs.length) H1
theorem pi_rev {a : Expr} {ta : TA} {p pos : Pos} (hg : Gl X "reversed") (hm : X.mg "reversed" = none) (ha : PA X [a] ta) (hs : starEach [a] X.env = [(false, eval a X.env)] := by rfl) :
    PI X tg (.Call (.Name "reversed" p) [a] [] pos) (iRev X.K ta) := by
  intro pins s σ H R I h
  refine Call_ (ld_blt I hg hm boot_reversed (PyProof.Rows.callWith_type1 (thn (ha pos pins s σ H _ I h) fun us s1 ⟨vs, H1, I1, r1, q1⟩ => ?_) hs rfl))
  obtain ⟨a, xs, e, hq, q⟩ := q1
  subst e
  obtain ⟨u, rfl, ru⟩ := Vals.one r1
  cases ru
  obtain ⟨its, rv, pl, hz⟩ := I1.list hq
  have hl := rv.length
  refine call_reversed_list pl.isList ?_
  have new : (s1.heap.push (revObj a ((its.toArray.size : Int) - 1))).IsRevIter s1.heap.objs.size a ((xs.length : Int) - 1 - ((0 : Nat) : Int)) := by
    have e : (xs.length : Int) - 1 - ((0 : Nat) : Int) = (its.toArray.size : Int) - 1 := by rw [List.size_toArray]; omega
    rw [e]
    exact ⟨_, Heap.get?_push_size _ rfl, rfl, rfl⟩
  refine wpAny_pyIter_revIter (s := { s1 with heap := s1.heap.push (revObj a ((its.toArray.size : Int) - 1)) }) new ?_
  refine ⟨s1.heap.objs.size, [s1.heap.objs.size], _, _, H1, rfl, I1.kept (t' := s1.toks) fun b o e => Heap.get?_push_of_some _ e, turn_rev a _ xs.length, new, fun b hb => ?_, q⟩
  have e : b = s1.heap.objs.size := by simpa using hb
  subst e
  exact I1.fpOk (Nat.le_refl _) (I1.hok.fresh (Nat.le_refl _))
end
/-- over a list, from its end, that the body leaves as it is -/
theorem for_rev {K : PySem.W.Frag} {a : Addr} {xs : List V} {g : TG} {tb : TS} {D : Ends} {σ : St} {H : Hp} (Pv : Nat → St → Hp → Prop) (h0 : Pv 0 σ H) (hl : ∀ i σ H, i ≤ xs.length → Pv i σ H → SqL K H a xs)
    (hs : ∀ i x σ H, i < xs.length → xs[xs.length - 1 - i]? = some x → Pv i σ H → g x σ H fun σ2 H2 => tb { D with nx := Pv (i + 1), ct := Pv (i + 1), bk := D.nx } σ2 H2) (hd : ∀ σ H, Pv xs.length σ H → D.nx σ H) :
    ∃ W : Nat → Nat → St → Hp → Prop, (∃ m, W 0 m σ H) ∧ ∀ i m σ H, W i m σ H →
      ((Itv K a xs.length).stop i H ∧ D.nx σ H) ∨ ((Itv K a xs.length).go i H ∧ ∃ N : St → Hp → Prop, (∀ σ' H', N σ' H' → ∃ m', m' < m ∧ W (i + 1) m' σ' H') ∧ ∀ x H', (Itv K a xs.length).yld i H x H' → g x σ H' fun σ2 H2 => tb { D with nx := N, ct := N, bk := D.nx } σ2 H2) := by
  refine ⟨fun i m σ H => m = xs.length - i ∧ i ≤ xs.length ∧ Pv i σ H, ⟨xs.length, by simp, Nat.zero_le _, h0⟩, ?_⟩
  rintro i m σ H ⟨rfl, hi, p⟩
  have q := hl i σ H hi p
  by_cases hlt : i < xs.length
  · refine .inr ⟨⟨xs, xs[xs.length - 1 - i]'(by omega), q, hlt, List.getElem?_eq_getElem (by omega)⟩, Pv (i + 1), fun σ' H' p' => ⟨xs.length - (i + 1), by omega, rfl, hlt, p'⟩, fun x H' y => ?_⟩
    obtain ⟨e, y⟩ := y
    subst e
    exact hs i x σ H' hlt (y xs q) p
  · have e : i = xs.length := by omega
    subst e
    exact .inl ⟨rfl, hd σ H p⟩
end L2
end
section
set_option Elab.async false
set_option linter.all false
set_option maxRecDepth 100000
set_option maxHeartbeats 1000000
namespace L2
open PySem PySem.Spec PyProof.Rows
/-! ### a text times an int -/
def rRepS : R2 := fun x y H Q => ∃ (l : List Nat) (k : Int), x = .str (txt l) ∧ y = .int k ∧ -(2 ^ 63) ≤ k ∧ k < 2 ^ 63 ∧ l.length * k.toNat ≤ sizeLine ∧ Q (.str (txt (List.replicate k.toNat l).flatten)) H
theorem foldl_repN (l : List Nat) : ∀ (n : Nat) (acc : List Nat), (List.replicate n l.toArray).foldl (· ++ ·) acc.toArray = (acc ++ (List.replicate n l).flatten).toArray
  | 0, acc => by simp
  | n + 1, acc => by
    rw [List.replicate_succ, List.foldl_cons, List.append_toArray, foldl_repN l n (acc ++ l), List.replicate_succ, List.flatten_cons, List.append_assoc]
section
variable {X : Cx}
theorem op_repS : OpR X (binaryOp .Mult) rRepS := by
  intro pins s σ H x y v u Q I rx ry h
  obtain ⟨l, k, rfl, rfl, h1, h2, hz, q⟩ := h
  obtain ⟨t, rfl⟩ := rx
  obtain ⟨t', rfl⟩ := ry
  have ht : (txt l).length = l.length := txt_len l
  refine P.mul_str ?_ ?_ ?_ ?_
  · rw [decide_eq_false (by omega), decide_eq_false (by omega)]; rfl
  · intro hk hne
    rw [ht]
    have hk1 : 1 ≤ k := by omega
    intro hgt
    have e : (2 ^ 63 - 1 : Int) / k * k ≤ 2 ^ 63 - 1 := Int.ediv_mul_le _ (by omega)
    have e2 : (2 ^ 63 - 1 : Int) < ((2 ^ 63 - 1 : Int) / k + 1) * k := Int.lt_ediv_add_one_mul_self _ (by omega)
    have e3 : ((2 ^ 63 - 1 : Int) / k + 1) * k ≤ (l.length : Int) * k := Int.mul_le_mul_of_nonneg_right (by omega) (by omega)
    have e4 : ((l.length * k.toNat : Nat) : Int) = (l.length : Int) * k := by rw [Int.natCast_mul, Int.toNat_of_nonneg (by omega)]
    rw [sizeLine_eq] at hz
    omega
  · intro _ _
    rw [ht]
    unfold Builtin.Str.tooLong
    simpa using hz
  · have give : ∀ (z : Str), z = txt (List.replicate k.toNat l).flatten → z.length ≤ sizeLine := fun z e => by
      rw [e, txt_len, List.length_flatten]; simpa [Nat.mul_comm] using hz
    by_cases c1 : k < 1
    · rw [if_pos c1]
      have e : Str.empty = txt (List.replicate k.toNat l).flatten := by
        rw [show k.toNat = 0 by omega]; rfl
      refine ⟨by decide, ?_⟩
      rw [e]
      exact ⟨.str _, H, I.tok _, ⟨_, rfl⟩, q⟩
    · rw [if_neg c1]
      by_cases c2 : (k == 1 || (txt l).length == 0) = true
      · rw [if_pos c2]
        have e : txt l = txt (List.replicate k.toNat l).flatten := by
          rw [ht] at c2
          rcases Bool.or_eq_true_iff.mp c2 with z | z
          · have : k = 1 := by simpa using z
            subst this; simp
          · have : l = [] := by simpa using z
            subst this; simp
        refine ⟨.str (txt l), H, I, ⟨_, rfl⟩, ?_⟩
        rw [e]; exact q
      · rw [if_neg c2]
        have e : (⟨(List.replicate k.toNat (txt l).cps).foldl (· ++ ·) #[]⟩ : Str) = txt (List.replicate k.toNat l).flatten := by
          have := foldl_repN l k.toNat []
          rw [List.nil_append] at this
          show (⟨_⟩ : Str) = ⟨_⟩
          congr 1
        refine ⟨give _ e, ?_⟩
        rw [e]
        exact ⟨.str _, H, I.tok _, ⟨_, rfl⟩, q⟩
end
end L2
end
section
set_option Elab.async false
set_option linter.all false
set_option maxRecDepth 100000
set_option maxHeartbeats 1000000
namespace L2
open PySem PySem.Spec PyProof.Rows
/-! ### xs[::-1] of a list -/
section
variable {X : Cx} {e st : Expr} {te ts : TE} {pos p2 : Pos}
def tRevL (K : PySem.W.Frag) (te ts : TE) : TE := fun σ H Q => te σ H fun x H1 => ts σ H1 fun z H2 => z = .int (-1) ∧ ∃ (a : Addr) (xs : List V), x = .ref a ∧ SqL K H2 a xs ∧ ∀ p, H2 p = none → Q (.ref p) (upd H2 p (.lst xs.reverse))
theorem vals_rev {xs : List V} {us : List Value} (r : Vals xs us) : Vals xs.reverse us.reverse := by
  induction r with
  | nil => exact .nil
  | cons h t ih =>
    rw [List.reverse_cons, List.reverse_cons]
    exact ih.append (.cons h .nil)
theorem pe_revL (he : PE X e te) (hs : PE X st ts) : PE X (.Subscript e (.Slice none none (some st) p2) pos) (tRevL X.K te ts) := by
  intro pins s σ H Q I h
  refine Subscript_ (thn (he pins s σ H _ I h) fun v s1 ⟨x, H1, I1, r1, q1⟩ => ?_)
  refine wpAny_Slice ?_
  rw [evalPart_none]
  refine wpAny_pure (wpAny_pure ?_)
  rw [evalPart_some]
  refine thn (hs pins s1 σ H1 _ I1 q1) fun vk s2 ⟨z, H2, I2, r2, q2⟩ => ?_
  obtain ⟨rfl, a, xs, rfl, hx, q⟩ := q2
  cases r1
  obtain ⟨t, rfl⟩ := r2
  have I3 : Inv X pins σ H2 { s2 with heap := s2.heap.push { cls := .type "slice", data := .fields #[.none, .none, .int (-1) t] } } := I2.kept (t' := s2.toks) fun b ob q => Heap.get?_push_of_some _ q
  obtain ⟨its, r, ht, hz⟩ := I3.list hx
  have hlen := r.length
  show wpAny (model X.prog X.w) X.A (subscriptTail e (.Slice none none (some st) p2) (.ref a) (.ref s2.heap.objs.size)) (EP X pins σ Q) X.xe { s2 with heap := s2.heap.push { cls := .type "slice", data := .fields #[.none, .none, .int (-1) t] } }
  refine tail_any (ops := [.ref a, .ref s2.heap.objs.size]) ht.isList.typeIs slot_list_getitem.lookup ?_ (by with_unfolding_all rfl)
  refine wpAny_getItem_list_slice ht.isList (Heap.IsSliceOf.new ..) .none .none (.int (-1) t) (by decide) ?_ (by rw [List.size_toArray] <;> omega)
  rw [PySem.W.krv_pick]
  refine ⟨.ref _, _, I3.laid (t' := s2.toks) (o := .lst xs.reverse) (fun b ob q => Heap.get?_push_of_some _ q) (Nat.le_refl _) ?_, rfl, q _ (I3.hok.fresh (Nat.le_refl _))⟩
  exact ⟨by rw [List.length_reverse]; exact hz, _, 0, vals_rev r, Heap.get?_push_size _ rfl⟩
end
end L2
end
section
set_option Elab.async false
set_option linter.all false
set_option maxRecDepth 100000
set_option maxHeartbeats 1000000
namespace L2
open PySem PySem.Spec PyProof.Rows
/-! ### list(enumerate(text)) -/
abbrev EnO (h : Heap) (e it : Addr) (i : Int) (f0 f1 f5 : Value) : Prop :=
  h.get? e = some { cls := .type "enumerate", dict := none, data := .fields #[f0, f1, .ref it, rawInt i, .none, f5], slots := #[] }
section
variable {prog : Program} {w : World} {A : Around} {E : Value → Shared → Prop} {s : Shared} {e it a : Addr} {fp : List Addr} {n i : Nat} {Pv : Nat → Value → Prop} {St : Nat → Heap → Prop}
/-- a turn while what was handed out first is still alive -/
theorem en_out {f : Bool} {f5 : Value} {oa : Obj} {Q : Option Value → Shared → Prop} (D : Draws prog w A.in1 it fp n Pv St) (he : EnO s.heap e it i (rawInt a) (.bool f) f5) (ha : s.heap.get? a = some oa) (hae : a ≠ e) (hai : a ≠ it)
    (hst : St i s.heap) (hlt : i < n) (hne : e ≠ it) (hef : e ∉ fp)
    (hQ : ∀ (x : Value) (h' : Heap) (tk : Nat), Pv i x → EnO h' e it ((i : Int) + 1) (rawInt a) (.bool true) f5 → St (i + 1) h' → h'.get? s.heap.objs.size = some { cls := .type "tuple", data := .seq #[.int i tk, x] } →
      h'.objs.size = s.heap.objs.size + 1 → (∀ b o, b ≠ e → b ≠ it → s.heap.get? b = some o → h'.get? b = some o) → Q (some (.ref s.heap.objs.size)) { s with heap := h', toks := tk + 1 }) :
    wpAny (model prog w) A (pyNext (.ref e)) Q E s := by
  obtain ⟨hp, g, d, tk0, os⟩ := s
  have hT : Shared.TypeIs ⟨hp, g, d, tk0, os⟩ (.ref e) "enumerate" := ⟨_, he, rfl⟩
  unfold pyNext
  refine wpAny_bind (wpAny_attempt (wpAny_callSpecial?_slot (name := Str.ofString "__next__") hT PySem.F.slot_enumerate_next (wpAny_call_entry PySem.F.slot_enumerate_next hT PySem.F.entry_enumerate_next ?_ (PySem.F.args_enumerate_next_1 _))))
  show wpAny _ _ (field (.ref e) 2 >>= _) _ _ _
  refine wpAny_bind (wpAny_field he rfl (x := .ref it) rfl (wpAny_bind (D.item i _ _ _ hlt hst fun x h1 tk hPx st1 sb1 => ?_)))
  replace sb1 : Heap.SameBut it hp h1 := sb1
  have e1 : EnO h1 e it i (rawInt a) (.bool f) f5 := (sb1.2 e hne).trans he
  show wpAny _ _ (field (.ref e) 3 >>= _) _ _ ⟨h1, g, d, tk, os⟩
  refine wpAny_bind (wpAny_field e1 rfl (x := rawInt i) rfl ?_)
  show wpAny _ _ (field (.ref e) 4 >>= _) _ _ ⟨h1, g, d, tk, os⟩
  refine wpAny_bind (wpAny_field e1 rfl (x := .none) rfl ?_)
  show wpAny _ _ (mkInt i >>= _) _ _ ⟨h1, g, d, tk, os⟩
  refine wpAny_bind (wpAny_mkInt ?_)
  show wpAny _ _ (setField (.ref e) 3 (rawInt ((i : Int) + 1)) >>= _) _ _ ⟨h1, g, d, tk + 1, os⟩
  refine wpAny_bind (wpAny_setField_rec e1 (by simp) fun h2 e2 sb2 => ?_)
  replace sb2 : Heap.SameBut e h1 h2 := sb2
  replace e2 : EnO h2 e it ((i : Int) + 1) (rawInt a) (.bool f) f5 := e2
  show wpAny _ _ (setField (.ref e) 4 .none >>= _) _ _ ⟨h2, g, d, tk + 1, os⟩
  refine wpAny_bind (wpAny_setField_rec e2 (by simp) fun h3 e3 sb3 => ?_)
  replace sb3 : Heap.SameBut e h2 h3 := sb3
  replace e3 : EnO h3 e it ((i : Int) + 1) (rawInt a) (.bool f) f5 := e3
  show wpAny _ _ (newTuple [.int i tk, x] >>= _) _ _ ⟨h3, g, d, tk + 1, os⟩
  refine wpAny_bind (wpAny_newTuple ?_)
  have z3 : h3.objs.size = hp.objs.size := by rw [sb3.1, sb2.1, sb1.1]
  have e4 : EnO (h3.push { cls := .type "tuple", data := .seq #[.int i tk, x] }) e it ((i : Int) + 1) (rawInt a) (.bool f) f5 := Heap.get?_push_of_some _ e3
  have k4 : ∀ b o, b ≠ e → b ≠ it → hp.get? b = some o → (h3.push { cls := .type "tuple", data := .seq #[.int i tk, x] }).get? b = some o := fun b o n1 n2 q => Heap.get?_push_of_some _ (sb3.extBut b o n1 (sb2.extBut b o n1 (sb1.extBut b o n2 q)))
  have t4 : (h3.push { cls := .type "tuple", data := .seq #[.int i tk, x] }).get? hp.objs.size = some { cls := .type "tuple", data := .seq #[.int i tk, x] } := by rw [← z3]; exact Heap.get?_push_size _ rfl
  have z4 : (h3.push { cls := .type "tuple", data := .seq #[.int i tk, x] }).objs.size = hp.objs.size + 1 := by rw [Heap.size_push, z3]
  have st4 : St (i + 1) (h3.push { cls := .type "tuple", data := .seq #[.int i tk, x] }) := D.frame _ _ _ st1 fun b hb o q => by
    have n1 : b ≠ e := fun z => hef (z ▸ hb)
    exact Heap.get?_push_of_some _ (sb3.extBut b o n1 (sb2.extBut b o n1 q))
  show wpAny _ _ (Builtin.SmallTypes.ownedTupleIsFree (.ref e) >>= _) _ _ ⟨_, g, d, tk + 1, os⟩
  rw [z3]
  generalize h3.push { cls := .type "tuple", data := .seq #[.int i tk, x] } = h4 at e4 k4 t4 z4 st4
  have ha4 : h4.get? a = some oa := k4 a oa hae hai ha
  have hel : e < hp.objs.size := Heap.lt_size he
  have fin : ∀ h5 : Heap, EnO h5 e it ((i : Int) + 1) (rawInt a) (.bool true) f5 → Heap.SameBut e h4 h5 → Q (some (.ref hp.objs.size)) ⟨h5, g, d, tk + 1, os⟩ := fun h5 e5 sb5 =>
    hQ x h5 tk hPx e5 (D.frame _ _ _ st4 fun b hb o q => sb5.extBut b o (fun z => hef (z ▸ hb)) q) (sb5.extBut _ _ (Nat.ne_of_gt hel) t4) (by show h5.objs.size = hp.objs.size + 1; rw [sb5.1, z4]) fun b o n1 n2 q => sb5.extBut b o n1 (k4 b o n1 n2 q)
  refine wpAny_bind ?_
  unfold Builtin.SmallTypes.ownedTupleIsFree
  refine wpAny_bind (wpAny_field e4 rfl (x := rawInt a) rfl ?_)
  show wpAny _ _ (loadIfAlive ((a : Int).toNat) >>= _) _ _ _
  rw [Int.toNat_natCast]
  refine wpAny_bind (PySem.W.kdx_alive ha4 ?_)
  simp only [Option.isNone_some, Bool.false_eq_true, if_false]
  refine wpAny_bind (wpAny_field e4 rfl (x := .bool f) rfl ?_)
  cases f with
  | true =>
    rw [if_neg (show ¬ ((Value.bool true != Value.bool true) = true) from Bool.false_ne_true)]
    refine wpAny_pure ?_
    simp only [Bool.false_eq_true, if_false]
    exact wpAny_pure ⟨_, rfl, wpAny_pure (fin h4 e4 (Heap.SameBut.refl _ _))⟩
  | false =>
    rw [if_pos (show (Value.bool false != Value.bool true) = true from rfl)]
    refine wpAny_bind (wpAny_setField_rec e4 (by simp) fun h5 e5 sb5 => wpAny_pure ?_)
    replace sb5 : Heap.SameBut e h4 h5 := sb5
    simp only [Bool.false_eq_true, if_false]
    exact wpAny_pure ⟨_, rfl, wpAny_pure (fin h5 e5 sb5)⟩
theorem en_end {f0 f1 f5 : Value} {j : Int} {Q : Option Value → Shared → Prop} (D : Draws prog w A.in1 it fp n Pv St) (he : EnO s.heap e it j f0 f1 f5) (hst : St n s.heap)
    (hQ : ∀ h', Heap.ExtBut it s.heap h' → Q none { s with heap := h' }) : wpAny (model prog w) A (pyNext (.ref e)) Q E s := by
  have hT : s.TypeIs (.ref e) "enumerate" := ⟨_, he, rfl⟩
  unfold pyNext
  refine wpAny_bind (wpAny_attempt (wpAny_callSpecial?_slot (name := Str.ofString "__next__") hT PySem.F.slot_enumerate_next (wpAny_call_entry PySem.F.slot_enumerate_next hT PySem.F.entry_enumerate_next ?_ (PySem.F.args_enumerate_next_1 _))))
  show wpAny _ _ (field (.ref e) 2 >>= _) _ _ _
  refine wpAny_bind (wpAny_field he rfl (x := .ref it) rfl (wpAny_bind (D.done _ _ _ hst fun h' x he' ⟨o, ho, hc⟩ => ?_)))
  exact wpAny_bind (wpAny_isInstance (T := "StopIteration") (b := true) ⟨o, ho, hc⟩ isSubtype_stop (wpAny_pure (hQ _ he')))
end
theorem en_no_len : typeLookup (.type "enumerate") "__len__" = pure none := by rw [typeLookup_type, builtinLookup_eq_fast]; kernel_rfl
theorem en_no_hint : typeLookup (.type "enumerate") "__length_hint__" = pure none := by rw [typeLookup_type, builtinLookup_eq_fast]; kernel_rfl
/-- where the enumeration stands while S is filled -/
def EnSt (h : Heap) (e it S : Addr) (i : Nat) : Prop := ∃ f5, EnO h e it i .none (.bool false) f5 ∨ ∃ (a : Addr) (f : Bool) (oa : Obj), EnO h e it i (rawInt a) (.bool f) f5 ∧ h.get? a = some oa ∧ a ≠ e ∧ a ≠ it ∧ a ≠ S
theorem EnSt.keep {h h' : Heap} {e it S : Addr} {i : Nat} (x : EnSt h e it S i) (hk : ∀ b o, b ≠ S → h.get? b = some o → h'.get? b = some o) (hS : S ≠ e) : EnSt h' e it S i := by
  obtain ⟨f5, x | ⟨a, f, oa, x, ha, h1, h2, h3⟩⟩ := x
  · exact ⟨f5, .inl (hk e _ (Ne.symm hS) x)⟩
  · exact ⟨f5, .inr ⟨a, f, oa, hk e _ (Ne.symm hS) x, hk a _ h3 ha, h1, h2, h3⟩⟩
theorem EnSt.type {s : Shared} {e it S : Addr} {i : Nat} (x : EnSt s.heap e it S i) : s.TypeIs (.ref e) "enumerate" := by
  obtain ⟨f5, x | ⟨a, f, oa, x, _⟩⟩ := x
  · exact ⟨_, x, rfl⟩
  · exact ⟨_, x, rfl⟩
section
variable {prog : Program} {w : World} {A : Around} {s : Shared} {R : Result → Shared → Prop} {e it S base : Addr} {n : Nat} {Pv : Nat → Value → Prop} {St : Nat → Heap → Prop}
theorem en_turn {E : Value → Shared → Prop} {i : Nat} {Q : Option Value → Shared → Prop} (D : Draws prog w A.in1 it [it] n Pv St) (hst : EnSt s.heap e it S i) (st : St i s.heap) (hlt : i < n) (hei : e ≠ it) (hSl : S < s.heap.objs.size)
    (hQ : ∀ (x : Value) (h' : Heap) (tk : Nat), Pv i x → EnSt h' e it S (i + 1) → St (i + 1) h' → h'.get? s.heap.objs.size = some { cls := .type "tuple", data := .seq #[.int i tk, x] } →
      h'.objs.size = s.heap.objs.size + 1 → (∀ b o, b ≠ e → b ≠ it → s.heap.get? b = some o → h'.get? b = some o) → Q (some (.ref s.heap.objs.size)) { s with heap := h', toks := tk + 1 }) :
    wpAny (model prog w) A (pyNext (.ref e)) Q E s := by
  have hef : e ∉ [it] := fun z => hei (List.mem_singleton.mp z)
  obtain ⟨f5, x | ⟨a, f, oa, x, ha, h1, h2, h3⟩⟩ := hst
  · have hel : e < s.heap.objs.size := Heap.lt_size x
    have hil : it < s.heap.objs.size := by obtain ⟨_, y⟩ := D.live _ _ st; exact Heap.lt_size y
    exact wpAny_pyNext_enum_itemD D x st hlt hei hef fun v h' tk hp ho st' ht hz hk => hQ v h' tk hp ⟨v, .inr ⟨_, false, _, ho, ht, Nat.ne_of_gt hel, Nat.ne_of_gt hil, Nat.ne_of_gt hSl⟩⟩ st' ht hz hk
  · exact en_out D x ha h1 h2 st hlt hei hef fun v h' tk hp ho st' ht hz hk => hQ v h' tk hp ⟨f5, .inr ⟨a, true, oa, ho, hk a oa h1 h2 ha, h1, h2, h3⟩⟩ st' ht hz hk
theorem en_stop {E : Value → Shared → Prop} {i : Nat} {Q : Option Value → Shared → Prop} (D : Draws prog w A.in1 it [it] n Pv St) (hst : EnSt s.heap e it S i) (st : St n s.heap)
    (hQ : ∀ h', Heap.ExtBut it s.heap h' → Q none { s with heap := h' }) : wpAny (model prog w) A (pyNext (.ref e)) Q E s := by
  obtain ⟨f5, x | ⟨a, f, oa, x, ha, h1, h2, h3⟩⟩ := hst
  · exact en_end D x st hQ
  · exact en_end D x st hQ
def EnTup (Pv : Nat → Value → Prop) (h : Heap) (base j : Nat) : Prop := ∃ (t : Nat) (v : Value), Pv j v ∧ h.get? (base + j) = some { cls := .type "tuple", data := .seq #[.int j t, v] }
theorem en_loop (D : Draws prog w A.in1.in1 it [it] n Pv St) (hei : e ≠ it) (hSe : S ≠ e) (hSi : S ≠ it) (hSb : S < base) (heb : e < base) (hib : it < base) (hn : n ≤ sizeLine) (res : Value) {h1 : Heap}
    (hR : ∀ h' tk acc c, (∀ b o, b ≠ S → b ≠ e → b ≠ it → h1.get? b = some o → h'.get? b = some o) → h'.get? S = some { cls := .type "list", dict := none, data := .seq acc c, slots := #[] } →
      acc.toList = (List.range n).map (fun j => Value.ref (base + j)) → (∀ j, j < n → EnTup Pv h' base j) → R (.ok (.ret res)) { s with heap := h', toks := tk }) :
    ∀ (k i : Nat) (h : Heap) (tk c : Nat) (acc : Array Value), n - i = k → i ≤ n → EnSt h e it S i → St i h → (∀ b o, b ≠ S → b ≠ e → b ≠ it → h1.get? b = some o → h.get? b = some o) →
      h.get? S = some { cls := .type "list", dict := none, data := .seq acc c, slots := #[] } → acc.toList = (List.range i).map (fun j => Value.ref (base + j)) → (∀ j, j < i → EnTup Pv h base j) → h.objs.size = base + i →
      codeAny (model prog w) A (.builtin "list.extend.loop" ⟨[.ref S, .ref e, res], []⟩) R { s with heap := h, toks := tk } := by
  have nS : ∀ j : Nat, base + j ≠ S := fun j => Nat.ne_of_gt (Nat.lt_of_lt_of_le hSb (Nat.le_add_right _ _))
  have nE : ∀ j : Nat, base + j ≠ e := fun j => Nat.ne_of_gt (Nat.lt_of_lt_of_le heb (Nat.le_add_right _ _))
  have nI : ∀ j : Nat, base + j ≠ it := fun j => Nat.ne_of_gt (Nat.lt_of_lt_of_le hib (Nat.le_add_right _ _))
  intro k
  induction k with
  | zero =>
    intro i h tk c acc hk hi hst st hkeep hS hacc htup hsz
    have hin : i = n := by omega
    subst hin
    refine codeAny_builtin PySem.F.entry_extend_loop ?_
    rw [Around.under_plainId PySem.F.plain_extend_loop _]
    show wpAny _ A.in1 (pyNext (.ref e) >>= _) _ _ _
    refine wpAny_bind (en_stop (s := { s with heap := h, toks := tk }) (A := A.in1) D hst st fun h' he => wpAny_pure (hR h' tk acc c (fun b o n1 n2 n3 q => he b o n3 (hkeep b o n1 n2 n3 q)) (he S _ hSi hS) hacc fun j hj => ?_))
    obtain ⟨t, v, hp, ht⟩ := htup j hj
    exact ⟨t, v, hp, he _ _ (nI j) ht⟩
  | succ k ih =>
    intro i h tk c acc hk hi hst st hkeep hS hacc htup hsz
    have hlt : i < n := by omega
    have hlen : acc.size = i := by rw [← Array.length_toList, hacc, List.length_map, List.length_range]
    refine codeAny_builtin PySem.F.entry_extend_loop ?_
    rw [Around.under_plainId PySem.F.plain_extend_loop _]
    show wpAny _ A.in1 (pyNext (.ref e) >>= _) _ _ _
    refine wpAny_bind (en_turn (s := { s with heap := h, toks := tk }) (A := A.in1) D hst st hlt hei (Heap.lt_size hS) fun x h' tk' hp hst' st' ht hz hkp => ?_)
    dsimp only at ht hz hkp ⊢
    have hS' := hkp S _ hSe hSi hS
    have up : ∀ b o, b ≠ S → h'.get? b = some o → (h'.update S (Obj.mapSeq (·.push (Value.ref h.objs.size)))).get? b = some o := fun b o hb q => (Heap.get?_update_other _ _ (Ne.symm hb)).trans q
    show wpAny _ A.in1 (updateSeq S (·.push (Value.ref h.objs.size)) >>= _) _ _ _
    refine wpAny_bind ?_
    refine wpAny_updateSeq hS' rfl (wpAny_pure ⟨plainId_quiet PySem.F.plain_extend_loop _, ih (i + 1) _ (tk' + 1) _ (acc.push (Value.ref h.objs.size)) (by omega) hlt (hst'.keep up hSe) (D.frame _ _ _ st' fun b hb o q => up b o (fun z => hSi (z ▸ List.mem_singleton.mp hb)) q)
      (fun b o n1 n2 n3 q => up b o n1 (hkp b o n2 n3 (hkeep b o n1 n2 n3 q))) (Heap.get?_update_self _ hS' rfl) ?_ ?_ ?_⟩) (by rw [hlen]; omega) (by show (acc.push (Value.ref h.objs.size)).size ≤ sizeLine + 1; rw [Array.size_push, hlen]; omega)
    · rw [Array.toList_push, hacc, List.range_succ, List.map_append, hsz]; rfl
    · intro j hj
      by_cases hji : j < i
      · obtain ⟨t, v, hp', ht'⟩ := htup j hji
        exact ⟨t, v, hp', up _ _ (nS j) (hkp _ _ (nE j) (nI j) ht')⟩
      · have ej : j = i := by omega
        subst ej
        exact ⟨tk', x, hp, up _ _ (nS j) (by rw [← hsz]; exact ht)⟩
    · show (h'.update S _).objs.size = base + (i + 1)
      rw [Heap.size_update, hz, hsz]; omega
end
end L2
end
section
set_option Elab.async false
set_option linter.all false
set_option maxRecDepth 100000
set_option maxHeartbeats 1000000
namespace L2
open PySem PySem.Spec PyProof.Rows
section
variable {prog : Program} {w : World} {A : Around} {s : Shared} {R : Result → Shared → Prop} {e it S : Addr} {n : Nat} {Pv : Nat → Value → Prop} {St : Nat → Heap → Prop}
theorem en_extend (D : Draws prog w A.in1.in1 it [it] n Pv St) (hei : e ≠ it) (hSe : S ≠ e) (hSi : S ≠ it) (hn : n ≤ sizeLine) (res : Value) (c0 : Nat) (he : EnO s.heap e it ((0 : Nat) : Int) .none (.bool false) .none) (st : St 0 s.heap)
    (hS : s.heap.get? S = some { cls := .type "list", data := .seq #[] c0 })
    (hR : ∀ h' tk acc c, (∀ b o, b ≠ S → b ≠ e → b ≠ it → s.heap.get? b = some o → h'.get? b = some o) → h'.get? S = some { cls := .type "list", dict := none, data := .seq acc c, slots := #[] } →
      acc.toList = (List.range n).map (fun j => Value.ref (s.heap.objs.size + j)) → (∀ j, j < n → EnTup Pv h' s.heap.objs.size j) → R (.ok (.ret res)) { s with heap := h', toks := tk }) :
    wpAny (model prog w) A.in1 (Builtin.List.listExtendWith (.ref S) (.ref e) res)
      (fun fin s' => match fin with | .done f => R (.ok f) s' | .again c' => c'.quiet = true ∧ codeAny (model prog w) A c' R s') (fun e s' => R (.error e) s') s := by
  have hSl : S < s.heap.objs.size := Heap.lt_size hS
  have hst : EnSt s.heap e it S 0 := ⟨.none, .inl he⟩
  have hel : e < s.heap.objs.size := Heap.lt_size he
  have hil : it < s.heap.objs.size := by obtain ⟨_, y⟩ := D.live _ _ st; exact Heap.lt_size y
  unfold Builtin.List.listExtendWith
  refine wpAny_bind (wpAny_typeOf hst.type ?_)
  have h1 : Builtin.List.listSameRef (.ref S) (.ref e) = false := by simp [Builtin.List.listSameRef, hSe]
  have h2 : (Value.type "enumerate" == Value.type "list") = false := by decide
  have h3 : (Value.type "enumerate" == Value.type "tuple") = false := by decide
  simp only [h1, h2, h3, Bool.or_false, Bool.false_eq_true, if_false]
  refine wpAny_bind (wpAny_pyIter_enum he ?_)
  refine wpAny_bind (wpAny_holding ?_)
  unfold Builtin.List.listLengthHint
  refine wpAny_bind (wpAny_specialOf hst.type en_no_len ?_)
  show wpAny _ A.in1 (specialOf (Value.ref e) (Str.ofString "__length_hint__") >>= _) _ _ _
  refine wpAny_bind (wpAny_specialOf hst.type en_no_hint (wpAny_pure ?_))
  show wpAny _ A.in1 (rule "list.extend.makes-room" >>= fun _ => Builtin.List.listTouch (.ref S) >>= fun _ => again (.builtin "list.extend.loop" ⟨[.ref S, .ref e, res], []⟩)) _ _ _
  refine wpAny_bind (wpAny_rule (wpAny_bind ?_))
  show wpAny _ A.in1 (updateSeq S (·.push .none) >>= fun _ => updateSeq S (·.pop)) _ _ _
  refine wpAny_bind (wpAny_updateSeq hS rfl ?_)
  have hS2 := Heap.get?_update_self (Obj.mapSeq (·.push Value.none)) hS rfl
  refine wpAny_updateSeq (hz := by seq_fits) hS2 rfl ?_
  have hS3 := Heap.get?_update_self (Obj.mapSeq (·.pop)) hS2 rfl
  have oth : ∀ b o, b ≠ S → s.heap.get? b = some o → ((s.heap.update S (Obj.mapSeq (·.push Value.none))).update S (Obj.mapSeq (·.pop))).get? b = some o :=
    fun b o hb q => (Heap.get?_update_other _ _ (Ne.symm hb)).trans ((Heap.get?_update_other _ _ (Ne.symm hb)).trans q)
  refine wpAny_pure ⟨plainId_quiet PySem.F.plain_extend_loop _, en_loop (s := s) (h1 := s.heap) D hei hSe hSi hSl hel hil hn res hR n 0 _ s.toks _ _ rfl (Nat.zero_le _) (hst.keep oth hSe) (D.frame _ _ _ st fun b hb o q => oth b o (fun z => hSi (z ▸ List.mem_singleton.mp hb)) q)
    (fun b o n1 _ _ q => oth b o n1 q) hS3 rfl (fun j hj => absurd hj (Nat.not_lt_zero j)) ?_⟩
  rw [Heap.size_update, Heap.size_update]; rfl
theorem en_init (D : Draws prog w A.in1.in1 it [it] n Pv St) (hei : e ≠ it) (hSe : S ≠ e) (hSi : S ≠ it) (hn : n ≤ sizeLine) (he : EnO s.heap e it ((0 : Nat) : Int) .none (.bool false) .none) (st : St 0 s.heap)
    (hS : s.heap.get? S = some { cls := .type "list", data := .seq #[] })
    (hR : ∀ h' tk acc c, (∀ b o, b ≠ S → b ≠ e → b ≠ it → s.heap.get? b = some o → h'.get? b = some o) → h'.get? S = some { cls := .type "list", dict := none, data := .seq acc c, slots := #[] } →
      acc.toList = (List.range n).map (fun j => Value.ref (s.heap.objs.size + j)) → (∀ j, j < n → EnTup Pv h' s.heap.objs.size j) → R (.ok (.ret .none)) { s with heap := h', toks := tk }) :
    wpAny (model prog w) A.in1 (Builtin.«list.__init__» ⟨[.ref S, .ref e], []⟩)
      (fun fin s' => match fin with | .done f => R (.ok f) s' | .again c' => c'.quiet = true ∧ codeAny (model prog w) A c' R s') (fun e s' => R (.error e) s') s := by
  show wpAny _ A.in1 (do let old ← Builtin.List.listItems (.ref S); Builtin.List.listUpdate (.ref S) (fun _ => #[]); letGo old.toList.reverse; Builtin.List.listExtendWith (.ref S) (.ref e) .none) _ _ s
  refine wpAny_bind ?_
  unfold Builtin.List.listItems
  refine wpAny_bind (wpAny_seqItems hS rfl (wpAny_pure ?_))
  show wpAny _ A.in1 (updateSeq S (fun _ => #[]) >>= fun _ => letGo (#[] : Array Value).toList.reverse >>= fun _ => Builtin.List.listExtendWith (.ref S) (.ref e) .none) _ _ s
  refine wpAny_bind (wpAny_updateSeq hS rfl ?_)
  have hS2 := Heap.get?_update_self (Obj.mapSeq (fun _ => (#[] : Array Value))) hS rfl
  have oth : ∀ b o, b ≠ S → s.heap.get? b = some o → (s.heap.update S (Obj.mapSeq (fun _ => (#[] : Array Value)))).get? b = some o := fun b o hb q => (Heap.get?_update_other _ _ (Ne.symm hb)).trans q
  have hz : (s.heap.update S (Obj.mapSeq (fun _ => (#[] : Array Value)))).objs.size = s.heap.objs.size := Heap.size_update ..
  refine wpAny_bind (wpAny_letGo ?_)
  refine en_extend (s := { s with heap := s.heap.update S (Obj.mapSeq (fun _ => (#[] : Array Value))) }) D hei hSe hSi hn .none _ (oth e _ (Ne.symm hSe) he) (D.frame _ _ _ st fun b hb o q => oth b o (fun z => hSi (z ▸ List.mem_singleton.mp hb)) q) hS2 fun h' tk acc c hk hS' hacc ht => ?_
  dsimp only at hk hacc ht
  rw [hz] at hacc
  rw [hz] at ht
  exact hR h' tk acc c (fun b o n1 n2 n3 q => hk b o n1 n2 n3 (oth b o n1 q)) hS' hacc ht
theorem en_list {E : Value → Shared → Prop} {Q : Value → Shared → Prop} (D : Draws prog w A.in1.in1.in1 it [it] n Pv St) (hei : e ≠ it) (hn : n ≤ sizeLine) (he : EnO s.heap e it ((0 : Nat) : Int) .none (.bool false) .none) (st : St 0 s.heap)
    (hQ : ∀ h' tk acc c, (∀ b o, b ≠ e → b ≠ it → s.heap.get? b = some o → h'.get? b = some o) → h'.get? s.heap.objs.size = some { cls := .type "list", dict := none, data := .seq acc c, slots := #[] } →
      acc.toList = (List.range n).map (fun j => Value.ref (s.heap.objs.size + 1 + j)) → (∀ j, j < n → EnTup Pv h' (s.heap.objs.size + 1) j) → Q (.ref s.heap.objs.size) { s with heap := h', toks := tk }) :
    wpAny (model prog w) A (call (.type "list") [.ref e]) Q E s := by
  refine callType_codes (Q₁ := fun obj s1 => obj = .ref s.heap.objs.size ∧ s1 = { s with heap := s.heap.push { cls := .type "list", data := .seq #[] } }) PySem.F.called_list (PySem.F.typeCall_list_1 _) PySem.F.entry_list_init (code_list_new _ ⟨rfl, rfl⟩) fun obj s1 hs1 => ?_
  obtain ⟨rfl, rfl⟩ := hs1
  have hS : (s.heap.push { cls := .type "list", data := .seq #[] }).get? s.heap.objs.size = some { cls := .type "list", data := .seq #[] } := Heap.get?_push_size _ rfl
  have hz : (s.heap.push { cls := .type "list", data := .seq #[] }).objs.size = s.heap.objs.size + 1 := Heap.size_push ..
  have hel : e < s.heap.objs.size := Heap.lt_size he
  have hil : it < s.heap.objs.size := by obtain ⟨_, y⟩ := D.live _ _ st; exact Heap.lt_size y
  refine ⟨⟨_, hS, rfl⟩, PySem.F.args_list_init_2 _ _, en_init (s := { s with heap := s.heap.push { cls := .type "list", data := .seq #[] } }) (A := A.in1) D hei (Nat.ne_of_gt hel) (Nat.ne_of_gt hil) hn (Heap.get?_push_of_some _ he) (D.frame _ _ _ st fun b _ o q => Heap.get?_push_of_some _ q) hS fun h' tk acc c hk hS' hacc ht => ?_⟩
  dsimp only at hk hacc ht
  rw [hz] at hacc
  rw [hz] at ht
  exact ⟨rfl, hQ h' tk acc c (fun b o n2 n3 q => hk b o (Nat.ne_of_lt (Heap.lt_size q)) n2 n3 (Heap.get?_push_of_some _ q)) hS' hacc ht⟩
end
end L2
end
section
set_option Elab.async false
set_option linter.all false
set_option maxRecDepth 100000
set_option maxHeartbeats 1000000
namespace L2
open PySem PySem.Spec PyProof.Rows
section
variable {X : Cx} {pins : List (Addr × Obj)} {σ : St} {H H' : Hp} {s : Shared} {h' : Heap}
/-- many things laid at once -/
theorem Inv.laidMany {t' : Nat} (I : Inv X pins σ H s) (k : ∀ b u, s.heap.get? b = some u → h'.get? b = some u) (old : ∀ b, b < s.heap.objs.size → H' b = H b)
    (new : ∀ b o, s.heap.objs.size ≤ b → H' b = some o → ObjOk X.prog X.w H' h' b o) : Inv X pins σ H' { s with heap := h', toks := t' } := by
  have sm : ∀ b o, H b = some o → H' b = some o := fun b o e => by
    rcases Nat.lt_or_ge b s.heap.objs.size with z | z
    · rw [old b z]; exact e
    · rw [I.hok.fresh z] at e; cases e
  refine I.un ⟨fun b u q _ _ _ => k b u q, fun b u q _ _ _ => ⟨u.slots, k b u q⟩, fun b u q n _ => by rw [old b (Heap.lt_size q)]; exact n, fun b u q _ => ⟨u, k b u q⟩, fun b xs q => sm b _ q, fun b u xs q => sm b _ q, fun b ps q => ⟨#[], by rw [sm b _ q]; simp⟩⟩ fun b o e => ?_
  rcases Nat.lt_or_ge b s.heap.objs.size with z | z
  · rw [old b z] at e
    exact (I.hok b o e).stay (fun c v _ q => k c v q) (fun c q => sm c _ q) fun c xs q => sm c _ q
  · exact new b o z e
end
section
variable {X : Cx} {x : Expr} {tx : TE} {p1 p2 pos1 pos2 : Pos}
def tListEnum (tx : TE) : TE := fun σ H Q => tx σ H fun v H1 => ∃ l : List Nat, v = .str (txt l) ∧ (∀ c ∈ l, c < 128) ∧ l.length ≤ sizeLine ∧
  ∀ (p : Addr) (ps : List Addr) (H' : Hp), H1 p = none → Same H1 H' → H' p = some (.lst (ps.map V.ref)) → ps.length = l.length → (∀ (j c : Nat), l[j]? = some c → ∃ t, ps[j]? = some t ∧ H' t = some (.tup [.int (j : Int), .str (txt [c])])) → Q (.ref p) H'
/-- what stands behind it: the list at n, the pairs behind it -/
def enH (H : Hp) (n : Nat) (l : List Nat) : Hp := fun (b : Nat) =>
  if b < n then H b else if b = n then some (.lst ((List.range l.length).map fun j => V.ref (n + 1 + j))) else match l[b - (n + 1)]? with
    | some c => some (.tup [.int ((b - (n + 1) : Nat) : Int), .str (txt [c])])
    | none => none
theorem enH_list {H : Hp} {n : Nat} {l : List Nat} : enH H n l n = some (.lst ((List.range l.length).map fun j => V.ref (n + 1 + j))) := by
  unfold enH
  rw [if_neg (Nat.lt_irrefl _), if_pos rfl]
theorem enH_tup {H : Hp} {n j c : Nat} {l : List Nat} (h : l[j]? = some c) : enH H n l (n + 1 + j) = some (.tup [.int (j : Int), .str (txt [c])]) := by
  unfold enH
  have h1 : ¬ (n + 1 + j < n) := by omega
  have h2 : ¬ (n + 1 + j = n) := by omega
  have h3 : n + 1 + j - (n + 1) = j := by omega
  rw [if_neg h1, if_neg h2, h3, h]
theorem asc_iter {l : List Nat} (h : ∀ c ∈ l, c < 128) : strIterType (txt l) = "str_ascii_iterator" := by
  unfold strIterType
  rw [if_pos]
  rw [← Array.all_toList, txt_cps, List.all_eq_true]
  exact fun c hc => decide_eq_true (h c hc)
theorem pe_listEnum (hc : X.calm = true) (gL : Gl X "list") (mL : X.mg "list" = none) (gE : Gl X "enumerate") (mE : X.mg "enumerate" = none) (hx : PE X x tx)
    (hs : starEach [.Call (.Name "enumerate" p2) [x] [] pos2] X.env = [(false, eval (.Call (.Name "enumerate" p2) [x] [] pos2) X.env)] := by rfl) (hs2 : starEach [x] X.env = [(false, eval x X.env)] := by rfl) :
    PE X (.Call (.Name "list" p1) [.Call (.Name "enumerate" p2) [x] [] pos2] [] pos1) (tListEnum tx) := by
  intro pins s σ H Q I h
  refine wpAny_Call_Name_kw (ld_blt I gL mL boot_list ?_)
  refine PyProof.Rows.callWith_type1 ?_ hs rfl
  rw [hs]
  refine Calls.spliced_cons ?_
  refine wpAny_Call_Name_kw (ld_blt I gE mE boot_enumerate ?_)
  refine PyProof.Rows.callWith_type1 ?_ hs2 rfl
  rw [hs2]
  refine Calls.spliced_cons (thn (hx pins s σ H _ I h) fun u s1 ⟨v, H1, I1, r1, q1⟩ => ?_)
  obtain ⟨l, rfl, ha, hz, q⟩ := q1
  obtain ⟨t, rfl⟩ := r1
  refine wpAny_pure ?_
  refine call_enumerate_str fun h1 he hit hsz hk => ?_
  refine wpAny_pure ?_
  rw [asc_iter ha] at hit
  have hlen : (txt l).cps.size = l.length := by simp [txt]
  have I2 : Inv X pins σ H1 { s1 with heap := h1 } := I1.kept (t' := s1.toks) hk
  refine en_list (s := { s1 with heap := h1 }) (Draws.strAscii (A := X.A.in1.in1.in1) (I1.ok.hd hc) s1.heap.objs.size (txt l) t) (Nat.succ_ne_self _) (by rw [hlen]; exact hz) he hit fun h2 tk acc c kp hS hacc htup => ?_
  dsimp only at kp hS hacc htup
  rw [hlen] at hacc htup
  rw [hsz] at hS hacc htup
  have kp2 : ∀ b u, s1.heap.get? b = some u → h2.get? b = some u := fun b u e => kp b u (Nat.ne_of_lt (Nat.lt_succ_of_lt (Heap.lt_size e))) (Nat.ne_of_lt (Heap.lt_size e)) (hk b u e)
  show EP X pins σ Q (.ref h1.objs.size) { s1 with heap := h2, toks := tk }
  rw [hsz]
  have fr : ∀ b, s1.heap.objs.size ≤ b → H1 b = none := fun b hb => I1.hok.fresh hb
  refine ⟨.ref (s1.heap.objs.size + 2), enH H1 (s1.heap.objs.size + 2) l, I1.laidMany kp2 (fun b hb => ?_) (fun b o hb e => ?_), rfl, q _ ((List.range l.length).map fun j => s1.heap.objs.size + 2 + 1 + j) _ (fr _ (Nat.le_add_right _ _)) ?_ ?_ (by simp) fun j c' hj => ?_⟩
  · obtain ⟨b', rfl⟩ : ∃ b' : Nat, b' = b := ⟨b, rfl⟩
    have h0 : b' < s1.heap.objs.size + 2 := Nat.lt_of_lt_of_le hb (Nat.le_add_right _ _)
    unfold enH
    rw [if_pos h0]
  · obtain ⟨b', rfl⟩ : ∃ b' : Nat, b' = b := ⟨b, rfl⟩
    revert hb e
    generalize b' = b
    intro hb e
    by_cases h0 : b < s1.heap.objs.size + 2
    · unfold enH at e
      rw [if_pos h0, fr b hb] at e
      cases e
    · by_cases h3 : b = s1.heap.objs.size + 2
      · subst h3
        rw [enH_list] at e
        cases e
        refine ⟨by simp; exact hz, acc.toList, c, ?_, by rw [hS]⟩
        rw [hacc]
        refine vals_of_at (by simp) fun j v ej => ?_
        rw [List.getElem?_map] at ej
        obtain ⟨k, ek, rfl⟩ := Option.map_eq_some_iff.mp ej
        exact ⟨.ref (s1.heap.objs.size + 2 + 1 + k), by rw [List.getElem?_map, ek]; rfl, rfl⟩
      · unfold enH at e
        rw [if_neg h0, if_neg h3] at e
        cases e2 : l[b - (s1.heap.objs.size + 2 + 1)]? with
        | none => rw [e2] at e; cases e
        | some c2 =>
          rw [e2] at e
          cases e
          have hj : b - (s1.heap.objs.size + 2 + 1) < l.length := (List.getElem?_eq_some_iff.mp e2).1
          obtain ⟨t2, v2, ⟨c3, u3, e3, rfl⟩, ht⟩ := htup _ hj
          have eb : s1.heap.objs.size + 2 + 1 + (b - (s1.heap.objs.size + 2 + 1)) = b := by omega
          rw [eb] at ht
          have ec : c3 = c2 := by
            have : (txt l).cps.toList[b - (s1.heap.objs.size + 2 + 1)]? = some c3 := by simpa using e3
            rw [txt_cps, e2] at this
            exact (Option.some.inj this).symm
          subst ec
          exact ⟨by show 2 ≤ sizeLine; decide, _, .cons ⟨_, rfl⟩ (.cons ⟨_, rfl⟩ .nil), ⟨_, ht, rfl, _, rfl⟩⟩
  · intro b o e
    rcases Nat.lt_or_ge b s1.heap.objs.size with z | z
    · have h0 : (show Nat from b) < s1.heap.objs.size + 2 := Nat.lt_of_lt_of_le z (Nat.le_add_right _ _)
      unfold enH; rw [if_pos h0]; exact e
    · rw [fr b z] at e; cases e
  · rw [enH_list, List.map_map]; rfl
  · have hj' : j < l.length := (List.getElem?_eq_some_iff.mp hj).1
    exact ⟨s1.heap.objs.size + 2 + 1 + j, by simp [hj'], enH_tup hj⟩
end
end L2
end
section
set_option Elab.async false
set_option linter.all false
set_option maxRecDepth 100000
set_option maxHeartbeats 1000000
namespace K51
open PySem L2
/-! ### letters and their texts, as lists of codes -/
inductive Lt where
  | sg (c : Nat) | sp (j k : Nat)
  deriving DecidableEq
def plainC (c : Nat) : Bool := c == 67 || c == 82 || c == 76 || c == 69
def sign (c : Nat) : Bool := plainC c || c == 83
def Lt.ok : Lt → Prop
  | .sg c => plainC c = true
  | .sp _ _ => True
theorem plain_sign {c : Nat} (h : plainC c = true) : sign c = true := by unfold sign; rw [h]; rfl
def asc (l : List Nat) : Prop := ∀ c ∈ l, c < 128
theorem sign_asc {c : Nat} (h : sign c = true) : c < 128 := by
  unfold sign plainC at h
  simp only [Bool.or_eq_true, beq_iff_eq] at h
  omega
end K51
end
section
set_option Elab.async false
set_option linter.all false
namespace K52
open K51
/-! k52's mathematics: what the signs close -/
def frm : Nat → Bool → List Nat → Option (Nat × List Nat × List Lt)
  | 0, _, _ => none
  | _ + 1, _, [] => none
  | n + 1, first, c :: r =>
    if c = 69 then some (3, r, [.sg 69])
    else match frm n false r with
      | none => none
      | some (k, r1, ls) =>
        if c = 83 then (match frm n false r1 with
          | none => none
          | some (m, r2, ms) => some (k + m - 1, r2, .sp 0 k :: ls ++ ms))
        else if c = 67 then (if k < 4 ∧ first = false then none else some (k - 1, r1, .sg 67 :: ls))
        else if c = 82 ∨ c = 76 then some (k + 1, r1, .sg c :: ls) else none
theorem frm_shorter : ∀ (n : Nat) (f : Bool) (l : List Nat) (k : Nat) (r : List Nat) (ls : List Lt), frm n f l = some (k, r, ls) → r.length < l.length
  | 0, _, _, _, _, _, h => by simp [frm] at h
  | n + 1, _, [], _, _, _, h => by simp [frm] at h
  | n + 1, f, c :: t, k, r, ls, h => by
    rw [frm] at h
    split at h
    · cases h; simp
    · split at h
      · cases h
      · rename_i k1 r1 ls1 e1
        have h1 := frm_shorter n false t k1 r1 ls1 e1
        split at h
        · split at h
          · cases h
          · rename_i m r2 ms e2
            have h2 := frm_shorter n false r1 m r2 ms e2
            cases h
            simp only [List.length_cons]; omega
        · split at h
          · split at h
            · cases h
            · cases h; simp only [List.length_cons]; omega
          · split at h
            · cases h; simp only [List.length_cons]; omega
            · cases h
theorem frm_fuel : ∀ (n m : Nat) (f : Bool) (l : List Nat), l.length < n → l.length < m → frm n f l = frm m f l
  | 0, _, _, _, h, _ => by omega
  | n + 1, 0, _, _, _, h => by omega
  | n + 1, m + 1, f, [], _, _ => by simp [frm]
  | n + 1, m + 1, f, c :: t, hn, hm => by
    simp only [List.length_cons] at hn hm
    rw [frm, frm, frm_fuel n m false t (by omega) (by omega)]
    split
    · rfl
    · cases e : frm m false t with
      | none => rfl
      | some x =>
        obtain ⟨k, r1, ls⟩ := x
        have := frm_shorter m false t k r1 ls e
        dsimp only
        rw [frm_fuel n m false r1 (by omega) (by omega)]
/-- what is found from the first sign on -/
def fr (f : Bool) (l : List Nat) : Option (Nat × List Nat × List Lt) := frm (l.length + 1) f l
theorem fr_nil (f : Bool) : fr f [] = none := by simp [fr, frm]
theorem fr_cons (f : Bool) (c : Nat) (r : List Nat) : fr f (c :: r) =
    if c = 69 then some (3, r, [.sg 69])
    else match fr false r with
      | none => none
      | some (k, r1, ls) =>
        if c = 83 then (match fr false r1 with
          | none => none
          | some (m, r2, ms) => some (k + m - 1, r2, .sp 0 k :: ls ++ ms))
        else if c = 67 then (if k < 4 ∧ f = false then none else some (k - 1, r1, .sg 67 :: ls))
        else if c = 82 ∨ c = 76 then some (k + 1, r1, .sg c :: ls) else none := by
  unfold fr
  rw [frm]
  simp only [List.length_cons]
  split
  · rfl
  · cases e : frm (r.length + 1) false r with
    | none => rfl
    | some x =>
      obtain ⟨k, r1, ls⟩ := x
      have := frm_shorter _ false r k r1 ls e
      dsimp only
      rw [frm_fuel (r.length + 1) (r1.length + 1) false r1 (by omega) (by omega)]
theorem fr_shorter {f : Bool} {l : List Nat} {k : Nat} {r : List Nat} {ls : List Lt} (h : fr f l = some (k, r, ls)) : r.length < l.length := frm_shorter _ f l k r ls h
theorem frm_suffix : ∀ (n : Nat) (f : Bool) (l : List Nat) (k : Nat) (r : List Nat) (ls : List Lt), frm n f l = some (k, r, ls) → ∃ p, l = p ++ r
  | 0, _, _, _, _, _, h => by simp [frm] at h
  | n + 1, _, [], _, _, _, h => by simp [frm] at h
  | n + 1, f, c :: t, k, r, ls, h => by
    rw [frm] at h
    split at h
    · cases h; exact ⟨[c], rfl⟩
    · split at h
      · cases h
      · rename_i k1 r1 ls1 e1
        obtain ⟨p1, h1⟩ := frm_suffix n false t k1 r1 ls1 e1
        split at h
        · split at h
          · cases h
          · rename_i m r2 ms e2
            obtain ⟨p2, h2⟩ := frm_suffix n false r1 m r2 ms e2
            cases h
            exact ⟨c :: (p1 ++ p2), by rw [h1, h2]; simp⟩
        · split at h
          · split at h
            · cases h
            · cases h; exact ⟨c :: p1, by rw [h1]; simp⟩
          · split at h
            · cases h; exact ⟨c :: p1, by rw [h1]; simp⟩
            · cases h
theorem fr_drop {f : Bool} {l : List Nat} {k : Nat} {r : List Nat} {ls : List Lt} (h : fr f l = some (k, r, ls)) : l.drop (l.length - r.length) = r := by
  obtain ⟨p, e⟩ := frm_suffix _ f l k r ls h
  subst e
  simp
def placedL (l : List Nat) : Option (List Lt) := match fr true l with
  | some (2, [], ls) => some ls
  | _ => none
/-- the signs close a loop of n corners, whatever stands behind -/
def Fits (n : Nat) (l : List Nat) : Prop := ∃ ls, ∀ rest, fr false (l ++ rest) = some (n, rest, ls)
theorem fits_E : Fits 3 [69] := ⟨_, fun rest => by rw [List.cons_append, fr_cons, if_pos rfl]; rfl⟩
theorem fits_side {n c : Nat} {l : List Nat} (h : Fits n l) (hc : c = 82 ∨ c = 76) : Fits (n + 1) (c :: l) := by
  obtain ⟨ls, h⟩ := h
  refine ⟨.sg c :: ls, fun rest => ?_⟩
  rw [List.cons_append, fr_cons, if_neg (by omega), h rest]
  dsimp only
  rw [if_neg (by omega), if_neg (by omega), if_pos hc]
theorem fits_C {n : Nat} {l : List Nat} (h : Fits (n + 1) l) (hn : 3 ≤ n) : Fits n (67 :: l) := by
  obtain ⟨ls, h⟩ := h
  refine ⟨.sg 67 :: ls, fun rest => ?_⟩
  rw [List.cons_append, fr_cons, if_neg (by omega), h rest]
  dsimp only
  rw [if_neg (by omega), if_pos rfl, if_neg (by omega)]
  rfl
theorem fits_S {j m : Nat} {l r : List Nat} (h : Fits j l) (h' : Fits m r) : Fits (j + m - 1) (83 :: (l ++ r)) := by
  obtain ⟨ls, h⟩ := h
  obtain ⟨ms, h'⟩ := h'
  refine ⟨.sp 0 j :: ls ++ ms, fun rest => ?_⟩
  rw [List.cons_append, List.append_assoc, fr_cons, if_neg (by omega), h (r ++ rest)]
  dsimp only
  rw [if_pos rfl, h' rest]
def close (n : Nat) : List Nat := List.replicate (n - 3) 82 ++ [69]
theorem fits_close : ∀ k : Nat, Fits (k + 3) (close (k + 3))
  | 0 => fits_E
  | k + 1 => by
    have e : close (k + 1 + 3) = 82 :: close (k + 3) := by
      unfold close
      rw [show k + 1 + 3 - 3 = k + 3 - 3 + 1 by omega, List.replicate_succ]; rfl
    rw [e]
    exact fits_side (fits_close k) (.inl rfl)
theorem fits_close' {n : Nat} (h : 3 ≤ n) : Fits n (close n) := by
  have := fits_close (n - 3)
  rwa [show n - 3 + 3 = n by omega] at this
theorem placed_first {l : List Nat} (h : Fits 3 l) : ∃ ls, placedL (67 :: l) = some ls := by
  obtain ⟨ls, h⟩ := h
  refine ⟨.sg 67 :: ls, ?_⟩
  have := h []
  rw [List.append_nil] at this
  unfold placedL
  rw [fr_cons, if_neg (by omega), this]
  rfl
/-- a text begun, with loops of these lengths to close, the last one first -/
inductive Ws : List Nat → List Nat → Prop
  | nil : Ws [] []
  | cons {n : Nat} {ns l r : List Nat} (h : Fits n l) (t : Ws ns r) : Ws (n :: ns) (l ++ r)
/-- what stands already is right, however the open loops (top first) are closed -/
def Grown (ns : List Nat) (t : List Nat) : Prop := (∀ n ∈ ns, 3 ≤ n) ∧ ∀ w, Ws ns w → Fits 3 (t ++ w)
theorem grown_first : Grown [3] [] := ⟨by simp, fun w h => by
  cases h with
  | cons h t => cases t; simpa using h⟩
theorem grown_C {n : Nat} {ns t : List Nat} (g : Grown (n :: ns) t) : Grown ((n + 1) :: ns) (t ++ [67]) := by
  obtain ⟨g1, g2⟩ := g
  have hn := g1 n (by simp)
  refine ⟨fun m hm => ?_, fun w hw => ?_⟩
  · rcases List.mem_cons.mp hm with e | e
    · omega
    · exact g1 m (by simp [e])
  · cases hw with
    | cons h r =>
      have := g2 _ (.cons (fits_C h hn) r)
      simpa using this
theorem grown_side {n c : Nat} {ns t : List Nat} (g : Grown (n :: ns) t) (hn : 3 < n) (hc : c = 82 ∨ c = 76) : Grown ((n - 1) :: ns) (t ++ [c]) := by
  obtain ⟨g1, g2⟩ := g
  refine ⟨fun m hm => ?_, fun w hw => ?_⟩
  · rcases List.mem_cons.mp hm with e | e
    · omega
    · exact g1 m (by simp [e])
  · cases hw with
    | cons h r =>
      have k := fits_side h hc
      rw [show n - 1 + 1 = n by omega] at k
      have := g2 _ (.cons k r)
      simpa using this
theorem grown_E {ns t : List Nat} (g : Grown (3 :: ns) t) : Grown ns (t ++ [69]) := by
  obtain ⟨g1, g2⟩ := g
  refine ⟨fun m hm => g1 m (by simp [hm]), fun w hw => ?_⟩
  have := g2 _ (.cons fits_E hw)
  simpa using this
theorem grown_S {n j : Nat} {ns t : List Nat} (g : Grown (n :: ns) t) (hj : 3 ≤ j) (hn : j + 2 ≤ n) : Grown (j :: (n - j + 1) :: ns) (t ++ [83]) := by
  obtain ⟨g1, g2⟩ := g
  refine ⟨fun m hm => ?_, fun w hw => ?_⟩
  · rcases List.mem_cons.mp hm with e | e
    · omega
    · rcases List.mem_cons.mp e with e | e
      · omega
      · exact g1 m (by simp [e])
  · cases hw with
    | cons h r =>
      cases r with
      | cons h' r =>
        have k := fits_S h h'
        rw [show j + (n - j + 1) - 1 = n by omega] at k
        have := g2 _ (.cons k r)
        simpa using this
theorem ws_close : ∀ {ns : List Nat}, (∀ n ∈ ns, 3 ≤ n) → Ws ns (ns.map close).flatten
  | [], _ => .nil
  | n :: ns, h => by
    simp only [List.map_cons, List.flatten_cons]
    exact .cons (fits_close' (h n (by simp))) (ws_close fun m hm => h m (by simp [hm]))
/-- so the grown text, its loops closed, has its letters -/
theorem grown_placed {ns t : List Nat} (g : Grown ns t) : ∃ ls, placedL (67 :: (t ++ (ns.map close).flatten)) = some ls := placed_first (g.2 _ (ws_close g.1))
end K52
end
section
set_option Elab.async false
set_option linter.all false
set_option maxRecDepth 100000
set_option maxHeartbeats 1000000
namespace K52
open K51
/-! the signs taken from the end, with what is put down -/
def stp (f : Bool) (c : Nat) (st : List Nat) (ls : List Lt) : Option (List Nat × List Lt) :=
  if c = 69 then some (3 :: st, .sg 69 :: ls)
  else match st with
    | [] => none
    | k :: r =>
      if c = 83 then (match r with
        | [] => none
        | m :: r' => some ((k + m - 1) :: r', .sp 0 k :: ls))
      else if c = 67 then (if k < 4 ∧ f = false then none else some ((k - 1) :: r, .sg 67 :: ls))
      else if c = 82 ∨ c = 76 then some ((k + 1) :: r, .sg c :: ls) else none
def sc : List Nat → Option (List Nat × List Lt)
  | [] => some ([], [])
  | c :: r => (sc r).bind fun x => stp false c x.1 x.2
def isTwo (x : List Nat × List Lt) : Option (List Lt) := if x.1 = [2] then some x.2 else none
def plc : List Nat → Option (List Lt)
  | [] => none
  | c :: r => ((sc r).bind fun x => stp true c x.1 x.2).bind isTwo
/-- the closed loops one behind another -/
def mpn : Nat → List Nat → Option (List Nat × List Lt)
  | _, [] => some ([], [])
  | 0, _ :: _ => none
  | n + 1, c :: t => (fr false (c :: t)).bind fun x => (mpn n x.2.1).map fun y => (x.1 :: y.1, x.2.2 ++ y.2)
theorem mpn_fuel : ∀ (n m : Nat) (l : List Nat), l.length ≤ n → l.length ≤ m → mpn n l = mpn m l
  | n, m, [], _, _ => by cases n <;> cases m <;> rfl
  | 0, _, c :: t, h, _ => by simp at h
  | n + 1, 0, c :: t, _, h => by simp at h
  | n + 1, m + 1, c :: t, hn, hm => by
    simp only [mpn]
    cases e : fr false (c :: t) with
    | none => rfl
    | some x =>
      obtain ⟨k, r, ls⟩ := x
      have := fr_shorter e
      simp only [List.length_cons] at this hn hm
      simp only [Option.bind_some]
      rw [mpn_fuel n m r (by omega) (by omega)]
def mp (l : List Nat) : Option (List Nat × List Lt) := mpn l.length l
theorem mp_nil : mp [] = some ([], []) := rfl
theorem mp_cons (c : Nat) (t : List Nat) : mp (c :: t) = (fr false (c :: t)).bind fun x => (mp x.2.1).map fun y => (x.1 :: y.1, x.2.2 ++ y.2) := by
  unfold mp
  simp only [List.length_cons, mpn]
  cases e : fr false (c :: t) with
  | none => rfl
  | some x =>
    obtain ⟨k, r, ls⟩ := x
    have := fr_shorter e
    simp only [List.length_cons] at this
    simp only [Option.bind_some]
    rw [mpn_fuel t.length r.length r (by omega) (Nat.le_refl _)]
theorem mp_empty {l : List Nat} {ls : List Lt} (h : mp l = some ([], ls)) : l = [] ∧ ls = [] := by
  cases l with
  | nil => rw [mp_nil] at h; cases h; exact ⟨rfl, rfl⟩
  | cons c t =>
    rw [mp_cons] at h
    obtain ⟨x, _, h2⟩ := Option.bind_eq_some_iff.mp h
    obtain ⟨y, _, h3⟩ := Option.map_eq_some_iff.mp h2
    simp at h3
/-- one sign ahead: what the two ways say -/
theorem stp_mp (f : Bool) (c : Nat) (r : List Nat) : ((mp r).bind fun x => stp f c x.1 x.2) = (fr f (c :: r)).bind fun x => (mp x.2.1).map fun y => (x.1 :: y.1, x.2.2 ++ y.2) := by
  rw [fr_cons]
  by_cases h69 : c = 69
  · subst h69
    rw [if_pos rfl]
    simp only [Option.bind_some]
    cases mp r with
    | none => rfl
    | some x => simp [stp]
  · rw [if_neg h69]
    cases r with
    | nil =>
      rw [mp_nil, fr_nil]
      simp [stp, h69]
    | cons d t =>
      rw [mp_cons]
      cases e : fr false (d :: t) with
      | none => rfl
      | some x =>
        obtain ⟨k, r1, ls1⟩ := x
        dsimp only
        simp only [Option.bind_some]
        by_cases h83 : c = 83
        · subst h83
          rw [if_pos rfl]
          cases r1 with
          | nil => rw [mp_nil, fr_nil]; simp [stp]
          | cons d1 t1 =>
            rw [mp_cons]
            cases e2 : fr false (d1 :: t1) with
            | none => rfl
            | some y =>
              obtain ⟨m, r2, ms⟩ := y
              simp only [Option.bind_some]
              cases mp r2 with
              | none => rfl
              | some z => simp [stp]
        · rw [if_neg h83]
          by_cases h67 : c = 67
          · subst h67
            rw [if_pos rfl]
            by_cases hk : k < 4 ∧ f = false
            · rw [if_pos hk]
              cases mp r1 with
              | none => rfl
              | some z => simp only [Option.map_some, Option.bind_some, stp]; simp [hk]
            · rw [if_neg hk]
              simp only [Option.bind_some]
              cases mp r1 with
              | none => rfl
              | some z => simp only [Option.map_some, Option.bind_some, stp]; simp [hk]
          · rw [if_neg h67]
            by_cases h82 : c = 82 ∨ c = 76
            · rw [if_pos h82]
              simp only [Option.bind_some]
              cases mp r1 with
              | none => rfl
              | some z => simp only [Option.map_some, Option.bind_some, stp]; simp [h69, h83, h67, h82]
            · rw [if_neg h82]
              cases mp r1 with
              | none => rfl
              | some z => simp only [Option.map_some, Option.bind_some, stp]; simp [h69, h83, h67, h82]
theorem sc_mp : ∀ l : List Nat, sc l = mp l
  | [] => rfl
  | c :: r => by
    show (sc r).bind (fun x => stp false c x.1 x.2) = _
    rw [sc_mp r, stp_mp, mp_cons]
theorem plc_eq : ∀ l : List Nat, plc l = placedL l
  | [] => by unfold placedL; rw [fr_nil]; rfl
  | c :: r => by
    show ((sc r).bind fun x => stp true c x.1 x.2).bind isTwo = _
    rw [sc_mp, stp_mp]
    unfold placedL
    cases e : fr true (c :: r) with
    | none => rfl
    | some x =>
      obtain ⟨k, r1, ls⟩ := x
      simp only [Option.bind_some]
      cases e2 : mp r1 with
      | none =>
        have : r1 ≠ [] := fun z => by rw [z, mp_nil] at e2; cases e2
        cases r1 with
        | nil => exact absurd rfl this
        | cons d t => simp
      | some y =>
        obtain ⟨st, ls2⟩ := y
        cases st with
        | nil =>
          obtain ⟨rfl, rfl⟩ := mp_empty e2
          by_cases hk : k = 2
          · subst hk; simp [isTwo]
          · simp only [Option.map_some, Option.bind_some, isTwo]
            rw [if_neg (by simp [hk])]
            split
            · rename_i h; simp at h; exact absurd h.1 hk
            · rfl
        | cons m st =>
          have hr : r1 ≠ [] := fun z => by rw [z, mp_nil] at e2; cases e2
          cases r1 with
          | nil => exact absurd rfl hr
          | cons d t => simp [isTwo]
theorem stp_big {f : Bool} {c : Nat} {st : List Nat} {ls : List Lt} {x : List Nat × List Lt} (h : stp f c st ls = some x) (hb : ∀ k ∈ st, 3 ≤ k) (hf : f = false) : ∀ k ∈ x.1, 3 ≤ k := by
  subst hf
  unfold stp at h
  split at h
  · cases h
    intro k hk
    rcases List.mem_cons.mp hk with rfl | hk
    · omega
    · exact hb k hk
  · cases st with
    | nil => cases h
    | cons k r =>
      have hk3 := hb k (by simp)
      have hr : ∀ m ∈ r, 3 ≤ m := fun m hm => hb m (by simp [hm])
      dsimp only at h
      split at h
      · cases r with
        | nil => cases h
        | cons m r' =>
          cases h
          have := hr m (by simp)
          intro z hz
          rcases List.mem_cons.mp hz with rfl | hz
          · omega
          · exact hr z (by simp [hz])
      · split at h
        · split at h
          · cases h
          · rename_i hn
            have hn4 : ¬ k < 4 := fun z => hn ⟨z, rfl⟩
            cases h
            intro z hz
            rcases List.mem_cons.mp hz with e | hz
            · rw [e]; omega
            · exact hr z hz
        · split at h
          · cases h
            intro z hz
            rcases List.mem_cons.mp hz with rfl | hz
            · omega
            · exact hr z hz
          · cases h
theorem sc_big : ∀ {l : List Nat} {x : List Nat × List Lt}, sc l = some x → ∀ k ∈ x.1, 3 ≤ k
  | [], x, h => by cases h; simp
  | c :: r, x, h => by
    obtain ⟨y, h1, h2⟩ := Option.bind_eq_some_iff.mp h
    exact stp_big h2 (sc_big h1) rfl
theorem stp_len {f : Bool} {c : Nat} {st : List Nat} {ls : List Lt} {x : List Nat × List Lt} (h : stp f c st ls = some x) : x.1.length ≤ st.length + 1 ∧ x.2.length = ls.length + 1 := by
  unfold stp at h
  split at h
  · cases h; simp
  · cases st with
    | nil => cases h
    | cons k r =>
      dsimp only at h
      split at h
      · cases r with
        | nil => cases h
        | cons m r' => cases h; simp
      · split at h
        · split at h
          · cases h
          · cases h; simp
        · split at h
          · cases h; simp
          · cases h
theorem sc_len : ∀ {l : List Nat} {x : List Nat × List Lt}, sc l = some x → x.1.length ≤ l.length ∧ x.2.length = l.length
  | [], x, h => by cases h; simp
  | c :: r, x, h => by
    obtain ⟨y, h1, h2⟩ := Option.bind_eq_some_iff.mp h
    have a := sc_len h1
    have b := stp_len h2
    simp only [List.length_cons]
    omega
theorem stp_ok {f : Bool} {c : Nat} {st : List Nat} {ls : List Lt} {x : List Nat × List Lt} (h : stp f c st ls = some x) (ho : ∀ a ∈ ls, a.ok) : ∀ a ∈ x.2, a.ok := by
  have add : ∀ {b : Lt}, b.ok → ∀ a ∈ b :: ls, a.ok := fun hb a ha => by
    rcases List.mem_cons.mp ha with rfl | ha
    · exact hb
    · exact ho a ha
  unfold stp at h
  split at h
  · cases h; exact add (show plainC 69 = true from rfl)
  · cases st with
    | nil => cases h
    | cons k r =>
      dsimp only at h
      split at h
      · cases r with
        | nil => cases h
        | cons m r' => cases h; exact add trivial
      · split at h
        · split at h
          · cases h
          · cases h; exact add (show plainC 67 = true from rfl)
        · split at h
          · rename_i h82
            cases h
            refine add ?_
            rcases h82 with rfl | rfl
            · exact (show plainC 82 = true from rfl)
            · exact (show plainC 76 = true from rfl)
          · cases h
theorem sc_ok : ∀ {l : List Nat} {x : List Nat × List Lt}, sc l = some x → ∀ a ∈ x.2, a.ok
  | [], x, h => by cases h; simp
  | c :: r, x, h => by
    obtain ⟨y, h1, h2⟩ := Option.bind_eq_some_iff.mp h
    exact stp_ok h2 (sc_ok h1)
theorem placed_ok {l : List Nat} {ls : List Lt} (h : placedL l = some ls) : (∀ a ∈ ls, a.ok) ∧ ls.length = l.length := by
  rw [← plc_eq] at h
  cases l with
  | nil => cases h
  | cons c r =>
    obtain ⟨x, h1, h2⟩ := Option.bind_eq_some_iff.mp h
    obtain ⟨y, h3, h4⟩ := Option.bind_eq_some_iff.mp h1
    unfold isTwo at h2
    split at h2
    · cases h2
      have := stp_len h4
      have := sc_len h3
      exact ⟨stp_ok h4 (sc_ok h3), by simp only [List.length_cons]; omega⟩
    · cases h2
end K52
end
section
set_option Elab.async false
set_option linter.all false
set_option maxRecDepth 100000
set_option maxHeartbeats 4000000
namespace K51
open PySem L2
theorem dec_txt (a b : List Nat) : decide (V.str (txt a) = V.str (txt b)) = (a == b) := by
  rw [Bool.eq_iff_iff, decide_eq_true_eq, beq_iff_eq]
  constructor
  · intro h; injection h with h; exact txt_inj h
  · rintro rfl; rfl
/-- what the walk asks of the top: names of Python's own that stand for themselves -/
structure TxtN (mg : Str → Option Value) : Prop where
  len : mg "len" = none
  int : mg "int" = none
  str : mg "str" = none
  isi : mg "isinstance" = none
  range : mg "range" = none
  list : mg "list" = none
  tuple : mg "tuple" = none
  bool : mg "bool" = none
  all : mg "all" = none
  ve : mg "ValueError" = none
  rev : mg "reversed" = none
  enum : mg "enumerate" = none
theorem atI_txt {l : List Nat} {i : Nat} {c : Nat} (h : l[i]? = some c) : atI (txt l).cps.toList (i : Int) = some c := by
  rw [txt_cps]
  exact atI_nat h
theorem cut_nat {α : Type} (l : List α) (a b : Nat) : cutA l (some (a : Int)) (some (b : Int)) = (l.drop a).take (b - a) := by
  unfold cutA
  rw [HT.sIx_nat, HT.sIx_nat]
  by_cases h : a ≤ l.length
  · rw [Nat.min_eq_left h]
    by_cases hb : b ≤ l.length
    · rw [Nat.min_eq_left hb]
    · rw [Nat.min_eq_right (by omega), List.take_of_length_le (by rw [List.length_drop]; omega), List.take_of_length_le (by rw [List.length_drop]; omega)]
  · rw [List.drop_of_length_le (show l.length ≤ a by omega), List.drop_of_length_le (show l.length ≤ min a l.length by omega)]
    simp
theorem cut_to {α : Type} (l : List α) (b : Nat) : cutA l none (some (b : Int)) = l.take b := by
  have h := cut_nat l 0 b
  unfold cutA at h ⊢
  rw [HT.sIx_none]
  simpa [HT.sIx] using h
theorem cut_from {α : Type} (l : List α) (a : Nat) : cutA l (some (a : Int)) none = l.drop a := by
  have h := cut_nat l a l.length
  rw [List.take_of_length_le (by rw [List.length_drop]; omega)] at h
  rw [← h]
  unfold cutA
  rw [HT.sIx_none, HT.sIx_nat, HT.sIx_nat, Nat.min_self]
theorem line5000 : 5010 ≤ sizeLine := by rw [sizeLine_eq]; decide
def ltV : Lt → List V
  | .sg c => [.str (txt [c])]
  | .sp j k => [.str (txt [83]), .int (j : Nat), .int (k : Nat)]
def LetAt (H : Hp) (v : V) (a : Lt) : Prop := ∃ t, v = .ref t ∧ H t = some (.tup (ltV a))
abbrev LetsAt (H : Hp) : List V → List Lt → Prop := Paired (LetAt H)
theorem LetAt.same {H H' : Hp} {v : V} {a : Lt} (e : Same H H') (h : LetAt H v a) : LetAt H' v a := by
  obtain ⟨t, rfl, h⟩ := h
  exact ⟨t, rfl, e t _ h⟩
theorem LetsAt.same {H H' : Hp} (e : Same H H') : ∀ {xs : List V} {ls : List Lt}, LetsAt H xs ls → LetsAt H' xs ls
  | _, _, .nil => .nil
  | _, _, .cons h t => .cons (h.same e) (LetsAt.same e t)
theorem LetsAt.snoc {H : Hp} {v : V} {a : Lt} : ∀ {xs : List V} {ls : List Lt}, LetsAt H xs ls → LetAt H v a → LetsAt H (xs ++ [v]) (ls ++ [a])
  | _, _, .nil, h => .cons h .nil
  | _, _, .cons h t, h' => .cons h (LetsAt.snoc t h')
theorem s83 : ("S" : Str) = txt [83] := by decide +kernel
theorem same_upd {H : Hp} {t : Addr} {o : HO} (h : H t = none) : Same H (upd H t o) := fun b u e => by rw [upd_ne (ne_of_none e h)]; exact e
theorem paired_get {H : Hp} : ∀ {xs : List V} {ls : List Lt} {i : Nat} {x : V}, LetsAt H xs ls → xs[i]? = some x → ∃ a, ls[i]? = some a ∧ LetAt H x a
  | _, _, _, _, .nil, e => by simp at e
  | _, _, 0, _, .cons h _, e => by simp at e; subst e; exact ⟨_, rfl, h⟩
  | _, _, i + 1, _, .cons _ t, e => by
    obtain ⟨a, h1, h2⟩ := paired_get (i := i) t (by simpa using e)
    exact ⟨a, by simpa using h1, h2⟩
theorem sEmpty : ("" : Str) = txt [] := by decide +kernel
theorem compScope0 {X : Cx} {N : List Str} {scope : Scope} (nd : N.Nodup) (kind : scope.kind = .function) (nc : scope.names.all (fun y => y.2 != .cell && y.2 != .free) = true)
    (nm : scope.names.all (fun y => y.2 != .local || scope.names.lookup y.1 == some .local) = true) : CompScope X N (N.map fun _ => none) scope := by
  have h1 : ∀ y ∈ scope.names, y.2 ≠ .cell ∧ y.2 ≠ .free := fun y hy => by
    have := List.all_eq_true.mp nc y hy
    simpa using this
  refine ⟨nd, by simp, kind, fun y hy => (h1 y hy).1, fun y hy e => ?_, fun y hy e => absurd e (h1 y hy).2, fun j i x e _ => ?_⟩
  · have := List.all_eq_true.mp nm y hy
    rw [e] at this
    simpa using this
  · rw [List.getElem?_map] at e
    cases q : N[j]? with
    | none => rw [q] at e; cases e
    | some z => rw [q] at e; cases e
theorem sC : ("C" : Str) = txt [67] := by decide +kernel
theorem sR : ("R" : Str) = txt [82] := by decide +kernel
theorem sL : ("L" : Str) = txt [76] := by decide +kernel
theorem sE : ("E" : Str) = txt [69] := by decide +kernel
/-- all but p stays -/
def SameBut (p : Addr) (H H' : Hp) : Prop := ∀ b o, b ≠ p → H b = some o → H' b = some o
theorem LetAt.move {H H' : Hp} {v : V} {a : Lt} (h : LetAt H v a) (e : ∀ t xs, H t = some (.tup xs) → H' t = some (.tup xs)) : LetAt H' v a := by
  obtain ⟨t, rfl, h⟩ := h
  exact ⟨t, rfl, e _ _ h⟩
theorem LetsAt.move {H H' : Hp} (e : ∀ t xs, H t = some (.tup xs) → H' t = some (.tup xs)) : ∀ {xs : List V} {ls : List Lt}, LetsAt H xs ls → LetsAt H' xs ls
  | _, _, .nil => .nil
  | _, _, .cons h t => .cons (h.move e) (LetsAt.move e t)
theorem upd_tup {H : Hp} {p : Addr} {xs : List V} {o : HO} (h : H p = some (.lst xs)) : ∀ t ys, H t = some (.tup ys) → upd H p o t = some (.tup ys) := fun t ys e => by
  rw [upd_ne (ne_of e h (by intro z; cases z))]; exact e
theorem atI_int {l : List Nat} {i : Int} (h0 : 0 ≤ i) (h1 : i < (l.length : Int)) : ∃ c, c ∈ l ∧ atI (txt l).cps.toList i = some c := by
  obtain ⟨n, rfl⟩ := Int.eq_ofNat_of_zero_le h0
  have hn : n < l.length := by omega
  exact ⟨l[n], List.getElem_mem hn, atI_txt (List.getElem?_eq_getElem hn)⟩
theorem decI (a b : Int) : decide (V.int a = V.int b) = decide (a = b) := by
  rw [Bool.eq_iff_iff]; simp
theorem boot_all : bootBuiltins "all" = some (.builtin "all") := by decide +kernel
theorem ascOk {p : List Nat} (h : asc p) : (PyData.str (txt p)).canLay0 = true := by
  show (txt p).cps.all (· < 0x110000) = true
  rw [← Array.all_toList, txt_cps, List.all_eq_true]
  exact fun c hc => decide_eq_true (by have := h c hc; omega)
def ltD : Lt → PyData
  | .sg c => .tuple [.str (txt [c])]
  | .sp j k => .tuple [.str (txt [83]), .int (j : Nat), .int (k : Nat)]
theorem asc1 {c : Nat} (h : c < 128) : asc [c] := fun d hd => by rw [List.mem_singleton.mp hd]; exact h
theorem dt_let {K : PySem.W.Frag} {H : Hp} {v : V} {a : Lt} (ho : a.ok) (h : LetAt H v a) : Dt K H v (ltD a) := by
  obtain ⟨t, rfl, h⟩ := h
  cases a with
  | sg c => exact .tup (.inl (.inl h)) (.cons (.str _ (ascOk (asc1 (sign_asc (plain_sign ho))))) .nil)
  | sp j k => exact .tup (.inl (.inl h)) (.cons (.str _ (ascOk (asc1 (by decide)))) (.cons (.int _) (.cons (.int _) .nil)))
theorem dts_lets {K : PySem.W.Frag} {H : Hp} : ∀ {xs : List V} {ls : List Lt}, (∀ a ∈ ls, a.ok) → LetsAt H xs ls → Dts K H xs (ls.map ltD)
  | _, _, _, .nil => .nil
  | _, _, ho, .cons h t => .cons (dt_let (ho _ (by simp)) h) (dts_lets (fun a ha => ho a (List.mem_cons_of_mem _ ha)) t)
theorem depth_let (a : Lt) : PyData.depth (ltD a) ≤ 2 := by
  cases a <;> simp [ltD, PyData.depth, PyData.depthAll]
theorem depth_lets : ∀ (ls : List Lt), PyData.depthAll (ls.map ltD) ≤ 2
  | [] => by simp [PyData.depthAll]
  | a :: ls => by
    have h1 := depth_lets ls
    have h2 := depth_let a
    simp only [List.map_cons, PyData.depthAll]
    omega
theorem noBl_let (a : Lt) : noBl (ltD a) = true := by cases a <;> rfl
theorem noBl_lets : ∀ (ls : List Lt), noBlAll (ls.map ltD) = true
  | [] => rfl
  | a :: ls => by
    rw [List.map_cons]
    show (noBl (ltD a) && noBlAll (ls.map ltD)) = true
    rw [noBl_let, noBl_lets ls]; rfl
theorem ltD_inj {a b : Lt} (h : ltD a = ltD b) : a = b := by
  cases a <;> cases b <;> simp [ltD] at h
  · rw [List.singleton_inj.mp (txt_inj h)]
  · obtain ⟨h1, h2⟩ := h
    congr 1 <;> omega
theorem lets_inj : ∀ {ls ms : List Lt}, ls.map ltD = ms.map ltD → ls = ms
  | [], [], _ => rfl
  | [], _ :: _, h => by simp at h
  | _ :: _, [], h => by simp at h
  | a :: ls, b :: ms, h => by
    simp only [List.map_cons, List.cons.injEq] at h
    rw [ltD_inj h.1, lets_inj h.2]
theorem eqv_lets (ls ms : List Lt) : PyData.eqv (.list (ls.map ltD)) (.list (ms.map ltD)) = decide (ls = ms) := by
  have := eqv_iff (.list (ls.map ltD)) (.list (ms.map ltD)) (noBl_lets ls) (noBl_lets ms)
  rw [Bool.eq_iff_iff, this, decide_eq_true_eq]
  constructor
  · intro h; injection h with h; exact lets_inj h
  · rintro rfl; rfl
def Told03 (H : Hp) (Q : VK) : Prop := ∀ p H', H p = none → Same H H' → H' p = some (.lst [.int 0, .int 3]) → Q (.ref p) H'
/-- the class that is caught -/
structure Caught (K : PySem.W.Frag) (mg : Str → Option Value) (S C : Addr) : Prop where
  mg : mg "ShapeError" = some (.ref S)
  cls : ∃ bm, L2.clsIn K S = some bm ∧ bm.contains (.type "BaseException") = true
  sub : ∃ bm, L2.clsIn K C = some bm ∧ (Value.ref C :: bm).contains (.ref S) = true
def rIsiT (K : PySem.W.Frag) (c : String) : List V → Hp → VK → Prop := fun xs H Q => ∃ (x : V) (ty : Value) (b : Bool), xs = [x, .ty c] ∧ TyOf K H x ty ∧ PySem.W.kitOne K ty (.type c) = some b ∧ Q (.bl b) H
theorem call_isiT' {X : Cx} {c : String} : CallR X (.builtin "isinstance") (rIsiT X.K c) := call_isiT
/-- what built-in classes say of one another -/
structure Kits (K : PySem.W.Frag) : Prop where
  ll : PySem.W.kitOne K (.type "list") (.type "list") = some true
  tt : PySem.W.kitOne K (.type "tuple") (.type "tuple") = some true
  sb : PySem.W.kitOne K (.type "str") (.type "bool") = some false
  ib : PySem.W.kitOne K (.type "int") (.type "bool") = some false
  ns : PySem.W.kitOne K (.type "NoneType") (.type "str") = some false
  is : PySem.W.kitOne K (.type "int") (.type "str") = some false
  bs : PySem.W.kitOne K (.type "bool") (.type "str") = some false
  ls : PySem.W.kitOne K (.type "list") (.type "str") = some false
  ts : PySem.W.kitOne K (.type "tuple") (.type "str") = some false
  ds : PySem.W.kitOne K (.type "dict") (.type "str") = some false
theorem dt03 {K : PySem.W.Frag} {H : Hp} {p : Addr} (h : H p = some (.lst [.int 0, .int 3])) : Dt K H (.ref p) (.list [.int 0, .int 3]) := .lst (SqL.of h) (.cons (.int 0) (.cons (.int 3) .nil))
theorem eqv03 : PyData.eqv (.list [.int 0, .int 3]) (.list [.int 0, .int 3]) = true := by decide +kernel
theorem sqSame {K : PySem.W.Frag} {H H' : Hp} {a : Addr} {xs : List V} (s : Same H H') (h : SqL K H a xs) : SqL K H' a xs := by
  rcases h with (h | ⟨o, h⟩) | h
  · exact .inl (.inl (s _ _ h))
  · exact .inl (.inr ⟨o, s _ _ h⟩)
  · exact .inr h
theorem mem_cutV {xs : List V} {lo hi : Option Int} {v : V} (h : v ∈ cutV xs lo hi) : v ∈ xs := List.mem_of_mem_drop (List.mem_of_mem_take h)
end K51
end
section
set_option Elab.async false
set_option linter.all false
set_option maxRecDepth 100000
set_option maxHeartbeats 4000000
namespace K51
open PySem L2
def lawAt : Nat := 23
def top (i : Nat) : Stmt := PySem.Challenge.pw_shapestring_k52_places_from_signs.main.body.getD (lawAt + i) (.Pass ⟨0, 0, 0, 0⟩)
abbrev sAt : Stmt := top 0
abbrev sPot : Stmt := top 1
abbrev sDigit : Stmt := top 2
abbrev sFrom : Stmt := top 3
abbrev sPlaced : Stmt := top 4
abbrev sKinds : Stmt := top 5
abbrev sGrown : Stmt := top 6
abbrev sString : Stmt := top 7
abbrev sSpoilt : Stmt := top 8
abbrev sLTold : Stmt := top 9
abbrev sRight : Stmt := top 10
abbrev sLaw : Stmt := top 11
def topP (i : Nat) : Stmt := PySem.Challenge.pw_shapestring_k52_places_from_signs.main.body.getD i (.Pass ⟨0, 0, 0, 0⟩)
abbrev sTaken : Stmt := topP 19
abbrev sFound : Stmt := topP 20
abbrev sPlacedP : Stmt := topP 21
/-! ### numbers: the pot -/
def mixed (ns : List Int) (k : Int) : Int := (ns.take 40).foldl (fun s c => (s * 48271 + c) % 2147483647) (7 + 1009 * k)
def cellOr (ns : List Int) (k : Int) : Int := if k < (ns.length : Int) then ns.getD k.toNat 0 else 0
def potOf (ns : List Int) (k : Int) : Int × Int := (if cellOr ns k < 1000000000000000000 then 0 else cellOr ns k, mixed ns k)
def refill (p : Int × Int) : Int × Int := if p.1 = 0 then (((p.2 * 16807 + 11) % 2147483647) * ((p.2 * 16807 + 11) % 2147483647) % 2147483629, (p.2 * 16807 + 11) % 2147483647) else p
def digO (p : Int × Int) (b : Int) : Int := (refill p).1 % b
def nxt (p : Int × Int) (b : Int) : Int × Int := ((refill p).1 / b, (refill p).2)
def potV (p : Int × Int) : List V := [.int p.1, .int p.2]
def PotOk (p : Int × Int) : Prop := -(2 ^ 60) < p.2 ∧ p.2 < 2 ^ 60
theorem refill_ok {p : Int × Int} (h : PotOk p) : PotOk (refill p) := by
  unfold refill
  split
  · have := Int.emod_lt_of_pos (p.2 * 16807 + 11) (show (0 : Int) < 2147483647 by decide)
    have := Int.emod_nonneg (p.2 * 16807 + 11) (show (2147483647 : Int) ≠ 0 by decide)
    unfold PotOk
    constructor <;> (show _ < _; omega)
  · exact h
theorem nxt_ok {p : Int × Int} {b : Int} (h : PotOk p) : PotOk (nxt p b) := refill_ok h
theorem mixed_ok (ns : List Int) {k : Int} (h0 : 0 ≤ k) (h1 : k < 1000) : -(2 ^ 60) < mixed ns k ∧ mixed ns k < 2 ^ 60 := by
  unfold mixed
  have : ∀ (l : List Int) (s : Int), (-(2 ^ 60) < s ∧ s < 2 ^ 60) → (-(2 ^ 60) < l.foldl (fun s c => (s * 48271 + c) % 2147483647) s ∧ l.foldl (fun s c => (s * 48271 + c) % 2147483647) s < 2 ^ 60) := by
    intro l
    induction l with
    | nil => intro s h; exact h
    | cons c r ih =>
      intro s h
      rw [List.foldl_cons]
      refine ih _ ?_
      have := Int.emod_lt_of_pos (s * 48271 + c) (show (0 : Int) < 2147483647 by decide)
      have := Int.emod_nonneg (s * 48271 + c) (show (2147483647 : Int) ≠ 0 by decide)
      constructor <;> omega
  exact this _ _ (by constructor <;> omega)

theorem op_fdivB {X : Cx} : OpR X (binaryOp .FloorDiv) (rI (fun _ j => 0 < j ∧ j.natAbs.log2 < 9000) fun i j => .int (i / j)) := opI fun i j _ _ _ _ _ hc q => by
  have e : i.fdiv j = i / j := by rw [Int.fdiv_eq_ediv_of_nonneg _ (Int.le_of_lt hc.1)]
  rw [← e] at q
  exact PyProof.Rows.floordiv_int (by omega) q (.inl (PyProof.noPylong_of_log2 hc.2))
/-! ### promises -/
def spAt (K : PySem.W.Frag) : Sp := fun vs H Q _ => ∃ (a : Addr) (ns : List Int) (k : Int), vs = [.ref a, .int k] ∧ SqL K H a (ns.map V.int) ∧ 0 ≤ k ∧ Q (.int (cellOr ns k)) H
def spPot (K : PySem.W.Frag) : Sp := fun vs H Q _ => ∃ (a : Addr) (ns : List Int) (k : Int), vs = [.ref a, .int k] ∧ SqL K H a (ns.map V.int) ∧ 0 ≤ k ∧ k < 1000 ∧
  ∀ (p : Addr) (H' : Hp), H p = none → Same H H' → H' p = some (.lst (potV (potOf ns k))) → Q (.ref p) H'
def spDigit : Sp := fun vs H Q _ => ∃ (p : Addr) (q : Int × Int) (b : Int), vs = [.ref p, .int b] ∧ H p = some (.lst (potV q)) ∧ PotOk q ∧ 0 < b ∧ b.natAbs.log2 < 9000 ∧ Q (.int (digO q b)) (upd H p (.lst (potV (nxt q b))))
section
variable {P : Program} {w : World} {K : PySem.W.Frag} {mg : Str → Option Value} {base : Heap}
theorem scAt : FnScope ["_law_script", "_law_k"] ["_law_script", "_law_k"] (defScope sAt) := ⟨rfl, rfl, rfl, by decide +kernel, rfl, by decide +kernel, by decide +kernel⟩
theorem ok_at {f : Addr} {fd : FuncData} (U : Fun K "_law_at" "_law_at" sAt f fd) (T : TxtN mg) : FnOk P w K mg base CX0 1 f fd ["_law_script", "_law_k"] (spAt K) := by
  refine U.ok scAt (fun vs H Q E h => ?_) (fun cdv A outer s H vs Q E hr h => ?_)
  · obtain ⟨a, ns, k, rfl, _⟩ := h
    rfl
  · obtain ⟨a, ns, k, rfl, hS, h0, q⟩ := h
    refine ⟨_, pss_cons (ps_if (pt_cmpR op_lt (pv 1) (pe_callB call_len_seq (by rfl) T.len PySem.boot_len (pa_cons (pv 0) pa_nil)) (nomark _)) (pss_one (ps_ret (pe_ix ix_list (pv 0) (pv 1) (fun _ _ => rfl)))) pss_nil) (pss_one (ps_ret pe_int)), ?_⟩
    refine ⟨_, rfl, _, rfl, a, _, rfl, .inl hS, _, _, rfl, rfl, _, rfl, ?_⟩
    unfold cellOr at q
    rw [List.length_map]
    refine ite2 (fun c => ?_) (fun c => ?_)
    · have c : k < (ns.length : Int) := of_decide_eq_true c
      rw [if_pos c] at q
      have hk : k.toNat < ns.length := by omega
      refine ⟨_, rfl, _, rfl, a, _, k, .int (ns.getD k.toNat 0), rfl, rfl, hS, ?_, q⟩
      have e : ((k.toNat : Nat) : Int) = k := by omega
      rw [← e]
      refine atI_nat ?_
      have e2 : ns[k.toNat]? = some (ns.getD k.toNat 0) := by simp [List.getD, hk]
      rw [List.getElem?_map, e2]
      rfl
    · have c : ¬ k < (ns.length : Int) := fun z => c (decide_eq_true z)
      rw [if_neg c] at q
      exact q
theorem scDigit : FnScope ["_law_pot_here", "_law_base", "_law_digit_here"] ["_law_pot_here", "_law_base"] (defScope sDigit) := ⟨rfl, rfl, rfl, by decide +kernel, rfl, by decide +kernel, by decide +kernel⟩
theorem ok_digit {f : Addr} {fd : FuncData} (U : Fun K "_law_digit" "_law_digit" sDigit f fd) : FnOk P w K mg base CX0 1 f fd ["_law_pot_here", "_law_base"] spDigit := by
  refine U.ok scDigit (fun vs H Q E h => ?_) (fun cdv A outer s H vs Q E hr h => ?_)
  · obtain ⟨p, q, b, rfl, _⟩ := h
    rfl
  · obtain ⟨p, ⟨n, z⟩, b, rfl, hp, hok, hb0, hb1, q⟩ := h
    refine ⟨_, pss_cons (ps_if (pt_cmpR op_eq (pe_ix ix_list (pv 0) pe_int (fun _ _ => rfl)) pe_int (nomark _))
        (pss_cons (ps_asg (pe_op op_mod (pe_op op_add (pe_op op_mul (pe_ix ix_list (pv 0) pe_int (fun _ _ => rfl)) pe_int) pe_int) pe_int) (pg_sub (pv 0) pe_int set_list))
          (pss_one (ps_asg (pe_op op_mod (pe_op op_mul (pe_ix ix_list (pv 0) pe_int (fun _ _ => rfl)) (pe_ix ix_list (pv 0) pe_int (fun _ _ => rfl))) pe_int) (pg_sub (pv 0) pe_int set_list)))) pss_nil)
      (pss_cons (ps_set (i := 2) scDigit.nd rfl (Or.inl rfl) (pe_op op_mod (pe_ix ix_list (pv 0) pe_int (fun _ _ => rfl)) (pv 1)))
      (pss_cons (ps_asg (pe_op op_fdivB (pe_ix ix_list (pv 0) pe_int (fun _ _ => rfl)) (pv 1)) (pg_sub (pv 0) pe_int set_list))
      (pss_one (ps_ret (pv 2))))), ?_⟩
    have a0 : ∀ (x y : Int), atI [V.int x, V.int y] 0 = some (V.int x) := fun _ _ => rfl
    have a1 : ∀ (x y : Int), atI [V.int x, V.int y] 1 = some (V.int y) := fun _ _ => rfl
    have b0 : ∀ (x y : V), ixN [x, y].length 0 = some 0 := fun _ _ => rfl
    have b1 : ∀ (x y : V), ixN [x, y].length 1 = some 1 := fun _ _ => rfl
    have hz1 := hok.1
    have hz2 := hok.2
    refine ⟨_, rfl, p, _, 0, _, rfl, rfl, SqL.of hp, a0 _ _, rfl, _, rfl, ?_⟩
    have hz1 : -(2 ^ 60) < z := hz1
    have hz2 : z < 2 ^ 60 := hz2
    refine ite2 (fun c => ?_) (fun c => ?_)
    · have c : n = 0 := by
        have := of_decide_eq_true c
        injection this
      have m1 := Int.emod_lt_of_pos (z * 16807 + 11) (show (0 : Int) < 2147483647 by decide)
      have m2 := Int.emod_nonneg (z * 16807 + 11) (show (2147483647 : Int) ≠ 0 by decide)
      have u1 := upd_same (H := H) (a := p) (o := .lst [V.int n, V.int ((z * 16807 + 11) % 2147483647)])
      refine ⟨_, rfl, p, _, 1, _, rfl, rfl, SqL.of hp, a1 _ _, _, _, rfl, rfl, .inl ⟨by omega, by omega⟩, _, _, rfl, rfl, _, _, rfl, rfl, (show (0 : Int) < 2147483647 by decide), _, rfl, p, _, _, _, rfl, rfl, hp, b1 _ _, ?_⟩
      refine ⟨_, rfl, p, _, 1, _, rfl, rfl, SqL.of u1, a1 _ _, _, rfl, p, _, 1, _, rfl, rfl, SqL.of u1, a1 _ _, _, _, rfl, rfl, .inl ⟨by omega, by omega⟩, _, _, rfl, rfl, (show (0 : Int) < 2147483629 by decide), _, rfl, p, _, _, _, rfl, rfl, u1, b0 _ _, ?_⟩
      have u2 := upd_same (H := upd H p (.lst [V.int n, V.int ((z * 16807 + 11) % 2147483647)])) (a := p) (o := .lst [V.int ((z * 16807 + 11) % 2147483647 * ((z * 16807 + 11) % 2147483647) % 2147483629), V.int ((z * 16807 + 11) % 2147483647)])
      refine ⟨_, rfl, p, _, 0, _, rfl, rfl, SqL.of u2, a0 _ _, _, rfl, _, _, rfl, rfl, hb0, ?_⟩
      refine ⟨_, rfl, p, _, 0, _, rfl, rfl, SqL.of u2, a0 _ _, _, rfl, _, _, rfl, rfl, ⟨hb0, hb1⟩, _, rfl, p, _, _, _, rfl, rfl, u2, b0 _ _, ?_⟩
      refine ⟨_, rfl, ?_⟩
      rw [upd_upd, upd_upd]
      have e : refill (n, z) = ((z * 16807 + 11) % 2147483647 * ((z * 16807 + 11) % 2147483647) % 2147483629, (z * 16807 + 11) % 2147483647) := by
        unfold refill; rw [if_pos c]
      unfold digO nxt potV at q
      rw [e] at q
      exact q
    · have c : ¬ n = 0 := fun y => c (by rw [y]; exact decide_eq_true rfl)
      refine ⟨_, rfl, p, _, 0, _, rfl, rfl, SqL.of hp, a0 _ _, _, rfl, _, _, rfl, rfl, hb0, ?_⟩
      refine ⟨_, rfl, p, _, 0, _, rfl, rfl, SqL.of hp, a0 _ _, _, rfl, _, _, rfl, rfl, ⟨hb0, hb1⟩, _, rfl, p, _, _, _, rfl, rfl, hp, b0 _ _, ?_⟩
      refine ⟨_, rfl, ?_⟩
      have e : refill (n, z) = (n, z) := by
        unfold refill; rw [if_neg c]
      unfold digO nxt potV at q
      rw [e] at q
      exact q
theorem scPot : FnScope ["_law_script", "_law_k", "_law_seed", "_law_cell", "_law_number"] ["_law_script", "_law_k"] (defScope sPot) := ⟨rfl, rfl, rfl, by decide +kernel, rfl, by decide +kernel, by decide +kernel⟩
theorem take_cut (ns : List Int) : cutV (ns.map V.int) none (some 40) = (ns.take 40).map V.int := by
  unfold cutV
  have e1 : HT.sIx (ns.map V.int).length 0 none = 0 := rfl
  have e2 : HT.sIx (ns.map V.int).length (ns.map V.int).length (some 40) = min 40 ns.length := by
    rw [List.length_map]
    have := HT.sIx_nat ns.length ns.length 40
    simpa using this
  rw [e1, e2, List.drop_zero, ← List.map_take, Nat.sub_zero]
  congr 1
  rw [List.take_eq_take_iff]
  omega
theorem ok_pot {f fA : Addr} {fd fdA : FuncData} (U : Fun K "_law_pot" "_law_pot" sPot f fd) (UA : Fun K "_law_at" "_law_at" sAt fA fdA) (bA : Binds K fdA ["_law_script", "_law_k"] []) (mA : mg "_law_at" = some (.ref fA)) (kA : PySem.W.keepIn K (.ref fA) = true) (T : TxtN mg) :
    FnOk P w K mg base CX0 2 f fd ["_law_script", "_law_k"] (spPot K) := by
  have GA : FnOk P w K mg base CX0 1 fA fdA ["_law_script", "_law_k"] (spAt K) := ok_at UA T
  refine U.ok scPot (fun vs H Q E h => ?_) (fun cdv A outer s H vs Q E hr h => ?_)
  · obtain ⟨a, ns, k, rfl, _⟩ := h
    rfl
  · obtain ⟨a, ns, k, rfl, hS, h0, h1, q⟩ := h
    refine ⟨_, pss_cons (ps_set (i := 2) scPot.nd rfl (Or.inl rfl) (pe_op op_add pe_int (pe_op op_mul pe_int (pv 1))))
      (pss_cons (ps_for PassesOwn.never rfl (pi_list (pe_slice sl_list (pv 0) po_none (po_some pe_int))) (pg_name (i := 3) scPot.nd rfl (Or.inl rfl))
        (pss_one (ps_set (i := 2) scPot.nd rfl (Or.inl rfl) (pe_op op_mod (pe_op op_add (pe_op op_mul (pv 2) pe_int) (pv 3)) pe_int))))
      (pss_cons (ps_set (i := 4) scPot.nd rfl (Or.inl rfl) (pe_call GA hr rfl mA kA bA .nil pass0 (pa_cons (pv 0) (pa_cons (pv 1) pa_nil))))
      (pss_cons (ps_if (pt_cmpR op_lt (pv 4) (pe_op op_pow pe_int pe_int) (nomark _)) (pss_one (ps_set (i := 4) scPot.nd rfl (Or.inl rfl) pe_int)) pss_nil)
      (pss_one (ps_ret (pe_lst (pa_cons (pv 4) (pa_cons (pv 2) pa_nil)))))))), ?_⟩
    refine ⟨_, rfl, _, _, rfl, rfl, .inl ⟨by omega, by omega⟩, _, _, rfl, rfl, ?_⟩
    -- for cell in script[:40]
    refine ⟨_, rfl, 40, rfl, a, _, rfl, hS, fun l hl => ?_⟩
    rw [take_cut]
    have sm : Same H (upd H l (.lst ((ns.take 40).map V.int))) := fun b o e => by rw [upd_ne (ne_of_none e hl)]; exact e
    refine ⟨l, rfl, ⟨_, SqL.of upd_same⟩, for_list (K := K) (a := l) (xs := (ns.take 40).map V.int) (fun i σ H2 => ∃ v, σ = [some (.ref a), some (.int k), some (.int (((ns.take 40).take i).foldl (fun s c => (s * 48271 + c) % 2147483647) (7 + 1009 * k))), v, none] ∧ H2 = upd H l (.lst ((ns.take 40).map V.int)) ∧
      (-(2 ^ 60) < (((ns.take 40).take i).foldl (fun s c => (s * 48271 + c) % 2147483647) (7 + 1009 * k)) ∧ (((ns.take 40).take i).foldl (fun s c => (s * 48271 + c) % 2147483647) (7 + 1009 * k)) < 2 ^ 60))
      ⟨none, rfl, rfl, by simp only [List.take_zero, List.foldl_nil]; constructor <;> omega⟩ (fun i σ H2 _ ⟨_, _, e, _⟩ => by rw [e]; exact SqL.of upd_same) ?_ ?_⟩
    · rintro i y σ H2 hi ⟨v, rfl, rfl, hb1, hb2⟩
      obtain ⟨c, hc, rfl⟩ : ∃ c, (ns.take 40)[i]? = some c ∧ V.int c = y := by
        rw [List.getElem?_map] at hi
        exact Option.map_eq_some_iff.mp hi
      have e : (ns.take 40).take (i + 1) = (ns.take 40).take i ++ [c] := by rw [List.take_add_one, hc]; rfl
      refine ⟨_, rfl, _, _, rfl, rfl, .inl ⟨by omega, by omega⟩, _, rfl, _, _, rfl, rfl, _, _, rfl, rfl, (show (0 : Int) < 2147483647 by decide), ?_⟩
      refine ⟨some (.int c), ?_, rfl, ?_⟩
      · rw [e, List.foldl_append]; rfl
      · rw [e, List.foldl_append]
        have m1 := Int.emod_lt_of_pos ((((ns.take 40).take i).foldl (fun s c => (s * 48271 + c) % 2147483647) (7 + 1009 * k)) * 48271 + c) (show (0 : Int) < 2147483647 by decide)
        have m2 := Int.emod_nonneg ((((ns.take 40).take i).foldl (fun s c => (s * 48271 + c) % 2147483647) (7 + 1009 * k)) * 48271 + c) (show (2147483647 : Int) ≠ 0 by decide)
        simp only [List.foldl_cons, List.foldl_nil]
        constructor <;> omega
    · rintro σ H2 ⟨v, rfl, rfl, _, _⟩
      rw [List.length_map, List.take_length]
      -- number = _law_at(script, k)
      refine ⟨_, rfl, _, rfl, a, ns, k, rfl, sm.seq hS, h0, ?_⟩
      refine ⟨_, rfl, _, _, rfl, rfl, ⟨by decide, by decide, by decide⟩, _, _, rfl, rfl, _, rfl, ?_⟩
      have fin : ∀ (r : Addr), upd H l (.lst ((ns.take 40).map V.int)) r = none → Q (.ref r) (upd (upd H l (.lst ((ns.take 40).map V.int))) r (.lst (potV (potOf ns k)))) := fun r hr' =>
        q r _ (sm.free hr') (sm.trans fun b o e => by rw [upd_ne (ne_of_none e hr')]; exact e) upd_same
      unfold potOf at fin
      refine ite2 (fun c => ?_) (fun c => ?_)
      · have c : cellOr ns k < 1000000000000000000 := of_decide_eq_true c
        rw [if_pos c] at fin
        exact ⟨_, rfl, _, rfl, (show 2 ≤ sizeLine by decide), fun r hr' => fin r hr'⟩
      · have c : ¬ cellOr ns k < 1000000000000000000 := fun y => c (decide_eq_true y)
        rw [if_neg c] at fin
        exact ⟨_, rfl, _, rfl, (show 2 ≤ sizeLine by decide), fun r hr' => fin r hr'⟩
end
theorem digO_pos {q : Int × Int} {b : Int} (hb : 0 < b) : 0 ≤ digO q b ∧ digO q b < b := ⟨Int.emod_nonneg _ (by omega), Int.emod_lt_of_pos _ hb⟩
theorem log_small {b : Int} (h0 : 0 < b) (h : b ≤ 10 ^ 60) : b.natAbs.log2 < 9000 := by
  have h1 : b.natAbs ≠ 0 := by omega
  refine (Nat.log2_lt h1).mpr ?_
  have h2 : b.natAbs ≤ 10 ^ 60 := by omega
  exact Nat.lt_of_le_of_lt h2 (Nat.lt_of_lt_of_le (show 10 ^ 60 < 2 ^ 200 by decide) (Nat.pow_le_pow_right (by decide) (by decide)))
end K51
end
section
set_option Elab.async false
set_option linter.all false
set_option maxRecDepth 100000
set_option maxHeartbeats 4000000
namespace K51
open PySem L2 K52
/-! ### the program: taken_up, letter_found -/
def stV (st : List Nat) : List V := st.reverse.map fun k : Nat => V.int (k : Int)
theorem stV_cons (k : Nat) (r : List Nat) : stV (k :: r) = stV r ++ [.int (k : Int)] := by simp [stV]
theorem stV_len (st : List Nat) : (stV st).length = st.length := by simp [stV]
theorem stV_last (k : Nat) (r : List Nat) : (stV (k :: r))[(stV (k :: r)).length - 1]? = some (.int (k : Int)) := by rw [stV_cons]; simp
theorem stV_drop (k : Nat) (r : List Nat) : (stV (k :: r)).dropLast = stV r := by rw [stV_cons]; simp
def fnd (c : Nat) (st : List Nat) : Option (List Nat × Lt) :=
  if c = 69 then some (3 :: st, .sg 69)
  else match st with
    | [] => none
    | k :: r =>
      if c = 83 then (match r with
        | [] => none
        | m :: r' => some ((k + m - 1) :: r', .sp 0 k))
      else if c = 67 then some ((k - 1) :: r, .sg 67)
      else if c = 82 ∨ c = 76 then some ((k + 1) :: r, .sg c) else none
def spTaken (C : Addr) : Sp := fun vs H Q E => ∃ (p : Addr) (st : List Nat), vs = [.ref p] ∧ H p = some (.lst (stV st)) ∧ match st with
  | [] => E (.ref C) none H
  | k :: r => Q (.int (k : Int)) (upd H p (.lst (stV r)))
def spFound (C : Addr) : Sp := fun vs H Q E => ∃ (c : Nat) (p : Addr) (st : List Nat), vs = [.str (txt [c]), .ref p] ∧ H p = some (.lst (stV st)) ∧ (∀ k ∈ st, 3 ≤ k) ∧ st.length ≤ 4000 ∧ match fnd c st with
  | none => ∀ H', SameBut p H H' → E (.ref C) none H'
  | some (st', a) => ∀ t H', H t = none → SameBut p H H' → H' p = some (.lst (stV st')) → H' t = some (.tup (ltV a)) → Q (.ref t) H'
theorem decT (c d : Nat) : decide (V.str (txt [c]) = V.str (txt [d])) = decide (c = d) := by
  rw [dec_txt, Bool.eq_iff_iff]
  simp
section
variable {P : Program} {w : World} {K : PySem.W.Frag} {mg : Str → Option Value} {base : Heap}
theorem scTaken : FnScope ["lengths"] ["lengths"] (defScope sTaken) := ⟨rfl, rfl, rfl, by decide +kernel, rfl, by decide +kernel, by decide +kernel⟩
theorem ok_taken {f C : Addr} {fd : FuncData} (U : Fun K "taken_up" "taken_up" sTaken f fd) (mC : mg "NoText" = some (.ref C)) (hC : PySem.W.excIn K C bmV "ValueError.__new__" = true) :
    FnOk P w K mg base (CX1 P w) 1 f fd ["lengths"] (spTaken C) := by
  refine U.ok1 scTaken (fun vs H Q E h => ?_) (fun cdv A outer s H vs Q E hr h => ?_)
  · obtain ⟨p, st, rfl, _⟩ := h
    rfl
  · obtain ⟨p, st, rfl, hp, q⟩ := h
    refine ⟨_, pss_cons (ps_if (pt_not (pt_truth (pv 0) (fun _ => rfl))) (pss_one (ps_raise lets1 rfl rfl rfl mC hC (pa_cons pe_str pa_nil))) pss_nil)
      (pss_one (ps_ret (pe_bm0 PySem.F.plainAttrs_list PySem.F.slot_list_pop PySem.F.type_list_pop mt_pop (pv 0)))), ?_⟩
    refine ⟨_, rfl, _, .inl ⟨_, SqL.of hp, rfl⟩, ?_⟩
    cases st with
    | nil => exact iteT ⟨(by show 1 ≤ sizeLine; decide), q⟩
    | cons k r =>
      have e : (!(stV (k :: r)).isEmpty) = true := by rw [stV_cons]; simp
      rw [e]
      refine iteF ⟨_, rfl, .inl ⟨rfl, _, SqL.of hp⟩, p, _, _, rfl, rfl, hp, stV_last k r, ?_⟩
      rw [stV_drop]
      exact q
theorem scFound : FnScope ["sign", "lengths", "k"] ["sign", "lengths"] (defScope sFound) := ⟨rfl, rfl, rfl, by decide +kernel, rfl, by decide +kernel, by decide +kernel⟩
theorem ok_found {f fT C : Addr} {fd fdT : FuncData} (U : Fun K "letter_found" "letter_found" sFound f fd)
    (GT : FnOk P w K mg base (CX1 P w) 1 fT fdT ["lengths"] (spTaken C)) (bT : Binds K fdT ["lengths"] []) (mT : mg "taken_up" = some (.ref fT)) (kT : PySem.W.keepIn K (.ref fT) = true)
    {tl : Tok} (mL : mg "LEAST_LOOP" = some (.int 3 tl)) (mC : mg "NoText" = some (.ref C)) (hC : PySem.W.excIn K C bmV "ValueError.__new__" = true) :
    FnOk P w K mg base (CX1 P w) 2 f fd ["sign", "lengths"] (spFound C) := by
  refine U.ok1 scFound (fun vs H Q E h => ?_) (fun cdv A outer s H vs Q E hr h => ?_)
  · obtain ⟨c, p, st, rfl, _⟩ := h
    rfl
  · obtain ⟨c, p, st, rfl, hp, hb, hl, q⟩ := h
    refine ⟨_, pss_cons (ps_if (pt_cmpR op_eq (pv 0) pe_str (nomark _))
        (pss_cons (ps_set (i := 2) scFound.nd rfl (Or.inl rfl) (pe_call GT hr rfl mT kT bT .nil pass1 (pa_cons (pv 1) pa_nil)))
        (pss_cons (ps_expr (pe_bm PySem.F.plainAttrs_list PySem.F.slot_list_append PySem.F.type_list_append mt_append (pv 1) (pa_cons (pe_op op_sub (pe_op op_add (pv 2) (pe_call GT hr rfl mT kT bT .nil pass1 (pa_cons (pv 1) pa_nil))) pe_int) pa_nil)))
        (pss_one (ps_ret (pe_tup (pa_cons pe_str (pa_cons pe_int (pa_cons (pv 2) pa_nil)))))))) pss_nil)
      (pss_cons (ps_if (pt_cmpR op_eq (pv 0) pe_str (nomark _))
        (pss_one (ps_expr (pe_bm PySem.F.plainAttrs_list PySem.F.slot_list_append PySem.F.type_list_append mt_append (pv 1) (pa_cons (pe_glob (v := .int 3) rfl mL ⟨tl, rfl⟩) pa_nil))))
        (pss_one (ps_if (pt_cmpR op_eq (pv 0) pe_str (nomark _))
          (pss_one (ps_expr (pe_bm PySem.F.plainAttrs_list PySem.F.slot_list_append PySem.F.type_list_append mt_append (pv 1) (pa_cons (pe_op op_sub (pe_call GT hr rfl mT kT bT .nil pass1 (pa_cons (pv 1) pa_nil)) pe_int) pa_nil))))
          (pss_one (ps_if (PW.pt (pw_or (pt_cmpR op_eq (pv 0) pe_str (nomark _)) (pw_or1 (pt_cmpR op_eq (pv 0) pe_str (nomark _)))))
            (pss_one (ps_expr (pe_bm PySem.F.plainAttrs_list PySem.F.slot_list_append PySem.F.type_list_append mt_append (pv 1) (pa_cons (pe_op op_add (pe_call GT hr rfl mT kT bT .nil pass1 (pa_cons (pv 1) pa_nil)) pe_int) pa_nil))))
            (pss_one (ps_raise lets1 rfl rfl rfl mC hC (pa_cons pe_str pa_nil))))))))
      (pss_one (ps_ret (pe_tup (pa_cons (pv 0) pa_nil))))), ?_⟩
    have hline := line5000
    have hid : SameBut p H H := fun _ _ _ z => z
    have fin : ∀ (st' : List Nat) (a : Lt) (H1 : Hp), fnd c st = some (st', a) → SameBut p H H1 → H1 p = some (.lst (stV st')) → ∀ t, H1 t = none → Q (.ref t) (upd H1 t (.tup (ltV a))) := fun st' a H1 e sb h1 t ht => by
      rw [e] at q
      have hp0 : t ≠ p := fun z => by rw [z, h1] at ht; cases ht
      have hn : H t = none := by
        cases e2 : H t with
        | none => rfl
        | some o => rw [sb t o hp0 e2] at ht; cases ht
      exact q t _ hn (fun b o nb e3 => by rw [upd_ne (ne_of_none (sb b o nb e3) ht)]; exact sb b o nb e3) (by rw [upd_ne (Ne.symm hp0)]; exact h1) upd_same
    have bad : fnd c st = none → ∀ H1, SameBut p H H1 → E (.ref C) none H1 := fun e H1 sb => by rw [e] at q; exact q H1 sb
    have sbu : ∀ {H1 : Hp} {o : HO}, SameBut p H H1 → SameBut p H (upd H1 p o) := fun sb b o nb e => by rw [upd_ne nb]; exact sb b o nb e
    refine ⟨_, rfl, rfl, _, rfl, ?_⟩
    rw [show (Str.ofString "S") = txt [83] from s83, decT]
    by_cases h83 : c = 83
    · rw [decide_eq_true h83]
      subst h83
      refine iteT ?_
      refine ⟨_, rfl, p, st, rfl, hp, ?_⟩
      cases st with
      | nil => exact bad rfl H hid
      | cons k r =>
        have hk := hb k (by simp)
        refine ⟨_, rfl, .inl ⟨rfl, _, SqL.of upd_same⟩, _, rfl, _, rfl, p, r, rfl, upd_same, ?_⟩
        cases r with
        | nil => exact bad rfl _ (sbu hid)
        | cons m r' =>
          have hm := hb m (by simp)
          simp only [List.length_cons] at hl
          refine ⟨_, _, rfl, rfl, _, _, rfl, rfl, p, _, _, rfl, rfl, upd_same, by rw [stV_len]; omega, ?_⟩
          refine ⟨_, rfl, (by show 3 ≤ sizeLine; decide), fun t ht => ?_⟩
          have e : stV r' ++ [V.int ((k : Int) + (m : Int) - 1)] = stV ((k + m - 1) :: r') := by
            rw [stV_cons]; congr 3; omega
          rw [e] at ht ⊢
          exact fin ((k + m - 1) :: r') (.sp 0 k) _ rfl (sbu (sbu (sbu hid))) upd_same t ht
    · rw [decide_eq_false h83]
      refine iteF ?_
      refine ⟨_, rfl, rfl, _, rfl, ?_⟩
      rw [show (Str.ofString "E") = txt [69] from sE, decT]
      by_cases h69 : c = 69
      · rw [decide_eq_true h69]
        subst h69
        refine iteT ?_
        refine ⟨_, rfl, .inl ⟨rfl, _, SqL.of hp⟩, p, _, _, rfl, rfl, hp, by rw [stV_len]; omega, ?_⟩
        refine ⟨_, rfl, (by show 1 ≤ sizeLine; decide), fun t ht => ?_⟩
        have e : stV st ++ [V.int 3] = stV (3 :: st) := (stV_cons 3 st).symm
        rw [e] at ht ⊢
        exact fin (3 :: st) (.sg 69) _ rfl (sbu hid) upd_same t ht
      · rw [decide_eq_false h69]
        refine iteF ?_
        refine ⟨_, rfl, rfl, _, rfl, ?_⟩
        rw [show (Str.ofString "C") = txt [67] from sC, decT]
        by_cases h67 : c = 67
        · rw [decide_eq_true h67]
          subst h67
          refine iteT ?_
          refine ⟨_, rfl, .inl ⟨rfl, _, SqL.of hp⟩, _, rfl, p, st, rfl, hp, ?_⟩
          cases st with
          | nil => exact bad rfl H hid
          | cons k r =>
            have hk := hb k (by simp)
            simp only [List.length_cons] at hl
            refine ⟨_, _, rfl, rfl, p, _, _, rfl, rfl, upd_same, by rw [stV_len]; omega, ?_⟩
            refine ⟨_, rfl, (by show 1 ≤ sizeLine; decide), fun t ht => ?_⟩
            have e : stV r ++ [V.int ((k : Int) - 1)] = stV ((k - 1) :: r) := by
              rw [stV_cons]; congr 3; omega
            rw [e] at ht ⊢
            exact fin ((k - 1) :: r) (.sg 67) _ rfl (sbu (sbu hid)) upd_same t ht
        · rw [decide_eq_false h67]
          refine iteF ?_
          have side : (c = 82 ∨ c = 76) → ∀ (k : Nat) (r : List Nat), st = k :: r → fnd c st = some ((k + 1) :: r, .sg c) := fun h k r e => by
            subst e
            unfold fnd
            rw [if_neg h69]
            dsimp only
            rw [if_neg h83, if_neg h67, if_pos h]
          have none1 : st = [] → fnd c st = none := fun e => by
            subst e
            unfold fnd
            rw [if_neg h69]
          have none2 : ¬ (c = 82 ∨ c = 76) → fnd c st = none := fun h => by
            unfold fnd
            rw [if_neg h69]
            cases st with
            | nil => rfl
            | cons k r => dsimp only; rw [if_neg h83, if_neg h67, if_neg h]
          refine ⟨_, rfl, rfl, _, rfl, ?_⟩
          rw [show (Str.ofString "L") = txt [76] from sL, show (Str.ofString "R") = txt [82] from sR, decT]
          have grow : (c = 82 ∨ c = 76) → ∀ (k : Nat) (r : List Nat), st = k :: r → ∀ t, (upd (upd H p (.lst (stV r))) p (.lst (stV r ++ [V.int ((k : Int) + 1)]))) t = none → Q (.ref t) (upd (upd (upd H p (.lst (stV r))) p (.lst (stV r ++ [V.int ((k : Int) + 1)]))) t (.tup [V.str (txt [c])])) := fun h k r e t ht => by
            have e2 : stV r ++ [V.int ((k : Int) + 1)] = stV ((k + 1) :: r) := (stV_cons (k + 1) r).symm
            rw [e2] at ht ⊢
            exact fin ((k + 1) :: r) (.sg c) _ (side h k r e) (sbu (sbu hid)) upd_same t ht
          by_cases h76 : c = 76
          · rw [decide_eq_true h76]
            refine iteT (iteT ?_)
            refine ⟨_, rfl, .inl ⟨rfl, _, SqL.of hp⟩, _, rfl, p, st, rfl, hp, ?_⟩
            cases est : st with
            | nil => exact bad (none1 est) H hid
            | cons k r =>
              rw [est] at hl
              simp only [List.length_cons] at hl
              refine ⟨_, _, rfl, rfl, p, _, _, rfl, rfl, upd_same, by rw [stV_len]; omega, ?_⟩
              exact ⟨_, rfl, (by show 1 ≤ sizeLine; decide), fun t ht => grow (.inr h76) k r est t ht⟩
          · rw [decide_eq_false h76]
            refine iteF ?_
            refine ⟨_, rfl, rfl, _, rfl, ?_⟩
            rw [decT]
            by_cases h82 : c = 82
            · rw [decide_eq_true h82]
              refine iteT ?_
              refine ⟨_, rfl, .inl ⟨rfl, _, SqL.of hp⟩, _, rfl, p, st, rfl, hp, ?_⟩
              cases est : st with
              | nil => exact bad (none1 est) H hid
              | cons k r =>
                rw [est] at hl
                simp only [List.length_cons] at hl
                refine ⟨_, _, rfl, rfl, p, _, _, rfl, rfl, upd_same, by rw [stV_len]; omega, ?_⟩
                exact ⟨_, rfl, (by show 1 ≤ sizeLine; decide), fun t ht => grow (.inl h82) k r est t ht⟩
            · rw [decide_eq_false h82]
              refine iteF ?_
              exact ⟨(by show 1 ≤ sizeLine; decide), bad (none2 fun z => z.elim h82 h76) H hid⟩
end
end K51
end
section
set_option Elab.async false
set_option linter.all false
set_option maxRecDepth 100000
set_option maxHeartbeats 4000000
namespace K51
open PySem L2 K52
/-! ### the program: placed -/
theorem ixN_last {α : Type} (xs : List α) (x : α) : ixN (xs ++ [x]).length (-1) = some xs.length := by
  unfold ixN
  rw [if_neg (by decide), if_pos (by rw [List.length_append, List.length_singleton]; omega)]
  congr 1
  rw [List.length_append, List.length_singleton]
  omega
theorem atI_last {α : Type} (xs : List α) (x : α) : atI (xs ++ [x]) (-1) = some x := by
  unfold atI
  rw [ixN_last]
  simp
def scF (f : Bool) : List Nat → Option (List Nat × List Lt)
  | [] => some ([], [])
  | c :: r => (sc r).bind fun x => stp f c x.1 x.2
theorem scF_false (l : List Nat) : scF false l = sc l := by cases l <;> rfl
theorem plc_scF (l : List Nat) : plc l = (scF true l).bind isTwo := by cases l <;> rfl
theorem sc_none : ∀ (l : List Nat) (j : Nat) (f : Bool), 1 ≤ j → sc (l.drop j) = none → scF f l = none
  | [], j, f, _, h => by rw [List.drop_nil] at h; cases h
  | c :: r, 0, f, hj, _ => by omega
  | c :: r, j + 1, f, _, h => by
    rw [List.drop_succ_cons] at h
    have e : sc r = none := by
      cases j with
      | zero => exact h
      | succ j => rw [← scF_false]; exact sc_none r (j + 1) false (by omega) h
    show (sc r).bind _ = none
    rw [e]; rfl
theorem stp_of_fnd {f : Bool} {c : Nat} {st st' : List Nat} {ls : List Lt} {a : Lt} (h : fnd c st = some (st', a)) (hc : c = 67 → f = false → ∀ k r, st' = k :: r → 3 ≤ k) : stp f c st ls = some (st', a :: ls) := by
  unfold fnd at h
  unfold stp
  split at h
  · rename_i h69
    rw [if_pos h69]
    cases h; rfl
  · rename_i h69
    rw [if_neg h69]
    cases st with
    | nil => cases h
    | cons k r =>
      dsimp only at h ⊢
      split at h
      · rename_i h83
        rw [if_pos h83]
        cases r with
        | nil => cases h
        | cons m r' => cases h; rfl
      · rename_i h83
        rw [if_neg h83]
        split at h
        · rename_i h67
          rw [if_pos h67]
          cases h
          rw [if_neg]
          rintro ⟨h4, hf⟩
          have := hc h67 hf _ _ rfl
          omega
        · rename_i h67
          rw [if_neg h67]
          split at h
          · rename_i h82
            rw [if_pos h82]
            cases h; rfl
          · cases h
theorem stp_none_fnd {f : Bool} {c : Nat} {st : List Nat} {ls : List Lt} (h : fnd c st = none) : stp f c st ls = none := by
  unfold fnd at h
  unfold stp
  split at h
  · cases h
  · rename_i h69
    rw [if_neg h69]
    cases st with
    | nil => rfl
    | cons k r =>
      dsimp only at h ⊢
      split at h
      · rename_i h83
        rw [if_pos h83]
        cases r with
        | nil => rfl
        | cons m r' => cases h
      · rename_i h83
        rw [if_neg h83]
        split at h
        · cases h
        · rename_i h67
          rw [if_neg h67]
          split at h
          · cases h
          · rename_i h82
            rw [if_neg h82]
theorem stp_none_C {st : List Nat} {k : Nat} {r : List Nat} {a : Lt} {ls : List Lt} (h : fnd 67 st = some (k :: r, a)) (hk : k < 3) : stp false 67 st ls = none := by
  unfold fnd at h
  unfold stp
  rw [if_neg (by decide)] at h ⊢
  cases st with
  | nil => rfl
  | cons k' r' =>
    dsimp only at h ⊢
    rw [if_neg (by decide), if_pos rfl] at h ⊢
    cases h
    rw [if_pos ⟨by omega, rfl⟩]
theorem fnd_67 {st st' : List Nat} {a : Lt} (h : fnd 67 st = some (st', a)) : ∃ k r, st' = k :: r := by
  unfold fnd at h
  rw [if_neg (by decide)] at h
  cases st with
  | nil => cases h
  | cons k' r' =>
    dsimp only at h
    rw [if_neg (by decide), if_pos rfl] at h
    cases h
    exact ⟨_, _, rfl⟩
theorem paired_app {α β : Type} {F : α → β → Prop} : ∀ {a : List α} {b : List β} {c : List α} {d : List β}, Paired F a b → Paired F c d → Paired F (a ++ c) (b ++ d)
  | _, _, _, _, .nil, h => h
  | _, _, _, _, .cons h t, h' => .cons h (paired_app t h')
theorem paired_rev {α β : Type} {F : α → β → Prop} : ∀ {a : List α} {b : List β}, Paired F a b → Paired F a.reverse b.reverse
  | _, _, .nil => .nil
  | _, _, .cons h t => by
    rw [List.reverse_cons, List.reverse_cons]
    exact paired_app (paired_rev t) (.cons h .nil)
def stD (st : List Nat) : List PyData := st.reverse.map fun k : Nat => .int (k : Int)
theorem dts_ints {K : PySem.W.Frag} {H : Hp} : ∀ (ns : List Nat), Dts K H (ns.map fun k : Nat => V.int (k : Int)) (ns.map fun k : Nat => PyData.int (k : Int))
  | [] => .nil
  | n :: ns => .cons (.int _) (dts_ints ns)
theorem noBl_ints : ∀ (ns : List Nat), noBlAll (ns.map fun k : Nat => PyData.int (k : Int)) = true
  | [] => rfl
  | n :: ns => by
    rw [List.map_cons]
    show (noBl (PyData.int (n : Int)) && noBlAll (ns.map fun k : Nat => PyData.int (k : Int))) = true
    rw [noBl_ints ns]; rfl
theorem depth_ints : ∀ (ns : List Nat), PyData.depthAll (ns.map fun k : Nat => PyData.int (k : Int)) ≤ 1
  | [] => by simp [PyData.depthAll]
  | n :: ns => by
    have := depth_ints ns
    simp only [List.map_cons, PyData.depthAll, PyData.depth]
    omega
theorem eqv_two (st : List Nat) : PyData.eqv (.list (stD st)) (.list [.int 2]) = decide (st = [2]) := by
  have := eqv_iff (.list (stD st)) (.list [.int 2]) (noBl_ints st.reverse) rfl
  rw [Bool.eq_iff_iff, this, decide_eq_true_eq]
  constructor
  · intro h
    injection h with h
    unfold stD at h
    cases st with
    | nil => simp at h
    | cons k r =>
      cases r with
      | nil => simp at h; rw [show k = 2 by omega]
      | cons m r' =>
        have := congrArg List.length h
        simp at this
  · rintro rfl; rfl
def spPlacedP (K : PySem.W.Frag) (C : Addr) : Sp := fun vs H Q E => ∃ v, vs = [v] ∧
  ((∃ l : List Nat, v = .str (txt l) ∧ asc l ∧ l.length ≤ 4000 ∧ match plc l with
    | some ls => ∀ p xs H', H p = none → Same H H' → H' p = some (.lst xs) → LetsAt H' xs ls → Q (.ref p) H'
    | none => ∀ H', Same H H' → E (.ref C) none H') ∨
   ∃ ty, TyOf K H v ty ∧ PySem.W.kitOne K ty (.type "str") = some false ∧ E (.ref C) none H)
abbrev IPl (l : List Nat) (p1 p2 : Addr) (Hb : Hp) : Nat → St → Hp → Prop := fun i σ H' => ∃ (st : List Nat) (ls : List Lt) (xs : List V) (v3 v4 : Option V), σ = [some (.str (txt l)), some (.ref p1), some (.ref p2), v3, v4] ∧ scF (decide (i = l.length)) (l.drop (l.length - i)) = some (st, ls) ∧
  H' p1 = some (.lst (stV st)) ∧ H' p2 = some (.lst xs) ∧ LetsAt H' xs ls.reverse ∧ ∀ b o, b ≠ p1 → b ≠ p2 → Hb b = some o → H' b = some o
section
variable {P : Program} {w : World} {K : PySem.W.Frag} {mg : Str → Option Value} {base : Heap}
theorem kit_str_str : PySem.W.kitOne K (.type "str") (.type "str") = some true := by
  unfold PySem.W.kitOne
  rw [if_pos (by decide)]
theorem scPlacedP : FnScope ["text", "lengths", "letters", "ahead", "sign"] ["text"] (defScope sPlacedP) := ⟨rfl, rfl, rfl, by decide +kernel, rfl, by decide +kernel, by decide +kernel⟩
theorem ok_placedP {f fF C : Addr} {fd fdF : FuncData} (U : Fun K "placed" "placed" sPlacedP f fd) (T : TxtN mg)
    (GF : FnOk P w K mg base (CX1 P w) 2 fF fdF ["sign", "lengths"] (spFound C)) (bF : Binds K fdF ["sign", "lengths"] []) (mF : mg "letter_found" = some (.ref fF)) (kF : PySem.W.keepIn K (.ref fF) = true)
    {tl tf : Tok} (mL : mg "LEAST_LOOP" = some (.int 3 tl)) (mO : mg "FIRST_LOOP" = some (.int 2 tf)) (mC : mg "NoText" = some (.ref C)) (hC : PySem.W.excIn K C bmV "ValueError.__new__" = true) :
    FnOk P w K mg base (CX1 P w) 3 f fd ["text"] (spPlacedP K C) := by
  refine U.ok1 scPlacedP (fun vs H Q E h => ?_) (fun cdv A outer s H vs Q E hr h => ?_)
  · obtain ⟨v, rfl, _⟩ := h
    rfl
  · obtain ⟨v, rfl, q⟩ := h
    refine ⟨_, pss_cons (ps_if (pt_not (pt_val (pe_callB (call_isiT (c := "str")) (by rfl) T.isi PyProof.Rows.boot_isinstance (pa_cons (pv 0) (pa_cons (pe_bltn (v := .ty "str") rfl T.str PyProof.Rows.boot_str rfl) pa_nil)))))
        (pss_one (ps_raise lets1 rfl rfl rfl mC hC (pa_cons pe_str pa_nil))) pss_nil)
      (pss_cons (ps_set (i := 1) scPlacedP.nd rfl (Or.inl rfl) (pe_lst pa_nil))
      (pss_cons (ps_set (i := 2) scPlacedP.nd rfl (Or.inl rfl) (pe_lst pa_nil))
      (pss_cons (ps_for PassesOwn.leaving rfl (pi_rev rfl T.rev (pa_cons (pe_listEnum rfl rfl T.list rfl T.enum (pv 0)) pa_nil)) (pg_tup rfl (pgs_cons (pg_name (i := 3) scPlacedP.nd rfl (Or.inl rfl)) (pgs_cons (pg_name (i := 4) scPlacedP.nd rfl (Or.inl rfl)) pgs_nil)))
        (pss_cons (ps_expr (pe_bm PySem.F.plainAttrs_list PySem.F.slot_list_append PySem.F.type_list_append mt_append (pv 2) (pa_cons (pe_call GF hr rfl mF kF bF .nil pass1 (pa_cons (pv 4) (pa_cons (pv 1) pa_nil))) pa_nil)))
        (pss_one (ps_if (PW.pt (pw_and (pt_cmpR op_eq (pv 4) pe_str (nomark _)) (pw_and (pt_cmpR op_gt (pv 3) pe_int (nomark _)) (pw_and1 (pt_cmpR op_lt (pe_ix ix_list (pv 1) (pe_un un_neg pe_int) (fun _ _ => rfl)) (pe_glob (v := .int 3) rfl mL ⟨tl, rfl⟩) (nomark _))))))
          (pss_one (ps_raise lets1 rfl rfl rfl mC hC (pa_cons pe_str pa_nil))) pss_nil))))
      (pss_cons (ps_if (pt_cmpR (op_neD hr.units) (pv 1) (pe_lst (pa_cons (pe_glob (v := .int 2) rfl mO ⟨tf, rfl⟩) pa_nil)) (nomark _)) (pss_one (ps_raise lets1 rfl rfl rfl mC hC (pa_cons pe_str pa_nil))) pss_nil)
      (pss_one (ps_ret (pe_revL (pv 2) (pe_un un_neg pe_int)))))))), ?_⟩
    have hline := line5000
    rcases q with ⟨l, rfl, ha, hl, q⟩ | ⟨ty, hty, hk, q⟩
    · have hz : l.length ≤ sizeLine := by omega
      have hzt : (txt l).length ≤ sizeLine := by rw [txt_len]; exact hz
      refine ⟨_, rfl, _, _, true, rfl, .str _, kit_str_str, _, rfl, ?_⟩
      refine iteF ?_
      refine ⟨(by show 0 ≤ sizeLine; decide), fun p1 g1 => ?_⟩
      have s1 := same_upd (o := .lst []) g1
      refine ⟨(by show 0 ≤ sizeLine; decide), fun p2 g2 => ?_⟩
      have s2 := same_upd (o := .lst []) g2
      have h12 : p2 ≠ p1 := fun z => by rw [z, upd_same] at g2; cases g2
      have e1 : upd (upd H p1 (.lst [])) p2 (.lst []) p1 = some (.lst []) := s2 p1 _ upd_same
      have e2 : upd (upd H p1 (.lst [])) p2 (.lst []) p2 = some (.lst []) := upd_same
      have n1 : H p1 = none := g1
      have n2 : H p2 = none := s1.free g2
      have sA := s1.trans s2
      generalize upd (upd H p1 (.lst [])) p2 (.lst []) = HA at e1 e2 sA
      clear s1 s2 g1 g2
      refine ⟨_, rfl, l, rfl, ha, hz, fun p ps Hb hp sB hpl hlen htup => ?_⟩
      have b1 := sB p1 _ e1
      have b2 := sB p2 _ e2
      have np1 : p ≠ p1 := fun z => by rw [z, e1] at hp; cases hp
      have np2 : p ≠ p2 := fun z => by rw [z, e2] at hp; cases hp
      have sAB := sA.trans sB
      have hfail : plc l = none → ∀ H', (∀ b o, b ≠ p1 → b ≠ p2 → Hb b = some o → H' b = some o) → E (.ref C) none H' := fun e H' k => by
        rw [e] at q
        exact q H' fun b o eb => k b o (ne_of_none eb n1) (ne_of_none eb n2) (sAB b o eb)
      have hxl : (ps.map V.ref).length = l.length := by rw [List.length_map, hlen]
      refine ⟨p, _, rfl, SqL.of hpl, for_rev (K := K) (a := p) (xs := ps.map V.ref) (IPl l p1 p2 Hb) ⟨[], [], [], none, none, rfl, ?_, b1, b2, .nil, fun _ _ _ _ z => z⟩ (fun i σ H' _ hi => ?_) ?_ ?_⟩
      · rw [Nat.sub_zero, List.drop_length]; rfl
      · obtain ⟨_, _, _, _, _, _, _, _, _, _, k⟩ := hi
        exact SqL.of (k p _ np1 np2 hpl)
      · rintro i x σ H' hi hx ⟨st, ls, xs, v3, v4, rfl, hsc, h1, h2, hls, hk⟩
        rw [hxl] at hi hx
        have hj : l.length - 1 - i < l.length := by omega
        obtain ⟨t, ht, htt⟩ := htup _ _ (List.getElem?_eq_getElem hj)
        rw [List.getElem?_map, ht] at hx
        cases hx
        have nt1 : t ≠ p1 := fun z => by rw [z, b1] at htt; cases htt
        have nt2 : t ≠ p2 := fun z => by rw [z, b2] at htt; cases htt
        have htt' := hk t _ nt1 nt2 htt
        generalize ej : l.length - 1 - i = j at hj ht htt htt'
        have ed : l.drop j = l[j] :: l.drop (j + 1) := List.drop_eq_getElem_cons hj
        generalize ec : l[j] = c at ed htt htt'
        have hca : c < 128 := ha c (by rw [← ec]; exact List.getElem_mem hj)
        rw [decide_eq_false (by omega : ¬ i = l.length), scF_false, show l.length - i = j + 1 by omega] at hsc
        have hstep : scF (decide (i + 1 = l.length)) (l.drop (l.length - (i + 1))) = stp (decide (i + 1 = l.length)) c st ls := by
          rw [show l.length - (i + 1) = j by omega, ed]
          show (sc (l.drop (j + 1))).bind _ = _
          rw [hsc]; rfl
        have hj0 : decide (i + 1 = l.length) = decide (j = 0) := by
          rw [Bool.eq_iff_iff, decide_eq_true_eq, decide_eq_true_eq]; omega
        have hbad : stp (decide (i + 1 = l.length)) c st ls = none → plc l = none := fun e => by
          rw [plc_scF]
          rw [e, show l.length - (i + 1) = j by omega] at hstep
          by_cases z : j = 0
          · rw [hj0, decide_eq_true z, z, List.drop_zero] at hstep
            rw [hstep]; rfl
          · rw [hj0, decide_eq_false z, scF_false] at hstep
            rw [sc_none l j true (by omega) hstep]; rfl
        have hbig := sc_big hsc
        have hlen2 := sc_len hsc
        rw [List.length_drop] at hlen2
        dsimp only at hlen2
        refine ⟨t, _, rfl, .inl (.inl htt'), rfl, _, _, rfl, _, _, rfl, rfl, ?_⟩
        refine ⟨_, rfl, .inl ⟨rfl, _, SqL.of h2⟩, _, rfl, _, rfl, c, p1, st, rfl, h1, hbig, by omega, ?_⟩
        cases hf : fnd c st with
        | none =>
          exact fun H2 sb => hfail (hbad (stp_none_fnd hf)) H2 fun b o nb1 nb2 e => sb b o nb1 (hk b o nb1 nb2 e)
        | some y =>
          obtain ⟨st', a⟩ := y
          intro t2 H2 ht2 sb hp1 hta
          have h2' := sb p2 _ h12 h2
          have lx := hls.length
          rw [List.length_reverse] at lx
          refine ⟨p2, _, _, rfl, rfl, h2', by omega, ?_⟩
          have nt2' : t2 ≠ p2 := fun z => by rw [z, h2] at ht2; cases ht2
          have keep3 : ∀ b o, b ≠ p1 → b ≠ p2 → Hb b = some o → upd H2 p2 (.lst (xs ++ [V.ref t2])) b = some o := fun b o nb1 nb2 e => by
            rw [upd_ne nb2]; exact sb b o nb1 (hk b o nb1 nb2 e)
          have u1 : upd H2 p2 (.lst (xs ++ [V.ref t2])) p1 = some (.lst (stV st')) := by rw [upd_ne (Ne.symm h12)]; exact hp1
          have hls2 : LetsAt (upd H2 p2 (.lst (xs ++ [V.ref t2]))) (xs ++ [V.ref t2]) (ls.reverse ++ [a]) := by
            refine LetsAt.snoc (LetsAt.move (fun t' ys e => ?_) hls) ⟨t2, rfl, by rw [upd_ne nt2']; exact hta⟩
            have z1 : t' ≠ p1 := ne_of e h1 (by intro z; cases z)
            have z2 : t' ≠ p2 := ne_of e h2 (by intro z; cases z)
            rw [upd_ne z2]; exact sb t' _ z1 e
          have good : stp (decide (i + 1 = l.length)) c st ls = some (st', a :: ls) → IPl l p1 p2 Hb (i + 1) [some (.str (txt l)), some (.ref p1), some (.ref p2), some (.int (j : Int)), some (.str (txt [c]))] (upd H2 p2 (.lst (xs ++ [V.ref t2]))) := fun e =>
            ⟨st', a :: ls, xs ++ [V.ref t2], _, _, rfl, hstep.trans e, u1, upd_same, by rw [List.reverse_cons]; exact hls2, keep3⟩
          refine ⟨_, rfl, rfl, _, rfl, ?_⟩
          rw [show (Str.ofString "C") = txt [67] from sC, decT]
          by_cases h67 : c = 67
          · rw [decide_eq_true h67]
            refine iteT ?_
            refine ⟨_, rfl, _, _, rfl, rfl, _, rfl, ?_⟩
            by_cases hj' : j = 0
            · rw [decide_eq_false (by omega : ¬ ((j : Int) > 0))]
              refine iteF (iteF ?_)
              exact good (stp_of_fnd hf fun _ e => by rw [hj0, decide_eq_true hj'] at e; cases e)
            · rw [decide_eq_true (by omega : ((j : Int) > 0))]
              refine iteT ?_
              subst h67
              obtain ⟨k, r, rfl⟩ := fnd_67 hf
              have elast : atI (stV (k :: r)) (-1) = some (V.int (k : Int)) := by
                rw [stV_cons]; exact atI_last _ _
              refine ⟨_, rfl, _, rfl, p1, _, _, _, rfl, rfl, SqL.of u1, elast, _, _, rfl, rfl, _, rfl, ?_⟩
              by_cases hk3 : k < 3
              · rw [decide_eq_true (by omega : (k : Int) < 3)]
                refine iteT ?_
                refine ⟨(by show 1 ≤ sizeLine; decide), hfail (hbad ?_) _ keep3⟩
                rw [hj0, decide_eq_false hj']
                exact stp_none_C hf hk3
              · rw [decide_eq_false (by omega : ¬ (k : Int) < 3)]
                refine iteF ?_
                refine good (stp_of_fnd hf fun _ _ k' r' e => ?_)
                cases e; omega
          · rw [decide_eq_false h67]
            refine iteF (iteF ?_)
            exact good (stp_of_fnd hf fun z => absurd z h67)
      · rintro σ H' ⟨st, ls, xs, v3, v4, rfl, hsc, h1, h2, hls, hk⟩
        rw [hxl, decide_eq_true rfl, Nat.sub_self, List.drop_zero] at hsc
        refine ⟨_, rfl, (by show 1 ≤ sizeLine; decide), fun p6 g6 => ?_⟩
        have s6 := same_upd (o := .lst [.int 2]) g6
        have hd := depth_ints st.reverse
        refine ⟨.list (stD st), .list [.int 2], .lst (SqL.of (s6 p1 _ h1)) (dts_ints st.reverse), .lst (SqL.of upd_same) (.cons (.int 2) .nil), ?_, _, rfl, ?_⟩
        · simp only [PyData.depth, stD]; omega
        rw [if_pos rfl, eqv_two]
        have keep6 : ∀ b o, b ≠ p1 → b ≠ p2 → Hb b = some o → upd H' p6 (.lst [.int 2]) b = some o := fun b o nb1 nb2 e => s6 b o (hk b o nb1 nb2 e)
        by_cases h2st : st = [2]
        · rw [decide_eq_true h2st]
          refine iteF ?_
          have hpl2 : plc l = some ls := by rw [plc_scF, hsc]; simp [isTwo, h2st]
          rw [hpl2] at q
          refine ⟨_, rfl, _, rfl, rfl, p2, xs, rfl, SqL.of (s6 p2 _ h2), fun p7 g7 => ?_⟩
          have s7 := same_upd (o := .lst xs.reverse) g7
          have sF : Same H (upd (upd H' p6 (.lst [.int 2])) p7 (.lst xs.reverse)) := fun b o eb => s7 b o (keep6 b o (ne_of_none eb n1) (ne_of_none eb n2) (sAB b o eb))
          refine q p7 xs.reverse _ ?_ sF upd_same ?_
          · cases e7 : H p7 with
            | none => rfl
            | some o => rw [keep6 p7 o (ne_of_none e7 n1) (ne_of_none e7 n2) (sAB p7 o e7)] at g7; cases g7
          · have := paired_rev ((hls.same s6).same s7)
            rw [List.reverse_reverse] at this
            exact this
        · rw [decide_eq_false h2st]
          refine iteT ?_
          have hpl2 : plc l = none := by rw [plc_scF, hsc]; simp [isTwo, h2st]
          exact ⟨(by show 1 ≤ sizeLine; decide), hfail hpl2 _ keep6⟩
    · refine ⟨_, rfl, _, _, false, rfl, hty, hk, _, rfl, ?_⟩
      refine iteT ?_
      exact ⟨(by show 1 ≤ sizeLine; decide), q⟩
end
end K51
end
section
set_option Elab.async false
set_option linter.all false
set_option maxRecDepth 100000
set_option maxHeartbeats 4000000
namespace K52
open K51
theorem frm_big : ∀ (n : Nat) (l : List Nat) (k : Nat) (r : List Nat) (ls : List Lt), frm n false l = some (k, r, ls) → 3 ≤ k
  | 0, _, _, _, _, h => by simp [frm] at h
  | n + 1, [], _, _, _, h => by simp [frm] at h
  | n + 1, c :: t, k, r, ls, h => by
    rw [frm] at h
    split at h
    · cases h; omega
    · split at h
      · cases h
      · rename_i k1 r1 ls1 e1
        have h1 := frm_big n t k1 r1 ls1 e1
        split at h
        · split at h
          · cases h
          · rename_i m r2 ms e2
            have h2 := frm_big n r1 m r2 ms e2
            cases h
            omega
        · split at h
          · split at h
            · cases h
            · rename_i hn
              have : ¬ k1 < 4 := fun z => hn ⟨z, rfl⟩
              cases h; omega
          · split at h
            · cases h; omega
            · cases h
theorem fr_big {l : List Nat} {k : Nat} {r : List Nat} {ls : List Lt} (h : fr false l = some (k, r, ls)) : 3 ≤ k := frm_big _ l k r ls h
theorem frm_lets : ∀ (n : Nat) (f : Bool) (l : List Nat) (k : Nat) (r : List Nat) (ls : List Lt), frm n f l = some (k, r, ls) → ls.length + r.length = l.length ∧ k ≤ 3 * l.length + 3
  | 0, _, _, _, _, _, h => by simp [frm] at h
  | n + 1, _, [], _, _, _, h => by simp [frm] at h
  | n + 1, f, c :: t, k, r, ls, h => by
    rw [frm] at h
    split at h
    · cases h; simp only [List.length_cons, List.length_nil]; omega
    · split at h
      · cases h
      · rename_i k1 r1 ls1 e1
        have h1 := frm_lets n false t k1 r1 ls1 e1
        split at h
        · split at h
          · cases h
          · rename_i m r2 ms e2
            have h2 := frm_lets n false r1 m r2 ms e2
            have h3 := frm_shorter n false t k1 r1 ls1 e1
            have h4 : k1 ≤ 3 * (t.length - r1.length) := frm_less n t k1 r1 ls1 e1
            cases h
            simp only [List.length_cons, List.length_append]; omega
        · split at h
          · split at h
            · cases h
            · cases h; simp only [List.length_cons]; omega
          · split at h
            · cases h; simp only [List.length_cons]; omega
            · cases h
where
  frm_less : ∀ (n : Nat) (l : List Nat) (k : Nat) (r : List Nat) (ls : List Lt), frm n false l = some (k, r, ls) → k ≤ 3 * (l.length - r.length)
  | 0, _, _, _, _, h => by simp [frm] at h
  | n + 1, [], _, _, _, h => by simp [frm] at h
  | n + 1, c :: t, k, r, ls, h => by
    rw [frm] at h
    split at h
    · cases h; simp only [List.length_cons]; omega
    · split at h
      · cases h
      · rename_i k1 r1 ls1 e1
        have h1 := frm_less n t k1 r1 ls1 e1
        have s1 := frm_shorter n false t k1 r1 ls1 e1
        split at h
        · split at h
          · cases h
          · rename_i m r2 ms e2
            have h2 := frm_less n r1 m r2 ms e2
            have s2 := frm_shorter n false r1 m r2 ms e2
            cases h
            simp only [List.length_cons]; omega
        · split at h
          · split at h
            · cases h
            · cases h; simp only [List.length_cons]; omega
          · split at h
            · cases h; simp only [List.length_cons]; omega
            · cases h
theorem fr_len {f : Bool} {l : List Nat} {k : Nat} {r : List Nat} {ls : List Lt} (h : fr f l = some (k, r, ls)) : ls.length + r.length = l.length := (frm_lets _ f l k r ls h).1
end K52
namespace K51
open PySem L2 K52
/-! ### the law's own finding, by recursion -/
theorem drop_back {l : List Nat} {n : Nat} {r : List Nat} {f : Bool} {k : Nat} {ls : List Lt} (h : fr f (l.drop n) = some (k, r, ls)) (hn : n ≤ l.length) : l.drop (l.length - r.length) = r ∧ r.length < l.length - n := by
  have h1 := fr_drop h
  have h2 := fr_shorter h
  rw [List.length_drop] at h1 h2
  rw [List.drop_drop] at h1
  rw [show n + (l.length - n - r.length) = l.length - r.length by omega] at h1
  exact ⟨h1, h2⟩
def spFrom (d : Nat) : Sp := fun vs H Q _ => ∃ (l : List Nat) (n : Nat), vs = [.str (txt l), .int (n : Int)] ∧ asc l ∧ l.length ≤ 400 ∧ n ≤ l.length ∧ l.length - n ≤ d ∧ match fr (decide (n = 0)) (l.drop n) with
  | none => ∀ H', Same H H' → Q .non H'
  | some (k, r, ls) => ∀ t q xs H', Same H H' → H' t = some (.tup [.int (k : Int), .int ((l.length - r.length : Nat) : Int), .ref q]) → H' q = some (.lst xs) → LetsAt H' xs ls → Q (.ref t) H'
theorem inV_four (c : Nat) : inV (.str (txt [c])) [.str (txt [67]), .str (txt [82]), .str (txt [76]), .str (txt [83])] = (decide (c = 67 ∨ c = 82 ∨ c = 76 ∨ c = 83)) := by
  have e : ∀ d : Nat, (txt [d] == txt [c]) = decide (c = d) := fun d => by
    rw [Bool.eq_iff_iff, beq_iff_eq, decide_eq_true_eq]
    constructor
    · intro h; have := txt_inj h; simpa using this.symm
    · rintro rfl; rfl
  unfold inV
  simp only [List.any_cons, List.any_nil, eqV, e, Bool.or_false]
  rw [Bool.eq_iff_iff]
  simp
section
variable {P : Program} {w : World} {K : PySem.W.Frag} {mg : Str → Option Value} {base : Heap}
theorem scFrom : FnScope ["_law_text", "_law_at_here", "_law_one", "_law_two"] ["_law_text", "_law_at_here"] (defScope sFrom) := ⟨rfl, rfl, rfl, by decide +kernel, rfl, by decide +kernel, by decide +kernel⟩
theorem ok_from {f : Addr} {fd : FuncData} (U : Fun K "_law_from" "_law_from" sFrom f fd) (T : TxtN mg) (b : Binds K fd ["_law_text", "_law_at_here"] []) (m : mg "_law_from" = some (.ref f)) (kp : PySem.W.keepIn K (.ref f) = true) :
    ∀ d : Nat, FnOk P w K mg base CX0 (d + 1) f fd ["_law_text", "_law_at_here"] (spFrom d) := by
  intro d
  induction d with
  | zero =>
    refine U.ok scFrom (fun vs H Q E h => ?_) (fun cdv A outer s H vs Q E hr h => ?_)
    · obtain ⟨l, n, rfl, _⟩ := h
      rfl
    · obtain ⟨l, n, rfl, ha, hl, hn, hd, q⟩ := h
      refine ⟨_, pss_cons (ps_if (pt_cmpR op_ge (pv 1) (pe_callB call_len_str (by rfl) T.len PySem.boot_len (pa_cons (pv 0) pa_nil)) (nomark _)) (pss_one (ps_ret pe_non)) pss_nil) pss_never, ?_⟩
      have hline := line5000
      have hzt : (txt l).length ≤ sizeLine := by rw [txt_len]; omega
      refine ⟨_, rfl, _, rfl, _, rfl, hzt, _, _, rfl, rfl, _, rfl, ?_⟩
      rw [txt_len, decide_eq_true (by omega)]
      refine iteT ?_
      rw [List.drop_of_length_le (by omega), fr_nil] at q
      exact q H fun _ _ z => z
  | succ d ih =>
    refine U.ok scFrom (fun vs H Q E h => ?_) (fun cdv A outer s H vs Q E hr h => ?_)
    · obtain ⟨l, n, rfl, _⟩ := h
      rfl
    · obtain ⟨l, n, rfl, ha, hl, hn, hd, q⟩ := h
      refine ⟨_, pss_cons (ps_if (pt_cmpR op_ge (pv 1) (pe_callB call_len_str (by rfl) T.len PySem.boot_len (pa_cons (pv 0) pa_nil)) (nomark _)) (pss_one (ps_ret pe_non)) pss_nil)
        (pss_cons (ps_if (pt_cmpR op_eq (pe_ix ix_str (pv 0) (pv 1) (fun _ _ => rfl)) pe_str (nomark _)) (pss_one (ps_ret (pe_tup (pa_cons pe_int (pa_cons (pe_op op_add (pv 1) pe_int) (pa_cons (pe_lst (pa_cons (pe_tup (pa_cons pe_str pa_nil)) pa_nil)) pa_nil)))))) pss_nil)
        (pss_cons (ps_set (i := 2) scFrom.nd rfl (Or.inl rfl) (pe_call ih hr rfl m kp b .nil pass0 (pa_cons (pv 0) (pa_cons (pe_op op_add (pv 1) pe_int) pa_nil))))
        (pss_cons (ps_if (PW.pt (pw_or (pt_cmpR op_isN (pv 2) pe_non (nomark _)) (pw_or1 (pt_cmpR op_notIn_seq (pe_ix ix_str (pv 0) (pv 1) (fun _ _ => rfl)) (pe_tup (pa_cons pe_str (pa_cons pe_str (pa_cons pe_str (pa_cons pe_str pa_nil))))) rfl)))) (pss_one (ps_ret pe_non)) pss_nil)
        (pss_cons (ps_if (pt_cmpR op_eq (pe_ix ix_str (pv 0) (pv 1) (fun _ _ => rfl)) pe_str (nomark _))
          (pss_cons (ps_set (i := 3) scFrom.nd rfl (Or.inl rfl) (pe_call ih hr rfl m kp b .nil pass0 (pa_cons (pv 0) (pa_cons (pe_ix ix_tup (pv 2) pe_int (fun _ _ => rfl)) pa_nil))))
          (pss_cons (ps_if (pt_cmpR op_isN (pv 3) pe_non (nomark _)) (pss_one (ps_ret pe_non)) pss_nil)
          (pss_one (ps_ret (pe_tup (pa_cons (pe_op op_sub (pe_op op_add (pe_ix ix_tup (pv 2) pe_int (fun _ _ => rfl)) (pe_ix ix_tup (pv 3) pe_int (fun _ _ => rfl))) pe_int) (pa_cons (pe_ix ix_tup (pv 3) pe_int (fun _ _ => rfl))
            (pa_cons (pe_op op_cat (pe_op op_cat (pe_lst (pa_cons (pe_tup (pa_cons pe_str (pa_cons pe_int (pa_cons (pe_ix ix_tup (pv 2) pe_int (fun _ _ => rfl)) pa_nil)))) pa_nil)) (pe_ix ix_tup (pv 2) pe_int (fun _ _ => rfl))) (pe_ix ix_tup (pv 3) pe_int (fun _ _ => rfl))) pa_nil)))))))) pss_nil)
        (pss_cons (ps_if (PW.pt (pw_and (pt_cmpR op_eq (pe_ix ix_str (pv 0) (pv 1) (fun _ _ => rfl)) pe_str (nomark _)) (pw_and (pt_cmpR op_lt (pe_ix ix_tup (pv 2) pe_int (fun _ _ => rfl)) pe_int (nomark _)) (pw_and1 (pt_cmpR op_gt (pv 1) pe_int (nomark _)))))) (pss_one (ps_ret pe_non)) pss_nil)
        (pss_one (ps_ret (pe_tup (pa_cons (pe_op op_add (pe_ix ix_tup (pv 2) pe_int (fun _ _ => rfl)) (pe_ix ix_list (pe_lst (pa_cons pe_int (pa_cons (pe_un un_neg pe_int) pa_nil))) (pe_callTy call_int1 (by rfl) T.int PyProof.Rows.boot_int (pa_cons (pe_cmpR op_eq (pe_ix ix_str (pv 0) (pv 1) (fun _ _ => rfl)) pe_str (nomark _)) pa_nil)) (fun _ _ => rfl)))
          (pa_cons (pe_ix ix_tup (pv 2) pe_int (fun _ _ => rfl)) (pa_cons (pe_op op_cat (pe_lst (pa_cons (pe_tup (pa_cons (pe_ix ix_str (pv 0) (pv 1) (fun _ _ => rfl)) pa_nil)) pa_nil)) (pe_ix ix_tup (pv 2) pe_int (fun _ _ => rfl))) pa_nil))))))))))), ?_⟩
      have hline := line5000
      have hzt : (txt l).length ≤ sizeLine := by rw [txt_len]; omega
      refine ⟨_, rfl, _, rfl, _, rfl, hzt, _, _, rfl, rfl, _, rfl, ?_⟩
      rw [txt_len]
      by_cases hlt : n < l.length
      · rw [decide_eq_false (by omega : ¬ ((l.length : Int) ≤ (n : Int)))]
        refine iteF ?_
        have hc : l[n]? = some l[n] := List.getElem?_eq_getElem hlt
        have ed : l.drop n = l[n] :: l.drop (n + 1) := List.drop_eq_getElem_cons hlt
        generalize l[n] = c at hc ed
        rw [ed, fr_cons] at q
        refine ⟨_, rfl, _, rfl, _, _, c, rfl, rfl, hzt, atI_txt hc, rfl, _, rfl, ?_⟩
        rw [show (⟨#[c]⟩ : Str) = txt [c] from rfl, show (Str.ofString "E") = txt [69] from sE, decT]
        by_cases h69 : c = 69
        · rw [decide_eq_true h69]
          rw [if_pos h69] at q
          refine iteT ?_
          refine ⟨_, rfl, _, _, rfl, rfl, (by show 1 ≤ sizeLine; decide), fun t0 g0 => ?_⟩
          refine ⟨(by show 1 ≤ sizeLine; decide), fun t1 g1 => ?_⟩
          refine ⟨(by show 3 ≤ sizeLine; decide), fun t2 g2 => ?_⟩
          have s0 := same_upd (o := .tup [V.str (txt [69])]) g0
          have s1 := same_upd (o := .lst [V.ref t0]) g1
          have s2 := same_upd (o := .tup [V.int 3, V.int ((n : Int) + 1), V.ref t1]) g2
          have e : ((l.length - (l.drop (n + 1)).length : Nat) : Int) = (n : Int) + 1 := by rw [List.length_drop]; omega
          refine q t2 t1 [.ref t0] _ ((s0.trans s1).trans s2) ?_ (s2 t1 _ upd_same) (.cons ⟨t0, rfl, s2 t0 _ (s1 t0 _ upd_same)⟩ .nil)
          rw [e]
          exact upd_same
        · rw [decide_eq_false h69]
          rw [if_neg h69] at q
          refine iteF ?_
          refine ⟨_, rfl, _, rfl, _, _, rfl, rfl, l, n + 1, rfl, ha, hl, hlt, by omega, ?_⟩
          rw [decide_eq_false (by omega : ¬ (n + 1 = 0))]
          cases e1 : fr false (l.drop (n + 1)) with
          | none =>
            rw [e1] at q
            intro H1 s1
            refine ⟨_, rfl, rfl, _, rfl, ?_⟩
            rw [decide_eq_true rfl]
            exact iteT (iteT (q H1 s1))
          | some x =>
            obtain ⟨k, r, ls⟩ := x
            rw [e1] at q
            dsimp only at q
            intro t1 q1 xs1 H1 s1 ht1 hq1 hls1
            have hk := fr_big e1
            have hdb := drop_back e1 (show n + 1 ≤ l.length from hlt)
            have hfl := fr_len e1
            rw [List.length_drop] at hfl
            have hx1 := hls1.length
            refine ⟨_, rfl, rfl, _, rfl, ?_⟩
            rw [decide_eq_false (by intro z; cases z)]
            refine iteF ?_
            refine ⟨_, rfl, _, rfl, _, _, c, rfl, rfl, hzt, atI_txt hc, (by show 4 ≤ sizeLine; decide), fun t2 g2 => ?_⟩
            refine ⟨t2, _, rfl, .inr (SqT.of upd_same), rfl, rfl, _, rfl, ?_⟩
            rw [show (⟨#[c]⟩ : Str) = txt [c] from rfl, show (Str.ofString "C") = txt [67] from sC, show (Str.ofString "R") = txt [82] from sR, show (Str.ofString "L") = txt [76] from sL, show (Str.ofString "S") = txt [83] from s83] at *
            rw [if_pos rfl, inV_four]
            have s2 := same_upd (o := .tup [V.str (txt [67]), V.str (txt [82]), V.str (txt [76]), V.str (txt [83])]) g2
            have s12 := s1.trans s2
            have ht2 := s2 t1 _ ht1
            have hq2 := s2 q1 _ hq1
            have hls2 := hls1.same s2
            generalize upd H1 t2 (.tup [V.str (txt [67]), V.str (txt [82]), V.str (txt [76]), V.str (txt [83])]) = H2 at s2 s12 ht2 hq2 hls2 ⊢
            by_cases h4 : c = 67 ∨ c = 82 ∨ c = 76 ∨ c = 83
            · rw [decide_eq_true h4]
              refine iteF ?_
              have a0 : ∀ (x y z : V), atI [x, y, z] 0 = some x := fun _ _ _ => rfl
              have a1 : ∀ (x y z : V), atI [x, y, z] 1 = some y := fun _ _ _ => rfl
              have a2 : ∀ (x y z : V), atI [x, y, z] 2 = some z := fun _ _ _ => rfl
              refine ⟨_, rfl, _, rfl, _, _, c, rfl, rfl, hzt, atI_txt hc, rfl, _, rfl, ?_⟩
              rw [show (⟨#[c]⟩ : Str) = txt [c] from rfl, decT]
              by_cases h83 : c = 83
              · rw [decide_eq_true h83]
                rw [if_pos h83] at q
                refine iteT ?_
                refine ⟨_, rfl, _, rfl, t1, _, _, _, rfl, rfl, SqT.of ht2, a1 _ _ _, l, l.length - r.length, rfl, ha, hl, Nat.sub_le _ _, by omega, ?_⟩
                rw [hdb.1, decide_eq_false (by omega : ¬ (l.length - r.length = 0))]
                cases e2 : fr false r with
                | none =>
                  rw [e2] at q
                  intro H3 s3
                  refine ⟨_, rfl, rfl, _, rfl, ?_⟩
                  rw [decide_eq_true rfl]
                  exact iteT (q H3 (s12.trans s3))
                | some y =>
                  obtain ⟨k2, r2, ls2⟩ := y
                  rw [e2] at q
                  dsimp only at q
                  intro t3 q3 xs3 H3 s3 ht3 hq3 hls3
                  have hk2 := fr_big e2
                  have hfl2 := fr_len e2
                  have hx3 := hls3.length
                  refine ⟨_, rfl, rfl, _, rfl, ?_⟩
                  rw [decide_eq_false (by intro z; cases z)]
                  refine iteF ?_
                  have hh1 := s3 t1 _ ht2
                  have hqq1 := s3 q1 _ hq2
                  have hll1 := hls2.same s3
                  have s13 := s12.trans s3
                  refine ⟨_, rfl, t1, _, _, _, rfl, rfl, SqT.of hh1, a0 _ _ _, _, rfl, t3, _, _, _, rfl, rfl, SqT.of ht3, a0 _ _ _, _, _, rfl, rfl, _, _, rfl, rfl, ?_⟩
                  refine ⟨_, rfl, t3, _, _, _, rfl, rfl, SqT.of ht3, a1 _ _ _, ?_⟩
                  refine ⟨_, rfl, t1, _, _, _, rfl, rfl, SqT.of hh1, a0 _ _ _, (by show 3 ≤ sizeLine; decide), fun t4 g4 => ?_⟩
                  refine ⟨(by show 1 ≤ sizeLine; decide), fun t5 g5 => ?_⟩
                  have s4 := same_upd (o := .tup [V.str (txt [83]), V.int 0, V.int (k : Int)]) g4
                  have s5 := same_upd (o := .lst [V.ref t4]) g5
                  have s45 := s4.trans s5
                  have i4 := s5 t4 _ upd_same
                  have i5 := upd_same (H := upd H3 t4 (.tup [V.str (txt [83]), V.int 0, V.int (k : Int)])) (a := t5) (o := .lst [V.ref t4])
                  have j1 := s45 t1 _ hh1
                  have j3 := s45 t3 _ ht3
                  have jq1 := s45 q1 _ hqq1
                  have jq3 := s45 q3 _ hq3
                  have jl1 := hll1.same s45
                  have jl3 := hls3.same s45
                  have s15 := s13.trans s45
                  generalize upd (upd H3 t4 (.tup [V.str (txt [83]), V.int 0, V.int (k : Int)])) t5 (.lst [V.ref t4]) = H5 at s4 s5 s45 i4 i5 j1 j3 jq1 jq3 jl1 jl3 s15 ⊢
                  refine ⟨_, rfl, t1, _, _, _, rfl, rfl, SqT.of j1, a2 _ _ _, ?_⟩
                  refine ⟨t5, q1, _, _, rfl, rfl, i5, jq1, (by simp only [List.length_cons, List.length_nil]; omega), fun p6 g6 => ?_⟩
                  have s6 := same_upd (o := .lst ([V.ref t4] ++ xs1)) g6
                  refine ⟨_, rfl, t3, _, _, _, rfl, rfl, SqT.of (s6 t3 _ j3), a2 _ _ _, ?_⟩
                  refine ⟨p6, q3, _, _, rfl, rfl, upd_same, s6 q3 _ jq3, (by simp only [List.length_append, List.length_cons, List.length_nil]; omega), fun p7 g7 => ?_⟩
                  have s7 := same_upd (o := .lst ([V.ref t4] ++ xs1 ++ xs3)) g7
                  refine ⟨(by show 3 ≤ sizeLine; decide), fun t8 g8 => ?_⟩
                  have s8 := same_upd (o := .tup [V.int ((k : Int) + (k2 : Int) - 1), V.int ((l.length - r2.length : Nat) : Int), V.ref p7]) g8
                  have s68 := (s6.trans s7).trans s8
                  have e : ((k + k2 - 1 : Nat) : Int) = (k : Int) + (k2 : Int) - 1 := by omega
                  refine q t8 p7 ([V.ref t4] ++ xs1 ++ xs3) _ (s15.trans s68) ?_ (s8 p7 _ upd_same) ?_
                  · rw [e]; exact upd_same
                  · have := paired_app (Paired.cons (show LetAt _ (V.ref t4) (.sp 0 k) from ⟨t4, rfl, s68 t4 _ i4⟩) (jl1.same s68)) (jl3.same s68)
                    exact this
              · rw [decide_eq_false h83]
                rw [if_neg h83] at q
                refine iteF ?_
                refine ⟨_, rfl, _, rfl, _, _, c, rfl, rfl, hzt, atI_txt hc, rfl, _, rfl, ?_⟩
                rw [show (⟨#[c]⟩ : Str) = txt [c] from rfl, decT]
                by_cases h67 : c = 67
                · rw [decide_eq_true h67]
                  rw [if_pos h67] at q
                  refine iteT ?_
                  refine ⟨_, rfl, t1, _, _, _, rfl, rfl, SqT.of ht2, a0 _ _ _, _, _, rfl, rfl, _, rfl, ?_⟩
                  by_cases hk4 : k < 4
                  · rw [decide_eq_true (by omega : (k : Int) < 4)]
                    refine iteT ?_
                    refine ⟨_, rfl, _, _, rfl, rfl, _, rfl, ?_⟩
                    by_cases hn0 : n = 0
                    · rw [decide_eq_false (by omega : ¬ ((0 : Int) < (n : Int)))]
                      rw [if_neg (fun z => by rw [decide_eq_true hn0] at z; cases z.2)] at q
                      refine iteF ?_
                      rw [← h67] at q
                      refine ⟨_, rfl, t1, _, _, _, rfl, rfl, SqT.of ht2, a0 _ _ _, _, rfl, (by show 2 ≤ sizeLine; decide), fun w3 g3 => ?_⟩
                      have s3 := same_upd (o := .lst [V.int 1, V.int (-1)]) g3
                      refine ⟨_, rfl, _, rfl, _, _, c, rfl, rfl, hzt, atI_txt hc, rfl, .inr ⟨true, ?_, w3, _, _, _, rfl, rfl, SqL.of upd_same, (show atI [V.int 1, V.int (-1)] (if true = true then 1 else 0) = some (V.int (-1)) from rfl), _, _, rfl, rfl, ?_⟩⟩
                      · rw [show (⟨#[c]⟩ : Str) = txt [c] from rfl, decT, decide_eq_true h67]
                      have s13 := s12.trans s3
                      have j1 := s3 t1 _ ht2
                      have jq1 := s3 q1 _ hq2
                      have jl1 := hls2.same s3
                      refine ⟨_, rfl, t1, _, _, _, rfl, rfl, SqT.of j1, a1 _ _ _, ?_⟩
                      refine ⟨_, rfl, _, rfl, _, _, c, rfl, rfl, hzt, atI_txt hc, (by show 1 ≤ sizeLine; decide), fun t4 g4 => ?_⟩
                      refine ⟨(by show 1 ≤ sizeLine; decide), fun t5 g5 => ?_⟩
                      have s4 := same_upd (o := .tup [V.str ⟨#[c]⟩]) g4
                      have s5 := same_upd (o := .lst [V.ref t4]) g5
                      have s45 := s4.trans s5
                      refine ⟨_, rfl, t1, _, _, _, rfl, rfl, SqT.of (s45 t1 _ j1), a2 _ _ _, ?_⟩
                      refine ⟨t5, q1, _, _, rfl, rfl, upd_same, s45 q1 _ jq1, (by simp only [List.length_cons, List.length_nil]; omega), fun p6 g6 => ?_⟩
                      have s6 := same_upd (o := .lst ([V.ref t4] ++ xs1)) g6
                      refine ⟨(by show 3 ≤ sizeLine; decide), fun t8 g8 => ?_⟩
                      have s8 := same_upd (o := .tup [V.int ((k : Int) + (-1)), V.int ((l.length - r.length : Nat) : Int), V.ref p6]) g8
                      have s68 := s6.trans s8
                      have e : ((k - 1 : Nat) : Int) = (k : Int) + (-1) := by omega
                      refine q t8 p6 ([V.ref t4] ++ xs1) _ (s13.trans (s45.trans s68)) ?_ (s8 p6 _ upd_same) (.cons ⟨t4, rfl, s68 t4 _ (s5 t4 _ upd_same)⟩ (jl1.same (s45.trans s68)))
                      rw [e]; exact upd_same
                    · rw [decide_eq_true (by omega : ((0 : Int) < (n : Int)))]
                      rw [if_pos ⟨hk4, decide_eq_false hn0⟩] at q
                      exact iteT (q H2 s12)
                  · rw [decide_eq_false (by omega : ¬ ((k : Int) < 4))]
                    rw [if_neg (fun z => hk4 z.1)] at q
                    refine iteF (iteF ?_)
                    rw [← h67] at q
                    refine ⟨_, rfl, t1, _, _, _, rfl, rfl, SqT.of ht2, a0 _ _ _, _, rfl, (by show 2 ≤ sizeLine; decide), fun w3 g3 => ?_⟩
                    have s3 := same_upd (o := .lst [V.int 1, V.int (-1)]) g3
                    refine ⟨_, rfl, _, rfl, _, _, c, rfl, rfl, hzt, atI_txt hc, rfl, .inr ⟨true, ?_, w3, _, _, _, rfl, rfl, SqL.of upd_same, (show atI [V.int 1, V.int (-1)] (if true = true then 1 else 0) = some (V.int (-1)) from rfl), _, _, rfl, rfl, ?_⟩⟩
                    · rw [show (⟨#[c]⟩ : Str) = txt [c] from rfl, decT, decide_eq_true h67]
                    have s13 := s12.trans s3
                    have j1 := s3 t1 _ ht2
                    have jq1 := s3 q1 _ hq2
                    have jl1 := hls2.same s3
                    refine ⟨_, rfl, t1, _, _, _, rfl, rfl, SqT.of j1, a1 _ _ _, ?_⟩
                    refine ⟨_, rfl, _, rfl, _, _, c, rfl, rfl, hzt, atI_txt hc, (by show 1 ≤ sizeLine; decide), fun t4 g4 => ?_⟩
                    refine ⟨(by show 1 ≤ sizeLine; decide), fun t5 g5 => ?_⟩
                    have s4 := same_upd (o := .tup [V.str ⟨#[c]⟩]) g4
                    have s5 := same_upd (o := .lst [V.ref t4]) g5
                    have s45 := s4.trans s5
                    refine ⟨_, rfl, t1, _, _, _, rfl, rfl, SqT.of (s45 t1 _ j1), a2 _ _ _, ?_⟩
                    refine ⟨t5, q1, _, _, rfl, rfl, upd_same, s45 q1 _ jq1, (by simp only [List.length_cons, List.length_nil]; omega), fun p6 g6 => ?_⟩
                    have s6 := same_upd (o := .lst ([V.ref t4] ++ xs1)) g6
                    refine ⟨(by show 3 ≤ sizeLine; decide), fun t8 g8 => ?_⟩
                    have s8 := same_upd (o := .tup [V.int ((k : Int) + (-1)), V.int ((l.length - r.length : Nat) : Int), V.ref p6]) g8
                    have s68 := s6.trans s8
                    have e : ((k - 1 : Nat) : Int) = (k : Int) + (-1) := by omega
                    refine q t8 p6 ([V.ref t4] ++ xs1) _ (s13.trans (s45.trans s68)) ?_ (s8 p6 _ upd_same) (.cons ⟨t4, rfl, s68 t4 _ (s5 t4 _ upd_same)⟩ (jl1.same (s45.trans s68)))
                    rw [e]; exact upd_same
                · rw [decide_eq_false h67]
                  rw [if_neg h67, if_pos (by omega)] at q
                  refine iteF (iteF ?_)
                  refine ⟨_, rfl, t1, _, _, _, rfl, rfl, SqT.of ht2, a0 _ _ _, _, rfl, (by show 2 ≤ sizeLine; decide), fun w3 g3 => ?_⟩
                  have s3 := same_upd (o := .lst [V.int 1, V.int (-1)]) g3
                  refine ⟨_, rfl, _, rfl, _, _, c, rfl, rfl, hzt, atI_txt hc, rfl, .inr ⟨false, ?_, w3, _, _, _, rfl, rfl, SqL.of upd_same, (show atI [V.int 1, V.int (-1)] (if false = true then 1 else 0) = some (V.int 1) from rfl), _, _, rfl, rfl, ?_⟩⟩
                  · rw [show (⟨#[c]⟩ : Str) = txt [c] from rfl, decT, decide_eq_false h67]
                  have s13 := s12.trans s3
                  have j1 := s3 t1 _ ht2
                  have jq1 := s3 q1 _ hq2
                  have jl1 := hls2.same s3
                  refine ⟨_, rfl, t1, _, _, _, rfl, rfl, SqT.of j1, a1 _ _ _, ?_⟩
                  refine ⟨_, rfl, _, rfl, _, _, c, rfl, rfl, hzt, atI_txt hc, (by show 1 ≤ sizeLine; decide), fun t4 g4 => ?_⟩
                  refine ⟨(by show 1 ≤ sizeLine; decide), fun t5 g5 => ?_⟩
                  have s4 := same_upd (o := .tup [V.str ⟨#[c]⟩]) g4
                  have s5 := same_upd (o := .lst [V.ref t4]) g5
                  have s45 := s4.trans s5
                  refine ⟨_, rfl, t1, _, _, _, rfl, rfl, SqT.of (s45 t1 _ j1), a2 _ _ _, ?_⟩
                  refine ⟨t5, q1, _, _, rfl, rfl, upd_same, s45 q1 _ jq1, (by simp only [List.length_cons, List.length_nil]; omega), fun p6 g6 => ?_⟩
                  have s6 := same_upd (o := .lst ([V.ref t4] ++ xs1)) g6
                  refine ⟨(by show 3 ≤ sizeLine; decide), fun t8 g8 => ?_⟩
                  have s8 := same_upd (o := .tup [V.int ((k : Int) + 1), V.int ((l.length - r.length : Nat) : Int), V.ref p6]) g8
                  have s68 := s6.trans s8
                  have e : ((k + 1 : Nat) : Int) = (k : Int) + 1 := by omega
                  refine q t8 p6 ([V.ref t4] ++ xs1) _ (s13.trans (s45.trans s68)) ?_ (s8 p6 _ upd_same) (.cons ⟨t4, rfl, s68 t4 _ (s5 t4 _ upd_same)⟩ (jl1.same (s45.trans s68)))
                  rw [e]; exact upd_same
            · rw [decide_eq_false h4]
              refine iteT ?_
              rw [if_neg (fun z => h4 (by omega)), if_neg (fun z => h4 (by omega)), if_neg (fun z => h4 (by omega))] at q
              exact q H2 s12
      · rw [decide_eq_true (by omega : ((l.length : Int) ≤ (n : Int)))]
        refine iteT ?_
        rw [List.drop_of_length_le (by omega), fr_nil] at q
        exact q H fun _ _ z => z
end
end K51
end
section
set_option Elab.async false
set_option linter.all false
set_option maxRecDepth 100000
set_option maxHeartbeats 4000000
namespace K51
open PySem L2 K52
/-! ### _law_placed -/
theorem placedL_if (l : List Nat) : placedL l = (fr true l).bind fun x => if x.1 = 2 ∧ x.2.1 = [] then some x.2.2 else none := by
  unfold placedL
  cases fr true l with
  | none => rfl
  | some x =>
    obtain ⟨k, r, ls⟩ := x
    simp only [Option.bind_some]
    by_cases h : k = 2 ∧ r = []
    · obtain ⟨rfl, rfl⟩ := h
      simp
    · rw [if_neg h]
      split
      · rename_i h2
        simp only [Option.some.injEq, Prod.mk.injEq] at h2
        exact absurd ⟨h2.1, h2.2.1⟩ h
      · rfl
def spLPlaced : Sp := fun vs H Q _ => ∃ l : List Nat, vs = [.str (txt l)] ∧ asc l ∧ l.length ≤ 200 ∧ match placedL l with
  | none => ∀ H', Same H H' → Q .non H'
  | some ls => ∀ q xs H', Same H H' → H' q = some (.lst xs) → LetsAt H' xs ls → Q (.ref q) H'
section
variable {P : Program} {w : World} {K : PySem.W.Frag} {mg : Str → Option Value} {base : Heap}
theorem scLPlaced : FnScope ["_law_text", "_law_told_here"] ["_law_text"] (defScope sPlaced) := ⟨rfl, rfl, rfl, by decide +kernel, rfl, by decide +kernel, by decide +kernel⟩
theorem ok_lplaced {f fF : Addr} {fd fdF : FuncData} (U : Fun K "_law_placed" "_law_placed" sPlaced f fd) (T : TxtN mg)
    (GF : FnOk P w K mg base CX0 201 fF fdF ["_law_text", "_law_at_here"] (spFrom 200)) (bF : Binds K fdF ["_law_text", "_law_at_here"] []) (mF : mg "_law_from" = some (.ref fF)) (kF : PySem.W.keepIn K (.ref fF) = true) :
    FnOk P w K mg base CX0 202 f fd ["_law_text"] spLPlaced := by
  refine U.ok scLPlaced (fun vs H Q E h => ?_) (fun cdv A outer s H vs Q E hr h => ?_)
  · obtain ⟨l, rfl, _⟩ := h
    rfl
  · obtain ⟨l, rfl, ha, hl, q⟩ := h
    refine ⟨_, pss_cons (ps_set (i := 1) scLPlaced.nd rfl (Or.inl rfl) (pe_call GF hr rfl mF kF bF .nil pass0 (pa_cons (pv 0) (pa_cons pe_int pa_nil))))
      (pss_cons (ps_if (PW.pt (pw_or (pt_cmpR op_isN (pv 1) pe_non (nomark _)) (pw_or (pt_cmpR op_ne (pe_ix ix_tup (pv 1) pe_int (fun _ _ => rfl)) pe_int (nomark _)) (pw_or1 (pt_cmpR op_ne (pe_ix ix_tup (pv 1) pe_int (fun _ _ => rfl)) (pe_callB call_len_str (by rfl) T.len PySem.boot_len (pa_cons (pv 0) pa_nil)) (nomark _)))))) (pss_one (ps_ret pe_non)) pss_nil)
      (pss_one (ps_ret (pe_ix ix_tup (pv 1) pe_int (fun _ _ => rfl))))), ?_⟩
    have hline := line5000
    have hzt : (txt l).length ≤ sizeLine := by rw [txt_len]; omega
    have a0 : ∀ (x y z : V), atI [x, y, z] 0 = some x := fun _ _ _ => rfl
    have a1 : ∀ (x y z : V), atI [x, y, z] 1 = some y := fun _ _ _ => rfl
    have a2 : ∀ (x y z : V), atI [x, y, z] 2 = some z := fun _ _ _ => rfl
    refine ⟨_, rfl, l, 0, rfl, ha, by omega, Nat.zero_le _, by omega, ?_⟩
    rw [List.drop_zero, decide_eq_true rfl]
    rw [placedL_if] at q
    cases e : fr true l with
    | none =>
      rw [e] at q
      intro H1 s1
      refine ⟨_, rfl, rfl, _, rfl, ?_⟩
      rw [decide_eq_true rfl]
      exact iteT (iteT (q H1 s1))
    | some x =>
      obtain ⟨k, r, ls⟩ := x
      rw [e] at q
      simp only [Option.bind_some] at q
      intro t q0 xs H1 s1 ht hq hls
      have hsh := fr_shorter e
      refine ⟨_, rfl, rfl, _, rfl, ?_⟩
      rw [decide_eq_false (by intro z; cases z)]
      refine iteF ?_
      refine ⟨_, rfl, t, _, _, _, rfl, rfl, SqT.of ht, a0 _ _ _, rfl, _, rfl, ?_⟩
      rw [decI]
      by_cases hk : k = 2
      · rw [decide_eq_true (by omega : (k : Int) = 2)]
        refine iteF ?_
        refine ⟨_, rfl, t, _, _, _, rfl, rfl, SqT.of ht, a1 _ _ _, _, rfl, _, rfl, hzt, rfl, _, rfl, ?_⟩
        rw [txt_len, decI]
        by_cases hr0 : r = []
        · subst hr0 hk
          rw [decide_eq_true (by simp)]
          refine iteF ?_
          rw [if_pos ⟨rfl, rfl⟩] at q
          exact ⟨_, rfl, t, _, _, _, rfl, rfl, SqT.of ht, a2 _ _ _, q q0 xs H1 s1 hq hls⟩
        · have hp : 0 < r.length := List.length_pos_iff.mpr hr0
          rw [decide_eq_false (by omega)]
          refine iteT ?_
          rw [if_neg fun z => hr0 z.2] at q
          exact q H1 s1
      · rw [decide_eq_false (by omega : ¬ ((k : Int) = 2))]
        refine iteT (iteT ?_)
        rw [if_neg fun z => hk z.1] at q
        exact q H1 s1
end
/-! ### _law_string -/
def spString : Sp := fun vs H Q _ => ∃ (c : Int) (m : Int) (sg : List Nat), vs = [.int c, .int m, .str (txt sg)] ∧ 0 ≤ m ∧ m ≤ 30 ∧ 0 < sg.length ∧ sg.length ≤ 100 ∧ ∀ r : List Nat, r.length ≤ 30 → (∀ x ∈ r, x ∈ sg) → Q (.str (txt r)) H
abbrev IStr (m : Int) (sg : List Nat) (H : Hp) : Nat → St → Hp → Prop := fun i σ H' => ∃ (c' : Int) (r : List Nat) (v : Option V), σ = [some (.int c'), some (.int m), some (.str (txt sg)), some (.str (txt r)), v] ∧ r.length = i ∧ (∀ x ∈ r, x ∈ sg) ∧ H' = H
section
variable {P : Program} {w : World} {K : PySem.W.Frag} {mg : Str → Option Value} {base : Heap}
theorem scString : FnScope ["_law_cell", "_law_many", "_law_signs", "_law_text", "_law_k"] ["_law_cell", "_law_many", "_law_signs"] (defScope sString) := ⟨rfl, rfl, rfl, by decide +kernel, rfl, by decide +kernel, by decide +kernel⟩
theorem ok_string {f : Addr} {fd : FuncData} (U : Fun K "_law_string" "_law_string" sString f fd) (T : TxtN mg) : FnOk P w K mg base CX0 1 f fd ["_law_cell", "_law_many", "_law_signs"] spString := by
  refine U.ok scString (fun vs H Q E h => ?_) (fun cdv A outer s H vs Q E hr h => ?_)
  · obtain ⟨c, m, sg, rfl, _⟩ := h
    rfl
  · obtain ⟨c, m, sg, rfl, hm0, hm1, hs0, hs1, q⟩ := h
    refine ⟨_, pss_cons (ps_set (i := 3) scString.nd rfl (Or.inl rfl) pe_str)
      (pss_cons (ps_for PassesOwn.never rfl (pi_range1 rfl T.range (pa_cons (pv 1) pa_nil)) (pg_name (i := 4) scString.nd rfl (Or.inl rfl))
        (pss_cons (ps_set (i := 3) scString.nd rfl (Or.inl rfl) (pe_op op_add_str (pv 3) (pe_ix ix_str (pv 2) (pe_op op_mod (pv 0) (pe_callB call_len_str (by rfl) T.len PySem.boot_len (pa_cons (pv 2) pa_nil))) (fun _ _ => rfl))))
        (pss_one (ps_set (i := 0) scString.nd rfl (Or.inl rfl) (pe_op op_fdiv (pv 0) (pe_callB call_len_str (by rfl) T.len PySem.boot_len (pa_cons (pv 2) pa_nil)))))))
      (pss_one (ps_ret (pv 3)))), ?_⟩
    have hline := line5000
    have hz : (txt sg).length ≤ sizeLine := by rw [txt_len]; omega
    refine ⟨_, rfl, _, rfl, by omega, by omega, for_range (lo := 0) (n := m.toNat) (IStr m sg H)
      ⟨c, [], none, by rw [show (Str.ofString "") = txt [] from sEmpty]; rfl, rfl, by simp, rfl⟩ ?_ ?_⟩
    · rintro i σ H' hi ⟨c', r, v, rfl, hr1, hr2, rfl⟩
      have hsp : (0 : Int) < ((txt sg).length : Int) := by rw [txt_len]; omega
      have m0 := Int.emod_nonneg c' (show ((txt sg).length : Int) ≠ 0 by omega)
      have m1 := Int.emod_lt_of_pos c' hsp
      obtain ⟨d, hd, hat⟩ := atI_int (l := sg) m0 (by rw [txt_len] at m1 ⊢; exact m1)
      refine ⟨_, rfl, _, rfl, _, rfl, _, rfl, _, rfl, hz, _, _, rfl, rfl, hsp, _, _, d, rfl, rfl, hz, hat, _, _, rfl, rfl, ?_, ?_⟩
      · rw [txt_len]; show _ + 1 ≤ _; omega
      rw [show (⟨#[d]⟩ : Str) = txt [d] from rfl, txt_app]
      refine ⟨_, rfl, _, rfl, _, rfl, hz, _, _, rfl, rfl, ⟨hsp, by rw [txt_len]; omega⟩, ?_⟩
      refine ⟨_, r ++ [d], _, rfl, by rw [List.length_append, hr1]; rfl, fun x hx => ?_, rfl⟩
      rcases List.mem_append.mp hx with z | z
      · exact hr2 x z
      · rw [List.mem_singleton.mp z]; exact hd
    · rintro σ H' ⟨c', r, v, rfl, hr1, hr2, rfl⟩
      exact ⟨_, rfl, q r (by omega) hr2⟩
end
/-! ### _law_spoilt -/
def sg13 : List Nat := [67, 82, 76, 69, 83, 88, 32, 10, 9, 43, 95, 51, 46]
theorem s13 : ("CRLESX \n\t+_3." : Str) = txt sg13 := by decide +kernel
theorem sg13_asc : ∀ c ∈ sg13, c < 128 := by decide
def sg5 : List Nat := [67, 82, 76, 69, 83]
theorem s5 : ("CRLES" : Str) = txt sg5 := by decide +kernel
theorem sg5_asc : ∀ c ∈ sg5, c < 128 := by decide
def spSpoilt : Sp := fun vs H Q _ => ∃ (l : List Nat) (c : Int), vs = [.str (txt l), .int c] ∧ asc l ∧ l.length ≤ 190 ∧ ∀ (r : List Nat) H', Same H H' → asc r → r.length ≤ 200 → Q (.str (txt r)) H'
section
variable {P : Program} {w : World} {K : PySem.W.Frag} {mg : Str → Option Value} {base : Heap}
theorem scSpoilt : FnScope ["_law_text", "_law_cell", "_law_sign", "_law_at_here", "_law_made"] ["_law_text", "_law_cell"] (defScope sSpoilt) := ⟨rfl, rfl, rfl, by decide +kernel, rfl, by decide +kernel, by decide +kernel⟩
theorem ok_spoilt {f fS : Addr} {fd fdS : FuncData} (U : Fun K "_law_spoilt" "_law_spoilt" sSpoilt f fd) (T : TxtN mg)
    (GS : FnOk P w K mg base CX0 1 fS fdS ["_law_cell", "_law_many", "_law_signs"] spString) (bS : Binds K fdS ["_law_cell", "_law_many", "_law_signs"] []) (mS : mg "_law_string" = some (.ref fS)) (kS : PySem.W.keepIn K (.ref fS) = true) :
    FnOk P w K mg base CX0 2 f fd ["_law_text", "_law_cell"] spSpoilt := by
  refine U.ok scSpoilt (fun vs H Q E h => ?_) (fun cdv A outer s H vs Q E hr h => ?_)
  · obtain ⟨l, c, rfl, _⟩ := h
    rfl
  · obtain ⟨l, c, rfl, ha, hl, q⟩ := h
    refine ⟨_, pss_cons (ps_set (i := 2) scSpoilt.nd rfl (Or.inl rfl) (pe_ix ix_str pe_str (pe_op op_mod (pe_op op_fdiv (pv 1) pe_int) pe_int) (fun _ _ => rfl)))
      (pss_cons (ps_set (i := 3) scSpoilt.nd rfl (Or.inl rfl) (pe_op op_mod (pe_op op_fdiv (pv 1) pe_int) (pe_op op_add (pe_callB call_len_str (by rfl) T.len PySem.boot_len (pa_cons (pv 0) pa_nil)) pe_int)))
      (pss_cons (ps_if (pt_cmpR op_eq (pe_op op_mod (pv 1) pe_int) pe_int (nomark _)) (pss_one (ps_ret (pe_call GS hr rfl mS kS bS .nil pass0 (pa_cons (pe_op op_fdiv (pv 1) pe_int) (pa_cons (pe_op op_mod (pe_op op_fdiv (pv 1) pe_int) pe_int) (pa_cons pe_str pa_nil)))))) pss_nil)
      (pss_cons (ps_if (pt_cmpR op_eq (pe_op op_mod (pv 1) pe_int) pe_int (nomark _)) (pss_one (ps_ret (pe_op op_add_str (pe_slice sl_str (pv 0) (po_some (pv 3)) po_none) (pe_slice sl_str (pv 0) po_none (po_some (pv 3)))))) pss_nil)
      (pss_cons (ps_set (i := 4) scSpoilt.nd rfl (Or.inl rfl) (pe_lst
        (pa_cons (pe_op op_add_str (pe_op op_add_str (pe_slice sl_str (pv 0) po_none (po_some (pv 3))) (pv 2)) (pe_slice sl_str (pv 0) (po_some (pv 3)) po_none))
        (pa_cons (pe_op op_add_str (pe_slice sl_str (pv 0) po_none (po_some (pv 3))) (pe_slice sl_str (pv 0) (po_some (pe_op op_add (pv 3) pe_int)) po_none))
        (pa_cons (pe_op op_add_str (pe_op op_add_str (pe_slice sl_str (pv 0) po_none (po_some (pv 3))) (pv 2)) (pe_slice sl_str (pv 0) (po_some (pe_op op_add (pv 3) pe_int)) po_none))
        (pa_cons (pe_slice sl_str (pv 0) po_none (po_some (pv 3))) pa_nil))))))
      (pss_one (ps_ret (pe_ix ix_list (pv 4) (pe_op op_mod (pv 1) pe_int) (fun _ _ => rfl)))))))), ?_⟩
    have hline := line5000
    have hz : l.length ≤ sizeLine := by omega
    have hzt : (txt l).length ≤ sizeLine := by rw [txt_len]; exact hz
    have w0 := Int.emod_nonneg c (show (6 : Int) ≠ 0 by decide)
    have w1 := Int.emod_lt_of_pos c (show (0 : Int) < 6 by decide)
    have i0 := Int.emod_nonneg (c / 6) (show (13 : Int) ≠ 0 by decide)
    have i1 := Int.emod_lt_of_pos (c / 6) (show (0 : Int) < 13 by decide)
    have j0 := Int.emod_nonneg (c / 6) (show (31 : Int) ≠ 0 by decide)
    have j1 := Int.emod_lt_of_pos (c / 6) (show (0 : Int) < 31 by decide)
    obtain ⟨d, hd, hat⟩ := atI_int (l := sg13) i0 (by show _ < (13 : Int); exact i1)
    have hda := sg13_asc d hd
    rw [show (Str.ofString "CRLESX \n\t+_3.") = txt sg13 from s13]
    refine ⟨_, rfl, _, _, rfl, rfl, ⟨by decide, by decide⟩, _, _, rfl, rfl, (show (0 : Int) < 13 by decide), _, _, d, rfl, rfl, (by rw [txt_len]; show 13 ≤ sizeLine; omega), hat, ?_⟩
    rw [show (⟨#[d]⟩ : Str) = txt [d] from rfl]
    have p1 : (0 : Int) < ((txt l).length : Int) + 1 := by omega
    have a0 := Int.emod_nonneg (c / 78) (show ((txt l).length : Int) + 1 ≠ 0 by omega)
    have a1 := Int.emod_lt_of_pos (c / 78) p1
    refine ⟨_, rfl, _, _, rfl, rfl, ⟨by decide, by decide⟩, _, rfl, _, rfl, hzt, _, _, rfl, rfl, _, _, rfl, rfl, p1, ?_⟩
    obtain ⟨a, ea⟩ := Int.eq_ofNat_of_zero_le a0
    rw [ea] at a1
    show gName 3 (V.int (c / 78 % (((txt l).length : Int) + 1))) _ _ _
    rw [ea]
    clear ea a0
    have asc_t : asc (l.take a) := fun x hx => ha x (List.mem_of_mem_take hx)
    have asc_d : ∀ b, asc (l.drop b) := fun b x hx => ha x (List.mem_of_mem_drop hx)
    have asc_1 : asc [d] := fun x hx => by rw [List.mem_singleton.mp hx]; exact hda
    have asc_a : ∀ {x y : List Nat}, asc x → asc y → asc (x ++ y) := fun {x y} h1 h2 z hz => (List.mem_append.mp hz).elim (h1 z) (h2 z)
    have lt : (l.take a).length ≤ a := by rw [List.length_take]; omega
    rw [txt_len] at a1
    have la : a ≤ l.length := by omega
    have ld : ∀ b, (l.drop b).length = l.length - b := fun b => List.length_drop ..
    refine ⟨_, rfl, _, _, rfl, rfl, (show (0 : Int) < 6 by decide), rfl, _, rfl, ?_⟩
    refine ite2 (fun c4 => ?_) (fun c4 => ?_)
    · refine ⟨_, rfl, _, _, rfl, rfl, ⟨by decide, by decide⟩, _, rfl, _, _, rfl, rfl, ⟨by decide, by decide⟩, _, _, rfl, rfl, (show (0 : Int) < 31 by decide), ?_⟩
      rw [show (Str.ofString "CRLES") = txt sg5 from s5]
      exact ⟨_, _, sg5, rfl, j0, by omega, by decide, by decide, fun r hr1 hr2 => q r H (fun _ _ z => z) (fun x hx => sg5_asc x (hr2 x hx)) (by omega)⟩
    · refine ⟨_, rfl, _, _, rfl, rfl, (show (0 : Int) < 6 by decide), rfl, _, rfl, ?_⟩
      refine ite2 (fun c5 => ?_) (fun c5 => ?_)
      · refine ⟨_, rfl, _, rfl, _, rfl, l, rfl, hz, ?_⟩
        rw [cut_from]
        refine ⟨_, rfl, _, rfl, _, rfl, l, rfl, hz, ?_⟩
        rw [cut_to]
        refine ⟨_, _, rfl, rfl, ?_, ?_⟩
        · rw [txt_len, txt_len, ld]; omega
        rw [txt_app]
        exact q _ H (fun _ _ z => z) (asc_a (asc_d a) asc_t) (by rw [List.length_append, ld]; omega)
      · have h4 : c % 6 ≠ 4 := fun e => c4 (decide_eq_true (show V.int (c % 6) = V.int 4 by rw [e]))
        have h5 : c % 6 ≠ 5 := fun e => c5 (decide_eq_true (show V.int (c % 6) = V.int 5 by rw [e]))
        have ew : c % 6 = 0 ∨ c % 6 = 1 ∨ c % 6 = 2 ∨ c % 6 = 3 := by omega
        have ca1 : cutA l (some ((a : Int) + 1)) none = l.drop (a + 1) := cut_from l (a + 1)
        refine ⟨_, rfl, _, rfl, _, rfl, l, rfl, hz, ?_⟩
        rw [cut_to]
        refine ⟨_, rfl, _, _, rfl, rfl, ?_, ?_⟩
        · rw [txt_len, txt_len]; show _ + 1 ≤ _; omega
        rw [txt_app]
        refine ⟨_, rfl, _, rfl, _, rfl, l, rfl, hz, ?_⟩
        rw [cut_from]
        refine ⟨_, _, rfl, rfl, ?_, ?_⟩
        · rw [txt_len, txt_len, List.length_append, ld]; show _ + 1 + _ ≤ _; omega
        rw [txt_app]
        refine ⟨_, rfl, _, rfl, _, rfl, l, rfl, hz, ?_⟩
        rw [cut_to]
        refine ⟨_, rfl, _, rfl, _, _, rfl, rfl, _, rfl, l, rfl, hz, ?_⟩
        rw [ca1]
        refine ⟨_, _, rfl, rfl, ?_, ?_⟩
        · rw [txt_len, txt_len, ld]; omega
        rw [txt_app]
        refine ⟨_, rfl, _, rfl, _, rfl, l, rfl, hz, ?_⟩
        rw [cut_to]
        refine ⟨_, rfl, _, _, rfl, rfl, ?_, ?_⟩
        · rw [txt_len, txt_len]; show _ + 1 ≤ _; omega
        rw [txt_app]
        refine ⟨_, rfl, _, rfl, _, _, rfl, rfl, _, rfl, l, rfl, hz, ?_⟩
        rw [ca1]
        refine ⟨_, _, rfl, rfl, ?_, ?_⟩
        · rw [txt_len, txt_len, List.length_append, ld]; show _ + 1 + _ ≤ _; omega
        rw [txt_app]
        refine ⟨_, rfl, _, rfl, _, rfl, l, rfl, hz, ?_⟩
        rw [cut_to]
        refine ⟨(by show 4 ≤ sizeLine; decide), fun t gt => ?_⟩
        have st := same_upd (o := .lst [V.str (txt (l.take a ++ [d] ++ l.drop a)), V.str (txt (l.take a ++ l.drop (a + 1))), V.str (txt (l.take a ++ [d] ++ l.drop (a + 1))), V.str (txt (l.take a))]) gt
        refine ⟨_, rfl, _, rfl, _, _, rfl, rfl, (show (0 : Int) < 6 by decide), ?_⟩
        rcases ew with e | e | e | e
        · refine ⟨t, _, c % 6, _, rfl, rfl, SqL.of upd_same, (by rw [e]; exact atI_nat (j := 0) rfl), q _ _ st (asc_a (asc_a asc_t asc_1) (asc_d a)) ?_⟩
          rw [List.length_append, List.length_append, ld]; show _ + 1 + _ ≤ _; omega
        · refine ⟨t, _, c % 6, _, rfl, rfl, SqL.of upd_same, (by rw [e]; exact atI_nat (j := 1) rfl), q _ _ st (asc_a asc_t (asc_d _)) ?_⟩
          rw [List.length_append, ld]; omega
        · refine ⟨t, _, c % 6, _, rfl, rfl, SqL.of upd_same, (by rw [e]; exact atI_nat (j := 2) rfl), q _ _ st (asc_a (asc_a asc_t asc_1) (asc_d _)) ?_⟩
          rw [List.length_append, List.length_append, ld]; show _ + 1 + _ ≤ _; omega
        · exact ⟨t, _, c % 6, _, rfl, rfl, SqL.of upd_same, (by rw [e]; exact atI_nat (j := 3) rfl), q _ _ st asc_t (by omega)⟩
end
end K51
end
section
set_option Elab.async false
set_option linter.all false
set_option maxRecDepth 100000
set_option maxHeartbeats 4000000
namespace K51
open PySem L2 K52
/-! ### _law_grown_signs -/
def wt (ns : List Nat) : Nat := (ns.map (· - 2)).sum
theorem wt_cons (n : Nat) (ns : List Nat) : wt (n :: ns) = (n - 2) + wt ns := by simp [wt]
/-- the signs so far, the lengths of the open loops, the last one first -/
def GrSt (i : Nat) (ns tx : List Nat) : Prop := (i = 0 ∧ ns = [2] ∧ tx = []) ∨ ∃ t, tx = 67 :: t ∧ Grown ns t ∧ t.length + 1 ≤ i ∧ wt ns ≤ i
theorem gr_pos {i : Nat} {n : Nat} {ns tx : List Nat} (h : GrSt i (n :: ns) tx) : 2 ≤ n ∧ n ≤ i + 2 := by
  rcases h with ⟨rfl, h, _⟩ | ⟨t, _, g, _, hw⟩
  · cases h; omega
  · have := g.1 n (by simp)
    rw [wt_cons] at hw
    omega
theorem gr_C {i n : Nat} {ns tx : List Nat} (h : GrSt i (n :: ns) tx) : GrSt (i + 1) ((n + 1) :: ns) (tx ++ [67]) := by
  rcases h with ⟨rfl, h, rfl⟩ | ⟨t, rfl, g, hl, hw⟩
  · cases h
    exact .inr ⟨[], rfl, grown_first, by simp, by simp [wt]⟩
  · have := g.1 n (by simp)
    refine .inr ⟨t ++ [67], rfl, grown_C g, by rw [List.length_append, List.length_singleton]; omega, ?_⟩
    rw [wt_cons] at hw ⊢
    omega
theorem gr_side {i n c : Nat} {ns tx : List Nat} (h : GrSt i (n :: ns) tx) (hn : 3 < n) (hc : c = 82 ∨ c = 76) : GrSt (i + 1) ((n - 1) :: ns) (tx ++ [c]) := by
  rcases h with ⟨rfl, h, rfl⟩ | ⟨t, rfl, g, hl, hw⟩
  · cases h; omega
  · refine .inr ⟨t ++ [c], rfl, grown_side g hn hc, by rw [List.length_append, List.length_singleton]; omega, ?_⟩
    rw [wt_cons] at hw ⊢
    omega
theorem gr_E {i : Nat} {ns tx : List Nat} (h : GrSt i (3 :: ns) tx) : GrSt (i + 1) ns (tx ++ [69]) := by
  rcases h with ⟨rfl, h, rfl⟩ | ⟨t, rfl, g, hl, hw⟩
  · cases h
  · refine .inr ⟨t ++ [69], rfl, grown_E g, by rw [List.length_append, List.length_singleton]; omega, ?_⟩
    rw [wt_cons] at hw
    omega
theorem gr_S {i n j : Nat} {ns tx : List Nat} (h : GrSt i (n :: ns) tx) (hj : 3 ≤ j) (hn : j + 2 ≤ n) : GrSt (i + 1) (j :: (n - j + 1) :: ns) (tx ++ [83]) := by
  rcases h with ⟨rfl, h, rfl⟩ | ⟨t, rfl, g, hl, hw⟩
  · cases h; omega
  · refine .inr ⟨t ++ [83], rfl, grown_S g hj hn, by rw [List.length_append, List.length_singleton]; omega, ?_⟩
    rw [wt_cons] at hw
    rw [wt_cons, wt_cons]
    omega
theorem close_len {n : Nat} (h : 3 ≤ n) : (close n).length = n - 2 := by simp [close]; omega
theorem closes_len : ∀ {ns : List Nat}, (∀ n ∈ ns, 3 ≤ n) → (ns.map close).flatten.length = wt ns
  | [], _ => rfl
  | n :: ns, h => by
    rw [List.map_cons, List.flatten_cons, List.length_append, closes_len fun m hm => h m (by simp [hm]), close_len (h n (by simp)), wt_cons]
theorem close_asc (n : Nat) : asc (close n) := fun c hc => by
  unfold close at hc
  rcases List.mem_append.mp hc with z | z
  · rw [List.eq_of_mem_replicate z]; decide
  · rw [List.mem_singleton.mp z]; decide
def spGrown : Sp := fun vs H Q _ => ∃ (p : Addr) (q : Int × Int), vs = [.ref p] ∧ H p = some (.lst (potV q)) ∧ PotOk q ∧
  ∀ (l : List Nat) (H' : Hp), SameBut p H H' → asc l → l.length ≤ 190 → (∃ ls, placedL l = some ls) → Q (.str (txt l)) H'
abbrev IGr (p : Addr) (H : Hp) : Nat → St → Hp → Prop := fun i σ H' => ∃ (pq : Int × Int) (r : Addr) (ns tx : List Nat) (v3 v4 v5 v6 : Option V), σ = [some (.ref p), some (.ref r), some (.str (txt tx)), v3, v4, v5, v6] ∧ PotOk pq ∧ H' p = some (.lst (potV pq)) ∧ H' r = some (.lst (stV ns)) ∧ H r = none ∧
  SameBut p H H' ∧ GrSt i ns tx ∧ asc tx ∧ tx.length ≤ i ∧ ns.length ≤ i + 1
abbrev IGr2 (p r : Addr) (tx ns : List Nat) (Hb : Hp) : Nat → St → Hp → Prop := fun i σ H' => ∃ (v3 v4 v5 v6 : Option V), σ = [some (.ref p), some (.ref r), some (.str (txt (tx ++ ((ns.take i).map close).flatten))), v3, v4, v5, v6] ∧ H' = Hb
theorem eqv_none (ns : List Nat) : PyData.eqv (.list (stD ns)) (.list []) = decide (ns = []) := by
  have := eqv_iff (.list (stD ns)) (.list []) (noBl_ints ns.reverse) rfl
  rw [Bool.eq_iff_iff, this, decide_eq_true_eq]
  constructor
  · intro h
    injection h with h
    cases ns with
    | nil => rfl
    | cons k r => have := congrArg List.length h; simp [stD] at this
  · rintro rfl; rfl
theorem rep_flat (c : Nat) : ∀ m : Nat, (List.replicate m [c]).flatten = List.replicate m c
  | 0 => rfl
  | m + 1 => by rw [List.replicate_succ, List.flatten_cons, rep_flat c m, List.replicate_succ]; rfl
theorem sRL : ("RL" : Str) = txt [82, 76] := by decide +kernel
theorem sCE : ("CE" : Str) = txt [67, 69] := by decide +kernel
theorem placed_CE : ∃ ls, placedL [67, 69] = some ls := placed_first fits_E
theorem inV_23 (i : Int) : inV (.int i) [.int 2, .int 3] = decide (i = 2 ∨ i = 3) := by
  unfold inV
  simp only [List.any_cons, List.any_nil, eqV, Bool.or_false]
  rw [Bool.eq_iff_iff]
  simp only [Bool.or_eq_true, beq_iff_eq, decide_eq_true_eq]
  omega
section
variable {P : Program} {w : World} {K : PySem.W.Frag} {mg : Str → Option Value} {base : Heap}
theorem scGrown : FnScope ["_law_pot_here", "_law_lengths", "_law_text", "_law_k", "_law_n", "_law_way", "_law_j"] ["_law_pot_here"] (defScope sGrown) := ⟨rfl, rfl, rfl, by decide +kernel, rfl, by decide +kernel, by decide +kernel⟩
theorem ok_grown {f fD : Addr} {fd fdD : FuncData} (U : Fun K "_law_grown_signs" "_law_grown_signs" sGrown f fd) (T : TxtN mg)
    (GD : FnOk P w K mg base CX0 1 fD fdD ["_law_pot_here", "_law_base"] spDigit) (bD : Binds K fdD ["_law_pot_here", "_law_base"] []) (mD : mg "_law_digit" = some (.ref fD)) (kD : PySem.W.keepIn K (.ref fD) = true) :
    FnOk P w K mg base CX0 2 f fd ["_law_pot_here"] spGrown := by
  refine U.ok scGrown (fun vs H Q E h => ?_) (fun cdv A outer s H vs Q E hr h => ?_)
  · obtain ⟨p, q, rfl, _⟩ := h
    rfl
  · obtain ⟨p, pq, rfl, hp, hq, q⟩ := h
    have hline := line5000
    obtain ⟨tt, htail, fin⟩ : ∃ tt, PSs (cxOf CX0 P w K mg base ["_law_pot_here", "_law_lengths", "_law_text", "_law_k", "_law_n", "_law_way", "_law_j"] "_law_grown_signs" (defScope sGrown) f cdv A outer s H E).nox ((defBody sGrown).drop 3) tt ∧
        ∀ i σ H', i ≤ 90 → IGr p H i σ H' → tt { nx := fun _ H' => Q .non H', rt := Q } σ H' := by
      refine ⟨_, (pss_cons (ps_if (pt_cmpR op_eq (pv 2) pe_str (nomark _)) (pss_one (ps_ret pe_str)) pss_nil)
      (pss_cons (ps_for PassesOwn.never rfl (pi_rev rfl T.rev (pa_cons (pv 1) pa_nil)) (pg_name (i := 4) scGrown.nd rfl (Or.inl rfl))
        (pss_one (ps_set (i := 2) scGrown.nd rfl (Or.inl rfl) (pe_op op_add_str (pe_op op_add_str (pv 2) (pe_op op_repS pe_str (pe_op op_sub (pv 4) pe_int))) pe_str))))
      (pss_one (ps_ret (pv 2))))), ?_⟩
      rw [show (Str.ofString "") = txt [] from sEmpty, show (Str.ofString "E") = txt [69] from sE, show (Str.ofString "R") = txt [82] from sR, show (Str.ofString "CE") = txt [67, 69] from sCE]
      rintro i σ H' hi ⟨pq', r, ns, tx, v3, v4, v5, v6, rfl, ok', hp', hr', hrn, sb, gs, ha, htl, hnl⟩
      refine ⟨_, rfl, rfl, _, rfl, ?_⟩
      rw [dec_txt]
      rcases gs with ⟨_, _, rfl⟩ | ⟨t, rfl, g, hl, hw⟩
      · refine iteT ?_
        exact q [67, 69] H' sb (fun x hx => by simp at hx; omega) (by simp) placed_CE
      · refine iteF ?_
        have hcl := closes_len g.1
        refine ⟨_, rfl, r, _, rfl, SqL.of hr', for_rev (K := K) (a := r) (xs := stV ns) (IGr2 p r (67 :: t) ns H') ⟨v3, v4, v5, v6, by simp, rfl⟩ (fun j σ H2 _ hj => ?_) ?_ ?_⟩
        · obtain ⟨_, _, _, _, _, e⟩ := hj
          rw [e]; exact SqL.of hr'
        · rintro j x σ H2 hj hx ⟨v3, v4, v5, v6, rfl, rfl⟩
          rw [stV_len] at hj hx
          have hx' : x = V.int ((ns[j] : Nat) : Int) := by
            unfold stV at hx
            rw [List.getElem?_map, List.getElem?_reverse (by omega), show ns.length - 1 - (ns.length - 1 - j) = j by omega, List.getElem?_eq_getElem hj] at hx
            exact (Option.some.inj hx).symm
          subst hx'
          have hn3 := g.1 _ (List.getElem_mem hj)
          generalize en : ns[j] = n at hn3
          have etk : (ns.take (j + 1)).map close = (ns.take j).map close ++ [close n] := by
            rw [List.take_add_one, List.getElem?_eq_getElem hj, en]; simp
          have hlen : ((67 :: t) ++ ((ns.take j).map close).flatten).length ≤ 181 := by
            have : ((ns.take j).map close).flatten.length ≤ wt ns := by
              rw [← hcl]
              conv => rhs; rw [← List.take_append_drop j ns, List.map_append, List.flatten_append, List.length_append]
              omega
            rw [List.length_append, List.length_cons]; omega
          have hnb : n ≤ 92 := by
            have : n - 2 ≤ wt ns := by
              rw [← hcl]
              have e1 : close n ∈ ns.map close := List.mem_map.mpr ⟨n, by rw [← en]; exact List.getElem_mem hj, rfl⟩
              have e2 : (close n).length ≤ (ns.map close).flatten.length := (List.sublist_flatten_of_mem e1).length_le
              rw [close_len hn3] at e2
              exact e2
            omega
          have ek : ((n : Int) - 3).toNat = n - 3 := by omega
          have ef : (List.replicate ((n : Int) - 3).toNat [82]).flatten = List.replicate (n - 3) 82 := by
            rw [ek, rep_flat]
          refine ⟨_, rfl, _, rfl, _, _, rfl, rfl, [82], _, rfl, rfl, by omega, by omega, (by rw [ek]; simp; omega), ?_⟩
          rw [ef]
          refine ⟨_, _, rfl, rfl, ?_, ?_⟩
          · rw [txt_len, txt_len, List.length_replicate]; omega
          rw [txt_app]
          refine ⟨_, _, rfl, rfl, ?_, ?_⟩
          · rw [txt_len, txt_len, List.length_append, List.length_replicate]; show _ + 1 ≤ _; omega
          rw [txt_app]
          have ee : 67 :: t ++ ((ns.take j).map close).flatten ++ List.replicate (n - 3) 82 ++ [69] = 67 :: t ++ ((ns.take (j + 1)).map close).flatten := by
            rw [etk, List.flatten_append]
            simp [close]
          rw [ee]
          exact ⟨v3, some (.int (n : Int)), v5, v6, rfl, rfl⟩
        · rintro σ H2 ⟨v3, v4, v5, v6, rfl, rfl⟩
          rw [stV_len, List.take_length]
          refine ⟨_, rfl, q _ _ sb ?_ ?_ ?_⟩
          · intro x hx
            rcases List.mem_append.mp hx with z | z
            · exact ha x z
            · obtain ⟨l', h1, h2⟩ := List.mem_flatten.mp z
              obtain ⟨n, _, rfl⟩ := List.mem_map.mp h1
              exact close_asc n x h2
          · rw [List.length_append, hcl, List.length_cons]; omega
          · exact grown_placed g
    refine ⟨_, pss_cons (ps_set (i := 1) scGrown.nd rfl (Or.inl rfl) (pe_lst (pa_cons pe_int pa_nil)))
      (pss_cons (ps_set (i := 2) scGrown.nd rfl (Or.inl rfl) pe_str)
      (pss_cons (ps_for PassesOwn.never rfl (pi_range1 rfl T.range (pa_cons (pe_call GD hr rfl mD kD bD .nil pass0 (pa_cons (pv 0) (pa_cons (pe_ix ix_list (pe_lst (pa_cons pe_int (pa_cons pe_int pa_nil))) (pe_callTy call_int1 (by rfl) T.int PyProof.Rows.boot_int (pa_cons (pe_cmpR op_eq (pe_call GD hr rfl mD kD bD .nil pass0 (pa_cons (pv 0) (pa_cons pe_int pa_nil))) pe_int (nomark _)) pa_nil)) (fun _ _ => rfl)) pa_nil))) pa_nil)) (pg_name (i := 3) scGrown.nd rfl (Or.inl rfl))
        (pss_cons (ps_if (pt_cmpR (op_eqD hr.units) (pv 1) (pe_lst pa_nil) (nomark _)) (pss_one ps_break) pss_nil)
        (pss_cons (ps_set (i := 4) scGrown.nd rfl (Or.inl rfl) (pe_bm0 PySem.F.plainAttrs_list PySem.F.slot_list_pop PySem.F.type_list_pop mt_pop (pv 1)))
        (pss_cons (ps_set (i := 5) scGrown.nd rfl (Or.inl rfl) (pe_call GD hr rfl mD kD bD .nil pass0 (pa_cons (pv 0) (pa_cons pe_int pa_nil))))
        (pss_one (ps_if (PW.pt (pw_and (pt_cmpR op_eq (pv 5) pe_int (nomark _)) (pw_and1 (pt_cmpR op_gt (pv 4) pe_int (nomark _)))))
          (pss_cons (ps_set (i := 6) scGrown.nd rfl (Or.inl rfl) (pe_op op_add pe_int (pe_call GD hr rfl mD kD bD .nil pass0 (pa_cons (pv 0) (pa_cons (pe_op op_sub (pv 4) pe_int) pa_nil)))))
          (pss_cons (ps_set (i := 2) scGrown.nd rfl (Or.inl rfl) (pe_op op_add_str (pv 2) pe_str))
          (pss_one (ps_set (i := 1) scGrown.nd rfl (Or.inl rfl) (pe_op op_cat (pv 1) (pe_lst (pa_cons (pe_op op_add (pe_op op_sub (pv 4) (pv 6)) pe_int) (pa_cons (pv 6) pa_nil))))))))
          (pss_one (ps_if (PW.pt (pw_and (pt_cmpR op_eq (pv 5) pe_int (nomark _)) (pw_and1 (pt_cmpR op_eq (pv 4) pe_int (nomark _)))))
            (pss_one (ps_set (i := 2) scGrown.nd rfl (Or.inl rfl) (pe_op op_add_str (pv 2) pe_str)))
            (pss_one (ps_if (PW.pt (pw_and (pt_cmpR op_in_seq (pv 5) (pe_tup (pa_cons pe_int (pa_cons pe_int pa_nil))) rfl) (pw_and1 (pt_cmpR op_gt (pv 4) pe_int (nomark _)))))
              (pss_cons (ps_set (i := 2) scGrown.nd rfl (Or.inl rfl) (pe_op op_add_str (pv 2) (pe_ix ix_str pe_str (pe_op op_sub (pv 5) pe_int) (fun _ _ => rfl))))
              (pss_one (ps_expr (pe_bm PySem.F.plainAttrs_list PySem.F.slot_list_append PySem.F.type_list_append mt_append (pv 1) (pa_cons (pe_op op_sub (pv 4) pe_int) pa_nil)))))
              (pss_cons (ps_set (i := 2) scGrown.nd rfl (Or.inl rfl) (pe_op op_add_str (pv 2) pe_str))
              (pss_one (ps_expr (pe_bm PySem.F.plainAttrs_list PySem.F.slot_list_append PySem.F.type_list_append mt_append (pv 1) (pa_cons (pe_op op_add (pv 4) pe_int) pa_nil)))))))))))))))
      htail)), ?_⟩
    rw [show (Str.ofString "") = txt [] from sEmpty, show (Str.ofString "E") = txt [69] from sE, show (Str.ofString "S") = txt [83] from s83, show (Str.ofString "C") = txt [67] from sC, show (Str.ofString "RL") = txt [82, 76] from sRL]
    refine ⟨(by show 1 ≤ sizeLine; decide), fun r0 g0 => ?_⟩
    have np0 : p ≠ r0 := ne_of_none hp g0
    have s0 := same_upd (o := .lst [V.int 2]) g0
    refine ⟨_, rfl, (by show 2 ≤ sizeLine; decide), fun w0 gw => ?_⟩
    have sw := same_upd (o := .lst [V.int 25, V.int 91]) gw
    have npw : p ≠ w0 := ne_of_none (s0 p _ hp) gw
    have nrw : r0 ≠ w0 := fun z => by rw [← z, upd_same] at gw; cases gw
    have hp1 : upd (upd H r0 (.lst [V.int 2])) w0 (.lst [V.int 25, V.int 91]) p = some (.lst (potV pq)) := sw p _ (s0 p _ hp)
    refine ⟨_, rfl, p, pq, 16, rfl, hp1, hq, by decide, by decide +kernel, rfl, ?_⟩
    obtain ⟨B, hB, hat⟩ : ∃ B : Int, (B = 25 ∨ B = 91) ∧ atI [V.int 25, V.int 91] (if decide (V.int (digO pq 16) = V.int 15) = true then 1 else 0) = some (V.int B) := by
      cases decide (V.int (digO pq 16) = V.int 15)
      · exact ⟨25, .inl rfl, rfl⟩
      · exact ⟨91, .inr rfl, rfl⟩
    have hwl : upd (upd (upd H r0 (.lst [V.int 2])) w0 (.lst [V.int 25, V.int 91])) p (.lst (potV (nxt pq 16))) w0 = some (.lst [V.int 25, V.int 91]) := by rw [upd_ne npw.symm]; exact upd_same
    have hBp : 0 < B := by omega
    refine .inr ⟨_, rfl, w0, _, _, _, rfl, rfl, SqL.of hwl, hat, p, nxt pq 16, B, rfl, upd_same, nxt_ok hq, hBp, (by rcases hB with e | e <;> rw [e] <;> decide +kernel), ?_⟩
    have hd := digO_pos (q := nxt pq 16) (b := B) hBp
    refine ⟨_, rfl, by omega, by omega, for_range (lo := 0) (n := (digO (nxt pq 16) B).toNat) (IGr p H)
      ⟨nxt (nxt pq 16) B, r0, [2], [], none, none, none, none, rfl, nxt_ok (nxt_ok hq), upd_same, (by rw [upd_ne np0.symm, upd_ne np0.symm, upd_ne nrw]; exact upd_same), g0, (fun b o hb e => by rw [upd_ne hb, upd_ne hb, upd_ne (ne_of_none (s0 b o e) gw), upd_ne (ne_of_none e g0)]; exact e), .inl ⟨rfl, rfl, rfl⟩, (fun x hx => by cases hx), Nat.le_refl _, Nat.le_refl _⟩ ?_ ?_⟩
    · rintro i σ H' hi ⟨q1, r, ns, tx, v3, v4, v5, v6, rfl, ok1, hp', hr', hrn, sb, gs, ha, htl, hnl⟩
      have hi90 : i < 90 := by omega
      have npr : p ≠ r := ne_of_none hp hrn
      have hdn := depth_ints ns.reverse
      refine ⟨_, rfl, (by show 0 ≤ sizeLine; decide), fun e0 ge => ?_⟩
      have se := same_upd (o := .lst []) ge
      refine ⟨.list (stD ns), .list [], .lst (SqL.of (se r _ hr')) (dts_ints ns.reverse), .lst (SqL.of upd_same) .nil, (by simp only [PyData.depth, stD]; omega), _, rfl, ?_⟩
      rw [if_neg (by decide : ¬ (false = true)), eqv_none]
      have sbe : SameBut p H (upd H' e0 (.lst [])) := fun b o hb e => se b o (sb b o hb e)
      have hpe := se p _ hp'
      have hre := se r _ hr'
      generalize upd H' e0 (.lst []) = H1 at se hpe hre sbe ⊢
      cases ns with
      | nil =>
        rw [decide_eq_true rfl]
        refine iteT ?_
        exact fin i _ H1 (by omega) ⟨q1, r, [], tx, _, v4, v5, v6, rfl, ok1, hpe, hre, hrn, sbe, gs, ha, htl, hnl⟩
      | cons n ns =>
        rw [decide_eq_false (by simp)]
        refine iteF ?_
        have hb := gr_pos gs
        rw [List.length_cons] at hnl
        refine ⟨_, rfl, .inl ⟨rfl, _, SqL.of hre⟩, r, _, _, rfl, rfl, hre, stV_last n ns, ?_⟩
        rw [stV_drop]
        have hpf : upd H1 r (.lst (stV ns)) p = some (.lst (potV q1)) := by rw [upd_ne npr]; exact hpe
        refine ⟨_, rfl, p, q1, 6, rfl, hpf, ok1, by decide, by decide +kernel, ?_⟩
        have hw6 := digO_pos (q := q1) (b := 6) (by decide)
        have n6 := nxt_ok (b := 6) ok1
        have hp2 := upd_same (H := upd H1 r (.lst (stV ns))) (a := p) (o := .lst (potV (nxt q1 6)))
        have hr2 : upd (upd H1 r (.lst (stV ns))) p (.lst (potV (nxt q1 6))) r = some (.lst (stV ns)) := by rw [upd_ne npr.symm]; exact upd_same
        have sb2 : SameBut p H (upd (upd H1 r (.lst (stV ns))) p (.lst (potV (nxt q1 6)))) := fun b o hb e => by rw [upd_ne hb, upd_ne (ne_of_none e hrn)]; exact sbe b o hb e
        generalize upd (upd H1 r (.lst (stV ns))) p (.lst (potV (nxt q1 6))) = H2 at hp2 hr2 sb2 ⊢
        generalize digO q1 6 = wy at hw6 ⊢
        have nextI : ∀ (H3 : Hp) (q3 : Int × Int) (r3 : Addr) (ns3 tx3 : List Nat) (w4 w5 w6 : Option V), PotOk q3 → H3 p = some (.lst (potV q3)) → H3 r3 = some (.lst (stV ns3)) → H r3 = none → SameBut p H H3 → GrSt (i + 1) ns3 tx3 → asc tx3 → tx3.length ≤ i + 1 → ns3.length ≤ i + 1 + 1 →
            IGr p H (i + 1) [some (.ref p), some (.ref r3), some (.str (txt tx3)), some (.int (0 + (i : Int))), w4, w5, w6] H3 := fun H3 q3 r3 ns3 tx3 w4 w5 w6 a1 a2 a3 a4 a5 a6 a7 a8 a9 => ⟨q3, r3, ns3, tx3, _, w4, w5, w6, rfl, a1, a2, a3, a4, a5, a6, a7, a8, a9⟩
        have asc1' : ∀ {c : Nat}, c < 128 → asc (tx ++ [c]) := fun hc x hx => by
          rcases List.mem_append.mp hx with z | z
          · exact ha x z
          · rw [List.mem_singleton.mp z]; exact hc
        have cases6 : wy = 5 ∨ wy = 4 ∨ (wy = 2 ∨ wy = 3) ∨ wy = 0 ∨ wy = 1 := by omega
        refine ⟨_, rfl, rfl, _, rfl, ?_⟩
        rw [decI]
        rcases cases6 with h | h | h | h
        · rw [decide_eq_true h]
          refine iteT ?_
          refine ⟨_, rfl, _, _, rfl, rfl, _, rfl, ?_⟩
          by_cases hn4 : 4 < n
          · rw [decide_eq_true (by omega : (4 : Int) < (n : Int))]
            refine iteT ?_
            have hj := digO_pos (q := nxt q1 6) (b := (n : Int) - 4) (by omega)
            refine ⟨_, rfl, _, rfl, _, _, rfl, rfl, p, nxt q1 6, (n : Int) - 4, rfl, hp2, n6, by omega, log_small (by omega) (by omega), _, _, rfl, rfl, ?_⟩
            obtain ⟨j, ej⟩ := Int.eq_ofNat_of_zero_le hj.1
            rw [ej] at hj ⊢
            refine ⟨_, rfl, _, _, rfl, rfl, (by rw [txt_len, txt_len]; show _ + 1 ≤ _; omega), ?_⟩
            rw [txt_app]
            refine ⟨_, rfl, _, rfl, _, rfl, _, _, rfl, rfl, _, _, rfl, rfl, _, rfl, (by show 2 ≤ sizeLine; decide), fun t4 g4 => ?_⟩
            have hp4 := upd_same (H := H2) (a := p) (o := .lst (potV (nxt (nxt q1 6) ((n : Int) - 4))))
            have hr4 : upd H2 p (.lst (potV (nxt (nxt q1 6) ((n : Int) - 4)))) r = some (.lst (stV ns)) := by rw [upd_ne npr.symm]; exact hr2
            have s4 := same_upd (o := .lst [V.int ((n : Int) - (3 + (j : Int)) + 1), V.int (3 + (j : Int))]) g4
            refine ⟨r, t4, _, _, rfl, rfl, s4 r _ hr4, upd_same, (by rw [stV_len]; show _ + 2 ≤ _; omega), fun p5 g5 => ?_⟩
            have s5 := same_upd (o := .lst (stV ns ++ [V.int ((n : Int) - (3 + (j : Int)) + 1), V.int (3 + (j : Int))])) g5
            have el : stV ns ++ [V.int ((n : Int) - (3 + (j : Int)) + 1), V.int (3 + (j : Int))] = stV ((3 + j) :: (n - (3 + j) + 1) :: ns) := by
              rw [stV_cons, stV_cons, List.append_assoc, show ((n - (3 + j) + 1 : Nat) : Int) = (n : Int) - (3 + (j : Int)) + 1 by omega, show ((3 + j : Nat) : Int) = 3 + (j : Int) by omega]
              rfl
            have sb5 : SameBut p H (upd (upd (upd H2 p (.lst (potV (nxt (nxt q1 6) ((n : Int) - 4))))) t4 (.lst [V.int ((n : Int) - (3 + (j : Int)) + 1), V.int (3 + (j : Int))])) p5 (.lst (stV ns ++ [V.int ((n : Int) - (3 + (j : Int)) + 1), V.int (3 + (j : Int))]))) := fun b o hb e => s5 b o (s4 b o (by rw [upd_ne hb]; exact sb2 b o hb e))
            refine nextI _ _ p5 ((3 + j) :: (n - (3 + j) + 1) :: ns) _ _ _ _ (nxt_ok n6) (s5 p _ (s4 p _ hp4)) (by rw [← el]; exact upd_same) ?_ sb5 (gr_S gs (by omega) (by omega)) (asc1' (by decide)) (by rw [List.length_append, List.length_singleton]; omega) (by simp only [List.length_cons]; omega)
            cases e5 : H p5 with
            | none => rfl
            | some o =>
              have hne : p5 ≠ p := fun z => by rw [z, s4 p _ hp4] at g5; cases g5
              rw [s4 p5 o (by rw [upd_ne hne]; exact sb2 p5 o hne e5)] at g5
              cases g5
          · rw [decide_eq_false (by omega : ¬ ((4 : Int) < (n : Int)))]
            refine iteF ?_
            refine ⟨_, rfl, rfl, _, rfl, ?_⟩
            rw [decI, decide_eq_false (by omega : ¬ wy = 4)]
            refine iteF (iteF ?_)
            refine ⟨_, rfl, (by show 2 ≤ sizeLine; decide), fun t3 g3 => ⟨t3, _, rfl, .inr (SqT.of upd_same), rfl, rfl, _, rfl, ?_⟩⟩
            rw [if_neg (by decide : ¬ (false = true)), inV_23]
            have s3 := same_upd (o := .tup [V.int 2, V.int 3]) g3
            have hp3 := s3 p _ hp2
            have hr3 := s3 r _ hr2
            have sb3 : SameBut p H (upd H2 t3 (.tup [V.int 2, V.int 3])) := fun b o hb e => s3 b o (sb2 b o hb e)
            generalize upd H2 t3 (.tup [V.int 2, V.int 3]) = H3 at s3 hp3 hr3 sb3 ⊢
            rw [decide_eq_false (by omega : ¬ (wy = 2 ∨ wy = 3))]
            refine iteF (iteF ?_)
            refine ⟨_, rfl, _, _, rfl, rfl, (by rw [txt_len, txt_len]; show _ + 1 ≤ _; omega), ?_⟩
            rw [txt_app]
            refine ⟨_, rfl, .inl ⟨rfl, _, SqL.of hr3⟩, _, rfl, _, _, rfl, rfl, r, _, _, rfl, rfl, hr3, (by rw [stV_len]; omega), ?_⟩
            rw [show stV ns ++ [V.int ((n : Int) + 1)] = stV ((n + 1) :: ns) from (stV_cons (n + 1) ns).symm]
            exact nextI _ _ r _ _ _ _ _ n6 (by rw [upd_ne npr]; exact hp3) upd_same hrn (fun b o hb e => by rw [upd_ne (ne_of_none e hrn)]; exact sb3 b o hb e) (gr_C gs) (asc1' (by decide)) (by rw [List.length_append, List.length_singleton]; omega) (by rw [List.length_cons]; omega)
        · rw [decide_eq_false (by omega : ¬ wy = 5)]
          refine iteF (iteF ?_)
          refine ⟨_, rfl, rfl, _, rfl, ?_⟩
          rw [decI, decide_eq_true h]
          refine iteT ?_
          refine ⟨_, rfl, rfl, _, rfl, ?_⟩
          rw [decI]
          by_cases hn3 : n = 3
          · rw [decide_eq_true (by omega : (n : Int) = 3)]
            refine iteT ?_
            subst hn3
            refine ⟨_, rfl, _, _, rfl, rfl, (by rw [txt_len, txt_len]; show _ + 1 ≤ _; omega), ?_⟩
            rw [txt_app]
            exact nextI _ _ r _ _ _ _ _ n6 hp2 hr2 hrn sb2 (gr_E gs) (asc1' (by decide)) (by rw [List.length_append, List.length_singleton]; omega) (by omega)
          · rw [decide_eq_false (by omega : ¬ ((n : Int) = 3))]
            refine iteF ?_
            refine ⟨_, rfl, (by show 2 ≤ sizeLine; decide), fun t3 g3 => ⟨t3, _, rfl, .inr (SqT.of upd_same), rfl, rfl, _, rfl, ?_⟩⟩
            rw [if_neg (by decide : ¬ (false = true)), inV_23]
            have s3 := same_upd (o := .tup [V.int 2, V.int 3]) g3
            have hp3 := s3 p _ hp2
            have hr3 := s3 r _ hr2
            have sb3 : SameBut p H (upd H2 t3 (.tup [V.int 2, V.int 3])) := fun b o hb e => s3 b o (sb2 b o hb e)
            generalize upd H2 t3 (.tup [V.int 2, V.int 3]) = H3 at s3 hp3 hr3 sb3 ⊢
            rw [decide_eq_false (by omega : ¬ (wy = 2 ∨ wy = 3))]
            refine iteF (iteF ?_)
            refine ⟨_, rfl, _, _, rfl, rfl, (by rw [txt_len, txt_len]; show _ + 1 ≤ _; omega), ?_⟩
            rw [txt_app]
            refine ⟨_, rfl, .inl ⟨rfl, _, SqL.of hr3⟩, _, rfl, _, _, rfl, rfl, r, _, _, rfl, rfl, hr3, (by rw [stV_len]; omega), ?_⟩
            rw [show stV ns ++ [V.int ((n : Int) + 1)] = stV ((n + 1) :: ns) from (stV_cons (n + 1) ns).symm]
            exact nextI _ _ r _ _ _ _ _ n6 (by rw [upd_ne npr]; exact hp3) upd_same hrn (fun b o hb e => by rw [upd_ne (ne_of_none e hrn)]; exact sb3 b o hb e) (gr_C gs) (asc1' (by decide)) (by rw [List.length_append, List.length_singleton]; omega) (by rw [List.length_cons]; omega)
        · rw [decide_eq_false (by omega : ¬ wy = 5)]
          refine iteF (iteF ?_)
          refine ⟨_, rfl, rfl, _, rfl, ?_⟩
          rw [decI, decide_eq_false (by omega : ¬ wy = 4)]
          refine iteF (iteF ?_)
          refine ⟨_, rfl, (by show 2 ≤ sizeLine; decide), fun t3 g3 => ⟨t3, _, rfl, .inr (SqT.of upd_same), rfl, rfl, _, rfl, ?_⟩⟩
          rw [if_neg (by decide : ¬ (false = true)), inV_23]
          have s3 := same_upd (o := .tup [V.int 2, V.int 3]) g3
          have hp3 := s3 p _ hp2
          have hr3 := s3 r _ hr2
          have sb3 : SameBut p H (upd H2 t3 (.tup [V.int 2, V.int 3])) := fun b o hb e => s3 b o (sb2 b o hb e)
          generalize upd H2 t3 (.tup [V.int 2, V.int 3]) = H3 at s3 hp3 hr3 sb3 ⊢
          rw [decide_eq_true h]
          refine iteT ?_
          refine ⟨_, rfl, _, _, rfl, rfl, _, rfl, ?_⟩
          by_cases hn3 : 3 < n
          · rw [decide_eq_true (by omega : (3 : Int) < (n : Int))]
            refine iteT ?_
            obtain ⟨c, hc, hat2⟩ : ∃ c, (c = 82 ∨ c = 76) ∧ atI (txt [82, 76]).cps.toList (wy - 2) = some c := by
              rcases h with h | h
              · exact ⟨82, .inl rfl, by rw [h]; exact atI_txt (l := [82, 76]) (i := 0) rfl⟩
              · exact ⟨76, .inr rfl, by rw [h]; exact atI_txt (l := [82, 76]) (i := 1) rfl⟩
            refine ⟨_, rfl, _, rfl, _, _, rfl, rfl, _, _, c, rfl, rfl, (by rw [txt_len]; show 2 ≤ sizeLine; omega), hat2, _, _, rfl, rfl, (by rw [txt_len]; show _ + 1 ≤ _; omega), ?_⟩
            rw [show (⟨#[c]⟩ : Str) = txt [c] from rfl, txt_app]
            refine ⟨_, rfl, .inl ⟨rfl, _, SqL.of hr3⟩, _, rfl, _, _, rfl, rfl, r, _, _, rfl, rfl, hr3, (by rw [stV_len]; omega), ?_⟩
            have el : stV ns ++ [V.int ((n : Int) - 1)] = stV ((n - 1) :: ns) := by rw [stV_cons]; congr 3; omega
            rw [el]
            exact nextI _ _ r _ _ _ _ _ n6 (by rw [upd_ne npr]; exact hp3) upd_same hrn (fun b o hb e => by rw [upd_ne (ne_of_none e hrn)]; exact sb3 b o hb e) (gr_side gs hn3 hc) (asc1' (by omega)) (by rw [List.length_append, List.length_singleton]; omega) (by rw [List.length_cons]; omega)
          · rw [decide_eq_false (by omega : ¬ ((3 : Int) < (n : Int)))]
            refine iteF ?_
            refine ⟨_, rfl, _, _, rfl, rfl, (by rw [txt_len, txt_len]; show _ + 1 ≤ _; omega), ?_⟩
            rw [txt_app]
            refine ⟨_, rfl, .inl ⟨rfl, _, SqL.of hr3⟩, _, rfl, _, _, rfl, rfl, r, _, _, rfl, rfl, hr3, (by rw [stV_len]; omega), ?_⟩
            rw [show stV ns ++ [V.int ((n : Int) + 1)] = stV ((n + 1) :: ns) from (stV_cons (n + 1) ns).symm]
            exact nextI _ _ r _ _ _ _ _ n6 (by rw [upd_ne npr]; exact hp3) upd_same hrn (fun b o hb e => by rw [upd_ne (ne_of_none e hrn)]; exact sb3 b o hb e) (gr_C gs) (asc1' (by decide)) (by rw [List.length_append, List.length_singleton]; omega) (by rw [List.length_cons]; omega)
        · rw [decide_eq_false (by omega : ¬ wy = 5)]
          refine iteF (iteF ?_)
          refine ⟨_, rfl, rfl, _, rfl, ?_⟩
          rw [decI, decide_eq_false (by omega : ¬ wy = 4)]
          refine iteF (iteF ?_)
          refine ⟨_, rfl, (by show 2 ≤ sizeLine; decide), fun t3 g3 => ⟨t3, _, rfl, .inr (SqT.of upd_same), rfl, rfl, _, rfl, ?_⟩⟩
          rw [if_neg (by decide : ¬ (false = true)), inV_23]
          have s3 := same_upd (o := .tup [V.int 2, V.int 3]) g3
          have hp3 := s3 p _ hp2
          have hr3 := s3 r _ hr2
          have sb3 : SameBut p H (upd H2 t3 (.tup [V.int 2, V.int 3])) := fun b o hb e => s3 b o (sb2 b o hb e)
          generalize upd H2 t3 (.tup [V.int 2, V.int 3]) = H3 at s3 hp3 hr3 sb3 ⊢
          rw [decide_eq_false (by omega : ¬ (wy = 2 ∨ wy = 3))]
          refine iteF (iteF ?_)
          refine ⟨_, rfl, _, _, rfl, rfl, (by rw [txt_len, txt_len]; show _ + 1 ≤ _; omega), ?_⟩
          rw [txt_app]
          refine ⟨_, rfl, .inl ⟨rfl, _, SqL.of hr3⟩, _, rfl, _, _, rfl, rfl, r, _, _, rfl, rfl, hr3, (by rw [stV_len]; omega), ?_⟩
          rw [show stV ns ++ [V.int ((n : Int) + 1)] = stV ((n + 1) :: ns) from (stV_cons (n + 1) ns).symm]
          exact nextI _ _ r _ _ _ _ _ n6 (by rw [upd_ne npr]; exact hp3) upd_same hrn (fun b o hb e => by rw [upd_ne (ne_of_none e hrn)]; exact sb3 b o hb e) (gr_C gs) (asc1' (by decide)) (by rw [List.length_append, List.length_singleton]; omega) (by rw [List.length_cons]; omega)
    · rintro σ H' hI
      exact fin _ σ H' (by omega) hI
end
end K51
end
section
set_option Elab.async false
set_option linter.all false
set_option maxRecDepth 100000
set_option maxHeartbeats 4000000
namespace K51
open PySem L2 K52
theorem compScopeF {X : Cx} {N : List Str} {fr : List (Option Nat)} {scope : Scope} (nd : N.Nodup) (len : fr.length = N.length) (kind : scope.kind = .function) (nc : scope.names.all (fun y => y.2 != .cell) = true)
    (nm : scope.names.all (fun y => y.2 != .local || scope.names.lookup y.1 == some .local) = true)
    (frc : ∀ y ∈ scope.names, y.2 = .free → X.env.kindOf y.1 = some .cell ∨ X.env.kindOf y.1 = some .free)
    (frn : ∀ (j i : Nat) (x : Str), fr[j]? = some (some i) → N[j]? = some x → X.N[i]? = some x ∧ scope.names.lookup x = some .free) : CompScope X N fr scope := by
  refine ⟨nd, len, kind, fun y hy => ?_, fun y hy e => ?_, frc, frn⟩
  · have := List.all_eq_true.mp nc y hy
    simpa using this
  · have := List.all_eq_true.mp nm y hy
    rw [e] at this
    simpa using this
/-- what is asked of the classes: D is the refusal's -/
structure Kinds (K : PySem.W.Frag) (mg : Str → Option Value) (D : Addr) : Prop where
  x : ExcCls K D
  ve : PySem.W.kitOne K (.ref D) (.type "ValueError") = some true
  corner : ∃ C, mg "NoCorner" = some (.ref C) ∧ PySem.W.kitOne K (.ref D) (.ref C) = some false
  side : ∃ C, mg "NoSide" = some (.ref C) ∧ PySem.W.kitOne K (.ref D) (.ref C) = some false
  text : mg "NoText" = some (.ref D) ∧ PySem.W.kitOne K (.ref D) (.ref D) = some true
  code : ∃ C, mg "NoCode" = some (.ref C) ∧ PySem.W.kitOne K (.ref D) (.ref C) = some false
  word : ∃ C, mg "NoWord" = some (.ref C) ∧ PySem.W.kitOne K (.ref D) (.ref C) = some false
  caps : ∃ C, mg "NoCaps" = some (.ref C) ∧ PySem.W.kitOne K (.ref D) (.ref C) = some false
  letter : ∃ C, mg "NoLetter" = some (.ref C) ∧ PySem.W.kitOne K (.ref D) (.ref C) = some false
  skin : ∃ C, mg "NoSkin" = some (.ref C) ∧ PySem.W.kitOne K (.ref D) (.ref C) = some false
  deed : ∃ C, mg "NoDeed" = some (.ref C) ∧ PySem.W.kitOne K (.ref D) (.ref C) = some false
  past : ∃ C, mg "NoPast" = some (.ref C) ∧ PySem.W.kitOne K (.ref D) (.ref C) = some false
  spoilt : ∃ C, mg "Spoilt" = some (.ref C) ∧ PySem.W.kitOne K (.ref D) (.ref C) = some false
  taken : ∃ C, mg "Taken" = some (.ref C) ∧ PySem.W.kitOne K (.ref D) (.ref C) = some false
  gone : ∃ C, mg "Gone" = some (.ref C) ∧ PySem.W.kitOne K (.ref D) (.ref C) = some false
  many : ∃ C, mg "TooMany" = some (.ref C) ∧ PySem.W.kitOne K (.ref D) (.ref C) = some false
theorem boot_ve : bootBuiltins "ValueError" = some (.type "ValueError") := by decide +kernel
def spKinds (x D : Addr) : Sp := fun vs H Q _ => vs = [.ref x] ∧ H x = some (ExcO x (.ref D) none) ∧ ∀ r H', H r = none → Same H H' → H' r = some (.lst [.int 0, .int 3]) → Q (.ref r) H'
def kinds15 : List V := [.bl true, .bl false, .bl false, .bl true] ++ [.bl false, .bl false, .bl false, .bl false] ++ [.bl false, .bl false, .bl false, .bl false] ++ [.bl false, .bl false, .bl false]
theorem kinds_at : ∀ i : Nat, i < 15 → atI kinds15 ((0 : Int) + (i : Int)) = some (V.bl (i == 0 || i == 3)) := by decide
def kindsTo (i : Nat) : List V := ((List.range i).filter fun k => k == 0 || k == 3).map fun (k : Nat) => V.int k
theorem kindsTo_succ (i : Nat) : kindsTo (i + 1) = kindsTo i ++ if (i == 0 || i == 3) = true then [V.int i] else [] := by
  unfold kindsTo
  rw [List.range_succ, List.filter_append, List.map_append]
  congr 1
  by_cases h : (i == 0 || i == 3) = true
  · rw [if_pos h, List.filter_cons, if_pos h]; rfl
  · rw [if_neg h, List.filter_cons, if_neg h]; rfl
theorem kindsTo_15 : kindsTo 15 = [.int 0, .int 3] := by decide
theorem kindsTo_len (i : Nat) : (kindsTo i).length ≤ i := by
  unfold kindsTo
  rw [List.length_map]
  exact Nat.le_trans (List.length_filter_le _ _) (by rw [List.length_range]; exact Nat.le_refl _)
section
variable {P : Program} {w : World} {K : PySem.W.Frag} {mg : Str → Option Value} {base : Heap}
theorem scKinds : FnScope ["_law_e", "_law_some"] ["_law_e"] (defScope sKinds) := ⟨rfl, rfl, rfl, by decide +kernel, rfl, by decide +kernel, by decide +kernel⟩
theorem hyRef {a : Addr} : ∀ u, RelV (.ref a) u → u = .ref a := fun _ h => h
theorem hyTy {n : String} : ∀ u, RelV (.ty n) u → u = .type n := fun _ h => h
theorem ok_kinds {f x D : Addr} {fd : FuncData} (U : Fun K "_law_kinds" "_law_kinds" sKinds f fd) (T : TxtN mg) (Z : Kinds K mg D) : FnOkH P w K mg base 1 f fd ["_law_e"] x (spKinds x D) := by
  refine U.okH scKinds (fun vs H Q E h => ?_) (fun cdv A outer s H vs Q E hr h => ?_)
  · obtain ⟨rfl, _⟩ := h
    rfl
  · obtain ⟨rfl, hx, q⟩ := h
    obtain ⟨C1, m1, k1⟩ := Z.corner
    obtain ⟨C2, m2, k2⟩ := Z.side
    obtain ⟨m3, k3⟩ := Z.text
    obtain ⟨C4, m4, k4⟩ := Z.code
    obtain ⟨C5, m5, k5⟩ := Z.word
    obtain ⟨C6, m6, k6⟩ := Z.caps
    obtain ⟨C7, m7, k7⟩ := Z.letter
    obtain ⟨C8, m8, k8⟩ := Z.skin
    obtain ⟨C9, m9, k9⟩ := Z.deed
    obtain ⟨C10, m10, k10⟩ := Z.past
    obtain ⟨C11, m11, k11⟩ := Z.spoilt
    obtain ⟨C12, m12, k12⟩ := Z.taken
    obtain ⟨C13, m13, k13⟩ := Z.gone
    obtain ⟨C14, m14, k14⟩ := Z.many
    refine ⟨_, pss_cons (ps_set (i := 1) scKinds.nd rfl (Or.inr rfl) (pe_lst (pa_cons (pe_callB (call_isiX (hyTy (n := "ValueError"))) (by rfl) T.isi PyProof.Rows.boot_isinstance (pa_cons (pv 0) (pa_cons (pe_bltn (v := .ty "ValueError") rfl T.ve boot_ve rfl) pa_nil)))
        (pa_cons (pe_callB (call_isiX (hyRef (a := C1))) (by rfl) T.isi PyProof.Rows.boot_isinstance (pa_cons (pv 0) (pa_cons (pe_glob (v := .ref C1) rfl m1 rfl) pa_nil)))
        (pa_cons (pe_callB (call_isiX (hyRef (a := C2))) (by rfl) T.isi PyProof.Rows.boot_isinstance (pa_cons (pv 0) (pa_cons (pe_glob (v := .ref C2) rfl m2 rfl) pa_nil)))
        (pa_cons (pe_callB (call_isiX (hyRef (a := D))) (by rfl) T.isi PyProof.Rows.boot_isinstance (pa_cons (pv 0) (pa_cons (pe_glob (v := .ref D) rfl m3 rfl) pa_nil))) pa_nil))))))
      (pss_cons (ps_set (i := 1) scKinds.nd rfl (Or.inr rfl) (pe_op op_cat (pv 1) (pe_lst (pa_cons (pe_callB (call_isiX (hyRef (a := C4))) (by rfl) T.isi PyProof.Rows.boot_isinstance (pa_cons (pv 0) (pa_cons (pe_glob (v := .ref C4) rfl m4 rfl) pa_nil)))
        (pa_cons (pe_callB (call_isiX (hyRef (a := C5))) (by rfl) T.isi PyProof.Rows.boot_isinstance (pa_cons (pv 0) (pa_cons (pe_glob (v := .ref C5) rfl m5 rfl) pa_nil)))
        (pa_cons (pe_callB (call_isiX (hyRef (a := C6))) (by rfl) T.isi PyProof.Rows.boot_isinstance (pa_cons (pv 0) (pa_cons (pe_glob (v := .ref C6) rfl m6 rfl) pa_nil)))
        (pa_cons (pe_callB (call_isiX (hyRef (a := C7))) (by rfl) T.isi PyProof.Rows.boot_isinstance (pa_cons (pv 0) (pa_cons (pe_glob (v := .ref C7) rfl m7 rfl) pa_nil))) pa_nil)))))))
      (pss_cons (ps_set (i := 1) scKinds.nd rfl (Or.inr rfl) (pe_op op_cat (pv 1) (pe_lst (pa_cons (pe_callB (call_isiX (hyRef (a := C8))) (by rfl) T.isi PyProof.Rows.boot_isinstance (pa_cons (pv 0) (pa_cons (pe_glob (v := .ref C8) rfl m8 rfl) pa_nil)))
        (pa_cons (pe_callB (call_isiX (hyRef (a := C9))) (by rfl) T.isi PyProof.Rows.boot_isinstance (pa_cons (pv 0) (pa_cons (pe_glob (v := .ref C9) rfl m9 rfl) pa_nil)))
        (pa_cons (pe_callB (call_isiX (hyRef (a := C10))) (by rfl) T.isi PyProof.Rows.boot_isinstance (pa_cons (pv 0) (pa_cons (pe_glob (v := .ref C10) rfl m10 rfl) pa_nil)))
        (pa_cons (pe_callB (call_isiX (hyRef (a := C11))) (by rfl) T.isi PyProof.Rows.boot_isinstance (pa_cons (pv 0) (pa_cons (pe_glob (v := .ref C11) rfl m11 rfl) pa_nil))) pa_nil)))))))
      (pss_cons (ps_set (i := 1) scKinds.nd rfl (Or.inr rfl) (pe_op op_cat (pv 1) (pe_lst (pa_cons (pe_callB (call_isiX (hyRef (a := C12))) (by rfl) T.isi PyProof.Rows.boot_isinstance (pa_cons (pv 0) (pa_cons (pe_glob (v := .ref C12) rfl m12 rfl) pa_nil)))
        (pa_cons (pe_callB (call_isiX (hyRef (a := C13))) (by rfl) T.isi PyProof.Rows.boot_isinstance (pa_cons (pv 0) (pa_cons (pe_glob (v := .ref C13) rfl m13 rfl) pa_nil)))
        (pa_cons (pe_callB (call_isiX (hyRef (a := C14))) (by rfl) T.isi PyProof.Rows.boot_isinstance (pa_cons (pv 0) (pa_cons (pe_glob (v := .ref C14) rfl m14 rfl) pa_nil))) pa_nil))))))
      (pss_one (ps_ret (pe_compG (N := ["_law_k", "_law_some"]) (fr := [none, some 1]) (compScopeF (by decide +kernel) rfl rfl (by decide +kernel) (by decide +kernel) (by
            intro y hy e
            simp only [List.mem_cons, List.not_mem_nil, or_false] at hy
            rcases hy with rfl | rfl | rfl
            · cases e
            · cases e
            · exact .inl rfl) (by
            intro j i y e1 e2
            match j, e1, e2 with
            | 0, e1, _ => simp at e1
            | 1, e1, e2 => simp at e1 e2; subst e1 e2; exact ⟨rfl, rfl⟩
            | j + 2, e1, _ => simp at e1)) (pi_rangeH (x := x) hr.hd rfl T.range (pa_cons pe_int pa_nil))
          (fun C s H fp pins => ⟨pg_name (i := 0) (show (["_law_k", "_law_some"] : List Str).Nodup by decide +kernel) rfl (Or.inl rfl) (.inr rfl), pif_one (pt_val (pe_ix (r := rIxL K) ix_list (pv 1) (pv 0) (fun _ _ => rfl))), pv 0⟩))))))), ?_⟩
    have hx0 := Z.x
    refine ⟨_, rfl, x, D, _, rfl, hx, hx0, Z.ve, _, rfl, x, D, _, rfl, hx, hx0, k1, _, rfl, x, D, _, rfl, hx, hx0, k2, _, rfl, x, D, _, rfl, hx, hx0, k3, (by show 4 ≤ sizeLine; decide), fun l1 g1 => ?_⟩
    have s1 := same_upd (o := .lst [.bl true, .bl false, .bl false, .bl true]) g1
    have x1 := s1 x _ hx
    have y1 := upd_same (H := H) (a := l1) (o := .lst [.bl true, .bl false, .bl false, .bl true])
    generalize upd H l1 (.lst [.bl true, .bl false, .bl false, .bl true]) = H1 at s1 x1 y1
    refine ⟨_, rfl, _, rfl, x, D, _, rfl, x1, hx0, k4, _, rfl, x, D, _, rfl, x1, hx0, k5, _, rfl, x, D, _, rfl, x1, hx0, k6, _, rfl, x, D, _, rfl, x1, hx0, k7, (by show 4 ≤ sizeLine; decide), fun l2 g2 => ?_⟩
    have s2 := same_upd (o := .lst [.bl false, .bl false, .bl false, .bl false]) g2
    refine ⟨l1, l2, _, _, rfl, rfl, s2 l1 _ y1, upd_same, (by show 8 ≤ sizeLine; decide), fun c2 g3 => ?_⟩
    have s3 := (s1.trans s2).trans (same_upd (o := .lst ([.bl true, .bl false, .bl false, .bl true] ++ [.bl false, .bl false, .bl false, .bl false])) g3)
    have x3 := s3 x _ hx
    have y3 := upd_same (H := upd H1 l2 (.lst [.bl false, .bl false, .bl false, .bl false])) (a := c2) (o := .lst ([.bl true, .bl false, .bl false, .bl true] ++ [.bl false, .bl false, .bl false, .bl false]))
    generalize upd (upd H1 l2 (.lst [.bl false, .bl false, .bl false, .bl false])) c2 (.lst ([.bl true, .bl false, .bl false, .bl true] ++ [.bl false, .bl false, .bl false, .bl false])) = H3 at s3 x3 y3
    refine ⟨_, rfl, _, rfl, x, D, _, rfl, x3, hx0, k8, _, rfl, x, D, _, rfl, x3, hx0, k9, _, rfl, x, D, _, rfl, x3, hx0, k10, _, rfl, x, D, _, rfl, x3, hx0, k11, (by show 4 ≤ sizeLine; decide), fun l4 g4 => ?_⟩
    have s4 := same_upd (o := .lst [.bl false, .bl false, .bl false, .bl false]) g4
    refine ⟨c2, l4, _, _, rfl, rfl, s4 c2 _ y3, upd_same, (by show 12 ≤ sizeLine; decide), fun c5 g5 => ?_⟩
    have s5 := (s3.trans s4).trans (same_upd (o := .lst ([.bl true, .bl false, .bl false, .bl true] ++ [.bl false, .bl false, .bl false, .bl false] ++ [.bl false, .bl false, .bl false, .bl false])) g5)
    have x5 := s5 x _ hx
    have y5 := upd_same (H := upd H3 l4 (.lst [.bl false, .bl false, .bl false, .bl false])) (a := c5) (o := .lst ([.bl true, .bl false, .bl false, .bl true] ++ [.bl false, .bl false, .bl false, .bl false] ++ [.bl false, .bl false, .bl false, .bl false]))
    generalize upd (upd H3 l4 (.lst [.bl false, .bl false, .bl false, .bl false])) c5 (.lst ([.bl true, .bl false, .bl false, .bl true] ++ [.bl false, .bl false, .bl false, .bl false] ++ [.bl false, .bl false, .bl false, .bl false])) = H5 at s5 x5 y5
    refine ⟨_, rfl, _, rfl, x, D, _, rfl, x5, hx0, k12, _, rfl, x, D, _, rfl, x5, hx0, k13, _, rfl, x, D, _, rfl, x5, hx0, k14, (by show 3 ≤ sizeLine; decide), fun l6 g6 => ?_⟩
    have s6 := same_upd (o := .lst [.bl false, .bl false, .bl false]) g6
    refine ⟨c5, l6, _, _, rfl, rfl, s6 c5 _ y5, upd_same, (by show 15 ≤ sizeLine; decide), fun c7 g7 => ?_⟩
    have s7 := (s5.trans s6).trans (same_upd (o := .lst kinds15) g7)
    have x7 := s7 x _ hx
    have h7 := upd_same (H := upd H5 l6 (.lst [.bl false, .bl false, .bl false])) (a := c7) (o := .lst kinds15)
    show _
    have sA := s7
    generalize eH7 : upd (upd H5 l6 (.lst [.bl false, .bl false, .bl false])) c7 (.lst kinds15) = H7 at s7 x7 h7 sA
    have eH7' : upd (upd H5 l6 (.lst [.bl false, .bl false, .bl false])) c7 (.lst (([.bl true, .bl false, .bl false, .bl true] ++ [.bl false, .bl false, .bl false, .bl false] ++ [.bl false, .bl false, .bl false, .bl false]) ++ [.bl false, .bl false, .bl false])) = H7 := eH7
    rw [eH7']
    refine ⟨15, rfl, by decide, by decide, fun D' hD => comp_rangeH (x := x) (lo := 0) (n := 15) (fun i σ ys H' => ∃ o, σ = [o, some (.ref c7)] ∧ ys = kindsTo i ∧ H' = upd H7 D' (.lst ys)) ⟨none, rfl, rfl, rfl⟩ ?_ ?_⟩
    · rintro i σ ys H' hi ⟨o, rfl, rfl, rfl⟩
      have sD := same_upd (o := .lst (kindsTo i)) hD
      refine ⟨_, rfl, _, rfl, c7, _, _, _, rfl, rfl, SqL.of (sD c7 _ h7), kinds_at i hi, _, rfl, ?_⟩
      have hk := kindsTo_succ i
      have hl := kindsTo_len i
      have hline := line5000
      refine ite2 (fun hb => ?_) (fun hb => ?_)
      · rw [if_pos hb] at hk
        refine ⟨_, rfl, upd_same, by omega, _, rfl, ?_, by rw [upd_upd]⟩
        rw [hk]
        show _ = _ ++ [V.int (i : Int)]
        rw [Int.zero_add]
      · rw [if_neg hb] at hk
        exact ⟨_, rfl, by rw [hk, List.append_nil], rfl⟩
    · rintro σ ys H' ⟨o, rfl, rfl, rfl⟩
      have sD := same_upd (o := .lst (kindsTo 15)) hD
      refine ⟨⟨_, _, sD x _ x7⟩, q D' _ (sA.free hD) (sA.trans sD) ?_⟩
      rw [upd_same, kindsTo_15]
end
/-! ### _law_told -/
def spLTold (K : PySem.W.Frag) : Sp := fun vs H Q _ => ∃ v, vs = [v] ∧
  ((∃ l : List Nat, v = .str (txt l) ∧ asc l ∧ l.length ≤ 4000 ∧ match placedL l with
    | some ls => ∀ p xs H', H p = none → Same H H' → H' p = some (.lst xs) → LetsAt H' xs ls → Q (.ref p) H'
    | none => Told03 H Q) ∨
   ∃ ty, TyOf K H v ty ∧ PySem.W.kitOne K ty (.type "str") = some false ∧ Told03 H Q)
section
variable {P : Program} {w : World} {K : PySem.W.Frag} {mg : Str → Option Value} {base : Heap}
theorem scLTold : FnScope ["_law_text", "_law_told_here", "_law_e"] ["_law_text"] (defScope sLTold) := ⟨rfl, rfl, rfl, by decide +kernel, rfl, by decide +kernel, by decide +kernel⟩
theorem ok_ltold {f fR fK S C : Addr} {fd fdR fdK : FuncData} (U : Fun K "_law_told" "_law_told" sLTold f fd)
    (GR : FnOk P w K mg base (CX1 P w) 3 fR fdR ["text"] (spPlacedP K C)) (bR : Binds K fdR ["text"] []) (mR : mg "placed" = some (.ref fR)) (kR : PySem.W.keepIn K (.ref fR) = true)
    (GK : ∀ x, FnOkH P w K mg base 1 fK fdK ["_law_e"] x (spKinds x C)) (bK : Binds K fdK ["_law_e"] []) (mK : mg "_law_kinds" = some (.ref fK)) (kK : PySem.W.keepIn K (.ref fK) = true)
    (cg : Caught K mg S C) : FnOk P w K mg base CX0 4 f fd ["_law_text"] (spLTold K) := by
  refine U.ok scLTold (fun vs H Q E h => ?_) (fun cdv A outer s H vs Q E hr h => ?_)
  · obtain ⟨v, rfl, _⟩ := h
    rfl
  · obtain ⟨v, rfl, q⟩ := h
    obtain ⟨bm, hcl, hbm⟩ := cg.cls
    obtain ⟨bmC, hcC, hsub⟩ := cg.sub
    refine ⟨_, pss_cons (ps_set (i := 1) scLTold.nd rfl (Or.inl rfl) pe_non)
      (pss_cons (ps_try (i := 2) ⟨rfl, rfl⟩ rfl scLTold.nd rfl rfl rfl cg.mg hcl hbm
        (fun pins xe E hp hl => pss_one (ps_set (i := 1) scLTold.nd rfl (Or.inl rfl) (pe_call GR hr rfl mR kR bR .nil hp (pa_cons (pv 0) pa_nil))))
        (fun x => pss_one (ps_set (i := 1) scLTold.nd rfl (Or.inl rfl) (pe_callH (GK x) (Room.suite (hr.mono (by decide)) x) rfl mK kK bK .nil (pa_cons (pv 2) pa_nil)))))
      (pss_one (ps_ret (pv 1)))), ?_⟩
    refine ⟨fun cls d H' => cls = .ref C ∧ d = none ∧ Same H H' ∧ Told03 H Q, ?_, ?_⟩
    · refine ⟨_, rfl, v, rfl, ?_⟩
      rcases q with ⟨l, rfl, ha, hl, q⟩ | ⟨ty, hty, hk, q⟩
      · refine .inl ⟨l, rfl, ha, hl, ?_⟩
        rw [plc_eq]
        cases e : placedL l with
        | none =>
          rw [e] at q
          exact fun H' s' => ⟨rfl, rfl, s', q⟩
        | some ls =>
          rw [e] at q
          exact fun p xs H' hp s' hx hls => ⟨_, rfl, q p xs H' hp s' hx hls⟩
      · exact .inr ⟨ty, hty, hk, rfl, rfl, fun _ _ z => z, q⟩
    · rintro cls d H' ⟨rfl, rfl, s', q'⟩
      refine ⟨C, bmC, rfl, hcC, hsub, fun x hx => ?_⟩
      have s2 := same_upd (o := ExcO x (.ref C) none) hx
      refine ⟨_, rfl, rfl, upd_same, fun r H2 hr2 s3 h2 => ?_⟩
      exact ⟨_, rfl, q' r H2 (s'.free (s2.free hr2)) ((s'.trans s2).trans s3) h2⟩
end
/-! ### _law_right -/
def spRight : Sp := fun vs H Q _ => ∃ l : List Nat, vs = [.str (txt l)] ∧ asc l ∧ l.length ≤ 200 ∧ ∀ H', Same H H' → Q (.bl true) H'
section
variable {P : Program} {w : World} {K : PySem.W.Frag} {mg : Str → Option Value} {base : Heap}
theorem scRight : FnScope ["_law_text", "_law_due", "_law_found"] ["_law_text"] (defScope sRight) := ⟨rfl, rfl, rfl, by decide +kernel, rfl, by decide +kernel, by decide +kernel⟩
theorem ok_right {f fP fT : Addr} {fd fdP fdT : FuncData} (U : Fun K "_law_right" "_law_right" sRight f fd) (T : TxtN mg) (kt : Kits K)
    (GP : FnOk P w K mg base CX0 202 fP fdP ["_law_text"] spLPlaced) (bP : Binds K fdP ["_law_text"] []) (mP : mg "_law_placed" = some (.ref fP)) (kP : PySem.W.keepIn K (.ref fP) = true)
    (GT : FnOk P w K mg base CX0 4 fT fdT ["_law_text"] (spLTold K)) (bT : Binds K fdT ["_law_text"] []) (mT : mg "_law_told" = some (.ref fT)) (kT : PySem.W.keepIn K (.ref fT) = true) :
    FnOk P w K mg base CX0 203 f fd ["_law_text"] spRight := by
  refine U.ok scRight (fun vs H Q E h => ?_) (fun cdv A outer s H vs Q E hr h => ?_)
  · obtain ⟨l, rfl, _⟩ := h
    rfl
  · obtain ⟨l, rfl, ha, hl, q⟩ := h
    have hr4 := hr.mono (show 4 ≤ 202 by decide)
    refine ⟨_, pss_cons (ps_set (i := 1) scRight.nd rfl (Or.inl rfl) (pe_call GP hr rfl mP kP bP .nil pass0 (pa_cons (pv 0) pa_nil)))
      (pss_cons (ps_if (pt_cmpR op_isN (pv 1) pe_non (nomark _)) (pss_one (ps_ret (pe_cmpR (op_eqD hr.units) (pe_call GT hr4 rfl mT kT bT .nil pass0 (pa_cons (pv 0) pa_nil)) (pe_lst (pa_cons pe_int (pa_cons pe_int pa_nil))) (nomark _)))) pss_nil)
      (pss_cons (ps_set (i := 2) scRight.nd rfl (Or.inl rfl) (pe_call GT hr4 rfl mT kT bT .nil pass0 (pa_cons (pv 0) pa_nil)))
      (pss_cons (ps_if (PW.pt (pw_or (pt_not (pt_val (pe_callB (call_isiT' (c := "list")) (by rfl) T.isi PyProof.Rows.boot_isinstance (pa_cons (pv 2) (pa_cons (pe_bltn (v := .ty "list") rfl T.list PyProof.Rows.boot_list rfl) pa_nil)))))
        (pw_or (pt_cmpR (op_neD hr.units) (pv 2) (pv 1) (nomark _))
          (pw_or1 (pt_not (pt_val (pe_callB (call_all_list rfl) (by rfl) T.all boot_all (pa_cons (pe_comp (N := ["_law_one"]) (fr := [none]) (compScope0 (by decide +kernel) rfl (by decide +kernel) (by decide +kernel)) rfl (pi_list (pv 2))
            (fun C s H fp pins => ⟨pg_name (i := 0) (show (["_law_one"] : List Str).Nodup by decide +kernel) rfl (Or.inl rfl) (.inr rfl), pif_nil, pe_callB (r := rIsiT K "tuple") call_isiT' (by rfl) T.isi PyProof.Rows.boot_isinstance (pa_cons (pv 0) (pa_cons (pe_bltn (v := .ty "tuple") rfl T.tuple PyProof.Rows.boot_tuple rfl) pa_nil))⟩)) pa_nil))))))))
        (pss_one (ps_ret pe_bl)) pss_nil)
      (pss_cons (ps_expr (pe_bm0 PySem.F.plainAttrs_list PySem.F.slot_list_clear PySem.F.type_list_clear mt_clear (pv 2)))
      (pss_one (ps_ret (pe_cmpR (op_eqD hr.units) (pe_call GT hr4 rfl mT kT bT .nil pass0 (pa_cons (pv 0) pa_nil)) (pv 1) (nomark _)))))))), ?_⟩
    have hline := line5000
    refine ⟨_, rfl, l, rfl, ha, hl, ?_⟩
    cases e : placedL l with
    | none =>
      intro H1 s1
      refine ⟨_, rfl, rfl, _, rfl, ?_⟩
      rw [decide_eq_true rfl]
      refine iteT ?_
      refine ⟨_, rfl, _, rfl, .inl ⟨l, rfl, ha, by omega, ?_⟩⟩
      rw [e]
      intro p5 H5 hp5 s5 h5
      refine ⟨(by show 2 ≤ sizeLine; omega), fun p6 hp6 => ?_⟩
      have s6 := same_upd (o := .lst [.int 0, .int 3]) hp6
      refine ⟨_, _, dt03 (s6 p5 _ h5), dt03 upd_same, by decide, ?_⟩
      rw [if_neg (by decide : ¬ (false = true)), eqv03]
      exact q _ ((s1.trans s5).trans s6)
    | some ls =>
      obtain ⟨hok, hlen⟩ := placed_ok e
      intro q0 xs0 H1 s1 hq0 hls0
      refine ⟨_, rfl, rfl, _, rfl, ?_⟩
      rw [decide_eq_false (by intro z; cases z)]
      refine iteF ?_
      refine ⟨_, rfl, _, rfl, .inl ⟨l, rfl, ha, by omega, ?_⟩⟩
      rw [e]
      intro p xs H2 hp s2 hx hls
      have hq2 := s2 q0 _ hq0
      have hls2 := hls0.same s2
      have hll := hls.length
      have npq : q0 ≠ p := fun z => by rw [← z, hq0] at hp; cases hp
      refine ⟨_, rfl, _, _, true, rfl, .lst hx, kt.ll, _, rfl, ?_⟩
      refine iteF ?_
      have dep : (PyData.list (ls.map ltD)).depth ≤ 60 := by
        have := depth_lets ls
        simp only [PyData.depth]
        omega
      refine ⟨_, rfl, _, rfl, .list (ls.map ltD), .list (ls.map ltD), .lst (SqL.of hx) (dts_lets hok hls), .lst (SqL.of hq2) (dts_lets hok hls2), dep, _, rfl, ?_⟩
      rw [if_pos rfl, eqv_lets, decide_eq_true rfl]
      refine iteF ?_
      refine ⟨_, rfl, p, rfl, ⟨_, SqL.of hx⟩, fun D hD => comp_list (K := K) (a := p) (xs := xs) (fun i σ ys H' => ∃ o, σ = [o] ∧ ys = List.replicate i (V.bl true) ∧ H' = upd H2 D (.lst ys)) ⟨none, rfl, rfl, rfl⟩ (fun i σ ys H' _ ⟨_, _, _, e⟩ => by rw [e]; exact SqL.of ((same_upd hD) p _ hx)) ?_ ?_⟩
      · rintro i x σ ys H' hxi ⟨o, rfl, rfl, rfl⟩
        have hi : i < xs.length := (List.getElem?_eq_some_iff.mp hxi).1
        obtain ⟨a, ha', t, rfl, ht⟩ := paired_get hls hxi
        exact ⟨_, rfl, _, _, true, rfl, .tup ((same_upd hD) t _ ht), kt.tt, upd_same, by rw [List.length_replicate]; omega, some (.ref t), rfl, List.replicate_succ'.symm, by rw [upd_upd]⟩
      · rintro σ ys H' ⟨o, rfl, rfl, rfl⟩
        refine ⟨D, List.replicate xs.length true, rfl, SqL.of (by rw [List.map_replicate]; exact upd_same), _, rfl, ?_⟩
        have ea : (List.replicate xs.length true).all id = true := by simp
        rw [ea]
        refine iteF ?_
        have s3 := same_upd (o := .lst (List.replicate xs.length (V.bl true))) hD
        have hx3 := s3 p _ hx
        have hq3 := s3 q0 _ hq2
        have hls3 := hls2.same s3
        have s13 := (s1.trans s2).trans s3
        have hpn : H p = none := s1.free hp
        generalize upd H2 D (.lst (List.replicate xs.length (V.bl true))) = H3 at s3 hx3 hq3 hls3 s13 ⊢
        refine ⟨_, rfl, .inl ⟨rfl, _, SqL.of hx3⟩, p, _, rfl, rfl, hx3, ?_⟩
        have s14 : Same H (upd H3 p (.lst [])) := fun b o eb => by rw [upd_ne (ne_of_none eb hpn)]; exact s13 b o eb
        have hq4 : upd H3 p (.lst []) q0 = some (.lst xs0) := by rw [upd_ne npq]; exact hq3
        have hls4 : LetsAt (upd H3 p (.lst [])) xs0 ls := hls3.move (upd_tup hx3)
        refine ⟨_, rfl, _, rfl, .inl ⟨l, rfl, ha, by omega, ?_⟩⟩
        rw [e]
        intro p7 xs7 H7 hp7 s7 hx7 hls7
        refine ⟨_, rfl, .list (ls.map ltD), .list (ls.map ltD), .lst (SqL.of hx7) (dts_lets hok hls7), .lst (SqL.of (s7 q0 _ hq4)) (dts_lets hok (hls4.same s7)), dep, ?_⟩
        rw [if_neg (by decide : ¬ (false = true)), eqv_lets, decide_eq_true rfl]
        exact q _ (s14.trans s7)
end
end K51
end
section
set_option Elab.async false
set_option linter.all false
set_option maxRecDepth 100000
namespace L2
open PySem
theorem se_tup {es : List Expr} {k : Nat} {p : Pos} {rest : List Expr} {env : Env} : starEach (.Tuple es k p :: rest) env = (false, eval (.Tuple es k p) env) :: starEach rest env := by rfl
theorem se_lst {es : List Expr} {p : Pos} {rest : List Expr} {env : Env} : starEach (.List es p :: rest) env = (false, eval (.List es p) env) :: starEach rest env := by rfl
theorem se_dict {ks : List (Option Expr)} {es : List Expr} {p : Pos} {rest : List Expr} {env : Env} : starEach (.Dict ks es p :: rest) env = (false, eval (.Dict ks es p) env) :: starEach rest env := by rfl
end L2
end
section
set_option Elab.async false
set_option linter.all false
set_option maxRecDepth 100000
set_option maxHeartbeats 8000000
namespace K51
open PySem L2 K52
def spLaw (K : PySem.W.Frag) : Sp := fun vs H Q _ => ∃ (a : Addr) (ns : List Int), vs = [.ref a] ∧ SqL K H a (ns.map V.int) ∧ ns.length ≤ 63 ∧ ∀ H', Q (.bl true) H'
structure Fn (P : Program) (w : World) (K : PySem.W.Frag) (mg : Str → Option Value) (base : Heap) (n : Nat) (x : Str) (ps : List Str) (sp : Sp) where
  f : Addr
  d : FuncData
  g : FnOk P w K mg base CX0 n f d ps sp
  b : Binds K d ps []
  m : mg x = some (.ref f)
  k : PySem.W.keepIn K (.ref f) = true
section
variable {P : Program} {w : World} {K : PySem.W.Frag} {mg : Str → Option Value} {base : Heap}
theorem scLaw : FnScope ["_law_script", "_law_text", "_law_cell"] ["_law_script"] (defScope sLaw) := ⟨rfl, rfl, rfl, by decide +kernel, rfl, by decide +kernel, by decide +kernel⟩
def bd (i : Nat) : Stmt := (defBody sLaw).getD i (.Pass ⟨0, 0, 0, 0⟩)
def fb (i : Nat) : Stmt := (match bd 2 with | .For _ _ b _ _ => b | _ => []).getD i (.Pass ⟨0, 0, 0, 0⟩)
@[irreducible] def x4 (i : Nat) : Expr := (match fb 1 with | .If (.Compare (.Call _ [.Subscript (.List es _) _ _] _ _) _ _ _) _ _ _ => es | _ => []).getD i (.Constant .none 0 ⟨0, 0, 0, 0⟩)
@[irreducible] def sB4 : Stmt := fb 1
theorem x4_at : ∃ (j0 j1 j2 : Nat) (p0 p1 p2 p3 p4 p5 p6 : Pos) (j3 j4 j5 j6 k4 j7 : Nat) (q3 r3 q4 r4 q6 : Pos), x4 0 = .Constant .none j0 p0 ∧ x4 1 = .Constant (.int 7) j1 p1 ∧ x4 2 = .Constant (.bool true) j2 p2 ∧ x4 3 = .List [.Constant (.str "C") j3 q3, .Constant (.str "E") j4 r3] p3 ∧ x4 4 = .Tuple [.Constant (.str "C") j5 q4, .Constant (.str "E") j6 r4] k4 p4 ∧ x4 5 = .Dict [] [] p5 ∧ x4 6 = .List [.Constant (.str "CE") j7 q6] p6 := by
  unfold x4
  exact ⟨_, _, _, _, _, _, _, _, _, _, _, _, _, _, _, _, _, _, _, _, _, rfl, rfl, rfl, rfl, rfl, rfl, rfl⟩
theorem sB4_eq : ∃ (p0 p2 p3 p4 p5 p6 p7 p8 p9 p10 p11 q1 q2 q3 : Pos) (j j5 j6 j9 : Nat), sB4 = .If (.Compare (.Call (.Name "_law_told" p0) [.Subscript (.List [x4 0, x4 1, x4 2, x4 3, x4 4, x4 5, x4 6] p2) (.BinOp (.Name "_law_cell" q1) .Mod (.Constant (.int 7) j q2) q3) p3] [] p4) [.NotEq] [.List [.Constant (.int 0) j5 p5, .Constant (.int 3) j6 p6] p7] p8) [.Return (some (.Constant (.bool false) j9 p9)) p10] [] p11 := by
  unfold sB4 x4
  exact ⟨_, _, _, _, _, _, _, _, _, _, _, _, _, _, _, _, _, _, rfl⟩
def tDisp (K : PySem.W.Frag) : TE := tOp (rIxL K) (tLst (tCons (tC .non) (tCons (tC (.int 7)) (tCons (tC (.bl true)) (tCons (tLst (tCons (tC (.str "C")) (tCons (tC (.str "E")) tNil))) (tCons (tTup (tCons (tC (.str "C")) (tCons (tC (.str "E")) tNil))) (tCons tDNewK (tCons (tLst (tCons (tC (.str "CE")) tNil)) tNil)))))))) (tOp (rI (fun _ j => 0 < j) fun i j => .int (i % j)) (tVar 2) (tC (.int 7)))
def T4 (K : PySem.W.Frag) : TS := tIfS (tTest (tOp (rEqD K true) (tCall (spLTold K) [] E0 (tCons (tDisp K) tNil)) (tLst (tCons (tC (.int 0)) (tCons (tC (.int 3)) tNil))))) (tRet (tC (.bl false))) tNext
theorem se_con {c : Const} {j : Nat} {p : Pos} {rest : List Expr} {env : Env} : starEach (.Constant c j p :: rest) env = (false, eval (.Constant c j p) env) :: starEach rest env := by rfl
theorem pb4 (T : TxtN mg) (GT : Fn P w K mg base 4 "_law_told" ["_law_text"] (spLTold K)) (f : Addr) (cdv : Value) (A : Around) (outer : List Env) (s : Shared) (H : Hp) (E : XK) (hr : Room 4 (A.deeper (PyProof.Rows.envOfC "law" (defScope sLaw) s.heap.objs.size f cdv))) : PS (cxOf CX0 P w K mg base ["_law_script", "_law_text", "_law_cell"] "law" (defScope sLaw) f cdv A outer s H E).nox sB4 (T4 K) := by
  obtain ⟨j0, j1, j2, a0, a1, a2, a3, a4, a5, a6, j3, j4, j5, j6, k4, j7, q3', r3, q4, r4, q6, e0, e1, e2, e3, e4, e5, e6⟩ := x4_at
  have h0 : PE (cxOf CX0 P w K mg base ["_law_script", "_law_text", "_law_cell"] "law" (defScope sLaw) f cdv A outer s H E).nox (x4 0) (tC .non) := by rw [e0]; exact pe_non
  have h1 : PE (cxOf CX0 P w K mg base ["_law_script", "_law_text", "_law_cell"] "law" (defScope sLaw) f cdv A outer s H E).nox (x4 1) (tC (.int 7)) := by rw [e1]; exact pe_int
  have h2 : PE (cxOf CX0 P w K mg base ["_law_script", "_law_text", "_law_cell"] "law" (defScope sLaw) f cdv A outer s H E).nox (x4 2) (tC (.bl true)) := by rw [e2]; exact pe_bl
  have h3 : PE (cxOf CX0 P w K mg base ["_law_script", "_law_text", "_law_cell"] "law" (defScope sLaw) f cdv A outer s H E).nox (x4 3) (tLst (tCons (tC (.str "C")) (tCons (tC (.str "E")) tNil))) := by rw [e3]; exact pe_lst (pa_cons pe_str (pa_cons pe_str pa_nil))
  have h4 : PE (cxOf CX0 P w K mg base ["_law_script", "_law_text", "_law_cell"] "law" (defScope sLaw) f cdv A outer s H E).nox (x4 4) (tTup (tCons (tC (.str "C")) (tCons (tC (.str "E")) tNil))) := by rw [e4]; exact pe_tup (pa_cons pe_str (pa_cons pe_str pa_nil))
  have h5 : PE (cxOf CX0 P w K mg base ["_law_script", "_law_text", "_law_cell"] "law" (defScope sLaw) f cdv A outer s H E).nox (x4 5) tDNewK := by rw [e5]; exact pe_dnewK
  have h6 : PE (cxOf CX0 P w K mg base ["_law_script", "_law_text", "_law_cell"] "law" (defScope sLaw) f cdv A outer s H E).nox (x4 6) (tLst (tCons (tC (.str "CE")) tNil)) := by rw [e6]; exact pe_lst (pa_cons pe_str pa_nil)
  have s0 : ∀ (rest : List Expr) (env : Env), starEach (x4 0 :: rest) env = (false, eval (x4 0) env) :: starEach rest env := fun _ _ => by rw [e0]; exact se_con
  have s1 : ∀ (rest : List Expr) (env : Env), starEach (x4 1 :: rest) env = (false, eval (x4 1) env) :: starEach rest env := fun _ _ => by rw [e1]; exact se_con
  have s2 : ∀ (rest : List Expr) (env : Env), starEach (x4 2 :: rest) env = (false, eval (x4 2) env) :: starEach rest env := fun _ _ => by rw [e2]; exact se_con
  have s3 : ∀ (rest : List Expr) (env : Env), starEach (x4 3 :: rest) env = (false, eval (x4 3) env) :: starEach rest env := fun _ _ => by rw [e3]; exact se_lst
  have s4 : ∀ (rest : List Expr) (env : Env), starEach (x4 4 :: rest) env = (false, eval (x4 4) env) :: starEach rest env := fun _ _ => by rw [e4]; exact se_tup
  have s5 : ∀ (rest : List Expr) (env : Env), starEach (x4 5 :: rest) env = (false, eval (x4 5) env) :: starEach rest env := fun _ _ => by rw [e5]; exact se_dict
  have s6 : ∀ (rest : List Expr) (env : Env), starEach (x4 6 :: rest) env = (false, eval (x4 6) env) :: starEach rest env := fun _ _ => by rw [e6]; exact se_lst
  obtain ⟨p0, p2, p3, p4, p5, p6, p7, p8, p9, p10, p11, q1, q2, q3, j, j5', j6', j9, e⟩ := sB4_eq
  rw [e]
  exact ps_if (pt_cmpR (op_neD hr.units) (pe_call GT.g hr rfl GT.m GT.k GT.b .nil pass0 (pa_cons (pe_ix ix_list (pe_lst (pa_cons h0 (pa_cons h1 (pa_cons h2 (pa_cons h3 (pa_cons h4 (pa_cons h5 (pa_cons h6 pa_nil (hs := s6 _ _)) (hs := s5 _ _)) (hs := s4 _ _)) (hs := s3 _ _)) (hs := s2 _ _)) (hs := s1 _ _)) (hs := s0 _ _))) (pe_op op_mod (pv 2) pe_int) (fun _ _ => rfl)) pa_nil)) (pe_lst (pa_cons pe_int (pa_cons pe_int pa_nil))) (nomark _)) (pss_one (ps_ret pe_bl)) pss_nil
end
end K51
end
section
set_option Elab.async false
set_option linter.all false
set_option maxRecDepth 100000
set_option maxHeartbeats 8000000
namespace K51
open PySem L2 K52
def sFor (s4 : Stmt) : Stmt := match bd 2 with
  | .For t i _ o p => .For t i [fb 0, s4] o p
  | x => x
def bodyWith (s4 : Stmt) : List Stmt := [bd 0, bd 1, sFor s4, bd 3]
theorem body_eq : defBody sLaw = bodyWith sB4 := by unfold sB4; rfl
theorem turn_end {K : PySem.W.Frag} (kt : Kits K) {D : Ends} {v0 v1 : Option V} {c : Int} {H : Hp} (q : ∀ H', Same H H' → D.nx [v0, v1, some (.int c)] H') : T4 K D [v0, v1, some (.int c)] H := by
  have hz : 100 ≤ sizeLine := by rw [sizeLine_eq]; decide
  refine ⟨(by show 2 ≤ sizeLine; omega), fun l1 g1 => ?_⟩
  refine ⟨(by show 2 ≤ sizeLine; omega), fun t1 g2 => ?_⟩
  refine fun d1 g3 => ?_
  refine ⟨(by show 1 ≤ sizeLine; omega), fun l2 g5 => ?_⟩
  refine ⟨(by show 7 ≤ sizeLine; omega), fun L g4 => ?_⟩
  have s1 := same_upd (o := .lst [V.str (Str.ofString "C"), V.str (Str.ofString "E")]) g1
  have s2 := same_upd (o := .tup [V.str (Str.ofString "C"), V.str (Str.ofString "E")]) g2
  have s3 := same_upd (o := .dK []) g3
  have s5 := same_upd (o := .lst [V.str (Str.ofString "CE")]) g5
  have s4 := same_upd (o := .lst [.non, .int 7, .bl true, .ref l1, .ref t1, .ref d1, .ref l2]) g4
  have e1 := s4 l1 _ (s5 l1 _ (s3 l1 _ (s2 l1 _ (upd_same (H := H) (a := l1) (o := .lst [V.str (Str.ofString "C"), V.str (Str.ofString "E")])))))
  have e2 := s4 t1 _ (s5 t1 _ (s3 t1 _ (upd_same (a := t1) (o := .tup [V.str (Str.ofString "C"), V.str (Str.ofString "E")]))))
  have e3 := s4 d1 _ (s5 d1 _ (upd_same (a := d1) (o := .dK [])))
  have e4 := s4 l2 _ (upd_same (a := l2) (o := .lst [V.str (Str.ofString "CE")]))
  have e5 := upd_same (H := upd (upd (upd (upd H l1 (.lst [V.str (Str.ofString "C"), V.str (Str.ofString "E")])) t1 (.tup [V.str (Str.ofString "C"), V.str (Str.ofString "E")])) d1 (.dK [])) l2 (.lst [V.str (Str.ofString "CE")])) (a := L) (o := .lst [.non, .int 7, .bl true, .ref l1, .ref t1, .ref d1, .ref l2])
  have sm := (((s1.trans s2).trans s3).trans s5).trans s4
  refine ⟨_, rfl, c, 7, rfl, rfl, (show (0 : Int) < 7 by decide), ?_⟩
  generalize upd (upd (upd (upd (upd H l1 (.lst [V.str (Str.ofString "C"), V.str (Str.ofString "E")])) t1 (.tup [V.str (Str.ofString "C"), V.str (Str.ofString "E")])) d1 (.dK [])) l2 (.lst [V.str (Str.ofString "CE")])) L (.lst [.non, .int 7, .bl true, .ref l1, .ref t1, .ref d1, .ref l2]) = H4 at e1 e2 e3 e4 e5 sm ⊢
  have hv : ∃ v, atI [V.non, .int 7, .bl true, .ref l1, .ref t1, .ref d1, .ref l2] (c % 7) = some v ∧ ∃ ty, TyOf K H4 v ty ∧ PySem.W.kitOne K ty (.type "str") = some false := by
    have hm : c % 7 = 0 ∨ c % 7 = 1 ∨ c % 7 = 2 ∨ c % 7 = 3 ∨ c % 7 = 4 ∨ c % 7 = 5 ∨ c % 7 = 6 := by omega
    rcases hm with e | e | e | e | e | e | e <;> rw [e]
    · exact ⟨_, atI_nat (j := 0) rfl, _, .non, kt.ns⟩
    · exact ⟨_, atI_nat (j := 1) rfl, _, .int 7, kt.is⟩
    · exact ⟨_, atI_nat (j := 2) rfl, _, .bl true, kt.bs⟩
    · exact ⟨_, atI_nat (j := 3) rfl, _, .lst e1, kt.ls⟩
    · exact ⟨_, atI_nat (j := 4) rfl, _, .tup e2, kt.ts⟩
    · exact ⟨_, atI_nat (j := 5) rfl, _, .dK e3, kt.ds⟩
    · exact ⟨_, atI_nat (j := 6) rfl, _, .lst e4, kt.ls⟩
  obtain ⟨v, hv, ty, hty, hk⟩ := hv
  refine ⟨L, _, _, v, rfl, rfl, SqL.of e5, hv, ?_⟩
  refine ⟨v, rfl, .inr ⟨ty, hty, hk, fun p5 H5 hp5 s5 h5 => ?_⟩⟩
  refine ⟨(by show 2 ≤ sizeLine; omega), fun p6 hp6 => ?_⟩
  have s6 := same_upd (o := .lst [.int 0, .int 3]) hp6
  refine ⟨_, _, dt03 (s6 p5 _ h5), dt03 upd_same, by decide, _, rfl, ?_⟩
  rw [if_pos rfl, eqv03]
  refine iteF ?_
  exact q _ ((sm.trans s5).trans s6)
section
variable {P : Program} {w : World} {K : PySem.W.Frag} {mg : Str → Option Value} {base : Heap}
theorem ok_law {f : Addr} {fd : FuncData} (U : Fun K "law" "law" sLaw f fd) (T : TxtN mg) (kt : Kits K) (GP : Fn P w K mg base 2 "_law_pot" ["_law_script", "_law_k"] (spPot K)) (GG : Fn P w K mg base 2 "_law_grown_signs" ["_law_pot_here"] spGrown)
    (GL : Fn P w K mg base 202 "_law_placed" ["_law_text"] spLPlaced) (GR : Fn P w K mg base 203 "_law_right" ["_law_text"] spRight) (GT : Fn P w K mg base 4 "_law_told" ["_law_text"] (spLTold K)) (GX : Fn P w K mg base 2 "_law_spoilt" ["_law_text", "_law_cell"] spSpoilt) : FnOk P w K mg base CX0 204 f fd ["_law_script"] (spLaw K) := by
  refine U.ok scLaw (fun vs H Q E h => ?_) (fun cdv A outer s H vs Q E hr h => ?_)
  · obtain ⟨a, ns, rfl, _⟩ := h
    rfl
  · obtain ⟨a, ns, rfl, hns, hnl, q⟩ := h
    have hr2 := hr.mono (show 2 ≤ 203 by decide)
    have hr4 := hr.mono (show 4 ≤ 203 by decide)
    have hrL := hr.mono (show 202 ≤ 203 by decide)
    obtain ⟨tt, hb, hrd⟩ : ∃ tt, PSs (cxOf CX0 P w K mg base ["_law_script", "_law_text", "_law_cell"] "law" (defScope sLaw) f cdv A outer s H E).nox (bodyWith sB4) tt ∧ tt { nx := fun _ H' => Q .non H', rt := Q } (start ["_law_script", "_law_text", "_law_cell"] [.ref a]) H := by
      refine ⟨_, (pss_cons (ps_set (i := 1) scLaw.nd rfl (Or.inl rfl) (pe_call GG.g hr2 rfl GG.m GG.k GG.b .nil pass0 (pa_cons (pe_call GP.g hr2 rfl GP.m GP.k GP.b .nil pass0 (pa_cons (pv 0) (pa_cons pe_int pa_nil))) pa_nil)))
        (pss_cons (ps_if (PW.pt (pw_or (pt_cmpR op_isN (pe_call GL.g hrL rfl GL.m GL.k GL.b .nil pass0 (pa_cons (pv 1) pa_nil)) pe_non (nomark _)) (pw_or1 (pt_not (pt_val (pe_call GR.g hr rfl GR.m GR.k GR.b .nil pass0 (pa_cons (pv 1) pa_nil))))))) (pss_one (ps_ret pe_bl)) pss_nil)
        (pss_cons (ps_for PassesOwn.never rfl (pi_list (pe_op op_cat (pe_slice sl_list (pv 0) (po_some pe_int) (po_some pe_int)) (pe_lst (pa_cons pe_int pa_nil)))) (pg_name (i := 2) scLaw.nd rfl (Or.inl rfl))
          (pss_cons (ps_if (pt_not (pt_val (pe_call GR.g hr rfl GR.m GR.k GR.b .nil pass0 (pa_cons (pe_call GX.g hr2 rfl GX.m GX.k GX.b .nil pass0 (pa_cons (pv 1) (pa_cons (pv 2) pa_nil))) pa_nil)))) (pss_one (ps_ret pe_bl)) pss_nil)
          (pss_one (pb4 T GT f cdv A outer s H E hr4))))
        (pss_one (ps_ret (pe_call GR.g hr rfl GR.m GR.k GR.b .nil pass0 (pa_cons (pv 1) pa_nil))))))), ?_⟩
      have hline := line5000
      refine ⟨_, rfl, a, ns, 0, rfl, hns, by decide, by decide, fun p H1 hp s1 hpp => ?_⟩
      refine ⟨p, potOf ns 0, rfl, hpp, mixed_ok ns (by decide) (by decide), fun l H2 sb ha hl hpl => ?_⟩
      have sH2 : Same H H2 := fun b o e => sb b o (ne_of_none e hp) (s1 b o e)
      obtain ⟨ls, e⟩ := hpl
      refine ⟨_, rfl, l, rfl, ha, by omega, ?_⟩
      rw [e]
      intro q0 xs0 H3 s3 hq0 hls0
      refine ⟨rfl, _, rfl, ?_⟩
      rw [decide_eq_false (by intro z; cases z)]
      refine iteF ?_
      refine ⟨_, rfl, l, rfl, ha, by omega, fun H4 s4 => ⟨_, rfl, ?_⟩⟩
      refine iteF ?_
      have sH4 := (sH2.trans s3).trans s4
      refine ⟨_, rfl, 1, rfl, 21, rfl, a, _, rfl, sqSame sH4 hns, fun ca gca => ?_⟩
      refine ⟨(by show 1 ≤ sizeLine; omega), fun cb gcb => ?_⟩
      have sa := same_upd (o := .lst (cutV (ns.map V.int) (some 1) (some 21))) gca
      have sb' := same_upd (o := .lst [.int 4]) gcb
      have lcut := cutV_length (ns.map V.int) (some 1) (some 21)
      rw [List.length_map] at lcut
      refine ⟨ca, cb, _, _, rfl, rfl, sb' ca _ upd_same, upd_same, (by show _ + 1 ≤ _; omega), fun e1 ge => ?_⟩
      have hint : ∀ x ∈ cutV (ns.map V.int) (some 1) (some 21) ++ [.int 4], ∃ c : Int, x = .int c := by
        intro x hx
        rcases List.mem_append.mp hx with z | z
        · obtain ⟨c, _, rfl⟩ := List.mem_map.mp (mem_cutV z)
          exact ⟨c, rfl⟩
        · exact ⟨4, List.mem_singleton.mp z⟩
      have he := upd_same (H := upd (upd H4 ca (.lst (cutV (ns.map V.int) (some 1) (some 21)))) cb (.lst [.int 4])) (a := e1) (o := .lst (cutV (ns.map V.int) (some 1) (some 21) ++ [.int 4]))
      generalize upd (upd (upd H4 ca (.lst (cutV (ns.map V.int) (some 1) (some 21)))) cb (.lst [.int 4])) e1 (.lst (cutV (ns.map V.int) (some 1) (some 21) ++ [.int 4])) = Hc at he ⊢
      generalize cutV (ns.map V.int) (some 1) (some 21) ++ [.int 4] = cs at he hint ⊢
      refine ⟨e1, rfl, ⟨_, SqL.of he⟩, for_list (K := K) (a := e1) (xs := cs) (fun i σ H' => ∃ v2, σ = [some (.ref a), some (.str (txt l)), v2] ∧ Same Hc H') ⟨none, rfl, fun _ _ z => z⟩ (fun i σ H' _ hi => ?_) ?_ ?_⟩
      · obtain ⟨_, _, sm⟩ := hi
        exact SqL.of (sm e1 _ he)
      · rintro i x σ H' hx ⟨v2, rfl, sm⟩
        obtain ⟨c, rfl⟩ := hint x (List.mem_of_getElem? hx)
        refine ⟨_, rfl, _, rfl, l, c, rfl, ha, hl, fun r H5 s5 har hlr => ?_⟩
        refine ⟨r, rfl, har, hlr, fun H6 s6 => ⟨_, rfl, ?_⟩⟩
        refine iteF ?_
        exact turn_end kt fun H7 s7 => ⟨_, rfl, ((sm.trans s5).trans s6).trans s7⟩
      · rintro σ H' ⟨v2, rfl, sm⟩
        exact ⟨_, rfl, l, rfl, ha, by omega, fun H8 _ => q H8⟩
    rw [← body_eq] at hb
    exact ⟨tt, hb, hrd⟩
end
end K51
end
section
set_option Elab.async false
set_option linter.all false
set_option maxRecDepth 100000
set_option maxHeartbeats 8000000
namespace K51
open PySem L2 K52
theorem len1 {us : List Value} (h : us.length = 1) : ∃ a, us = [a] := List.length_eq_one_iff.mp h
theorem len2 {us : List Value} (h : us.length = 2) : ∃ a b, us = [a, b] := by
  obtain ⟨a, r, rfl⟩ := List.exists_cons_of_length_eq_add_one h
  obtain ⟨b, rfl⟩ := len1 (Nat.succ.inj h)
  exact ⟨a, b, rfl⟩
theorem len3 {us : List Value} (h : us.length = 3) : ∃ a b c, us = [a, b, c] := by
  obtain ⟨a, r, rfl⟩ := List.exists_cons_of_length_eq_add_one h
  obtain ⟨b, c, rfl⟩ := len2 (Nat.succ.inj h)
  exact ⟨a, b, c, rfl⟩
/-- what stands at the top, of one def -/
structure Top (K : PySem.W.Frag) (mg : Str → Option Value) (x : Str) (st : Stmt) (f : Addr) (fd : FuncData) : Prop where
  u : Fun K x x st f fd
  m : mg x = some (.ref f)
theorem top_mk {K : PySem.W.Frag} {h : Heap} {mg : Str → Option Value} {x : Str} {st : Stmt} {f : Addr} {oc : Value} {od an : Option Addr} {osl : Array (Option Value)} {kV doc pm cdv ct : Value} (X : K.In h) (G : h.Ns mainGlobals mg)
    (a : PySem.W.nsIn K mainGlobals x = some (some (.ref f))) (l : K.lookup f = some ⟨oc, od, .func (PySem.W.fnOf x x (defArgs st) (defBody st) (defScope st) .none kV doc pm an cdv ct), osl⟩) (c : PySem.W.codeIn K cdv x = true) (k : PySem.W.keepIn K (.ref f) = true) :
    Top K mg x st f (PySem.W.fnOf x x (defArgs st) (defBody st) (defScope st) .none kV doc pm an cdv ct) := ⟨fun_mk (st := st) l c k, PySem.W.mg_of X G a⟩
theorem cls_mk {K : PySem.W.Frag} {C : Addr} {od : Option Addr} {cd : ClassData} {sl : Array (Option Value)} {bm : List Value} {k0 k1 k2 k3 k5 : Option Value} (l : K.lookup C = some ⟨.type "type", od, .cls cd, sl⟩) (m : cd.mro = .ref C :: bm)
    (e : sl.toList = [k0, k1, k2, k3, some (.builtin "ValueError.__new__"), k5]) (d : cd.hasDel = false) : L2.clsIn K C = some bm := by
  unfold L2.clsIn
  simp only [l, m, e, d]
  simp
section
variable {P : Program} {w : World} {K : PySem.W.Frag} {mg : Str → Option Value} {base : Heap}
theorem all_ok {f1 f2 f3 f4 f5 f6 f7 f8 f9 f10 f11 f12 f13 f14 f15 D S : Addr} {tl tf : Tok} {d1 d2 d3 d4 d5 d6 d7 d8 d9 d10 d11 d12 d13 d14 d15 : FuncData} (T : TxtN mg) (kt : Kits K) (Z : Kinds K mg D) (cg : Caught K mg S D) (hC : PySem.W.excIn K D bmV "ValueError.__new__" = true) (mL : mg "LEAST_LOOP" = some (.int 3 tl)) (mO : mg "FIRST_LOOP" = some (.int 2 tf))
    (U1 : Top K mg "taken_up" sTaken f1 d1)
    (U2 : Top K mg "letter_found" sFound f2 d2)
    (U3 : Top K mg "placed" sPlacedP f3 d3)
    (U4 : Top K mg "_law_at" sAt f4 d4)
    (U5 : Top K mg "_law_pot" sPot f5 d5)
    (U6 : Top K mg "_law_digit" sDigit f6 d6)
    (U7 : Top K mg "_law_from" sFrom f7 d7)
    (U8 : Top K mg "_law_placed" sPlaced f8 d8)
    (U9 : Top K mg "_law_kinds" sKinds f9 d9)
    (U10 : Top K mg "_law_grown_signs" sGrown f10 d10)
    (U11 : Top K mg "_law_string" sString f11 d11)
    (U12 : Top K mg "_law_spoilt" sSpoilt f12 d12)
    (U13 : Top K mg "_law_told" sLTold f13 d13)
    (U14 : Top K mg "_law_right" sRight f14 d14)
    (U15 : Top K mg "law" sLaw f15 d15)
    : FnOk P w K mg base CX0 204 f15 d15 ["_law_script"] (spLaw K) := by
  have b1 := U1.u.binds (ps := ["lengths"]) fun _ _ _ _ _ _ us hl => by obtain ⟨a, rfl⟩ := len1 hl; rfl
  have b2 := U2.u.binds (ps := ["sign", "lengths"]) fun _ _ _ _ _ _ us hl => by obtain ⟨a, b, rfl⟩ := len2 hl; rfl
  have b3 := U3.u.binds (ps := ["text"]) fun _ _ _ _ _ _ us hl => by obtain ⟨a, rfl⟩ := len1 hl; rfl
  have b4 := U4.u.binds (ps := ["_law_script", "_law_k"]) fun _ _ _ _ _ _ us hl => by obtain ⟨a, b, rfl⟩ := len2 hl; rfl
  have b5 := U5.u.binds (ps := ["_law_script", "_law_k"]) fun _ _ _ _ _ _ us hl => by obtain ⟨a, b, rfl⟩ := len2 hl; rfl
  have b6 := U6.u.binds (ps := ["_law_pot_here", "_law_base"]) fun _ _ _ _ _ _ us hl => by obtain ⟨a, b, rfl⟩ := len2 hl; rfl
  have b7 := U7.u.binds (ps := ["_law_text", "_law_at_here"]) fun _ _ _ _ _ _ us hl => by obtain ⟨a, b, rfl⟩ := len2 hl; rfl
  have b8 := U8.u.binds (ps := ["_law_text"]) fun _ _ _ _ _ _ us hl => by obtain ⟨a, rfl⟩ := len1 hl; rfl
  have b9 := U9.u.binds (ps := ["_law_e"]) fun _ _ _ _ _ _ us hl => by obtain ⟨a, rfl⟩ := len1 hl; rfl
  have b10 := U10.u.binds (ps := ["_law_pot_here"]) fun _ _ _ _ _ _ us hl => by obtain ⟨a, rfl⟩ := len1 hl; rfl
  have b11 := U11.u.binds (ps := ["_law_cell", "_law_many", "_law_signs"]) fun _ _ _ _ _ _ us hl => by obtain ⟨a, b, c, rfl⟩ := len3 hl; rfl
  have b12 := U12.u.binds (ps := ["_law_text", "_law_cell"]) fun _ _ _ _ _ _ us hl => by obtain ⟨a, b, rfl⟩ := len2 hl; rfl
  have b13 := U13.u.binds (ps := ["_law_text"]) fun _ _ _ _ _ _ us hl => by obtain ⟨a, rfl⟩ := len1 hl; rfl
  have b14 := U14.u.binds (ps := ["_law_text"]) fun _ _ _ _ _ _ us hl => by obtain ⟨a, rfl⟩ := len1 hl; rfl
  have g1 : FnOk P w K mg base (CX1 P w) 1 f1 d1 ["lengths"] (spTaken D) := ok_taken U1.u Z.text.1 hC
  have g2 : FnOk P w K mg base (CX1 P w) 2 f2 d2 ["sign", "lengths"] (spFound D) := ok_found U2.u g1 b1 U1.m U1.u.kp mL Z.text.1 hC
  have g3 : FnOk P w K mg base (CX1 P w) 3 f3 d3 ["text"] (spPlacedP K D) := ok_placedP U3.u T g2 b2 U2.m U2.u.kp mL mO Z.text.1 hC
  have g5 : FnOk P w K mg base CX0 2 f5 d5 ["_law_script", "_law_k"] (spPot K) := ok_pot U5.u U4.u b4 U4.m U4.u.kp T
  have g6 : FnOk P w K mg base CX0 1 f6 d6 ["_law_pot_here", "_law_base"] spDigit := ok_digit U6.u
  have g7 : FnOk P w K mg base CX0 201 f7 d7 ["_law_text", "_law_at_here"] (spFrom 200) := ok_from U7.u T b7 U7.m U7.u.kp 200
  have g8 : FnOk P w K mg base CX0 202 f8 d8 ["_law_text"] spLPlaced := ok_lplaced U8.u T g7 b7 U7.m U7.u.kp
  have g9 : ∀ x, FnOkH P w K mg base 1 f9 d9 ["_law_e"] x (spKinds x D) := fun x => ok_kinds U9.u T Z
  have g10 : FnOk P w K mg base CX0 2 f10 d10 ["_law_pot_here"] spGrown := ok_grown U10.u T g6 b6 U6.m U6.u.kp
  have g11 : FnOk P w K mg base CX0 1 f11 d11 ["_law_cell", "_law_many", "_law_signs"] spString := ok_string U11.u T
  have g12 : FnOk P w K mg base CX0 2 f12 d12 ["_law_text", "_law_cell"] spSpoilt := ok_spoilt U12.u T g11 b11 U11.m U11.u.kp
  have g13 : FnOk P w K mg base CX0 4 f13 d13 ["_law_text"] (spLTold K) := ok_ltold U13.u g3 b3 U3.m U3.u.kp g9 b9 U9.m U9.u.kp cg
  have g14 : FnOk P w K mg base CX0 203 f14 d14 ["_law_text"] spRight := ok_right U14.u T kt g8 b8 U8.m U8.u.kp g13 b13 U13.m U13.u.kp
  exact ok_law U15.u T kt ⟨f5, d5, g5, b5, U5.m, U5.u.kp⟩ ⟨f10, d10, g10, b10, U10.m, U10.u.kp⟩ ⟨f8, d8, g8, b8, U8.m, U8.u.kp⟩ ⟨f14, d14, g14, b14, U14.m, U14.u.kp⟩ ⟨f13, d13, g13, b13, U13.m, U13.u.kp⟩ ⟨f12, d12, g12, b12, U12.m, U12.u.kp⟩
end
theorem all_mk {l : PySem.W.OpenLaw} {w : World} {K : PySem.W.Frag} {h : Heap} {mg : Str → Option Value} {fa D S : Addr} {tl tf : Tok} (X : K.In h) (G : h.Ns mainGlobals mg) (hfa : mg "law" = some (.ref fa))
    {f1 f2 f3 f4 f5 f6 f7 f8 f9 f10 f11 f12 f13 f14 f15 : Addr} {od1 an1 od2 an2 od3 an3 od4 an4 od5 an5 od6 an6 od7 an7 od8 an8 od9 an9 od10 an10 od11 an11 od12 an12 od13 an13 od14 an14 od15 an15 : Option Addr} {sl1 sl2 sl3 sl4 sl5 sl6 sl7 sl8 sl9 sl10 sl11 sl12 sl13 sl14 sl15 : Array (Option Value)} {oc1 kV1 dc1 pm1 cd1 ct1 oc2 kV2 dc2 pm2 cd2 ct2 oc3 kV3 dc3 pm3 cd3 ct3 oc4 kV4 dc4 pm4 cd4 ct4 oc5 kV5 dc5 pm5 cd5 ct5 oc6 kV6 dc6 pm6 cd6 ct6 oc7 kV7 dc7 pm7 cd7 ct7 oc8 kV8 dc8 pm8 cd8 ct8 oc9 kV9 dc9 pm9 cd9 ct9 oc10 kV10 dc10 pm10 cd10 ct10 oc11 kV11 dc11 pm11 cd11 ct11 oc12 kV12 dc12 pm12 cd12 ct12 oc13 kV13 dc13 pm13 cd13 ct13 oc14 kV14 dc14 pm14 cd14 ct14 oc15 kV15 dc15 pm15 cd15 ct15 : Value}
    {C_corner C_side C_code C_word C_caps C_letter C_skin C_deed C_past C_spoilt C_taken C_gone C_many : Addr}
    {odS odD : Option Addr} {slS slD : Array (Option Value)} {cS cD : ClassData} {bmS bmD : List Value} {s0 s1 s2 s3 s5 e0 e1 e2 e3 e5 : Option Value}
    (a1 : PySem.W.nsIn K mainGlobals "taken_up" = some (some (.ref f1))) (l1 : K.lookup f1 = some ⟨oc1, od1, .func (PySem.W.fnOf "taken_up" "taken_up" (defArgs sTaken) (defBody sTaken) (defScope sTaken) .none kV1 dc1 pm1 an1 cd1 ct1), sl1⟩) (c1 : PySem.W.codeIn K cd1 "taken_up" = true) (k1 : PySem.W.keepIn K (.ref f1) = true)
    (a2 : PySem.W.nsIn K mainGlobals "letter_found" = some (some (.ref f2))) (l2 : K.lookup f2 = some ⟨oc2, od2, .func (PySem.W.fnOf "letter_found" "letter_found" (defArgs sFound) (defBody sFound) (defScope sFound) .none kV2 dc2 pm2 an2 cd2 ct2), sl2⟩) (c2 : PySem.W.codeIn K cd2 "letter_found" = true) (k2 : PySem.W.keepIn K (.ref f2) = true)
    (a3 : PySem.W.nsIn K mainGlobals "placed" = some (some (.ref f3))) (l3 : K.lookup f3 = some ⟨oc3, od3, .func (PySem.W.fnOf "placed" "placed" (defArgs sPlacedP) (defBody sPlacedP) (defScope sPlacedP) .none kV3 dc3 pm3 an3 cd3 ct3), sl3⟩) (c3 : PySem.W.codeIn K cd3 "placed" = true) (k3 : PySem.W.keepIn K (.ref f3) = true)
    (a4 : PySem.W.nsIn K mainGlobals "_law_at" = some (some (.ref f4))) (l4 : K.lookup f4 = some ⟨oc4, od4, .func (PySem.W.fnOf "_law_at" "_law_at" (defArgs sAt) (defBody sAt) (defScope sAt) .none kV4 dc4 pm4 an4 cd4 ct4), sl4⟩) (c4 : PySem.W.codeIn K cd4 "_law_at" = true) (k4 : PySem.W.keepIn K (.ref f4) = true)
    (a5 : PySem.W.nsIn K mainGlobals "_law_pot" = some (some (.ref f5))) (l5 : K.lookup f5 = some ⟨oc5, od5, .func (PySem.W.fnOf "_law_pot" "_law_pot" (defArgs sPot) (defBody sPot) (defScope sPot) .none kV5 dc5 pm5 an5 cd5 ct5), sl5⟩) (c5 : PySem.W.codeIn K cd5 "_law_pot" = true) (k5 : PySem.W.keepIn K (.ref f5) = true)
    (a6 : PySem.W.nsIn K mainGlobals "_law_digit" = some (some (.ref f6))) (l6 : K.lookup f6 = some ⟨oc6, od6, .func (PySem.W.fnOf "_law_digit" "_law_digit" (defArgs sDigit) (defBody sDigit) (defScope sDigit) .none kV6 dc6 pm6 an6 cd6 ct6), sl6⟩) (c6 : PySem.W.codeIn K cd6 "_law_digit" = true) (k6 : PySem.W.keepIn K (.ref f6) = true)
    (a7 : PySem.W.nsIn K mainGlobals "_law_from" = some (some (.ref f7))) (l7 : K.lookup f7 = some ⟨oc7, od7, .func (PySem.W.fnOf "_law_from" "_law_from" (defArgs sFrom) (defBody sFrom) (defScope sFrom) .none kV7 dc7 pm7 an7 cd7 ct7), sl7⟩) (c7 : PySem.W.codeIn K cd7 "_law_from" = true) (k7 : PySem.W.keepIn K (.ref f7) = true)
    (a8 : PySem.W.nsIn K mainGlobals "_law_placed" = some (some (.ref f8))) (l8 : K.lookup f8 = some ⟨oc8, od8, .func (PySem.W.fnOf "_law_placed" "_law_placed" (defArgs sPlaced) (defBody sPlaced) (defScope sPlaced) .none kV8 dc8 pm8 an8 cd8 ct8), sl8⟩) (c8 : PySem.W.codeIn K cd8 "_law_placed" = true) (k8 : PySem.W.keepIn K (.ref f8) = true)
    (a9 : PySem.W.nsIn K mainGlobals "_law_kinds" = some (some (.ref f9))) (l9 : K.lookup f9 = some ⟨oc9, od9, .func (PySem.W.fnOf "_law_kinds" "_law_kinds" (defArgs sKinds) (defBody sKinds) (defScope sKinds) .none kV9 dc9 pm9 an9 cd9 ct9), sl9⟩) (c9 : PySem.W.codeIn K cd9 "_law_kinds" = true) (k9 : PySem.W.keepIn K (.ref f9) = true)
    (a10 : PySem.W.nsIn K mainGlobals "_law_grown_signs" = some (some (.ref f10))) (l10 : K.lookup f10 = some ⟨oc10, od10, .func (PySem.W.fnOf "_law_grown_signs" "_law_grown_signs" (defArgs sGrown) (defBody sGrown) (defScope sGrown) .none kV10 dc10 pm10 an10 cd10 ct10), sl10⟩) (c10 : PySem.W.codeIn K cd10 "_law_grown_signs" = true) (k10 : PySem.W.keepIn K (.ref f10) = true)
    (a11 : PySem.W.nsIn K mainGlobals "_law_string" = some (some (.ref f11))) (l11 : K.lookup f11 = some ⟨oc11, od11, .func (PySem.W.fnOf "_law_string" "_law_string" (defArgs sString) (defBody sString) (defScope sString) .none kV11 dc11 pm11 an11 cd11 ct11), sl11⟩) (c11 : PySem.W.codeIn K cd11 "_law_string" = true) (k11 : PySem.W.keepIn K (.ref f11) = true)
    (a12 : PySem.W.nsIn K mainGlobals "_law_spoilt" = some (some (.ref f12))) (l12 : K.lookup f12 = some ⟨oc12, od12, .func (PySem.W.fnOf "_law_spoilt" "_law_spoilt" (defArgs sSpoilt) (defBody sSpoilt) (defScope sSpoilt) .none kV12 dc12 pm12 an12 cd12 ct12), sl12⟩) (c12 : PySem.W.codeIn K cd12 "_law_spoilt" = true) (k12 : PySem.W.keepIn K (.ref f12) = true)
    (a13 : PySem.W.nsIn K mainGlobals "_law_told" = some (some (.ref f13))) (l13 : K.lookup f13 = some ⟨oc13, od13, .func (PySem.W.fnOf "_law_told" "_law_told" (defArgs sLTold) (defBody sLTold) (defScope sLTold) .none kV13 dc13 pm13 an13 cd13 ct13), sl13⟩) (c13 : PySem.W.codeIn K cd13 "_law_told" = true) (k13 : PySem.W.keepIn K (.ref f13) = true)
    (a14 : PySem.W.nsIn K mainGlobals "_law_right" = some (some (.ref f14))) (l14 : K.lookup f14 = some ⟨oc14, od14, .func (PySem.W.fnOf "_law_right" "_law_right" (defArgs sRight) (defBody sRight) (defScope sRight) .none kV14 dc14 pm14 an14 cd14 ct14), sl14⟩) (c14 : PySem.W.codeIn K cd14 "_law_right" = true) (k14 : PySem.W.keepIn K (.ref f14) = true)
    (a15 : PySem.W.nsIn K mainGlobals "law" = some (some (.ref f15))) (l15 : K.lookup f15 = some ⟨oc15, od15, .func (PySem.W.fnOf "law" "law" (defArgs sLaw) (defBody sLaw) (defScope sLaw) .none kV15 dc15 pm15 an15 cd15 ct15), sl15⟩) (c15 : PySem.W.codeIn K cd15 "law" = true) (k15 : PySem.W.keepIn K (.ref f15) = true)
    (z_len : PySem.W.nsIn K mainGlobals "len" = some none)
    (z_int : PySem.W.nsIn K mainGlobals "int" = some none)
    (z_str : PySem.W.nsIn K mainGlobals "str" = some none)
    (z_isinstance : PySem.W.nsIn K mainGlobals "isinstance" = some none)
    (z_range : PySem.W.nsIn K mainGlobals "range" = some none)
    (z_list : PySem.W.nsIn K mainGlobals "list" = some none)
    (z_tuple : PySem.W.nsIn K mainGlobals "tuple" = some none)
    (z_bool : PySem.W.nsIn K mainGlobals "bool" = some none)
    (z_all : PySem.W.nsIn K mainGlobals "all" = some none)
    (z_ValueError : PySem.W.nsIn K mainGlobals "ValueError" = some none)
    (z_reversed : PySem.W.nsIn K mainGlobals "reversed" = some none)
    (z_enumerate : PySem.W.nsIn K mainGlobals "enumerate" = some none)
    (aL : PySem.W.nsIn K mainGlobals "LEAST_LOOP" = some (some (.int 3 tl))) (aO : PySem.W.nsIn K mainGlobals "FIRST_LOOP" = some (some (.int 2 tf)))
    (aD : PySem.W.nsIn K mainGlobals "NoText" = some (some (.ref D))) (xD : PySem.W.excIn K D bmV "ValueError.__new__" = true) (lD : K.lookup D = some ⟨.type "type", odD, .cls cD, slD⟩) (mD : cD.mro = .ref D :: bmD) (sD : slD.toList = [e0, e1, e2, e3, some (.builtin "ValueError.__new__"), e5]) (hD : cD.hasDel = false)
    (aS : PySem.W.nsIn K mainGlobals "ShapeError" = some (some (.ref S))) (lS : K.lookup S = some ⟨.type "type", odS, .cls cS, slS⟩) (mS : cS.mro = .ref S :: bmS) (sS : slS.toList = [s0, s1, s2, s3, some (.builtin "ValueError.__new__"), s5]) (hS : cS.hasDel = false)
    (q1 : bmS.contains (.type "BaseException") = true) (q2 : (Value.ref D :: bmD).contains (.ref S) = true)
    (x1 : PySem.W.findIn K (.ref D) "__getattribute__" = some (some (.builtin "BaseException.__getattribute__")))
    (x2 : PySem.W.findIn K (.ref D) "__getattr__" = some none)
    (x3 : PySem.W.findIn K (.ref D) "__class__" = some (some (.builtin "object.__class__")))
    (x4 : PySem.W.specialIn K (.builtin "object.__class__") "__get__" = some (some (.builtin "getset_descriptor.__get__")))
    (x5 : PySem.W.takesIn K (.builtin "object.__class__") = some true)
    (x6 : PySem.W.mroIn K D (.type "object") = some true)
    (x7 : PySem.W.mroIn K D (.type "BaseException") = some true)
    (v1 : PySem.W.kitOne K (.ref D) (.type "ValueError") = some true) (v2 : PySem.W.kitOne K (.ref D) (.ref D) = some true)
    (n_corner : PySem.W.nsIn K mainGlobals "NoCorner" = some (some (.ref C_corner))) (o_corner : PySem.W.kitOne K (.ref D) (.ref C_corner) = some false)
    (n_side : PySem.W.nsIn K mainGlobals "NoSide" = some (some (.ref C_side))) (o_side : PySem.W.kitOne K (.ref D) (.ref C_side) = some false)
    (n_code : PySem.W.nsIn K mainGlobals "NoCode" = some (some (.ref C_code))) (o_code : PySem.W.kitOne K (.ref D) (.ref C_code) = some false)
    (n_word : PySem.W.nsIn K mainGlobals "NoWord" = some (some (.ref C_word))) (o_word : PySem.W.kitOne K (.ref D) (.ref C_word) = some false)
    (n_caps : PySem.W.nsIn K mainGlobals "NoCaps" = some (some (.ref C_caps))) (o_caps : PySem.W.kitOne K (.ref D) (.ref C_caps) = some false)
    (n_letter : PySem.W.nsIn K mainGlobals "NoLetter" = some (some (.ref C_letter))) (o_letter : PySem.W.kitOne K (.ref D) (.ref C_letter) = some false)
    (n_skin : PySem.W.nsIn K mainGlobals "NoSkin" = some (some (.ref C_skin))) (o_skin : PySem.W.kitOne K (.ref D) (.ref C_skin) = some false)
    (n_deed : PySem.W.nsIn K mainGlobals "NoDeed" = some (some (.ref C_deed))) (o_deed : PySem.W.kitOne K (.ref D) (.ref C_deed) = some false)
    (n_past : PySem.W.nsIn K mainGlobals "NoPast" = some (some (.ref C_past))) (o_past : PySem.W.kitOne K (.ref D) (.ref C_past) = some false)
    (n_spoilt : PySem.W.nsIn K mainGlobals "Spoilt" = some (some (.ref C_spoilt))) (o_spoilt : PySem.W.kitOne K (.ref D) (.ref C_spoilt) = some false)
    (n_taken : PySem.W.nsIn K mainGlobals "Taken" = some (some (.ref C_taken))) (o_taken : PySem.W.kitOne K (.ref D) (.ref C_taken) = some false)
    (n_gone : PySem.W.nsIn K mainGlobals "Gone" = some (some (.ref C_gone))) (o_gone : PySem.W.kitOne K (.ref D) (.ref C_gone) = some false)
    (n_many : PySem.W.nsIn K mainGlobals "TooMany" = some (some (.ref C_many))) (o_many : PySem.W.kitOne K (.ref D) (.ref C_many) = some false)
    (t_ll : PySem.W.kitOne K (.type "list") (.type "list") = some true)
    (t_tt : PySem.W.kitOne K (.type "tuple") (.type "tuple") = some true)
    (t_sb : PySem.W.kitOne K (.type "str") (.type "bool") = some false)
    (t_ib : PySem.W.kitOne K (.type "int") (.type "bool") = some false)
    (t_ns : PySem.W.kitOne K (.type "NoneType") (.type "str") = some false)
    (t_is : PySem.W.kitOne K (.type "int") (.type "str") = some false)
    (t_bs : PySem.W.kitOne K (.type "bool") (.type "str") = some false)
    (t_ls : PySem.W.kitOne K (.type "list") (.type "str") = some false)
    (t_ts : PySem.W.kitOne K (.type "tuple") (.type "str") = some false)
    (t_ds : PySem.W.kitOne K (.type "dict") (.type "str") = some false)
    : ∃ fd : FuncData, (∀ (s : Shared) (v : Value), BindsTo s fd ⟨[v], []⟩ [("_law_script", v)]) ∧ ∀ base : Heap, K.In base → base.Ns mainGlobals mg → FnOk l.prog w K mg base CX0 204 fa fd ["_law_script"] (spLaw K) := by
  have e := hfa.symm.trans (PySem.W.mg_of X G a15)
  cases e
  have T : TxtN mg := ⟨PySem.W.mg_none_of X G z_len, PySem.W.mg_none_of X G z_int, PySem.W.mg_none_of X G z_str, PySem.W.mg_none_of X G z_isinstance, PySem.W.mg_none_of X G z_range, PySem.W.mg_none_of X G z_list, PySem.W.mg_none_of X G z_tuple, PySem.W.mg_none_of X G z_bool, PySem.W.mg_none_of X G z_all, PySem.W.mg_none_of X G z_ValueError, PySem.W.mg_none_of X G z_reversed, PySem.W.mg_none_of X G z_enumerate⟩
  have kt : Kits K := ⟨t_ll, t_tt, t_sb, t_ib, t_ns, t_is, t_bs, t_ls, t_ts, t_ds⟩
  have xc : ExcCls K D := ⟨x1, x2, x3, x4, x5, x6, x7, by unfold PySem.W.clsIn; rw [lD]; rfl⟩
  have Z : Kinds K mg D := ⟨xc, v1, ⟨C_corner, PySem.W.mg_of X G n_corner, o_corner⟩, ⟨C_side, PySem.W.mg_of X G n_side, o_side⟩, ⟨PySem.W.mg_of X G aD, v2⟩, ⟨C_code, PySem.W.mg_of X G n_code, o_code⟩, ⟨C_word, PySem.W.mg_of X G n_word, o_word⟩, ⟨C_caps, PySem.W.mg_of X G n_caps, o_caps⟩, ⟨C_letter, PySem.W.mg_of X G n_letter, o_letter⟩, ⟨C_skin, PySem.W.mg_of X G n_skin, o_skin⟩, ⟨C_deed, PySem.W.mg_of X G n_deed, o_deed⟩, ⟨C_past, PySem.W.mg_of X G n_past, o_past⟩, ⟨C_spoilt, PySem.W.mg_of X G n_spoilt, o_spoilt⟩, ⟨C_taken, PySem.W.mg_of X G n_taken, o_taken⟩, ⟨C_gone, PySem.W.mg_of X G n_gone, o_gone⟩, ⟨C_many, PySem.W.mg_of X G n_many, o_many⟩⟩
  have cg : Caught K mg S D := ⟨PySem.W.mg_of X G aS, ⟨bmS, cls_mk lS mS sS hS, q1⟩, ⟨bmD, cls_mk lD mD sD hD, q2⟩⟩
  exact ⟨PySem.W.fnOf "law" "law" (defArgs sLaw) (defBody sLaw) (defScope sLaw) .none kV15 dc15 pm15 an15 cd15 ct15, fun s v => .of_eq rfl, fun base _ _ => all_ok T kt Z cg xD (PySem.W.mg_of X G aL) (PySem.W.mg_of X G aO)
    (top_mk (st := sTaken) X G a1 l1 c1 k1)
    (top_mk (st := sFound) X G a2 l2 c2 k2)
    (top_mk (st := sPlacedP) X G a3 l3 c3 k3)
    (top_mk (st := sAt) X G a4 l4 c4 k4)
    (top_mk (st := sPot) X G a5 l5 c5 k5)
    (top_mk (st := sDigit) X G a6 l6 c6 k6)
    (top_mk (st := sFrom) X G a7 l7 c7 k7)
    (top_mk (st := sPlaced) X G a8 l8 c8 k8)
    (top_mk (st := sKinds) X G a9 l9 c9 k9)
    (top_mk (st := sGrown) X G a10 l10 c10 k10)
    (top_mk (st := sString) X G a11 l11 c11 k11)
    (top_mk (st := sSpoilt) X G a12 l12 c12 k12)
    (top_mk (st := sLTold) X G a13 l13 c13 k13)
    (top_mk (st := sRight) X G a14 l14 c14 k14)
    (top_mk (st := sLaw) X G a15 l15 c15 k15)⟩
theorem walk {l : PySem.W.OpenLaw} {q : Program} {loose : List Str} {XP : (Str → Option Value) → Heap → Prop} {YP : World → Heap → Prop} {d : DefRec} {K : Params → PySem.W.Frag} (hn : l.most = some 63) (hdf : d.params.defaults = [])
    (hY : ∀ (w : World) (h : Heap), YP w h → (K w.params).In h)
    (F : ∀ (w : World) (mg : Str → Option Value) (fa : Addr) (h : Heap), (K w.params).In h → h.Ns mainGlobals mg → mg d.name = some (.ref fa) →
      ∃ fd : FuncData, (∀ (s : Shared) (u : Value), BindsTo s fd ⟨[u], []⟩ [("_law_script", u)]) ∧ ∀ base : Heap, (K w.params).In base → base.Ns mainGlobals mg → FnOk l.prog w (K w.params) mg base CX0 204 fa fd ["_law_script"] (spLaw (K w.params))) :
    PySem.W.WalkO q loose XP YP l.row.toRowW d [] (fun f vs => PySem.call f vs) :=
  L2.walk_of (n := 63) (k := 204) (x := "_law_script") (CX := fun _ => CX0) (sp := fun w => spLaw (K w.params)) hn (by decide) hdf ⟨rfl, by decide, by decide⟩ hY F (fun _ _ a ns hl _ hS => ⟨a, ns, rfl, hS, hl, fun _ => rfl⟩) fun _ _ _ _ _ z => z
end K51
end
section
set_option Elab.async false
set_option linter.all false
set_option maxRecDepth 100000
namespace K51
open PySem L2 PySem.W
noncomputable def kf : Params → Frag := fun P =>
  (nat_lit 3, ⟨(.type "dict"), none, (.dict #[(PySem.DictEntry.mk (PySem.PyData.keyHash P "__name__") (.str "__name__" 165) (.str "law_shapestring_k52_places_from_signs" 491)), (PySem.DictEntry.mk (PySem.PyData.keyHash P "__doc__") (.str "__doc__" 166) .none), (PySem.DictEntry.mk (PySem.PyData.keyHash P "__package__") (.str "__package__" 167) .none), (PySem.DictEntry.mk (PySem.PyData.keyHash P "__loader__") (.str "__loader__" 168) (.builtin "__main__.__loader__#opaque")), (PySem.DictEntry.mk (PySem.PyData.keyHash P "__spec__") (.str "__spec__" 169) .none), (PySem.DictEntry.mk (PySem.PyData.keyHash P "__annotations__") (.str "__annotations__" 170) (.ref 6)), (PySem.DictEntry.mk (PySem.PyData.keyHash P "__builtins__") (.str "__builtins__" 171) (.ref 4)), (PySem.DictEntry.mk (PySem.PyData.keyHash P "__file__") (.str "__file__" 173) (.str "/claim/cut.py" 172)), (PySem.DictEntry.mk (PySem.PyData.keyHash P "__cached__") (.str "__cached__" 174) .none), (PySem.DictEntry.mk (PySem.PyData.keyHash P "ShapeError") (.str "ShapeError" 206) (.ref 24)), (PySem.DictEntry.mk (PySem.PyData.keyHash P "TooMany") (.str "TooMany" 222) (.ref 37)), (PySem.DictEntry.mk (PySem.PyData.keyHash P "NoText") (.str "NoText" 238) (.ref 49)), (PySem.DictEntry.mk (PySem.PyData.keyHash P "NoCorner") (.str "NoCorner" 254) (.ref 61)), (PySem.DictEntry.mk (PySem.PyData.keyHash P "NoSide") (.str "NoSide" 270) (.ref 73)), (PySem.DictEntry.mk (PySem.PyData.keyHash P "NoLetter") (.str "NoLetter" 286) (.ref 85)), (PySem.DictEntry.mk (PySem.PyData.keyHash P "NoCaps") (.str "NoCaps" 302) (.ref 97)), (PySem.DictEntry.mk (PySem.PyData.keyHash P "NoCode") (.str "NoCode" 318) (.ref 109)), (PySem.DictEntry.mk (PySem.PyData.keyHash P "NoDeed") (.str "NoDeed" 334) (.ref 121)), (PySem.DictEntry.mk (PySem.PyData.keyHash P "Taken") (.str "Taken" 350) (.ref 133)), (PySem.DictEntry.mk (PySem.PyData.keyHash P "Gone") (.str "Gone" 366) (.ref 145)), (PySem.DictEntry.mk (PySem.PyData.keyHash P "NoPast") (.str "NoPast" 382) (.ref 157)), (PySem.DictEntry.mk (PySem.PyData.keyHash P "NoSkin") (.str "NoSkin" 407) (.ref 176)), (PySem.DictEntry.mk (PySem.PyData.keyHash P "Spoilt") (.str "Spoilt" 432) (.ref 195)), (PySem.DictEntry.mk (PySem.PyData.keyHash P "NoWord") (.str "NoWord" 457) (.ref 214)), (PySem.DictEntry.mk (PySem.PyData.keyHash P "LEAST_LOOP") (.str "LEAST_LOOP" 461) (.int 3 460)), (PySem.DictEntry.mk (PySem.PyData.keyHash P "FIRST_LOOP") (.str "FIRST_LOOP" 463) (.int 2 462)), (PySem.DictEntry.mk (PySem.PyData.keyHash P "taken_up") (.str "taken_up" 470) (.ref 223)), (PySem.DictEntry.mk (PySem.PyData.keyHash P "letter_found") (.str "letter_found" 479) (.ref 230)), (PySem.DictEntry.mk (PySem.PyData.keyHash P "placed") (.str "placed" 490) (.ref 237)), (PySem.DictEntry.mk (PySem.PyData.keyHash P "_law_at") (.str "_law_at" 500) (.ref 244)), (PySem.DictEntry.mk (PySem.PyData.keyHash P "_law_pot") (.str "_law_pot" 511) (.ref 251)), (PySem.DictEntry.mk (PySem.PyData.keyHash P "_law_digit") (.str "_law_digit" 520) (.ref 258)), (PySem.DictEntry.mk (PySem.PyData.keyHash P "_law_from") (.str "_law_from" 530) (.ref 265)), (PySem.DictEntry.mk (PySem.PyData.keyHash P "_law_placed") (.str "_law_placed" 538) (.ref 272)), (PySem.DictEntry.mk (PySem.PyData.keyHash P "_law_kinds") (.str "_law_kinds" 544) (.ref 277)), (PySem.DictEntry.mk (PySem.PyData.keyHash P "_law_grown_signs") (.str "_law_grown_signs" 557) (.ref 284)), (PySem.DictEntry.mk (PySem.PyData.keyHash P "_law_string") (.str "_law_string" 568) (.ref 291)), (PySem.DictEntry.mk (PySem.PyData.keyHash P "_law_spoilt") (.str "_law_spoilt" 579) (.ref 298)), (PySem.DictEntry.mk (PySem.PyData.keyHash P "_law_told") (.str "_law_told" 588) (.ref 305)), (PySem.DictEntry.mk (PySem.PyData.keyHash P "_law_right") (.str "_law_right" 594) (.ref 310)), (PySem.DictEntry.mk (PySem.PyData.keyHash P "law") (.str "law" 603) (.ref 317))] 41), #[]⟩) ::
  (nat_lit 23, ⟨(.type "dict"), none, (.dict #[(PySem.DictEntry.mk (PySem.PyData.keyHash P "__module__") (.str "__module__" 196) (.str "shapestring.errors" 187)), (PySem.DictEntry.mk (PySem.PyData.keyHash P "__firstlineno__") (.str "__firstlineno__" 200) (.int 2 199)), (PySem.DictEntry.mk (PySem.PyData.keyHash P "__static_attributes__") (.str "__static_attributes__" 201) (.ref 22)), (PySem.DictEntry.mk (PySem.PyData.keyHash P "__weakref__") (.str "__weakref__" 203) (.ref 25)), (PySem.DictEntry.mk (PySem.PyData.keyHash P "__doc__") (.str "__doc__" 204) .none)] 3), #[]⟩) ::
  (nat_lit 24, ⟨(.type "type"), none, (.cls (PySem.ClassData.mk "ShapeError" [(.type "ValueError")] [(.ref 24), (.type "ValueError"), (.type "Exception"), (.type "BaseException"), (.type "object")] 23 "ShapeError" Bool.true [] [(.ref 37), (.ref 49), (.ref 61), (.ref 73), (.ref 85), (.ref 97), (.ref 109), (.ref 121), (.ref 133), (.ref 145), (.ref 157), (.ref 176), (.ref 195), (.ref 214)] Bool.false none Bool.false)), #[(Option.some (.ref 15)), none, (Option.some (.str "ShapeError" 189)), (Option.some (.str "ShapeError" 197)), (Option.some (.builtin "ValueError.__new__")), (Option.some (.bool Bool.true))]⟩) ::
  (nat_lit 36, ⟨(.type "dict"), none, (.dict #[(PySem.DictEntry.mk (PySem.PyData.keyHash P "__module__") (.str "__module__" 214) (.str "shapestring.errors" 187)), (PySem.DictEntry.mk (PySem.PyData.keyHash P "__firstlineno__") (.str "__firstlineno__" 218) (.int 4 217)), (PySem.DictEntry.mk (PySem.PyData.keyHash P "__static_attributes__") (.str "__static_attributes__" 219) (.ref 35)), (PySem.DictEntry.mk (PySem.PyData.keyHash P "__doc__") (.str "__doc__" 220) .none)] 2), #[]⟩) ::
  (nat_lit 37, ⟨(.type "type"), none, (.cls (PySem.ClassData.mk "TooMany" [(.ref 24)] [(.ref 37), (.ref 24), (.type "ValueError"), (.type "Exception"), (.type "BaseException"), (.type "object")] 36 "TooMany" Bool.true [] [] Bool.false none Bool.false)), #[(Option.some (.ref 28)), none, (Option.some (.str "TooMany" 207)), (Option.some (.str "TooMany" 215)), (Option.some (.builtin "ValueError.__new__")), (Option.some (.bool Bool.true))]⟩) ::
  (nat_lit 48, ⟨(.type "dict"), none, (.dict #[(PySem.DictEntry.mk (PySem.PyData.keyHash P "__module__") (.str "__module__" 230) (.str "shapestring.errors" 187)), (PySem.DictEntry.mk (PySem.PyData.keyHash P "__firstlineno__") (.str "__firstlineno__" 234) (.int 6 233)), (PySem.DictEntry.mk (PySem.PyData.keyHash P "__static_attributes__") (.str "__static_attributes__" 235) (.ref 47)), (PySem.DictEntry.mk (PySem.PyData.keyHash P "__doc__") (.str "__doc__" 236) .none)] 2), #[]⟩) ::
  (nat_lit 49, ⟨(.type "type"), none, (.cls (PySem.ClassData.mk "NoText" [(.ref 24)] [(.ref 49), (.ref 24), (.type "ValueError"), (.type "Exception"), (.type "BaseException"), (.type "object")] 48 "NoText" Bool.true [] [] Bool.false none Bool.false)), #[(Option.some (.ref 40)), none, (Option.some (.str "NoText" 223)), (Option.some (.str "NoText" 231)), (Option.some (.builtin "ValueError.__new__")), (Option.some (.bool Bool.true))]⟩) ::
  (nat_lit 60, ⟨(.type "dict"), none, (.dict #[(PySem.DictEntry.mk (PySem.PyData.keyHash P "__module__") (.str "__module__" 246) (.str "shapestring.errors" 187)), (PySem.DictEntry.mk (PySem.PyData.keyHash P "__firstlineno__") (.str "__firstlineno__" 250) (.int 8 249)), (PySem.DictEntry.mk (PySem.PyData.keyHash P "__static_attributes__") (.str "__static_attributes__" 251) (.ref 59)), (PySem.DictEntry.mk (PySem.PyData.keyHash P "__doc__") (.str "__doc__" 252) .none)] 2), #[]⟩) ::
  (nat_lit 61, ⟨(.type "type"), none, (.cls (PySem.ClassData.mk "NoCorner" [(.ref 24)] [(.ref 61), (.ref 24), (.type "ValueError"), (.type "Exception"), (.type "BaseException"), (.type "object")] 60 "NoCorner" Bool.true [] [] Bool.false none Bool.false)), #[(Option.some (.ref 52)), none, (Option.some (.str "NoCorner" 239)), (Option.some (.str "NoCorner" 247)), (Option.some (.builtin "ValueError.__new__")), (Option.some (.bool Bool.true))]⟩) ::
  (nat_lit 72, ⟨(.type "dict"), none, (.dict #[(PySem.DictEntry.mk (PySem.PyData.keyHash P "__module__") (.str "__module__" 262) (.str "shapestring.errors" 187)), (PySem.DictEntry.mk (PySem.PyData.keyHash P "__firstlineno__") (.str "__firstlineno__" 266) (.int 10 265)), (PySem.DictEntry.mk (PySem.PyData.keyHash P "__static_attributes__") (.str "__static_attributes__" 267) (.ref 71)), (PySem.DictEntry.mk (PySem.PyData.keyHash P "__doc__") (.str "__doc__" 268) .none)] 2), #[]⟩) ::
  (nat_lit 73, ⟨(.type "type"), none, (.cls (PySem.ClassData.mk "NoSide" [(.ref 24)] [(.ref 73), (.ref 24), (.type "ValueError"), (.type "Exception"), (.type "BaseException"), (.type "object")] 72 "NoSide" Bool.true [] [] Bool.false none Bool.false)), #[(Option.some (.ref 64)), none, (Option.some (.str "NoSide" 255)), (Option.some (.str "NoSide" 263)), (Option.some (.builtin "ValueError.__new__")), (Option.some (.bool Bool.true))]⟩) ::
  (nat_lit 84, ⟨(.type "dict"), none, (.dict #[(PySem.DictEntry.mk (PySem.PyData.keyHash P "__module__") (.str "__module__" 278) (.str "shapestring.errors" 187)), (PySem.DictEntry.mk (PySem.PyData.keyHash P "__firstlineno__") (.str "__firstlineno__" 282) (.int 12 281)), (PySem.DictEntry.mk (PySem.PyData.keyHash P "__static_attributes__") (.str "__static_attributes__" 283) (.ref 83)), (PySem.DictEntry.mk (PySem.PyData.keyHash P "__doc__") (.str "__doc__" 284) .none)] 2), #[]⟩) ::
  (nat_lit 85, ⟨(.type "type"), none, (.cls (PySem.ClassData.mk "NoLetter" [(.ref 24)] [(.ref 85), (.ref 24), (.type "ValueError"), (.type "Exception"), (.type "BaseException"), (.type "object")] 84 "NoLetter" Bool.true [] [] Bool.false none Bool.false)), #[(Option.some (.ref 76)), none, (Option.some (.str "NoLetter" 271)), (Option.some (.str "NoLetter" 279)), (Option.some (.builtin "ValueError.__new__")), (Option.some (.bool Bool.true))]⟩) ::
  (nat_lit 96, ⟨(.type "dict"), none, (.dict #[(PySem.DictEntry.mk (PySem.PyData.keyHash P "__module__") (.str "__module__" 294) (.str "shapestring.errors" 187)), (PySem.DictEntry.mk (PySem.PyData.keyHash P "__firstlineno__") (.str "__firstlineno__" 298) (.int 14 297)), (PySem.DictEntry.mk (PySem.PyData.keyHash P "__static_attributes__") (.str "__static_attributes__" 299) (.ref 95)), (PySem.DictEntry.mk (PySem.PyData.keyHash P "__doc__") (.str "__doc__" 300) .none)] 2), #[]⟩) ::
  (nat_lit 97, ⟨(.type "type"), none, (.cls (PySem.ClassData.mk "NoCaps" [(.ref 24)] [(.ref 97), (.ref 24), (.type "ValueError"), (.type "Exception"), (.type "BaseException"), (.type "object")] 96 "NoCaps" Bool.true [] [] Bool.false none Bool.false)), #[(Option.some (.ref 88)), none, (Option.some (.str "NoCaps" 287)), (Option.some (.str "NoCaps" 295)), (Option.some (.builtin "ValueError.__new__")), (Option.some (.bool Bool.true))]⟩) ::
  (nat_lit 108, ⟨(.type "dict"), none, (.dict #[(PySem.DictEntry.mk (PySem.PyData.keyHash P "__module__") (.str "__module__" 310) (.str "shapestring.errors" 187)), (PySem.DictEntry.mk (PySem.PyData.keyHash P "__firstlineno__") (.str "__firstlineno__" 314) (.int 16 313)), (PySem.DictEntry.mk (PySem.PyData.keyHash P "__static_attributes__") (.str "__static_attributes__" 315) (.ref 107)), (PySem.DictEntry.mk (PySem.PyData.keyHash P "__doc__") (.str "__doc__" 316) .none)] 2), #[]⟩) ::
  (nat_lit 109, ⟨(.type "type"), none, (.cls (PySem.ClassData.mk "NoCode" [(.ref 24)] [(.ref 109), (.ref 24), (.type "ValueError"), (.type "Exception"), (.type "BaseException"), (.type "object")] 108 "NoCode" Bool.true [] [] Bool.false none Bool.false)), #[(Option.some (.ref 100)), none, (Option.some (.str "NoCode" 303)), (Option.some (.str "NoCode" 311)), (Option.some (.builtin "ValueError.__new__")), (Option.some (.bool Bool.true))]⟩) ::
  (nat_lit 120, ⟨(.type "dict"), none, (.dict #[(PySem.DictEntry.mk (PySem.PyData.keyHash P "__module__") (.str "__module__" 326) (.str "shapestring.errors" 187)), (PySem.DictEntry.mk (PySem.PyData.keyHash P "__firstlineno__") (.str "__firstlineno__" 330) (.int 18 329)), (PySem.DictEntry.mk (PySem.PyData.keyHash P "__static_attributes__") (.str "__static_attributes__" 331) (.ref 119)), (PySem.DictEntry.mk (PySem.PyData.keyHash P "__doc__") (.str "__doc__" 332) .none)] 2), #[]⟩) ::
  (nat_lit 121, ⟨(.type "type"), none, (.cls (PySem.ClassData.mk "NoDeed" [(.ref 24)] [(.ref 121), (.ref 24), (.type "ValueError"), (.type "Exception"), (.type "BaseException"), (.type "object")] 120 "NoDeed" Bool.true [] [] Bool.false none Bool.false)), #[(Option.some (.ref 112)), none, (Option.some (.str "NoDeed" 319)), (Option.some (.str "NoDeed" 327)), (Option.some (.builtin "ValueError.__new__")), (Option.some (.bool Bool.true))]⟩) ::
  (nat_lit 132, ⟨(.type "dict"), none, (.dict #[(PySem.DictEntry.mk (PySem.PyData.keyHash P "__module__") (.str "__module__" 342) (.str "shapestring.errors" 187)), (PySem.DictEntry.mk (PySem.PyData.keyHash P "__firstlineno__") (.str "__firstlineno__" 346) (.int 20 345)), (PySem.DictEntry.mk (PySem.PyData.keyHash P "__static_attributes__") (.str "__static_attributes__" 347) (.ref 131)), (PySem.DictEntry.mk (PySem.PyData.keyHash P "__doc__") (.str "__doc__" 348) .none)] 2), #[]⟩) ::
  (nat_lit 133, ⟨(.type "type"), none, (.cls (PySem.ClassData.mk "Taken" [(.ref 24)] [(.ref 133), (.ref 24), (.type "ValueError"), (.type "Exception"), (.type "BaseException"), (.type "object")] 132 "Taken" Bool.true [] [] Bool.false none Bool.false)), #[(Option.some (.ref 124)), none, (Option.some (.str "Taken" 335)), (Option.some (.str "Taken" 343)), (Option.some (.builtin "ValueError.__new__")), (Option.some (.bool Bool.true))]⟩) ::
  (nat_lit 144, ⟨(.type "dict"), none, (.dict #[(PySem.DictEntry.mk (PySem.PyData.keyHash P "__module__") (.str "__module__" 358) (.str "shapestring.errors" 187)), (PySem.DictEntry.mk (PySem.PyData.keyHash P "__firstlineno__") (.str "__firstlineno__" 362) (.int 22 361)), (PySem.DictEntry.mk (PySem.PyData.keyHash P "__static_attributes__") (.str "__static_attributes__" 363) (.ref 143)), (PySem.DictEntry.mk (PySem.PyData.keyHash P "__doc__") (.str "__doc__" 364) .none)] 2), #[]⟩) ::
  (nat_lit 145, ⟨(.type "type"), none, (.cls (PySem.ClassData.mk "Gone" [(.ref 24)] [(.ref 145), (.ref 24), (.type "ValueError"), (.type "Exception"), (.type "BaseException"), (.type "object")] 144 "Gone" Bool.true [] [] Bool.false none Bool.false)), #[(Option.some (.ref 136)), none, (Option.some (.str "Gone" 351)), (Option.some (.str "Gone" 359)), (Option.some (.builtin "ValueError.__new__")), (Option.some (.bool Bool.true))]⟩) ::
  (nat_lit 156, ⟨(.type "dict"), none, (.dict #[(PySem.DictEntry.mk (PySem.PyData.keyHash P "__module__") (.str "__module__" 374) (.str "shapestring.errors" 187)), (PySem.DictEntry.mk (PySem.PyData.keyHash P "__firstlineno__") (.str "__firstlineno__" 378) (.int 24 377)), (PySem.DictEntry.mk (PySem.PyData.keyHash P "__static_attributes__") (.str "__static_attributes__" 379) (.ref 155)), (PySem.DictEntry.mk (PySem.PyData.keyHash P "__doc__") (.str "__doc__" 380) .none)] 2), #[]⟩) ::
  (nat_lit 157, ⟨(.type "type"), none, (.cls (PySem.ClassData.mk "NoPast" [(.ref 24)] [(.ref 157), (.ref 24), (.type "ValueError"), (.type "Exception"), (.type "BaseException"), (.type "object")] 156 "NoPast" Bool.true [] [] Bool.false none Bool.false)), #[(Option.some (.ref 148)), none, (Option.some (.str "NoPast" 367)), (Option.some (.str "NoPast" 375)), (Option.some (.builtin "ValueError.__new__")), (Option.some (.bool Bool.true))]⟩) ::
  (nat_lit 175, ⟨(.type "dict"), none, (.dict #[(PySem.DictEntry.mk (PySem.PyData.keyHash P "__module__") (.str "__module__" 390) (.str "shapestring.errors" 187)), (PySem.DictEntry.mk (PySem.PyData.keyHash P "__firstlineno__") (.str "__firstlineno__" 394) (.int 26 393)), (PySem.DictEntry.mk (PySem.PyData.keyHash P "__init__") (.str "__init__" 402) (.ref 173)), (PySem.DictEntry.mk (PySem.PyData.keyHash P "__static_attributes__") (.str "__static_attributes__" 404) (.ref 174)), (PySem.DictEntry.mk (PySem.PyData.keyHash P "__doc__") (.str "__doc__" 405) .none)] 2), #[]⟩) ::
  (nat_lit 176, ⟨(.type "type"), none, (.cls (PySem.ClassData.mk "NoSkin" [(.ref 24)] [(.ref 176), (.ref 24), (.type "ValueError"), (.type "Exception"), (.type "BaseException"), (.type "object")] 175 "NoSkin" Bool.true [] [] Bool.false none Bool.false)), #[(Option.some (.ref 160)), none, (Option.some (.str "NoSkin" 383)), (Option.some (.str "NoSkin" 391)), (Option.some (.builtin "ValueError.__new__")), (Option.some (.bool Bool.true))]⟩) ::
  (nat_lit 194, ⟨(.type "dict"), none, (.dict #[(PySem.DictEntry.mk (PySem.PyData.keyHash P "__module__") (.str "__module__" 415) (.str "shapestring.errors" 187)), (PySem.DictEntry.mk (PySem.PyData.keyHash P "__firstlineno__") (.str "__firstlineno__" 419) (.int 31 418)), (PySem.DictEntry.mk (PySem.PyData.keyHash P "__init__") (.str "__init__" 427) (.ref 192)), (PySem.DictEntry.mk (PySem.PyData.keyHash P "__static_attributes__") (.str "__static_attributes__" 429) (.ref 193)), (PySem.DictEntry.mk (PySem.PyData.keyHash P "__doc__") (.str "__doc__" 430) .none)] 2), #[]⟩) ::
  (nat_lit 195, ⟨(.type "type"), none, (.cls (PySem.ClassData.mk "Spoilt" [(.ref 24)] [(.ref 195), (.ref 24), (.type "ValueError"), (.type "Exception"), (.type "BaseException"), (.type "object")] 194 "Spoilt" Bool.true [] [] Bool.false none Bool.false)), #[(Option.some (.ref 179)), none, (Option.some (.str "Spoilt" 408)), (Option.some (.str "Spoilt" 416)), (Option.some (.builtin "ValueError.__new__")), (Option.some (.bool Bool.true))]⟩) ::
  (nat_lit 213, ⟨(.type "dict"), none, (.dict #[(PySem.DictEntry.mk (PySem.PyData.keyHash P "__module__") (.str "__module__" 440) (.str "shapestring.errors" 187)), (PySem.DictEntry.mk (PySem.PyData.keyHash P "__firstlineno__") (.str "__firstlineno__" 444) (.int 36 443)), (PySem.DictEntry.mk (PySem.PyData.keyHash P "__init__") (.str "__init__" 452) (.ref 211)), (PySem.DictEntry.mk (PySem.PyData.keyHash P "__static_attributes__") (.str "__static_attributes__" 454) (.ref 212)), (PySem.DictEntry.mk (PySem.PyData.keyHash P "__doc__") (.str "__doc__" 455) .none)] 2), #[]⟩) ::
  (nat_lit 214, ⟨(.type "type"), none, (.cls (PySem.ClassData.mk "NoWord" [(.ref 24)] [(.ref 214), (.ref 24), (.type "ValueError"), (.type "Exception"), (.type "BaseException"), (.type "object")] 213 "NoWord" Bool.true [] [] Bool.false none Bool.false)), #[(Option.some (.ref 198)), none, (Option.some (.str "NoWord" 433)), (Option.some (.str "NoWord" 441)), (Option.some (.builtin "ValueError.__new__")), (Option.some (.bool Bool.true))]⟩) ::
  (nat_lit 222, ⟨(.type "code"), none, (.fields #[(.str "taken_up" 464), (.str "taken_up" 465), (.str "/claim/cut.py" 466), (.int 44 0), (.int 1 0), (.int 0 0), (.int 0 0), (.int 3 0), (.ref 217), (.bool Bool.true), (.int 181 0), (.ref 218), .none, (.ref 219), (.ref 220), (.ref 221), (.int 468 0), (.int 44 0), (.str "/claim/cut.py" 469)]), #[]⟩) ::
  (nat_lit 223, ⟨(.type "function"), none, (.func (fnOf "taken_up" "taken_up" (defArgs sTaken) (defBody sTaken) (defScope sTaken) .none .none .none (.str "shapestring.plain" 458) none (.ref 222) .none)), #[]⟩) ::
  (nat_lit 229, ⟨(.type "code"), none, (.fields #[(.str "letter_found" 471), (.str "letter_found" 472), (.str "/claim/cut.py" 473), (.int 48 0), (.int 2 0), (.int 0 0), (.int 0 0), (.int 3 0), (.ref 224), (.bool Bool.true), (.int 181 0), (.ref 225), .none, (.ref 226), (.ref 227), (.ref 228), (.int 477 0), (.int 48 0), (.str "/claim/cut.py" 478)]), #[]⟩) ::
  (nat_lit 230, ⟨(.type "function"), none, (.func (fnOf "letter_found" "letter_found" (defArgs sFound) (defBody sFound) (defScope sFound) .none .none .none (.str "shapestring.plain" 458) none (.ref 229) .none)), #[]⟩) ::
  (nat_lit 236, ⟨(.type "code"), none, (.fields #[(.str "placed" 480), (.str "placed" 481), (.str "/claim/cut.py" 482), (.int 62 0), (.int 1 0), (.int 0 0), (.int 0 0), (.int 3 0), (.ref 231), (.bool Bool.true), (.int 181 0), (.ref 232), .none, (.ref 233), (.ref 234), (.ref 235), (.int 488 0), (.int 62 0), (.str "/claim/cut.py" 489)]), #[]⟩) ::
  (nat_lit 237, ⟨(.type "function"), none, (.func (fnOf "placed" "placed" (defArgs sPlacedP) (defBody sPlacedP) (defScope sPlacedP) .none .none .none (.str "shapestring.plain" 458) none (.ref 236) .none)), #[]⟩) ::
  (nat_lit 243, ⟨(.type "code"), none, (.fields #[(.str "_law_at" 493), (.str "_law_at" 494), (.str "/claim/cut.py" 495), (.int 75 0), (.int 2 0), (.int 0 0), (.int 0 0), (.int 3 0), (.ref 238), (.bool Bool.true), (.int 181 0), (.ref 239), .none, (.ref 240), (.ref 241), (.ref 242), (.int 498 0), (.int 75 0), (.str "/claim/cut.py" 499)]), #[]⟩) ::
  (nat_lit 244, ⟨(.type "function"), none, (.func (fnOf "_law_at" "_law_at" (defArgs sAt) (defBody sAt) (defScope sAt) .none .none .none (.str "law_shapestring_k52_places_from_signs" 491) none (.ref 243) .none)), #[]⟩) ::
  (nat_lit 250, ⟨(.type "code"), none, (.fields #[(.str "_law_pot" 501), (.str "_law_pot" 502), (.str "/claim/cut.py" 503), (.int 79 0), (.int 2 0), (.int 0 0), (.int 0 0), (.int 3 0), (.ref 245), (.bool Bool.true), (.int 181 0), (.ref 246), .none, (.ref 247), (.ref 248), (.ref 249), (.int 509 0), (.int 79 0), (.str "/claim/cut.py" 510)]), #[]⟩) ::
  (nat_lit 251, ⟨(.type "function"), none, (.func (fnOf "_law_pot" "_law_pot" (defArgs sPot) (defBody sPot) (defScope sPot) .none .none .none (.str "law_shapestring_k52_places_from_signs" 491) none (.ref 250) .none)), #[]⟩) ::
  (nat_lit 257, ⟨(.type "code"), none, (.fields #[(.str "_law_digit" 512), (.str "_law_digit" 513), (.str "/claim/cut.py" 514), (.int 87 0), (.int 2 0), (.int 0 0), (.int 0 0), (.int 3 0), (.ref 252), (.bool Bool.true), (.int 181 0), (.ref 253), .none, (.ref 254), (.ref 255), (.ref 256), (.int 518 0), (.int 87 0), (.str "/claim/cut.py" 519)]), #[]⟩) ::
  (nat_lit 258, ⟨(.type "function"), none, (.func (fnOf "_law_digit" "_law_digit" (defArgs sDigit) (defBody sDigit) (defScope sDigit) .none .none .none (.str "law_shapestring_k52_places_from_signs" 491) none (.ref 257) .none)), #[]⟩) ::
  (nat_lit 264, ⟨(.type "code"), none, (.fields #[(.str "_law_from" 521), (.str "_law_from" 522), (.str "/claim/cut.py" 523), (.int 94 0), (.int 2 0), (.int 0 0), (.int 0 0), (.int 3 0), (.ref 259), (.bool Bool.true), (.int 181 0), (.ref 260), .none, (.ref 261), (.ref 262), (.ref 263), (.int 528 0), (.int 94 0), (.str "/claim/cut.py" 529)]), #[]⟩) ::
  (nat_lit 265, ⟨(.type "function"), none, (.func (fnOf "_law_from" "_law_from" (defArgs sFrom) (defBody sFrom) (defScope sFrom) .none .none .none (.str "law_shapestring_k52_places_from_signs" 491) none (.ref 264) .none)), #[]⟩) ::
  (nat_lit 271, ⟨(.type "code"), none, (.fields #[(.str "_law_placed" 531), (.str "_law_placed" 532), (.str "/claim/cut.py" 533), (.int 110 0), (.int 1 0), (.int 0 0), (.int 0 0), (.int 3 0), (.ref 266), (.bool Bool.true), (.int 181 0), (.ref 267), .none, (.ref 268), (.ref 269), (.ref 270), (.int 536 0), (.int 110 0), (.str "/claim/cut.py" 537)]), #[]⟩) ::
  (nat_lit 272, ⟨(.type "function"), none, (.func (fnOf "_law_placed" "_law_placed" (defArgs sPlaced) (defBody sPlaced) (defScope sPlaced) .none .none .none (.str "law_shapestring_k52_places_from_signs" 491) none (.ref 271) .none)), #[]⟩) ::
  (nat_lit 276, ⟨(.type "code"), none, (.fields #[(.str "_law_kinds" 539), (.str "_law_kinds" 540), (.str "/claim/cut.py" 541), (.int 115 0), (.int 1 0), (.int 0 0), (.int 0 0), (.int 3 0), (.ref 273), (.bool Bool.true), (.int 181 0), (.ref 274), .none, .none, .none, (.ref 275), (.int 542 0), (.int 115 0), (.str "/claim/cut.py" 543)]), #[]⟩) ::
  (nat_lit 277, ⟨(.type "function"), none, (.func (fnOf "_law_kinds" "_law_kinds" (defArgs sKinds) (defBody sKinds) (defScope sKinds) .none .none .none (.str "law_shapestring_k52_places_from_signs" 491) none (.ref 276) .none)), #[]⟩) ::
  (nat_lit 283, ⟨(.type "code"), none, (.fields #[(.str "_law_grown_signs" 545), (.str "_law_grown_signs" 546), (.str "/claim/cut.py" 547), (.int 121 0), (.int 1 0), (.int 0 0), (.int 0 0), (.int 3 0), (.ref 278), (.bool Bool.true), (.int 181 0), (.ref 279), .none, (.ref 280), (.ref 281), (.ref 282), (.int 555 0), (.int 121 0), (.str "/claim/cut.py" 556)]), #[]⟩) ::
  (nat_lit 284, ⟨(.type "function"), none, (.func (fnOf "_law_grown_signs" "_law_grown_signs" (defArgs sGrown) (defBody sGrown) (defScope sGrown) .none .none .none (.str "law_shapestring_k52_places_from_signs" 491) none (.ref 283) .none)), #[]⟩) ::
  (nat_lit 290, ⟨(.type "code"), none, (.fields #[(.str "_law_string" 558), (.str "_law_string" 559), (.str "/claim/cut.py" 560), (.int 146 0), (.int 3 0), (.int 0 0), (.int 0 0), (.int 3 0), (.ref 285), (.bool Bool.true), (.int 181 0), (.ref 286), .none, (.ref 287), (.ref 288), (.ref 289), (.int 566 0), (.int 146 0), (.str "/claim/cut.py" 567)]), #[]⟩) ::
  (nat_lit 291, ⟨(.type "function"), none, (.func (fnOf "_law_string" "_law_string" (defArgs sString) (defBody sString) (defScope sString) .none .none .none (.str "law_shapestring_k52_places_from_signs" 491) none (.ref 290) .none)), #[]⟩) ::
  (nat_lit 297, ⟨(.type "code"), none, (.fields #[(.str "_law_spoilt" 569), (.str "_law_spoilt" 570), (.str "/claim/cut.py" 571), (.int 152 0), (.int 2 0), (.int 0 0), (.int 0 0), (.int 3 0), (.ref 292), (.bool Bool.true), (.int 181 0), (.ref 293), .none, (.ref 294), (.ref 295), (.ref 296), (.int 577 0), (.int 152 0), (.str "/claim/cut.py" 578)]), #[]⟩) ::
  (nat_lit 298, ⟨(.type "function"), none, (.func (fnOf "_law_spoilt" "_law_spoilt" (defArgs sSpoilt) (defBody sSpoilt) (defScope sSpoilt) .none .none .none (.str "law_shapestring_k52_places_from_signs" 491) none (.ref 297) .none)), #[]⟩) ::
  (nat_lit 304, ⟨(.type "code"), none, (.fields #[(.str "_law_told" 580), (.str "_law_told" 581), (.str "/claim/cut.py" 582), (.int 161 0), (.int 1 0), (.int 0 0), (.int 0 0), (.int 3 0), (.ref 299), (.bool Bool.true), (.int 181 0), (.ref 300), .none, (.ref 301), (.ref 302), (.ref 303), (.int 586 0), (.int 161 0), (.str "/claim/cut.py" 587)]), #[]⟩) ::
  (nat_lit 305, ⟨(.type "function"), none, (.func (fnOf "_law_told" "_law_told" (defArgs sLTold) (defBody sLTold) (defScope sLTold) .none .none .none (.str "law_shapestring_k52_places_from_signs" 491) none (.ref 304) .none)), #[]⟩) ::
  (nat_lit 309, ⟨(.type "code"), none, (.fields #[(.str "_law_right" 589), (.str "_law_right" 590), (.str "/claim/cut.py" 591), (.int 168 0), (.int 1 0), (.int 0 0), (.int 0 0), (.int 3 0), (.ref 306), (.bool Bool.true), (.int 181 0), (.ref 307), .none, .none, .none, (.ref 308), (.int 592 0), (.int 168 0), (.str "/claim/cut.py" 593)]), #[]⟩) ::
  (nat_lit 310, ⟨(.type "function"), none, (.func (fnOf "_law_right" "_law_right" (defArgs sRight) (defBody sRight) (defScope sRight) .none .none .none (.str "law_shapestring_k52_places_from_signs" 491) none (.ref 309) .none)), #[]⟩) ::
  (nat_lit 316, ⟨(.type "code"), none, (.fields #[(.str "law" 595), (.str "law" 596), (.str "/claim/cut.py" 597), (.int 177 0), (.int 1 0), (.int 0 0), (.int 0 0), (.int 3 0), (.ref 311), (.bool Bool.true), (.int 181 0), (.ref 312), .none, (.ref 313), (.ref 314), (.ref 315), (.int 601 0), (.int 177 0), (.str "/claim/cut.py" 602)]), #[]⟩) ::
  (nat_lit 317, ⟨(.type "function"), none, (.func (fnOf "law" "law" (defArgs sLaw) (defBody sLaw) (defScope sLaw) .none .none .none (.str "law_shapestring_k52_places_from_signs" 491) none (.ref 316) .none)), #[]⟩) :: []
end K51
end
set_option Elab.async false
set_option linter.all false
def PySem.W.Fast.tw13556142576209548361 : PySem.Program := PySem.Challenge.pw_shapestring_k52_places_from_signs
theorem PySem.W.Fast.te13556142576209548361 : PySem.Challenge.pw_shapestring_k52_places_from_signs = PySem.W.Fast.tw13556142576209548361 := rfl
noncomputable def PySem.W.Fast.tw2114510826602279792 : PySem.Params → PySem.W.Frag := K51.kf
theorem PySem.W.Fast.te2114510826602279792 : K51.kf = PySem.W.Fast.tw2114510826602279792 := rfl
open PySem PySem.W PyProof.Rows
set_option maxRecDepth 100000 in
set_option maxHeartbeats 0 in
theorem PySem.Challenge.cw_shapestring_k52_places_from_signs_holds : PySem.Challenge.rw_shapestring_k52_places_from_signs.Holds := by
  w_on; o_law; o_head (kHook K51.kf [nat_lit 3, nat_lit 23, nat_lit 24, nat_lit 36, nat_lit 37, nat_lit 48, nat_lit 49, nat_lit 60, nat_lit 61, nat_lit 72, nat_lit 73, nat_lit 84, nat_lit 85, nat_lit 96, nat_lit 97, nat_lit 108, nat_lit 109, nat_lit 120, nat_lit 121, nat_lit 132, nat_lit 133, nat_lit 144, nat_lit 145, nat_lit 156, nat_lit 157, nat_lit 175, nat_lit 176, nat_lit 194, nat_lit 195, nat_lit 213, nat_lit 214, nat_lit 222, nat_lit 223, nat_lit 229, nat_lit 230, nat_lit 236, nat_lit 237, nat_lit 243, nat_lit 244, nat_lit 250, nat_lit 251, nat_lit 257, nat_lit 258, nat_lit 264, nat_lit 265, nat_lit 271, nat_lit 272, nat_lit 276, nat_lit 277, nat_lit 283, nat_lit 284, nat_lit 290, nat_lit 291, nat_lit 297, nat_lit 298, nat_lit 304, nat_lit 305, nat_lit 309, nat_lit 310, nat_lit 316, nat_lit 317] (fun _ => by kernel_rfl)); (case hw => w_witness2)
  k_fill
  refine K51.walk (l := PySem.Challenge.rw_shapestring_k52_places_from_signs) rfl rfl (fun w h Y => PySem.W.kIn_of Y) ?F
  case F =>
    intro w mg fa h KX G hmg
    refine' K51.all_mk KX G hmg ?a1 ?l1 ?c1 ?k1 ?a2 ?l2 ?c2 ?k2 ?a3 ?l3 ?c3 ?k3 ?a4 ?l4 ?c4 ?k4 ?a5 ?l5 ?c5 ?k5 ?a6 ?l6 ?c6 ?k6 ?a7 ?l7 ?c7 ?k7 ?a8 ?l8 ?c8 ?k8 ?a9 ?l9 ?c9 ?k9 ?a10 ?l10 ?c10 ?k10 ?a11 ?l11 ?c11 ?k11 ?a12 ?l12 ?c12 ?k12 ?a13 ?l13 ?c13 ?k13 ?a14 ?l14 ?c14 ?k14 ?a15 ?l15 ?c15 ?k15 ?z_len ?z_int ?z_str ?z_isinstance ?z_range ?z_list ?z_tuple ?z_bool ?z_all ?z_ValueError ?z_reversed ?z_enumerate ?aL ?aO ?aD ?xD ?lD ?mD ?sD ?hD ?aS ?lS ?mS ?sS ?hS ?q1 ?q2 ?x1 ?x2 ?x3 ?x4 ?x5 ?x6 ?x7 ?v1 ?v2 ?n_corner ?o_corner ?n_side ?o_side ?n_code ?o_code ?n_word ?o_word ?n_caps ?o_caps ?n_letter ?o_letter ?n_skin ?o_skin ?n_deed ?o_deed ?n_past ?o_past ?n_spoilt ?o_spoilt ?n_taken ?o_taken ?n_gone ?o_gone ?n_many ?o_many ?t_ll ?t_tt ?t_sb ?t_ib ?t_ns ?t_is ?t_bs ?t_ls ?t_ts ?t_ds
    (case a1 => k_is); (case l1 => k_is); (case c1 => k_is); (case k1 => k_is); (case a2 => k_is); (case l2 => k_is); (case c2 => k_is); (case k2 => k_is)
    (case a3 => k_is); (case l3 => k_is); (case c3 => k_is); (case k3 => k_is); (case a4 => k_is); (case l4 => k_is); (case c4 => k_is); (case k4 => k_is)
    (case a5 => k_is); (case l5 => k_is); (case c5 => k_is); (case k5 => k_is); (case a6 => k_is); (case l6 => k_is); (case c6 => k_is); (case k6 => k_is)
    (case a7 => k_is); (case l7 => k_is); (case c7 => k_is); (case k7 => k_is); (case a8 => k_is); (case l8 => k_is); (case c8 => k_is); (case k8 => k_is)
    (case a9 => k_is); (case l9 => k_is); (case c9 => k_is); (case k9 => k_is); (case a10 => k_is); (case l10 => k_is); (case c10 => k_is); (case k10 => k_is)
    (case a11 => k_is); (case l11 => k_is); (case c11 => k_is); (case k11 => k_is); (case a12 => k_is); (case l12 => k_is); (case c12 => k_is); (case k12 => k_is)
    (case a13 => k_is); (case l13 => k_is); (case c13 => k_is); (case k13 => k_is); (case a14 => k_is); (case l14 => k_is); (case c14 => k_is); (case k14 => k_is)
    (case a15 => k_is); (case l15 => k_is); (case c15 => k_is); (case k15 => k_is); (case z_len => k_is); (case z_int => k_is); (case z_str => k_is); (case z_isinstance => k_is)
    (case z_range => k_is); (case z_list => k_is); (case z_tuple => k_is); (case z_bool => k_is); (case z_all => k_is); (case z_ValueError => k_is); (case z_reversed => k_is); (case z_enumerate => k_is)
    (case aL => k_is); (case aO => k_is); (case aD => k_is); (case xD => k_exc); (case lD => k_is); (case mD => rfl); (case sD => rfl); (case hD => rfl)
    (case aS => k_is); (case lS => k_is); (case mS => rfl); (case sS => rfl); (case hS => rfl); (case q1 => rfl); (case q2 => rfl); (case x1 => k_is)
    (case x2 => k_is); (case x3 => k_is); (case x4 => k_is); (case x5 => k_is); (case x6 => k_is); (case x7 => k_is); (case v1 => kit_is); (case v2 => kit_is)
    (case n_corner => k_is); (case o_corner => kit_is); (case n_side => k_is); (case o_side => kit_is); (case n_code => k_is); (case o_code => kit_is); (case n_word => k_is); (case o_word => kit_is)
    (case n_caps => k_is); (case o_caps => kit_is); (case n_letter => k_is); (case o_letter => kit_is); (case n_skin => k_is); (case o_skin => kit_is); (case n_deed => k_is); (case o_deed => kit_is)
    (case n_past => k_is); (case o_past => kit_is); (case n_spoilt => k_is); (case o_spoilt => kit_is); (case n_taken => k_is); (case o_taken => kit_is); (case n_gone => k_is); (case o_gone => kit_is)
    (case n_many => k_is); (case o_many => kit_is); (case t_ll => kit_is); (case t_tt => kit_is); (case t_sb => kit_is); (case t_ib => kit_is); (case t_ns => kit_is); (case t_is => kit_is)
    (case t_bs => kit_is); (case t_ls => kit_is); (case t_ts => kit_is); (case t_ds => kit_is)
#print axioms PySem.Challenge.cw_shapestring_k52_places_from_signs_holds
