import PyProof.Rows.All
import Wide.All
import OpenK.AllK
import Wide.FinOn
import Lean
import PyProof.EqAt
import PyProof.EqKinds
import PyProof.TupleCall
import PyProof.Draws
import PyProof.ZipIter
import PySem.Challenge.RW_roomalgebra_k12_least_takes_the_same
-- CHANGE: your row's module here, as the last of these rows
set_option Elab.async false
set_option linter.all false
set_option maxRecDepth 100000
/-! THE HAND LAYER, for ints, bools, texts, own classes, LISTS and tuples (index, slices, in, append, pop ..), calls, loops. Paste it whole ahead of your own text; what your proof does not reach may be deleted. -/
namespace L2
open PySem PySem.Spec PyProof.Rows

/-- a key: an int or a str -/
abbrev Key := Sum Int Str
def keyIs : Key → Value → Bool
  | .inl k, v => Value.isInt k v
  | .inr x, v => Value.isStrOf x v
def keyH (w : World) : Key → Int
  | .inl k => hashInt k
  | .inr x => hashStr w x
theorem keyIs_shape : ∀ {k : Key} {v : Value}, keyIs k v = true → (∃ i t, k = Sum.inl i ∧ v = Value.int i t) ∨ (∃ x t, k = Sum.inr x ∧ v = Value.str x t)
  | .inl i, v, h => by
    obtain ⟨t, e⟩ := Value.isInt_shape (k := i) (v := v) h
    exact .inl ⟨i, t, rfl, e⟩
  | .inr x, v, h => by
    obtain ⟨t, e⟩ := Value.isStrOf_shape (x := x) (v := v) h
    exact .inr ⟨x, t, rfl, e⟩
theorem key_ll (a b : Int) : decide ((Sum.inl a : Key) = Sum.inl b) = (a == b) := by
  by_cases e : a = b
  · subst e; simp
  · have h : ¬ (Sum.inl a : Key) = Sum.inl b := fun q => e (Sum.inl.inj q)
    rw [decide_eq_false h]
    exact (beq_eq_false_iff_ne.mpr e).symm
theorem key_rr (a b : Str) : decide ((Sum.inr a : Key) = Sum.inr b) = decide (a = b) := by
  by_cases e : a = b
  · subst e; simp
  · have h : ¬ (Sum.inr a : Key) = Sum.inr b := fun q => e (Sum.inr.inj q)
    rw [decide_eq_false h, decide_eq_false e]
theorem key_lr (a : Int) (b : Str) : decide ((Sum.inl a : Key) = Sum.inr b) = false := decide_eq_false (fun q => nomatch q)
theorem key_rl (a : Str) (b : Int) : decide ((Sum.inr a : Key) = Sum.inl b) = false := decide_eq_false (fun q => nomatch q)

def mixKind (prog : Program) (w : World) : PySem.KeyKind prog w Key where
  is := keyIs
  hash := keyH w
  inj := fun v a b ha hb => by
    rcases keyIs_shape ha with ⟨i, t, rfl, rfl⟩ | ⟨x, t, rfl, rfl⟩
    · rcases keyIs_shape hb with ⟨j, u, rfl, e⟩ | ⟨y, u, rfl, e⟩
      · injection e with e1 _; rw [e1]
      · exact nomatch e
    · rcases keyIs_shape hb with ⟨j, u, rfl, e⟩ | ⟨y, u, rfl, e⟩
      · exact nomatch e
      · injection e with e1 _; rw [e1]
  byValue := fun k v h => by
    rcases keyIs_shape h with ⟨i, t, rfl, rfl⟩ | ⟨x, t, rfl, rfl⟩ <;> rfl
  pyHash := fun hv h => by
    rcases keyIs_shape hv with ⟨i, t, rfl, rfl⟩ | ⟨x, t, rfl, rfl⟩
    · exact wpAny_pyHash_int h
    · exact wpAny_pyHash_str h
  eqBool := fun hu hv h => by
    rcases keyIs_shape hu with ⟨i, t, rfl, rfl⟩ | ⟨x, t, rfl, rfl⟩
    · rcases keyIs_shape hv with ⟨j, u, rfl, rfl⟩ | ⟨y, u, rfl, rfl⟩
      · rw [key_ll] at h; exact wpAny_eqBool_int h
      · rw [key_lr] at h; exact SeqAt.EqAt.int_str i t y u _ _ _ _ h
    · rcases keyIs_shape hv with ⟨j, u, rfl, rfl⟩ | ⟨y, u, rfl, rfl⟩
      · rw [key_rl] at h; exact SeqAt.EqAt.str_int x t j u _ _ _ _ h
      · rw [key_rr] at h; exact wpAny_eqBool_str h
  «strs» := fun k x t v h => by
    rcases keyIs_shape h with ⟨i, u, rfl, e⟩ | ⟨y, u, rfl, e⟩
    · exact nomatch e
    · injection e with e1 _
      subst e1
      cases v <;> rfl

end L2

namespace L2
open PySem PySem.Spec PyProof.Rows

/-- a value, without the heap -/
inductive V where
  | non | bl (b : Bool) | int (i : Int) | str (x : Str) | byt (b : Array UInt8) | flt (b : UInt64) | ref (a : Addr) | ty (n : String)
  deriving DecidableEq

def RelV : V → Value → Prop
  | .non, u => u = Value.none
  | .bl b, u => u = Value.bool b
  | .int i, u => ∃ t, u = Value.int i t
  | .str x, u => ∃ t, u = Value.str x t
  | .byt b, u => ∃ t, u = Value.bytes b t
  | .flt b, u => ∃ t, u = Value.float b t
  | .ref a, u => u = Value.ref a
  | .ty n, u => u = Value.type n

abbrev Vals : List V → List Value → Prop := Paired RelV
theorem Vals.length {xs : List V} {us : List Value} (r : Vals xs us) : xs.length = us.length := Paired.length r
theorem Vals.get : ∀ {xs : List V} {us : List Value} {i : Nat} {x : V}, Vals xs us → xs[i]? = some x → ∃ u, us[i]? = some u ∧ RelV x u
  | _, _, _, _, .nil, e => by simp at e
  | _, _, 0, _, .cons r _, e => by simp at e; subst e; exact ⟨_, rfl, r⟩
  | _, _, i + 1, x, .cons _ t, e => by
    obtain ⟨u, h1, h2⟩ := Vals.get (i := i) (x := x) t (by simpa using e)
    exact ⟨u, by simpa using h1, h2⟩
theorem Vals.set {x : V} {u : Value} (r : RelV x u) : ∀ {xs : List V} {us : List Value} (i : Nat), Vals xs us → Vals (xs.set i x) (us.set i u)
  | _, _, _, .nil => .nil
  | _, _, 0, .cons _ t => .cons r t
  | _, _, i + 1, .cons q t => .cons q (Vals.set r i t)
theorem Vals.append : ∀ {xs ys : List V} {us ws : List Value}, Vals xs us → Vals ys ws → Vals (xs ++ ys) (us ++ ws)
  | _, _, _, _, .nil, s => s
  | _, _, _, _, .cons r t, s => .cons r (Vals.append t s)
theorem Vals.take : ∀ {xs : List V} {us : List Value} (n : Nat), Vals xs us → Vals (xs.take n) (us.take n)
  | _, _, 0, _ => .nil
  | _, _, _ + 1, .nil => .nil
  | _, _, n + 1, .cons r t => .cons r (Vals.take n t)
theorem Vals.drop : ∀ {xs : List V} {us : List Value} (n : Nat), Vals xs us → Vals (xs.drop n) (us.drop n)
  | _, _, 0, r => r
  | _, _, _ + 1, .nil => .nil
  | _, _, n + 1, .cons _ t => Vals.drop n t
def RelO : Option V → Option Value → Prop
  | some v, some u => RelV v u
  | none, none => True
  | _, _ => False
def KV {κ : Type} : List (κ × V) → List (κ × Value) → Prop := Paired fun (p : κ × V) (q : κ × Value) => p.1 = q.1 ∧ RelV p.2 q.2

/-- a key of a dict (00_mix): an int or a text -/
def kV : Key → V
  | .inl i => .int i
  | .inr x => .str x

/-- what stands at a tracked address -/
inductive HO where
  /-- a list -/
  | lst (xs : List V)
  /-- a tuple (never changes) -/
  | tup (xs : List V)
  /-- a dict whose keys are ints and texts; one whose keys are tuples of ints and texts (the empty one is both) -/
  | dK (kvs : List (Key × V)) | dT (kvs : List (List Key × V))
  /-- a set of ints: its members, its size -/
  | set (S : Int → Bool) (n : Nat)
  /-- an instance of the class at C, its dict at dx, its attributes -/
  | ins (C dx : Addr) (fs : List (Str × V))
  /-- the dict of the instance at x -/
  | own (x : Addr)
  /-- the dict of an exception -/
  | xd (fs : List (Str × V))
  /-- a bound method, f of x -/
  | met (f x : Addr)
  /-- a range object lo, lo + 1, .. below hi -/
  | rng (lo hi : Int)
  /-- a thing that is known to the object (the script; a dict while a loop walks it): read, never written while it is so -/
  | frz (o : Obj) (u : HO)
  /-- a code object's table -/
  | tbl (ps : Array Value)
  /-- any other thing, by what is true of its one object (a def of one's own: SetO a S n := HO.ext fun h => ..) -/
  | ext (φ : Heap → Prop)

abbrev Hp := Addr → Option HO
def upd (H : Hp) (a : Addr) (o : HO) : Hp := fun b => if b = a then some o else H b
theorem upd_same {H : Hp} {a : Addr} {o : HO} : upd H a o a = some o := by unfold upd; rw [if_pos rfl]
theorem upd_ne {H : Hp} {a b : Addr} {o : HO} (h : b ≠ a) : upd H a o b = H b := by unfold upd; rw [if_neg h]
theorem upd_upd {H : Hp} {a : Addr} {o u : HO} : upd (upd H a o) a u = upd H a u := by
  funext b; unfold upd; split <;> rfl
/-- two objects of different content stand apart -/
theorem ne_of {H : Hp} {a b : Addr} {o u : HO} (h : H a = some o) (h' : H b = some u) (d : o ≠ u) : a ≠ b := by
  intro e; subst e; rw [h] at h'; exact d (Option.some.inj h')
theorem ne_of_none {H : Hp} {a b : Addr} {o : HO} (h : H a = some o) (h' : H b = none) : a ≠ b := by
  intro e; subst e; rw [h] at h'; cases h'

section
variable (P : Program) (w : World)
def ObjOk (H : Hp) (h : Heap) (a : Addr) : HO → Prop
  | .lst xs => xs.length ≤ sizeLine ∧ ∃ (its : List Value) (n : Nat), Vals xs its ∧ h.get? a = some { cls := .type "list", data := .seq its.toArray n }
  | .tup xs => xs.length ≤ sizeLine ∧ ∃ its : List Value, Vals xs its ∧ IsTup h a its.toArray
  | .dK kvs => kvs.length ≤ sizeLine ∧ (a == sysModules) = false ∧ ∃ vs, KV kvs vs ∧ h.DictOf (mixKind P w) a vs
  | .dT kvs => kvs.length ≤ sizeLine ∧ (a == sysModules) = false ∧ ∃ xs : List (List Key × Addr × Value),
      Paired (fun (p : List Key × V) (q : List Key × Addr × Value) => p.1 = q.1 ∧ H q.2.1 = some (.tup (p.1.map kV)) ∧ RelV p.2 q.2.2) kvs xs ∧
      ∃ o es ep, h.get? a = some o ∧ o.ExactDict ∧ o.data = .dict es ep ∧ es.toList = xs.map (entryOfKey (tupleKind (mixKind P w))) ∧ (xs.map (·.1)).Nodup
  | .set S n => h.SetOf (intKind P w) a S n
  | .ins C dx fs => H dx = some (.own a) ∧ fs.length ≤ 1000 ∧ dx ≠ a ∧ h.get? a = some (PySem.W.instObj C dx) ∧
      ∃ mA, h.Ns1 dx mA ∧ (∀ f, RelO (fs.lookup f) (mA f)) ∧ PySem.Within mA (fs.map (·.1))
  | .own _ => ∃ o, h.get? a = some o
  | .xd fs => ∃ mA, h.Ns1 a mA ∧ ∀ f, RelO (fs.lookup f) (mA f)
  | .rng lo hi => ∃ t u v, h.get? a = some { cls := .type "range", data := .fields #[.int lo t, .int hi u, .int 1 v] }
  | .frz o u => h.get? a = some o ∧ ObjOk H h a u
  | .tbl ps => h.get? a = some { cls := .none, data := .fields ps }
  | .met f x => h.get? a = some (PySem.W.methodObj (.ref f) (.ref x))
  | .ext φ => φ h ∧ (∃ o, h.get? a = some o) ∧ ∀ h1 h2 : Heap, φ h1 → (∀ o, h1.get? a = some o → h2.get? a = some o) → φ h2
/-- the abstract heap is held -/
def HOk (H : Hp) (h : Heap) : Prop := ∀ a o, H a = some o → ObjOk P w H h a o
end

section
variable {P : Program} {w : World} {H H' : Hp} {h h' : Heap} {a : Addr} {o : HO}
theorem ObjOk.lt (x : ObjOk P w H h a o) : a < h.objs.size := by
  cases o with
  | lst xs => obtain ⟨_, _, _, _, e⟩ := x; exact Heap.lt_size e
  | tup xs => obtain ⟨_, _, _, p⟩ := x; exact p.lt
  | dK kvs => obtain ⟨_, _, _, _, o, _, _, e, _⟩ := x; exact Heap.lt_size e
  | dT kvs => obtain ⟨_, _, _, _, o, _, _, e, _⟩ := x; exact Heap.lt_size e
  | set S n => obtain ⟨o, _, _, _, e, _⟩ := x; exact Heap.lt_size e
  | ins C dx fs => obtain ⟨_, _, _, e, _⟩ := x; exact Heap.lt_size e
  | own y => obtain ⟨_, e⟩ := x; exact Heap.lt_size e
  | xd fs => obtain ⟨_, ⟨_, _, _, e, _⟩, _⟩ := x; exact Heap.lt_size e
  | rng lo hi => obtain ⟨_, _, _, e⟩ := x; exact Heap.lt_size e
  | frz ob u => obtain ⟨e, _⟩ := x; exact Heap.lt_size e
  | tbl ps => exact Heap.lt_size (show h.get? a = some _ from x)
  | met f y => exact Heap.lt_size (show h.get? a = some _ from x)
  | ext φ => obtain ⟨_, ⟨_, e⟩, _⟩ := x; exact Heap.lt_size e
theorem Paired.mapP {α β : Type} {F G : α → β → Prop} : ∀ {l₁ : List α} {l₂ : List β}, Paired F l₁ l₂ → (∀ a b, F a b → G a b) → Paired G l₁ l₂
  | _, _, .nil, _ => .nil
  | _, _, .cons r t, f => .cons (f _ _ r) (Paired.mapP t f)
/-- what an object's description leans on: its own object, its own dict, the tuples -/
theorem ObjOk.stay (x : ObjOk P w H h a o) (k : ∀ b u, (b = a ∨ H b = some (.own a)) → h.get? b = some u → h'.get? b = some u)
    (ho : ∀ b, H b = some (.own a) → H' b = some (.own a)) (ht : ∀ b xs, H b = some (.tup xs) → H' b = some (.tup xs)) : ObjOk P w H' h' a o := by
  induction o with
  | lst xs => obtain ⟨z, its, n, r, e⟩ := x; exact ⟨z, its, n, r, k _ _ (.inl rfl) e⟩
  | tup xs => obtain ⟨z, its, r, ob, e, c⟩ := x; exact ⟨z, its, r, ob, k _ _ (.inl rfl) e, c⟩
  | dK kvs => obtain ⟨z, y, vs, r, ob, es, ep, e, c⟩ := x; exact ⟨z, y, vs, r, ob, es, ep, k _ _ (.inl rfl) e, c⟩
  | dT kvs =>
    obtain ⟨z, y, xs, r, ob, es, ep, e, c⟩ := x
    exact ⟨z, y, xs, Paired.mapP r fun p q z => ⟨z.1, ht _ _ z.2.1, z.2.2⟩, ob, es, ep, k _ _ (.inl rfl) e, c⟩
  | set S n => obtain ⟨ob, es, ep, t, e, c⟩ := x; exact ⟨ob, es, ep, t, k _ _ (.inl rfl) e, c⟩
  | ins C dx fs =>
    obtain ⟨d, z, ne, e, mA, ⟨od, es, ep, e2, c⟩, r⟩ := x
    exact ⟨ho _ d, z, ne, k _ _ (.inl rfl) e, mA, ⟨od, es, ep, k _ _ (.inr d) e2, c⟩, r⟩
  | own y => obtain ⟨ob, e⟩ := x; exact ⟨ob, k _ _ (.inl rfl) e⟩
  | xd fs => obtain ⟨mA, ⟨od, es, ep, e, c⟩, r⟩ := x; exact ⟨mA, ⟨od, es, ep, k _ _ (.inl rfl) e, c⟩, r⟩
  | rng lo hi => obtain ⟨t, u, v, e⟩ := x; exact ⟨t, u, v, k _ _ (.inl rfl) e⟩
  | frz ob u ih => obtain ⟨e, q⟩ := x; exact ⟨k _ _ (.inl rfl) e, ih q⟩
  | tbl ps =>
    have e : h.get? a = some { cls := .none, data := .fields ps } := x
    show h'.get? a = some { cls := .none, data := .fields ps }
    exact k a _ (.inl rfl) e
  | met f y =>
    have e : h.get? a = some (PySem.W.methodObj (.ref f) (.ref y)) := x
    show h'.get? a = some (PySem.W.methodObj (.ref f) (.ref y))
    exact k a _ (.inl rfl) e
  | ext φ => obtain ⟨p, ⟨o, e⟩, st⟩ := x; exact ⟨st _ _ p fun o q => k _ _ (.inl rfl) q, ⟨o, k _ _ (.inl rfl) e⟩, st⟩
theorem HOk.lt (x : HOk P w H h) (e : H a = some o) : a < h.objs.size := (x a o e).lt
theorem HOk.fresh (x : HOk P w H h) (e : h.objs.size ≤ a) : H a = none := by
  cases q : H a with
  | none => rfl
  | some u => exact absurd (Nat.lt_of_lt_of_le (x.lt q) e) (Nat.lt_irrefl _)
/-- every object of the heap is kept -/
theorem HOk.kept (x : HOk P w H h) (k : ∀ b u, h.get? b = some u → h'.get? b = some u) : HOk P w H h' := fun a o e =>
  (x a o e).stay (fun b u _ q => k b u q) (fun _ q => q) fun _ _ q => q
/-- a new object is laid and tracked -/
theorem HOk.laid (x : HOk P w H h) (k : ∀ b u, h.get? b = some u → h'.get? b = some u) (hp : h.objs.size ≤ a) (new : ObjOk P w (upd H a o) h' a o) : HOk P w (upd H a o) h' := fun b u e => by
  have hn := x.fresh hp
  by_cases hb : b = a
  · subst hb; rw [upd_same] at e; cases e; exact new
  · rw [upd_ne hb] at e
    exact (x b u e).stay (fun c v _ q => k c v q) (fun c q => by rw [upd_ne (ne_of_none q hn)]; exact q) fun c xs q => by rw [upd_ne (ne_of_none q hn)]; exact q
end

/-- what may be read as u: it is u, or a known u -/
def Rd (H : Hp) (a : Addr) (u : HO) : Prop := H a = some u ∨ ∃ o, H a = some (.frz o u)
theorem Rd.ok {P : Program} {w : World} {H : Hp} {h : Heap} {a : Addr} {u : HO} (r : Rd H a u) (x : HOk P w H h) : ObjOk P w H h a u := by
  rcases r with r | ⟨o, r⟩
  · exact x a u r
  · obtain ⟨_, q⟩ := x a _ r
    exact q
/-- what may be written -/
def Mut : Option HO → Prop
  | some (.lst _) => True
  | some (.dK _) => True
  | some (.dT _) => True
  | some (.set _ _) => True
  | some (.ins _ _ _) => True
  | some (.ext _) => True
  | _ => False
section
variable {P : Program} {w : World} {H : Hp} {h h' : Heap} {x e : Addr} {o' : HO}
/-- the object at e is changed: x itself, or the dict of the instance x -/
theorem HOk.write (ok : HOk P w H h) (mu : Mut (H x)) (he : e = x ∨ H e = some (.own x)) (k : ∀ b u, b ≠ e → h.get? b = some u → h'.get? b = some u) (heo : ∃ u, h'.get? e = some u)
    (new : ObjOk P w (upd H x o') h' x o') : HOk P w (upd H x o') h' := fun b u q => by
  have nown : ∀ c y, H c = some (.own y) → c ≠ x := fun c y r z => by subst z; rw [r] at mu; exact mu
  have ntup : ∀ c xs, H c = some (.tup xs) → c ≠ x := fun c xs r z => by subst z; rw [r] at mu; exact mu
  by_cases hb : b = x
  · subst hb; rw [upd_same] at q; cases q; exact new
  · rw [upd_ne hb] at q
    by_cases hbe : b = e
    · have q' : H b = some (.own x) := by
        rcases he with z | z
        · exact absurd (hbe.trans z) hb
        · rw [hbe]; exact z
      rw [q] at q'; cases q'
      obtain ⟨v, hv⟩ := heo
      exact ⟨v, by rw [hbe]; exact hv⟩
    · refine (ok b u q).stay (fun c v hc r => k c v ?_ r) (fun c r => by rw [upd_ne (nown c b r)]; exact r) fun c xs r => by rw [upd_ne (ntup c xs r)]; exact r
      rcases hc with rfl | hc
      · exact hbe
      · rintro rfl
        rcases he with z | z
        · exact nown c b hc z
        · rw [hc] at z; cases z; exact hb rfl
end

/-! ### kept unless tracked; of the frames at fs (the callers') the slots may change (an exception that passes writes there); of the records at ex (iterators) nothing is said -/
structure Un (fs ex : List Addr) (H H' : Hp) (h h' : Heap) : Prop where
  keep : ∀ b o, h.get? b = some o → H b = none → b ∉ fs → b ∉ ex → h'.get? b = some o
  slot : ∀ b o, h.get? b = some o → H b = none → b ∈ fs → b ∉ ex → ∃ sl, h'.get? b = some { o with slots := sl }
  free : ∀ b o, h.get? b = some o → H b = none → b ∉ ex → H' b = none
  there : ∀ b o, h.get? b = some o → b ∉ ex → ∃ o', h'.get? b = some o'
  tups : ∀ b xs, H b = some (.tup xs) → H' b = some (.tup xs)
  frzs : ∀ b o u, H b = some (.frz o u) → H' b = some (.frz o u)
  tbls : ∀ b ps, H b = some (.tbl ps) → ∃ more, H' b = some (.tbl (ps ++ more))
section
variable {fs fs' ex ex' : List Addr} {H H1 H2 : Hp} {h h1 h2 h' : Heap} {a x e : Addr} {o : HO}
theorem Un.any (u : Un fs ex H H1 h h1) {b : Addr} {ob : Obj} (q : h.get? b = some ob) (n : H b = none) (hx : b ∉ ex) : ∃ sl, h1.get? b = some { ob with slots := sl } := by
  by_cases hb : b ∈ fs
  · exact u.slot b ob q n hb hx
  · exact ⟨ob.slots, u.keep b ob q n hb hx⟩
theorem Un.kept (k : ∀ b u, h.get? b = some u → h'.get? b = some u) : Un fs ex H H h h' :=
  ⟨fun b ob q _ _ _ => k b ob q, fun b ob q _ _ _ => ⟨ob.slots, k b ob q⟩, fun _ _ _ n _ => n, fun b ob q _ => ⟨ob, k b ob q⟩, fun _ _ q => q, fun _ _ _ q => q, fun _ ps q => ⟨#[], by rw [q]; simp⟩⟩
theorem Un.refl : Un fs ex H H h h := Un.kept fun _ _ q => q
theorem Un.laid (k : ∀ b u, h.get? b = some u → h'.get? b = some u) (hp : h.objs.size ≤ a) (hn : H a = none) : Un fs ex H (upd H a o) h h' where
  keep := fun b u q _ _ _ => k b u q
  slot := fun b u q _ _ _ => ⟨u.slots, k b u q⟩
  free := fun b u q n _ => by rw [upd_ne (Nat.ne_of_lt (Nat.lt_of_lt_of_le (Heap.lt_size q) hp))]; exact n
  there := fun b u q _ => ⟨u, k b u q⟩
  tups := fun b xs q => by rw [upd_ne (ne_of_none q hn)]; exact q
  frzs := fun b u xs q => by rw [upd_ne (ne_of_none q hn)]; exact q
  tbls := fun b ps q => ⟨#[], by rw [upd_ne (ne_of_none q hn), q]; simp⟩
theorem Un.write (mu : Mut (H x)) (he : e = x ∨ H e = some (.own x)) (k : ∀ b u, b ≠ e → h.get? b = some u → h'.get? b = some u) (heo : ∃ u, h'.get? e = some u) : Un fs ex H (upd H x o) h h' := by
  have hx : ∀ b, H b = none → b ≠ x := fun b n z => by subst z; rw [n] at mu; exact mu
  have hb : ∀ b, H b = none → b ≠ e := fun b n z => by
    subst z
    rcases he with r | r
    · exact hx b n r
    · rw [n] at r; cases r
  have hm : ∀ b u, H b = some u → ¬ Mut (some u) → b ≠ x := fun b u q nm z => by subst z; rw [q] at mu; exact nm mu
  refine ⟨fun b u q n _ _ => k b u (hb b n) q, fun b u q n _ _ => ⟨u.slots, k b u (hb b n) q⟩, fun b u q n _ => by rw [upd_ne (hx b n)]; exact n, fun b u q _ => ?_,
    fun b xs q => by rw [upd_ne (hm b _ q fun z => z)]; exact q, fun b u xs q => by rw [upd_ne (hm b _ q fun z => z)]; exact q, fun b ps q => ⟨#[], by rw [upd_ne (hm b _ q fun z => z), q]; simp⟩⟩
  by_cases hbe : b = e
  · subst hbe; exact heo
  · exact ⟨u, k b u hbe q⟩
end

/-! ### the heap without what is tracked -/
def trk (h : Heap) (H : Hp) : List Addr := (List.range h.objs.size).filter fun a => (H a).isSome
def hidT (h : Heap) (H : Hp) : Heap := PySem.W.hideAll h (trk h H)
theorem hidT_size (h : Heap) (H : Hp) : (hidT h H).objs.size = h.objs.size := PySem.W.hideAll_size _ _
theorem hidT_get {h : Heap} {H : Hp} {b : Addr} {o : Obj} (e : h.get? b = some o) (n : H b = none) : (hidT h H).get? b = some o :=
  PySem.W.hideAll_get _ e fun hm => by
    have q : (H b).isSome = true := (List.mem_filter.mp hm).2
    rw [n] at q; simp at q
theorem of_hidT {h : Heap} {H : Hp} {b : Addr} {o : Obj} (e : (hidT h H).get? b = some o) : h.get? b = some o ∧ H b = none := by
  have e' : h.get? b = some o := PySem.W.of_hideAll (trk h H) e
  refine ⟨e', ?_⟩
  cases q : H b with
  | none => rfl
  | some x =>
    have hm : b ∈ trk h H := List.mem_filter.mpr ⟨List.mem_range.mpr (Heap.lt_size e'), by simp [q]⟩
    have z : (hidT h H).get? b = none := PySem.W.hideAll_none (trk h H) hm
    rw [z] at e; cases e

/-! ### OpenK's ledger, filled with every new object but one -/
def allNews (g h : Heap) (L : Addr) : List (Addr × Obj) := (List.range h.objs.size).filterMap fun a => if a = L ∨ (g.get? a).isSome = true then none else (h.get? a).map fun o => (a, o)
def rest (g h : Heap) (L d : Addr) : List (Addr × Obj) := (allNews g h L).filter fun p => decide (p.1 ≠ d)
end L2

namespace L2
open PySem PySem.Spec PyProof.Rows

/-- the module's facts, over the base: the heap at the law's entry without what is tracked there -/
structure Mod (K : PySem.W.Frag) (mg : Str → Option Value) (base : Heap) : Prop where
  kin : K.In base
  glob : base.Ns mainGlobals mg
  blt : ∃ mb, base.Ns builtinsNs mb ∧ ∀ x : Str, x ≠ "__name__" → mb x = bootBuiltins x
  nolimit : base.NoLimit

/-- the context: a def's body (or a comprehension's block) running. base: fixed through the whole law; s₀, H₀: the entry; outer: the frames whose slots others may change (a def's callers); stack: all frames that run;
   ex: iterators that were made ahead of the entry and are walked here (a comprehension's); fn: the names whose cells were made at the entry (a def: all; a comprehension's block: its own); calm: not within an except suite; pn: pins that every state bears; xe: what is wanted of an exception that leaves the code -/
structure Cx where
  prog : Program
  w : World
  K : PySem.W.Frag
  mg : Str → Option Value
  base : Heap
  A : Around
  N : List Str
  s₀ : Shared
  H₀ : Hp
  env : Env
  outer : List Env
  stack : List Env
  ex : List Addr
  fn : Str → Bool
  calm : Bool
  pn : List (Addr × Obj)
  xe : Value → Shared → Prop
/-- the callers' frames -/
def frs (l : List Env) : List Addr := l.filterMap (·.frame)
abbrev Cx.fs (X : Cx) : List Addr := frs X.outer

def Vis (sc : Scope) (x : Str) : Prop := sc.names.lookup x = some .local ∨ sc.names.lookup x = some .cell ∨ sc.names.lookup x = some .free
def Loc (sc : Scope) (x : Str) : Prop := sc.names.lookup x = some .local ∨ sc.names.lookup x = some .cell
def Look (env : Env) (h : Heap) (m : Str → Option Value) (x : Str) (u : Value) : Prop :=
  (env.kindOf x = some .local ∧ m x = some u) ∨ ((env.kindOf x = some .cell ∨ env.kindOf x = some .free) ∧ ∃ c, env.cells.lookup x = some c ∧ h.IsCell c (some u))

structure Cx.Ok (X : Cx) : Prop where
  mod : Mod X.K X.mg X.base
  kind : X.env.scope.kind = .function
  glob : X.env.globals = mainGlobals
  blt : X.env.builtins = builtinsNs
  above : X.s₀.heap.objs.size ≤ X.env.locals
  inj : ∀ x y c, X.env.cells.lookup x = some c → X.env.cells.lookup y = some c → x = y
  has : ∀ x, (X.env.kindOf x = some .cell ∨ X.env.kindOf x = some .free) → ∃ c, X.env.cells.lookup x = some c
  cab : ∀ x c, X.fn x = true → X.env.cells.lookup x = some c → X.s₀.heap.objs.size ≤ c
  hd : X.calm = true → X.A.handled = none
  frames : X.A.frames = some X.stack
  stk : X.stack = X.outer ∨ (X.stack = X.env :: X.outer ∧ X.env.frame = some X.env.locals)
  exf : ∀ b ∈ X.ex, b ≠ X.env.locals ∧ ∀ x c, X.env.cells.lookup x = some c → c ≠ b
  bs : ∀ b o, X.base.get? b = some o → X.s₀.heap.get? b = some o ∧ X.H₀ b = none
  bsz : X.base.objs.size ≤ X.s₀.heap.objs.size
  noex : ∀ b o, X.base.get? b = some o → b ∉ X.ex
  exfs : ∀ b ∈ X.ex, b ∉ X.fs
  funs : X.s₀.heap.FunFrames X.base X.outer
  frf : ∀ b ∈ X.fs, X.H₀ b = none

structure Inv (X : Cx) (pins : List (Addr × Obj)) (σ : List (Option V)) (H : Hp) (s : Shared) : Prop where
  ok : X.Ok
  os : s.os = X.s₀.os
  bare : AllBare s.gens
  base : Un X.fs X.ex X.H₀ H X.s₀.heap s.heap
  loc : ∃ m, s.heap.Ns X.env.locals m ∧ ∀ (i : Nat) (x : Str) (v : V), X.N[i]? = some x → σ[i]? = some (some v) → Vis X.env.scope x → ∃ u, RelV v u ∧ Look X.env s.heap m x u
  cell : ∀ x c, X.env.cells.lookup x = some c → ∃ v, s.heap.IsCell c v
  free : H X.env.locals = none
  freeC : ∀ x c, X.env.cells.lookup x = some c → H c = none
  pin : ∀ p ∈ X.pn ++ pins, s.heap.get? p.1 = some p.2 ∧ H p.1 = none ∧ p.1 ≠ X.env.locals ∧ p.1 ∉ X.fs ∧ ∀ v, p.2.data ≠ .cell v
  hok : HOk X.prog X.w H s.heap
  len : σ.length = X.N.length

section
variable {X : Cx} {pins : List (Addr × Obj)} {σ : List (Option V)} {H H' : Hp} {s : Shared} {h' : Heap}

theorem Cx.Ok.nofr (ok : X.Ok) {b : Addr} {o : Obj} (e : X.base.get? b = some o) : b ∉ X.fs := fun hb => by
  have := (ok.funs.mem hb).1
  rw [e] at this; cases this
theorem Inv.bs (I : Inv X pins σ H s) : ∀ b o, X.base.get? b = some o → s.heap.get? b = some o ∧ H b = none := fun b o e =>
  ⟨I.base.keep b o (I.ok.bs b o e).1 (I.ok.bs b o e).2 (I.ok.nofr e) (I.ok.noex b o e), I.base.free b o (I.ok.bs b o e).1 (I.ok.bs b o e).2 (I.ok.noex b o e)⟩
theorem Inv.bk (I : Inv X pins σ H s) : ∀ b o, X.base.get? b = some o → s.heap.get? b = some o := fun b o e => (I.bs b o e).1
theorem Inv.mod (I : Inv X pins σ H s) : Mod X.K X.mg X.base := I.ok.mod
theorem Inv.kIn (I : Inv X pins σ H s) : X.K.In s.heap := I.ok.mod.kin.keeps I.bk
theorem Inv.lt (I : Inv X pins σ H s) : X.env.locals < s.heap.objs.size := let ⟨_, hn, _⟩ := I.loc; hn.lt
theorem Inv.sz (I : Inv X pins σ H s) : X.s₀.heap.objs.size ≤ s.heap.objs.size := Nat.le_trans I.ok.above (Nat.le_of_lt I.lt)
theorem Inv.nofs (I : Inv X pins σ H s) {a : Addr} (h : s.heap.objs.size ≤ a) : a ∉ X.fs := fun hb => by
  obtain ⟨_, o, ho, _⟩ := I.ok.funs.mem hb
  exact absurd (Nat.lt_of_lt_of_le (Heap.lt_size ho) (Nat.le_trans I.sz h)) (Nat.lt_irrefl _)
theorem Inv.cne (I : Inv X pins σ H s) : ∀ x c, X.env.cells.lookup x = some c → c ≠ X.env.locals := fun x c e z => by
  obtain ⟨v, o, ho, hd⟩ := I.cell x c e
  obtain ⟨m, ⟨o', es, ep, ho', hd', _⟩, _⟩ := I.loc
  rw [z, ho'] at ho; cases ho; rw [hd'] at hd; cases hd
theorem Inv.funs (I : Inv X pins σ H s) : s.heap.FunFrames X.base X.outer := by
  have all : ∀ (l : List Env), (∀ b ∈ frs l, b ∈ X.fs) → X.s₀.heap.FunFrames X.base l → s.heap.FunFrames X.base l := by
    intro l
    induction l with
    | nil => intro _ _; trivial
    | cons env r ih =>
      intro hs hl
      obtain ⟨hk, ⟨L, o, hf, hn, ho, hd⟩, hr⟩ := hl
      have hL : L ∈ X.fs := hs L (by unfold frs; rw [List.filterMap_cons, hf]; exact List.mem_cons_self)
      obtain ⟨sl, e⟩ := I.base.slot L o ho (I.ok.frf L hL) hL fun z => I.ok.exfs L z hL
      exact ⟨hk, ⟨L, _, hf, hn, e, hd⟩, ih (fun b hb => hs b (by unfold frs; rw [List.filterMap_cons, hf]; exact List.mem_cons_of_mem _ hb)) hr⟩
  exact all X.outer (fun _ hb => hb) I.ok.funs

/-- the frames that run, for a call -/
theorem Inv.stack (I : Inv X pins σ H s) : s.heap.FunFrames X.base X.stack := by
  rcases I.ok.stk with e | ⟨e, hf⟩
  · rw [e]; exact I.funs
  · rw [e]
    obtain ⟨m, hn, _⟩ := I.loc
    refine .cons (by rw [I.ok.kind]; decide) hf hn ?_ I.funs
    exact Heap.get?_none_of_le (Nat.le_trans I.ok.bsz I.ok.above)
theorem Inv.stkSub (I : Inv X pins σ H s) : ∀ b ∈ frs X.stack, b ∈ X.env.locals :: X.fs := fun b hb => by
  rcases I.ok.stk with e | ⟨e, hf⟩
  · rw [e] at hb; exact List.mem_cons_of_mem _ hb
  · rw [e] at hb
    unfold frs at hb
    rw [List.filterMap_cons, hf] at hb
    exact hb
theorem Inv.stkFree (I : Inv X pins σ H s) : ∀ b ∈ frs X.stack, H b = none := fun b hb => by
  rcases List.mem_cons.mp (I.stkSub b hb) with e | hb
  · rw [e]; exact I.free
  · obtain ⟨_, o, ho, _⟩ := I.ok.funs.mem hb
    exact I.base.free b o ho (I.ok.frf b hb) fun z => I.ok.exfs b z hb

/-- THE STEP: the untracked objects but the frame and the records at ch are kept (the callers' frames up to slots), the frame's map is kept, the new abstract heap is held -/
theorem Inv.step {g' : Array GenState} {t' : Nat} {d' : Drawn} {ch : List Addr} (I : Inv X pins σ H s)
    (hch : ∀ b ∈ ch, (b ∈ X.ex ∨ X.s₀.heap.objs.size ≤ b) ∧ b ≠ X.env.locals ∧ (∀ x c, X.env.cells.lookup x = some c → c ≠ b) ∧ ∀ p ∈ X.pn ++ pins, p.1 ≠ b)
    (keep : ∀ b o, b ≠ X.env.locals → b ∉ X.fs → b ∉ ch → s.heap.get? b = some o → H b = none → h'.get? b = some o)
    (slot : ∀ b o, b ≠ X.env.locals → b ∈ X.fs → b ∉ ch → s.heap.get? b = some o → H b = none → ∃ sl, h'.get? b = some { o with slots := sl }) (free : ∀ b o, b ∉ ch → s.heap.get? b = some o → H b = none → H' b = none)
    (there : ∀ b o, b ∉ ch → s.heap.get? b = some o → ∃ o', h'.get? b = some o')
    (tups : ∀ b xs, H b = some (.tup xs) → H' b = some (.tup xs)) (frzs : ∀ b o u, H b = some (.frz o u) → H' b = some (.frz o u)) (tbls : ∀ b ps, H b = some (.tbl ps) → ∃ more, H' b = some (.tbl (ps ++ more)))
    (ns : ∀ m, s.heap.Ns X.env.locals m → h'.Ns X.env.locals m) (hok : HOk X.prog X.w H' h') (hg : AllBare g') :
    Inv X pins σ H' { s with heap := h', gens := g', drawn := d', toks := t' } := by
  have neL : ∀ b o, X.s₀.heap.get? b = some o → b ≠ X.env.locals := fun b o e => Nat.ne_of_lt (Nat.lt_of_lt_of_le (Heap.lt_size e) I.ok.above)
  have neC : ∀ b o, X.s₀.heap.get? b = some o → b ∉ X.ex → b ∉ ch := fun b o e hx hb => by
    rcases (hch b hb).1 with z | z
    · exact hx z
    · exact absurd (Nat.lt_of_lt_of_le (Heap.lt_size e) z) (Nat.lt_irrefl _)
  have cellK : ∀ x c, X.env.cells.lookup x = some c → ∀ v, s.heap.IsCell c v → h'.IsCell c v := fun x c e v ⟨o, ho, hd⟩ => by
    have nch : c ∉ ch := fun z => (hch c z).2.2.1 x c e rfl
    by_cases hc : c ∈ X.fs
    · obtain ⟨sl, q⟩ := slot c o (I.cne x c e) hc nch ho (I.freeC x c e)
      exact ⟨_, q, hd⟩
    · exact ⟨o, keep c o (I.cne x c e) hc nch ho (I.freeC x c e), hd⟩
  refine ⟨I.ok, I.os, hg, ⟨fun b o e n hb hx => ?_, fun b o e n hb hx => ?_, fun b o e n hx => ?_, fun b o e hx => ?_, fun b xs e => tups b xs (I.base.tups b xs e), fun b o xs e => frzs b o xs (I.base.frzs b o xs e), fun b ps e => ?_⟩, ?_, fun x c e => ?_, ?_, fun x c e => ?_, fun p hp => ?_, hok, I.len⟩
  · exact keep b o (neL b o e) hb (neC b o e hx) (I.base.keep b o e n hb hx) (I.base.free b o e n hx)
  · obtain ⟨sl, e1⟩ := I.base.slot b o e n hb hx
    obtain ⟨sl', e2⟩ := slot b _ (neL b o e) hb (neC b o e hx) e1 (I.base.free b o e n hx)
    exact ⟨sl', e2⟩
  · obtain ⟨o', e1⟩ := I.base.there b o e hx
    exact free b o' (neC b o e hx) e1 (I.base.free b o e n hx)
  · obtain ⟨o', e1⟩ := I.base.there b o e hx
    exact there b o' (neC b o e hx) e1
  · obtain ⟨m1, e1⟩ := I.base.tbls b ps e
    obtain ⟨m2, e2⟩ := tbls b _ e1
    exact ⟨m1 ++ m2, by rw [e2, Array.append_assoc]⟩
  · obtain ⟨m, hn, hl⟩ := I.loc
    refine ⟨m, ns m hn, fun i x v e1 e2 e3 => ?_⟩
    obtain ⟨u, r, l⟩ := hl i x v e1 e2 e3
    refine ⟨u, r, ?_⟩
    rcases l with l | ⟨k, c, e, z⟩
    · exact .inl l
    · exact .inr ⟨k, c, e, cellK x c e _ z⟩
  · obtain ⟨v, z⟩ := I.cell x c e
    exact ⟨v, cellK x c e v z⟩
  · obtain ⟨m, ⟨o, _, _, ho, _⟩, _⟩ := I.loc
    exact free _ o (fun z => (hch _ z).2.1 rfl) ho I.free
  · obtain ⟨v, o, ho, hd⟩ := I.cell x c e
    exact free c o (fun z => (hch c z).2.2.1 x c e rfl) ho (I.freeC x c e)
  · obtain ⟨e, n, ne, nf, d⟩ := I.pin p hp
    have nch : p.1 ∉ ch := fun z => (hch p.1 z).2.2.2 p hp rfl
    exact ⟨keep p.1 p.2 ne nf nch e n, free p.1 p.2 nch e n, ne, nf, d⟩
/-- .. where the frame's own object is kept too -/
theorem Inv.un {t' : Nat} (I : Inv X pins σ H s) (u : Un X.fs [] H H' s.heap h') (hok : HOk X.prog X.w H' h') : Inv X pins σ H' { s with heap := h', toks := t' } := by
  obtain ⟨m, ⟨o, es, ep, ho, r⟩, _⟩ := id I.loc
  obtain ⟨sl, hL⟩ := u.any ho I.free (by simp)
  exact I.step (g' := s.gens) (d' := s.drawn) (ch := []) (fun _ z => nomatch z) (fun b o _ hb _ e n => u.keep b o e n hb (by simp)) (fun b o _ hb _ e n => u.slot b o e n hb (by simp)) (fun b o _ e n => u.free b o e n (by simp)) (fun b o _ e => u.there b o e (by simp)) u.tups u.frzs u.tbls (fun m' hm => by
    obtain ⟨o', es', ep', ho', r'⟩ := hm
    rw [ho] at ho'; cases ho'
    exact ⟨_, es', ep', hL, r'⟩) hok I.bare
/-- behind a call (or a comprehension's block): the slots of this frame may have changed too, the records at ch may have turned -/
theorem Inv.call {g' : Array GenState} {t' : Nat} {d' : Drawn} {ch : List Addr} (I : Inv X pins σ H s) (u : Un (frs X.stack) ch H H' s.heap h') (hok : HOk X.prog X.w H' h') (hg : AllBare g')
    (hch : ∀ b ∈ ch, (b ∈ X.ex ∨ X.s₀.heap.objs.size ≤ b) ∧ b ≠ X.env.locals ∧ (∀ x c, X.env.cells.lookup x = some c → c ≠ b) ∧ ∀ p ∈ X.pn ++ pins, p.1 ≠ b) :
    Inv X pins σ H' { s with heap := h', gens := g', drawn := d', toks := t' } := by
  obtain ⟨m, ⟨o, es, ep, ho, r⟩, _⟩ := id I.loc
  obtain ⟨sl, hL⟩ := u.any ho I.free fun z => (hch _ z).2.1 rfl
  exact I.step (ch := ch) hch (fun b o hL hb hc e n => u.keep b o e n (fun z => (List.mem_cons.mp (I.stkSub b z)).elim hL hb) hc) (fun b o _ _ hc e n => u.any e n hc) (fun b o hc e n => u.free b o e n hc) (fun b o hc e => u.there b o e hc) u.tups u.frzs u.tbls (fun m' hm => by
    obtain ⟨o', es', ep', ho', r'⟩ := hm
    rw [ho] at ho'; cases ho'
    exact ⟨_, es', ep', hL, r'⟩) hok hg
/-- an untracked record of ours (an iterator) has turned -/
theorem Inv.turned {t' : Nat} {it : Addr} (I : Inv X pins σ H s) (k : ∀ b o, b ≠ it → s.heap.get? b = some o → h'.get? b = some o) (hn : H it = none) (hL : it ≠ X.env.locals)
    (h1 : it ∈ X.ex ∨ X.s₀.heap.objs.size ≤ it) (h2 : ∀ x c, X.env.cells.lookup x = some c → c ≠ it) (h3 : ∀ p ∈ X.pn ++ pins, p.1 ≠ it) : Inv X pins σ H { s with heap := h', toks := t' } := by
  have nit : ∀ b u, H b = some u → b ≠ it := fun b u e z => by rw [z, hn] at e; cases e
  refine I.step (g' := s.gens) (d' := s.drawn) (ch := [it]) (fun b hb => ?_) (fun b o _ _ hc e _ => k b o (fun z => hc (by simp [z])) e) (fun b o _ _ hc e _ => ⟨o.slots, k b o (fun z => hc (by simp [z])) e⟩) (fun _ _ _ _ n => n)
    (fun b o hc e => ⟨o, k b o (fun z => hc (by simp [z])) e⟩) (fun _ _ e => e) (fun _ _ _ e => e) (fun b ps e => ⟨#[], by rw [e]; simp⟩) (fun m hm => ?_) (fun b u e => ?_) I.bare
  · have e : b = it := by simpa using hb
    subst e
    exact ⟨h1, hL, h2, h3⟩
  · obtain ⟨o, es, ep, ho, r⟩ := hm
    exact ⟨o, es, ep, k _ o (Ne.symm hL) ho, r⟩
  · refine (I.hok b u e).stay (fun c v hc q => k c v ?_ q) (fun _ q => q) fun _ _ q => q
    rcases hc with z | z
    · rw [z]; exact nit b u e
    · exact nit c _ z
theorem Inv.tok (I : Inv X pins σ H s) (t : Nat) : Inv X pins σ H { s with toks := t } := I.un (h' := s.heap) (t' := t) Un.refl I.hok
/-- all objects kept -/
theorem Inv.kept {t' : Nat} (I : Inv X pins σ H s) (k : ∀ b u, s.heap.get? b = some u → h'.get? b = some u) : Inv X pins σ H { s with heap := h', toks := t' } := I.un (Un.kept k) (I.hok.kept k)
/-- a new object laid and tracked -/
theorem Inv.laid {a : Addr} {o : HO} {t' : Nat} (I : Inv X pins σ H s) (k : ∀ b u, s.heap.get? b = some u → h'.get? b = some u) (hp : s.heap.objs.size ≤ a) (new : ObjOk X.prog X.w (upd H a o) h' a o) :
    Inv X pins σ (upd H a o) { s with heap := h', toks := t' } := I.un (Un.laid k hp (I.hok.fresh hp)) (I.hok.laid k hp new)
/-- an object written -/
theorem Inv.write {x e : Addr} {o : HO} {t' : Nat} (I : Inv X pins σ H s) (mu : Mut (H x)) (he : e = x ∨ H e = some (.own x)) (k : ∀ b u, b ≠ e → s.heap.get? b = some u → h'.get? b = some u) (heo : ∃ u, h'.get? e = some u)
    (new : ObjOk X.prog X.w (upd H x o) h' x o) : Inv X pins σ (upd H x o) { s with heap := h', toks := t' } := I.un (Un.write mu he k heo) (I.hok.write mu he k heo new)
theorem Inv.pins_of {pins' : List (Addr × Obj)} (I : Inv X pins σ H s) (h : ∀ p ∈ pins', s.heap.get? p.1 = some p.2 ∧ H p.1 = none ∧ p.1 ≠ X.env.locals ∧ p.1 ∉ X.fs ∧ ∀ v, p.2.data ≠ .cell v) : Inv X pins' σ H s :=
  ⟨I.ok, I.os, I.bare, I.base, I.loc, I.cell, I.free, I.freeC, fun p hp => (List.mem_append.mp hp).elim (fun z => I.pin p (List.mem_append_left _ z)) (h p), I.hok, I.len⟩

theorem nodup_ix {N : List Str} (hN : N.Nodup) {i j : Nat} {x : Str} (a : N[i]? = some x) (b : N[j]? = some x) : i = j := by
  obtain ⟨h1, e1⟩ := List.getElem?_eq_some_iff.mp a
  obtain ⟨h2, e2⟩ := List.getElem?_eq_some_iff.mp b
  exact (List.getElem_inj hN).mp (e1.trans e2.symm)

/-- a name is stored; what changed -/
theorem store_ok2 {M : Model} {A : Around} {E : Value → Shared → Prop} {i : Nat} {x : Str} {v : V} {u : Value} {Q : Unit → Shared → Prop} (I : Inv X pins σ H s) (hN : X.N.Nodup) (hi : X.N[i]? = some x) (hx : Loc X.env.scope x) (r : RelV v u)
    (h : ∀ s', Inv X pins (σ.set i (some v)) H s' → (∃ a, Heap.SameBut a s.heap s'.heap ∧ (a = X.env.locals ∨ X.env.cells.lookup x = some a)) → Q () s') (hf : X.fn x = true ∨ X.env.scope.names.lookup x = some .local := by first | exact .inl rfl | exact .inr rfl | assumption) : wpAny M A (storeName X.env x u) Q E s := by
  obtain ⟨m, hn, hl⟩ := id I.loc
  have hcls : (X.env.scope.kind == .class || (X.env.scope.kind == .module && X.env.locals != X.env.globals)) = false := by rw [I.ok.kind]; rfl
  have hiσ : i < σ.length := by rw [I.len]; exact (List.getElem?_eq_some_iff.mp hi).1
  have cne := I.cne
  have tracked : ∀ {a : Addr} {h' : Heap}, (∃ o, s.heap.get? a = some o ∧ H a = none) → Heap.SameBut a s.heap h' → HOk X.prog X.w H h' := fun {a h'} ha hs b ob e => by
    obtain ⟨_, _, hfree⟩ := ha
    refine (I.hok b ob e).stay (fun c w' hc q => (hs.2 c ?_).trans q) (fun _ q => q) fun _ _ q => q
    rintro rfl
    rcases hc with rfl | hc
    · rw [hfree] at e; cases e
    · rw [hfree] at hc; cases hc
  rcases hx with hk | hk
  · refine wpAny_storeName_local hk hn (fun h' hn' hs => ?_) hcls
    obtain ⟨oL, _, _, hoL, _⟩ := id hn
    refine h _ ⟨I.ok, I.os, I.bare, ⟨fun b o e n hb hx => ?_, fun b o e n hb hx => ?_, I.base.free, fun b o e hx => ?_, I.base.tups, I.base.frzs, I.base.tbls⟩, ⟨_, hn', fun j y v' e1 e2 e3 => ?_⟩, fun y c e => ?_, I.free, I.freeC, fun p hp => ?_, tracked ⟨oL, hoL, I.free⟩ hs, by simpa using I.len⟩ ⟨_, hs, .inl rfl⟩
    · exact (hs.2 b (Nat.ne_of_lt (Nat.lt_of_lt_of_le (Heap.lt_size e) I.ok.above))).trans (I.base.keep b o e n hb hx)
    · obtain ⟨sl, e1⟩ := I.base.slot b o e n hb hx
      exact ⟨sl, (hs.2 b (Nat.ne_of_lt (Nat.lt_of_lt_of_le (Heap.lt_size e) I.ok.above))).trans e1⟩
    · obtain ⟨o', e1⟩ := I.base.there b o e hx
      exact ⟨o', (hs.2 b (Nat.ne_of_lt (Nat.lt_of_lt_of_le (Heap.lt_size e) I.ok.above))).trans e1⟩
    · by_cases hj : j = i
      · subst hj
        rw [hi] at e1; cases e1
        rw [List.getElem?_set_self hiσ] at e2
        cases e2
        exact ⟨u, r, .inl ⟨hk, by simp⟩⟩
      · rw [List.getElem?_set_ne (Ne.symm hj)] at e2
        obtain ⟨u', r', q⟩ := hl j y v' e1 e2 e3
        refine ⟨u', r', ?_⟩
        rcases q with ⟨k, e⟩ | ⟨k, c, e, z⟩
        · refine .inl ⟨k, ?_⟩
          have : y ≠ x := fun e => hj (nodup_ix hN e1 (e ▸ hi))
          simp [this, e]
        · exact .inr ⟨k, c, e, z.sameBut hs (cne y c e)⟩
    · obtain ⟨w', z⟩ := I.cell y c e
      exact ⟨w', z.sameBut hs (cne y c e)⟩
    · obtain ⟨e, n, ne, nf, d⟩ := I.pin p hp
      exact ⟨(hs.2 p.1 ne).trans e, n, ne, nf, d⟩
  · have hfn : X.fn x = true := by
      rcases hf with z | z
      · exact z
      · rw [z] at hk; cases hk
    obtain ⟨c, hc⟩ := I.ok.has x (.inl hk)
    obtain ⟨w', z⟩ := I.cell x c hc
    refine wpAny_storeName_cell I.ok.kind hk hc z (fun h' hc' hs => ?_)
    obtain ⟨oc, hoc, hocd⟩ := id z
    refine h { s with heap := h' } ⟨I.ok, I.os, I.bare, ⟨fun b o e n hb hx => ?_, fun b o e n hb hx => ?_, I.base.free, fun b o e hx => ?_, I.base.tups, I.base.frzs, I.base.tbls⟩, ⟨m, hn.sameBut hs (Ne.symm (cne x c hc)), fun j y v' e1 e2 e3 => ?_⟩, fun y c' e => ?_, I.free, I.freeC, fun p hp => ?_, tracked ⟨oc, hoc, I.freeC x c hc⟩ hs, by simpa using I.len⟩ ⟨c, hs, .inr hc⟩
    · exact (hs.2 b (Nat.ne_of_lt (Nat.lt_of_lt_of_le (Heap.lt_size e) (I.ok.cab x c hfn hc)))).trans (I.base.keep b o e n hb hx)
    · obtain ⟨sl, e1⟩ := I.base.slot b o e n hb hx
      exact ⟨sl, (hs.2 b (Nat.ne_of_lt (Nat.lt_of_lt_of_le (Heap.lt_size e) (I.ok.cab x c hfn hc)))).trans e1⟩
    · obtain ⟨o', e1⟩ := I.base.there b o e hx
      exact ⟨o', (hs.2 b (Nat.ne_of_lt (Nat.lt_of_lt_of_le (Heap.lt_size e) (I.ok.cab x c hfn hc)))).trans e1⟩
    · by_cases hj : j = i
      · subst hj
        rw [hi] at e1; cases e1
        rw [List.getElem?_set_self hiσ] at e2
        cases e2
        exact ⟨u, r, .inr ⟨.inl hk, c, hc, hc'⟩⟩
      · rw [List.getElem?_set_ne (Ne.symm hj)] at e2
        obtain ⟨u', r', q⟩ := hl j y v' e1 e2 e3
        refine ⟨u', r', ?_⟩
        rcases q with q | ⟨k, c', e, z'⟩
        · exact .inl q
        · refine .inr ⟨k, c', e, z'.sameBut hs ?_⟩
          rintro rfl
          exact hj (nodup_ix hN e1 (I.ok.inj _ _ _ e hc ▸ hi))
    · by_cases hcc : c' = c
      · subst hcc; exact ⟨_, hc'⟩
      · obtain ⟨w2, z2⟩ := I.cell y c' e
        exact ⟨w2, z2.sameBut hs hcc⟩
    · obtain ⟨e, n, ne, nf, d⟩ := I.pin p hp
      refine ⟨(hs.2 p.1 ?_).trans e, n, ne, nf, d⟩
      intro q
      rw [q, hoc] at e
      have q' : oc = p.2 := Option.some.inj e
      exact d w' (by rw [← q']; exact hocd)
theorem store_ok {M : Model} {A : Around} {E : Value → Shared → Prop} {i : Nat} {x : Str} {v : V} {u : Value} {Q : Unit → Shared → Prop} (I : Inv X pins σ H s) (hN : X.N.Nodup) (hi : X.N[i]? = some x) (hx : Loc X.env.scope x) (r : RelV v u)
    (h : ∀ s', Inv X pins (σ.set i (some v)) H s' → Q () s') (hf : X.fn x = true ∨ X.env.scope.names.lookup x = some .local := by first | exact .inl rfl | exact .inr rfl | assumption) : wpAny M A (storeName X.env x u) Q E s :=
  store_ok2 I hN hi hx r (fun s' I' _ => h s' I') hf
/-- behind a call or a block, the state as it is -/
theorem Inv.call' {s' : Shared} {ch : List Addr} (I : Inv X pins σ H s) (ho : s'.os = s.os) (u : Un (frs X.stack) ch H H' s.heap s'.heap) (hok : HOk X.prog X.w H' s'.heap) (hg : AllBare s'.gens)
    (hch : ∀ b ∈ ch, (b ∈ X.ex ∨ X.s₀.heap.objs.size ≤ b) ∧ b ≠ X.env.locals ∧ (∀ x c, X.env.cells.lookup x = some c → c ≠ b) ∧ ∀ p ∈ X.pn ++ pins, p.1 ≠ b) : Inv X pins σ H' s' := by
  obtain ⟨h', g', d', t', o'⟩ := s'
  have e : o' = s.os := ho
  subst e
  exact I.call (g' := g') (t' := t') (d' := d') u hok hg hch
end

/-! ### the judgements -/
/-- an exception: its class, its own dict's address (where it has one), the abstract heap behind it -/
abbrev XK := Value → Option Addr → Hp → Prop
abbrev St := List (Option V)
abbrev VK := V → Hp → Prop
/-- an expression's reading; a test's; an argument list's -/
abbrev TE := St → Hp → VK → Prop
abbrev TT := St → Hp → (Bool → Hp → Prop) → Prop
abbrev TA := St → Hp → (List V → Hp → Prop) → Prop
/-- what is wanted behind a statement -/
structure Ends where
  nx : St → Hp → Prop
  rt : VK
  bk : St → Hp → Prop := fun _ _ => False
  ct : St → Hp → Prop := fun _ _ => False
abbrev TS := Ends → St → Hp → Prop

def EP (X : Cx) (pins : List (Addr × Obj)) (σ : St) (Q : VK) (u : Value) (s' : Shared) : Prop := ∃ v H', Inv X pins σ H' s' ∧ RelV v u ∧ Q v H'
def TP (X : Cx) (pins : List (Addr × Obj)) (σ : St) (Q : Bool → Hp → Prop) (b : Bool) (s' : Shared) : Prop := ∃ H', Inv X pins σ H' s' ∧ Q b H'
def AP (X : Cx) (pins : List (Addr × Obj)) (σ : St) (Q : List V → Hp → Prop) (us : List Value) (s' : Shared) : Prop := ∃ vs H', Inv X pins σ H' s' ∧ Vals vs us ∧ Q vs H'
def SP (X : Cx) (pins : List (Addr × Obj)) (D : Ends) (f : Flow) (s' : Shared) : Prop :=
  match f with
  | .next => ∃ σ' H', Inv X pins σ' H' s' ∧ D.nx σ' H'
  | .brk => ∃ σ' H', Inv X pins σ' H' s' ∧ D.bk σ' H'
  | .cont => ∃ σ' H', Inv X pins σ' H' s' ∧ D.ct σ' H'
  | .ret u => ∃ v σ' H', Inv X pins σ' H' s' ∧ RelV v u ∧ D.rt v H'

def PE (X : Cx) (e : Expr) (t : TE) : Prop :=
  ∀ (pins : List (Addr × Obj)) (s : Shared) (σ : St) (H : Hp) (Q : VK), Inv X pins σ H s → t σ H Q → wpAny (model X.prog X.w) X.A (eval e X.env) (EP X pins σ Q) X.xe s
def PT (X : Cx) (e : Expr) (t : TT) : Prop :=
  ∀ (pins : List (Addr × Obj)) (s : Shared) (σ : St) (H : Hp) (Q : Bool → Hp → Prop), Inv X pins σ H s → t σ H Q → wpAny (model X.prog X.w) X.A (isTrue e X.env (eval e X.env)) (TP X pins σ Q) X.xe s
/-- a test whatever its 'whole' is (and, or) -/
def PW (X : Cx) (e : Expr) (t : TT) : Prop :=
  ∀ (whole : Sem Value) (pins : List (Addr × Obj)) (s : Shared) (σ : St) (H : Hp) (Q : Bool → Hp → Prop), Inv X pins σ H s → t σ H Q → wpAny (model X.prog X.w) X.A (isTrue e X.env whole) (TP X pins σ Q) X.xe s
theorem PW.pt {X : Cx} {e : Expr} {t : TT} (h : PW X e t) : PT X e t := h _
/-- an argument list (no star), from the left -/
def PA (X : Cx) (es : List Expr) (t : TA) : Prop :=
  ∀ (pos : Pos) (pins : List (Addr × Obj)) (s : Shared) (σ : St) (H : Hp) (Q : List V → Hp → Prop), Inv X pins σ H s → t σ H Q → wpAny (model X.prog X.w) X.A (spliced (backTo pos (starEach es X.env))) (AP X pins σ Q) X.xe s
def PS (X : Cx) (st : Stmt) (t : TS) : Prop :=
  ∀ (pins : List (Addr × Obj)) (s : Shared) (σ : St) (H : Hp) (D : Ends), Inv X pins σ H s → t D σ H → wpAny (model X.prog X.w) X.A (exec st X.env) (SP X pins D) X.xe s
def PSs (X : Cx) (st : List Stmt) (t : TS) : Prop :=
  ∀ (pins : List (Addr × Obj)) (s : Shared) (σ : St) (H : Hp) (D : Ends), Inv X pins σ H s → t D σ H → wpAny (model X.prog X.w) X.A (execs st X.env) (SP X pins D) X.xe s
/-- weaken the end -/
theorem thn {α : Type} {t : Sem α} {Q Q' : α → Shared → Prop} {M : Model} {A : Around} {E : Value → Shared → Prop} {s : Shared} (h : wpAny M A t Q E s) (hQ : ∀ a s, Q a s → Q' a s) : wpAny M A t Q' E s := wpAny_mono h hQ fun _ _ x => x
end L2

namespace L2
open PySem PySem.Spec PyProof.Rows
section
variable {X : Cx}

/-! ### names and constants -/
def tVar (i : Nat) : TE := fun σ H Q => ∃ v, σ[i]? = some (some v) ∧ Q v H
def tC (v : V) : TE := fun _ H Q => Q v H
theorem pe_var {i : Nat} {x : Str} {pos : Pos} (hN : X.N[i]? = some x) (hv : Vis X.env.scope x) (hd : (x == ("__debug__" : Str)) = false := by decide) (hcd : (x == ("__classdict__" : Str)) = false := by decide) : PE X (.Name x pos) (tVar i) := by
  intro pins s σ H Q I h
  obtain ⟨v, e, h⟩ := h
  obtain ⟨m, hn, hl⟩ := I.loc
  obtain ⟨u, r, l⟩ := hl i x v hN e hv
  have fin : EP X pins σ Q u s := ⟨v, H, I, r, h⟩
  rcases l with ⟨hk, hm⟩ | ⟨hk, c, hc, hcell⟩
  · exact wpAny_Name (wpAny_loadName_local I.ok.kind hk hn hm fin) hd
  · rcases hk with hk | hk
    · exact wpAny_Name (wpAny_loadName_cell I.ok.kind hk hc hcell fin) hd
    · exact wpAny_Name (wpAny_loadName_free I.ok.kind hk hc hcell fin hcd) hd
theorem pe_int {i j pos} : PE X (.Constant (.int i) j pos) (tC (.int i)) := fun _ _ _ H _ I h => wpAny_Constant_int ⟨.int i, H, I.tok _, ⟨_, rfl⟩, h⟩
theorem pe_bl {b j pos} : PE X (.Constant (.bool b) j pos) (tC (.bl b)) := fun _ _ _ H _ I h => Constant_bool ⟨.bl b, H, I, rfl, h⟩
theorem pe_non {j pos} : PE X (.Constant .none j pos) (tC .non) := fun _ _ _ H _ I h => Constant_none ⟨.non, H, I, rfl, h⟩
theorem pe_str {x j pos} : PE X (.Constant (.str x) j pos) (tC (.str x)) := fun _ _ _ H _ I h => Calls.Constant_str ⟨.str x, H, I.tok _, ⟨_, rfl⟩, h⟩

/-- a global name of the def -/
def Gl (X : Cx) (x : Str) : Prop := X.env.kindOf x = some .globalImplicit
theorem ld_glob {E : Value → Shared → Prop} {pins : List (Addr × Obj)} {s : Shared} {σ : St} {H : Hp} {x : Str} {u : Value} {pos : Pos} {Q : Value → Shared → Prop} (I : Inv X pins σ H s) (hg : Gl X x) (hm : X.mg x = some u) (h : Q u s)
    (hd : (x == ("__debug__" : Str)) = false := by decide) : wpAny (model X.prog X.w) X.A (eval (.Name x pos) X.env) Q E s :=
  Calls.Name_function_global I.ok.kind hg (Calls.loadGlobal_global (by rw [I.ok.glob]; exact I.mod.glob.keeps I.bk) hm h) hd
theorem ld_blt {E : Value → Shared → Prop} {pins : List (Addr × Obj)} {s : Shared} {σ : St} {H : Hp} {x : Str} {u : Value} {pos : Pos} {Q : Value → Shared → Prop} (I : Inv X pins σ H s) (hg : Gl X x) (hm : X.mg x = none) (hv : bootBuiltins x = some u) (h : Q u s)
    (hn : x ≠ "__name__" := by decide) (hd : (x == ("__debug__" : Str)) = false := by decide) : wpAny (model X.prog X.w) X.A (eval (.Name x pos) X.env) Q E s := by
  obtain ⟨mb, h1, h2⟩ := I.mod.blt
  exact Calls.Name_function_global I.ok.kind hg (Calls.loadGlobal_builtin (by rw [I.ok.glob]; exact I.mod.glob.keeps I.bk) hm (by rw [I.ok.blt]; exact h1.keeps I.bk) ((h2 x hn).trans hv) h) hd
theorem pe_bltn {x : Str} {v : V} {u : Value} {pos : Pos} (hg : Gl X x) (hm : X.mg x = none) (hv : bootBuiltins x = some u) (r : RelV v u) (hn : x ≠ "__name__" := by decide) (hd : (x == ("__debug__" : Str)) = false := by decide) : PE X (.Name x pos) (tC v) :=
  fun _ _ _ H _ I h => ld_blt I hg hm hv ⟨v, H, I, r, h⟩ hn hd

/-! ### arithmetic -/
/-- two ints -/
def t2I (ta tb : TE) (k : Int → Int → Hp → Prop) : St → Hp → Prop := fun σ H => ta σ H fun x H1 => tb σ H1 fun y H2 => ∃ i j, x = .int i ∧ y = .int j ∧ k i j H2
def tAdd (ta tb : TE) : TE := fun σ H Q => t2I ta tb (fun i j H2 => Q (.int (i + j)) H2) σ H
def tSub (ta tb : TE) : TE := fun σ H Q => t2I ta tb (fun i j H2 => Q (.int (i - j)) H2) σ H
/-- the left factor below 2^64 -/
def tMul (ta tb : TE) : TE := fun σ H Q => t2I ta tb (fun i j H2 => (-(2 ^ 64) < i ∧ i < 2 ^ 64) ∧ Q (.int (i * j)) H2) σ H
variable {a b : Expr} {ta tb : TE} {pos : Pos}
/-! ### comparisons -/
def PC (X : Cx) (op : CmpOp) (a b : Expr) (t : TE) : Prop :=
  ∀ (pins : List (Addr × Obj)) (s : Shared) (σ : St) (H : Hp) (Q : VK), Inv X pins σ H s → t σ H Q →
    wpAny (model X.prog X.w) X.A (eval a X.env) (fun v s₁ => wpAny (model X.prog X.w) X.A (eval b X.env) (fun u s₂ => wpAny (model X.prog X.w) X.A (compareOp op v u) (EP X pins σ Q) X.xe s₂) X.xe s₁) X.xe s
def tCmp (p : Int → Int → Bool) (ta tb : TE) : TE := fun σ H Q => t2I ta tb (fun i j H2 => Q (.bl (p i j)) H2) σ H
abbrev tLt : TE → TE → TE := tCmp fun i j => decide (i < j)
abbrev tLe : TE → TE → TE := tCmp fun i j => decide (i ≤ j)
abbrev tGt : TE → TE → TE := tCmp fun i j => decide (j < i)
abbrev tGe : TE → TE → TE := tCmp fun i j => decide (j ≤ i)
abbrev tEqI : TE → TE → TE := tCmp fun i j => decide (i = j)
abbrev tNeI : TE → TE → TE := tCmp fun i j => !decide (i = j)
/-- is None -/
def tIsN (ta : TE) : TE := fun σ H Q => ta σ H fun x H1 => Q (.bl (decide (x = .non))) H1
def tNotN (ta : TE) : TE := fun σ H Q => ta σ H fun x H1 => Q (.bl (!decide (x = .non))) H1
/-- a comparison as a value, as a test -/
def tB (t : TE) : TT := fun σ H Q => t σ H fun x H1 => ∃ c, x = .bl c ∧ Q c H1
/-- an expression whose value is a bool, as a test -/
theorem pt_val {e : Expr} {t : TE} (h : PE X e t) (he : ∀ whole, isTrue e X.env whole = (do let v ← whole; standAt e.pos; holding [v] (truthy v)) := by intro _; rfl) : PT X e (tB t) := by
  intro pins s σ H Q I hw
  refine isTrue_plain (thn (h pins s σ H _ I hw) fun v s1 ⟨x, H1, I1, r1, q1⟩ => ?_) (he _)
  obtain ⟨d, rfl, q⟩ := q1
  cases r1
  exact wpAny_truthy_bool ⟨H1, I1, q⟩

/-! ### and, or, not -/
variable {tA tB' : TT} {rest : List Expr}
def tAnd (t u : TT) : TT := fun σ H Q => t σ H fun c H1 => if c = true then u σ H1 Q else Q false H1
def tOr (t u : TT) : TT := fun σ H Q => t σ H fun c H1 => if c = true then Q true H1 else u σ H1 Q
def tNot (t : TT) : TT := fun σ H Q => t σ H fun c H1 => Q (!c) H1
theorem pw_and1 (ha : PT X a tA) : PW X (.BoolOp .And [a] pos) tA := by
  intro wh pins s σ H Q I h
  refine isTrue_and (thn (ha pins s σ H Q I h) fun c s1 e => ?_)
  cases c with
  | true => exact isTrue_and_nil e
  | false => exact e
theorem pw_or1 (ha : PT X a tA) : PW X (.BoolOp .Or [a] pos) tA := by
  intro wh pins s σ H Q I h
  refine isTrue_or (thn (ha pins s σ H Q I h) fun c s1 e => ?_)
  cases c with
  | false => exact isTrue_or_nil e
  | true => exact e
theorem pw_and (ha : PT X a tA) (hb : PW X (.BoolOp .And (b :: rest) pos) tB') : PW X (.BoolOp .And (a :: b :: rest) pos) (tAnd tA tB') := by
  intro wh pins s σ H Q I h
  refine isTrue_and (thn (ha pins s σ H _ I h) fun c s1 ⟨H1, I1, q1⟩ => ?_)
  cases c with
  | true => exact hb wh pins s1 σ H1 Q I1 q1
  | false => exact ⟨H1, I1, q1⟩
theorem pw_or (ha : PT X a tA) (hb : PW X (.BoolOp .Or (b :: rest) pos) tB') : PW X (.BoolOp .Or (a :: b :: rest) pos) (tOr tA tB') := by
  intro wh pins s σ H Q I h
  refine isTrue_or (thn (ha pins s σ H _ I h) fun c s1 ⟨H1, I1, q1⟩ => ?_)
  cases c with
  | true => exact ⟨H1, I1, q1⟩
  | false => exact hb wh pins s1 σ H1 Q I1 q1
theorem pt_not (ha : PT X a tA) : PT X (.UnaryOp .Not a pos) (tNot tA) := by
  intro pins s σ H Q I h
  exact isTrue_not (ha pins s σ H (fun c H1 => Q (!c) H1) I h)
/-- .. as values (bools) -/
def tAndV (ta tb : TE) : TE := fun σ H Q => ta σ H fun x H1 => ∃ c, x = .bl c ∧ if c = true then tb σ H1 Q else Q (.bl false) H1
def tOrV (ta tb : TE) : TE := fun σ H Q => ta σ H fun x H1 => ∃ c, x = .bl c ∧ if c = true then Q (.bl true) H1 else tb σ H1 Q
def tNotV (ta : TE) : TE := fun σ H Q => ta σ H fun x H1 => ∃ c, x = .bl c ∧ Q (.bl (!c)) H1
theorem pe_one {op} {t : TE} (h : PE X a t) : PE X (.BoolOp op [a] pos) t := fun pins s σ H Q I hw => BoolOp_one (h pins s σ H Q I hw)
theorem pe_and (ha : PE X a ta) (hb : PE X (.BoolOp .And (b :: rest) pos) tb) : PE X (.BoolOp .And (a :: b :: rest) pos) (tAndV ta tb) := by
  intro pins s σ H Q I h
  refine BoolOp_and (thn (ha pins s σ H _ I h) fun v s1 ⟨x, H1, I1, r1, q1⟩ => ?_)
  obtain ⟨c, rfl, q1⟩ := q1
  cases r1
  refine wpAny_truthy_bool ?_
  cases c with
  | true => exact hb pins s1 σ H1 Q I1 q1
  | false => exact ⟨.bl false, H1, I1, rfl, q1⟩
theorem pe_or (ha : PE X a ta) (hb : PE X (.BoolOp .Or (b :: rest) pos) tb) : PE X (.BoolOp .Or (a :: b :: rest) pos) (tOrV ta tb) := by
  intro pins s σ H Q I h
  refine BoolOp_or (thn (ha pins s σ H _ I h) fun v s1 ⟨x, H1, I1, r1, q1⟩ => ?_)
  obtain ⟨c, rfl, q1⟩ := q1
  cases r1
  refine wpAny_truthy_bool ?_
  cases c with
  | false => exact hb pins s1 σ H1 Q I1 q1
  | true => exact ⟨.bl true, H1, I1, rfl, q1⟩
/-- a if t else b -/
def tIf (t : TT) (ta tb : TE) : TE := fun σ H Q => t σ H fun c H1 => if c = true then ta σ H1 Q else tb σ H1 Q
end
end L2

namespace L2
open PySem PySem.Spec PyProof.Rows

/-! ### a list, a tuple that is read: tracked, frozen, or an object of the module -/
def SqL (K : PySem.W.Frag) (H : Hp) (a : Addr) (xs : List V) : Prop :=
  Rd H a (.lst xs) ∨
    ∃ (o : Obj) (its : Array Value) (n : Nat), K.lookup a = some o ∧ o.cls = .type "list" ∧ o.dict = none ∧ o.data = .seq its n ∧ its.size ≤ sizeLine ∧ Vals xs its.toList
def SqT (K : PySem.W.Frag) (H : Hp) (a : Addr) (xs : List V) : Prop :=
  Rd H a (.tup xs) ∨
    ∃ (o : Obj) (its : Array Value) (n : Nat), K.lookup a = some o ∧ o.cls = .type "tuple" ∧ o.data = .seq its n ∧ its.size ≤ sizeLine ∧ Vals xs its.toList
def absV : Value → Option V
  | .none => some .non
  | .bool b => some (.bl b)
  | .int i _ => some (.int i)
  | .str x _ => some (.str x)
  | .bytes b _ => some (.byt b)
  | .float b _ => some (.flt b)
  | .ref a => some (.ref a)
  | .type n => some (.ty n)
  | _ => none
theorem RelV.abs {x : V} {u : Value} (r : RelV x u) : absV u = some x := by
  cases x with
  | non => cases r; rfl
  | bl _ => cases r; rfl
  | int _ => obtain ⟨t, rfl⟩ := r; rfl
  | str _ => obtain ⟨t, rfl⟩ := r; rfl
  | byt _ => obtain ⟨t, rfl⟩ := r; rfl
  | flt _ => obtain ⟨t, rfl⟩ := r; rfl
  | ref _ => cases r; rfl
  | ty _ => cases r; rfl
theorem RelV.inj {x y : V} {u : Value} (r : RelV x u) (q : RelV y u) : x = y := Option.some.inj (r.abs.symm.trans q.abs)
theorem Vals.inj : ∀ {xs ys : List V} {us : List Value}, Vals xs us → Vals ys us → xs = ys
  | _, _, _, .nil, .nil => rfl
  | _, _, _, .cons r t, .cons r' t' => by rw [r.inj r', Vals.inj t t']
section
variable {X : Cx} {pins : List (Addr × Obj)} {σ : St} {H : Hp} {s : Shared} {a : Addr} {xs ys : List V}
theorem SqL.of {K : PySem.W.Frag} (h : H a = some (.lst xs)) : SqL K H a xs := .inl (.inl h)
theorem SqT.of {K : PySem.W.Frag} (h : H a = some (.tup xs)) : SqT K H a xs := .inl (.inl h)
theorem Inv.list (I : Inv X pins σ H s) (h : SqL X.K H a xs) : ∃ its : List Value, Vals xs its ∧ PlainL s.heap a its.toArray ∧ xs.length ≤ sizeLine := by
  rcases h with h | ⟨o, its, n, hk, hc, hd, hs, hz, r⟩
  · obtain ⟨z, its, n, r, e⟩ := h.ok I.hok
    exact ⟨its, r, ⟨_, n, e, rfl, rfl, rfl⟩, z⟩
  · refine ⟨its.toList, r, ⟨o, n, I.kIn a o hk, hc, hd, by simpa using hs⟩, ?_⟩
    have e := r.length
    simp only [Array.length_toList] at e
    omega
theorem Inv.tuple (I : Inv X pins σ H s) (h : SqT X.K H a xs) : ∃ its : List Value, Vals xs its ∧ IsTup s.heap a its.toArray ∧ xs.length ≤ sizeLine := by
  rcases h with h | ⟨o, its, n, hk, hc, hs, hz, r⟩
  · obtain ⟨z, its, r, p⟩ := h.ok I.hok
    exact ⟨its, r, p, z⟩
  · refine ⟨its.toList, r, ⟨o, I.kIn a o hk, hc, n, by simpa using hs⟩, ?_⟩
    have e := r.length
    simp only [Array.length_toList] at e
    omega
theorem Inv.list_inj (I : Inv X pins σ H s) (h : SqL X.K H a xs) (h' : SqL X.K H a ys) : xs = ys := by
  obtain ⟨its, r, ⟨o, n, e, _, _, d⟩, _⟩ := I.list h
  obtain ⟨its', r', ⟨o', n', e', _, _, d'⟩, _⟩ := I.list h'
  rw [e] at e'; cases e'
  rw [d] at d'
  injection d' with d1 _
  have : its = its' := by simpa using congrArg Array.toList d1
  subst this
  exact r.inj r'
theorem Inv.tuple_inj (I : Inv X pins σ H s) (h : SqT X.K H a xs) (h' : SqT X.K H a ys) : xs = ys := by
  obtain ⟨its, r, ⟨o, e, _, n, d⟩, _⟩ := I.tuple h
  obtain ⟨its', r', ⟨o', e', _, n', d'⟩, _⟩ := I.tuple h'
  rw [e] at e'; cases e'
  rw [d] at d'
  injection d' with d1 _
  have : its = its' := by simpa using congrArg Array.toList d1
  subst this
  exact r.inj r'
end

/-! ### another wish about exceptions -/
abbrev Cx.wish (X : Cx) (E : Value → Shared → Prop) : Cx := { X with xe := E }
/-- no exception leaves -/
abbrev Cx.nox (X : Cx) : Cx := X.wish fun _ _ => False
theorem Cx.Ok.wish {X : Cx} (ok : X.Ok) (E : Value → Shared → Prop) : (X.wish E).Ok :=
  ⟨ok.mod, ok.kind, ok.glob, ok.blt, ok.above, ok.inj, ok.has, ok.cab, ok.hd, ok.frames, ok.stk, ok.exf, ok.bs, ok.bsz, ok.noex, ok.exfs, ok.funs, ok.frf⟩
theorem Cx.Ok.unwish {X : Cx} {E : Value → Shared → Prop} (ok : (X.wish E).Ok) : X.Ok :=
  ⟨ok.mod, ok.kind, ok.glob, ok.blt, ok.above, ok.inj, ok.has, ok.cab, ok.hd, ok.frames, ok.stk, ok.exf, ok.bs, ok.bsz, ok.noex, ok.exfs, ok.funs, ok.frf⟩
section
variable {X : Cx} {pins : List (Addr × Obj)} {σ : St} {H : Hp} {s : Shared} {E : Value → Shared → Prop}
theorem Inv.wish (I : Inv X pins σ H s) (E : Value → Shared → Prop) : Inv (X.wish E) pins σ H s := ⟨I.ok.wish E, I.os, I.bare, I.base, I.loc, I.cell, I.free, I.freeC, I.pin, I.hok, I.len⟩
theorem Inv.unwish (I : Inv (X.wish E) pins σ H s) : Inv X pins σ H s := ⟨I.ok.unwish, I.os, I.bare, I.base, I.loc, I.cell, I.free, I.freeC, I.pin, I.hok, I.len⟩
theorem SP.unwish {D : Ends} {f : Flow} {s' : Shared} (h : SP (X.wish E) pins D f s') : SP X pins D f s' := by
  cases f with
  | next => obtain ⟨σ', H', I, q⟩ := h; exact ⟨σ', H', I.unwish, q⟩
  | brk => obtain ⟨σ', H', I, q⟩ := h; exact ⟨σ', H', I.unwish, q⟩
  | cont => obtain ⟨σ', H', I, q⟩ := h; exact ⟨σ', H', I.unwish, q⟩
  | ret u => obtain ⟨v, σ', H', I, r, q⟩ := h; exact ⟨v, σ', H', I.unwish, r, q⟩
theorem PSs.nox {st : List Stmt} {t : TS} (h : PSs X.nox st t) : PSs X st t := fun pins s σ H D I hw =>
  wpAny_mono (h pins s σ H D (I.wish _) hw) (fun _ _ q => q.unwish) fun _ _ z => False.elim z
end

/-! ### blocks and small statements -/
section
variable {X : Cx} {st : Stmt} {rest : List Stmt} {t u : TS} {e : Expr} {te : TE} {pos : Pos}
def tNext : TS := fun D σ H => D.nx σ H
def tSeq (t u : TS) : TS := fun D σ H => t { D with nx := u D } σ H
theorem pss_nil : PSs X [] tNext := fun _ _ σ H _ I h => wpAny_execs_nil ⟨σ, H, I, h⟩
theorem pss_cons (h1 : PS X st t) (h2 : PSs X rest u) : PSs X (st :: rest) (tSeq t u) := by
  intro pins s σ H D I h
  refine wpAny_execs_cons (thn (h1 pins s σ H { D with nx := u D } I h) fun f s1 q => ?_)
  cases f with
  | next =>
    obtain ⟨σ', H', I', q⟩ := q
    exact h2 pins s1 σ' H' D I' q
  | ret v => exact q
  | brk => exact q
  | cont => exact q
theorem pss_one (h1 : PS X st t) : PSs X [st] t := by
  intro pins s σ H D I h
  refine wpAny_execs_cons (thn (h1 pins s σ H D I h) fun f s1 q => ?_)
  cases f with
  | next => exact wpAny_execs_nil q
  | ret v => exact q
  | brk => exact q
  | cont => exact q
def tBreak : TS := fun D σ H => D.bk σ H
def tCont : TS := fun D σ H => D.ct σ H
theorem ps_break : PS X (.Break pos) tBreak := fun _ _ σ H _ I h => wpAny_Break ⟨σ, H, I, h⟩
/-- in a def's body nothing is shown -/
theorem Inv.quiet {pins : List (Addr × Obj)} {σ : St} {H : Hp} {s : Shared} (I : Inv X pins σ H s) : interactive X.env = false := by simp [interactive, I.ok.kind]
/-- an expression whose value is dropped -/
def tDrop (te : TE) : TS := fun D σ H => te σ H fun _ H1 => D.nx σ H1
theorem ps_expr (he : PE X e te) (hs : swapsWith e none pos.line X.env = pure false := by rfl) : PS X (.Expr e pos) (tDrop te) := by
  intro pins s σ H D I h
  exact wpAny_Expr_any (thn (he pins s σ H _ I h) fun v s1 ⟨x, H1, I1, r1, q1⟩ => ⟨σ, H1, I1, q1⟩) I.quiet hs
def tRet (te : TE) : TS := fun D σ H => te σ H D.rt
theorem ps_ret (he : PE X e te) : PS X (.Return (some e) pos) (tRet te) := by
  intro pins s σ H D I h
  exact wpAny_Return_some (thn (he pins s σ H _ I h) fun v s1 ⟨x, H1, I1, r1, q1⟩ => ⟨x, σ, H1, I1, r1, q1⟩)
def tRetN : TS := fun D _ H => D.rt .non H
def tIfS (c : TT) (t u : TS) : TS := fun D σ H => c σ H fun b H1 => if b = true then t D σ H1 else u D σ H1
theorem ps_if {c : Expr} {a b : List Stmt} {tc : TT} (hc : PT X c tc) (ha : PSs X a t) (hb : PSs X b u) : PS X (.If c a b pos) (tIfS tc t u) := by
  intro pins s σ H D I h
  refine wpAny_If (thn (hc pins s σ H _ I h) fun d s1 ⟨H1, I1, q1⟩ => ?_)
  cases d with
  | true => exact ha pins s1 σ H1 D I1 q1
  | false => exact hb pins s1 σ H1 D I1 q1
/-- code that the proof never comes to -/
def tNever : TS := fun _ _ _ => False
end

/-! ### targets -/
abbrev TG := V → St → Hp → (St → Hp → Prop) → Prop
abbrev TGs := List V → St → Hp → (St → Hp → Prop) → Prop
def PG (X : Cx) (target : Expr) (t : TG) : Prop :=
  ∀ (pins : List (Addr × Obj)) (s : Shared) (σ : St) (H : Hp) (v : V) (u : Value) (Q : St → Hp → Prop), Inv X pins σ H s → RelV v u → t v σ H Q →
    wpAny (model X.prog X.w) X.A (assign target X.env u) (fun _ s' => ∃ σ' H', Inv X pins σ' H' s' ∧ Q σ' H') X.xe s
/-- several targets, one after another -/
def PGs (X : Cx) (ts : List Expr) (t : TGs) : Prop :=
  ∀ (pins : List (Addr × Obj)) (s : Shared) (σ : St) (H : Hp) (vs : List V) (us : List Value) (Q : St → Hp → Prop), Inv X pins σ H s → Vals vs us → t vs σ H Q →
    wpAny (model X.prog X.w) X.A (assignInOrder ((assignEach ts X.env).map (·.2)) us) (fun _ s' => ∃ σ' H', Inv X pins σ' H' s' ∧ Q σ' H') X.xe s
/-- o[i] = v, by values -/
abbrev TSet := V → V → V → Hp → (Hp → Prop) → Prop
def PSet (X : Cx) (t : TSet) : Prop :=
  ∀ (pins : List (Addr × Obj)) (s : Shared) (σ : St) (H : Hp) (o i v : V) (ov iv u : Value) (Q : Hp → Prop), Inv X pins σ H s → RelV o ov → RelV i iv → RelV v u → t o i v H Q →
    wpAny (model X.prog X.w) X.A (setItem ov iv u) (fun _ s' => ∃ H', Inv X pins σ H' s' ∧ Q H') X.xe s
/-- a op= b, by values -/
abbrev TIp := V → V → Hp → VK → Prop
def PIp (X : Cx) (op : Operator) (t : TIp) : Prop :=
  ∀ (pins : List (Addr × Obj)) (s : Shared) (σ : St) (H : Hp) (x y : V) (v u : Value) (Q : VK), Inv X pins σ H s → RelV x v → RelV y u → t x y H Q →
    wpAny (model X.prog X.w) X.A (inplaceOp op v u) (EP X pins σ Q) X.xe s
section
variable {X : Cx} {pos : Pos}
def gName (i : Nat) : TG := fun v σ H Q => Q (σ.set i (some v)) H
theorem pg_name {i : Nat} {x : Str} (hN : X.N.Nodup) (hi : X.N[i]? = some x) (hx : Loc X.env.scope x) (hf : X.fn x = true ∨ X.env.scope.names.lookup x = some .local := by first | exact .inl rfl | exact .inr rfl | assumption) : PG X (.Name x pos) (gName i) := by
  intro pins s σ H v u Q I r h
  exact wpAny_assign_Name (store_ok I hN hi hx r (fun s' I' => ⟨_, H, I', h⟩) hf)
def gNil : TGs := fun vs σ H Q => vs = [] ∧ Q σ H
def gCons (t : TG) (u : TGs) : TGs := fun vs σ H Q => ∃ v r, vs = v :: r ∧ t v σ H fun σ' H' => u r σ' H' Q
theorem pgs_nil : PGs X [] gNil := by
  intro pins s σ H vs us Q I r h
  obtain ⟨e, h⟩ := h
  subst e
  cases r
  exact assignInOrder_nil ⟨σ, H, I, h⟩
theorem pgs_cons {e : Expr} {es : List Expr} {t : TG} {u : TGs} (h1 : PG X e t) (h2 : PGs X es u)
    (hs : (assignEach (e :: es) X.env).map (·.2) = assign e X.env :: (assignEach es X.env).map (·.2) := by rfl) : PGs X (e :: es) (gCons t u) := by
  intro pins s σ H vs us Q I r h
  obtain ⟨v, vr, e1, h⟩ := h
  subst e1
  cases r with
  | cons r rr =>
    rw [hs]
    refine assignInOrder_cons (thn (h1 pins s σ H _ _ _ I r h) fun _ s1 ⟨σ1, H1, I1, q1⟩ => ?_)
    exact h2 pins s1 σ1 H1 _ _ Q I1 rr q1
/-- (a, b, ..) = a tuple of that length -/
def gTup (K : PySem.W.Frag) (n : Nat) (t : TGs) : TG := fun v σ H Q => ∃ a xs, v = .ref a ∧ SqT K H a xs ∧ xs.length = n ∧ t xs σ H Q
theorem pg_tup {es : List Expr} {k : Nat} {t : TGs} {n : Nat} (hc : X.calm = true) (h : PGs X es t)
    (hn : (assignEach es X.env).length = n := by rfl) (hst : (assignEach es X.env).findIdx? (·.1) = none := by rfl) : PG X (.Tuple es k pos) (gTup X.K n t) := by
  intro pins s σ H v u Q I r hw
  obtain ⟨a, xs, e1, hq, hl, hw⟩ := hw
  subst e1
  cases r
  obtain ⟨its, rv, ht, hz⟩ := I.tuple hq
  refine assign_Tuple_tuple (I.ok.hd hc) ht (by simp [hn, ← hl, rv.length]) hst fun h' hx => ?_
  have I1 : Inv X pins σ H { s with heap := h' } := I.kept (t' := s.toks) fun b o e => hx b o (Nat.ne_of_lt (Heap.lt_size e)) e
  exact h pins _ σ H xs _ Q I1 (by simpa using rv) hw
/-- o[i] = .. -/
def gSub (to ti : TE) (t : TSet) : TG := fun v σ H Q => to σ H fun o H1 => ti σ H1 fun i H2 => t o i v H2 fun H3 => Q σ H3
theorem pg_sub {o i : Expr} {to ti : TE} {t : TSet} (ho : PE X o to) (hi : PE X i ti) (hs : PSet X t)
    (ha : ∀ v, assign (.Subscript o i pos) X.env v = (do
      let ov ← holding [v] (eval o X.env)
      let iv ← holding [v, ov] (eval i X.env)
      standAt pos
      holding [v, ov, iv] (setItem ov iv v)
      release [v, ov, iv] []) := by intro _; rfl) : PG X (.Subscript o i pos) (gSub to ti t) := by
  intro pins s σ H v u Q I r h
  rw [ha]
  refine wpAny_bind (wpAny_holding (thn (ho pins s σ H _ I h) fun ov s1 ⟨x, H1, I1, r1, q1⟩ => ?_))
  refine wpAny_bind (wpAny_holding (thn (hi pins s1 σ H1 _ I1 q1) fun iv s2 ⟨y, H2, I2, r2, q2⟩ => ?_))
  refine wpAny_bind (wpAny_standAt (wpAny_bind (wpAny_holding (thn (hs pins s2 σ H2 x y v ov iv u _ I2 r1 r2 r q2) fun _ s3 ⟨H3, I3, q3⟩ => ?_))))
  exact wpAny_release ⟨σ, H3, I3, q3⟩
/-- target = value -/
def tAsg (te : TE) (g : TG) : TS := fun D σ H => te σ H fun x H1 => g x σ H1 D.nx
theorem ps_asg {tg e : Expr} {te : TE} {g : TG} (he : PE X e te) (hg : PG X tg g) (hs : swapsWithSole [tg] e pos.line X.env = pure false := by rfl) (hw : swappedStores [tg] e X.env = pure none := by rfl)
    (h1 : (assignEach [tg] X.env).map (·.2) = [assign tg X.env] := by rfl) : PS X (.Assign [tg] e pos) (tAsg te g) := by
  intro pins s σ H D I h
  refine wpAny_Assign_stores (thn (he pins s σ H _ I h) fun v s1 ⟨x, H1, I1, r1, q1⟩ => ?_) hs hw
  rw [h1]
  exact thn (hg pins s1 σ H1 x v _ I1 r1 q1) fun _ s2 q => q
/-- name = value -/
theorem ps_set {i : Nat} {x : Str} {e : Expr} {te : TE} {pos' : Pos} (hN : X.N.Nodup) (hi : X.N[i]? = some x) (hx : Loc X.env.scope x) (he : PE X e te) (hs : swapsWith e (some (.Name x pos')) pos.line X.env = pure false := by rfl) (hf : X.fn x = true ∨ X.env.scope.names.lookup x = some .local := by first | exact .inl rfl | exact .inr rfl | assumption) :
    PS X (.Assign [.Name x pos'] e pos) (tAsg te (gName i)) := by
  intro pins s σ H D I h
  refine wpAny_Assign_Name (thn (he pins s σ H _ I h) fun v s1 ⟨y, H1, I1, r1, q1⟩ => ?_) hs
  exact store_ok I1 hN hi hx r1 (fun s2 I2 => ⟨_, H1, I2, q1⟩) hf
/-- a, b = x, y with plain local names: stored from the right; the pair itself is not tracked (the opening rows as in PyProof/Rows/TupAssign.lean:23) -/
def tPar (i j : Nat) (ta : TA) : TS := fun D σ H => ta σ H fun vs H1 => ∃ v w, vs = [v, w] ∧ D.nx ((σ.set i (some v)).set j (some w)) H1
/-- name op= e -/
def tAug (i : Nat) (te : TE) (ti : TIp) : TS := fun D σ H => ∃ x, σ[i]? = some (some x) ∧ te σ H fun y H1 => ti x y H1 fun z H2 => D.nx (σ.set i (some z)) H2
/-- o[i] op= e -/
def tAugS (to ti te : TE) (tget : V → V → Hp → VK → Prop) (tip : TIp) (tset : TSet) : TS := fun D σ H => to σ H fun o H1 => ti σ H1 fun i H2 => tget o i H2 fun x H3 => te σ H3 fun y H4 => tip x y H4 fun z H5 => tset o i z H5 fun H6 => D.nx σ H6
/-- o[i], by values -/
def PGet (X : Cx) (t : V → V → Hp → VK → Prop) : Prop :=
  ∀ (pins : List (Addr × Obj)) (s : Shared) (σ : St) (H : Hp) (o i : V) (ov iv : Value) (Q : VK), Inv X pins σ H s → RelV o ov → RelV i iv → t o i H Q →
    wpAny (model X.prog X.w) X.A (getItem ov iv) (EP X pins σ Q) X.xe s
/-- ints -/
def ipI (f : Int → Int → Int) : TIp := fun x y H Q => ∃ i j, x = .int i ∧ y = .int j ∧ Q (.int (f i j)) H
end

/-! ### while -/
section
variable {X : Cx} {pos : Pos}
/-- the invariant W with its measure -/
def tWhile (c : TT) (tb : TS) : TS := fun D σ H => ∃ W : Nat → St → Hp → Prop, (∃ m, W m σ H) ∧ ∀ m σ H, W m σ H →
  c σ H fun b H1 => if b = true then ∃ N : St → Hp → Prop, (∀ σ' H', N σ' H' → ∃ m', m' < m ∧ W m' σ' H') ∧ tb { D with nx := N, ct := N, bk := D.nx } σ H1 else D.nx σ H1
theorem ps_while {c : Expr} {body : List Stmt} {tc : TT} {tb : TS} (hp : PassesOwn (model X.prog X.w) X.A X.env X.xe) (hc : PT X c tc) (hb : PSs X body tb) : PS X (.While c body [] pos) (tWhile tc tb) := by
  intro pins s σ H D I h
  obtain ⟨W, ⟨m0, w0⟩, turn⟩ := h
  refine wpAny_While (codeAny_whileLoop (fun n s' => ∃ σ' H', Inv X pins σ' H' s' ∧ W n σ' H') ?_ m0 ⟨σ, H, I, w0⟩)
  rintro n s1 ⟨σ1, H1, I1, w1⟩
  refine wpAny_passesOwn hp (thn (hc pins s1 σ1 H1 _ I1 (turn n σ1 H1 w1)) fun b s2 ⟨H2, I2, q2⟩ => ?_)
  cases b with
  | true =>
    obtain ⟨N, hN, q2⟩ := q2
    rw [if_pos rfl]
    refine wpAny_passesOwn hp (thn (hb pins s2 σ1 H2 _ I2 q2) fun f s3 q3 => ?_)
    cases f with
    | next =>
      obtain ⟨σ3, H3, I3, n3⟩ := q3
      obtain ⟨m', hm, w3⟩ := hN σ3 H3 n3
      exact ⟨m', hm, σ3, H3, I3, w3⟩
    | cont =>
      obtain ⟨σ3, H3, I3, n3⟩ := q3
      obtain ⟨m', hm, w3⟩ := hN σ3 H3 n3
      exact ⟨m', hm, σ3, H3, I3, w3⟩
    | brk => exact q3
    | ret v => exact q3
  | false =>
    rw [if_neg Bool.false_ne_true]
    exact wpAny_execs_nil ⟨σ1, H2, I2, q2⟩
end

/-! ### what a loop or a comprehension walks -/
/-- at turn i: it yields x (the heap may grow), or it stops -/
structure It where
  go : Nat → Hp → Prop
  yld : Nat → Hp → V → Hp → Prop
  stop : Nat → Hp → Prop
/-- the iterator's own objects may turn: they are not the frame's, not pinned, younger than the entry (or a comprehension's own) -/
def FpOk (X : Cx) (pins : List (Addr × Obj)) (H : Hp) (b : Addr) : Prop :=
  H b = none ∧ b ≠ X.env.locals ∧ b ∉ X.fs ∧ (b ∈ X.ex ∨ X.s₀.heap.objs.size ≤ b) ∧ (∀ x c, X.env.cells.lookup x = some c → c ≠ b) ∧ ∀ p ∈ X.pn ++ pins, p.1 ≠ b
theorem Inv.fpOk {X : Cx} {pins : List (Addr × Obj)} {σ : St} {H H' : Hp} {s : Shared} {b : Addr} (I : Inv X pins σ H s) (hb : s.heap.objs.size ≤ b) (hn : H' b = none) : FpOk X pins H' b := by
  refine ⟨hn, Nat.ne_of_gt (Nat.lt_of_lt_of_le I.lt hb), I.nofs hb, .inr (Nat.le_trans I.sz hb), fun x c e z => ?_, fun p hp z => ?_⟩
  · obtain ⟨v, q⟩ := I.cell x c e
    exact absurd (Nat.lt_of_lt_of_le q.lt (by rw [z]; exact hb)) (Nat.lt_irrefl _)
  · exact absurd (Nat.lt_of_lt_of_le (Heap.lt_size (I.pin p hp).1) (by rw [z]; exact hb)) (Nat.lt_irrefl _)
structure Turn (P : Program) (w : World) (K : PySem.W.Frag) (tg : Expr) (J : It) (fp : List Addr) (it : Addr) (tn : Nat → Heap → Prop) : Prop where
  mem : it ∈ fp
  obj : ∀ i h, tn i h → ∀ b ∈ fp, ∃ o, h.get? b = some o ∧ ∀ v, o.data ≠ .cell v
  keep : ∀ i h h', tn i h → (∀ b ∈ fp, ∀ o, h.get? b = some o → h'.get? b = some o) → tn i h'
  item : ∀ (X : Cx), X.prog = P → X.w = w → X.K = K → X.calm = true → ∀ (i : Nat) (pins : List (Addr × Obj)) (s : Shared) (σ : St) (H : Hp) (E : Value → Shared → Prop), Inv X pins σ H s → (∀ b ∈ fp, FpOk X pins H b) → tn i s.heap → J.go i H →
    wpAny (model P w) X.A (pyNext (.ref it)) (fun r s1 => ∃ u, r = some u ∧
      wpAny (model P w) X.A (letOwnedTupleGo tg (.ref it) u) (fun _ s2 => ∃ x H', Inv X pins σ H' s2 ∧ RelV x u ∧ J.yld i H x H' ∧ tn (i + 1) s2.heap ∧ ∀ b ∈ fp, H' b = none) E s1) E s
  done : ∀ (X : Cx), X.prog = P → X.w = w → X.K = K → X.calm = true → ∀ (i : Nat) (pins : List (Addr × Obj)) (s : Shared) (σ : St) (H : Hp) (E : Value → Shared → Prop), Inv X pins σ H s → (∀ b ∈ fp, FpOk X pins H b) → tn i s.heap → J.stop i H →
    wpAny (model P w) X.A (pyNext (.ref it)) (fun r s1 => r = none ∧ Inv X pins σ H s1) E s
  self : ∀ (A : Around) (i : Nat) (s : Shared) (Q : Value → Shared → Prop) (E : Value → Shared → Prop), tn i s.heap → Q (.ref it) s → wpAny (model P w) A (pyIter (.ref it)) Q E s
abbrev TI := St → Hp → (It → Hp → Prop) → Prop
/-- an iterator has come -/
def PIE (X : Cx) (pins : List (Addr × Obj)) (σ : St) (tg : Expr) (R : It → Hp → Prop) (itv : Value) (s2 : Shared) : Prop :=
  ∃ (it : Addr) (fp : List Addr) (tn : Nat → Heap → Prop) (J : It) (H' : Hp), itv = .ref it ∧ Inv X pins σ H' s2 ∧ Turn X.prog X.w X.K tg J fp it tn ∧ tn 0 s2.heap ∧ (∀ b ∈ fp, FpOk X pins H' b) ∧ R J H'
def PI (X : Cx) (tg iter : Expr) (wi : TI) : Prop :=
  ∀ (pins : List (Addr × Obj)) (s : Shared) (σ : St) (H : Hp) (R : It → Hp → Prop), Inv X pins σ H s → wi σ H R →
    wpAny (model X.prog X.w) X.A (eval iter X.env) (fun v s1 => wpAny (model X.prog X.w) X.A (pyIter v) (PIE X pins σ tg R) X.xe s1) X.xe s

/-- the step ahead of the store is nothing for an iterator that keeps no tuple -/
theorem go_of {M : Model} {A : Around} {E : Value → Shared → Prop} {s : Shared} {tg : Expr} {it : Addr} {u : Value} {o : Obj} {n : String} {vs : Array Value} {Q : Unit → Shared → Prop} (ho : s.heap.get? it = some o) (hc : o.cls = .type n) (hd : o.data = .fields vs)
    (hn : ["enumerate", "zip", "dict_itemiterator", "dict_reverseitemiterator", "odict_iterator", "itertools.zip_longest", "itertools.pairwise"].contains n = false) (hQ : Q () s) : wpAny M A (letOwnedTupleGo tg (.ref it) u) Q E s := by
  unfold letOwnedTupleGo
  cases tg <;> first
    | exact wpAny_pure hQ
    | (cases u <;> first
        | exact wpAny_pure hQ
        | (refine wpAny_bind (wpAny_load ho ?_)
           rw [hc, hd]
           show wpAny M A (if (["enumerate", "zip", "dict_itemiterator", "dict_reverseitemiterator", "odict_iterator", "itertools.zip_longest", "itertools.pairwise"].contains n && vs[0]? == some (rawInt _)) = true then _ else _) Q E s
           rw [if_neg (by intro h; rw [hn, Bool.false_and] at h; cases h)]
           exact wpAny_pure hQ))

/-- the list at a, as it stands at each turn (a loop may append to it) -/
def Itl (K : PySem.W.Frag) (a : Addr) : It :=
  ⟨fun i H => ∃ xs x, SqL K H a xs ∧ xs[i]? = some x, fun i H x H' => H' = H ∧ ∀ xs, SqL K H a xs → xs[i]? = some x, fun i H => ∃ xs, SqL K H a xs ∧ xs.length ≤ i⟩
def Itt (K : PySem.W.Frag) (a : Addr) : It :=
  ⟨fun i H => ∃ xs x, SqT K H a xs ∧ xs[i]? = some x, fun i H x H' => H' = H ∧ ∀ xs, SqT K H a xs → xs[i]? = some x, fun i H => ∃ xs, SqT K H a xs ∧ xs.length ≤ i⟩
/-- lo, lo + 1, .. (n of them) -/
def Itr (lo : Int) (n : Nat) : It := ⟨fun i _ => i < n, fun i H x H' => H' = H ∧ x = .int (lo + i), fun i _ => n ≤ i⟩
theorem turn_list {P : Program} {w : World} {K : PySem.W.Frag} {tg : Expr} (a it : Addr) : Turn P w K tg (Itl K a) [it] it (fun i h => h.IsListIter it a i) where
  mem := by simp
  obj := fun i h st b hb => by
    have e : b = it := by simpa using hb
    subst e
    obtain ⟨o, e, c, d⟩ := st
    exact ⟨o, e, fun v z => by rw [d] at z; cases z⟩
  keep := fun i h h' st k => st.at fun o e => k it (by simp) o e
  item := by
    intro X hP hw hK hc i pins s σ H E I hf st hg
    subst hP hw hK
    obtain ⟨xs, x, hq, hx⟩ := hg
    obtain ⟨its, rv, p, hz⟩ := I.list hq
    obtain ⟨u, hu, ru⟩ := rv.get hx
    obtain ⟨f0, f1, f2, f3, f4, f5⟩ := hf it (by simp)
    refine wpAny_pyNext_list_item st p.isList (x := u) (by simpa using hu) fun h' st' sb => ?_
    have I1 : Inv X pins σ H { s with heap := h' } := I.turned (t' := s.toks) (fun b o hb e => (sb.2 b hb).trans e) f0 f1 f3 f4 f5
    obtain ⟨o, e, c, d⟩ := id st'
    exact ⟨u, rfl, go_of (s := { s with heap := h' }) e c d (by decide) ⟨x, H, I1, ru, ⟨rfl, fun ys hy => by rw [I.list_inj hy hq]; exact hx⟩, st', fun b hb => (hf b hb).1⟩⟩
  done := by
    intro X hP hw hK hc i pins s σ H E I hf st hg
    subst hP hw hK
    obtain ⟨xs, hq, hx⟩ := hg
    obtain ⟨its, rv, p, hz⟩ := I.list hq
    obtain ⟨f0, f1, f2, f3, f4, f5⟩ := hf it (by simp)
    have hl := rv.length
    exact wpAny_pyNext_list_end (I.ok.hd hc) st p.isList (by simp; omega) fun h' eb => ⟨rfl, I.turned (t' := s.toks) (fun b o hb e => eb b o hb e) f0 f1 f3 f4 f5⟩
  self := fun _ _ _ _ _ st h => wpAny_pyIter_listiter st h
theorem turn_tuple {P : Program} {w : World} {K : PySem.W.Frag} {tg : Expr} (a it : Addr) : Turn P w K tg (Itt K a) [it] it (fun i h => h.IsTupleIter it a i) where
  mem := by simp
  obj := fun i h st b hb => by
    have e : b = it := by simpa using hb
    subst e
    obtain ⟨o, e, c, d⟩ := st
    exact ⟨o, e, fun v z => by rw [d] at z; cases z⟩
  keep := fun i h h' st k => st.at fun o e => k it (by simp) o e
  item := by
    intro X hP hw hK hc i pins s σ H E I hf st hg
    subst hP hw hK
    obtain ⟨xs, x, hq, hx⟩ := hg
    obtain ⟨its, rv, p, hz⟩ := I.tuple hq
    obtain ⟨u, hu, ru⟩ := rv.get hx
    obtain ⟨f0, f1, f2, f3, f4, f5⟩ := hf it (by simp)
    refine wpAny_pyNext_tuple_item st (show s.heap.IsTuple a its.toArray from p) (x := u) (by simpa using hu) fun h' st' sb => ?_
    have I1 : Inv X pins σ H { s with heap := h' } := I.turned (t' := s.toks) (fun b o hb e => (sb.2 b hb).trans e) f0 f1 f3 f4 f5
    obtain ⟨o, e, c, d⟩ := id st'
    exact ⟨u, rfl, go_of (s := { s with heap := h' }) e c d (by decide) ⟨x, H, I1, ru, ⟨rfl, fun ys hy => by rw [I.tuple_inj hy hq]; exact hx⟩, st', fun b hb => (hf b hb).1⟩⟩
  done := by
    intro X hP hw hK hc i pins s σ H E I hf st hg
    subst hP hw hK
    obtain ⟨xs, hq, hx⟩ := hg
    obtain ⟨its, rv, p, hz⟩ := I.tuple hq
    obtain ⟨f0, f1, f2, f3, f4, f5⟩ := hf it (by simp)
    have hl := rv.length
    exact wpAny_pyNext_tuple_end (I.ok.hd hc) st (show s.heap.IsTuple a its.toArray from p) (by simp; omega) fun h' eb => ⟨rfl, I.turned (t' := s.toks) (fun b o hb e => eb b o hb e) f0 f1 f3 f4 f5⟩
  self := fun _ _ _ _ _ st h => wpAny_pyIter_tupleiter st h
theorem turn_range {P : Program} {w : World} {K : PySem.W.Frag} {tg : Expr} (it : Addr) (lo : Int) (n : Nat) : Turn P w K tg (Itr lo n) [it] it (fun i h => IsRangeIter h it (lo + (i : Nat) * 1) ((n : Int) - (i : Nat)) 1) where
  mem := by simp
  obj := fun i h st b hb => by
    have e : b = it := by simpa using hb
    subst e
    exact ⟨_, st, fun v z => by
      have z' : Data.fields _ = Data.cell v := z
      cases z'⟩
  keep := fun i h h' st k => k it (by simp) _ st
  item := by
    intro X hP hw hK hc i pins s σ H E I hf st hg
    subst hP hw hK
    obtain ⟨f0, f1, f2, f3, f4, f5⟩ := hf it (by simp)
    have W := Walks.range (prog := X.prog) (w := X.w) (I.ok.hd hc) it lo 1 n
    refine W.item i s _ _ hg st fun v h' tk hv st' kk => ?_
    obtain ⟨t, rfl⟩ := hv
    have I1 : Inv X pins σ H { s with heap := h', toks := tk } := I.turned (fun b o hb e => kk b o (by simpa using hb) e) f0 f1 f3 f4 f5
    refine ⟨_, rfl, go_of (s := { s with heap := h', toks := tk }) (n := "range_iterator") st' rfl rfl (by decide) ⟨.int (lo + i), H, I1, ⟨t, ?_⟩, ⟨rfl, rfl⟩, st', fun b hb => (hf b hb).1⟩⟩
    rw [Int.mul_one]
  done := by
    intro X hP hw hK hc i pins s σ H E I hf st hg
    subst hP hw hK
    obtain ⟨f0, f1, f2, f3, f4, f5⟩ := hf it (by simp)
    exact wpAny_pyNext_range_end (I.ok.hd hc) st (by have : n ≤ i := hg; omega) fun h' eb => ⟨rfl, I.turned (t' := s.toks) (fun b o hb e => eb b o hb e) f0 f1 f3 f4 f5⟩
  self := fun _ _ _ _ _ st h => wpAny_pyIter_rangeiter st h
end L2

namespace L2
open PySem PySem.Spec PyProof.Rows
section
variable {X : Cx} {tg : Expr}
def iList (K : PySem.W.Frag) (tl : TE) : TI := fun σ H R => tl σ H fun x H1 => ∃ a, x = .ref a ∧ (∃ xs, SqL K H1 a xs) ∧ R (Itl K a) H1
def iTup (K : PySem.W.Frag) (tl : TE) : TI := fun σ H R => tl σ H fun x H1 => ∃ a, x = .ref a ∧ (∃ xs, SqT K H1 a xs) ∧ R (Itt K a) H1
theorem pi_list {l : Expr} {tl : TE} (hl : PE X l tl) : PI X tg l (iList X.K tl) := by
  intro pins s σ H R I h
  refine thn (hl pins s σ H _ I h) fun v s1 ⟨x, H1, I1, r1, q1⟩ => ?_
  obtain ⟨a, e, ⟨xs, hq⟩, q⟩ := q1
  subst e
  cases r1
  obtain ⟨its, rv, p, hz⟩ := I1.list hq
  refine wpAny_pyIter_list p.isList ?_
  refine ⟨s1.heap.objs.size, [s1.heap.objs.size], _, _, H1, rfl, I1.kept (t' := s1.toks) fun b o e => Heap.get?_push_of_some _ e, turn_list a _, ⟨_, Heap.get?_push_size _ rfl, rfl, rfl⟩, fun b hb => ?_, q⟩
  have e : b = s1.heap.objs.size := by simpa using hb
  subst e
  exact I1.fpOk (Nat.le_refl _) (I1.hok.fresh (Nat.le_refl _))
theorem pi_tup {l : Expr} {tl : TE} (hl : PE X l tl) : PI X tg l (iTup X.K tl) := by
  intro pins s σ H R I h
  refine thn (hl pins s σ H _ I h) fun v s1 ⟨x, H1, I1, r1, q1⟩ => ?_
  obtain ⟨a, e, ⟨xs, hq⟩, q⟩ := q1
  subst e
  cases r1
  obtain ⟨its, rv, p, hz⟩ := I1.tuple hq
  refine wpAny_pyIter_tuple (show s1.heap.IsTuple a its.toArray from p) ?_
  refine ⟨s1.heap.objs.size, [s1.heap.objs.size], _, _, H1, rfl, I1.kept (t' := s1.toks) fun b o e => Heap.get?_push_of_some _ e, turn_tuple a _, ⟨_, Heap.get?_push_size _ rfl, rfl, rfl⟩, fun b hb => ?_, q⟩
  have e : b = s1.heap.objs.size := by simpa using hb
  subst e
  exact I1.fpOk (Nat.le_refl _) (I1.hok.fresh (Nat.le_refl _))
/-- a range object just made, walked -/
theorem range_it {pins : List (Addr × Obj)} {σ : St} {H : Hp} {s : Shared} {R : It → Hp → Prop} {E : Value → Shared → Prop} {lo hi : Int} {t u v : Tok} {tk : Nat} (I : Inv X pins σ H s) (h1 : -(2 ^ 62) ≤ lo) (h2 : lo < 2 ^ 62) (h3 : -(2 ^ 62) ≤ hi) (h4 : hi < 2 ^ 62)
    (q : R (Itr lo (hi - lo).toNat) H) : wpAny (model X.prog X.w) X.A (pyIter (.ref s.heap.objs.size)) (PIE X pins σ tg R) E { s with heap := s.heap.push { cls := .type "range", data := .fields #[.int lo t, .int hi u, .int 1 v] }, toks := tk } := by
  refine wpAny_pyIter_range (IsRange.new ..) (small_one h1 h2 h3 h4) ?_
  have I1 : Inv X pins σ H { s with heap := s.heap.push { cls := .type "range", data := .fields #[.int lo t, .int hi u, .int 1 v] }, toks := tk } := I.kept fun b o e => Heap.get?_push_of_some _ e
  refine ⟨(s.heap.push { cls := .type "range", data := .fields #[.int lo t, .int hi u, .int 1 v] }).objs.size, [(s.heap.push { cls := .type "range", data := .fields #[.int lo t, .int hi u, .int 1 v] }).objs.size], _, _, H, rfl,
    I1.kept (t' := tk) fun b o e => Heap.get?_push_of_some _ e, turn_range _ lo (hi - lo).toNat, ?_, fun b hb => ?_, q⟩
  · have e1 : lo + ((0 : Nat) : Int) * 1 = lo := by simp
    have e2 : (((hi - lo).toNat : Nat) : Int) - ((0 : Nat) : Int) = Builtin.Range.rangeSize lo hi 1 := by rw [rangeSize_one]; split <;> omega
    show IsRangeIter _ _ (lo + ((0 : Nat) : Int) * 1) ((((hi - lo).toNat : Nat) : Int) - ((0 : Nat) : Int)) 1
    rw [e1, e2]
    exact Heap.get?_push_size _ rfl
  · have e : b = (s.heap.push { cls := .type "range", data := .fields #[.int lo t, .int hi u, .int 1 v] }).objs.size := by simpa using hb
    subst e
    exact I1.fpOk (Nat.le_refl _) (I1.hok.fresh (Nat.le_refl _))
def iRng1 (ta : TA) : TI := fun σ H R => ta σ H fun vs H1 => ∃ j : Int, vs = [.int j] ∧ -(2 ^ 62) ≤ j ∧ j < 2 ^ 62 ∧ R (Itr 0 j.toNat) H1
def iRng2 (ta : TA) : TI := fun σ H R => ta σ H fun vs H1 => ∃ i j : Int, vs = [.int i, .int j] ∧ (-(2 ^ 62) ≤ i ∧ i < 2 ^ 62 ∧ -(2 ^ 62) ≤ j ∧ j < 2 ^ 62) ∧ R (Itr i (j - i).toNat) H1
theorem pi_range1 {a : Expr} {ta : TA} {p pos : Pos} (hg : Gl X "range") (hm : X.mg "range" = none) (ha : PA X [a] ta) (hs : starEach [a] X.env = [(false, eval a X.env)] := by rfl) : PI X tg (.Call (.Name "range" p) [a] [] pos) (iRng1 ta) := by
  intro pins s σ H R I h
  refine Call_ (ld_blt I hg hm boot_range (PyProof.Rows.callWith_type1 (thn (ha pos pins s σ H _ I h) fun us s1 ⟨vs, H1, I1, r1, q1⟩ => ?_) hs rfl))
  obtain ⟨j, e, q1, q2, q⟩ := q1
  subst e
  cases r1 with
  | cons r rr =>
    cases rr
    obtain ⟨t, rfl⟩ := r
    exact call_range_1 (range_it I1 (by omega) (by omega) q1 q2 (by simpa using q))
theorem pi_range2 {a b : Expr} {ta : TA} {p pos : Pos} (hg : Gl X "range") (hm : X.mg "range" = none) (ha : PA X [a, b] ta) (hs : starEach [a, b] X.env = [(false, eval a X.env), (false, eval b X.env)] := by rfl) (hs2 : starEach [b] X.env = [(false, eval b X.env)] := by rfl) :
    PI X tg (.Call (.Name "range" p) [a, b] [] pos) (iRng2 ta) := by
  intro pins s σ H R I h
  refine Call_ (ld_blt I hg hm boot_range (PyProof.Rows.callWith_type1 (thn (ha pos pins s σ H _ I h) fun us s1 ⟨vs, H1, I1, r1, q1⟩ => ?_) (by rw [hs, hs2]) (by rw [hs2]; rfl)))
  obtain ⟨i, j, e, ⟨q1, q2, q3, q4⟩, q⟩ := q1
  subst e
  cases r1 with
  | cons r rr =>
    cases rr with
    | cons r' rr =>
      cases rr
      obtain ⟨t, rfl⟩ := r
      obtain ⟨t', rfl⟩ := r'
      exact call_range_2 (range_it I1 q1 q2 q3 q4 q)

/-! ### for -/
/-- W: the invariant by the turn and a measure; N: what the body is to reach -/
def tFor (wi : TI) (g : TG) (tb : TS) : TS := fun D σ H => wi σ H fun J H1 => ∃ W : Nat → Nat → St → Hp → Prop, (∃ m, W 0 m σ H1) ∧ ∀ i m σ H, W i m σ H →
  (J.stop i H ∧ D.nx σ H) ∨ (J.go i H ∧ ∃ N : St → Hp → Prop, (∀ σ' H', N σ' H' → ∃ m', m' < m ∧ W (i + 1) m' σ' H') ∧ ∀ x H', J.yld i H x H' → g x σ H' fun σ2 H2 => tb { D with nx := N, ct := N, bk := D.nx } σ2 H2)
/-- the records at fp as they stand -/
def pinsAt (fp : List Addr) (h : Heap) : List (Addr × Obj) := fp.filterMap fun b => (h.get? b).map fun o => (b, o)
theorem mem_pinsAt {fp : List Addr} {h : Heap} {b : Addr} {o : Obj} (hb : b ∈ fp) (e : h.get? b = some o) : (b, o) ∈ pinsAt fp h := List.mem_filterMap.mpr ⟨b, hb, by rw [e]; rfl⟩
theorem of_pinsAt {fp : List Addr} {h : Heap} {p : Addr × Obj} (hp : p ∈ pinsAt fp h) : p.1 ∈ fp ∧ h.get? p.1 = some p.2 := by
  obtain ⟨b, hb, e⟩ := List.mem_filterMap.mp hp
  cases q : h.get? b with
  | none => rw [q] at e; cases e
  | some o =>
    rw [q] at e
    have e' : (b, o) = p := Option.some.inj e
    subst e'
    exact ⟨hb, q⟩
theorem Inv.pinned {pins : List (Addr × Obj)} {σ : St} {H : Hp} {s : Shared} {fp : List Addr} (I : Inv X pins σ H s) (hf : ∀ b ∈ fp, FpOk X pins H b) (ho : ∀ b ∈ fp, ∃ o, s.heap.get? b = some o ∧ ∀ v, o.data ≠ .cell v) : Inv X (pins ++ pinsAt fp s.heap) σ H s :=
  I.pins_of fun p hp => (List.mem_append.mp hp).elim (fun z => I.pin p (List.mem_append_right _ z)) fun z => by
    obtain ⟨hb, e⟩ := of_pinsAt z
    obtain ⟨f0, f1, f2, _⟩ := hf p.1 hb
    obtain ⟨o, e', d⟩ := ho p.1 hb
    rw [e] at e'; cases e'
    exact ⟨e, f0, f1, f2, d⟩
theorem Inv.unpinned {pins pl : List (Addr × Obj)} {σ : St} {H : Hp} {s : Shared} (I : Inv X (pins ++ pl) σ H s) : Inv X pins σ H s := I.pins_of fun p hp => I.pin p (List.mem_append_right _ (List.mem_append_left _ hp))
theorem ps_for {iter : Expr} {body : List Stmt} {wi : TI} {g : TG} {tb : TS} {pos : Pos} (hp : PassesOwn (model X.prog X.w) X.A X.env X.xe) (hc : X.calm = true) (hi : PI X tg iter wi) (hg : PG X tg g) (hb : PSs X body tb)
    (hs : ∀ x, foldedSetIterable iter X.env x = pure x := by intro _; rfl) : PS X (.For tg iter body [] pos) (tFor wi g tb) := by
  intro pins s σ H D I h
  refine wpAny_For (thn (hi pins s σ H _ I h) fun v s1 h1 => thn h1 fun itv s2 h2 => ?_) hs
  obtain ⟨it, fp, tn, J, H2, e, I2, T, st2, f2, W, ⟨m0, w0⟩, turn⟩ := h2
  subst e
  -- what stays true of the iterator's objects through the loop
  have stat : ∀ {H' : Hp}, (∀ b ∈ fp, H' b = none) → ∀ b ∈ fp, FpOk X pins H' b := fun hn b hb => ⟨hn b hb, (f2 b hb).2⟩
  refine codeAny_forLoop_any (fun n s' => ∃ i σ' H', Inv X pins σ' H' s' ∧ tn i s'.heap ∧ (∀ b ∈ fp, H' b = none) ∧ W i n σ' H') ?_ m0 ⟨0, σ, H2, I2, st2, fun b hb => (f2 b hb).1, w0⟩
  rintro n s3 ⟨i, σ3, H3, I3, st3, fr3, w3⟩
  rcases turn i n σ3 H3 w3 with ⟨stop, qn⟩ | ⟨go, N, hN, step⟩
  · refine wpAny_passesOwn hp (thn (T.done X rfl rfl rfl hc i pins s3 σ3 H3 X.xe I3 (stat fr3) st3 stop) fun r s4 ⟨hr, I4⟩ => ?_)
    subst hr
    exact wpAny_execs_nil ⟨σ3, H3, I4, qn⟩
  · refine wpAny_passesOwn hp (thn (T.item X rfl rfl rfl hc i pins s3 σ3 H3 X.xe I3 (stat fr3) st3 go) fun r s4 ⟨u, hr, h4⟩ => ?_)
    subst hr
    refine wpAny_passesOwn hp (thn h4 fun _ s5 ⟨x, H5, I5, r5, y5, st5, fr5⟩ => ?_)
    have I5' := I5.pinned (stat fr5) (T.obj _ _ st5)
    refine wpAny_passesOwn hp (thn (hg _ s5 σ3 H5 x u _ I5' r5 (step x H5 y5)) fun _ s6 ⟨σ6, H6, I6, q6⟩ => ?_)
    refine wpAny_passesOwn hp (thn (hb _ s6 σ6 H6 _ I6 q6) fun f s7 q7 => ?_)
    have again : ∀ {σ7 : St} {H7 : Hp}, Inv X (pins ++ pinsAt fp s5.heap) σ7 H7 s7 → N σ7 H7 → ∃ m, m < n ∧ ∃ i σ' H', Inv X pins σ' H' s7 ∧ tn i s7.heap ∧ (∀ b ∈ fp, H' b = none) ∧ W i m σ' H' := fun {σ7 H7} I7 n7 => by
      obtain ⟨m', hm, w7⟩ := hN σ7 H7 n7
      refine ⟨m', hm, i + 1, σ7, H7, I7.unpinned, T.keep _ _ _ st5 fun b hb o e => (I7.pin (b, o) (List.mem_append_right _ (List.mem_append_right _ (mem_pinsAt hb e)))).1, fun b hb => ?_, w7⟩
      obtain ⟨o, e, d⟩ := T.obj _ _ st5 b hb
      exact (I7.pin (b, o) (List.mem_append_right _ (List.mem_append_right _ (mem_pinsAt hb e)))).2.1
    cases f with
    | next => obtain ⟨σ7, H7, I7, n7⟩ := q7; exact again I7 n7
    | cont => obtain ⟨σ7, H7, I7, n7⟩ := q7; exact again I7 n7
    | brk => obtain ⟨σ7, H7, I7, q7⟩ := q7; exact ⟨σ7, H7, I7.unpinned, q7⟩
    | ret v => obtain ⟨x7, σ7, H7, I7, r7, q7⟩ := q7; exact ⟨x7, σ7, H7, I7.unpinned, r7, q7⟩
end

/-! ### the forms one uses -/
/-- over a list that the body leaves as it is -/
theorem for_list {K : PySem.W.Frag} {a : Addr} {xs : List V} {g : TG} {tb : TS} {D : Ends} {σ : St} {H : Hp} (Pv : Nat → St → Hp → Prop) (h0 : Pv 0 σ H) (hl : ∀ i σ H, i ≤ xs.length → Pv i σ H → SqL K H a xs)
    (hs : ∀ i x σ H, xs[i]? = some x → Pv i σ H → g x σ H fun σ2 H2 => tb { D with nx := Pv (i + 1), ct := Pv (i + 1), bk := D.nx } σ2 H2) (hd : ∀ σ H, Pv xs.length σ H → D.nx σ H) :
    ∃ W : Nat → Nat → St → Hp → Prop, (∃ m, W 0 m σ H) ∧ ∀ i m σ H, W i m σ H →
      ((Itl K a).stop i H ∧ D.nx σ H) ∨ ((Itl K a).go i H ∧ ∃ N : St → Hp → Prop, (∀ σ' H', N σ' H' → ∃ m', m' < m ∧ W (i + 1) m' σ' H') ∧ ∀ x H', (Itl K a).yld i H x H' → g x σ H' fun σ2 H2 => tb { D with nx := N, ct := N, bk := D.nx } σ2 H2) := by
  refine ⟨fun i m σ H => m = xs.length - i ∧ i ≤ xs.length ∧ Pv i σ H, ⟨xs.length, by simp, Nat.zero_le _, h0⟩, ?_⟩
  rintro i m σ H ⟨rfl, hi, p⟩
  have q := hl i σ H hi p
  by_cases hlt : i < xs.length
  · refine .inr ⟨⟨xs, xs[i], q, by simp [hlt]⟩, Pv (i + 1), fun σ' H' p' => ⟨xs.length - (i + 1), by omega, rfl, hlt, p'⟩, fun x H' y => ?_⟩
    obtain ⟨e, y⟩ := y
    subst e
    exact hs i x σ _ (y xs q) p
  · have e : i = xs.length := by omega
    subst e
    exact .inl ⟨⟨xs, q, Nat.le_refl _⟩, hd σ H p⟩
theorem for_tup {K : PySem.W.Frag} {a : Addr} {xs : List V} {g : TG} {tb : TS} {D : Ends} {σ : St} {H : Hp} (Pv : Nat → St → Hp → Prop) (h0 : Pv 0 σ H) (hl : ∀ i σ H, i ≤ xs.length → Pv i σ H → SqT K H a xs)
    (hs : ∀ i x σ H, xs[i]? = some x → Pv i σ H → g x σ H fun σ2 H2 => tb { D with nx := Pv (i + 1), ct := Pv (i + 1), bk := D.nx } σ2 H2) (hd : ∀ σ H, Pv xs.length σ H → D.nx σ H) :
    ∃ W : Nat → Nat → St → Hp → Prop, (∃ m, W 0 m σ H) ∧ ∀ i m σ H, W i m σ H →
      ((Itt K a).stop i H ∧ D.nx σ H) ∨ ((Itt K a).go i H ∧ ∃ N : St → Hp → Prop, (∀ σ' H', N σ' H' → ∃ m', m' < m ∧ W (i + 1) m' σ' H') ∧ ∀ x H', (Itt K a).yld i H x H' → g x σ H' fun σ2 H2 => tb { D with nx := N, ct := N, bk := D.nx } σ2 H2) := by
  refine ⟨fun i m σ H => m = xs.length - i ∧ i ≤ xs.length ∧ Pv i σ H, ⟨xs.length, by simp, Nat.zero_le _, h0⟩, ?_⟩
  rintro i m σ H ⟨rfl, hi, p⟩
  have q := hl i σ H hi p
  by_cases hlt : i < xs.length
  · refine .inr ⟨⟨xs, xs[i], q, by simp [hlt]⟩, Pv (i + 1), fun σ' H' p' => ⟨xs.length - (i + 1), by omega, rfl, hlt, p'⟩, fun x H' y => ?_⟩
    obtain ⟨e, y⟩ := y
    subst e
    exact hs i x σ _ (y xs q) p
  · have e : i = xs.length := by omega
    subst e
    exact .inl ⟨⟨xs, q, Nat.le_refl _⟩, hd σ H p⟩
theorem for_range {lo : Int} {n : Nat} {g : TG} {tb : TS} {D : Ends} {σ : St} {H : Hp} (Pv : Nat → St → Hp → Prop) (h0 : Pv 0 σ H)
    (hs : ∀ i σ H, i < n → Pv i σ H → g (.int (lo + i)) σ H fun σ2 H2 => tb { D with nx := Pv (i + 1), ct := Pv (i + 1), bk := D.nx } σ2 H2) (hd : ∀ σ H, Pv n σ H → D.nx σ H) :
    ∃ W : Nat → Nat → St → Hp → Prop, (∃ m, W 0 m σ H) ∧ ∀ i m σ H, W i m σ H →
      ((Itr lo n).stop i H ∧ D.nx σ H) ∨ ((Itr lo n).go i H ∧ ∃ N : St → Hp → Prop, (∀ σ' H', N σ' H' → ∃ m', m' < m ∧ W (i + 1) m' σ' H') ∧ ∀ x H', (Itr lo n).yld i H x H' → g x σ H' fun σ2 H2 => tb { D with nx := N, ct := N, bk := D.nx } σ2 H2) := by
  refine ⟨fun i m σ H => m = n - i ∧ i ≤ n ∧ Pv i σ H, ⟨n, by simp, Nat.zero_le _, h0⟩, ?_⟩
  rintro i m σ H ⟨rfl, hi, p⟩
  by_cases hlt : i < n
  · refine .inr ⟨hlt, Pv (i + 1), fun σ' H' p' => ⟨n - (i + 1), by omega, rfl, hlt, p'⟩, fun x H' y => ?_⟩
    obtain ⟨e, y⟩ := y
    subst e y
    exact hs i σ _ hlt p
  · have e : i = n := by omega
    subst e
    exact .inl ⟨Nat.le_refl _, hd σ H p⟩
end L2

namespace L2
open PySem PySem.Spec PyProof.Rows

abbrev R2 := V → V → Hp → VK → Prop
/-- a two-place operation on values: f is binaryOp op, inplaceOp op or compareOp op -/
def OpR (X : Cx) (f : Value → Value → Sem Value) (r : R2) : Prop :=
  ∀ (pins : List (Addr × Obj)) (s : Shared) (σ : St) (H : Hp) (x y : V) (v u : Value) (Q : VK), Inv X pins σ H s → RelV x v → RelV y u → r x y H Q →
    wpAny (model X.prog X.w) X.A (f v u) (EP X pins σ Q) X.xe s
/-- a one-place operation -/
def UnR (X : Cx) (f : Value → Sem Value) (r : V → Hp → VK → Prop) : Prop :=
  ∀ (pins : List (Addr × Obj)) (s : Shared) (σ : St) (H : Hp) (x : V) (v : Value) (Q : VK), Inv X pins σ H s → RelV x v → r x H Q →
    wpAny (model X.prog X.w) X.A (f v) (EP X pins σ Q) X.xe s
/-- a call of a value that is known (a builtin, a type) with values -/
def CallR (X : Cx) (f : Value) (r : List V → Hp → VK → Prop) : Prop :=
  ∀ (pins : List (Addr × Obj)) (s : Shared) (σ : St) (H : Hp) (xs : List V) (us : List Value) (Q : VK), Inv X pins σ H s → Vals xs us → r xs H Q →
    wpAny (model X.prog X.w) X.A (call f us) (EP X pins σ Q) X.xe s
/-- a value's truth -/
def TruR (X : Cx) (r : V → Hp → (Bool → Hp → Prop) → Prop) : Prop :=
  ∀ (pins : List (Addr × Obj)) (s : Shared) (σ : St) (H : Hp) (x : V) (v : Value) (Q : Bool → Hp → Prop), Inv X pins σ H s → RelV x v → r x H Q →
    wpAny (model X.prog X.w) X.A (truthy v) (TP X pins σ Q) X.xe s

def tOp (r : R2) (ta tb : TE) : TE := fun σ H Q => ta σ H fun x H1 => tb σ H1 fun y H2 => r x y H2 Q
def tUn (r : V → Hp → VK → Prop) (ta : TE) : TE := fun σ H Q => ta σ H fun x H1 => r x H1 Q
/-- ints in, under C, and a value out -/
def rI (C : Int → Int → Prop) (g : Int → Int → V) : R2 := fun x y H Q => ∃ i j, x = .int i ∧ y = .int j ∧ C i j ∧ Q (g i j) H
def rI0 (g : Int → Int → V) : R2 := fun x y H Q => ∃ i j, x = .int i ∧ y = .int j ∧ Q (g i j) H
def rU (g : Int → V) : V → Hp → VK → Prop := fun x H Q => ∃ i, x = .int i ∧ Q (g i) H

section
variable {X : Cx} {a b c : Expr} {ta tb tc : TE} {pos : Pos}

theorem binT (ha : PE X a ta) (hb : PE X b tb) {pins : List (Addr × Obj)} {s : Shared} {σ : St} {H : Hp} {R : V → V → Hp → Prop} (I : Inv X pins σ H s)
    (h : ta σ H fun x H1 => tb σ H1 fun y H2 => R x y H2) {Q : Value → Shared → Prop} {f : Value → Value → Sem Value}
    (hf : ∀ v u s2 x y H2, Inv X pins σ H2 s2 → RelV x v → RelV y u → R x y H2 → wpAny (model X.prog X.w) X.A (f v u) Q X.xe s2) :
    wpAny (model X.prog X.w) X.A (eval a X.env) (fun v s₁ => wpAny (model X.prog X.w) X.A (eval b X.env) (fun u s₂ => wpAny (model X.prog X.w) X.A (f v u) Q X.xe s₂) X.xe s₁) X.xe s := by
  refine thn (ha pins s σ H _ I h) fun v s1 ⟨x, H1, I1, r1, q1⟩ => ?_
  refine thn (hb pins s1 σ H1 _ I1 q1) fun u s2 ⟨y, H2, I2, r2, q2⟩ => ?_
  exact hf v u s2 x y H2 I2 r1 r2 q2

theorem pe_op {op : Operator} {r : R2} (ho : OpR X (binaryOp op) r) (ha : PE X a ta) (hb : PE X b tb) : PE X (.BinOp a op b pos) (tOp r ta tb) := by
  intro pins s σ H Q I h
  exact wpAny_BinOp (binT ha hb I h fun v u s2 x y H2 I2 rx ry q => ho pins s2 σ H2 x y v u Q I2 rx ry q)
theorem pe_un {op : UnaryOp} {r : V → Hp → VK → Prop} (ho : UnR X (unaryOp op) r) (ha : PE X a ta) : PE X (.UnaryOp op a pos) (tUn r ta) := by
  intro pins s σ H Q I h
  exact UnaryOp_ (thn (ha pins s σ H _ I h) fun v s1 ⟨x, H1, I1, r1, q1⟩ => ho pins s1 σ H1 x v Q I1 r1 q1)
/-! ### ints -/
theorem opI {f : Value → Value → Sem Value} {C : Int → Int → Prop} {g : Int → Int → Int}
    (rule : ∀ (i j : Int) (t u : Tok) (s : Shared) (Q : Value → Shared → Prop) (E : Value → Shared → Prop), C i j → Q (.int (g i j) s.toks) { s with toks := s.toks + 1 } → wpAny (model X.prog X.w) X.A (f (.int i t) (.int j u)) Q E s) :
    OpR X f (rI C fun i j => .int (g i j)) := by
  intro pins s σ H x y v u Q I rx ry h
  obtain ⟨i, j, rfl, rfl, hc, q⟩ := h
  obtain ⟨t, rfl⟩ := rx
  obtain ⟨t', rfl⟩ := ry
  exact rule i j t t' s _ _ hc ⟨.int (g i j), H, I.tok _, ⟨_, rfl⟩, q⟩
theorem opI0 {f : Value → Value → Sem Value} {g : Int → Int → Int}
    (rule : ∀ (i j : Int) (t u : Tok) (s : Shared) (Q : Value → Shared → Prop) (E : Value → Shared → Prop), Q (.int (g i j) s.toks) { s with toks := s.toks + 1 } → wpAny (model X.prog X.w) X.A (f (.int i t) (.int j u)) Q E s) :
    OpR X f (rI0 fun i j => .int (g i j)) := by
  intro pins s σ H x y v u Q I rx ry h
  obtain ⟨i, j, rfl, rfl, q⟩ := h
  obtain ⟨t, rfl⟩ := rx
  obtain ⟨t', rfl⟩ := ry
  exact rule i j t t' s _ _ ⟨.int (g i j), H, I.tok _, ⟨_, rfl⟩, q⟩
theorem opB0 {f : Value → Value → Sem Value} {g : Int → Int → Bool}
    (rule : ∀ (i j : Int) (t u : Tok) (s : Shared) (Q : Value → Shared → Prop) (E : Value → Shared → Prop), Q (.bool (g i j)) s → wpAny (model X.prog X.w) X.A (f (.int i t) (.int j u)) Q E s) :
    OpR X f (rI0 fun i j => .bl (g i j)) := by
  intro pins s σ H x y v u Q I rx ry h
  obtain ⟨i, j, rfl, rfl, q⟩ := h
  obtain ⟨t, rfl⟩ := rx
  obtain ⟨t', rfl⟩ := ry
  exact rule i j t t' s _ _ ⟨.bl (g i j), H, I, rfl, q⟩

def CDiv (i j : Int) : Prop := 0 < j ∧ j < 1073741824
def CDivN (i j : Int) : Prop := j ≠ 0 ∧ j.natAbs < 1073741824
def CPow (i j : Int) : Prop := 0 ≤ j ∧ j ≤ 1000000 ∧ i.natAbs < 2 ^ 64
def CMul (i j : Int) : Prop := (-(2 ^ 64) < i ∧ i < 2 ^ 64) ∨ (-(2 ^ 64) < j ∧ j < 2 ^ 64)
theorem CMul.ok {i j : Int} (h : CMul i j) : IntMulOk i j := by
  rcases h with ⟨h1, h2⟩ | ⟨h1, h2⟩
  · exact .of_left (intBits_le_64 h1 h2)
  · exact .of_right (intBits_le_64 h1 h2)
theorem op_add : OpR X (binaryOp .Add) (rI0 fun i j => .int (i + j)) := opI0 fun _ _ _ _ _ _ _ q => add_int q
theorem op_sub : OpR X (binaryOp .Sub) (rI0 fun i j => .int (i - j)) := opI0 fun _ _ _ _ _ _ _ q => sub_int q
theorem op_mul : OpR X (binaryOp .Mult) (rI CMul fun i j => .int (i * j)) := opI fun _ _ _ _ _ _ _ hc q => mul_int q hc.ok
/-- // by a positive divisor -/
theorem op_fdiv : OpR X (binaryOp .FloorDiv) (rI CDiv fun i j => .int (i / j)) := opI fun i j _ _ _ _ _ hc q => by
  have h1 : (0 : Int) < j := hc.1
  have h2 : j < 1073741824 := hc.2
  exact floordiv_int (by omega) (by rw [Int.fdiv_eq_ediv_of_nonneg i (by omega)]; exact q) (.inl (PyProof.noPylong_small (by omega)))
/-- % by a positive divisor of any size -/
theorem op_mod : OpR X (binaryOp .Mod) (rI (fun _ j => 0 < j) fun i j => .int (i % j)) := opI fun i j _ _ _ _ _ hc q => by
  have h1 : (0 : Int) < j := hc
  exact mod_int' (by omega) (by rw [Int.fmod_eq_emod_of_nonneg i (by omega)]; exact q)
theorem op_pow : OpR X (binaryOp .Pow) (rI CPow fun i j => .int (i ^ j.toNat)) := opI fun _ _ _ _ _ _ _ hc q => pow_int_small hc.1 hc.2.1 hc.2.2 q
theorem unI {f : Value → Sem Value} {g : Int → Int}
    (rule : ∀ (i : Int) (t : Tok) (s : Shared) (Q : Value → Shared → Prop) (E : Value → Shared → Prop), Q (.int (g i) s.toks) { s with toks := s.toks + 1 } → wpAny (model X.prog X.w) X.A (f (.int i t)) Q E s) :
    UnR X f (rU fun i => .int (g i)) := by
  intro pins s σ H x v Q I rx h
  obtain ⟨i, rfl, q⟩ := h
  obtain ⟨t, rfl⟩ := rx
  exact rule i t s _ _ ⟨.int (g i), H, I.tok _, ⟨_, rfl⟩, q⟩
theorem un_neg : UnR X (unaryOp .USub) (rU fun i => .int (-i)) := unI fun _ _ _ _ _ q => neg_int q
/-! ### bools among ints: n += (a < b) -/
end

/-! ### comparisons -/
/-- the scalars that == tells apart as data does -/
def scal : V → V → Bool
  | .non, .non => true | .non, .int _ => true | .int _, .non => true | .non, .bl _ => true | .bl _, .non => true | .non, .str _ => true | .str _, .non => true
  | .int _, .int _ => true | .bl _, .bl _ => true | .str _, .str _ => true | .byt _, .byt _ => true
  | .int _, .str _ => true | .str _, .int _ => true | .bl _, .str _ => true | .str _, .bl _ => true
  | _, _ => false
def rEq : R2 := fun x y H Q => scal x y = true ∧ Q (.bl (decide (x = y))) H
def rNe : R2 := fun x y H Q => scal x y = true ∧ Q (.bl (!decide (x = y))) H

theorem dec_int {i j : Int} : decide (V.int i = V.int j) = (i == j) := by
  rw [Bool.eq_iff_iff]
  simp
theorem dec_bl {i j : Bool} : decide (V.bl i = V.bl j) = (i == j) := by
  rw [Bool.eq_iff_iff]
  simp
theorem dec_str {i j : Str} : decide (V.str i = V.str j) = (i == j) := by
  rw [Bool.eq_iff_iff]
  simp
theorem dec_byt {i j : Array UInt8} : decide (V.byt i = V.byt j) = (i.toList == j.toList) := by
  rw [Bool.eq_iff_iff]
  cases i
  cases j
  simp

section
variable {X : Cx} {a b c : Expr} {ta tb tc : TE} {pos : Pos}
theorem fin_bl {pins : List (Addr × Obj)} {σ : St} {H : Hp} {s : Shared} {Q : VK} {k k' : Bool} (I : Inv X pins σ H s) (q : Q (.bl k) H) (e : k = k') : EP X pins σ Q (.bool k') s := by
  subst e
  exact ⟨.bl k, H, I, rfl, q⟩
theorem op_eq : OpR X (compareOp .Eq) rEq := by
  intro pins s σ H x y v u Q I rx ry h
  obtain ⟨hs, q⟩ := h
  cases x with
  | non =>
    cases rx
    cases y with
    | non => cases ry; exact PySem.EqNone.eq_none_none (fin_bl I q (by simp))
    | bl j => cases ry; exact PySem.EqNone.eq_none_bool (fin_bl I q (by simp))
    | int j => obtain ⟨t', rfl⟩ := ry; exact PySem.EqNone.eq_none_int (fin_bl I q (by simp))
    | str j => obtain ⟨t', rfl⟩ := ry; exact PySem.EqNone.eq_none_str (fin_bl I q (by simp))
    | _ => exact absurd (show false = true from hs) Bool.false_ne_true
  | bl i =>
    cases rx
    cases y with
    | non => cases ry; exact PySem.EqNone.eq_bool_none (fin_bl I q (by simp))
    | bl j => cases ry; exact eq_bool (fin_bl I q dec_bl)
    | str j => obtain ⟨t', rfl⟩ := ry; exact PySem.EqMixed.eq_bool_str (fin_bl I q (by simp))
    | _ => exact absurd (show false = true from hs) Bool.false_ne_true
  | int i =>
    obtain ⟨t, rfl⟩ := rx
    cases y with
    | non => cases ry; exact PySem.EqNone.eq_int_none (fin_bl I q (by simp))
    | int j => obtain ⟨t', rfl⟩ := ry; exact eq_int (fin_bl I q dec_int)
    | str j => obtain ⟨t', rfl⟩ := ry; exact PySem.EqMixed.eq_int_str (fin_bl I q (by simp))
    | _ => exact absurd (show false = true from hs) Bool.false_ne_true
  | str i =>
    obtain ⟨t, rfl⟩ := rx
    cases y with
    | non => cases ry; exact PySem.EqNone.eq_str_none (fin_bl I q (by simp))
    | bl j => cases ry; exact PySem.EqMixed.eq_str_bool (fin_bl I q (by simp))
    | int j => obtain ⟨t', rfl⟩ := ry; exact PySem.EqMixed.eq_str_int (fin_bl I q (by simp))
    | str j => obtain ⟨t', rfl⟩ := ry; exact eq_str (fin_bl I q dec_str)
    | _ => exact absurd (show false = true from hs) Bool.false_ne_true
  | byt i =>
    obtain ⟨t, rfl⟩ := rx
    cases y with
    | byt j => obtain ⟨t', rfl⟩ := ry; exact PySem.W.eq_bytes (fin_bl I q dec_byt)
    | _ => exact absurd (show false = true from hs) Bool.false_ne_true
  | _ => cases y <;> exact absurd (show false = true from hs) Bool.false_ne_true
theorem op_ne : OpR X (compareOp .NotEq) rNe := by
  intro pins s σ H x y v u Q I rx ry h
  obtain ⟨hs, q⟩ := h
  cases x with
  | non =>
    cases rx
    cases y with
    | non => cases ry; exact PySem.EqNone.ne_none_none (fin_bl I q (by simp))
    | bl j => cases ry; exact PySem.EqNone.ne_none_bool (fin_bl I q (by simp))
    | int j => obtain ⟨t', rfl⟩ := ry; exact PySem.EqNone.ne_none_int (fin_bl I q (by simp))
    | str j => obtain ⟨t', rfl⟩ := ry; exact PySem.EqNone.ne_none_str (fin_bl I q (by simp))
    | _ => exact absurd (show false = true from hs) Bool.false_ne_true
  | bl i =>
    cases rx
    cases y with
    | non => cases ry; exact PySem.EqNone.ne_bool_none (fin_bl I q (by simp))
    | bl j => cases ry; exact ne_bool (fin_bl I q (congrArg not dec_bl))
    | str j => obtain ⟨t', rfl⟩ := ry; exact PySem.EqMixed.ne_bool_str (fin_bl I q (by simp))
    | _ => exact absurd (show false = true from hs) Bool.false_ne_true
  | int i =>
    obtain ⟨t, rfl⟩ := rx
    cases y with
    | non => cases ry; exact PySem.EqNone.ne_int_none (fin_bl I q (by simp))
    | int j => obtain ⟨t', rfl⟩ := ry; exact ne_int (fin_bl I q (congrArg not dec_int))
    | str j => obtain ⟨t', rfl⟩ := ry; exact PySem.EqMixed.ne_int_str (fin_bl I q (by simp))
    | _ => exact absurd (show false = true from hs) Bool.false_ne_true
  | str i =>
    obtain ⟨t, rfl⟩ := rx
    cases y with
    | non => cases ry; exact PySem.EqNone.ne_str_none (fin_bl I q (by simp))
    | bl j => cases ry; exact PySem.EqMixed.ne_str_bool (fin_bl I q (by simp))
    | int j => obtain ⟨t', rfl⟩ := ry; exact PySem.EqMixed.ne_str_int (fin_bl I q (by simp))
    | str j => obtain ⟨t', rfl⟩ := ry; exact ne_str (fin_bl I q (congrArg not dec_str))
    | _ => exact absurd (show false = true from hs) Bool.false_ne_true
  | byt i =>
    obtain ⟨t, rfl⟩ := rx
    cases y with
    | byt j => obtain ⟨t', rfl⟩ := ry; exact PySem.W.ne_bytes (fin_bl I q (congrArg not dec_byt))
    | _ => exact absurd (show false = true from hs) Bool.false_ne_true
  | _ => cases y <;> exact absurd (show false = true from hs) Bool.false_ne_true

theorem op_lt : OpR X (compareOp .Lt) (rI0 fun i j => .bl (decide (i < j))) := opB0 fun _ _ _ _ _ _ _ q => lt_int q
theorem op_le : OpR X (compareOp .LtE) (rI0 fun i j => .bl (decide (i ≤ j))) := opB0 fun _ _ _ _ _ _ _ q => le_int q
theorem op_gt : OpR X (compareOp .Gt) (rI0 fun i j => .bl (decide (j < i))) := opB0 fun _ _ _ _ _ _ _ q => gt_int q
theorem op_ge : OpR X (compareOp .GtE) (rI0 fun i j => .bl (decide (j ≤ i))) := opB0 fun _ _ _ _ _ _ _ q => ge_int q
theorem op_notN : OpR X (compareOp .IsNot) (fun x y H Q => y = .non ∧ Q (.bl (!decide (x = .non))) H) := by
  intro pins s σ H x y v u Q I rx ry h
  obtain ⟨rfl, q⟩ := h
  cases ry
  refine isnot_none_gen (fin_bl I q ?_)
  cases x <;> first
    | (cases rx; rfl)
    | (obtain ⟨t, rfl⟩ := rx; rfl)

/-- is, is not of two objects that are tracked lists or instances -/
def isObj : HO → Bool
  | .lst _ => true
  | .ins _ _ _ => true
  | _ => false
theorem nomark (b : Expr) {op : CmpOp} (h : op ≠ .In := by decide) (h2 : op ≠ .NotIn := by decide) : behindInMarks op b = false := by
  have e1 : (op == CmpOp.In) = false := by cases op <;> first | rfl | exact absurd rfl h
  have e2 : (op == CmpOp.NotIn) = false := by cases op <;> first | rfl | exact absurd rfl h2
  cases b <;> simp [behindInMarks, e1, e2]
/-- a comparison as a value; hm: nomark b, or (for in, not in) by with_unfolding_all rfl -/
theorem pe_cmpR {op : CmpOp} {r : R2} (ho : OpR X (compareOp op) r) (ha : PE X a ta) (hb : PE X b tb) (hm : behindInMarks op b = false) : PE X (.Compare a [op] [b] pos) (tOp r ta tb) := by
  intro pins s σ H Q I h
  exact wpAny_Compare1 (binT ha hb I h fun v u s2 x y H2 I2 rx ry q => ho pins s2 σ H2 x y v u Q I2 rx ry q) hm
/-- a reading of a value as a test -/
def tTest (t : TE) : TT := fun σ H Q => t σ H fun x H' => ∃ k, x = .bl k ∧ Q k H'
theorem pt_cmpR {op : CmpOp} {r : R2} (ho : OpR X (compareOp op) r) (ha : PE X a ta) (hb : PE X b tb) (hm : behindInMarks op b = false) : PT X (.Compare a [op] [b] pos) (tTest (tOp r ta tb)) := by
  intro pins s σ H Q I h
  refine wpAny_isTrue_Compare1 (thn (ha pins s σ H _ I h) fun v s1 ⟨x, H1, I1, r1, q1⟩ => thn (hb pins s1 σ H1 _ I1 q1) fun u s2 ⟨y, H2, I2, r2, q2⟩ =>
    thn (ho pins s2 σ H2 x y v u _ I2 r1 r2 q2) fun c s3 ⟨z, H3, I3, r3, k, e, q3⟩ => ?_) hm
  subst e
  cases r3
  exact wpAny_truthy_bool ⟨H3, I3, q3⟩
/-- a op1 b op2 c -/
def tChain (r r' : R2) (ta tb tc : TE) : TE := fun σ H Q => ta σ H fun x H1 => tb σ H1 fun y H2 => r x y H2 fun z H3 => ∃ k, z = .bl k ∧
  (if k = true then tc σ H3 fun w' H4 => r' y w' H4 Q else Q (.bl false) H3)
/-! ### truth -/
/-- a value's truth by the abstract heap -/
def TruV (K : PySem.W.Frag) (x : V) (H : Hp) (k : Bool) : Prop :=
  match x with
  | .non => k = false
  | .bl b => k = b
  | .int i => k = (i != 0)
  | .str y => y.length ≤ sizeLine ∧ k = ((y.length : Int) != 0)
  | .byt y => y.size ≤ sizeLine ∧ k = ((y.size : Int) != 0)
  | .ref p => (∃ xs, SqL K H p xs ∧ k = !xs.isEmpty) ∨ (∃ xs, SqT K H p xs ∧ k = !xs.isEmpty) ∨ ∃ kvs, H p = some (.dK kvs) ∧ k = !kvs.isEmpty
  | _ => False
theorem line63 : (sizeLine : Nat) < 2 ^ 63 := by rw [sizeLine_eq]; decide
/-! ### strs and bytes -/
theorem op_add_str : OpR X (binaryOp .Add) (fun x y H Q => ∃ i j, x = .str i ∧ y = .str j ∧ i.length + j.length ≤ sizeLine ∧ Q (.str (i ++ j)) H) := by
  intro pins s σ H x y v u Q I rx ry h
  obtain ⟨i, j, rfl, rfl, hz, q⟩ := h
  obtain ⟨t, rfl⟩ := rx
  obtain ⟨t', rfl⟩ := ry
  exact add_str (fun t' tk => ⟨.str (i ++ j), H, I.tok _, ⟨_, rfl⟩, q⟩) hz
def PlainIxT (b : Expr) : Prop := ∀ o i, subscripted b false o i = operate [o, i] (getItem o i)
/-! ### scalar builtins, by CallR -/
theorem vals1 {x : V} {us : List Value} (r : Vals [x] us) : ∃ u, us = [u] ∧ RelV x u := by
  cases r with
  | cons r1 r2 => cases r2; exact ⟨_, rfl, r1⟩
theorem vals2 {x y : V} {us : List Value} (r : Vals [x, y] us) : ∃ u w', us = [u, w'] ∧ RelV x u ∧ RelV y w' := by
  cases r with
  | cons r1 r2 =>
    cases r2 with
    | cons r3 r4 => cases r4; exact ⟨_, _, rfl, r1, r3⟩
/-- len of a str, a bytes, a list, a tuple -/
def LenV (K : PySem.W.Frag) (x : V) (H : Hp) (n : Nat) : Prop :=
  match x with
  | .str y => y.length ≤ sizeLine ∧ n = y.length
  | .byt y => y.size ≤ sizeLine ∧ n = y.size
  | .ref p => (∃ xs, SqL K H p xs ∧ n = xs.length) ∨ ∃ xs, SqT K H p xs ∧ n = xs.length
  | _ => False
end
end L2

namespace L2
open PySem PySem.Spec PyProof.Rows

/-! ### an instance, its attributes a map -/
structure ObjM (h : Heap) (x dx C : Addr) (mA : Str → Option Value) : Prop where
  obj : h.get? x = some (PySem.W.instObj C dx)
  ns : h.Ns1 dx mA
  ne : dx ≠ x

theorem lookIn_ns {h : Heap} {dx : Addr} {mA : Str → Option Value} (n : h.Ns1 dx mA) : ∃ od, h.get? dx = some od ∧ ∀ name, PySem.W.lookIn name od = some (mA name) := by
  obtain ⟨o, es, ep, ho, hd, hk, _, hm⟩ := n
  refine ⟨o, ho, fun name => ?_⟩
  have e := hm name
  unfold nsFind findBy at e
  rw [← Array.find?_toList] at e
  unfold PySem.W.lookIn
  rw [hd]
  dsimp only
  split
  · rename_i y q
    rw [q] at e
    exact congrArg some e
  · rename_i q
    rw [q] at e
    have a : es.toList.any (·.refKey) = false := by
      rw [List.any_eq_false]
      intro y hy
      obtain ⟨z, t, hkey⟩ := hk y (Array.mem_toList_iff.mp hy)
      simp [DictEntry.refKey, hkey]
    have a' : ¬ es.toList.any (·.refKey) = true := by rw [a]; exact Bool.false_ne_true
    rw [if_neg a']
    exact congrArg some e

theorem ObjM.look {h : Heap} {x dx C : Addr} {mA : Str → Option Value} (I : ObjM h x dx C mA) : ∃ od, PySem.W.InstAt h x (PySem.W.instObj C dx) C (some od) ∧ ∀ name, PySem.W.lookIn name od = some (mA name) :=
  let ⟨od, ho, hl⟩ := lookIn_ns I.ns
  ⟨od, ⟨I.obj, rfl, rfl, ho⟩, hl⟩

section
variable {prog : Program} {w : World} {A : Around} {E : Value → Shared → Prop} {s : Shared} {K : PySem.W.Frag} {x dx C f : Addr} {mA : Str → Option Value} {name : Str} {v : Value}

theorem get_map {expr : Bool} {Q : Value → Shared → Prop} (X : K.In s.heap) (I : ObjM s.heap x dx C mA) (hg : PySem.W.plainGet K C name = true) (hh : PySem.W.hasDictIn K C = true)
    (ha : PySem.W.findIn K (.ref C) name = some none) (hv : mA name = some v) (hv' : PySem.W.handedIn v = true) (h : Q v { s with toks := s.toks + 1 }) :
    wpAny (model prog w) A (getAttr (.ref x) name expr) Q E s := by
  obtain ⟨od, J, hl⟩ := I.look
  exact PySem.W.get_value X J (PySem.W.plainGet_of hg).1 (PySem.W.findObj_own hh ha rfl (by rw [hl, hv])) hv' h

theorem set_map {ns : List Str} {Q : Unit → Shared → Prop} (X : K.In s.heap) (I : ObjM s.heap x dx C mA)
    (hs : PySem.W.findIn K (.ref C) "__setattr__" = some (some (.builtin "object.__setattr__"))) (hp : PySem.W.plainOver K C = true) (ht : PySem.W.takerIn K C name = some none) (hh : PySem.W.hasDictIn K C = true)
    (hw : PySem.Within mA ns) (hsz : ns.length ≤ sizeLine)
    (h : ∀ h', ObjM h' x dx C (fun y => if y = name then some v else mA y) → Heap.SameBut dx s.heap h' → Q () { s with heap := h', toks := s.toks + 2 }) :
    wpAny (model prog w) A (setAttr (.ref x) name v) Q E s := by
  obtain ⟨od, J, hl⟩ := I.look
  refine PySem.W.set_plain X J hs (PySem.W.osa_open (s := { s with toks := s.toks + 1 }) (r := none) X J hp ht fun b => ?_)
  obtain ⟨cd, hc, hd'⟩ := PySem.W.any_some hh
  have hx : s.heap.get? x = some ⟨.ref C, some dx, .plain, #[]⟩ := I.obj
  refine wpAny_bind (wpAny_pure (wpAny_bind (wpAny_bind (wpAny_loadPart hx (wpAny_bind (PySem.W.Looks.here (s := { s with toks := s.toks + 1 }) (PySem.W.looks_clsIn X hc) ?_))))))
  rw [hd']
  refine wpAny_pure (a := some dx) (wpAny_bind (wpAny_pure (wpAny_bind ?_)))
  refine wpAny_nsSet1 (s := { s with toks := s.toks + 1 }) I.ns fun h' hn2 hs2 => ?_
  obtain ⟨oD, esD, epD, hoD, hdD, hcD⟩ := hn2.count (PySem.Within.cons name v hw)
  refine wpAny_bind (wpAny_lookBehind hoD (by rw [hdD]; exact pastItsLine_dict (Nat.le_trans hcD (by rw [List.length_cons]; omega))) ?_)
  exact wpAny_pure (h _ ⟨(hs2.2 _ (Ne.symm I.ne)).trans I.obj, hn2, I.ne⟩ hs2)

/-- C(..): the dict at the heap's end, the instance behind it; then its __init__ -/
theorem make_map {R : Result → Shared → Prop} {vs : List Value} {kw : List (Str × Value)} (X : K.In s.heap) (hm : PySem.W.makesIn K C = true)
    (hi : PySem.W.findIn K (.ref C) "__init__" = some (some (.ref f))) (hf : PySem.W.typeIn K (.ref f) = some (.type "function"))
    (h : codeAny (model prog w) (A.under (.builtin "type.__call__" ⟨.ref C :: vs, kw⟩)) (.call (.ref f) ⟨.ref (s.heap.objs.size + 1) :: vs, kw⟩) (PySem.W.InitBack (s.heap.objs.size + 1) R)
      { s with heap := (s.heap.push PySem.W.emptyDict).push (PySem.W.instObj C s.heap.objs.size) }) :
    codeAny (model prog w) A (.call (.ref C) ⟨vs, kw⟩) R s := by
  obtain ⟨hh, g, d, t, os⟩ := s
  exact PySem.W.make_core (PySem.W.makes_of X hm) (PySem.W.looks_findIn X hi) (fun self => PySem.W.bind_fn X self hf) (.inl rfl) h
end

/-! ### the attributes as a list of pairs -/
def putF (f : Str) (v : V) : List (Str × V) → List (Str × V)
  | [] => [(f, v)]
  | (g, x) :: r => if g = f then (g, v) :: r else (g, x) :: putF f v r
theorem lookup_putF (f g : Str) (v : V) : ∀ fs : List (Str × V), (putF f v fs).lookup g = if g = f then some v else fs.lookup g
  | [] => by
    show List.lookup g [(f, v)] = _
    by_cases h : g = f
    · have hb : (g == f) = true := beq_iff_eq.mpr h
      simp only [List.lookup, hb, if_pos h]
    · have hb : (g == f) = false := beq_eq_false_iff_ne.mpr h
      simp only [List.lookup, hb, if_neg h]
  | (k, x) :: r => by
    have ih := lookup_putF f g v r
    rw [show putF f v ((k, x) :: r) = (if k = f then (k, v) :: r else (k, x) :: putF f v r) from rfl]
    by_cases hk : k = f
    · rw [if_pos hk]
      by_cases h : g = k
      · have hb : (g == k) = true := beq_iff_eq.mpr h
        simp only [List.lookup, hb, if_pos (h.trans hk)]
      · have hb : (g == k) = false := beq_eq_false_iff_ne.mpr h
        simp only [List.lookup, hb, if_neg (fun e : g = f => h (e.trans hk.symm))]
    · rw [if_neg hk]
      by_cases h : g = k
      · have hb : (g == k) = true := beq_iff_eq.mpr h
        simp only [List.lookup, hb, if_neg (fun e : g = f => hk (h.symm.trans e))]
      · have hb : (g == k) = false := beq_eq_false_iff_ne.mpr h
        simp only [List.lookup, hb]
        exact ih
theorem keys_putF (f : Str) (v : V) : ∀ fs : List (Str × V), f ∈ (putF f v fs).map (·.1) ∧ ∀ g, g ∈ fs.map (·.1) → g ∈ (putF f v fs).map (·.1)
  | [] => ⟨by simp [putF], fun g h => by simp at h⟩
  | (k, x) :: r => by
    obtain ⟨i1, i2⟩ := keys_putF f v r
    rw [show putF f v ((k, x) :: r) = (if k = f then (k, v) :: r else (k, x) :: putF f v r) from rfl]
    by_cases hk : k = f
    · rw [if_pos hk]
      subst hk
      exact ⟨by simp, fun g h => by simpa using h⟩
    · rw [if_neg hk]
      refine ⟨?_, fun g h => ?_⟩
      · rw [List.map_cons]
        exact List.mem_cons_of_mem _ i1
      · rw [List.map_cons] at h ⊢
        rcases List.mem_cons.mp h with e | e
        · exact List.mem_cons.mpr (.inl e)
        · exact List.mem_cons_of_mem _ (i2 g e)
theorem length_putF (f : Str) (v : V) : ∀ fs : List (Str × V), (putF f v fs).length ≤ fs.length + 1
  | [] => by simp [putF]
  | (k, x) :: r => by
    have ih := length_putF f v r
    rw [show putF f v ((k, x) :: r) = (if k = f then (k, v) :: r else (k, x) :: putF f v r) from rfl]
    by_cases hk : k = f
    · rw [if_pos hk, List.length_cons, List.length_cons]; omega
    · rw [if_neg hk, List.length_cons, List.length_cons]; omega

theorem RelO.some_of {v : V} {o : Option Value} (r : RelO (some v) o) : ∃ u, o = some u ∧ RelV v u := by
  cases o with
  | none => exact (show False from r).elim
  | some u => exact ⟨u, rfl, r⟩
theorem RelO.none_of {o : Option Value} (r : RelO none o) : o = none := by
  cases o with
  | none => rfl
  | some u => exact (show False from r).elim
theorem handed_of {v : V} {u : Value} (r : RelV v u) : PySem.W.handedIn u = true := by
  cases v with
  | non => cases (show u = Value.none from r); rfl
  | bl b => cases (show u = Value.bool b from r); rfl
  | int i => obtain ⟨t, e⟩ := (show ∃ t, u = Value.int i t from r); cases e; rfl
  | str x => obtain ⟨t, e⟩ := (show ∃ t, u = Value.str x t from r); cases e; rfl
  | byt b => obtain ⟨t, e⟩ := (show ∃ t, u = Value.bytes b t from r); cases e; rfl
  | flt b => obtain ⟨t, e⟩ := (show ∃ t, u = Value.float b t from r); cases e; rfl
  | ref a => cases (show u = Value.ref a from r); rfl
  | ty n => cases (show u = Value.type n from r); rfl

section
variable {P : Program} {w : World} {H H' : Hp} {h h' : Heap} {a C dx : Addr} {fs fs' : List (Str × V)}
theorem ins_get (hok : HOk P w H h) (e : H a = some (.ins C dx fs)) : ∃ mA, ObjM h a dx C mA ∧ (∀ f, RelO (fs.lookup f) (mA f)) ∧ PySem.Within mA (fs.map (·.1)) ∧ fs.length ≤ 1000 ∧ H dx = some (.own a) := by
  obtain ⟨d, z, ne, ob, mA, n, r, q⟩ := (show ObjOk P w H h a (.ins C dx fs) from hok a _ e)
  exact ⟨mA, ⟨ob, n, ne⟩, r, q, z, d⟩
end

/-! ### what of the text a class must have -/
structure Cls (K : PySem.W.Frag) (C : Addr) : Prop where
  pg : PySem.W.plainGet K C Str.empty = true
  hd : PySem.W.hasDictIn K C = true
  po : PySem.W.plainOver K C = true
  sa : PySem.W.findIn K (.ref C) "__setattr__" = some (some (.builtin "object.__setattr__"))
theorem Cls.get {K : PySem.W.Frag} {C : Addr} (c : Cls K C) (f : Str) : PySem.W.plainGet K C f = true := c.pg
/-- no class of it has the name -/
def NoAttr (K : PySem.W.Frag) (C : Addr) (f : Str) : Prop := PySem.W.findIn K (.ref C) f = some none
theorem NoAttr.taker {K : PySem.W.Frag} {C : Addr} {f : Str} (n : NoAttr K C f) : PySem.W.takerIn K C f = some none := by
  unfold PySem.W.takerIn
  rw [show PySem.W.findIn K (.ref C) f = some none from n]
  rfl
/-- a constant of the class -/
structure Con (K : PySem.W.Frag) (C : Addr) (f : Str) (v : V) (u : Value) : Prop where
  at_ : PySem.W.findIn K (.ref C) f = some (some u)
  rel : RelV v u
  get : PySem.W.specialIn K u "__get__" = some none
  cp : PySem.W.copiedNames.contains f = false
/-- a method: a plain def of the class or of one above it -/
structure Meth (K : PySem.W.Frag) (C : Addr) (m : Str) (f : Addr) : Prop where
  at_ : PySem.W.findIn K (.ref C) m = some (some (.ref f))
  fn : PySem.W.isFn K (.ref f) = true
  kp : PySem.W.keepIn K (.ref f) = true

section
variable {X : Cx} {pins : List (Addr × Obj)} {σ : St} {H : Hp} {s : Shared} {a C dx : Addr} {fs : List (Str × V)} {f : Str} {v : V} {A : Around} {E : Value → Shared → Prop}

theorem getattr_ok {b : Bool} {Q : Value → Shared → Prop} (I : Inv X pins σ H s) (e : H a = some (.ins C dx fs)) (c : Cls X.K C) (n : NoAttr X.K C f) (l : fs.lookup f = some v)
    (h : ∀ u s', Inv X pins σ H s' → RelV v u → Q u s') : wpAny (model X.prog X.w) A (getAttr (.ref a) f b) Q E s := by
  obtain ⟨mA, O, r, _, _, _⟩ := ins_get I.hok e
  obtain ⟨u, hu, ru⟩ := RelO.some_of (v := v) (o := mA f) (by rw [← l]; exact r f)
  exact get_map I.kIn O (c.get f) c.hd n hu (handed_of ru) (h u _ (I.tok _) ru)

theorem setattr_ok {y : V} {u : Value} {Q : Unit → Shared → Prop} (I : Inv X pins σ H s) (e : H a = some (.ins C dx fs)) (c : Cls X.K C) (n : NoAttr X.K C f) (hl : fs.length < 1000) (ry : RelV y u)
    (h : ∀ s', Inv X pins σ (upd H a (.ins C dx (putF f y fs))) s' → Q () s') : wpAny (model X.prog X.w) A (setAttr (.ref a) f u) Q E s := by
  obtain ⟨mA, O, r, wi, _, ho⟩ := ins_get I.hok e
  have hz : (fs.map (·.1)).length ≤ sizeLine := by rw [List.length_map, sizeLine_eq]; omega
  refine set_map I.kIn O c.sa c.po n.taker c.hd wi hz fun h' O' sb => h _ ?_
  have hd : ∃ o, h'.get? dx = some o := let ⟨o, _, _, e', _⟩ := O'.ns; ⟨o, e'⟩
  refine I.write (x := a) (e := dx) (by rw [e]; exact True.intro) (.inr ho) (fun b q hb z => (sb.2 b hb).trans z) hd ?_
  refine ⟨by rw [upd_ne O.ne]; exact ho, ?_, O.ne, O'.obj, _, O'.ns, fun g => ?_, fun g hg => ?_⟩
  · have := length_putF f y fs; omega
  · show RelO ((putF f y fs).lookup g) (if g = f then some u else mA g)
    rw [lookup_putF]
    by_cases q : g = f
    · rw [if_pos q, if_pos q]; exact ry
    · rw [if_neg q, if_neg q]; exact r g
  · by_cases q : g = f
    · rw [q]; exact (keys_putF f y fs).1
    · refine (keys_putF f y fs).2 g (wi g fun z => hg ?_)
      show (if g = f then some u else mA g) = none
      rw [if_neg q]; exact z

/-- a new instance, tracked, without attributes -/
theorem Inv.made (I : Inv X pins σ H s) : Inv X pins σ (upd (upd H s.heap.objs.size (.own (s.heap.objs.size + 1))) (s.heap.objs.size + 1) (.ins C s.heap.objs.size []))
    { s with heap := (s.heap.push PySem.W.emptyDict).push (PySem.W.instObj C s.heap.objs.size) } := by
  have e1 : (s.heap.push PySem.W.emptyDict).get? s.heap.objs.size = some PySem.W.emptyDict := Heap.get?_push_size s.heap rfl
  have e2 : ((s.heap.push PySem.W.emptyDict).push (PySem.W.instObj C s.heap.objs.size)).get? (s.heap.objs.size + 1) = some (PySem.W.instObj C s.heap.objs.size) := by
    have := Heap.get?_push_size (s.heap.push PySem.W.emptyDict) (o := PySem.W.instObj C s.heap.objs.size) rfl
    rwa [Heap.size_push] at this
  have e3 : (s.heap.push PySem.W.emptyDict).Ns s.heap.objs.size (fun _ => none) := ⟨PySem.W.emptyDict, #[], _, e1, rfl, (fun e he => absurd he (by simp)), fun _ => rfl⟩
  have I1 := I.laid (a := s.heap.objs.size) (o := .own (s.heap.objs.size + 1)) (h' := s.heap.push PySem.W.emptyDict) (t' := s.toks) (fun b u q => Heap.get?_push_of_some _ q) (Nat.le_refl _) ⟨_, e1⟩
  refine I1.laid (a := s.heap.objs.size + 1) (o := .ins C s.heap.objs.size []) (t' := s.toks) (fun b u q => Heap.get?_push_of_some _ q) (Nat.le_of_eq (Heap.size_push _ _)) ?_
  have ne : s.heap.objs.size ≠ s.heap.objs.size + 1 := Nat.ne_of_lt (Nat.lt_succ_self _)
  refine ⟨by rw [upd_ne ne, upd_same], Nat.zero_le _, ne, e2, fun _ => none, (Heap.Ns1.of_empty e3).at fun o q => Heap.get?_push_of_some _ q, fun _ => True.intro, fun y hy => absurd rfl hy⟩

/-- e.f where nothing but the object is asked: through attributeBase (super) and the last hold -/
theorem attr_of {prog : Program} {w : World} {env : Env} {e : Expr} {f : Str} {pos : Pos} {s : Shared} {Q : Value → Shared → Prop} (hb : attributeBase e f env (eval e env) = eval e env)
    (h : wpAny (model prog w) A (eval e env) (fun o s₁ => wpAny (model prog w) A (getAttr o f true) Q E s₁) E s) : wpAny (model prog w) A (eval (.Attribute e f pos) env) Q E s :=
  Attribute_any_ h (by rw [arm_eval_Attribute, hb])
end

/-! ### readings and rules -/
/-- e.f, an attribute of the instance -/
def tFld (K : PySem.W.Frag) (ta : TE) (f : Str) : TE := fun σ H Q => ta σ H fun x H1 => ∃ a C dx fs v, x = .ref a ∧ H1 a = some (.ins C dx fs) ∧ Cls K C ∧ NoAttr K C f ∧ fs.lookup f = some v ∧ Q v H1
/-- e.f, a constant of the class -/
def tCon (K : PySem.W.Frag) (ta : TE) (f : Str) : TE := fun σ H Q => ta σ H fun x H1 => ∃ a C dx fs v u, x = .ref a ∧ H1 a = some (.ins C dx fs) ∧ Cls K C ∧ Con K C f v u ∧ fs.lookup f = none ∧ Q v H1
/-- e.f = value -/
def sFld (K : PySem.W.Frag) (ta tv : TE) (f : Str) : TS := fun D σ H => tv σ H fun y H1 => ta σ H1 fun x H2 => ∃ a C dx fs, x = .ref a ∧ H2 a = some (.ins C dx fs) ∧ Cls K C ∧ NoAttr K C f ∧ fs.length < 1000 ∧
  D.nx σ (upd H2 a (.ins C dx (putF f y fs)))
/-- an augmented operator on two values -/
def InOp (X : Cx) (op : Operator) (rd : V → V → Hp → VK → Prop) : Prop :=
  ∀ (pins : List (Addr × Obj)) (s : Shared) (σ : St) (H : Hp) (x y : V) (u v : Value) (Q : VK), Inv X pins σ H s → RelV x u → RelV y v → rd x y H Q → wpAny (model X.prog X.w) X.A (inplaceOp op u v) (EP X pins σ Q) X.xe s
/-- e.f op= value -/
def sFldAug (K : PySem.W.Frag) (ta tv : TE) (rd : V → V → Hp → VK → Prop) (f : Str) : TS := fun D σ H => ta σ H fun x H1 => ∃ a C dx fs v, x = .ref a ∧ H1 a = some (.ins C dx fs) ∧ Cls K C ∧ NoAttr K C f ∧ fs.lookup f = some v ∧
  tv σ H1 fun y H2 => rd v y H2 fun z H3 => ∃ dx' fs', H3 a = some (.ins C dx' fs') ∧ fs'.length < 1000 ∧ D.nx σ (upd H3 a (.ins C dx' (putF f z fs')))

section
variable {X : Cx} {o e value : Expr} {f : Str} {pos pos' tpos : Pos} {ta tv : TE}
theorem pe_fld (he : PE X e ta) (hb : attributeBase e f X.env (eval e X.env) = eval e X.env) : PE X (.Attribute e f pos) (tFld X.K ta f) := by
  intro pins s σ H Q I h
  refine attr_of hb (thn (he pins s σ H _ I h) fun u s1 ⟨x, H1, I1, rx, a, C, dx, fs, v, ex, ea, c, n, l, q⟩ => ?_)
  subst ex
  obtain rfl : u = Value.ref a := rx
  exact getattr_ok I1 ea c n l fun u' s2 I2 ru => ⟨v, H1, I2, ru, q⟩
theorem ps_fld (ha : PE X o ta) (hv : PE X value tv) (hs : swapsWith value (some (.Attribute o f pos')) pos.line X.env = pure false) : PS X (.Assign [.Attribute o f pos'] value pos) (sFld X.K ta tv f) := by
  intro pins s σ H D I h
  refine plainObj_wpAny_Assign_Attribute (thn (hv pins s σ H _ I h) fun u s1 ⟨y, H1, I1, ry, q⟩ => thn (ha pins s1 σ H1 _ I1 q) fun ov s2 ⟨x, H2, I2, rx, a, C, dx, fs, ex, ea, c, n, l, q2⟩ => ?_) hs
  subst ex
  obtain rfl : ov = Value.ref a := rx
  exact setattr_ok I2 ea c n l ry fun s3 I3 => ⟨σ, _, I3, q2⟩
def rAdd : V → V → Hp → VK → Prop := fun x y H Q => ∃ i j, x = .int i ∧ y = .int j ∧ Q (.int (i + j)) H
def rSub : V → V → Hp → VK → Prop := fun x y H Q => ∃ i j, x = .int i ∧ y = .int j ∧ Q (.int (i - j)) H
end

/-! ### isinstance -/
section
variable {X : Cx} {pins : List (Addr × Obj)} {σ : St} {H : Hp} {s : Shared} {A : Around} {E : Value → Shared → Prop} {Q : Value → Shared → Prop} {c : Value} {b : Bool}
/-- the type of a value, as the fragment's deciders take it; for an instance its class -/
inductive TyOf (K : PySem.W.Frag) (H : Hp) : V → Value → Prop where
  | non : TyOf K H .non (.type "NoneType")
  | bl (x : Bool) : TyOf K H (.bl x) (.type "bool")
  | int (i : Int) : TyOf K H (.int i) (.type "int")
  | str (x : Str) : TyOf K H (.str x) (.type "str")
  | flt (x : UInt64) : TyOf K H (.flt x) (.type "float")
  | lst {a : Addr} {xs : List V} (e : H a = some (.lst xs)) : TyOf K H (.ref a) (.type "list")
  | frz {a : Addr} {o : Obj} {xs : List V} (e : H a = some (.frz o (.lst xs))) : TyOf K H (.ref a) (.type "list")
  | tup {a : Addr} {xs : List V} (e : H a = some (.tup xs)) : TyOf K H (.ref a) (.type "tuple")
  | dK {a : Addr} {kvs : List (Key × V)} (e : H a = some (.dK kvs)) : TyOf K H (.ref a) (.type "dict")
  | dT {a : Addr} {kvs : List (List Key × V)} (e : H a = some (.dT kvs)) : TyOf K H (.ref a) (.type "dict")
  | ins {a C dx : Addr} {fs : List (Str × V)} (e : H a = some (.ins C dx fs)) (cl : Cls K C) (ha : PySem.W.findIn K (.ref C) "__class__" = some (some (.builtin "object.__class__")))
      (hn : PySem.W.specialIn K (.builtin "object.__class__") "__get__" = some (some (.builtin "getset_descriptor.__get__"))) (htk : PySem.W.takesIn K (.builtin "object.__class__") = some true)
      (hm : PySem.W.mroIn K C (.type "object") = some true) : TyOf K H (.ref a) (.ref C)
/-- isinstance(x, c) for one class c, a built-in or an own one: kitOne's answer -/
theorem isinst_ok {x : V} {u t : Value} (I : Inv X pins σ H s) (rx : RelV x u) (ty : TyOf X.K H x t) (e : PySem.W.kitOne X.K t c = some b) (h : ∀ tk, Q (.bool b) { s with toks := tk }) :
    wpAny (model X.prog X.w) A (call (.builtin "isinstance") [u, c]) Q E s := by
  cases ty with
  | non => cases (show u = Value.none from rx); exact PySem.W.kia_one PySem.W.kitx_none I.kIn True.intro e (fun z => nomatch z) h
  | bl y => cases (show u = Value.bool y from rx); exact PySem.W.kia_one PySem.W.kitx_bool I.kIn True.intro e (fun z => nomatch z) h
  | int i => obtain ⟨t, q⟩ := (show ∃ t, u = Value.int i t from rx); cases q; exact PySem.W.kia_one PySem.W.kitx_int I.kIn True.intro e (fun z => nomatch z) h
  | str y => obtain ⟨t, q⟩ := (show ∃ t, u = Value.str y t from rx); cases q; exact PySem.W.kia_one PySem.W.kitx_str I.kIn True.intro e (fun z => nomatch z) h
  | flt y => obtain ⟨t, q⟩ := (show ∃ t, u = Value.float y t from rx); cases q; exact PySem.W.kia_one PySem.W.kitx_float I.kIn True.intro e (fun z => nomatch z) h
  | @lst a xs ea =>
    cases (show u = Value.ref a from rx)
    obtain ⟨_, _, n, _, h1⟩ := (show ObjOk X.prog X.w H s.heap a (.lst xs) from I.hok a _ ea)
    exact PySem.W.kia_one PySem.W.kitx_list I.kIn ⟨_, h1, rfl⟩ e (fun z => nomatch z) h
  | @frz a ob xs ea =>
    cases (show u = Value.ref a from rx)
    obtain ⟨_, _, _, n, _, h1⟩ := (show ObjOk X.prog X.w H s.heap a (.frz ob (.lst xs)) from I.hok a _ ea)
    exact PySem.W.kia_one PySem.W.kitx_list I.kIn ⟨_, h1, rfl⟩ e (fun z => nomatch z) h
  | @tup a xs ea =>
    cases (show u = Value.ref a from rx)
    obtain ⟨_, _, _, p⟩ := (show ObjOk X.prog X.w H s.heap a (.tup xs) from I.hok a _ ea)
    obtain ⟨o, h1, h2, _⟩ := p
    exact PySem.W.kia_one PySem.W.kitx_tuple I.kIn ⟨o, h1, h2⟩ e (fun z => nomatch z) h
  | @dK a kvs ea =>
    cases (show u = Value.ref a from rx)
    obtain ⟨_, _, vs, _, p⟩ := (show ObjOk X.prog X.w H s.heap a (.dK kvs) from I.hok a _ ea)
    obtain ⟨o, es, ep, h1, h2, _⟩ := p
    exact PySem.W.kia_one PySem.W.kitx_dict I.kIn ⟨o, h1, h2.1⟩ e (fun z => nomatch z) h
  | @dT a kvs ea =>
    cases (show u = Value.ref a from rx)
    obtain ⟨_, _, xs, _, o, es, ep, h1, h2, _⟩ := (show ObjOk X.prog X.w H s.heap a (.dT kvs) from I.hok a _ ea)
    exact PySem.W.kia_one PySem.W.kitx_dict I.kIn ⟨o, h1, h2.1⟩ e (fun z => nomatch z) h
  | @ins a C dx fs ea cl ha hn htk hm =>
    cases (show u = Value.ref a from rx)
    obtain ⟨mA, O, _⟩ := ins_get I.hok ea
    obtain ⟨od, J, _⟩ := O.look
    exact PySem.W.kia_one (PySem.W.kitx_own (cl.get _) cl.hd ha hn htk hm) I.kIn J e (fun z => nomatch z) h
end
end L2

namespace L2
open PySem PySem.Spec PyProof.Rows

/-! ### room -/
structure Room (k : Nat) (A : Around) : Prop where
  hd : A.handled = none
  dp : A.depth + 3 * k + 5 < recursionLimit
  un : A.units + 16 * k + 200 < cLine
theorem Room.mono {j k : Nat} {A : Around} (r : Room k A) (h : j ≤ k) : Room j A := ⟨r.hd, by have := r.dp; omega, by have := r.un; omega⟩
theorem Room.deeper {k : Nat} {A : Around} (r : Room (k + 1) A) (env : Env) : Room k (A.deeper env) :=
  ⟨r.hd, by have := r.dp; show A.depth + 1 + 3 * k + 5 < _; omega, by have := r.un; show A.units + 3 + 16 * k + 200 < _; omega⟩
theorem make_depth {A : Around} {C : Addr} {us : List Value} {kw : List (Str × Value)} : (A.under (.builtin "type.__call__" ⟨.ref C :: us, kw⟩)).depth = A.depth + 1 := by
  first | rfl | simp [Around.under, Code.weight, Code.isCreation, Code.isGuard, Code.isCaller, Code.frames, Code.isFrame, guardIds]
theorem make_units {A : Around} {C : Addr} {us : List Value} {kw : List (Str × Value)} : (A.under (.builtin "type.__call__" ⟨.ref C :: us, kw⟩)).units = A.units + 1 := by
  first | rfl | simp [Around.under, Code.cUnits, Code.frames, Code.isFrame]
theorem Room.make {k : Nat} {A : Around} (r : Room (k + 1) A) (C : Addr) (us : List Value) (kw : List (Str × Value)) : Room k (A.under (.builtin "type.__call__" ⟨.ref C :: us, kw⟩)) :=
  ⟨r.hd, by have := r.dp; rw [make_depth]; omega, by have := r.un; rw [make_units]; omega⟩
theorem Room.depth {k : Nat} {A : Around} (r : Room k A) : A.depth < recursionLimit := by have := r.dp; omega
theorem Room.units {k : Nat} {A : Around} (r : Room k A) : A.units + 64 < cLine := by have := r.un; omega
theorem Room.units0 {k : Nat} {A : Around} (r : Room k A) : A.units < cLine := by have := r.un; omega

/-! ### argument lists and displays -/
def tNil : TA := fun _ H Q => Q [] H
def tCons (ta : TE) (tr : TA) : TA := fun σ H Q => ta σ H fun x H1 => tr σ H1 fun xs H2 => Q (x :: xs) H2
section
variable {X : Cx} {e : Expr} {es : List Expr} {te : TE} {t : TA} {pos : Pos}
theorem pa_nil : PA X [] tNil := fun _ _ _ _ H Q I h => Calls.spliced_nil ⟨[], H, I, .nil, h⟩
theorem pa_cons (ha : PE X e te) (hr : PA X es t) (hs : starEach (e :: es) X.env = (false, eval e X.env) :: starEach es X.env := by rfl) : PA X (e :: es) (tCons te t) := by
  intro pos pins s σ H Q I h
  rw [hs]
  show wpAny _ _ (spliced ((false, eval e X.env) :: backTo pos (starEach es X.env))) _ _ s
  refine Calls.spliced_cons (thn (ha pins s σ H _ I h) fun u s1 ⟨x, H1, I1, r1, q1⟩ => ?_)
  exact thn (hr pos pins s1 σ H1 _ I1 q1) fun us s2 ⟨xs, H2, I2, r2, q2⟩ => ⟨x :: xs, H2, I2, .cons r1 r2, q2⟩

/-- a tuple, a list of written items -/
def tTup (t : TA) : TE := fun σ H Q => t σ H fun xs H1 => xs.length ≤ sizeLine ∧ ∀ p, H1 p = none → Q (.ref p) (upd H1 p (.tup xs))
def tLst (t : TA) : TE := fun σ H Q => t σ H fun xs H1 => xs.length ≤ sizeLine ∧ ∀ p, H1 p = none → Q (.ref p) (upd H1 p (.lst xs))
theorem pe_tup {x1} (h : PA X es t) : PE X (.Tuple es x1 pos) (tTup t) := by
  intro pins s σ H Q I hq
  refine wpAny_Tuple_spliced (thn (h pos pins s σ H _ I hq) fun us s1 ⟨xs, H1, I1, r, z, q⟩ => ⟨by rw [← r.length]; exact z, ?_⟩)
  have hf : H1 s1.heap.objs.size = none := I1.hok.fresh (Nat.le_refl _)
  refine ⟨.ref s1.heap.objs.size, upd H1 s1.heap.objs.size (.tup xs), I1.laid (t' := s1.toks) (fun b u e => Heap.get?_push_of_some _ e) (Nat.le_refl _) ?_, rfl, q _ hf⟩
  exact ⟨z, us, r, ⟨_, Heap.get?_push_size _ rfl, rfl, _, rfl⟩⟩
theorem pe_lst (h : PA X es t) : PE X (.List es pos) (tLst t) := by
  intro pins s σ H Q I hq
  refine wpAny_List_spliced (thn (h pos pins s σ H _ I hq) fun us s1 ⟨xs, H1, I1, r, z, q⟩ => ⟨by rw [← r.length]; exact z, ?_⟩)
  have hf : H1 s1.heap.objs.size = none := I1.hok.fresh (Nat.le_refl _)
  refine ⟨.ref s1.heap.objs.size, upd H1 s1.heap.objs.size (.lst xs), I1.laid (t' := s1.toks) (fun b u e => Heap.get?_push_of_some _ e) (Nat.le_refl _) ?_, rfl, q _ hf⟩
  exact ⟨z, us, 0, r, Heap.get?_push_size _ rfl⟩
end

/-! ### what a def promises -/
/-- a def's promise: the bound arguments in the parameters' order, the heap, the wanted end, the wanted exception -/
abbrev Sp := List V → Hp → VK → XK → Prop
/-- how an exception lies behind a call (file 08 gives it): the callers' frames, abstract heap and state ahead of the call, the wish, the exception, the state -/
abbrev CXT := List Env → Hp → Shared → XK → Value → Shared → Prop

/-- the state at a call -/
structure Env0 (P : Program) (w : World) (K : PySem.W.Frag) (mg : Str → Option Value) (base : Heap) (A : Around) (outer : List Env) (s : Shared) (H : Hp) : Prop where
  frames : A.frames = some outer
  mod : Mod K mg base
  bs : ∀ b o, base.get? b = some o → s.heap.get? b = some o ∧ H b = none
  bsz : base.objs.size ≤ s.heap.objs.size
  funs : s.heap.FunFrames base outer
  frf : ∀ b ∈ frs outer, H b = none
  hok : HOk P w H s.heap
  bare : AllBare s.gens
/-- a call's end -/
def CE (outer : List Env) (P : Program) (w : World) (H : Hp) (s : Shared) (Q : VK) (u : Value) (s' : Shared) : Prop :=
  ∃ v H', s'.os = s.os ∧ AllBare s'.gens ∧ Un (frs outer) [] H H' s.heap s'.heap ∧ HOk P w H' s'.heap ∧ RelV v u ∧ Q v H'
def CR (CX : CXT) (outer : List Env) (P : Program) (w : World) (H : Hp) (s : Shared) (Q : VK) (E : XK) (r : Result) (s' : Shared) : Prop :=
  match r with
  | .ok (.ret u) => CE outer P w H s Q u s'
  | .ok _ => False
  | .error e => CX outer H s E e s'
structure FnOk (P : Program) (w : World) (K : PySem.W.Frag) (mg : Str → Option Value) (base : Heap) (CX : CXT) (k : Nat) (f : Addr) (fd : FuncData) (ps : List Str) (sp : Sp) : Prop where
  len : ∀ vs H Q E, sp vs H Q E → vs.length = ps.length
  run : ∀ (A : Around) (outer : List Env) (s : Shared) (H : Hp) (args : Args) (us : List Value) (vs : List V) (Q : VK) (E : XK), Room k A → Env0 P w K mg base A outer s H → BindsTo s fd args (ps.zip us) → Vals vs us → sp vs H Q E →
    codeAny (model P w) A (.call (.ref f) args) (CR CX outer P w H s Q E) s
theorem FnOk.mono {P : Program} {w : World} {K : PySem.W.Frag} {mg : Str → Option Value} {base : Heap} {CX : CXT} {j k : Nat} {f : Addr} {fd : FuncData} {ps : List Str} {sp : Sp} (F : FnOk P w K mg base CX j f fd ps sp) (h : j ≤ k) :
    FnOk P w K mg base CX k f fd ps sp := ⟨F.len, fun A outer s H args us vs Q E hr => F.run A outer s H args us vs Q E (hr.mono h)⟩
theorem Env0.make {P : Program} {w : World} {K : PySem.W.Frag} {mg : Str → Option Value} {base : Heap} {A : Around} {outer : List Env} {s : Shared} {H : Hp} (e : Env0 P w K mg base A outer s H) (C : Addr) (us : List Value) (kw : List (Str × Value)) :
    Env0 P w K mg base (A.under (.builtin "type.__call__" ⟨.ref C :: us, kw⟩)) outer s H := ⟨by first | exact e.frames | (simpa [Around.under, Code.envs, Code.isFrame, pushEnvs] using e.frames), e.mod, e.bs, e.bsz, e.funs, e.frf, e.hok, e.bare⟩
section
variable {X : Cx} {pins : List (Addr × Obj)} {σ : St} {H : Hp} {s s' : Shared}
/-- from a body: what a callee wants -/
theorem Inv.env0 (I : Inv X pins σ H s) : Env0 X.prog X.w X.K X.mg X.base X.A X.stack s H :=
  ⟨I.ok.frames, I.ok.mod, I.bs, Nat.le_trans I.ok.bsz I.sz, I.stack, I.stkFree, I.hok, I.bare⟩
/-- behind a call -/
theorem Inv.after {Q : VK} {u : Value} (I : Inv X pins σ H s) (h : CE X.stack X.prog X.w H s Q u s') : EP X pins σ Q u s' := by
  obtain ⟨v, H', os, bare, un, hok, r, q⟩ := h
  obtain ⟨hh, g, d, t, os'⟩ := s'
  obtain rfl : os' = s.os := os
  exact ⟨v, H', I.call (h' := hh) (g' := g) (d' := d) (t' := t) (ch := []) un hok bare (fun b z => absurd z (by simp)), r, q⟩
end

/-! ### calls -/
/-- f(..): the written arguments, then the defaults dvs; E: what is wanted of an exception -/
def tCall (sp : Sp) (dvs : List V) (E : XK) (t : TA) : TE := fun σ H Q => t σ H fun vs H1 => sp (vs ++ dvs) H1 Q E
/-- o.m(..) of an instance of the class at C -/
def tMeth (C : Addr) (m : Str) (sp : Sp) (dvs : List V) (E : XK) (ta : TE) (t : TA) : TE := fun σ H Q => ta σ H fun x H1 => ∃ a dx fs, x = .ref a ∧ H1 a = some (.ins C dx fs) ∧ fs.lookup m = none ∧
  t σ H1 fun vs H2 => sp (x :: (vs ++ dvs)) H2 Q E
/-- C(..): a new instance and its dict, then __init__ -/
def tMake (C : Addr) (sp : Sp) (dvs : List V) (E : XK) (t : TA) : TE := fun σ H Q => t σ H fun vs H1 => ∀ x dx, H1 x = none → H1 dx = none → dx ≠ x →
  sp (.ref x :: (vs ++ dvs)) (upd (upd H1 dx (.own x)) x (.ins C dx [])) (fun v H2 => v = .non ∧ Q (.ref x) H2) E

/-- how the parameters are bound: us the positional arguments, kw the keywords' values by name, ds the defaults that fill up -/
def Binds (K : PySem.W.Frag) (fd : FuncData) (ps : List Str) (ds : List Value) : Prop :=
  ∀ (s : Shared) (us : List Value), K.In s.heap → (us ++ ds).length = ps.length → BindsTo s fd ⟨us, []⟩ (ps.zip (us ++ ds))
/-- every parameter is given -/
theorem Binds.all {K : PySem.W.Frag} {fd : FuncData} {ps : List Str} (h : ∀ us : List Value, us.length = ps.length → bindArgs fd ⟨us, []⟩ = pure (ps.zip us)) : Binds K fd ps [] := fun s us _ hl => by
  rw [List.append_nil] at hl ⊢
  exact .of_eq (h us hl)

/-- an exception of a callee reaches what this body wants of exceptions -/
def Passes (CX : CXT) (X : Cx) (E : XK) : Prop := ∀ (pins : List (Addr × Obj)) (σ : St) (H : Hp) (s : Shared) (e : Value) (s' : Shared), Inv X pins σ H s → CX X.stack H s E e s' → X.xe e s'

section
variable {X : Cx} {CX : CXT} {k : Nat} {f C : Addr} {fd : FuncData} {ps : List Str} {sp : Sp} {dvs : List V} {ds : List Value} {E : XK} {x m : Str} {p pos apos : Pos} {e o : Expr} {es : List Expr} {ta : TE} {t : TA}

/-- the callee runs -/
theorem run_fn {pins : List (Addr × Obj)} {σ : St} {H : Hp} {s : Shared} {Q : VK} {us : List Value} {vs : List V} (F : FnOk X.prog X.w X.K X.mg X.base CX k f fd ps sp) (hr : Room k X.A) (hb : Binds X.K fd ps ds) (hd : Vals dvs ds) (hx : Passes CX X E)
    (I : Inv X pins σ H s) (r : Vals vs us) (h : sp (vs ++ dvs) H Q E) : wpAny (model X.prog X.w) X.A (call (.ref f) us) (EP X pins σ Q) X.xe s := by
  have r2 : Vals (vs ++ dvs) (us ++ ds) := r.append hd
  have hl : (us ++ ds).length = ps.length := by rw [← r2.length]; exact F.len _ _ _ _ h
  refine wpAny_call (codeAny_mono (F.run X.A X.stack s H ⟨us, []⟩ (us ++ ds) (vs ++ dvs) Q E hr I.env0 (hb s us I.kIn hl) r2 h) fun r s' hq => ?_)
  cases r with
  | error e => exact hx pins σ H s e s' I hq
  | ok fl =>
    cases fl with
    | ret u => exact I.after hq
    | next => exact False.elim hq
    | brk => exact False.elim hq
    | cont => exact False.elim hq

theorem pe_call (F : FnOk X.prog X.w X.K X.mg X.base CX k f fd ps sp) (hr : Room k X.A) (hg : Gl X x) (hm : X.mg x = some (.ref f)) (hk : PySem.W.keepIn X.K (.ref f) = true) (hb : Binds X.K fd ps ds) (hd : Vals dvs ds) (hx : Passes CX X E)
    (ha : PA X (e :: es) t) (hdb : (x == ("__debug__" : Str)) = false := by decide) (he : starEach (e :: es) X.env = (false, eval e X.env) :: starEach es X.env := by rfl) (hpl : (backTo pos (starEach es X.env)).any (·.1) = false := by rfl) :
    PE X (.Call (.Name x p) (e :: es) [] pos) (tCall sp dvs E t) := by
  intro pins s σ H Q I h
  refine wpAny_Call_Name_kw (ld_glob I hg hm ?_ hdb)
  refine PySem.W.callWith_K (h₀ := X.base) I.ok.mod.kin hk (thn (ha pos pins s σ H _ I h) fun us s1 ⟨vs, H1, I1, r, q⟩ => ⟨I1.kIn, ?_⟩) he hpl
  exact run_fn F hr hb hd hx I1 r q
/-- what a class must have to be made -/
structure Mk (K : PySem.W.Frag) (C f : Addr) : Prop where
  makes : PySem.W.makesIn K C = true
  init : PySem.W.findIn K (.ref C) "__init__" = some (some (.ref f))
  fn : PySem.W.isFn K (.ref f) = true
  kp : PySem.W.keepIn K (.ref C) = true

theorem run_make {pins : List (Addr × Obj)} {σ : St} {H : Hp} {s : Shared} {Q : VK} {us : List Value} {vs : List V} (M : Mk X.K C f) (F : FnOk X.prog X.w X.K X.mg X.base CX k f fd ps sp) (hr : Room (k + 1) X.A) (hb : Binds X.K fd ps ds) (hd : Vals dvs ds)
    (hx : Passes CX X E) (I : Inv X pins σ H s) (r : Vals vs us)
    (h : ∀ x dx, H x = none → H dx = none → dx ≠ x → sp (.ref x :: (vs ++ dvs)) (upd (upd H dx (.own x)) x (.ins C dx [])) (fun v H2 => v = .non ∧ Q (.ref x) H2) E) :
    wpAny (model X.prog X.w) X.A (call (.ref C) us) (EP X pins σ Q) X.xe s := by
  have hq := h (s.heap.objs.size + 1) s.heap.objs.size (I.hok.fresh (Nat.le_succ _)) (I.hok.fresh (Nat.le_refl _)) (Nat.ne_of_lt (Nat.lt_succ_self _))
  have I2 := Inv.made (C := C) I
  have r2 : Vals (V.ref (s.heap.objs.size + 1) :: (vs ++ dvs)) (Value.ref (s.heap.objs.size + 1) :: (us ++ ds)) := .cons rfl (r.append hd)
  have hl : (Value.ref (s.heap.objs.size + 1) :: us ++ ds).length = ps.length := by
    have e := r2.length
    rw [F.len _ _ _ _ hq] at e
    exact e.symm
  refine wpAny_call (make_map (f := f) I.kIn M.makes M.init (beq_iff_eq.mp M.fn) (codeAny_mono (F.run _ X.stack _ _ ⟨Value.ref (s.heap.objs.size + 1) :: us, []⟩ (Value.ref (s.heap.objs.size + 1) :: (us ++ ds)) _ _ E (hr.make C us [])
    (I2.env0.make C us []) (hb _ (Value.ref (s.heap.objs.size + 1) :: us) I2.kIn hl) r2 hq) fun r s' hq' => ?_))
  cases r with
  | error e => exact hx pins σ _ _ e s' I2 hq'
  | ok fl =>
    cases fl with
    | ret u =>
      obtain ⟨v, H', I3, rv, ev, q3⟩ := I2.after hq'
      subst ev
      exact ⟨rv, ⟨V.ref (s.heap.objs.size + 1), H', I3, rfl, q3⟩⟩
    | next => exact False.elim hq'
    | brk => exact False.elim hq'
    | cont => exact False.elim hq'
theorem pe_make (M : Mk X.K C f) (F : FnOk X.prog X.w X.K X.mg X.base CX k f fd ps sp) (hr : Room (k + 1) X.A) (hg : Gl X x) (hm : X.mg x = some (.ref C)) (hb : Binds X.K fd ps ds) (hd : Vals dvs ds) (hx : Passes CX X E)
    (ha : PA X (e :: es) t) (hdb : (x == ("__debug__" : Str)) = false := by decide) (he : starEach (e :: es) X.env = (false, eval e X.env) :: starEach es X.env := by rfl) (hpl : (backTo pos (starEach es X.env)).any (·.1) = false := by rfl) :
    PE X (.Call (.Name x p) (e :: es) [] pos) (tMake C sp dvs E t) := by
  intro pins s σ H Q I h
  refine wpAny_Call_Name_kw (ld_glob I hg hm ?_ hdb)
  refine PySem.W.callWith_K (h₀ := X.base) I.ok.mod.kin M.kp (thn (ha pos pins s σ H _ I h) fun us s1 ⟨vs, H1, I1, r, q⟩ => ⟨I1.kIn, ?_⟩) he hpl
  exact run_make M F hr hb hd hx I1 r q
end

/-! ### keywords -/
/-- the values of the keywords, from the left -/
def PK (X : Cx) (kws : List Keyword) (t : TA) : Prop :=
  ∀ (pos : Pos) (pins : List (Addr × Obj)) (s : Shared) (σ : St) (H : Hp) (Q : List V → Hp → Prop), Inv X pins σ H s → t σ H Q → wpAny (model X.prog X.w) X.A (evalAll ((backToKw pos (keywordEach kws X.env)).map (·.2))) (AP X pins σ Q) X.xe s
section
variable {X : Cx} {CX : CXT} {k : Nat} {f C : Addr} {fd : FuncData} {ps ks : List Str} {sp : Sp} {E : XK} {x m : Str} {p pos apos kpos : Pos} {e o : Expr} {es : List Expr} {kws : List Keyword} {te ta : TE} {t tk : TA} {nm : Option Str}
/-- how a call with keywords binds: g puts the positional values us and the keywords' values ws (names ks) in the parameters' order, defaults among them -/
structure KBinds (K : PySem.W.Frag) (fd : FuncData) (ps ks : List Str) (g : List Value → List Value → List Value) (gV : List V → List V → List V) : Prop where
  to : ∀ (s : Shared) (us ws : List Value), K.In s.heap → (g us ws).length = ps.length → BindsTo s fd ⟨us, ks.zip ws⟩ (ps.zip (g us ws))
  rel : ∀ {vs : List V} {us : List Value} {zs : List V} {ws : List Value}, Vals vs us → Vals zs ws → Vals (gV vs zs) (g us ws)
def tCallK (sp : Sp) (gV : List V → List V → List V) (E : XK) (t tk : TA) : TE := fun σ H Q => t σ H fun vs H1 => tk σ H1 fun zs H2 => sp (gV vs zs) H2 Q E
variable {g : List Value → List Value → List Value} {gV : List V → List V → List V}
end

/-! ### a def's body keeps its promise -/
/-- names: the parameters first -/
structure FnScope (N P : List Str) (sc : Scope) : Prop where
  kind : sc.kind = .function
  co : sc.isCoroutine = false
  gen : sc.isGenerator = false
  nd : N.Nodup
  pre : N.take P.length = P
  par : ∀ x ∈ P, sc.names.lookup x = some .local ∨ sc.names.lookup x = some .cell
  nofree : ∀ y ∈ sc.names, y.2 ≠ .free

theorem bindL_out {kindOf : Str → Option NameKind} {x : Str} : ∀ {binds : List (Str × Value)} {m : Str → Option Value}, (∀ v, (x, v) ∉ binds) → bindL kindOf binds m x = m x
  | [], _, _ => rfl
  | (n, v) :: r, m, h => by
    unfold bindL
    rw [bindL_out fun w hw => h w (List.mem_cons_of_mem _ hw)]
    split
    · have : x ≠ n := by rintro rfl; exact h v List.mem_cons_self
      simp [this]
    · rfl
theorem bindC_out {kindOf : Str → Option NameKind} {x : Str} : ∀ {binds : List (Str × Value)} {m : Str → Option Value}, (∀ v, (x, v) ∉ binds) → bindC kindOf binds m x = m x
  | [], _, _ => rfl
  | (n, v) :: r, m, h => by
    unfold bindC
    rw [bindC_out fun w hw => h w (List.mem_cons_of_mem _ hw)]
    split
    · rfl
    · have : x ≠ n := by rintro rfl; exact h v List.mem_cons_self
      simp [this]
theorem bindL_get {kindOf : Str → Option NameKind} {x : Str} {v : Value} : ∀ {P : List Str} {vs : List Value} {i : Nat} {m : Str → Option Value}, P.Nodup → P[i]? = some x → vs[i]? = some v → kindOf x = some .local →
    bindL kindOf (P.zip vs) m x = some v
  | [], _, _, _, _, h, _, _ => by simp at h
  | _ :: _, [], _, _, _, _, h, _ => by simp at h
  | p :: P, w :: vs, 0, m, nd, h1, h2, hk => by
    simp at h1 h2; subst h1; subst h2
    show bindL kindOf ((p, w) :: P.zip vs) m p = _
    unfold bindL
    rw [bindL_out fun v hv => (List.nodup_cons.mp nd).1 (List.of_mem_zip hv).1, if_pos hk]
    simp
  | p :: P, w :: vs, i + 1, m, nd, h1, h2, hk => by
    show bindL kindOf ((p, w) :: P.zip vs) m x = _
    unfold bindL
    exact bindL_get (i := i) (List.nodup_cons.mp nd).2 (by simpa using h1) (by simpa using h2) hk
theorem bindC_get {kindOf : Str → Option NameKind} {x : Str} {v : Value} : ∀ {P : List Str} {vs : List Value} {i : Nat} {m : Str → Option Value}, P.Nodup → P[i]? = some x → vs[i]? = some v → kindOf x ≠ some .local →
    bindC kindOf (P.zip vs) m x = some v
  | [], _, _, _, _, h, _, _ => by simp at h
  | _ :: _, [], _, _, _, _, h, _ => by simp at h
  | p :: P, w :: vs, 0, m, nd, h1, h2, hk => by
    simp at h1 h2; subst h1; subst h2
    show bindC kindOf ((p, w) :: P.zip vs) m p = _
    unfold bindC
    rw [bindC_out fun v hv => (List.nodup_cons.mp nd).1 (List.of_mem_zip hv).1, if_neg hk]
    simp
  | p :: P, w :: vs, i + 1, m, nd, h1, h2, hk => by
    show bindC kindOf ((p, w) :: P.zip vs) m x = _
    unfold bindC
    exact bindC_get (i := i) (List.nodup_cons.mp nd).2 (by simpa using h1) (by simpa using h2) hk

/-- the names' values at the entry -/
def start (N : List Str) (vs : List V) : St := vs.map some ++ List.replicate (N.length - vs.length) none

/-- the context of a def's body, at its entry; an exception leaves the frame, then lies as CX says -/
def cxOf (CX : CXT) (P : Program) (w : World) (K : PySem.W.Frag) (mg : Str → Option Value) (base : Heap) (N : List Str) (qual : Str) (scope : Scope) (f : Addr) (cd : Value) (A : Around) (outer : List Env) (s : Shared) (H : Hp) (E : XK) : Cx where
  prog := P
  w := w
  K := K
  mg := mg
  base := base
  A := A.deeper (envOfC qual scope s.heap.objs.size f cd)
  N := N
  s₀ := s
  H₀ := H
  env := envOfC qual scope s.heap.objs.size f cd
  outer := outer
  stack := envOfC qual scope s.heap.objs.size f cd :: outer
  ex := []
  calm := true
  fn := fun _ => true
  pn := []
  xe := fun e s' => wpAny (model P w) (A.deeper (envOfC qual scope s.heap.objs.size f cd)) (leaving (envOfC qual scope s.heap.objs.size f cd) e) (fun _ s'' => CX outer H s E e s'') (fun e' s'' => CX outer H s E e' s'') s'

theorem cell_has {sc : Scope} {n : Nat} {x : Str} (h : sc.names.lookup x = some .cell) : ∃ c, (cellsFrom n sc.names []).lookup x = some c := by
  have q := PySem.W.cellsFrom_some sc.names n [] (.inl h)
  exact Option.isSome_iff_exists.mp q

theorem inv_start {CX : CXT} {P : Program} {w : World} {K : PySem.W.Frag} {mg : Str → Option Value} {base : Heap} {N ps : List Str} {qual : Str} {scope : Scope} {f : Addr} {cd : Value} {A : Around} {outer : List Env} {s s1 : Shared} {H : Hp} {E : XK} {us : List Value} {vs : List V}
    (S : FnScope N ps scope) (hd : A.handled = none) (e0 : Env0 P w K mg base A outer s H) (hl : vs.length = ps.length) (r : Vals vs us)
    (x : InCallC s s.heap.objs.size (bindL (envOfC qual scope s.heap.objs.size f cd).kindOf (ps.zip us) fun _ => none) (cellsFrom (s.heap.objs.size + 1) scope.names []) (bindC (envOfC qual scope s.heap.objs.size f cd).kindOf (ps.zip us) fun _ => none) s1) :
    Inv (cxOf CX P w K mg base N qual scope f cd A outer s H E) [] (start N vs) H s1 := by
  have hpl : ps.length ≤ N.length := by have := congrArg List.length S.pre; rw [List.length_take] at this; omega
  obtain ⟨h1, tk, rfl, hk⟩ := x.done
  have noA : ∀ b : Addr, b ∉ (cxOf CX P w K mg base N qual scope f cd A outer s H E).ex := fun b z => absurd (show b ∈ ([] : List Addr) from z) (by simp)
  refine ⟨⟨e0.mod, S.kind, rfl, rfl, Nat.le_refl _, fun y z c h1 h2 => ?_, fun y hy => ?_, fun y c _ h => ?_, fun _ => hd, Around.frames_deeper e0.frames, .inr ⟨rfl, rfl⟩, fun b z => absurd z (noA b), e0.bs, e0.bsz, fun b _ _ => noA b, fun b z => absurd z (noA b), e0.funs, e0.frf⟩,
    rfl, e0.bare, Un.kept hk, ⟨_, x.toInCall.ns, fun i y v h1 h2 h3 => ?_⟩, fun y c h => ⟨_, x.cell y c h⟩, e0.hok.fresh (Nat.le_refl _), fun y c h => ?_, fun p hp => absurd (show p ∈ ([] : List (Addr × Obj)) from hp) (by simp), e0.hok.kept hk, ?_⟩
  · exact name_of_addr x.apart (PySem.mem_of_lookup h1) (PySem.mem_of_lookup h2)
  · have hy : scope.names.lookup y = some .cell ∨ scope.names.lookup y = some .free := hy
    rcases hy with hy | hy
    · exact cell_has hy
    · exact absurd rfl (S.nofree _ (PySem.mem_of_lookup hy))
  · exact Nat.le_of_lt (x.above y c (PySem.mem_of_lookup h))
  · have hi : i < vs.length := by
      unfold start at h2
      by_cases hi : i < vs.length
      · exact hi
      · rw [List.getElem?_append_right (by simpa using hi)] at h2
        rw [List.getElem?_replicate] at h2
        split at h2 <;> cases h2
    have ha : vs[i]? = some v := by
      unfold start at h2
      rw [List.getElem?_append_left (by simpa using hi), List.getElem?_map] at h2
      cases e : vs[i]? with
      | none => rw [e] at h2; cases h2
      | some a => rw [e] at h2; cases h2; rfl
    obtain ⟨u, hu, rv⟩ := r.get ha
    have hp : ps[i]? = some y := by
      rw [← S.pre, List.getElem?_take_of_lt (by omega)]; exact h1
    have ndP : ps.Nodup := by rw [← S.pre]; exact S.nd.sublist (List.take_sublist _ _)
    refine ⟨u, rv, ?_⟩
    rcases S.par y (List.mem_of_getElem? hp) with k | k
    · exact .inl ⟨k, bindL_get ndP hp hu k⟩
    · obtain ⟨c, e⟩ := cell_has (n := s.heap.objs.size + 1) k
      refine .inr ⟨.inl k, c, e, ?_⟩
      have q := x.cell y c e
      rw [bindC_get ndP hp hu (by show scope.names.lookup y ≠ _; rw [k]; decide)] at q
      exact q
  · exact e0.hok.fresh (Nat.le_of_lt (x.above y c (PySem.mem_of_lookup h)))
  · unfold start
    show _ = N.length
    rw [List.length_append, List.length_map, List.length_replicate]
    omega

/-- THE RULE: a def (or a method) of the text, by its body. The body's reading t is chosen for each entry; it is run at the parameters' values -/
theorem fn_of {CX : CXT} {P : Program} {w : World} {K : PySem.W.Frag} {mg : Str → Option Value} {base : Heap} {k : Nat} {f : Addr} {name qual : Str} {params : Arguments} {body : List Stmt} {scope : Scope} {dV kV doc pm cdv ct oc : Value} {an od : Option Addr}
    {osl : Array (Option Value)} {N ps : List Str} {sp : Sp} (lk : K.lookup f = some ⟨oc, od, .func (PySem.W.fnOf name qual params body scope dV kV doc pm an cdv ct), osl⟩) (hcd : PySem.W.codeIn K cdv qual = true) (S : FnScope N ps scope)
    (len : ∀ vs H Q E, sp vs H Q E → vs.length = ps.length)
    (hbody : ∀ (A : Around) (outer : List Env) (s : Shared) (H : Hp) (vs : List V) (Q : VK) (E : XK), Room k (A.deeper (envOfC qual scope s.heap.objs.size f cdv)) → sp vs H Q E →
      ∃ t, PSs (cxOf CX P w K mg base N qual scope f cdv A outer s H E) body t ∧ t { nx := fun _ H' => Q .non H', rt := Q } (start N vs) H) :
    FnOk P w K mg base CX (k + 1) f (PySem.W.fnOf name qual params body scope dV kV doc pm an cdv ct) ps sp := by
  refine ⟨len, fun A outer s H args us vs Q E hr e0 hb r hsp => ?_⟩
  have hl := len _ _ _ _ hsp
  have KX : K.In s.heap := e0.mod.kin.keeps fun b o e => (e0.bs b o e).1
  have lim : s.heap.NoLimit := e0.mod.nolimit.keeps fun b o e => (e0.bs b o e).1
  have hkind : ∀ y ∈ ps.zip us, scope.names.lookup y.1 = some .local ∨ (scope.names.lookup y.1 = some .cell ∧ ((cellsFrom (s.heap.objs.size + 1) scope.names []).lookup y.1).isSome = true) := fun ⟨n, v⟩ hy => by
    rcases S.par n (List.of_mem_zip hy).1 with q | q
    · exact .inl q
    · exact .inr ⟨q, PySem.W.cellsFrom_some _ _ _ (.inl q)⟩
  refine codeAny_call_function hr.depth (KX _ _ lk) rfl S.co S.gen rfl (PySem.W.codeRec_of KX hcd) (hb _ _ _ _ ?_)
  refine wpAny_newFunctionEnv_cells S.kind hkind fun env he s1 x => ?_
  subst he
  refine ⟨lim.keeps x.toInCall.keep, codeAny_func ?_⟩
  obtain ⟨t, ht, hq⟩ := hbody A outer s H vs Q E (hr.deeper _) hsp
  have I : Inv (cxOf CX P w K mg base N qual scope f cdv A outer s H E) [] (start N vs) H s1 := inv_start S hr.hd e0 hl r x
  refine wpAny_mono (ht [] s1 (start N vs) H _ I hq) (fun fl s' hs => ?_) fun e s' hs => hs
  have fin : ∀ {σ' : St} {H' : Hp} {v : V} {u : Value}, Inv (cxOf CX P w K mg base N qual scope f cdv A outer s H E) [] σ' H' s' → RelV v u → Q v H' → CE outer P w H s Q u s' :=
    fun {σ' H' v u} J rv q => ⟨v, H', J.os, J.bare, J.base, J.hok, rv, q⟩
  cases fl with
  | ret u =>
    obtain ⟨v, σ', H', J, rv, q⟩ := hs
    exact fin J rv q
  | next =>
    obtain ⟨σ', H', J, q⟩ := hs
    exact fin (v := V.non) (u := Value.none) J rfl q
  | brk =>
    obtain ⟨_, _, _, q⟩ := hs
    exact False.elim q
  | cont =>
    obtain ⟨_, _, _, q⟩ := hs
    exact False.elim q
end L2

namespace L2
open PySem PySem.Spec PyProof.Rows
section
variable {X : Cx} {x : Str} {p pos : Pos} {e : Expr} {es : List Expr} {t : TA} {id T : String} {r : List V → Hp → VK → Prop}

def tCB (r : List V → Hp → VK → Prop) (t : TA) : TE := fun σ H Q => t σ H fun vs H1 => r vs H1 Q
/-- f(e, ..), f a built-in function -/
theorem pe_callB (hc : CallR X (.builtin id) r) (hg : Gl X x) (hm : X.mg x = none) (hv : bootBuiltins x = some (.builtin id)) (ha : PA X (e :: es) t) (hn : x ≠ "__name__" := by decide) (hdb : (x == ("__debug__" : Str)) = false := by decide)
    (he : starEach (e :: es) X.env = (false, eval e X.env) :: starEach es X.env := by rfl) (hpl : (backTo pos (starEach es X.env)).any (·.1) = false := by rfl) : PE X (.Call (.Name x p) (e :: es) [] pos) (tCB r t) := by
  intro pins s σ H Q I h
  refine wpAny_Call_Name_kw (ld_blt I hg hm hv ?_ hn hdb)
  exact PyProof.Rows.callWith_builtin1 (thn (ha pos pins s σ H _ I h) fun us s1 ⟨vs, H1, I1, r1, q1⟩ => hc pins s1 σ H1 vs us Q I1 r1 q1) he hpl
/-- T(e, ..), T a built-in type -/
theorem pe_callTy (hc : CallR X (.type T) r) (hg : Gl X x) (hm : X.mg x = none) (hv : bootBuiltins x = some (.type T)) (ha : PA X (e :: es) t) (hn : x ≠ "__name__" := by decide) (hdb : (x == ("__debug__" : Str)) = false := by decide)
    (he : starEach (e :: es) X.env = (false, eval e X.env) :: starEach es X.env := by rfl) (hpl : (backTo pos (starEach es X.env)).any (·.1) = false := by rfl) : PE X (.Call (.Name x p) (e :: es) [] pos) (tCB r t) := by
  intro pins s σ H Q I h
  refine wpAny_Call_Name_kw (ld_blt I hg hm hv ?_ hn hdb)
  exact PyProof.Rows.callWith_type1 (thn (ha pos pins s σ H _ I h) fun us s1 ⟨vs, H1, I1, r1, q1⟩ => hc pins s1 σ H1 vs us Q I1 r1 q1) he hpl
end
end L2

namespace HT
open PySem PyProof.Rows

/-- t < u of tuples of ints -/
def lexLt : List Int → List Int → Bool
  | [], [] => false
  | [], _ :: _ => true
  | _ :: _, [] => false
  | x :: xs, y :: ys => if x = y then lexLt xs ys else decide (x < y)
section
open PySem.SeqAt
open PySem.AutoSeq1 (wpAny_loadPart')
open PySem.MeetsSeq PySem.MeetsSeq2 PySem.MeetsSeq3

end

section
variable {prog : Program} {w : World} {A : Around} {E : Value → Shared → Prop} {s : Shared}

/-! ### t[a:b], not the whole -/
/-- a slice's bound as a place among n (d where it is left out) -/
def sIx (n d : Nat) : Option Int → Nat
  | none => d
  | some v => if v < 0 then (v + (n : Int)).toNat else min v.toNat n
end
end HT

namespace L2
open PySem PySem.Spec PyProof.Rows

/-! ### the parts of a slice -/
abbrev TO := St → Hp → (Option Int → Hp → Prop) → Prop
/-- a slice's part (left out, or an int) -/
def PO (X : Cx) (e : Option Expr) (t : TO) : Prop :=
  ∀ (pins : List (Addr × Obj)) (s : Shared) (σ : St) (H : Hp) (Q : Option Int → Hp → Prop), Inv X pins σ H s → t σ H Q →
    wpAny (model X.prog X.w) X.A (evalPart e X.env) (fun u s' => ∃ o H', Inv X pins σ H' s' ∧ IsPart u o ∧ Q o H') X.xe s
def tNoPart : TO := fun _ H Q => Q none H
def tPart (t : TE) : TO := fun σ H Q => t σ H fun x H1 => ∃ i, x = .int i ∧ Q (some i) H1

section
variable {X : Cx} {e : Expr} {te : TE} {lo hi : Option Expr} {tl th : TO} {pos p2 : Pos}

theorem po_none : PO X none tNoPart := by
  intro pins s σ H Q I h
  rw [evalPart_none]
  exact wpAny_pure ⟨none, H, I, .none, h⟩
theorem po_some (h : PE X e te) : PO X (some e) (tPart te) := by
  intro pins s σ H Q I hw
  rw [evalPart_some]
  refine thn (h pins s σ H _ I hw) fun u s1 ⟨x, H1, I1, r1, q1⟩ => ?_
  obtain ⟨i, rfl, q⟩ := q1
  obtain ⟨t, rfl⟩ := r1
  exact ⟨some i, H1, I1, .int i t, q⟩

/-- what a slice of a value is, by values: the slice object stands at sl -/
def SlR (X : Cx) (r : V → Option Int → Option Int → Hp → VK → Prop) : Prop :=
  ∀ (pins : List (Addr × Obj)) (s : Shared) (σ : St) (H : Hp) (x : V) (v vl vu : Value) (lo hi : Option Int) (sl : Addr) (Q : VK), Inv X pins σ H s → RelV x v → s.heap.IsSliceOf sl vl vu .none → IsPart vl lo → IsPart vu hi → r x lo hi H Q →
    ∃ T id, typeLookup (.type T) "__getitem__" = pure (some (.builtin id)) ∧ s.TypeIs v T ∧ wpAny (model X.prog X.w) X.A (getItem v (.ref sl)) (EP X pins σ Q) X.xe s
def tSl (r : V → Option Int → Option Int → Hp → VK → Prop) (te : TE) (tl th : TO) : TE := fun σ H Q => te σ H fun x H1 => tl σ H1 fun l H2 => th σ H2 fun u H3 => r x l u H3 Q
/-- a[lo:hi], any a -/
theorem pe_slice {r : V → Option Int → Option Int → Hp → VK → Prop} (hr : SlR X r) (he : PE X e te) (hl : PO X lo tl) (hu : PO X hi th) : PE X (.Subscript e (.Slice lo hi none p2) pos) (tSl r te tl th) := by
  intro pins s σ H Q I h
  refine Subscript_ (thn (he pins s σ H _ I h) fun v s1 ⟨x, H1, I1, r1, q1⟩ => ?_)
  refine wpAny_Slice (thn (hl pins s1 σ H1 _ I1 q1) fun vl s2 ⟨l, H2, I2, pl, q2⟩ => thn (hu pins s2 σ H2 _ I2 q2) fun vu s3 ⟨u, H3, I3, pu, q3⟩ => ?_)
  rw [evalPart_none]
  refine wpAny_pure ?_
  have I4 : Inv X pins σ H3 { s3 with heap := s3.heap.push { cls := .type "slice", data := .fields #[vl, vu, .none] } } := I3.kept (t' := s3.toks) fun b ob q => Heap.get?_push_of_some _ q
  obtain ⟨T, id, hT, ht, hg⟩ := hr pins { s3 with heap := s3.heap.push { cls := .type "slice", data := .fields #[vl, vu, .none] } } σ H3 x v vl vu l u s3.heap.objs.size Q I4 r1 (Heap.IsSliceOf.new ..) pl pu q3
  show wpAny (model X.prog X.w) X.A (subscriptTail e (.Slice lo hi none p2) v (.ref s3.heap.objs.size)) (EP X pins σ Q) X.xe { s3 with heap := s3.heap.push { cls := .type "slice", data := .fields #[vl, vu, .none] } }
  exact tail_any (ops := [.ref s3.heap.objs.size, v]) ht hT hg (by with_unfolding_all rfl)

/-- the items of xs[lo:hi] -/
def cutV (xs : List V) (lo hi : Option Int) : List V := (xs.drop (HT.sIx xs.length 0 lo)).take (HT.sIx xs.length xs.length hi - HT.sIx xs.length 0 lo)
theorem cutV_length (xs : List V) (lo hi : Option Int) : (cutV xs lo hi).length ≤ xs.length := by
  unfold cutV
  rw [List.length_take, List.length_drop]
  omega
/-- t[lo:hi], not the whole of it (the whole would be t itself) -/
def rSlT (K : PySem.W.Frag) : V → Option Int → Option Int → Hp → VK → Prop := fun x lo hi H Q => ∃ a xs, x = .ref a ∧ SqT K H a xs ∧
  ¬ (HT.sIx xs.length 0 lo = 0 ∧ HT.sIx xs.length xs.length hi = xs.length) ∧ ∀ p, H p = none → Q (.ref p) (upd H p (.tup (cutV xs lo hi)))
/-! ### t < u, t + u -/
def rLtT (K : PySem.W.Frag) : R2 := fun x y H Q => ∃ a b ns ms, x = .ref a ∧ y = .ref b ∧ SqT K H a (ns.map V.int) ∧ SqT K H b (ms.map V.int) ∧ Q (.bl (HT.lexLt ns ms)) H
/-- t + u, t not empty: u empty gives t itself -/
def rCatT (K : PySem.W.Frag) : R2 := fun x y H Q => ∃ a b xs ys, x = .ref a ∧ y = .ref b ∧ SqT K H a xs ∧ SqT K H b ys ∧ xs ≠ [] ∧ xs.length + ys.length ≤ sizeLine ∧
  (ys = [] → Q (.ref a) H) ∧ (ys ≠ [] → ∀ p, H p = none → Q (.ref p) (upd H p (.tup (xs ++ ys))))
end
end L2

namespace L2
open PySem PySem.Spec PyProof.Rows

/-! ### places -/
/-- the place that an index of any sign means -/
def ixN (n : Nat) (i : Int) : Option Nat := if 0 ≤ i then (if i < n then some i.toNat else none) else if -(n : Int) ≤ i then some (i + n).toNat else none
def atI {α : Type} (xs : List α) (i : Int) : Option α := (ixN xs.length i).bind fun j => xs[j]?
theorem ixN_seq {n : Nat} {i : Int} {j : Nat} (h : ixN n i = some j) : seqIndex? i n = some j ∧ j < n ∧ -(n : Int) ≤ i ∧ i < n := by
  unfold ixN at h
  by_cases h0 : 0 ≤ i
  · rw [if_pos h0] at h
    by_cases h1 : i < n
    · rw [if_pos h1] at h
      have e : i.toNat = j := Option.some.inj h
      exact ⟨by rw [seqIndex_of h0 h1, e], by omega, by omega, h1⟩
    · rw [if_neg h1] at h; cases h
  · rw [if_neg h0] at h
    by_cases h1 : -(n : Int) ≤ i
    · rw [if_pos h1] at h
      have e : (i + n).toNat = j := Option.some.inj h
      exact ⟨by rw [seqIndex_neg (by omega) h1, e], by omega, h1, by omega⟩
    · rw [if_neg h1] at h; cases h
theorem atI_get {α : Type} {xs : List α} {i : Int} {v : α} (h : atI xs i = some v) : ∃ j, seqIndex? i xs.length = some j ∧ xs[j]? = some v ∧ j < xs.length ∧ -(xs.length : Int) ≤ i ∧ i < xs.length := by
  unfold atI at h
  cases e : ixN xs.length i with
  | none => rw [e] at h; cases h
  | some j =>
    rw [e] at h
    obtain ⟨h1, h2, h3, h4⟩ := ixN_seq e
    exact ⟨j, h1, h, h2, h3, h4⟩
theorem atI_nat {α : Type} {xs : List α} {j : Nat} {v : α} (h : xs[j]? = some v) : atI xs (j : Int) = some v := by
  have hj : j < xs.length := (List.getElem?_eq_some_iff.mp h).1
  have e : ixN xs.length (j : Int) = some j := by
    unfold ixN
    rw [if_pos (by omega), if_pos (by omega)]; simp
  unfold atI; rw [e]; exact h
theorem atI_last {α : Type} (xs : List α) (v : α) : atI (xs ++ [v]) (-1) = some v := by
  have hl : (xs ++ [v]).length = xs.length + 1 := by simp
  have e : ixN (xs ++ [v]).length (-1) = some xs.length := by
    unfold ixN
    rw [hl, if_neg (by decide), if_pos (by omega)]
    congr 1
    omega
  unfold atI
  rw [e]
  show (xs ++ [v])[xs.length]? = some v
  simp

/-! ### what may be subscripted -/
/-- what stands as an index of a plain subscript -/
def PlainIx (b : Expr) : Prop := ∀ o i, subscripted b false o i = operate [o, i] (getItem o i)
/-- a subscript by values -/
def IxR (X : Cx) (r : R2) : Prop :=
  ∀ (value slice : Expr) (pins : List (Addr × Obj)) (s : Shared) (σ : St) (H : Hp) (x y : V) (v u : Value) (Q : VK), Inv X pins σ H s → RelV x v → RelV y u → r x y H Q →
    subscripted slice false v u = operate [v, u] (getItem v u) → wpAny (model X.prog X.w) X.A (subscriptTail value slice v u) (EP X pins σ Q) X.xe s
/-- a call of a builtin's method by values: the receiver, the arguments -/
def MtR (X : Cx) (id : String) (r : V → List V → Hp → VK → Prop) : Prop :=
  ∀ (pins : List (Addr × Obj)) (s : Shared) (σ : St) (H : Hp) (x : V) (xs : List V) (v : Value) (us : List Value) (Q : VK), Inv X pins σ H s → RelV x v → Vals xs us → r x xs H Q →
    wpAny (model X.prog X.w) X.A (call (.builtin id) (v :: us)) (EP X pins σ Q) X.xe s
section
variable {X : Cx} {a b : Expr} {ta tb : TE} {pos : Pos}
/-- a[b] -/
theorem pe_ix {r : R2} (hr : IxR X r) (ha : PE X a ta) (hb : PE X b tb) (hs : PlainIx b) : PE X (.Subscript a b pos) (tOp r ta tb) := by
  intro pins s σ H Q I h
  exact Subscript_ (binT ha hb I h fun v u s2 x y H2 I2 rx ry q => hr a b pins s2 σ H2 x y v u Q I2 rx ry q (hs _ _))

def rIxL (K : PySem.W.Frag) : R2 := fun x y H Q => ∃ p xs i v, x = .ref p ∧ y = .int i ∧ SqL K H p xs ∧ atI xs i = some v ∧ Q v H
def rIxT (K : PySem.W.Frag) : R2 := fun x y H Q => ∃ p xs i v, x = .ref p ∧ y = .int i ∧ SqT K H p xs ∧ atI xs i = some v ∧ Q v H
def rIxS : R2 := fun x y H Q => ∃ z i c, x = .str z ∧ y = .int i ∧ z.length ≤ sizeLine ∧ atI z.cps.toList i = some c ∧ Q (.str ⟨#[c]⟩) H
theorem ix_list : IxR X (rIxL X.K) := by
  intro value slice pins s σ H x y v u Q I rx ry h hs
  obtain ⟨p, xs, i, z, rfl, rfl, hq, he, q⟩ := h
  cases rx
  obtain ⟨t, rfl⟩ := ry
  obtain ⟨its, r, pl, hz⟩ := I.list hq
  obtain ⟨j, h1, h2, h3, h4, h5⟩ := atI_get he
  obtain ⟨w, ew, rw'⟩ := r.get h2
  have hl := r.length
  have hn := line63
  have fin : EP X pins σ Q w s := ⟨z, H, I, rw', q⟩
  by_cases h0 : 0 ≤ i
  · have hj : i.toNat = j := by
      rw [seqIndex_of h0 h5] at h1
      exact Option.some.inj h1
    exact item_listR pl.isList h0 (by omega) (by rw [hj]; simpa using ew) fin hs
  · have hj : (i + (its.toArray.size : Int)).toNat = j := by
      rw [seqIndex_neg (by omega) h4] at h1
      rw [List.size_toArray, ← hl]
      exact Option.some.inj h1
    exact subscriptTail_builtinR (x := w) pl.isList.typeIs slot_list_getitem.lookup
      (wpAny_getItem_list_neg (Q := fun r s' => r = w ∧ EP X pins σ Q r s') pl.isList (by omega) (by rw [List.size_toArray] <;> omega) (by omega) (by rw [hj]; simpa using ew) ⟨rfl, fin⟩) hs
theorem ix_tup : IxR X (rIxT X.K) := by
  intro value slice pins s σ H x y v u Q I rx ry h hs
  obtain ⟨p, xs, i, z, rfl, rfl, hq, he, q⟩ := h
  cases rx
  obtain ⟨t, rfl⟩ := ry
  obtain ⟨its, r, pl, hz⟩ := I.tuple hq
  obtain ⟨j, h1, h2, h3, h4, h5⟩ := atI_get he
  obtain ⟨w, ew, rw'⟩ := r.get h2
  have hl := r.length
  have hn := line63
  have fin : EP X pins σ Q w s := ⟨z, H, I, rw', q⟩
  exact subscriptTail_builtinR (x := w) pl.typeIs slot_tuple_getitem.lookup
    (getItem_tuple (j := j) (Q := fun r s' => r = w ∧ EP X pins σ Q r s') pl (by omega) (by omega) (by rw [List.size_toArray, ← hl]; exact h1) (by simpa using ew) ⟨rfl, fin⟩) hs
theorem ix_str : IxR X rIxS := by
  intro value slice pins s σ H x y v u Q I rx ry h hs
  obtain ⟨z, i, c, rfl, rfl, hz, he, q⟩ := h
  obtain ⟨t, rfl⟩ := rx
  obtain ⟨t', rfl⟩ := ry
  obtain ⟨j, h1, h2, h3, h4, h5⟩ := atI_get he
  have hl : z.cps.toList.length = z.length := by simp [Str.length]
  rw [hl] at h1 h4 h5
  have hn := line63
  exact tail_any (typeIs_str s z t) slot_str_getitem.lookup (getItem_str (c := c) (by
    have e1 : decide (i < -(2 ^ 63 : Int)) = false := decide_eq_false (by omega)
    have e2 : decide (i ≥ 2 ^ 63) = false := decide_eq_false (by omega)
    rw [e1, e2, Bool.or_false]) (by rw [h1]; simpa using h2) ⟨.str ⟨#[c]⟩, H, I.tok _, ⟨_, rfl⟩, q⟩) hs
/-- list, tuple or str -/
def rIx (K : PySem.W.Frag) : R2 := fun x y H Q => rIxL K x y H Q ∨ rIxT K x y H Q ∨ rIxS x y H Q
/-! ### xs[i] = v, any sign -/
/-- the list's object behind a store -/
theorem mapSeq_set (its : List Value) (n j : Nat) (u : Value) : Obj.mapSeq (·.setIfInBounds j u) { cls := .type "list", data := .seq its.toArray n } = { cls := .type "list", data := .seq (its.set j u).toArray n } := by
  simp [Obj.mapSeq]
theorem Inv.lst {pins : List (Addr × Obj)} {σ : St} {H : Hp} {s : Shared} {p : Addr} {xs : List V} (I : Inv X pins σ H s) (h : H p = some (.lst xs)) :
    ∃ (its : List Value) (n : Nat), Vals xs its ∧ s.heap.get? p = some { cls := .type "list", data := .seq its.toArray n } ∧ xs.length ≤ sizeLine := by
  obtain ⟨z, its, n, r, e⟩ := I.hok p _ h
  exact ⟨its, n, r, e, z⟩
/-- the list at p is written by an update of its object -/
theorem Inv.lstUpd {pins : List (Addr × Obj)} {σ : St} {H : Hp} {s : Shared} {p : Addr} {xs ys : List V} {its its' : List Value} {n n' : Nat} {f : Obj → Obj} (I : Inv X pins σ H s) (h : H p = some (.lst xs))
    (ho : s.heap.get? p = some { cls := .type "list", data := .seq its.toArray n }) (hf : f { cls := .type "list", data := .seq its.toArray n } = { cls := .type "list", data := .seq its'.toArray n' }) (r : Vals ys its') (hz : ys.length ≤ sizeLine) (t : Nat) :
    Inv X pins σ (upd H p (.lst ys)) { s with heap := s.heap.update p f, toks := t } := by
  have e : (s.heap.update p f).get? p = some { cls := .type "list", data := .seq its'.toArray n' } := by
    rw [Heap.get?_update_self f ho (by rw [hf] <;> rfl), hf]
  refine I.write (x := p) (e := p) (by rw [h]; trivial) (.inl rfl) (fun b u hb q => (Heap.get?_update_other _ _ (Ne.symm hb)).trans q) ⟨_, e⟩ ?_
  exact ⟨hz, its', n', r, e⟩
def rSetL : V → V → V → Hp → (Hp → Prop) → Prop := fun o i v H Q => ∃ p xs k j, o = .ref p ∧ i = .int k ∧ H p = some (.lst xs) ∧ ixN xs.length k = some j ∧ Q (upd H p (.lst (xs.set j v)))
theorem set_list : PSet X rSetL := by
  intro pins s σ H o i v ov iv u Q I ro ri rv h
  obtain ⟨p, xs, k, j, rfl, rfl, hp, hj, q⟩ := h
  cases ro
  obtain ⟨t, rfl⟩ := ri
  obtain ⟨its, n, r, ho, hz⟩ := I.lst hp
  obtain ⟨h1, h2, h3, h4⟩ := ixN_seq hj
  have hl := r.length
  have hn := line63
  have I' : Inv X pins σ (upd H p (.lst (xs.set j v))) { s with heap := s.heap.update p (Obj.mapSeq (·.setIfInBounds j u)) } :=
    I.lstUpd hp ho (mapSeq_set its n j u) (r.set rv j) (by rw [List.length_set]; exact hz) s.toks
  by_cases h0 : 0 ≤ k
  · have hk : k.toNat = j := by
      rw [seqIndex_of h0 h4] at h1
      exact Option.some.inj h1
    exact PySem.W.ki_setAt ho h0 (by omega) (by rw [List.size_toArray, ← hl]; exact h4) (by rw [hk]; exact ⟨_, I', q⟩)
  · have hk : (k + (its.toArray.size : Int)).toNat = j := by
      rw [seqIndex_neg (by omega) h3] at h1
      rw [List.size_toArray, ← hl]
      exact Option.some.inj h1
    exact PySem.W.ki_setBack ho (by omega) (by rw [List.size_toArray, ← hl]; exact h3) (by omega) (by rw [hk]; exact ⟨_, I', q⟩)

/-! ### slices -/
theorem slice_bounds (lo hi : Option Int) (n : Nat) : (sliceBounds lo hi none n).1 = ((HT.sIx n 0 lo : Nat) : Int) ∧ (sliceBounds lo hi none n).2.1 = ((HT.sIx n n hi : Nat) : Int) ∧ (sliceBounds lo hi none n).2.2 = 1 := by
  refine ⟨?_, ?_, rfl⟩
  · cases lo with
    | none => simp [sliceBounds, HT.sIx]
    | some i =>
      simp only [sliceBounds, HT.sIx, Option.getD_none, show (1 : Int) > 0 by decide, if_true]
      by_cases h : i < 0
      · simp only [h, if_true] <;> omega
      · simp only [h, if_false] <;> omega
  · cases hi with
    | none => simp [sliceBounds, HT.sIx]
    | some i =>
      simp only [sliceBounds, HT.sIx, Option.getD_none, show (1 : Int) > 0 by decide, if_true]
      by_cases h : i < 0
      · simp only [h, if_true] <;> omega
      · simp only [h, if_false] <;> omega
theorem slicePick_cut (its : List Value) (lo hi : Option Int) : slicePick its.toArray lo hi none = ((its.drop (HT.sIx its.length 0 lo)).take (HT.sIx its.length its.length hi - HT.sIx its.length 0 lo)).toArray := by
  obtain ⟨h1, h2, h3⟩ := slice_bounds lo hi its.toArray.size
  unfold slicePick
  rw [h1, h2, h3]
  simp only [sliceRange_one, pick_run, List.size_toArray] <;> rfl
/-- xs[lo:hi] of a list: a new list -/
def rSlL (K : PySem.W.Frag) : V → Option Int → Option Int → Hp → VK → Prop := fun x lo hi H Q => ∃ a xs, x = .ref a ∧ SqL K H a xs ∧ ∀ p, H p = none → Q (.ref p) (upd H p (.lst (cutV xs lo hi)))
theorem sl_list : SlR X (rSlL X.K) := by
  intro pins s σ H x v vl vu lo hi sl Q I rx hs pl pu h
  obtain ⟨a, xs, rfl, hx, q⟩ := h
  cases rx
  obtain ⟨its, r, ht, hz⟩ := I.list hx
  have hlen := r.length
  refine ⟨"list", _, slot_list_getitem.lookup, ht.isList.typeIs, ?_⟩
  refine wpAny_getItem_list_slice ht.isList hs pl pu .none (by simp) ?_ (by rw [List.size_toArray] <;> omega)
  rw [slicePick_cut, ← hlen]
  refine ⟨.ref s.heap.objs.size, _, I.laid (t' := s.toks) (o := .lst (cutV xs lo hi)) (fun b ob q => Heap.get?_push_of_some _ q) (Nat.le_refl _) ?_, rfl, q _ (I.hok.fresh (Nat.le_refl _))⟩
  exact ⟨Nat.le_trans (cutV_length xs lo hi) hz, _, 0, (r.drop (HT.sIx xs.length 0 lo)).take (HT.sIx xs.length xs.length hi - HT.sIx xs.length 0 lo), Heap.get?_push_size _ rfl⟩

/-! ### in, not in: flat items -/
def flatV : V → Bool
  | .non => true
  | .bl _ => true
  | .int _ => true
  | .str _ => true
  | _ => false
/-- == of flat values -/
def eqV : V → V → Bool
  | .non, .non => true
  | .bl a, .bl b => a == b
  | .bl a, .int b => (if a then 1 else 0) == b
  | .int a, .bl b => a == (if b then 1 else 0)
  | .int a, .int b => a == b
  | .str a, .str b => a == b
  | _, _ => false
/-- the items' answers, read off the values (a value's own answer does not lean on its token) -/
def eqU (x : V) (u : Value) : Bool := match u with
  | .none => eqV .non x
  | .bool b => eqV (.bl b) x
  | .int i _ => eqV (.int i) x
  | .str z _ => eqV (.str z) x
  | _ => false
def inV (x : V) (xs : List V) : Bool := xs.any fun y => eqV y x
/-- x in a list or tuple of flat items -/
def rIn (K : PySem.W.Frag) (neg : Bool) : R2 := fun x y H Q => ∃ p xs, y = .ref p ∧ (SqL K H p xs ∨ SqT K H p xs) ∧ flatV x = true ∧ xs.all flatV = true ∧ Q (.bl (if neg then !inV x xs else inV x xs)) H
/-! ### len, list(x), tuple(x) of any list or tuple that is read -/
theorem call_len_seq : CallR X (.builtin "len") (fun xs H Q => ∃ p ys, xs = [.ref p] ∧ (SqL X.K H p ys ∨ SqT X.K H p ys) ∧ Q (.int ys.length) H) := by
  intro pins s σ H xs us Q I r h
  obtain ⟨p, ys, rfl, hq, q⟩ := h
  obtain ⟨u, rfl, rx⟩ := vals1 r
  cases rx
  have hn := line63
  rcases hq with hq | hq
  · obtain ⟨its, r', pl, hz⟩ := I.list hq
    have hlen := r'.length
    exact Calls.call_len_list pl.isList (by simp only [List.size_toArray] <;> omega) ⟨.int ys.length, H, I.tok _, ⟨s.toks + 1, by rw [List.size_toArray, hlen]⟩, q⟩
  · obtain ⟨its, r', pl, hz⟩ := I.tuple hq
    have hlen := r'.length
    exact len_tuple pl (by simp only [List.size_toArray] <;> omega) ⟨.int ys.length, H, I.tok _, ⟨s.toks + 1, by rw [List.size_toArray, hlen]⟩, q⟩
theorem call_len_str : CallR X (.builtin "len") (fun xs H Q => ∃ z, xs = [.str z] ∧ z.length ≤ sizeLine ∧ Q (.int z.length) H) := by
  intro pins s σ H xs us Q I r h
  obtain ⟨z, rfl, hz, q⟩ := h
  obtain ⟨u, rfl, t, rfl⟩ := vals1 r
  have hn := line63
  exact len_str (by omega) ⟨.int z.length, H, I.tok _, ⟨_, rfl⟩, q⟩
theorem call_list_of : CallR X (.type "list") (fun xs H Q => ∃ p ys, xs = [.ref p] ∧ (SqL X.K H p ys ∨ SqT X.K H p ys) ∧ ∀ l, H l = none → Q (.ref l) (upd H l (.lst ys))) := by
  intro pins s σ H xs us Q I r h
  obtain ⟨p, ys, rfl, hq, q⟩ := h
  obtain ⟨u, rfl, rx⟩ := vals1 r
  cases rx
  have fin : ∀ (its : List Value), Vals ys its → ys.length ≤ sizeLine → ∀ (h' : Heap) (c' : Nat), (∀ b o', s.heap.get? b = some o' → h'.get? b = some o') →
      h'.get? s.heap.objs.size = some { cls := .type "list", dict := none, data := .seq its.toArray c', slots := #[] } → EP X pins σ Q (.ref s.heap.objs.size) { s with heap := h' } := fun its r' hz h' c' kp e =>
    ⟨.ref s.heap.objs.size, _, I.laid (t' := s.toks) kp (Nat.le_refl _) (show ObjOk X.prog X.w _ h' _ (.lst ys) from ⟨hz, its, c', r', e⟩), rfl, q _ (I.hok.fresh (Nat.le_refl _))⟩
  rcases hq with hq | hq
  · obtain ⟨its, r', pl, hz⟩ := I.list hq
    have hlen := r'.length
    obtain ⟨o, ho, hc, n, hd⟩ := pl.isList
    exact call_list_seq p (.inl rfl) ho hc hd (fun h' c' kp e => fin its r' hz h' c' kp e) (by simp only [List.size_toArray] <;> omega)
  · obtain ⟨its, r', pl, hz⟩ := I.tuple hq
    have hlen := r'.length
    obtain ⟨o, ho, hc, n, hd⟩ := pl
    exact call_list_seq p (.inr rfl) ho hc hd (fun h' c' kp e => fin its r' hz h' c' kp e) (by simp only [List.size_toArray] <;> omega)
theorem call_tuple_of : CallR X (.type "tuple") (fun xs H Q => ∃ p ys, xs = [.ref p] ∧ ((SqL X.K H p ys ∧ ∀ l, H l = none → Q (.ref l) (upd H l (.tup ys))) ∨ (SqT X.K H p ys ∧ Q (.ref p) H))) := by
  intro pins s σ H xs us Q I r h
  obtain ⟨p, ys, rfl, h⟩ := h
  obtain ⟨u, rfl, rx⟩ := vals1 r
  cases rx
  rcases h with ⟨hq, q⟩ | ⟨hq, q⟩
  · obtain ⟨its, r', pl, hz⟩ := I.list hq
    have hlen := r'.length
    refine call_tuple_list pl.isList (fun h' kp => ?_) (by simp only [List.size_toArray] <;> omega)
    have I1 : Inv X pins σ H { s with heap := h' } := I.kept (t' := s.toks) kp
    have I2 : Inv X pins σ (upd H h'.objs.size (.tup ys)) { s with heap := h'.push { cls := .type "tuple", data := .seq its.toArray } } :=
      I1.laid (t' := s.toks) (fun b o e => Heap.get?_push_of_some _ e) (Nat.le_refl _) (show ObjOk X.prog X.w _ _ _ (.tup ys) from ⟨hz, its, r', IsTup.new _ _⟩)
    exact ⟨.ref h'.objs.size, _, I2, rfl, q _ (I1.hok.fresh (Nat.le_refl _))⟩
  · obtain ⟨its, r', pl, hz⟩ := I.tuple hq
    exact call_tuple_same pl ⟨.ref p, H, I, rfl, q⟩

/-! ### the call of a builtin's method: o.m(..) -/
/-- the value is of that builtin type -/
def tyV (K : PySem.W.Frag) (T : String) (x : V) (H : Hp) : Prop := match x with
  | .str _ => T = "str"
  | .int _ => T = "int"
  | .ref p => (T = "list" ∧ ∃ xs, SqL K H p xs) ∨ (T = "tuple" ∧ ∃ o, K.lookup p = some o ∧ o.cls = .type "tuple" ∧ o.dict = none) ∨
      (T = "dict" ∧ ((∃ kvs, H p = some (.dK kvs)) ∨ ∃ kvs, H p = some (.dT kvs))) ∨ (T = "set" ∧ ∃ S n, H p = some (.set S n))
  | _ => False
theorem tyV_is {pins : List (Addr × Obj)} {σ : St} {H : Hp} {s : Shared} {T : String} {x : V} {v : Value} (I : Inv X pins σ H s) (r : RelV x v) (ty : tyV X.K T x H) :
    s.TypeIs v T ∧ ∀ a, v = .ref a → ∃ ob, s.heap.get? a = some ob ∧ ob.dict = none := by
  cases x with
  | str z =>
    obtain ⟨t, rfl⟩ := r
    cases (show T = "str" from ty)
    exact ⟨typeIs_str s z t, fun _ e => nomatch e⟩
  | int i =>
    obtain ⟨t, rfl⟩ := r
    cases (show T = "int" from ty)
    exact ⟨typeIs_int s i t, fun _ e => nomatch e⟩
  | ref p =>
    cases r
    rcases ty with ⟨rfl, xs, hq⟩ | ⟨rfl, o, hk, hc, hd⟩ | ⟨rfl, hk⟩ | ⟨rfl, S, n, hk⟩
    · obtain ⟨its, _, pl, _⟩ := I.list hq
      refine ⟨pl.isList.typeIs, fun a e => ?_⟩
      cases e
      obtain ⟨o, n, e, c, hd, _⟩ := pl
      exact ⟨o, e, hd⟩
    · refine ⟨⟨o, I.kIn p o hk, hc⟩, fun a e => ?_⟩
      cases e
      exact ⟨o, I.kIn _ o hk, hd⟩
    · have z : ∃ o, s.heap.get? p = some o ∧ o.ExactDict := by
        rcases hk with ⟨kvs, hk⟩ | ⟨kvs, hk⟩
        · obtain ⟨_, _, _, _, o, _, _, e, ex, _⟩ := I.hok p _ hk
          exact ⟨o, e, ex⟩
        · obtain ⟨_, _, _, _, o, _, _, e, ex, _⟩ := I.hok p _ hk
          exact ⟨o, e, ex⟩
      obtain ⟨o, e, ex⟩ := z
      refine ⟨⟨o, e, ex.1⟩, fun a e2 => ?_⟩
      cases e2
      exact ⟨o, e, ex.2.1⟩
    · obtain ⟨o, _, _, _, e, ex, _⟩ := I.hok p _ hk
      refine ⟨⟨o, e, ex.1⟩, fun a e2 => ?_⟩
      cases e2
      exact ⟨o, e, ex.2.1⟩
  | _ => exact False.elim ty
def tBM0 (K : PySem.W.Frag) (T : String) (r : V → List V → Hp → VK → Prop) (to : TE) : TE := fun σ H Q => to σ H fun x H1 => tyV K T x H1 ∧ r x [] H1 Q
def tBM (K : PySem.W.Frag) (T : String) (r : V → List V → Hp → VK → Prop) (to : TE) (t : TA) : TE := fun σ H Q => to σ H fun x H1 => tyV K T x H1 ∧ t σ H1 fun xs H2 => r x xs H2 Q
variable {o e : Expr} {es : List Expr} {to : TE} {t : TA} {name : Str} {apos cpos : Pos} {T id : String} {r : V → List V → Hp → VK → Prop}
theorem pe_bm (pa : PlainAttrs T) (slot : Slot T name id) (hty : typeOf (.builtin id) = pure (.type "method_descriptor")) (hm : MtR X id r) (ho : PE X o to) (ha : PA X (e :: es) t)
    (hbase : attributeBase o name X.env (eval o X.env) = eval o X.env := by rfl)
    (hfew : ((backTo cpos (starEach (e :: es) X.env)).all (fun x => !x.1) && (backToKw cpos (keywordEach [] X.env)).all (fun x => x.1.isSome)
      && decide ((e :: es).length + ([] : List Keyword).length + (if ([] : List Keyword).isEmpty then 0 else 1) < 30)) = true := by rfl)
    (hline : (apos.endLine == cpos.line) = true := by rfl) (hs : starEach (e :: es) X.env = (false, eval e X.env) :: starEach es X.env := by rfl) (hplain : (backTo cpos (starEach es X.env)).any (·.1) = false := by rfl) :
    PE X (.Call (.Attribute o name apos) (e :: es) [] cpos) (tBM X.K T r to t) := by
  intro pins s σ H Q I h
  refine wpAny_Call_method_late hbase hfew hline rfl (thn (ho pins s σ H _ I h) fun v s1 ⟨x, H1, I1, r1, ty, q1⟩ => ?_)
  obtain ⟨h1, h2⟩ := tyV_is I1 r1 ty
  refine ⟨T, id, pa, slot, hty, h1, h2, ?_⟩
  have hA := ha cpos pins s1 σ H1 _ I1 q1
  rw [hs] at hA ⊢
  refine Calls.callWith_builtin (by show (false || (backTo cpos (starEach es X.env)).any (·.1)) = false; rw [hplain] <;> rfl) (Calls.evalArgs_plain ?_)
  exact thn hA fun us s2 ⟨vs, H2, I2, r2, q2⟩ => hm pins s2 σ H2 x vs v us Q I2 r1 r2 q2
/- xs.append(e), list.index on a module's tuple .. are MtR facts of 06m -/
end
end L2

namespace L2
open PySem PySem.Spec PyProof.Rows

def MtM (X : Cx) (id : String) (r : V → List V → Hp → VK → Prop) : Prop :=
  ∀ (pins : List (Addr × Obj)) (s : Shared) (σ : St) (H : Hp) (x : V) (xs : List V) (v : Value) (us : List Value) (Q : VK), Inv X pins σ H s → RelV x v → Vals xs us → r x xs H Q →
    wpAny (model X.prog X.w) X.A (call (.builtin id) (v :: us)) (EP X pins σ Q) X.xe s

/-! ### lists of values -/
theorem Vals.one : ∀ {x : V} {us : List Value}, Vals [x] us → ∃ u, us = [u] ∧ RelV x u
  | _, _, .cons r .nil => ⟨_, rfl, r⟩
section
variable {X : Cx} {pins : List (Addr × Obj)} {σ : St} {H : Hp} {s : Shared} {l b : Addr} {xs ys zs : List V}

/-! ### the two steps: a tracked list is rewritten, a new list is laid -/
theorem Inv.lset {its its' : List Value} {n : Nat} {f : Array Value → Array Value} {t' : Nat} (I : Inv X pins σ H s) (hH : H l = some (.lst xs))
    (e : s.heap.get? l = some { cls := .type "list", data := .seq its.toArray n }) (hf : f its.toArray = its'.toArray) (hv : Vals ys its') (hz : ys.length ≤ sizeLine) :
    Inv X pins σ (upd H l (.lst ys)) { s with heap := s.heap.update l (Obj.mapSeq f), toks := t' } := by
  have q := PySem.IsL.update e f
  rw [hf] at q
  refine I.write (x := l) (e := l) (by rw [hH]; exact trivial) (.inl rfl) (fun b' u hb hu => (Heap.get?_update_other s.heap (Obj.mapSeq f) (Ne.symm hb)).trans hu) ⟨_, q⟩ ?_
  exact ⟨hz, its', _, hv, q⟩
theorem Inv.lstM (I : Inv X pins σ H s) (hH : H l = some (.lst xs)) : xs.length ≤ sizeLine ∧ ∃ (its : List Value) (n : Nat), Vals xs its ∧ xs.length = its.length ∧ s.heap.get? l = some { cls := .type "list", data := .seq its.toArray n } := by
  obtain ⟨z, its, n, r, e⟩ := I.hok l _ hH
  exact ⟨z, its, n, r, r.length, e⟩

end

section
variable {X : Cx}

/-! ### methods -/
def rAppend : V → List V → Hp → VK → Prop := fun x vs H Q => ∃ l xs y, x = .ref l ∧ vs = [y] ∧ H l = some (.lst xs) ∧ xs.length < sizeLine ∧ Q .non (upd H l (.lst (xs ++ [y])))
theorem mt_append : MtM X "list.append" rAppend := by
  intro pins s σ H x vs v us Q I rx rv h
  obtain ⟨l, xs, y, rfl, rfl, hH, hz, q⟩ := h
  cases rx
  obtain ⟨u, rfl, ru⟩ := rv.one
  obtain ⟨z, its, n, r, hl, e⟩ := I.lstM hH
  refine call_meets F.slot_list_append ⟨_, e, rfl⟩ F.entry_list_append (F.args_list_append_2 _ _) (PySem.list_append l its.toArray n u (by rw [List.size_toArray]; omega)) ⟨e, ?_⟩
  refine ⟨.non, _, I.lset (its' := its ++ [u]) hH e (by simp) (r.append (.cons ru .nil)) ?_, rfl, q⟩
  rw [List.length_append, List.length_singleton]
  omega

def rExtend : V → List V → Hp → VK → Prop := fun x vs H Q => ∃ l b xs zs, x = .ref l ∧ vs = [.ref b] ∧ H l = some (.lst xs) ∧ H b = some (.lst zs) ∧ xs.length + zs.length ≤ sizeLine ∧ Q .non (upd H l (.lst (xs ++ zs)))
def rPop : V → List V → Hp → VK → Prop := fun x vs H Q => ∃ l xs y, x = .ref l ∧ vs = [] ∧ H l = some (.lst xs) ∧ xs[xs.length - 1]? = some y ∧ Q y (upd H l (.lst xs.dropLast))
def rPopAt : V → List V → Hp → VK → Prop := fun x vs H Q => ∃ l xs i k y, x = .ref l ∧ vs = [.int i] ∧ H l = some (.lst xs) ∧ -(2 ^ 63) ≤ i ∧ i < 2 ^ 63 ∧ seqIndex? i xs.length = some k ∧ xs[k]? = some y ∧ Q y (upd H l (.lst (xs.eraseIdx k)))
def rReverse : V → List V → Hp → VK → Prop := fun x vs H Q => ∃ l xs, x = .ref l ∧ vs = [] ∧ H l = some (.lst xs) ∧ Q .non (upd H l (.lst xs.reverse))
def rClear : V → List V → Hp → VK → Prop := fun x vs H Q => ∃ l xs, x = .ref l ∧ vs = [] ∧ H l = some (.lst xs) ∧ Q .non (upd H l (.lst []))
/-! ### list + list, list += list, list * int -/
def rCat : R2 := fun x y H Q => ∃ l b xs zs, x = .ref l ∧ y = .ref b ∧ H l = some (.lst xs) ∧ H b = some (.lst zs) ∧ xs.length + zs.length ≤ sizeLine ∧ ∀ p, H p = none → Q (.ref p) (upd H p (.lst (xs ++ zs)))
/-- a list times an int (a negative one is nothing) -/
def rRep : R2 := fun x y H Q => ∃ l k xs, x = .ref l ∧ y = .int k ∧ H l = some (.lst xs) ∧ -(2 ^ 63) ≤ k ∧ k < 2 ^ 63 ∧ xs.length * k.toNat ≤ sizeLine ∧
  ∀ p, H p = none → Q (.ref p) (upd H p (.lst (List.replicate k.toNat xs).flatten))
/-! ### del xs[i] -/
end

/-! ### xs[a:b] = ys -/
section
variable {prog : Program} {w : World} {A : Around} {E : Value → Shared → Prop} {s : Shared}
end

section
variable {X : Cx}
end
end L2

namespace Att
open PySem PySem.W PySem.Calls PyProof.Rows

/-! ### the script -/
theorem ints_of_wellAll {P : Params} {h : Heap} : ∀ (ns : List Int) (vs : List Value), WellAll P h vs (ns.map WData.int) → IntsAre vs ns := by
  intro ns
  induction ns with
  | nil =>
    intro vs w
    rw [List.map_nil] at w
    cases w
    exact .nil
  | cons n ns ih =>
    intro vs w
    rw [List.map_cons] at w
    cases w with
    | cons a b =>
      cases a
      exact .cons _ _ (ih _ b)

theorem script_of {l : OpenLaw} {n : Nat} (hn : l.most = some n) {P : Params} {h : Heap} {args : List WData} {vals : List Value}
    (hpre : l.row.toRowW.claim.pre args = true) (hwl : WellAll P h vals args) :
    ∃ a vs ns, vals = [Value.ref a] ∧ args = [WData.list (ns.map WData.int)] ∧ h.get? a = some { cls := .type "list", data := .seq vs.toArray } ∧ IntsAre vs ns ∧ ns.length ≤ n := by
  have hsh : WShape.hasAll [] args [.list .int] = true := (pre_splitW hpre).1
  have hc : l.pre.holds [] { args := args } = true := (pre_splitW hpre).2
  obtain ⟨d, r, rfl, h1, h2⟩ := hasAllW_cons hsh
  obtain rfl := hasAllW_nil h2
  obtain ⟨xs, rfl, h3⟩ := hasW_list h1
  obtain ⟨ns, rfl⟩ := items_int h3
  have hlen : ns.length ≤ n := by
    unfold OpenLaw.pre at hc
    have h4 : (WTm.not (.lt (.lit (.int (n : Int))) (.len (.arg 0)))).holds [] { args := [.list (ns.map .int)] } = true := by
      have h4 := (holds_andW hc).1
      rw [hn] at h4
      exact h4
    have h5 := condW_of h4 (w_not (w_lt w_lit (w_len_list (w_arg rfl))))
    rw [List.length_map] at h5
    refine Nat.le_of_not_lt fun q => ?_
    have q' : (n : Int) < ((ns.length : Nat) : Int) := by omega
    first
      | (rw [decide_eq_true q'] at h5; exact absurd h5 (by decide))
      | (simp at h5; omega)
  cases hwl with
  | cons w1 w2 =>
    cases w2
    cases w1 with
    | list ho hall => exact ⟨_, _, ns, rfl, rfl, ho, ints_of_wellAll ns _ hall, hlen⟩

theorem post_true (l : OpenLaw) (args : List WData) : l.row.toRowW.claim.post args (.bool true) args = true :=
  postW_of (r := l.row.toRowW) (X := (true == true))
    (show WShape.has [] (.bool true) .bool = true by first | rfl | decide | simp [WShape.has, WShape.arms, WShape.armsAll])
    (show (WTm.eq .res (.lit (.bool true))).value [] { args := args, res := some (.bool true), after := args } = some (.bool (true == true)) from w_eq_bool (w_res rfl) w_lit) rfl

/-! ### the attachment: holds_open's last premise (the goal 'hc' behind k_head) from a wpAny of the law's body -/
/-- the same from a codeAny of the CALL (for a layer whose function contracts speak of calls) -/
theorem attach_call {l : OpenLaw} {n : Nat} {q : Program} {loose : List Str} {XP : (Str → Option Value) → Heap → Prop} {YP : World → Heap → Prop} {d : DefRec}
    (hn : l.most = some n) (hdf : d.params.defaults = [])
    (call : ∀ (w : World) (s₀ s₁ : Shared) (mg mb : Str → Option Value) (fa : Addr) (o : Obj) (pm cd doc : Value) (a : Addr) (vs : List Value) (ns : List Int),
      Ground q loose [] XP w s₀ mg mb s₁.heap → YP w s₁.heap →
      s₁.heap.get? fa = some o → o.data = .func (docDef d.name d.params d.body d.scope pm cd doc) → s₁.heap.CodeRec cd d.name → mg d.name = some (.ref fa) →
      s₁.heap.get? a = some { cls := .type "list", data := .seq vs.toArray } → IntsAre vs ns → ns.length ≤ n → s₁.gens = #[] →
      codeAny (model l.prog w) callerA (.call (.ref fa) ⟨[.ref a], []⟩) (fun r s' => r = .ok (.ret (.bool true)) ∧ OldK s₁.heap s'.heap ∧ s'.os = s₁.os ∧ AllBare s'.gens) s₁) :
    WalkO q loose XP YP l.row.toRowW d [] (fun f vs => PySem.call f vs) := by
  intro w s₀ s₁ mg mb G Y fa o pm cd doc dV kV ho hd hcd hD hmg hg args vals as hpre hlay hrd hwl hlo
  obtain rfl : dV = .none := Dflts.none hD hdf
  obtain rfl : kV = .none := Dflts.noKw hD
  obtain ⟨a, vs, ns, rfl, rfl, hobj, hints, hlen⟩ := script_of hn hpre hwl
  refine enter_call (codeAny_mono (call w s₀ s₁ mg mb fa o pm cd doc a vs ns G Y ho (fd_plain hd) hcd hmg hobj hints hlen hg) fun r s' hq => ?_)
  obtain ⟨rfl, h2, h3, h4⟩ := hq
  exact ⟨.inl ⟨.bool true, .bool true, [], rfl, fun _ => rfl, .bool true, post_true l _, fun _ => ⟨List.Pairwise.nil, fun _ hm => (nomatch hm)⟩⟩, h2, h3, h4⟩

/-! ### rules over ANY heap (no ledger) from facts about the written part K: the library's own take a ledger (News) for what they write -/
section
variable {prog : Program} {w : World} {A : Around} {E : Value → Shared → Prop} {s : Shared} {K : Frag}

/-! the whole heap as the ledger: makes every rule that writes through a ledger a rule over any heap -/
def noObjs (h : Heap) : Heap := { h with objs := #[] }
def ledger (h : Heap) (L d : Addr) : List (Addr × Obj) := (List.range h.objs.size).filterMap fun a => if a = L ∨ a = d then none else (h.get? a).map fun o => (a, o)
end
end Att

namespace L2
open PySem PySem.Spec PyProof.Rows

theorem vals_ints : ∀ {vs : List Value} {ns : List Int}, IntsAre vs ns → Vals (ns.map V.int) vs
  | _, _, .nil => .nil
  | _, _, .cons n t h => .cons ⟨t, rfl⟩ (vals_ints h)

/-- nothing is tracked but the script, known to the object (or it is an object of the module) -/
def Only (H : Hp) : Prop := ∀ b, H b = none ∨ ∃ o xs, H b = some (.frz o (.lst xs))

/-- THE HEAD: the law's promise, at the heap behind the top. F, the promise of the law's def, may use that base is part of the heap (so K.In base, base.Ns mainGlobals mg stand in Mod) -/
theorem law_call {P : Program} {w : World} {K : PySem.W.Frag} {mg mb : Str → Option Value} {CX : CXT} {k : Nat} {fa a : Addr} {fd : FuncData} {x : Str} {sp : Sp} {s₁ : Shared} {vs : List Value} {ns : List Int}
    (KX : K.In s₁.heap) (hns : s₁.heap.Ns mainGlobals mg) (hb : s₁.heap.Ns builtinsNs mb) (hbb : ∀ x : Str, x ≠ "__name__" → mb x = bootBuiltins x) (hlim : s₁.heap.NoLimit) (hg : s₁.gens = #[])
    (ha : s₁.heap.get? a = some { cls := .type "list", data := .seq vs.toArray }) (hi : IntsAre vs ns) (hl : ns.length ≤ sizeLine) (hr : Room k callerA)
    (F : ∀ base : Heap, K.In base → base.Ns mainGlobals mg → FnOk P w K mg base CX k fa fd [x] sp) (hbind : ∀ (s : Shared) (u : Value), BindsTo s fd ⟨[u], []⟩ [(x, u)])
    (hsp : ∀ H : Hp, Only H → SqL K H a (ns.map V.int) → sp [.ref a] H (fun v _ => v = .bl true) fun _ _ _ => False)
    (hCX : ∀ H e s', CX [] H s₁ (fun _ _ _ => False) e s' → False) :
    codeAny (model P w) callerA (.call (.ref fa) ⟨[.ref a], []⟩) (fun r s' => r = .ok (.ret (.bool true)) ∧ OldK s₁.heap s'.heap ∧ s'.os = s₁.os ∧ AllBare s'.gens) s₁ := by
  have rv := vals_ints hi
  have lenV := hi.length
  -- from an abstract heap in which nothing but the script may be tracked
  have core : ∀ H : Hp, Only H → SqL K H a (ns.map V.int) → HOk P w H s₁.heap → (∀ b, H b ≠ none → b = a) → (H a ≠ none → K.lookup a = none) →
      codeAny (model P w) callerA (.call (.ref fa) ⟨[.ref a], []⟩) (fun r s' => r = .ok (.ret (.bool true)) ∧ OldK s₁.heap s'.heap ∧ s'.os = s₁.os ∧ AllBare s'.gens) s₁ := by
    intro H hO hS hok hA hK
    have base_of : ∀ {b : Addr} {o : Obj}, s₁.heap.get? b = some o → H b = none → (hidT s₁.heap H).get? b = some o := fun e n => hidT_get e n
    have noA : ∀ {b : Addr} {o : Obj} {es : Array DictEntry} {ep : Nat}, s₁.heap.get? b = some o → o.data = .dict es ep → H b = none := fun {b o es ep} e d => by
      cases q : H b with
      | none => rfl
      | some u =>
        have e' : b = a := hA b (by rw [q]; simp)
        subst e'
        rw [ha] at e; cases e
        have d' : Data.seq vs.toArray _ = Data.dict es ep := d
        cases d'
    have nsK : ∀ {b : Addr} {m : Str → Option Value}, s₁.heap.Ns b m → (hidT s₁.heap H).Ns b m := fun {b m} ⟨o, es, ep, e, d, r⟩ => ⟨o, es, ep, base_of e (noA e d), d, r⟩
    have hKb : K.In (hidT s₁.heap H) := fun b o e => base_of (KX b o e) (by
      cases q : H b with
      | none => rfl
      | some u =>
        have e' : b = a := hA b (by rw [q]; simp)
        subst e'
        rw [hK (by rw [q]; simp)] at e; cases e)
    have hM : Mod K mg (hidT s₁.heap H) := ⟨hKb, nsK hns, ⟨mb, nsK hb, hbb⟩, let ⟨mc, h1, h2⟩ := hlim; ⟨mc, nsK h1, h2⟩⟩
    have e0 : Env0 P w K mg (hidT s₁.heap H) callerA [] s₁ H := ⟨rfl, hM, fun b o e => of_hidT e, Nat.le_of_eq (hidT_size _ _), trivial, fun b hb => absurd (show b ∈ ([] : List Addr) from hb) (by simp), hok, .of_eq hg⟩
    refine codeAny_mono ((F _ hKb (nsK hns)).run callerA [] s₁ H ⟨[.ref a], []⟩ [.ref a] [.ref a] _ _ hr e0 (hbind s₁ (.ref a)) (.cons rfl .nil) (hsp H hO hS)) fun r s' h => ?_
    cases r with
    | error e => exact (hCX H e s' h).elim
    | ok fl =>
      cases fl with
      | next => exact False.elim h
      | brk => exact False.elim h
      | cont => exact False.elim h
      | ret u =>
        obtain ⟨v, H', os, bare, un, hok', r', q⟩ := h
        have q' : v = .bl true := q
        subst q'
        obtain rfl : u = Value.bool true := r'
        refine ⟨rfl, OldK.of_keep fun b o e => ?_, os, bare⟩
        cases q : H b with
        | none => exact un.keep b o e q (by intro z; exact absurd (show b ∈ ([] : List Addr) from z) (by simp)) (by simp)
        | some u =>
          rcases hO b with z | ⟨ob, xs, z⟩
          · rw [q] at z; cases z
          · have z2 := un.frzs b ob _ z
            obtain ⟨e1, _⟩ := hok b _ z
            obtain ⟨e2, _⟩ := hok' b _ z2
            rw [e] at e1; cases e1
            exact e2
  cases hk : K.lookup a with
  | some o =>
    -- the script is one of the module's own objects
    have e := KX a o hk
    rw [ha] at e
    cases e
    refine core (fun _ => none) (fun _ => .inl rfl) (.inr ⟨_, vs.toArray, _, hk, rfl, rfl, rfl, by rw [List.size_toArray, lenV]; exact hl, by simpa using rv⟩) (fun b u z => by have z' : (none : Option HO) = some u := z; cases z') (fun b z => absurd rfl z) fun z => absurd rfl z
  | none =>
    refine core (fun b => if b = a then some (.frz { cls := .type "list", data := .seq vs.toArray } (.lst (ns.map V.int))) else none) (fun b => ?_) (.inl (.inr ⟨{ cls := .type "list", data := .seq vs.toArray }, if_pos rfl⟩)) (fun b u z => ?_) (fun b z => ?_) fun _ => hk
    · by_cases hb : b = a
      · exact .inr ⟨_, _, if_pos hb⟩
      · exact .inl (if_neg hb)
    · by_cases hb : b = a
      · have z' := (if_pos hb).symm.trans z
        cases z'
        subst hb
        exact ⟨ha, by rw [List.length_map]; exact hl, vs, _, rv, ha⟩
      · have z' := (if_neg hb).symm.trans z
        cases z'
    · by_cases hb : b = a
      · exact hb
      · exact absurd (if_neg hb) z
end L2

namespace L2
open PySem PySem.Spec PyProof.Rows

abbrev KOf {K : PySem.W.Frag} {h : Heap} (_ : K.In h) : PySem.W.Frag := K

/-- the goal that k_head leaves (case hc), from the law's promise. F gives the function object fd (K's own) once, then the promise over every base -/
theorem walk_of {l : PySem.W.OpenLaw} {n k : Nat} {q : Program} {loose : List Str} {XP : (Str → Option Value) → Heap → Prop} {YP : World → Heap → Prop} {d : DefRec} {K : Params → PySem.W.Frag} {CX : World → CXT} {sp : World → Sp} {x : Str}
    (hn : l.most = some n) (hn2 : n ≤ sizeLine) (hdf : d.params.defaults = []) (hr : Room k callerA)
    (hY : ∀ (w : World) (h : Heap), YP w h → (K w.params).In h)
    (F : ∀ (w : World) (mg : Str → Option Value) (fa : Addr) (h : Heap), (K w.params).In h → h.Ns mainGlobals mg → mg d.name = some (.ref fa) →
      ∃ fd : FuncData, (∀ (s : Shared) (u : Value), BindsTo s fd ⟨[u], []⟩ [(x, u)]) ∧
        ∀ base : Heap, (K w.params).In base → base.Ns mainGlobals mg → FnOk l.prog w (K w.params) mg base (CX w) k fa fd [x] (sp w))
    (hsp : ∀ (w : World) (H : Hp) (a : Addr) (ns : List Int), ns.length ≤ n → Only H → SqL (K w.params) H a (ns.map V.int) → sp w [.ref a] H (fun v _ => v = .bl true) fun _ _ _ => False)
    (hCX : ∀ (w : World) (H : Hp) (s : Shared) (e : Value) (s' : Shared), CX w [] H s (fun _ _ _ => False) e s' → False) :
    PySem.W.WalkO q loose XP YP l.row.toRowW d [] (fun f vs => PySem.call f vs) := by
  refine Att.attach_call hn hdf fun w s₀ s₁ mg mb fa o pm cd doc a vs ns G Y ho hd hcd hmg hobj hints hlen hg => ?_
  have KX := hY w _ Y
  obtain ⟨fd, hb, hF⟩ := F w mg fa _ KX G.T.g hmg
  exact law_call KX G.T.g G.T.b G.T.builtins G.T.nolimit hg hobj hints (Nat.le_trans hlen hn2) hr hF hb (fun H hO hS => hsp w H a ns hlen hO hS) fun H e s' => hCX w H s₁ e s'
end L2

/- THE LAST THEOREM (shape; LID, My.* are yours):
   My.Adr: a structure of the addresses that your layer names (classes, functions); My.Txt K t: a structure (Prop) of the equations over K;
   My.txt_mk : {K} {implicit addresses ..} (e1 : nsIn K mainGlobals "law" = some (some (.ref f))) (e2 : K.lookup f = some ⟨oc, od, .func (fnOf "law" "law" params body scope dV kV doc pm an cdv ct), sl⟩) (e3 : codeIn K cdv "law" = true) .. : ∃ t, My.Txt K t

set_option maxRecDepth 100000 in
set_option maxHeartbeats 0 in
theorem PySem.Challenge.cw_LID_holds : PySem.Challenge.rw_LID.Holds := by
  w_on; o_law; k_head; (case hw => w_witness2)
  k_fill
  refine L2.walk_of (l := PySem.Challenge.rw_LID) (n := 63) (k := 40) (x := "script") (CX := fun w => ..) (sp := fun _ => My.sp_law) rfl (by decide) rfl ⟨rfl, by decide, by decide⟩ (fun w h Y => PySem.W.kIn_of Y) ?F ?S ?C
  case F =>
    intro w mg fa h KX G hmg
    have T : ∃ t, My.Txt (L2.KOf KX) t := by
      dsimp only [L2.KOf]                          -- K must stand as «<heap const> w.params» for k_is
      refine' My.txt_mk ?e1 ?e2 ?e3 ..
      (case e1 => PySem.W.k_is)                    -- in the order: a name -> its address -> its object -> its parts
      (case e2 => PySem.W.k_is)
      ..
    obtain ⟨t, T⟩ := T
    have e0 := hmg.symm.trans (PySem.W.mg_of KX G T.law)
    cases e0                                       -- fa is the law's own address
    exact ⟨_, fun s u => .of_eq rfl, fun base kb nb => My.law_fn T kb nb⟩     -- if «.of_eq rfl» comes too early: refine' ⟨_, ?b, fun base kb nb => My.law_fn T kb nb⟩; exact fun s u => .of_eq rfl
  case S => exact fun w H a ns hl hO hS => ..
  case C => exact ..
(the tactic k_is has no namespace: write k_is) -/

/-! SHORT WORDS over the layer: a def of the text, its body, what a loop and a test want. -/
namespace L2
open PySem PySem.Spec PyProof.Rows

/-! ### the text by places -/
/-- the j-th statement of a class's body -/
def inClass (s : Stmt) (j : Nat) : Stmt := match s with
  | .ClassDef _ _ _ body _ _ _ _ _ _ _ => body.getD j (.Pass ⟨0, 0, 0, 0⟩)
  | _ => .Pass ⟨0, 0, 0, 0⟩
def defArgs (s : Stmt) : Arguments := match s with
  | .FunctionDef _ a _ _ _ _ _ _ _ _ => a
  | _ => { posonlyargs := [], args := [], vararg := none, kwonlyargs := [], kw_defaults := [], kwarg := none, defaults := [] }
def defBody (s : Stmt) : List Stmt := match s with
  | .FunctionDef _ _ b _ _ _ _ _ _ _ => b
  | _ => []
def defScope (s : Stmt) : Scope := match s with
  | .FunctionDef _ _ _ _ _ _ sc _ _ _ => sc
  | _ => { kind := .function, names := [], isGenerator := false, isCoroutine := false }

/-! ### no exception leaves a def -/
abbrev CX0 : CXT := fun _ _ _ _ _ _ => False
abbrev E0 : XK := fun _ _ _ => False
theorem pass0 {X : Cx} : Passes CX0 X E0 := fun _ _ _ _ _ _ _ h => h.elim

/-! ### a def (or method) of the text as it stands behind the top -/
structure Fun (K : PySem.W.Frag) (x qual : Str) (st : Stmt) (f : Addr) (fd : FuncData) : Prop where
  ex : ∃ (oc : Value) (od : Option Addr) (kV doc pm : Value) (an : Option Addr) (cdv ct : Value) (osl : Array (Option Value)),
    fd = PySem.W.fnOf x qual (defArgs st) (defBody st) (defScope st) .none kV doc pm an cdv ct ∧ K.lookup f = some ⟨oc, od, .func fd, osl⟩ ∧ PySem.W.codeIn K cdv qual = true
  kp : PySem.W.keepIn K (.ref f) = true
section
variable {P : Program} {w : World} {K : PySem.W.Frag} {mg : Str → Option Value} {base : Heap}
/-- THE RULE for a def: its body as a term of rules, and the reading of that term -/
theorem Fun.ok {x qual : Str} {st : Stmt} {f : Addr} {fd : FuncData} {N ps : List Str} {k : Nat} {sp : Sp} (F : Fun K x qual st f fd) (S : FnScope N ps (defScope st)) (len : ∀ vs H Q E, sp vs H Q E → vs.length = ps.length)
    (hbody : ∀ (cdv : Value) (A : Around) (outer : List Env) (s : Shared) (H : Hp) (vs : List V) (Q : VK) (E : XK), Room k (A.deeper (envOfC qual (defScope st) s.heap.objs.size f cdv)) → sp vs H Q E →
      ∃ t, PSs (cxOf CX0 P w K mg base N qual (defScope st) f cdv A outer s H E).nox (defBody st) t ∧ t { nx := fun _ H' => Q .non H', rt := Q } (start N vs) H) : FnOk P w K mg base CX0 (k + 1) f fd ps sp := by
  obtain ⟨oc, od, kV, doc, pm, an, cdv, ct, osl, rfl, lk, hcd⟩ := F.ex
  refine fn_of lk hcd S len fun A outer s H vs Q E hr hsp => ?_
  obtain ⟨t, h, q⟩ := hbody cdv A outer s H vs Q E hr hsp
  exact ⟨t, h.nox, q⟩
/-- how its arguments bind (no defaults): h is «fun _ _ _ _ _ _ us hl => match us, hl with | [_, _], _ => rfl», one _ a parameter -/
theorem Fun.binds {x qual : Str} {st : Stmt} {f : Addr} {fd : FuncData} {ps : List Str} (F : Fun K x qual st f fd)
    (h : ∀ (kV doc pm : Value) (an : Option Addr) (cdv ct : Value) (us : List Value), us.length = ps.length → bindArgs (PySem.W.fnOf x qual (defArgs st) (defBody st) (defScope st) .none kV doc pm an cdv ct) ⟨us, []⟩ = pure (ps.zip us)) : Binds K fd ps [] := by
  obtain ⟨oc, od, kV, doc, pm, an, cdv, ct, osl, rfl, lk, hcd⟩ := F.ex
  exact .all (h kV doc pm an cdv ct)
theorem fun_mk {x qual : Str} {st : Stmt} {f : Addr} {oc : Value} {od an : Option Addr} {osl : Array (Option Value)} {kV doc pm cdv ct : Value} (l : K.lookup f = some ⟨oc, od, .func (PySem.W.fnOf x qual (defArgs st) (defBody st) (defScope st) .none kV doc pm an cdv ct), osl⟩)
    (c : PySem.W.codeIn K cdv qual = true) (k : PySem.W.keepIn K (.ref f) = true) : Fun K x qual st f (PySem.W.fnOf x qual (defArgs st) (defBody st) (defScope st) .none kV doc pm an cdv ct) := ⟨⟨oc, od, kV, doc, pm, an, cdv, ct, osl, rfl, l, c⟩, k⟩
end
theorem small1000 {n : Nat} (h : n ≤ 1000) : n < sizeLine := Nat.lt_of_le_of_lt h (by decide)

/-! ### expressions in short: the name that stands in the i-th slot -/
section
variable {X : Cx}
theorem pv (i : Nat) {x : Str} {pos : Pos} (hN : X.N[i]? = some x := by rfl) (hv : Vis X.env.scope x := by first | exact Or.inl rfl | exact Or.inr (Or.inl rfl) | exact Or.inr (Or.inr rfl)) (hd : (x == ("__debug__" : Str)) = false := by decide)
    (hcd : (x == ("__classdict__" : Str)) = false := by decide) : PE X (.Name x pos) (tVar i) := pe_var hN hv hd hcd
end

/-! ### tests -/
theorem iteF {A B : Prop} (h : B) : if false = true then A else B := by
  rw [if_neg Bool.false_ne_true]
  exact h
theorem iteT {A B : Prop} (h : A) : if true = true then A else B := by
  rw [if_pos rfl]
  exact h
theorem iteNS {c A B : Prop} [Decidable c] (hc : c) (h : B) : if (!decide c) = true then A else B := by
  rw [decide_eq_true hc]
  exact iteF h

/-! ### heaps -/
/-- all that was tracked is as it was -/
def Same (H H' : Hp) : Prop := ∀ b o, H b = some o → H' b = some o
theorem Same.refl (H : Hp) : Same H H := fun _ _ h => h
theorem Same.trans {H H1 H2 : Hp} (a : Same H H1) (b : Same H1 H2) : Same H H2 := fun c o h => b c o (a c o h)
theorem Same.seq {K : PySem.W.Frag} {H H' : Hp} {a : Addr} {xs : List V} (e : Same H H') (h : SqL K H a xs) : SqL K H' a xs := by
  rcases h with (h | ⟨o, h⟩) | h
  · exact .inl (.inl (e _ _ h))
  · exact .inl (.inr ⟨o, e _ _ h⟩)
  · exact .inr h

end L2

set_option Elab.async false
set_option maxRecDepth 100000
set_option maxHeartbeats 4000000
namespace L2
open PySem PySem.Spec PyProof.Rows
/-! ## X1. texts: a loop over the signs -/
def Its (x : Str) : It := ⟨fun i _ => i < x.length, fun i H v H' => H' = H ∧ ∃ c, x.cps[i]? = some c ∧ v = .str ⟨#[c]⟩, fun i _ => x.length ≤ i⟩
theorem turn_strA {P : Program} {w : World} {K : PySem.W.Frag} {tg : Expr} (x : Str) (t : Tok) (it : Addr) : Turn P w K tg (Its x) [it] it (fun i h => h.IsStrIter it "str_ascii_iterator" x t i) where
  mem := by simp
  obj := fun i h st b hb => by
    have e : b = it := by simpa using hb
    subst e
    obtain ⟨o, e, c, d⟩ := st
    exact ⟨o, e, fun v z => by rw [d] at z; cases z⟩
  keep := fun i h h' st k => by
    obtain ⟨o, e, r⟩ := st
    exact ⟨o, k it (by simp) o e, r⟩
  item := by
    intro X hP hw hK hc i pins s σ H E I hf st hg
    subst hP hw hK
    have hg : i < x.cps.size := hg
    obtain ⟨f0, f1, f2, f3, f4, f5⟩ := hf it (by simp)
    refine wpAny_pyNext_ascii_item st (c := x.cps[i]) (by simp [hg]) fun h' st' sb => ?_
    have I1 : Inv X pins σ H { s with heap := h', toks := s.toks + 1 } := I.turned (t' := s.toks + 1) (fun b o hb e => (sb.2 b hb).trans e) f0 f1 f3 f4 f5
    obtain ⟨o, e, c, d⟩ := id st'
    exact ⟨_, rfl, go_of (s := { s with heap := h', toks := s.toks + 1 }) e c d (by decide) ⟨.str ⟨#[x.cps[i]]⟩, H, I1, ⟨_, rfl⟩, ⟨rfl, _, by simp [hg], rfl⟩, st', fun b hb => (hf b hb).1⟩⟩
  done := by
    intro X hP hw hK hc i pins s σ H E I hf st hg
    subst hP hw hK
    have hg : x.cps.size ≤ i := hg
    obtain ⟨f0, f1, f2, f3, f4, f5⟩ := hf it (by simp)
    exact wpAny_pyNext_ascii_end (I.ok.hd hc) st (by simp [hg]) fun h' eb => ⟨rfl, I.turned (t' := s.toks) (fun b o hb e => eb b o hb e) f0 f1 f3 f4 f5⟩
  self := fun _ _ _ _ _ st h => wpAny_pyIter_striter_ascii st h
theorem turn_strW {P : Program} {w : World} {K : PySem.W.Frag} {tg : Expr} (x : Str) (t : Tok) (it : Addr) : Turn P w K tg (Its x) [it] it (fun i h => h.IsStrIter it "str_iterator" x t i) where
  mem := by simp
  obj := fun i h st b hb => by
    have e : b = it := by simpa using hb
    subst e
    obtain ⟨o, e, c, d⟩ := st
    exact ⟨o, e, fun v z => by rw [d] at z; cases z⟩
  keep := fun i h h' st k => by
    obtain ⟨o, e, r⟩ := st
    exact ⟨o, k it (by simp) o e, r⟩
  item := by
    intro X hP hw hK hc i pins s σ H E I hf st hg
    subst hP hw hK
    have hg : i < x.cps.size := hg
    obtain ⟨f0, f1, f2, f3, f4, f5⟩ := hf it (by simp)
    refine wpAny_pyNext_wide_item st (c := x.cps[i]) (by simp [hg]) fun h' st' sb => ?_
    have I1 : Inv X pins σ H { s with heap := h', toks := s.toks + 1 } := I.turned (t' := s.toks + 1) (fun b o hb e => (sb.2 b hb).trans e) f0 f1 f3 f4 f5
    obtain ⟨o, e, c, d⟩ := id st'
    exact ⟨_, rfl, go_of (s := { s with heap := h', toks := s.toks + 1 }) e c d (by decide) ⟨.str ⟨#[x.cps[i]]⟩, H, I1, ⟨_, rfl⟩, ⟨rfl, _, by simp [hg], rfl⟩, st', fun b hb => (hf b hb).1⟩⟩
  done := by
    intro X hP hw hK hc i pins s σ H E I hf st hg
    subst hP hw hK
    have hg : x.cps.size ≤ i := hg
    obtain ⟨f0, f1, f2, f3, f4, f5⟩ := hf it (by simp)
    exact wpAny_pyNext_wide_end (I.ok.hd hc) st (by simp [hg]) fun h' eb => ⟨rfl, I.turned (t' := s.toks) (fun b o hb e => eb b o hb e) f0 f1 f3 f4 f5⟩
  self := fun _ _ _ _ _ st h => wpAny_pyIter_striter_wide st h
def iStr (tl : TE) : TI := fun σ H R => tl σ H fun v H1 => ∃ x, v = .str x ∧ R (Its x) H1
theorem pi_str {X : Cx} {tg l : Expr} {tl : TE} (hl : PE X l tl) : PI X tg l (iStr tl) := by
  intro pins s σ H R I h
  refine thn (hl pins s σ H _ I h) fun v s1 ⟨y, H1, I1, r1, q1⟩ => ?_
  obtain ⟨x, rfl, q⟩ := q1
  obtain ⟨t, rfl⟩ := r1
  cases ha : x.cps.all (· < 128)
  · refine wpAny_pyIter_wide ha ?_
    refine ⟨s1.heap.objs.size, [s1.heap.objs.size], _, _, H1, rfl, I1.kept (t' := s1.toks) fun b o e => Heap.get?_push_of_some _ e, turn_strW x t _, ⟨_, Heap.get?_push_size _ rfl, rfl, rfl⟩, fun b hb => ?_, q⟩
    have e : b = s1.heap.objs.size := by simpa using hb
    subst e
    exact I1.fpOk (Nat.le_refl _) (I1.hok.fresh (Nat.le_refl _))
  · refine wpAny_pyIter_ascii ha ?_
    refine ⟨s1.heap.objs.size, [s1.heap.objs.size], _, _, H1, rfl, I1.kept (t' := s1.toks) fun b o e => Heap.get?_push_of_some _ e, turn_strA x t _, ⟨_, Heap.get?_push_size _ rfl, rfl, rfl⟩, fun b hb => ?_, q⟩
    have e : b = s1.heap.objs.size := by simpa using hb
    subst e
    exact I1.fpOk (Nat.le_refl _) (I1.hok.fresh (Nat.le_refl _))
theorem for_str {x : Str} {g : TG} {tb : TS} {D : Ends} {σ : St} {H : Hp} (Pv : Nat → St → Hp → Prop) (h0 : Pv 0 σ H)
    (hs : ∀ i c σ H, x.cps[i]? = some c → Pv i σ H → g (.str ⟨#[c]⟩) σ H fun σ2 H2 => tb { D with nx := Pv (i + 1), ct := Pv (i + 1), bk := D.nx } σ2 H2) (hd : ∀ σ H, Pv x.length σ H → D.nx σ H) :
    ∃ W : Nat → Nat → St → Hp → Prop, (∃ m, W 0 m σ H) ∧ ∀ i m σ H, W i m σ H →
      ((Its x).stop i H ∧ D.nx σ H) ∨ ((Its x).go i H ∧ ∃ N : St → Hp → Prop, (∀ σ' H', N σ' H' → ∃ m', m' < m ∧ W (i + 1) m' σ' H') ∧ ∀ y H', (Its x).yld i H y H' → g y σ H' fun σ2 H2 => tb { D with nx := N, ct := N, bk := D.nx } σ2 H2) := by
  refine ⟨fun i m σ H => m = x.length - i ∧ i ≤ x.length ∧ Pv i σ H, ⟨x.length, by simp, Nat.zero_le _, h0⟩, ?_⟩
  rintro i m σ H ⟨rfl, hi, p⟩
  by_cases hlt : i < x.length
  · refine .inr ⟨hlt, Pv (i + 1), fun σ' H' p' => ⟨x.length - (i + 1), by omega, rfl, hlt, p'⟩, fun y H' q => ?_⟩
    obtain ⟨e, c, hc, e2⟩ := q
    subst e e2
    exact hs i c σ _ hc p
  · have e : i = x.length := by omega
    subst e
    exact .inl ⟨Nat.le_refl _, hd σ H p⟩

/-! ## X2. texts: slices, methods, products, order -/
section
variable {X : Cx}
def rSlS : V → Option Int → Option Int → Hp → VK → Prop := fun x lo hi H Q => ∃ z, x = .str z ∧ z.length ≤ sizeLine ∧ Q (.str (Txt.slice z lo hi)) H
theorem sl_str : SlR X rSlS := by
  intro pins s σ H x v vl vu lo hi sl Q I rx hs pl pu h
  obtain ⟨z, rfl, hz, q⟩ := h
  obtain ⟨t, rfl⟩ := rx
  refine ⟨"str", _, PySem.F.slot_str_getitem.lookup, typeIs_str _ _ _, ?_⟩
  have fin : ∀ t' k, EP X pins σ Q (.str (Txt.slice z lo hi) t') { s with toks := k } := fun t' k => ⟨.str _, H, I.tok k, ⟨t', rfl⟩, q⟩
  obtain ⟨o, ho, hc, hd⟩ := hs
  cases pl with
  | none =>
    cases pu with
    | none => exact wpAny_getItem_str_slice (l := none) (u := none) (st := none) ⟨o, ho, hc, hd⟩ rfl (post_val_or_str ⟨Nat.le_trans (Txt.slice_le z _ _) hz, fun t' k => fin t' k⟩)
    | int j uj => exact wpAny_getItem_str_slice (l := none) (u := some (j, uj)) (st := none) ⟨o, ho, hc, hd⟩ rfl (post_val_or_str ⟨Nat.le_trans (Txt.slice_le z _ _) hz, fun t' k => fin t' k⟩)
  | int i ui =>
    cases pu with
    | none => exact wpAny_getItem_str_slice (l := some (i, ui)) (u := none) (st := none) ⟨o, ho, hc, hd⟩ rfl (post_val_or_str ⟨Nat.le_trans (Txt.slice_le z _ _) hz, fun t' k => fin t' k⟩)
    | int j uj => exact wpAny_getItem_str_slice (l := some (i, ui)) (u := some (j, uj)) (st := none) ⟨o, ho, hc, hd⟩ rfl (post_val_or_str ⟨Nat.le_trans (Txt.slice_le z _ _) hz, fun t' k => fin t' k⟩)
def rMt1 (g : Str → Str → V) : V → List V → Hp → VK → Prop := fun x xs H Q => ∃ z y, x = .str z ∧ xs = [.str y] ∧ Q (g z y) H
/-- index of a text that is within -/
def rIndex : V → List V → Hp → VK → Prop := fun x xs H Q => ∃ z y, x = .str z ∧ xs = [.str y] ∧ Txt.contains z y = true ∧ Q (.int (Txt.find z y)) H
def rRstrip : V → List V → Hp → VK → Prop := fun x xs H Q => ∃ z y, x = .str z ∧ xs = [.str y] ∧ z.length ≤ sizeLine ∧ Q (.str (Txt.rstripChars z y)) H
def rJoin (K : PySem.W.Frag) : V → List V → Hp → VK → Prop := fun x xs H Q => ∃ z p ys, x = .str z ∧ xs = [.ref p] ∧ SqL K H p (ys.map V.str) ∧ (ys.map (·.length)).sum + ys.length * z.length ≤ 16777216 ∧ Q (.str (Txt.join z ys)) H
/-- isinstance(x, T), T a built-in type -/
theorem call_isinst {T : String} {b : Bool} : CallR X (.builtin "isinstance") (fun xs H Q => ∃ x t, xs = [x, .ty T] ∧ TyOf X.K H x t ∧ PySem.W.kitOne X.K t (.type T) = some b ∧ Q (.bl b) H) := by
  intro pins s σ H xs us Q I r h
  obtain ⟨x, t, rfl, ty, e, q⟩ := h
  obtain ⟨u, w', rfl, rx, ry⟩ := vals2 r
  cases ry
  exact isinst_ok I rx ty e fun tk => ⟨.bl b, H, I.tok tk, rfl, q⟩
end
end L2

namespace L2
open PySem PySem.Spec PyProof.Rows
/-! ## X3. a comprehension [elt for x in iter if tests] whose block raises nothing -/
def cxComp (X : Cx) (x : Str) (sc : Scope) (cl : List (Str × Addr)) (C : Addr) (fp : List Addr) (s : Shared) (H : Hp) : Cx where
  prog := X.prog
  w := X.w
  K := X.K
  mg := X.mg
  base := X.base
  A := X.A
  N := x :: X.N
  s₀ := s
  H₀ := H
  env := compEnvC sc cl C X.env
  outer := X.stack
  stack := X.stack
  ex := fp
  fn := fun _ => false
  calm := X.calm
  pn := []
  xe := fun _ _ => False
/-- the tests behind the for -/
def PTs (X : Cx) (ifs : List Expr) (t : TT) : Prop :=
  ∀ (pins : List (Addr × Obj)) (s : Shared) (σ : St) (H : Hp) (Q : Bool → Hp → Prop), Inv X pins σ H s → t σ H Q →
    wpAny (model X.prog X.w) X.A (forIn ifs true fun c r => if r = true then do let ok ← isTrue c X.env (eval c X.env); pure (ForInStep.yield ok) else pure (ForInStep.yield r)) (TP X pins σ Q) X.xe s
def tAlways : TT := fun _ H Q => Q true H
theorem tAlways_if {σ : St} {H : Hp} {A B : Hp → Prop} (h : A H) : tAlways σ H (fun b H4 => if b = true then A H4 else B H4) := iteT (A := A H) (B := B H) h
theorem pts_nil {X : Cx} : PTs X [] tAlways := fun _ _ _ H _ I h => wpAny_tests_nil ⟨H, I, h⟩
def tComp (wi : TI) (tt : TT) (te : TE) : TE := fun σ H Q => wi σ H fun J H1 => ∀ D, H1 D = none → ∃ W : Nat → Nat → List V → Hp → Prop,
  (∃ m, W 0 m [] (upd H1 D (.lst []))) ∧ ∀ i m ys H2, W i m ys H2 → H2 D = some (.lst ys) ∧ ((J.stop i H2 ∧ Q (.ref D) H2) ∨ (J.go i H2 ∧ ys.length < sizeLine ∧ ∀ x H3, J.yld i H2 x H3 →
    tt (some x :: σ) H3 fun b H4 => if b = true then te (some x :: σ) H4 fun y H5 => H5 D = some (.lst ys) ∧ ∃ m', m' < m ∧ W (i + 1) m' (ys ++ [y]) (upd H5 D (.lst (ys ++ [y])))
      else ∃ m', m' < m ∧ W (i + 1) m' ys H4))
theorem neA {a b : Nat} (h : a ≠ b) : (show Addr from a) ≠ (show Addr from b) := h
theorem closure_of {sc : Scope} {env : Env} (hf : ∀ y ∈ sc.names, y.2 = .free → ∃ c, env.cells.lookup y.1 = some c) :
    ∃ cl, closureFor sc env = pure cl ∧ (∀ y c, cl.lookup y = some c → env.cells.lookup y = some c) ∧ ∀ y ∈ sc.names, y.2 = .free → ∃ c, cl.lookup y.1 = some c := by
  have go : ∀ (l : List (Str × NameKind)) (acc : List (Str × Addr)), (∀ y ∈ l, y.2 = .free → ∃ c, env.cells.lookup y.1 = some c) → (∀ y c, acc.lookup y = some c → env.cells.lookup y = some c) →
      ∃ cl, (forIn l acc fun (p : Str × NameKind) r => if (p.2 == .free) = true then do let a ← cellOf env p.1; pure (ForInStep.yield ((p.1, a) :: r)) else pure (ForInStep.yield r) : Sem (List (Str × Addr))) = pure cl ∧
        (∀ y c, cl.lookup y = some c → env.cells.lookup y = some c) ∧ (∀ y c, acc.lookup y = some c → ∃ c', cl.lookup y = some c') ∧ ∀ y ∈ l, y.2 = .free → ∃ c, cl.lookup y.1 = some c := by
    intro l
    induction l with
    | nil => intro acc _ ha; exact ⟨acc, rfl, ha, fun y c e => ⟨c, e⟩, fun y hy => by simp at hy⟩
    | cons p r ih =>
      intro acc hl ha
      obtain ⟨n, k⟩ := p
      by_cases hk : k = .free
      · subst hk
        obtain ⟨c, hc⟩ := hl (n, .free) List.mem_cons_self rfl
        have e1 : cellOf env n = pure c := by unfold cellOf; rw [hc]
        have ha' : ∀ y c', ((n, c) :: acc).lookup y = some c' → env.cells.lookup y = some c' := fun y c' e => by
          by_cases hy : (y == n) = true
          · rw [List.lookup_cons, hy] at e
            cases e
            rw [eq_of_beq hy]
            exact hc
          · rw [List.lookup_cons, Bool.eq_false_iff.mpr hy] at e
            exact ha y c' e
        obtain ⟨cl, h1, h2, h3, h4⟩ := ih ((n, c) :: acc) (fun y hy => hl y (List.mem_cons_of_mem _ hy)) ha'
        have kept : ∀ y c', acc.lookup y = some c' → ∃ c'', ((n, c) :: acc).lookup y = some c'' := fun y c' e => by
          by_cases hy : (y == n) = true
          · exact ⟨c, by rw [List.lookup_cons, hy]⟩
          · exact ⟨c', by rw [List.lookup_cons, Bool.eq_false_iff.mpr hy]; exact e⟩
        refine ⟨cl, ?_, h2, fun y c' e => ?_, fun y hy hyf => ?_⟩
        · rw [List.forIn_cons]
          simp only [beq_self_eq_true, if_true, e1, pure_bind]
          exact h1
        · obtain ⟨c'', e'⟩ := kept y c' e
          exact h3 y c'' e'
        · rcases List.mem_cons.mp hy with rfl | hy
          · exact h3 n c (by rw [List.lookup_cons, beq_self_eq_true])
          · exact h4 y hy hyf
      · have hb : (k == NameKind.free) = false := by simpa using hk
        obtain ⟨cl, h1, h2, h3, h4⟩ := ih acc (fun y hy => hl y (List.mem_cons_of_mem _ hy)) ha
        refine ⟨cl, ?_, h2, h3, fun y hy hyf => ?_⟩
        · rw [List.forIn_cons]
          simp only [hb, Bool.false_eq_true, if_false, pure_bind]
          exact h1
        · rcases List.mem_cons.mp hy with rfl | hy
          · exact absurd hyf hk
          · exact h4 y hy hyf
  obtain ⟨cl, h1, h2, _, h4⟩ := go sc.names [] hf (fun y c e => by simp at e)
  refine ⟨cl, ?_, h2, h4⟩
  show ((forIn sc.names [] fun (p : Str × NameKind) r => if (p.2 == .free) = true then do let a ← cellOf env p.1; pure (ForInStep.yield ((p.1, a) :: r)) else pure (ForInStep.yield r) : Sem (List (Str × Addr))) >>= fun s => pure s) = pure cl
  rw [bind_pure, h1]
theorem relabel_lookup {sc : Scope} {env : Env} {y : Str} {k : NameKind} (h : (relabel sc env).names.lookup y = some k) : sc.names.lookup y = some k ∨ (k = .cell ∧ sc.names.lookup y = some .free ∧ env.kindOf y = some .cell) := by
  have go : ∀ (l : List (Str × NameKind)), (l.map fun (n, k) => if (k == .free && env.scope.kind == .function && env.kindOf n == some .cell) then (n, NameKind.cell) else (n, k)).lookup y = some k →
      l.lookup y = some k ∨ (k = .cell ∧ l.lookup y = some .free ∧ env.kindOf y = some .cell) := by
    intro l
    induction l with
    | nil => intro h; simp at h
    | cons p r ih =>
      obtain ⟨n, kk⟩ := p
      intro h
      simp only [List.map_cons] at h
      by_cases hc : (kk == NameKind.free && env.scope.kind == .function && env.kindOf n == some .cell) = true
      · rw [if_pos hc] at h
        rw [List.lookup_cons] at h ⊢
        cases hy : y == n with
        | true =>
          rw [hy] at h
          have e : k = .cell := (Option.some.inj h).symm
          have e1 : kk = .free := by
            have := (Bool.and_eq_true_iff.mp (Bool.and_eq_true_iff.mp hc).1).1
            simpa using this
          have e2 : env.kindOf n = some .cell := by
            have := (Bool.and_eq_true_iff.mp hc).2
            simpa using this
          rw [eq_of_beq hy]
          exact .inr ⟨e, by rw [e1], e2⟩
        | false =>
          rw [hy] at h
          exact ih h
      · rw [if_neg hc] at h
        rw [List.lookup_cons] at h ⊢
        cases hy : y == n with
        | true => rw [hy] at h; exact .inl h
        | false => rw [hy] at h; exact ih h
  exact go sc.names h
section
variable {X : Cx} {elt iter : Expr} {x : Str} {px pos : Pos} {ifs : List Expr} {sc : Scope} {wi : TI} {tt : TT} {te : TE}
end
/-! the forms one uses -/
end L2

namespace L2
open PySem PySem.Spec PyProof.Rows
/-! ## X4. a def of the text that may be called by its name -/
def Df (P : Program) (w : World) (K : PySem.W.Frag) (mg : Str → Option Value) (base : Heap) (x : Str) (k : Nat) (ps : List Str) (sp : Sp) : Prop :=
  ∃ (f : Addr) (fd : FuncData), mg x = some (.ref f) ∧ PySem.W.keepIn K (.ref f) = true ∧ Binds K fd ps [] ∧ FnOk P w K mg base CX0 k f fd ps sp
theorem pe_df {X : Cx} {x : Str} {k : Nat} {ps : List Str} {sp : Sp} {e : Expr} {es : List Expr} {p pos : Pos} {t : TA} (D : Df X.prog X.w X.K X.mg X.base x k ps sp) (hr : Room k X.A) (ha : PA X (e :: es) t)
    (hg : Gl X x := by rfl) (hdb : (x == ("__debug__" : Str)) = false := by decide) (he : starEach (e :: es) X.env = (false, eval e X.env) :: starEach es X.env := by rfl) (hpl : (backTo pos (starEach es X.env)).any (·.1) = false := by rfl) :
    PE X (.Call (.Name x p) (e :: es) [] pos) (tCall sp [] E0 t) := by
  obtain ⟨f, fd, h1, h2, h3, F⟩ := D
  exact pe_call F hr hg h1 h2 h3 .nil pass0 ha hdb he hpl
theorem iteD {c A B : Prop} [Decidable c] (hc : c) (h : A) : if decide c = true then A else B := by
  rw [decide_eq_true hc]
  exact iteT h
theorem iteN {c A B : Prop} [Decidable c] (hc : ¬ c) (h : B) : if decide c = true then A else B := by
  rw [decide_eq_false hc]
  exact iteF h
theorem iteB {c : Bool} {A B : Prop} (h1 : c = true → A) (h2 : c = false → B) : if c = true then A else B := by
  cases c
  · exact iteF (h2 rfl)
  · exact iteT (h1 rfl)
theorem ite3 {c A B : Prop} [Decidable c] (h1 : c → A) (h2 : ¬ c → B) : if decide c = true then A else B := by
  by_cases h : c
  · exact iteD h (h1 h)
  · exact iteN h (h2 h)
theorem Same.upd {H : Hp} {D : Addr} {o : HO} (n : H D = none) : Same H (upd H D o) := fun b u e => by rw [upd_ne (ne_of_none e n)]; exact e
theorem line_ge {n : Nat} (h : n ≤ 16777216) : n ≤ sizeLine := by rw [sizeLine_eq]; exact h
theorem atI_in {α : Type} {xs : List α} {i : Int} (h0 : 0 ≤ i) (h1 : i < xs.length) : ∃ v, atI xs i = some v ∧ xs[i.toNat]? = some v := by
  obtain ⟨j, rfl⟩ := Int.eq_ofNat_of_zero_le h0
  have hj : j < xs.length := by omega
  exact ⟨xs[j], atI_nat (by simp [hj]), by simp [hj]⟩
end L2
namespace L2
open PySem PySem.Spec PyProof.Rows
/-- a statement, what holds behind it, the rest -/
def tCut (t u : TS) : TS := fun D σ H => ∃ M : St → Hp → Prop, t { D with nx := M } σ H ∧ ∀ σ' H', M σ' H' → u D σ' H'
theorem pss_cut {X : Cx} {st : Stmt} {rest : List Stmt} {t u : TS} (h1 : PS X st t) (h2 : PSs X rest u) : PSs X (st :: rest) (tCut t u) := by
  intro pins s σ H D I h
  obtain ⟨M, h, hM⟩ := h
  refine wpAny_execs_cons (thn (h1 pins s σ H { D with nx := M } I h) fun f s1 q => ?_)
  cases f with
  | next =>
    obtain ⟨σ', H', I', q⟩ := q
    exact h2 pins s1 σ' H' D I' (hM σ' H' q)
  | ret v => exact q
  | brk => exact q
  | cont => exact q
def cutI (ns : List Int) (lo hi : Option Int) : List Int := (ns.drop (HT.sIx ns.length 0 lo)).take (HT.sIx ns.length ns.length hi - HT.sIx ns.length 0 lo)
theorem cutV_ints (ns : List Int) (lo hi : Option Int) : cutV (ns.map V.int) lo hi = (cutI ns lo hi).map V.int := by
  unfold cutV cutI
  rw [List.length_map, List.map_take, List.map_drop]
/-- the law's own promise -/
def spLaw (K : PySem.W.Frag) : Sp := fun vs H Q _ => ∃ (a : Addr) (ns : List Int), vs = [.ref a] ∧ SqL K H a (ns.map V.int) ∧ ns.length ≤ 63 ∧ ∀ H', Q (.bl true) H'
theorem walk63 {l : PySem.W.OpenLaw} {k : Nat} {x : Str} {q : Program} {loose : List Str} {XP : (Str → Option Value) → Heap → Prop} {YP : World → Heap → Prop} {d : DefRec} {K : Params → PySem.W.Frag} (hn : l.most = some 63) (hdf : d.params.defaults = []) (hr : Room k callerA)
    (hY : ∀ (w : World) (h : Heap), YP w h → (K w.params).In h)
    (F : ∀ (w : World) (mg : Str → Option Value) (fa : Addr) (h : Heap), (K w.params).In h → h.Ns mainGlobals mg → mg d.name = some (.ref fa) →
      ∃ fd : FuncData, (∀ (s : Shared) (u : Value), BindsTo s fd ⟨[u], []⟩ [(x, u)]) ∧ ∀ base : Heap, (K w.params).In base → base.Ns mainGlobals mg → FnOk l.prog w (K w.params) mg base CX0 k fa fd [x] (spLaw (K w.params))) :
    PySem.W.WalkO q loose XP YP l.row.toRowW d [] (fun f vs => PySem.call f vs) :=
  L2.walk_of (n := 63) (k := k) (x := x) (CX := fun _ => CX0) (sp := fun w => spLaw (K w.params)) hn (by decide) hdf hr hY F (fun _ _ a ns hl _ hS => ⟨a, ns, rfl, hS, hl, fun _ => rfl⟩) fun _ _ _ _ _ z => z
end L2
namespace L2
open PySem PySem.Spec PyProof.Rows
section
variable {X : Cx}
/-- the same, said plainly -/
theorem op_m : OpR X (binaryOp .Mod) (fun x y H Q => ∃ i j, x = .int i ∧ y = .int j ∧ 0 < j ∧ Q (.int (i % j)) H) := op_mod
theorem op_f : OpR X (binaryOp .FloorDiv) (fun x y H Q => ∃ i j, x = .int i ∧ y = .int j ∧ (0 < j ∧ j < 1073741824) ∧ Q (.int (i / j)) H) := op_fdiv
theorem op_a : OpR X (binaryOp .Add) (fun x y H Q => ∃ i j, x = .int i ∧ y = .int j ∧ Q (.int (i + j)) H) := op_add
theorem op_s : OpR X (binaryOp .Sub) (fun x y H Q => ∃ i j, x = .int i ∧ y = .int j ∧ Q (.int (i - j)) H) := op_sub
theorem op_p : OpR X (binaryOp .Mult) (fun x y H Q => ∃ i j, x = .int i ∧ y = .int j ∧ ((-(2 ^ 64) < i ∧ i < 2 ^ 64) ∨ (-(2 ^ 64) < j ∧ j < 2 ^ 64)) ∧ Q (.int (i * j)) H) := op_mul
end
end L2

namespace RA
open PySem PySem.StrLaws Builtin Builtin.Str
/-- a text by its codes -/
def tx (l : List Nat) : Str := ⟨l.toArray⟩
theorem tx_cps (l : List Nat) : (tx l).cps.toList = l := by simp [tx]
theorem tx_len (l : List Nat) : (tx l).length = l.length := by simp [tx, Str.length]
theorem tx_app (a b : List Nat) : tx a ++ tx b = tx (a ++ b) := by
  apply Str.ext'
  show a.toArray ++ b.toArray = (a ++ b).toArray
  simp
theorem idxOf_le : ∀ {l : List Nat} {c i : Nat}, l[i]? = some c → l.idxOf c ≤ i
  | [], _, _, h => by simp at h
  | a :: l, c, 0, h => by
    have e : a = c := by simpa using h
    subst e
    simp
  | a :: l, c, i + 1, h => by
    rw [List.idxOf_cons]
    cases e : a == c with
    | true => simp
    | false =>
      have := idxOf_le (l := l) (c := c) (i := i) (by simpa using h)
      simp
      omega
theorem slice_to (x : Str) {j : Int} (h : 0 ≤ j) : Txt.slice x none (some j) = tx (x.cps.toList.take j.toNat) := by
  have go : ∀ j : Int, 0 ≤ j → j ≤ x.cps.toList.length → Txt.slice x none (some j) = tx (x.cps.toList.take j.toNat) := fun j h0 h1 => by
    have e : Txt.slice x none (some j) = sliceText x none (some j) := rfl
    rw [e, sliceText_to ⟨h0, h1⟩]
    simp [tx]
  by_cases hj : j ≤ x.cps.toList.length
  · exact go j h hj
  · have e : Txt.slice x none (some j) = Txt.slice x none (some (x.length : Int)) := by
      have hl : x.length = x.cps.toList.length := by simp [Str.length]
      have e1 : strSliceIndices none (some j) 1 x.length = strSliceIndices none (some (x.length : Int)) 1 x.length := by
        have a : ¬ (j < 0) := by omega
        have b : ¬ ((x.length : Int) < 0) := by omega
        have m : min j (x.length : Int) = (x.length : Int) := by omega
        simp [strSliceIndices, a, b, m]
      unfold Txt.slice
      rw [e1]
    rw [e, go _ (by omega) (by simp [Str.length])]
    have hl : x.length = x.cps.toList.length := by simp [Str.length]
    rw [List.take_of_length_le (i := j.toNat) (by omega), List.take_of_length_le (by omega)]
theorem slice_from (x : Str) {i : Int} (h : 0 ≤ i) (h1 : i ≤ x.cps.toList.length) : Txt.slice x (some i) none = tx (x.cps.toList.drop i.toNat) := by
  have e : Txt.slice x (some i) none = sliceText x (some i) none := rfl
  rw [e, sliceText_from ⟨h, h1⟩]
  have e2 : ((x.cps.toList.length : Int) - i).toNat = (x.cps.toList.drop i.toNat).length := by rw [List.length_drop]; omega
  rw [e2, List.take_length]
  rfl
end RA

namespace RA
open PySem PySem.StrLaws Builtin Builtin.Str
/-- letters by their codes -/
structure Let (L : List Nat) : Prop where
  lo : 1 ≤ L.length
  hi : L.length ≤ 3
  nd : L.Nodup
  az : ∀ c ∈ L, 97 ≤ c ∧ c ≤ 122
def val (L : List Nat) : Int → List Nat → Int
  | v, [] => v
  | v, c :: w => val L (v * (L.length : Int) + (L.idxOf c : Nat) + 1) w
theorem val_app (L : List Nat) : ∀ (a b : List Nat) (v : Int), val L v (a ++ b) = val L (val L v a) b
  | [], _, _ => rfl
  | _ :: a, b, _ => val_app L a b _
theorem val_snoc (L w : List Nat) (c : Nat) (v : Int) : val L v (w ++ [c]) = val L v w * (L.length : Int) + (L.idxOf c : Nat) + 1 := by
  rw [val_app]
  rfl
theorem Let.three {L : List Nat} (h : Let L) : (L.length : Int) = 1 ∨ (L.length : Int) = 2 ∨ (L.length : Int) = 3 := by
  have := h.lo
  have := h.hi
  omega
theorem idx_get {L : List Nat} (nd : L.Nodup) {i : Nat} (h : i < L.length) : L.idxOf L[i] = i := by
  have h1 := idxOf_le (l := L) (c := L[i]) (i := i) (by simp [h])
  have hlt : L.idxOf L[i] < L.length := by omega
  have e := List.getElem_idxOf hlt
  by_cases hh : L.idxOf L[i] < i
  · exact absurd e (List.pairwise_iff_getElem.mp nd _ _ hlt h hh)
  · omega
/-- one sign drawn out of what is left -/
theorem draw_one {f l : List Nat} {i : Nat} (hi : i < l.length) (nd : (f ++ l).Nodup) : ((f ++ [l[i]]) ++ (l.take i ++ l.drop (i + 1))).Nodup ∧ ∀ c, c ∈ (f ++ [l[i]]) ++ (l.take i ++ l.drop (i + 1)) → c ∈ f ++ l := by
  have e : l = l.take i ++ l[i] :: l.drop (i + 1) := by
    conv => lhs; rw [← List.take_append_drop i l, List.drop_eq_getElem_cons hi]
  have p : (f ++ l).Perm ((f ++ [l[i]]) ++ (l.take i ++ l.drop (i + 1))) := by
    conv => lhs; rw [e]
    rw [List.append_assoc]
    refine List.Perm.append_left f ?_
    show (l.take i ++ l[i] :: l.drop (i + 1)).Perm (l[i] :: (l.take i ++ l.drop (i + 1)))
    exact List.perm_middle
  exact ⟨p.nodup_iff.mp nd, fun c hc => p.mem_iff.mpr hc⟩
end RA

namespace RA
open PySem L2
theorem abc_eq : (Str.ofString "abcdefghijklmnopqrstuvwxyz") = tx (List.range' 97 26) := by decide +kernel
theorem empty_eq : (Str.ofString "") = tx [] := by decide +kernel
/-- the sign that a cell draws -/
def signAt (L : List Nat) (z : Int) : Nat := L.getD (z % (L.length : Int)).toNat 0
def signV (L : List Nat) : V → V
  | .int z => .str ⟨#[signAt L z]⟩
  | v => v
end RA
namespace RA
open PySem L2 Builtin Builtin.Str
end RA

namespace L2
open PySem PySem.Spec PyProof.Rows
/-! ## X6. sums that forget what they are -/
section
variable {X : Cx}
theorem op_modG : OpR X (binaryOp .Mod) (fun x y H Q => ∃ i j, x = .int i ∧ y = .int j ∧ 0 < j ∧ ∀ r, 0 ≤ r → r < j → Q (.int r) H) := by
  intro pins s σ H x y v u Q I rx ry h
  obtain ⟨i, j, e1, e2, hj, q⟩ := h
  exact op_mod pins s σ H x y v u Q I rx ry ⟨i, j, e1, e2, hj, q _ (Int.emod_nonneg _ (by omega)) (Int.emod_lt_of_pos _ hj)⟩
theorem op_fdivG : OpR X (binaryOp .FloorDiv) (fun x y H Q => ∃ i j, x = .int i ∧ y = .int j ∧ CDiv i j ∧ 0 ≤ i ∧ ∀ r, 0 ≤ r → Q (.int r) H) := by
  intro pins s σ H x y v u Q I rx ry h
  obtain ⟨i, j, e1, e2, hj, hi, q⟩ := h
  exact op_fdiv pins s σ H x y v u Q I rx ry ⟨i, j, e1, e2, hj, q _ (Int.ediv_nonneg hi (by have := hj.1; omega))⟩
end
theorem upd_keep {H : Hp} {a b : Addr} {o u : HO} (h : H a = some o) (n : H b = none) : upd H b u a = some o := by
  rw [upd_ne (ne_of_none h n)]
  exact h
theorem upd_keep2 {H : Hp} {a b : Addr} {o u v : HO} (h : H a = some o) (n : H b = some v) (d : o ≠ v) : upd H b u a = some o := by
  rw [upd_ne (ne_of h n d)]
  exact h
theorem kit_ib (K : PySem.W.Frag) : PySem.W.kitOne K (.type "int") (.type "bool") = some false := by kernel_rfl
theorem kit_ii (K : PySem.W.Frag) : PySem.W.kitOne K (.type "int") (.type "int") = some true := by with_unfolding_all rfl
theorem kit_bb (K : PySem.W.Frag) : PySem.W.kitOne K (.type "bool") (.type "bool") = some true := by with_unfolding_all rfl
theorem kit_ss (K : PySem.W.Frag) : PySem.W.kitOne K (.type "str") (.type "str") = some true := by with_unfolding_all rfl
end L2
namespace RA
open PySem L2
structure Mach (L : List Nat) (W : List (List Nat)) (B : List Bool) : Prop where
  lt : Let L
  n1 : 1 ≤ W.length
  n60 : W.length ≤ 60
  bl : B.length = W.length
  row : ∀ ws ∈ W, ws.length = L.length ∧ ∀ x ∈ ws, x < W.length
def nxt (L : List Nat) (W : List (List Nat)) (r c : Nat) : Nat := (W.getD r []).getD (L.idxOf c) 0
def run (L : List Nat) (W : List (List Nat)) (r : Nat) (w : List Nat) : Nat := w.foldl (nxt L W) r
theorem Mach.at {L : List Nat} {W : List (List Nat)} {B : List Bool} (h : Mach L W B) {r c : Nat} (hr : r < W.length) (hc : c ∈ L) :
    ∃ ws x, W[r]? = some ws ∧ ws[L.idxOf c]? = some x ∧ nxt L W r c = x ∧ x < W.length := by
  have hw : W[r]? = some W[r] := by simp [hr]
  obtain ⟨h1, h2⟩ := h.row W[r] (List.getElem_mem hr)
  have hi : L.idxOf c < W[r].length := by rw [h1]; exact List.idxOf_lt_length_of_mem hc
  have hx : W[r][L.idxOf c]? = some W[r][L.idxOf c] := by simp [hi]
  refine ⟨W[r], W[r][L.idxOf c], hw, hx, ?_, h2 _ (List.getElem_mem hi)⟩
  unfold nxt
  have e1 : W.getD r [] = W[r] := by
    rw [List.getD_eq_getElem?_getD, hw]
    rfl
  rw [e1, List.getD_eq_getElem?_getD, hx]
  rfl
theorem run_snoc (L : List Nat) (W : List (List Nat)) (r : Nat) (w : List Nat) (c : Nat) : run L W r (w ++ [c]) = nxt L W (run L W r w) c := by
  unfold run
  rw [List.foldl_append]
  rfl
theorem run_lt {L : List Nat} {W : List (List Nat)} {B : List Bool} (h : Mach L W B) : ∀ {w : List Nat} {r : Nat}, r < W.length → (∀ c ∈ w, c ∈ L) → run L W r w < W.length
  | [], _, hr, _ => hr
  | c :: w, r, hr, hw => by
    obtain ⟨ws, x, _, _, e, hx⟩ := h.at hr (hw c (by simp))
    exact run_lt h (w := w) (r := nxt L W r c) (by rw [e]; exact hx) fun d hd => hw d (by simp [hd])
def intsV (ws : List Nat) : List V := ws.map fun (n : Nat) => V.int (n : Int)
def RowsAt (H : Hp) (rows : List Addr) (W : List (List Nat)) : Prop := ∀ (i : Nat) (r : Addr), rows[i]? = some r → ∃ ws, W[i]? = some ws ∧ H r = some (.tup (intsV ws))
def MachAt (H : Hp) (m : Addr) (L : List Nat) (W : List (List Nat)) (B : List Bool) : Prop :=
  ∃ (wy mk : Addr) (rows : List Addr), H m = some (.tup [.str (tx L), .ref wy, .ref mk]) ∧ H wy = some (.tup (rows.map V.ref)) ∧ H mk = some (.tup (B.map V.bl)) ∧ rows.length = W.length ∧ RowsAt H rows W
theorem RowsAt.same {H H' : Hp} {rows : List Addr} {W : List (List Nat)} (h : RowsAt H rows W) (s : Same H H') : RowsAt H' rows W := fun i r e => by
  obtain ⟨ws, h1, h2⟩ := h i r e
  exact ⟨ws, h1, s _ _ h2⟩
theorem MachAt.same {H H' : Hp} {m : Addr} {L : List Nat} {W : List (List Nat)} {B : List Bool} (h : MachAt H m L W B) (s : Same H H') : MachAt H' m L W B := by
  obtain ⟨wy, mk, rows, h1, h2, h3, h4, h5⟩ := h
  exact ⟨wy, mk, rows, s _ _ h1, s _ _ h2, s _ _ h3, h4, h5.same s⟩
theorem atI_map {α β : Type} {xs : List α} (f : α → β) {i : Nat} {x : α} (h : xs[i]? = some x) : atI (xs.map f) ((i : Nat) : Int) = some (f x) := atI_nat (by rw [List.getElem?_map, h]; rfl)
end RA
namespace RA
end RA

namespace L2
open PySem
/-! ## X7. reversed(xs), and a text joined over what it walks -/
namespace RV
section
variable {prog : Program} {w : World} {A : Around} {E : Value → Shared → Prop} {s : Shared}
end
end RV
end L2

namespace L2
open PySem PySem.Spec PyProof.Rows
section
variable {X : Cx}
/-- sep.join(reversed(e)), e a list of texts -/
def tJoinRev (K : PySem.W.Frag) (to : TE) (t : TA) : TE := fun σ H Q => to σ H fun x H1 => ∃ z, x = .str z ∧ t σ H1 fun vs H2 => ∃ (p : Addr) (ys : List Str), vs = [.ref p] ∧ SqL K H2 p (ys.map V.str) ∧ (ys.map (·.length)).sum + ys.length * z.length ≤ 16777216 ∧ Q (.str (Txt.join z ys.reverse)) H2
end
end L2

namespace L2
open PySem
/-! ## X8. zip over two iterators of one object each (texts) -/
namespace ZP
/-- nothing is made, and nothing changes but at these addresses -/
def Keep (S : List Addr) (h h' : Heap) : Prop := h'.objs.size = h.objs.size ∧ ∀ c o, c ∉ S → h.get? c = some o → h'.get? c = some o
theorem Keep.one {a : Addr} {S : List Addr} {h h' : Heap} (x : Heap.SameBut a h h') (m : a ∈ S) : Keep S h h' := ⟨x.1, fun c o hc e => (x.2 c fun q => hc (q ▸ m)).trans e⟩
theorem Keep.trans {S : List Addr} {h h1 h2 : Heap} (x : Keep S h h1) (y : Keep S h1 h2) : Keep S h h2 := ⟨y.1.trans x.1, fun c o hc e => y.2 c o hc (x.2 c o hc e)⟩
section
variable {prog : Program} {w : World} {A : Around} {E : Value → Shared → Prop} {s : Shared} {z TI TO i1 i2 : Addr} {f1 f2 : List Addr} {n1 n2 k : Nat} {P1 P2 : Nat → Value → Prop} {S1 S2 : Nat → Heap → Prop} {a b : Value}
/-- a turn that tells a pair -/
theorem toldL {Q : Value → Shared → Prop} (D1 : Draws prog w A i1 f1 n1 P1 S1) (D2 : Draws prog w A i2 f2 n2 P2 S2) (m1 : ∀ c ∈ f1, c = i1 ∨ c ∉ [z, TO, i1, i2]) (m2 : ∀ c ∈ f2, c = i2 ∨ c ∉ [z, TO, i1, i2]) (ap : ZipApart z TI TO i1 i2 TI TI) (hz : IsZip s.heap z TI TO .none) (hTI : IsPair s.heap TI (.ref i1) (.ref i2)) (hTO : IsPair s.heap TO a b)
    (h1 : S1 k s.heap) (h2 : S2 k s.heap) (l1 : k < n1) (l2 : k < n2)
    (hQ : ∀ x y h' tk, P1 k x → P2 k y → IsZip h' z TI TO (rawInt s.heap.objs.size) → IsPair h' TI (.ref i1) (.ref i2) → IsPair h' TO x y → S1 (k + 1) h' → S2 (k + 1) h' → IsPair h' s.heap.objs.size x y →
      (∀ c o, c ∉ [z, TO, i1, i2] → s.heap.get? c = some o → h'.get? c = some o) → Q (.ref s.heap.objs.size) { s with heap := h', toks := tk }) :
    wpAny (model prog w) A (Builtin.«zip.__next__» ⟨[.ref z], []⟩) (fun fin s' => ∃ v, fin = .done (.ret v) ∧ Q v s') E s := by
  unfold Builtin.«zip.__next__»
  refine wpAny_bind (wpAny_of_eq (a := (Value.ref z, [])) rfl (wpAny_bind (wpAny_field hz rfl (x := .bool false) rfl (wpAny_bind (wpAny_field hz rfl (x := .ref TI) rfl (wpAny_bind (wpAny_seqItems hTI rfl ?_)))))))
  refine wpAny_ite_false (by simp) (wpAny_bind ?_)
  unfold Builtin.SmallTypes.ownedTupleIsFree
  refine wpAny_bind (wpAny_field hz rfl (x := .none) rfl (wpAny_pure (wpAny_ite_true (by decide) (wpAny_bind (wpAny_rule (wpAny_bind (wpAny_field hz rfl (x := .ref TO) rfl (wpAny_bind (wpAny_setField_rec hz (by simp) fun g1 z1 c1 => ?_)))))))))
  -- what may change, and how far it has come
  have k1 : Keep [z, TO, i1, i2] s.heap g1 := .one c1 (by simp)
  have S1f : ∀ {j : Nat} {g g' : Heap}, (∀ c o, c ∉ [z, TO, i1, i2] → g.get? c = some o → g'.get? c = some o) → S1 j g → (∀ o, g.get? i1 = some o → g'.get? i1 = some o) → S1 j g' := fun k st e => D1.frame _ _ _ st fun c hc => by
    rcases m1 c hc with rfl | hn
    · exact e
    · exact fun o q => k c o hn q
  have S2f : ∀ {j : Nat} {g g' : Heap}, (∀ c o, c ∉ [z, TO, i1, i2] → g.get? c = some o → g'.get? c = some o) → S2 j g → (∀ o, g.get? i2 = some o → g'.get? i2 = some o) → S2 j g' := fun k st e => D2.frame _ _ _ st fun c hc => by
    rcases m2 c hc with rfl | hn
    · exact e
    · exact fun o q => k c o hn q
  simp only [List.zipIdx_cons, List.zipIdx_nil, List.forIn_cons, List.forIn_nil]
  refine wpAny_bind (wpAny_bind (wpAny_bind (wpAny_onRaise (wpAny_bind (m := Builtin.SmallTypes.nextOf (.ref i1)) (D1.item k _ _ _ l1 (S1f k1.2 h1 fun o e => (c1.2 i1 ap.i1z).trans e) fun x g2 t2 p1 d1 c2 => wpAny_pure ?_)))))
  have o2 : IsPair g2 TO a b := (c2.2 TO ap.TOi1).trans ((c1.2 TO ap.TOz).trans hTO)
  refine wpAny_bind (wpAny_seqItems o2 rfl (wpAny_bind (wpAny_updateSeq_pair o2 fun g3 o3 c3 => wpAny_bind (wpAny_letGo (wpAny_pure (wpAny_bind (wpAny_bind (wpAny_onRaise (wpAny_bind (m := Builtin.SmallTypes.nextOf (.ref i2)) (D2.item k _ _ _ l2 (S2f ((k1.trans (.one c2 (by simp))).trans (.one c3 (by simp))).2 h2 fun o e => ?_) fun y g4 t4 p2 d2 c4 => wpAny_pure ?_))))))))))
  · exact (c3.2 i2 ap.TOi2.symm).trans ((c2.2 i2 ap.i12.symm).trans ((c1.2 i2 ap.i2z).trans e))
  have o4 : IsPair g4 TO x b := (c4.2 TO ap.TOi2).trans o3
  refine wpAny_bind (wpAny_seqItems o4 rfl (wpAny_bind (wpAny_updateSeq_pair o4 fun g5 o5 c5 => wpAny_bind (wpAny_letGo (wpAny_pure (wpAny_pure ?_))))))
  replace o5 : IsPair g5 TO x y := o5
  have k5 : Keep [z, TO, i1, i2] s.heap g5 := (((k1.trans (.one c2 (by simp))).trans (.one c3 (by simp))).trans (.one c4 (by simp))).trans (.one c5 (by simp))
  have z5 : IsZip g5 z TI TO .ellipsis := (c5.2 z ap.TOz.symm).trans ((c4.2 z ap.i2z.symm).trans ((c3.2 z ap.TOz.symm).trans ((c2.2 z ap.i1z.symm).trans z1)))
  have st1 : S1 (k + 1) g5 := S1f (((Keep.one (S := [z, TO, i1, i2]) c3 (by simp)).trans (.one c4 (by simp))).trans (.one c5 (by simp))).2 d1 fun o e => (c5.2 i1 ap.TOi1.symm).trans ((c4.2 i1 ap.i12).trans ((c3.2 i1 ap.TOi1.symm).trans e))
  have st2 : S2 (k + 1) g5 := S2f (Keep.one (S := [z, TO, i1, i2]) c5 (by simp)).2 d2 fun o e => (c5.2 i2 ap.TOi2.symm).trans e
  refine wpAny_bind (wpAny_seqItems o5 rfl (wpAny_bind (wpAny_newTuple ?_)))
  unfold Builtin.SmallTypes.ownedTupleHandOut
  have z6 : IsZip (g5.push { cls := .type "tuple", data := .seq #[x, y] }) z TI TO .ellipsis := Heap.get?_push_of_some _ z5
  refine wpAny_bind (wpAny_bind (wpAny_setField_rec z6 (by simp) fun g7 z7 c7 => ?_))
  replace z7 : IsZip g7 z TI TO (rawInt g5.objs.size) := z7
  refine wpAny_setField_rec z7 (by simp) fun g8 z8 c8 => wpAny_pure ⟨_, rfl, ?_⟩
  replace z8 : IsZip g8 z TI TO (rawInt g5.objs.size) := z8
  have up : ∀ c o, c ≠ z → g5.get? c = some o → g8.get? c = some o := fun c o hc e => (c8.2 c hc).trans ((c7.2 c hc).trans (Heap.get?_push_of_some _ e))
  have zlt : g5.objs.size ≠ z := Nat.ne_of_gt (Heap.lt_size z5)
  have new : IsPair g8 g5.objs.size x y := (c8.2 _ zlt).trans ((c7.2 _ zlt).trans (Heap.get?_push_size _ rfl))
  have sz : g5.objs.size = s.heap.objs.size := k5.1
  have ti5 : IsPair g5 TI (.ref i1) (.ref i2) := k5.2 TI _ (by simp [ap.TIz, ap.TITO, ap.TIi1, ap.TIi2]) hTI
  show Q (.ref g5.objs.size) _
  rw [sz] at z8 new ⊢
  exact hQ x y g8 t4 p1 p2 z8 (up _ _ ap.TIz ti5) (up _ _ ap.TOz o5) (S1f (fun c o hc e => up c o (fun q => hc (by simp [q])) e) st1 fun o e => up _ o ap.i1z e) (S2f (fun c o hc e => up c o (fun q => hc (by simp [q])) e) st2 fun o e => up _ o ap.i2z e) new fun c o hc e => up c o (fun q => hc (by simp [q])) (k5.2 c o hc e)
/-- the turn at which one of the two has no more -/
theorem endedL {Q : Fin → Shared → Prop} (D1 : Draws prog w A i1 f1 n1 P1 S1) (D2 : Draws prog w A i2 f2 n2 P2 S2) (m1 : ∀ c ∈ f1, c = i1 ∨ c ∉ [z, TO, i1, i2]) (m2 : ∀ c ∈ f2, c = i2 ∨ c ∉ [z, TO, i1, i2]) (ap : ZipApart z TI TO i1 i2 TI TI) (hz : IsZip s.heap z TI TO .none) (hTI : IsPair s.heap TI (.ref i1) (.ref i2)) (hTO : IsPair s.heap TO a b)
    (h1 : S1 k s.heap) (h2 : S2 k s.heap) (hend : k = n1 ∨ (k < n1 ∧ k = n2))
    (hE : ∀ h' e tk, (∀ c o, c ∉ [z, TO, i1, i2] → s.heap.get? c = some o → h'.get? c = some o) → (∃ o, h'.get? e = some o ∧ o.cls = .type "StopIteration") → E (.ref e) { s with heap := h', toks := tk }) :
    wpAny (model prog w) A (Builtin.«zip.__next__» ⟨[.ref z], []⟩) Q E s := by
  unfold Builtin.«zip.__next__»
  refine wpAny_bind (wpAny_of_eq (a := (Value.ref z, [])) rfl (wpAny_bind (wpAny_field hz rfl (x := .bool false) rfl (wpAny_bind (wpAny_field hz rfl (x := .ref TI) rfl (wpAny_bind (wpAny_seqItems hTI rfl (wpAny_ite_false (by simp) (wpAny_bind ?_)))))))))
  unfold Builtin.SmallTypes.ownedTupleIsFree
  refine wpAny_bind (wpAny_field hz rfl (x := .none) rfl (wpAny_pure (wpAny_ite_true (by decide) (wpAny_bind (wpAny_rule (wpAny_bind (wpAny_field hz rfl (x := .ref TO) rfl (wpAny_bind (wpAny_setField_rec hz (by simp) fun g1 z1 c1 => ?_)))))))))
  have k1 : Keep [z, TO, i1, i2] s.heap g1 := .one c1 (by simp)
  have S1f : ∀ {j : Nat} {g g' : Heap}, (∀ c o, c ∉ [z, TO, i1, i2] → g.get? c = some o → g'.get? c = some o) → S1 j g → (∀ o, g.get? i1 = some o → g'.get? i1 = some o) → S1 j g' := fun k st e => D1.frame _ _ _ st fun c hc => by
    rcases m1 c hc with rfl | hn
    · exact e
    · exact fun o q => k c o hn q
  have S2f : ∀ {j : Nat} {g g' : Heap}, (∀ c o, c ∉ [z, TO, i1, i2] → g.get? c = some o → g'.get? c = some o) → S2 j g → (∀ o, g.get? i2 = some o → g'.get? i2 = some o) → S2 j g' := fun k st e => D2.frame _ _ _ st fun c hc => by
    rcases m2 c hc with rfl | hn
    · exact e
    · exact fun o q => k c o hn q
  have s1 : S1 k g1 := S1f k1.2 h1 fun o e => (c1.2 i1 ap.i1z).trans e
  -- the record is given back its tuple, and the end goes on outward
  have out : ∀ (it : Addr) (g g' : Heap) (e : Addr) (tk : Nat), it = i1 ∨ it = i2 → Keep [z, TO, i1, i2] s.heap g → IsZip g z TI TO .ellipsis → Heap.ExtBut it g g' → (∃ o, g'.get? e = some o ∧ o.cls = .type "StopIteration") →
      wpAny (model prog w) A (setField (.ref z) 0 .none) (fun _ s' => E (.ref e) s') E { s with heap := g', toks := tk } := fun it g g' e tk hit hk hg hx he => by
    obtain ⟨oe, he, ce⟩ := he
    have zit : z ≠ it := by rcases hit with q | q <;> rw [q]; exact ap.i1z.symm; exact ap.i2z.symm
    have zg : IsZip g' z TI TO .ellipsis := hx z _ zit hg
    have ez : e ≠ z := fun q => by
      rw [q] at he
      have := congrArg (Option.map Obj.cls) (he.symm.trans zg)
      rw [Option.map_some, Option.map_some, ce] at this
      exact absurd (show Value.type "StopIteration" = Value.type "zip" from Option.some.inj this) (by decide)
    refine wpAny_setField_rec (s := { s with heap := g', toks := tk }) zg (by simp) fun g2 _ c2 => hE g2 e tk (fun c o hc q => ?_) ⟨oe, (c2.2 e ez).trans he, ce⟩
    refine (c2.2 c fun r => hc (by simp [r])).trans (hx c o (fun r => hc ?_) (hk.2 c o hc q))
    rcases hit with q | q <;> rw [r, q] <;> simp
  simp only [List.zipIdx_cons, List.zipIdx_nil, List.forIn_cons, List.forIn_nil]
  rcases hend with rfl | ⟨hlt, rfl⟩
  · refine wpAny_bind (wpAny_bind (wpAny_bind (wpAny_onRaise (wpAny_bind (m := Builtin.SmallTypes.nextOf (.ref i1)) (D1.done _ _ _ s1 fun g2 e x2 he => ?_)))))
    exact out i1 g1 g2 e s.toks (.inl rfl) k1 z1 x2 he
  · refine wpAny_bind (wpAny_bind (wpAny_bind (wpAny_onRaise (wpAny_bind (m := Builtin.SmallTypes.nextOf (.ref i1)) (D1.item k _ _ _ hlt s1 fun x g2 t2 p1 d1 c2 => wpAny_pure ?_)))))
    have o2 : IsPair g2 TO a b := (c2.2 TO ap.TOi1).trans ((c1.2 TO ap.TOz).trans hTO)
    refine wpAny_bind (wpAny_seqItems o2 rfl (wpAny_bind (wpAny_updateSeq_pair o2 fun g3 o3 c3 => wpAny_bind (wpAny_letGo (wpAny_pure (wpAny_bind (wpAny_bind (wpAny_onRaise (wpAny_bind (m := Builtin.SmallTypes.nextOf (.ref i2)) (D2.done _ _ _ (S2f ((k1.trans (.one c2 (by simp))).trans (.one c3 (by simp))).2 h2 fun o e => ?_) fun g4 e x4 he => ?_))))))))))
    · exact (c3.2 i2 ap.TOi2.symm).trans ((c2.2 i2 ap.i12.symm).trans ((c1.2 i2 ap.i2z).trans e))
    · exact out i2 g3 g4 e t2 (.inr rfl) ((k1.trans (.one c2 (by simp))).trans (.one c3 (by simp))) ((c3.2 z ap.TOz.symm).trans ((c2.2 z ap.i1z.symm).trans z1)) x4 he
end
section
variable {prog : Program} {w : World} {A : Around} {E : Value → Shared → Prop} {s : Shared} {z TI TO i1 i2 : Addr} {n1 n2 k : Nat} {P1 P2 : Nat → Value → Prop} {S1 S2 : Nat → Heap → Prop} {a b : Value}
/-- the object that walks a text -/
def strIt (x : Str) (t : Tok) : Obj := { cls := .type (if x.cps.all (· < 128) then "str_ascii_iterator" else "str_iterator"), data := .fields #[.str x t, .int 0 0] }
theorem iter_text {x : Str} {t : Tok} {Q : Value → Shared → Prop} (h : Q (.ref s.heap.objs.size) { s with heap := s.heap.push (strIt x t) }) : wpAny (model prog w) A (pyIter (.str x t)) Q E s := by
  unfold strIt at h
  cases e : x.cps.all (· < 128) <;> rw [e] at h
  · exact wpAny_pyIter_wide e h
  · exact wpAny_pyIter_ascii e h
/-- two iterators, the two tuples, the record: five new objects -/
def made (h : Heap) (x y : Str) (t u : Tok) : Heap :=
  ((((h.push (strIt x t)).push (strIt y u)).push { cls := .type "tuple", data := .seq #[.ref h.objs.size, .ref (h.objs.size + 1)] }).push { cls := .type "tuple", data := .seq #[.none, .none] }).push
    { cls := .type "zip", data := .fields #[.none, .bool false, .bool false, .ref (h.objs.size + 2), .ref (h.objs.size + 3)] }
/-- where a text's walk stands -/
def strAt (x : Str) (t : Tok) (it : Addr) (i : Nat) (h : Heap) : Prop := h.IsStrIter it (if x.cps.all (· < 128) then "str_ascii_iterator" else "str_iterator") x t i
theorem draws (hh : A.handled = none) (it : Addr) (x : Str) (t : Tok) : Draws prog w A it [it] x.cps.size (fun i v => ∃ c u, x.cps[i]? = some c ∧ v = .str ⟨#[c]⟩ u) (strAt x t it) := by
  unfold strAt
  cases x.cps.all (· < 128)
  · exact Draws.strWide hh it x t
  · exact Draws.strAscii hh it x t
end
end ZP
end L2

namespace L2
open PySem PySem.Spec PyProof.Rows
section
variable {X : Cx} {pins : List (Addr × Obj)} {σ : St} {H : Hp} {s : Shared} {h' : Heap}
theorem tracked_off {S : List Addr} (f : ∀ b ∈ S, H b = none) {b : Addr} {u : HO} (e : H b = some u) : b ∉ S := fun hb => by rw [f b hb] at e; cases e
/-- several untracked records of ours have turned -/
theorem Inv.turnedL {S : List Addr} {t' : Nat} (I : Inv X pins σ H s) (k : ∀ b o, b ∉ S → s.heap.get? b = some o → h'.get? b = some o) (f : ∀ b ∈ S, FpOk X pins H b) : Inv X pins σ H { s with heap := h', toks := t' } := by
  refine I.call (g' := s.gens) (d' := s.drawn) (ch := S) ⟨fun b o e _ _ hc => k b o hc e, fun b o e _ _ hc => ⟨o.slots, k b o hc e⟩, fun _ _ _ n _ => n, fun b o e hc => ⟨o, k b o hc e⟩, fun _ _ e => e, fun _ _ _ e => e, fun _ ps e => ⟨#[], by rw [e]; simp⟩⟩
    (fun b u e => (I.hok b u e).stay (fun c v hc q => k c v ?_ q) (fun _ q => q) fun _ _ q => q) I.bare fun b hb => ⟨(f b hb).2.2.2.1, (f b hb).2.1, (f b hb).2.2.2.2.1, (f b hb).2.2.2.2.2⟩
  rcases hc with z | z
  · rw [z]; exact tracked_off (fun b hb => (f b hb).1) e
  · exact tracked_off (fun b hb => (f b hb).1) z
/-- .. and one new object is told of -/
theorem Inv.turnedNew {S : List Addr} {t' : Nat} {o : HO} (I : Inv X pins σ H s) (k : ∀ b o, b ∉ S → s.heap.get? b = some o → h'.get? b = some o) (f : ∀ b ∈ S, FpOk X pins H b)
    (new : ObjOk X.prog X.w (upd H s.heap.objs.size o) h' s.heap.objs.size o) : Inv X pins σ (upd H s.heap.objs.size o) { s with heap := h', toks := t' } := by
  have fr : H s.heap.objs.size = none := I.hok.fresh (Nat.le_refl _)
  have ne : ∀ b u, H b = some u → b ≠ s.heap.objs.size := fun b u e => ne_of_none e fr
  refine I.call (g' := s.gens) (d' := s.drawn) (ch := S) ⟨fun b o e _ _ hc => k b o hc e, fun b o e _ _ hc => ⟨o.slots, k b o hc e⟩, fun b o e n _ => ?_, fun b o e hc => ⟨o, k b o hc e⟩, fun b xs e => by rw [upd_ne (ne b _ e)]; exact e, fun b o u e => by rw [upd_ne (ne b _ e)]; exact e, fun b ps e => ⟨#[], by rw [upd_ne (ne b _ e), e]; simp⟩⟩
    (fun b u e => ?_) I.bare fun b hb => ⟨(f b hb).2.2.2.1, (f b hb).2.1, (f b hb).2.2.2.2.1, (f b hb).2.2.2.2.2⟩
  · rw [upd_ne (Nat.ne_of_lt (Heap.lt_size e))]
    exact n
  · by_cases hb : b = s.heap.objs.size
    · subst hb
      rw [upd_same] at e
      cases e
      exact new
    · rw [upd_ne hb] at e
      refine (I.hok b u e).stay (fun c v hc q => k c v ?_ q) (fun c q => by rw [upd_ne (ne c _ q)]; exact q) fun c xs q => by rw [upd_ne (ne c _ q)]; exact q
      rcases hc with z | z
      · rw [z]; exact tracked_off (fun b hb => (f b hb).1) e
      · exact tracked_off (fun b hb => (f b hb).1) z
end
/-- two texts side by side: the pair of signs, in a new tuple -/
def Itz (x y : Str) : It := ⟨fun i _ => i < x.length ∧ i < y.length, fun i H v H' => ∃ p c d, x.cps[i]? = some c ∧ y.cps[i]? = some d ∧ v = .ref p ∧ H p = none ∧ H' = upd H p (.tup [.str ⟨#[c]⟩, .str ⟨#[d]⟩]), fun i _ => x.length ≤ i ∨ y.length ≤ i⟩
/-- zip(a, b), both texts, ahead of two targets -/
def iZip (t : TA) : TI := fun σ H R => t σ H fun vs H1 => ∃ x y, vs = [.str x, .str y] ∧ R (Itz x y) H1
end L2

namespace L2
open PySem PySem.Spec PyProof.Rows
/-! ## X9. exceptions of own classes: how one flies through the frames -/
/-- the exception at e, of that class, its first traceback entry at T -/
def Fly (h : Heap) (e T : Addr) (cls a0 : Value) : Prop :=
  ∃ oe vs oT ts, h.get? e = some oe ∧ (oe.cls = cls ∧ vs[0]? = some a0) ∧ oe.data = .fields vs ∧ vs[1]? = some (.ref T) ∧ T ≠ e ∧ h.get? T = some oT ∧ oT.data = .fields ts ∧ ts[3]? = some .none
/-- what a call that raises leaves behind: E is told the class and the abstract heap -/
def CXE (P : Program) (w : World) : CXT := fun outer H s E ev s' => ∃ (e T : Addr) (C a0 : Value) (H' : Hp), ev = .ref e ∧ s'.os = s.os ∧ AllBare s'.gens ∧ Un (frs outer) [] H H' s.heap s'.heap ∧ HOk P w H' s'.heap ∧
  s.heap.get? e = none ∧ s.heap.get? T = none ∧ H' e = none ∧ H' T = none ∧ Fly s'.heap e T C a0 ∧ E C none H'
/-- the frames apart from a heap that hides them -/
theorem frames_hid {h base : Heap} {hid : List Addr} : ∀ {l : List Env}, h.FunFrames base l → (∀ b ∈ frs l, b ∈ hid) → h.FunFrames (PySem.W.hideAll h hid) l
  | [], _, _ => trivial
  | env :: r, hl, hs => by
    obtain ⟨hk, ⟨L, o, hf, hn, ho, hd⟩, hr⟩ := hl
    have e : frs (env :: r) = L :: frs r := by unfold frs; rw [List.filterMap_cons, hf]
    exact ⟨hk, ⟨L, o, hf, PySem.W.hideAll_none _ (hs L (by rw [e]; exact List.mem_cons_self)), ho, hd⟩, frames_hid hr fun b hb => hs b (by rw [e]; exact List.mem_cons_of_mem _ hb)⟩
section
variable {X : Cx} {pins : List (Addr × Obj)} {σ : St} {H H' : Hp} {s : Shared} {h1 h2 : Heap}
end
section
variable {X : Cx} {E : XK}
end
end L2

namespace L2
open PySem PySem.Spec PyProof.Rows
/-! ## X10. an error's words: some text that is not too long -/
section
variable {X : Cx}
/-- a part of a text that is put together, where c holds of the names -/
def FPart (X : Cx) (e : Expr) (c : St → Prop) : Prop := ∀ (pins : List (Addr × Obj)) (s : Shared) (σ : St) (H : Hp) (Q : Value → Shared → Prop), Inv X pins σ H s → c σ → (∀ y t s', Inv X pins σ H s' → y.length ≤ 100000 → Q (.str y t) s') →
  wpAny (model X.prog X.w) X.A (eval e X.env) Q X.xe s
def FParts (X : Cx) : List Expr → (St → Prop) → Prop
  | [], _ => True
  | e :: es, c => FPart X e c ∧ FParts X es c
/-- the name in slot i holds a text -/
def Txt5 (i : Nat) (σ : St) : Prop := ∃ x : Str, σ[i]? = some (some (.str x)) ∧ x.length ≤ 5000 ∧ ∀ c ∈ x.cps.toList, c < 1000000
def tMsg (c : St → Prop) : TE := fun σ H Q => c σ ∧ ∀ x, Q (.str x) H
end
/-! ## X11. raise C(..) -/
/-- a class of the text that stands under ValueError and has no __init__ of its own, nor have those between -/
def OwnX (K : PySem.W.Frag) (C : Addr) : Prop := PySem.W.excIn K C [.type "ValueError", .type "Exception", .type "BaseException", .type "object"] "ValueError.__new__" = true
end L2

namespace L2
open PySem PySem.Spec PyProof.Rows
/-- what is wanted of exceptions here is met by a new one of a class that E takes -/
def Throws (X : Cx) (E : XK) : Prop := ∀ (pins : List (Addr × Obj)) (σ : St) (H : Hp) (s : Shared) (h1 : Heap) (e : Addr) (C : Value) (vs : List Value), Inv X pins σ H s → Heap.MadeExcOf s.heap h1 e C vs → E C none H → X.xe (.ref e) { s with heap := h1 }
def tRaise (C : Addr) (E : XK) (t : TA) : TS := fun _ σ H => t σ H fun vs H1 => vs.length ≤ sizeLine ∧ E (.ref C) none H1
section
variable {P : Program} {w : World} {K : PySem.W.Frag} {mg : Str → Option Value} {base : Heap} {N : List Str} {qual : Str} {scope : Scope} {f : Addr} {cd : Value} {A : Around} {outer : List Env} {s : Shared} {H : Hp} {E : XK}
end
def DfX (P : Program) (w : World) (K : PySem.W.Frag) (mg : Str → Option Value) (base : Heap) (x : Str) (k : Nat) (ps : List Str) (sp : Sp) : Prop :=
  ∃ (f : Addr) (fd : FuncData), mg x = some (.ref f) ∧ PySem.W.keepIn K (.ref f) = true ∧ Binds K fd ps [] ∧ FnOk P w K mg base (CXE P w) k f fd ps sp
end L2

namespace L2
open PySem PySem.Spec PyProof.Rows
/-! ## X12. try: a call; except R as n: a suite -/
/-- the exception at e, of that class, caught and kept -/
def excAt (e : Addr) (C : Value) : HO := .ext fun h => ∃ o, h.get? e = some o ∧ o.cls = C
/-- the same frame, within an except suite that raises nothing -/
abbrev Cx.held (X : Cx) (v : Value) : Cx := { X with A := X.A.mark (some v), calm := false, xe := fun _ _ => False }
section
variable {X : Cx} {pins : List (Addr × Obj)} {σ : St} {H : Hp} {s : Shared}
end
/-- what the suite is to reach -/
def heldEnds (i : Nat) (D : Ends) : Ends := { nx := fun σ' H' => D.nx (σ'.set i none) H', rt := fun _ _ => False }
/-- a class that the clause takes, and what follows -/
def Caught (K : PySem.W.Frag) (R : Addr) (i : Nat) (ts : TS) (D : Ends) (σ : St) : XK := fun C _ H' => PySem.W.exmOne K C (.ref R) = some true ∧ ∀ e, H' e = none → ts (heldEnds i D) (σ.set i (some (.ref e))) (upd H' e (excAt e C))
end L2

namespace L2
open PySem PySem.Spec PyProof.Rows
section
variable {X : Cx} {pins : List (Addr × Obj)} {σ : St} {H : Hp} {s : Shared} {x n y fx : Str} {R : Addr} {i j k : Nat} {np hpos pos p cp yp ap : Pos} {b0 : Stmt} {suite : List Stmt} {ts : TS} {D : Ends} {ps : List Str} {sp : Sp} {e : Expr} {es : List Expr} {t : TA}
/-- what stands round a try's clause -/
structure TryOk (X : Cx) (x n : Str) (R : Addr) (i : Nat) (b0 : Stmt) (suite : List Stmt) (ts : TS) : Prop where
  hex : X.ex = []
  hst : X.stack = X.env :: X.outer
  hfr : X.env.frame = some X.env.locals
  nd : X.N.Nodup
  hi : X.N[i]? = some n
  hk : X.env.kindOf n = some .local
  hl : Loc X.env.scope n
  hf : X.fn n = true ∨ X.env.scope.names.lookup n = some .local
  hg : Gl X x
  hm : X.mg x = some (.ref R)
  hs : ∀ v, PSs (X.held v) (b0 :: suite) ts
  hd : (x == ("__debug__" : Str)) = false
abbrev onCatch (X : Cx) (pins : List (Addr × Obj)) (D : Ends) (hs : List ExceptHandler) : Value → Shared → Prop := fun ev s' =>
  wpAny (model X.prog X.w) X.A (noteFrame ev X.env) (fun _ s2 => wpAny (model X.prog X.w) X.A (setFlight ev none) (fun _ s3 => wpAny (model X.prog X.w) X.A (handleBy ev X.env hs) (SP X pins D) X.xe s3) X.xe s2) X.xe s'
/-- try: y = f(..) except R as n: suite -/
def tTryAsg (K : PySem.W.Frag) (R : Addr) (i j : Nat) (sp : Sp) (t : TA) (ts : TS) : TS := fun D σ H => t σ H fun vs H1 => sp vs H1 (fun v H2 => D.nx (σ.set j (some v)) H2) (Caught K R i ts D σ)
/-- try: f(..) except R as n: suite -/
def tTryExp (K : PySem.W.Frag) (R : Addr) (i : Nat) (sp : Sp) (t : TA) (ts : TS) : TS := fun D σ H => t σ H fun vs H1 => sp vs H1 (fun _ H2 => D.nx σ H2) (Caught K R i ts D σ)
end
end L2

namespace L2
open PySem PySem.Spec PySem.W PyProof.Rows Builtin Builtin.ObjectAttr Builtin.Getset_descriptor
/-! ## X13. isinstance(e, C), e an exception of an own class -/
/-- what of the text an own exception class must have -/
structure ExcCls (K : Frag) (C : Addr) : Prop where
  ga : findIn K (.ref C) "__getattribute__" = some (some (.builtin "BaseException.__getattribute__"))
  noHook : findIn K (.ref C) "__getattr__" = some none
  cls : findIn K (.ref C) "__class__" = some (some (.builtin "object.__class__"))
  get : specialIn K (.builtin "object.__class__") "__get__" = some (some (.builtin "getset_descriptor.__get__"))
  tk : takesIn K (.builtin "object.__class__") = some true
  obj : mroIn K C (.type "object") = some true
  exc : mroIn K C (.type "BaseException") = some true
  isC : isClsIn K C = true
def ExcIs (e C : Addr) (h : Heap) : Prop := ∃ o, h.get? e = some o ∧ o.cls = .ref C
section
variable {prog : Program} {w : World} {A : Around} {E : Value → Shared → Prop} {s : Shared} {K : Frag} {e C : Addr}
end
/-- isinstance(e, D) -/
def rIsExc (K : Frag) (D : Value) (d : V) : List V → Hp → VK → Prop := fun xs H Q => ∃ e C b, xs = [.ref e, d] ∧ H e = some (excAt e (.ref C)) ∧ ExcCls K C ∧ kitOne K (.ref C) D = some b ∧ Q (.bl b) H
end L2

namespace RA
/-! numbers of words: every number has its word -/
/-- how many words are shorter than n signs, of k letters -/
def geo (k : Int) : Nat → Int
  | 0 => 0
  | n + 1 => geo k n * k + 1
theorem geo_pos {k : Int} (hk : 0 ≤ k) : ∀ n, 1 ≤ geo k (n + 1)
  | 0 => by show (1 : Int) ≤ 0 * k + 1; omega
  | n + 1 => by
    have h := geo_pos hk n
    have h1 : 0 ≤ geo k (n + 1) * k := Int.mul_nonneg (by omega) hk
    show 1 ≤ geo k (n + 1) * k + 1
    omega
theorem geo_nn {k : Int} (hk : 0 ≤ k) : ∀ n, 0 ≤ geo k n
  | 0 => Int.le_refl _
  | n + 1 => by have := geo_pos hk n; omega
end RA

namespace RA
open PySem L2
/-- a text that may be shown in an error's words -/
structure Sm (w : List Nat) : Prop where
  len : w.length ≤ 4000
  cod : ∀ c ∈ w, c < 1000000
/-- the signs that are no letters -/
def forL : List Nat := List.range' 32 5 ++ List.range' 38 59 ++ List.range' 123 4
def abcL : List Nat := List.range' 97 26
/-- the small letters that are none of the letters -/
def othL (L : List Nat) : List Nat := abcL.filter fun c => !decide (c ∈ L)
/-! texts that tell no letters -/
/-! how far a word's number goes -/
end RA

namespace RA
/-! one word ahead of another -/
def lexd (L : List Nat) : List Nat → List Nat → Bool
  | c :: a, d :: b => if c = d then lexd L a b else decide (L.idxOf c < L.idxOf d)
  | _, _ => false
def ear (L a b : List Nat) : Bool := if a.length ≠ b.length then decide (a.length < b.length) else lexd L a b
end RA

namespace L2
open PySem PySem.Spec PyProof.Rows
/-! ## X14. lists of like flat items are alike -/
def rEqL (K : PySem.W.Frag) : R2 := fun x y H Q => ∃ p q xs, x = .ref p ∧ y = .ref q ∧ SqL K H p xs ∧ SqL K H q xs ∧ xs.all flatV = true ∧ Q (.bl true) H
theorem Same.set {H H' : Hp} {a : Addr} {o : HO} (s : Same H H') (n : H a = none) : Same H (L2.upd H' a o) := fun b u e => by
  rw [upd_ne (ne_of_none e n)]
  exact s b u e
end L2
namespace RA
open PySem L2
/-- which refusal is due: none, the letters, the number, the room, the word -/
def dueN (y : Int) (f s t : Bool) : Nat := if y < 4 ∧ f = true then 1 else if y = 2 ∧ s = true then 2 else if y = 4 ∧ f = true then 3 else if (y ≠ 2 ∧ s = true) ∨ (y = 0 ∧ t = true) then 4 else 0
def nmN : Nat → List V
  | 1 => [.str "NoLetters"]
  | 2 => [.str "NoNumber"]
  | 3 => [.str "NoRoom"]
  | 4 => [.str "NoWord"]
  | _ => []
end RA
namespace L2
end L2

namespace L2
open PySem PySem.Spec PyProof.Rows
/-! ## X15. more of lists -/
def rInsert : V → List V → Hp → VK → Prop := fun x vs H Q => ∃ l xs i y, x = .ref l ∧ vs = [.int i, y] ∧ H l = some (.lst xs) ∧ 0 ≤ i ∧ i ≤ 1000 ∧ i ≤ xs.length ∧ xs.length < sizeLine ∧ Q .non (upd H l (.lst (xs.take i.toNat ++ y :: xs.drop i.toNat)))
section
variable {K : PySem.W.Frag} {tl : TE} {a : Addr} {xs : List V} {tt : TT} {te : TE} {σ : St} {H : Hp} {Q : VK}
end
/-! types -/
theorem kit_any (K : PySem.W.Frag) : PySem.W.kitOne K (.type "tuple") (.type "tuple") = some true ∧ PySem.W.kitOne K (.type "list") (.type "list") = some true ∧ PySem.W.kitOne K (.type "str") (.type "str") = some true :=
  ⟨by with_unfolding_all rfl, by with_unfolding_all rfl, by with_unfolding_all rfl⟩
end L2
namespace L2
open PySem PySem.Spec PyProof.Rows
theorem call_isG {X : Cx} {T : String} : CallR X (.builtin "isinstance") (fun xs H Q => ∃ x t b, xs = [x, .ty T] ∧ TyOf X.K H x t ∧ PySem.W.kitOne X.K t (.type T) = some b ∧ Q (.bl b) H) := by
  intro pins s σ H xs us Q I r h
  obtain ⟨x, t, b, h1, h2, h3, q⟩ := h
  exact call_isinst (b := b) pins s σ H xs us Q I r ⟨x, t, h1, h2, h3, q⟩
end L2

namespace L2
open PySem PySem.Spec PyProof.Rows
/-! ## X16. y = [.. for x in ..]: the name is stored before the block's names go -/
section
variable {X : Cx} {elt iter : Expr} {x : Str} {px pos : Pos} {ifs : List Expr} {sc : Scope} {wi : TI} {tt : TT} {te : TE}
/-- a block stored in a name is the block that hands its own list on -/
theorem comp_used {M : Model} {A : Around} {env : Env} {E : Value → Shared → Prop} {Q : Flow → Shared → Prop} {s : Shared} {y : Str} {py spos : Pos} (hsw : swapsWith (.ListComp elt [⟨.Name x px, iter, ifs, 0⟩] sc pos) (some (.Name y py)) spos.line env = pure true)
    (h : ∀ p, wpAny M A (comprehension (.ListComp elt [⟨.Name x px, iter, ifs, 0⟩] sc pos) sc env p (newList []) false (eval iter env) (some (assign (.Name y py) env))) (fun _ s' => Q .next s') E s) :
    wpAny M A (exec (.Assign [.Name y py] (.ListComp elt [⟨.Name x px, iter, ifs, 0⟩] sc pos) spos) env) Q E s := by
  have used : wpAny M A (evalThenUse (.ListComp elt [⟨.Name x px, iter, ifs, 0⟩] sc pos) env (assign (.Name y py) env)) (fun _ s' => Q .next s') E s :=
    wpAny_bind (wpAny_mono (h iter.pos) (fun _ _ q => wpAny_pure q) fun _ _ e => e)
  have one := exec_Assign_Name_used (env := env) y py (.ListComp elt [⟨.Name x px, iter, ifs, 0⟩] sc pos) spos hsw
  exact one ▸ wpAny_bind (wpAny_standAt (wpAny_bind (wpAny_mono used (fun _ _ q => wpAny_pure q) fun _ _ e => e)))
end
/-! the same rules, the frame's part of the text named -/
theorem call_isK {X : Cx} {T : String} (K : PySem.W.Frag) (hK : X.K = K := by rfl) : CallR X (.builtin "isinstance") (fun xs H Q => ∃ x t b, xs = [x, .ty T] ∧ TyOf K H x t ∧ PySem.W.kitOne K t (.type T) = some b ∧ Q (.bl b) H) := by
  subst hK
  exact call_isG
theorem call_tupleK {X : Cx} (K : PySem.W.Frag) (hK : X.K = K := by rfl) : CallR X (.type "tuple") (fun xs H Q => ∃ p ys, xs = [.ref p] ∧ ((SqL K H p ys ∧ ∀ l, H l = none → Q (.ref l) (upd H l (.tup ys))) ∨ (SqT K H p ys ∧ Q (.ref p) H))) := by
  subst hK
  exact call_tuple_of
end L2
namespace L2
open PySem PySem.Spec PyProof.Rows
/-! ## X17. a block's name that the def has too -/
section
variable {X : Cx} {elt iter : Expr} {x : Str} {px pos : Pos} {ifs : List Expr} {sc : Scope} {wi : TI} {tt : TT} {te : TE}
theorem pe_compS (N2 : List Str) (hc : X.calm = true) (hN2 : (x :: N2).Nodup) (hi : PI X (.Name x px) iter wi)
    (hb : ∀ (cl : List (Str × Addr)) (C : Addr) (fp : List Addr) (s : Shared) (H : Hp), PTs { cxComp X x sc cl C fp s H with N := x :: N2 } ifs tt ∧ PE { cxComp X x sc cl C fp s H with N := x :: N2 } elt te)
    (hx : sc.names.lookup x = some .local := by rfl) (hkind : sc.kind = .function := by rfl)
    (hnames : ∀ y ∈ sc.names, y.2 = .local → sc.names.lookup y.1 = some .local := by decide +kernel) (hcell : ∀ y ∈ sc.names, y.2 ≠ .cell := by decide +kernel)
    (hfree : (sc.names.all fun y => y.2 != .free || X.env.scope.names.lookup y.1 == some .cell) = true := by rfl)
    (hlo : (N2.all fun y => sc.names.lookup y != some .local) = true := by rfl) (hl2 : N2.length = X.N.length := by rfl) (hz2 : ((N2.zip X.N).all fun y => y.1 == y.2 || sc.names.lookup y.1 == none) = true := by rfl)
    (hs : ∀ x, foldedSetIterable iter X.env x = pure x := by intro _; rfl) :
    PE X (.ListComp elt [⟨.Name x px, iter, ifs, 0⟩] sc pos) (tComp wi tt te) := by
  intro pins s σ H Q I h
  have hfr : ∀ y ∈ sc.names, y.2 = .free → X.env.kindOf y.1 = some .cell := fun y hy e => by
    have q := List.all_eq_true.mp hfree y hy
    rw [e] at q
    simpa [Env.kindOf] using q
  have hlo' : ∀ y ∈ N2, sc.names.lookup y ≠ some .local := fun y hy e => by
    have q := List.all_eq_true.mp hlo y hy
    rw [e] at q
    simp at q
  obtain ⟨cl, hclos, hsub, hhas⟩ := closure_of (env := X.env) (sc := sc) fun y hy e => I.ok.has y.1 (.inl (hfr y hy e))
  rw [eval_ListComp]
  refine wpAny_comprehension_free (use := none) rfl hs hclos hkind hnames (thn (hi pins s σ H _ I h) fun v s1 h1 => thn h1 fun itv s2 h2 => ?_)
  obtain ⟨it, fp, tn, J, H2, e, I2, T, st2, f2, hW⟩ := h2
  subst e
  -- the accumulator, then the block's frame
  have nobinds : ∀ y ∈ ([] : List (Str × Value)), sc.names.lookup y.1 = some .local := fun y hy => absurd hy (by simp)
  refine wpAny_newObj_type ?_
  refine wpAny_newFunctionEnv hcell nobinds (fun h₁ hns₁ hsb₁ => ?_) hkind
  dsimp only at hns₁ hsb₁ ⊢
  generalize hHa : s2.heap.push { cls := .type "list", dict := none, data := .seq ([] : List Value).toArray } = Ha at hns₁ hsb₁ ⊢
  have hC : Ha.objs.size = s2.heap.objs.size + 1 := by rw [← hHa, Heap.size_push]
  have hDC : s2.heap.objs.size ≠ Ha.objs.size := by rw [hC]; exact Nat.ne_of_lt (Nat.lt_succ_self _)
  have hCle : s2.heap.objs.size ≤ Ha.objs.size := by rw [hC]; exact Nat.le_succ _
  have neC : ∀ b o, s2.heap.get? b = some o → b ≠ Ha.objs.size := fun b o e => Nat.ne_of_lt (Nat.lt_of_lt_of_le (Heap.lt_size e) hCle)
  have old : ∀ b o, s2.heap.get? b = some o → h₁.get? b = some o := fun b o e => hsb₁.extBut b o (neC b o e) (Heap.get?_push_of_some _ (hHa ▸ Heap.get?_push_of_some _ e))
  have hacc : h₁.get? s2.heap.objs.size = some { cls := .type "list", dict := none, data := .seq ([] : List Value).toArray } := hsb₁.extBut _ _ hDC (Heap.get?_push_of_some _ (hHa ▸ Heap.get?_push_size _ rfl))
  generalize hDe : s2.heap.objs.size = D at *
  generalize hCe : Ha.objs.size = C at *
  have hHD : H2 D = none := I2.hok.fresh (Nat.le_of_eq hDe)
  have hHC : H2 C = none := I2.hok.fresh (by omega)
  obtain ⟨W, ⟨m0, w0⟩, turn⟩ := hW D hHD
  have fplt : ∀ b ∈ fp, b < D := fun b hb => by
    obtain ⟨o, e, _⟩ := T.obj _ _ st2 b hb
    rw [← hDe]
    exact Heap.lt_size e
  -- the block's context
  let X' : Cx := { cxComp X x sc cl C fp s2 H2 with N := x :: N2 }
  have nofs : ∀ b ∈ fp, b ∉ frs X.stack := fun b hb z => by
    rcases List.mem_cons.mp (I2.stkSub b z) with e | e
    · exact (f2 b hb).2.1 e
    · exact (f2 b hb).2.2.1 e
  have ok' : X'.Ok := by
    refine ⟨I2.ok.mod, hkind, I2.ok.glob, I2.ok.blt, ?_, fun y z c e1 e2 => I2.ok.inj y z c (hsub y c e1) (hsub z c e2), fun y hy => ?_, fun y c e => absurd (show false = true from e) Bool.false_ne_true, I2.ok.hd, I2.ok.frames, .inl rfl, fun b hb => ⟨?_, fun y c e => ?_⟩, I2.bs,
      Nat.le_trans I2.ok.bsz I2.sz, fun b o e hb => ?_, nofs, I2.stack, I2.stkFree⟩
    · show s2.heap.objs.size ≤ C
      omega
    · rcases hy with hy | hy
      · rcases relabel_lookup (show (relabel sc X.env).names.lookup y = some .cell from hy) with e | ⟨_, e, _⟩
        · exact absurd rfl (hcell _ (PySem.mem_of_lookup e))
        · exact hhas _ (PySem.mem_of_lookup e) rfl
      · rcases relabel_lookup (show (relabel sc X.env).names.lookup y = some .free from hy) with e | ⟨e, _⟩
        · exact hhas _ (PySem.mem_of_lookup e) rfl
        · cases e
    · exact Nat.ne_of_lt (Nat.lt_of_lt_of_le (fplt b hb) (by omega : D ≤ C))
    · exact (f2 b hb).2.2.2.2.1 y c (hsub y c e)
    · rcases (f2 b hb).2.2.2.1 with z | z
      · exact I2.ok.noex b o e z
      · exact absurd (Nat.lt_of_lt_of_le (Nat.lt_of_lt_of_le (Heap.lt_size e) I2.ok.bsz) z) (Nat.lt_irrefl _)
  have I4 : ∀ tk, Inv X' [] (none :: σ) (upd H2 D (.lst [])) { s2 with heap := h₁, toks := tk } := fun tk => by
    refine ⟨ok', rfl, I2.bare, Un.laid old (Nat.le_of_eq hDe) hHD, ⟨_, hns₁, fun i y v e1 e2 e3 => ?_⟩, fun y c e => ?_, ?_, fun y c e => ?_, fun p hp => ?_, I2.hok.laid old (Nat.le_of_eq hDe) ?_, ?_⟩
    · cases i with
      | zero => simp at e2
      | succ i =>
        have e0 : N2[i]? = some y := by simpa [X', cxComp] using e1
        have e2 : σ[i]? = some (some v) := by simpa using e2
        have e3 : Vis (relabel sc X.env) y := e3
        have hyN : y ∈ N2 := List.mem_of_getElem? e0
        have free : sc.names.lookup y = some .free ∧ (relabel sc X.env).names.lookup y ≠ some .local := by
          rcases e3 with e | e | e
          · rcases relabel_lookup e with q | ⟨q, _⟩
            · exact absurd q (hlo' y hyN)
            · cases q
          · rcases relabel_lookup e with q | ⟨_, q, _⟩
            · exact absurd rfl (hcell _ (PySem.mem_of_lookup q))
            · exact ⟨q, by rw [e]; decide⟩
          · rcases relabel_lookup e with q | ⟨q, _⟩
            · exact ⟨q, by rw [e]; decide⟩
            · cases q
        have e1 : X.N[i]? = some y := by
          have hi : i < N2.length := (List.getElem?_eq_some_iff.mp e0).1
          have hi2 : i < X.N.length := by omega
          have hm : (y, X.N[i]) ∈ N2.zip X.N := by
            have hz : (N2.zip X.N)[i]? = some (y, X.N[i]) := by
              rw [List.getElem?_zip_eq_some]
              exact ⟨e0, List.getElem?_eq_getElem hi2⟩
            exact List.mem_of_getElem? hz
          have q := List.all_eq_true.mp hz2 _ hm
          rcases Bool.or_eq_true_iff.mp q with q | q
          · have : y = X.N[i] := eq_of_beq q
            rw [List.getElem?_eq_getElem hi2, ← this]
          · have q2 : sc.names.lookup y = none := by simpa using q
            rw [free.1] at q2
            cases q2
        have kc : X.env.kindOf y = some .cell := hfr _ (PySem.mem_of_lookup free.1) rfl
        obtain ⟨m, hn, hl⟩ := I2.loc
        obtain ⟨u, ru, lk⟩ := hl i y v e1 e2 (.inr (.inl kc))
        rcases lk with ⟨q, _⟩ | ⟨_, c, hcc, ⟨o, ho, hd⟩⟩
        · rw [kc] at q; cases q
        · obtain ⟨c', hc'⟩ := hhas _ (PySem.mem_of_lookup free.1) rfl
          have e4 := hsub _ _ hc'
          rw [hcc] at e4
          cases e4
          refine ⟨u, ru, .inr ⟨?_, c, hc', ⟨o, old c o ho, hd⟩⟩⟩
          rcases e3 with e | e | e
          · exact absurd e free.2
          · exact .inl e
          · exact .inr e
    · obtain ⟨v, o, ho, hd⟩ := I2.cell y c (hsub y c e)
      exact ⟨v, o, old c o ho, hd⟩
    · show upd H2 D (.lst []) C = none
      rw [upd_ne (neA (by omega))]
      exact hHC
    · obtain ⟨v, o, ho, hd⟩ := I2.cell y c (hsub y c e)
      have hlt := Heap.lt_size ho
      rw [hDe] at hlt
      show upd H2 D (.lst []) c = none
      rw [upd_ne (Nat.ne_of_lt hlt)]
      exact I2.freeC y c (hsub y c e)
    · exact absurd (show p ∈ ([] : List (Addr × Obj)) from hp) (by simp)
    · exact ⟨Nat.zero_le _, [], 0, .nil, hacc⟩
    · show (none :: σ).length = (x :: N2).length
      rw [List.length_cons, List.length_cons, I2.len, hl2]
  have hN' : X'.N.Nodup := hN2
  have hx' : X'.env.scope.names.lookup x = some .local := lookup_relabel_local hx
  obtain ⟨PT', PE'⟩ := hb cl C fp s2 H2
  have fpX : ∀ {pins' : List (Addr × Obj)} {H' : Hp}, (∀ b ∈ fp, H' b = none) → (∀ p ∈ pins', p.1 ∉ fp) → ∀ b ∈ fp, FpOk X' pins' H' b := fun hn hp b hb => by
    refine ⟨hn b hb, ?_, nofs b hb, .inl hb, fun y c e => (f2 b hb).2.2.2.2.1 y c (hsub y c e), fun p q z => ?_⟩
    · exact Nat.ne_of_lt (Nat.lt_of_lt_of_le (fplt b hb) (by omega : D ≤ C))
    · rcases List.mem_append.mp q with q | q
      · exact absurd (show p ∈ ([] : List (Addr × Obj)) from q) (by simp)
      · exact hp p q (by rw [z]; exact hb)
  have loop : ∀ tk, codeAny (model X.prog X.w) X.A (.compLoop (.ListComp elt [⟨.Name x px, iter, ifs, 0⟩] sc pos) 0 (.ref it) (.ref D) (compEnvC sc cl C X.env)) (compPost (model X.prog X.w) X.A X.xe none (EP X pins σ Q) (.ref D) C) { s2 with heap := h₁, toks := tk } := fun tk => by
    refine codeAny_compLoop_tests (fun n s' => ∃ i ys o H', Inv X' [] (o :: σ) H' s' ∧ tn i s'.heap ∧ (∀ b ∈ fp, H' b = none) ∧ W i n ys H') ?_ m0 ⟨0, [], none, _, I4 tk, T.keep _ _ _ st2 fun b hb o e => old b o e, fun b hb => ?_, w0⟩
    · rintro n s3 ⟨i, ys, o3, H3, I3, st3, fr3, w3⟩
      obtain ⟨hD3, alt⟩ := turn i n ys H3 w3
      rcases alt with ⟨stop, qn⟩ | ⟨go, hlen, step⟩
      · refine wpAny_mono (T.done X' rfl rfl rfl hc i [] s3 _ H3 (fun _ _ => False) I3 (fpX fr3 (by simp)) st3 stop) (fun r s4 hpq => ?_) fun _ _ f => f.elim
        obtain ⟨hr, I4'⟩ := hpq
        subst hr
        obtain ⟨mC, hnC, _⟩ := I4'.loc
        refine ⟨mC, hnC, fun h' hs' => ?_⟩
        have nC : ∀ b u, H3 b = some u → b ≠ C := fun b u e z => by rw [z] at e; rw [show H3 C = none from I4'.free] at e; cases e
        have hok' : HOk X.prog X.w H3 h' := fun b u e => (I4'.hok b u e).stay (fun c v hcc q => hs'.extBut c v (by
          rcases hcc with z | z
          · rw [z]; exact nC b u e
          · exact nC c _ z) q) (fun _ q => q) fun _ _ q => q
        have un : Un (frs X.stack) fp H2 H3 s2.heap h' :=
          ⟨fun b o e n1 n2 n3 => hs'.extBut b o (neC b o e) (I4'.base.keep b o e n1 n2 n3), fun b o e n1 n2 n3 => by
              obtain ⟨sl, q⟩ := I4'.base.slot b o e n1 n2 n3
              exact ⟨sl, hs'.extBut b _ (neC b o e) q⟩, I4'.base.free, fun b o e n1 => by
              obtain ⟨o', q⟩ := I4'.base.there b o e n1
              exact ⟨o', hs'.extBut b _ (neC b o e) q⟩, I4'.base.tups, I4'.base.frzs, I4'.base.tbls⟩
        exact ⟨.ref D, H3, I2.call' (s' := { s4 with heap := h' }) I4'.os un hok' I4'.bare fun b hb => ⟨(f2 b hb).2.2.2.1, (f2 b hb).2.1, (f2 b hb).2.2.2.2.1, (f2 b hb).2.2.2.2.2⟩, rfl, qn⟩
      · refine wpAny_mono (T.item X' rfl rfl rfl hc i [] s3 _ H3 (fun _ _ => False) I3 (fpX fr3 (by simp)) st3 go) (fun r s4 hpq => ?_) fun _ _ f => f.elim
        obtain ⟨u, hr, h4⟩ := hpq
        subst hr
        have eg : (letOwnedTupleGo (.Name x px) (.ref it) u >>= fun _ => assign (.Name x px) (compEnvC sc cl C X.env) u) = assign (.Name x px) (compEnvC sc cl C X.env) u := pure_bind () _
        show wpAny _ _ (assign (.Name x px) (compEnvC sc cl C X.env) u) _ _ s4
        rw [← eg]
        refine wpAny_bind (wpAny_mono h4 (fun _ s5 hpq => ?_) fun _ _ f => f.elim)
        obtain ⟨y, H5, I5, r5, y5, st5, fr5⟩ := hpq
        have I5' := I5.pinned (fpX fr5 (by simp)) (T.obj _ _ st5)
        refine wpAny_mono (pg_name (X := X') (i := 0) (pos := px) hN' rfl (.inl hx') (.inr hx') _ s5 _ H5 y u (fun σ' H' => σ' = some y :: σ ∧ H' = H5) I5' r5 ⟨rfl, rfl⟩) (fun _ s6 hpq => ?_) fun _ _ f => f.elim
        obtain ⟨σ6, H6, I6, e1, e2⟩ := hpq
        subst e1 e2
        refine wpAny_mono (PT' _ s6 _ _ _ I6 (step y _ y5)) (fun ok s7 hpq => ?_) fun _ _ f => f.elim
        obtain ⟨H7, I7, q7⟩ := hpq
        have again : ∀ {s8 : Shared} {H8 : Hp} {ys' : List V}, Inv X' ([] ++ pinsAt fp s5.heap) (some y :: σ) H8 s8 → (∃ m', m' < n ∧ W (i + 1) m' ys' H8) → ∃ m, m < n ∧ ∃ i ys o H', Inv X' [] (o :: σ) H' s8 ∧ tn i s8.heap ∧ (∀ b ∈ fp, H' b = none) ∧ W i m ys H' := fun {s8 H8 ys'} I8 ⟨m', hm, w8⟩ => by
          refine ⟨m', hm, i + 1, ys', some y, H8, I8.unpinned, T.keep _ _ _ st5 fun b hb o e => (I8.pin (b, o) (List.mem_append_right _ (List.mem_append_right _ (mem_pinsAt hb e)))).1, fun b hb => ?_, w8⟩
          obtain ⟨o, e, d⟩ := T.obj _ _ st5 b hb
          exact (I8.pin (b, o) (List.mem_append_right _ (List.mem_append_right _ (mem_pinsAt hb e)))).2.1
        cases ok with
        | false => exact again I7 q7
        | true =>
          have q7 : te (some y :: σ) H7 _ := q7
          refine wpAny_mono (PE' _ s7 _ _ _ I7 q7) (fun z s8 hpq => ?_) fun _ _ f => f.elim
          obtain ⟨yv, H8, I8, r8, hD8, q8⟩ := hpq
          refine wpAny_mono (mt_append (X := X') _ s8 _ H8 (.ref D) [yv] (.ref D) [z] (fun _ H9 => H9 = upd H8 D (.lst (ys ++ [yv]))) I8 rfl (.cons r8 .nil) ⟨D, ys, yv, rfl, rfl, hD8, hlen, rfl⟩) (fun _ s9 hpq => ?_) fun _ _ f => f.elim
          obtain ⟨_, H9, I9, _, e9⟩ := hpq
          subst e9
          exact again I9 q8
    · show upd H2 D (.lst []) b = none
      rw [upd_ne (Nat.ne_of_lt (fplt b hb))]
      exact (f2 b hb).1
  exact codeAny_compStart_list (loop _) (T.self _ _ _ _ _ (T.keep _ _ _ st2 fun b hb o e => old b o e) (loop _))
end
end L2

namespace RA
open PySem L2
/-! machines out of lists -/
def RowsL (H : Hp) (rows : List Addr) (Rs : List (List Int)) : Prop := rows.length = Rs.length ∧ ∀ (i : Nat) (r : Addr), rows[i]? = some r → ∃ R, Rs[i]? = some R ∧ H r = some (.lst (R.map V.int))
def RowsT (H : Hp) (rows : List Addr) (Rs : List (List Int)) : Prop := rows.length = Rs.length ∧ ∀ (i : Nat) (r : Addr), rows[i]? = some r → ∃ R, Rs[i]? = some R ∧ H r = some (.tup (R.map V.int))
/-- what no machine can be made of -/
def BadM (L : List Nat) (Rs : List (List Int)) (Bs : List Bool) : Prop := Rs.length = 0 ∨ Bs.length ≠ Rs.length ∨ ∃ R ∈ Rs, R.length ≠ L.length ∨ ∃ x ∈ R, ¬ (0 ≤ x ∧ x < (Rs.length : Int))
def MachI (H : Hp) (m : Addr) (L : List Nat) (Rs : List (List Int)) (Bs : List Bool) : Prop :=
  ∃ (wy mk : Addr) (rows : List Addr), H m = some (.tup [.str (tx L), .ref wy, .ref mk]) ∧ H wy = some (.tup (rows.map V.ref)) ∧ H mk = some (.tup (Bs.map V.bl)) ∧ RowsT H rows Rs
/-- alike through and through -/
def flat3 : V → Bool
  | .bl _ => true
  | .int _ => true
  | .str _ => true
  | _ => false
def Like (H : Hp) : Nat → V → V → Prop
  | 0, x, y => x = y ∧ flat3 x = true
  | d + 1, x, y => (x = y ∧ flat3 x = true) ∨ ∃ p q xs ys, x = .ref p ∧ y = .ref q ∧ ((H p = some (.tup xs) ∧ H q = some (.tup ys)) ∨ (H p = some (.lst xs) ∧ H q = some (.lst ys))) ∧ xs.length = ys.length ∧ xs.length ≤ 1000 ∧
      ∀ (i : Nat) (x y : V), xs[i]? = some x → ys[i]? = some y → Like H d x y
def natR (W : List (List Nat)) : List (List Int) := W.map fun ws => ws.map fun (n : Nat) => (n : Int)
end RA
namespace RA
open PySem L2
end RA
namespace L2
theorem ixN_in {n : Nat} {k : Int} (h0 : 0 ≤ k) (h1 : k < (n : Int)) : ixN n k = some k.toNat := by
  unfold ixN
  simp [h0, h1]
end L2
namespace RA
open PySem L2
end RA

namespace L2
open PySem PySem.Spec PyProof.Rows
section
variable {κ : Type} [DecidableEq κ]
def valV (kvs : List (κ × V)) (k : κ) : Option V := (kvs.find? fun kv => decide (kv.1 = k)).map (·.2)
theorem valV_pos {p : κ × V} {r : List (κ × V)} {k : κ} (e : p.1 = k) : valV (p :: r) k = some p.2 := by simp [valV, List.find?_cons, e]
theorem valV_neg {p : κ × V} {r : List (κ × V)} {k : κ} (e : ¬ p.1 = k) : valV (p :: r) k = valV r k := by simp [valV, List.find?_cons, e]
/-- raw tables of the same keys -/
theorem KV.val {kvs : List (κ × V)} {vs : List (κ × Value)} (r : KV kvs vs) (k : κ) : RelO (valV kvs k) (valueAt vs k) := by
  unfold KV at r
  induction r with
  | nil => exact True.intro
  | @cons p q ps qs h t ih =>
    obtain ⟨h1, h2⟩ := h
    by_cases e : p.1 = k
    · have e' : q.1 = k := h1.symm.trans e
      have b : valueAt (q :: qs) k = some q.2 := by simp [valueAt, List.find?_cons, e']
      rw [valV_pos e, b]; exact h2
    · have e' : ¬ q.1 = k := fun z => e (h1.trans z)
      have b : valueAt (q :: qs) k = valueAt qs k := by simp [valueAt, List.find?_cons, e']
      rw [valV_neg e, b]; exact ih
end
/-! ### a dict of the module that is only read -/
structure DictK (P : Program) (w : World) (K : PySem.W.Frag) (d : Addr) (kvs : List (Key × V)) : Prop where
  at_ : ∀ h : Heap, K.In h → ∃ vs, KV kvs vs ∧ h.DictOf (mixKind P w) d vs
  ns : (d == sysModules) = false
section
variable {X : Cx} {d : Addr} {kvs : List (Key × V)}
def rIxD (d : Addr) (kvs : List (Key × V)) : R2 := fun x y H Q => ∃ k v, x = .ref d ∧ y = kV k ∧ valV kvs k = some v ∧ Q v H
/-- d.get(k, x) -/
def tGetK (d : Addr) (kvs : List (Key × V)) (to : TE) (t : TA) : TE := fun σ H Q => to σ H fun x H1 => x = .ref d ∧ t σ H1 fun xs H2 => ∃ k z, xs = [kV k, z] ∧ Q ((valV kvs k).getD z) H2
end
end L2

namespace RA
/-! ## rounds of lots, and the words that part rooms -/
section
variable {κ : Type} [DecidableEq κ]
/-- as they first come up -/
def disA (acc : List κ) : List κ → List κ
  | [] => acc
  | k :: ks => disA (if k ∈ acc then acc else acc ++ [k]) ks
def dis (ks : List κ) : List κ := disA [] ks
def numF (ks : List κ) : List Nat := ks.map fun k => (dis ks).idxOf k
theorem disA_snoc (k : κ) : ∀ (ks acc : List κ), disA acc (ks ++ [k]) = if k ∈ disA acc ks then disA acc ks else disA acc ks ++ [k]
  | [], _ => rfl
  | _ :: ks, _ => disA_snoc k ks _
theorem disA_sub : ∀ (ks acc : List κ) (k : κ), k ∈ acc ∨ k ∈ ks ↔ k ∈ disA acc ks
  | [], acc, k => by simp [disA]
  | a :: ks, acc, k => by
    show _ ↔ k ∈ disA (if a ∈ acc then acc else acc ++ [a]) ks
    rw [← disA_sub ks]
    by_cases h : a ∈ acc
    · rw [if_pos h, List.mem_cons]
      constructor
      · rintro (x | rfl | x)
        · exact .inl x
        · exact .inl h
        · exact .inr x
      · rintro (x | x)
        · exact .inl x
        · exact .inr (.inr x)
    · rw [if_neg h, List.mem_cons, List.mem_append, List.mem_singleton]
      constructor
      · rintro (x | x | x)
        · exact .inl (.inl x)
        · exact .inl (.inr x)
        · exact .inr x
      · rintro ((x | x) | x)
        · exact .inl x
        · exact .inr (.inl x)
        · exact .inr (.inr x)
theorem mem_dis {ks : List κ} {k : κ} : k ∈ dis ks ↔ k ∈ ks := by
  rw [dis, ← disA_sub]
  simp
theorem dis_snoc (ks : List κ) (k : κ) : dis (ks ++ [k]) = if k ∈ dis ks then dis ks else dis ks ++ [k] := disA_snoc k ks []
theorem disA_len : ∀ (ks acc : List κ), (disA acc ks).length ≤ acc.length + ks.length
  | [], _ => by simp [disA]
  | a :: ks, acc => by
    have h := disA_len ks (if a ∈ acc then acc else acc ++ [a])
    have h2 : (if a ∈ acc then acc else acc ++ [a]).length ≤ acc.length + 1 := by
      split
      · omega
      · simp
    show (disA (if a ∈ acc then acc else acc ++ [a]) ks).length ≤ _
    rw [List.length_cons]
    omega
theorem dis_len (ks : List κ) : (dis ks).length ≤ ks.length := by
  have := disA_len ks []
  simpa [dis] using this
theorem idx_inj {l : List κ} {a b : κ} (ha : a ∈ l) (h : l.idxOf a = l.idxOf b) : a = b := by
  have h1 : l.idxOf a < l.length := List.idxOf_lt_length_of_mem ha
  have h2 : l.idxOf b < l.length := by omega
  have e1 := List.getElem_idxOf h1
  have e2 := List.getElem_idxOf h2
  rw [← e1, ← e2]
  congr 1
theorem idxOf_leG {l : List κ} {c : κ} : ∀ {i : Nat}, l[i]? = some c → l.idxOf c ≤ i := by
  induction l with
  | nil => intro i e; simp at e
  | cons a l ih =>
    intro i e
    by_cases hac : a = c
    · subst hac
      rw [List.idxOf_cons_self]
      exact Nat.zero_le _
    · cases i with
      | zero => simp at e; exact absurd e hac
      | succ i =>
        have h1 := ih (i := i) (by simpa using e)
        have h2 : (a :: l).idxOf c = l.idxOf c + 1 := by
          rw [List.idxOf_cons, beq_eq_false_iff_ne.mpr hac]
          rfl
        omega
theorem numF_len (ks : List κ) : (numF ks).length = ks.length := by simp [numF]
theorem numF_get {ks : List κ} {i : Nat} {k : κ} (h : ks[i]? = some k) : (numF ks).getD i 0 = (dis ks).idxOf k := by
  rw [List.getD_eq_getElem?_getD, numF, List.getElem?_map, h]
  rfl
theorem numF_mem_lt {ks : List κ} {x : Nat} (h : x ∈ numF ks) : x < ks.length := by
  obtain ⟨k, hk, rfl⟩ := List.mem_map.mp h
  exact Nat.lt_of_lt_of_le (List.idxOf_lt_length_of_mem (mem_dis.mpr hk)) (dis_len ks)
/-- the same number just where the same value stands -/
theorem numF_eq {ks : List κ} {i j : Nat} {a b : κ} (ha : ks[i]? = some a) (hb : ks[j]? = some b) : (numF ks).getD i 0 = (numF ks).getD j 0 ↔ a = b := by
  rw [numF_get ha, numF_get hb]
  constructor
  · exact idx_inj (mem_dis.mpr (List.mem_of_getElem? ha))
  · rintro rfl
    rfl
theorem idx_app {l m : List κ} {a : κ} (h : a ∈ l) : (l ++ m).idxOf a = l.idxOf a := by
  rw [List.idxOf_append, if_pos h]
theorem idx_new {l : List κ} {a : κ} (h : a ∉ l) : (l ++ [a]).idxOf a = l.length := by
  rw [List.idxOf_append, if_neg h]
  simp
/-- the same lots always bear the same numbers -/
theorem numF_same {κ' : Type} [DecidableEq κ'] : ∀ (n : Nat) (ks : List κ) (ks' : List κ'), ks.length = n → ks'.length = n →
    (∀ (i j : Nat) (a b : κ) (a' b' : κ'), ks[i]? = some a → ks[j]? = some b → ks'[i]? = some a' → ks'[j]? = some b' → (a = b ↔ a' = b')) →
    (dis ks).length = (dis ks').length ∧ ∀ (i : Nat) (a : κ) (a' : κ'), ks[i]? = some a → ks'[i]? = some a' → (dis ks).idxOf a = (dis ks').idxOf a' := by
  intro n
  induction n with
  | zero =>
    intro ks ks' h1 h2 _
    rw [List.length_eq_zero_iff] at h1 h2
    subst h1 h2
    exact ⟨rfl, fun i a a' h => by simp at h⟩
  | succ n ih =>
    intro ks ks' h1 h2 hp
    obtain ⟨k, l, rfl⟩ : ∃ k l, ks = l ++ [k] := ⟨ks.getLast (by intro z; rw [z] at h1; cases h1), ks.dropLast, (List.dropLast_concat_getLast _).symm⟩
    obtain ⟨k', l', rfl⟩ : ∃ k l, ks' = l ++ [k] := ⟨ks'.getLast (by intro z; rw [z] at h2; cases h2), ks'.dropLast, (List.dropLast_concat_getLast _).symm⟩
    have l1 : l.length = n := by simpa using h1
    have l2 : l'.length = n := by simpa using h2
    have up : ∀ {α : Type} {l : List α} {k : α} {i : Nat} {a : α}, l[i]? = some a → (l ++ [k])[i]? = some a := fun {α l k i a} e => by
      rw [List.getElem?_append_left (List.getElem?_eq_some_iff.mp e).1]
      exact e
    have last : (l ++ [k])[n]? = some k := by rw [List.getElem?_append_right (by omega), l1]; simp
    have last' : (l' ++ [k'])[n]? = some k' := by rw [List.getElem?_append_right (by omega), l2]; simp
    obtain ⟨q1, q2⟩ := ih l l' l1 l2 fun i j a b a' b' e1 e2 e3 e4 => hp i j a b a' b' (up e1) (up e2) (up e3) (up e4)
    have mm : k ∈ dis l ↔ k' ∈ dis l' := by
      rw [mem_dis, mem_dis]
      constructor
      · intro hm
        obtain ⟨i, hi⟩ := List.mem_iff_getElem?.mp hm
        have hlt : i < l'.length := by have := (List.getElem?_eq_some_iff.mp hi).1; omega
        have e := (hp i n k k l'[i] k' (up hi) last (up (List.getElem?_eq_getElem hlt)) last').mp rfl
        rw [← e]
        exact List.getElem_mem hlt
      · intro hm
        obtain ⟨i, hi⟩ := List.mem_iff_getElem?.mp hm
        have hlt : i < l.length := by have := (List.getElem?_eq_some_iff.mp hi).1; omega
        have e := (hp i n l[i] k k' k' (up (List.getElem?_eq_getElem hlt)) last (up hi) last').mpr rfl
        rw [← e]
        exact List.getElem_mem hlt
    have split : ∀ {i : Nat} {a : κ} {a' : κ'}, (l ++ [k])[i]? = some a → (l' ++ [k'])[i]? = some a' → (l[i]? = some a ∧ l'[i]? = some a') ∨ (i = n ∧ a = k ∧ a' = k') := fun {i a a'} e1 e2 => by
      by_cases hi : i < n
      · rw [List.getElem?_append_left (by omega)] at e1 e2
        exact .inl ⟨e1, e2⟩
      · have : i = n := by
          have := (List.getElem?_eq_some_iff.mp e1).1
          simp at this
          omega
        subst this
        rw [last] at e1
        rw [last'] at e2
        exact .inr ⟨rfl, (Option.some.inj e1).symm, (Option.some.inj e2).symm⟩
    rw [dis_snoc, dis_snoc]
    by_cases hm : k ∈ dis l
    · have hm' := mm.mp hm
      rw [if_pos hm, if_pos hm']
      refine ⟨q1, fun i a a' e1 e2 => ?_⟩
      rcases split e1 e2 with ⟨e1, e2⟩ | ⟨rfl, rfl, rfl⟩
      · exact q2 i a a' e1 e2
      · obtain ⟨j, hj⟩ := List.mem_iff_getElem?.mp (mem_dis.mp hm)
        have hlt : j < l'.length := by have := (List.getElem?_eq_some_iff.mp hj).1; omega
        have e := (hp j i a a l'[j] a' (up hj) last (up (List.getElem?_eq_getElem hlt)) last').mp rfl
        exact q2 j a a' hj (by rw [← e]; exact List.getElem?_eq_getElem hlt)
    · have hm' : k' ∉ dis l' := fun z => hm (mm.mpr z)
      rw [if_neg hm, if_neg hm']
      refine ⟨by simp [q1], fun i a a' e1 e2 => ?_⟩
      rcases split e1 e2 with ⟨e1, e2⟩ | ⟨rfl, rfl, rfl⟩
      · rw [idx_app (mem_dis.mpr (List.mem_of_getElem? e1)), idx_app (mem_dis.mpr (List.mem_of_getElem? e2))]
        exact q2 i a a' e1 e2
      · rw [idx_new hm, idx_new hm', q1]
theorem numF_canon {κ' : Type} [DecidableEq κ'] {ks : List κ} {ks' : List κ'} (hl : ks.length = ks'.length)
    (hp : ∀ (i j : Nat) (a b : κ) (a' b' : κ'), ks[i]? = some a → ks[j]? = some b → ks'[i]? = some a' → ks'[j]? = some b' → (a = b ↔ a' = b')) : numF ks = numF ks' := by
  obtain ⟨_, h⟩ := numF_same ks'.length ks ks' hl rfl hp
  refine List.ext_getElem? fun i => ?_
  by_cases hi : i < ks.length
  · have e1 : ks[i]? = some ks[i] := List.getElem?_eq_getElem hi
    have e2 : ks'[i]? = some (ks'[i]'(by omega)) := List.getElem?_eq_getElem (by omega)
    rw [numF, numF, List.getElem?_map, List.getElem?_map, e1, e2]
    exact congrArg some (h i _ _ e1 e2)
  · rw [List.getElem?_eq_none (by rw [numF_len]; omega), List.getElem?_eq_none (by rw [numF_len]; omega)]
end
/-- the lots of the next round -/
def keyAt (W : List (List Nat)) (lots : List Nat) (i : Nat) : Nat × List Nat := (lots.getD i 0, (W.getD i []).map fun g => lots.getD g 0)
def keysOf (W : List (List Nat)) (lots : List Nat) : List (Nat × List Nat) := (List.range W.length).map (keyAt W lots)
def Rd (W : List (List Nat)) (B : List Bool) : Nat → List Nat
  | 0 => numF B
  | k + 1 => numF (keysOf W (Rd W B k))
theorem keysOf_get {W : List (List Nat)} {lots : List Nat} {i : Nat} (h : i < W.length) : (keysOf W lots)[i]? = some (keyAt W lots i) := by
  rw [keysOf, List.getElem?_map, List.getElem?_range h]
  rfl
theorem keysOf_len (W : List (List Nat)) (lots : List Nat) : (keysOf W lots).length = W.length := by simp [keysOf]
theorem Rd_len {L : List Nat} {W : List (List Nat)} {B : List Bool} (h : Mach L W B) : ∀ k, (Rd W B k).length = W.length
  | 0 => by rw [Rd, numF_len, h.bl]
  | k + 1 => by rw [Rd, numF_len, keysOf_len]
theorem Rd_lt {L : List Nat} {W : List (List Nat)} {B : List Bool} (h : Mach L W B) {k x : Nat} (hx : x ∈ Rd W B k) : x < W.length := by
  cases k with
  | zero => rw [← h.bl]; exact numF_mem_lt hx
  | succ k => rw [← keysOf_len W (Rd W B k)]; exact numF_mem_lt hx
/-- the lot of a room -/
def lot (W : List (List Nat)) (B : List Bool) (k r : Nat) : Nat := (Rd W B k).getD r 0
theorem lot_zero {L : List Nat} {W : List (List Nat)} {B : List Bool} (h : Mach L W B) {r s : Nat} (hr : r < W.length) (hs : s < W.length) : lot W B 0 r = lot W B 0 s ↔ B.getD r false = B.getD s false := by
  have e1 : B[r]? = some (B[r]'(by rw [h.bl]; exact hr)) := List.getElem?_eq_getElem _
  have e2 : B[s]? = some (B[s]'(by rw [h.bl]; exact hs)) := List.getElem?_eq_getElem _
  rw [lot, lot, Rd, numF_eq e1 e2, List.getD_eq_getElem?_getD, List.getD_eq_getElem?_getD, e1, e2]
  rfl
theorem row_of {L : List Nat} {W : List (List Nat)} {B : List Bool} (h : Mach L W B) {r : Nat} (hr : r < W.length) : (W.getD r []).length = L.length ∧ ∀ x ∈ W.getD r [], x < W.length := by
  have e : W.getD r [] = W[r] := by rw [List.getD_eq_getElem?_getD, List.getElem?_eq_getElem hr]; rfl
  rw [e]
  exact h.row _ (List.getElem_mem hr)
def goal (W : List (List Nat)) (r i : Nat) : Nat := (W.getD r []).getD i 0
theorem goal_lt {L : List Nat} {W : List (List Nat)} {B : List Bool} (h : Mach L W B) {r i : Nat} (hr : r < W.length) (hi : i < L.length) : goal W r i < W.length := by
  obtain ⟨h1, h2⟩ := row_of h hr
  rw [goal, List.getD_eq_getElem?_getD, List.getElem?_eq_getElem (by omega)]
  exact h2 _ (List.getElem_mem _)
theorem nxt_goal (L : List Nat) (W : List (List Nat)) (r c : Nat) : nxt L W r c = goal W r (L.idxOf c) := rfl
theorem lot_succ {L : List Nat} {W : List (List Nat)} {B : List Bool} (h : Mach L W B) {k r s : Nat} (hr : r < W.length) (hs : s < W.length) :
    lot W B (k + 1) r = lot W B (k + 1) s ↔ lot W B k r = lot W B k s ∧ ∀ i < L.length, lot W B k (goal W r i) = lot W B k (goal W s i) := by
  rw [lot, lot, Rd, numF_eq (keysOf_get hr) (keysOf_get hs), keyAt, keyAt, Prod.mk.injEq]
  obtain ⟨a1, _⟩ := row_of h hr
  obtain ⟨b1, _⟩ := row_of h hs
  refine and_congr Iff.rfl ⟨fun e i hi => ?_, fun e => List.ext_getElem? fun i => ?_⟩
  · have := congrArg (fun l => l[i]?) e
    simp only [List.getElem?_map] at this
    rw [List.getElem?_eq_getElem (by omega), List.getElem?_eq_getElem (by omega)] at this
    rw [goal, goal, List.getD_eq_getElem?_getD (l := W.getD r []), List.getD_eq_getElem?_getD (l := W.getD s []), List.getElem?_eq_getElem (by omega), List.getElem?_eq_getElem (by omega)]
    exact Option.some.inj this
  · by_cases hi : i < L.length
    · have := e i hi
      rw [goal, goal, List.getD_eq_getElem?_getD (l := W.getD r []), List.getD_eq_getElem?_getD (l := W.getD s []), List.getElem?_eq_getElem (by omega), List.getElem?_eq_getElem (by omega)] at this
      rw [List.getElem?_map, List.getElem?_map, List.getElem?_eq_getElem (by omega), List.getElem?_eq_getElem (by omega)]
      exact congrArg some this
    · rw [List.getElem?_map, List.getElem?_map, List.getElem?_eq_none (by omega), List.getElem?_eq_none (by omega)]
theorem lot_mono {L : List Nat} {W : List (List Nat)} {B : List Bool} (h : Mach L W B) {r s : Nat} (hr : r < W.length) (hs : s < W.length) {k : Nat} : ∀ {j : Nat}, j ≤ k → lot W B k r = lot W B k s → lot W B j r = lot W B j s := by
  induction k with
  | zero => intro j hj e; rw [Nat.le_zero.mp hj]; exact e
  | succ k ih =>
    intro j hj e
    by_cases hjk : j = k + 1
    · subst hjk; exact e
    · exact ih (by omega) ((lot_succ h hr hs).mp e).1
/-- no word of at most k signs parts the two -/
theorem lot_words {L : List Nat} {W : List (List Nat)} {B : List Bool} (h : Mach L W B) : ∀ {k : Nat} {w : List Nat} {r s : Nat}, r < W.length → s < W.length → w.length ≤ k → (∀ c ∈ w, c ∈ L) → lot W B k r = lot W B k s → B.getD (run L W r w) false = B.getD (run L W s w) false
  | k, [], r, s, hr, hs, _, _, e => (lot_zero h hr hs).mp (lot_mono h hr hs (Nat.zero_le k) e)
  | 0, c :: w, r, s, hr, hs, hl, _, e => by simp at hl
  | k + 1, c :: w, r, s, hr, hs, hl, hw, e => by
    have hi : L.idxOf c < L.length := List.idxOf_lt_length_of_mem (hw c (by simp))
    exact lot_words h (k := k) (w := w) (goal_lt h hr hi) (goal_lt h hs hi) (by simpa using hl) (fun d hd => hw d (by simp [hd])) (((lot_succ h hr hs).mp e).2 _ hi)
/-- how many pairs are alike -/
def twins (n : Nat) (lots : List Nat) : Nat := (List.range (n * n)).countP fun x => decide (lots.getD (x / n) 0 = lots.getD (x % n) 0)
theorem countP_lt {α : Type} {p q : α → Bool} : ∀ {l : List α}, (∀ x ∈ l, p x = true → q x = true) → (∃ x ∈ l, q x = true ∧ p x = false) → l.countP p < l.countP q
  | [], _, ⟨x, hx, _⟩ => by simp at hx
  | a :: l, hi, ⟨x, hx, hq, hp⟩ => by
    have le : l.countP p ≤ l.countP q := List.countP_mono_left fun y hy => hi y (by simp [hy])
    rw [List.countP_cons, List.countP_cons]
    rcases List.mem_cons.mp hx with rfl | hx
    · rw [hq, hp]
      simp
      omega
    · have := countP_lt (l := l) (fun y hy => hi y (by simp [hy])) ⟨x, hx, hq, hp⟩
      have h1 := hi a (by simp)
      cases hpa : p a with
      | false => simp; omega
      | true => rw [h1 hpa]; simp; omega
theorem twins_lt {L : List Nat} {W : List (List Nat)} {B : List Bool} (h : Mach L W B) {k : Nat} (e : Rd W B (k + 1) ≠ Rd W B k) : twins W.length (Rd W B (k + 1)) < twins W.length (Rd W B k) := by
  have hn := h.n1
  have cell : ∀ x ∈ List.range (W.length * W.length), x / W.length < W.length ∧ x % W.length < W.length := fun x hx => by
    have hx := List.mem_range.mp hx
    exact ⟨Nat.div_lt_of_lt_mul hx, Nat.mod_lt _ (by omega)⟩
  refine countP_lt (fun x hx hp => ?_) ?_
  · obtain ⟨c1, c2⟩ := cell x hx
    have q : lot W B (k + 1) (x / W.length) = lot W B (k + 1) (x % W.length) := of_decide_eq_true hp
    exact decide_eq_true ((lot_succ h c1 c2).mp q).1
  · refine Classical.byContradiction fun no => e ?_
    have pat : ∀ r s, r < W.length → s < W.length → (lot W B (k + 1) r = lot W B (k + 1) s ↔ lot W B k r = lot W B k s) := fun r s hr hs => by
      refine ⟨fun q => ((lot_succ h hr hs).mp q).1, fun q => Classical.byContradiction fun nq => no ⟨r * W.length + s, ?_, ?_, ?_⟩⟩
      · rw [List.mem_range]
        calc r * W.length + s < r * W.length + W.length := by omega
          _ = (r + 1) * W.length := by rw [Nat.succ_mul]
          _ ≤ W.length * W.length := Nat.mul_le_mul_right _ hr
      · have d1 : (r * W.length + s) / W.length = r := by rw [Nat.mul_comm, Nat.mul_add_div (by omega), Nat.div_eq_of_lt hs]; omega
        have d2 : (r * W.length + s) % W.length = s := by rw [Nat.mul_comm, Nat.mul_add_mod, Nat.mod_eq_of_lt hs]
        simp only [d1, d2]
        exact decide_eq_true q
      · have d1 : (r * W.length + s) / W.length = r := by rw [Nat.mul_comm, Nat.mul_add_div (by omega), Nat.div_eq_of_lt hs]; omega
        have d2 : (r * W.length + s) % W.length = s := by rw [Nat.mul_comm, Nat.mul_add_mod, Nat.mod_eq_of_lt hs]
        simp only [d1, d2]
        exact decide_eq_false nq
    cases k with
    | zero =>
      show numF (keysOf W (Rd W B 0)) = numF B
      refine numF_canon (by rw [keysOf_len, h.bl]) fun i j a b a' b' e1 e2 e3 e4 => ?_
      have hi : i < W.length := by have := (List.getElem?_eq_some_iff.mp e1).1; rwa [keysOf_len] at this
      have hj : j < W.length := by have := (List.getElem?_eq_some_iff.mp e2).1; rwa [keysOf_len] at this
      rw [← numF_eq e1 e2, ← numF_eq e3 e4]
      exact pat i j hi hj
    | succ k =>
      show numF (keysOf W (Rd W B (k + 1))) = numF (keysOf W (Rd W B k))
      refine numF_canon (by rw [keysOf_len, keysOf_len]) fun i j a b a' b' e1 e2 e3 e4 => ?_
      have hi : i < W.length := by have := (List.getElem?_eq_some_iff.mp e1).1; rwa [keysOf_len] at this
      have hj : j < W.length := by have := (List.getElem?_eq_some_iff.mp e2).1; rwa [keysOf_len] at this
      rw [← numF_eq e1 e2, ← numF_eq e3 e4]
      exact pat i j hi hj
/-! ### the word -/
/-- the first letter that parts -/
def parts (W : List (List Nat)) (B : List Bool) (k r s : Nat) : List Bool := ((W.getD r []).zip (W.getD s [])).map fun p => decide (lot W B k p.1 = lot W B k p.2)
def place (W : List (List Nat)) (B : List Bool) (k r s : Nat) : Nat := (parts W B k r s).idxOf false
def pw (L : List Nat) (W : List (List Nat)) (B : List Bool) : Nat → Nat → Nat → List Nat
  | 0, _, _ => []
  | k + 1, r, s => L.getD (place W B k r s) 0 :: pw L W B k (goal W r (place W B k r s)) (goal W s (place W B k r s))
theorem parts_get {L : List Nat} {W : List (List Nat)} {B : List Bool} (h : Mach L W B) {k r s i : Nat} (hr : r < W.length) (hs : s < W.length) (hi : i < L.length) : (parts W B k r s)[i]? = some (decide (lot W B k (goal W r i) = lot W B k (goal W s i))) := by
  obtain ⟨a1, _⟩ := row_of h hr
  obtain ⟨b1, _⟩ := row_of h hs
  rw [parts, List.getElem?_map, goal, goal, List.getD_eq_getElem?_getD (l := W.getD r []), List.getD_eq_getElem?_getD (l := W.getD s [])]
  have e : ((W.getD r []).zip (W.getD s []))[i]? = some ((W.getD r [])[i]'(by omega), (W.getD s [])[i]'(by omega)) := by
    rw [List.getElem?_zip_eq_some]
    exact ⟨List.getElem?_eq_getElem _, List.getElem?_eq_getElem _⟩
  rw [e, List.getElem?_eq_getElem (by omega), List.getElem?_eq_getElem (by omega)]
  rfl
theorem parts_len {L : List Nat} {W : List (List Nat)} {B : List Bool} (h : Mach L W B) {k r s : Nat} (hr : r < W.length) (hs : s < W.length) : (parts W B k r s).length = L.length := by
  obtain ⟨a1, _⟩ := row_of h hr
  obtain ⟨b1, _⟩ := row_of h hs
  rw [parts, List.length_map, List.length_zip]
  omega
theorem place_of {L : List Nat} {W : List (List Nat)} {B : List Bool} (h : Mach L W B) {k r s : Nat} (hr : r < W.length) (hs : s < W.length) (ne : lot W B (k + 1) r ≠ lot W B (k + 1) s) (eq : lot W B k r = lot W B k s) :
    place W B k r s < L.length ∧ lot W B k (goal W r (place W B k r s)) ≠ lot W B k (goal W s (place W B k r s)) ∧ ∀ i < place W B k r s, lot W B k (goal W r i) = lot W B k (goal W s i) := by
  have hm : false ∈ parts W B k r s := by
    refine Classical.byContradiction fun no => ne ((lot_succ h hr hs).mpr ⟨eq, fun i hi => Classical.byContradiction fun q => no ?_⟩)
    have := parts_get h (k := k) hr hs hi
    rw [decide_eq_false q] at this
    exact List.mem_of_getElem? this
  have hlt : place W B k r s < (parts W B k r s).length := List.idxOf_lt_length_of_mem hm
  have hL : place W B k r s < L.length := by rw [parts_len h hr hs] at hlt; exact hlt
  refine ⟨hL, ?_, fun i hi => ?_⟩
  · have e1 := List.getElem_idxOf hlt
    have e2 := parts_get h (k := k) hr hs hL
    rw [List.getElem?_eq_getElem hlt] at e2
    have e3 : decide (lot W B k (goal W r (place W B k r s)) = lot W B k (goal W s (place W B k r s))) = false := by
      rw [← Option.some.inj e2]
      exact e1
    exact of_decide_eq_false e3
  · have e2 := parts_get h (k := k) hr hs (i := i) (by omega)
    refine Classical.byContradiction fun q => ?_
    rw [decide_eq_false q] at e2
    have : (parts W B k r s).idxOf false ≤ i := by
      have hi2 := (List.getElem?_eq_some_iff.mp e2)
      obtain ⟨h1, h2⟩ := hi2
      exact idxOf_leG e2
    have h9 : place W B k r s ≤ i := this
    omega
theorem zip_turn {f g : Nat × Nat → Bool} (h : ∀ a b, f (a, b) = g (b, a)) : ∀ (l m : List Nat), (l.zip m).map f = (m.zip l).map g
  | [], [] => rfl
  | [], _ :: _ => rfl
  | _ :: _, [] => rfl
  | a :: l, b :: m => by
    rw [List.zip_cons_cons, List.zip_cons_cons, List.map_cons, List.map_cons, h, zip_turn h l m]
/-- what is told of two rooms -/
def PartOf (L : List Nat) (W : List (List Nat)) (B : List Bool) (r s : Nat) (o : Option (List Nat)) : Prop :=
  (o = none ∧ ∀ k, lot W B k r = lot W B k s) ∨ ∃ k, o = some (pw L W B k r s) ∧ lot W B k r ≠ lot W B k s ∧ ∀ j < k, lot W B j r = lot W B j s
theorem twins_top {L : List Nat} {W : List (List Nat)} {B : List Bool} (h : Mach L W B) {k : Nat} (e : ∀ i < k, Rd W B (i + 1) ≠ Rd W B i) : ∀ j ≤ k, twins W.length (Rd W B j) + j ≤ W.length * W.length
  | 0, _ => by
    have := List.countP_le_length (p := fun x => decide ((Rd W B 0).getD (x / W.length) 0 = (Rd W B 0).getD (x % W.length) 0)) (l := List.range (W.length * W.length))
    rw [List.length_range] at this
    exact this
  | j + 1, hj => by
    have h1 := twins_top h e j (by omega)
    have h2 := twins_lt h (e j (by omega))
    omega
theorem few_rounds {L : List Nat} {W : List (List Nat)} {B : List Bool} (h : Mach L W B) {k : Nat} (e : ∀ i < k, Rd W B (i + 1) ≠ Rd W B i) : k ≤ 3600 := by
  have h1 := twins_top h e k (Nat.le_refl _)
  have h2 : W.length * W.length ≤ 60 * 60 := Nat.mul_le_mul h.n60 h.n60
  omega
end RA

namespace L2
open PySem PySem.Spec PyProof.Rows
/-! ## dicts whose keys are truths; dicts whose keys are tuples of an int and a tuple of ints -/
def isBl (b : Bool) : Value → Bool
  | .bool c => c == b
  | _ => false
theorem isBl_shape {b : Bool} {v : Value} (h : isBl b v = true) : v = .bool b := by
  cases v with
  | bool c => rw [eq_of_beq (show (c == b) = true from h)]
  | _ => exact absurd (show false = true from h) Bool.false_ne_true
def boolKind (P : Program) (w : World) : PySem.KeyKind P w Bool where
  is := isBl
  hash := fun b => reduceHash (if b then 1 else 0)
  inj := fun v a b ha hb => by
    have e := (isBl_shape ha).symm.trans (isBl_shape hb)
    cases e
    rfl
  byValue := fun k v h => by rw [isBl_shape h]; rfl
  pyHash := fun {A E s k v Q} h q => by
    cases isBl_shape h
    refine PySem.W.pyHash_slot (T := "bool") rfl F.slot_bool_hash entry_int_hash (args_int_hash _) (beq_builtin_none _) (.inl rfl) ?_
    cases k
    · exact (show wpAny _ _ (do ret (← mkInt 0)) _ _ s from wpAny_bind (wpAny_mkInt (wpAny_pure ⟨_, _, rfl, q⟩)))
    · exact (show wpAny _ _ (do ret (← mkInt 1)) _ _ s from wpAny_bind (wpAny_mkInt (wpAny_pure ⟨_, _, rfl, q⟩)))
  eqBool := fun {A E s a b u v Q} ha hb q => by
    cases isBl_shape ha
    cases isBl_shape hb
    have e : (a == b) = decide (a = b) := by cases a <;> cases b <;> rfl
    exact SeqAt.EqAt.bool_bool a b _ _ _ _ (by rw [e]; exact q)
  «strs» := fun k x t v h => absurd (show false = true from h) Bool.false_ne_true
abbrev NK := Nat × List Nat
def zs (ks : List Nat) : List Int := ks.map fun (n : Nat) => (n : Int)
theorem zs_inj {a b : List Nat} (h : zs a = zs b) : a = b := by
  induction a generalizing b with
  | nil => cases b with
    | nil => rfl
    | cons y b => cases h
  | cons x a ih => cases b with
    | nil => cases h
    | cons y b =>
      have h : ((x : Int) :: zs a) = ((y : Int) :: zs b) := h
      injection h with h1 h2
      rw [ih h2, Int.ofNat.inj h1]
section
variable (P : Program) (w : World)
def NestAt (h : Heap) (k : NK) (a : Addr) : Prop := ∃ (o : Obj) (n : Nat) (t : Tok) (b : Addr), h.get? a = some o ∧ o.cls = .type "tuple" ∧ o.data = .seq #[.int (k.1 : Int) t, .ref b] n ∧ IsTupleKey (intKind P w) h (zs k.2) b
def nestHash (k : NK) : Int := reduceHash (Builtin.Tuple.tupleHashOf [hashInt (k.1 : Int), tupleKeyHash (intKind P w) (zs k.2)])
end
section
variable {P : Program} {w : World}
theorem NestAt.inj {h : Heap} {a : Addr} {x y : NK} (hx : NestAt P w h x a) (hy : NestAt P w h y a) : x = y := by
  obtain ⟨o, n, t, b, h1, _, h3, h4⟩ := hx
  obtain ⟨o', n', t', b', g1, _, g3, g4⟩ := hy
  rw [h1] at g1
  cases g1
  rw [h3] at g3
  injection g3 with e1 _
  have e2 : [Value.int (x.1 : Int) t, .ref b] = [Value.int (y.1 : Int) t', .ref b'] := congrArg Array.toList e1
  injection e2 with e3 e4
  injection e3 with e5 _
  injection e4 with e6 _
  injection e6 with e7
  subst e7
  have e8 := zs_inj (h4.inj g4)
  have e9 : x.1 = y.1 := Int.ofNat.inj e5
  obtain ⟨x1, x2⟩ := x
  obtain ⟨y1, y2⟩ := y
  simp only at e8 e9
  rw [e8, e9]
theorem NestAt.keeps {h h' : Heap} {k : NK} {a d : Addr} {o : Obj} {es ep} (x : NestAt P w h k a) (ho : h.get? d = some o) (hd : o.data = .dict es ep) (hs : Heap.SameBut d h h') : NestAt P w h' k a := by
  obtain ⟨o', n, t, b, h1, h2, h3, h4⟩ := x
  refine ⟨o', n, t, b, (hs.2 a ?_).trans h1, h2, h3, h4.keeps ho hd hs⟩
  rintro rfl
  rw [h1] at ho
  cases ho
  rw [h3] at hd
  cases hd
theorem NestAt.tup {h : Heap} {k : NK} {a : Addr} (x : NestAt P w h k a) : ∃ t b, h.IsTuple a #[.int (k.1 : Int) t, .ref b] ∧ IsTupleKey (intKind P w) h (zs k.2) b := by
  obtain ⟨o, n, t, b, h1, h2, h3, h4⟩ := x
  exact ⟨t, b, ⟨o, h1, h2, n, h3⟩, h4⟩
theorem nest_hash {A : Around} {E : Value → Shared → Prop} {s : Shared} {k : NK} {a : Addr} {Q : Int → Shared → Prop} (hu : A.units + 1 < cLine) (x : NestAt P w s.heap k a) (q : Q (nestHash P w k) { s with toks := s.toks + (k.2.length + 3) }) :
    wpAny (model P w) A (pyHash (.ref a)) Q E s := by
  obtain ⟨o, n, t, b, h1, h2, h3, h4⟩ := x
  refine PySem.W.pyHash_slot (T := "tuple") ⟨o, h1, h2⟩ F.slot_tuple_hash F.entry_tuple_hash (F.args_tuple_hash_1 _) (beq_builtin_none _) (.inr (by omega)) ?_
  refine wpAny_bind (m := Builtin.Tuple.tupleItemsOf (.ref a)) (wpAny_tupleItemsOf h1 h3 (wpAny_bind ?_))
  rw [← Array.forIn_toList]
  show wpAny _ _ (forIn [Value.int (k.1 : Int) t, .ref b] _ _) _ _ _
  rw [List.forIn_cons]
  refine wpAny_bind (wpAny_bind (wpAny_pyHash_int (wpAny_bind (wpAny_pure (wpAny_pure ?_)))))
  dsimp only
  rw [List.forIn_cons]
  refine wpAny_bind (wpAny_bind (wpAny_pyHash_tuple (knd := intKind P w) (by show A.in1.units < cLine; rw [Around.in1_units]; exact hu) h4 (wpAny_bind (wpAny_pure (wpAny_pure ?_)))))
  dsimp only
  rw [List.forIn_nil]
  refine wpAny_pure ?_
  refine wpAny_bind (wpAny_mkInt (wpAny_pure ⟨_, _, rfl, ?_⟩))
  have e : s.toks + 1 + ((zs k.2).length + 1) + 1 = s.toks + (k.2.length + 3) := by
    have : (zs k.2).length = k.2.length := by simp [zs]
    omega
  simpa [e, nestHash] using q
theorem tk_any {P' : Program} {w' : World} {h : Heap} {ks : List Int} {b : Addr} (x : IsTupleKey (intKind P w) h ks b) : IsTupleKey (intKind P' w') h ks b := by
  obtain ⟨o, its, n, h1, h2, h3, h4⟩ := x
  refine ⟨o, its, n, h1, h2, h3, ?_⟩
  generalize its.toList = l at h4 ⊢
  induction h4 with
  | nil => exact .nil
  | cons a _ ih => exact .cons a ih
theorem nest_eq {A : Around} {s : Shared} {x y : NK} {a b : Addr} (hu : A.units + 1 < cLine) (hx : NestAt P w s.heap x a) (hy : NestAt P w s.heap y b) (E : Value → Shared → Prop) (Q : Bool → Shared → Prop) (q : Q (decide (x = y)) s) :
    wpAny (model P w) A (eqBool (.ref a) (.ref b)) Q E s := by
  by_cases hab : a = b
  · subst hab
    have e := hx.inj hy
    rw [decide_eq_true e] at q
    exact SeqAt.EqAt.same (.ref a) P w E Q q
  · obtain ⟨t, c, h1, h2⟩ := hx.tup
    obtain ⟨u, d, g1, g2⟩ := hy.tup
    have hu1 : A.in1.units < cLine := by rw [Around.in1_units]; exact hu
    have inner : SeqAt.EqAt A.in1 s (.ref c) (.ref d) (decide (zs x.2 = zs y.2)) := fun P' w' E' Q' q' => wpAny_eqBool_tuple (knd := intKind P' w') hu1 (tk_any h2) (tk_any g2) q'
    have all := SeqAt.EqAt.of_refs (A := A) hab (SeqAt.RcAt.tuples (s := s) (e := fun j => if j = 0 then ((x.1 : Int) == (y.1 : Int)) else decide (zs x.2 = zs y.2)) h1 g1 (by omega) (fun j l1 l2 => by
      match j, l1, l2 with
      | 0, _, _ => exact SeqAt.EqAt.int_int _ t _ u
      | 1, _, _ => exact inner
      | n + 2, l1, _ => exact absurd l1 (by show ¬ (n + 2 < 2); omega)))
    refine all P w E Q ?_
    have e : ((List.range (min (#[Value.int (x.1 : Int) t, .ref c] : Array Value).size (#[Value.int (y.1 : Int) u, .ref d] : Array Value).size)).all (fun j => if j = 0 then ((x.1 : Int) == (y.1 : Int)) else decide (zs x.2 = zs y.2)) && (#[Value.int (x.1 : Int) t, .ref c] : Array Value).size == (#[Value.int (y.1 : Int) u, .ref d] : Array Value).size) = decide (x = y) := by
      show (((x.1 : Int) == (y.1 : Int)) && (decide (zs x.2 = zs y.2) && true) && true) = _
      obtain ⟨x1, x2⟩ := x
      obtain ⟨y1, y2⟩ := y
      by_cases e1 : x1 = y1
      · by_cases e2 : x2 = y2
        · subst e1 e2
          simp
        · have : zs x2 ≠ zs y2 := fun z => e2 (zs_inj z)
          simp [e1, e2, this]
      · have : ¬ ((x1 : Int) = (y1 : Int)) := fun z => e1 (Int.ofNat.inj z)
        simp [e1, this]
    rw [e]
    exact q
theorem quiet_in {A : Around} {E : Value → Shared → Prop} {s : Shared} {n : Nat} {a : Addr} {items : Array Value} {Q : Bool → Shared → Prop} (x : s.heap.IsTuple a items) (hi : ∀ v ∈ items.toList, ∀ (R : Bool → Shared → Prop), R true s → wpAny (model P w) A (eqIsQuiet n v) R E s) (q : Q true s) :
    wpAny (model P w) A (eqIsQuiet (n + 1) (.ref a)) Q E s := by
  obtain ⟨o, h1, h2, m, h3⟩ := x
  have hT : s.TypeIs (.ref a) "tuple" := ⟨o, h1, h2⟩
  unfold eqIsQuiet
  refine wpAny_bind (wpAny_specialOf hT F.slot_tuple_eq.lookup (wpAny_bind (m := isInstance (.ref a) (.type "tuple")) (wpAny_isInstance hT isSubtype_tuple_tuple ?_)))
  simp only [Bool.not_true, Bool.false_eq_true, if_false]
  refine wpAny_bind (wpAny_seqItems h1 h3 (wpAny_bind ?_))
  show wpAny _ _ (forIn items _ _) _ _ _
  rw [← Array.forIn_toList]
  refine wpAny_forIn_list _ (fun rest r s' => r.1 = none ∧ s' = s ∧ ∀ v ∈ rest, v ∈ items.toList) _ ?_ ?_ _ _ ⟨rfl, rfl, fun v hv => hv⟩
  · rintro v rest r s' ⟨hr, rfl, all⟩
    refine wpAny_bind (hi v (all v List.mem_cons_self) _ ?_)
    simp only [Bool.not_true, Bool.false_eq_true, if_false]
    exact wpAny_pure ⟨rfl, rfl, fun u hu => all u (List.mem_cons_of_mem _ hu)⟩
  · rintro ⟨r1, r2⟩ s' ⟨hr, rfl, _⟩
    simp only at hr
    subst hr
    exact wpAny_pure q
theorem nest_quiet {A : Around} {E : Value → Shared → Prop} {s : Shared} {k : NK} {a : Addr} {Q : Bool → Shared → Prop} (x : NestAt P w s.heap k a) (q : Q true s) : wpAny (model P w) A (eqIsQuiet 8 (.ref a)) Q E s := by
  obtain ⟨t, b, h1, h2⟩ := x.tup
  refine quiet_in (n := 7) h1 (fun v hv R r => ?_) q
  have hv : v ∈ [Value.int (k.1 : Int) t, .ref b] := hv
  rcases List.mem_cons.mp hv with rfl | hv
  · rw [eqIsQuiet_byValue _ rfl]
    exact wpAny_pure r
  · rw [List.mem_singleton.mp hv]
    obtain ⟨o, its, n, g1, g2, g3, g4⟩ := h2
    refine quiet_in (n := 6) ⟨o, g1, g2, n, g3⟩ (fun v hv R r => ?_) r
    rw [eqIsQuiet_byValue _ (g4.byValue v hv)]
    exact wpAny_pure r
end
def nestKind (P : Program) (w : World) : HeapKind P w NK where
  is := NestAt P w
  hash := nestHash P w
  draws := fun k => k.2.length + 3
  room := fun A => A.units + 1 < cLine
  inj := fun a b => a.inj b
  keeps := fun x ho hd hs => x.keeps ho hd hs
  pyHash := fun hu hk h => nest_hash hu hk h
  eqBool := fun hu hx hy h => nest_eq hu hx hy _ _ h
  quiet := fun hk h => nest_quiet hk h
end L2

namespace L2
open PySem PySem.Spec PyProof.Rows
/-! ## dicts by their keys' kind -/
structure HKd (P : Program) (w : World) (κ : Type) [DecidableEq κ] where
  knd : HeapKind P w κ
  kin : Hp → κ → Addr → Prop
  ok : ∀ {H : Hp} {h : Heap} {k : κ} {a : Addr}, kin H k a → HOk P w H h → knd.is h k a
  room : ∀ {A : Around}, A.units + 64 < cLine → knd.room A.in1 ∧ knd.room A
  stay : ∀ {H H' : Hp} {k : κ} {a : Addr}, (∀ b xs, H b = some (.tup xs) → H' b = some (.tup xs)) → kin H k a → kin H' k a
def TIn (H : Hp) (k : List Int) (a : Addr) : Prop := H a = some (.tup (k.map V.int))
def NIn (H : Hp) (k : NK) (a : Addr) : Prop := ∃ b, H a = some (.tup [.int (k.1 : Int), .ref b]) ∧ H b = some (.tup ((zs k.2).map V.int))
theorem items_int {P : Program} {w : World} : ∀ {ks : List Int} {us : List Value}, Vals (ks.map V.int) us → ItemsAre (intKind P w) ks us
  | [], _, r => by rw [List.map_nil] at r; cases r; exact .nil
  | k :: ks, _, r => by
    rw [List.map_cons] at r
    cases r with
    | cons h t =>
      obtain ⟨u, rfl⟩ := (show ∃ t, _ = Value.int k t from h)
      exact .cons (by show Value.isInt k (.int k u) = true; simp [Value.isInt]) (items_int t)
theorem tin_ok {P : Program} {w : World} {H : Hp} {h : Heap} {k : List Int} {a : Addr} (e : TIn H k a) (ok : HOk P w H h) : IsTupleKey (intKind P w) h k a := by
  obtain ⟨_, its, r, o, h1, h2, n, h3⟩ := (show ObjOk P w H h a (.tup (k.map V.int)) from ok a _ e)
  exact ⟨o, its.toArray, n, h1, h2, h3, by simpa using items_int r⟩
def pairD (P : Program) (w : World) : HKd P w (List Int) where
  knd := tupleKind (intKind P w)
  kin := TIn
  ok := fun e ok => tin_ok e ok
  room := fun {A} hu => ⟨by show A.in1.units < cLine; rw [Around.in1_units]; omega, by show A.units < cLine; omega⟩
  stay := fun s e => s _ _ e
def nestD (P : Program) (w : World) : HKd P w NK where
  knd := nestKind P w
  kin := NIn
  ok := fun {H h k a} e ok => by
    obtain ⟨b, e1, e2⟩ := e
    obtain ⟨_, its, r, o, h1, h2, n, h3⟩ := (show ObjOk P w H h a (.tup [.int (k.1 : Int), .ref b]) from ok a _ e1)
    obtain ⟨u1, u2, rfl, r1, r2⟩ := vals2 r
    obtain ⟨t, rfl⟩ := (show ∃ t, u1 = Value.int (k.1 : Int) t from r1)
    cases (show u2 = Value.ref b from r2)
    exact ⟨o, n, t, b, h1, h2, h3, tin_ok e2 ok⟩
  room := fun {A} hu => ⟨by show A.in1.units + 1 < cLine; rw [Around.in1_units]; omega, by show A.units + 1 < cLine; omega⟩
  stay := fun s ⟨b, e1, e2⟩ => ⟨b, s _ _ e1, s _ _ e2⟩
def kdO {P : Program} {w : World} {κ : Type} [DecidableEq κ] (knd : PySem.KeyKind P w κ) (d : Addr) (kvs : List (κ × V)) : HO := .ext fun h => (d == sysModules) = false ∧ kvs.length ≤ sizeLine ∧ ∃ vs, KV kvs vs ∧ h.DictOf knd d vs
abbrev KHr (κ : Type) : (κ × Addr × V) → (κ × Addr × Value) → Prop := fun p q => p.1 = q.1 ∧ p.2.1 = q.2.1 ∧ RelV p.2.2 q.2.2
def hdO {P : Program} {w : World} {κ : Type} [DecidableEq κ] (D : HKd P w κ) (d : Addr) (kvs : List (κ × Addr × V)) : HO := .ext fun h => (d == sysModules) = false ∧ kvs.length ≤ sizeLine ∧ ∃ xs, Paired (KHr κ) kvs xs ∧
  ∃ o es ep, h.get? d = some o ∧ o.ExactDict ∧ o.data = .dict es ep ∧ es.toList = xs.map (entryOfKey D.knd) ∧ (xs.map (·.1)).Nodup
section
variable {P : Program} {w : World} {κ : Type} [DecidableEq κ]
theorem kd_ok {knd : PySem.KeyKind P w κ} {H : Hp} {h : Heap} {d : Addr} {kvs : List (κ × V)} {vs : List (κ × Value)} (ns : (d == sysModules) = false) (hl : kvs.length ≤ sizeLine) (r : KV kvs vs) (dd : h.DictOf knd d vs) : ObjOk P w H h d (kdO knd d kvs) := by
  refine ⟨⟨ns, hl, vs, r, dd⟩, let ⟨o, _, _, e, _⟩ := dd; ⟨o, e⟩, fun h1 h2 a b => ?_⟩
  obtain ⟨a1, a2, vs, r, o, es, ep, e, q⟩ := a
  exact ⟨a1, a2, vs, r, o, es, ep, b o e, q⟩
theorem hd_ok {D : HKd P w κ} {H : Hp} {h : Heap} {d : Addr} {kvs : List (κ × Addr × V)} {xs : List (κ × Addr × Value)} (ns : (d == sysModules) = false) (hl : kvs.length ≤ sizeLine) (r : Paired (KHr κ) kvs xs) (dd : h.DictOfH D.knd d xs) : ObjOk P w H h d (hdO D d kvs) := by
  obtain ⟨o, es, ep, e, q1, q2, q3, _, q5⟩ := dd
  refine ⟨⟨ns, hl, xs, r, o, es, ep, e, q1, q2, q3, q5⟩, ⟨o, e⟩, fun h1 h2 a b => ?_⟩
  obtain ⟨a1, a2, vs, r, o, es, ep, e, q⟩ := a
  exact ⟨a1, a2, vs, r, o, es, ep, b o e, q⟩
theorem kd_of {knd : PySem.KeyKind P w κ} {H : Hp} {h : Heap} {d : Addr} {kvs : List (κ × V)} (ok : HOk P w H h) (e : H d = some (kdO knd d kvs)) : (d == sysModules) = false ∧ kvs.length ≤ sizeLine ∧ ∃ vs, KV kvs vs ∧ h.DictOf knd d vs := (ok d _ e).1
theorem hd_of {D : HKd P w κ} {H : Hp} {h : Heap} {d : Addr} {kvs : List (κ × Addr × V)} (ok : HOk P w H h) (e : H d = some (hdO D d kvs)) (hk : ∀ x ∈ kvs, D.kin H x.1 x.2.1) : (d == sysModules) = false ∧ kvs.length ≤ sizeLine ∧ ∃ xs, Paired (KHr κ) kvs xs ∧ h.DictOfH D.knd d xs := by
  obtain ⟨a1, a2, xs, r, o, es, ep, e1, q1, q2, q3, q5⟩ := (ok d _ e).1
  refine ⟨a1, a2, xs, r, o, es, ep, e1, q1, q2, q3, ?_, q5⟩
  clear q3 q5 e a2
  induction r with
  | nil => intro x hx; simp at hx
  | @cons p q ps qs h t ih =>
    intro x hx
    rcases List.mem_cons.mp hx with rfl | hx
    · have := D.ok (hk p (by simp)) ok
      rw [← h.1, ← h.2.1]
      exact this
    · exact ih (fun y hy => hk y (by simp [hy])) x hx
def valH (kvs : List (κ × Addr × V)) (k : κ) : Option V := (kvs.find? fun x => decide (x.1 = k)).map (·.2.2)
theorem kh_val {kvs : List (κ × Addr × V)} {xs : List (κ × Addr × Value)} (r : Paired (KHr κ) kvs xs) (k : κ) : RelO (valH kvs k) ((atKey xs k).map (·.2)) := by
  induction r with
  | nil => exact True.intro
  | @cons p q ps qs h t ih =>
    by_cases e : p.1 = k
    · have e' : q.1 = k := h.1.symm.trans e
      have a1 : valH (p :: ps) k = some p.2.2 := by simp [valH, List.find?_cons, e]
      have b : atKey (q :: qs) k = some q.2 := by simp [atKey, List.find?_cons, e']
      rw [a1, b]
      exact h.2.2
    · have e' : ¬ q.1 = k := fun z => e (h.1.trans z)
      have a1 : valH (p :: ps) k = valH ps k := by simp [valH, List.find?_cons, e]
      have b : atKey (q :: qs) k = atKey qs k := by simp [atKey, List.find?_cons, e']
      rw [a1, b]
      exact ih
theorem pd_snoc {α β : Type} {F : α → β → Prop} {a : α} {b : β} (h : F a b) : ∀ {l : List α} {m : List β}, Paired F l m → Paired F (l ++ [a]) (m ++ [b])
  | _, _, .nil => .cons h .nil
  | _, _, .cons r t => .cons r (pd_snoc h t)
theorem relO_isSome {o : Option V} {u : Option Value} (r : RelO o u) : o.isSome = u.isSome := by
  cases o <;> cases u <;> first | rfl | exact (show False from r).elim
end
section
variable {X : Cx} {pins : List (Addr × Obj)} {σ : St} {H : Hp} {s : Shared} {d : Addr}
theorem Inv.bigS (I : Inv X pins σ H s) : sysModules < s.heap.objs.size := by
  have h : mainGlobals < s.heap.objs.size := (I.mod.glob.keeps I.bk).lt
  exact Nat.lt_trans (by decide) h
/-- what the dict at d holds at y -/
def DGet (P : Program) (w : World) (H : Hp) (d : Addr) (y : V) (r : Option V) : Prop :=
  (∃ kvs k, H d = some (kdO (boolKind P w) d kvs) ∧ y = .bl k ∧ r = valV kvs k) ∨
  (∃ kvs k b, H d = some (hdO (nestD P w) d kvs) ∧ (∀ x ∈ kvs, NIn H x.1 x.2.1) ∧ y = .ref b ∧ NIn H k b ∧ r = valH kvs k) ∨
  ∃ kvs k b, H d = some (hdO (pairD P w) d kvs) ∧ (∀ x ∈ kvs, TIn H x.1 x.2.1) ∧ y = .ref b ∧ TIn H k b ∧ r = valH kvs k
/-- a new key -/
def DPut (P : Program) (w : World) (H : Hp) (d : Addr) (y v : V) (H' : Hp) : Prop :=
  (∃ kvs k, H d = some (kdO (boolKind P w) d kvs) ∧ y = .bl k ∧ valV kvs k = none ∧ kvs.length < sizeLine ∧ H' = upd H d (kdO (boolKind P w) d (kvs ++ [(k, v)]))) ∨
  (∃ kvs k b, H d = some (hdO (nestD P w) d kvs) ∧ (∀ x ∈ kvs, NIn H x.1 x.2.1) ∧ y = .ref b ∧ NIn H k b ∧ valH kvs k = none ∧ kvs.length < sizeLine ∧ H' = upd H d (hdO (nestD P w) d (kvs ++ [(k, b, v)]))) ∨
  ∃ kvs k b, H d = some (hdO (pairD P w) d kvs) ∧ (∀ x ∈ kvs, TIn H x.1 x.2.1) ∧ y = .ref b ∧ TIn H k b ∧ valH kvs k = none ∧ kvs.length < sizeLine ∧ H' = upd H d (hdO (pairD P w) d (kvs ++ [(k, b, v)]))
def DLen (P : Program) (w : World) (H : Hp) (d : Addr) (n : Nat) : Prop :=
  (∃ kvs, H d = some (kdO (boolKind P w) d kvs) ∧ n = kvs.length) ∨ ∃ kvs, H d = some (hdO (nestD P w) d kvs) ∧ n = kvs.length
theorem h_get {κ : Type} [DecidableEq κ] {D : HKd X.prog X.w κ} {kvs : List (κ × Addr × V)} {k : κ} {b : Addr} {v : V} {A : Around} {E : Value → Shared → Prop} {Q : Value → Shared → Prop} (hu : A.units + 64 < cLine) (I : Inv X pins σ H s) (e : H d = some (hdO D d kvs)) (hk : ∀ x ∈ kvs, D.kin H x.1 x.2.1) (kb : D.kin H k b)
    (l : some v = valH kvs k) (h : ∀ w' s', Inv X pins σ H s' → RelV v w' → Q w' s') : wpAny (model X.prog X.w) A (getItem (.ref d) (.ref b)) Q E s := by
  obtain ⟨_, _, xs, rel, dd⟩ := hd_of I.hok e hk
  obtain ⟨w', hw, rw'⟩ := RelO.some_of (v := v) (o := (atKey xs k).map (·.2)) (by rw [l]; exact kh_val rel k)
  obtain ⟨p, hp, hp2⟩ := Option.map_eq_some_iff.mp hw
  refine wpAny_getItem_heap (D.room hu).1 (D.ok kb I.hok) dd hp ?_
  rw [hp2]
  exact h w' _ (I.tok _) rw'
theorem h_notIn {κ : Type} [DecidableEq κ] {D : HKd X.prog X.w κ} {kvs : List (κ × Addr × V)} {k : κ} {b : Addr} {A : Around} {E : Value → Shared → Prop} {Q : Value → Shared → Prop} (hu : A.units + 64 < cLine) (I : Inv X pins σ H s) (e : H d = some (hdO D d kvs)) (hk : ∀ x ∈ kvs, D.kin H x.1 x.2.1) (kb : D.kin H k b)
    (h : ∀ s', Inv X pins σ H s' → Q (.bool (!(valH kvs k).isSome)) s') : wpAny (model X.prog X.w) A (compareOp .NotIn (.ref b) (.ref d)) Q E s := by
  obtain ⟨ns, _, xs, rel, dd⟩ := hd_of I.hok e hk
  refine wpAny_notIn_heap (D.room hu).1 (D.ok kb I.hok) ns dd ?_
  have q := relO_isSome (kh_val rel k)
  rw [Option.isSome_map] at q
  rw [← q]
  exact h _ (I.tok _)
theorem ext_write {h' : Heap} {t' : Nat} {ob : HO} (I : Inv X pins σ H s) (mu : Mut (H d)) (hs : Heap.SameBut d s.heap h') (he : ∃ q, h'.get? d = some q) (new : ObjOk X.prog X.w (upd H d ob) h' d ob) : Inv X pins σ (upd H d ob) { s with heap := h', toks := t' } :=
  I.write (x := d) (e := d) mu (.inl rfl) (fun b q hb z => (hs.2 b hb).trans z) he new
theorem h_new {κ : Type} [DecidableEq κ] {D : HKd X.prog X.w κ} {kvs : List (κ × Addr × V)} {xs : List (κ × Addr × Value)} {k : κ} {b : Addr} {v : V} {r : Value} {h' : Heap} {t' : Nat} (I : Inv X pins σ H s) (e : H d = some (hdO D d kvs)) (ns : (d == sysModules) = false) (hl : kvs.length < sizeLine) (rel : Paired (KHr κ) kvs xs)
    (hn : valH kvs k = none) (rv : RelV v r) (dd : h'.DictOfH D.knd d (storedH xs k b r)) (hs : Heap.SameBut d s.heap h') : Inv X pins σ (upd H d (hdO D d (kvs ++ [(k, b, v)]))) { s with heap := h', toks := t' } := by
  have q := RelO.none_of (show RelO none ((atKey xs k).map (·.2)) by rw [← hn]; exact kh_val rel k)
  rw [storedH_new (Option.map_eq_none_iff.mp q)] at dd
  exact ext_write I (by rw [e]; exact True.intro) hs (let ⟨o, _, _, q, _⟩ := dd; ⟨o, q⟩) (hd_ok ns (by rw [List.length_append]; exact hl) (pd_snoc (F := KHr κ) ⟨rfl, rfl, rv⟩ rel) dd)
theorem h_set {κ : Type} [DecidableEq κ] {D : HKd X.prog X.w κ} {kvs : List (κ × Addr × V)} {k : κ} {b : Addr} {v : V} {r : Value} {A : Around} {E : Value → Shared → Prop} {Q : Unit → Shared → Prop} (hu : A.units + 64 < cLine) (I : Inv X pins σ H s) (e : H d = some (hdO D d kvs)) (hk : ∀ x ∈ kvs, D.kin H x.1 x.2.1) (kb : D.kin H k b)
    (hn : valH kvs k = none) (hl : kvs.length < sizeLine) (rv : RelV v r) (h : ∀ s', Inv X pins σ (upd H d (hdO D d (kvs ++ [(k, b, v)]))) s' → Q () s') : wpAny (model X.prog X.w) A (setItem (.ref d) (.ref b) r) Q E s := by
  obtain ⟨ns, hz, xs, rel, dd⟩ := hd_of I.hok e hk
  exact wpAny_setItem_heap (hsz := by rw [← Paired.length rel]; exact hz) (D.room hu).1 (D.ok kb I.hok) dd fun h' dd' hs => h _ (h_new I e ns hl rel hn rv dd' hs)
theorem kv_snoc {κ : Type} {kvs : List (κ × V)} {vs : List (κ × Value)} {k : κ} {v : V} {r : Value} (rel : KV kvs vs) (rv : RelV v r) : KV (kvs ++ [(k, v)]) (vs ++ [(k, r)]) := pd_snoc (F := fun (p : κ × V) (q : κ × Value) => p.1 = q.1 ∧ RelV p.2 q.2) ⟨rfl, rv⟩ rel
theorem stored_new {κ : Type} [DecidableEq κ] {vs : List (κ × Value)} {k : κ} {r : Value} (h : valueAt vs k = none) : stored vs k r = vs ++ [(k, r)] := by
  unfold stored
  rw [if_neg]
  intro q
  rw [List.any_eq_true] at q
  obtain ⟨x, hx, e⟩ := q
  unfold valueAt at h
  rw [Option.map_eq_none_iff, List.find?_eq_none] at h
  exact h x hx e
/-- len of a raw table -/
theorem len_raw {A : Around} {E : Value → Shared → Prop} {o : Obj} {es : Array DictEntry} {ep : Nat} {Q : Value → Shared → Prop} (ns : (d == sysModules) = false) (ho : s.heap.get? d = some o) (hc : o.ExactDict) (hd : o.data = .dict es ep) (hz : es.size ≤ sizeLine)
    (h : ∀ t t', Q (.int (es.size : Nat) t) { s with toks := t' }) : wpAny (model X.prog X.w) A (call (.builtin "len") [.ref d]) Q E s := by
  have hT : s.TypeIs (.ref d) "dict" := ⟨o, ho, hc.1⟩
  have hb : (es.size : Int) < 2 ^ 63 := by rw [sizeLine_eq] at hz; omega
  refine Calls.call_function_entry kind_len plain_len entry_len (args_len1 _) ?_
  unfold Builtin.«len»
  refine wpAny_bind (m := oneArg "len" _) (wpAny_pure (wpAny_bind (m := callSpecial? (.ref d) (Str.ofString "__len__")) (wpAny_callSpecial?_slot (name := Str.ofString "__len__") hT F.slot_dict_len (wpAny_call_entry F.slot_dict_len hT F.entry_dict_len ?_ (F.args_dict_len_1 _)))))
  refine wpAny_bind (m := dictSize d) ?_
  unfold dictSize
  refine wpAny_bind (wpAny_dictEntries ho hd (wpAny_pure (wpAny_bind (m := Builtin.Dict.pendingCount d) (wpAny_pendingCount_other ns (wpAny_bind (wpAny_mkInt (wpAny_pure ⟨_, rfl, wpAny_bind (wpAny_holding (wpAny_pure (wpAny_bind (wpAny_letGo ?_))))⟩)))))))
  refine wpAny_ite_false (by simp) (wpAny_ite_false (by simp; omega) (wpAny_bind (wpAny_mkInt (wpAny_pure ⟨_, rfl, ?_⟩))))
  simpa using h _ _
end
end L2

namespace L2
open PySem PySem.Spec PyProof.Rows
/-! ## their rules -/
section
variable {X : Cx}
def rNotInD (P : Program) (w : World) : R2 := fun x y H Q => ∃ d o, y = .ref d ∧ DGet P w H d x o ∧ Q (.bl (!o.isSome)) H
theorem op_notinD (hu : X.A.units + 64 < cLine) : OpR X (compareOp .NotIn) (rNotInD X.prog X.w) := by
  intro pins s σ H x y v u Q I rx ry h
  obtain ⟨d, o, rfl, g, q⟩ := h
  cases ry
  rcases g with ⟨kvs, k, e, rfl, rfl⟩ | ⟨kvs, k, b, e, hk, rfl, kb, rfl⟩ | ⟨kvs, k, b, e, hk, rfl, kb, rfl⟩
  · cases rx
    obtain ⟨ns, _, vs, rel, dd⟩ := kd_of I.hok e
    refine wpAny_notIn_of (knd := boolKind X.prog X.w) (k := k) (show isBl k (.bool k) = true by cases k <;> rfl) ns dd.mapOf ?_
    rw [← relO_isSome (rel.val k)]
    exact ⟨.bl _, H, I.tok _, rfl, q⟩
  · cases rx
    exact h_notIn (D := nestD X.prog X.w) hu I e hk kb fun s' I' => ⟨.bl _, H, I', rfl, q⟩
  · cases rx
    exact h_notIn (D := pairD X.prog X.w) hu I e hk kb fun s' I' => ⟨.bl _, H, I', rfl, q⟩
theorem dg_type {pins : List (Addr × Obj)} {σ : St} {H : Hp} {s : Shared} {d : Addr} {y : V} {o : Option V} (I : Inv X pins σ H s) (g : DGet X.prog X.w H d y o) : s.TypeIs (.ref d) "dict" := by
  rcases g with ⟨kvs, k, e, _⟩ | ⟨kvs, k, b, e, hk, _⟩ | ⟨kvs, k, b, e, hk, _⟩
  · obtain ⟨_, _, vs, _, dd⟩ := kd_of I.hok e
    exact dd.typeIs
  · obtain ⟨_, _, vs, _, dd⟩ := hd_of (D := nestD X.prog X.w) I.hok e hk
    exact dd.typeIs
  · obtain ⟨_, _, vs, _, dd⟩ := hd_of (D := pairD X.prog X.w) I.hok e hk
    exact dd.typeIs
def rIxG (P : Program) (w : World) : R2 := fun x y H Q => ∃ d v, x = .ref d ∧ DGet P w H d y (some v) ∧ Q v H
theorem ix_dictG (hu : X.A.units + 64 < cLine) : IxR X (rIxG X.prog X.w) := by
  intro value slice pins s σ H x y v u Q I rx ry h hs
  obtain ⟨d, z, rfl, g, q⟩ := h
  cases rx
  refine tail_any (ops := [.ref d, u]) (dg_type I g) PySem.F.slot_dict_getitem.lookup ?_ hs
  rcases g with ⟨kvs, k, e, rfl, l⟩ | ⟨kvs, k, b, e, hk, rfl, kb, l⟩ | ⟨kvs, k, b, e, hk, rfl, kb, l⟩
  · cases ry
    obtain ⟨ns, _, vs, rel, dd⟩ := kd_of I.hok e
    obtain ⟨w', hw, rw'⟩ := RelO.some_of (v := z) (o := valueAt vs k) (by rw [l]; exact rel.val k)
    exact wpAny_getItem_of (knd := boolKind X.prog X.w) (k := k) (show isBl k (.bool k) = true by cases k <;> rfl) dd.mapOf hw ⟨z, H, I.tok _, rw', q⟩
  · cases ry
    exact h_get (D := nestD X.prog X.w) hu I e hk kb l fun w' s' I' rw' => ⟨z, H, I', rw', q⟩
  · cases ry
    exact h_get (D := pairD X.prog X.w) hu I e hk kb l fun w' s' I' rw' => ⟨z, H, I', rw', q⟩
def rSetD (P : Program) (w : World) : TSet := fun o i v H Q => ∃ d H', o = .ref d ∧ DPut P w H d i v H' ∧ Q H'
theorem set_dictG (hu : X.A.units + 64 < cLine) : PSet X (rSetD X.prog X.w) := by
  intro pins s σ H o i v ov iv u Q I ro ri rv h
  obtain ⟨d, H', rfl, g, q⟩ := h
  cases ro
  rcases g with ⟨kvs, k, e, rfl, hn, hl, rfl⟩ | ⟨kvs, k, b, e, hk, rfl, kb, hn, hl, rfl⟩ | ⟨kvs, k, b, e, hk, rfl, kb, hn, hl, rfl⟩
  · cases ri
    obtain ⟨ns, hz, vs, rel, dd⟩ := kd_of I.hok e
    refine wpAny_setItem_pairs (knd := boolKind X.prog X.w) (k := k) (hsz := by rw [← rel.length]; exact hz) (show isBl k (.bool k) = true by cases k <;> rfl) dd fun h' dd' hs => ⟨_, ?_, q⟩
    have qn := RelO.none_of (show RelO none (valueAt vs k) by rw [← hn]; exact rel.val k)
    rw [stored_new qn] at dd'
    exact ext_write I (by rw [e]; exact True.intro) hs (let ⟨o, _, _, q, _⟩ := dd'; ⟨o, q⟩) (kd_ok ns (by rw [List.length_append]; exact hl) (kv_snoc rel rv) dd')
  · cases ri
    exact h_set (D := nestD X.prog X.w) hu I e hk kb hn hl rv fun s' I' => ⟨_, I', q⟩
  · cases ri
    exact h_set (D := pairD X.prog X.w) hu I e hk kb hn hl rv fun s' I' => ⟨_, I', q⟩
theorem call_lenD : CallR X (.builtin "len") (fun xs H Q => ∃ d n, xs = [V.ref d] ∧ DLen X.prog X.w H d n ∧ Q (.int (n : Nat)) H) := by
  intro pins s σ H xs us Q I r h
  obtain ⟨d, n, rfl, g, q⟩ := h
  obtain ⟨u1, rfl, r1⟩ := vals1 r
  cases r1
  rcases g with ⟨kvs, e, rfl⟩ | ⟨kvs, e, rfl⟩
  · obtain ⟨ns, hz, vs, rel, o, es, ep, h1, h2, h3, _, hp, _⟩ := kd_of I.hok e
    have hs : es.size = kvs.length := by rw [rel.length, ← hp.length]; simp
    refine len_raw (X := X) ns h1 h2 h3 (by omega) fun t t' => ⟨.int (kvs.length : Nat), H, I.tok _, ⟨t, by rw [hs]⟩, q⟩
  · obtain ⟨ns, hz, xs, rel, o, es, ep, h1, h2, h3, he, _⟩ := (I.hok d _ e).1
    have hs : es.size = kvs.length := by rw [Paired.length rel, ← Array.length_toList, he, List.length_map]
    refine len_raw (X := X) ns h1 h2 h3 (by omega) fun t t' => ⟨.int (kvs.length : Nat), H, I.tok _, ⟨t, by rw [hs]⟩, q⟩
/-- a new dict, of the kind that is wanted -/
inductive DKd where
  | bl | nest | pair
def newO (P : Program) (w : World) (d : Addr) : DKd → HO
  | .bl => kdO (boolKind P w) d []
  | .nest => hdO (nestD P w) d []
  | .pair => hdO (pairD P w) d []
theorem new_ok {P : Program} {w : World} {H : Hp} (h : Heap) (hb : sysModules < h.objs.size) (k : DKd) : ObjOk P w H (h.push { cls := .type "dict", data := .dict #[] }) h.objs.size (newO P w h.objs.size k) := by
  have ns : (h.objs.size == sysModules) = false := beq_eq_false_iff_ne.mpr (Ne.symm (Nat.ne_of_lt hb))
  cases k with
  | bl => exact kd_ok (knd := boolKind P w) ns (Nat.zero_le _) .nil (Heap.DictOf.new h)
  | nest => exact hd_ok (D := nestD P w) ns (Nat.zero_le _) .nil (Heap.DictOfH.new h)
  | pair => exact hd_ok (D := pairD P w) ns (Nat.zero_le _) .nil (Heap.DictOfH.new h)
def tDNew (P : Program) (w : World) : TE := fun _ H Q => ∃ k, ∀ p, H p = none → Q (.ref p) (upd H p (newO P w p k))
theorem pe_dnew {pos : Pos} : PE X (.Dict [] [] pos) (tDNew X.prog X.w) := fun pins s σ H Q I ⟨k, h⟩ =>
  wpAny_Dict_empty ⟨.ref s.heap.objs.size, _, I.laid (a := s.heap.objs.size) (o := newO X.prog X.w s.heap.objs.size k) (t' := s.toks) (fun _ _ q => Heap.get?_push_of_some _ q) (Nat.le_refl _) (new_ok s.heap I.bigS k), rfl, h _ (I.hok.fresh (Nat.le_refl _))⟩
/-- {k: v}, k a pair of ints -/
def tDOne (P : Program) (w : World) (tk tv : TE) : TE := fun σ H Q => ∀ p, H p = none → tk σ (upd H p (newO P w p .pair)) fun x H1 => tv σ H1 fun y H2 => ∃ b k, x = .ref b ∧ TIn H2 k b ∧ H2 p = some (newO P w p .pair) ∧ Q (.ref p) (upd H2 p (hdO (pairD P w) p [(k, b, y)]))
theorem pe_done {k v : Expr} {tk tv : TE} {pos : Pos} (hu : X.A.units + 64 < cLine) (hk : PE X k tk) (hv : PE X v tv) : PE X (.Dict [some k] [v] pos) (tDOne X.prog X.w tk tv) := by
  intro pins s σ H Q I h
  have hn := I.hok.fresh (Nat.le_refl s.heap.objs.size)
  have I1 := I.laid (a := s.heap.objs.size) (o := newO X.prog X.w s.heap.objs.size .pair) (t' := s.toks) (fun _ _ q => Heap.get?_push_of_some { cls := .type "dict", data := .dict #[] } q) (Nat.le_refl _) (new_ok s.heap I.bigS .pair)
  have hsh := zip_pairTrees [some k] [v] X.env pos rfl rfl
  rw [arm_eval_Dict, hsh, dictDisplay_pairs (pairTrees [some k] [v] X.env pos) (by intro z; cases z) (by show 1 < 17; decide)]
  refine wpAny_bind (wpAny_standAt (wpAny_bind ?_))
  unfold subDict
  refine wpAny_bind (wpAny_alloc (wpAny_bind (wpAny_holding ?_)))
  rw [if_pos (show (pairTrees [some k] [v] X.env pos).length ≤ 15 by show 1 ≤ 15; decide)]
  refine wpAny_bind (pairTrees_cons_walk (thn (hk pins _ σ _ _ I1 (h _ hn)) fun u s1 ⟨x, H1, I2, rx, q1⟩ => thn (hv pins s1 σ H1 _ I2 q1) fun r s2 ⟨y, H2, I3, ry, b, kk, ex, kb, hp, q2⟩ => pairTrees_nil_walk (wpAny_holding (wpAny_bind ?_))))
  subst ex
  cases rx
  rw [List.forIn_cons]
  obtain ⟨ns, hz, xs, rel, dd⟩ := hd_of (D := pairD X.prog X.w) (kvs := []) I3.hok hp (fun x hx => by simp at hx)
  refine wpAny_bind (wpAny_bind (wpAny_dictSet_heap (knd := (pairD X.prog X.w).knd) (hsz := by rw [← Paired.length rel]; exact hz) ((pairD X.prog X.w).room hu).2 ((pairD X.prog X.w).ok kb I3.hok) dd fun h' dd' hs => wpAny_pure ?_))
  dsimp only
  rw [List.forIn_nil]
  refine wpAny_pure (wpAny_pure (wpAny_pure (wpAny_pure ⟨.ref s.heap.objs.size, _, ?_, rfl, q2⟩)))
  exact h_new (D := pairD X.prog X.w) (kvs := []) I3 hp ns (line_ge (by show 1 ≤ 16777216; decide)) rel rfl ry dd' hs
end
end L2

namespace L2
open PySem PySem.Spec PyProof.Rows
/-! ## X18. a comprehension with two targets -/
section
variable {X : Cx} {elt iter : Expr} {x y : Str} {px py pt pos : Pos} {kt : Nat} {sc : Scope} {wi : TI} {te : TE}
def tComp2 (K : PySem.W.Frag) (wi : TI) (te : TE) : TE := fun σ H Q => wi σ H fun J H1 => ∀ D, H1 D = none → ∃ W : Nat → Nat → List V → Hp → Prop,
  (∃ m, W 0 m [] (upd H1 D (.lst []))) ∧ ∀ i m ys H2, W i m ys H2 → H2 D = some (.lst ys) ∧ ((J.stop i H2 ∧ Q (.ref D) H2) ∨ (J.go i H2 ∧ ys.length < sizeLine ∧ ∀ x H3, J.yld i H2 x H3 →
    ∃ p a b, x = .ref p ∧ SqT K H3 p [a, b] ∧ te (some a :: some b :: σ) H3 fun y H5 => H5 D = some (.lst ys) ∧ ∃ m', m' < m ∧ W (i + 1) m' (ys ++ [y]) (upd H5 D (.lst (ys ++ [y])))))
theorem pe_comp2 (N2 : List Str) (hc : X.calm = true) (hN2 : (x :: y :: N2).Nodup) (hi : PI X (.Tuple [.Name x px, .Name y py] kt pt) iter wi)
    (hb : ∀ (cl : List (Str × Addr)) (C : Addr) (fp : List Addr) (s : Shared) (H : Hp), PE { cxComp X x sc cl C fp s H with N := x :: y :: N2 } elt te)
    (hx : sc.names.lookup x = some .local := by rfl) (hy : sc.names.lookup y = some .local := by rfl) (hkind : sc.kind = .function := by rfl)
    (hnames : ∀ y ∈ sc.names, y.2 = .local → sc.names.lookup y.1 = some .local := by decide +kernel) (hcell : ∀ y ∈ sc.names, y.2 ≠ .cell := by decide +kernel)
    (hfree : (sc.names.all fun y => y.2 != .free || X.env.scope.names.lookup y.1 == some .cell) = true := by rfl)
    (hlo : (N2.all fun y => sc.names.lookup y != some .local) = true := by rfl) (hl2 : N2.length = X.N.length := by rfl) (hz2 : ((N2.zip X.N).all fun y => y.1 == y.2 || sc.names.lookup y.1 == none) = true := by rfl)
    (hs : ∀ x, foldedSetIterable iter X.env x = pure x := by intro _; rfl) :
    PE X (.ListComp elt [⟨.Tuple [.Name x px, .Name y py] kt pt, iter, [], 0⟩] sc pos) (tComp2 X.K wi te) := by
  intro pins s σ H Q I h
  have hfr : ∀ y ∈ sc.names, y.2 = .free → X.env.kindOf y.1 = some .cell := fun y hy e => by
    have q := List.all_eq_true.mp hfree y hy
    rw [e] at q
    simpa [Env.kindOf] using q
  have hlo' : ∀ y ∈ N2, sc.names.lookup y ≠ some .local := fun y hy e => by
    have q := List.all_eq_true.mp hlo y hy
    rw [e] at q
    simp at q
  obtain ⟨cl, hclos, hsub, hhas⟩ := closure_of (env := X.env) (sc := sc) fun y hy e => I.ok.has y.1 (.inl (hfr y hy e))
  rw [eval_ListComp]
  refine wpAny_comprehension_free (use := none) rfl hs hclos hkind hnames (thn (hi pins s σ H _ I h) fun v s1 h1 => thn h1 fun itv s2 h2 => ?_)
  obtain ⟨it, fp, tn, J, H2, e, I2, T, st2, f2, hW⟩ := h2
  subst e
  -- the accumulator, then the block's frame
  have nobinds : ∀ y ∈ ([] : List (Str × Value)), sc.names.lookup y.1 = some .local := fun y hy => absurd hy (by simp)
  refine wpAny_newObj_type ?_
  refine wpAny_newFunctionEnv hcell nobinds (fun h₁ hns₁ hsb₁ => ?_) hkind
  dsimp only at hns₁ hsb₁ ⊢
  generalize hHa : s2.heap.push { cls := .type "list", dict := none, data := .seq ([] : List Value).toArray } = Ha at hns₁ hsb₁ ⊢
  have hC : Ha.objs.size = s2.heap.objs.size + 1 := by rw [← hHa, Heap.size_push]
  have hDC : s2.heap.objs.size ≠ Ha.objs.size := by rw [hC]; exact Nat.ne_of_lt (Nat.lt_succ_self _)
  have hCle : s2.heap.objs.size ≤ Ha.objs.size := by rw [hC]; exact Nat.le_succ _
  have neC : ∀ b o, s2.heap.get? b = some o → b ≠ Ha.objs.size := fun b o e => Nat.ne_of_lt (Nat.lt_of_lt_of_le (Heap.lt_size e) hCle)
  have old : ∀ b o, s2.heap.get? b = some o → h₁.get? b = some o := fun b o e => hsb₁.extBut b o (neC b o e) (Heap.get?_push_of_some _ (hHa ▸ Heap.get?_push_of_some _ e))
  have hacc : h₁.get? s2.heap.objs.size = some { cls := .type "list", dict := none, data := .seq ([] : List Value).toArray } := hsb₁.extBut _ _ hDC (Heap.get?_push_of_some _ (hHa ▸ Heap.get?_push_size _ rfl))
  generalize hDe : s2.heap.objs.size = D at *
  generalize hCe : Ha.objs.size = C at *
  have hHD : H2 D = none := I2.hok.fresh (Nat.le_of_eq hDe)
  have hHC : H2 C = none := I2.hok.fresh (by omega)
  obtain ⟨W, ⟨m0, w0⟩, turn⟩ := hW D hHD
  have fplt : ∀ b ∈ fp, b < D := fun b hb => by
    obtain ⟨o, e, _⟩ := T.obj _ _ st2 b hb
    rw [← hDe]
    exact Heap.lt_size e
  -- the block's context
  let X' : Cx := { cxComp X x sc cl C fp s2 H2 with N := x :: y :: N2 }
  have nofs : ∀ b ∈ fp, b ∉ frs X.stack := fun b hb z => by
    rcases List.mem_cons.mp (I2.stkSub b z) with e | e
    · exact (f2 b hb).2.1 e
    · exact (f2 b hb).2.2.1 e
  have ok' : X'.Ok := by
    refine ⟨I2.ok.mod, hkind, I2.ok.glob, I2.ok.blt, ?_, fun y z c e1 e2 => I2.ok.inj y z c (hsub y c e1) (hsub z c e2), fun y hy => ?_, fun y c e => absurd (show false = true from e) Bool.false_ne_true, I2.ok.hd, I2.ok.frames, .inl rfl, fun b hb => ⟨?_, fun y c e => ?_⟩, I2.bs,
      Nat.le_trans I2.ok.bsz I2.sz, fun b o e hb => ?_, nofs, I2.stack, I2.stkFree⟩
    · show s2.heap.objs.size ≤ C
      omega
    · rcases hy with hy | hy
      · rcases relabel_lookup (show (relabel sc X.env).names.lookup y = some .cell from hy) with e | ⟨_, e, _⟩
        · exact absurd rfl (hcell _ (PySem.mem_of_lookup e))
        · exact hhas _ (PySem.mem_of_lookup e) rfl
      · rcases relabel_lookup (show (relabel sc X.env).names.lookup y = some .free from hy) with e | ⟨e, _⟩
        · exact hhas _ (PySem.mem_of_lookup e) rfl
        · cases e
    · exact Nat.ne_of_lt (Nat.lt_of_lt_of_le (fplt b hb) (by omega : D ≤ C))
    · exact (f2 b hb).2.2.2.2.1 y c (hsub y c e)
    · rcases (f2 b hb).2.2.2.1 with z | z
      · exact I2.ok.noex b o e z
      · exact absurd (Nat.lt_of_lt_of_le (Nat.lt_of_lt_of_le (Heap.lt_size e) I2.ok.bsz) z) (Nat.lt_irrefl _)
  have I4 : ∀ tk, Inv X' [] (none :: none :: σ) (upd H2 D (.lst [])) { s2 with heap := h₁, toks := tk } := fun tk => by
    refine ⟨ok', rfl, I2.bare, Un.laid old (Nat.le_of_eq hDe) hHD, ⟨_, hns₁, fun i y' v e1 e2 e3 => ?_⟩, fun y c e => ?_, ?_, fun y c e => ?_, fun p hp => ?_, I2.hok.laid old (Nat.le_of_eq hDe) ?_, ?_⟩
    · match i, e1, e2 with
      | 0, e1, e2 => simp at e2
      | 1, e1, e2 => simp at e2
      | i + 2, e1, e2 =>
        have e0 : N2[i]? = some y' := by simpa [X', cxComp] using e1
        have e2 : σ[i]? = some (some v) := by simpa using e2
        have e3 : Vis (relabel sc X.env) y' := e3
        have hyN : y' ∈ N2 := List.mem_of_getElem? e0
        have free : sc.names.lookup y' = some .free ∧ (relabel sc X.env).names.lookup y' ≠ some .local := by
          rcases e3 with e | e | e
          · rcases relabel_lookup e with q | ⟨q, _⟩
            · exact absurd q (hlo' y' hyN)
            · cases q
          · rcases relabel_lookup e with q | ⟨_, q, _⟩
            · exact absurd rfl (hcell _ (PySem.mem_of_lookup q))
            · exact ⟨q, by rw [e]; decide⟩
          · rcases relabel_lookup e with q | ⟨q, _⟩
            · exact ⟨q, by rw [e]; decide⟩
            · cases q
        have e1 : X.N[i]? = some y' := by
          have hi : i < N2.length := (List.getElem?_eq_some_iff.mp e0).1
          have hi2 : i < X.N.length := by omega
          have hm : (y', X.N[i]) ∈ N2.zip X.N := by
            have hz : (N2.zip X.N)[i]? = some (y', X.N[i]) := by
              rw [List.getElem?_zip_eq_some]
              exact ⟨e0, List.getElem?_eq_getElem hi2⟩
            exact List.mem_of_getElem? hz
          have q := List.all_eq_true.mp hz2 _ hm
          rcases Bool.or_eq_true_iff.mp q with q | q
          · have : y' = X.N[i] := eq_of_beq q
            rw [List.getElem?_eq_getElem hi2, ← this]
          · have q2 : sc.names.lookup y' = none := by simpa using q
            rw [free.1] at q2
            cases q2
        have kc : X.env.kindOf y' = some .cell := hfr _ (PySem.mem_of_lookup free.1) rfl
        obtain ⟨m, hn, hl⟩ := I2.loc
        obtain ⟨u, ru, lk⟩ := hl i y' v e1 e2 (.inr (.inl kc))
        rcases lk with ⟨q, _⟩ | ⟨_, c, hcc, ⟨o, ho, hd⟩⟩
        · rw [kc] at q; cases q
        · obtain ⟨c', hc'⟩ := hhas _ (PySem.mem_of_lookup free.1) rfl
          have e4 := hsub _ _ hc'
          rw [hcc] at e4
          cases e4
          refine ⟨u, ru, .inr ⟨?_, c, hc', ⟨o, old c o ho, hd⟩⟩⟩
          rcases e3 with e | e | e
          · exact absurd e free.2
          · exact .inl e
          · exact .inr e
    · obtain ⟨v, o, ho, hd⟩ := I2.cell y c (hsub y c e)
      exact ⟨v, o, old c o ho, hd⟩
    · show upd H2 D (.lst []) C = none
      rw [upd_ne (neA (by omega))]
      exact hHC
    · obtain ⟨v, o, ho, hd⟩ := I2.cell y c (hsub y c e)
      have hlt := Heap.lt_size ho
      rw [hDe] at hlt
      show upd H2 D (.lst []) c = none
      rw [upd_ne (Nat.ne_of_lt hlt)]
      exact I2.freeC y c (hsub y c e)
    · exact absurd (show p ∈ ([] : List (Addr × Obj)) from hp) (by simp)
    · exact ⟨Nat.zero_le _, [], 0, .nil, hacc⟩
    · show (none :: none :: σ).length = (x :: y :: N2).length
      rw [List.length_cons, List.length_cons, List.length_cons, List.length_cons, I2.len, hl2]
  have hN' : X'.N.Nodup := hN2
  have hx' : X'.env.scope.names.lookup x = some .local := lookup_relabel_local hx
  have hy' : X'.env.scope.names.lookup y = some .local := lookup_relabel_local hy
  have PE' := hb cl C fp s2 H2
  have PG' : PG X' (.Tuple [.Name x px, .Name y py] kt pt) (gTup X.K 2 (gCons (gName 0) (gCons (gName 1) gNil))) := pg_tup hc (pgs_cons (pg_name (X := X') (i := 0) hN' rfl (.inl hx') (.inr hx')) (pgs_cons (pg_name (X := X') (i := 1) hN' rfl (.inl hy') (.inr hy')) pgs_nil))
  have fpX : ∀ {pins' : List (Addr × Obj)} {H' : Hp}, (∀ b ∈ fp, H' b = none) → (∀ p ∈ pins', p.1 ∉ fp) → ∀ b ∈ fp, FpOk X' pins' H' b := fun hn hp b hb => by
    refine ⟨hn b hb, ?_, nofs b hb, .inl hb, fun y c e => (f2 b hb).2.2.2.2.1 y c (hsub y c e), fun p q z => ?_⟩
    · exact Nat.ne_of_lt (Nat.lt_of_lt_of_le (fplt b hb) (by omega : D ≤ C))
    · rcases List.mem_append.mp q with q | q
      · exact absurd (show p ∈ ([] : List (Addr × Obj)) from q) (by simp)
      · exact hp p q (by rw [z]; exact hb)
  have loop : ∀ tk, codeAny (model X.prog X.w) X.A (.compLoop (.ListComp elt [⟨.Tuple [.Name x px, .Name y py] kt pt, iter, [], 0⟩] sc pos) 0 (.ref it) (.ref D) (compEnvC sc cl C X.env)) (compPost (model X.prog X.w) X.A X.xe none (EP X pins σ Q) (.ref D) C) { s2 with heap := h₁, toks := tk } := fun tk => by
    refine PyProof.Rows.LCp.codeAny_compLoop_pair (fun n s' => ∃ i ys o o' H', Inv X' [] (o :: o' :: σ) H' s' ∧ tn i s'.heap ∧ (∀ b ∈ fp, H' b = none) ∧ W i n ys H') ?_ m0 ⟨0, [], none, none, _, I4 tk, T.keep _ _ _ st2 fun b hb o e => old b o e, fun b hb => ?_, w0⟩
    · rintro n s3 ⟨i, ys, o3, o4, H3, I3, st3, fr3, w3⟩
      obtain ⟨hD3, alt⟩ := turn i n ys H3 w3
      rcases alt with ⟨stop, qn⟩ | ⟨go, hlen, step⟩
      · refine wpAny_mono (T.done X' rfl rfl rfl hc i [] s3 _ H3 (fun _ _ => False) I3 (fpX fr3 (by simp)) st3 stop) (fun r s4 hpq => ?_) fun _ _ f => f.elim
        obtain ⟨hr, I4'⟩ := hpq
        subst hr
        obtain ⟨mC, hnC, _⟩ := I4'.loc
        refine ⟨mC, hnC, fun h' hs' => ?_⟩
        have nC : ∀ b u, H3 b = some u → b ≠ C := fun b u e z => by rw [z] at e; rw [show H3 C = none from I4'.free] at e; cases e
        have hok' : HOk X.prog X.w H3 h' := fun b u e => (I4'.hok b u e).stay (fun c v hcc q => hs'.extBut c v (by
          rcases hcc with z | z
          · rw [z]; exact nC b u e
          · exact nC c _ z) q) (fun _ q => q) fun _ _ q => q
        have un : Un (frs X.stack) fp H2 H3 s2.heap h' :=
          ⟨fun b o e n1 n2 n3 => hs'.extBut b o (neC b o e) (I4'.base.keep b o e n1 n2 n3), fun b o e n1 n2 n3 => by
              obtain ⟨sl, q⟩ := I4'.base.slot b o e n1 n2 n3
              exact ⟨sl, hs'.extBut b _ (neC b o e) q⟩, I4'.base.free, fun b o e n1 => by
              obtain ⟨o', q⟩ := I4'.base.there b o e n1
              exact ⟨o', hs'.extBut b _ (neC b o e) q⟩, I4'.base.tups, I4'.base.frzs, I4'.base.tbls⟩
        exact ⟨.ref D, H3, I2.call' (s' := { s4 with heap := h' }) I4'.os un hok' I4'.bare fun b hb => ⟨(f2 b hb).2.2.2.1, (f2 b hb).2.1, (f2 b hb).2.2.2.2.1, (f2 b hb).2.2.2.2.2⟩, rfl, qn⟩
      · refine wpAny_mono (T.item X' rfl rfl rfl hc i [] s3 _ H3 (fun _ _ => False) I3 (fpX fr3 (by simp)) st3 go) (fun r s4 hpq => ?_) fun _ _ f => f.elim
        obtain ⟨u, hr, h4⟩ := hpq
        subst hr
        refine wpAny_mono h4 (fun _ s5 hpq => ?_) fun _ _ f => f.elim
        obtain ⟨z, H5, I5, r5, y5, st5, fr5⟩ := hpq
        have I5' := I5.pinned (fpX fr5 (by simp)) (T.obj _ _ st5)
        obtain ⟨p, a1, a2, rfl, hp, hte⟩ := step z _ y5
        refine wpAny_mono (PG' _ s5 _ H5 (.ref p) u (fun σ' H' => σ' = some a1 :: some a2 :: σ ∧ H' = H5) I5' r5 ⟨p, _, rfl, hp, rfl, _, _, rfl, _, _, rfl, rfl, rfl, rfl⟩) (fun _ s6 hpq => ?_) fun _ _ f => f.elim
        obtain ⟨σ6, H6, I6, e1, e2⟩ := hpq
        subst e1 e2
        refine wpAny_mono (PE' _ s6 _ _ _ I6 hte) (fun z s8 hpq => ?_) fun _ _ f => f.elim
        obtain ⟨yv, H8, I8, r8, hD8, q8⟩ := hpq
        refine wpAny_mono (mt_append (X := X') _ s8 _ H8 (.ref D) [yv] (.ref D) [z] (fun _ H9 => H9 = upd H8 D (.lst (ys ++ [yv]))) I8 rfl (.cons r8 .nil) ⟨D, ys, yv, rfl, rfl, hD8, hlen, rfl⟩) (fun _ s9 hpq => ?_) fun _ _ f => f.elim
        obtain ⟨_, H9, I9, _, e9⟩ := hpq
        subst e9
        obtain ⟨m', hm, w8⟩ := q8
        refine ⟨m', hm, i + 1, _, some a1, some a2, _, I9.unpinned, T.keep _ _ _ st5 fun b hb o e => (I9.pin (b, o) (List.mem_append_right _ (List.mem_append_right _ (mem_pinsAt hb e)))).1, fun b hb => ?_, w8⟩
        obtain ⟨o, e, d⟩ := T.obj _ _ st5 b hb
        exact (I9.pin (b, o) (List.mem_append_right _ (List.mem_append_right _ (mem_pinsAt hb e)))).2.1
    · show upd H2 D (.lst []) b = none
      rw [upd_ne (Nat.ne_of_lt (fplt b hb))]
      exact (f2 b hb).1
  exact codeAny_compStart_list (loop _) (T.self _ _ _ _ _ (T.keep _ _ _ st2 fun b hb o e => old b o e) (loop _))
end
end L2

namespace L2
open PySem PySem.Spec PyProof.Rows
/-! ## a tuple's iterator, by itself and within enumerate -/
section
variable {prog : Program} {w : World} {A : Around} {E : Value → Shared → Prop} {s : Shared} {it t : Addr} {i : Nat} {items : Array Value}
theorem nextT_item {x : Value} {Q : Value → Shared → Prop} (hit : s.heap.IsTupleIter it t i) (ht : s.heap.IsTuple t items) (hx : items[i]? = some x) (hQ : ∀ h', h'.IsTupleIter it t (i + 1) → Heap.SameBut it s.heap h' → Q x { s with heap := h' }) :
    wpAny (model prog w) A (Builtin.SmallTypes.nextOf (.ref it)) Q E s := by
  obtain ⟨o, ho, hc, hd⟩ := id hit
  obtain ⟨ol, hol, _, nl, hdl⟩ := ht
  unfold Builtin.SmallTypes.nextOf
  refine wpAny_bind (wpAny_callSpecial?_slot (name := Str.ofString "__next__") hit.typeIs F.slot_tuple_iterator_next (wpAny_call_entry F.slot_tuple_iterator_next hit.typeIs F.entry_tuple_iterator_next ?_ (F.args_tuple_iterator_next_1 _)))
  refine wpAny_bind (m := field (.ref it) 0) (wpAny_field ho hd (x := .ref t) rfl (wpAny_ite_false rfl (wpAny_bind (m := field (.ref it) 1) (wpAny_field ho hd (x := .int i 0) rfl (wpAny_bind (m := seqItems? (.ref t)) (wpAny_seqItems hol hdl ?_))))))
  simp only [Int.toNat_natCast, hx]
  refine wpAny_bind (wpAny_setField ho hd (by simp) (wpAny_pure ⟨x, rfl, wpAny_pure (hQ _ ⟨_, Heap.get?_update_self _ ho (Obj.isFreed_of_fields (Obj.data_mapFields hd _)), (Obj.cls_mapFields ..).trans hc, ?_⟩ (Heap.SameBut.update ..))⟩))
  rw [Obj.data_mapFields hd]
  simp [rawInt]
theorem nextT_end {Q : Value → Shared → Prop} (hh : A.handled = none) (hit : s.heap.IsTupleIter it t i) (ht : s.heap.IsTuple t items) (hx : items[i]? = none)
    (hE : ∀ h' e, Heap.ExtBut it s.heap h' → (∃ o, h'.get? e = some o ∧ o.cls = .type "StopIteration") → E (.ref e) { s with heap := h' }) : wpAny (model prog w) A (Builtin.SmallTypes.nextOf (.ref it)) Q E s := by
  obtain ⟨o, ho, hc, hd⟩ := id hit
  obtain ⟨ol, hol, _, nl, hdl⟩ := ht
  unfold Builtin.SmallTypes.nextOf
  refine wpAny_bind (wpAny_callSpecial?_slot (name := Str.ofString "__next__") hit.typeIs F.slot_tuple_iterator_next (wpAny_call_entry F.slot_tuple_iterator_next hit.typeIs F.entry_tuple_iterator_next ?_ (F.args_tuple_iterator_next_1 _)))
  refine wpAny_bind (m := field (.ref it) 0) (wpAny_field ho hd (x := .ref t) rfl (wpAny_ite_false rfl (wpAny_bind (m := field (.ref it) 1) (wpAny_field ho hd (x := .int i 0) rfl (wpAny_bind (m := seqItems? (.ref t)) (wpAny_seqItems hol hdl ?_))))))
  simp only [Int.toNat_natCast, hx]
  refine wpAny_bind (wpAny_rule (wpAny_bind (wpAny_setField ho hd (by simp) (wpAny_bind (m := newExc (.type "StopIteration") []) ?_))))
  simp only [newExc, newTuple]
  refine wpAny_bind (wpAny_newObj_type (wpAny_bind (m := firstArgMember _ _) (wpAny_of_eq (a := Value.none) (by first | rfl | (simp only [firstArgMember]; rfl)) (wpAny_newObj_type ?_ (by size_fits)))) (by size_fits))
  simp only [raiseNew]
  refine wpAny_bind (wpAny_handled ?_)
  first | rw [show A.in1.handled = none from hh] | rw [hh]
  exact wpAny_bind (wpAny_pure (wpAny_throw (hE _ _ (((Heap.SameBut.update ..).extBut.push _).push _) ⟨_, Heap.get?_push_size _ rfl, rfl⟩)))
end
theorem IsTup.keeps {h h' : Heap} {t : Addr} {items : Array Value} (x : h.IsTuple t items) (k : ∀ o, h.get? t = some o → h'.get? t = some o) : h'.IsTuple t items := let ⟨o, e, r⟩ := x; ⟨o, k o e, r⟩
theorem drawsT {prog : Program} {w : World} {A : Around} (hh : A.handled = none) (it t : Addr) (hne : t ≠ it) (items : Array Value) :
    Draws prog w A it [it, t] items.size (fun i v => items[i]? = some v) (fun i h => h.IsTupleIter it t i ∧ h.IsTuple t items) where
  live := fun _ _ st => let ⟨o, ho, _⟩ := st.1; ⟨o, ho⟩
  frame := fun _ _ _ st hk => ⟨st.1.at fun o e => hk it (by simp) o e, IsTup.keeps st.2 fun o e => hk t (by simp) o e⟩
  item := fun i s Q E hi st hQ => nextT_item st.1 st.2 (x := items[i]) (by simp [hi]) fun h' hit' hs' => hQ _ h' s.toks (by simp [hi]) ⟨hit', IsTup.keeps st.2 fun o e => (hs'.2 t hne).trans e⟩ hs'
  done := fun s Q E st hE => nextT_end hh st.1 st.2 (by simp) hE
theorem sub_enum' : isSubtype (.type "enumerate") (.type "enumerate") = pure true := by rw [isSubtype_type]; kernel_rfl
set_option maxHeartbeats 1000000 in
theorem meets_enumT (l : Addr) (items : Array Value) (n : Nat) (dct : Option Addr) (sl : Array (Option Value)) :
    Meets (Builtin.«enumerate.__new__» ⟨[.type "enumerate", .ref l], []⟩) (fun _ R s => s.heap.get? l = some { cls := .type "tuple", dict := dct, data := .seq items n, slots := sl } ∧
      R (.ok (.ret (.ref (s.heap.push { cls := .type "tuple_iterator", data := .fields #[.ref l, .int 0 0] }).objs.size)))
        { s with heap := (s.heap.push { cls := .type "tuple_iterator", data := .fields #[.ref l, .int 0 0] }).push { cls := .type "enumerate", data := .fields #[.none, .bool false, .ref s.heap.objs.size, rawInt 0, .none, .none] } }) :=
  .of_wp fun prog w A R s h => by
    obtain ⟨hp, g, d, tk, os⟩ := s
    obtain ⟨hl, h⟩ := h
    have hsub := sub_enum'
    have hT : hp.IsTuple l items := ⟨_, hl, rfl, n, rfl⟩
    wp_walk using wpAny_pyIter_tuple hT
    refine wpAny_stack_any fun st => wpAny_pure ?_
    split
    · rename_i c _ _ _ _ _
      cases (c == Value.type "enumerate") <;> (wp_walk using wpAny_pyIter_tuple hT; exact ⟨_, rfl, h⟩)
    · wp_walk using wpAny_pyIter_tuple hT
      exact ⟨_, rfl, h⟩
theorem call_enumT {prog : Program} {w : World} {A : Around} {E : Value → Shared → Prop} {s : Shared} {l : Addr} {items : Array Value} {Q : Value → Shared → Prop} (hL : s.heap.IsTuple l items)
    (h : ∀ h', IsEnum h' (s.heap.objs.size + 1) s.heap.objs.size 0 .none → h'.IsTupleIter s.heap.objs.size l 0 → (∀ b o, s.heap.get? b = some o → h'.get? b = some o) → Q (.ref (s.heap.objs.size + 1)) { s with heap := h' }) :
    wpAny (model prog w) A (call (.type "enumerate") [.ref l]) Q E s := by
  obtain ⟨⟨c, dct, dt, sl⟩, hl, hc, n, hd⟩ := hL
  simp only at hc hd
  subst hc hd
  refine callType_new F.called_enumerate (by decide) (F.typeCall_enumerate_1 _) (F.newCall_enumerate_1 _) (fun obj => F.args_object_init_2 obj _) F.entry_enumerate_new (meets_enumT l items n dct sl) ⟨hl, ?_⟩
  generalize hG : s.heap.push { cls := .type "tuple_iterator", data := .fields #[.ref l, .int 0 0] } = G
  have hz : G.objs.size = s.heap.objs.size + 1 := by rw [← hG]; exact Heap.size_push ..
  have he : IsEnum (G.push { cls := .type "enumerate", data := .fields #[.none, .bool false, .ref s.heap.objs.size, rawInt 0, .none, .none] }) (s.heap.objs.size + 1) s.heap.objs.size 0 .none := by
    have q := Heap.get?_push_size G (o := { cls := .type "enumerate", data := .fields #[.none, .bool false, .ref s.heap.objs.size, rawInt 0, .none, .none] }) rfl
    rw [hz] at q
    exact q
  show _ ∧ _
  rw [hz]
  exact ⟨⟨_, he, rfl⟩, h _ he ⟨_, Heap.get?_push_of_some _ (by rw [← hG]; exact Heap.get?_push_size _ rfl), rfl, rfl⟩ fun b o x => Heap.get?_push_of_some _ (by rw [← hG]; exact Heap.get?_push_of_some _ x)⟩
/-! ### enumerate(tuple) -/
def IteT (a : Addr) : It := ⟨fun i H => ∃ xs x, H a = some (.tup xs) ∧ xs[i]? = some x, fun i H v H' => ∃ p x xs, H a = some (.tup xs) ∧ xs[i]? = some x ∧ v = .ref p ∧ H p = none ∧ H' = upd H p (.tup [.int (i : Int), x]), fun i H => ∃ xs, H a = some (.tup xs) ∧ i = xs.length⟩
theorem turn_enumT {P : Program} {w : World} {K : PySem.W.Frag} {es : List Expr} {kt : Nat} {pt : Pos} (a e it : Addr) (hne : e ≠ it) : Turn P w K (.Tuple es kt pt) (IteT a) [e, it] e (fun i h => (∃ old, IsEnum h e it i old) ∧ h.IsTupleIter it a i) where
  mem := by simp
  obj := fun i h ⟨⟨old, he⟩, ⟨o1, e1, _, d1⟩⟩ c hc => by
    simp only [List.mem_cons, List.not_mem_nil, or_false] at hc
    rcases hc with rfl | rfl
    · exact ⟨_, he, fun v q => by cases q⟩
    · exact ⟨o1, e1, fun v q => by rw [d1] at q; cases q⟩
  keep := fun i h h' ⟨⟨old, he⟩, ⟨o1, e1, r1⟩⟩ k => ⟨⟨old, k e (by simp) _ he⟩, ⟨o1, k it (by simp) _ e1, r1⟩⟩
  item := by
    rintro X hP hw hK hc i pins s σ H E I hf ⟨⟨old, he⟩, s1⟩ hg
    subst hP hw hK
    obtain ⟨xs, x, hq, hx⟩ := hg
    obtain ⟨its, rv, p, hz⟩ := I.tuple (SqT.of hq)
    obtain ⟨u, hu, ru⟩ := rv.get hx
    have p' : s.heap.IsTuple a its.toArray := p
    have hlt : i < its.toArray.size := by
      have := (List.getElem?_eq_some_iff.mp hu).1
      simpa using this
    have hat : a ≠ it := by
      obtain ⟨o, e1, c1, _⟩ := p'
      obtain ⟨o2, e2, c2, _⟩ := s1
      rintro rfl
      rw [e1] at e2
      cases e2
      rw [c1] at c2
      exact absurd c2 (by decide)
    have hae : e ≠ a := by
      obtain ⟨o, e1, c1, _⟩ := p'
      rintro rfl
      have he' : s.heap.get? e = some _ := he
      rw [e1] at he'
      cases he'
      exact absurd (show Value.type "enumerate" = Value.type "tuple" from c1) (by decide)
    refine wpAny_pyNext_enum_itemD (drawsT (A := X.A.in1) (I.ok.hd hc) it a hat its.toArray) he ⟨s1, p'⟩ hlt hne (by simp [hne, hae]) fun v g tk pv ho st new hsz gk => ⟨_, rfl, ?_⟩
    have ev : v = u := by
      have : its.toArray[i]? = some v := pv
      rw [List.getElem?_toArray, hu] at this
      exact (Option.some.inj this).symm
    subst ev
    refine wpAny_letOwnedTupleGo_enum (s := { s with heap := g, toks := tk + 1 }) ho fun g' ge gs => ?_
    have up : ∀ b o, b ≠ e → g.get? b = some o → g'.get? b = some o := fun b o hb q => (gs.2 b hb).trans q
    have ne : s.heap.objs.size ≠ e := Nat.ne_of_gt (Heap.lt_size he)
    have tup : ObjOk X.prog X.w (upd H s.heap.objs.size (.tup [.int (i : Int), x])) g' s.heap.objs.size (.tup [.int (i : Int), x]) :=
      ⟨line_ge (by show 2 ≤ 16777216; decide), [.int i tk, v], .cons ⟨_, rfl⟩ (.cons ru .nil), ⟨_, up _ _ ne new, rfl, 0, rfl⟩⟩
    refine ⟨.ref s.heap.objs.size, _, I.turnedNew (S := [e, it]) (h' := g') (t' := tk + 1) (fun b o hb q => up b o (fun z => hb (by simp [z])) (gk b o (fun z => hb (by simp [z])) (fun z => hb (by simp [z])) q)) hf tup, rfl,
      ⟨_, x, xs, hq, hx, rfl, I.hok.fresh (Nat.le_refl _), rfl⟩, ⟨⟨_, by rw [Int.natCast_succ]; exact ge⟩, st.1.at fun o q => up _ o (fun z => hne z.symm) q⟩, fun b hb => ?_⟩
    have lt : b < s.heap.objs.size := by
      obtain ⟨o1, e1, _⟩ := s1
      simp only [List.mem_cons, List.not_mem_nil, or_false] at hb
      rcases hb with rfl | rfl
      · exact Heap.lt_size he
      · exact Heap.lt_size e1
    rw [upd_ne (Nat.ne_of_lt lt)]
    exact (hf b hb).1
  done := by
    rintro X hP hw hK hc i pins s σ H E I hf ⟨⟨old, he⟩, s1⟩ hstop
    subst hP hw hK
    obtain ⟨xs, hq, rfl⟩ := hstop
    obtain ⟨its, rv, p, hz⟩ := I.tuple (SqT.of hq)
    have p' : s.heap.IsTuple a its.toArray := p
    have hat : a ≠ it := by
      obtain ⟨o, e1, c1, _⟩ := p'
      obtain ⟨o2, e2, c2, _⟩ := s1
      rintro rfl
      rw [e1] at e2
      cases e2
      rw [c1] at c2
      exact absurd c2 (by decide)
    have hsz : xs.length = its.toArray.size := by rw [rv.length]; simp
    refine wpAny_pyNext_enum_endD (drawsT (A := X.A.in1) (I.ok.hd hc) it a hat its.toArray) he ⟨by rw [← hsz]; exact s1, p'⟩ fun g gs => ⟨rfl, ?_⟩
    exact I.turnedL (S := [e, it]) (fun b o hb q => gs b o (fun z => hb (by simp [z])) q) hf
  self := fun _ _ _ _ _ st h => by
    obtain ⟨⟨old, he⟩, _⟩ := st
    exact wpAny_pyIter_enum he h
def iEnumT (t : TA) : TI := fun σ H R => t σ H fun vs H1 => ∃ a xs, vs = [.ref a] ∧ H1 a = some (.tup xs) ∧ R (IteT a) H1
end L2

namespace L2
open PySem PySem.Spec PyProof.Rows
/-! ## zip over two tuples -/
namespace ZP
section
variable {prog : Program} {w : World} {A : Around} {E : Value → Shared → Prop} {s : Shared} {z TI TO i1 i2 : Addr} {f1 f2 : List Addr} {n1 n2 k : Nat} {P1 P2 : Nat → Value → Prop} {S1 S2 : Nat → Heap → Prop} {a b : Value}
/-- the object that walks a tuple -/
def tupIt (a : Addr) : Obj := { cls := .type "tuple_iterator", data := .fields #[.ref a, .int 0 0] }
theorem iter_tup {a : Addr} {items : Array Value} {Q : Value → Shared → Prop} (ht : s.heap.IsTuple a items) (h : Q (.ref s.heap.objs.size) { s with heap := s.heap.push (tupIt a) }) : wpAny (model prog w) A (pyIter (.ref a)) Q E s := wpAny_pyIter_tuple ht h
def madeT (h : Heap) (x y : Addr) : Heap :=
  ((((h.push (tupIt x)).push (tupIt y)).push { cls := .type "tuple", data := .seq #[.ref h.objs.size, .ref (h.objs.size + 1)] }).push { cls := .type "tuple", data := .seq #[.none, .none] }).push
    { cls := .type "zip", data := .fields #[.none, .bool false, .bool false, .ref (h.objs.size + 2), .ref (h.objs.size + 3)] }
end
end ZP
/-- two tuples side by side -/
def Itzt (x y : Addr) : It := ⟨fun i H => ∃ xs ys a b, H x = some (.tup xs) ∧ H y = some (.tup ys) ∧ xs[i]? = some a ∧ ys[i]? = some b, fun i H v H' => ∃ p xs ys a b, H x = some (.tup xs) ∧ H y = some (.tup ys) ∧ xs[i]? = some a ∧ ys[i]? = some b ∧ v = .ref p ∧ H p = none ∧ H' = upd H p (.tup [a, b]),
  fun i H => ∃ xs ys, H x = some (.tup xs) ∧ H y = some (.tup ys) ∧ xs.length = ys.length ∧ i = xs.length⟩
def iZipT (t : TA) : TI := fun σ H R => t σ H fun vs H1 => ∃ x y xs ys, vs = [.ref x, .ref y] ∧ H1 x = some (.tup xs) ∧ H1 y = some (.tup ys) ∧ R (Itzt x y) H1
end L2

namespace L2
open PySem PySem.Spec PyProof.Rows
/-! ## max of a list of ints; the place of a truth; two lists of ints alike; a list from behind -/
theorem ints_are : ∀ {ns : List Int} {us : List Value}, Vals (ns.map V.int) us → IntsAre us ns
  | [], _, r => by rw [List.map_nil] at r; cases r; exact .nil
  | n :: ns, _, r => by
    rw [List.map_cons] at r
    cases r with
    | cons h t =>
      obtain ⟨u, rfl⟩ := (show ∃ t, _ = Value.int n t from h)
      exact .cons n u (ints_are t)
section
variable {X : Cx}
/-- bs.index(False) -/
def rIndexB : V → List V → Hp → VK → Prop := fun x vs H Q => ∃ (l : Addr) (bs : List Bool), x = .ref l ∧ vs = [.bl false] ∧ H l = some (.lst (bs.map V.bl)) ∧ false ∈ bs ∧ Q (.int (bs.idxOf false : Nat)) H
/-- two lists of ints -/
def rEqI (K : PySem.W.Frag) : R2 := fun x y H Q => ∃ (p q : Addr) (xs ys : List Int), x = .ref p ∧ y = .ref q ∧ H p = some (.lst (xs.map V.int)) ∧ H q = some (.lst (ys.map V.int)) ∧ xs.length = ys.length ∧ Q (.bl (decide (xs = ys))) H
theorem op_eqI (hu : X.A.units < cLine) : OpR X (compareOp .Eq) (rEqI X.K) := by
  intro pins s σ H x y v u Q I rx ry h
  obtain ⟨p, q, xs, ys, rfl, rfl, hp, hq, hl, k⟩ := h
  cases rx
  cases ry
  obtain ⟨its, r1, pl1, hz1⟩ := I.list (SqL.of hp)
  obtain ⟨its2, r2, pl2, hz2⟩ := I.list (SqL.of hq)
  have l1 := r1.length
  have l2 := r2.length
  rw [List.length_map] at l1 l2
  refine SeqAt.eq_listAt (e := fun j => decide (xs.getD j 0 = ys.getD j 0)) pl1.isList pl2.isList (by simp; omega) hu (fun j h1 h2 => ?_) ⟨.bl _, H, I, rfl, ?_⟩
  · have hj : j < xs.length := by simp at h1; omega
    have hj2 : j < ys.length := by omega
    obtain ⟨a, ea, ra⟩ := r1.get (i := j) (x := .int xs[j]) (by rw [List.getElem?_map, List.getElem?_eq_getElem hj]; rfl)
    obtain ⟨b, eb, rb⟩ := r2.get (i := j) (x := .int ys[j]) (by rw [List.getElem?_map, List.getElem?_eq_getElem hj2]; rfl)
    obtain ⟨t, rfl⟩ := ra
    obtain ⟨t', rfl⟩ := rb
    have e1 : its.toArray[j] = .int xs[j] t := by
      obtain ⟨_, e⟩ := List.getElem?_eq_some_iff.mp ea
      simpa using e
    have e2 : its2.toArray[j] = .int ys[j] t' := by
      obtain ⟨_, e⟩ := List.getElem?_eq_some_iff.mp eb
      simpa using e
    rw [e1, e2]
    have e3 : decide (xs.getD j 0 = ys.getD j 0) = (xs[j] == ys[j]) := by
      rw [List.getD_eq_getElem?_getD, List.getD_eq_getElem?_getD, List.getElem?_eq_getElem hj, List.getElem?_eq_getElem hj2]
      by_cases z : xs[j] = ys[j] <;> simp [z]
    show SeqAt.EqAt _ _ _ _ (decide (xs.getD j 0 = ys.getD j 0))
    rw [e3]
    exact SeqAt.EqAt.int_int _ t _ t'
  · have e : ((List.range its.toArray.size).all fun j => decide (xs.getD j 0 = ys.getD j 0)) = decide (xs = ys) := by
      have hs : its.toArray.size = xs.length := by simp; omega
      rw [hs]
      by_cases z : xs = ys
      · subst z
        simp
      · rw [decide_eq_false z, Bool.eq_false_iff]
        intro all
        refine z (List.ext_getElem? fun i => ?_)
        rw [List.all_eq_true] at all
        by_cases hi : i < xs.length
        · have := of_decide_eq_true (all i (List.mem_range.mpr hi))
          rw [List.getD_eq_getElem?_getD, List.getD_eq_getElem?_getD, List.getElem?_eq_getElem hi, List.getElem?_eq_getElem (by omega)] at this
          rw [List.getElem?_eq_getElem hi, List.getElem?_eq_getElem (by omega)]
          exact congrArg some this
        · rw [List.getElem?_eq_none (by omega), List.getElem?_eq_none (by omega)]
    rw [e]
    exact k
end
/-! ### reversed(list) -/
def Itv (a : Addr) (n : Nat) : It := ⟨fun i H => ∃ xs, H a = some (.lst xs) ∧ xs.length = n ∧ i < n, fun i H v H' => H' = H ∧ ∃ xs, H a = some (.lst xs) ∧ xs[n - 1 - i]? = some v, fun i _ => i = n⟩
def iRev (t : TA) : TI := fun σ H R => t σ H fun vs H1 => ∃ a xs, vs = [.ref a] ∧ H1 a = some (.lst xs) ∧ R (Itv a xs.length) H1
end L2

namespace L2
open PySem PySem.Spec PyProof.Rows
/-! ## walks over a list or a tuple; comprehensions with two targets -/
def Over (J : It) (a : Addr) (o : HO) (xs : List V) : Prop := ∀ H2 : Hp, H2 a = some o → (∀ i, i < xs.length → J.go i H2) ∧ (∀ i x H3, i < xs.length → J.yld i H2 x H3 → H3 = H2 ∧ xs[i]? = some x) ∧ J.stop xs.length H2
theorem over_l {K : PySem.W.Frag} {a : Addr} {xs : List V} : Over (Itl K a) a (.lst xs) xs := fun H2 e =>
  ⟨fun i h => ⟨xs, xs[i], SqL.of e, List.getElem?_eq_getElem h⟩, fun i x H3 _ ⟨e1, h⟩ => ⟨e1, h xs (SqL.of e)⟩, ⟨xs, SqL.of e, Nat.le_refl _⟩⟩
theorem over_t {K : PySem.W.Frag} {a : Addr} {xs : List V} : Over (Itt K a) a (.tup xs) xs := fun H2 e =>
  ⟨fun i h => ⟨xs, xs[i], SqT.of e, List.getElem?_eq_getElem h⟩, fun i x H3 _ ⟨e1, h⟩ => ⟨e1, h xs (SqT.of e)⟩, ⟨xs, SqT.of e, Nat.le_refl _⟩⟩
def iSq (tl : TE) : TI := fun σ H R => tl σ H fun x H1 => ∃ a o xs, x = .ref a ∧ (o = .lst xs ∨ o = .tup xs) ∧ H1 a = some o ∧ ∀ J, Over J a o xs → R J H1
theorem pi_sq {X : Cx} {tg l : Expr} {tl : TE} (hl : PE X l tl) : PI X tg l (iSq tl) := by
  intro pins s σ H R I h
  refine thn (hl pins s σ H _ I h) fun v s1 ⟨x, H1, I1, r1, q1⟩ => ?_
  obtain ⟨a, o, xs, e, ho, hq, q⟩ := q1
  subst e
  cases r1
  have tail : ∀ b ∈ [s1.heap.objs.size], FpOk X pins H1 b := fun b hb => by
    have e : b = s1.heap.objs.size := by simpa using hb
    subst e
    exact I1.fpOk (Nat.le_refl _) (I1.hok.fresh (Nat.le_refl _))
  rcases ho with rfl | rfl
  · obtain ⟨its, rv, p, hz⟩ := I1.list (SqL.of hq)
    refine wpAny_pyIter_list p.isList ?_
    exact ⟨s1.heap.objs.size, [s1.heap.objs.size], _, _, H1, rfl, I1.kept (t' := s1.toks) fun b o e => Heap.get?_push_of_some _ e, turn_list a _, ⟨_, Heap.get?_push_size _ rfl, rfl, rfl⟩, tail, q _ over_l⟩
  · obtain ⟨its, rv, p, hz⟩ := I1.tuple (SqT.of hq)
    refine wpAny_pyIter_tuple (show s1.heap.IsTuple a its.toArray from p) ?_
    exact ⟨s1.heap.objs.size, [s1.heap.objs.size], _, _, H1, rfl, I1.kept (t' := s1.toks) fun b o e => Heap.get?_push_of_some _ e, turn_tuple a _, ⟨_, Heap.get?_push_size _ rfl, rfl, rfl⟩, tail, q _ over_t⟩
theorem for_over {J : It} {a : Addr} {o : HO} {xs : List V} {g : TG} {tb : TS} {D : Ends} {σ : St} {H : Hp} (ov : Over J a o xs) (Pv : Nat → St → Hp → Prop) (h0 : Pv 0 σ H) (hl : ∀ i σ H, Pv i σ H → H a = some o)
    (hs : ∀ i x σ H, xs[i]? = some x → Pv i σ H → g x σ H fun σ2 H2 => tb { D with nx := Pv (i + 1), ct := Pv (i + 1), bk := D.nx } σ2 H2) (hd : ∀ σ H, Pv xs.length σ H → D.nx σ H) :
    ∃ W : Nat → Nat → St → Hp → Prop, (∃ m, W 0 m σ H) ∧ ∀ i m σ H, W i m σ H →
      (J.stop i H ∧ D.nx σ H) ∨ (J.go i H ∧ ∃ N : St → Hp → Prop, (∀ σ' H', N σ' H' → ∃ m', m' < m ∧ W (i + 1) m' σ' H') ∧ ∀ x H', J.yld i H x H' → g x σ H' fun σ2 H2 => tb { D with nx := N, ct := N, bk := D.nx } σ2 H2) := by
  refine ⟨fun i m σ H => m = xs.length - i ∧ i ≤ xs.length ∧ Pv i σ H, ⟨xs.length, by simp, Nat.zero_le _, h0⟩, ?_⟩
  rintro i m σ H ⟨rfl, hi, p⟩
  obtain ⟨q1, q2, q3⟩ := ov H (hl i σ H p)
  by_cases hlt : i < xs.length
  · refine .inr ⟨q1 i hlt, Pv (i + 1), fun σ' H' p' => ⟨xs.length - (i + 1), Nat.sub_succ_lt_self _ _ hlt, rfl, hlt, p'⟩, fun x H' y => ?_⟩
    obtain ⟨e, y2⟩ := q2 i x H' hlt y
    subst e
    exact hs i x σ _ y2 p
  · have e : i = xs.length := Nat.le_antisymm hi (Nat.le_of_not_lt hlt)
    subst e
    exact .inl ⟨q3, hd σ H p⟩
theorem comp_over {J : It} {a : Addr} {o : HO} {xs : List V} {tt : TT} {te : TE} {σ : St} {H : Hp} {Q : VK} (ov : Over J a o xs) (hH : H a = some o) (Pv : Addr → Nat → List V → Hp → Prop) (hz : xs.length ≤ sizeLine)
    (h0 : ∀ D, H D = none → Pv D 0 [] (upd H D (.lst [])))
    (hs : ∀ (D : Addr) (i : Nat) (x : V) (ys : List V) (H' : Hp) (R1 : VK) (R2 : Hp → Prop), H D = none → xs[i]? = some x → Same H H' → H' D = some (.lst ys) → Pv D i ys H' →
      (∀ y H5, H5 D = some (.lst ys) → Same H (upd H5 D (.lst (ys ++ [y]))) → Pv D (i + 1) (ys ++ [y]) (upd H5 D (.lst (ys ++ [y]))) → R1 y H5) → (∀ H4, Same H H4 → H4 D = some (.lst ys) → Pv D (i + 1) ys H4 → R2 H4) →
      tt (some x :: σ) H' fun b H4 => if b = true then te (some x :: σ) H4 R1 else R2 H4)
    (hq : ∀ D ys H', H D = none → Same H H' → H' D = some (.lst ys) → Pv D xs.length ys H' → Q (.ref D) H') : ∀ D, H D = none → ∃ W : Nat → Nat → List V → Hp → Prop,
  (∃ m, W 0 m [] (upd H D (.lst []))) ∧ ∀ i m ys H2, W i m ys H2 → H2 D = some (.lst ys) ∧ ((J.stop i H2 ∧ Q (.ref D) H2) ∨ (J.go i H2 ∧ ys.length < sizeLine ∧ ∀ x H3, J.yld i H2 x H3 →
    tt (some x :: σ) H3 fun b H4 => if b = true then te (some x :: σ) H4 fun y H5 => H5 D = some (.lst ys) ∧ ∃ m', m' < m ∧ W (i + 1) m' (ys ++ [y]) (upd H5 D (.lst (ys ++ [y])))
      else ∃ m', m' < m ∧ W (i + 1) m' ys H4)) := by
  intro D hD
  refine ⟨fun i m ys H2 => m = xs.length - i ∧ i ≤ xs.length ∧ ys.length ≤ i ∧ Same H H2 ∧ H2 D = some (.lst ys) ∧ Pv D i ys H2, ⟨xs.length, by simp, Nat.zero_le _, by simp, Same.upd hD, upd_same, h0 D hD⟩, ?_⟩
  rintro i m ys H2 ⟨rfl, hi, hy, hsm, hDl, hp⟩
  refine ⟨hDl, ?_⟩
  obtain ⟨q1, q2, q3⟩ := ov H2 (hsm _ _ hH)
  by_cases hlt : i < xs.length
  · refine .inr ⟨q1 i hlt, Nat.lt_of_le_of_lt hy (Nat.lt_of_lt_of_le hlt hz), fun x H3 hyl => ?_⟩
    obtain ⟨e, hx⟩ := q2 i x H3 hlt hyl
    subst e
    exact hs D i x ys H3 _ _ hD hx hsm hDl hp (fun y H5 a b c => ⟨a, xs.length - (i + 1), Nat.sub_succ_lt_self _ _ hlt, rfl, hlt, by rw [List.length_append]; exact Nat.succ_le_succ hy, b, upd_same, c⟩) (fun H4 a b c => ⟨xs.length - (i + 1), Nat.sub_succ_lt_self _ _ hlt, rfl, hlt, Nat.le_succ_of_le hy, a, b, c⟩)
  · have e : i = xs.length := Nat.le_antisymm hi (Nat.le_of_not_lt hlt)
    subst e
    exact .inl ⟨q3, hq D ys H2 hD hsm hDl hp⟩
/-- what a comprehension with two targets asks for -/
def C2Goal (K : PySem.W.Frag) (J : It) (te : TE) (σ : St) (H1 : Hp) (Q : VK) : Prop := ∀ D, H1 D = none → ∃ W : Nat → Nat → List V → Hp → Prop,
  (∃ m, W 0 m [] (upd H1 D (.lst []))) ∧ ∀ i m ys H2, W i m ys H2 → H2 D = some (.lst ys) ∧ ((J.stop i H2 ∧ Q (.ref D) H2) ∨ (J.go i H2 ∧ ys.length < sizeLine ∧ ∀ x H3, J.yld i H2 x H3 →
    ∃ p a b, x = .ref p ∧ SqT K H3 p [a, b] ∧ te (some a :: some b :: σ) H3 fun y H5 => H5 D = some (.lst ys) ∧ ∃ m', m' < m ∧ W (i + 1) m' (ys ++ [y]) (upd H5 D (.lst (ys ++ [y])))))
theorem comp2_step {K : PySem.W.Frag} {J : It} {n : Nat} {te : TE} {σ : St} {H : Hp} {Q : VK} (Pr : Nat → V → V → Prop) (Pv : Addr → Nat → List V → Hp → Prop) (hz : n ≤ sizeLine)
    (j1 : ∀ i H2, Same H H2 → i < n → J.go i H2) (j2 : ∀ i H2 x H3, Same H H2 → i < n → J.yld i H2 x H3 → ∃ p a b, x = .ref p ∧ Pr i a b ∧ H2 p = none ∧ H3 = upd H2 p (.tup [a, b])) (j3 : ∀ H2, Same H H2 → J.stop n H2)
    (h0 : ∀ D, H D = none → Pv D 0 [] (upd H D (.lst [])))
    (hs : ∀ (D : Addr) (i : Nat) (a b : V) (ys : List V) (H' H3 : Hp) (R1 : VK), H D = none → i < n → Pr i a b → Same H H' → H' D = some (.lst ys) → Pv D i ys H' → Same H' H3 →
      (∀ y H5, H5 D = some (.lst ys) → Same H (upd H5 D (.lst (ys ++ [y]))) → Pv D (i + 1) (ys ++ [y]) (upd H5 D (.lst (ys ++ [y]))) → R1 y H5) → te (some a :: some b :: σ) H3 R1)
    (hq : ∀ D ys H', H D = none → Same H H' → H' D = some (.lst ys) → Pv D n ys H' → Q (.ref D) H') : C2Goal K J te σ H Q := by
  intro D hD
  refine ⟨fun i m ys H2 => m = n - i ∧ i ≤ n ∧ ys.length ≤ i ∧ Same H H2 ∧ H2 D = some (.lst ys) ∧ Pv D i ys H2, ⟨n, by simp, Nat.zero_le _, by simp, Same.upd hD, upd_same, h0 D hD⟩, ?_⟩
  rintro i m ys H2 ⟨rfl, hi, hy, hsm, hDl, hp⟩
  refine ⟨hDl, ?_⟩
  by_cases hlt : i < n
  · refine .inr ⟨j1 i H2 hsm hlt, Nat.lt_of_le_of_lt hy (Nat.lt_of_lt_of_le hlt hz), fun x H3 hyl => ?_⟩
    obtain ⟨p, a, b, rfl, hab, hpn, rfl⟩ := j2 i H2 x H3 hsm hlt hyl
    refine ⟨p, a, b, rfl, SqT.of upd_same, hs D i a b ys H2 _ _ hD hlt hab hsm hDl hp (Same.upd hpn) fun y H5 e1 e2 e3 => ⟨e1, n - (i + 1), Nat.sub_succ_lt_self _ _ hlt, rfl, hlt, by rw [List.length_append]; exact Nat.succ_le_succ hy, e2, upd_same, e3⟩⟩
  · have e : i = n := Nat.le_antisymm hi (Nat.le_of_not_lt hlt)
    subst e
    exact .inl ⟨j3 H2 hsm, hq D ys H2 hD hsm hDl hp⟩
theorem comp2_enum {K : PySem.W.Frag} {c : Addr} {xs : List V} {te : TE} {σ : St} {H : Hp} {Q : VK} (hH : H c = some (.tup xs)) (Pv : Addr → Nat → List V → Hp → Prop) (hz : xs.length ≤ sizeLine)
    (h0 : ∀ D, H D = none → Pv D 0 [] (upd H D (.lst [])))
    (hs : ∀ (D : Addr) (i : Nat) (x : V) (ys : List V) (H' H3 : Hp) (R1 : VK), H D = none → xs[i]? = some x → Same H H' → H' D = some (.lst ys) → Pv D i ys H' → Same H' H3 →
      (∀ y H5, H5 D = some (.lst ys) → Same H (upd H5 D (.lst (ys ++ [y]))) → Pv D (i + 1) (ys ++ [y]) (upd H5 D (.lst (ys ++ [y]))) → R1 y H5) → te (some (.int (i : Int)) :: some x :: σ) H3 R1)
    (hq : ∀ D ys H', H D = none → Same H H' → H' D = some (.lst ys) → Pv D xs.length ys H' → Q (.ref D) H') : C2Goal K (IteT c) te σ H Q := by
  refine comp2_step (n := xs.length) (fun i a b => a = .int (i : Int) ∧ xs[i]? = some b) Pv hz (fun i H2 s h => ⟨xs, xs[i], s _ _ hH, List.getElem?_eq_getElem h⟩) ?_ (fun H2 s => ⟨xs, s _ _ hH, rfl⟩) h0 ?_ hq
  · rintro i H2 x H3 s h ⟨p, y, zs, e1, e2, e3, e4, e5⟩
    rw [s _ _ hH] at e1
    cases e1
    exact ⟨p, _, y, e3, ⟨rfl, e2⟩, e4, e5⟩
  · rintro D i a b ys H' H3 R1 hD hi ⟨rfl, hb⟩ a1 a2 a3 a4 a5
    exact hs D i b ys H' H3 R1 hD hb a1 a2 a3 a4 a5
end L2
namespace RA
open PySem L2
/-! ## numbers by first appearance, in a dict -/
inductive KS where
  | inl (b : Bool)
  | inr (k : NK)
instance : DecidableEq KS := fun a b => match a, b with
  | .inl a, .inl b => if h : a = b then isTrue (by rw [h]) else isFalse fun z => h (KS.inl.inj z)
  | .inr a, .inr b => if h : a = b then isTrue (by rw [h]) else isFalse fun z => h (KS.inr.inj z)
  | .inl _, .inr _ => isFalse fun z => by cases z
  | .inr _, .inl _ => isFalse fun z => by cases z
def isN : KS → Bool
  | .inl _ => false
  | .inr _ => true
def KeyV (H : Hp) : KS → V → Prop
  | .inl b, x => x = .bl b
  | .inr k, x => ∃ p, x = .ref p ∧ NIn H k p
theorem nin_stay {H H' : Hp} {k : NK} {a : Addr} (s : ∀ b xs, H b = some (.tup xs) → H' b = some (.tup xs)) (h : NIn H k a) : NIn H' k a := by
  obtain ⟨b, e1, e2⟩ := h
  exact ⟨b, s _ _ e1, s _ _ e2⟩
theorem KeyV.stay {H H' : Hp} {k : KS} {x : V} (s : ∀ b xs, H b = some (.tup xs) → H' b = some (.tup xs)) (h : KeyV H k x) : KeyV H' k x := by
  cases k with
  | inl b => exact h
  | inr k =>
    obtain ⟨p, e, h⟩ := h
    exact ⟨p, e, nin_stay s h⟩
theorem find_num {α κ : Type} [DecidableEq κ] (key : α → κ) (val : α → V) (k : κ) : ∀ (kvs : List α) (n : Nat), (∀ i x, kvs[i]? = some x → val x = .int ((n + i : Nat) : Int)) →
    (kvs.find? fun x => decide (key x = k)).map val = if k ∈ kvs.map key then some (.int ((n + (kvs.map key).idxOf k : Nat) : Int)) else none
  | [], n, _ => by simp
  | a :: kvs, n, h => by
    by_cases e : key a = k
    · have h0 := h 0 a rfl
      rw [if_pos (by simp [e])]
      subst e
      simp [List.find?_cons, h0]
    · have ih := find_num key val k kvs (n + 1) fun i x hx => by
        have := h (i + 1) x (by simpa using hx)
        rw [this]
        congr 2
        omega
      have e1 : (kvs.map key).idxOf k + 1 = ((a :: kvs).map key).idxOf k := by
        rw [List.map_cons, List.idxOf_cons, beq_eq_false_iff_ne.mpr e]
        rfl
      rw [List.find?_cons, decide_eq_false e]
      show (kvs.find? fun x => decide (key x = k)).map val = _
      rw [ih]
      by_cases hm : k ∈ kvs.map key
      · rw [if_pos hm, if_pos (by rw [List.map_cons]; exact List.mem_cons_of_mem _ hm), ← e1]
        congr 3
        omega
      · rw [if_neg hm, if_neg (by rw [List.map_cons, List.mem_cons]; rintro (z | z); exact e z.symm; exact hm z)]
def NumAt (P : Program) (w : World) (H : Hp) (d : Addr) (nest : Bool) (ks : List KS) : Prop :=
  (nest = false ∧ ∃ kvs : List (Bool × V), H d = some (kdO (boolKind P w) d kvs) ∧ (kvs.map fun x => (KS.inl x.1 : KS)) = dis ks ∧ ∀ (i : Nat) (x : Bool × V), kvs[i]? = some x → x.2 = V.int (i : Int)) ∨
  (nest = true ∧ ∃ kvs : List (NK × Addr × V), H d = some (hdO (nestD P w) d kvs) ∧ (∀ x ∈ kvs, NIn H x.1 x.2.1) ∧ (kvs.map fun x => (KS.inr x.1 : KS)) = dis ks ∧ ∀ (i : Nat) (x : NK × Addr × V), kvs[i]? = some x → x.2.2 = V.int (i : Int))
section
variable {P : Program} {w : World} {H : Hp} {d : Addr} {nest : Bool} {ks : List KS}
def numO (ks : List KS) (k : KS) : Option V := if k ∈ dis ks then some (.int ((dis ks).idxOf k : Nat)) else none
theorem NumAt.get {k : KS} {x : V} (h : NumAt P w H d nest ks) (hk : KeyV H k x) (hn : isN k = nest) : DGet P w H d x (numO ks k) := by
  rcases h with ⟨rfl, kvs, e, hm, hv⟩ | ⟨rfl, kvs, e, hN, hm, hv⟩
  · cases k with
    | inr k => cases hn
    | inl b =>
      refine .inl ⟨kvs, b, e, hk, ?_⟩
      have := find_num (fun x : Bool × V => (KS.inl x.1 : KS)) (·.2) (KS.inl b) kvs 0 (fun i x hx => by rw [hv i x hx, Nat.zero_add])
      rw [hm] at this
      unfold numO valV
      rw [Nat.zero_add] at this
      rw [← this]
      congr 2
      funext x
      exact decide_eq_decide.mpr ⟨fun z => KS.inl.inj z, fun z => by rw [z]⟩
  · cases k with
    | inl k => cases hn
    | inr b =>
      obtain ⟨p, e1, e2⟩ := hk
      refine .inr (.inl ⟨kvs, b, p, e, hN, e1, e2, ?_⟩)
      have := find_num (fun x : NK × Addr × V => (KS.inr x.1 : KS)) (·.2.2) (KS.inr b) kvs 0 (fun i x hx => by rw [hv i x hx, Nat.zero_add])
      rw [hm] at this
      unfold numO valH
      rw [Nat.zero_add] at this
      rw [← this]
      congr 2
      funext x
      exact decide_eq_decide.mpr ⟨fun z => KS.inr.inj z, fun z => by rw [z]⟩
theorem NumAt.len (h : NumAt P w H d nest ks) : DLen P w H d (dis ks).length := by
  rcases h with ⟨_, kvs, e, hm, _⟩ | ⟨_, kvs, e, _, hm, _⟩
  · exact .inl ⟨kvs, e, by rw [← hm, List.length_map]⟩
  · exact .inr ⟨kvs, e, by rw [← hm, List.length_map]⟩
theorem NumAt.same {k : KS} (h : NumAt P w H d nest ks) (hk : k ∈ dis ks) : NumAt P w H d nest (ks ++ [k]) := by
  unfold NumAt at h ⊢
  rw [dis_snoc, if_pos hk]
  exact h
theorem NumAt.mono {H' : Hp} (h : NumAt P w H d nest ks) (s : Same H H') : NumAt P w H' d nest ks := by
  rcases h with ⟨a, kvs, e, hm⟩ | ⟨a, kvs, e, hN, hm⟩
  · exact .inl ⟨a, kvs, s _ _ e, hm⟩
  · exact .inr ⟨a, kvs, s _ _ e, fun x hx => nin_stay (fun b xs z => s _ _ z) (hN x hx), hm⟩
theorem NumAt.tups {H' : Hp} {ob : HO} (h : NumAt P w H d nest ks) (e : H' = upd H d ob) : ∀ b xs, H b = some (.tup xs) → H' b = some (.tup xs) := fun b xs z => by
  rw [e, upd_ne (fun q => ?_)]
  · exact z
  · subst q
    rcases h with ⟨_, kvs, e1, _⟩ | ⟨_, kvs, e1, _⟩
    · rw [e1] at z; cases z
    · rw [e1] at z; cases z
theorem num_at {j n : Nat} (h : ¬ j < n) (h2 : j - n < 1) : j = n := by omega
theorem NumAt.put {k : KS} {x : V} (h : NumAt P w H d nest ks) (hk : KeyV H k x) (hn : isN k = nest) (hnew : k ∉ dis ks) (hl : (dis ks).length < sizeLine) :
    ∃ ob, DPut P w H d x (.int ((dis ks).length : Nat)) (upd H d ob) ∧ NumAt P w (upd H d ob) d nest (ks ++ [k]) := by
  have hnone : numO ks k = none := if_neg hnew
  have hget := h.get hk hn
  rw [hnone] at hget
  have h0 := h
  rcases h with ⟨rfl, kvs, e, hm, hv⟩ | ⟨rfl, kvs, e, hN, hm, hv⟩
  · cases k with
    | inr k => cases hn
    | inl b =>
      have hlen : (dis ks).length = kvs.length := by rw [← hm, List.length_map]
      have hval : valV kvs b = none := by
        have := find_num (fun x : Bool × V => (KS.inl x.1 : KS)) (·.2) (KS.inl b) kvs 0 (fun i x hx => by rw [hv i x hx, Nat.zero_add])
        rw [hm, if_neg hnew] at this
        unfold valV
        rw [← this]
        congr 2
        funext x
        exact decide_eq_decide.mpr ⟨fun z => by rw [z], fun z => KS.inl.inj z⟩
      refine ⟨_, .inl ⟨kvs, b, e, hk, hval, by rw [← hlen]; exact hl, rfl⟩, .inl ⟨rfl, kvs ++ [(b, .int ((dis ks).length : Nat))], upd_same, ?_, fun i y hy => ?_⟩⟩
      · rw [dis_snoc, if_neg hnew, List.map_append, hm]
        rfl
      · by_cases hi : i < kvs.length
        · rw [List.getElem?_append_left hi] at hy
          exact hv i y hy
        · rw [List.getElem?_append_right (Nat.le_of_not_lt hi)] at hy
          have h9 := num_at hi (List.getElem?_eq_some_iff.mp hy).1
          rw [h9, Nat.sub_self] at hy
          cases hy
          show V.int ((dis ks).length : Nat) = _
          rw [hlen, h9]
  · cases k with
    | inl k => cases hn
    | inr b =>
      have hlen : (dis ks).length = kvs.length := by rw [← hm, List.length_map]
      obtain ⟨p, e1, e2⟩ := hk
      have hval : valH kvs b = none := by
        have := find_num (fun x : NK × Addr × V => (KS.inr x.1 : KS)) (·.2.2) (KS.inr b) kvs 0 (fun i x hx => by rw [hv i x hx, Nat.zero_add])
        rw [hm, if_neg hnew] at this
        unfold valH
        rw [← this]
        congr 2
        funext x
        exact decide_eq_decide.mpr ⟨fun z => by rw [z], fun z => KS.inr.inj z⟩
      have keep := h0.tups (H' := upd H d (hdO (nestD P w) d (kvs ++ [(b, p, .int ((dis ks).length : Nat))]))) rfl
      refine ⟨_, .inr (.inl ⟨kvs, b, p, e, hN, e1, e2, hval, by rw [← hlen]; exact hl, rfl⟩), .inr ⟨rfl, kvs ++ [(b, p, .int ((dis ks).length : Nat))], upd_same, fun y hy => ?_, ?_, fun i y hy => ?_⟩⟩
      · rcases List.mem_append.mp hy with hy | hy
        · exact nin_stay keep (hN y hy)
        · rw [List.mem_singleton.mp hy]
          exact nin_stay keep e2
      · rw [dis_snoc, if_neg hnew, List.map_append, hm]
        rfl
      · by_cases hi : i < kvs.length
        · rw [List.getElem?_append_left hi] at hy
          exact hv i y hy
        · rw [List.getElem?_append_right (Nat.le_of_not_lt hi)] at hy
          have h9 := num_at hi (List.getElem?_eq_some_iff.mp hy).1
          rw [h9, Nat.sub_self] at hy
          cases hy
          show V.int ((dis ks).length : Nat) = _
          rw [hlen, h9]
theorem NumAt.new (P : Program) (w : World) (H : Hp) (p : Addr) (nest : Bool) : NumAt P w (upd H p (newO P w p (if nest = true then .nest else .bl))) p nest [] := by
  cases nest with
  | false => exact .inl ⟨rfl, [], upd_same, rfl, fun i x h => by simp at h⟩
  | true => exact .inr ⟨rfl, [], upd_same, fun x h => by simp at h, rfl, fun i x h => by simp at h⟩
end
theorem numF_inl (bs : List Bool) : numF (bs.map fun b => (KS.inl b : KS)) = numF bs := numF_canon (by rw [List.length_map]) fun i j a b a' b' h1 h2 h3 h4 => by
  rw [List.getElem?_map, h3] at h1
  rw [List.getElem?_map, h4] at h2
  cases h1
  cases h2
  exact ⟨fun z => KS.inl.inj z, fun z => by rw [z]⟩
theorem numF_inr (bs : List NK) : numF (bs.map fun b => (KS.inr b : KS)) = numF bs := numF_canon (by rw [List.length_map]) fun i j a b a' b' h1 h2 h3 h4 => by
  rw [List.getElem?_map, h3] at h1
  rw [List.getElem?_map, h4] at h2
  cases h1
  cases h2
  exact ⟨fun z => KS.inr.inj z, fun z => by rw [z]⟩
end RA

namespace L2
open PySem PySem.Spec PyProof.Rows
section
variable {X : Cx} {elt iter : Expr} {x : Str} {px pos : Pos} {ifs : List Expr} {sc : Scope} {wi : TI} {tt : TT} {te : TE}
theorem ps_setCompS (N2 : List Str) {j : Nat} {y : Str} {py spos : Pos} (hc : X.calm = true) (hN : X.N.Nodup) (hN2 : (x :: N2).Nodup) (hj : X.N[j]? = some y) (hyl : Loc X.env.scope y) (hi : PI X (.Name x px) iter wi)
    (hb : ∀ (cl : List (Str × Addr)) (C : Addr) (fp : List Addr) (s : Shared) (H : Hp), PTs { cxComp X x sc cl C fp s H with N := x :: N2 } ifs tt ∧ PE { cxComp X x sc cl C fp s H with N := x :: N2 } elt te)
    (hx : sc.names.lookup x = some .local := by rfl) (hkind : sc.kind = .function := by rfl)
    (hnames : ∀ y ∈ sc.names, y.2 = .local → sc.names.lookup y.1 = some .local := by decide +kernel) (hcell : ∀ y ∈ sc.names, y.2 ≠ .cell := by decide +kernel)
    (hfree : (sc.names.all fun y => y.2 != .free || X.env.scope.names.lookup y.1 == some .cell) = true := by rfl)
    (hlo : (N2.all fun y => sc.names.lookup y != some .local) = true := by rfl) (hl2 : N2.length = X.N.length := by rfl) (hz2 : ((N2.zip X.N).all fun y => y.1 == y.2 || sc.names.lookup y.1 == none) = true := by rfl)
    (hs : ∀ x, foldedSetIterable iter X.env x = pure x := by intro _; rfl) (hsw : swapsWith (.ListComp elt [⟨.Name x px, iter, ifs, 0⟩] sc pos) (some (.Name y py)) spos.line X.env = pure true := by rfl)
    (hfy : X.fn y = true ∨ X.env.scope.names.lookup y = some .local := by first | exact .inl rfl | exact .inr rfl) :
    PS X (.Assign [.Name y py] (.ListComp elt [⟨.Name x px, iter, ifs, 0⟩] sc pos) spos) (tAsg (tComp wi tt te) (gName j)) := by
  intro pins s σ H DD I h
  have hfr : ∀ y ∈ sc.names, y.2 = .free → X.env.kindOf y.1 = some .cell := fun y hy e => by
    have q := List.all_eq_true.mp hfree y hy
    rw [e] at q
    simpa [Env.kindOf] using q
  have hlo' : ∀ y ∈ N2, sc.names.lookup y ≠ some .local := fun y hy e => by
    have q := List.all_eq_true.mp hlo y hy
    rw [e] at q
    simp at q
  obtain ⟨cl, hclos, hsub, hhas⟩ := closure_of (env := X.env) (sc := sc) fun y hy e => I.ok.has y.1 (.inl (hfr y hy e))
  refine comp_used hsw fun _ => wpAny_comprehension_free (Q := fun _ s' => SP X pins DD .next s') rfl hs hclos hkind hnames (thn (hi pins s σ H _ I h) fun v s1 h1 => thn h1 fun itv s2 h2 => ?_)
  obtain ⟨it, fp, tn, J, H2, e, I2, T, st2, f2, hW⟩ := h2
  subst e
  -- the accumulator, then the block's frame
  have nobinds : ∀ y ∈ ([] : List (Str × Value)), sc.names.lookup y.1 = some .local := fun y hy => absurd hy (by simp)
  refine wpAny_newObj_type ?_
  refine wpAny_newFunctionEnv hcell nobinds (fun h₁ hns₁ hsb₁ => ?_) hkind
  dsimp only at hns₁ hsb₁ ⊢
  generalize hHa : s2.heap.push { cls := .type "list", dict := none, data := .seq ([] : List Value).toArray } = Ha at hns₁ hsb₁ ⊢
  have hC : Ha.objs.size = s2.heap.objs.size + 1 := by rw [← hHa, Heap.size_push]
  have hDC : s2.heap.objs.size ≠ Ha.objs.size := by rw [hC]; exact Nat.ne_of_lt (Nat.lt_succ_self _)
  have hCle : s2.heap.objs.size ≤ Ha.objs.size := by rw [hC]; exact Nat.le_succ _
  have neC : ∀ b o, s2.heap.get? b = some o → b ≠ Ha.objs.size := fun b o e => Nat.ne_of_lt (Nat.lt_of_lt_of_le (Heap.lt_size e) hCle)
  have old : ∀ b o, s2.heap.get? b = some o → h₁.get? b = some o := fun b o e => hsb₁.extBut b o (neC b o e) (Heap.get?_push_of_some _ (hHa ▸ Heap.get?_push_of_some _ e))
  have hacc : h₁.get? s2.heap.objs.size = some { cls := .type "list", dict := none, data := .seq ([] : List Value).toArray } := hsb₁.extBut _ _ hDC (Heap.get?_push_of_some _ (hHa ▸ Heap.get?_push_size _ rfl))
  generalize hDe : s2.heap.objs.size = D at *
  generalize hCe : Ha.objs.size = C at *
  have hHD : H2 D = none := I2.hok.fresh (Nat.le_of_eq hDe)
  have hHC : H2 C = none := I2.hok.fresh (by omega)
  obtain ⟨W, ⟨m0, w0⟩, turn⟩ := hW D hHD
  have fplt : ∀ b ∈ fp, b < D := fun b hb => by
    obtain ⟨o, e, _⟩ := T.obj _ _ st2 b hb
    rw [← hDe]
    exact Heap.lt_size e
  -- the block's context
  let X' : Cx := { cxComp X x sc cl C fp s2 H2 with N := x :: N2 }
  have nofs : ∀ b ∈ fp, b ∉ frs X.stack := fun b hb z => by
    rcases List.mem_cons.mp (I2.stkSub b z) with e | e
    · exact (f2 b hb).2.1 e
    · exact (f2 b hb).2.2.1 e
  have ok' : X'.Ok := by
    refine ⟨I2.ok.mod, hkind, I2.ok.glob, I2.ok.blt, ?_, fun y z c e1 e2 => I2.ok.inj y z c (hsub y c e1) (hsub z c e2), fun y hy => ?_, fun y c e => absurd (show false = true from e) Bool.false_ne_true, I2.ok.hd, I2.ok.frames, .inl rfl, fun b hb => ⟨?_, fun y c e => ?_⟩, I2.bs,
      Nat.le_trans I2.ok.bsz I2.sz, fun b o e hb => ?_, nofs, I2.stack, I2.stkFree⟩
    · show s2.heap.objs.size ≤ C
      omega
    · rcases hy with hy | hy
      · rcases relabel_lookup (show (relabel sc X.env).names.lookup y = some .cell from hy) with e | ⟨_, e, _⟩
        · exact absurd rfl (hcell _ (PySem.mem_of_lookup e))
        · exact hhas _ (PySem.mem_of_lookup e) rfl
      · rcases relabel_lookup (show (relabel sc X.env).names.lookup y = some .free from hy) with e | ⟨e, _⟩
        · exact hhas _ (PySem.mem_of_lookup e) rfl
        · cases e
    · exact Nat.ne_of_lt (Nat.lt_of_lt_of_le (fplt b hb) (by omega : D ≤ C))
    · exact (f2 b hb).2.2.2.2.1 y c (hsub y c e)
    · rcases (f2 b hb).2.2.2.1 with z | z
      · exact I2.ok.noex b o e z
      · exact absurd (Nat.lt_of_lt_of_le (Nat.lt_of_lt_of_le (Heap.lt_size e) I2.ok.bsz) z) (Nat.lt_irrefl _)
  have I4 : ∀ tk, Inv X' [] (none :: σ) (upd H2 D (.lst [])) { s2 with heap := h₁, toks := tk } := fun tk => by
    refine ⟨ok', rfl, I2.bare, Un.laid old (Nat.le_of_eq hDe) hHD, ⟨_, hns₁, fun i y v e1 e2 e3 => ?_⟩, fun y c e => ?_, ?_, fun y c e => ?_, fun p hp => ?_, I2.hok.laid old (Nat.le_of_eq hDe) ?_, ?_⟩
    · cases i with
      | zero => simp at e2
      | succ i =>
        have e0 : N2[i]? = some y := by simpa [X', cxComp] using e1
        have e2 : σ[i]? = some (some v) := by simpa using e2
        have e3 : Vis (relabel sc X.env) y := e3
        have hyN : y ∈ N2 := List.mem_of_getElem? e0
        have free : sc.names.lookup y = some .free ∧ (relabel sc X.env).names.lookup y ≠ some .local := by
          rcases e3 with e | e | e
          · rcases relabel_lookup e with q | ⟨q, _⟩
            · exact absurd q (hlo' y hyN)
            · cases q
          · rcases relabel_lookup e with q | ⟨_, q, _⟩
            · exact absurd rfl (hcell _ (PySem.mem_of_lookup q))
            · exact ⟨q, by rw [e]; decide⟩
          · rcases relabel_lookup e with q | ⟨q, _⟩
            · exact ⟨q, by rw [e]; decide⟩
            · cases q
        have e1 : X.N[i]? = some y := by
          have hi : i < N2.length := (List.getElem?_eq_some_iff.mp e0).1
          have hi2 : i < X.N.length := by omega
          have hm : (y, X.N[i]) ∈ N2.zip X.N := by
            have hz : (N2.zip X.N)[i]? = some (y, X.N[i]) := by
              rw [List.getElem?_zip_eq_some]
              exact ⟨e0, List.getElem?_eq_getElem hi2⟩
            exact List.mem_of_getElem? hz
          have q := List.all_eq_true.mp hz2 _ hm
          rcases Bool.or_eq_true_iff.mp q with q | q
          · have : y = X.N[i] := eq_of_beq q
            rw [List.getElem?_eq_getElem hi2, ← this]
          · have q2 : sc.names.lookup y = none := by simpa using q
            rw [free.1] at q2
            cases q2
        have kc : X.env.kindOf y = some .cell := hfr _ (PySem.mem_of_lookup free.1) rfl
        obtain ⟨m, hn, hl⟩ := I2.loc
        obtain ⟨u, ru, lk⟩ := hl i y v e1 e2 (.inr (.inl kc))
        rcases lk with ⟨q, _⟩ | ⟨_, c, hcc, ⟨o, ho, hd⟩⟩
        · rw [kc] at q; cases q
        · obtain ⟨c', hc'⟩ := hhas _ (PySem.mem_of_lookup free.1) rfl
          have e4 := hsub _ _ hc'
          rw [hcc] at e4
          cases e4
          refine ⟨u, ru, .inr ⟨?_, c, hc', ⟨o, old c o ho, hd⟩⟩⟩
          rcases e3 with e | e | e
          · exact absurd e free.2
          · exact .inl e
          · exact .inr e
    · obtain ⟨v, o, ho, hd⟩ := I2.cell y c (hsub y c e)
      exact ⟨v, o, old c o ho, hd⟩
    · show upd H2 D (.lst []) C = none
      rw [upd_ne (neA (by omega))]
      exact hHC
    · obtain ⟨v, o, ho, hd⟩ := I2.cell y c (hsub y c e)
      have hlt := Heap.lt_size ho
      rw [hDe] at hlt
      show upd H2 D (.lst []) c = none
      rw [upd_ne (Nat.ne_of_lt hlt)]
      exact I2.freeC y c (hsub y c e)
    · exact absurd (show p ∈ ([] : List (Addr × Obj)) from hp) (by simp)
    · exact ⟨Nat.zero_le _, [], 0, .nil, hacc⟩
    · show (none :: σ).length = (x :: N2).length
      rw [List.length_cons, List.length_cons, I2.len, hl2]
  have hN' : X'.N.Nodup := hN2
  have hx' : X'.env.scope.names.lookup x = some .local := lookup_relabel_local hx
  obtain ⟨PT', PE'⟩ := hb cl C fp s2 H2
  have fpX : ∀ {pins' : List (Addr × Obj)} {H' : Hp}, (∀ b ∈ fp, H' b = none) → (∀ p ∈ pins', p.1 ∉ fp) → ∀ b ∈ fp, FpOk X' pins' H' b := fun hn hp b hb => by
    refine ⟨hn b hb, ?_, nofs b hb, .inl hb, fun y c e => (f2 b hb).2.2.2.2.1 y c (hsub y c e), fun p q z => ?_⟩
    · exact Nat.ne_of_lt (Nat.lt_of_lt_of_le (fplt b hb) (by omega : D ≤ C))
    · rcases List.mem_append.mp q with q | q
      · exact absurd (show p ∈ ([] : List (Addr × Obj)) from q) (by simp)
      · exact hp p q (by rw [z]; exact hb)
  have loop : ∀ tk, codeAny (model X.prog X.w) X.A (.compLoop (.ListComp elt [⟨.Name x px, iter, ifs, 0⟩] sc pos) 0 (.ref it) (.ref D) (compEnvC sc cl C X.env)) (compPost (model X.prog X.w) X.A X.xe (some (assign (.Name y py) X.env)) (fun _ s' => SP X pins DD .next s') (.ref D) C) { s2 with heap := h₁, toks := tk } := fun tk => by
    refine codeAny_compLoop_tests (fun n s' => ∃ i ys o H', Inv X' [] (o :: σ) H' s' ∧ tn i s'.heap ∧ (∀ b ∈ fp, H' b = none) ∧ W i n ys H') ?_ m0 ⟨0, [], none, _, I4 tk, T.keep _ _ _ st2 fun b hb o e => old b o e, fun b hb => ?_, w0⟩
    · rintro n s3 ⟨i, ys, o3, H3, I3, st3, fr3, w3⟩
      obtain ⟨hD3, alt⟩ := turn i n ys H3 w3
      rcases alt with ⟨stop, qn⟩ | ⟨go, hlen, step⟩
      · refine wpAny_mono (T.done X' rfl rfl rfl hc i [] s3 _ H3 (fun _ _ => False) I3 (fpX fr3 (by simp)) st3 stop) (fun r s4 hpq => ?_) fun _ _ f => f.elim
        obtain ⟨hr, I4'⟩ := hpq
        subst hr
        obtain ⟨mC, hnC, _⟩ := I4'.loc
        have nC : ∀ b u, H3 b = some u → b ≠ C := fun b u e z => by rw [z] at e; rw [show H3 C = none from I4'.free] at e; cases e
        have un : Un (frs X.stack) fp H2 H3 s2.heap s4.heap :=
          ⟨fun b o e n1 n2 n3 => I4'.base.keep b o e n1 n2 n3, fun b o e n1 n2 n3 => I4'.base.slot b o e n1 n2 n3, I4'.base.free, fun b o e n1 => I4'.base.there b o e n1, I4'.base.tups, I4'.base.frzs, I4'.base.tbls⟩
        have I5 : Inv X pins σ H3 s4 := I2.call' (s' := s4) I4'.os un I4'.hok I4'.bare fun b hb => ⟨(f2 b hb).2.2.2.1, (f2 b hb).2.1, (f2 b hb).2.2.2.2.1, (f2 b hb).2.2.2.2.2⟩
        obtain ⟨oC, epC, esC, hoC, _⟩ := id hnC
        have liveL : ∃ o, s2.heap.get? X.env.locals = some o := by obtain ⟨m, ⟨o, es, ep, z, _⟩, _⟩ := I2.loc; exact ⟨o, z⟩
        have neL : X.env.locals ≠ C := by obtain ⟨o, z⟩ := liveL; exact neC _ o z
        have neCell : ∀ y c, X.env.cells.lookup y = some c → c ≠ C := fun y c e => by obtain ⟨v, o, r, _⟩ := I2.cell y c e; exact neC c o r
        dsimp only [compPost]
        refine wpAny_assign_Name (store_ok2 I5 hN hj hyl (v := .ref D) rfl (fun s6 I6 hpq => ?_) hfy)
        obtain ⟨a, sb, ha⟩ := hpq
        have haC : C ≠ a := by
          rcases ha with z | z
          · rw [z]; exact Ne.symm neL
          · exact Ne.symm (neCell _ _ z)
        have hoC6 : s6.heap.get? C = some oC := (sb.2 C haC).trans hoC
        refine ⟨mC, hnC.sameBut sb haC, fun h'' hs'' => ?_⟩
        have hlt : C < h''.objs.size := by rw [hs''.1]; exact Heap.lt_size hoC6
        have hok'' : HOk X.prog X.w H3 h'' := fun b u e => (I6.hok b u e).stay (fun c v hcc q => hs''.extBut c v (by
          rcases hcc with z | z
          · rw [z]; exact nC b u e
          · exact nC c _ z) q) (fun _ q => q) fun _ _ q => q
        have un2 : Un (frs X.stack) [C] H3 H3 s6.heap h'' :=
          ⟨fun b o e n1 n2 n3 => hs''.extBut b o (fun z => n3 (by simp [z])) e, fun b o e n1 n2 n3 => ⟨o.slots, hs''.extBut b o (fun z => n3 (by simp [z])) e⟩, fun b o e n1 _ => n1, fun b o e n1 => ⟨o, hs''.extBut b o (fun z => n1 (by simp [z])) e⟩, fun _ _ q => q, fun _ _ _ q => q, fun b ps q => ⟨#[], by rw [Array.append_empty]; exact q⟩⟩
        refine ⟨_, H3, I6.call' (s' := { s6 with heap := h'' }) rfl un2 hok'' I6.bare (fun b hb => ?_), qn⟩
        have eb : b = C := by simpa using hb
        subst eb
        refine ⟨.inr (Nat.le_trans I2.sz (by omega)), Ne.symm neL, neCell, fun p hp z => ?_⟩
        obtain ⟨z1, _⟩ := I2.pin p hp
        exact neC p.1 p.2 z1 z
      · refine wpAny_mono (T.item X' rfl rfl rfl hc i [] s3 _ H3 (fun _ _ => False) I3 (fpX fr3 (by simp)) st3 go) (fun r s4 hpq => ?_) fun _ _ f => f.elim
        obtain ⟨u, hr, h4⟩ := hpq
        subst hr
        have eg : (letOwnedTupleGo (.Name x px) (.ref it) u >>= fun _ => assign (.Name x px) (compEnvC sc cl C X.env) u) = assign (.Name x px) (compEnvC sc cl C X.env) u := pure_bind () _
        show wpAny _ _ (assign (.Name x px) (compEnvC sc cl C X.env) u) _ _ s4
        rw [← eg]
        refine wpAny_bind (wpAny_mono h4 (fun _ s5 hpq => ?_) fun _ _ f => f.elim)
        obtain ⟨y, H5, I5, r5, y5, st5, fr5⟩ := hpq
        have I5' := I5.pinned (fpX fr5 (by simp)) (T.obj _ _ st5)
        refine wpAny_mono (pg_name (X := X') (i := 0) (pos := px) hN' rfl (.inl hx') (.inr hx') _ s5 _ H5 y u (fun σ' H' => σ' = some y :: σ ∧ H' = H5) I5' r5 ⟨rfl, rfl⟩) (fun _ s6 hpq => ?_) fun _ _ f => f.elim
        obtain ⟨σ6, H6, I6, e1, e2⟩ := hpq
        subst e1 e2
        refine wpAny_mono (PT' _ s6 _ _ _ I6 (step y _ y5)) (fun ok s7 hpq => ?_) fun _ _ f => f.elim
        obtain ⟨H7, I7, q7⟩ := hpq
        have again : ∀ {s8 : Shared} {H8 : Hp} {ys' : List V}, Inv X' ([] ++ pinsAt fp s5.heap) (some y :: σ) H8 s8 → (∃ m', m' < n ∧ W (i + 1) m' ys' H8) → ∃ m, m < n ∧ ∃ i ys o H', Inv X' [] (o :: σ) H' s8 ∧ tn i s8.heap ∧ (∀ b ∈ fp, H' b = none) ∧ W i m ys H' := fun {s8 H8 ys'} I8 ⟨m', hm, w8⟩ => by
          refine ⟨m', hm, i + 1, ys', some y, H8, I8.unpinned, T.keep _ _ _ st5 fun b hb o e => (I8.pin (b, o) (List.mem_append_right _ (List.mem_append_right _ (mem_pinsAt hb e)))).1, fun b hb => ?_, w8⟩
          obtain ⟨o, e, d⟩ := T.obj _ _ st5 b hb
          exact (I8.pin (b, o) (List.mem_append_right _ (List.mem_append_right _ (mem_pinsAt hb e)))).2.1
        cases ok with
        | false => exact again I7 q7
        | true =>
          have q7 : te (some y :: σ) H7 _ := q7
          refine wpAny_mono (PE' _ s7 _ _ _ I7 q7) (fun z s8 hpq => ?_) fun _ _ f => f.elim
          obtain ⟨yv, H8, I8, r8, hD8, q8⟩ := hpq
          refine wpAny_mono (mt_append (X := X') _ s8 _ H8 (.ref D) [yv] (.ref D) [z] (fun _ H9 => H9 = upd H8 D (.lst (ys ++ [yv]))) I8 rfl (.cons r8 .nil) ⟨D, ys, yv, rfl, rfl, hD8, hlen, rfl⟩) (fun _ s9 hpq => ?_) fun _ _ f => f.elim
          obtain ⟨_, H9, I9, _, e9⟩ := hpq
          subst e9
          exact again I9 q8
    · show upd H2 D (.lst []) b = none
      rw [upd_ne (Nat.ne_of_lt (fplt b hb))]
      exact (f2 b hb).1
  exact codeAny_compStart_list (loop _) (T.self _ _ _ _ _ (T.keep _ _ _ st2 fun b hb o e => old b o e) (loop _))
end
end L2

namespace L2
open PySem PySem.Spec PyProof.Rows
theorem ix_listK {X : Cx} (K : PySem.W.Frag) (hK : X.K = K := by rfl) : IxR X (rIxL K) := by
  subst hK
  exact ix_list
theorem ix_dictGK {X : Cx} (P : Program) (w : World) (hu : X.A.units + 64 < cLine) (hP : X.prog = P := by rfl) (hw : X.w = w := by rfl) : IxR X (rIxG P w) := by
  subst hP hw
  exact ix_dictG hu
theorem walk63z {l : PySem.W.OpenLaw} {k : Nat} {x : Str} {q : Program} {loose : List Str} {XP : (Str → Option Value) → Heap → Prop} {d : DefRec} {K : Params → PySem.W.Frag} (hn : l.most = some 63) (hdf : d.params.defaults = []) (hr : Room k callerA)
    (F : ∀ (w : World) (mg : Str → Option Value) (fa : Addr) (h : Heap), (K w.params).In h → h.Ns mainGlobals mg → mg d.name = some (.ref fa) →
      ∃ fd : FuncData, (∀ (s : Shared) (u : Value), BindsTo s fd ⟨[u], []⟩ [(x, u)]) ∧ ∀ base : Heap, (K w.params).In base → base.Ns mainGlobals mg → FnOk l.prog w (K w.params) mg base CX0 k fa fd [x] (spLaw (K w.params))) :
    PySem.W.WalkO q loose XP (fun w h => (K w.params).In h) l.row.toRowW d [] (fun f vs => PySem.call f vs) := walk63 hn hdf hr (fun _ _ Y => Y) F
end L2
namespace RA
open PySem L2
theorem ar_len {a b x : Nat} (h : a = b) (hx : x < b) : x < a := Nat.lt_of_lt_of_eq hx h.symm
theorem ar_lt {i j : Nat} (h : i < j + 1) (n : ¬ i = j) : i < j := Nat.lt_of_le_of_ne (Nat.le_of_lt_succ h) n
theorem ar_rng {n : Nat} (h : n ≤ 1000) : -(2 ^ 62) ≤ (n : Int) ∧ (n : Int) < 2 ^ 62 := by omega
theorem ar_toNat {r : Int} {n : Nat} (h0 : 0 ≤ r) (h1 : r < n) : r.toNat < n := (Int.toNat_lt h0).mpr h1
theorem ar_at {j n : Nat} (h : ¬ j < n) (h2 : j - n < 1) : j = n := by omega
theorem ar_64 {n : Int} (h0 : 0 ≤ n) (h1 : n < 2147483647) : -(2 ^ 64) < n ∧ n < 2 ^ 64 := by omega
theorem ar_pos (i : Nat) : (0 : Int) < 1 + (i : Int) := by omega
theorem ar_pos1 {n : Nat} (h : 1 ≤ n) : (0 : Int) < (n : Int) := Int.ofNat_lt.mpr h
theorem ar_pos2 (i : Nat) : (0 : Int) < 0 + (i : Int) + 1 := by omega
theorem ar_long {g : Int} {i n : Nat} (h : g < 0 + (i : Int) + 1) (hi : i < n) : g.toNat < n := by omega
theorem ar_lt2 {i n : Nat} (h : 0 + (i : Int) + 1 < (n : Int)) : i + 1 < n := by omega
theorem ar_fd {n : Nat} (h1 : 1 ≤ n) (h : n ≤ 60) : (0 : Int) < (n : Int) ∧ (n : Int) < 1073741824 := by omega
theorem ar_few {u a q : Nat} (hq : q ≤ 60 * 60) (hf : u + a ≤ q + 1) : a < sizeLine := by
  have : 4000 ≤ sizeLine := line_ge (by decide)
  omega
theorem ar_ms {u1 u2 a e n : Nat} (h : u2 + (a + e) ≤ u1 + a) (hn : n < a) : u2 + (a + e - (n + 1)) < u1 + (a - n) := by omega
theorem ar_k {k : Nat} (h : k ≤ 3600) : k + 1 < sizeLine := by
  have : 4000 ≤ sizeLine := line_ge (by decide)
  omega
theorem ar_room (z : Int) (b m : Nat) (hm : 0 < m) : ∃ n : Nat, (n : Int) = (b : Int) + z % (m : Int) ∧ b ≤ n ∧ n < b + m := by
  have h0 := Int.emod_nonneg z (show (m : Int) ≠ 0 by omega)
  have h1 := Int.emod_lt_of_pos z (show (0 : Int) < (m : Int) by omega)
  exact ⟨b + (z % (m : Int)).toNat, by omega, by omega, by omega⟩
theorem ar_iW {i n : Nat} (h : i < ((n : Int) - 1).toNat) : 1 + (i : Int) < (n : Int) := by omega
theorem ar_p {p : Int} (h : 0 ≤ p) (i : Nat) : 0 ≤ p + (0 + (i : Int)) := by omega
theorem ar_l26 {l i : Nat} (h : l + i = 26) (hi : i ≤ 3) : 1 ≤ l ∧ l ≤ 26 := by omega
theorem ar_26 {n : Nat} (h : n ≤ 26) : (n : Int) < 1073741824 := by omega
theorem ar_sum {a b n : Nat} (h1 : a ≤ n) (h2 : b ≤ n) (hn : n ≤ 26) : a + b ≤ 16777216 := by omega
theorem ar_succ {x : Int} (h : 0 ≤ x) : (x + 1).toNat = x.toNat + 1 := by omega
theorem ar_draw {k l i : Nat} (h : k < l) (hl : l + i = 26) : min k l + (l - (k + 1)) + (i + 1) = 26 := by omega
theorem intsV_zs (ws : List Nat) : intsV ws = (zs ws).map V.int := by
  unfold intsV zs
  rw [List.map_map]
  rfl
theorem zs_len (ws : List Nat) : (zs ws).length = ws.length := by simp [zs]
theorem intsV_len (ws : List Nat) : (intsV ws).length = ws.length := by simp [intsV]
theorem intsV_get {ws : List Nat} {i : Nat} (h : i < ws.length) : (intsV ws)[i]? = some (.int ((ws.getD i 0 : Nat) : Int)) := by
  unfold intsV
  rw [List.getElem?_map, List.getD_eq_getElem?_getD, List.getElem?_eq_getElem h]
  rfl
theorem atI_ints {ns : List Nat} {r : Nat} (h : r < ns.length) : atI (intsV ns) (r : Int) = some (.int ((ns.getD r 0 : Nat) : Int)) := atI_nat (intsV_get h)
theorem take_snoc {α : Type} {l : List α} {i : Nat} {x : α} (h : l[i]? = some x) : l.take (i + 1) = l.take i ++ [x] := by
  rw [List.take_add_one, h]
  rfl
theorem dec_nat {a b : Nat} : decide (V.int (a : Int) = V.int (b : Int)) = decide (a = b) := by
  by_cases h : a = b
  · subst h
    simp
  · have : ¬ V.int (a : Int) = V.int (b : Int) := fun z => h (by injection z with z; exact Int.ofNat.inj z)
    rw [decide_eq_false h, decide_eq_false this]
def oV : Option (List Nat) → V
  | none => .non
  | some w => .str (tx w)
def LotsAt (H : Hp) (lots : List Addr) (W : List (List Nat)) (B : List Bool) : Prop := ∀ (i : Nat) (r : Addr), lots[i]? = some r → H r = some (.lst (intsV (Rd W B i)))
theorem LotsAt.same {H H' : Hp} {lots : List Addr} {W : List (List Nat)} {B : List Bool} (h : LotsAt H lots W B) (s : Same H H') : LotsAt H' lots W B := fun i r e => s _ _ (h i r e)
/-- a row of a machine -/
theorem MachAt.row {H : Hp} {rows : List Addr} {W : List (List Nat)} (hl : rows.length = W.length) (h : RowsAt H rows W) {r : Nat} (hr : r < W.length) : ∃ ra, rows[r]? = some ra ∧ H ra = some (.tup (intsV (W.getD r []))) := by
  have e : rows[r]? = some (rows[r]'(by omega)) := List.getElem?_eq_getElem _
  obtain ⟨ws, h1, h2⟩ := h r _ e
  refine ⟨_, e, ?_⟩
  rw [h2, List.getD_eq_getElem?_getD, h1]
  rfl
theorem same_none {H H' : Hp} {p : Addr} (s : Same H H') (h : H' p = none) : H p = none := by
  cases e : H p with
  | none => rfl
  | some o => rw [s _ _ e] at h; cases h
/-- a comprehension over a range -/
theorem comp_range {lo : Int} {n : Nat} {tt : TT} {te : TE} {σ : St} {H : Hp} {Q : VK} (Pv : Addr → Nat → List V → Hp → Prop) (hz : n ≤ sizeLine)
    (h0 : ∀ D, H D = none → Pv D 0 [] (L2.upd H D (.lst [])))
    (hs : ∀ (D : Addr) (i : Nat) (ys : List V) (H' : Hp) (R1 : VK) (R2 : Hp → Prop), H D = none → i < n → Same H H' → H' D = some (.lst ys) → Pv D i ys H' →
      (∀ y H5, H5 D = some (.lst ys) → Same H (L2.upd H5 D (.lst (ys ++ [y]))) → Pv D (i + 1) (ys ++ [y]) (L2.upd H5 D (.lst (ys ++ [y]))) → R1 y H5) → (∀ H4, Same H H4 → H4 D = some (.lst ys) → Pv D (i + 1) ys H4 → R2 H4) →
      tt (some (.int (lo + (i : Int))) :: σ) H' fun b H4 => if b = true then te (some (.int (lo + (i : Int))) :: σ) H4 R1 else R2 H4)
    (hq : ∀ D ys H', H D = none → Same H H' → H' D = some (.lst ys) → Pv D n ys H' → Q (.ref D) H') : ∀ D, H D = none → ∃ W : Nat → Nat → List V → Hp → Prop,
  (∃ m, W 0 m [] (L2.upd H D (.lst []))) ∧ ∀ i m ys H2, W i m ys H2 → H2 D = some (.lst ys) ∧ (((Itr lo n).stop i H2 ∧ Q (.ref D) H2) ∨ ((Itr lo n).go i H2 ∧ ys.length < sizeLine ∧ ∀ x H3, (Itr lo n).yld i H2 x H3 →
    tt (some x :: σ) H3 fun b H4 => if b = true then te (some x :: σ) H4 fun y H5 => H5 D = some (.lst ys) ∧ ∃ m', m' < m ∧ W (i + 1) m' (ys ++ [y]) (L2.upd H5 D (.lst (ys ++ [y])))
      else ∃ m', m' < m ∧ W (i + 1) m' ys H4)) := by
  intro D hD
  refine ⟨fun i m ys H2 => m = n - i ∧ i ≤ n ∧ ys.length ≤ i ∧ Same H H2 ∧ H2 D = some (.lst ys) ∧ Pv D i ys H2, ⟨n, by simp, Nat.zero_le _, by simp, Same.upd hD, upd_same, h0 D hD⟩, ?_⟩
  rintro i m ys H2 ⟨rfl, hi, hy, hsm, hDl, hp⟩
  refine ⟨hDl, ?_⟩
  by_cases hlt : i < n
  · refine .inr ⟨hlt, Nat.lt_of_le_of_lt hy (Nat.lt_of_lt_of_le hlt hz), fun x H3 hyl => ?_⟩
    obtain ⟨e, hx⟩ := hyl
    subst e hx
    exact hs D i ys H3 _ _ hD hlt hsm hDl hp (fun y H5 a b c => ⟨a, n - (i + 1), Nat.sub_succ_lt_self _ _ hlt, rfl, hlt, by rw [List.length_append]; exact Nat.succ_le_succ hy, b, upd_same, c⟩) (fun H4 a b c => ⟨n - (i + 1), Nat.sub_succ_lt_self _ _ hlt, rfl, hlt, Nat.le_succ_of_le hy, a, b, c⟩)
  · have e : i = n := Nat.le_antisymm hi (Nat.le_of_not_lt hlt)
    subst e
    exact .inl ⟨Nat.le_refl _, hq D ys H2 hD hsm hDl hp⟩
theorem atI_lastG {lots : List Addr} {k : Nat} {la : Addr} (hl : lots.length = k + 1) (h : lots[k]? = some la) : atI (lots.map V.ref) (-1) = some (.ref la) := by
  have e : lots = lots.take k ++ [la] := by rw [← take_snoc h, List.take_of_length_le (by omega)]
  rw [e, List.map_append]
  exact atI_last _ _
theorem map_getD {f : Nat → Nat} {ws : List Nat} {j : Nat} (h : j < ws.length) : (ws.map f).getD j 0 = f (ws.getD j 0) := by
  rw [List.getD_eq_getElem?_getD, List.getD_eq_getElem?_getD, List.getElem?_map, List.getElem?_eq_getElem h]
  rfl
theorem getD_in {ws : List Nat} {j : Nat} (h : j < ws.length) : ws.getD j 0 ∈ ws := by
  rw [List.getD_eq_getElem?_getD, List.getElem?_eq_getElem h]
  exact List.getElem_mem h
theorem lots_ne {H : Hp} {r p : Addr} {ns : List Nat} {ls : List Addr} (h1 : H r = some (.lst (intsV ns))) (h2 : H p = some (.lst (ls.map V.ref))) (h3 : ls ≠ []) : r ≠ p := by
  rintro rfl
  rw [h1] at h2
  injection h2 with h2
  injection h2 with h2
  cases ls with
  | nil => exact h3 rfl
  | cons a l =>
    cases ns with
    | nil => cases h2
    | cons n ns =>
      rw [List.map_cons, intsV, List.map_cons] at h2
      injection h2 with h4 _
      cases h4
def RInv (H : Hp) (wy mk p : Addr) (W : List (List Nat)) (B : List Bool) (m : Nat) (σ : St) (H' : Hp) : Prop := ∃ (k : Nat) (lots : List Addr) (s4 s5 : Option V), m = twins W.length (Rd W B k) ∧ σ = [some (.ref wy), some (.ref mk), some (.int ((W.length : Nat) : Int)), some (.ref p), s4, s5] ∧ Same H H' ∧ H' p = some (.lst (lots.map V.ref)) ∧ lots.length = k + 1 ∧ LotsAt H' lots W B ∧ ∀ i < k, Rd W B (i + 1) ≠ Rd W B i
section
variable {K : PySem.W.Frag} {te : TE} {tt : TT} {σ : St} {H : Hp} {Q : VK} {a c d : Addr} {o : HO} {xs zs : List V}
theorem comp_sq {tl : TE} (htl : ∀ R : VK, R (.ref a) H → tl σ H R) (ho : o = .lst xs ∨ o = .tup xs) (hH : H a = some o) (Pv : Addr → Nat → List V → Hp → Prop) (hz : xs.length ≤ sizeLine)
    (h0 : ∀ D, H D = none → Pv D 0 [] (L2.upd H D (.lst [])))
    (hs : ∀ (D : Addr) (i : Nat) (x : V) (ys : List V) (H' : Hp) (R1 : VK) (R2 : Hp → Prop), H D = none → xs[i]? = some x → Same H H' → H' D = some (.lst ys) → Pv D i ys H' →
      (∀ y H5, H5 D = some (.lst ys) → Same H (L2.upd H5 D (.lst (ys ++ [y]))) → Pv D (i + 1) (ys ++ [y]) (L2.upd H5 D (.lst (ys ++ [y]))) → R1 y H5) → (∀ H4, Same H H4 → H4 D = some (.lst ys) → Pv D (i + 1) ys H4 → R2 H4) →
      tt (some x :: σ) H' fun b H4 => if b = true then te (some x :: σ) H4 R1 else R2 H4)
    (hq : ∀ D ys H', H D = none → Same H H' → H' D = some (.lst ys) → Pv D xs.length ys H' → Q (.ref D) H') : tComp (iSq tl) tt te σ H Q :=
  htl _ ⟨a, o, xs, rfl, ho, hH, fun J ov => comp_over ov hH Pv hz h0 hs hq⟩
theorem comp_rngG {t : TA} {n : Nat} (ht : ∀ R : List V → Hp → Prop, R [.int (n : Int)] H → t σ H R) (hn : n ≤ 1000) (Pv : Addr → Nat → List V → Hp → Prop)
    (h0 : ∀ D, H D = none → Pv D 0 [] (L2.upd H D (.lst [])))
    (hs : ∀ (D : Addr) (i : Nat) (ys : List V) (H' : Hp) (R1 : VK) (R2 : Hp → Prop), H D = none → i < n → Same H H' → H' D = some (.lst ys) → Pv D i ys H' →
      (∀ y H5, H5 D = some (.lst ys) → Same H (L2.upd H5 D (.lst (ys ++ [y]))) → Pv D (i + 1) (ys ++ [y]) (L2.upd H5 D (.lst (ys ++ [y]))) → R1 y H5) → (∀ H4, Same H H4 → H4 D = some (.lst ys) → Pv D (i + 1) ys H4 → R2 H4) →
      tt (some (.int (0 + (i : Int))) :: σ) H' fun b H4 => if b = true then te (some (.int (0 + (i : Int))) :: σ) H4 R1 else R2 H4)
    (hq : ∀ D ys H', H D = none → Same H H' → H' D = some (.lst ys) → Pv D n ys H' → Q (.ref D) H') : tComp (iRng1 t) tt te σ H Q :=
  ht _ ⟨(n : Int), rfl, by omega, by omega, comp_range (n := n) Pv (line_ge (by omega)) h0 hs hq⟩
end
end RA

namespace RA
open PySem L2
/-! ## pairs of rooms, gone through together -/
def unseen (n : Nat) (ps : List (Nat × Nat)) : Nat := (List.range (n * n)).countP fun x => !decide ((x / n, x % n) ∈ ps)
theorem unseen_le (n : Nat) (ps : List (Nat × Nat)) : unseen n ps ≤ n * n := by
  have := List.countP_le_length (p := fun x => !decide ((x / n, x % n) ∈ ps)) (l := List.range (n * n))
  rw [List.length_range] at this
  exact this
theorem unseen_lt {n x y : Nat} {ps : List (Nat × Nat)} (hx : x < n) (hy : y < n) (hp : (x, y) ∉ ps) : unseen n (ps ++ [(x, y)]) < unseen n ps := by
  have d1 : (x * n + y) / n = x := by rw [Nat.mul_comm, Nat.mul_add_div (by omega), Nat.div_eq_of_lt hy]; omega
  have d2 : (x * n + y) % n = y := by rw [Nat.mul_comm, Nat.mul_add_mod, Nat.mod_eq_of_lt hy]
  refine countP_lt (fun z hz h => ?_) ⟨x * n + y, ?_, ?_, ?_⟩
  · simp only [Bool.not_eq_true', decide_eq_false_iff_not] at h ⊢
    exact fun q => h (List.mem_append_left _ q)
  · rw [List.mem_range]
    calc x * n + y < x * n + n := by omega
      _ = (x + 1) * n := by rw [Nat.succ_mul]
      _ ≤ n * n := Nat.mul_le_mul_right _ hx
  · simp only [d1, d2, Bool.not_eq_true', decide_eq_false_iff_not]
    exact hp
  · simp only [d1, d2, Bool.not_eq_false', decide_eq_true_eq]
    exact List.mem_append_right _ (List.mem_singleton.mpr rfl)
def kI (p : Nat × Nat) : List Int := [(p.1 : Int), (p.2 : Int)]
theorem kI_inj {p q : Nat × Nat} (h : kI p = kI q) : p = q := by
  obtain ⟨a, b⟩ := p
  obtain ⟨c, d⟩ := q
  unfold kI at h
  injection h with h1 h2
  injection h2 with h2 _
  have e1 : a = c := Int.ofNat.inj h1
  have e2 : b = d := Int.ofNat.inj h2
  rw [e1, e2]
theorem kI_mem {p : Nat × Nat} {ps : List (Nat × Nat)} : kI p ∈ ps.map kI ↔ p ∈ ps := by
  rw [List.mem_map]
  exact ⟨fun ⟨q, hq, e⟩ => by rw [← kI_inj e]; exact hq, fun h => ⟨p, h, rfl⟩⟩
theorem valH_isSome {κ : Type} [DecidableEq κ] (k : κ) : ∀ kvs : List (κ × Addr × V), (valH kvs k).isSome = decide (k ∈ kvs.map (·.1))
  | [] => rfl
  | a :: kvs => by
    have ih := valH_isSome k kvs
    by_cases e : a.1 = k
    · have h1 : valH (a :: kvs) k = some a.2.2 := by simp [valH, List.find?_cons, e]
      rw [h1, decide_eq_true (by rw [List.map_cons, e]; exact List.mem_cons_self)]
      rfl
    · have h1 : valH (a :: kvs) k = valH kvs k := by simp [valH, List.find?_cons, e]
      rw [h1, ih]
      refine decide_eq_decide.mpr ⟨fun z => by rw [List.map_cons]; exact List.mem_cons_of_mem _ z, fun z => ?_⟩
      rw [List.map_cons, List.mem_cons] at z
      exact z.resolve_left fun q => e q.symm
def PairsAt (P : Program) (w : World) (H : Hp) (d q : Addr) (ps : List (Nat × Nat)) : Prop := ∃ (kvs : List (List Int × Addr × V)) (ts : List Addr), H d = some (hdO (pairD P w) d kvs) ∧ (∀ x ∈ kvs, TIn H x.1 x.2.1) ∧ kvs.map (·.1) = ps.map kI ∧
  H q = some (.lst (ts.map V.ref)) ∧ ts.length = ps.length ∧ ∀ (i : Nat) (t : Addr) (p : Nat × Nat), ts[i]? = some t → ps[i]? = some p → TIn H (kI p) t
section
variable {P : Program} {w : World} {H : Hp} {d q : Addr} {ps : List (Nat × Nat)}
theorem PairsAt.mono {H' : Hp} (h : PairsAt P w H d q ps) (s : Same H H') : PairsAt P w H' d q ps := by
  obtain ⟨kvs, ts, h1, h2, h3, h4, h5, h6⟩ := h
  exact ⟨kvs, ts, s _ _ h1, fun x hx => s _ _ (h2 x hx), h3, s _ _ h4, h5, fun i t p e1 e2 => s _ _ (h6 i t p e1 e2)⟩
theorem PairsAt.get {t : Addr} {p : Nat × Nat} (h : PairsAt P w H d q ps) (ht : TIn H (kI p) t) : ∃ o, DGet P w H d (.ref t) o ∧ o.isSome = decide (p ∈ ps) := by
  obtain ⟨kvs, ts, h1, h2, h3, h4, h5, h6⟩ := h
  refine ⟨_, .inr (.inr ⟨kvs, kI p, t, h1, h2, rfl, ht, rfl⟩), ?_⟩
  rw [valH_isSome, h3]
  exact decide_eq_decide.mpr kI_mem
theorem PairsAt.at {i : Nat} {p : Nat × Nat} (h : PairsAt P w H d q ps) (hp : ps[i]? = some p) : ∃ ys t, H q = some (.lst ys) ∧ ys.length = ps.length ∧ atI ys (i : Int) = some (.ref t) ∧ H t = some (.tup [.int (p.1 : Int), .int (p.2 : Int)]) := by
  obtain ⟨kvs, ts, h1, h2, h3, h4, h5, h6⟩ := h
  have hi : i < ts.length := by have := (List.getElem?_eq_some_iff.mp hp).1; omega
  exact ⟨_, ts[i], h4, by rw [List.length_map]; exact h5, atI_map V.ref (List.getElem?_eq_getElem hi), h6 i _ p (List.getElem?_eq_getElem hi) hp⟩
theorem PairsAt.row (h : PairsAt P w H d q ps) : ∃ ys, H q = some (.lst ys) ∧ ys.length = ps.length := by
  obtain ⟨kvs, ts, h1, h2, h3, h4, h5, h6⟩ := h
  exact ⟨_, h4, by rw [List.length_map]; exact h5⟩
theorem PairsAt.put {t : Addr} {p : Nat × Nat} (h : PairsAt P w H d q ps) (ht : TIn H (kI p) t) (hn : p ∉ ps) (hl : ps.length < sizeLine) :
    ∃ ob ys, DPut P w H d (.ref t) (.bl true) (L2.upd H d ob) ∧ L2.upd H d ob q = some (.lst ys) ∧ ys.length = ps.length ∧ PairsAt P w (L2.upd (L2.upd H d ob) q (.lst (ys ++ [.ref t]))) d q (ps ++ [p]) := by
  obtain ⟨kvs, ts, h1, h2, h3, h4, h5, h6⟩ := h
  have hdq : q ≠ d := by
    rintro rfl
    rw [h1] at h4
    cases h4
  have hlen : kvs.length = ps.length := by
    have := congrArg List.length h3
    simpa using this
  have hval : valH kvs (kI p) = none := by
    have hs : (valH kvs (kI p)).isSome = false := by
      rw [valH_isSome, decide_eq_false_iff_not, h3]
      exact fun z => hn (kI_mem.mp z)
    cases e : valH kvs (kI p) with
    | none => rfl
    | some v => rw [e] at hs; cases hs
  have keep : ∀ (ob u : HO) (k : List Int) (b : Addr), TIn H k b → TIn (L2.upd (L2.upd H d ob) q u) k b := fun ob u k b e => by
    have e1 : b ≠ d := by rintro rfl; rw [TIn, h1] at e; cases e
    have e2 : b ≠ q := by rintro rfl; rw [TIn, h4] at e; cases e
    rw [TIn, upd_ne e2, upd_ne e1]
    exact e
  refine ⟨_, ts.map V.ref, .inr (.inr ⟨kvs, kI p, t, h1, h2, rfl, ht, hval, by rw [hlen]; exact hl, rfl⟩), ?_, by rw [List.length_map]; exact h5, kvs ++ [(kI p, t, .bl true)], ts ++ [t], ?_, fun x hx => ?_, ?_, ?_, ?_, fun i u p' e1 e2 => ?_⟩
  · rw [upd_ne hdq]
    exact h4
  · rw [upd_ne (Ne.symm hdq), upd_same]
  · rcases List.mem_append.mp hx with hx | hx
    · exact keep _ _ _ _ (h2 x hx)
    · rw [List.mem_singleton.mp hx]
      exact keep _ _ _ _ ht
  · rw [List.map_append, List.map_append, h3]
    rfl
  · rw [upd_same, List.map_append]
    rfl
  · rw [List.length_append, List.length_append, h5]
    rfl
  · by_cases hi : i < ts.length
    · rw [List.getElem?_append_left hi] at e1
      rw [List.getElem?_append_left (by rw [← h5]; exact hi)] at e2
      exact keep _ _ _ _ (h6 i u p' e1 e2)
    · rw [List.getElem?_append_right (Nat.le_of_not_lt hi)] at e1
      rw [List.getElem?_append_right (by rw [← h5]; exact Nat.le_of_not_lt hi), ← h5] at e2
      have hi0 := num_at hi (List.getElem?_eq_some_iff.mp e1).1
      rw [hi0, Nat.sub_self] at e1 e2
      cases e1
      cases e2
      exact keep _ _ _ _ ht
end
/-- what is known of the pairs that are told -/
structure Told (L : List Nat) (W : List (List Nat)) (B : List Bool) (l r : Nat) (ps : List (Nat × Nat)) : Prop where
  has : (l, r) ∈ ps
  got : ∀ p ∈ ps, p.1 < W.length ∧ p.2 < W.length ∧ ∃ u, (∀ c ∈ u, c ∈ L) ∧ p.1 = run L W l u ∧ p.2 = run L W r u
  few : unseen W.length ps + ps.length ≤ W.length * W.length + 1
/-- the pairs gone through so far -/
def Done (L : List Nat) (W : List (List Nat)) (B : List Bool) (ps : List (Nat × Nat)) (n : Nat) : Prop := ∀ (i : Nat) (p : Nat × Nat), i < n → ps[i]? = some p → B.getD p.1 false = B.getD p.2 false ∧ ∀ j < L.length, (goal W p.1 j, goal W p.2 j) ∈ ps
def AInv (P : Program) (w : World) (H : Hp) (m d q : Addr) (L : List Nat) (W : List (List Nat)) (B : List Bool) (l r : Nat) (ms : Nat) (σ : St) (H' : Hp) : Prop := ∃ (ps : List (Nat × Nat)) (n : Nat) (s7 s8 : Option V), ms = unseen W.length ps + (ps.length - n) ∧
  σ = [some (.ref m), some (.int (l : Int)), some (.ref m), some (.int (r : Int)), some (.ref d), some (.ref q), some (.int (n : Int)), s7, s8] ∧ Same H H' ∧ PairsAt P w H' d q ps ∧ Told L W B l r ps ∧ n ≤ ps.length ∧ Done L W B ps n
theorem mark_at {B : List Bool} {r : Nat} (h : r < B.length) : atI (B.map V.bl) ((r : Nat) : Int) = some (.bl (B.getD r false)) := atI_map V.bl (by rw [List.getD_eq_getElem?_getD, List.getElem?_eq_getElem h]; rfl)
theorem dec_bls {a b : Bool} : decide (V.bl a = V.bl b) = decide (a = b) := by cases a <;> cases b <;> rfl
theorem same_set2 {H H' : Hp} {a b : Addr} {o u : HO} (s : Same H H') (n : H a = none) (n2 : H b = none) : Same H (L2.upd (L2.upd H' a o) b u) := Same.set (Same.set s n) n2
theorem rows_snoc {H H' : Hp} {rows : List Addr} {W : List (List Nat)} {ws : List Nat} {t : Addr} (h : RowsAt H rows W) (hl : rows.length = W.length) (keep : ∀ b xs, H b = some (.tup xs) → H' b = some (.tup xs)) (ht : H' t = some (.tup (intsV ws))) : RowsAt H' (rows ++ [t]) (W ++ [ws]) := fun j r e => by
  by_cases hj : j < rows.length
  · rw [List.getElem?_append_left hj] at e
    obtain ⟨v, e1, e2⟩ := h j r e
    exact ⟨v, by rw [List.getElem?_append_left (by rw [← hl]; exact hj)]; exact e1, keep _ _ e2⟩
  · rw [List.getElem?_append_right (Nat.le_of_not_lt hj)] at e
    have hj0 := num_at hj (List.getElem?_eq_some_iff.mp e).1
    rw [hj0, Nat.sub_self] at e
    have et : t = r := by simpa using e
    subst et
    exact ⟨ws, by rw [hj0, hl, List.getElem?_append_right (Nat.le_refl _), Nat.sub_self]; rfl, ht⟩
theorem rows_set {H : Hp} {rows : List Addr} {W : List (List Nat)} {k j : Nat} {t : Addr} {ws : List Nat} (h : RowsAt H rows W) (hl : rows.length = W.length) (hk : k < W.length) (ht : rows[j]? = some t) (hw : W[j]? = some ws) : RowsAt H (rows.set k t) (W.set k ws) := fun i r e => by
  by_cases hi : i = k
  · subst hi
    rw [List.getElem?_set_self (by omega)] at e
    cases e
    obtain ⟨v, e1, e2⟩ := h j t ht
    rw [hw] at e1
    cases e1
    exact ⟨ws, by rw [List.getElem?_set_self hk], e2⟩
  · rw [List.getElem?_set_ne (Ne.symm hi)] at e
    obtain ⟨v, e1, e2⟩ := h i r e
    exact ⟨v, by rw [List.getElem?_set_ne (Ne.symm hi)]; exact e1, e2⟩
theorem set_mapL {α β : Type} (f : α → β) (l : List α) (k : Nat) (x : α) : (l.map f).set k (f x) = (l.set k x).map f := by rw [List.map_set]
theorem intsV_snoc (vs : List Nat) (n : Nat) : intsV (vs ++ [n]) = intsV vs ++ [.int (n : Int)] := by
  unfold intsV
  rw [List.map_append]
  rfl
theorem set_intsV (ws : List Nat) (k x : Nat) : (intsV ws).set k (.int (x : Int)) = intsV (ws.set k x) := by
  unfold intsV
  rw [List.map_set]
theorem len1 {α : Type} {l : List α} (h : l.length = 1) : ∃ a, l = [a] := match l, h with | [a], _ => ⟨a, rfl⟩
theorem len2 {α : Type} {l : List α} (h : l.length = 2) : ∃ a b, l = [a, b] := match l, h with | [a, b], _ => ⟨a, b, rfl⟩
theorem len3 {α : Type} {l : List α} (h : l.length = 3) : ∃ a b c, l = [a, b, c] := match l, h with | [a, b, c], _ => ⟨a, b, c, rfl⟩
theorem len4 {α : Type} {l : List α} (h : l.length = 4) : ∃ a b c d, l = [a, b, c, d] := match l, h with | [a, b, c, d], _ => ⟨a, b, c, d, rfl⟩
theorem len5 {α : Type} {l : List α} (h : l.length = 5) : ∃ a b c d e, l = [a, b, c, d, e] := match l, h with | [a, b, c, d, e], _ => ⟨a, b, c, d, e, rfl⟩
end RA

namespace RA
/-! ## things gone through by letters, in the order of the words -/
theorem lexd_snoc (L : List Nat) (c d : Nat) : ∀ {a b : List Nat}, lexd L a b = true → lexd L (a ++ [c]) (b ++ [d]) = true
  | [], _, h => by simp [lexd] at h
  | _ :: _, [], h => by simp [lexd] at h
  | x :: a, y :: b, h => by
    rw [List.cons_append, List.cons_append, lexd]
    rw [lexd] at h
    by_cases e : x = y
    · rw [if_pos e] at h ⊢
      exact lexd_snoc L c d h
    · rw [if_neg e] at h ⊢
      exact h
theorem lexd_same (L : List Nat) {c d : Nat} (hcd : L.idxOf c < L.idxOf d) : ∀ a : List Nat, lexd L (a ++ [c]) (a ++ [d]) = true
  | [] => by
    rw [List.nil_append, List.nil_append, lexd, if_neg (fun e => by rw [e] at hcd; omega)]
    exact decide_eq_true hcd
  | x :: a => by
    rw [List.cons_append, List.cons_append, lexd, if_pos rfl]
    exact lexd_same L hcd a
theorem lexd_asymm (L : List Nat) : ∀ {a b : List Nat}, lexd L a b = true → lexd L b a = false
  | [], _, h => by simp [lexd] at h
  | _ :: _, [], h => by simp [lexd] at h
  | x :: a, y :: b, h => by
    rw [lexd] at h ⊢
    by_cases e : x = y
    · rw [if_pos e] at h
      rw [if_pos e.symm]
      exact lexd_asymm L h
    · rw [if_neg e] at h
      rw [if_neg (Ne.symm e)]
      have := of_decide_eq_true h
      exact decide_eq_false (by omega)
section
variable {L a b c : List Nat}
theorem ear_len (h : a.length < b.length) : ear L a b = true := by
  unfold ear
  rw [if_pos (by omega)]
  exact decide_eq_true h
theorem ear_eq (h : a.length = b.length) : ear L a b = lexd L a b := by
  unfold ear
  rw [if_neg (by simpa using h)]
theorem ear_le (h : ear L a b = true) : a.length ≤ b.length := by
  by_cases e : a.length = b.length
  · omega
  · unfold ear at h
    rw [if_pos e] at h
    have := of_decide_eq_true h
    omega
theorem ear_snoc (x y : Nat) (h : ear L a b = true) : ear L (a ++ [x]) (b ++ [y]) = true := by
  have hl := ear_le h
  by_cases e : a.length = b.length
  · rw [ear_eq (by simp [e])]
    rw [ear_eq e] at h
    exact lexd_snoc L x y h
  · exact ear_len (by simp; omega)
theorem ear_same {x y : Nat} (h : L.idxOf x < L.idxOf y) : ear L (a ++ [x]) (a ++ [y]) = true := by
  rw [ear_eq (by simp)]
  exact lexd_same L h a
theorem ear_asymm (h : ear L a b = true) : ear L b a = false := by
  have hl := ear_le h
  by_cases e : a.length = b.length
  · rw [ear_eq e] at h
    rw [ear_eq e.symm]
    exact lexd_asymm L h
  · unfold ear
    rw [if_pos (Ne.symm e)]
    exact decide_eq_false (by omega)
end
section
variable {κ : Type} [DecidableEq κ]
def runG (g : κ → Nat → κ) (L : List Nat) (s : κ) (w : List Nat) : κ := w.foldl (fun t c => g t (L.idxOf c)) s
theorem runG_snoc (g : κ → Nat → κ) (L : List Nat) (s : κ) (w : List Nat) (c : Nat) : runG g L s (w ++ [c]) = g (runG g L s w) (L.idxOf c) := by
  unfold runG
  rw [List.foldl_append]
  rfl
/-- gone through: all letters of the first n things, k letters of the next -/
structure Bf (g : κ → Nat → κ) (L : List Nat) (s : κ) (ts : List κ) (ws : List (List Nat)) (n k : Nat) : Prop where
  len : ts.length = ws.length
  nd : ts.Nodup
  t0 : ts[0]? = some s
  w0 : ws[0]? = some []
  srt : ∀ (i j : Nat) (a b : List Nat), i < j → ws[i]? = some a → ws[j]? = some b → ear L a b = true
  lead : ∀ (i : Nat) (t : κ) (a : List Nat), ts[i]? = some t → ws[i]? = some a → (∀ c ∈ a, c ∈ L) ∧ runG g L s a = t
  par : ∀ (j : Nat) (b : List Nat), ws[j]? = some b → b = [] ∨ ∃ (p q : Nat) (a : List Nat), ws[p]? = some a ∧ q < L.length ∧ b = a ++ [L.getD q 0] ∧ (p < n ∨ (p = n ∧ q < k))
  fin : ∀ (r q : Nat) (t : κ) (a : List Nat), (r < n ∨ (r = n ∧ q < k)) → q < L.length → ts[r]? = some t → ws[r]? = some a → ∃ (j : Nat) (b : List Nat), ts[j]? = some (g t q) ∧ ws[j]? = some b ∧ ear L (a ++ [L.getD q 0]) b = false
variable {g : κ → Nat → κ} {L : List Nat} {s : κ} {ts : List κ} {ws : List (List Nat)} {n k : Nat}
theorem Bf.start (g : κ → Nat → κ) (L : List Nat) (s : κ) : Bf g L s [s] [[]] 0 0 where
  len := rfl
  nd := by simp
  t0 := rfl
  w0 := rfl
  srt := fun i j a b hij ha hb => by
    have := (List.getElem?_eq_some_iff.mp hb).1
    simp at this
    omega
  lead := fun i t a ht ha => by
    match i, ht, ha with
    | 0, ht, ha => cases ht; cases ha; exact ⟨fun c hc => by simp at hc, rfl⟩
    | i + 1, ht, _ => simp at ht
  par := fun j b hb => by
    match j, hb with
    | 0, hb => cases hb; exact .inl rfl
    | j + 1, hb => simp at hb
  fin := fun r q t a h => by omega
/-- the word of the next letter comes behind every word that is told -/
theorem Bf.behind (h : Bf g L s ts ws n k) (nd : L.Nodup) {a : List Nat} (ha : ws[n]? = some a) (hk : k < L.length) {j : Nat} {b : List Nat} (hb : ws[j]? = some b) : ear L b (a ++ [L.getD k 0]) = true := by
  rcases h.par j b hb with rfl | ⟨p, q, a', hp, hq, rfl, lt⟩
  · exact ear_len (by simp)
  · rcases lt with lt | ⟨rfl, lt⟩
    · exact ear_snoc _ _ (h.srt p n a' a lt hp ha)
    · rw [ha] at hp
      cases hp
      refine ear_same ?_
      have e1 : L.idxOf (L.getD q 0) = q := by rw [List.getD_eq_getElem?_getD, List.getElem?_eq_getElem hq]; exact idx_get nd hq
      have e2 : L.idxOf (L.getD k 0) = k := by rw [List.getD_eq_getElem?_getD, List.getElem?_eq_getElem hk]; exact idx_get nd hk
      rw [e1, e2]
      exact lt
theorem lt_step {r q n k : Nat} (h : r < n ∨ (r = n ∧ q < k + 1)) : (r < n ∨ (r = n ∧ q < k)) ∨ (r = n ∧ q = k) := by omega
theorem Bf.old (h : Bf g L s ts ws n k) (nd : L.Nodup) {t : κ} {a : List Nat} (ht : ts[n]? = some t) (ha : ws[n]? = some a) (hk : k < L.length) (hm : g t k ∈ ts) : Bf g L s ts ws n (k + 1) :=
  { h with
    par := fun j b hb => by
      rcases h.par j b hb with e | ⟨p, q, a', h1, h2, h3, h4⟩
      · exact .inl e
      · exact .inr ⟨p, q, a', h1, h2, h3, by omega⟩
    fin := fun r q t' a' hr hq ht' ha' => by
      rcases lt_step hr with hr | ⟨rfl, rfl⟩
      · exact h.fin r q t' a' hr hq ht' ha'
      · rw [ht] at ht'
        rw [ha] at ha'
        cases ht'
        cases ha'
        obtain ⟨j, hj⟩ := List.mem_iff_getElem?.mp hm
        have hl : j < ws.length := by rw [← h.len]; exact (List.getElem?_eq_some_iff.mp hj).1
        exact ⟨j, ws[j], hj, List.getElem?_eq_getElem hl, ear_asymm (h.behind nd ha hk (List.getElem?_eq_getElem hl))⟩ }
theorem Bf.new (h : Bf g L s ts ws n k) (nd : L.Nodup) {t : κ} {a : List Nat} (ht : ts[n]? = some t) (ha : ws[n]? = some a) (hk : k < L.length) (hm : g t k ∉ ts) : Bf g L s (ts ++ [g t k]) (ws ++ [a ++ [L.getD k 0]]) n (k + 1) := by
  have gk : L.getD k 0 = L[k] := by rw [List.getD_eq_getElem?_getD, List.getElem?_eq_getElem hk]; rfl
  have up : ∀ {α : Type} {l : List α} {x y : α} {i : Nat}, l[i]? = some y → (l ++ [x])[i]? = some y := fun {α l x y i} e => by
    rw [List.getElem?_append_left (List.getElem?_eq_some_iff.mp e).1]
    exact e
  have split : ∀ {α : Type} {l : List α} {x y : α} {i : Nat}, (l ++ [x])[i]? = some y → l[i]? = some y ∨ (i = l.length ∧ y = x) := fun {α l x y i} e => by
    by_cases hi : i < l.length
    · rw [List.getElem?_append_left hi] at e
      exact .inl e
    · rw [List.getElem?_append_right (by omega)] at e
      have : i - l.length = 0 := by
        have := (List.getElem?_eq_some_iff.mp e).1
        simp at this
        omega
      rw [this] at e
      exact .inr ⟨by omega, (Option.some.inj e).symm⟩
  have last : (ts ++ [g t k])[ts.length]? = some (g t k) := by rw [List.getElem?_append_right (Nat.le_refl _), Nat.sub_self]; rfl
  have lastw : (ws ++ [a ++ [L.getD k 0]])[ws.length]? = some (a ++ [L.getD k 0]) := by rw [List.getElem?_append_right (Nat.le_refl _), Nat.sub_self]; rfl
  obtain ⟨hin, hrun⟩ := h.lead n t a ht ha
  refine ⟨by simp [h.len], ?_, up h.t0, up h.w0, fun i j x y hij hx hy => ?_, fun i t' x ht' hx => ?_, fun j b hb => ?_, fun r q t' x hr hq ht' hx => ?_⟩
  · rw [List.nodup_append]
    exact ⟨h.nd, by simp, fun x hx y hy e => hm (by rw [List.mem_singleton.mp hy] at e; rw [← e]; exact hx)⟩
  · rcases split hy with hy | ⟨rfl, rfl⟩
    · rcases split hx with hx | ⟨rfl, rfl⟩
      · exact h.srt i j x y hij hx hy
      · have := (List.getElem?_eq_some_iff.mp hy).1
        omega
    · rcases split hx with hx | ⟨rfl, rfl⟩
      · exact h.behind nd ha hk hx
      · omega
  · rcases split ht' with ht' | ⟨rfl, rfl⟩
    · rcases split hx with hx | ⟨rfl, rfl⟩
      · exact h.lead i t' x ht' hx
      · have := (List.getElem?_eq_some_iff.mp ht').1
        rw [h.len] at this
        omega
    · rcases split hx with hx | ⟨_, rfl⟩
      · have := (List.getElem?_eq_some_iff.mp hx).1
        rw [h.len] at this
        omega
      · refine ⟨fun c hc => ?_, ?_⟩
        · rcases List.mem_append.mp hc with hc | hc
          · exact hin c hc
          · rw [List.mem_singleton.mp hc, gk]
            exact List.getElem_mem hk
        · rw [runG_snoc, hrun, gk, idx_get nd hk]
  · rcases split hb with hb | ⟨rfl, rfl⟩
    · rcases h.par j b hb with e | ⟨p, q, a', h1, h2, h3, h4⟩
      · exact .inl e
      · exact .inr ⟨p, q, a', up h1, h2, h3, by omega⟩
    · exact .inr ⟨n, k, a, up ha, hk, rfl, .inr ⟨rfl, Nat.lt_succ_self k⟩⟩
  · have hrn : r ≤ n := by omega
    have hn := (List.getElem?_eq_some_iff.mp ht).1
    have ht'' : ts[r]? = some t' := by rw [List.getElem?_append_left (by omega)] at ht'; exact ht'
    have hx' : ws[r]? = some x := by rw [List.getElem?_append_left (by rw [← h.len]; omega)] at hx; exact hx
    rcases lt_step hr with hr | ⟨rfl, rfl⟩
    · obtain ⟨j, b, e1, e2, e3⟩ := h.fin r q t' x hr hq ht'' hx'
      exact ⟨j, b, up e1, up e2, e3⟩
    · rw [ht] at ht''
      rw [ha] at hx'
      cases ht''
      cases hx'
      refine ⟨ts.length, _, last, by rw [h.len]; exact lastw, ?_⟩
      cases q' : ear L (a ++ [L.getD q 0]) (a ++ [L.getD q 0]) with
      | false => rfl
      | true => exact q'.symm.trans (ear_asymm q')
theorem Bf.next (h : Bf g L s ts ws n L.length) : Bf g L s ts ws (n + 1) 0 :=
  { h with
    par := fun j b hb => by
      rcases h.par j b hb with e | ⟨p, q, a', h1, h2, h3, h4⟩
      · exact .inl e
      · exact .inr ⟨p, q, a', h1, h2, h3, by omega⟩
    fin := fun r q t a hr hq ht ha => h.fin r q t a (by omega) hq ht ha }
/-- how many are not told yet -/
def leftOf (U ts : List κ) : Nat := U.countP fun x => !decide (x ∈ ts)
theorem leftOf_lt {U ts : List κ} {x : κ} (hU : x ∈ U) (hx : x ∉ ts) : leftOf U (ts ++ [x]) < leftOf U ts := by
  refine countP_lt (fun z hz h => ?_) ⟨x, hU, ?_, ?_⟩
  · simp only [Bool.not_eq_true', decide_eq_false_iff_not] at h ⊢
    exact fun q => h (List.mem_append_left _ q)
  · simp only [Bool.not_eq_true', decide_eq_false_iff_not]
    exact hx
  · simp only [Bool.not_eq_false', decide_eq_true_eq]
    exact List.mem_append_right _ (List.mem_singleton.mpr rfl)
end
end RA

namespace L2
open PySem PySem.Spec PyProof.Rows
/-! ## a function made within a def: what its call does -/
structure FnScopeC (N ps fr : List Str) (sc : Scope) : Prop where
  kind : sc.kind = .function
  co : sc.isCoroutine = false
  gen : sc.isGenerator = false
  nd : N.Nodup
  pre : N.take ps.length = ps
  suf : N.drop (N.length - fr.length) = fr
  fit : ps.length + fr.length ≤ N.length
  par : ∀ x ∈ ps, sc.names.lookup x = some .local
  nocell : ∀ y ∈ sc.names, y.2 ≠ .cell
/-- the cells that the function holds: of its free names, and what lies in them -/
structure ClosAt (h : Heap) (clos : List (Str × Addr)) (sc : Scope) (fr : List Str) (fvs : List V) : Prop where
  inj : ∀ y z c, clos.lookup y = some c → clos.lookup z = some c → y = z
  has : ∀ y ∈ sc.names, y.2 = .free → ∃ c, clos.lookup y.1 = some c
  cell : ∀ y c, clos.lookup y = some c → ∃ v, h.IsCell c v
  len : fvs.length = fr.length
  val : ∀ (i : Nat) (y : Str) (v : V), fr[i]? = some y → fvs[i]? = some v → (sc.names.lookup y = some .free) ∧ ∃ c u, clos.lookup y = some c ∧ h.IsCell c (some u) ∧ RelV v u
def cxOfC (CX : CXT) (P : Program) (w : World) (K : PySem.W.Frag) (mg : Str → Option Value) (base : Heap) (N : List Str) (qual : Str) (scope : Scope) (f : Addr) (cd : Value) (clos : List (Str × Addr)) (A : Around) (outer : List Env) (s : Shared) (H : Hp) (E : XK) : Cx where
  prog := P
  w := w
  K := K
  mg := mg
  base := base
  A := A.deeper (PySem.W.envX qual scope s.heap.objs.size f cd clos)
  N := N
  s₀ := s
  H₀ := H
  env := PySem.W.envX qual scope s.heap.objs.size f cd clos
  outer := outer
  stack := PySem.W.envX qual scope s.heap.objs.size f cd clos :: outer
  ex := []
  calm := true
  fn := fun _ => false
  pn := []
  xe := fun e s' => wpAny (model P w) (A.deeper (PySem.W.envX qual scope s.heap.objs.size f cd clos)) (leaving (PySem.W.envX qual scope s.heap.objs.size f cd clos) e) (fun _ s'' => CX outer H s E e s'') (fun e' s'' => CX outer H s E e' s'') s'
def startC (N : List Str) (vs fvs : List V) : St := vs.map some ++ (List.replicate (N.length - vs.length - fvs.length) none ++ fvs.map some)
theorem rev_zip {x : Str} {v : Value} : ∀ {ps : List Str} {us : List Value} {i : Nat}, ps.Nodup → ps[i]? = some x → us[i]? = some v → (ps.zip us).reverse.lookup x = some v := by
  intro ps us i nd h1 h2
  have hm : (x, v) ∈ (ps.zip us).reverse := by
    rw [List.mem_reverse]
    have hz : (ps.zip us)[i]? = some (x, v) := by rw [List.getElem?_zip_eq_some]; exact ⟨h1, h2⟩
    exact List.mem_of_getElem? hz
  have uniq : ∀ v', (x, v') ∈ (ps.zip us).reverse → v' = v := fun v' hm' => by
    rw [List.mem_reverse] at hm'
    obtain ⟨j, hj⟩ := List.mem_iff_getElem?.mp hm'
    rw [List.getElem?_zip_eq_some] at hj
    have e : j = i := nodup_ix nd hj.1 h1
    subst e
    have := hj.2
    rw [h2] at this
    exact (Option.some.inj this).symm
  cases e : (ps.zip us).reverse.lookup x with
  | none =>
    have := List.lookup_eq_none_iff.mp e _ hm
    simp at this
  | some v' => rw [uniq v' (PySem.mem_of_lookup e)]
section
variable {CX : CXT} {P : Program} {w : World} {K : PySem.W.Frag} {mg : Str → Option Value} {base : Heap} {N ps fr : List Str} {qual : Str} {scope : Scope} {f : Addr} {cd : Value} {clos : List (Str × Addr)} {A : Around} {outer : List Env} {s : Shared} {H : Hp} {E : XK} {us : List Value} {vs fvs : List V}
theorem inv_startC {h' : Heap} {tk : Nat} (S : FnScopeC N ps fr scope) (C : ClosAt base clos scope fr fvs) (hd : A.handled = none) (e0 : Env0 P w K mg base A outer s H) (hl : vs.length = ps.length) (r : Vals vs us)
    (hns : h'.Ns s.heap.objs.size (fun x => (ps.zip us).reverse.lookup x)) (hsb : Heap.SameBut s.heap.objs.size (s.heap.push { cls := .type "frame", data := .dict #[] }) h') :
    Inv (cxOfC CX P w K mg base N qual scope f cd clos A outer s H E) [] (startC N vs fvs) H { s with heap := h', toks := tk } := by
  have hk : ∀ b o, s.heap.get? b = some o → h'.get? b = some o := fun b o e => hsb.extBut b o (Nat.ne_of_lt (Heap.lt_size e)) (Heap.get?_push_of_some _ e)
  have noA : ∀ b : Addr, b ∉ (cxOfC CX P w K mg base N qual scope f cd clos A outer s H E).ex := fun b z => absurd (show b ∈ ([] : List Addr) from z) (by simp)
  have cellK : ∀ c v, base.IsCell c v → h'.IsCell c v := fun c v ⟨o, ho, hd⟩ => ⟨o, hk c o (e0.bs c o ho).1, hd⟩
  have hus : us.length = ps.length := by rw [← r.length]; exact hl
  have hfit := S.fit
  have hfl := C.len
  refine ⟨⟨e0.mod, S.kind, rfl, rfl, Nat.le_refl _, fun y z c h1 h2 => C.inj y z c h1 h2, fun y hy => ?_, fun y c h => absurd (show false = true from h) Bool.false_ne_true, fun _ => hd, Around.frames_deeper e0.frames, .inr ⟨rfl, rfl⟩, fun b z => absurd z (noA b), e0.bs, e0.bsz, fun b _ _ => noA b, fun b z => absurd z (noA b), e0.funs, e0.frf⟩,
    rfl, e0.bare, Un.kept hk, ⟨_, hns, fun i y v h1 h2 h3 => ?_⟩, fun y c h => ?_, e0.hok.fresh (Nat.le_refl _), fun y c h => ?_, fun p hp => absurd (show p ∈ ([] : List (Addr × Obj)) from hp) (by simp), e0.hok.kept hk, ?_⟩
  · have hy : scope.names.lookup y = some .cell ∨ scope.names.lookup y = some .free := hy
    rcases hy with hy | hy
    · exact absurd rfl (S.nocell _ (PySem.mem_of_lookup hy))
    · exact C.has _ (PySem.mem_of_lookup hy) rfl
  · have h1 : N[i]? = some y := h1
    have hi : i < N.length := (List.getElem?_eq_some_iff.mp h1).1
    unfold startC at h2
    by_cases hiv : i < vs.length
    · have ha : vs[i]? = some v := by
        rw [List.getElem?_append_left (by simpa using hiv), List.getElem?_map] at h2
        cases e : vs[i]? with
        | none => rw [e] at h2; cases h2
        | some a => rw [e] at h2; cases h2; rfl
      obtain ⟨u, hu, rv⟩ := r.get ha
      have hp : ps[i]? = some y := by
        rw [← S.pre, List.getElem?_take_of_lt (by omega)]; exact h1
      have ndP : ps.Nodup := by rw [← S.pre]; exact S.nd.sublist (List.take_sublist _ _)
      exact ⟨u, rv, .inl ⟨S.par y (List.mem_of_getElem? hp), rev_zip ndP hp hu⟩⟩
    · rw [List.getElem?_append_right (by simpa using hiv)] at h2
      rw [List.length_map] at h2
      by_cases hir : i - vs.length < N.length - vs.length - fvs.length
      · rw [List.getElem?_append_left (by simpa using hir), List.getElem?_replicate, if_pos hir] at h2
        cases h2
      · rw [List.getElem?_append_right (by simpa using hir), List.length_replicate, List.getElem?_map] at h2
        have ej : i - vs.length - (N.length - vs.length - fvs.length) = i - (N.length - fr.length) := by omega
        rw [ej] at h2
        cases e : fvs[i - (N.length - fr.length)]? with
        | none => rw [e] at h2; cases h2
        | some a =>
          rw [e] at h2
          cases h2
          have hf : fr[i - (N.length - fr.length)]? = some y := by
            have q : (N.drop (N.length - fr.length))[i - (N.length - fr.length)]? = some y := by
              rw [List.getElem?_drop, show N.length - fr.length + (i - (N.length - fr.length)) = i by omega]
              exact h1
            rw [S.suf] at q
            exact q
          obtain ⟨k1, c, u, k2, k3, k4⟩ := C.val _ _ _ hf e
          exact ⟨u, k4, .inr ⟨.inr k1, c, k2, cellK c _ k3⟩⟩
  · obtain ⟨v, z⟩ := C.cell y c h
    exact ⟨v, cellK c v z⟩
  · obtain ⟨v, o, ho, _⟩ := C.cell y c h
    exact (e0.bs c o ho).2
  · unfold startC
    show _ = N.length
    simp only [List.length_append, List.length_map, List.length_replicate]
    omega
/-- its promise, by its body -/
theorem fn_ofC {k : Nat} {name : Str} {params : Arguments} {body : List Stmt} {doc pm ctv : Value} {c' : Addr} {sp : Sp} {o : Obj} (ho : base.get? f = some o) (hd : o.data = .func (PySem.W.fnX name qual params body scope clos .none .none doc pm none (.ref c') ctv))
    (hcd : base.CodeRec (.ref c') qual) (S : FnScopeC N ps fr scope) (C : ClosAt base clos scope fr fvs) (len : ∀ vs H Q E, sp vs H Q E → vs.length = ps.length)
    (hbody : ∀ (A : Around) (outer : List Env) (s : Shared) (H : Hp) (vs : List V) (Q : VK) (E : XK), Room k (A.deeper (PySem.W.envX qual scope s.heap.objs.size f (.ref c') clos)) → sp vs H Q E →
      ∃ t, PSs (cxOfC CX0 P w K mg base N qual scope f (.ref c') clos A outer s H E).nox body t ∧ t { nx := fun _ H' => Q .non H', rt := Q } (startC N vs fvs) H) :
    FnOk P w K mg base CX0 (k + 1) f (PySem.W.fnX name qual params body scope clos .none .none doc pm none (.ref c') ctv) ps sp := by
  refine ⟨len, fun A outer s H args us vs Q E hr e0 hb r hsp => ?_⟩
  have hl := len _ _ _ _ hsp
  have lim : s.heap.NoLimit := e0.mod.nolimit.keeps fun b o e => (e0.bs b o e).1
  have hus : us.length = ps.length := by rw [← r.length]; exact hl
  have hkind : ∀ y ∈ ps.zip us, scope.names.lookup y.1 = some .local := fun ⟨n, v⟩ hy => S.par n (List.of_mem_zip hy).1
  have hcd' : s.heap.CodeRec (.ref c') qual := by
    obtain ⟨c, oc, ws, t, e1, e2, e3, e4⟩ := hcd
    exact ⟨c, oc, ws, t, e1, (e0.bs c oc e2).1, e3, e4⟩
  refine codeAny_call_function hr.depth (e0.bs f o ho).1 hd S.co S.gen rfl hcd' (hb _ _ _ _ ?_)
  refine wpAny_newFunctionEnv (closure := clos) (around := none) S.nocell hkind (fun h' hns hsb => ?_) S.kind
  have hkp : ∀ b o, s.heap.get? b = some o → h'.get? b = some o := fun b o e => hsb.extBut b o (Nat.ne_of_lt (Heap.lt_size e)) (Heap.get?_push_of_some _ e)
  refine ⟨lim.keeps hkp, codeAny_func ?_⟩
  obtain ⟨t, ht, hq⟩ := hbody A outer s H vs Q E (hr.deeper _) hsp
  have I : Inv (cxOfC CX0 P w K mg base N qual scope f (.ref c') clos A outer s H E) [] (startC N vs fvs) H { s with heap := h', toks := s.toks + (ps.zip us).length } := inv_startC S C hr.hd e0 hl r hns hsb
  refine wpAny_mono (ht.nox [] _ (startC N vs fvs) H _ I hq) (fun fl s' hs => ?_) fun e s' hs => hs
  have fin : ∀ {σ' : St} {H' : Hp} {v : V} {u : Value}, Inv (cxOfC CX0 P w K mg base N qual scope f (.ref c') clos A outer s H E) [] σ' H' s' → RelV v u → Q v H' → CE outer P w H s Q u s' :=
    fun {σ' H' v u} J rv q => ⟨v, H', J.os, J.bare, J.base, J.hok, rv, q⟩
  cases fl with
  | ret u =>
    obtain ⟨v, σ', H', J, rv, q⟩ := hs
    exact fin J rv q
  | next =>
    obtain ⟨σ', H', J, q⟩ := hs
    exact fin (v := V.non) (u := Value.none) J rfl q
  | brk =>
    obtain ⟨_, _, _, q⟩ := hs
    exact False.elim q
  | cont =>
    obtain ⟨_, _, _, q⟩ := hs
    exact False.elim q
end
/-- f(e, ..), f a name in which a function of the base lies -/
def tCallL (i : Nat) (f : Addr) (sp : Sp) (t : TA) : TE := fun σ H Q => σ[i]? = some (some (.ref f)) ∧ t σ H fun vs H1 => sp vs H1 Q E0
theorem pe_callL {X : Cx} {k i : Nat} {f : Addr} {fd fd' : FuncData} {oc : Value} {od : Option Addr} {sl : Array (Option Value)} {ps : List Str} {sp : Sp} {x : Str} {p pos : Pos} {e : Expr} {es : List Expr} {t : TA} (F : FnOk X.prog X.w X.K X.mg X.base CX0 k f fd ps sp) (hr : Room k X.A) (ho : X.base.get? f = some ⟨oc, od, .func fd', sl⟩)
    (hb : Binds X.K fd ps []) (hv : PE X (.Name x p) (tVar i)) (ha : PA X (e :: es) t) (he : starEach (e :: es) X.env = (false, eval e X.env) :: starEach es X.env := by rfl) (hpl : (backTo pos (starEach es X.env)).any (·.1) = false := by rfl) :
    PE X (.Call (.Name x p) (e :: es) [] pos) (tCallL i f sp t) := by
  intro pins s σ H Q I h
  refine wpAny_Call_Name_kw (thn (hv pins s σ H (fun v H1 => v = .ref f ∧ H1 = H) I ⟨_, h.1, rfl, rfl⟩) fun fv s1 hq => ?_)
  obtain ⟨v, H1, I1, rv, rfl, rfl⟩ := hq
  obtain rfl : fv = .ref f := rv
  refine PySem.W.callWith_F ⟨oc, od, fd', sl, (I1.bs f _ ho).1⟩ (thn (ha pos pins s1 σ H1 _ I1 h.2) fun us s2 ⟨vs, H2, I2, r, q⟩ => ⟨⟨oc, od, fd', sl, (I2.bs f _ ho).1⟩, ?_⟩) he hpl
  exact run_fn F hr hb .nil pass0 I2 r (by rw [List.append_nil]; exact q)
end L2

namespace L2
open PySem PySem.Spec PyProof.Rows
/-! ## the statement def within a def -/
theorem among_app (q : Pos) (r : List Value) (l : List Value) (h : TriplesOk l) : codeAmong q (l ++ r) = (codeAmong q l).or (codeAmong q r) := by
  induction l using TriplesOk.induct with
  | case1 => simp [codeAmong]
  | case2 a t b u c rest ih =>
    have h : TriplesOk rest := h
    simp only [List.cons_append, codeAmong]
    split
    · rfl
    · exact ih h
  | case3 l h1 h2 =>
    exfalso
    unfold TriplesOk at h
    split at h
    · exact h1 rfl
    · exact h2 _ _ _ _ _ _ rfl
    · exact h
theorem triples_app (x y : Int) (t u : Tok) (c : Value) (l : List Value) (h : TriplesOk l) : TriplesOk (l ++ [.int x t, .int y u, c]) := by
  induction l using TriplesOk.induct with
  | case1 => exact True.intro
  | case2 a t b u c rest ih => exact ih h
  | case3 l h1 h2 =>
    exfalso
    unfold TriplesOk at h
    split at h
    · exact h1 rfl
    · exact h2 _ _ _ _ _ _ rfl
    · exact h
def codeHO (c : Addr) (q : Str) : HO := .ext fun h => h.CodeRec (.ref c) q
def fnHO (f : Addr) (name qual : Str) (params : Arguments) (body : List Stmt) (scope : Scope) (clos : List (Str × Addr)) (c : Addr) : HO := .ext fun h => ∃ doc pm ctv, h.get? f = some (PySem.W.fnMade name qual params body scope clos doc pm c ctv)
def TabSt (H : Hp) (P0 : Addr) (sites : List (Pos × Str)) : Prop :=
  ∃ ps, H P0 = some (.tbl ps) ∧ TriplesOk ps.toList ∧ ∀ q ∈ sites, codeAmong q.1 ps.toList = none ∨ ∃ c, codeAmong q.1 ps.toList = some (.ref c) ∧ H c = some (codeHO c q.2)
/-- the same but at the table -/
def SameX (P0 : Addr) (H H' : Hp) : Prop := ∀ b o, b ≠ P0 → H b = some o → H' b = some o
structure BltAt (h : Heap) (mg : Str → Option Value) : Prop where
  ex : ∃ bm o, mg "__builtins__" = some (.ref bm) ∧ bm ≠ builtinsNs ∧ bm ≠ mainGlobals ∧ h.get? bm = some o ∧ o.cls = .type "module" ∧ o.dict = some builtinsNs ∧ o.data = .plain
def tNest (X : Cx) (P0 : Addr) (sites : List (Pos × Str)) (i : Nat) (name qual : Str) (params : Arguments) (body : List Stmt) (sc : Scope) : TS := fun D σ H => TabSt H P0 sites ∧
  ∀ (clos : List (Str × Addr)) (f c : Addr) (H1 : Hp), (∀ y a, clos.lookup y = some a → X.env.cells.lookup y = some a) → (∀ y ∈ sc.names, y.2 = .free → ∃ a, clos.lookup y.1 = some a) → H f = none → f ≠ c → SameX P0 H H1 → TabSt H1 P0 sites →
    H1 c = some (codeHO c qual) → H1 f = some (fnHO f name qual params body sc clos c) → D.nx (σ.set i (some (.ref f))) H1
theorem codeHO_ok {P : Program} {w : World} {H : Hp} {h : Heap} {c : Addr} {q : Str} (x : h.CodeRec (.ref c) q) : ObjOk P w H h c (codeHO c q) := by
  obtain ⟨c2, oc, vs, t, e, e1, e2, e3⟩ := id x
  cases e
  refine ⟨x, ⟨oc, e1⟩, fun h1 h2 y k => ?_⟩
  obtain ⟨c2, oc, vs, t, e, e1, e2, e3⟩ := y
  cases e
  exact ⟨_, oc, vs, t, rfl, k _ e1, e2, e3⟩
theorem fnHO_ok {P : Program} {w : World} {H : Hp} {h : Heap} {f c : Addr} {name qual : Str} {params : Arguments} {body : List Stmt} {scope : Scope} {clos : List (Str × Addr)} {doc pm ctv : Value}
    (x : h.get? f = some (PySem.W.fnMade name qual params body scope clos doc pm c ctv)) : ObjOk P w H h f (fnHO f name qual params body scope clos c) :=
  ⟨⟨doc, pm, ctv, x⟩, ⟨_, x⟩, fun _ _ ⟨d, p, v, e⟩ k => ⟨d, p, v, k _ e⟩⟩
theorem ps_nest {X : Cx} {i : Nat} {name qual : Str} {params : Arguments} {body : List Stmt} {sc : Scope} {pos : Pos} {c P0 : Addr} {sites : List (Pos × Str)} (hN : X.N.Nodup) (hi : X.N[i]? = some name) (hx : Loc X.env.scope name) (hcode : X.env.code = .ref c) (hC : PySem.W.CodeHd X.base c P0) (hB : BltAt X.base X.mg)
    (hsite : (pos, qual) ∈ sites) (hsites : ∀ q ∈ sites, q.1.line = pos.line → q.1.col = pos.col → q.2 = qual) (hq : qualnameIn X.env name name = qual := by rfl) (hd0 : params.defaults = [] := by rfl) (hk0 : params.kw_defaults = [] := by rfl) (ha : annTrees params none X.env = [] := by rfl)
    (hfree : (sc.names.all fun y => y.2 != .free || X.env.scope.names.lookup y.1 == some .cell) = true := by rfl) (hf : X.fn name = true ∨ X.env.scope.names.lookup name = some .local := by first | exact .inl rfl | exact .inr rfl) :
    PS X (.FunctionDef name params body [] none [] sc none name pos) (tNest X P0 sites i name qual params body sc) := by
  intro pins s σ H D I h
  obtain ⟨⟨ps, hP, ht, hall⟩, h⟩ := h
  have hfr : ∀ y ∈ sc.names, y.2 = .free → X.env.kindOf y.1 = some .cell := fun y hy e => by
    have q := List.all_eq_true.mp hfree y hy
    rw [e] at q
    simpa [Env.kindOf] using q
  obtain ⟨cl, hclos, hsub, hhas⟩ := closure_of (env := X.env) (sc := sc) fun y hy e => I.ok.has y.1 (.inl (hfr y hy e))
  have hPh : s.heap.get? P0 = some (PySem.W.tabObj ps) := I.hok P0 _ hP
  have hPlt : P0 < s.heap.objs.size := I.hok.lt hP
  have hbP : s.heap.BuiltinsAt X.mg P0 := by
    obtain ⟨bm, o, e1, e2, e3, e4, e5, e6, e7⟩ := hB.ex
    refine ⟨bm, o, e1, e2, e3, fun z => ?_, (I.bs bm o e4).1, e5, e6, e7⟩
    have n := (I.bs bm o e4).2
    rw [z, hP] at n
    cases n
  have hgs : s.heap.Ns mainGlobals X.mg := I.mod.glob.keeps I.bk
  have hgP : mainGlobals ≠ P0 := fun z => by
    obtain ⟨o, es, ep, e, hd, _⟩ := hgs
    rw [z, hPh] at e
    cases e
    cases hd
  have hC' := hC.keeps I.bk
  refine PySem.W.nestDef_K hd0 hk0 ha ?_
  rw [hq]
  have fin : ∀ {f : Addr} {s1 : Shared} {H1 : Hp}, Inv X pins σ H1 s1 → D.nx (σ.set i (some (.ref f))) H1 → wpAny (model X.prog X.w) X.A (storeName X.env name (.ref f)) (fun _ s'' => SP X pins D .next s'') X.xe s1 := fun {f s1 H1} I1 q =>
    store_ok I1 hN hi hx (v := .ref f) rfl (fun s' I' => ⟨_, H1, I', q⟩) hf
  have old : ∀ {b : Addr} {u : HO}, H b = some u → b < s.heap.objs.size := fun e => I.hok.lt e
  rcases hall _ hsite with hnf | ⟨c0, hhit, hc0⟩
  · refine PySem.W.makeFunction_K (mg := X.mg) hclos I.ok.glob hgs hcode hC' hPh ht hnf hgP hbP fun c' ctv doc h' tk hxx hge hlt hrec htb => ?_
    have hPc : P0 ≠ c' := Nat.ne_of_lt (Nat.lt_of_lt_of_le hPlt hge)
    have hszh : s.heap.objs.size < h'.objs.size := Nat.lt_of_le_of_lt hge hlt
    have hPf : P0 ≠ h'.objs.size := Nat.ne_of_lt (Nat.lt_trans hPlt hszh)
    have hcf : c' ≠ h'.objs.size := Nat.ne_of_lt hlt
    generalize hfe : h'.objs.size = f at hPf hcf hszh ⊢
    have kp : ∀ b o, b ≠ P0 → s.heap.get? b = some o → (h'.push (PySem.W.fnMade name qual params body sc cl doc ((X.mg "__name__").getD .none) c' ctv)).get? b = some o := fun b o hb e => Heap.get?_push_of_some _ (hxx b o hb e)
    have hof : (h'.push (PySem.W.fnMade name qual params body sc cl doc ((X.mg "__name__").getD .none) c' ctv)).get? f = some (PySem.W.fnMade name qual params body sc cl doc ((X.mg "__name__").getD .none) c' ctv) := by rw [← hfe]; exact Heap.get?_push_size _ rfl
    have hoc : (h'.push (PySem.W.fnMade name qual params body sc cl doc ((X.mg "__name__").getD .none) c' ctv)).CodeRec (.ref c') qual := by
      obtain ⟨c2, oc, vs, t, e, e1, e2, e3⟩ := hrec
      exact ⟨c2, oc, vs, t, e, Heap.get?_push_of_some _ e1, e2, e3⟩
    have hoP : (h'.push (PySem.W.fnMade name qual params body sc cl doc ((X.mg "__name__").getD .none) c' ctv)).get? P0 = some (PySem.W.tabObj (ps ++ #[rawInt pos.line, rawInt pos.col, .ref c'])) := Heap.get?_push_of_some _ htb
    generalize h'.push (PySem.W.fnMade name qual params body sc cl doc ((X.mg "__name__").getD .none) c' ctv) = hh at kp hof hoc hoP ⊢
    generalize hps : ps ++ #[rawInt pos.line, rawInt pos.col, .ref c'] = ps' at hoP
    have nlt : ∀ {b : Addr}, b < s.heap.objs.size → b ≠ c' ∧ b ≠ f := fun hb => ⟨Nat.ne_of_lt (Nat.lt_of_lt_of_le hb hge), Nat.ne_of_lt (Nat.lt_trans hb hszh)⟩
    have get1 : ∀ {b : Addr}, b < s.heap.objs.size → b ≠ P0 → upd (upd (upd H P0 (.tbl ps')) c' (codeHO c' qual)) f (fnHO f name qual params body sc cl c') b = H b := fun hb hbP => by
      rw [upd_ne (nlt hb).2, upd_ne (nlt hb).1, upd_ne hbP]
    have getO : ∀ {b : Addr}, b ≠ P0 → b ≠ c' → b ≠ f → upd (upd (upd H P0 (.tbl ps')) c' (codeHO c' qual)) f (fnHO f name qual params body sc cl c') b = H b := fun h1 h2 h3 => by
      rw [upd_ne h3, upd_ne h2, upd_ne h1]
    have getP : upd (upd (upd H P0 (.tbl ps')) c' (codeHO c' qual)) f (fnHO f name qual params body sc cl c') P0 = some (.tbl ps') := by rw [upd_ne hPf, upd_ne hPc, upd_same]
    have getc : upd (upd (upd H P0 (.tbl ps')) c' (codeHO c' qual)) f (fnHO f name qual params body sc cl c') c' = some (codeHO c' qual) := by rw [upd_ne hcf, upd_same]
    have getf : upd (upd (upd H P0 (.tbl ps')) c' (codeHO c' qual)) f (fnHO f name qual params body sc cl c') f = some (fnHO f name qual params body sc cl c') := upd_same
    generalize upd (upd (upd H P0 (.tbl ps')) c' (codeHO c' qual)) f (fnHO f name qual params body sc cl c') = H1 at get1 getO getP getc getf
    have nP : ∀ {b : Addr}, H b = none → b ≠ P0 := fun n z => by rw [z, hP] at n; cases n
    have keepH : ∀ {b : Addr} {u : HO}, H b = some u → b ≠ P0 → H1 b = some u := fun e hb => by rw [get1 (old e) hb]; exact e
    have notT : ∀ {b : Addr} {u : HO}, H b = some u → (∀ ps, u ≠ .tbl ps) → H1 b = some u := fun e hu => keepH e fun z => by
      rw [z, hP] at e
      cases e
      exact hu _ rfl
    have un : Un X.fs [] H H1 s.heap hh := by
      refine ⟨fun b o e n _ _ => kp b o (nP n) e, fun b o e n _ _ => ⟨o.slots, kp b o (nP n) e⟩, fun b o e n _ => by rw [get1 (Heap.lt_size e) (nP n)]; exact n, fun b o e _ => ?_, fun b xs e => notT e (fun _ z => nomatch z), fun b o u e => notT e (fun _ z => nomatch z), fun b qs e => ?_⟩
      · by_cases hb : b = P0
        · rw [hb]; exact ⟨_, hoP⟩
        · exact ⟨o, kp b o hb e⟩
      · by_cases hb : b = P0
        · rw [hb, hP] at e
          cases e
          rw [hb]
          exact ⟨_, by rw [getP, hps]⟩
        · exact ⟨#[], by rw [keepH e hb]; simp⟩
    have hok1 : HOk X.prog X.w H1 hh := fun a o e => by
      by_cases haf : a = f
      · rw [haf] at e ⊢
        rw [getf] at e
        cases e
        exact fnHO_ok hof
      by_cases hac : a = c'
      · rw [hac] at e ⊢
        rw [getc] at e
        cases e
        exact codeHO_ok hoc
      by_cases haP : a = P0
      · rw [haP] at e ⊢
        rw [getP] at e
        cases e
        exact hoP
      rw [getO haP hac haf] at e
      refine (I.hok a o e).stay (fun b u hb q => kp b u (fun z => ?_) q) (fun b q => notT q (fun _ z => nomatch z)) fun b xs q => notT q (fun _ z => nomatch z)
      rcases hb with hb | hb
      · exact haP (hb ▸ z)
      · rw [z, hP] at hb; cases hb
    have I1 : Inv X pins σ H1 { s with heap := hh, toks := tk } := I.un un hok1
    refine fin I1 (h cl f c' H1 hsub hhas (I.hok.fresh (Nat.le_of_lt hszh)) (Ne.symm hcf) (fun b o hb e => keepH e hb) ⟨ps', getP, ?_, fun q hqs => ?_⟩ getc getf)
    · rw [← hps, Array.toList_append]
      exact triples_app _ _ _ _ _ _ ht
    · rw [← hps, Array.toList_append, among_app _ _ _ ht]
      rcases hall q hqs with hn | ⟨c1, h1, h2⟩
      · rw [hn, Option.none_or]
        by_cases hsame : q.1.line = pos.line ∧ q.1.col = pos.col
        · refine .inr ⟨c', ?_, ?_⟩
          · show codeAmong q.1 [rawInt pos.line, rawInt pos.col, .ref c'] = _
            simp [codeAmong, rawInt, hsame.1, hsame.2]
          · rw [hsites q hqs hsame.1 hsame.2]
            exact getc
        · refine .inl ?_
          show codeAmong q.1 [rawInt pos.line, rawInt pos.col, .ref c'] = _
          simp only [codeAmong, rawInt]
          rw [if_neg]
          intro z
          simp at z
          exact hsame ⟨by omega, by omega⟩
      · rw [h1, Option.some_or]
        exact .inr ⟨c1, rfl, notT h2 (fun _ z => nomatch z)⟩
  · refine PySem.W.makeFunction_hit (mg := X.mg) hclos I.ok.glob hgs hcode hC' hPh ht hhit hbP fun ctv doc h' tk hk hsz => ?_
    have I1 : Inv X pins σ (upd H h'.objs.size (fnHO h'.objs.size name qual params body sc cl c0)) { s with heap := h'.push (PySem.W.fnMade name qual params body sc cl doc ((X.mg "__name__").getD .none) c0 ctv), toks := tk } :=
      I.laid (fun b u e => Heap.get?_push_of_some _ (hk b u e)) hsz (fnHO_ok (Heap.get?_push_size _ rfl))
    have hfn : H h'.objs.size = none := I.hok.fresh hsz
    have kH : ∀ {b : Addr} {u : HO}, H b = some u → upd H h'.objs.size (fnHO h'.objs.size name qual params body sc cl c0) b = some u := fun e => by rw [upd_ne (ne_of_none e hfn)]; exact e
    refine fin I1 (h cl _ c0 _ hsub hhas hfn (Ne.symm (ne_of_none hc0 hfn)) (fun b o _ e => kH e) ⟨ps, kH hP, ht, fun q hqs => ?_⟩ (kH hc0) upd_same)
    rcases hall q hqs with hn | ⟨c1, h1, h2⟩
    · exact .inl hn
    · exact .inr ⟨c1, h1, kH h2⟩
end L2

namespace L2
open PySem PySem.Spec PyProof.Rows
/-! ## a call to which functions of the caller's own are handed: they, and the caller's cells, belong to the callee's base -/
def untr (U : List Addr) (H : Hp) : Hp := fun b => if b ∈ U then none else H b
def retr (U : List Addr) (H H' : Hp) : Hp := fun b => if b ∈ U then H b else H' b
theorem untr_in {U : List Addr} {H : Hp} {b : Addr} (h : b ∈ U) : untr U H b = none := if_pos h
theorem untr_out {U : List Addr} {H : Hp} {b : Addr} (h : b ∉ U) : untr U H b = H b := if_neg h
theorem retr_in {U : List Addr} {H H' : Hp} {b : Addr} (h : b ∈ U) : retr U H H' b = H b := if_pos h
theorem retr_out {U : List Addr} {H H' : Hp} {b : Addr} (h : b ∉ U) : retr U H H' b = H' b := if_neg h
theorem Mod.keeps {K : PySem.W.Frag} {mg : Str → Option Value} {h h' : Heap} (M : Mod K mg h) (k : ∀ b o, h.get? b = some o → h'.get? b = some o) : Mod K mg h' :=
  ⟨M.kin.keeps k, M.glob.keeps k, let ⟨mb, a, b⟩ := M.blt; ⟨mb, a.keeps k, b⟩, M.nolimit.keeps k⟩
section
variable {P : Program} {w : World} {K : PySem.W.Frag} {mg : Str → Option Value} {base : Heap} {A : Around} {outer : List Env} {s : Shared} {H : Hp} {U : List Addr}
theorem wide_env (e0 : Env0 P w K mg base A outer s H) (hU : ∀ u ∈ U, ∃ φ, H u = some (.ext φ)) :
    ∃ base', Env0 P w K mg base' A outer s (untr U H) ∧ (∀ b o, base.get? b = some o → base'.get? b = some o) ∧ ∀ b o, s.heap.get? b = some o → b ∉ frs outer → untr U H b = none → base'.get? b = some o := by
  have hget : ∀ b o, s.heap.get? b = some o → b ∉ frs outer → untr U H b = none → (PySem.W.hideAll s.heap (trk s.heap (untr U H) ++ frs outer)).get? b = some o := fun b o e hf hn => PySem.W.hideAll_get _ e fun hm => by
    rcases List.mem_append.mp hm with z | z
    · have q : ((untr U H) b).isSome = true := (List.mem_filter.mp z).2
      rw [hn] at q
      cases q
    · exact hf z
  have notU : ∀ b, H b = none → b ∉ U := fun b n z => by
    obtain ⟨φ, e⟩ := hU b z
    rw [n] at e
    cases e
  have sub : ∀ b o, base.get? b = some o → (PySem.W.hideAll s.heap (trk s.heap (untr U H) ++ frs outer)).get? b = some o := fun b o e => by
    obtain ⟨e1, n⟩ := e0.bs b o e
    refine hget b o e1 (fun z => ?_) (by rw [untr_out (notU b n)]; exact n)
    have := (e0.funs.mem z).1
    rw [e] at this
    cases this
  have keepO : ∀ {b : Addr} {u : HO}, H b = some u → (∀ φ, u ≠ .ext φ) → untr U H b = some u := fun {b u} e hu => by
    rw [untr_out fun z => ?_]
    · exact e
    · obtain ⟨φ, e'⟩ := hU b z
      rw [e] at e'
      exact hu φ (Option.some.inj e')
  refine ⟨PySem.W.hideAll s.heap (trk s.heap (untr U H) ++ frs outer), ⟨e0.frames, e0.mod.keeps sub, fun b o e => ?_, Nat.le_of_eq (PySem.W.hideAll_size _ _), frames_hid e0.funs fun b hb => List.mem_append_right _ hb, fun b hb => ?_, fun a o e => ?_, e0.bare⟩, sub, hget⟩
  · have e1 := PySem.W.of_hideAll _ e
    refine ⟨e1, ?_⟩
    cases q : untr U H b with
    | none => rfl
    | some u =>
      have hm : b ∈ trk s.heap (untr U H) ++ frs outer := List.mem_append_left _ (List.mem_filter.mpr ⟨List.mem_range.mpr (Heap.lt_size e1), by simp [q]⟩)
      rw [PySem.W.hideAll_none _ hm] at e
      cases e
  · rw [untr_out (notU b (e0.frf b hb))]
    exact e0.frf b hb
  · have ha : a ∉ U := fun z => by rw [untr_in z] at e; cases e
    rw [untr_out ha] at e
    exact (e0.hok a o e).stay (fun _ _ _ q => q) (fun b q => keepO q (fun _ z => nomatch z)) fun b xs q => keepO q (fun _ z => nomatch z)
theorem wide_back (e0 : Env0 P w K mg base A outer s H) (hU : ∀ u ∈ U, ∃ φ, H u = some (.ext φ)) {Q : VK} {u : Value} {s' : Shared} (h : CE outer P w (untr U H) s (fun v H2 => (∀ u ∈ U, H2 u = none) → Q v (retr U H H2)) u s') : CE outer P w H s Q u s' := by
  obtain ⟨v, H', os, bare, un, hok, r, q⟩ := h
  have notU : ∀ b, H b = none → b ∉ U := fun b n z => by
    obtain ⟨φ, e⟩ := hU b z
    rw [n] at e
    cases e
  have notF : ∀ b ∈ U, b ∉ frs outer := fun b hb z => notU b (e0.frf b z) hb
  have stays : ∀ b ∈ U, ∃ o, s.heap.get? b = some o ∧ s'.heap.get? b = some o ∧ H' b = none := fun b hb => by
    obtain ⟨φ, e⟩ := hU b hb
    obtain ⟨_, ⟨o, ho⟩, _⟩ := e0.hok b _ e
    exact ⟨o, ho, un.keep b o ho (untr_in hb) (notF b hb) (by simp), un.free b o ho (untr_in hb) (by simp)⟩
  have keepT : ∀ {b : Addr} {x : HO}, H b = some x → (∀ φ, x ≠ .ext φ) → b ∉ U := fun {b x} e hx z => by
    obtain ⟨φ, e'⟩ := hU b z
    rw [e] at e'
    exact hx φ (Option.some.inj e')
  have keepH : ∀ {b : Addr} {x : HO}, H' b = some x → retr U H H' b = some x := fun {b x} e => by
    rw [retr_out fun z => ?_]
    · exact e
    · obtain ⟨_, _, _, n⟩ := stays b z
      rw [e] at n
      cases n
  refine ⟨v, retr U H H', os, bare, ⟨fun b o e n hb hx => ?_, fun b o e n hb hx => ?_, fun b o e n hx => ?_, un.there, fun b xs e => ?_, fun b o x e => ?_, fun b ps e => ?_⟩, fun a o e => ?_, r, q fun b hb => (stays b hb).choose_spec.2.2⟩
  · exact un.keep b o e (by rw [untr_out (notU b n)]; exact n) hb hx
  · exact un.slot b o e (by rw [untr_out (notU b n)]; exact n) hb hx
  · rw [retr_out (notU b n)]
    exact un.free b o e (by rw [untr_out (notU b n)]; exact n) hx
  · have hb := keepT e (fun _ z => nomatch z)
    rw [retr_out hb]
    exact un.tups b xs (by rw [untr_out hb]; exact e)
  · have hb := keepT e (fun _ z => nomatch z)
    rw [retr_out hb]
    exact un.frzs b o x (by rw [untr_out hb]; exact e)
  · have hb := keepT e (fun _ z => nomatch z)
    rw [retr_out hb]
    exact un.tbls b ps (by rw [untr_out hb]; exact e)
  · by_cases ha : a ∈ U
    · rw [retr_in ha] at e
      obtain ⟨φ, e'⟩ := hU a ha
      rw [e'] at e
      cases e
      obtain ⟨o, ho, ho', _⟩ := stays a ha
      obtain ⟨p1, _, p3⟩ := e0.hok a _ e'
      exact ⟨p3 _ _ p1 (fun o2 z => by rw [ho] at z; cases z; exact ho'), ⟨o, ho'⟩, p3⟩
    · rw [retr_out ha] at e
      exact (hok a o e).stay (fun _ _ _ z => z) (fun b z => keepH z) fun b xs z => keepH z
end
/-- what the callee's base has of the caller: its functions, its cells -/
structure WideAt (X : Cx) (U : List Addr) (σ : St) (H : Hp) (base' : Heap) : Prop where
  sub : ∀ b o, X.base.get? b = some o → base'.get? b = some o
  mod : Mod X.K X.mg base'
  ext : ∀ u φ, u ∈ U → H u = some (.ext φ) → φ base'
  inj : ∀ y z c, X.env.cells.lookup y = some c → X.env.cells.lookup z = some c → y = z
  cell : ∀ y c, X.env.cells.lookup y = some c → ∃ v, base'.IsCell c v
  val : ∀ (i : Nat) (y : Str) (v : V), X.N[i]? = some y → σ[i]? = some (some v) → X.env.scope.names.lookup y = some .cell → ∃ c u, X.env.cells.lookup y = some c ∧ base'.IsCell c (some u) ∧ RelV v u
def tWide (X : Cx) (f : Addr) (fd : FuncData) (ps : List Str) (dvs : List V) (t : TA) : TE := fun σ H Q => t σ H fun vs H1 => ∃ U : List Addr, (∀ u ∈ U, ∃ φ, H1 u = some (.ext φ)) ∧ ∀ base' : Heap, WideAt X U σ H1 base' →
  ∃ (k : Nat) (sp : Sp), Room k X.A ∧ FnOk X.prog X.w X.K X.mg base' CX0 k f fd ps sp ∧ sp (vs ++ dvs) (untr U H1) (fun v H2 => (∀ u ∈ U, H2 u = none) → Q v (retr U H1 H2)) E0
theorem pe_wide {X : Cx} {f : Addr} {fd : FuncData} {ps : List Str} {dvs : List V} {ds : List Value} {x : Str} {p pos : Pos} {e : Expr} {es : List Expr} {t : TA} (hg : Gl X x) (hm : X.mg x = some (.ref f)) (hk : PySem.W.keepIn X.K (.ref f) = true) (hb : Binds X.K fd ps ds) (hd : Vals dvs ds) (ha : PA X (e :: es) t)
    (hfn : ∀ y, X.fn y = true) (hdb : (x == ("__debug__" : Str)) = false := by decide) (he : starEach (e :: es) X.env = (false, eval e X.env) :: starEach es X.env := by rfl) (hpl : (backTo pos (starEach es X.env)).any (·.1) = false := by rfl) :
    PE X (.Call (.Name x p) (e :: es) [] pos) (tWide X f fd ps dvs t) := by
  intro pins s σ H Q I h
  refine wpAny_Call_Name_kw (ld_glob I hg hm ?_ hdb)
  refine PySem.W.callWith_K (h₀ := X.base) I.ok.mod.kin hk (thn (ha pos pins s σ H _ I h) fun us s1 ⟨vs, H1, I1, r, q⟩ => ⟨I1.kIn, ?_⟩) he hpl
  obtain ⟨U, hU, q⟩ := q
  obtain ⟨base', e0, hsub, hget⟩ := wide_env I1.env0 hU
  have cellB : ∀ y c v, X.env.cells.lookup y = some c → s1.heap.IsCell c v → base'.IsCell c v := fun y c v hc ⟨o, ho, hdd⟩ => by
    have hn := I1.freeC y c hc
    refine ⟨o, hget c o ho (fun z => ?_) ?_, hdd⟩
    · rcases List.mem_cons.mp (I1.stkSub c z) with z | z
      · exact I1.cne y c hc z
      · obtain ⟨_, o', ho', _⟩ := I1.ok.funs.mem z
        exact absurd (Heap.lt_size ho') (Nat.not_lt.mpr (I1.ok.cab y c (hfn y) hc))
    · unfold untr
      split
      · rfl
      · exact hn
  have W : WideAt X U σ H1 base' := by
    refine ⟨hsub, e0.mod, fun u φ hu e => ?_, I1.ok.inj, fun y c hc => ?_, fun i y v e1 e2 e3 => ?_⟩
    · obtain ⟨p1, ⟨o, ho⟩, p3⟩ := I1.hok u _ e
      refine p3 _ _ p1 fun o2 z => hget u o2 z (fun y => ?_) (untr_in hu)
      rw [I1.stkFree u y] at e
      cases e
    · obtain ⟨v, z⟩ := I1.cell y c hc
      exact ⟨v, cellB y c v hc z⟩
    · obtain ⟨m, hn, hl⟩ := I1.loc
      obtain ⟨u, ru, lk⟩ := hl i y v e1 e2 (.inr (.inl e3))
      rcases lk with ⟨k1, _⟩ | ⟨_, c, hc, z⟩
      · have : X.env.scope.names.lookup y = some .local := k1
        rw [e3] at this
        cases this
      · exact ⟨c, u, hc, cellB y c _ hc z, ru⟩
  obtain ⟨k, sp, hr, F, hsp⟩ := q base' W
  have r2 : Vals (vs ++ dvs) (us ++ ds) := r.append hd
  have hl : (us ++ ds).length = ps.length := by rw [← r2.length]; exact F.len _ _ _ _ hsp
  refine wpAny_call (codeAny_mono (F.run X.A X.stack s1 (untr U H1) ⟨us, []⟩ (us ++ ds) (vs ++ dvs) _ E0 hr e0 (hb s1 us I1.kIn hl) r2 hsp) fun r s' hq => ?_)
  cases r with
  | error e => exact False.elim hq
  | ok fl =>
    cases fl with
    | ret u => exact I1.after (wide_back I1.env0 hU hq)
    | next => exact False.elim hq
    | brk => exact False.elim hq
    | cont => exact False.elim hq
end L2

namespace L2
open PySem PySem.Spec PyProof.Rows
/-! ## the head where defs make functions: the written part without the tables of their codes, which are tracked -/
def dropTab (ts : List Addr) (K : PySem.W.Frag) : PySem.W.Frag := K.filter fun q => !ts.contains q.1
theorem lk_drop {ts : List Addr} {a : Addr} (hn : ts.contains a = false) : ∀ {K : PySem.W.Frag}, (dropTab ts K).lookup a = K.lookup a
  | [] => rfl
  | (b, x) :: r => by
    unfold dropTab
    rw [List.filter_cons]
    by_cases hb : a = b
    · subst hb
      rw [if_pos (by simpa using hn), List.lookup_cons, List.lookup_cons]
      simp
    · have hb' : (a == b) = false := beq_eq_false_iff_ne.mpr hb
      split
      · rw [List.lookup_cons, List.lookup_cons, hb']
        exact lk_drop (K := r) hn
      · rw [List.lookup_cons, hb']
        exact lk_drop (K := r) hn
theorem of_drop {ts : List Addr} {a : Addr} {o : Obj} : ∀ {K : PySem.W.Frag}, (dropTab ts K).lookup a = some o → ts.contains a = false
  | [], e => by cases e
  | (b, x) :: r, e => by
    unfold dropTab at e
    rw [List.filter_cons] at e
    split at e
    · rename_i hc
      rw [List.lookup_cons] at e
      by_cases hb : a = b
      · subst hb
        simpa using hc
      · rw [beq_eq_false_iff_ne.mpr hb] at e
        exact of_drop (K := r) e
    · exact of_drop (K := r) e
theorem lkD {ts : List Addr} {K : PySem.W.Frag} {a : Addr} {o : Obj} (e : K.lookup a = some o) (hn : ts.contains a = false) : (dropTab ts K).lookup a = some o := (lk_drop hn).trans e
theorem nsD {ts : List Addr} {K : PySem.W.Frag} {a : Addr} {x : Str} {r : Option (Option Value)} (e : PySem.W.nsIn K a x = r) (hn : ts.contains a = false) : PySem.W.nsIn (dropTab ts K) a x = r := by
  unfold PySem.W.nsIn at e ⊢
  rw [lk_drop hn]
  exact e
theorem cdD {ts : List Addr} {K : PySem.W.Frag} {c : Addr} {x : Str} (e : PySem.W.codeIn K (.ref c) x = true) (hn : ts.contains c = false) : PySem.W.codeIn (dropTab ts K) (.ref c) x = true := by
  unfold PySem.W.codeIn at e ⊢
  dsimp only at e ⊢
  rw [lk_drop hn]
  exact e
/-- the code object at c, its table at P -/
def codeTab (K : PySem.W.Frag) (c P : Addr) : Bool := match K.lookup c with
  | some ⟨.type n, _, .fields vs, _⟩ => n == "code" && c != P && (match (vs[11]? : Option Value), (vs[18]? : Option Value), (vs[7]? : Option Value), (vs[9]? : Option Value), (vs[10]? : Option Value) with
      | some (.ref Q), some (.str _ _), some (.int _ _), some (.bool _), some (.int _ _) => Q == P
      | _, _, _, _, _ => false)
  | _ => false
theorem codeTab_of {K : PySem.W.Frag} {h : Heap} {c P : Addr} (X : K.In h) (e : codeTab K c P = true) : PySem.W.CodeHd h c P := by
  unfold codeTab at e
  split at e
  · rename_i n dd vs sl hl
    have ho := X _ _ hl
    rw [Bool.and_eq_true, Bool.and_eq_true] at e
    obtain ⟨⟨e1, e2⟩, e3⟩ := e
    split at e3
    · rename_i Q s t i u b j v h1 h2 h3 h4 h5
      have hQ : Q = P := eq_of_beq e3
      subst hQ
      have gd : ∀ {k : Nat} {x : Value}, vs[k]? = some x → vs.getD k .none = x := fun {k x} z => by
        rw [Array.getD_eq_getD_getElem?, z]
        rfl
      exact ⟨_, vs, s, t, i, u, b, j, v, ho, by rw [eq_of_beq e1], rfl, h1, gd h1, gd h2, gd h3, gd h4, gd h5, by simpa using e2⟩
    · cases e3
  · cases e
structure TabIn (K : PySem.W.Frag) (q : Addr × Addr) : Prop where
  code : codeTab K q.1 q.2 = true
  tab : K.lookup q.2 = some (PySem.W.tabObj #[])
/-- the law's own promise: the tables are empty -/
def spLawT (K : PySem.W.Frag) (tabs : List (Addr × Addr)) : Sp := fun vs H Q _ => ∃ (a : Addr) (ns : List Int), vs = [.ref a] ∧ SqL K H a (ns.map V.int) ∧ ns.length ≤ 63 ∧ (∀ q ∈ tabs, H q.2 = some (.tbl #[])) ∧ ∀ H', Q (.bl true) H'
theorem codeHd_same {h h' : Heap} {c P : Addr} (x : PySem.W.CodeHd h c P) (k : ∀ o, o.cls = .type "code" → h.get? c = some o → h'.get? c = some o) : PySem.W.CodeHd h' c P := by
  obtain ⟨o, vs, file, tf, flags, tg, inF, text, tt, e, r1, r⟩ := x
  exact ⟨o, vs, file, tf, flags, tg, inF, text, tt, k o r1 e, r1, r⟩
theorem law_callT {P : Program} {w : World} {K : PySem.W.Frag} {mg mb : Str → Option Value} {k : Nat} {fa a : Addr} {fd : FuncData} {x : Str} {s₁ : Shared} {vs : List Value} {ns : List Int} {tabs : List (Addr × Addr)}
    (KX : K.In s₁.heap) (hT : ∀ q ∈ tabs, TabIn K q) (hns : s₁.heap.Ns mainGlobals mg) (hB : BltAt s₁.heap mg) (hb : s₁.heap.Ns builtinsNs mb) (hbb : ∀ x : Str, x ≠ "__name__" → mb x = bootBuiltins x) (hlim : s₁.heap.NoLimit) (hg : s₁.gens = #[])
    (ha : s₁.heap.get? a = some { cls := .type "list", data := .seq vs.toArray }) (hi : IntsAre vs ns) (hl : ns.length ≤ 63) (hr : Room k callerA)
    (F : ∀ base : Heap, (dropTab (tabs.map (·.2)) K).In base → base.Ns mainGlobals mg → BltAt base mg → (∀ q ∈ tabs, PySem.W.CodeHd base q.1 q.2) → FnOk P w (dropTab (tabs.map (·.2)) K) mg base CX0 k fa fd [x] (spLawT (dropTab (tabs.map (·.2)) K) tabs)) (hbind : ∀ (s : Shared) (u : Value), BindsTo s fd ⟨[u], []⟩ [(x, u)]) :
    codeAny (model P w) callerA (.call (.ref fa) ⟨[.ref a], []⟩) (fun r s' => r = .ok (.ret (.bool true)) ∧ OldK s₁.heap s'.heap ∧ s'.os = s₁.os ∧ AllBare s'.gens) s₁ := by
  have rv := vals_ints hi
  have lenV := hi.length
  have hls : ns.length ≤ sizeLine := Nat.le_trans hl (by rw [sizeLine_eq]; decide)
  have tabH : ∀ q ∈ tabs, s₁.heap.get? q.2 = some (PySem.W.tabObj #[]) := fun q hq => KX _ _ (hT q hq).tab
  have hd : ∀ q ∈ tabs, PySem.W.CodeHd s₁.heap q.1 q.2 := fun q hq => codeTab_of KX (hT q hq).code
  have inT : ∀ {b : Addr}, (tabs.map (·.2)).contains b = true → ∃ q ∈ tabs, q.2 = b := fun {b} hb => by
    rw [List.contains_iff_mem] at hb
    obtain ⟨q, hq, e⟩ := List.mem_map.mp hb
    exact ⟨q, hq, e⟩
  have memT : ∀ {q : Addr × Addr}, q ∈ tabs → (tabs.map (·.2)).contains q.2 = true := fun {q} hq => by
    rw [List.contains_iff_mem]
    exact List.mem_map_of_mem hq
  have aT : (tabs.map (·.2)).contains a = false := by
    cases z : (tabs.map (·.2)).contains a with
    | false => rfl
    | true =>
      obtain ⟨q, hq, e⟩ := inT z
      have e1 := tabH q hq
      rw [e, ha] at e1
      cases e1
  -- nothing but the script and the tables is tracked
  have core : ∀ H : Hp, SqL (dropTab (tabs.map (·.2)) K) H a (ns.map V.int) → HOk P w H s₁.heap → (∀ b, H b = none ∨ (b = a ∧ K.lookup a = none ∧ H b = some (.frz { cls := .type "list", data := .seq vs.toArray } (.lst (ns.map V.int)))) ∨ ((tabs.map (·.2)).contains b = true ∧ H b = some (.tbl #[]))) →
      (∀ q ∈ tabs, H q.2 = some (.tbl #[])) →
      codeAny (model P w) callerA (.call (.ref fa) ⟨[.ref a], []⟩) (fun r s' => r = .ok (.ret (.bool true)) ∧ OldK s₁.heap s'.heap ∧ s'.os = s₁.os ∧ AllBare s'.gens) s₁ := by
    intro H hS hok hO hTH
    have base_of : ∀ {b : Addr} {o : Obj}, s₁.heap.get? b = some o → H b = none → (hidT s₁.heap H).get? b = some o := fun e n => hidT_get e n
    have freeOf : ∀ {b : Addr} {o : Obj}, s₁.heap.get? b = some o → b ≠ a → o ≠ PySem.W.tabObj #[] → H b = none := fun {b o} e hne hno => by
      rcases hO b with z | ⟨z, _⟩ | ⟨z, _⟩
      · exact z
      · exact absurd z hne
      · obtain ⟨q, hq, e2⟩ := inT z
        have e1 := tabH q hq
        rw [e2, e] at e1
        exact absurd (Option.some.inj e1) hno
    have nsK : ∀ {b : Addr} {m : Str → Option Value}, s₁.heap.Ns b m → (hidT s₁.heap H).Ns b m := fun {b m} ⟨o, es, ep, e, d, r⟩ => ⟨o, es, ep, base_of e (freeOf e (fun z => by rw [z, ha] at e; cases e; cases d) (fun z => by rw [z] at d; cases d)), d, r⟩
    have hKb : (dropTab (tabs.map (·.2)) K).In (hidT s₁.heap H) := fun b o e => by
      have hn := of_drop e
      have e1 := KX b o ((lk_drop hn).symm.trans e)
      refine base_of e1 ?_
      rcases hO b with z | ⟨z, z2, _⟩ | ⟨z, _⟩
      · exact z
      · rw [lk_drop hn, z, z2] at e
        cases e
      · rw [hn] at z
        cases z
    have hBb : BltAt (hidT s₁.heap H) mg := by
      obtain ⟨bm, o, e1, e2, e3, e4, e5, e6, e7⟩ := hB.ex
      exact ⟨bm, o, e1, e2, e3, base_of e4 (freeOf e4 (fun z => by rw [z, ha] at e4; cases e4; cases e7) (fun z => by rw [z] at e7; cases e7)), e5, e6, e7⟩
    have hCb : ∀ q ∈ tabs, PySem.W.CodeHd (hidT s₁.heap H) q.1 q.2 := fun q hq => codeHd_same (hd q hq) fun o hc e => base_of e (freeOf e (fun z => by rw [z, ha] at e; cases e; injection hc with hc; exact absurd hc (by decide)) (fun z => by rw [z] at hc; cases hc))
    have hM : Mod (dropTab (tabs.map (·.2)) K) mg (hidT s₁.heap H) := ⟨hKb, nsK hns, ⟨mb, nsK hb, hbb⟩, let ⟨mc, h1, h2⟩ := hlim; ⟨mc, nsK h1, h2⟩⟩
    have e0 : Env0 P w (dropTab (tabs.map (·.2)) K) mg (hidT s₁.heap H) callerA [] s₁ H := ⟨rfl, hM, fun b o e => of_hidT e, Nat.le_of_eq (hidT_size _ _), trivial, fun b hb => absurd (show b ∈ ([] : List Addr) from hb) (by simp), hok, .of_eq hg⟩
    refine codeAny_mono ((F _ hKb (nsK hns) hBb hCb).run callerA [] s₁ H ⟨[.ref a], []⟩ [.ref a] [.ref a] (fun v _ => v = .bl true) (fun _ _ _ => False) hr e0 (hbind s₁ (.ref a)) (.cons rfl .nil) ⟨a, ns, rfl, hS, hl, hTH, fun _ => rfl⟩) fun r s' h => ?_
    cases r with
    | error e => exact False.elim h
    | ok fl =>
      cases fl with
      | next => exact False.elim h
      | brk => exact False.elim h
      | cont => exact False.elim h
      | ret u =>
        obtain ⟨v, H', os, bare, un, hok', r', q⟩ := h
        have q' : v = .bl true := q
        subst q'
        obtain rfl : u = Value.bool true := r'
        refine ⟨rfl, ⟨fun b o e => ?_, fun b o e => un.there b o e (by simp)⟩, os, bare⟩
        rcases hO b with z | ⟨z1, _, z⟩ | ⟨z1, z⟩
        · exact .inl (un.keep b o e z (by intro y; exact absurd (show b ∈ ([] : List Addr) from y) (by simp)) (by simp))
        · obtain ⟨e1, _⟩ := hok b _ z
          obtain ⟨e2, _⟩ := hok' b _ (un.frzs b _ _ z)
          rw [e] at e1
          cases e1
          exact .inl e2
        · obtain ⟨q, hq, e2⟩ := inT z1
          obtain ⟨more, z3⟩ := un.tbls b _ z
          have e3 : s'.heap.get? b = some { cls := .none, data := .fields (#[] ++ more) } := hok' b _ z3
          have e4 := tabH q hq
          rw [e2, e] at e4
          cases e4
          refine .inr (.inl ⟨?_, rfl, #[], more, rfl, e3⟩)
          have := ((hd q hq).tab (tabH q hq)).isCodeTable
          rw [e2] at this
          exact this
  have aOk : ∀ {H : Hp} {b : Addr}, (tabs.map (·.2)).contains b = true → ObjOk P w H s₁.heap b (.tbl #[]) := fun {H b} z => by
    obtain ⟨q, hq, e⟩ := inT z
    have e1 := tabH q hq
    rw [e] at e1
    exact e1
  cases hk : K.lookup a with
  | some o =>
    have e := KX a o hk
    rw [ha] at e
    cases e
    refine core (fun b => if (tabs.map (·.2)).contains b = true then some (.tbl #[]) else none) (.inr ⟨_, vs.toArray, _, (lk_drop aT).trans hk, rfl, rfl, rfl, by rw [List.size_toArray, lenV]; exact hls, by simpa using rv⟩) (fun b u z => ?_) (fun b => ?_) (fun q hq => if_pos (memT hq))
    · by_cases hb : (tabs.map (·.2)).contains b = true
      · have z' := (if_pos hb).symm.trans z
        cases z'
        exact aOk hb
      · have z' := (if_neg hb).symm.trans z
        cases z'
    · by_cases hb : (tabs.map (·.2)).contains b = true
      · exact .inr (.inr ⟨hb, if_pos hb⟩)
      · exact .inl (if_neg hb)
  | none =>
    refine core (fun b => if b = a then some (.frz { cls := .type "list", data := .seq vs.toArray } (.lst (ns.map V.int))) else if (tabs.map (·.2)).contains b = true then some (.tbl #[]) else none) (.inl (.inr ⟨{ cls := .type "list", data := .seq vs.toArray }, if_pos rfl⟩)) (fun b u z => ?_) (fun b => ?_) (fun q hq => ?_)
    · by_cases hb : b = a
      · have z' := (if_pos hb).symm.trans z
        cases z'
        subst hb
        exact ⟨ha, by rw [List.length_map]; exact hls, vs, _, rv, ha⟩
      · have z' := (if_neg hb).symm.trans z
        by_cases hb2 : (tabs.map (·.2)).contains b = true
        · have z2 := (if_pos hb2).symm.trans z'
          cases z2
          exact aOk hb2
        · have z2 := (if_neg hb2).symm.trans z'
          cases z2
    · by_cases hb : b = a
      · exact .inr (.inl ⟨hb, hk, if_pos hb⟩)
      · by_cases hb2 : (tabs.map (·.2)).contains b = true
        · exact .inr (.inr ⟨hb2, (if_neg hb).trans (if_pos hb2)⟩)
        · exact .inl ((if_neg hb).trans (if_neg hb2))
    · have hne : q.2 ≠ a := fun z => by
        have := memT hq
        rw [z, aT] at this
        cases this
      exact (if_neg hne).trans (if_pos (memT hq))
theorem walk63t {l : PySem.W.OpenLaw} {k : Nat} {x : Str} {q : Program} {loose : List Str} {XP : (Str → Option Value) → Heap → Prop} {d : DefRec} {K : Params → PySem.W.Frag} {tabs : List (Addr × Addr)} (hn : l.most = some 63) (hdf : d.params.defaults = []) (hr : Room k callerA) (hT : ∀ p, ∀ q ∈ tabs, TabIn (K p) q)
    (F : ∀ (w : World) (mg : Str → Option Value) (fa : Addr) (h : Heap), (dropTab (tabs.map (·.2)) (K w.params)).In h → h.Ns mainGlobals mg → mg d.name = some (.ref fa) →
      ∃ fd : FuncData, (∀ (s : Shared) (u : Value), BindsTo s fd ⟨[u], []⟩ [(x, u)]) ∧ ∀ base : Heap, (dropTab (tabs.map (·.2)) (K w.params)).In base → base.Ns mainGlobals mg → BltAt base mg → (∀ q ∈ tabs, PySem.W.CodeHd base q.1 q.2) →
        FnOk l.prog w (dropTab (tabs.map (·.2)) (K w.params)) mg base CX0 k fa fd [x] (spLawT (dropTab (tabs.map (·.2)) (K w.params)) tabs)) :
    PySem.W.WalkO q loose XP (fun w h => (K w.params).In h) l.row.toRowW d [] (fun f vs => PySem.call f vs) := by
  refine Att.attach_call hn hdf fun w s₀ s₁ mg mb fa o pm cd doc a vs ns G Y ho hd hcd hmg hobj hints hlen hg => ?_
  have KX : (K w.params).In s₁.heap := Y
  have KD : (dropTab (tabs.map (·.2)) (K w.params)).In s₁.heap := fun b o e => KX b o ((lk_drop (of_drop e)).symm.trans e)
  obtain ⟨fd, hb, hF⟩ := F w mg fa _ KD G.T.g hmg
  obtain ⟨bm, ob, b1, b2, b3, b4, b5, b6⟩ := G.T.bmain
  have hbG : bm ≠ mainGlobals := fun z => by
    obtain ⟨o, es, ep, e, hd, _⟩ := G.T.g
    rw [z, e] at b3; cases b3; rw [hd] at b6; cases b6
  exact law_callT KX (hT w.params) G.T.g ⟨bm, ob, b1, b2, hbG, b3, b4, b5, b6⟩ G.T.b G.T.builtins G.T.nolimit hg hobj hints hlen hr hF hb
end L2

namespace L2
open PySem PySem.Spec PyProof.Rows
/-! ## zip over two things, each a text, a tuple or a list -/
inductive Sd where
  | tx (x : Str) (k : Tok) | tp (a : Addr) | ls (a : Addr)
namespace Sd
def vl : Sd → V
  | .tx x _ => .str x
  | .tp a => .ref a
  | .ls a => .ref a
def vu : Sd → Value
  | .tx x t => .str x t
  | .tp a => .ref a
  | .ls a => .ref a
/-- where the walk stands -/
def pl : Sd → Addr → Nat → Heap → Prop
  | .tx x t, it, i, h => ZP.strAt x t it i h
  | .tp a, it, i, h => h.IsTupleIter it a i
  | .ls a, it, i, h => h.IsListIter it a i
def it0 : Sd → Obj
  | .tx x t => ZP.strIt x t
  | .tp a => ZP.tupIt a
  | .ls a => { cls := .type "list_iterator", data := .fields #[.ref a, .int 0 0] }
def hp : Sd → Array Value → Heap → Prop
  | .tx _ _, _, _ => True
  | .tp a, its, h => h.IsTuple a its
  | .ls a, its, h => h.IsList a its
/-- what it holds -/
def has : Sd → Hp → List V → Prop
  | .tx x _, _, xs => xs = x.cps.toList.map fun c => V.str ⟨#[c]⟩
  | .tp a, H, xs => H a = some (.tup xs)
  | .ls a, H, xs => H a = some (.lst xs)
end Sd
theorem it0_at {h : Heap} {d : Sd} {it : Addr} (e : h.get? it = some d.it0) : d.pl it 0 h := by
  cases d with
  | tx x t => exact ⟨_, e, rfl, rfl⟩
  | tp a => exact ⟨_, e, rfl, rfl⟩
  | ls a => exact ⟨_, e, rfl, rfl⟩
theorem it0_live (d : Sd) : d.it0.isFreed = false := by cases d <;> rfl
namespace ZP
def madeG (h : Heap) (o1 o2 : Obj) : Heap :=
  ((((h.push o1).push o2).push { cls := .type "tuple", data := .seq #[.ref h.objs.size, .ref (h.objs.size + 1)] }).push { cls := .type "tuple", data := .seq #[.none, .none] }).push
    { cls := .type "zip", data := .fields #[.none, .bool false, .bool false, .ref (h.objs.size + 2), .ref (h.objs.size + 3)] }
section
variable {prog : Program} {w : World} {A : Around} {E : Value → Shared → Prop} {s : Shared}
theorem iter_lst {a : Addr} {items : Array Value} {Q : Value → Shared → Prop} (ht : s.heap.IsList a items) (h : Q (.ref s.heap.objs.size) { s with heap := s.heap.push (Sd.ls a).it0 }) : wpAny (model prog w) A (pyIter (.ref a)) Q E s := wpAny_pyIter_list ht h
theorem iter_st {x : Str} {t : Tok} {Q : Value → Shared → Prop} (h : Q (.ref s.heap.objs.size) { s with heap := s.heap.push (Sd.tx x t).it0 }) : wpAny (model prog w) A (pyIter (.str x t)) Q E s := iter_text h
theorem iter_tp {a : Addr} {items : Array Value} {Q : Value → Shared → Prop} (ht : s.heap.IsTuple a items) (h : Q (.ref s.heap.objs.size) { s with heap := s.heap.push (Sd.tp a).it0 }) : wpAny (model prog w) A (pyIter (.ref a)) Q E s := iter_tup ht h
end
abbrev MeetG (d1 d2 : Sd) : Prop := ∀ xs ys : Array Value, Meets (Builtin.«zip.__new__» ⟨[.type "zip", d1.vu, d2.vu], []⟩) (fun _ R s => d1.hp xs s.heap ∧ d2.hp ys s.heap ∧ R (.ok (.ret (.ref (s.heap.objs.size + 4)))) { s with heap := madeG s.heap d1.it0 d2.it0 })
theorem meet_st (x : Str) (t : Tok) (b : Addr) : MeetG (.tx x t) (.tp b) := fun xs ys => .of_wp fun prog w A R s h => by
  obtain ⟨hp, g, d, tk, os⟩ := s
  obtain ⟨hx, hy, h⟩ := h
  have hsub := sub_zip
  have hy : (hp.push (Sd.tx x t).it0).IsTuple b ys := IsTup.keeps hy fun o e => Heap.get?_push_of_some _ e
  show wpAny _ _ (Builtin.«zip.__new__» ⟨[.type "zip", .str x t, .ref b], []⟩) _ _ _
  wp_walk using iter_st, iter_tp hy
  refine ⟨_, rfl, ?_⟩
  simp only [madeG] at h
  simpa [Heap.size_push, Builtin.SmallTypes.ownedTupleFields, Nat.add_assoc] using h
theorem meet_sl (x : Str) (t : Tok) (b : Addr) : MeetG (.tx x t) (.ls b) := fun xs ys => .of_wp fun prog w A R s h => by
  obtain ⟨hp, g, d, tk, os⟩ := s
  obtain ⟨hx, hy, h⟩ := h
  have hsub := sub_zip
  have hy : (hp.push (Sd.tx x t).it0).IsList b ys := Heap.IsList.push hy _
  show wpAny _ _ (Builtin.«zip.__new__» ⟨[.type "zip", .str x t, .ref b], []⟩) _ _ _
  wp_walk using iter_st, iter_lst hy
  refine ⟨_, rfl, ?_⟩
  simp only [madeG] at h
  simpa [Heap.size_push, Builtin.SmallTypes.ownedTupleFields, Nat.add_assoc] using h
theorem meet_ll (a b : Addr) : MeetG (.ls a) (.ls b) := fun xs ys => .of_wp fun prog w A R s h => by
  obtain ⟨hp, g, d, tk, os⟩ := s
  obtain ⟨hx, hy, h⟩ := h
  have hsub := sub_zip
  have hx : hp.IsList a xs := hx
  have hy : (hp.push (Sd.ls a).it0).IsList b ys := Heap.IsList.push hy _
  show wpAny _ _ (Builtin.«zip.__new__» ⟨[.type "zip", .ref a, .ref b], []⟩) _ _ _
  wp_walk using iter_lst hx, iter_lst hy
  refine ⟨_, rfl, ?_⟩
  simp only [madeG] at h
  simpa [Heap.size_push, Builtin.SmallTypes.ownedTupleFields, Nat.add_assoc] using h
section
variable {prog : Program} {w : World} {A : Around} {E : Value → Shared → Prop} {s : Shared}
theorem call_sd {d1 d2 : Sd} {xs ys : Array Value} {Q : Value → Shared → Prop} (M : MeetG d1 d2) (hx : d1.hp xs s.heap) (hy : d2.hp ys s.heap)
    (h : ∀ h', IsZip h' (s.heap.objs.size + 4) (s.heap.objs.size + 2) (s.heap.objs.size + 3) .none → IsPair h' (s.heap.objs.size + 2) (.ref s.heap.objs.size) (.ref (s.heap.objs.size + 1)) → IsPair h' (s.heap.objs.size + 3) .none .none →
      d1.pl s.heap.objs.size 0 h' → d2.pl (s.heap.objs.size + 1) 0 h' → (∀ c o, s.heap.get? c = some o → h'.get? c = some o) → Q (.ref (s.heap.objs.size + 4)) { s with heap := h' }) :
    wpAny (model prog w) A (call (.type "zip") [d1.vu, d2.vu]) Q E s := by
  refine callType_new F.called_zip (by decide) (F.typeCall_zip_2 _ _) (F.newCall_zip_2 _ _) (fun obj => F.args_object_init_3 obj _ _) F.entry_zip_new (M xs ys) ⟨hx, hy, ?_⟩
  have at1 : ∀ (g : Heap) (o : Obj) (n : Nat), g.objs.size = n → o.isFreed = false → (g.push o).get? n = some o := fun g o n e f => by rw [← e]; exact Heap.get?_push_size g f
  have z5 : IsZip (madeG s.heap d1.it0 d2.it0) (s.heap.objs.size + 4) (s.heap.objs.size + 2) (s.heap.objs.size + 3) .none := at1 _ _ _ (by simp [Heap.size_push]) rfl
  exact ⟨⟨_, z5, rfl⟩, h _ z5 (Heap.get?_push_of_some _ (Heap.get?_push_of_some _ (at1 _ _ _ (by simp [Heap.size_push]) rfl))) (Heap.get?_push_of_some _ (at1 _ _ _ (by simp [Heap.size_push]) rfl))
    (it0_at (Heap.get?_push_of_some _ (Heap.get?_push_of_some _ (Heap.get?_push_of_some _ (Heap.get?_push_of_some _ (at1 _ _ _ rfl (it0_live _))))))) (it0_at (Heap.get?_push_of_some _ (Heap.get?_push_of_some _ (Heap.get?_push_of_some _ (at1 _ _ _ (by simp [Heap.size_push]) (it0_live _))))))
    fun c o e => Heap.get?_push_of_some _ (Heap.get?_push_of_some _ (Heap.get?_push_of_some _ (Heap.get?_push_of_some _ (Heap.get?_push_of_some _ e))))⟩
end
end ZP
/-- two things side by side -/
def Itg (d1 d2 : Sd) : It := ⟨fun i H => ∃ xs ys a b, d1.has H xs ∧ d2.has H ys ∧ xs[i]? = some a ∧ ys[i]? = some b, fun i H v H' => ∃ p xs ys a b, d1.has H xs ∧ d2.has H ys ∧ xs[i]? = some a ∧ ys[i]? = some b ∧ v = .ref p ∧ H p = none ∧ H' = upd H p (.tup [a, b]),
  fun i H => ∃ xs ys, d1.has H xs ∧ d2.has H ys ∧ xs.length = ys.length ∧ i = xs.length⟩
theorem pl_obj {d : Sd} {it : Addr} {i : Nat} {h : Heap} (x : d.pl it i h) : ∃ o, h.get? it = some o ∧ ∀ v, o.data ≠ .cell v := by
  cases d with
  | tx y t => obtain ⟨o, e, _, dd⟩ := x; exact ⟨o, e, fun v q => by rw [dd] at q; cases q⟩
  | tp a => obtain ⟨o, e, _, dd⟩ := x; exact ⟨o, e, fun v q => by rw [dd] at q; cases q⟩
  | ls a => obtain ⟨o, e, _, dd⟩ := x; exact ⟨o, e, fun v q => by rw [dd] at q; cases q⟩
theorem pl_keep {d : Sd} {it : Addr} {i : Nat} {h h' : Heap} (x : d.pl it i h) (k : ∀ o, h.get? it = some o → h'.get? it = some o) : d.pl it i h' := by
  cases d with
  | tx y t => obtain ⟨o, e, r⟩ := x; exact ⟨o, k o e, r⟩
  | tp a => obtain ⟨o, e, r⟩ := x; exact ⟨o, k o e, r⟩
  | ls a => obtain ⟨o, e, r⟩ := x; exact ⟨o, k o e, r⟩
theorem sd_hp {X : Cx} {pins : List (Addr × Obj)} {σ : St} {H : Hp} {s : Shared} {d : Sd} {xs : List V} (I : Inv X pins σ H s) (h : d.has H xs) : ∃ its, d.hp its s.heap := by
  cases d with
  | tx y t => exact ⟨#[], True.intro⟩
  | tp a =>
    obtain ⟨its, _, p, _⟩ := I.tuple (SqT.of (show H a = _ from h))
    exact ⟨_, p⟩
  | ls a =>
    obtain ⟨its, _, ⟨o, n, e, c, _, dd⟩, _⟩ := I.list (SqL.of (show H a = _ from h))
    exact ⟨its.toArray, o, e, c, n, dd⟩
theorem sd_draws {X : Cx} {pins : List (Addr × Obj)} {σ : St} {H : Hp} {s : Shared} {d : Sd} {it : Addr} {i : Nat} {xs : List V} {A : Around} (I : Inv X pins σ H s) (hh : A.handled = none) (h : d.has H xs) (hit : H it = none) (hp : d.pl it i s.heap) :
    ∃ f P S, Draws X.prog X.w A it f xs.length P S ∧ (∀ c ∈ f, c = it ∨ ∃ u, H c = some u) ∧ S i s.heap ∧ (∀ j g, S j g → d.pl it j g) ∧ ∀ j v x, P j v → xs[j]? = some x → RelV x v := by
  cases d with
  | tx y t =>
    have h : xs = y.cps.toList.map fun c => V.str ⟨#[c]⟩ := h
    refine ⟨[it], fun i v => ∃ c u, y.cps[i]? = some c ∧ v = .str ⟨#[c]⟩ u, ZP.strAt y t it, ?_, fun c hc => .inl (List.mem_singleton.mp hc), hp, fun j g z => z, fun j v x hP hx => ?_⟩
    · have e : xs.length = y.cps.size := by rw [h]; simp
      rw [e]
      exact ZP.draws hh it y t
    · obtain ⟨c, u, e1, rfl⟩ := hP
      rw [h, List.getElem?_map, Array.getElem?_toList, e1] at hx
      cases hx
      exact ⟨u, rfl⟩
  | tp a =>
    obtain ⟨its, r, p, _⟩ := I.tuple (SqT.of (show H a = _ from h))
    have p' : s.heap.IsTuple a its.toArray := p
    have hne : a ≠ it := fun z => by rw [← z, show H a = _ from h] at hit; cases hit
    have e : xs.length = its.toArray.size := by rw [r.length]; simp
    refine ⟨[it, a], fun i v => its.toArray[i]? = some v, fun i h => h.IsTupleIter it a i ∧ h.IsTuple a its.toArray, by rw [e]; exact drawsT hh it a hne its.toArray, fun c hc => ?_, ⟨hp, p'⟩, fun j g z => z.1, fun j v x hP hx => ?_⟩
    · rcases List.mem_cons.mp hc with z | z
      · exact .inl z
      · rw [List.mem_singleton.mp z]
        exact .inr ⟨_, h⟩
    · obtain ⟨u, hu, ru⟩ := r.get hx
      have hP : its.toArray[j]? = some v := hP
      rw [List.getElem?_toArray, hu] at hP
      cases hP
      exact ru
  | ls a =>
    obtain ⟨its, r, ⟨o, n, eo, co, _, dd⟩, _⟩ := I.list (SqL.of (show H a = _ from h))
    have p' : s.heap.IsList a its.toArray := ⟨o, eo, co, n, dd⟩
    have hne : a ≠ it := fun z => by rw [← z, show H a = _ from h] at hit; cases hit
    have e : xs.length = its.toArray.size := by rw [r.length]; simp
    refine ⟨[it, a], fun i v => its.toArray[i]? = some v, fun i h => h.IsListIter it a i ∧ h.IsList a its.toArray, by rw [e]; exact Draws.list hh it a hne its.toArray, fun c hc => ?_, ⟨hp, p'⟩, fun j g z => z.1, fun j v x hP hx => ?_⟩
    · rcases List.mem_cons.mp hc with z | z
      · exact .inl z
      · rw [List.mem_singleton.mp z]
        exact .inr ⟨_, h⟩
    · obtain ⟨u, hu, ru⟩ := r.get hx
      have hP : its.toArray[j]? = some v := hP
      rw [List.getElem?_toArray, hu] at hP
      cases hP
      exact ru
theorem turn_zipG {P : Program} {w : World} {K : PySem.W.Frag} {es : List Expr} {kt : Nat} {pt : Pos} (d1 d2 : Sd) (z TI TO i1 i2 : Addr) (ap : ZipApart z TI TO i1 i2 TI TI) :
    Turn P w K (.Tuple es kt pt) (Itg d1 d2) [z, TI, TO, i1, i2] z (fun i h => IsZip h z TI TO .none ∧ IsPair h TI (.ref i1) (.ref i2) ∧ (∃ a b, IsPair h TO a b) ∧ d1.pl i1 i h ∧ d2.pl i2 i h) where
  mem := by simp
  obj := fun i h ⟨hz, hTI, ⟨a, b, hTO⟩, s1, s2⟩ c hc => by
    simp only [List.mem_cons, List.not_mem_nil, or_false] at hc
    rcases hc with rfl | rfl | rfl | rfl | rfl
    · exact ⟨_, hz, fun v q => by cases q⟩
    · exact ⟨_, hTI, fun v q => by cases q⟩
    · exact ⟨_, hTO, fun v q => by cases q⟩
    · exact pl_obj s1
    · exact pl_obj s2
  keep := fun i h h' ⟨hz, hTI, ⟨a, b, hTO⟩, s1, s2⟩ k =>
    ⟨k z (by simp) _ hz, k TI (by simp) _ hTI, ⟨a, b, k TO (by simp) _ hTO⟩, pl_keep s1 (k i1 (by simp)), pl_keep s2 (k i2 (by simp))⟩
  item := by
    rintro X hP hw hK hc i pins s σ H E I hf ⟨hz, hTI, ⟨a, b, hTO⟩, s1, s2⟩ ⟨xs, ys, va, vb, hqx, hqy, hxa, hyb⟩
    subst hP hw hK
    have l1 : i < xs.length := (List.getElem?_eq_some_iff.mp hxa).1
    have l2 : i < ys.length := (List.getElem?_eq_some_iff.mp hyb).1
    obtain ⟨f1, P1, S1, D1, m1, st1, b1, r1⟩ := sd_draws (A := X.A.in1) I (I.ok.hd hc) hqx (hf i1 (by simp)).1 s1
    obtain ⟨f2, P2, S2, D2, m2, st2, b2, r2⟩ := sd_draws (A := X.A.in1) I (I.ok.hd hc) hqy (hf i2 (by simp)).1 s2
    have off : ∀ {c : Addr} {u : HO}, H c = some u → c ∉ [z, TO, i1, i2] := fun {c u} e hm => by
      have : c ∈ [z, TI, TO, i1, i2] := by simp at hm ⊢; rcases hm with q | q | q | q <;> simp [q]
      rw [(hf c this).1] at e
      cases e
    have hT : s.TypeIs (.ref z) "zip" := ⟨_, hz, rfl⟩
    unfold pyNext
    refine wpAny_bind (wpAny_attempt (wpAny_callSpecial?_slot (name := Str.ofString "__next__") hT F.slot_zip_next (wpAny_call_entry F.slot_zip_next hT F.entry_zip_next (ZP.toldL D1 D2
      (fun c hc => (m1 c hc).imp id fun ⟨u, e⟩ => off e) (fun c hc => (m2 c hc).imp id fun ⟨u, e⟩ => off e)
      ap hz hTI hTO st1 st2 l1 l2 fun v1 v2 g tk p1 p2 gz gTI gTO g1 g2 new gk => wpAny_pure ⟨_, rfl, ?_⟩) (F.args_zip_next_1 _))))
    have ra := r1 i v1 va p1 hxa
    have rb := r2 i v2 vb p2 hyb
    refine wpAny_letOwnedTupleGo_zip (s := { s with heap := g, toks := tk }) gz fun g' gz' gs => ?_
    have up : ∀ b o, b ≠ z → g.get? b = some o → g'.get? b = some o := fun b o hb e => (gs.2 b hb).trans e
    have nz : s.heap.objs.size ≠ z := Nat.ne_of_gt (Heap.lt_size hz)
    have tup : ObjOk X.prog X.w (upd H s.heap.objs.size (.tup [va, vb])) g' s.heap.objs.size (.tup [va, vb]) :=
      ⟨line_ge (by show 2 ≤ 16777216; decide), [v1, v2], .cons ra (.cons rb .nil), ⟨_, up _ _ nz new, rfl, 0, rfl⟩⟩
    refine ⟨.ref s.heap.objs.size, _, I.turnedNew (S := [z, TO, i1, i2]) (h' := g') (t' := tk) (fun b o hb e => up b o (fun q => hb (by simp [q])) (gk b o hb e)) (fun b hb => hf b (by simp at hb ⊢; rcases hb with q | q | q | q <;> simp [q])) tup, rfl,
      ⟨_, xs, ys, va, vb, hqx, hqy, hxa, hyb, rfl, I.hok.fresh (Nat.le_refl _), rfl⟩, ⟨gz', up _ _ ap.TIz gTI, ⟨_, _, up _ _ ap.TOz gTO⟩, pl_keep (b1 _ _ g1) fun o e => up _ o ap.i1z e, pl_keep (b2 _ _ g2) fun o e => up _ o ap.i2z e⟩, fun b hb => ?_⟩
    have lt : b < s.heap.objs.size := by
      obtain ⟨o1, e1, _⟩ := pl_obj s1
      obtain ⟨o2, e2, _⟩ := pl_obj s2
      simp only [List.mem_cons, List.not_mem_nil, or_false] at hb
      rcases hb with rfl | rfl | rfl | rfl | rfl
      · exact Heap.lt_size hz
      · exact Heap.lt_size hTI
      · exact Heap.lt_size hTO
      · exact Heap.lt_size e1
      · exact Heap.lt_size e2
    rw [upd_ne (Nat.ne_of_lt lt)]
    exact (hf b hb).1
  done := by
    rintro X hP hw hK hc i pins s σ H E I hf ⟨hz, hTI, ⟨a, b, hTO⟩, s1, s2⟩ ⟨xs, ys, hqx, hqy, hl, hi⟩
    subst hP hw hK
    obtain ⟨f1, P1, S1, D1, m1, st1, b1, r1⟩ := sd_draws (A := X.A.in1) I (I.ok.hd hc) hqx (hf i1 (by simp)).1 s1
    obtain ⟨f2, P2, S2, D2, m2, st2, b2, r2⟩ := sd_draws (A := X.A.in1) I (I.ok.hd hc) hqy (hf i2 (by simp)).1 s2
    have off : ∀ {c : Addr} {u : HO}, H c = some u → c ∉ [z, TO, i1, i2] := fun {c u} e hm => by
      have : c ∈ [z, TI, TO, i1, i2] := by simp at hm ⊢; rcases hm with q | q | q | q <;> simp [q]
      rw [(hf c this).1] at e
      cases e
    have hT : s.TypeIs (.ref z) "zip" := ⟨_, hz, rfl⟩
    unfold pyNext
    refine wpAny_bind (wpAny_attempt (wpAny_callSpecial?_slot (name := Str.ofString "__next__") hT F.slot_zip_next (wpAny_call_entry F.slot_zip_next hT F.entry_zip_next (ZP.endedL D1 D2
      (fun c hc => (m1 c hc).imp id fun ⟨u, e⟩ => off e) (fun c hc => (m2 c hc).imp id fun ⟨u, e⟩ => off e)
      ap hz hTI hTO st1 st2 (.inl hi) fun g e tk gk he => ?_) (F.args_zip_next_1 _))))
    obtain ⟨o, ho, hcl⟩ := he
    refine wpAny_bind (wpAny_isInstance (s := { s with heap := g, toks := tk }) (T := "StopIteration") (b := true) ⟨o, ho, hcl⟩ isSubtype_stop (wpAny_pure ⟨rfl, ?_⟩))
    exact I.turnedL (S := [z, TO, i1, i2]) (fun b o hb e => gk b o hb e) fun b hb => hf b (by simp at hb ⊢; rcases hb with q | q | q | q <;> simp [q])
  self := fun _ _ _ _ _ st h => wpAny_pyIter_zip st.1 h
/-- which pairs are served: a text beside a tuple or a list, two lists -/
def Zips (H : Hp) (v1 v2 : V) (R : (Tok → Sd) → Sd → Prop) : Prop :=
  (∃ x b xs, v1 = .str x ∧ v2 = .ref b ∧ H b = some (.tup xs) ∧ R (.tx x) (.tp b)) ∨ (∃ x b xs, v1 = .str x ∧ v2 = .ref b ∧ H b = some (.lst xs) ∧ R (.tx x) (.ls b)) ∨ ∃ a b xs ys, v1 = .ref a ∧ v2 = .ref b ∧ H a = some (.lst xs) ∧ H b = some (.lst ys) ∧ R (fun _ => .ls a) (.ls b)
def iZipG (t : TA) : TI := fun σ H R => t σ H fun vs H1 => ∃ v1 v2, vs = [v1, v2] ∧ Zips H1 v1 v2 fun d1 d2 => ∀ k, R (Itg (d1 k) d2) H1
theorem pi_zipG {X : Cx} {es : List Expr} {kt : Nat} {pt : Pos} {a b : Expr} {ta : TA} {p pos : Pos} (hg : Gl X "zip") (hm : X.mg "zip" = none) (ha : PA X [a, b] ta) (hs : starEach [a, b] X.env = (false, eval a X.env) :: starEach [b] X.env := by rfl)
    (hpl : (backTo pos (starEach [b] X.env)).any (·.1) = false := by rfl) : PI X (.Tuple es kt pt) (.Call (.Name "zip" p) [a, b] [] pos) (iZipG ta) := by
  intro pins s σ H R I h
  refine wpAny_Call_Name_kw (ld_blt I hg hm PyProof.Rows.boot_zip (PyProof.Rows.callWith_type1 (thn (ha pos pins s σ H _ I h) fun us s1 ⟨vs, H1, I1, r1, v1, v2, ev, hz⟩ => ?_) hs hpl))
  subst ev
  obtain ⟨u1, u2, rfl, e1, e2⟩ := vals2 r1
  have go : ∀ (d1 d2 : Sd) (xs ys : List V), ZP.MeetG d1 d2 → u1 = d1.vu → u2 = d2.vu → d1.has H1 xs → d2.has H1 ys → R (Itg d1 d2) H1 → wpAny (model X.prog X.w) X.A (call (.type "zip") [u1, u2]) (fun v s2 => wpAny (model X.prog X.w) X.A (pyIter v) (PIE X pins σ (.Tuple es kt pt) R) X.xe s2) X.xe s1 := by
    rintro d1 d2 xs ys M rfl rfl hx hy q
    obtain ⟨itx, px⟩ := sd_hp I1 hx
    obtain ⟨ity, py⟩ := sd_hp I1 hy
    refine ZP.call_sd M px py fun g gz gTI gTO g1 g2 gk => wpAny_pyIter_zip (s := { s1 with heap := g }) gz ?_
    have ap : ZipApart (s1.heap.objs.size + 4) (s1.heap.objs.size + 2) (s1.heap.objs.size + 3) s1.heap.objs.size (s1.heap.objs.size + 1) (s1.heap.objs.size + 2) (s1.heap.objs.size + 2) := by
      constructor <;> exact neA (by omega)
    refine ⟨_, [s1.heap.objs.size + 4, s1.heap.objs.size + 2, s1.heap.objs.size + 3, s1.heap.objs.size, s1.heap.objs.size + 1], _, Itg d1 d2, H1, rfl, I1.kept (t' := s1.toks) gk, turn_zipG d1 d2 _ _ _ _ _ ap,
      ⟨gz, gTI, ⟨_, _, gTO⟩, g1, g2⟩, fun c hc => ?_, q⟩
    have hge : s1.heap.objs.size ≤ c := by
      simp only [List.mem_cons, List.not_mem_nil, or_false] at hc
      rcases hc with rfl | rfl | rfl | rfl | rfl
      · exact Nat.le_add_right _ _
      · exact Nat.le_add_right _ _
      · exact Nat.le_add_right _ _
      · exact Nat.le_refl _
      · exact Nat.le_add_right _ _
    exact I1.fpOk hge (I1.hok.fresh hge)
  rcases hz with ⟨x, b, xs, rfl, rfl, hb, q⟩ | ⟨x, b, xs, rfl, rfl, hb, q⟩ | ⟨a, b, xs, ys, rfl, rfl, ha', hb, q⟩
  · obtain ⟨t, rfl⟩ := (show ∃ t, u1 = Value.str x t from e1)
    cases e2
    exact go (.tx x t) (.tp b) _ _ (ZP.meet_st x t b) rfl rfl rfl hb (q t)
  · obtain ⟨t, rfl⟩ := (show ∃ t, u1 = Value.str x t from e1)
    cases e2
    exact go (.tx x t) (.ls b) _ _ (ZP.meet_sl x t b) rfl rfl rfl hb (q t)
  · cases e1
    cases e2
    exact go (.ls a) (.ls b) _ _ (ZP.meet_ll a b) rfl rfl ha' hb (q 0)
end L2

namespace L2
open PySem PySem.Spec PyProof.Rows
/-! ## dicts from ints, or from tuples of ints -/
theorem isInt_self (k : Int) (t : Tok) : Value.isInt k (.int k t) = true := by simp [Value.isInt]
def DGetW (P : Program) (w : World) (H : Hp) (d : Addr) (y : V) (r : Option V) : Prop :=
  (∃ kvs k, H d = some (kdO (intKind P w) d kvs) ∧ y = .int k ∧ r = valV kvs k) ∨
  ∃ kvs k b, H d = some (hdO (pairD P w) d kvs) ∧ (∀ x ∈ kvs, TIn H x.1 x.2.1) ∧ y = .ref b ∧ TIn H k b ∧ r = valH kvs k
def DPutW (P : Program) (w : World) (H : Hp) (d : Addr) (y v : V) (H' : Hp) : Prop :=
  (∃ kvs k, H d = some (kdO (intKind P w) d kvs) ∧ y = .int k ∧ valV kvs k = none ∧ kvs.length < sizeLine ∧ H' = upd H d (kdO (intKind P w) d (kvs ++ [(k, v)]))) ∨
  ∃ kvs k b, H d = some (hdO (pairD P w) d kvs) ∧ (∀ x ∈ kvs, TIn H x.1 x.2.1) ∧ y = .ref b ∧ TIn H k b ∧ valH kvs k = none ∧ kvs.length < sizeLine ∧ H' = upd H d (hdO (pairD P w) d (kvs ++ [(k, b, v)]))
section
variable {X : Cx}
def rNotInW (P : Program) (w : World) : R2 := fun x y H Q => ∃ d o, y = .ref d ∧ DGetW P w H d x o ∧ Q (.bl (!o.isSome)) H
theorem op_notinW (hu : X.A.units + 64 < cLine) : OpR X (compareOp .NotIn) (rNotInW X.prog X.w) := by
  intro pins s σ H x y v u Q I rx ry h
  obtain ⟨d, o, rfl, g, q⟩ := h
  cases ry
  rcases g with ⟨kvs, k, e, rfl, rfl⟩ | ⟨kvs, k, b, e, hk, rfl, kb, rfl⟩
  · obtain ⟨t, rfl⟩ := (show ∃ t, v = Value.int k t from rx)
    obtain ⟨ns, _, vs, rel, dd⟩ := kd_of I.hok e
    refine wpAny_notIn_of (knd := intKind X.prog X.w) (k := k) (isInt_self k t) ns dd.mapOf ?_
    rw [← relO_isSome (rel.val k)]
    exact ⟨.bl _, H, I.tok _, rfl, q⟩
  · cases rx
    exact h_notIn (D := pairD X.prog X.w) hu I e hk kb fun s' I' => ⟨.bl _, H, I', rfl, q⟩
def rInW (P : Program) (w : World) : R2 := fun x y H Q => ∃ d o, y = .ref d ∧ DGetW P w H d x o ∧ Q (.bl o.isSome) H
theorem dg_typeW {pins : List (Addr × Obj)} {σ : St} {H : Hp} {s : Shared} {d : Addr} {y : V} {o : Option V} (I : Inv X pins σ H s) (g : DGetW X.prog X.w H d y o) : s.TypeIs (.ref d) "dict" := by
  rcases g with ⟨kvs, k, e, _⟩ | ⟨kvs, k, b, e, hk, _⟩
  · obtain ⟨_, _, vs, _, dd⟩ := kd_of I.hok e
    exact dd.typeIs
  · obtain ⟨_, _, vs, _, dd⟩ := hd_of (D := pairD X.prog X.w) I.hok e hk
    exact dd.typeIs
def rIxW (P : Program) (w : World) : R2 := fun x y H Q => ∃ d v, x = .ref d ∧ DGetW P w H d y (some v) ∧ Q v H
theorem ix_dictW (hu : X.A.units + 64 < cLine) : IxR X (rIxW X.prog X.w) := by
  intro value slice pins s σ H x y v u Q I rx ry h hs
  obtain ⟨d, z, rfl, g, q⟩ := h
  cases rx
  refine tail_any (ops := [.ref d, u]) (dg_typeW I g) PySem.F.slot_dict_getitem.lookup ?_ hs
  rcases g with ⟨kvs, k, e, rfl, l⟩ | ⟨kvs, k, b, e, hk, rfl, kb, l⟩
  · obtain ⟨t, rfl⟩ := (show ∃ t, u = Value.int k t from ry)
    obtain ⟨ns, _, vs, rel, dd⟩ := kd_of I.hok e
    obtain ⟨w', hw, rw'⟩ := RelO.some_of (v := z) (o := valueAt vs k) (by rw [l]; exact rel.val k)
    exact wpAny_getItem_of (knd := intKind X.prog X.w) (k := k) (isInt_self k t) dd.mapOf hw ⟨z, H, I.tok _, rw', q⟩
  · cases ry
    exact h_get (D := pairD X.prog X.w) hu I e hk kb l fun w' s' I' rw' => ⟨z, H, I', rw', q⟩
def rSetW (P : Program) (w : World) : TSet := fun o i v H Q => ∃ d H', o = .ref d ∧ DPutW P w H d i v H' ∧ Q H'
theorem set_dictW (hu : X.A.units + 64 < cLine) : PSet X (rSetW X.prog X.w) := by
  intro pins s σ H o i v ov iv u Q I ro ri rv h
  obtain ⟨d, H', rfl, g, q⟩ := h
  cases ro
  rcases g with ⟨kvs, k, e, rfl, hn, hl, rfl⟩ | ⟨kvs, k, b, e, hk, rfl, kb, hn, hl, rfl⟩
  · obtain ⟨t, rfl⟩ := (show ∃ t, iv = Value.int k t from ri)
    obtain ⟨ns, hz, vs, rel, dd⟩ := kd_of I.hok e
    refine wpAny_setItem_pairs (knd := intKind X.prog X.w) (k := k) (hsz := by rw [← rel.length]; exact hz) (isInt_self k t) dd fun h' dd' hs => ⟨_, ?_, q⟩
    have qn := RelO.none_of (show RelO none (valueAt vs k) by rw [← hn]; exact rel.val k)
    rw [stored_new qn] at dd'
    exact ext_write I (by rw [e]; exact True.intro) hs (let ⟨o, _, _, q, _⟩ := dd'; ⟨o, q⟩) (kd_ok ns (by rw [List.length_append]; exact hl) (kv_snoc rel rv) dd')
  · cases ri
    exact h_set (D := pairD X.prog X.w) hu I e hk kb hn hl rv fun s' I' => ⟨_, I', q⟩
/-- a new dict, of ints (true) or of tuples -/
def newW (P : Program) (w : World) (d : Addr) : Bool → HO
  | true => kdO (intKind P w) d []
  | false => hdO (pairD P w) d []
theorem newW_ok {P : Program} {w : World} {H : Hp} (h : Heap) (hb : sysModules < h.objs.size) (k : Bool) : ObjOk P w H (h.push { cls := .type "dict", data := .dict #[] }) h.objs.size (newW P w h.objs.size k) := by
  have ns : (h.objs.size == sysModules) = false := beq_eq_false_iff_ne.mpr (Ne.symm (Nat.ne_of_lt hb))
  cases k with
  | true => exact kd_ok (knd := intKind P w) ns (Nat.zero_le _) .nil (Heap.DictOf.new h)
  | false => exact hd_ok (D := pairD P w) ns (Nat.zero_le _) .nil (Heap.DictOfH.new h)
def tWNew (P : Program) (w : World) : TE := fun _ H Q => ∃ k, ∀ p, H p = none → Q (.ref p) (upd H p (newW P w p k))
/-- {k: v} -/
def tWOne (P : Program) (w : World) (tk tv : TE) : TE := fun σ H Q => ∃ ti : Bool, ∀ p, H p = none → tk σ (upd H p (newW P w p ti)) fun x H1 => tv σ H1 fun y H2 => H2 p = some (newW P w p ti) ∧
  ((ti = true ∧ ∃ k, x = .int k ∧ Q (.ref p) (upd H2 p (kdO (intKind P w) p [(k, y)]))) ∨ (ti = false ∧ ∃ b k, x = .ref b ∧ TIn H2 k b ∧ Q (.ref p) (upd H2 p (hdO (pairD P w) p [(k, b, y)]))))
theorem pe_wone {k v : Expr} {tk tv : TE} {pos : Pos} (hu : X.A.units + 64 < cLine) (hk : PE X k tk) (hv : PE X v tv) : PE X (.Dict [some k] [v] pos) (tWOne X.prog X.w tk tv) := by
  intro pins s σ H Q I h
  obtain ⟨ti, h⟩ := h
  have hn := I.hok.fresh (Nat.le_refl s.heap.objs.size)
  have I1 := I.laid (a := s.heap.objs.size) (o := newW X.prog X.w s.heap.objs.size ti) (t' := s.toks) (fun _ _ q => Heap.get?_push_of_some { cls := .type "dict", data := .dict #[] } q) (Nat.le_refl _) (newW_ok s.heap I.bigS ti)
  have hsh := zip_pairTrees [some k] [v] X.env pos rfl rfl
  rw [arm_eval_Dict, hsh, dictDisplay_pairs (pairTrees [some k] [v] X.env pos) (by intro z; cases z) (by show 1 < 17; decide)]
  refine wpAny_bind (wpAny_standAt (wpAny_bind ?_))
  unfold subDict
  refine wpAny_bind (wpAny_alloc (wpAny_bind (wpAny_holding ?_)))
  rw [if_pos (show (pairTrees [some k] [v] X.env pos).length ≤ 15 by show 1 ≤ 15; decide)]
  refine wpAny_bind (pairTrees_cons_walk (thn (hk pins _ σ _ _ I1 (h _ hn)) fun u s1 ⟨x, H1, I2, rx, q1⟩ => thn (hv pins s1 σ H1 _ I2 q1) fun r s2 ⟨y, H2, I3, ry, hp, q2⟩ => pairTrees_nil_walk (wpAny_holding (wpAny_bind ?_))))
  rw [List.forIn_cons]
  rcases q2 with ⟨rfl, k, rfl, q2⟩ | ⟨rfl, b, k, rfl, kb, q2⟩
  · obtain ⟨t, rfl⟩ := (show ∃ t, u = Value.int k t from rx)
    obtain ⟨ns, hz, vs, rel, dd⟩ := kd_of (knd := intKind X.prog X.w) (kvs := []) I3.hok hp
    refine wpAny_bind (wpAny_bind (wpAny_dictSet_pairs (knd := intKind X.prog X.w) (k := k) (hsz := by rw [← rel.length]; exact hz) (isInt_self k t) dd fun h' dd' hs => wpAny_pure ?_))
    dsimp only
    rw [List.forIn_nil]
    refine wpAny_pure (wpAny_pure (wpAny_pure (wpAny_pure ⟨.ref s.heap.objs.size, _, ?_, rfl, q2⟩)))
    have qn := RelO.none_of (show RelO none (valueAt vs k) from rel.val k)
    rw [stored_new qn] at dd'
    exact ext_write I3 (by rw [hp]; exact True.intro) hs (let ⟨o, _, _, q, _⟩ := dd'; ⟨o, q⟩) (kd_ok ns (line_ge (by show 1 ≤ 16777216; decide)) (kv_snoc (kvs := []) rel ry) dd')
  · cases rx
    obtain ⟨ns, hz, xs, rel, dd⟩ := hd_of (D := pairD X.prog X.w) (kvs := []) I3.hok hp (fun x hx => by simp at hx)
    refine wpAny_bind (wpAny_bind (wpAny_dictSet_heap (knd := (pairD X.prog X.w).knd) (hsz := by rw [← Paired.length rel]; exact hz) ((pairD X.prog X.w).room hu).2 ((pairD X.prog X.w).ok kb I3.hok) dd fun h' dd' hs => wpAny_pure ?_))
    dsimp only
    rw [List.forIn_nil]
    refine wpAny_pure (wpAny_pure (wpAny_pure (wpAny_pure ⟨.ref s.heap.objs.size, _, ?_, rfl, q2⟩)))
    exact h_new (D := pairD X.prog X.w) (kvs := []) I3 hp ns (line_ge (by show 1 ≤ 16777216; decide)) rel rfl ry dd' hs
end
end L2
namespace RA
open PySem L2
/-! ## the things of a walk, and the dict that numbers them -/
/-- a thing: a room's number (as a row of one), or a tuple of rooms -/
def ThV (ti : Bool) (H : Hp) (k : List Nat) (v : V) : Prop := if ti = true then ∃ n : Nat, k = [n] ∧ v = .int (n : Int) else ∃ b, v = .ref b ∧ H b = some (.tup (intsV k))
theorem ThV.same {ti : Bool} {H H' : Hp} {k : List Nat} {v : V} (h : ThV ti H k v) (s : ∀ b xs, H b = some (.tup xs) → H' b = some (.tup xs)) : ThV ti H' k v := by
  unfold ThV at h ⊢
  split
  · rename_i c
    rw [if_pos c] at h
    exact h
  · rename_i c
    rw [if_neg c] at h
    obtain ⟨b, e1, e2⟩ := h
    exact ⟨b, e1, s _ _ e2⟩
theorem zs_intsV (k : List Nat) : (zs k).map V.int = intsV k := by rw [zs, intsV, List.map_map]; rfl
def kvI : List (List Nat) → Nat → List (Int × V)
  | [], _ => []
  | k :: r, n => (((k.headD 0 : Nat) : Int), .int (n : Int)) :: kvI r (n + 1)
theorem kvI_len : ∀ (ts : List (List Nat)) (n : Nat), (kvI ts n).length = ts.length
  | [], _ => rfl
  | k :: r, n => by rw [kvI, List.length_cons, List.length_cons, kvI_len r]
theorem kvI_snoc (k : List Nat) : ∀ (ts : List (List Nat)) (n : Nat), kvI (ts ++ [k]) n = kvI ts n ++ [(((k.headD 0 : Nat) : Int), .int ((n + ts.length : Nat) : Int))]
  | [], n => rfl
  | t :: r, n => by
    rw [List.cons_append, kvI, kvI_snoc k r (n + 1), kvI, List.cons_append, List.length_cons, show n + 1 + r.length = n + (r.length + 1) by omega]
def ixO (ts : List (List Nat)) (k : List Nat) : Option Nat := if k ∈ ts then some (ts.idxOf k) else none
theorem ixO_cons {t k : List Nat} {r : List (List Nat)} (h : t ≠ k) : ixO (t :: r) k = (ixO r k).map (· + 1) := by
  unfold ixO
  by_cases hk : k ∈ r
  · rw [if_pos (List.mem_cons_of_mem _ hk), if_pos hk, List.idxOf_cons, show (t == k) = false from beq_eq_false_iff_ne.mpr h]
    rfl
  · rw [if_neg (fun z => (List.mem_cons.mp z).elim (fun y => h y.symm) hk), if_neg hk]
    rfl
theorem kvI_val {m : Nat} : ∀ {ts : List (List Nat)} {n : Nat}, (∀ t ∈ ts, ∃ a, t = [a]) → valV (kvI ts n) (m : Int) = (ixO ts [m]).map fun (i : Nat) => V.int ((n + i : Nat) : Int)
  | [], _, _ => rfl
  | t :: r, n, h => by
    obtain ⟨a, rfl⟩ := h t (by simp)
    by_cases e : a = m
    · subst e
      rw [kvI, valV_pos (k := (a : Int)) (show ((([a] : List Nat).headD 0 : Nat) : Int) = (a : Int) from rfl), ixO, if_pos (by simp), List.idxOf_cons_self]
      rfl
    · rw [kvI, valV_neg (fun z => e (Int.ofNat.inj z)), kvI_val (n := n + 1) (fun t ht => h t (by simp [ht])), ixO_cons (fun z => e (by injection z))]
      cases ixO r [m] with
      | none => rfl
      | some i =>
        show some (V.int ((n + 1 + i : Nat) : Int)) = some (V.int ((n + (i + 1) : Nat) : Int))
        rw [show n + 1 + i = n + (i + 1) by omega]
def RmAt (P : Program) (w : World) (H : Hp) (d : Addr) (ti : Bool) (ts : List (List Nat)) : Prop :=
  if ti = true then H d = some (kdO (intKind P w) d (kvI ts 0)) ∧ ∀ t ∈ ts, ∃ a, t = [a]
  else ∃ kvs : List (List Int × Addr × V), H d = some (hdO (pairD P w) d kvs) ∧ (∀ x ∈ kvs, TIn H x.1 x.2.1) ∧ kvs.length = ts.length ∧ ∀ (i : Nat) (k : List Nat) (x : List Int × Addr × V), ts[i]? = some k → kvs[i]? = some x → x.1 = zs k ∧ x.2.2 = .int (i : Int)
theorem valH_of {kvs : List (List Int × Addr × V)} {ts : List (List Nat)} {k : List Nat} : ∀ {n : Nat}, kvs.length = ts.length → (∀ (i : Nat) (k : List Nat) (x : List Int × Addr × V), ts[i]? = some k → kvs[i]? = some x → x.1 = zs k ∧ x.2.2 = .int ((n + i : Nat) : Int)) → valH kvs (zs k) = (ixO ts k).map fun (i : Nat) => V.int ((n + i : Nat) : Int) := by
  induction kvs generalizing ts with
  | nil =>
    intro n hl h
    cases ts with
    | nil => rfl
    | cons t r => cases hl
  | cons x xs ih =>
    intro n hl h
    cases ts with
    | nil => cases hl
    | cons t r =>
      obtain ⟨e1, e2⟩ := h 0 t x rfl rfl
      by_cases e : t = k
      · subst e
        rw [ixO, if_pos (by simp), List.idxOf_cons_self]
        simp [valH, List.find?_cons, e1, e2]
      · have e' : ¬ x.1 = zs k := fun z => e (zs_inj (e1.symm.trans z))
        have a1 : valH (x :: xs) (zs k) = valH xs (zs k) := by simp [valH, List.find?_cons, e']
        rw [a1, ih (n := n + 1) (by simpa using hl) (fun i k' x' h1 h2 => by
          obtain ⟨g1, g2⟩ := h (i + 1) k' x' h1 h2
          exact ⟨g1, by rw [g2, show n + (i + 1) = n + 1 + i by omega]⟩), ixO_cons e]
        cases ixO r k with
        | none => rfl
        | some i =>
          show some (V.int ((n + 1 + i : Nat) : Int)) = some (V.int ((n + (i + 1) : Nat) : Int))
          rw [show n + 1 + i = n + (i + 1) by omega]
section
variable {P : Program} {w : World} {H : Hp} {d : Addr} {ti : Bool} {ts : List (List Nat)} {k : List Nat} {v : V}
theorem RmAt.get (h : RmAt P w H d ti ts) (hv : ThV ti H k v) : DGetW P w H d v ((ixO ts k).map fun (i : Nat) => V.int (i : Int)) := by
  unfold RmAt at h
  unfold ThV at hv
  cases ti with
  | true =>
    rw [if_pos rfl] at h hv
    obtain ⟨n, rfl, rfl⟩ := hv
    refine .inl ⟨_, _, h.1, rfl, ?_⟩
    rw [kvI_val h.2]
    simp
  | false =>
    rw [if_neg (by decide)] at h hv
    obtain ⟨kvs, h1, h2, h3, h4⟩ := h
    obtain ⟨b, rfl, hb⟩ := hv
    refine .inr ⟨kvs, zs k, b, h1, h2, rfl, by unfold TIn; rw [zs_intsV]; exact hb, ?_⟩
    rw [valH_of (n := 0) h3 (fun i k x a b => by rw [Nat.zero_add]; exact h4 i k x a b)]
    simp
theorem RmAt.put (h : RmAt P w H d ti ts) (hv : ThV ti H k v) (hn : k ∉ ts) (hl : ts.length < sizeLine) : ∃ ob, DPutW P w H d v (.int (ts.length : Int)) (L2.upd H d ob) ∧ RmAt P w (L2.upd H d ob) d ti (ts ++ [k]) := by
  have hno : ixO ts k = none := if_neg hn
  have hd : ∀ b xs, H b = some (.tup xs) → ∀ φ, H d = some (.ext φ) → ∀ ob, L2.upd H d ob b = some (.tup xs) := fun b xs e φ e2 ob => by
    rw [upd_ne (ne_of e e2 (by intro z; cases z))]
    exact e
  unfold RmAt at h
  unfold ThV at hv
  cases ti with
  | true =>
    rw [if_pos rfl] at h hv
    obtain ⟨n, rfl, rfl⟩ := hv
    refine ⟨kdO (intKind P w) d (kvI (ts ++ [[n]]) 0), .inl ⟨_, _, h.1, rfl, ?_, by rw [kvI_len]; exact hl, ?_⟩, ?_⟩
    · rw [kvI_val h.2, hno]
      rfl
    · rw [kvI_snoc, Nat.zero_add]
      rfl
    · unfold RmAt
      rw [if_pos rfl]
      refine ⟨upd_same, fun t ht => ?_⟩
      rcases List.mem_append.mp ht with z | z
      · exact h.2 t z
      · exact ⟨n, List.mem_singleton.mp z⟩
  | false =>
    rw [if_neg (by decide)] at h hv
    obtain ⟨kvs, h1, h2, h3, h4⟩ := h
    obtain ⟨b, rfl, hb⟩ := hv
    have hb' : TIn H (zs k) b := by unfold TIn; rw [zs_intsV]; exact hb
    refine ⟨hdO (pairD P w) d (kvs ++ [(zs k, b, .int (ts.length : Int))]), .inr ⟨kvs, zs k, b, h1, h2, rfl, hb', ?_, by rw [h3]; exact hl, rfl⟩, ?_⟩
    · rw [valH_of (n := 0) h3 (fun i k x a b => by rw [Nat.zero_add]; exact h4 i k x a b), hno]
      rfl
    · unfold RmAt
      rw [if_neg (by decide)]
      refine ⟨_, upd_same, fun x hx => ?_, by rw [List.length_append, List.length_append, h3]; rfl, fun i k' x hk hx => ?_⟩
      · rcases List.mem_append.mp hx with z | z
        · exact hd _ _ (h2 x z) _ h1 _
        · rw [List.mem_singleton.mp z]
          exact hd _ _ hb' _ h1 _
      · by_cases hi : i < ts.length
        · rw [List.getElem?_append_left hi] at hk
          rw [List.getElem?_append_left (by rw [h3]; exact hi)] at hx
          exact h4 i k' x hk hx
        · rw [List.getElem?_append_right (Nat.le_of_not_lt hi)] at hk
          rw [List.getElem?_append_right (by rw [h3]; exact Nat.le_of_not_lt hi), h3] at hx
          have hz : i - ts.length = 0 := by
            have := (List.getElem?_eq_some_iff.mp hk).1
            simp at this
            omega
          rw [hz] at hk hx
          cases hk
          cases hx
          exact ⟨rfl, by rw [show i = ts.length by omega]⟩
theorem RmAt.same {H' : Hp} (h : RmAt P w H d ti ts) (s : ∀ b o, H b = some o → (b = d ∨ ∃ xs, o = .tup xs) → H' b = some o) : RmAt P w H' d ti ts := by
  unfold RmAt at h ⊢
  cases ti with
  | true =>
    rw [if_pos rfl] at h ⊢
    exact ⟨s _ _ h.1 (.inl rfl), h.2⟩
  | false =>
    rw [if_neg (by decide)] at h ⊢
    obtain ⟨kvs, h1, h2, h3, h4⟩ := h
    exact ⟨kvs, s _ _ h1 (.inl rfl), fun x hx => s _ _ (h2 x hx) (.inr ⟨_, rfl⟩), h3, h4⟩
end
end RA

namespace L2
open PySem PySem.Spec PyProof.Rows
/-! ## list(zip(..)): the pairs are kept, so each is a new tuple -/
namespace ZP
def zipO (T : Addr) (b : Bool) (TI TO : Addr) : Obj := { cls := .type "zip", dict := none, data := .fields #[rawInt T, .bool b, .bool false, .ref TI, .ref TO], slots := #[] }
section
variable {prog : Program} {w : World} {A : Around} {E : Value → Shared → Prop} {s : Shared} {z TI TO i1 i2 T : Addr} {f1 f2 : List Addr} {n1 n2 k : Nat} {P1 P2 : Nat → Value → Prop} {S1 S2 : Nat → Heap → Prop} {b1 : Bool} {oT : Obj}
end
section
variable {prog : Program} {w : World} {A : Around} {R : Result → Shared → Prop} {z TI TO i1 i2 S : Addr} {f1 f2 : List Addr} {n : Nat} {P1 P2 : Nat → Value → Prop} {S1 S2 : Nat → Heap → Prop}
structure LZ (h0 : Heap) (z TI TO i1 i2 S : Addr) (P1 P2 : Nat → Value → Prop) (S1 S2 : Nat → Heap → Prop) (k : Nat) (h : Heap) (acc : Array Value) : Prop where
  zip : (k = 0 ∧ IsZip h z TI TO .none ∧ ∃ a b, IsPair h TO a b) ∨ (0 < k ∧ ∃ b1 T oT, h.get? z = some (zipO T b1 TI TO) ∧ h.get? T = some oT ∧ h0.objs.size ≤ T)
  ti : IsPair h TI (.ref i1) (.ref i2)
  s1 : S1 k h
  s2 : S2 k h
  sz : h0.objs.size ≤ h.objs.size
  len : acc.size = k
  items : ∀ (j : Nat) (v : Value), acc[j]? = some v → ∃ t x y, v = .ref t ∧ P1 j x ∧ P2 j y ∧ IsPair h t x y ∧ h0.objs.size ≤ t
  inj : ∀ (i j : Nat) (t : Addr), acc[i]? = some (.ref t) → acc[j]? = some (.ref t) → i = j
  keep : ∀ c o, c ∉ [z, TO, i1, i2, S] → h0.get? c = some o → h.get? c = some o
end
section
variable {prog : Program} {w : World} {A : Around} {E : Value → Shared → Prop} {z TI TO i1 i2 : Addr} {f1 f2 : List Addr} {n : Nat} {P1 P2 : Nat → Value → Prop} {S1 S2 : Nat → Heap → Prop}
end
end ZP
end L2

namespace L2
open PySem PySem.Spec PyProof.Rows
section
variable {X : Cx} {pins : List (Addr × Obj)} {σ : St} {H H' : Hp} {s : Shared} {h' : Heap}
end
def newT (ts : List Addr) (xs ys : List V) (b : Addr) : Option HO := ((ts.zip (xs.zip ys)).lookup b).map fun q => HO.tup [q.1, q.2]
/-- list(zip(p, q)), of two lists of one length -/
def tListZip (ta : TA) : TE := fun σ H Q => ta σ H fun vs H1 => ∃ a b xs ys, vs = [.ref a, .ref b] ∧ H1 a = some (.lst xs) ∧ H1 b = some (.lst ys) ∧ xs.length = ys.length ∧ xs.length ≤ 1000000 ∧
  ∀ (l : Addr) (ts : List Addr) (H2 : Hp), ts.length = xs.length → ts.Nodup → H1 l = none → Same H1 H2 → H2 l = some (.lst (ts.map V.ref)) → (∀ (i : Nat) (t : Addr) (x y : V), ts[i]? = some t → xs[i]? = some x → ys[i]? = some y → H2 t = some (.tup [x, y])) → Q (.ref l) H2
end L2

namespace L2
open PySem PySem.Spec PyProof.Rows
theorem has_uniq {d : Sd} {H : Hp} {xs ys : List V} (a : d.has H xs) (b : d.has H ys) : xs = ys := by
  cases d with
  | tx x k => exact (show xs = _ from a).trans (show ys = _ from b).symm
  | tp c =>
    have a : H c = _ := a
    have b : H c = _ := b
    rw [a] at b
    cases b
    rfl
  | ls c =>
    have a : H c = _ := a
    have b : H c = _ := b
    rw [a] at b
    cases b
    rfl
theorem for_zipG {d1 d2 : Sd} {xs ys : List V} {g : TG} {tb : TS} {D : Ends} {σ : St} {H : Hp} (hl : xs.length = ys.length) (Pv : Nat → St → Hp → Prop) (h0 : Pv 0 σ H) (hh : ∀ i σ H, Pv i σ H → d1.has H xs ∧ d2.has H ys)
    (hs : ∀ i x y p σ H, xs[i]? = some x → ys[i]? = some y → H p = none → Pv i σ H → g (.ref p) σ (upd H p (.tup [x, y])) fun σ2 H2 => tb { D with nx := Pv (i + 1), ct := Pv (i + 1), bk := D.nx } σ2 H2)
    (hd : ∀ σ H, Pv xs.length σ H → D.nx σ H) :
    ∃ W : Nat → Nat → St → Hp → Prop, (∃ m, W 0 m σ H) ∧ ∀ i m σ H, W i m σ H →
      ((Itg d1 d2).stop i H ∧ D.nx σ H) ∨ ((Itg d1 d2).go i H ∧ ∃ N : St → Hp → Prop, (∀ σ' H', N σ' H' → ∃ m', m' < m ∧ W (i + 1) m' σ' H') ∧ ∀ v H', (Itg d1 d2).yld i H v H' → g v σ H' fun σ2 H2 => tb { D with nx := N, ct := N, bk := D.nx } σ2 H2) := by
  refine ⟨fun i m σ H => m = xs.length - i ∧ i ≤ xs.length ∧ Pv i σ H, ⟨xs.length, by simp, Nat.zero_le _, h0⟩, ?_⟩
  rintro i m σ H ⟨rfl, hi, p⟩
  obtain ⟨h1, h2⟩ := hh i σ H p
  by_cases hlt : i < xs.length
  · refine .inr ⟨⟨xs, ys, xs[i], ys[i]'(by omega), h1, h2, List.getElem?_eq_getElem _, List.getElem?_eq_getElem _⟩, Pv (i + 1), fun σ' H' p' => ⟨xs.length - (i + 1), by omega, rfl, hlt, p'⟩, fun v H' q => ?_⟩
    obtain ⟨a, xs', ys', x, y, e1, e2, e3, e4, rfl, e5, rfl⟩ := q
    have := has_uniq e1 h1
    have := has_uniq e2 h2
    subst xs' ys'
    exact hs i x y a σ H e3 e4 e5 p
  · have e : i = xs.length := by omega
    subst e
    exact .inl ⟨⟨xs, ys, h1, h2, hl, rfl⟩, hd σ H p⟩
theorem zips_of {H : Hp} {gs : Addr} {xs : List V} {x : Str} {R : (Tok → Sd) → Sd → Prop} (h : H gs = some (.tup xs) ∨ H gs = some (.lst xs)) (hR : ∀ d2 : Sd, (∀ H' : Hp, H' gs = H gs → d2.has H' xs) → R (.tx x) d2) : Zips H (.str x) (.ref gs) R := by
  rcases h with h | h
  · exact .inl ⟨x, gs, xs, rfl, rfl, h, hR (.tp gs) fun H' e => show H' gs = _ from e.trans h⟩
  · exact .inr (.inl ⟨x, gs, xs, rfl, rfl, h, hR (.ls gs) fun H' e => show H' gs = _ from e.trans h⟩)
/-- a def of the text with defaults -/
structure FunD (K : PySem.W.Frag) (x qual : Str) (st : Stmt) (f : Addr) (fd : FuncData) : Prop where
  ex : ∃ (oc : Value) (od : Option Addr) (dV kV doc pm : Value) (an : Option Addr) (cdv ct : Value) (osl : Array (Option Value)),
    fd = PySem.W.fnOf x qual (defArgs st) (defBody st) (defScope st) dV kV doc pm an cdv ct ∧ K.lookup f = some ⟨oc, od, .func fd, osl⟩ ∧ PySem.W.codeIn K cdv qual = true
  kp : PySem.W.keepIn K (.ref f) = true
theorem FunD.ok {P : Program} {w : World} {K : PySem.W.Frag} {mg : Str → Option Value} {base : Heap} {x qual : Str} {st : Stmt} {f : Addr} {fd : FuncData} {N ps : List Str} {k : Nat} {sp : Sp} (F : FunD K x qual st f fd) (S : FnScope N ps (defScope st)) (len : ∀ vs H Q E, sp vs H Q E → vs.length = ps.length)
    (hbody : ∀ (cdv : Value) (A : Around) (outer : List Env) (s : Shared) (H : Hp) (vs : List V) (Q : VK) (E : XK), Room k (A.deeper (envOfC qual (defScope st) s.heap.objs.size f cdv)) → sp vs H Q E →
      ∃ t, PSs (cxOf CX0 P w K mg base N qual (defScope st) f cdv A outer s H E).nox (defBody st) t ∧ t { nx := fun _ H' => Q .non H', rt := Q } (start N vs) H) : FnOk P w K mg base CX0 (k + 1) f fd ps sp := by
  obtain ⟨oc, od, dV, kV, doc, pm, an, cdv, ct, osl, rfl, lk, hcd⟩ := F.ex
  refine fn_of lk hcd S len fun A outer s H vs Q E hr hsp => ?_
  obtain ⟨t, h, q⟩ := hbody cdv A outer s H vs Q E hr hsp
  exact ⟨t, h.nox, q⟩
/-- a def of the text whose code object is known -/
theorem fn_code {P : Program} {w : World} {K : PySem.W.Frag} {mg : Str → Option Value} {base : Heap} {x qual : Str} {st : Stmt} {f c : Addr} {oc dV kV doc pm ct : Value} {od an : Option Addr} {osl : Array (Option Value)} {N ps : List Str} {k : Nat} {sp : Sp}
    (lk : K.lookup f = some ⟨oc, od, .func (PySem.W.fnOf x qual (defArgs st) (defBody st) (defScope st) dV kV doc pm an (.ref c) ct), osl⟩) (hcd : PySem.W.codeIn K (.ref c) qual = true) (S : FnScope N ps (defScope st)) (len : ∀ vs H Q E, sp vs H Q E → vs.length = ps.length)
    (hbody : ∀ (A : Around) (outer : List Env) (s : Shared) (H : Hp) (vs : List V) (Q : VK) (E : XK), Room k (A.deeper (envOfC qual (defScope st) s.heap.objs.size f (.ref c))) → sp vs H Q E →
      ∃ t, PSs (cxOf CX0 P w K mg base N qual (defScope st) f (.ref c) A outer s H E) (defBody st) t ∧ t { nx := fun _ H' => Q .non H', rt := Q } (start N vs) H) :
    FnOk P w K mg base CX0 (k + 1) f (PySem.W.fnOf x qual (defArgs st) (defBody st) (defScope st) dV kV doc pm an (.ref c) ct) ps sp := fn_of lk hcd S len hbody
end L2
namespace RA
open PySem L2
/-! ## a walk's object -/
structure WalkAt (H : Hp) (cW wk : Addr) (L : List Nat) (t wd y m : Addr) : Prop where
  ex : ∃ dx, H wk = some (.ins cW dx [("letters", .str (tx L)), ("things", .ref t), ("words", .ref wd), ("ways", .ref y), ("marks", .ref m)])
def wordsV (ws : List (List Nat)) : List V := ws.map fun w => V.str (tx w)
def ThsAt (ti : Bool) (H : Hp) (ks : List (List Nat)) (vs : List V) : Prop := vs.length = ks.length ∧ ∀ (i : Nat) (k : List Nat) (v : V), ks[i]? = some k → vs[i]? = some v → ThV ti H k v
theorem ThsAt.same {ti : Bool} {H H' : Hp} {ks : List (List Nat)} {vs : List V} (h : ThsAt ti H ks vs) (s : ∀ b xs, H b = some (.tup xs) → H' b = some (.tup xs)) : ThsAt ti H' ks vs := ⟨h.1, fun i k v a b => (h.2 i k v a b).same s⟩
theorem ThsAt.snoc {ti : Bool} {H : Hp} {ks : List (List Nat)} {vs : List V} {k : List Nat} {v : V} (h : ThsAt ti H ks vs) (hv : ThV ti H k v) : ThsAt ti H (ks ++ [k]) (vs ++ [v]) := by
  refine ⟨by rw [List.length_append, List.length_append, h.1]; rfl, fun i k' v' a b => ?_⟩
  by_cases hi : i < ks.length
  · rw [List.getElem?_append_left hi] at a
    rw [List.getElem?_append_left (by rw [h.1]; exact hi)] at b
    exact h.2 i k' v' a b
  · rw [List.getElem?_append_right (Nat.le_of_not_lt hi)] at a
    rw [List.getElem?_append_right (by rw [h.1]; exact Nat.le_of_not_lt hi), h.1] at b
    have hz : i - ks.length = 0 := by
      have := (List.getElem?_eq_some_iff.mp a).1
      simp at this
      omega
    rw [hz] at a b
    cases a
    cases b
    exact hv
/-- the rows of a walk: lists of the things' numbers -/
def WRows (H : Hp) (rows : List Addr) (R : List (List Nat)) : Prop := rows.length = R.length ∧ ∀ (i : Nat) (a : Addr) (r : List Nat), rows[i]? = some a → R[i]? = some r → H a = some (.lst (intsV r))
structure WaysOk (g : List Nat → Nat → List Nat) (nL : Nat) (ks : List (List Nat)) (R : List (List Nat)) : Prop where
  row : ∀ (r : Nat) (row : List Nat) (k : List Nat), R[r]? = some row → ks[r]? = some k → row.length = nL ∧ ∀ (q x : Nat), row[q]? = some x → ks[x]? = some (g k q)
/-- what a function that is handed to the walk tells: the things to which the letters lead -/
def spGoals (ti : Bool) (L : List Nat) (g : List Nat → Nat → List Nat) (U : List (List Nat)) (Rest : Hp → Prop) : Sp := fun vs H Q _ => ∃ k v, vs = [v] ∧ ThV ti H k v ∧ k ∈ U ∧ Rest H ∧
  ∀ gs xs H', Same H H' → (H' gs = some (.tup xs) ∨ (H gs = none ∧ H' gs = some (.lst xs))) → xs.length = L.length → (∀ (q : Nat) (x : V), xs[q]? = some x → ThV ti H' (g k q) x) → Q (.ref gs) H'
def spMark (ti : Bool) (mk : List Nat → Bool) (U : List (List Nat)) (Rest : Hp → Prop) : Sp := fun vs H Q _ => ∃ k v, vs = [v] ∧ ThV ti H k v ∧ k ∈ U ∧ Rest H ∧ Q (.bl (mk k)) H
def mostV : Option Nat → V
  | none => .non
  | some n => .int (n : Int)
def sp_winit (cW : Addr) : Sp := fun vs H Q _ => ∃ x dx L v, vs = [.ref x, .str (tx L), v] ∧ H x = some (.ins cW dx []) ∧
  ∀ t wd y m H', t ≠ wd → t ≠ y → t ≠ m → wd ≠ y → wd ≠ m → y ≠ m → H t = none → H wd = none → H y = none → H m = none → (∀ b o, b ≠ x → H b = some o → H' b = some o) → WalkAt H' cW x L t wd y m → H' t = some (.lst [v]) → H' wd = some (.lst [.str (tx [])]) → H' y = some (.lst []) → H' m = some (.lst []) → Q .non H'
/-- the walk -/
def sp_walked (cW : Addr) (ti : Bool) (L : List Nat) (g : List Nat → Nat → List Nat) (mk : List Nat → Bool) (U : List (List Nat)) (Rest : Hp → Prop) (fg fm : Addr) : Sp := fun vs H Q _ => ∃ (s : List Nat) (sv : V) (most : Option Nat), vs = [.str (tx L), sv, .ref fg, .ref fm, mostV most] ∧ Let L ∧ ThV ti H s sv ∧ s ∈ U ∧ (∀ k ∈ U, ∀ q, q < L.length → g k q ∈ U) ∧ U.length ≤ 100000 ∧ Rest H ∧
  ∀ (wk t wd y m : Addr) (ks : List (List Nat)) (vks : List V) (ws : List (List Nat)) (rows : List Addr) (R : List (List Nat)) (B : List Bool) (H' : Hp), Same H H' → WalkAt H' cW wk L t wd y m → H' t = some (.lst vks) → ThsAt ti H' ks vks → H' wd = some (.lst (wordsV ws)) → H' y = some (.lst (rows.map V.ref)) → WRows H' rows R → H' m = some (.lst (B.map V.bl)) →
    Bf g L s ks ws R.length 0 → WaysOk g L.length ks R → B.length = R.length → (∀ (r : Nat) (k : List Nat) (b : Bool), ks[r]? = some k → B[r]? = some b → b = mk k) → (∀ k ∈ ks, k ∈ U) → ks.length ≤ U.length → (R.length = ks.length ∨ ∃ n, most = some n ∧ n < ks.length) → Q (.ref wk) H'
end RA

namespace RA
open PySem L2
theorem line_lt {n : Nat} (h : n ≤ 100000) : n < sizeLine := by rw [sizeLine_eq]; omega
theorem iteNI {n : Int} {A B : Prop} (h : A) : if (!decide (V.int n = V.non)) = true then A else B := by
  rw [decide_eq_false (fun z => by cases z)]
  exact iteT h
/-- the walk under way: its object, its lists, the dict that numbers the things -/
structure WI (P : Program) (w : World) (H0 H : Hp) (cW : Addr) (ti : Bool) (L : List Nat) (wk t wd y m d : Addr) (ks : List (List Nat)) (vks : List V) (ws : List (List Nat)) (rows : List Addr) (R : List (List Nat)) (B : List Bool) : Prop where
  sm : Same H0 H
  obj : WalkAt H cW wk L t wd y m
  ht : H t = some (.lst vks)
  th : ThsAt ti H ks vks
  hw : H wd = some (.lst (wordsV ws))
  hy : H y = some (.lst (rows.map V.ref))
  wr : WRows H rows R
  hm : H m = some (.lst (B.map V.bl))
  rm : RmAt P w H d ti ks
  n1 : H0 t = none
  n2 : H0 wd = none
  n3 : H0 y = none
  n4 : H0 m = none
  n5 : H0 d = none
  d1 : t ≠ wd
  d2 : t ≠ y
  d3 : t ≠ m
  d4 : wd ≠ y
  d5 : wd ≠ m
  d6 : y ≠ m
  e1 : d ≠ t
  e2 : d ≠ wd
  e3 : d ≠ y
  e4 : d ≠ m
  e5 : d ≠ wk
  nr : ∀ a ∈ rows, a ≠ t ∧ a ≠ wd ∧ a ≠ y ∧ a ≠ m ∧ a ≠ d
section
variable {P : Program} {w : World} {H0 H : Hp} {cW : Addr} {ti : Bool} {L : List Nat} {wk t wd y m d : Addr} {ks : List (List Nat)} {vks : List V} {ws : List (List Nat)} {rows : List Addr} {R : List (List Nat)} {B : List Bool}
theorem WI.any {H' : Hp} (h : WI P w H0 H cW ti L wk t wd y m d ks vks ws rows R B) (s : Same H H') : WI P w H0 H' cW ti L wk t wd y m d ks vks ws rows R B :=
  { h with
    sm := h.sm.trans s
    obj := let ⟨dx, e⟩ := h.obj.ex; ⟨dx, s _ _ e⟩
    ht := s _ _ h.ht
    th := h.th.same fun b xs e => s _ _ e
    hw := s _ _ h.hw
    hy := s _ _ h.hy
    wr := ⟨h.wr.1, fun i a r h1 h2 => s _ _ (h.wr.2 i a r h1 h2)⟩
    hm := s _ _ h.hm
    rm := h.rm.same fun b o e _ => s _ _ e }
/-- an object beside the walk's own changes: one list, not there at the start -/
theorem WI.beside {a : Addr} {xs : List V} {o : HO} (h : WI P w H0 H cW ti L wk t wd y m d ks vks ws rows R B) (ha : H a = some (.lst xs)) (h0 : H0 a = none) (a1 : a ≠ t) (a2 : a ≠ wd) (a3 : a ≠ y) (a4 : a ≠ m) (a5 : a ≠ d) (a6 : a ∉ rows) : WI P w H0 (upd H a o) cW ti L wk t wd y m d ks vks ws rows R B := by
  have kp : ∀ {b : Addr} {u : HO}, H b = some u → b ≠ a → upd H a o b = some u := fun e hb => by rw [upd_ne hb]; exact e
  have ktup : ∀ b zs, H b = some (.tup zs) → upd H a o b = some (.tup zs) := fun b zs e => kp e (ne_of e ha (by intro z; cases z))
  exact { h with
    sm := Same.set h.sm h0
    obj := let ⟨dx, e⟩ := h.obj.ex; ⟨dx, kp e (ne_of e ha (by intro z; cases z))⟩
    ht := kp h.ht (Ne.symm a1)
    th := h.th.same ktup
    hw := kp h.hw (Ne.symm a2)
    hy := kp h.hy (Ne.symm a3)
    wr := ⟨h.wr.1, fun i b r h1 h2 => kp (h.wr.2 i b r h1 h2) fun z => a6 (by rw [← z]; exact List.mem_of_getElem? h1)⟩
    hm := kp h.hm (Ne.symm a4)
    rm := h.rm.same fun b u e hb => by
      rcases hb with rfl | ⟨zs, rfl⟩
      · exact kp e (Ne.symm a5)
      · exact ktup b zs e }
/-- a new thing: its number, it itself, its word -/
theorem WI.new {k : List Nat} {v : V} {ob : HO} {a : List Nat} (h : WI P w H0 H cW ti L wk t wd y m d ks vks ws rows R B) (hv : ThV ti H k v) (hr : RmAt P w (upd H d ob) d ti (ks ++ [k])) :
    WI P w H0 (upd (upd (upd H d ob) t (.lst (vks ++ [v]))) wd (.lst (wordsV ws ++ [.str (tx a)]))) cW ti L wk t wd y m d (ks ++ [k]) (vks ++ [v]) (ws ++ [a]) rows R B := by
  have hd : ∃ φ, H d = some (.ext φ) := by
    have hr0 := h.rm
    unfold RmAt at hr0
    cases ti with
    | true => rw [if_pos rfl] at hr0; exact ⟨_, hr0.1⟩
    | false => rw [if_neg (by decide)] at hr0; obtain ⟨kvs, e, _⟩ := hr0; exact ⟨_, e⟩
  obtain ⟨φ, hd⟩ := hd
  have kp : ∀ {b : Addr} {u : HO}, H b = some u → b ≠ d → b ≠ t → b ≠ wd → upd (upd (upd H d ob) t (.lst (vks ++ [v]))) wd (.lst (wordsV ws ++ [.str (tx a)])) b = some u := fun e h1 h2 h3 => by rw [upd_ne h3, upd_ne h2, upd_ne h1]; exact e
  have ktup : ∀ b zs, H b = some (.tup zs) → upd (upd (upd H d ob) t (.lst (vks ++ [v]))) wd (.lst (wordsV ws ++ [.str (tx a)])) b = some (.tup zs) := fun b zs e => kp e (ne_of e hd (by intro z; cases z)) (ne_of e h.ht (by intro z; cases z)) (ne_of e h.hw (by intro z; cases z))
  have e0 := h.obj.ex
  obtain ⟨dx, ew⟩ := e0
  exact { h with
    sm := Same.set (Same.set (Same.set h.sm h.n5) h.n1) h.n2
    obj := ⟨dx, kp ew (Ne.symm h.e5) (ne_of ew h.ht (by intro z; cases z)) (ne_of ew h.hw (by intro z; cases z))⟩
    ht := by rw [upd_ne h.d1, upd_same]
    th := (h.th.same ktup).snoc (hv.same ktup)
    hw := by rw [upd_same, wordsV, wordsV, List.map_append]; rfl
    hy := kp h.hy (Ne.symm h.e3) (Ne.symm h.d2) (Ne.symm h.d4)
    wr := ⟨h.wr.1, fun i b r h1 h2 => kp (h.wr.2 i b r h1 h2) (h.nr b (List.mem_of_getElem? h1)).2.2.2.2 (h.nr b (List.mem_of_getElem? h1)).1 (h.nr b (List.mem_of_getElem? h1)).2.1⟩
    hm := kp h.hm (Ne.symm h.e4) (Ne.symm h.d3) (Ne.symm h.d5)
    rm := hr.same fun b u e hb => by
      rcases hb with rfl | ⟨zs, rfl⟩
      · rw [upd_ne h.e2, upd_ne h.e1]
        exact e
      · have hbd : b ≠ d := fun z => by
          rw [z, upd_same] at e
          have hr1 := hr
          unfold RmAt at hr1
          cases ti with
          | true => rw [if_pos rfl, upd_same] at hr1; rw [e] at hr1; cases hr1.1
          | false => rw [if_neg (by decide)] at hr1; obtain ⟨kvs, e2, _⟩ := hr1; rw [upd_same, e] at e2; cases e2
        rw [upd_ne hbd] at e
        exact ktup b zs e }
theorem WI.row {a : Addr} {r : List Nat} (h : WI P w H0 H cW ti L wk t wd y m d ks vks ws rows R B) (ha : H a = some (.lst (intsV r))) (a1 : a ≠ t) (a2 : a ≠ wd) (a3 : a ≠ y) (a4 : a ≠ m) (a5 : a ≠ d) :
    WI P w H0 (upd H y (.lst (rows.map V.ref ++ [.ref a]))) cW ti L wk t wd y m d ks vks ws (rows ++ [a]) (R ++ [r]) B := by
  have kp : ∀ {b : Addr} {u : HO}, H b = some u → b ≠ y → upd H y (.lst (rows.map V.ref ++ [.ref a])) b = some u := fun e hb => by rw [upd_ne hb]; exact e
  have ktup : ∀ b zs, H b = some (.tup zs) → upd H y (.lst (rows.map V.ref ++ [.ref a])) b = some (.tup zs) := fun b zs e => kp e (ne_of e h.hy (by intro z; cases z))
  have e0 := h.obj.ex
  obtain ⟨dx, ew⟩ := e0
  exact { h with
    sm := Same.set h.sm h.n3
    obj := ⟨dx, kp ew (ne_of ew h.hy (by intro z; cases z))⟩
    ht := kp h.ht h.d2
    th := h.th.same ktup
    hw := kp h.hw h.d4
    hy := by rw [upd_same, List.map_append]; rfl
    wr := by
      refine ⟨by rw [List.length_append, List.length_append, h.wr.1]; rfl, fun i b r' h1 h2 => ?_⟩
      by_cases hi : i < rows.length
      · rw [List.getElem?_append_left hi] at h1
        rw [List.getElem?_append_left (by rw [← h.wr.1]; exact hi)] at h2
        exact kp (h.wr.2 i b r' h1 h2) (h.nr b (List.mem_of_getElem? h1)).2.2.1
      · rw [List.getElem?_append_right (Nat.le_of_not_lt hi)] at h1
        rw [List.getElem?_append_right (by rw [← h.wr.1]; exact Nat.le_of_not_lt hi), ← h.wr.1] at h2
        have hz : i - rows.length = 0 := by
          have := (List.getElem?_eq_some_iff.mp h1).1
          simp at this
          omega
        rw [hz] at h1 h2
        cases h1
        cases h2
        exact kp ha a3
    hm := kp h.hm (Ne.symm h.d6)
    rm := h.rm.same fun b u e hb => by
      rcases hb with rfl | ⟨zs, rfl⟩
      · exact kp e h.e3
      · exact ktup b zs e
    nr := fun b hb => by
      rcases List.mem_append.mp hb with z | z
      · exact h.nr b z
      · rw [List.mem_singleton.mp z]
        exact ⟨a1, a2, a3, a4, a5⟩ }
theorem WI.mark {b : Bool} (h : WI P w H0 H cW ti L wk t wd y m d ks vks ws rows R B) : WI P w H0 (upd H m (.lst (B.map V.bl ++ [.bl b]))) cW ti L wk t wd y m d ks vks ws rows R (B ++ [b]) := by
  have kp : ∀ {c : Addr} {u : HO}, H c = some u → c ≠ m → upd H m (.lst (B.map V.bl ++ [.bl b])) c = some u := fun e hb => by rw [upd_ne hb]; exact e
  have ktup : ∀ c zs, H c = some (.tup zs) → upd H m (.lst (B.map V.bl ++ [.bl b])) c = some (.tup zs) := fun c zs e => kp e (ne_of e h.hm (by intro z; cases z))
  have e0 := h.obj.ex
  obtain ⟨dx, ew⟩ := e0
  exact { h with
    sm := Same.set h.sm h.n4
    obj := ⟨dx, kp ew (ne_of ew h.hm (by intro z; cases z))⟩
    ht := kp h.ht h.d3
    th := h.th.same ktup
    hw := kp h.hw h.d5
    hy := kp h.hy h.d6
    wr := ⟨h.wr.1, fun i c r h1 h2 => kp (h.wr.2 i c r h1 h2) (h.nr c (List.mem_of_getElem? h1)).2.2.2.1⟩
    hm := by rw [upd_same, List.map_append]; rfl
    rm := h.rm.same fun c u e hb => by
      rcases hb with rfl | ⟨zs, rfl⟩
      · exact kp e h.e4
      · exact ktup c zs e }
end
theorem ints_snocW (l : List Nat) (x : Nat) : intsV (l ++ [x]) = intsV l ++ [V.int (x : Int)] := by simp [intsV]
theorem get_app {α : Type} {l : List α} {x y : α} {i : Nat} (h : l[i]? = some y) : (l ++ [x])[i]? = some y := by
  rw [List.getElem?_append_left (List.getElem?_eq_some_iff.mp h).1]
  exact h
theorem get_unapp {α : Type} {l : List α} {x y : α} {i : Nat} (hi : i < l.length) (h : (l ++ [x])[i]? = some y) : l[i]? = some y := by
  rw [List.getElem?_append_left hi] at h
  exact h
theorem get_split {α : Type} {l : List α} {x y : α} {i : Nat} (e : (l ++ [x])[i]? = some y) : l[i]? = some y ∨ (i = l.length ∧ y = x) := by
  by_cases hi : i < l.length
  · rw [List.getElem?_append_left hi] at e
    exact .inl e
  · rw [List.getElem?_append_right (by omega)] at e
    have : i - l.length = 0 := by
      have := (List.getElem?_eq_some_iff.mp e).1
      simp at this
      omega
    rw [this] at e
    exact .inr ⟨by omega, (Option.some.inj e).symm⟩
theorem ix_get {ts : List (List Nat)} {k : List Nat} (h : k ∈ ts) : ixO ts k = some (ts.idxOf k) ∧ ts[ts.idxOf k]? = some k := ⟨if_pos h, by rw [List.getElem?_eq_getElem (List.idxOf_lt_length_of_mem h), List.getElem_idxOf]⟩
/-- what is true of a walk under way, by the things' letters alone -/
structure WPu (g : List Nat → Nat → List Nat) (L s0 : List Nat) (mk : List Nat → Bool) (U ks ws R : List (List Nat)) (B : List Bool) (q : Nat) : Prop where
  bf : Bf g L s0 ks ws R.length q
  le : R.length ≤ ks.length
  ways : WaysOk g L.length ks R
  bl : B.length = R.length
  mks : ∀ (r : Nat) (k : List Nat) (b : Bool), ks[r]? = some k → B[r]? = some b → b = mk k
  sub : ∀ k ∈ ks, k ∈ U
  left : leftOf U ks + ks.length ≤ U.length
  wl : ∀ a ∈ ws, a.length ≤ ks.length
def RowOk (g : List Nat → Nat → List Nat) (ks : List (List Nat)) (n : Nat) (r : List Nat) (q : Nat) : Prop := r.length = q ∧ ∀ (q' x : Nat) (k : List Nat), ks[n]? = some k → r[q']? = some x → ks[x]? = some (g k q')
section
variable {g : List Nat → Nat → List Nat} {L s0 : List Nat} {mk : List Nat → Bool} {U ks ws R : List (List Nat)} {B : List Bool} {q n : Nat} {r a k0 : List Nat}
theorem WPu.start (hs : s0 ∈ U) : WPu g L s0 mk U [s0] [[]] [] [] 0 where
  bf := Bf.start g L s0
  le := Nat.zero_le _
  ways := ⟨fun r row k h => by simp at h⟩
  bl := rfl
  mks := fun r k b _ h => by simp at h
  sub := fun k hk => by rw [List.mem_singleton.mp hk]; exact hs
  left := by
    have h1 := leftOf_lt (U := U) (ts := []) hs (by simp)
    have h2 : leftOf U ([] : List (List Nat)) ≤ U.length := List.countP_le_length
    simp at h1 ⊢
    omega
  wl := fun a ha => by rw [List.mem_singleton.mp ha]; exact Nat.zero_le _
theorem WPu.old (h : WPu g L s0 mk U ks ws R B q) (nd : L.Nodup) (hk : ks[R.length]? = some k0) (ha : ws[R.length]? = some a) (hq : q < L.length) (hm : g k0 q ∈ ks) : WPu g L s0 mk U ks ws R B (q + 1) :=
  { h with bf := h.bf.old nd hk ha hq hm }
theorem WPu.new (h : WPu g L s0 mk U ks ws R B q) (nd : L.Nodup) (hk : ks[R.length]? = some k0) (ha : ws[R.length]? = some a) (hq : q < L.length) (hm : g k0 q ∉ ks) (hU : g k0 q ∈ U) : WPu g L s0 mk U (ks ++ [g k0 q]) (ws ++ [a ++ [L.getD q 0]]) R B (q + 1) where
  bf := h.bf.new nd hk ha hq hm
  le := by rw [List.length_append]; exact Nat.le_trans h.le (Nat.le_add_right _ _)
  ways := ⟨fun r row k h1 h2 => by
    have hr : r < ks.length := Nat.lt_of_lt_of_le (List.getElem?_eq_some_iff.mp h1).1 h.le
    obtain ⟨e1, e2⟩ := h.ways.row r row k h1 (get_unapp hr h2)
    exact ⟨e1, fun q x hx => get_app (e2 q x hx)⟩⟩
  bl := h.bl
  mks := fun r k b h1 h2 => h.mks r k b (get_unapp (Nat.lt_of_lt_of_le (by rw [← h.bl]; exact (List.getElem?_eq_some_iff.mp h2).1) h.le) h1) h2
  sub := fun k hk => by
    rcases List.mem_append.mp hk with z | z
    · exact h.sub k z
    · rw [List.mem_singleton.mp z]; exact hU
  left := by
    have h1 := leftOf_lt (U := U) (ts := ks) hU hm
    have h2 := h.left
    rw [List.length_append]
    show leftOf U (ks ++ [g k0 q]) + (ks.length + 1) ≤ U.length
    omega
  wl := fun b hb => by
    rw [List.length_append]
    rcases List.mem_append.mp hb with z | z
    · exact Nat.le_trans (h.wl b z) (Nat.le_add_right _ _)
    · rw [List.mem_singleton.mp z, List.length_append]
      exact Nat.add_le_add_right (h.wl a (List.mem_of_getElem? ha)) 1
theorem WPu.next (h : WPu g L s0 mk U ks ws R B L.length) (hk : ks[R.length]? = some k0) (hr : RowOk g ks R.length r L.length) : WPu g L s0 mk U ks ws (R ++ [r]) (B ++ [mk k0]) 0 where
  bf := by rw [List.length_append]; exact h.bf.next
  le := by rw [List.length_append]; exact (List.getElem?_eq_some_iff.mp hk).1
  ways := ⟨fun i row k h1 h2 => by
    rcases get_split h1 with z | ⟨rfl, rfl⟩
    · exact h.ways.row i row k z h2
    · exact ⟨hr.1, fun q x hx => hr.2 q x k h2 hx⟩⟩
  bl := by rw [List.length_append, List.length_append, h.bl]; rfl
  mks := fun i k b h1 h2 => by
    rcases get_split h2 with z | ⟨rfl, rfl⟩
    · exact h.mks i k b h1 z
    · rw [h.bl, hk] at h1
      cases h1
      rfl
  sub := h.sub
  left := h.left
  wl := h.wl
theorem RowOk.nil : RowOk g ks n [] 0 := ⟨rfl, fun q x k _ h => by simp at h⟩
theorem RowOk.grow {x : List Nat} (h : RowOk g ks n r q) (hn : n < ks.length) : RowOk g (ks ++ [x]) n r q := ⟨h.1, fun q' y k h1 h2 => get_app (h.2 q' y k (get_unapp hn h1) h2)⟩
theorem RowOk.snoc (h : RowOk g ks n r q) (hk : ks[n]? = some k0) (hm : g k0 q ∈ ks) : RowOk g ks n (r ++ [ks.idxOf (g k0 q)]) (q + 1) := by
  refine ⟨by rw [List.length_append, h.1]; rfl, fun q' x k h1 h2 => ?_⟩
  rcases get_split h2 with z | ⟨rfl, rfl⟩
  · exact h.2 q' x k h1 z
  · rw [hk] at h1
    cases h1
    rw [h.1]
    exact (ix_get hm).2
end
end RA

namespace RA
open PySem L2
/-! ## the rooms of a machine, gone through -/
def gW (W : List (List Nat)) (k : List Nat) (q : Nat) : List Nat := [(W.getD (k.headD 0) []).getD q 0]
def uW (W : List (List Nat)) : List (List Nat) := (List.range W.length).map fun n => [n]
def mkW (B : List Bool) (k : List Nat) : Bool := B.getD (k.headD 0) false
theorem uW_mem {W : List (List Nat)} {n : Nat} : [n] ∈ uW W ↔ n < W.length := by
  unfold uW
  rw [List.mem_map]
  constructor
  · rintro ⟨m, hm, e⟩
    injection e with e
    rw [← e]
    exact List.mem_range.mp hm
  · exact fun h => ⟨n, List.mem_range.mpr h, rfl⟩
theorem uW_len (W : List (List Nat)) : (uW W).length = W.length := by rw [uW, List.length_map, List.length_range]
theorem uW_one {W : List (List Nat)} {k : List Nat} (h : k ∈ uW W) : ∃ n, k = [n] ∧ n < W.length := by
  unfold uW at h
  obtain ⟨n, hn, e⟩ := List.mem_map.mp h
  exact ⟨n, e.symm, List.mem_range.mp hn⟩
theorem uW_go {L : List Nat} {W : List (List Nat)} {B : List Bool} (hM : Mach L W B) : ∀ k ∈ uW W, ∀ q, q < L.length → gW W k q ∈ uW W := fun k hk q hq => by
  obtain ⟨n, rfl, hn⟩ := uW_one hk
  refine uW_mem.mpr ?_
  show (W.getD n []).getD q 0 < W.length
  have e : W.getD n [] = W[n] := by rw [List.getD_eq_getElem?_getD, List.getElem?_eq_getElem hn]; rfl
  rw [e]
  obtain ⟨h1, h2⟩ := hM.row W[n] (List.getElem_mem hn)
  have e2 : W[n].getD q 0 = W[n][q]'(by rw [h1]; exact hq) := by rw [List.getD_eq_getElem?_getD, List.getElem?_eq_getElem (by rw [h1]; exact hq)]; rfl
  rw [e2]
  exact h2 _ (List.getElem_mem _)
theorem MachAt.tups {H H' : Hp} {m : Addr} {L : List Nat} {W : List (List Nat)} {B : List Bool} (h : MachAt H m L W B) (s : ∀ b xs, H b = some (.tup xs) → H' b = some (.tup xs)) : MachAt H' m L W B := by
  obtain ⟨wy, mk, rows, h1, h2, h3, h4, h5⟩ := h
  exact ⟨wy, mk, rows, s _ _ h1, s _ _ h2, s _ _ h3, h4, fun i r e => let ⟨ws, a, b⟩ := h5 i r e; ⟨ws, a, s _ _ b⟩⟩
theorem sameX_tup {P0 : Addr} {H H' : Hp} (s : SameX P0 H H') {sites : List (Pos × Str)} (hT : TabSt H P0 sites) : ∀ b xs, H b = some (.tup xs) → H' b = some (.tup xs) := fun b xs e => s b _ (fun z => by
  obtain ⟨ps, hP, _⟩ := hT
  rw [z, hP] at e
  cases e) e
theorem sameX_trans {P0 : Addr} {H H1 H2 : Hp} (a : SameX P0 H H1) (b : SameX P0 H1 H2) : SameX P0 H H2 := fun c o hc e => b c o hc (a c o hc e)
theorem sameX_of {P0 : Addr} {H H' : Hp} (s : Same H H') : SameX P0 H H' := fun b o _ e => s b o e
def sp_wmach (cW P0 : Addr) (sites : List (Pos × Str)) : Sp := fun vs H Q _ => ∃ (m : Addr) (L : List Nat) (W : List (List Nat)) (B : List Bool), vs = [.ref m] ∧ MachAt H m L W B ∧ Mach L W B ∧ TabSt H P0 sites ∧
  ∀ (wk t wd y md : Addr) (ks : List (List Nat)) (vks : List V) (ws : List (List Nat)) (rows : List Addr) (R : List (List Nat)) (Bm : List Bool) (H' : Hp), SameX P0 H H' → TabSt H' P0 sites → WalkAt H' cW wk L t wd y md → H' t = some (.lst vks) → ThsAt true H' ks vks → H' wd = some (.lst (wordsV ws)) → H' y = some (.lst (rows.map V.ref)) → WRows H' rows R → H' md = some (.lst (Bm.map V.bl)) →
    Bf (gW W) L [0] ks ws ks.length 0 → WaysOk (gW W) L.length ks R → R.length = ks.length → Bm.length = R.length → (∀ (r : Nat) (k : List Nat) (b : Bool), ks[r]? = some k → Bm[r]? = some b → b = mkW B k) → (∀ k ∈ ks, k ∈ uW W) → ks.length ≤ W.length → Q (.ref wk) H'
/-- the first words: pairs of a room and a word, in the order of the words -/
structure FwAt (H : Hp) (l : Addr) (rs : List Nat) (ws : List (List Nat)) : Prop where
  ex : ∃ ts : List Addr, H l = some (.lst (ts.map V.ref)) ∧ ts.length = rs.length ∧ ws.length = rs.length ∧ ∀ (i : Nat) (t : Addr) (r : Nat) (w : List Nat), ts[i]? = some t → rs[i]? = some r → ws[i]? = some w → H t = some (.tup [.int (r : Int), .str (tx w)])
def sp_fw (P0 : Addr) (sites : List (Pos × Str)) : Sp := fun vs H Q _ => ∃ (m : Addr) (L : List Nat) (W : List (List Nat)) (B : List Bool), vs = [.ref m] ∧ MachAt H m L W B ∧ Mach L W B ∧ TabSt H P0 sites ∧
  ∀ (l : Addr) (rs : List Nat) (ws : List (List Nat)) (H' : Hp), SameX P0 H H' → TabSt H' P0 sites → H l = none → FwAt H' l rs ws → Bf (gW W) L [0] (rs.map fun n => [n]) ws rs.length 0 → (∀ r ∈ rs, r < W.length) → rs.length ≤ W.length → Q (.ref l) H'
end RA

namespace L2
open PySem PySem.Spec PyProof.Rows
/-! ## a set made of unlike ints, two tuples alike, a dict from rooms to words -/
section
variable {X : Cx}
def rEqT (K : PySem.W.Frag) : R2 := fun x y H Q => ∃ p q xs, x = .ref p ∧ y = .ref q ∧ SqT K H p xs ∧ SqT K H q xs ∧ xs.all flatV = true ∧ Q (.bl true) H
end
end L2
namespace RA
open PySem L2
/-- rooms and words, as a dict holds them -/
def kvS (rs : List Nat) (ws : List (List Nat)) : List (Int × V) := (rs.zip ws).map fun p => ((p.1 : Int), V.str (tx p.2))
theorem dec_int0 {n : Nat} (h : n ≠ 0) : decide (V.int (n : Int) = V.int 0) = false := decide_eq_false fun z => h (Int.ofNat_inj.mp (V.int.inj z))
theorem triples_nil : TriplesOk (#[] : Array Value).toList := trivial
theorem tab_same {H H' : Hp} {P0 : Addr} {sites : List (Pos × Str)} (h : TabSt H P0 sites) (s : Same H H') : TabSt H' P0 sites := by
  obtain ⟨ps, hP, h2, h3⟩ := h
  exact ⟨ps, s _ _ hP, h2, fun x hx => (h3 x hx).imp id fun ⟨c', e1, e2⟩ => ⟨c', e1, s _ _ e2⟩⟩
theorem seq_X {K : PySem.W.Frag} {H H' : Hp} {P0 a : Addr} {xs : List V} {sites : List (Pos × Str)} (s : SameX P0 H H') (hT : TabSt H P0 sites) (h : SqL K H a xs) : SqL K H' a xs := by
  obtain ⟨ps, hP, _⟩ := hT
  rcases h with (h | ⟨o, h⟩) | h
  · exact .inl (.inl (s _ _ (fun z => by rw [z, hP] at h; cases h) h))
  · exact .inl (.inr ⟨o, s _ _ (fun z => by rw [z, hP] at h; cases h) h⟩)
  · exact .inr h
end RA

namespace L2
open PySem PySem.Spec PyProof.Rows
/-! ### enumerate(list) -/
def IteL (a : Addr) : It := ⟨fun i H => ∃ xs x, H a = some (.lst xs) ∧ xs[i]? = some x, fun i H v H' => ∃ p x xs, H a = some (.lst xs) ∧ xs[i]? = some x ∧ v = .ref p ∧ H p = none ∧ H' = upd H p (.tup [.int (i : Int), x]), fun i H => ∃ xs, H a = some (.lst xs) ∧ i = xs.length⟩
theorem turn_enumL {P : Program} {w : World} {K : PySem.W.Frag} {es : List Expr} {kt : Nat} {pt : Pos} (a e it : Addr) (hne : e ≠ it) : Turn P w K (.Tuple es kt pt) (IteL a) [e, it] e (fun i h => (∃ old, IsEnum h e it i old) ∧ h.IsListIter it a i) where
  mem := by simp
  obj := fun i h ⟨⟨old, he⟩, ⟨o1, e1, _, d1⟩⟩ c hc => by
    simp only [List.mem_cons, List.not_mem_nil, or_false] at hc
    rcases hc with rfl | rfl
    · exact ⟨_, he, fun v q => by cases q⟩
    · exact ⟨o1, e1, fun v q => by rw [d1] at q; cases q⟩
  keep := fun i h h' ⟨⟨old, he⟩, ⟨o1, e1, r1⟩⟩ k => ⟨⟨old, k e (by simp) _ he⟩, ⟨o1, k it (by simp) _ e1, r1⟩⟩
  item := by
    rintro X hP hw hK hc i pins s σ H E I hf ⟨⟨old, he⟩, s1⟩ hg
    subst hP hw hK
    obtain ⟨xs, x, hq, hx⟩ := hg
    obtain ⟨its, rv, p, hz⟩ := I.list (SqL.of hq)
    obtain ⟨u, hu, ru⟩ := rv.get hx
    have p' : s.heap.IsList a its.toArray := p.isList
    have hlt : i < its.toArray.size := by
      have := (List.getElem?_eq_some_iff.mp hu).1
      simpa using this
    have hat : a ≠ it := by
      obtain ⟨o, e1, c1, _⟩ := p'
      obtain ⟨o2, e2, c2, _⟩ := s1
      rintro rfl
      rw [e1] at e2
      cases e2
      rw [c1] at c2
      exact absurd c2 (by decide)
    have hae : e ≠ a := by
      obtain ⟨o, e1, c1, _⟩ := p'
      rintro rfl
      have he' : s.heap.get? e = some _ := he
      rw [e1] at he'
      cases he'
      exact absurd (show Value.type "enumerate" = Value.type "list" from c1) (by decide)
    refine wpAny_pyNext_enum_itemD (Draws.list (prog := X.prog) (w := X.w) (A := X.A.in1) (I.ok.hd hc) it a hat its.toArray) he ⟨s1, p'⟩ hlt hne (by simp [hne, hae]) fun v g tk pv ho st new hsz gk => ⟨_, rfl, ?_⟩
    have ev : v = u := by
      have : its.toArray[i]? = some v := pv
      rw [List.getElem?_toArray, hu] at this
      exact (Option.some.inj this).symm
    subst ev
    refine wpAny_letOwnedTupleGo_enum (s := { s with heap := g, toks := tk + 1 }) ho fun g' ge gs => ?_
    have up : ∀ b o, b ≠ e → g.get? b = some o → g'.get? b = some o := fun b o hb q => (gs.2 b hb).trans q
    have ne : s.heap.objs.size ≠ e := Nat.ne_of_gt (Heap.lt_size he)
    have tup : ObjOk X.prog X.w (upd H s.heap.objs.size (.tup [.int (i : Int), x])) g' s.heap.objs.size (.tup [.int (i : Int), x]) :=
      ⟨line_ge (by show 2 ≤ 16777216; decide), [.int i tk, v], .cons ⟨_, rfl⟩ (.cons ru .nil), ⟨_, up _ _ ne new, rfl, 0, rfl⟩⟩
    refine ⟨.ref s.heap.objs.size, _, I.turnedNew (S := [e, it]) (h' := g') (t' := tk + 1) (fun b o hb q => up b o (fun z => hb (by simp [z])) (gk b o (fun z => hb (by simp [z])) (fun z => hb (by simp [z])) q)) hf tup, rfl,
      ⟨_, x, xs, hq, hx, rfl, I.hok.fresh (Nat.le_refl _), rfl⟩, ⟨⟨_, by rw [Int.natCast_succ]; exact ge⟩, st.1.at fun o q => up _ o (fun z => hne z.symm) q⟩, fun b hb => ?_⟩
    have lt : b < s.heap.objs.size := by
      obtain ⟨o1, e1, _⟩ := s1
      simp only [List.mem_cons, List.not_mem_nil, or_false] at hb
      rcases hb with rfl | rfl
      · exact Heap.lt_size he
      · exact Heap.lt_size e1
    rw [upd_ne (Nat.ne_of_lt lt)]
    exact (hf b hb).1
  done := by
    rintro X hP hw hK hc i pins s σ H E I hf ⟨⟨old, he⟩, s1⟩ hstop
    subst hP hw hK
    obtain ⟨xs, hq, rfl⟩ := hstop
    obtain ⟨its, rv, p, hz⟩ := I.list (SqL.of hq)
    have p' : s.heap.IsList a its.toArray := p.isList
    have hat : a ≠ it := by
      obtain ⟨o, e1, c1, _⟩ := p'
      obtain ⟨o2, e2, c2, _⟩ := s1
      rintro rfl
      rw [e1] at e2
      cases e2
      rw [c1] at c2
      exact absurd c2 (by decide)
    have hsz : xs.length = its.toArray.size := by rw [rv.length]; simp
    refine wpAny_pyNext_enum_endD (Draws.list (prog := X.prog) (w := X.w) (A := X.A.in1) (I.ok.hd hc) it a hat its.toArray) he ⟨by rw [← hsz]; exact s1, p'⟩ fun g gs => ⟨rfl, ?_⟩
    exact I.turnedL (S := [e, it]) (fun b o hb q => gs b o (fun z => hb (by simp [z])) q) hf
  self := fun _ _ _ _ _ st h => by
    obtain ⟨⟨old, he⟩, _⟩ := st
    exact wpAny_pyIter_enum he h
/-- enumerate of a tuple or of a list -/
def iEnumQ (t : TA) : TI := fun σ H R => t σ H fun vs H1 => ∃ a xs, vs = [.ref a] ∧ ((H1 a = some (.tup xs) ∧ R (IteT a) H1) ∨ (H1 a = some (.lst xs) ∧ R (IteL a) H1))
theorem pi_enumQ {X : Cx} {es : List Expr} {kt : Nat} {pt : Pos} {a : Expr} {ta : TA} {p pos : Pos} (hg : Gl X "enumerate") (hm : X.mg "enumerate" = none) (ha : PA X [a] ta) (hs : starEach [a] X.env = (false, eval a X.env) :: starEach [] X.env := by rfl)
    (hpl : (backTo pos (starEach [] X.env)).any (·.1) = false := by rfl) : PI X (.Tuple es kt pt) (.Call (.Name "enumerate" p) [a] [] pos) (iEnumQ ta) := by
  intro pins s σ H R I h
  refine wpAny_Call_Name_kw (ld_blt I hg hm PyProof.Rows.boot_enumerate (PyProof.Rows.callWith_type1 (thn (ha pos pins s σ H _ I h) fun us s1 z => ?_) hs hpl))
  obtain ⟨vs, H1, I1, r1, b, xs, rfl, z⟩ := z
  obtain ⟨u1, rfl, r2⟩ := vals1 r1
  cases r2
  have fp : ∀ c ∈ [s1.heap.objs.size + 1, s1.heap.objs.size], FpOk X pins H1 c := fun c hc => by
    have hge : s1.heap.objs.size ≤ c := by
      simp only [List.mem_cons, List.not_mem_nil, or_false] at hc
      rcases hc with rfl | rfl
      · exact Nat.le_add_right _ _
      · exact Nat.le_refl _
    exact I1.fpOk hge (I1.hok.fresh hge)
  rcases z with ⟨hq, q⟩ | ⟨hq, q⟩
  · obtain ⟨its, rv, pp, hz⟩ := I1.tuple (SqT.of hq)
    refine call_enumT (show s1.heap.IsTuple b its.toArray from pp) fun g ge gi gk => wpAny_pyIter_enum (s := { s1 with heap := g }) ge ?_
    exact ⟨_, [s1.heap.objs.size + 1, s1.heap.objs.size], _, IteT b, H1, rfl, I1.kept (t' := s1.toks) gk, turn_enumT b _ _ (neA (by omega)), ⟨⟨_, ge⟩, gi⟩, fp, q⟩
  · obtain ⟨its, rv, pp, hz⟩ := I1.list (SqL.of hq)
    refine call_enumerate_list pp.isList fun g ge gi gz gk => wpAny_pyIter_enum (s := { s1 with heap := g }) ge ?_
    exact ⟨_, [s1.heap.objs.size + 1, s1.heap.objs.size], _, IteL b, H1, rfl, I1.kept (t' := s1.toks) gk, turn_enumL b _ _ (neA (by omega)), ⟨⟨_, ge⟩, gi⟩, fp, q⟩
theorem comp2_enumL {K : PySem.W.Frag} {c : Addr} {xs : List V} {te : TE} {σ : St} {H : Hp} {Q : VK} (hH : H c = some (.lst xs)) (Pv : Addr → Nat → List V → Hp → Prop) (hz : xs.length ≤ sizeLine)
    (h0 : ∀ D, H D = none → Pv D 0 [] (upd H D (.lst [])))
    (hs : ∀ (D : Addr) (i : Nat) (x : V) (ys : List V) (H' H3 : Hp) (R1 : VK), H D = none → xs[i]? = some x → Same H H' → H' D = some (.lst ys) → Pv D i ys H' → Same H' H3 →
      (∀ y H5, H5 D = some (.lst ys) → Same H (upd H5 D (.lst (ys ++ [y]))) → Pv D (i + 1) (ys ++ [y]) (upd H5 D (.lst (ys ++ [y]))) → R1 y H5) → te (some (.int (i : Int)) :: some x :: σ) H3 R1)
    (hq : ∀ D ys H', H D = none → Same H H' → H' D = some (.lst ys) → Pv D xs.length ys H' → Q (.ref D) H') : C2Goal K (IteL c) te σ H Q := by
  refine comp2_step (n := xs.length) (fun i a b => a = .int (i : Int) ∧ xs[i]? = some b) Pv hz (fun i H2 s h => ⟨xs, xs[i], s _ _ hH, List.getElem?_eq_getElem h⟩) ?_ (fun H2 s => ⟨xs, s _ _ hH, rfl⟩) h0 ?_ hq
  · rintro i H2 x H3 s h ⟨p, y, zs, e1, e2, e3, e4, e5⟩
    rw [s _ _ hH] at e1
    cases e1
    exact ⟨p, _, y, e3, ⟨rfl, e2⟩, e4, e5⟩
  · rintro D i a b ys H' H3 R1 hD hi ⟨rfl, hb⟩ a1 a2 a3 a4 a5
    exact hs D i b ys H' H3 R1 hD hb a1 a2 a3 a4 a5
end L2
namespace RA
open PySem L2
theorem comp2_enumQ {K : PySem.W.Frag} {c : Addr} {xs : List V} {te : TE} {σ : St} {H : Hp} {Q : VK} {t : TA} {o : HO} (ht : ∀ R : List V → Hp → Prop, R [.ref c] H → t σ H R) (ho : o = .lst xs ∨ o = .tup xs) (hH : H c = some o) (Pv : Addr → Nat → List V → Hp → Prop) (hz : xs.length ≤ sizeLine)
    (h0 : ∀ D, H D = none → Pv D 0 [] (L2.upd H D (.lst [])))
    (hs : ∀ (D : Addr) (i : Nat) (x : V) (ys : List V) (H' H3 : Hp) (R1 : VK), H D = none → xs[i]? = some x → Same H H' → H' D = some (.lst ys) → Pv D i ys H' → Same H' H3 →
      (∀ y H5, H5 D = some (.lst ys) → Same H (L2.upd H5 D (.lst (ys ++ [y]))) → Pv D (i + 1) (ys ++ [y]) (L2.upd H5 D (.lst (ys ++ [y]))) → R1 y H5) → te (some (.int (i : Int)) :: some x :: σ) H3 R1)
    (hq : ∀ D ys H', H D = none → Same H H' → H' D = some (.lst ys) → Pv D xs.length ys H' → Q (.ref D) H') : tComp2 K (iEnumQ t) te σ H Q := by
  refine ht _ ⟨c, xs, rfl, ?_⟩
  rcases ho with rfl | rfl
  · exact .inr ⟨hH, comp2_enumL (K := K) hH Pv hz h0 hs hq⟩
  · exact .inl ⟨hH, comp2_enum (K := K) hH Pv hz h0 hs hq⟩
end RA

namespace L2
open PySem PySem.Spec PyProof.Rows
section
variable {X : Cx}
/-- the greatest of a list of ints -/
theorem call_maxM (hc : X.calm = true) : CallR X (.builtin "max") (fun xs H Q => ∃ (a : Addr) (ns : List Int), xs = [V.ref a] ∧ H a = some (.lst (ns.map V.int)) ∧ 0 < ns.length ∧ ∀ M ∈ ns, (∀ x ∈ ns, x ≤ M) → Q (.int M) H) := by
  intro pins s σ H xs us Q I r h
  obtain ⟨a, ns, rfl, ha, hn, q⟩ := h
  obtain ⟨u1, rfl, r1⟩ := vals1 r
  cases r1
  obtain ⟨its, rv, p, hz⟩ := I.list (SqL.of ha)
  have hi := ints_are rv
  have hl : s.heap.IsList a its.toArray := p.isList
  obtain ⟨xs, e⟩ := hi.allInts.items
  have hns : ns = xs.toList.map (·.1) := by rw [← hi.numsOf, ← nums_intItems, ← e]
  have hsz : 0 < xs.size := by
    rw [hns, List.length_map, Array.length_toList] at hn
    exact hn
  rw [e] at hl
  refine max_intList (I.ok.hd hc) hl hsz fun v h' tk hv hk => ?_
  obtain ⟨t, rfl⟩ := intItems_at hv
  obtain ⟨h1, h2⟩ := argBest_gt (numAt xs) (xs.size - 1)
  refine ⟨.int _, H, I.kept hk, ⟨t, rfl⟩, q _ ?_ fun x hx => ?_⟩
  · rw [hns, numAt_eq]
    exact PySem.getD_mem (by rw [List.length_map, Array.length_toList]; omega)
  · rw [hns] at hx
    obtain ⟨j, hj⟩ := List.mem_iff_getElem?.mp hx
    have hjl := (List.getElem?_eq_some_iff.mp hj).1
    rw [List.length_map, Array.length_toList] at hjl
    have := h2 j (by omega)
    have e2 : numAt xs j = x := by
      rw [numAt_eq, List.getD_eq_getElem?_getD, hj]
      rfl
    rw [← e2]
    exact this
/-- ns.index(n) -/
def rIndexI : V → List V → Hp → VK → Prop := fun x vs H Q => ∃ (l : Addr) (ns : List Int) (n : Int), x = .ref l ∧ vs = [.int n] ∧ H l = some (.lst (ns.map V.int)) ∧ n ∈ ns ∧ Q (.int (ns.idxOf n : Nat)) H
theorem mt_indexI : MtM X "list.index" rIndexI := by
  intro pins s σ H x vs v us Q I rx rv h
  obtain ⟨l, bs, n0, rfl, rfl, hH, hm, q⟩ := h
  cases rx
  obtain ⟨u, rfl, ru⟩ := rv.one
  obtain ⟨t0, rfl⟩ := (show ∃ t, u = Value.int n0 t from ru)
  obtain ⟨z, its, n, r, hl, e⟩ := I.lstM hH
  have hlen : its.length = bs.length := by rw [← r.length, List.length_map]
  have hlt : bs.idxOf n0 < bs.length := List.idxOf_lt_length_of_mem hm
  have at_ : ∀ (j : Nat) (hj : j < its.toArray.size), ∃ (hb : j < bs.length) (t : Tok), its.toArray[j] = .int bs[j] t := fun j hj => by
    have hb : j < bs.length := by simpa [hlen] using hj
    refine ⟨hb, ?_⟩
    obtain ⟨a, ea, ra⟩ := r.get (i := j) (x := .int bs[j]) (by rw [List.getElem?_map, List.getElem?_eq_getElem hb]; rfl)
    obtain ⟨t, rfl⟩ := (show ∃ t, a = Value.int bs[j] t from ra)
    obtain ⟨_, q⟩ := List.getElem?_eq_some_iff.mp ea
    exact ⟨t, by simpa using q⟩
  have hsm : ((bs.idxOf n0 : Nat) : Int) < 2 ^ 63 - 1 := by
    have h9 : (bs.map V.int).length ≤ sizeLine := (I.lst hH).choose_spec.choose_spec.2.2
    rw [List.length_map, sizeLine_eq] at h9
    omega
  refine call_meets F.slot_list_index ⟨_, e, rfl⟩ F.entry_list_index (F.args_list_index_2 _ _) (SeqAt.list_indexAt l its.toArray n none #[] (.int n0 t0) (fun y => match y with | .int b _ => b == n0 | _ => false) (bs.idxOf n0) (by simpa [hlen] using hlt) hsm ?_ ?_) ⟨e, ?_, ⟨.int _, H, I.tok _, ⟨_, rfl⟩, q⟩⟩
  · obtain ⟨hb, t, e1⟩ := at_ (bs.idxOf n0) (by simpa [hlen] using hlt)
    rw [e1]
    show (bs[bs.idxOf n0] == n0) = true
    rw [List.getElem_idxOf hb]
    exact beq_self_eq_true n0
  · intro m hm2 hlt2
    obtain ⟨hb, t, e1⟩ := at_ m hm2
    rw [e1]
    show (bs[m] == n0) = false
    by_cases hbm : bs[m] = n0
    · have := RA.idxOf_leG (l := bs) (c := n0) (i := m) (by rw [List.getElem?_eq_getElem hb, hbm])
      omega
    · exact beq_eq_false_iff_ne.mpr hbm
  · intro y hy
    obtain ⟨j, hj, rfl⟩ := Array.mem_iff_getElem.mp hy
    obtain ⟨hb, t, e1⟩ := at_ j hj
    rw [e1]
    exact SeqAt.EqAt.int_int _ _ _ _
theorem pe_fldK {e : Expr} {ta : TE} {f : Str} {pos : Pos} (K : PySem.W.Frag) (he : PE X e ta) (hb : attributeBase e f X.env (eval e X.env) = eval e X.env) (hK : X.K = K := by rfl) : PE X (.Attribute e f pos) (tFld K ta f) := by
  subst hK
  exact pe_fld he hb
theorem pe_indexI {o e : Expr} {to : TE} {t : TA} {apos cpos : Pos} (K : PySem.W.Frag) (ho : PE X o to) (ha : PA X [e] t) (hK : X.K = K := by rfl)
    (hbase : attributeBase o "index" X.env (eval o X.env) = eval o X.env := by rfl)
    (hfew : ((backTo cpos (starEach [e] X.env)).all (fun x => !x.1) && (backToKw cpos (keywordEach [] X.env)).all (fun x => x.1.isSome)
      && decide ([e].length + ([] : List Keyword).length + (if ([] : List Keyword).isEmpty then 0 else 1) < 30)) = true := by rfl) (hline : (apos.endLine == cpos.line) = true := by rfl) (hs : starEach [e] X.env = (false, eval e X.env) :: starEach [] X.env := by rfl) (hplain : (backTo cpos (starEach [] X.env)).any (·.1) = false := by rfl) : PE X (.Call (.Attribute o "index" apos) [e] [] cpos) (tBM K "list" rIndexI to t) := by
  subst hK
  exact pe_bm PySem.F.plainAttrs_list PySem.F.slot_list_index PySem.F.type_list_index mt_indexI ho ha hbase hfew hline hs hplain
end
end L2
namespace RA
open PySem L2
/-- rows of ways, each a tuple or a list -/
def RowsQ (H : Hp) (rows : List Addr) (W : List (List Nat)) : Prop := ∀ (i : Nat) (r : Addr), rows[i]? = some r → ∃ ws, W[i]? = some ws ∧ ∃ o, (o = .lst (intsV ws) ∨ o = .tup (intsV ws)) ∧ H r = some o
theorem max_of : ∀ {ns : List Nat}, 0 < ns.length → ∃ M ∈ ns, ∀ x ∈ ns, x ≤ M
  | [], h => by simp at h
  | [a], _ => ⟨a, by simp, fun x hx => by rw [List.mem_singleton.mp hx]; exact Nat.le_refl _⟩
  | a :: b :: r, _ => by
    obtain ⟨M, h1, h2⟩ := max_of (ns := b :: r) (by simp)
    by_cases h : a ≤ M
    · exact ⟨M, List.mem_cons_of_mem _ h1, fun x hx => by
        rcases List.mem_cons.mp hx with rfl | z
        · exact h
        · exact h2 x z⟩
    · exact ⟨a, by simp, fun x hx => by
        rcases List.mem_cons.mp hx with rfl | z
        · exact Nat.le_refl _
        · have := h2 x z
          omega⟩
theorem zs_idx (n : Nat) : ∀ (l : List Nat), (zs l).idxOf (n : Int) = l.idxOf n
  | [] => rfl
  | x :: l => by
    show ((x : Int) :: zs l).idxOf (n : Int) = _
    rw [List.idxOf_cons, List.idxOf_cons, zs_idx n l]
    by_cases h : x = n
    · rw [h]; simp
    · rw [beq_eq_false_iff_ne.mpr h, beq_eq_false_iff_ne.mpr (fun e => h (Int.ofNat_inj.mp e))]
end RA

namespace RA
/-! ## a machine folded by its lots -/
section
variable {κ : Type} [DecidableEq κ]
theorem disA_pre : ∀ (ks acc : List κ), ∃ r, disA acc ks = acc ++ r
  | [], acc => ⟨[], (List.append_nil acc).symm⟩
  | a :: ks, acc => by
    show ∃ r, disA (if a ∈ acc then acc else acc ++ [a]) ks = acc ++ r
    by_cases h : a ∈ acc
    · rw [if_pos h]
      exact disA_pre ks acc
    · rw [if_neg h]
      obtain ⟨r, e⟩ := disA_pre ks (acc ++ [a])
      exact ⟨[a] ++ r, by rw [e, List.append_assoc]⟩
theorem disA_nd : ∀ (ks acc : List κ), acc.Nodup → (disA acc ks).Nodup
  | [], _, h => h
  | a :: ks, acc, h => by
    show (disA (if a ∈ acc then acc else acc ++ [a]) ks).Nodup
    by_cases hm : a ∈ acc
    · rw [if_pos hm]
      exact disA_nd ks acc h
    · rw [if_neg hm]
      refine disA_nd ks _ ?_
      rw [List.nodup_append]
      refine ⟨h, by simp, fun x hx y hy e => ?_⟩
      rw [List.mem_singleton.mp hy] at e
      rw [e] at hx
      exact hm hx
theorem dis_nd (ks : List κ) : (dis ks).Nodup := disA_nd ks [] List.nodup_nil
theorem numF_0 {ks : List κ} (h : 0 < ks.length) : (numF ks).getD 0 0 = 0 := by
  cases ks with
  | nil => simp at h
  | cons k ks =>
    rw [numF_get (k := k) rfl]
    obtain ⟨r, e⟩ := disA_pre ks [k]
    have : dis (k :: ks) = [k] ++ r := by
      show disA (if k ∈ [] then [] else [] ++ [k]) ks = _
      rw [if_neg (by simp)]
      exact e
    rw [this]
    simp
theorem numF_down {ks : List κ} {M j : Nat} (h : M ∈ numF ks) (hj : j ≤ M) : j ∈ numF ks := by
  obtain ⟨k, hk, rfl⟩ := List.mem_map.mp h
  have hl : j < (dis ks).length := Nat.lt_of_le_of_lt hj (List.idxOf_lt_length_of_mem (mem_dis.mpr hk))
  have hm : (dis ks)[j] ∈ ks := mem_dis.mp (List.getElem_mem hl)
  refine List.mem_map.mpr ⟨(dis ks)[j], hm, ?_⟩
  have nd := dis_nd ks
  have h2 : (dis ks).idxOf (dis ks)[j] < (dis ks).length := List.idxOf_lt_length_of_mem (List.getElem_mem hl)
  exact (List.getElem_inj nd).mp (List.getElem_idxOf h2)
end
section
variable {L : List Nat} {W : List (List Nat)} {B : List Bool} {k : Nat}
theorem Rd_0 (h : Mach L W B) : (Rd W B k).getD 0 0 = 0 := by
  cases k with
  | zero => exact numF_0 (by rw [h.bl]; exact h.n1)
  | succ k => exact numF_0 (by rw [keysOf_len]; exact h.n1)
theorem Rd_down {M j : Nat} (h : M ∈ Rd W B k) (hj : j ≤ M) : j ∈ Rd W B k := by
  cases k with
  | zero => exact numF_down h hj
  | succ k => exact numF_down h hj
end
def foldW (R : List (List Nat)) (lots : List Nat) (m : Nat) : List (List Nat) := (List.range m).map fun j => (R.getD (lots.idxOf j) []).map fun g => lots.getD g 0
def foldB (Bm : List Bool) (lots : List Nat) (m : Nat) : List Bool := (List.range m).map fun j => Bm.getD (lots.idxOf j) false
theorem foldW_get {R : List (List Nat)} {lots : List Nat} {m j : Nat} (h : j < m) : (foldW R lots m).getD j [] = (R.getD (lots.idxOf j) []).map fun g => lots.getD g 0 := by
  rw [foldW, List.getD_eq_getElem?_getD, List.getElem?_map, List.getElem?_range h]
  rfl
theorem foldB_get {Bm : List Bool} {lots : List Nat} {m j : Nat} (h : j < m) : (foldB Bm lots m).getD j false = Bm.getD (lots.idxOf j) false := by
  rw [foldB, List.getD_eq_getElem?_getD, List.getElem?_map, List.getElem?_range h]
  rfl
/-- m lots, numbered from 0 on -/
structure Many (lots : List Nat) (m : Nat) : Prop where
  pos : 0 < m
  lt : ∀ x ∈ lots, x < m
  has : ∀ j < m, j ∈ lots
section
variable {L : List Nat} {R : List (List Nat)} {Bm : List Bool} {k m : Nat}
theorem getD_mem' {l : List Nat} {i : Nat} (h : i < l.length) : l.getD i 0 ∈ l := by
  rw [List.getD_eq_getElem?_getD, List.getElem?_eq_getElem h]
  exact List.getElem_mem h
theorem fr_at (hm : Many (Rd R Bm k) m) (hMa : Mach L R Bm) {j : Nat} (hj : j < m) : (Rd R Bm k).idxOf j < R.length ∧ lot R Bm k ((Rd R Bm k).idxOf j) = j := by
  have h1 := List.idxOf_lt_length_of_mem (hm.has j hj)
  refine ⟨by rw [Rd_len hMa] at h1; exact h1, ?_⟩
  rw [lot, List.getD_eq_getElem?_getD, List.getElem?_eq_getElem h1]
  exact List.getElem_idxOf h1
theorem lot_lt (hm : Many (Rd R Bm k) m) (hMa : Mach L R Bm) {r : Nat} (hr : r < R.length) : lot R Bm k r < m := hm.lt _ (getD_mem' (by rw [Rd_len hMa]; exact hr))
theorem fold_mach (hm : Many (Rd R Bm k) m) (hMa : Mach L R Bm) : Mach L (foldW R (Rd R Bm k) m) (foldB Bm (Rd R Bm k) m) where
  lt := hMa.lt
  n1 := by rw [foldW, List.length_map, List.length_range]; exact hm.pos
  n60 := by
    rw [foldW, List.length_map, List.length_range]
    have h1 := Rd_lt hMa (hm.has (m - 1) (by have := hm.pos; omega))
    have := hMa.n60
    omega
  bl := by rw [foldB, foldW, List.length_map, List.length_map]
  row := fun ws h => by
    rw [foldW] at h
    obtain ⟨j, hj, rfl⟩ := List.mem_map.mp h
    have hj := List.mem_range.mp hj
    obtain ⟨h1, h2⟩ := row_of hMa (fr_at hm hMa hj).1
    refine ⟨by rw [List.length_map]; exact h1, fun x hx => ?_⟩
    obtain ⟨g, hg, rfl⟩ := List.mem_map.mp hx
    rw [foldW, List.length_map, List.length_range]
    exact lot_lt hm hMa (h2 g hg)
theorem fold_len (hm : Many (Rd R Bm k) m) (hMa : Mach L R Bm) : (foldW R (Rd R Bm k) m).length ≤ R.length := by
  rw [foldW, List.length_map, List.length_range]
  have h1 := Rd_lt hMa (hm.has (m - 1) (by have := hm.pos; omega))
  omega
theorem fold_nxt (hm : Many (Rd R Bm k) m) (hMa : Mach L R Bm) (st : Rd R Bm (k + 1) = Rd R Bm k) {r c : Nat} (hr : r < R.length) (hc : c ∈ L) : nxt L (foldW R (Rd R Bm k) m) (lot R Bm k r) c = lot R Bm k (nxt L R r c) := by
  have hi : L.idxOf c < L.length := List.idxOf_lt_length_of_mem hc
  have hj := lot_lt hm hMa hr
  obtain ⟨f1, f2⟩ := fr_at hm hMa hj
  have e1 : lot R Bm (k + 1) ((Rd R Bm k).idxOf (lot R Bm k r)) = lot R Bm (k + 1) r := by
    show (Rd R Bm (k + 1)).getD _ 0 = (Rd R Bm (k + 1)).getD _ 0
    rw [st]
    exact f2
  have e2 := ((lot_succ hMa f1 hr).mp e1).2 _ hi
  unfold nxt
  rw [foldW_get hj]
  have hl : L.idxOf c < (R.getD ((Rd R Bm k).idxOf (lot R Bm k r)) []).length := by rw [(row_of hMa f1).1]; exact hi
  rw [List.getD_eq_getElem?_getD, List.getElem?_map, List.getElem?_eq_getElem hl]
  show (Rd R Bm k).getD _ 0 = _
  have e3 : goal R ((Rd R Bm k).idxOf (lot R Bm k r)) (L.idxOf c) = (R.getD ((Rd R Bm k).idxOf (lot R Bm k r)) [])[L.idxOf c] := by
    rw [goal, List.getD_eq_getElem?_getD (l := R.getD _ []), List.getElem?_eq_getElem hl]
    rfl
  rw [← e3]
  exact e2
theorem fold_run (hm : Many (Rd R Bm k) m) (hMa : Mach L R Bm) (st : Rd R Bm (k + 1) = Rd R Bm k) : ∀ {w : List Nat} {r : Nat}, r < R.length → (∀ c ∈ w, c ∈ L) → run L (foldW R (Rd R Bm k) m) (lot R Bm k r) w = lot R Bm k (run L R r w)
  | [], _, _, _ => rfl
  | c :: w, r, hr, hw => by
    have hc : c ∈ L := hw c (by simp)
    show run L (foldW R (Rd R Bm k) m) (nxt L (foldW R (Rd R Bm k) m) (lot R Bm k r) c) w = lot R Bm k (run L R (nxt L R r c) w)
    rw [fold_nxt hm hMa st hr hc]
    exact fold_run hm hMa st (goal_lt hMa hr (List.idxOf_lt_length_of_mem hc)) fun d hd => hw d (by simp [hd])
theorem fold_mark (hm : Many (Rd R Bm k) m) (hMa : Mach L R Bm) {r : Nat} (hr : r < R.length) : (foldB Bm (Rd R Bm k) m).getD (lot R Bm k r) false = Bm.getD r false := by
  have hj := lot_lt hm hMa hr
  obtain ⟨f1, f2⟩ := fr_at hm hMa hj
  rw [foldB_get hj]
  exact (lot_zero hMa f1 hr).mp (lot_mono hMa f1 hr (Nat.zero_le k) f2)
theorem fold_takes (hm : Many (Rd R Bm k) m) (hMa : Mach L R Bm) (st : Rd R Bm (k + 1) = Rd R Bm k) {w : List Nat} (hw : ∀ c ∈ w, c ∈ L) : (foldB Bm (Rd R Bm k) m).getD (run L (foldW R (Rd R Bm k) m) 0 w) false = Bm.getD (run L R 0 w) false := by
  have e : lot R Bm k 0 = 0 := Rd_0 hMa
  have := fold_run hm hMa st hMa.n1 hw
  rw [e] at this
  rw [this]
  exact fold_mark hm hMa (run_lt hMa hMa.n1 hw)
end
/-! ### the walk as a machine -/
section
variable {L : List Nat} {W : List (List Nat)} {B : List Bool} {ks ws R : List (List Nat)} {Bm : List Bool}
theorem walk_mach (hMa : Mach L W B) (bf : Bf (gW W) L [0] ks ws ks.length 0) (ways : WaysOk (gW W) L.length ks R) (hR : R.length = ks.length) (bl : Bm.length = R.length) (le : ks.length ≤ W.length) : Mach L R Bm where
  lt := hMa.lt
  n1 := by rw [hR]; exact (List.getElem?_eq_some_iff.mp bf.t0).1
  n60 := by rw [hR]; exact Nat.le_trans le hMa.n60
  bl := bl
  row := fun r hr => by
    obtain ⟨i, hi⟩ := List.mem_iff_getElem?.mp hr
    have hil : i < ks.length := by rw [← hR]; exact (List.getElem?_eq_some_iff.mp hi).1
    obtain ⟨h1, h2⟩ := ways.row i r _ hi (List.getElem?_eq_getElem hil)
    refine ⟨h1, fun x hx => ?_⟩
    obtain ⟨q, hq⟩ := List.mem_iff_getElem?.mp hx
    rw [hR]
    exact (List.getElem?_eq_some_iff.mp (h2 q x hq)).1
theorem walk_run (hMa : Mach L W B) (bf : Bf (gW W) L [0] ks ws ks.length 0) (ways : WaysOk (gW W) L.length ks R) (hR : R.length = ks.length) : ∀ (n : Nat) (w : List Nat), w.length = n → (∀ c ∈ w, c ∈ L) → ks[run L R 0 w]? = some [run L W 0 w] := by
  intro n
  induction n with
  | zero =>
    intro w hw _
    rw [List.length_eq_zero_iff.mp hw]
    exact bf.t0
  | succ n ih =>
    intro w hw hL
    obtain ⟨c, v, rfl⟩ : ∃ c v, w = v ++ [c] := ⟨w.getLast (by intro z; rw [z] at hw; cases hw), w.dropLast, (List.dropLast_concat_getLast _).symm⟩
    have h1 := ih v (by simpa using hw) fun x hx => hL x (by simp [hx])
    have hc : L.idxOf c < L.length := List.idxOf_lt_length_of_mem (hL c (by simp))
    have hr : run L R 0 v < R.length := by rw [hR]; exact (List.getElem?_eq_some_iff.mp h1).1
    obtain ⟨e1, e2⟩ := ways.row _ _ _ (List.getElem?_eq_getElem hr) h1
    have e3 := e2 (L.idxOf c) _ (List.getElem?_eq_getElem (by rw [e1]; exact hc))
    rw [run_snoc, run_snoc]
    have e4 : nxt L R (run L R 0 v) c = R[run L R 0 v][L.idxOf c]'(by rw [e1]; exact hc) := by
      unfold nxt
      rw [List.getD_eq_getElem?_getD (l := R), List.getElem?_eq_getElem hr]
      show (R[run L R 0 v]).getD _ 0 = _
      rw [List.getD_eq_getElem?_getD, List.getElem?_eq_getElem (by rw [e1]; exact hc)]
      rfl
    rw [e4]
    exact e3
theorem walk_takes (hMa : Mach L W B) (bf : Bf (gW W) L [0] ks ws ks.length 0) (ways : WaysOk (gW W) L.length ks R) (hR : R.length = ks.length) (bl : Bm.length = R.length) (mks : ∀ (r : Nat) (k : List Nat) (b : Bool), ks[r]? = some k → Bm[r]? = some b → b = mkW B k) {w : List Nat} (hw : ∀ c ∈ w, c ∈ L) : Bm.getD (run L R 0 w) false = B.getD (run L W 0 w) false := by
  have h1 := walk_run hMa bf ways hR _ w rfl hw
  have hr : run L R 0 w < Bm.length := by rw [bl, hR]; exact (List.getElem?_eq_some_iff.mp h1).1
  rw [List.getD_eq_getElem?_getD, List.getElem?_eq_getElem hr]
  exact mks _ _ _ h1 (List.getElem?_eq_getElem hr)
end
/-- the least machine of a machine, as it is told -/
def LeastOf (L : List Nat) (W : List (List Nat)) (B : List Bool) (W' : List (List Nat)) (B' : List Bool) : Prop :=
  ∃ (ks ws R : List (List Nat)) (Bm : List Bool) (k m : Nat), Bf (gW W) L [0] ks ws ks.length 0 ∧ WaysOk (gW W) L.length ks R ∧ R.length = ks.length ∧ Bm.length = R.length ∧ (∀ (r : Nat) (k : List Nat) (b : Bool), ks[r]? = some k → Bm[r]? = some b → b = mkW B k) ∧ (∀ k ∈ ks, k ∈ uW W) ∧ ks.length ≤ W.length ∧
    Mach L R Bm ∧ Rd R Bm (k + 1) = Rd R Bm k ∧ Many (Rd R Bm k) m ∧ W' = foldW R (Rd R Bm k) m ∧ B' = foldB Bm (Rd R Bm k) m
theorem LeastOf.mach {L : List Nat} {W : List (List Nat)} {B : List Bool} {W' : List (List Nat)} {B' : List Bool} (h : LeastOf L W B W' B') : Mach L W' B' := by
  obtain ⟨ks, ws, R, Bm, k, m, _, _, _, _, _, _, _, hMa, _, hm, rfl, rfl⟩ := h
  exact fold_mach hm hMa
theorem LeastOf.len {L : List Nat} {W : List (List Nat)} {B : List Bool} {W' : List (List Nat)} {B' : List Bool} (h : LeastOf L W B W' B') : W'.length ≤ W.length := by
  obtain ⟨ks, ws, R, Bm, k, m, _, _, hR, _, _, _, le, hMa, _, hm, rfl, rfl⟩ := h
  have := fold_len hm hMa
  omega
theorem LeastOf.takes {L : List Nat} {W : List (List Nat)} {B : List Bool} {W' : List (List Nat)} {B' : List Bool} (h : LeastOf L W B W' B') (hMa0 : Mach L W B) {w : List Nat} (hw : ∀ c ∈ w, c ∈ L) : B'.getD (run L W' 0 w) false = B.getD (run L W 0 w) false := by
  obtain ⟨ks, ws, R, Bm, k, m, bf, ways, hR, bl, mks, _, le, hMa, st, hm, rfl, rfl⟩ := h
  rw [fold_takes hm hMa st hw]
  exact walk_takes hMa0 bf ways hR bl mks hw
end RA

namespace L2
open PySem PySem.Spec PyProof.Rows
/-- all([..]), of truths -/
theorem call_allB {X : Cx} (hc : X.calm = true) : CallR X (.builtin "all") (fun xs H Q => ∃ (a : Addr) (bs : List Bool), xs = [V.ref a] ∧ H a = some (.lst (bs.map V.bl)) ∧ (∀ b ∈ bs, b = true) ∧ Q (.bl true) H) := by
  intro pins s σ H xs us Q I r h
  obtain ⟨a, bs, rfl, ha, hb, q⟩ := h
  obtain ⟨u1, rfl, r1⟩ := vals1 r
  cases r1
  obtain ⟨its, rv, p, hz⟩ := I.list (SqL.of ha)
  have hl : s.heap.IsList a its.toArray := p.isList
  have hlt : a < s.heap.objs.size := by
    obtain ⟨o, e, _⟩ := hl
    exact Heap.lt_size e
  refine call_all_walk (wpAny_pyIter_list hl ?_)
  refine ⟨s.heap.objs.size, _, _, _, _, _, fun _ => true, rfl, Walks.list (prog := X.prog) (w := X.w) (A := X.A.in1) (I.ok.hd hc) s.heap.objs.size a (Nat.ne_of_lt hlt) its.toArray, ⟨⟨_, Heap.get?_push_size _ rfl, rfl, rfl⟩, hl.at fun o e => Heap.get?_push_of_some _ e⟩, ?_, fun h' tk hk => ?_⟩
  · intro i v s' Q' E' hv hQ
    have hi : i < bs.length := by
      have := (Array.getElem?_eq_some_iff.mp hv).1
      have h2 := rv.length
      rw [List.length_map] at h2
      simp at this
      omega
    obtain ⟨y, ey, ry⟩ := rv.get (i := i) (x := .bl bs[i]) (by rw [List.getElem?_map, List.getElem?_eq_getElem hi]; rfl)
    have : v = y := by
      have hv' : its.toArray[i]? = some v := hv
      rw [List.getElem?_toArray, ey] at hv'
      exact (Option.some.inj hv').symm
    subst this
    cases ry
    have hbt := hb _ (List.getElem_mem hi)
    rw [hbt]
    exact wpAny_truthy_bool hQ
  · have e : (List.range its.toArray.size).all (fun _ => true) = true := by simp
    rw [e]
    exact ⟨.bl true, H, I.kept (t' := tk) fun b o eb => hk b o (by simp; exact Nat.ne_of_lt (Heap.lt_size eb)) (Heap.get?_push_of_some _ eb), rfl, q⟩
end L2
namespace RA
open PySem L2
/-! ## pairs of rooms of two machines, gone through together -/
structure Told2 (L : List Nat) (W W2 : List (List Nat)) (l r : Nat) (ps : List (Nat × Nat)) : Prop where
  has : (l, r) ∈ ps
  got : ∀ p ∈ ps, p.1 < W.length ∧ p.2 < W2.length ∧ ∃ u, (∀ c ∈ u, c ∈ L) ∧ p.1 = run L W l u ∧ p.2 = run L W2 r u
  few : unseen 60 ps + ps.length ≤ 60 * 60 + 1
theorem Told2.first {L : List Nat} {W W2 : List (List Nat)} {l r : Nat} (hl : l < W.length) (hr : r < W2.length) : Told2 L W W2 l r [(l, r)] :=
  ⟨by simp, fun p hp => by rw [List.mem_singleton.mp hp]; exact ⟨hl, hr, [], fun c hc => by simp at hc, rfl, rfl⟩, by have := unseen_le 60 [(l, r)]; simp; omega⟩
theorem Told2.more {L : List Nat} {W W2 : List (List Nat)} {B B2 : List Bool} {l r : Nat} {ps : List (Nat × Nat)} (h : Told2 L W W2 l r ps) (hM : Mach L W B) (hN : Mach L W2 B2) {p : Nat × Nat} (hp : p ∈ ps) {i : Nat} (hi : i < L.length) (hn : (goal W p.1 i, goal W2 p.2 i) ∉ ps) :
    Told2 L W W2 l r (ps ++ [(goal W p.1 i, goal W2 p.2 i)]) ∧ unseen 60 (ps ++ [(goal W p.1 i, goal W2 p.2 i)]) + (ps ++ [(goal W p.1 i, goal W2 p.2 i)]).length ≤ unseen 60 ps + ps.length := by
  obtain ⟨h1, h2, u, h3, h4, h5⟩ := h.got p hp
  have g1 := goal_lt hM h1 hi
  have g2 := goal_lt hN h2 hi
  have hu := unseen_lt (Nat.lt_of_lt_of_le g1 hM.n60) (Nat.lt_of_lt_of_le g2 hN.n60) hn
  have hf := h.few
  have hlen : (ps ++ [(goal W p.1 i, goal W2 p.2 i)]).length = ps.length + 1 := by simp
  refine ⟨⟨List.mem_append_left _ h.has, fun z hz => ?_, by omega⟩, by omega⟩
  rcases List.mem_append.mp hz with hz | hz
  · exact h.got z hz
  · rw [List.mem_singleton.mp hz]
    have hc : L[i] ∈ L := List.getElem_mem hi
    have hx := idx_get hM.lt.nd hi
    refine ⟨g1, g2, u ++ [L[i]], fun c hcm => ?_, ?_, ?_⟩
    · rcases List.mem_append.mp hcm with hcm | hcm
      · exact h3 c hcm
      · rw [List.mem_singleton.mp hcm]; exact hc
    · rw [run_snoc, nxt_goal, hx, ← h4]
    · rw [run_snoc, nxt_goal, hx, ← h5]
def Done2 (L : List Nat) (W : List (List Nat)) (B : List Bool) (W2 : List (List Nat)) (B2 : List Bool) (ps : List (Nat × Nat)) (n : Nat) : Prop := ∀ (i : Nat) (p : Nat × Nat), i < n → ps[i]? = some p → B.getD p.1 false = B2.getD p.2 false ∧ ∀ j < L.length, (goal W p.1 j, goal W2 p.2 j) ∈ ps
theorem pairs_all2 {L : List Nat} {W W2 : List (List Nat)} {ps : List (Nat × Nat)} (hc : ∀ p ∈ ps, ∀ i < L.length, (goal W p.1 i, goal W2 p.2 i) ∈ ps) : ∀ (u : List Nat) (p : Nat × Nat), p ∈ ps → (∀ c ∈ u, c ∈ L) → (run L W p.1 u, run L W2 p.2 u) ∈ ps
  | [], p, h, _ => h
  | c :: u, p, h, hu => pairs_all2 hc u _ (hc p h (L.idxOf c) (List.idxOf_lt_length_of_mem (hu c (by simp)))) fun d hd => hu d (by simp [hd])
theorem Done2.all {L : List Nat} {W W2 : List (List Nat)} {B B2 : List Bool} {l r : Nat} {ps : List (Nat × Nat)} (h : Done2 L W B W2 B2 ps ps.length) (ht : Told2 L W W2 l r ps) : ∀ u : List Nat, (∀ c ∈ u, c ∈ L) → B.getD (run L W l u) false = B2.getD (run L W2 r u) false := by
  have all : ∀ p ∈ ps, B.getD p.1 false = B2.getD p.2 false ∧ ∀ j < L.length, (goal W p.1 j, goal W2 p.2 j) ∈ ps := fun p hp => by
    obtain ⟨i, hi⟩ := List.mem_iff_getElem?.mp hp
    exact h i p (List.getElem?_eq_some_iff.mp hi).1 hi
  exact fun u hu => (all _ (pairs_all2 (fun p hp => (all p hp).2) u _ ht.has hu)).1
def AInv2 (P : Program) (w : World) (H : Hp) (m m2 d q : Addr) (L : List Nat) (W : List (List Nat)) (B : List Bool) (W2 : List (List Nat)) (B2 : List Bool) (l r : Nat) (ms : Nat) (σ : St) (H' : Hp) : Prop := ∃ (ps : List (Nat × Nat)) (n : Nat) (s7 s8 : Option V), ms = unseen 60 ps + (ps.length - n) ∧
  σ = [some (.ref m), some (.int (l : Int)), some (.ref m2), some (.int (r : Int)), some (.ref d), some (.ref q), some (.int (n : Int)), s7, s8] ∧ Same H H' ∧ PairsAt P w H' d q ps ∧ Told2 L W W2 l r ps ∧ n ≤ ps.length ∧ Done2 L W B W2 B2 ps n
end RA

section
seal L2.PE L2.PT L2.PW L2.PA L2.PS L2.PSs L2.PG L2.PGs L2.PI L2.PTs
namespace K12
open PySem L2 RA
def top (i : Nat) : Stmt := PySem.Challenge.pw_roomalgebra_k12_least_takes_the_same.main.body.getD i (.Pass ⟨0, 0, 0, 0⟩)
abbrev s_walked : Stmt := top 8
abbrev s_walked_machine : Stmt := top 9
abbrev s_first_words : Stmt := top 0
abbrev s_Walk : Stmt := top 7
abbrev s_winit : Stmt := inClass s_Walk 0
structure WkT (K : PySem.W.Frag) (mg : Str → Option Value) (cW fI : Addr) (fdI : FuncData) : Prop where
  kW : mg "Walk" = some (.ref cW)
  cls : Cls K cW
  mkW : Mk K cW fI
  na1 : NoAttr K cW "letters"
  na2 : NoAttr K cW "things"
  na3 : NoAttr K cW "words"
  na4 : NoAttr K cW "ways"
  na5 : NoAttr K cW "marks"
  ini : Fun K "__init__" "Walk.__init__" s_winit fI fdI
theorem sc_winit : FnScope ["self", "letters", "start"] ["self", "letters", "start"] (defScope s_winit) := ⟨rfl, rfl, rfl, by decide +kernel, rfl, by decide +kernel, by decide +kernel⟩
set_option maxHeartbeats 4000000 in
theorem ok_winit {P : Program} {w : World} {K : PySem.W.Frag} {mg : Str → Option Value} {base : Heap} {cW fI : Addr} {fdI : FuncData} (WT : WkT K mg cW fI fdI) : FnOk P w K mg base CX0 1 fI fdI ["self", "letters", "start"] (sp_winit cW) := by
  refine WT.ini.ok sc_winit (fun vs H Q E h => ?_) (fun cdv A outer s H vs Q E hr h => ?_)
  · obtain ⟨x, dx, L, v, rfl, _⟩ := h
    rfl
  · obtain ⟨x, dx, L, v, rfl, hx, q⟩ := h
    refine ⟨_, (pss_cons ((ps_fld (f := "letters") (pv 0) (pv 1) rfl)) (pss_cons ((ps_fld (f := "things") (pv 0) (pe_lst (pa_cons (pv 2) pa_nil)) rfl)) (pss_cons ((ps_fld (f := "words") (pv 0) (pe_lst (pa_cons pe_str pa_nil)) rfl)) (pss_cons ((ps_fld (f := "ways") (pv 0) (pe_lst pa_nil) rfl)) (pss_one ((ps_fld (f := "marks") (pv 0) (pe_lst pa_nil) rfl))))))), ?_⟩
    refine ⟨_, rfl, _, rfl, x, cW, dx, _, rfl, hx, WT.cls, WT.na1, by decide, ?_⟩
    refine ⟨_, rfl, line_ge (by show 1 ≤ 16777216; decide), fun t ht => ⟨_, rfl, x, cW, dx, _, rfl, upd_keep upd_same ht, WT.cls, WT.na2, Nat.lt_of_le_of_lt (Nat.le_of_eq (show _ = 1 from rfl)) (by decide), ?_⟩⟩
    have tx' : t ≠ x := fun z => by rw [z, upd_same] at ht; cases ht
    refine ⟨line_ge (by show 1 ≤ 16777216; decide), fun wd hwd => ⟨_, rfl, x, cW, dx, _, rfl, upd_keep upd_same hwd, WT.cls, WT.na3, Nat.lt_of_le_of_lt (Nat.le_of_eq (show _ = 2 from rfl)) (by decide), ?_⟩⟩
    have wx : wd ≠ x := fun z => by rw [z, upd_same] at hwd; cases hwd
    refine ⟨Nat.zero_le _, fun y hy => ⟨_, rfl, x, cW, dx, _, rfl, upd_keep upd_same hy, WT.cls, WT.na4, Nat.lt_of_le_of_lt (Nat.le_of_eq (show _ = 3 from rfl)) (by decide), ?_⟩⟩
    have yx : y ≠ x := fun z => by rw [z, upd_same] at hy; cases hy
    refine ⟨Nat.zero_le _, fun m hm => ⟨_, rfl, x, cW, dx, _, rfl, upd_keep upd_same hm, WT.cls, WT.na5, Nat.lt_of_le_of_lt (Nat.le_of_eq (show _ = 4 from rfl)) (by decide), ?_⟩⟩
    have mx : m ≠ x := fun z => by rw [z, upd_same] at hm; cases hm
    have twd : t ≠ wd := fun z => by rw [← z, upd_ne tx', upd_same] at hwd; cases hwd
    have ty : t ≠ y := fun z => by rw [← z, upd_ne tx', upd_ne twd, upd_ne tx', upd_same] at hy; cases hy
    have tm : t ≠ m := fun z => by rw [← z, upd_ne tx', upd_ne ty, upd_ne tx', upd_ne twd, upd_ne tx', upd_same] at hm; cases hm
    have wy : wd ≠ y := fun z => by rw [← z, upd_ne wx, upd_same] at hy; cases hy
    have wm : wd ≠ m := fun z => by rw [← z, upd_ne wx, upd_ne wy, upd_ne wx, upd_same] at hm; cases hm
    have ym : y ≠ m := fun z => by rw [← z, upd_ne yx, upd_same] at hm; cases hm
    have fin : ∀ b, b ≠ x → b ≠ m → b ≠ y → b ≠ wd → b ≠ t → H b = upd (upd (upd (upd (upd (upd (upd (upd (upd H x (.ins cW dx (putF "letters" (.str (tx L)) []))) t (.lst [v])) x (.ins cW dx (putF "things" (.ref t) (putF "letters" (.str (tx L)) [])))) wd (.lst [.str (tx [])])) x (.ins cW dx (putF "words" (.ref wd) (putF "things" (.ref t) (putF "letters" (.str (tx L)) []))))) y (.lst [])) x (.ins cW dx (putF "ways" (.ref y) (putF "words" (.ref wd) (putF "things" (.ref t) (putF "letters" (.str (tx L)) [])))))) m (.lst [])) x (.ins cW dx (putF "marks" (.ref m) (putF "ways" (.ref y) (putF "words" (.ref wd) (putF "things" (.ref t) (putF "letters" (.str (tx L)) []))))))  b := fun b h1 h2 h3 h4 h5 => by
      rw [upd_ne h1, upd_ne h2, upd_ne h1, upd_ne h3, upd_ne h1, upd_ne h4, upd_ne h1, upd_ne h5, upd_ne h1]
    have free : ∀ {b : Addr} {o : HO}, H b = some o → ∀ {a : Addr}, H a = none → b ≠ a := fun {b o} e {a} n => ne_of_none e n
    have ft : H t = none := by rw [upd_ne tx'] at ht; exact ht
    have fw : H wd = none := by rw [upd_ne wx, upd_ne (Ne.symm twd), upd_ne wx] at hwd; exact hwd
    have fy : H y = none := by rw [upd_ne yx, upd_ne (Ne.symm wy), upd_ne yx, upd_ne (Ne.symm ty), upd_ne yx] at hy; exact hy
    have fm : H m = none := by rw [upd_ne mx, upd_ne (Ne.symm ym), upd_ne mx, upd_ne (Ne.symm wm), upd_ne mx, upd_ne (Ne.symm tm), upd_ne mx] at hm; exact hm
    refine q t wd y m _ twd ty tm wy wm ym ft fw fy fm (fun b o hb e => ?_) ⟨⟨dx, upd_same⟩⟩ ?_ ?_ ?_ ?_
    · rw [← e]
      exact (fin b hb (free e fm) (free e fy) (free e fw) (free e ft)).symm
    · rw [upd_ne tx', upd_ne tm, upd_ne tx', upd_ne ty, upd_ne tx', upd_ne twd, upd_ne tx', upd_same]
    · rw [upd_ne wx, upd_ne wm, upd_ne wx, upd_ne wy, upd_ne wx, upd_same, ← empty_eq]
    · rw [upd_ne yx, upd_ne ym, upd_ne yx, upd_same]
    · rw [upd_ne mx, upd_same]
theorem sc_walked : FnScope ["letters", "start", "goals_of", "is_marked", "most", "walk", "rooms", "room", "goals", "row", "letter", "goal"] ["letters", "start", "goals_of", "is_marked", "most"] (defScope s_walked) := ⟨rfl, rfl, rfl, by decide +kernel, rfl, by decide +kernel, by decide +kernel⟩
set_option maxHeartbeats 4000000 in
theorem ok_walked {P : Program} {w : World} {K : PySem.W.Frag} {mg : Str → Option Value} {base : Heap} {cW fI f fg fm : Addr} {fd fdI fdg fdm : FuncData} {og om : Obj} {gx mx : Str} {ti : Bool} {L : List Nat} {g : List Nat → Nat → List Nat} {mk : List Nat → Bool} {U : List (List Nat)} {Rest : Hp → Prop} (F : FunD K "walked" "walked" s_walked f fd) (WT : WkT K mg cW fI fdI) (tlen : mg "len" = none) (tzip : mg "zip" = none)
    (Fg : FnOk P w K mg base CX0 4 fg fdg [gx] (spGoals ti L g U Rest)) (Fm : FnOk P w K mg base CX0 4 fm fdm [mx] (spMark ti mk U Rest)) (og1 : base.get? fg = some og) (og2 : ∃ fd', og.data = .func fd') (om1 : base.get? fm = some om) (om2 : ∃ fd', om.data = .func fd') (bg : Binds K fdg [gx] []) (bm : Binds K fdm [mx] []) (hRest : ∀ H H' : Hp, Same H H' → Rest H → Rest H') :
    FnOk P w K mg base CX0 5 f fd ["letters", "start", "goals_of", "is_marked", "most"] (sp_walked cW ti L g mk U Rest fg fm) := by
  obtain ⟨oc, od, dat, sl⟩ := og
  obtain ⟨fd', rfl⟩ := og2
  obtain ⟨oc2, od2, dat2, sl2⟩ := om
  obtain ⟨fd2', rfl⟩ := om2
  refine F.ok sc_walked (fun vs H Q E h => ?_) (fun cdv A outer s H vs Q E hr h => ?_)
  · obtain ⟨s, sv, most, rfl, _⟩ := h
    rfl
  · obtain ⟨s0, sv, most, rfl, hL, hsv, hsU, hcl, hU, hR0, q⟩ := h
    have hr2 := hr.mono (j := 2) (by decide)
    refine ⟨_, (pss_cons ((ps_set (i := 5) sc_walked.nd rfl (Or.inl rfl) (pe_make WT.mkW (ok_winit WT) hr2 rfl WT.kW (WT.ini.binds (ps := ["self", "letters", "start"]) (fun _ _ _ _ _ _ us hl => match us, hl with | [_, _, _], _ => rfl)) .nil pass0 (pa_cons (pv 0) (pa_cons (pv 1) pa_nil))))) (pss_cut ((ps_set (i := 6) sc_walked.nd rfl (Or.inl rfl) (pe_wone hr.units (pv 1) pe_int))) (pss_cons ((ps_while PassesOwn.never (pt_cmpR op_lt (pe_callB call_len_seq (by rfl) tlen PySem.boot_len (pa_cons (pe_fld (f := "ways") (pv 5) rfl) pa_nil)) (pe_callB call_len_seq (by rfl) tlen PySem.boot_len (pa_cons (pe_fld (f := "things") (pv 5) rfl) pa_nil)) (nomark _)) (pss_cut ((ps_if ((pw_and (pt_cmpR op_notN (pv 4) pe_non (nomark _)) (pw_and1 (pt_cmpR op_gt (pe_callB call_len_seq (by rfl) tlen PySem.boot_len (pa_cons (pe_fld (f := "things") (pv 5) rfl) pa_nil)) (pv 4) (nomark _)))).pt) ((pss_one (ps_break))) (pss_nil))) (pss_cons ((ps_set (i := 7) sc_walked.nd rfl (Or.inl rfl) ((pe_callB call_len_seq (by rfl) tlen PySem.boot_len (pa_cons (pe_fld (f := "ways") (pv 5) rfl) pa_nil))))) (pss_cons ((ps_set (i := 8) sc_walked.nd rfl (Or.inl rfl) (pe_callL Fg hr og1 bg (pv 2) (pa_cons (pe_ix ix_list ((pe_fld (f := "things") (pv 5) rfl)) (pv 7) (fun _ _ => rfl)) pa_nil)))) (pss_cons ((ps_set (i := 9) sc_walked.nd rfl (Or.inl rfl) (pe_lst pa_nil))) (pss_cons ((ps_for PassesOwn.never rfl (pi_zipG rfl tzip (pa_cons (pv 0) (pa_cons (pv 8) pa_nil))) (pg_tup rfl (pgs_cons (pg_name (i := 10) sc_walked.nd rfl (Or.inl rfl)) (pgs_cons (pg_name (i := 11) sc_walked.nd rfl (Or.inl rfl)) pgs_nil))) (pss_cut ((ps_if (pt_cmpR (op_notinW hr.units) (pv 11) (pv 6) (by with_unfolding_all rfl)) ((pss_cons (ps_asg (pe_callB call_len_seq (by rfl) tlen PySem.boot_len (pa_cons (pe_fld (f := "things") (pv 5) rfl) pa_nil)) (pg_sub (pv 6) (pv 11) (set_dictW hr.units))) (pss_cons (ps_expr (pe_bm PySem.F.plainAttrs_list PySem.F.slot_list_append PySem.F.type_list_append mt_append ((pe_fld (f := "things") (pv 5) rfl)) (pa_cons (pv 11) pa_nil))) (pss_one (ps_expr (pe_bm PySem.F.plainAttrs_list PySem.F.slot_list_append PySem.F.type_list_append mt_append ((pe_fld (f := "words") (pv 5) rfl)) (pa_cons (pe_op op_add_str (pe_ix ix_list ((pe_fld (f := "words") (pv 5) rfl)) (pv 7) (fun _ _ => rfl)) (pv 10)) pa_nil))))))) (pss_nil))) (pss_one (ps_expr (pe_bm PySem.F.plainAttrs_list PySem.F.slot_list_append PySem.F.type_list_append mt_append (pv 9) (pa_cons (pe_ix (ix_dictW hr.units) (pv 6) (pv 11) (fun _ _ => rfl)) pa_nil))))))) (pss_cons (ps_expr (pe_bm PySem.F.plainAttrs_list PySem.F.slot_list_append PySem.F.type_list_append mt_append ((pe_fld (f := "ways") (pv 5) rfl)) (pa_cons (pv 9) pa_nil))) (pss_one (ps_expr (pe_bm PySem.F.plainAttrs_list PySem.F.slot_list_append PySem.F.type_list_append mt_append ((pe_fld (f := "marks") (pv 5) rfl)) (pa_cons (pe_callL Fm hr om1 bm (pv 3) (pa_cons (pe_ix ix_list ((pe_fld (f := "things") (pv 5) rfl)) (pv 7) (fun _ _ => rfl)) pa_nil)) pa_nil)))))))))))) (pss_one (ps_ret (pv 5)))))), ?_⟩
    have tn : ∀ {b : Addr} {o : HO}, H b = some o → ∀ {c : Addr}, H c = none → b ≠ c := fun {b o} e {c} n => ne_of_none e n
    refine ⟨_, rfl, _, rfl, fun wk dx hwk hdx hne => ⟨wk, dx, L, sv, rfl, upd_same, fun t wd y md H1 a1 a2 a3 a4 a5 a6 ft fw fy fmd kp hW ht hwd hy hmd => ⟨rfl, ?_⟩⟩⟩
    have fr : ∀ {b : Addr}, upd (upd H dx (.own wk)) wk (.ins cW dx []) b = none → H b = none := fun {b} e => by
      by_cases h1 : b = wk
      · rw [h1]; exact hwk
      · rw [upd_ne h1] at e
        by_cases h2 : b = dx
        · rw [h2]; exact hdx
        · rw [upd_ne h2] at e
          exact e
    have s1 : Same H H1 := fun b o e => kp b o (tn e hwk) (by rw [upd_ne (tn e hwk), upd_ne (tn e hdx)]; exact e)
    have hsv1 : ThV ti H1 s0 sv := hsv.same fun b xs e => s1 _ _ e
    -- the dict
    have hdict : ∀ (d : Addr) (H2 : Hp), H1 d = none → RmAt P w H2 d ti [s0] → (∀ b o, H1 b = some o → H2 b = some o) → WI P w H H2 cW ti L wk t wd y md d [s0] [sv] [[]] [] [] [] := fun d H2 hd hrm s2 => by
      have ne : ∀ {b : Addr} {o : HO}, H1 b = some o → d ≠ b := fun {b o} e z => by rw [← z, hd] at e; cases e
      obtain ⟨dx', ew⟩ := hW.ex
      exact ⟨s1.trans s2, ⟨dx', s2 _ _ ew⟩, s2 _ _ ht, ⟨rfl, fun i k v h1 h2 => by
        match i, h1, h2 with
        | 0, h1, h2 => cases h1; cases h2; exact hsv1.same fun b xs e => s2 _ _ e
        | i + 1, h1, _ => simp at h1⟩, s2 _ _ hwd, s2 _ _ hy, ⟨rfl, fun i a r h1 => by simp at h1⟩, s2 _ _ hmd, hrm, fr ft, fr fw, fr fy, fr fmd, same_none s1 hd, a1, a2, a3, a4, a5, a6, ne ht, ne hwd, ne hy, ne hmd, ne ew, fun a ha => by simp at ha⟩
    refine ⟨fun σ' H' => ∃ d, σ' = [some (.str (tx L)), some sv, some (.ref fg), some (.ref fm), some (mostV most), some (.ref wk), some (.ref d), none, none, none, none, none] ∧ WI P w H H' cW ti L wk t wd y md d [s0] [sv] [[]] [] [] [], ?_, ?_⟩
    · refine ⟨ti, fun d hd => ⟨_, rfl, upd_same, ?_⟩⟩
      have up : ∀ {ob ob2 : HO} (b : Addr) (o : HO), H1 b = some o → upd (upd H1 d ob) d ob2 b = some o := fun {ob ob2} b o e => by
        rw [upd_upd]
        exact upd_keep e hd
      cases hti : ti with
      | true =>
        rw [hti] at hsv1 hdict
        unfold ThV at hsv1
        rw [if_pos rfl] at hsv1
        obtain ⟨n, rfl, rfl⟩ := hsv1
        refine .inl ⟨rfl, _, rfl, d, rfl, hdict d _ hd ?_ up⟩
        unfold RmAt
        rw [if_pos rfl]
        exact ⟨upd_same, fun t ht => ⟨n, List.mem_singleton.mp ht⟩⟩
      | false =>
        rw [hti] at hsv1 hdict
        have hsv2 := hsv1
        unfold ThV at hsv2
        rw [if_neg (by decide)] at hsv2
        obtain ⟨b, rfl, hb⟩ := hsv2
        have hT : ∀ {ob : HO}, TIn (upd H1 d ob) (zs s0) b := fun {ob} => by
          unfold TIn
          rw [zs_intsV]
          exact upd_keep hb hd
        refine .inr ⟨rfl, b, zs s0, rfl, hT, d, rfl, hdict d _ hd ?_ up⟩
        unfold RmAt
        rw [if_neg (by decide)]
        refine ⟨_, upd_same, fun x hx => ?_, rfl, fun i k x h1 h2 => ?_⟩
        · rw [List.mem_singleton.mp hx, upd_upd]
          exact hT
        · match i, h1, h2 with
          | 0, h1, h2 => cases h1; cases h2; exact ⟨rfl, rfl⟩
          | i + 1, h1, _ => simp at h1
    rintro σ1 H2 ⟨d, rfl, hWI⟩
    have fin : ∀ {H' : Hp} {ks : List (List Nat)} {vks : List V} {ws : List (List Nat)} {rows : List Addr} {R : List (List Nat)} {B : List Bool}, WI P w H H' cW ti L wk t wd y md d ks vks ws rows R B → WPu g L s0 mk U ks ws R B 0 → (R.length = ks.length ∨ ∃ n, most = some n ∧ n < ks.length) → Q (.ref wk) H' := fun hI hP he =>
      q wk t wd y md _ _ _ _ _ _ _ hI.sm hI.obj hI.ht hI.th hI.hw hI.hy hI.wr hI.hm hP.bf hP.ways hP.bl hP.mks hP.sub (Nat.le_trans (Nat.le_add_left _ _) hP.left) he
    refine ⟨fun n σ' H' => ∃ ks vks ws rows R B s7 s8 s9 s10 s11, n = U.length - List.length R ∧ σ' = [some (.str (tx L)), some sv, some (.ref fg), some (.ref fm), some (mostV most), some (.ref wk), some (.ref d), s7, s8, s9, s10, s11] ∧ WI P w H H' cW ti L wk t wd y md d ks vks ws rows R B ∧ WPu g L s0 mk U ks ws R B 0, ⟨_, [s0], [sv], [[]], [], [], [], none, none, none, none, none, rfl, rfl, hWI, WPu.start hsU⟩, ?_⟩
    rintro n σ' H3 ⟨ks, vks, ws, rows, R, B, s7, s8, s9, s10, s11, rfl, rfl, hI, hP⟩
    obtain ⟨dx', ew⟩ := hI.obj.ex
    have hrl : (rows.map V.ref).length = R.length := by rw [List.length_map, hI.wr.1]
    have hvl : vks.length = ks.length := hI.th.1
    have hksU : ks.length ≤ U.length := Nat.le_trans (Nat.le_add_left _ _) hP.left
    refine ⟨_, rfl, wk, cW, dx', _, _, rfl, ew, WT.cls, WT.na4, rfl, y, _, rfl, .inl (SqL.of hI.hy), _, rfl, wk, cW, dx', _, _, rfl, ew, WT.cls, WT.na2, rfl, t, _, rfl, .inl (SqL.of hI.ht), _, _, rfl, rfl, _, rfl, ite3 (fun hlt => ?_) (fun hlt => ?_)⟩
    case _ =>
      rw [hrl, hvl] at hlt
      have hlt : R.length < ks.length := Int.ofNat_lt.mp hlt
      refine ⟨fun σ2 H4 => ∃ ks vks ws rows R' B s7 s8 s9 s10 s11, R'.length = R.length + 1 ∧ σ2 = [some (.str (tx L)), some sv, some (.ref fg), some (.ref fm), some (mostV most), some (.ref wk), some (.ref d), s7, s8, s9, s10, s11] ∧ WI P w H H4 cW ti L wk t wd y md d ks vks ws rows R' B ∧ WPu g L s0 mk U ks ws R' B 0, ?_, ?_⟩
      · rintro σ2 H4 ⟨ks', vks', ws', rows', R', B', u7, u8, u9, u10, u11, hR', hσ, hI', hP'⟩
        exact ⟨U.length - R'.length, by rw [hR']; omega, ks', vks', ws', rows', R', B', u7, u8, u9, u10, u11, rfl, hσ, hI', hP'⟩
      -- the turn
      obtain ⟨k0, hk0⟩ : ∃ k0, ks[R.length]? = some k0 := ⟨ks[R.length], List.getElem?_eq_getElem hlt⟩
      obtain ⟨v0, hv0⟩ : ∃ v0, vks[R.length]? = some v0 := ⟨vks[R.length]'(by rw [hvl]; exact hlt), List.getElem?_eq_getElem _⟩
      obtain ⟨a0, ha0⟩ : ∃ a0, ws[R.length]? = some a0 := ⟨ws[R.length]'(by rw [← hP.bf.len]; exact hlt), List.getElem?_eq_getElem _⟩
      have hk0U : k0 ∈ U := hP.sub k0 (List.mem_of_getElem? hk0)
      refine ⟨fun σ2 H4 => σ2 = [some (.str (tx L)), some sv, some (.ref fg), some (.ref fm), some (mostV most), some (.ref wk), some (.ref d), s7, s8, s9, s10, s11] ∧ H4 = H3, ?_, ?_⟩
      · cases most with
        | none => exact ⟨_, rfl, rfl, _, rfl, iteNS rfl (iteF ⟨rfl, rfl⟩)⟩
        | some M =>
          refine ⟨_, rfl, rfl, _, rfl, iteNI ⟨_, rfl, wk, cW, dx', _, _, rfl, ew, WT.cls, WT.na2, rfl, t, _, rfl, .inl (SqL.of hI.ht), _, rfl, _, _, rfl, rfl, _, rfl, ?_⟩⟩
          rw [hvl]
          exact ite3 (fun hgt => ⟨_, rfl, fin hI hP (.inr ⟨M, rfl, Int.ofNat_lt.mp hgt⟩)⟩) (fun _ => ⟨rfl, rfl⟩)
      rintro σ2 H4 ⟨rfl, rfl⟩
      refine ⟨_, rfl, wk, cW, dx', _, _, rfl, ew, WT.cls, WT.na4, rfl, y, _, rfl, .inl (SqL.of hI.hy), ?_⟩
      rw [hrl]
      have hat : atI vks ((R.length : Nat) : Int) = some v0 := atI_nat hv0
      refine ⟨rfl, _, rfl, wk, cW, dx', _, _, rfl, ew, WT.cls, WT.na2, rfl, _, rfl, t, _, _, _, rfl, rfl, SqL.of hI.ht, hat, k0, v0, rfl, hI.th.2 _ _ _ hk0 hv0, hk0U, hRest _ _ hI.sm hR0, fun gs xs H5 s5 hgs hxl hxs => ?_⟩
      have hI5 := hI.any s5
      have hgs' : H5 gs = some (.tup xs) ∨ H5 gs = some (.lst xs) := hgs.imp id fun z => z.2
      have gne : ∀ {b : Addr} {o : HO}, H4 b = some o → (∀ zs, o ≠ .tup zs) → gs ≠ b := fun {b o} e ho z => by
        rcases hgs with h1 | ⟨h1, _⟩
        · rw [z, s5 _ _ e] at h1
          cases h1
          exact ho _ rfl
        · rw [z, e] at h1
          cases h1
      obtain ⟨φd, hφ⟩ : ∃ φ, H4 d = some (.ext φ) := by
        have hr0 := hI.rm
        unfold RmAt at hr0
        cases ti with
        | true => rw [if_pos rfl] at hr0; exact ⟨_, hr0.1⟩
        | false => rw [if_neg (by decide)] at hr0; obtain ⟨kvs, e, _⟩ := hr0; exact ⟨_, e⟩
      have g1 : gs ≠ t := gne hI.ht (by intro zs z; cases z)
      have g2 : gs ≠ wd := gne hI.hw (by intro zs z; cases z)
      have g3 : gs ≠ y := gne hI.hy (by intro zs z; cases z)
      have g4 : gs ≠ md := gne hI.hm (by intro zs z; cases z)
      have g5 : gs ≠ d := gne hφ (by intro zs z; cases z)
      refine ⟨Nat.zero_le _, fun rw hrw => ?_⟩
      have r1 : rw ≠ t := Ne.symm (ne_of_none hI5.ht hrw)
      have r2 : rw ≠ wd := Ne.symm (ne_of_none hI5.hw hrw)
      have r3 : rw ≠ y := Ne.symm (ne_of_none hI5.hy hrw)
      have r4 : rw ≠ md := Ne.symm (ne_of_none hI5.hm hrw)
      have r5 : rw ≠ d := Ne.symm (ne_of_none (s5 _ _ hφ) hrw)
      have r6 : rw ∉ rows := fun hm => by
        obtain ⟨i, hi⟩ := List.mem_iff_getElem?.mp hm
        have hil : i < R.length := by rw [← hI5.wr.1]; exact (List.getElem?_eq_some_iff.mp hi).1
        rw [hI5.wr.2 i rw _ hi (List.getElem?_eq_getElem hil)] at hrw
        cases hrw
      have rg : gs ≠ rw := fun z => by
        rw [← z] at hrw
        rcases hgs' with h1 | h1 <;> rw [hrw] at h1 <;> cases h1
      have r0 : H rw = none := same_none hI5.sm hrw
      have hI6 := hI5.any (Same.upd (o := .lst []) hrw)
      have hgs6 : upd H5 rw (.lst []) gs = some (.tup xs) ∨ upd H5 rw (.lst []) gs = some (.lst xs) := by rw [upd_ne rg]; exact hgs'
      refine ⟨_, rfl, _, rfl, _, _, rfl, zips_of hgs6 fun d2 hd2 tk => ?_⟩
      have hxlen : ((tx L).cps.toList.map fun c => V.str ⟨#[c]⟩).length = xs.length := by rw [List.length_map, tx_cps, hxl]
      refine for_zipG (xs := (tx L).cps.toList.map fun c => V.str ⟨#[c]⟩) (ys := xs) hxlen (fun q σ3 H6 => ∃ ks' vks' ws' r v10 v11, σ3 = [some (.str (tx L)), some sv, some (.ref fg), some (.ref fm), some (mostV most), some (.ref wk), some (.ref d), some (.int ((R.length : Nat) : Int)), some (.ref gs), some (.ref rw), v10, v11] ∧
        WI P w H H6 cW ti L wk t wd y md d ks' vks' ws' rows R B ∧ WPu g L s0 mk U ks' ws' R B q ∧ RowOk g ks' R.length r q ∧ H6 rw = some (.lst (intsV r)) ∧ H6 gs = H5 gs ∧ (∀ (j : Nat) (x : V), xs[j]? = some x → ThV ti H6 (g k0 j) x) ∧ ks'[R.length]? = some k0 ∧ ws'[R.length]? = some a0) ?_ ?_ ?_ ?_
      · exact ⟨ks, vks, ws, [], s10, s11, rfl, hI6, hP, RowOk.nil, upd_same, upd_ne rg, fun j x hx => (hxs j x hx).same fun b zs e => upd_keep e hrw, hk0, ha0⟩
      · rintro q σ3 H6 ⟨ks', vks', ws', r, v10, v11, rfl, hI', hP', hro, hrw', hgk, hth, hk', ha'⟩
        exact ⟨rfl, hd2 H6 (by rw [hgk, upd_ne rg])⟩
      · rintro q cx gx' p σ3 H6 hc hg hp ⟨ks', vks', ws', r, v10, v11, rfl, hI', hP', hro, hrw', hgk, hth, hk', ha'⟩
        rw [tx_cps, List.getElem?_map] at hc
        cases hcq : L[q]? with
        | none => rw [hcq] at hc; cases hc
        | some c =>
        rw [hcq] at hc
        cases hc
        have hqL : q < L.length := (List.getElem?_eq_some_iff.mp hcq).1
        have hcd : L.getD q 0 = c := by rw [List.getD_eq_getElem?_getD, hcq]; rfl
        have hgU : g k0 q ∈ U := hcl k0 hk0U q hqL
        have hI7 := hI'.any (Same.upd (o := .tup [.str ⟨#[c]⟩, gx']) hp)
        have hthq : ThV ti H6 (g k0 q) gx' := hth q gx' hg
        have hth7 : ThV ti (upd H6 p (.tup [.str ⟨#[c]⟩, gx'])) (g k0 q) gx' := hthq.same fun b zs e => upd_keep e hp
        have hrp : upd H6 p (.tup [.str ⟨#[c]⟩, gx']) rw = some (.lst (intsV r)) := upd_keep hrw' hp
        have hgsp : upd H6 p (.tup [.str ⟨#[c]⟩, gx']) gs = H5 gs := by
          have : gs ≠ p := fun z => by
            rw [← z, hgk] at hp
            rcases hgs' with h1 | h1 <;> rw [hp] at h1 <;> cases h1
          rw [upd_ne this]
          exact hgk
        have hthp : ∀ (j : Nat) (x : V), xs[j]? = some x → ThV ti (upd H6 p (.tup [.str ⟨#[c]⟩, gx'])) (g k0 j) x := fun j x hx => (hth j x hx).same fun b zs e => upd_keep e hp
        have hp7 : upd H6 p (.tup [.str ⟨#[c]⟩, gx']) p = some (.tup [.str ⟨#[c]⟩, gx']) := upd_same
        generalize upd H6 p (.tup [.str ⟨#[c]⟩, gx']) = H7 at hI7 hth7 hrp hgsp hthp hp7
        have hkU : ks'.length ≤ U.length := Nat.le_trans (Nat.le_add_left _ _) hP'.left
        have hk100 : ks'.length ≤ 100000 := Nat.le_trans hkU hU
        have hvl' : vks'.length = ks'.length := hI7.th.1
        refine ⟨p, _, rfl, SqT.of hp7, rfl, _, _, rfl, _, _, rfl, rfl, ?_⟩
        refine ⟨fun σ4 H8 => ∃ ks2 vks2 ws2, σ4 = [some (.str (tx L)), some sv, some (.ref fg), some (.ref fm), some (mostV most), some (.ref wk), some (.ref d), some (.int ((R.length : Nat) : Int)), some (.ref gs), some (.ref rw), some (.str ⟨#[c]⟩), some gx'] ∧ WI P w H H8 cW ti L wk t wd y md d ks2 vks2 ws2 rows R B ∧ WPu g L s0 mk U ks2 ws2 R B (q + 1) ∧ RowOk g ks2 R.length r q ∧
          H8 rw = some (.lst (intsV r)) ∧ H8 gs = H5 gs ∧ (∀ (j : Nat) (x : V), xs[j]? = some x → ThV ti H8 (g k0 j) x) ∧ ks2[R.length]? = some k0 ∧ ws2[R.length]? = some a0 ∧ g k0 q ∈ ks2, ?_, ?_⟩
        · refine ⟨_, rfl, _, rfl, d, _, rfl, hI7.rm.get hth7, _, rfl, ?_⟩
          by_cases hm : g k0 q ∈ ks'
          · rw [(ix_get hm).1]
            exact iteF ⟨ks', vks', ws', rfl, hI7, hP'.old hL.nd hk' ha' hqL hm, hro, hrp, hgsp, hthp, hk', ha', hm⟩
          · rw [show ixO ks' (g k0 q) = none from if_neg hm]
            obtain ⟨ob, hput, hrm2⟩ := hI7.rm.put hth7 hm (line_lt hk100)
            obtain ⟨dx', ew7⟩ := hI7.obj.ex
            have ew8 : upd H7 d ob wk = _ := (upd_ne (Ne.symm hI7.e5)).trans ew7
            have ht8 : upd H7 d ob t = _ := (upd_ne (Ne.symm hI7.e1)).trans hI7.ht
            have hw8 : upd H7 d ob wd = _ := (upd_ne (Ne.symm hI7.e2)).trans hI7.hw
            have wkt : wk ≠ t := ne_of ew7 hI7.ht (by intro z; cases z)
            have ew9 : upd (upd H7 d ob) t (.lst (vks' ++ [gx'])) wk = _ := (upd_ne wkt).trans ew8
            have hw9 : upd (upd H7 d ob) t (.lst (vks' ++ [gx'])) wd = _ := (upd_ne (Ne.symm hI7.d1)).trans hw8
            have hatw : atI (wordsV ws') ((R.length : Nat) : Int) = some (.str (tx a0)) := atI_nat (by rw [wordsV, List.getElem?_map, ha']; rfl)
            have hwl : a0.length ≤ 100000 := Nat.le_trans (hP'.wl a0 (List.mem_of_getElem? ha')) hk100
            rw [← hvl'] at hput
            refine iteT ⟨_, rfl, wk, cW, dx', _, _, rfl, ew7, WT.cls, WT.na2, rfl, t, _, rfl, .inl (SqL.of hI7.ht), _, rfl, _, rfl, d, _, rfl, hput, ?_⟩
            refine ⟨_, rfl, wk, cW, dx', _, _, rfl, ew8, WT.cls, WT.na2, rfl, .inl ⟨rfl, _, SqL.of ht8⟩, _, rfl, t, _, _, rfl, rfl, ht8, line_lt (by rw [hvl']; exact hk100), ?_⟩
            refine ⟨_, rfl, wk, cW, dx', _, _, rfl, ew9, WT.cls, WT.na3, rfl, .inl ⟨rfl, _, SqL.of hw9⟩, _, rfl, wk, cW, dx', _, _, rfl, ew9, WT.cls, WT.na3, rfl, _, rfl, wd, _, _, _, rfl, rfl, SqL.of hw9, hatw, _, rfl, _, _, rfl, rfl, ?_, wd, _, _, rfl, rfl, hw9, line_lt (by rw [wordsV, List.length_map, ← hP'.bf.len]; exact hk100), ?_⟩
            · show (tx a0).length + 1 ≤ sizeLine
              rw [tx_len]
              exact line_ge (by omega)
            have hch : tx a0 ++ (⟨#[c]⟩ : Str) = tx (a0 ++ [c]) := by rw [← tx_app]; rfl
            have hI10 := hI7.new (a := a0 ++ [c]) hth7 hrm2
            have hP10 := hP'.new hL.nd hk' ha' hqL hm hgU
            rw [hcd] at hP10
            have kt : ∀ b zs, H7 b = some (.tup zs) → upd (upd (upd H7 d ob) t (.lst (vks' ++ [gx']))) wd (.lst (wordsV ws' ++ [.str (tx (a0 ++ [c]))])) b = some (.tup zs) := fun b zs e => by
              obtain ⟨φ, hφ7⟩ : ∃ φ, H7 d = some (.ext φ) := by
                have hr0 := hI7.rm
                unfold RmAt at hr0
                cases ti with
                | true => rw [if_pos rfl] at hr0; exact ⟨_, hr0.1⟩
                | false => rw [if_neg (by decide)] at hr0; obtain ⟨kvs, e, _⟩ := hr0; exact ⟨_, e⟩
              rw [upd_ne (ne_of e hI7.hw (by intro z; cases z)), upd_ne (ne_of e hI7.ht (by intro z; cases z)), upd_ne (ne_of e hφ7 (by intro z; cases z))]
              exact e
            refine ⟨ks' ++ [g k0 q], vks' ++ [gx'], ws' ++ [a0 ++ [c]], rfl, ?_, hP10, hro.grow (List.getElem?_eq_some_iff.mp hk').1, ?_, ?_, fun j x hx => ?_, get_app hk', get_app ha', by simp⟩
            · rw [← hch] at hI10
              exact hI10
            · rw [upd_ne r2, upd_ne r1, upd_ne r5]
              exact hrp
            · rw [upd_ne g2, upd_ne g1, upd_ne g5]
              exact hgsp
            · refine (hthp j x hx).same fun b zs e => ?_
              have := kt b zs e
              rw [← hch] at this
              exact this
        rintro σ4 H8 ⟨ks2, vks2, ws2, rfl, hI8, hP8, hro8, hrw8, hg8, hth8, hk8, ha8, hm8⟩
        have hget := hI8.rm.get (hth8 q gx' hg)
        rw [(ix_get hm8).1] at hget
        have hq3 : r.length ≤ 100 := by rw [hro8.1]; exact Nat.le_trans (Nat.le_of_lt hqL) (Nat.le_trans hL.hi (by decide))
        refine ⟨_, rfl, .inl ⟨rfl, _, SqL.of hrw8⟩, _, rfl, _, rfl, d, _, rfl, hget, rw, _, _, rfl, rfl, hrw8, line_lt (by rw [intsV_len]; exact Nat.le_trans hq3 (by decide)), ?_⟩
        refine ⟨ks2, vks2, ws2, r ++ [ks2.idxOf (g k0 q)], _, _, rfl, hI8.beside hrw8 r0 r1 r2 r3 r4 r5 r6, hP8, hro8.snoc hk8 hm8, ?_, ?_, fun j x hx => ?_, hk8, ha8⟩
        · rw [upd_same, ints_snocW]
        · rw [upd_ne rg]
          exact hg8
        · exact (hth8 j x hx).same fun b zs e => by rw [upd_ne (ne_of e hrw8 (by intro z; cases z))]; exact e
      · rintro σ3 H6 ⟨ks', vks', ws', r, v10, v11, rfl, hI', hP', hro, hrw', hgk, hth, hk', ha'⟩
        rw [hxlen, hxl] at hP' hro
        obtain ⟨dx', ew6⟩ := hI'.obj.ex
        have hkU : ks'.length ≤ 100000 := Nat.le_trans (Nat.le_trans (Nat.le_add_left _ _) hP'.left) hU
        have hR100 : R.length ≤ 100000 := Nat.le_trans hP'.le hkU
        have hI8 := hI'.row hrw' r1 r2 r3 r4 r5
        obtain ⟨dx2, ew8⟩ := hI8.obj.ex
        obtain ⟨v1, hv1⟩ : ∃ v1, vks'[R.length]? = some v1 := ⟨vks'[R.length]'(by rw [hI'.th.1]; exact (List.getElem?_eq_some_iff.mp hk').1), List.getElem?_eq_getElem _⟩
        refine ⟨_, rfl, wk, cW, dx', _, _, rfl, ew6, WT.cls, WT.na4, rfl, .inl ⟨rfl, _, SqL.of hI'.hy⟩, _, rfl, y, _, _, rfl, rfl, hI'.hy, line_lt (by rw [List.length_map, hI'.wr.1]; exact hR100), ?_⟩
        refine ⟨_, rfl, wk, cW, dx2, _, _, rfl, ew8, WT.cls, WT.na5, rfl, .inl ⟨rfl, _, SqL.of hI8.hm⟩, rfl, _, rfl, wk, cW, dx2, _, _, rfl, ew8, WT.cls, WT.na2, rfl, _, rfl, t, _, _, _, rfl, rfl, SqL.of hI8.ht, atI_nat hv1, k0, v1, rfl, hI8.th.2 _ _ _ hk' hv1, hk0U, hRest _ _ hI8.sm hR0, md, _, _, rfl, rfl, hI8.hm, line_lt (by rw [List.length_map, hP'.bl]; exact hR100), ?_⟩
        exact ⟨ks', vks', ws', rows ++ [rw], R ++ [r], B ++ [mk k0], _, _, _, _, _, by rw [List.length_append]; rfl, rfl, hI8.mark, hP'.next hk' hro⟩
    case _ =>
      rw [hrl, hvl] at hlt
      exact ⟨_, rfl, fin hI hP (.inl (Nat.le_antisymm hP.le (Nat.le_of_not_lt fun z => hlt (Int.ofNat_lt.mpr z))))⟩
end K12

namespace K12
open PySem L2 RA
abbrev s_g : Stmt := (defBody s_walked_machine).getD 0 (.Pass ⟨0, 0, 0, 0⟩)
abbrev s_m : Stmt := (defBody s_walked_machine).getD 1 (.Pass ⟨0, 0, 0, 0⟩)
abbrev q_g : Str := "walked_machine.<locals>.goals_of"
abbrev q_m : Str := "walked_machine.<locals>.is_marked"
def posOf (s : Stmt) : Pos := match s with
  | .FunctionDef _ _ _ _ _ _ _ _ _ p => p
  | _ => ⟨0, 0, 0, 0⟩
def sites : List (Pos × Str) := [(posOf s_g, q_g), (posOf s_m, q_m)]
theorem sc_g : FnScopeC ["room", "machine"] ["room"] ["machine"] (defScope s_g) := ⟨rfl, rfl, rfl, by decide +kernel, rfl, rfl, by decide, by decide +kernel, by decide +kernel⟩
theorem sc_m : FnScopeC ["room", "machine"] ["room"] ["machine"] (defScope s_m) := ⟨rfl, rfl, rfl, by decide +kernel, rfl, rfl, by decide, by decide +kernel, by decide +kernel⟩
section
variable {P : Program} {w : World} {K : PySem.W.Frag} {mg : Str → Option Value} {base : Heap} {f c m : Addr} {clos : List (Str × Addr)} {doc pm ctv : Value} {L : List Nat} {W : List (List Nat)} {B : List Bool}
set_option maxHeartbeats 4000000 in
theorem ok_g (ho : base.get? f = some (PySem.W.fnMade "goals_of" q_g (defArgs s_g) (defBody s_g) (defScope s_g) clos doc pm c ctv)) (hcd : base.CodeRec (.ref c) q_g) (C : ClosAt base clos (defScope s_g) ["machine"] [.ref m]) (hMa : Mach L W B) :
    FnOk P w K mg base CX0 1 f (PySem.W.fnX "goals_of" q_g (defArgs s_g) (defBody s_g) (defScope s_g) clos .none .none doc pm none (.ref c) ctv) ["room"] (spGoals true L (gW W) (uW W) fun H => MachAt H m L W B) := by
  refine fn_ofC (fvs := [.ref m]) ho rfl hcd sc_g C (fun vs H Q E h => ?_) (fun A outer s H vs Q E hr h => ?_)
  · obtain ⟨k, v, rfl, _⟩ := h
    rfl
  · obtain ⟨k, v, rfl, hv, hU, hM, q⟩ := h
    refine ⟨_, (pss_one (ps_ret (pe_ix ix_tup (pe_ix ix_tup (pv 1) pe_int (fun _ _ => rfl)) (pv 0) (fun _ _ => rfl)))), ?_⟩
    obtain ⟨n, rfl, hn⟩ := uW_one hU
    unfold ThV at hv
    rw [if_pos rfl] at hv
    obtain ⟨n', e, rfl⟩ := hv
    injection e with e
    subst e
    obtain ⟨wy, mk, rows, h1, h2, h3, h4, h5⟩ := hM
    obtain ⟨rr, hrr⟩ : ∃ rr, rows[n]? = some rr := ⟨rows[n]'(by rw [h4]; exact hn), List.getElem?_eq_getElem _⟩
    obtain ⟨ws, e5, e6⟩ := h5 _ _ hrr
    have hws := hMa.row ws (List.mem_of_getElem? e5)
    refine ⟨_, rfl, m, _, _, _, rfl, rfl, SqT.of h1, atI_nat (j := 1) rfl, _, rfl, wy, _, _, _, rfl, rfl, SqT.of h2, atI_map V.ref hrr, ?_⟩
    refine q rr (intsV ws) H (Same.refl H) (.inl e6) (by rw [intsV_len]; exact hws.1) fun j x hx => ?_
    unfold ThV
    rw [if_pos rfl]
    rw [intsV, List.getElem?_map] at hx
    cases hj : ws[j]? with
    | none => rw [hj] at hx; cases hx
    | some z =>
      rw [hj] at hx
      cases hx
      refine ⟨z, ?_, rfl⟩
      show [(W.getD n []).getD j 0] = [z]
      have e7 : W.getD n [] = ws := by
        rw [List.getD_eq_getElem?_getD, e5]
        rfl
      rw [e7, List.getD_eq_getElem?_getD, hj]
      rfl
set_option maxHeartbeats 4000000 in
theorem ok_m (ho : base.get? f = some (PySem.W.fnMade "is_marked" q_m (defArgs s_m) (defBody s_m) (defScope s_m) clos doc pm c ctv)) (hcd : base.CodeRec (.ref c) q_m) (C : ClosAt base clos (defScope s_m) ["machine"] [.ref m]) (hMa : Mach L W B) :
    FnOk P w K mg base CX0 1 f (PySem.W.fnX "is_marked" q_m (defArgs s_m) (defBody s_m) (defScope s_m) clos .none .none doc pm none (.ref c) ctv) ["room"] (spMark true (mkW B) (uW W) fun H => MachAt H m L W B) := by
  refine fn_ofC (fvs := [.ref m]) ho rfl hcd sc_m C (fun vs H Q E h => ?_) (fun A outer s H vs Q E hr h => ?_)
  · obtain ⟨k, v, rfl, _⟩ := h
    rfl
  · obtain ⟨k, v, rfl, hv, hU, hM, q⟩ := h
    refine ⟨_, (pss_one (ps_ret (pe_ix ix_tup (pe_ix ix_tup (pv 1) pe_int (fun _ _ => rfl)) (pv 0) (fun _ _ => rfl)))), ?_⟩
    obtain ⟨n, rfl, hn⟩ := uW_one hU
    unfold ThV at hv
    rw [if_pos rfl] at hv
    obtain ⟨n', e, rfl⟩ := hv
    injection e with e
    subst e
    obtain ⟨wy, mk, rows, h1, h2, h3, h4, h5⟩ := hM
    have hB : B[n]? = some (B.getD n false) := by
      rw [List.getD_eq_getElem?_getD, List.getElem?_eq_getElem (by rw [hMa.bl]; exact hn)]
      rfl
    exact ⟨_, rfl, m, _, _, _, rfl, rfl, SqT.of h1, atI_nat (j := 2) rfl, _, rfl, mk, _, _, _, rfl, rfl, SqT.of h3, atI_map V.bl hB, q⟩
end
theorem sc_walked_machine : FnScope ["machine", "goals_of", "is_marked"] ["machine"] (defScope s_walked_machine) := ⟨rfl, rfl, rfl, by decide +kernel, rfl, by decide +kernel, by decide +kernel⟩
theorem bd_walked {K : PySem.W.Frag} {tD : Addr} {kV doc pm cdv ct ocD : Value} {an odD : Option Addr} {slD : Array (Option Value)} {nD : Nat} (lD : K.lookup tD = some ⟨ocD, odD, .seq #[.none] nD, slD⟩) : Binds K (PySem.W.fnOf "walked" "walked" (defArgs s_walked) (defBody s_walked) (defScope s_walked) (.ref tD) kV doc pm an cdv ct) ["letters", "start", "goals_of", "is_marked", "most"] [.none] := fun s us hK hl => by
  have hl4 : us.length = 4 := by simpa using hl
  obtain ⟨a, b, c, d, rfl⟩ : ∃ a b c d, us = [a, b, c, d] := match us, hl4 with | [a, b, c, d], _ => ⟨a, b, c, d, rfl⟩
  exact BindsTo.of_defaults rfl (hK _ _ lD) rfl rfl rfl
theorem clos_at {X : Cx} {U : List Addr} {σ : St} {H : Hp} {base' : Heap} {clos : List (Str × Addr)} {sc : Scope} {m : Addr} (Wd : WideAt X U σ H base') (sub : ∀ y a, clos.lookup y = some a → X.env.cells.lookup y = some a) (has : ∀ y ∈ sc.names, y.2 = .free → ∃ a, clos.lookup y.1 = some a) (hN : X.N[0]? = some (Str.ofString "machine")) (hσ : σ[0]? = some (some (.ref m))) (hc : X.env.scope.names.lookup (Str.ofString "machine") = some .cell) (hf : sc.names.lookup (Str.ofString "machine") = some .free) (hm : (("machine" : Str), NameKind.free) ∈ sc.names) :
    ClosAt base' clos sc ["machine"] [.ref m] := by
  refine ⟨fun y z c h1 h2 => Wd.inj y z c (sub y c h1) (sub z c h2), has, fun y c h => Wd.cell y c (sub y c h), rfl, fun i y v h1 h2 => ?_⟩
  match i, h1, h2 with
  | 0, h1, h2 =>
    cases h1
    cases h2
    obtain ⟨a, ha⟩ := has _ hm rfl
    obtain ⟨c, u, e1, e2, e3⟩ := Wd.val 0 "machine" (.ref m) hN hσ hc
    have e4 := sub _ _ ha
    rw [e1] at e4
    cases e4
    exact ⟨hf, _, u, ha, e2, e3⟩
  | i + 1, h1, _ => simp at h1
set_option maxHeartbeats 8000000 in
theorem ok_wmach {P : Program} {w : World} {K : PySem.W.Frag} {mg : Str → Option Value} {base : Heap} {cW fI f fw tD c P0 : Addr} {fdI : FuncData} {oc kV doc pm ct oc2 kV2 doc2 pm2 cdv2 ct2 ocD : Value} {od an od2 an2 odD : Option Addr} {osl osl2 slD : Array (Option Value)} {nD : Nat} (lk : K.lookup f = some ⟨oc, od, .func (PySem.W.fnOf "walked_machine" "walked_machine" (defArgs s_walked_machine) (defBody s_walked_machine) (defScope s_walked_machine) .none kV doc pm an (.ref c) ct), osl⟩) (hcd : PySem.W.codeIn K (.ref c) "walked_machine" = true)
    (lw : K.lookup fw = some ⟨oc2, od2, .func (PySem.W.fnOf "walked" "walked" (defArgs s_walked) (defBody s_walked) (defScope s_walked) (.ref tD) kV2 doc2 pm2 an2 cdv2 ct2), osl2⟩) (cw : PySem.W.codeIn K cdv2 "walked" = true) (kw : PySem.W.keepIn K (.ref fw) = true) (mw : mg "walked" = some (.ref fw)) (lD : K.lookup tD = some ⟨ocD, odD, .seq #[.none] nD, slD⟩)
    (WT : WkT K mg cW fI fdI) (tlen : mg "len" = none) (tzip : mg "zip" = none) (hC : PySem.W.CodeHd base c P0) (hB : BltAt base mg) :
    FnOk P w K mg base CX0 6 f (PySem.W.fnOf "walked_machine" "walked_machine" (defArgs s_walked_machine) (defBody s_walked_machine) (defScope s_walked_machine) .none kV doc pm an (.ref c) ct) ["machine"] (sp_wmach cW P0 sites) := by
  refine fn_code lk hcd sc_walked_machine (fun vs H Q E h => ?_) (fun A outer s H vs Q E hr h => ?_)
  · obtain ⟨m, L, W, B, rfl, _⟩ := h
    rfl
  · obtain ⟨m, L, W, B, rfl, hM, hMa, hT, q⟩ := h
    refine ⟨_, (pss_cons ((ps_nest (i := 1) (qual := q_g) (c := c) (P0 := P0) (sites := sites) sc_walked_machine.nd rfl (Or.inl rfl) rfl hC hB (by decide +kernel) (by decide +kernel))) (pss_cons ((ps_nest (i := 2) (qual := q_m) (c := c) (P0 := P0) (sites := sites) sc_walked_machine.nd rfl (Or.inl rfl) rfl hC hB (by decide +kernel) (by decide +kernel))) (pss_one (ps_ret (pe_wide (dvs := [.non]) rfl mw kw (bd_walked (kV := kV2) (doc := doc2) (pm := pm2) (an := an2) (cdv := cdv2) (ct := ct2) lD) (.cons rfl .nil) (pa_cons (pe_ix ix_tup (pv 0) pe_int (fun _ _ => rfl)) (pa_cons pe_int (pa_cons (pv 1) (pa_cons (pv 2) pa_nil)))) (fun _ => rfl)))))), ?_⟩
    refine ⟨hT, fun clos1 f1 c1 H1 sub1 has1 fr1 ne1 s1 hT1 hc1 hf1 => ⟨hT1, fun clos2 f2 c2 H2 sub2 has2 fr2 ne2 s2 hT2 hc2 hf2 => ?_⟩⟩
    have s12 : SameX P0 H H2 := sameX_trans s1 s2
    have hM2 : MachAt H2 m L W B := hM.tups (sameX_tup s12 hT)
    obtain ⟨ps1, hP1, _⟩ := id hT1
    obtain ⟨ps2, hP2, ht2, hall2⟩ := id hT2
    have nP : ∀ {b : Addr} {φ : Heap → Prop}, H1 b = some (.ext φ) → b ≠ P0 := fun {b φ} e z => by rw [z, hP1] at e; cases e
    have hf1' : H2 f1 = some (fnHO f1 "goals_of" q_g (defArgs s_g) (defBody s_g) (defScope s_g) clos1 c1) := s2 f1 _ (nP hf1) hf1
    have hc1' : H2 c1 = some (codeHO c1 q_g) := s2 c1 _ (nP hc1) hc1
    have hf2' : H2 f2 = some (fnHO f2 "is_marked" q_m (defArgs s_m) (defBody s_m) (defScope s_m) clos2 c2) := hf2
    have hM3 := hM2
    obtain ⟨wy, mk, rows, h1, h2, h3, h4, h5⟩ := hM2
    have hUx : ∀ u ∈ [f1, f2, c1, c2], ∃ φ, H2 u = some (.ext φ) := fun u hu => by
      simp only [List.mem_cons, List.not_mem_nil, or_false] at hu
      rcases hu with rfl | rfl | rfl | rfl
      · exact ⟨_, hf1'⟩
      · exact ⟨_, hf2'⟩
      · exact ⟨_, hc1'⟩
      · exact ⟨_, hc2⟩
    refine ⟨_, rfl, m, _, _, _, rfl, rfl, SqT.of h1, atI_nat (j := 0) rfl, _, rfl, _, rfl, [f1, f2, c1, c2], hUx, fun base' Wd => ?_⟩
    obtain ⟨doc1, pm1, ctv1, eb1⟩ := Wd.ext f1 _ (by simp) hf1'
    obtain ⟨doc3, pm3, ctv3, eb2⟩ := Wd.ext f2 _ (by simp) hf2'
    have cd1 : base'.CodeRec (.ref c1) q_g := Wd.ext c1 _ (by simp) hc1'
    have cd2 : base'.CodeRec (.ref c2) q_m := Wd.ext c2 _ (by simp) hc2
    have C1 := clos_at (sc := defScope s_g) (m := m) Wd sub1 has1 rfl rfl rfl rfl (by decide +kernel)
    have C2 := clos_at (sc := defScope s_m) (m := m) Wd sub2 has2 rfl rfl rfl rfl (by decide +kernel)
    have Fw : FunD K "walked" "walked" s_walked fw _ := ⟨⟨oc2, od2, .ref tD, kV2, doc2, pm2, an2, cdv2, ct2, osl2, rfl, lw, cw⟩, kw⟩
    refine ⟨5, sp_walked cW true L (gW W) (mkW B) (uW W) (fun H => MachAt H m L W B) f1 f2, hr, ok_walked Fw WT tlen tzip ((ok_g eb1 cd1 C1 hMa).mono (by decide)) ((ok_m eb2 cd2 C2 hMa).mono (by decide)) eb1 ⟨_, rfl⟩ eb2 ⟨_, rfl⟩ (.all fun us hl => match us, hl with | [_], _ => rfl) (.all fun us hl => match us, hl with | [_], _ => rfl) (fun _ _ s h => h.same s), ?_⟩
    have keepT : ∀ {b : Addr} {o : HO}, H2 b = some o → (∀ φ, o ≠ .ext φ) → b ∉ [f1, f2, c1, c2] := fun {b o} e ho hb => by
      obtain ⟨φ, e2⟩ := hUx b hb
      rw [e] at e2
      exact ho φ (Option.some.inj e2)
    have n60 := hMa.n60
    refine ⟨[0], .int 0, none, rfl, hMa.lt, ?_, uW_mem.mpr hMa.n1, uW_go hMa, by rw [uW_len]; omega, hM3.tups fun b xs e => by rw [untr_out (keepT e (fun _ z => nomatch z))]; exact e, fun wk t wd y md ks vks ws rows' R Bm H3 sm3 hW ht hth hwd hy hwr hmd bf ways bl mks sub le he hU3 => ?_⟩
    · unfold ThV
      rw [if_pos rfl]
      exact ⟨0, rfl, rfl⟩
    have hR : R.length = ks.length := by
      rcases he with z | ⟨n, z, _⟩
      · exact z
      · cases z
    have out : ∀ {b : Addr} {o : HO}, H3 b = some o → retr [f1, f2, c1, c2] H2 H3 b = some o := fun {b o} e => by
      rw [retr_out fun hb => ?_]
      · exact e
      · rw [hU3 b hb] at e
        cases e
    have fwd : ∀ {b : Addr} {o : HO}, H2 b = some o → retr [f1, f2, c1, c2] H2 H3 b = some o := fun {b o} e => by
      by_cases hb : b ∈ [f1, f2, c1, c2]
      · rw [retr_in hb]
        exact e
      · exact out (sm3 b o (by rw [untr_out hb]; exact e))
    rw [hR] at bf
    obtain ⟨dx, ew⟩ := hW.ex
    exact q wk t wd y md ks vks ws rows' R Bm _ (fun b o hb e => fwd (s12 b o hb e)) ⟨ps2, fwd hP2, ht2, fun x hx => (hall2 x hx).imp id fun ⟨c', e1, e2⟩ => ⟨c', e1, fwd e2⟩⟩ ⟨dx, out ew⟩ (out ht) (hth.same fun b xs e => out e) (out hwd) (out hy) ⟨hwr.1, fun i a r e1 e2 => out (hwr.2 i a r e1 e2)⟩ (out hmd) bf ways hR bl mks sub (by rw [uW_len] at le; exact le)
end K12

namespace K12
open PySem L2 RA
abbrev s_numbered : Stmt := top 2
abbrev s_many_lots : Stmt := top 3
abbrev s_rounds_of : Stmt := top 1
abbrev s_first_rooms : Stmt := top 4
abbrev s_folded : Stmt := top 5
abbrev s_least : Stmt := top 11
abbrev s__law_cell_at : Stmt := top 13
abbrev s__law_letters : Stmt := top 14
abbrev s__law_machine : Stmt := top 15
abbrev s__law_long : Stmt := top 16
abbrev s__law_twins : Stmt := top 17
abbrev s__law_some : Stmt := top 18
abbrev s__law_is_machine : Stmt := top 19
abbrev s__law_alike : Stmt := top 20
abbrev s_law : Stmt := top 21
structure Txt (K : PySem.W.Frag) (mg : Str → Option Value) : Prop where
  len : mg "len" = none
  range : mg "range" = none
  isinst : mg "isinstance" = none
  int : mg "int" = none
  bool : mg "bool" = none
  tuple : mg "tuple" = none
  list : mg "list" = none
  str : mg "str" = none
  zip : mg "zip" = none
  max : mg "max" = none
  enumerate : mg "enumerate" = none
  all : mg "all" = none
def sp_numbered : Sp := fun vs H Q _ => ∃ (a : Addr) (o : HO) (xs : List V) (ks : List KS) (nest : Bool), vs = [.ref a] ∧ (o = .lst xs ∨ o = .tup xs) ∧ H a = some o ∧ xs.length = ks.length ∧ ks.length ≤ 1000 ∧ (∀ (i : Nat) (k : KS) (x : V), ks[i]? = some k → xs[i]? = some x → KeyV H k x ∧ isN k = nest) ∧ ∀ p H', Same H H' → H' p = some (.lst (intsV (numF ks))) → Q (.ref p) H'
def sp_manyM : Sp := fun vs H Q _ => ∃ (a : Addr) (ns : List Nat), vs = [.ref a] ∧ H a = some (.lst (intsV ns)) ∧ 0 < ns.length ∧ ∀ M ∈ ns, (∀ x ∈ ns, x ≤ M) → Q (.int ((M : Int) + 1)) H
def sp_roundsQ : Sp := fun vs H Q _ => ∃ (wy mk : Addr) (rows : List Addr) (o om : HO) (L : List Nat) (W : List (List Nat)) (B : List Bool), vs = [.ref wy, .ref mk, .int ((W.length : Nat) : Int)] ∧ (o = .lst (rows.map V.ref) ∨ o = .tup (rows.map V.ref)) ∧ H wy = some o ∧ (om = .lst (B.map V.bl) ∨ om = .tup (B.map V.bl)) ∧ H mk = some om ∧ rows.length = W.length ∧ RowsQ H rows W ∧ Mach L W B ∧
  ∀ (p : Addr) (lots : List Addr) (k : Nat) (H' : Hp), Same H H' → H' p = some (.lst (lots.map V.ref)) → lots.length = k + 1 → LotsAt H' lots W B → Rd W B (k + 1) = Rd W B k → k ≤ 3600 → Q (.ref p) H'
def sp_firstrooms : Sp := fun vs H Q _ => ∃ (a : Addr) (ns : List Nat), vs = [.ref a] ∧ H a = some (.lst (intsV ns)) ∧ 0 < ns.length ∧ ns.length ≤ 60 ∧ (∀ x ∈ ns, x < 60) ∧ (∀ (M j : Nat), M ∈ ns → j ≤ M → j ∈ ns) ∧
  ∀ (m : Nat) (p : Addr) (H' : Hp), Many ns m → Same H H' → H p = none → H' p = some (.lst (intsV ((List.range m).map fun j => ns.idxOf j))) → Q (.ref p) H'
structure WkK (K : PySem.W.Frag) (cW : Addr) : Prop where
  cls : Cls K cW
  na1 : NoAttr K cW "letters"
  na4 : NoAttr K cW "ways"
  na5 : NoAttr K cW "marks"
def sp_folded (cW : Addr) : Sp := fun vs H Q _ => ∃ (wk t wd y md lo : Addr) (rows : List Addr) (L : List Nat) (R : List (List Nat)) (Bm : List Bool) (k : Nat), vs = [.ref wk, .ref lo] ∧ WalkAt H cW wk L t wd y md ∧ H y = some (.lst (rows.map V.ref)) ∧ WRows H rows R ∧ H md = some (.lst (Bm.map V.bl)) ∧ Mach L R Bm ∧ H lo = some (.lst (intsV (Rd R Bm k))) ∧
  ∀ (m : Nat) (f : Addr) (H' : Hp), Many (Rd R Bm k) m → Same H H' → H f = none → MachAt H' f L (foldW R (Rd R Bm k) m) (foldB Bm (Rd R Bm k) m) → Q (.ref f) H'
def sp_least (P0 : Addr) (sites : List (Pos × Str)) : Sp := fun vs H Q _ => ∃ (m : Addr) (L : List Nat) (W : List (List Nat)) (B : List Bool), vs = [.ref m] ∧ MachAt H m L W B ∧ Mach L W B ∧ TabSt H P0 sites ∧
  ∀ (f : Addr) (W' : List (List Nat)) (B' : List Bool) (H' : Hp), SameX P0 H H' → TabSt H' P0 sites → MachAt H' f L W' B' → LeastOf L W B W' B' → Q (.ref f) H'
def sp_cell (K : PySem.W.Frag) : Sp := fun vs H Q _ => ∃ (a : Addr) (ns : List Int) (k : Int), vs = [.ref a, .int k] ∧ SqL K H a (ns.map V.int) ∧ 0 ≤ k ∧ ∀ z, Q (.int z) H
def sp_letters : Sp := fun vs H Q _ => ∃ (c : Int), vs = [.int c] ∧ ∀ L, Let L → Q (.str (tx L)) H
def sp_machine (K : PySem.W.Frag) : Sp := fun vs H Q _ => ∃ (a : Addr) (ns : List Int) (p : Int) (n : Nat) (L : List Nat), vs = [.ref a, .int p, .int (n : Int), .str (tx L)] ∧ SqL K H a (ns.map V.int) ∧ 0 ≤ p ∧ 1 ≤ n ∧ n ≤ 60 ∧ Let L ∧
  ∀ (m : Addr) (W : List (List Nat)) (B : List Bool) (H' : Hp), Same H H' → MachAt H' m L W B → Mach L W B → W.length = n → Q (.ref m) H'
def sp_long : Sp := fun vs H Q _ => ∃ (m : Addr) (L : List Nat) (W : List (List Nat)) (B : List Bool) (c : Int), vs = [.ref m, .int c] ∧ MachAt H m L W B ∧ Mach L W B ∧ ∀ (m' : Addr) (W' : List (List Nat)) (B' : List Bool) (H' : Hp), Same H H' → MachAt H' m' L W' B' → Mach L W' B' → W'.length = W.length → Q (.ref m') H'
def sp_twins : Sp := fun vs H Q _ => ∃ (m : Addr) (L : List Nat) (W : List (List Nat)) (B : List Bool) (c : Int), vs = [.ref m, .int c] ∧ MachAt H m L W B ∧ Mach L W B ∧ ∀ (m' : Addr) (W' : List (List Nat)) (B' : List Bool) (H' : Hp), Same H H' → MachAt H' m' L W' B' → Mach L W' B' → W'.length = W.length → Q (.ref m') H'
def sp_some (K : PySem.W.Frag) : Sp := fun vs H Q _ => ∃ (a : Addr) (ns : List Int) (n : Nat) (L : List Nat), vs = [.ref a, .int (n : Int), .str (tx L)] ∧ SqL K H a (ns.map V.int) ∧ 1 ≤ n ∧ n ≤ 60 ∧ Let L ∧ ∀ (m : Addr) (W : List (List Nat)) (B : List Bool) (H' : Hp), Same H H' → MachAt H' m L W B → Mach L W B → W.length = n → Q (.ref m) H'
def sp_ismach : Sp := fun vs H Q _ => ∃ (m : Addr) (L : List Nat) (W : List (List Nat)) (B : List Bool), vs = [.ref m, .str (tx L)] ∧ MachAt H m L W B ∧ Mach L W B ∧ ∀ H', Same H H' → Q (.bl true) H'
def sp_alike2 : Sp := fun vs H Q _ => ∃ (m m2 : Addr) (L : List Nat) (W : List (List Nat)) (B : List Bool) (W2 : List (List Nat)) (B2 : List Bool) (l r : Nat), vs = [.ref m, .int (l : Int), .ref m2, .int (r : Int)] ∧ MachAt H m L W B ∧ Mach L W B ∧ MachAt H m2 L W2 B2 ∧ Mach L W2 B2 ∧ l < W.length ∧ r < W2.length ∧
  ∀ b H', Same H H' → (b = true ↔ ∀ u : List Nat, (∀ c ∈ u, c ∈ L) → B.getD (run L W l u) false = B2.getD (run L W2 r u) false) → Q (.bl b) H'
section
variable {P : Program} {w : World} {K : PySem.W.Frag} {mg : Str → Option Value} {base : Heap} {P0 cT cW : Addr}
theorem sc_numbered : FnScope ["values", "numbers", "value"] ["values"] (defScope s_numbered) := ⟨rfl, rfl, rfl, by decide +kernel, rfl, by decide +kernel, by decide +kernel⟩
set_option maxHeartbeats 4000000 in
theorem ok_numbered {f : Addr} {fd : FuncData} (F : Fun K "numbered" "numbered" s_numbered f fd) (T : Txt K mg) : FnOk P w K mg base CX0 1 f fd ["values"] sp_numbered := by
  refine F.ok sc_numbered (fun vs H Q E h => ?_) (fun cdv A outer s H vs Q E hr h => ?_)
  · obtain ⟨a, o, xs, ks, nest, rfl, _⟩ := h
    rfl
  · obtain ⟨a, o, xs, ks, nest, rfl, ho, hH, hl, h1000, hk, q⟩ := h
    refine ⟨_, (pss_cons ((ps_set (i := 1) sc_numbered.nd rfl (Or.inr rfl) (pe_dnew))) (pss_cons ((ps_for PassesOwn.never rfl (pi_sq (pv 0)) (pg_name (i := 2) sc_numbered.nd rfl (Or.inl rfl)) ((pss_one ((ps_if (pt_cmpR (op_notinD hr.units) (pv 2) (pv 1) (by with_unfolding_all rfl)) ((pss_one (ps_asg (pe_callB call_lenD (by rfl) T.len PySem.boot_len (pa_cons (pv 1) pa_nil)) (pg_sub (pv 1) (pv 2) (set_dictG hr.units))))) (pss_nil))))))) (pss_one (ps_ret (pe_compS ["values", "numbers", "?"] rfl (by decide) (pi_sq (pv 0)) (fun cl C fp s' H' => ⟨pts_nil, pe_ix (ix_dictGK P w hr.units) (pv 2) (pv 0) (fun _ _ => rfl)⟩)))))), ?_⟩
    have hz : xs.length ≤ sizeLine := line_ge (by rw [hl]; exact Nat.le_trans h1000 (by decide))
    have keyOf : ∀ {i : Nat} {x : V}, xs[i]? = some x → ∃ k, ks[i]? = some k ∧ KeyV H k x ∧ isN k = nest := fun {i x} hx => by
      have hi : i < ks.length := by rw [← hl]; exact (List.getElem?_eq_some_iff.mp hx).1
      exact ⟨ks[i], List.getElem?_eq_getElem hi, hk i _ x (List.getElem?_eq_getElem hi) hx⟩
    refine ⟨if nest = true then .nest else .bl, fun d hd => ?_⟩
    refine ⟨_, rfl, a, o, xs, rfl, ho, upd_keep hH hd, fun J ov => for_over ov (fun i σ' H' => ∃ v0 ob, σ' = [some (.ref a), some (.ref d), v0] ∧ H' = L2.upd H d ob ∧ NumAt P w H' d nest (ks.take i)) ⟨none, _, rfl, rfl, NumAt.new P w H d nest⟩ ?_ ?_ ?_⟩
    · rintro i σ' H' ⟨v0, ob, rfl, rfl, _⟩
      exact upd_keep hH hd
    · rintro i x σ' H' hx ⟨v0, ob, rfl, rfl, hn⟩
      obtain ⟨k, hki, hkv, hkn⟩ := keyOf hx
      have hkv' : KeyV (L2.upd H d ob) k x := hkv.stay fun b ys z => upd_keep z hd
      refine ⟨_, rfl, _, rfl, d, _, rfl, hn.get hkv' hkn, _, rfl, ?_⟩
      by_cases hm : k ∈ dis (ks.take i)
      · rw [show (!(numO (ks.take i) k).isSome) = false by rw [numO, if_pos hm]; rfl]
        refine iteF ⟨_, _, rfl, rfl, ?_⟩
        rw [take_snoc hki]
        exact hn.same hm
      · rw [show (!(numO (ks.take i) k).isSome) = true by rw [numO, if_neg hm]; rfl]
        have hdl : (dis (ks.take i)).length < sizeLine := by
          have h1 := dis_len (ks.take i)
          have h2 : (ks.take i).length ≤ 1000 := by rw [List.length_take]; exact Nat.le_trans (Nat.min_le_right _ _) h1000
          exact small1000 (Nat.le_trans h1 h2)
        obtain ⟨ob2, hput, hn2⟩ := hn.put hkv' hkn hm hdl
        refine iteT ⟨_, rfl, d, _, rfl, hn.len, _, rfl, _, rfl, d, _, rfl, hput, ?_⟩
        refine ⟨some x, ob2, rfl, upd_upd, ?_⟩
        rw [take_snoc hki]
        exact hn2
    · rintro σ' H' ⟨v0, ob, rfl, rfl, hn⟩
      rw [hl, List.take_length] at hn
      have hH1 : L2.upd H d ob a = some o := upd_keep hH hd
      have sm1 : Same H (L2.upd H d ob) := Same.upd hd
      refine ⟨_, rfl, a, o, xs, rfl, ho, hH1, fun J ov => comp_over ov hH1 (fun D j ys H' => ys = (intsV (numF ks)).take j) hz (fun D hD => by simp) ?_ ?_⟩
      · intro D j x ys H' R1 R2 hD hx hsm hDl hp k1 k2
        obtain ⟨k, hki, hkv, hkn⟩ := keyOf hx
        have hm : k ∈ dis ks := mem_dis.mpr (List.mem_of_getElem? hki)
        have hg := (hn.mono hsm).get (hkv.stay fun b ys z => (sm1.trans hsm) _ _ z) hkn
        rw [show numO ks k = some _ from if_pos hm] at hg
        refine tAlways_if ⟨_, rfl, _, rfl, d, _, rfl, hg, k1 _ H' hDl (Same.set hsm hD) ?_⟩
        rw [hp]
        refine (take_snoc ?_).symm
        rw [intsV, numF, List.map_map, List.getElem?_map, hki]
        rfl
      · intro D ys H' hD hsm hDl hp
        refine q D H' (sm1.trans hsm) ?_
        rw [hDl, hp, hl, List.take_of_length_le (by rw [intsV_len, numF_len]; exact Nat.le_refl _)]
theorem sc_many_lots : FnScope ["lots"] ["lots"] (defScope s_many_lots) := ⟨rfl, rfl, rfl, by decide +kernel, rfl, by decide +kernel, by decide +kernel⟩
set_option maxHeartbeats 4000000 in
theorem ok_many_lots {f : Addr} {fd : FuncData} (F : Fun K "many_lots" "many_lots" s_many_lots f fd) (T : Txt K mg) : FnOk P w K mg base CX0 1 f fd ["lots"] sp_manyM := by
  refine F.ok sc_many_lots (fun vs H Q E h => ?_) (fun cdv A outer s H vs Q E hr h => ?_)
  · obtain ⟨a, ns, rfl, _⟩ := h
    rfl
  · obtain ⟨a, ns, rfl, hH, hn, q⟩ := h
    refine ⟨_, (pss_one (ps_ret (pe_op op_a (pe_callB (call_maxM rfl) (by rfl) T.max PyProof.Rows.boot_max (pa_cons (pv 0) pa_nil)) pe_int))), ?_⟩
    refine ⟨_, rfl, a, zs ns, rfl, by rw [hH, intsV_zs], by rw [zs_len]; exact hn, fun M hM hmx => ⟨_, _, rfl, rfl, ?_⟩⟩
    obtain ⟨m, hm, rfl⟩ := List.mem_map.mp hM
    exact q m hm fun x hx => Int.ofNat_le.mp (hmx _ (List.mem_map.mpr ⟨x, hx, rfl⟩))
theorem sc_rounds_of : FnScope ["ways", "marks", "most", "rounds", "lots", "finer"] ["ways", "marks", "most"] (defScope s_rounds_of) := ⟨rfl, rfl, rfl, by decide +kernel, rfl, by decide +kernel, by decide +kernel⟩
set_option maxHeartbeats 4000000 in
theorem ok_rounds_of {f : Addr} {fd : FuncData} (F : Fun K "rounds_of" "rounds_of" s_rounds_of f fd) (T : Txt K mg) (d_numbered : Df P w K mg base "numbered" 1 ["values"] sp_numbered) (d_many_lots : Df P w K mg base "many_lots" 1 ["lots"] sp_manyM) : FnOk P w K mg base CX0 2 f fd ["ways", "marks", "most"] sp_roundsQ := by
  refine F.ok sc_rounds_of (fun vs H Q E h => ?_) (fun cdv A outer s H vs Q E hr h => ?_)
  · obtain ⟨wy, mk, rows, o, om, L, W, B, rfl, _⟩ := h
    rfl
  · obtain ⟨wy, mk, rows, o, om, L, W, B, rfl, ho, hwy, hom, hmk, hrl, hrows, hMa, q⟩ := h
    refine ⟨_, (pss_cons ((ps_set (i := 3) sc_rounds_of.nd rfl (Or.inl rfl) (pe_lst (pa_cons (pe_df d_numbered hr (pa_cons (pv 1) pa_nil)) pa_nil)))) (pss_cons (ps_while PassesOwn.never (pt_cmpR op_le (pe_df d_many_lots hr (pa_cons (pe_ix ix_list (pv 3) (pe_un un_neg pe_int) (fun _ _ => rfl)) pa_nil)) (pv 2) (nomark _)) (pss_cons ((ps_set (i := 4) sc_rounds_of.nd rfl (Or.inr rfl) (pe_ix ix_list (pv 3) (pe_un un_neg pe_int) (fun _ _ => rfl)))) (pss_cons ((ps_set (i := 5) sc_rounds_of.nd rfl (Or.inl rfl) ((pe_df d_numbered hr (pa_cons (pe_comp2 ["ways", "marks", "most", "rounds", "lots", "finer"] rfl (by decide) (pi_enumQ rfl T.enumerate (pa_cons (pv 0) pa_nil)) (fun cl C fp s' H' => pe_tup (pa_cons (pe_ix (ix_listK K) (pv 6) (pv 0) (fun _ _ => rfl)) (pa_cons (pe_callTy (call_tupleK K) (by rfl) T.tuple PyProof.Rows.boot_tuple (pa_cons (pe_compS ["room", "row", "ways", "marks", "most", "rounds", "lots", "finer"] rfl (show List.Nodup (["goal", "room", "row", "ways", "marks", "most", "rounds", "lots", "finer"] : List Str) by decide) (pi_sq (pv 1)) (fun cl C fp s' H' => ⟨pts_nil, pe_ix (ix_listK K) (pv 7) (pv 0) (fun _ _ => rfl)⟩)) pa_nil)) pa_nil)))) pa_nil))))) (pss_cons ((ps_if (pt_cmpR (op_eqI hr.units0) (pv 5) (pv 4) (nomark _)) ((pss_one (ps_break))) (pss_nil))) (pss_one (ps_expr (pe_bm PySem.F.plainAttrs_list PySem.F.slot_list_append PySem.F.type_list_append mt_append (pv 3) (pa_cons (pv 5) pa_nil)))))))) (pss_one (ps_ret (pv 3))))), ?_⟩
    have hn60 := hMa.n60
    have hn1 := hMa.n1
    refine ⟨_, rfl, mk, _, B.map V.bl, B.map (fun b => (KS.inl b : KS)), false, rfl, hom, hmk, by rw [List.length_map, List.length_map], by rw [List.length_map, hMa.bl]; exact Nat.le_trans hn60 (by decide), ?_, fun p0 H1 s1 hp0 => ⟨line_ge (by show 1 ≤ 16777216; decide), fun p hp => ?_⟩⟩
    · intro i k x hk hx
      rw [List.getElem?_map] at hk hx
      cases hb : B[i]? with
      | none => rw [hb] at hk; cases hk
      | some b => rw [hb] at hk hx; cases hk; cases hx; exact ⟨rfl, rfl⟩
    rw [numF_inl] at hp0
    have hpH : H p = none := same_none s1 hp
    refine ⟨RInv H wy mk p W B, ⟨_, 0, [p0], none, none, rfl, rfl, s1.trans (Same.upd hp), upd_same, rfl, ?_, fun i hi => absurd hi (Nat.not_lt_zero _)⟩, ?_⟩
    · intro i r e
      match i, e with
      | 0, e => cases e; exact upd_keep hp0 hp
      | n + 1, e => simp at e
    rintro m σ' H' ⟨k, lots, s4, s5, rfl, rfl, sm, hpl, hll, hlots, hne⟩
    have hk := few_rounds hMa hne
    obtain ⟨la, hla⟩ : ∃ la, lots[k]? = some la := ⟨lots[k]'(by rw [hll]; exact Nat.lt_succ_self k), List.getElem?_eq_getElem _⟩
    have hla1 := hlots k la hla
    have hat := atI_lastG hll hla
    have hlen := Rd_len hMa k
    refine ⟨_, rfl, _, rfl, p, _, _, _, rfl, rfl, SqL.of hpl, hat, la, Rd W B k, rfl, hla1, by rw [hlen]; exact hn1, fun M hM _ => ⟨_, rfl, _, _, rfl, rfl, _, rfl, ?_⟩⟩
    have hM2 := Rd_lt hMa hM
    refine iteD (show ((M : Int) + 1) ≤ ((W.length : Nat) : Int) from Int.ofNat_le.mpr hM2) ?_
    refine ⟨fun σ2 H2 => Rd W B (k + 1) ≠ Rd W B k ∧ RInv H wy mk p W B (twins W.length (Rd W B (k + 1))) σ2 H2, fun σ2 H2 h => ⟨_, twins_lt hMa h.1, h.2⟩, ?_⟩
    refine ⟨_, rfl, _, rfl, p, _, _, _, rfl, rfl, SqL.of hpl, hat, ?_⟩
    dsimp only [gName]
    dsimp only [tNext, tSeq, tAsg, tCall, tCons, tBM, tCB]
    refine comp2_enumQ (c := wy) (fun R h => ⟨_, rfl, h⟩) ho (sm _ _ hwy) (fun D i ys H2 => ∃ ps : List Addr, ys = ps.map V.ref ∧ ps.length = i ∧ ∀ (j : Nat) (t : Addr), ps[j]? = some t → NIn H2 (keyAt W (Rd W B k) j) t) (by rw [List.length_map, hrl]; exact line_ge (Nat.le_trans hn60 (by decide))) (fun D hD => ⟨[], rfl, rfl, fun j t e => by simp at e⟩) ?_ ?_
    · intro D i x ys H2 H3 R1 hD hx hsm hDl hp hsm3 k1
      obtain ⟨ps, rfl, hpsl, hps⟩ := hp
      rw [List.getElem?_map] at hx
      obtain ⟨rr, hrr, rfl⟩ := Option.map_eq_some_iff.mp hx
      have hi : i < W.length := by rw [← hrl]; exact (List.getElem?_eq_some_iff.mp hrr).1
      obtain ⟨ws, hws, orw, horw, hrow⟩ := hrows i rr hrr
      have s3 : Same H H3 := (sm.trans hsm).trans hsm3
      have hrow3 := s3 _ _ hrow
      have hla3 : H3 la = some (.lst (intsV (Rd W B k))) := hsm3 _ _ (hsm _ _ hla1)
      have ew : W.getD i [] = ws := by rw [List.getD_eq_getElem?_getD, hws]; rfl
      obtain ⟨hwl, hwb⟩ := hMa.row ws (List.mem_of_getElem? hws)
      have hL3 := hMa.lt.hi
      refine ⟨_, rfl, _, rfl, la, _, _, _, rfl, rfl, SqL.of hla3, atI_ints (by rw [hlen]; exact hi), ?_⟩
      dsimp only [tNext, tSeq, tAsg, tCall, tCons, tBM, tCB]
      refine comp_sq (a := rr) (fun R h => ⟨_, rfl, h⟩) horw hrow3 (fun D2 j zs2 H4 => zs2 = (intsV (ws.map fun g => (Rd W B k).getD g 0)).take j) (by rw [intsV_len, hwl]; exact line_ge (Nat.le_trans hL3 (by decide))) (fun D2 hD2 => by simp) ?_ ?_
      · intro D2 j y zs2 H4 R3 R4 hD2 hy hsm4 hD2l hp2 k3 k4
        have hj : j < ws.length := by have := (List.getElem?_eq_some_iff.mp hy).1; rwa [intsV_len] at this
        rw [intsV_get hj] at hy
        cases hy
        refine tAlways_if ⟨_, rfl, _, rfl, la, _, _, _, rfl, rfl, SqL.of (hsm4 _ _ hla3), atI_ints (by rw [hlen]; exact hwb _ (getD_in hj)), k3 _ H4 hD2l (Same.set hsm4 hD2) ?_⟩
        rw [hp2]
        refine (take_snoc ?_).symm
        rw [intsV_get (by rw [List.length_map]; exact hj), map_getD hj]
      · intro D2 zs2 H4 hD2 hsm4 hD2l hp2
        rw [intsV_len, List.take_of_length_le (by rw [intsV_len, List.length_map]; exact Nat.le_refl _)] at hp2
        subst hp2
        refine ⟨D2, _, rfl, .inl ⟨SqL.of hD2l, fun b hb => ⟨line_ge (by show 2 ≤ 16777216; decide), fun t ht => ?_⟩⟩⟩
        have s5 := hsm4.trans ((Same.upd (o := .tup (intsV (ws.map fun g => (Rd W B k).getD g 0))) hb).trans (Same.upd (o := .tup [.int (((Rd W B k).getD i 0 : Nat) : Int), .ref b]) ht))
        have hD5 := s5 _ _ (hsm3 _ _ hDl)
        refine k1 (.ref t) _ hD5 (Same.set (hsm.trans (hsm3.trans s5)) hD) ⟨ps ++ [t], by rw [List.map_append]; rfl, by rw [List.length_append, hpsl]; rfl, fun j u e => ?_⟩
        by_cases hj : j < ps.length
        · rw [List.getElem?_append_left hj] at e
          exact nin_stay (fun c cs z => upd_keep2 ((hsm3.trans s5) _ _ z) hD5 (by intro z; cases z)) (hps j u e)
        · rw [List.getElem?_append_right (Nat.le_of_not_lt hj)] at e
          have hj0 : j = i := (ar_at hj (List.getElem?_eq_some_iff.mp e).1).trans hpsl
          subst hj0
          rw [hpsl, Nat.sub_self] at e
          have et : t = u := by simpa using e
          subst et
          have ek : (zs (keyAt W (Rd W B k) j).2).map V.int = intsV (ws.map fun g => (Rd W B k).getD g 0) := by
            rw [← intsV_zs]
            show intsV ((W.getD j []).map _) = _
            rw [ew]
          refine ⟨b, upd_keep2 upd_same hD5 (by intro z; cases z), ?_⟩
          rw [ek]
          exact upd_keep2 (upd_keep upd_same ht) hD5 (by intro z; cases z)
    intro D ys H2 hD hsm hDl hp
    obtain ⟨ps, rfl, hpsl, hps⟩ := hp
    refine ⟨D, _, ps.map V.ref, (keysOf W (Rd W B k)).map (fun x => (KS.inr x : KS)), true, rfl, .inl rfl, hDl, by rw [List.length_map, List.length_map, keysOf_len, hpsl, List.length_map, hrl], by rw [List.length_map, keysOf_len]; exact Nat.le_trans hn60 (by decide), ?_, fun fa H4 s4' hfa => ?_⟩
    · intro i kk x hk hx
      rw [List.getElem?_map] at hk hx
      obtain ⟨nk, e1, rfl⟩ := Option.map_eq_some_iff.mp hk
      obtain ⟨t, e2, rfl⟩ := Option.map_eq_some_iff.mp hx
      have hi : i < W.length := by have := (List.getElem?_eq_some_iff.mp e1).1; rwa [keysOf_len] at this
      rw [keysOf_get hi] at e1
      cases e1
      exact ⟨⟨t, rfl, hps i t e2⟩, rfl⟩
    rw [numF_inr] at hfa
    have hfa' : H4 fa = some (.lst (intsV (Rd W B (k + 1)))) := hfa
    have sm4 : Same H H4 := sm.trans (hsm.trans s4')
    have la4 := (hsm.trans s4') _ _ hla1
    have p4 := (hsm.trans s4') _ _ hpl
    have lots4 := hlots.same (hsm.trans s4')
    refine ⟨_, rfl, _, rfl, fa, la, zs (Rd W B (k + 1)), zs (Rd W B k), rfl, rfl, by rw [hfa', intsV_zs], by rw [la4, intsV_zs], by rw [zs_len, zs_len, Rd_len hMa, Rd_len hMa], _, rfl, ite3 (fun he => ?_) (fun he => ?_)⟩
    · exact ⟨_, rfl, q p lots k H4 sm4 p4 hll lots4 (zs_inj he) hk⟩
    have he' : Rd W B (k + 1) ≠ Rd W B k := fun z => he (by rw [z])
    have hl0 : lots ≠ [] := by
      intro z
      rw [z] at hll
      simp at hll
    refine ⟨_, rfl, .inl ⟨rfl, _, SqL.of p4⟩, _, rfl, p, _, _, rfl, rfl, p4, ?_, he', k + 1, lots ++ [fa], _, _, rfl, rfl, Same.set sm4 hpH, ?_, ?_, ?_, ?_⟩
    · rw [List.length_map, hll]
      exact ar_k hk
    · rw [upd_same, List.map_append]
      rfl
    · rw [List.length_append, hll]
      rfl
    · intro i r e
      by_cases hi : i < lots.length
      · rw [List.getElem?_append_left hi] at e
        have h1 := lots4 i r e
        rw [upd_ne (lots_ne h1 p4 hl0)]
        exact h1
      · rw [List.getElem?_append_right (Nat.le_of_not_lt hi)] at e
        have hi0 : i = k + 1 := (ar_at hi (List.getElem?_eq_some_iff.mp e).1).trans hll
        subst hi0
        rw [hll, Nat.sub_self] at e
        have et : fa = r := by simpa using e
        subst et
        rw [upd_ne (lots_ne hfa' p4 hl0)]
        exact hfa'
    · intro i hi
      by_cases h : i = k
      · subst h
        exact he'
      · exact hne i (ar_lt hi h)
theorem sc_first_rooms : FnScope ["lots"] ["lots"] (defScope s_first_rooms) := ⟨rfl, rfl, rfl, by decide +kernel, rfl, by decide +kernel, by decide +kernel⟩
set_option maxHeartbeats 4000000 in
theorem ok_first_rooms {f : Addr} {fd : FuncData} (F : Fun K "first_rooms" "first_rooms" s_first_rooms f fd) (T : Txt K mg) (d_many_lots : Df P w K mg base "many_lots" 1 ["lots"] sp_manyM) : FnOk P w K mg base CX0 2 f fd ["lots"] sp_firstrooms := by
  refine F.ok sc_first_rooms (fun vs H Q E h => ?_) (fun cdv A outer s H vs Q E hr h => ?_)
  · obtain ⟨a, ns, rfl, _⟩ := h
    rfl
  · obtain ⟨a, ns, rfl, hH, hn, h60, hx60, hdn, q⟩ := h
    refine ⟨_, (pss_one (ps_ret (pe_compS ["lots"] rfl (by decide) (pi_range1 rfl T.range (pa_cons (pe_df d_many_lots hr (pa_cons (pv 0) pa_nil)) pa_nil)) (fun cl C fp s' H' => ⟨pts_nil, pe_indexI K (pv 1) (pa_cons (pv 0) pa_nil)⟩)))), ?_⟩
    obtain ⟨M, hM, hmx⟩ := max_of hn
    have hM60 := hx60 M hM
    dsimp only [tRet, gName, tNext, tSeq, tAsg, tCall, tCons, tBM, tCB]
    refine comp_rngG (n := M + 1) (fun R h => ⟨_, rfl, a, ns, rfl, hH, hn, fun M2 hM2 hmx2 => ?_⟩) (by omega) (fun D j ys H' => ys = intsV ((List.range j).map fun j => ns.idxOf j)) (fun D hD => rfl) ?_ ?_
    · have e : M2 = M := Nat.le_antisymm (hmx M2 hM2) (hmx2 M hM)
      rw [e]
      exact h
    · intro D j ys H' R1 R2 hD hj hsm hDl hp k1 k2
      refine tAlways_if ⟨_, rfl, .inl ⟨rfl, _, SqL.of (hsm _ _ hH)⟩, _, rfl, a, zs ns, (0 + (j : Int)), rfl, rfl, by rw [← intsV_zs]; exact hsm _ _ hH, ?_, ?_⟩
      · rw [Int.zero_add]
        exact List.mem_map.mpr ⟨j, hdn M j hM (Nat.le_of_lt_succ hj), rfl⟩
      · rw [Int.zero_add, zs_idx]
        refine k1 _ H' hDl (Same.set hsm hD) ?_
        rw [hp, List.range_succ, List.map_append]
        exact (ints_snocW _ _).symm
    · intro D ys H' hD hsm hDl hp
      subst hp
      exact q (M + 1) D H' ⟨Nat.succ_pos M, fun x hx => Nat.lt_succ_of_le (hmx x hx), fun j hj => hdn M j hM (Nat.le_of_lt_succ hj)⟩ hsm hD hDl
theorem sc_folded : FnScope ["walk", "lots", "rooms", "ways", "marks"] ["walk", "lots"] (defScope s_folded) := ⟨rfl, rfl, rfl, by decide +kernel, rfl, by decide +kernel, by decide +kernel⟩
set_option maxHeartbeats 4000000 in
theorem ok_folded {f : Addr} {fd : FuncData} (F : Fun K "folded" "folded" s_folded f fd) (T : Txt K mg) (WK : WkK K cW) (d_first_rooms : Df P w K mg base "first_rooms" 2 ["lots"] sp_firstrooms) : FnOk P w K mg base CX0 3 f fd ["walk", "lots"] (sp_folded cW) := by
  refine F.ok sc_folded (fun vs H Q E h => ?_) (fun cdv A outer s H vs Q E hr h => ?_)
  · obtain ⟨wk, t, wd, y, md, lo, rows, L, R, Bm, k, rfl, _⟩ := h
    rfl
  · obtain ⟨wk, t, wd, y, md, lo, rows, L, R, Bm, k, rfl, hW, hy, hwr, hmd, hMa, hlo, q⟩ := h
    refine ⟨_, (pss_cons ((ps_set (i := 2) sc_folded.nd rfl (Or.inl rfl) ((pe_df d_first_rooms hr (pa_cons (pv 1) pa_nil))))) (pss_cons (ps_setCompS ["walk", "lots", "rooms", "ways", "marks"] (j := 3) rfl sc_folded.nd (by decide) rfl (Or.inl rfl) (pi_sq (pv 2)) (fun cl C fp s' H' => ⟨pts_nil, pe_callTy (call_tupleK K) (by rfl) T.tuple PyProof.Rows.boot_tuple (pa_cons (pe_compS ["room", "walk", "lots", "rooms", "ways", "marks"] rfl (show List.Nodup (["goal", "room", "walk", "lots", "rooms", "ways", "marks"] : List Str) by decide) (pi_sq (pe_ix (ix_listK K) (pe_fldK (f := "ways") K (pv 1) rfl) (pv 0) (fun _ _ => rfl))) (fun cl C fp s' H' => ⟨pts_nil, pe_ix (ix_listK K) (pv 3) (pv 0) (fun _ _ => rfl)⟩)) pa_nil)⟩)) (pss_cons (ps_setCompS ["walk", "lots", "rooms", "ways", "marks"] (j := 4) rfl sc_folded.nd (by decide) rfl (Or.inl rfl) (pi_sq (pv 2)) (fun cl C fp s' H' => ⟨pts_nil, pe_ix (ix_listK K) (pe_fldK (f := "marks") K (pv 1) rfl) (pv 0) (fun _ _ => rfl)⟩)) (pss_one (ps_ret (pe_tup (pa_cons (pe_fld (f := "letters") (pv 0) rfl) (pa_cons (pe_callTy call_tuple_of (by rfl) T.tuple PyProof.Rows.boot_tuple (pa_cons (pv 3) pa_nil)) (pa_cons (pe_callTy call_tuple_of (by rfl) T.tuple PyProof.Rows.boot_tuple (pa_cons (pv 4) pa_nil)) pa_nil))))))))), ?_⟩
    obtain ⟨dx, ew⟩ := hW.ex
    have hn60 := hMa.n60
    have hll := Rd_len hMa k
    refine ⟨_, rfl, lo, Rd R Bm k, rfl, hlo, by rw [hll]; exact hMa.n1, by rw [hll]; exact hn60, fun x hx => Nat.lt_of_lt_of_le (Rd_lt hMa hx) hn60, fun M j hM hj => Rd_down hM hj, fun m p H1 hm s1 hpn hp => ?_⟩
    have hm60 : m ≤ 60 := by
      have := Rd_lt hMa (hm.has (m - 1) (by have := hm.pos; omega))
      have := hm.pos
      omega
    have hpl : (intsV ((List.range m).map fun j => (Rd R Bm k).idxOf j)).length = m := by rw [intsV_len, List.length_map, List.length_range]
    have room : ∀ {j : Nat} {x : V}, (intsV ((List.range m).map fun j => (Rd R Bm k).idxOf j))[j]? = some x → j < m ∧ x = .int (((Rd R Bm k).idxOf j : Nat) : Int) := fun {j x} e => by
      have hj : j < m := by have := (List.getElem?_eq_some_iff.mp e).1; rwa [hpl] at this
      rw [intsV_get (by rw [List.length_map, List.length_range]; exact hj)] at e
      cases e
      refine ⟨hj, ?_⟩
      rw [List.getD_eq_getElem?_getD, List.getElem?_map, List.getElem?_range hj]
      rfl
    dsimp only [gName]
    dsimp only [tNext, tSeq, tAsg, tCall, tCons, tBM, tCB]
    refine comp_sq (a := p) (fun R h => ⟨_, rfl, h⟩) (.inl rfl) hp (fun D j ys H' => ∃ ps : List Addr, ys = ps.map V.ref ∧ ps.length = j ∧ ∀ (i : Nat) (t : Addr), ps[i]? = some t → i < m ∧ H' t = some (.tup (intsV ((foldW R (Rd R Bm k) m).getD i [])))) (by rw [hpl]; exact line_ge (Nat.le_trans hm60 (by decide))) (fun D hD => ⟨[], rfl, rfl, fun i t e => by simp at e⟩) ?_ ?_
    · intro D j x ys H' R1 R2 hD hx hsm hDl hpv k1 k2
      obtain ⟨ps, rfl, hpsl, hps⟩ := hpv
      obtain ⟨hj, rfl⟩ := room hx
      obtain ⟨f1, f2⟩ := fr_at hm hMa hj
      have s2 := s1.trans hsm
      obtain ⟨ra, hra⟩ : ∃ ra, rows[(Rd R Bm k).idxOf j]? = some ra := ⟨rows[(Rd R Bm k).idxOf j]'(by rw [hwr.1]; exact f1), List.getElem?_eq_getElem _⟩
      have hraH := s2 _ _ (hwr.2 _ ra _ hra (List.getElem?_eq_getElem f1))
      obtain ⟨hwl, hwb⟩ := hMa.row _ (List.getElem_mem f1)
      refine tAlways_if ?_
      dsimp only [tNext, tSeq, tAsg, tCall, tCons, tBM, tCB]
      refine comp_sq (a := ra) (fun R h => ⟨_, rfl, wk, cW, dx, _, _, rfl, s2 _ _ ew, WK.cls, WK.na4, rfl, _, rfl, y, _, _, _, rfl, rfl, SqL.of (s2 _ _ hy), atI_map V.ref hra, h⟩) (.inl rfl) hraH (fun D2 i zs2 H4 => zs2 = (intsV (R[(Rd R Bm k).idxOf j].map fun g => (Rd R Bm k).getD g 0)).take i) (by rw [intsV_len, hwl]; exact line_ge (Nat.le_trans hMa.lt.hi (by decide))) (fun D2 hD2 => by simp) ?_ ?_
      · intro D2 i y2 zs2 H4 R3 R4 hD2 hy2 hsm4 hD2l hp2 k3 k4
        have hi : i < R[(Rd R Bm k).idxOf j].length := by have := (List.getElem?_eq_some_iff.mp hy2).1; rwa [intsV_len] at this
        rw [intsV_get hi] at hy2
        cases hy2
        refine tAlways_if ⟨_, rfl, _, rfl, lo, _, _, _, rfl, rfl, SqL.of (hsm4 _ _ (s2 _ _ hlo)), atI_ints (by rw [hll]; exact hwb _ (getD_in hi)), k3 _ H4 hD2l (Same.set hsm4 hD2) ?_⟩
        rw [hp2]
        refine (take_snoc ?_).symm
        rw [intsV_get (by rw [List.length_map]; exact hi), map_getD hi]
      · intro D2 zs2 H4 hD2 hsm4 hD2l hp2
        rw [intsV_len, List.take_of_length_le (by rw [intsV_len, List.length_map]; exact Nat.le_refl _)] at hp2
        subst hp2
        refine ⟨D2, _, rfl, .inl ⟨SqL.of hD2l, fun b hb => ?_⟩⟩
        have s5 := hsm4.trans (Same.upd (o := .tup (intsV (R[(Rd R Bm k).idxOf j].map fun g => (Rd R Bm k).getD g 0))) hb)
        refine k1 (.ref b) _ (s5 _ _ hDl) (Same.set (hsm.trans s5) hD) ⟨ps ++ [b], by rw [List.map_append]; rfl, by rw [List.length_append, hpsl]; rfl, fun i u e => ?_⟩
        have hD5 := s5 _ _ hDl
        rcases get_split e with z | ⟨rfl, rfl⟩
        · obtain ⟨a1, a2⟩ := hps i u z
          exact ⟨a1, upd_keep2 (s5 _ _ a2) hD5 (by intro z; cases z)⟩
        · rw [hpsl]
          refine ⟨hj, upd_keep2 ?_ hD5 (by intro z; cases z)⟩
          rw [upd_same, foldW_get hj, List.getD_eq_getElem?_getD, List.getElem?_eq_getElem f1]
          rfl
    intro Dw ys H2 hDw hsm2 hDwl hpv
    obtain ⟨ps, rfl, hpsl, hps⟩ := hpv
    rw [hpl] at hpsl
    have hp2 := hsm2 _ _ hp
    have s2 := s1.trans hsm2
    dsimp only [gName]
    dsimp only [tNext, tSeq, tAsg, tCall, tCons, tBM, tCB]
    refine comp_sq (a := p) (fun R h => ⟨_, rfl, h⟩) (.inl rfl) hp2 (fun D j ys H' => ys = ((foldB Bm (Rd R Bm k) m).map V.bl).take j) (by rw [hpl]; exact line_ge (Nat.le_trans hm60 (by decide))) (fun D hD => by simp) ?_ ?_
    · intro D j x ys H' R1 R2 hD hx hsm hDl hpv k1 k2
      obtain ⟨hj, rfl⟩ := room hx
      obtain ⟨f1, f2⟩ := fr_at hm hMa hj
      have s3 := s2.trans hsm
      refine tAlways_if ⟨_, rfl, wk, cW, dx, _, _, rfl, s3 _ _ ew, WK.cls, WK.na5, rfl, _, rfl, md, _, _, _, rfl, rfl, SqL.of (s3 _ _ hmd), mark_at (by rw [hMa.bl]; exact f1), k1 _ H' hDl (Same.set hsm hD) ?_⟩
      rw [hpv]
      refine (take_snoc ?_).symm
      rw [List.getElem?_map, foldB, List.getElem?_map, List.getElem?_range hj]
      rfl
    intro Dm ys H3 hDm hsm3 hDml hpv
    rw [hpl, List.take_of_length_le (by rw [List.length_map, foldB, List.length_map, List.length_range]; exact Nat.le_refl _)] at hpv
    subst hpv
    have s3 := s2.trans hsm3
    refine ⟨_, rfl, wk, cW, dx, _, _, rfl, s3 _ _ ew, WK.cls, WK.na1, rfl, ?_⟩
    refine ⟨_, rfl, Dw, _, rfl, .inl ⟨SqL.of (hsm3 _ _ hDwl), fun tw htw => ?_⟩⟩
    refine ⟨_, rfl, Dm, _, rfl, .inl ⟨SqL.of (upd_keep hDml htw), fun tm htm => ⟨line_ge (by show 3 ≤ 16777216; decide), fun f hf => ?_⟩⟩⟩
    have u1 : Same H3 (L2.upd H3 tw (.tup (ps.map V.ref))) := Same.upd htw
    have u2 := u1.trans (Same.upd (o := .tup ((foldB Bm (Rd R Bm k) m).map V.bl)) htm)
    have u3 := u2.trans (Same.upd (o := .tup [.str (tx L), .ref tw, .ref tm]) hf)
    refine q m f _ hm (s3.trans u3) (same_none (s3.trans u2) hf) ⟨tw, tm, ps, upd_same, upd_keep (upd_keep upd_same htm) hf, upd_keep upd_same hf, by rw [hpsl, foldW, List.length_map, List.length_range], fun i r e => ?_⟩
    obtain ⟨a1, a2⟩ := hps i r e
    refine ⟨(foldW R (Rd R Bm k) m).getD i [], ?_, (hsm3.trans u3) _ _ a2⟩
    rw [List.getD_eq_getElem?_getD, foldW, List.getElem?_map, List.getElem?_range a1]
    rfl
theorem sc_least : FnScope ["machine", "walk", "rounds"] ["machine"] (defScope s_least) := ⟨rfl, rfl, rfl, by decide +kernel, rfl, by decide +kernel, by decide +kernel⟩
set_option maxHeartbeats 4000000 in
theorem ok_least {f : Addr} {fd : FuncData} (F : Fun K "least" "least" s_least f fd) (T : Txt K mg) (WK : WkK K cW) (d_walked_machine : Df P w K mg base "walked_machine" 6 ["machine"] (sp_wmach cW P0 sites)) (d_rounds_of : Df P w K mg base "rounds_of" 2 ["ways", "marks", "most"] sp_roundsQ) (d_folded : Df P w K mg base "folded" 3 ["walk", "lots"] (sp_folded cW)) : FnOk P w K mg base CX0 7 f fd ["machine"] (sp_least P0 sites) := by
  refine F.ok sc_least (fun vs H Q E h => ?_) (fun cdv A outer s H vs Q E hr h => ?_)
  · obtain ⟨m, L, W, B, rfl, _⟩ := h
    rfl
  · obtain ⟨m, L, W, B, rfl, hM, hMa, hT, q⟩ := h
    have hr2 := hr.mono (j := 2) (by decide)
    have hr3 := hr.mono (j := 3) (by decide)
    refine ⟨_, (pss_cons ((ps_set (i := 1) sc_least.nd rfl (Or.inl rfl) ((pe_df d_walked_machine hr (pa_cons (pv 0) pa_nil))))) (pss_cons ((ps_set (i := 2) sc_least.nd rfl (Or.inl rfl) ((pe_df d_rounds_of hr2 (pa_cons ((pe_fld (f := "ways") (pv 1) rfl)) (pa_cons ((pe_fld (f := "marks") (pv 1) rfl)) (pa_cons ((pe_callB call_len_seq (by rfl) T.len PySem.boot_len (pa_cons ((pe_fld (f := "ways") (pv 1) rfl)) pa_nil))) pa_nil))))))) (pss_one (ps_ret (pe_df d_folded hr3 (pa_cons (pv 1) (pa_cons (pe_ix ix_list (pv 2) (pe_un un_neg pe_int) (fun _ _ => rfl)) pa_nil))))))), ?_⟩
    refine ⟨_, rfl, m, L, W, B, rfl, hM, hMa, hT, fun wk t wd y md ks vks ws rows R Bm H1 s1 hT1 hW ht hth hwd hy hwr hmd bf ways hR bl mks sub le => ?_⟩
    have hRM := walk_mach hMa bf ways hR bl le
    obtain ⟨dx, ew⟩ := hW.ex
    refine ⟨_, rfl, wk, cW, dx, _, _, rfl, ew, WK.cls, WK.na4, rfl, _, rfl, wk, cW, dx, _, _, rfl, ew, WK.cls, WK.na5, rfl, _, rfl, wk, cW, dx, _, _, rfl, ew, WK.cls, WK.na4, rfl, y, _, rfl, .inl (SqL.of hy), ?_⟩
    refine ⟨y, md, rows, _, _, L, R, Bm, by rw [List.length_map, hwr.1]; rfl, .inl rfl, hy, .inl rfl, hmd, hwr.1, fun i r e => ?_, hRM, fun p lots k H2 s2 hp hll hlots st hk => ?_⟩
    · have hi : i < R.length := by rw [← hwr.1]; exact (List.getElem?_eq_some_iff.mp e).1
      exact ⟨R[i], List.getElem?_eq_getElem hi, _, .inl rfl, hwr.2 i r _ e (List.getElem?_eq_getElem hi)⟩
    obtain ⟨la, hla⟩ : ∃ la, lots[k]? = some la := ⟨lots[k]'(by rw [hll]; exact Nat.lt_succ_self k), List.getElem?_eq_getElem _⟩
    have hla1 := hlots k la hla
    have hat := atI_lastG hll hla
    refine ⟨_, rfl, _, rfl, _, rfl, p, _, _, _, rfl, rfl, SqL.of hp, hat, ?_⟩
    refine ⟨wk, t, wd, y, md, la, rows, L, R, Bm, k, rfl, ⟨dx, s2 _ _ ew⟩, s2 _ _ hy, ⟨hwr.1, fun i a r a1 a2 => s2 _ _ (hwr.2 i a r a1 a2)⟩, s2 _ _ hmd, hRM, hla1, fun mm f H3 hm s3 hf hMf => ?_⟩
    exact q f _ _ H3 (sameX_trans s1 (sameX_of (s2.trans s3))) (tab_same (tab_same hT1 s2) s3) hMf ⟨ks, ws, R, Bm, k, mm, bf, ways, hR, bl, mks, sub, le, hRM, st, hm, rfl, rfl⟩
theorem sc__law_cell_at : FnScope ["_law_script", "_law_k"] ["_law_script", "_law_k"] (defScope s__law_cell_at) := ⟨rfl, rfl, rfl, by decide +kernel, rfl, by decide +kernel, by decide +kernel⟩
set_option maxHeartbeats 4000000 in
theorem ok__law_cell_at {f : Addr} {fd : FuncData} (F : Fun K "_law_cell_at" "_law_cell_at" s__law_cell_at f fd) (T : Txt K mg) : FnOk P w K mg base CX0 1 f fd ["_law_script", "_law_k"] (sp_cell K) := by
  refine F.ok sc__law_cell_at (fun vs H Q E h => ?_) (fun cdv A outer s H vs Q E hr h => ?_)
  · obtain ⟨a, ns, k, rfl, _⟩ := h
    rfl
  · obtain ⟨a, ns, k, rfl, hS, h0, q⟩ := h
    refine ⟨_, (pss_cons ((ps_if (pt_cmpR op_lt (pv 1) (pe_callB call_len_seq (by rfl) T.len PySem.boot_len (pa_cons (pv 0) pa_nil)) (nomark _)) ((pss_one (ps_ret (pe_ix ix_list (pv 0) (pv 1) (fun _ _ => rfl))))) (pss_nil))) (pss_one (ps_ret pe_int))), ?_⟩
    refine ⟨_, rfl, _, rfl, a, _, rfl, .inl hS, _, _, rfl, rfl, _, rfl, ?_⟩
    refine ite3 (fun hlt => ?_) (fun _ => q 0)
    obtain ⟨v, hv, hv2⟩ := atI_in (xs := ns.map V.int) h0 hlt
    obtain ⟨z, rfl⟩ : ∃ z, v = V.int z := by
      rw [List.getElem?_map] at hv2
      cases e : ns[k.toNat]? with
      | none => rw [e] at hv2; cases hv2
      | some z => rw [e] at hv2; exact ⟨z, (Option.some.inj hv2).symm⟩
    exact ⟨_, rfl, _, rfl, a, _, _, _, rfl, rfl, hS, hv, q z⟩
theorem sc__law_letters : FnScope ["_law_cell", "_law_left", "_law_number", "_law_many", "_law_found", "_law_k", "_law_at"] ["_law_cell"] (defScope s__law_letters) := ⟨rfl, rfl, rfl, by decide +kernel, rfl, by decide +kernel, by decide +kernel⟩
set_option maxHeartbeats 4000000 in
theorem ok__law_letters {f : Addr} {fd : FuncData} (F : Fun K "_law_letters" "_law_letters" s__law_letters f fd) (T : Txt K mg) : FnOk P w K mg base CX0 1 f fd ["_law_cell"] sp_letters := by
  refine F.ok sc__law_letters (fun vs H Q E h => ?_) (fun cdv A outer s H vs Q E hr h => ?_)
  · obtain ⟨c, rfl, _⟩ := h
    rfl
  · obtain ⟨c, rfl, q⟩ := h
    refine ⟨_, (pss_cons ((ps_set (i := 1) sc__law_letters.nd rfl (Or.inl rfl) (pe_str))) (pss_cons ((ps_set (i := 2) sc__law_letters.nd rfl (Or.inl rfl) (pe_op op_mod (pv 0) pe_int))) (pss_cons ((ps_set (i := 3) sc__law_letters.nd rfl (Or.inl rfl) (pe_op op_add pe_int (pe_op op_mod (pv 2) pe_int)))) (pss_cons ((ps_set (i := 2) sc__law_letters.nd rfl (Or.inl rfl) (pe_op op_fdiv (pv 2) pe_int))) (pss_cons ((ps_set (i := 4) sc__law_letters.nd rfl (Or.inl rfl) (pe_str))) (pss_cons ((ps_for PassesOwn.never rfl (pi_range1 rfl T.range (pa_cons (pv 3) pa_nil)) (pg_name (i := 5) sc__law_letters.nd rfl (Or.inl rfl)) ((pss_cons ((ps_set (i := 6) sc__law_letters.nd rfl (Or.inl rfl) (pe_op op_mod (pv 2) (pe_callB call_len_str (by rfl) T.len PySem.boot_len (pa_cons (pv 1) pa_nil))))) (pss_cons ((ps_set (i := 2) sc__law_letters.nd rfl (Or.inl rfl) (pe_op op_fdiv (pv 2) (pe_callB call_len_str (by rfl) T.len PySem.boot_len (pa_cons (pv 1) pa_nil))))) (pss_cons ((ps_set (i := 4) sc__law_letters.nd rfl (Or.inl rfl) (pe_op op_add_str (pv 4) (pe_ix ix_str (pv 1) (pv 6) (fun _ _ => rfl))))) (pss_one ((ps_set (i := 1) sc__law_letters.nd rfl (Or.inl rfl) (pe_op op_add_str (pe_slice sl_str (pv 1) po_none (po_some (pv 6))) (pe_slice sl_str (pv 1) (po_some (pe_op op_add (pv 6) pe_int)) po_none))))))))))) (pss_one (ps_ret (pv 4))))))))), ?_⟩
    obtain ⟨N, en, n1, n2⟩ := ar_room (c % 46800) 1 3 (by decide)
    have en : (N : Int) = 1 + c % 46800 % 3 := en
    have n3 : N ≤ 3 := Nat.le_of_lt_succ n2
    refine ⟨_, rfl, _, _, rfl, rfl, (by show (0 : Int) < 46800; decide), _, rfl, _, _, rfl, rfl, (by show (0 : Int) < 3; decide), _, _, rfl, rfl, _, rfl, _, _, rfl, rfl, ⟨by decide, by decide⟩, _, rfl, _, rfl, by rw [← en]; exact (ar_rng (Nat.le_trans (Nat.le_of_lt n2) (by decide))).1, by rw [← en]; exact (ar_rng (Nat.le_trans (Nat.le_of_lt n2) (by decide))).2, ?_⟩
    generalize hM : (1 : Int) + c % 46800 % 3 = M at en ⊢
    have hMN : M.toNat = N := by rw [← en]; rfl
    refine for_range (n := M.toNat) (fun i σ H' => ∃ f l n k0 a0, σ = [some (.int c), some (.str (tx l)), some (.int n), some (.int M), some (.str (tx f)), k0, a0] ∧ H' = H ∧ 0 ≤ n ∧ f.length = i ∧ l.length + i = 26 ∧ (f ++ l).Nodup ∧ ∀ c ∈ f ++ l, 97 ≤ c ∧ c ≤ 122) ?_ ?_ ?_
    · refine ⟨[], List.range' 97 26, c % 46800 / 3, none, none, ?_, rfl, Int.ediv_nonneg (Int.emod_nonneg _ (by decide)) (by decide), rfl, rfl, by decide, by decide⟩
      show [some (V.int c), some (V.str _), some (V.int _), some (V.int _), some (V.str _), none, none] = _
      rw [abc_eq, empty_eq, hM]
    · rintro i σ H1 hi ⟨f, l, n, k0, a0, rfl, rfl, hn, hf, hl, nd, az⟩
      have hi3 : i < 3 := Nat.lt_of_lt_of_le (hMN ▸ hi) n3
      obtain ⟨l1, l26⟩ := ar_l26 hl (Nat.le_of_lt hi3)
      have hz : (tx l).length ≤ sizeLine := line_ge (by rw [tx_len]; exact Nat.le_trans l26 (by decide))
      have hlp : (0 : Int) < ((tx l).length : Int) := by rw [tx_len]; exact ar_pos1 l1
      have hr0 := Int.emod_nonneg n (Int.ne_of_gt hlp)
      have hr1 := Int.emod_lt_of_pos n hlp
      have hd0 : 0 ≤ n / ((tx l).length : Int) := Int.ediv_nonneg hn (Int.le_of_lt hlp)
      have hRl : (n % ((tx l).length : Int)).toNat < l.length := Nat.lt_of_lt_of_eq (ar_toNat hr0 hr1) (tx_len l)
      obtain ⟨v, hv, hv2⟩ := atI_in (xs := (tx l).cps.toList) hr0 (by rw [tx_cps]; exact Int.lt_of_lt_of_le hr1 (Int.le_of_eq (congrArg Nat.cast (tx_len l))))
      rw [tx_cps] at hv2
      have ev : v = l[(n % ((tx l).length : Int)).toNat] := by
        rw [List.getElem?_eq_getElem hRl] at hv2
        exact (Option.some.inj hv2).symm
      subst ev
      refine ⟨_, rfl, _, rfl, _, rfl, hz, _, _, rfl, rfl, hlp, _, rfl, _, rfl, _, rfl, hz, _, _, rfl, rfl, ⟨hlp, by rw [tx_len]; exact ar_26 l26⟩, _, rfl, _, rfl, _, rfl, _, _, _, rfl, rfl, hz, hv, _, _, rfl, rfl, ?_, _, rfl, _, rfl, _, rfl, _, rfl, hz, _, rfl, _, rfl, _, _, rfl, rfl, _, rfl, _, rfl, hz, _, _, rfl, rfl, ?_, ?_⟩
      · refine line_ge ?_
        rw [tx_len]
        show f.length + 1 ≤ _
        rw [hf]
        exact Nat.le_trans hi3 (by decide)
      · refine line_ge ?_
        have h1 := Txt.slice_le (tx l) none (some (n % ((tx l).length : Int)))
        have h2 := Txt.slice_le (tx l) (some ((n % ((tx l).length : Int)) + 1)) none
        exact ar_sum h1 h2 (by rw [tx_len]; exact l26)
      · obtain ⟨d1, d2⟩ := draw_one hRl nd
        refine ⟨f ++ [l[(n % ((tx l).length : Int)).toNat]], l.take (n % ((tx l).length : Int)).toNat ++ l.drop ((n % ((tx l).length : Int)).toNat + 1), n / ((tx l).length : Int), some (.int (0 + (i : Int))), some (.int (n % ((tx l).length : Int))), ?_, rfl, hd0, by rw [List.length_append, hf]; rfl, ?_, d1, fun c hc => az c (d2 c hc)⟩
        · have e1 := slice_to (tx l) hr0
          have e2 := slice_from (tx l) (i := (n % ((tx l).length : Int)) + 1) (Int.le_trans hr0 (Int.le_of_lt (Int.lt_succ _))) (by rw [tx_cps]; exact Int.lt_of_lt_of_le hr1 (Int.le_of_eq (congrArg Nat.cast (tx_len l))))
          rw [tx_cps] at e1 e2
          rw [ar_succ hr0] at e2
          show [some (V.int c), some (V.str (Txt.slice (tx l) none (some (n % ((tx l).length : Int))) ++ Txt.slice (tx l) (some ((n % ((tx l).length : Int)) + 1)) none)), some (V.int _), some (V.int M), some (V.str (tx f ++ ⟨#[l[(n % ((tx l).length : Int)).toNat]]⟩)), some _, some _] = _
          rw [e1, e2, tx_app, show (⟨#[l[(n % ((tx l).length : Int)).toNat]]⟩ : Str) = tx [l[(n % ((tx l).length : Int)).toNat]] from rfl, tx_app]
        · rw [List.length_append, List.length_take, List.length_drop]
          exact ar_draw hRl hl
    · rintro σ H1 ⟨f, l, n, k0, a0, rfl, rfl, hn, hf, hl, nd, az⟩
      refine ⟨_, rfl, q f ⟨by rw [hf, hMN]; exact n1, by rw [hf, hMN]; exact n3, (List.nodup_append.mp nd).1, fun c hc => az c (List.mem_append_left _ hc)⟩⟩
theorem sc__law_machine : FnScope ["_law_script", "_law_at", "_law_rooms", "_law_letters_here", "_law_ways", "_law_marks", "_law_number", "_law_k", "_law_rest", "_law_row", "_law_sign"] ["_law_script", "_law_at", "_law_rooms", "_law_letters_here"] (defScope s__law_machine) := ⟨rfl, rfl, rfl, by decide +kernel, rfl, by decide +kernel, by decide +kernel⟩
set_option maxHeartbeats 4000000 in
theorem ok__law_machine {f : Addr} {fd : FuncData} (F : Fun K "_law_machine" "_law_machine" s__law_machine f fd) (T : Txt K mg) (d__law_cell_at : Df P w K mg base "_law_cell_at" 1 ["_law_script", "_law_k"] (sp_cell K)) : FnOk P w K mg base CX0 2 f fd ["_law_script", "_law_at", "_law_rooms", "_law_letters_here"] (sp_machine K) := by
  refine F.ok sc__law_machine (fun vs H Q E h => ?_) (fun cdv A outer s H vs Q E hr h => ?_)
  · obtain ⟨a, ns, p, n, L, rfl, _⟩ := h
    rfl
  · obtain ⟨a, ns, p, n, L, rfl, hS, hp0, hn1, hn60, hL, q⟩ := h
    refine ⟨_, (pss_cons ((ps_set (i := 4) sc__law_machine.nd rfl (Or.inl rfl) (pe_lst pa_nil))) (pss_cons ((ps_set (i := 5) sc__law_machine.nd rfl (Or.inl rfl) (pe_lst pa_nil))) (pss_cons ((ps_set (i := 6) sc__law_machine.nd rfl (Or.inl rfl) (pe_int))) (pss_cons ((ps_for PassesOwn.never rfl (pi_range1 rfl T.range (pa_cons (pv 2) pa_nil)) (pg_name (i := 7) sc__law_machine.nd rfl (Or.inl rfl)) ((pss_cons ((ps_set (i := 6) sc__law_machine.nd rfl (Or.inl rfl) (pe_op op_modG (pe_op op_a (pe_op op_a (pe_op op_p (pv 6) (pv 6)) (pe_op op_p pe_int (pe_op op_m (pe_df d__law_cell_at hr (pa_cons (pv 0) (pa_cons (pe_op op_a (pv 1) (pv 7)) pa_nil))) (pe_op op_pow pe_int pe_int)))) (pv 7)) pe_int))) (pss_cons ((ps_set (i := 8) sc__law_machine.nd rfl (Or.inl rfl) (pv 6))) (pss_cons ((ps_set (i := 9) sc__law_machine.nd rfl (Or.inl rfl) (pe_lst pa_nil))) (pss_cons ((ps_for PassesOwn.never rfl (pi_str (pv 3)) (pg_name (i := 10) sc__law_machine.nd rfl (Or.inl rfl)) ((pss_cons (ps_expr (pe_bm PySem.F.plainAttrs_list PySem.F.slot_list_append PySem.F.type_list_append mt_append (pv 9) (pa_cons (pe_op op_modG (pv 8) (pv 2)) pa_nil))) (pss_one ((ps_set (i := 8) sc__law_machine.nd rfl (Or.inl rfl) (pe_op op_fdivG (pv 8) (pv 2))))))))) (pss_cons (ps_expr (pe_bm PySem.F.plainAttrs_list PySem.F.slot_list_append PySem.F.type_list_append mt_append (pv 4) (pa_cons ((pe_callTy call_tuple_of (by rfl) T.tuple PyProof.Rows.boot_tuple (pa_cons (pv 9) pa_nil))) pa_nil))) (pss_one (ps_expr (pe_bm PySem.F.plainAttrs_list PySem.F.slot_list_append PySem.F.type_list_append mt_append (pv 5) (pa_cons (pe_cmpR op_eq (pe_op op_modG (pv 8) pe_int) pe_int (nomark _)) pa_nil)))))))))))) (pss_one (ps_ret (pe_tup (pa_cons (pv 3) (pa_cons (pe_callTy call_tuple_of (by rfl) T.tuple PyProof.Rows.boot_tuple (pa_cons (pv 4) pa_nil)) (pa_cons (pe_callTy call_tuple_of (by rfl) T.tuple PyProof.Rows.boot_tuple (pa_cons (pv 5) pa_nil)) pa_nil)))))))))), ?_⟩
    refine ⟨Nat.zero_le _, fun wa hwa => ⟨Nat.zero_le _, fun mk hmk => ?_⟩⟩
    have hwm : wa ≠ mk := ne_of_none upd_same hmk
    have hmk0 : H mk = none := by rw [upd_ne hwm.symm] at hmk; exact hmk
    refine ⟨_, rfl, _, rfl, (ar_rng (Nat.le_trans hn60 (by decide))).1, (ar_rng (Nat.le_trans hn60 (by decide))).2, ?_⟩
    refine for_range (n := (n : Int).toNat) (fun i σ H' => ∃ (rows : List Addr) (W : List (List Nat)) (B : List Bool) (num : Int) (k0 rest row sg : Option V), σ = [some (.ref a), some (.int p), some (.int (n : Int)), some (.str (tx L)), some (.ref wa), some (.ref mk), some (.int num), k0, rest, row, sg] ∧
      Same H H' ∧ H' wa = some (.lst (rows.map V.ref)) ∧ H' mk = some (.lst (B.map V.bl)) ∧ rows.length = i ∧ W.length = i ∧ B.length = i ∧ 0 ≤ num ∧ num < 2147483647 ∧ RowsAt H' rows W ∧ ∀ ws ∈ W, ws.length = L.length ∧ ∀ x ∈ ws, x < n) ?_ ?_ ?_
    · exact ⟨[], [], [], 0, none, none, none, none, rfl, fun b o e => upd_keep (upd_keep e hwa) hmk, upd_keep upd_same hmk, upd_same, rfl, rfl, rfl, by decide, by decide, fun i r e => by simp at e, fun ws e => by simp at e⟩
    · rintro i σ H1 hi ⟨rows, W, B, num, k0, rest0, row0, sg0, rfl, hsame, h1wa, h1mk, hrl, hWl, hBl, hn0, hn1', hrows, hW⟩
      refine ⟨_, rfl, _, rfl, _, _, rfl, rfl, .inl (ar_64 hn0 hn1'), _, rfl, _, rfl, _, rfl, _, _, rfl, rfl, a, ns, _, rfl, hsame.seq hS, ar_p hp0 i, fun z => ?_⟩
      refine ⟨_, _, rfl, rfl, ⟨by decide, by decide, by decide⟩, _, _, rfl, rfl, by decide, _, _, rfl, rfl, .inl ⟨by decide, by decide⟩, _, _, rfl, rfl, _, rfl, _, _, rfl, rfl, _, _, rfl, rfl, by decide, fun num2 hm0 hm1 => ?_⟩
      refine ⟨_, rfl, Nat.zero_le _, fun rw hrw => ?_⟩
      have rwa : wa ≠ rw := ne_of_none h1wa hrw
      have rmk : mk ≠ rw := ne_of_none h1mk hrw
      refine ⟨_, rfl, _, rfl, for_str (x := tx L) (fun j σ' H2 => ∃ (ws : List Nat) (rest : Int) (sg : Option V), σ' = [some (.ref a), some (.int p), some (.int (n : Int)), some (.str (tx L)), some (.ref wa), some (.ref mk), some (.int num2), some (.int (0 + (i : Int))), some (.int rest), some (.ref rw), sg] ∧
        H2 = upd H1 rw (.lst (intsV ws)) ∧ ws.length = j ∧ (∀ x ∈ ws, x < n) ∧ 0 ≤ rest) ⟨[], num2, sg0, rfl, rfl, rfl, fun x e => by simp at e, hm0⟩ ?_ ?_⟩
      · rintro j c σ2 H2 hc ⟨ws, rest, sg, rfl, rfl, hwl, hwn, hr0⟩
        have hjl : j < 4 := by
          have h9 := (Array.getElem?_eq_some_iff.mp hc).1
          have e : (tx L).cps.size = L.length := tx_len L
          rw [e] at h9
          exact Nat.lt_of_lt_of_le h9 (Nat.le_trans hL.hi (by decide))
        refine ⟨_, rfl, .inl ⟨rfl, _, SqL.of upd_same⟩, _, rfl, _, rfl, _, _, rfl, rfl, ar_pos1 hn1, fun r hr0' hr1 => ⟨rw, _, _, rfl, rfl, upd_same, ?_, _, rfl, _, rfl, _, _, rfl, rfl, ar_fd hn1 hn60, hr0, fun q2 hq2 => ?_⟩⟩
        · unfold intsV
          rw [List.length_map, hwl]
          exact small1000 (Nat.le_trans (Nat.le_of_lt hjl) (by decide))
        · refine ⟨ws ++ [r.toNat], q2, some (.str ⟨#[c]⟩), rfl, ?_, by rw [List.length_append, hwl]; rfl, fun x hx => ?_, hq2⟩
          · have e : ((r.toNat : Nat) : Int) = r := Int.toNat_of_nonneg hr0'
            rw [upd_upd]
            unfold intsV
            rw [List.map_append]
            show _ = upd H1 rw (.lst (_ ++ [V.int ((r.toNat : Nat) : Int)]))
            rw [e]
          · rcases List.mem_append.mp hx with hx | hx
            · exact hwn x hx
            · rw [List.mem_singleton.mp hx]
              exact ar_toNat hr0' hr1
      · rintro σ2 H2 ⟨ws, rest, sg, rfl, rfl, hwl, hwn, hr0⟩
        rw [tx_len] at hwl
        have a1 : upd H1 rw (.lst (intsV ws)) wa = some (.lst (rows.map V.ref)) := by rw [upd_ne rwa]; exact h1wa
        have a2 : upd H1 rw (.lst (intsV ws)) mk = some (.lst (B.map V.bl)) := by rw [upd_ne rmk]; exact h1mk
        refine ⟨_, rfl, .inl ⟨rfl, _, SqL.of a1⟩, _, rfl, rw, _, rfl, .inl ⟨SqL.of upd_same, fun tp htp => ?_⟩⟩
        have twa : wa ≠ tp := ne_of_none a1 htp
        have tmk : mk ≠ tp := ne_of_none a2 htp
        refine ⟨wa, _, _, rfl, rfl, (by rw [upd_ne twa]; exact a1), (by rw [List.length_map, hrl]; exact small1000 (Nat.le_trans (Nat.le_of_lt hi) (Nat.le_trans hn60 (by decide)))), ?_⟩
        refine ⟨_, rfl, .inl ⟨rfl, _, SqL.of (by rw [upd_ne hwm.symm, upd_ne tmk]; exact a2)⟩, _, rfl, _, _, rfl, rfl, by decide, fun r3 _ _ => ⟨rfl, mk, _, _, rfl, rfl, (by rw [upd_ne hwm.symm, upd_ne tmk]; exact a2), (by rw [List.length_map, hBl]; exact small1000 (Nat.le_trans (Nat.le_of_lt hi) (Nat.le_trans hn60 (by decide)))), ?_⟩⟩
        have hk : ∀ b o, H1 b = some o → b ≠ wa → b ≠ mk → upd (upd (upd (upd H1 rw (.lst (intsV ws))) tp (.tup (intsV ws))) wa (.lst (rows.map V.ref ++ [.ref tp]))) mk (.lst (B.map V.bl ++ [.bl (decide (V.int r3 = V.int 1))])) b = some o := fun b o e e1 e2 => by
          rw [upd_ne e2, upd_ne e1, upd_ne (ne_of_none (upd_keep e hrw) htp), upd_ne (ne_of_none e hrw)]
          exact e
        refine ⟨rows ++ [tp], W ++ [ws], B ++ [decide (V.int r3 = V.int 1)], num2, some (.int (0 + (i : Int))), some (.int rest), some (.ref rw), sg, rfl, fun b o e => ?_, ?_, ?_, ?_, ?_, ?_, hm0, hm1, fun j r e => ?_, fun v hv => ?_⟩
        · exact hk b o (hsame b o e) (ne_of_none e hwa) (ne_of_none e hmk0)
        · rw [upd_ne hwm, upd_same, List.map_append]
          rfl
        · rw [upd_same, List.map_append]
          rfl
        · rw [List.length_append, hrl]; rfl
        · rw [List.length_append, hWl]; rfl
        · rw [List.length_append, hBl]; rfl
        · exact rows_snoc hrows (hrl.trans hWl.symm) (fun b xs z => hk b _ z (ne_of z h1wa (by intro z; cases z)) (ne_of z h1mk (by intro z; cases z))) (by rw [upd_ne tmk.symm, upd_ne twa.symm, upd_same]) j r e
        · rcases List.mem_append.mp hv with hv | hv
          · exact hW v hv
          · rw [List.mem_singleton.mp hv]
            exact ⟨hwl, hwn⟩
    · rintro σ H1 ⟨rows, W, B, num, k0, rest0, row0, sg0, rfl, hsame, h1wa, h1mk, hrl, hWl, hBl, hn0, hn1', hrows, hW⟩
      refine ⟨_, rfl, _, rfl, wa, _, rfl, .inl ⟨SqL.of h1wa, fun tw htw => ⟨_, rfl, mk, _, rfl, .inl ⟨SqL.of (upd_keep h1mk htw), fun tm htm => ⟨line_ge (by show 3 ≤ 16777216; decide), fun m hm => ?_⟩⟩⟩⟩⟩
      have up : ∀ b o, H1 b = some o → upd (upd (upd H1 tw (.tup (rows.map V.ref))) tm (.tup (B.map V.bl))) m (.tup [.str (tx L), .ref tw, .ref tm]) b = some o := fun b o e => upd_keep (upd_keep (upd_keep e htw) htm) hm
      have hWn : W.length = n := hWl
      exact q m W B _ (fun b o e => up b o (hsame b o e)) ⟨tw, tm, rows, upd_same, upd_keep (upd_keep upd_same htm) hm, upd_keep upd_same hm, hrl.trans hWl.symm, hrows.same up⟩ ⟨hL, by rw [hWn]; exact hn1, by rw [hWn]; exact hn60, hBl.trans hWl.symm, fun ws hws => ⟨(hW ws hws).1, fun x hx => by rw [hWn]; exact (hW ws hws).2 x hx⟩⟩ hWn
theorem sc__law_long : FnScope ["_law_machine_here", "_law_cell", "_law_rooms", "_law_place", "_law_other", "_law_ways", "_law_k", "_law_row", "_law_marks"] ["_law_machine_here", "_law_cell"] (defScope s__law_long) := ⟨rfl, rfl, rfl, by decide +kernel, rfl, by decide +kernel, by decide +kernel⟩
set_option maxHeartbeats 4000000 in
theorem ok__law_long {f : Addr} {fd : FuncData} (F : Fun K "_law_long" "_law_long" s__law_long f fd) (T : Txt K mg) : FnOk P w K mg base CX0 1 f fd ["_law_machine_here", "_law_cell"] sp_long := by
  refine F.ok sc__law_long (fun vs H Q E h => ?_) (fun cdv A outer s H vs Q E hr h => ?_)
  · obtain ⟨m, L, W, B, c, rfl, _⟩ := h
    rfl
  · obtain ⟨m, L, W, B, c, rfl, hM, hMa, q⟩ := h
    obtain ⟨wy, mk, rows, h1, h2, h3, h4, h5⟩ := hM
    refine ⟨_, (pss_cons ((ps_set (i := 2) sc__law_long.nd rfl (Or.inr rfl) ((pe_callB call_len_seq (by rfl) T.len PySem.boot_len (pa_cons (pe_ix ix_tup (pv 0) (pe_int) (fun _ _ => rfl)) pa_nil))))) (pss_cons ((ps_set (i := 3) sc__law_long.nd rfl (Or.inl rfl) (pe_op op_modG (pv 1) (pe_callB call_len_str (by rfl) T.len PySem.boot_len (pa_cons (pe_ix ix_tup (pv 0) (pe_int) (fun _ _ => rfl)) pa_nil))))) (pss_cons ((ps_set (i := 4) sc__law_long.nd rfl (Or.inr rfl) (pe_op op_modG (pe_op op_f (pv 1) pe_int) (pv 2)))) (pss_cons ((ps_set (i := 5) sc__law_long.nd rfl (Or.inl rfl) (pe_lst pa_nil))) (pss_cons ((ps_for PassesOwn.never rfl (pi_range1 rfl T.range (pa_cons (pv 2) pa_nil)) (pg_name (i := 6) sc__law_long.nd rfl (Or.inr rfl)) ((pss_cons (ps_setCompS ["_law_machine_here", "_law_cell", "_law_rooms", "_law_place", "_law_other", "_law_ways", "_law_k", "_law_row", "_law_marks"] (j := 7) rfl sc__law_long.nd (by decide) rfl (Or.inl rfl) (pi_sq (pe_ix ix_tup (pe_ix ix_tup (pv 0) (pe_int) (fun _ _ => rfl)) (pv 6) (fun _ _ => rfl))) (fun cl C fp s' H' => ⟨pts_nil, pe_op op_modG (pv 0) (pe_op op_a (pv 7) pe_int)⟩)) (pss_cut ((ps_if (pt_cmpR op_lt (pe_op op_a (pv 6) pe_int) (pv 2) (nomark _)) ((pss_one (ps_asg (pe_op op_a (pv 6) pe_int) (pg_sub (pv 7) (pv 3) set_list)))) (pss_nil))) (pss_one (ps_expr (pe_bm PySem.F.plainAttrs_list PySem.F.slot_list_append PySem.F.type_list_append mt_append (pv 5) (pa_cons ((pe_callTy call_tuple_of (by rfl) T.tuple PyProof.Rows.boot_tuple (pa_cons (pv 7) pa_nil))) pa_nil))))))))) (pss_cons (ps_setCompS ["_law_machine_here", "_law_cell", "_law_rooms", "_law_place", "_law_other", "_law_ways", "?", "_law_row", "_law_marks"] (j := 8) rfl sc__law_long.nd (by decide) rfl (Or.inl rfl) (pi_range1 rfl T.range (pa_cons (pv 2) pa_nil)) (fun cl C fp s' H' => ⟨pts_nil, pe_or (pe_cmpR op_eq (pv 0) (pe_op op_s (pv 3) pe_int) (nomark _)) (pe_one (pe_and (pe_cmpR op_eq (pe_op op_modG (pe_op op_f (pe_op op_f (pv 2) pe_int) (pv 3)) pe_int) pe_int (nomark _)) (pe_one (pe_cmpR op_eq (pv 0) (pv 5) (nomark _)))))⟩)) (pss_one (ps_ret (pe_tup (pa_cons (pe_ix ix_tup (pv 0) (pe_int) (fun _ _ => rfl)) (pa_cons (pe_callTy call_tuple_of (by rfl) T.tuple PyProof.Rows.boot_tuple (pa_cons (pv 5) pa_nil)) (pa_cons (pe_callTy call_tuple_of (by rfl) T.tuple PyProof.Rows.boot_tuple (pa_cons (pv 8) pa_nil)) pa_nil)))))))))))), ?_⟩
    have hz : (tx L).length ≤ sizeLine := line_ge (by rw [tx_len]; exact Nat.le_trans hMa.lt.hi (by decide))
    have hlp : (0 : Int) < ((tx L).length : Int) := by rw [tx_len]; exact ar_pos1 hMa.lt.lo
    have hn1 := hMa.n1
    have hn60 := hMa.n60
    have h1000 : W.length ≤ 1000 := Nat.le_trans hn60 (by decide)
    have hLh := hMa.lt.hi
    have hrl : (rows.map V.ref).length = W.length := by rw [List.length_map, h4]
    refine ⟨_, rfl, m, _, _, _, rfl, rfl, SqT.of h1, atI_nat (j := 1) rfl, wy, _, rfl, .inr (SqT.of h2), ?_⟩
    rw [hrl]
    refine ⟨_, rfl, _, rfl, m, _, _, _, rfl, rfl, SqT.of h1, atI_nat (j := 0) rfl, _, rfl, hz, _, _, rfl, rfl, hlp, fun pl hpl0 hpl1 => ?_⟩
    refine ⟨_, rfl, _, _, rfl, rfl, ⟨by decide, by decide⟩, _, rfl, _, _, rfl, rfl, ar_pos1 hn1, fun ot _ _ => ?_⟩
    refine ⟨Nat.zero_le _, fun wa hwa => ?_⟩
    refine ⟨_, rfl, _, rfl, (ar_rng h1000).1, (ar_rng h1000).2, ?_⟩
    rw [tx_len] at hpl1
    refine for_range (n := ((W.length : Nat) : Int).toNat) (fun i σ' H' => ∃ (rs : List Addr) (W' : List (List Nat)) (s6 s7 : Option V), σ' = [some (.ref m), some (.int c), some (.int ((W.length : Nat) : Int)), some (.int pl), some (.int ot), some (.ref wa), s6, s7, none] ∧ Same H H' ∧ H' wa = some (.lst (rs.map V.ref)) ∧ rs.length = i ∧ W'.length = i ∧ RowsAt H' rs W' ∧ ∀ ws ∈ W', ws.length = L.length ∧ ∀ x ∈ ws, x < W.length) ?_ ?_ ?_
    · exact ⟨[], [], none, none, rfl, Same.upd hwa, upd_same, rfl, rfl, fun i r e => by simp at e, fun ws e => by simp at e⟩
    · rintro i σ' H1 hi ⟨rs, W', s6, s7, rfl, sm, hwa1, hrs, hW', hrows, hW⟩
      have hi2 : i < W.length := hi
      obtain ⟨ra, hra, hraH⟩ := MachAt.row h4 (h5.same sm) hi2
      obtain ⟨lr, lb⟩ := row_of hMa hi2
      have hat : atI (rows.map V.ref) (0 + (i : Int)) = some (.ref ra) := by
        rw [Int.zero_add]
        exact atI_map V.ref hra
      dsimp only [gName, tNext, tSeq, tAsg]
      refine comp_sq (a := ra) (fun R h => ⟨_, rfl, m, _, _, _, rfl, rfl, SqT.of (sm _ _ h1), atI_nat (j := 1) rfl, _, rfl, wy, _, _, _, rfl, rfl, SqT.of (sm _ _ h2), hat, h⟩) (.inr rfl) hraH (fun D j ys H' => ∃ vs : List Nat, ys = intsV vs ∧ vs.length = j ∧ ∀ x ∈ vs, x < W.length) (by rw [intsV_len, lr]; exact line_ge (Nat.le_trans hLh (by decide))) (fun D hD => ⟨[], rfl, rfl, fun x hx => by simp at hx⟩) ?_ ?_
      · intro D j x ys H' R1 R2 hD hx hsm hDl hp k1 k2
        obtain ⟨vs, rfl, hvl, hv⟩ := hp
        have hj : j < (W.getD i []).length := by have := (List.getElem?_eq_some_iff.mp hx).1; rwa [intsV_len] at this
        rw [intsV_get hj] at hx
        cases hx
        refine tAlways_if ⟨_, rfl, _, rfl, _, _, rfl, rfl, _, _, rfl, rfl, ar_pos2 i, fun g hg0 hg1 => k1 _ H' hDl (Same.set hsm hD) ⟨vs ++ [g.toNat], ?_, by rw [List.length_append, hvl]; rfl, fun x hx => ?_⟩⟩
        · rw [intsV_snoc, Int.toNat_of_nonneg hg0]
        · rcases List.mem_append.mp hx with hx | hx
          · exact hv x hx
          · rw [List.mem_singleton.mp hx]
            exact ar_long hg1 hi2
      intro D ys H2 hD hsm hDl hp
      obtain ⟨vs, rfl, hvl, hv⟩ := hp
      rw [intsV_len, lr] at hvl
      have hDH : H D = none := same_none sm hD
      refine ⟨fun σ2 H3 => ∃ vs : List Nat, σ2 = [some (.ref m), some (.int c), some (.int ((W.length : Nat) : Int)), some (.int pl), some (.int ot), some (.ref wa), some (.int (0 + (i : Int))), some (.ref D), none] ∧ Same H H3 ∧ H3 wa = some (.lst (rs.map V.ref)) ∧ RowsAt H3 rs W' ∧ H3 D = some (.lst (intsV vs)) ∧ vs.length = L.length ∧ ∀ x ∈ vs, x < W.length, ?_, ?_⟩
      · refine ⟨_, rfl, _, _, rfl, rfl, _, rfl, _, _, rfl, rfl, _, rfl, ite3 (fun hlt => ?_) (fun hlt => ?_)⟩
        case _ =>
          have hix : ixN (intsV vs).length pl = some pl.toNat := ixN_in hpl0 (by rw [intsV_len, hvl]; exact hpl1)
          refine ⟨_, rfl, _, _, rfl, rfl, _, rfl, _, rfl, D, _, pl, pl.toNat, rfl, rfl, hDl, hix, ?_⟩
          refine ⟨vs.set pl.toNat (i + 1), rfl, Same.set (sm.trans hsm) hDH, ?_, ?_, ?_, by rw [List.length_set]; exact hvl, fun x hx => ?_⟩
          · rw [upd_ne (ne_of_none hwa1 hD)]
            exact hsm _ _ hwa1
          · exact fun j r e => by
              obtain ⟨v, e1, e2⟩ := hrows j r e
              exact ⟨v, e1, upd_keep2 (hsm _ _ e2) hDl (by intro z; cases z)⟩
          · rw [upd_same, ← set_intsV]
            have e : (0 + (i : Int) + 1) = ((i + 1 : Nat) : Int) := by rw [Int.zero_add]; rfl
            rw [e]
          · rcases List.mem_or_eq_of_mem_set hx with z | z
            · exact hv x z
            · rw [z]; exact ar_lt2 hlt
        case _ => exact ⟨vs, rfl, sm.trans hsm, hsm _ _ hwa1, hrows.same hsm, hDl, hvl, hv⟩
      rintro σ2 H3 ⟨vs2, rfl, sm3, hwa3, hrows3, hD3, hvl2, hv2⟩
      refine ⟨_, rfl, .inl ⟨rfl, _, SqL.of hwa3⟩, _, rfl, D, _, rfl, .inl ⟨SqL.of hD3, fun tp htp => ?_⟩⟩
      have hwa4 : L2.upd H3 tp (.tup (intsV vs2)) wa = some (.lst (rs.map V.ref)) := upd_keep hwa3 htp
      refine ⟨wa, _, _, rfl, rfl, hwa4, by rw [List.length_map, hrs]; exact small1000 (Nat.le_trans (Nat.le_of_lt hi2) h1000), ?_⟩
      refine ⟨rs ++ [tp], W' ++ [vs2], _, _, rfl, Same.set (sm3.trans (Same.upd htp)) hwa, ?_, by rw [List.length_append, hrs]; rfl, by rw [List.length_append, hW']; rfl, rows_snoc hrows3 (hrs.trans hW'.symm) (fun b xs z => upd_keep2 (upd_keep z htp) hwa4 (by intro z; cases z)) (upd_keep2 upd_same hwa4 (by intro z; cases z)), fun ws hws => ?_⟩
      · rw [upd_same, List.map_append]
        rfl
      · rcases List.mem_append.mp hws with z | z
        · exact hW ws z
        · rw [List.mem_singleton.mp z]
          exact ⟨hvl2, hv2⟩
    · rintro σ' H1 ⟨rs, W', s6, s7, rfl, sm, hwa1, hrs, hW', hrows, hW⟩
      have hWn : W'.length = W.length := hW'
      dsimp only [gName, tNext, tSeq, tAsg]
      refine comp_rngG (n := W.length) (fun R h => ⟨_, rfl, h⟩) h1000 (fun D j ys H' => ∃ bs : List Bool, ys = bs.map V.bl ∧ bs.length = j) (fun D hD => ⟨[], rfl, rfl⟩) ?_ ?_
      · intro D j ys H' R1 R2 hD hj hsm hDl hp k1 k2
        obtain ⟨bs, rfl, hbl⟩ := hp
        have fin : ∀ b : Bool, R1 (.bl b) H' := fun b => k1 _ H' hDl (Same.set hsm hD) ⟨bs ++ [b], by rw [List.map_append]; rfl, by rw [List.length_append, hbl]; rfl⟩
        refine tAlways_if ⟨_, rfl, _, rfl, _, _, rfl, rfl, rfl, _, rfl, iteB (fun _ => fin _) (fun _ => ?_)⟩
        refine ⟨_, rfl, _, _, rfl, rfl, ⟨by decide, by decide⟩, _, rfl, _, _, rfl, rfl, ar_fd hn1 hn60, _, _, rfl, rfl, by decide, fun g _ _ => ⟨rfl, _, rfl, iteB (fun _ => ⟨_, rfl, _, rfl, rfl, fin _⟩) (fun _ => fin _)⟩⟩
      intro D ys H2 hD hsm hDl hp
      obtain ⟨bs, rfl, hbl⟩ := hp
      have sm2 := sm.trans hsm
      refine ⟨_, rfl, m, _, _, _, rfl, rfl, SqT.of (sm2 _ _ h1), atI_nat (j := 0) rfl, _, rfl, wa, _, rfl, .inl ⟨SqL.of (hsm _ _ hwa1), fun tw htw => ⟨_, rfl, D, _, rfl, .inl ⟨SqL.of (upd_keep hDl htw), fun tm htm => ⟨line_ge (by show 3 ≤ 16777216; decide), fun m' hm' => ?_⟩⟩⟩⟩⟩
      have up : Same H2 (L2.upd (L2.upd (L2.upd H2 tw (.tup (rs.map V.ref))) tm (.tup (bs.map V.bl))) m' (.tup [.str (tx L), .ref tw, .ref tm])) := (Same.upd htw).trans ((Same.upd htm).trans (Same.upd hm'))
      exact q m' W' bs _ (sm2.trans up) ⟨tw, tm, rs, upd_same, upd_keep (upd_keep upd_same htm) hm', upd_keep upd_same hm', hrs.trans hW'.symm, (hrows.same hsm).same up⟩ ⟨hMa.lt, by rw [hWn]; exact hn1, by rw [hWn]; exact hn60, hbl.trans hWn.symm, fun ws hws => ⟨(hW ws hws).1, fun x hx => by rw [hWn]; exact (hW ws hws).2 x hx⟩⟩ hWn
theorem sc__law_twins : FnScope ["_law_machine_here", "_law_cell", "_law_ways", "_law_marks", "_law_number", "_law_k"] ["_law_machine_here", "_law_cell"] (defScope s__law_twins) := ⟨rfl, rfl, rfl, by decide +kernel, rfl, by decide +kernel, by decide +kernel⟩
set_option maxHeartbeats 4000000 in
theorem ok__law_twins {f : Addr} {fd : FuncData} (F : Fun K "_law_twins" "_law_twins" s__law_twins f fd) (T : Txt K mg) : FnOk P w K mg base CX0 1 f fd ["_law_machine_here", "_law_cell"] sp_twins := by
  refine F.ok sc__law_twins (fun vs H Q E h => ?_) (fun cdv A outer s H vs Q E hr h => ?_)
  · obtain ⟨m, L, W, B, c, rfl, _⟩ := h
    rfl
  · obtain ⟨m, L, W, B, c, rfl, hM, hMa, q⟩ := h
    obtain ⟨wy, mk, rows, h1, h2, h3, h4, h5⟩ := hM
    refine ⟨_, (pss_cons ((ps_set (i := 2) sc__law_twins.nd rfl (Or.inl rfl) ((pe_callTy call_list_of (by rfl) T.list PyProof.Rows.boot_list (pa_cons (pe_ix ix_tup (pv 0) (pe_int) (fun _ _ => rfl)) pa_nil))))) (pss_cons ((ps_set (i := 3) sc__law_twins.nd rfl (Or.inl rfl) ((pe_callTy call_list_of (by rfl) T.list PyProof.Rows.boot_list (pa_cons (pe_ix ix_tup (pv 0) (pe_int) (fun _ _ => rfl)) pa_nil))))) (pss_cons ((ps_set (i := 4) sc__law_twins.nd rfl (Or.inl rfl) (pe_op op_modG (pv 1) pe_int))) (pss_cons ((ps_for PassesOwn.never rfl (pi_range2 rfl T.range (pa_cons pe_int (pa_cons (pe_callB call_len_seq (by rfl) T.len PySem.boot_len (pa_cons (pv 2) pa_nil)) pa_nil))) (pg_name (i := 5) sc__law_twins.nd rfl (Or.inl rfl)) ((pss_cons ((ps_set (i := 4) sc__law_twins.nd rfl (Or.inl rfl) (pe_op op_modG (pe_op op_a (pe_op op_a (pe_op op_p (pv 4) (pv 4)) (pe_op op_p pe_int (pv 4))) (pv 5)) pe_int))) (pss_one ((ps_if (pt_cmpR op_eq (pe_op op_modG (pv 4) pe_int) pe_int (nomark _)) ((pss_cons (ps_asg (pe_ix ix_list (pv 2) (pe_op op_modG (pe_op op_f (pv 4) pe_int) (pv 5)) (fun _ _ => rfl)) (pg_sub (pv 2) (pv 5) set_list)) (pss_one (ps_asg (pe_ix ix_list (pv 3) (pe_op op_modG (pe_op op_f (pv 4) pe_int) (pv 5)) (fun _ _ => rfl)) (pg_sub (pv 3) (pv 5) set_list))))) (pss_nil)))))))) (pss_one (ps_ret (pe_tup (pa_cons (pe_ix ix_tup (pv 0) (pe_int) (fun _ _ => rfl)) (pa_cons (pe_callTy call_tuple_of (by rfl) T.tuple PyProof.Rows.boot_tuple (pa_cons (pv 2) pa_nil)) (pa_cons (pe_callTy call_tuple_of (by rfl) T.tuple PyProof.Rows.boot_tuple (pa_cons (pv 3) pa_nil)) pa_nil)))))))))), ?_⟩
    have hn1 := hMa.n1
    have hn60 := hMa.n60
    have h1000 : W.length ≤ 1000 := Nat.le_trans hn60 (by decide)
    have hbl := hMa.bl
    have hrl : (rows.map V.ref).length = W.length := by rw [List.length_map, h4]
    refine ⟨_, rfl, m, _, _, _, rfl, rfl, SqT.of h1, atI_nat (j := 1) rfl, wy, _, rfl, .inr (SqT.of h2), fun wa hwa => ?_⟩
    refine ⟨_, rfl, m, _, _, _, rfl, rfl, SqT.of (upd_keep h1 hwa), atI_nat (j := 2) rfl, mk, _, rfl, .inr (SqT.of (upd_keep h3 hwa)), fun ma hma => ?_⟩
    have hwm : wa ≠ ma := ne_of_none upd_same hma
    have hma0 : H ma = none := by rw [upd_ne hwm.symm] at hma; exact hma
    refine ⟨_, rfl, _, _, rfl, rfl, by decide, fun n0 hn0 hn0' => ?_⟩
    refine ⟨_, rfl, wa, _, rfl, .inl (SqL.of (upd_keep upd_same hma)), _, _, rfl, ⟨by decide, by decide, by rw [hrl]; exact (ar_rng h1000).1, by rw [hrl]; exact (ar_rng h1000).2⟩, ?_⟩
    rw [hrl]
    refine for_range (n := (((W.length : Nat) : Int) - 1).toNat) (fun i σ' H' => ∃ (rs : List Addr) (W' : List (List Nat)) (B' : List Bool) (num : Int) (s5 : Option V), σ' = [some (.ref m), some (.int c), some (.ref wa), some (.ref ma), some (.int num), s5] ∧ 0 ≤ num ∧ num < 2147483647 ∧ Same H H' ∧ H' wa = some (.lst (rs.map V.ref)) ∧ H' ma = some (.lst (B'.map V.bl)) ∧ rs.length = W.length ∧ W'.length = W.length ∧ B'.length = W.length ∧ RowsAt H' rs W' ∧ ∀ ws ∈ W', ws.length = L.length ∧ ∀ x ∈ ws, x < W.length) ?_ ?_ ?_
    · have sm : Same H (L2.upd (L2.upd H wa (.lst (rows.map V.ref))) ma (.lst (B.map V.bl))) := (Same.upd hwa).trans (Same.upd hma)
      exact ⟨rows, W, B, n0, none, rfl, hn0, hn0', sm, upd_keep upd_same hma, upd_same, h4, rfl, hbl, h5.same sm, hMa.row⟩
    · rintro i σ' H1 hi ⟨rs, W', B', num, s5, rfl, hq0, hq1, sm, hwa1, hma1, hrs, hW', hB', hrows, hW⟩
      refine ⟨_, rfl, _, rfl, _, _, rfl, rfl, .inl (ar_64 hq0 hq1), _, rfl, _, _, rfl, rfl, .inl ⟨by decide, by decide⟩, _, _, rfl, rfl, _, rfl, _, _, rfl, rfl, _, _, rfl, rfl, by decide, fun num2 hm0 hm1 => ?_⟩
      have hiW := ar_iW hi
      have hi0 := Int.le_of_lt (ar_pos i)
      refine ⟨_, rfl, _, _, rfl, rfl, by decide, fun r3 _ _ => ⟨rfl, _, rfl, ite3 (fun _ => ?_) (fun _ => ?_)⟩⟩
      case _ =>
        refine ⟨_, rfl, _, rfl, _, _, rfl, rfl, ⟨by decide, by decide⟩, _, rfl, _, _, rfl, rfl, ar_pos i, fun j1 hj0 hj1 => ?_⟩
        have hj1' : j1.toNat < rs.length := by rw [hrs]; exact ar_toNat hj0 (Int.lt_trans hj1 hiW)
        obtain ⟨t, ht⟩ : ∃ t, rs[j1.toNat]? = some t := ⟨rs[j1.toNat], List.getElem?_eq_getElem hj1'⟩
        obtain ⟨ws, hws, _⟩ := hrows _ _ ht
        have hat : atI (rs.map V.ref) j1 = some (.ref t) := by
          have := atI_map V.ref ht
          rwa [Int.toNat_of_nonneg hj0] at this
        have hix : ixN (rs.map V.ref).length (1 + (i : Int)) = some (1 + (i : Int)).toNat := ixN_in hi0 (by rw [List.length_map, hrs]; exact hiW)
        refine ⟨wa, _, _, _, rfl, rfl, SqL.of hwa1, hat, _, rfl, _, rfl, wa, _, _, _, rfl, rfl, hwa1, hix, ?_⟩
        rw [set_mapL]
        have hma2 : L2.upd H1 wa (.lst ((rs.set (1 + (i : Int)).toNat t).map V.ref)) ma = some (.lst (B'.map V.bl)) := by rw [upd_ne hwm.symm]; exact hma1
        refine ⟨_, rfl, _, rfl, _, _, rfl, rfl, ⟨by decide, by decide⟩, _, rfl, _, _, rfl, rfl, ar_pos i, fun j2 hk0 hk1 => ?_⟩
        have hk1' : j2.toNat < B'.length := by rw [hB']; exact ar_toNat hk0 (Int.lt_trans hk1 hiW)
        have hat2 : atI (B'.map V.bl) j2 = some (.bl B'[j2.toNat]) := by
          have := atI_map V.bl (List.getElem?_eq_getElem hk1')
          rwa [Int.toNat_of_nonneg hk0] at this
        have hix2 : ixN (B'.map V.bl).length (1 + (i : Int)) = some (1 + (i : Int)).toNat := ixN_in hi0 (by rw [List.length_map, hB']; exact hiW)
        refine ⟨ma, _, _, _, rfl, rfl, SqL.of hma2, hat2, _, rfl, _, rfl, ma, _, _, _, rfl, rfl, hma2, hix2, ?_⟩
        rw [set_mapL]
        refine ⟨rs.set (1 + (i : Int)).toNat t, W'.set (1 + (i : Int)).toNat ws, B'.set (1 + (i : Int)).toNat B'[j2.toNat], num2, _, rfl, hm0, Int.lt_trans hm1 (by decide), same_set2 sm hwa hma0, by rw [upd_ne hwm, upd_same], upd_same, by rw [List.length_set]; exact hrs, by rw [List.length_set]; exact hW', by rw [List.length_set]; exact hB', ?_, fun v hv => ?_⟩
        · have keep : ∀ b xs, H1 b = some (.tup xs) → L2.upd (L2.upd H1 wa (.lst ((rs.set (1 + (i : Int)).toNat t).map V.ref))) ma (.lst ((B'.set (1 + (i : Int)).toNat B'[j2.toNat]).map V.bl)) b = some (.tup xs) := fun b xs z => by
            rw [upd_ne (ne_of z hma1 (by intro z; cases z)), upd_ne (ne_of z hwa1 (by intro z; cases z))]
            exact z
          have hR := rows_set (k := (1 + (i : Int)).toNat) hrows (hrs.trans hW'.symm) (by rw [hW']; exact ar_toNat hi0 hiW) ht hws
          exact fun a r e => by
            obtain ⟨v, e1, e2⟩ := hR a r e
            exact ⟨v, e1, keep _ _ e2⟩
        · rcases List.mem_or_eq_of_mem_set hv with z | z
          · exact hW v z
          · rw [z]
            exact hW ws (List.mem_of_getElem? hws)
      case _ => exact ⟨rs, W', B', num2, _, rfl, hm0, Int.lt_trans hm1 (by decide), sm, hwa1, hma1, hrs, hW', hB', hrows, hW⟩
    · rintro σ' H2 ⟨rs, W', B', num, s5, rfl, hq0, hq1, sm, hwa1, hma1, hrs, hW', hB', hrows, hW⟩
      refine ⟨_, rfl, m, _, _, _, rfl, rfl, SqT.of (sm _ _ h1), atI_nat (j := 0) rfl, _, rfl, wa, _, rfl, .inl ⟨SqL.of hwa1, fun tw htw => ⟨_, rfl, ma, _, rfl, .inl ⟨SqL.of (upd_keep hma1 htw), fun tm htm => ⟨line_ge (by show 3 ≤ 16777216; decide), fun m' hm' => ?_⟩⟩⟩⟩⟩
      have up : Same H2 (L2.upd (L2.upd (L2.upd H2 tw (.tup (rs.map V.ref))) tm (.tup (B'.map V.bl))) m' (.tup [.str (tx L), .ref tw, .ref tm])) := (Same.upd htw).trans ((Same.upd htm).trans (Same.upd hm'))
      exact q m' W' B' _ (sm.trans up) ⟨tw, tm, rs, upd_same, upd_keep (upd_keep upd_same htm) hm', upd_keep upd_same hm', hrs.trans hW'.symm, hrows.same up⟩ ⟨hMa.lt, by rw [hW']; exact hn1, by rw [hW']; exact hn60, hB'.trans hW'.symm, fun ws hws => ⟨(hW ws hws).1, fun x hx => by rw [hW']; exact (hW ws hws).2 x hx⟩⟩ hW'
theorem sc__law_some : FnScope ["_law_script", "_law_rooms", "_law_letters_here", "_law_machine_here", "_law_kind"] ["_law_script", "_law_rooms", "_law_letters_here"] (defScope s__law_some) := ⟨rfl, rfl, rfl, by decide +kernel, rfl, by decide +kernel, by decide +kernel⟩
set_option maxHeartbeats 4000000 in
theorem ok__law_some {f : Addr} {fd : FuncData} (F : Fun K "_law_some" "_law_some" s__law_some f fd) (T : Txt K mg) (d__law_machine : Df P w K mg base "_law_machine" 2 ["_law_script", "_law_at", "_law_rooms", "_law_letters_here"] (sp_machine K)) (d__law_cell_at : Df P w K mg base "_law_cell_at" 1 ["_law_script", "_law_k"] (sp_cell K)) (d__law_long : Df P w K mg base "_law_long" 1 ["_law_machine_here", "_law_cell"] sp_long) (d__law_twins : Df P w K mg base "_law_twins" 1 ["_law_machine_here", "_law_cell"] sp_twins) : FnOk P w K mg base CX0 3 f fd ["_law_script", "_law_rooms", "_law_letters_here"] (sp_some K) := by
  refine F.ok sc__law_some (fun vs H Q E h => ?_) (fun cdv A outer s H vs Q E hr h => ?_)
  · obtain ⟨a, ns, n, L, rfl, _⟩ := h
    rfl
  · obtain ⟨a, ns, n, L, rfl, hS, hn1, hn60, hL, q⟩ := h
    have hr1 := hr.mono (j := 1) (by decide)
    refine ⟨_, (pss_cons ((ps_set (i := 3) sc__law_some.nd rfl (Or.inl rfl) ((pe_df d__law_machine hr (pa_cons (pv 0) (pa_cons (pe_int) (pa_cons (pv 1) (pa_cons (pv 2) pa_nil)))))))) (pss_cons ((ps_set (i := 4) sc__law_some.nd rfl (Or.inl rfl) (pe_op op_modG (pe_df d__law_cell_at hr1 (pa_cons (pv 0) (pa_cons (pe_int) pa_nil))) pe_int))) (pss_cons ((ps_if (pt_cmpR op_eq (pv 4) pe_int (nomark _)) ((pss_one (ps_ret (pe_df d__law_long hr1 (pa_cons (pv 3) (pa_cons (pe_op op_m (pe_op op_f (pe_df d__law_cell_at hr1 (pa_cons (pv 0) (pa_cons (pe_int) pa_nil))) pe_int) (pe_op op_pow pe_int pe_int)) pa_nil)))))) (pss_nil))) (pss_cons ((ps_if (pt_cmpR op_eq (pv 4) pe_int (nomark _)) ((pss_one (ps_ret (pe_df d__law_twins hr1 (pa_cons (pv 3) (pa_cons (pe_op op_f (pe_df d__law_cell_at hr1 (pa_cons (pv 0) (pa_cons (pe_int) pa_nil))) pe_int) pa_nil)))))) (pss_nil))) (pss_one (ps_ret (pv 3))))))), ?_⟩
    refine ⟨_, rfl, _, rfl, _, rfl, a, ns, 4, n, L, rfl, hS, by decide, hn1, hn60, hL, fun m W B H1 s1 hM hMa hWn => ?_⟩
    have hS1 := s1.seq hS
    refine ⟨_, rfl, a, ns, 3, rfl, hS1, by decide, fun z1 => ⟨_, _, rfl, rfl, by decide, fun kd _ _ => ?_⟩⟩
    refine ⟨_, rfl, rfl, _, rfl, ite3 (fun _ => ?_) (fun _ => ?_)⟩
    case _ =>
      exact ⟨_, rfl, _, rfl, a, ns, 3, rfl, hS1, by decide, fun z2 => ⟨_, _, rfl, rfl, ⟨by decide, by decide⟩, _, _, rfl, rfl, ⟨by decide, by decide, by decide⟩, _, _, rfl, rfl, by decide, m, L, W, B, _, rfl, hM, hMa, fun m' W' B' H2 s2 hM2 hMa2 hW2 => q m' W' B' H2 (s1.trans s2) hM2 hMa2 (hW2.trans hWn)⟩⟩
    refine ⟨_, rfl, rfl, _, rfl, ite3 (fun _ => ?_) (fun _ => ?_)⟩
    case _ =>
      exact ⟨_, rfl, _, rfl, a, ns, 3, rfl, hS1, by decide, fun z2 => ⟨_, _, rfl, rfl, ⟨by decide, by decide⟩, m, L, W, B, _, rfl, hM, hMa, fun m' W' B' H2 s2 hM2 hMa2 hW2 => q m' W' B' H2 (s1.trans s2) hM2 hMa2 (hW2.trans hWn)⟩⟩
    exact ⟨_, rfl, q m W B H1 s1 hM hMa hWn⟩
theorem sc__law_is_machine : FnScope ["_law_found", "_law_letters_here", "_law_row", "_law_goal"] ["_law_found", "_law_letters_here"] (defScope s__law_is_machine) := ⟨rfl, rfl, rfl, by decide +kernel, rfl, by decide +kernel, by decide +kernel⟩
set_option maxHeartbeats 4000000 in
theorem ok__law_is_machine {f : Addr} {fd : FuncData} (F : Fun K "_law_is_machine" "_law_is_machine" s__law_is_machine f fd) (T : Txt K mg) : FnOk P w K mg base CX0 1 f fd ["_law_found", "_law_letters_here"] sp_ismach := by
  refine F.ok sc__law_is_machine (fun vs H Q E h => ?_) (fun cdv A outer s H vs Q E hr h => ?_)
  · obtain ⟨m, L, W, B, rfl, _⟩ := h
    rfl
  · obtain ⟨m, L, W, B, rfl, hM, hMa, q⟩ := h
    refine ⟨_, (pss_cons ((ps_if ((pw_or (pt_not (pt_val (pe_callB (call_isG (T := "tuple")) (by rfl) T.isinst PyProof.Rows.boot_isinstance (pa_cons (pv 0) (pa_cons (pe_bltn (v := .ty "tuple") (by rfl) T.tuple PyProof.Rows.boot_tuple rfl) pa_nil))))) (pw_or (pt_cmpR op_ne (pe_callB call_len_seq (by rfl) T.len PySem.boot_len (pa_cons (pv 0) pa_nil)) pe_int (nomark _)) (pw_or (pt_not (pt_val (pe_callB (call_isG (T := "str")) (by rfl) T.isinst PyProof.Rows.boot_isinstance (pa_cons (pe_ix ix_tup (pv 0) (pe_int) (fun _ _ => rfl)) (pa_cons (pe_bltn (v := .ty "str") (by rfl) T.str PyProof.Rows.boot_str rfl) pa_nil))))) (pw_or1 (pt_cmpR op_ne (pe_ix ix_tup (pv 0) (pe_int) (fun _ _ => rfl)) (pv 1) (nomark _)))))).pt) ((pss_one (ps_ret pe_bl))) (pss_nil))) (pss_cons ((ps_if ((pw_or (pt_not (pt_val (pe_callB (call_isG (T := "tuple")) (by rfl) T.isinst PyProof.Rows.boot_isinstance (pa_cons (pe_ix ix_tup (pv 0) (pe_int) (fun _ _ => rfl)) (pa_cons (pe_bltn (v := .ty "tuple") (by rfl) T.tuple PyProof.Rows.boot_tuple rfl) pa_nil))))) (pw_or (pt_not (pt_val (pe_callB (call_isG (T := "tuple")) (by rfl) T.isinst PyProof.Rows.boot_isinstance (pa_cons (pe_ix ix_tup (pv 0) (pe_int) (fun _ _ => rfl)) (pa_cons (pe_bltn (v := .ty "tuple") (by rfl) T.tuple PyProof.Rows.boot_tuple rfl) pa_nil))))) (pw_or1 (pt_cmpR op_eq (pe_callB call_len_seq (by rfl) T.len PySem.boot_len (pa_cons (pe_ix ix_tup (pv 0) (pe_int) (fun _ _ => rfl)) pa_nil)) pe_int (nomark _))))).pt) ((pss_one (ps_ret pe_bl))) (pss_nil))) (pss_cons ((ps_for PassesOwn.never rfl (pi_tup (pe_ix ix_tup (pv 0) (pe_int) (fun _ _ => rfl))) (pg_name (i := 2) sc__law_is_machine.nd rfl (Or.inl rfl)) ((pss_cons ((ps_if ((pw_or (pt_not (pt_val (pe_callB (call_isG (T := "tuple")) (by rfl) T.isinst PyProof.Rows.boot_isinstance (pa_cons (pv 2) (pa_cons (pe_bltn (v := .ty "tuple") (by rfl) T.tuple PyProof.Rows.boot_tuple rfl) pa_nil))))) (pw_or1 (pt_cmpR op_ne (pe_callB call_len_seq (by rfl) T.len PySem.boot_len (pa_cons (pv 2) pa_nil)) (pe_callB call_len_str (by rfl) T.len PySem.boot_len (pa_cons (pv 1) pa_nil)) (nomark _)))).pt) ((pss_one (ps_ret pe_bl))) (pss_nil))) (pss_one ((ps_for PassesOwn.never rfl (pi_tup (pv 2)) (pg_name (i := 3) sc__law_is_machine.nd rfl (Or.inl rfl)) ((pss_one ((ps_if ((pw_or (pt_not (pt_val (pe_callB (call_isG (T := "int")) (by rfl) T.isinst PyProof.Rows.boot_isinstance (pa_cons (pv 3) (pa_cons (pe_bltn (v := .ty "int") (by rfl) T.int PyProof.Rows.boot_int rfl) pa_nil))))) (pw_or (pt_val (pe_callB (call_isG (T := "bool")) (by rfl) T.isinst PyProof.Rows.boot_isinstance (pa_cons (pv 3) (pa_cons (pe_bltn (v := .ty "bool") (by rfl) T.bool PyProof.Rows.boot_bool rfl) pa_nil)))) (pw_or (pt_cmpR op_lt (pv 3) pe_int (nomark _)) (pw_or1 (pt_cmpR op_ge (pv 3) (pe_callB call_len_seq (by rfl) T.len PySem.boot_len (pa_cons (pe_ix ix_tup (pv 0) (pe_int) (fun _ _ => rfl)) pa_nil)) (nomark _)))))).pt) ((pss_one (ps_ret pe_bl))) (pss_nil)))))))))))) (pss_one (ps_ret (pe_and (pe_cmpR op_eq (pe_callB call_len_seq (by rfl) T.len PySem.boot_len (pa_cons (pe_ix ix_tup (pv 0) (pe_int) (fun _ _ => rfl)) pa_nil)) (pe_callB call_len_seq (by rfl) T.len PySem.boot_len (pa_cons (pe_ix ix_tup (pv 0) (pe_int) (fun _ _ => rfl)) pa_nil)) (nomark _)) (pe_one (pe_callB (call_allB rfl) (by rfl) T.all PyProof.Rows.boot_all (pa_cons (pe_compS ["_law_found", "_law_letters_here", "_law_row", "_law_goal"] rfl (by decide) (pi_sq (pe_ix ix_tup (pv 0) (pe_int) (fun _ _ => rfl))) (fun cl C fp s' H' => ⟨pts_nil, (pe_callB (call_isK (T := "bool") K) (by rfl) T.isinst PyProof.Rows.boot_isinstance (pa_cons (pv 0) (pa_cons (pe_bltn (v := .ty "bool") (by rfl) T.bool PyProof.Rows.boot_bool rfl) pa_nil)))⟩)) pa_nil))))))))), ?_⟩
    obtain ⟨wy, mk, rows, h1, h2, h3, h4, h5⟩ := hM
    have hz : (tx L).length ≤ sizeLine := line_ge (by rw [tx_len]; exact Nat.le_trans hMa.lt.hi (by decide))
    have hrl : (rows.map V.ref).length = W.length := by rw [List.length_map, h4]
    have hn1 := hMa.n1
    have a0 : ∀ {H' : Hp}, Same H H' → SqT K H' m [.str (tx L), .ref wy, .ref mk] := fun s => SqT.of (s _ _ h1)
    have rf := Same.refl H
    refine ⟨_, rfl, _, _, _, rfl, TyOf.tup h1, (kit_any K).1, _, rfl, iteF ⟨_, rfl, m, _, rfl, .inr (SqT.of h1), rfl, _, rfl, iteNS rfl ?_⟩⟩
    refine ⟨_, rfl, m, _, _, _, rfl, rfl, SqT.of h1, atI_nat (j := 0) rfl, _, _, _, rfl, TyOf.str _, kit_ss K, _, rfl, iteF ?_⟩
    refine ⟨_, rfl, m, _, _, _, rfl, rfl, SqT.of h1, atI_nat (j := 0) rfl, _, rfl, rfl, _, rfl, iteNS rfl ?_⟩
    refine ⟨_, rfl, m, _, _, _, rfl, rfl, SqT.of h1, atI_nat (j := 1) rfl, _, _, _, rfl, TyOf.tup h2, (kit_any K).1, _, rfl, iteF ?_⟩
    refine ⟨_, rfl, m, _, _, _, rfl, rfl, SqT.of h1, atI_nat (j := 2) rfl, _, _, _, rfl, TyOf.tup h3, (kit_any K).1, _, rfl, iteF ?_⟩
    refine ⟨_, rfl, m, _, _, _, rfl, rfl, SqT.of h1, atI_nat (j := 1) rfl, wy, _, rfl, .inr (SqT.of h2), rfl, _, rfl, ?_⟩
    rw [hrl, dec_int0 (by omega)]
    refine iteF ?_
    refine ⟨_, rfl, m, _, _, _, rfl, rfl, SqT.of h1, atI_nat (j := 1) rfl, wy, rfl, ⟨_, SqT.of h2⟩, ?_⟩
    refine for_tup (K := K) (a := wy) (xs := rows.map V.ref) (fun i σ' H' => ∃ s2 s3, σ' = [some (.ref m), some (.str (tx L)), s2, s3] ∧ H' = H) ⟨none, none, rfl, rfl⟩ ?_ ?_ ?_
    · rintro i σ' H' hi ⟨s2, s3, rfl, rfl⟩
      exact SqT.of h2
    · rintro i x σ' H' hx ⟨s2, s3, rfl, rfl⟩
      rw [List.getElem?_map] at hx
      obtain ⟨ra, hra, rfl⟩ := Option.map_eq_some_iff.mp hx
      obtain ⟨ws, hws, hrow⟩ := h5 i ra hra
      obtain ⟨hwl, hwb⟩ := hMa.row ws (List.mem_of_getElem? hws)
      refine ⟨_, rfl, _, _, _, rfl, TyOf.tup hrow, (kit_any K).1, _, rfl, iteF ⟨_, rfl, ra, _, rfl, .inr (SqT.of hrow), _, rfl, _, rfl, hz, rfl, _, rfl, ?_⟩⟩
      rw [intsV_len, hwl, tx_len]
      refine iteNS rfl ?_
      refine ⟨_, rfl, ra, rfl, ⟨_, SqT.of hrow⟩, ?_⟩
      refine for_tup (K := K) (a := ra) (xs := intsV ws) (fun i σ' H2 => ∃ s3, σ' = [some (.ref m), some (.str (tx L)), some (.ref ra), s3] ∧ H2 = H') ⟨_, rfl, rfl⟩ ?_ ?_ ?_
      · rintro j σ' H2 hj ⟨s3, rfl, rfl⟩
        exact SqT.of hrow
      · rintro j x σ' H2 hxj ⟨s3, rfl, rfl⟩
        have hj : j < ws.length := by have := (List.getElem?_eq_some_iff.mp hxj).1; rwa [intsV_len] at this
        rw [intsV_get hj] at hxj
        cases hxj
        have hg := hwb _ (getD_in hj)
        refine ⟨_, rfl, _, _, _, rfl, TyOf.int _, kit_ii K, _, rfl, iteF ⟨_, rfl, _, _, _, rfl, TyOf.int _, kit_ib K, _, rfl, iteF ⟨_, rfl, _, _, rfl, rfl, _, rfl, ?_⟩⟩⟩
        rw [decide_eq_false (Int.not_lt.mpr (Int.natCast_nonneg _))]
        refine iteF ⟨_, rfl, _, rfl, m, _, _, _, rfl, rfl, SqT.of h1, atI_nat (j := 1) rfl, wy, _, rfl, .inr (SqT.of h2), _, _, rfl, rfl, _, rfl, ?_⟩
        rw [hrl, decide_eq_false (Int.not_le.mpr (Int.ofNat_lt.mpr hg))]
        exact iteF ⟨_, rfl, rfl⟩
      · rintro σ' H2 ⟨s3, rfl, rfl⟩
        exact ⟨_, _, rfl, rfl⟩
    · rintro σ' H' ⟨s2, s3, rfl, rfl⟩
      refine ⟨_, rfl, m, _, _, _, rfl, rfl, SqT.of h1, atI_nat (j := 2) rfl, mk, _, rfl, .inr (SqT.of h3), _, rfl, m, _, _, _, rfl, rfl, SqT.of h1, atI_nat (j := 1) rfl, wy, _, rfl, .inr (SqT.of h2), rfl, _, rfl, ?_⟩
      rw [hrl, List.length_map, hMa.bl, dec_nat, decide_eq_true rfl]
      refine iteT ?_
      dsimp only [tCB, tCons]
      refine comp_sq (a := mk) (fun R h => ⟨_, rfl, m, _, _, _, rfl, rfl, SqT.of h1, atI_nat (j := 2) rfl, h⟩) (.inr rfl) h3 (fun D j ys H2 => ys = (List.replicate j true).map V.bl) (by rw [List.length_map, hMa.bl]; exact line_ge (Nat.le_trans hMa.n60 (by decide))) (fun D hD => rfl) ?_ ?_
      · intro D j x ys H2 R1 R2 hD hxj hsm hDl hp k1 k2
        rw [List.getElem?_map] at hxj
        obtain ⟨b, hb, rfl⟩ := Option.map_eq_some_iff.mp hxj
        refine tAlways_if ⟨_, rfl, _, _, _, rfl, TyOf.bl _, kit_bb K, k1 _ H2 hDl (Same.set hsm hD) ?_⟩
        rw [hp, List.replicate_succ', List.map_append]
        rfl
      · intro D ys H2 hD hsm hDl hp
        subst hp
        exact ⟨D, _, rfl, hDl, fun b hb => (List.mem_replicate.mp hb).2, q _ hsm⟩
theorem sc__law_alike : FnScope ["_law_machine_here", "_law_left", "_law_second", "_law_right", "_law_seen", "_law_row", "_law_at", "_law_k", "_law_pair"] ["_law_machine_here", "_law_left", "_law_second", "_law_right"] (defScope s__law_alike) := ⟨rfl, rfl, rfl, by decide +kernel, rfl, by decide +kernel, by decide +kernel⟩
set_option maxHeartbeats 4000000 in
theorem ok__law_alike {f : Addr} {fd : FuncData} (F : Fun K "_law_alike" "_law_alike" s__law_alike f fd) (T : Txt K mg) : FnOk P w K mg base CX0 1 f fd ["_law_machine_here", "_law_left", "_law_second", "_law_right"] sp_alike2 := by
  refine F.ok sc__law_alike (fun vs H Q E h => ?_) (fun cdv A outer s H vs Q E hr h => ?_)
  · obtain ⟨m, m2, L, W, B, W2, B2, l, r, rfl, _⟩ := h
    rfl
  · obtain ⟨m, m2, L, W, B, W2, B2, l, r, rfl, hM, hMa, hN, hNa, hl, hr0, q⟩ := h
    obtain ⟨wy, mk, rows, h1, h2, h3, h4, h5⟩ := hM
    obtain ⟨wy2, mk2, rows2, g1, g2, g3, g4, g5⟩ := hN
    refine ⟨_, (pss_cons ((ps_set (i := 4) sc__law_alike.nd rfl (Or.inl rfl) (pe_done hr.units (pe_tup (pa_cons (pv 1) (pa_cons (pv 3) pa_nil))) pe_bl))) (pss_cons ((ps_set (i := 5) sc__law_alike.nd rfl (Or.inl rfl) (pe_lst (pa_cons (pe_tup (pa_cons (pv 1) (pa_cons (pv 3) pa_nil))) pa_nil)))) (pss_cons ((ps_set (i := 6) sc__law_alike.nd rfl (Or.inl rfl) (pe_int))) (pss_cons (ps_while PassesOwn.never (pt_cmpR op_lt (pv 6) (pe_callB call_len_seq (by rfl) T.len PySem.boot_len (pa_cons (pv 5) pa_nil)) (nomark _)) (pss_cons ((ps_if (pt_cmpR op_ne (pe_ix ix_tup (pe_ix ix_tup (pv 0) (pe_int) (fun _ _ => rfl)) (pe_ix ix_tup (pe_ix ix_list (pv 5) (pv 6) (fun _ _ => rfl)) (pe_int) (fun _ _ => rfl)) (fun _ _ => rfl)) (pe_ix ix_tup (pe_ix ix_tup (pv 2) (pe_int) (fun _ _ => rfl)) (pe_ix ix_tup (pe_ix ix_list (pv 5) (pv 6) (fun _ _ => rfl)) (pe_int) (fun _ _ => rfl)) (fun _ _ => rfl)) (nomark _)) ((pss_one (ps_ret pe_bl))) (pss_nil))) (pss_cons ((ps_for PassesOwn.never rfl (pi_range1 rfl T.range (pa_cons (pe_callB call_len_str (by rfl) T.len PySem.boot_len (pa_cons (pe_ix ix_tup (pv 0) (pe_int) (fun _ _ => rfl)) pa_nil)) pa_nil)) (pg_name (i := 7) sc__law_alike.nd rfl (Or.inl rfl)) ((pss_cons ((ps_set (i := 8) sc__law_alike.nd rfl (Or.inl rfl) (pe_tup (pa_cons (pe_ix ix_tup (pe_ix ix_tup (pe_ix ix_tup (pv 0) (pe_int) (fun _ _ => rfl)) (pe_ix ix_tup (pe_ix ix_list (pv 5) (pv 6) (fun _ _ => rfl)) (pe_int) (fun _ _ => rfl)) (fun _ _ => rfl)) (pv 7) (fun _ _ => rfl)) (pa_cons (pe_ix ix_tup (pe_ix ix_tup (pe_ix ix_tup (pv 2) (pe_int) (fun _ _ => rfl)) (pe_ix ix_tup (pe_ix ix_list (pv 5) (pv 6) (fun _ _ => rfl)) (pe_int) (fun _ _ => rfl)) (fun _ _ => rfl)) (pv 7) (fun _ _ => rfl)) pa_nil))))) (pss_one ((ps_if (pt_cmpR (op_notinD hr.units) (pv 8) (pv 4) (by with_unfolding_all rfl)) ((pss_cons (ps_asg pe_bl (pg_sub (pv 4) (pv 8) (set_dictG hr.units))) (pss_one (ps_expr (pe_bm PySem.F.plainAttrs_list PySem.F.slot_list_append PySem.F.type_list_append mt_append (pv 5) (pa_cons (pv 8) pa_nil)))))) (pss_nil)))))))) (pss_one ((ps_set (i := 6) sc__law_alike.nd rfl (Or.inl rfl) (pe_op op_a (pv 6) pe_int))))))) (pss_one (ps_ret pe_bl)))))), ?_⟩
    have hz : (tx L).length ≤ sizeLine := line_ge (by rw [tx_len]; exact Nat.le_trans hMa.lt.hi (by decide))
    have two : 2 ≤ sizeLine := line_ge (by show 2 ≤ 16777216; decide)
    have hLh : L.length ≤ 1000 := Nat.le_trans hMa.lt.hi (by decide)
    have hsq : 60 * 60 ≤ 60 * 60 := Nat.le_refl _
    have hbl := hMa.bl
    have hbl2 := hNa.bl
    refine fun d hd => ⟨_, rfl, _, rfl, two, fun t ht => ⟨t, kI (l, r), rfl, upd_same, upd_keep upd_same ht, ?_⟩⟩
    have hdt : d ≠ t := by
      rintro rfl
      rw [upd_same] at ht
      cases ht
    have ht0 : H t = none := by rw [upd_ne (Ne.symm hdt)] at ht; exact ht
    refine ⟨_, rfl, _, rfl, two, fun t2 ht2 => ⟨line_ge (by show 1 ≤ 16777216; decide), fun q0 hq0 => ?_⟩⟩
    have sma : Same H (L2.upd (L2.upd (L2.upd (L2.upd (L2.upd H d (newO P w d .pair)) t (.tup [.int (l : Int), .int (r : Int)])) d (hdO (pairD P w) d [(kI (l, r), t, .bl true)])) t2 (.tup [.int (l : Int), .int (r : Int)])) q0 (.lst [.ref t2])) := by
      have a1 : Same H (L2.upd (L2.upd (L2.upd H d (newO P w d .pair)) t (.tup [.int (l : Int), .int (r : Int)])) d (hdO (pairD P w) d [(kI (l, r), t, .bl true)])) := Same.set (Same.set (Same.upd hd) ht0) hd
      exact a1.trans ((Same.upd ht2).trans (Same.upd hq0))
    have hq00 : H q0 = none := by
      cases e : H q0 with
      | none => rfl
      | some o =>
        have a1 : Same H (L2.upd (L2.upd (L2.upd H d (newO P w d .pair)) t (.tup [.int (l : Int), .int (r : Int)])) d (hdO (pairD P w) d [(kI (l, r), t, .bl true)])) := Same.set (Same.set (Same.upd hd) ht0) hd
        have := (a1.trans (Same.upd (o := .tup [.int (l : Int), .int (r : Int)]) ht2)) _ _ e
        exact absurd (this.symm.trans hq0) (by intro z; cases z)
    have hpa : PairsAt P w (L2.upd (L2.upd (L2.upd (L2.upd (L2.upd H d (newO P w d .pair)) t (.tup [.int (l : Int), .int (r : Int)])) d (hdO (pairD P w) d [(kI (l, r), t, .bl true)])) t2 (.tup [.int (l : Int), .int (r : Int)])) q0 (.lst [.ref t2])) d q0 [(l, r)] := by
      refine ⟨[(kI (l, r), t, .bl true)], [t2], upd_keep (upd_keep upd_same ht2) hq0, fun x hx => ?_, rfl, upd_same, rfl, fun i u p e1 e2 => ?_⟩
      · rw [List.mem_singleton.mp hx]
        have e : L2.upd (L2.upd (L2.upd H d (newO P w d .pair)) t (.tup [.int (l : Int), .int (r : Int)])) d (hdO (pairD P w) d [(kI (l, r), t, .bl true)]) t = some (.tup ((kI (l, r)).map V.int)) := by
          rw [upd_ne (Ne.symm hdt), upd_same]
          rfl
        exact upd_keep (upd_keep e ht2) hq0
      · match i, e1, e2 with
        | 0, e1, e2 => cases e1; cases e2; exact upd_keep upd_same hq0
        | n + 1, e1, e2 => simp at e1
    refine ⟨AInv2 P w H m m2 d q0 L W B W2 B2 l r, ⟨_, [(l, r)], 0, none, none, rfl, rfl, sma, hpa, Told2.first hl hr0, Nat.zero_le _, fun i p hi => absurd hi (Nat.not_lt_zero _)⟩, ?_⟩
    rintro ms σ' H' ⟨ps, n, s7, s8, rfl, rfl, sm, hps, htold, hn, hdone⟩
    obtain ⟨ys, hys, hyl⟩ := hps.row
    refine ⟨_, rfl, _, rfl, q0, _, rfl, .inl (SqL.of hys), _, _, rfl, rfl, _, rfl, ?_⟩
    rw [hyl]
    refine ite3 (fun hlt => ?_) (fun hlt => ?_)
    case _ =>
      have hnl : n < ps.length := Int.ofNat_lt.mp hlt
      obtain ⟨p, hp⟩ : ∃ p, ps[n]? = some p := ⟨ps[n], List.getElem?_eq_getElem hnl⟩
      have hpm : p ∈ ps := List.mem_of_getElem? hp
      obtain ⟨p1, p2, u, hu, hu1, hu2⟩ := htold.got p hpm
      obtain ⟨ys', tp, hys', _, hat, htp⟩ := hps.at hp
      rw [hys] at hys'
      cases hys'
      refine ⟨fun σ2 H2 => ∃ ms', ms' < unseen 60 ps + (ps.length - n) ∧ AInv2 P w H m m2 d q0 L W B W2 B2 l r ms' σ2 H2, fun σ2 H2 h => h, ?_⟩
      refine ⟨_, rfl, m, _, _, _, rfl, rfl, SqT.of (sm _ _ h1), atI_nat (j := 2) rfl, _, rfl, _, rfl, q0, _, _, _, rfl, rfl, SqL.of hys, hat, tp, _, _, _, rfl, rfl, SqT.of htp, atI_nat (j := 0) rfl, mk, _, _, _, rfl, rfl, SqT.of (sm _ _ h3), mark_at (ar_len hbl p1), ?_⟩
      refine ⟨_, rfl, m2, _, _, _, rfl, rfl, SqT.of (sm _ _ g1), atI_nat (j := 2) rfl, _, rfl, _, rfl, q0, _, _, _, rfl, rfl, SqL.of hys, hat, tp, _, _, _, rfl, rfl, SqT.of htp, atI_nat (j := 1) rfl, mk2, _, _, _, rfl, rfl, SqT.of (sm _ _ g3), mark_at (ar_len hbl2 p2), rfl, _, rfl, ?_⟩
      rw [dec_bls]
      by_cases hmk : B.getD p.1 false = B2.getD p.2 false
      case neg =>
        rw [decide_eq_false hmk]
        refine iteT (q false H' sm ⟨fun z => Bool.noConfusion z, fun z => ?_⟩)
        exact (hmk (by rw [hu1, hu2]; exact z u hu)).elim
      rw [decide_eq_true hmk]
      refine iteF ?_
      refine ⟨_, rfl, m, _, _, _, rfl, rfl, SqT.of (sm _ _ h1), atI_nat (j := 0) rfl, _, rfl, hz, _, rfl, by rw [tx_len]; exact (ar_rng hLh).1, by rw [tx_len]; exact (ar_rng hLh).2, ?_⟩
      refine for_range (n := (((tx L).length : Nat) : Int).toNat) (fun j σ2 H2 => ∃ (ext : List (Nat × Nat)) (s7 s8 : Option V), σ2 = [some (.ref m), some (.int (l : Int)), some (.ref m2), some (.int (r : Int)), some (.ref d), some (.ref q0), some (.int (n : Int)), s7, s8] ∧ Same H H2 ∧ PairsAt P w H2 d q0 (ps ++ ext) ∧ Told2 L W W2 l r (ps ++ ext) ∧ unseen 60 (ps ++ ext) + (ps ++ ext).length ≤ unseen 60 ps + ps.length ∧ ∀ i < j, (goal W p.1 i, goal W2 p.2 i) ∈ ps ++ ext) ⟨[], s7, s8, rfl, sm, by rw [List.append_nil]; exact hps, by rw [List.append_nil]; exact htold, by rw [List.append_nil]; exact Nat.le_refl _, fun i hi => absurd hi (Nat.not_lt_zero _)⟩ ?_ ?_
      · rintro j σ2 H2 hj ⟨ext, s7', s8', rfl, sm2, hps2, htold2, hun, hgo⟩
        have hjL : j < L.length := by rw [tx_len] at hj; exact hj
        have hp2 : (ps ++ ext)[n]? = some p := by rw [List.getElem?_append_left hnl]; exact hp
        obtain ⟨ys2, tp2, hys2, hyl2, hat2, htp2⟩ := hps2.at hp2
        obtain ⟨ra, hra, hraH⟩ := MachAt.row h4 (h5.same sm2) p1
        obtain ⟨rb, hrb, hrbH⟩ := MachAt.row g4 (g5.same sm2) p2
        have e1 := atI_ints (ns := W.getD p.1 []) (r := j) (by rw [(row_of hMa p1).1]; exact hjL)
        have e2 := atI_ints (ns := W2.getD p.2 []) (r := j) (by rw [(row_of hNa p2).1]; exact hjL)
        rw [← Int.zero_add ((j : Nat) : Int)] at e1 e2
        refine ⟨_, rfl, m, _, _, _, rfl, rfl, SqT.of (sm2 _ _ h1), atI_nat (j := 1) rfl, _, rfl, _, rfl, q0, _, _, _, rfl, rfl, SqL.of hys2, hat2, tp2, _, _, _, rfl, rfl, SqT.of htp2, atI_nat (j := 0) rfl, wy, _, _, _, rfl, rfl, SqT.of (sm2 _ _ h2), atI_map V.ref hra, _, rfl, ra, _, _, _, rfl, rfl, SqT.of hraH, e1, ?_⟩
        refine ⟨_, rfl, m2, _, _, _, rfl, rfl, SqT.of (sm2 _ _ g1), atI_nat (j := 1) rfl, _, rfl, _, rfl, q0, _, _, _, rfl, rfl, SqL.of hys2, hat2, tp2, _, _, _, rfl, rfl, SqT.of htp2, atI_nat (j := 1) rfl, wy2, _, _, _, rfl, rfl, SqT.of (sm2 _ _ g2), atI_map V.ref hrb, _, rfl, rb, _, _, _, rfl, rfl, SqT.of hrbH, e2, two, fun t3 ht3 => ?_⟩
        have hps3 := hps2.mono (Same.upd (o := .tup [.int ((goal W p.1 j : Nat) : Int), .int ((goal W2 p.2 j : Nat) : Int)]) ht3)
        have sm3 := sm2.trans (Same.upd (o := .tup [.int ((goal W p.1 j : Nat) : Int), .int ((goal W2 p.2 j : Nat) : Int)]) ht3)
        have hT3 : TIn (L2.upd H2 t3 (.tup [.int ((goal W p.1 j : Nat) : Int), .int ((goal W2 p.2 j : Nat) : Int)])) (kI (goal W p.1 j, goal W2 p.2 j)) t3 := upd_same
        obtain ⟨o, hget, ho⟩ := hps3.get hT3
        refine ⟨_, rfl, _, rfl, d, o, rfl, hget, _, rfl, ?_⟩
        rw [ho]
        have hpm2 : p ∈ ps ++ ext := List.mem_append_left _ hpm
        by_cases hin : (goal W p.1 j, goal W2 p.2 j) ∈ ps ++ ext
        case pos =>
          rw [decide_eq_true hin]
          refine iteF ⟨ext, _, _, rfl, sm3, hps3, htold2, hun, fun i hi => ?_⟩
          by_cases hij : i = j
          · subst hij; exact hin
          · exact hgo i (ar_lt hi hij)
        rw [decide_eq_false hin]
        obtain ⟨hmore, hun2⟩ := htold2.more hMa hNa hpm2 hjL hin
        have hfew := htold2.few
        obtain ⟨ob, zs0, hput, hq3, hzl, hps4⟩ := hps3.put hT3 hin (ar_few hsq hfew)
        refine iteT ⟨_, rfl, _, rfl, d, _, rfl, hput, ?_⟩
        refine ⟨_, rfl, .inl ⟨rfl, _, SqL.of hq3⟩, _, rfl, q0, _, _, rfl, rfl, hq3, by rw [hzl]; exact ar_few hsq hfew, ?_⟩
        refine ⟨ext ++ [(goal W p.1 j, goal W2 p.2 j)], _, _, rfl, same_set2 sm3 hd hq00, by rw [← List.append_assoc]; exact hps4, by rw [← List.append_assoc]; exact hmore, by rw [← List.append_assoc]; exact Nat.le_trans hun2 hun, fun i hi => ?_⟩
        rw [← List.append_assoc]
        by_cases hij : i = j
        · subst hij
          exact List.mem_append_right _ (List.mem_singleton.mpr rfl)
        · exact List.mem_append_left _ (hgo i (ar_lt hi hij))
      · rintro σ2 H2 ⟨ext, s7', s8', rfl, sm2, hps2, htold2, hun, hgo⟩
        have hgo' : ∀ i < L.length, (goal W p.1 i, goal W2 p.2 i) ∈ ps ++ ext := fun i hi => hgo i (by rw [tx_len]; exact hi)
        have hll : (ps ++ ext).length = ps.length + ext.length := List.length_append
        refine ⟨_, rfl, _, _, rfl, rfl, _, ?_, ps ++ ext, n + 1, s7', s8', rfl, rfl, sm2, hps2, htold2, by rw [hll]; exact Nat.le_trans hnl (Nat.le_add_right _ _), fun i z hi hz => ?_⟩
        · rw [hll] at hun ⊢
          exact ar_ms hun hnl
        by_cases hin : i = n
        · subst hin
          rw [List.getElem?_append_left hnl, hp] at hz
          cases hz
          exact ⟨hmk, hgo'⟩
        · rw [List.getElem?_append_left (Nat.lt_of_le_of_lt (Nat.le_of_lt_succ hi) hnl)] at hz
          obtain ⟨z1, z2⟩ := hdone i z (ar_lt hi hin) hz
          exact ⟨z1, fun j hj => List.mem_append_left _ (z2 j hj)⟩
    case _ =>
      have hn2 : n = ps.length := Nat.le_antisymm hn (Nat.le_of_not_lt fun z => hlt (Int.ofNat_lt.mpr z))
      subst hn2
      exact q true H' sm ⟨fun _ => hdone.all htold, fun _ => rfl⟩
theorem sc_law : FnScope ["_law_script", "_law_letters_here", "_law_rooms", "_law_machine_here", "_law_found", "_law_here", "_law_there", "_law_cell"] ["_law_script"] (defScope s_law) := ⟨rfl, rfl, rfl, by decide +kernel, rfl, by decide +kernel, by decide +kernel⟩
set_option maxHeartbeats 4000000 in
theorem ok_law {f : Addr} {fd : FuncData} (F : Fun K "law" "law" s_law f fd) (T : Txt K mg) (d__law_cell_at : Df P w K mg base "_law_cell_at" 1 ["_law_script", "_law_k"] (sp_cell K)) (d__law_letters : Df P w K mg base "_law_letters" 1 ["_law_cell"] sp_letters) (d__law_some : Df P w K mg base "_law_some" 3 ["_law_script", "_law_rooms", "_law_letters_here"] (sp_some K)) (d_least : Df P w K mg base "least" 7 ["machine"] (sp_least P0 sites)) (d__law_is_machine : Df P w K mg base "_law_is_machine" 1 ["_law_found", "_law_letters_here"] sp_ismach) (d__law_alike : Df P w K mg base "_law_alike" 1 ["_law_machine_here", "_law_left", "_law_second", "_law_right"] sp_alike2) : FnOk P w K mg base CX0 8 f fd ["_law_script"] (spLawT K [(cT, P0)]) := by
  refine F.ok sc_law (fun vs H Q E h => ?_) (fun cdv A outer s H vs Q E hr h => ?_)
  · obtain ⟨a, ns, rfl, _⟩ := h
    rfl
  · obtain ⟨a, ns, rfl, hS, hlen, hT0, k⟩ := h
    have hr1 := hr.mono (j := 1) (by decide)
    have hr3 := hr.mono (j := 3) (by decide)
    refine ⟨_, (pss_cons ((ps_set (i := 1) sc_law.nd rfl (Or.inl rfl) ((pe_df d__law_letters hr1 (pa_cons ((pe_df d__law_cell_at hr1 (pa_cons (pv 0) (pa_cons (pe_int) pa_nil)))) pa_nil))))) (pss_cons ((ps_set (i := 2) sc_law.nd rfl (Or.inl rfl) (pe_op op_a pe_int (pe_op op_m (pe_df d__law_cell_at hr1 (pa_cons (pv 0) (pa_cons (pe_int) pa_nil))) pe_int)))) (pss_cut ((ps_if (pt_cmpR op_eq (pe_op op_m (pe_op op_f (pe_df d__law_cell_at hr1 (pa_cons (pv 0) (pa_cons (pe_int) pa_nil))) pe_int) pe_int) pe_int (nomark _)) ((pss_one ((ps_set (i := 2) sc_law.nd rfl (Or.inl rfl) (pe_op op_a pe_int (pe_op op_m (pe_op op_f (pe_df d__law_cell_at hr1 (pa_cons (pv 0) (pa_cons (pe_int) pa_nil))) pe_int) pe_int)))))) (pss_nil))) (pss_cons ((ps_set (i := 3) sc_law.nd rfl (Or.inl rfl) ((pe_df d__law_some hr3 (pa_cons (pv 0) (pa_cons (pv 2) (pa_cons (pv 1) pa_nil))))))) (pss_cons ((ps_set (i := 4) sc_law.nd rfl (Or.inl rfl) ((pe_df d_least hr (pa_cons (pv 3) pa_nil))))) (pss_cons ((ps_if ((pw_or (pt_not (pt_val (pe_df d__law_is_machine hr1 (pa_cons (pv 4) (pa_cons (pv 1) pa_nil))))) (pw_or (pt_cmpR op_gt (pe_callB call_len_seq (by rfl) T.len PySem.boot_len (pa_cons (pe_ix ix_tup (pv 4) (pe_int) (fun _ _ => rfl)) pa_nil)) (pv 2) (nomark _)) (pw_or1 (pt_not (pt_val (pe_df d__law_alike hr1 (pa_cons (pv 3) (pa_cons (pe_int) (pa_cons (pv 4) (pa_cons (pe_int) pa_nil)))))))))).pt) ((pss_one (ps_ret pe_bl))) (pss_nil))) (pss_cons ((ps_set (i := 5) sc_law.nd rfl (Or.inl rfl) (pe_int))) (pss_cons ((ps_set (i := 6) sc_law.nd rfl (Or.inl rfl) (pe_int))) (pss_cons ((ps_for PassesOwn.never rfl (pi_list (pe_slice sl_list (pv 0) (po_some pe_int) (po_some pe_int))) (pg_name (i := 7) sc_law.nd rfl (Or.inl rfl)) ((pss_cons ((ps_set (i := 5) sc_law.nd rfl (Or.inl rfl) (pe_ix ix_tup (pe_ix ix_tup (pe_ix ix_tup (pv 3) (pe_int) (fun _ _ => rfl)) (pv 5) (fun _ _ => rfl)) (pe_op op_m (pv 7) (pe_callB call_len_str (by rfl) T.len PySem.boot_len (pa_cons (pv 1) pa_nil))) (fun _ _ => rfl)))) (pss_cons ((ps_set (i := 6) sc_law.nd rfl (Or.inl rfl) (pe_ix ix_tup (pe_ix ix_tup (pe_ix ix_tup (pv 4) (pe_int) (fun _ _ => rfl)) (pv 6) (fun _ _ => rfl)) (pe_op op_m (pv 7) (pe_callB call_len_str (by rfl) T.len PySem.boot_len (pa_cons (pv 1) pa_nil))) (fun _ _ => rfl)))) (pss_one ((ps_if (pt_cmpR op_ne (pe_ix ix_tup (pe_ix ix_tup (pv 3) (pe_int) (fun _ _ => rfl)) (pv 5) (fun _ _ => rfl)) (pe_ix ix_tup (pe_ix ix_tup (pv 4) (pe_int) (fun _ _ => rfl)) (pv 6) (fun _ _ => rfl)) (nomark _)) ((pss_one (ps_ret pe_bl))) (pss_nil))))))))) (pss_one (ps_ret pe_bl))))))))))), ?_⟩
    have hT : TabSt H P0 sites := ⟨#[], hT0 _ (List.mem_singleton.mpr rfl), triples_nil, fun q _ => .inl rfl⟩
    refine ⟨_, rfl, a, ns, 1, rfl, hS, by decide, fun z0 => ⟨z0, rfl, fun L hL => ?_⟩⟩
    refine ⟨_, rfl, a, ns, 0, rfl, hS, by decide, fun z1 => ⟨_, _, rfl, rfl, by decide, _, _, rfl, rfl, ?_⟩⟩
    refine ⟨fun σ' H' => ∃ n : Nat, σ' = [some (.ref a), some (.str (tx L)), some (.int (n : Int)), none, none, none, none, none] ∧ H' = H ∧ 1 ≤ n ∧ n ≤ 60, ?_, ?_⟩
    · refine ⟨_, rfl, a, ns, 0, rfl, hS, by decide, fun z2 => ⟨_, _, rfl, rfl, ⟨by decide, by decide⟩, _, _, rfl, rfl, by decide, rfl, _, rfl, ite3 (fun _ => ?_) (fun _ => ?_)⟩⟩
      · refine ⟨_, rfl, a, ns, 0, rfl, hS, by decide, fun z3 => ?_⟩
        obtain ⟨n, en, n1, n2⟩ := ar_room (z3 / 30) 7 54 (by decide)
        refine ⟨_, _, rfl, rfl, ⟨by decide, by decide⟩, _, _, rfl, rfl, by decide, _, _, rfl, rfl, n, ?_, rfl, Nat.le_trans (by decide) n1, Nat.le_of_lt_succ n2⟩
        rw [en]
        rfl
      · obtain ⟨n, en, n1, n2⟩ := ar_room z1 1 6 (by decide)
        refine ⟨n, ?_, rfl, n1, Nat.le_trans (Nat.le_of_lt n2) (by decide)⟩
        rw [en]
        rfl
    rintro σ1 H0 ⟨n, rfl, rfl, hn1, hn60⟩
    refine ⟨_, rfl, _, rfl, _, rfl, a, ns, n, L, rfl, hS, hn1, hn60, hL, fun m W B H1 s1 hM1 hMa hWn => ?_⟩
    have hS1 := s1.seq hS
    have hT1 : TabSt H1 P0 sites := tab_same hT s1
    refine ⟨_, rfl, m, L, W, B, rfl, hM1, hMa, hT1, fun f W2 B2 H2 s2 hT2 hN2 lo => ?_⟩
    have hM2 : MachAt H2 m L W B := hM1.tups (sameX_tup s2 hT1)
    have hS2 : SqL K H2 a (ns.map V.int) := seq_X s2 hT1 hS1
    have hNa := lo.mach
    refine ⟨_, rfl, _, rfl, f, L, W2, B2, rfl, hN2, hNa, fun H3 s3 => ⟨_, rfl, iteF ?_⟩⟩
    have hM3 := hM2.same s3
    have hN3 := hN2.same s3
    obtain ⟨wy2, mk2, rows2, g1, g2, g3, g4, g5⟩ := id hN3
    refine ⟨_, rfl, f, _, _, _, rfl, rfl, SqT.of g1, atI_nat (j := 1) rfl, wy2, _, rfl, .inr (SqT.of g2), _, rfl, _, _, rfl, rfl, _, rfl, ?_⟩
    rw [List.length_map, g4, decide_eq_false (Int.not_lt.mpr (Int.ofNat_le.mpr (by rw [← hWn]; exact lo.len)))]
    refine iteF ?_
    refine ⟨_, rfl, _, rfl, m, f, L, W, B, W2, B2, 0, 0, rfl, hM3, hMa, hN3, hNa, hMa.n1, hNa.n1, fun b H4 s4 hb => ⟨_, rfl, ?_⟩⟩
    rw [show b = true from hb.mpr fun u hu => (lo.takes hMa hu).symm]
    refine iteF ?_
    have hM4 := hM3.same s4
    have hN4 := hN3.same s4
    have hS4 := (s3.trans s4).seq hS2
    have hz : (tx L).length ≤ sizeLine := line_ge (by rw [tx_len]; exact Nat.le_trans hMa.lt.hi (by decide))
    have hlp : (0 : Int) < ((tx L).length : Int) := by rw [tx_len]; exact ar_pos1 hMa.lt.lo
    refine ⟨_, rfl, _, rfl, _, rfl, a, _, rfl, hS4, fun p5 hp5 => ⟨p5, rfl, ⟨_, SqL.of upd_same⟩, ?_⟩⟩
    have hM5 := hM4.same (Same.upd (o := .lst (cutV (ns.map V.int) (some 10) (some 63))) hp5)
    have hN5 := hN4.same (Same.upd (o := .lst (cutV (ns.map V.int) (some 10) (some 63))) hp5)
    rw [cutV_ints] at hM5 hN5 ⊢
    obtain ⟨wy, mk, rows, f1, f2, f3, f4, f5⟩ := id hM5
    obtain ⟨wy2, mk2, rows2, g1, g2, g3, g4, g5⟩ := id hN5
    refine for_list (K := K) (a := p5) (xs := (cutI ns (some 10) (some 63)).map V.int) (fun i σ' H' => ∃ (v : List Nat) (s7 : Option V), σ' = [some (.ref a), some (.str (tx L)), some (.int (n : Int)), some (.ref m), some (.ref f), some (.int (run L W 0 v : Int)), some (.int (run L W2 0 v : Int)), s7] ∧ H' = L2.upd H4 p5 (.lst ((cutI ns (some 10) (some 63)).map V.int)) ∧ ∀ c ∈ v, c ∈ L) ⟨[], _, rfl, rfl, fun c hc => by simp at hc⟩ ?_ ?_ ?_
    · rintro i σ' H' hi ⟨v, s7, rfl, rfl, _⟩
      exact SqL.of upd_same
    · rintro i x σ' H' hxi ⟨v, s7, rfl, rfl, hvL⟩
      rw [List.getElem?_map] at hxi
      obtain ⟨z, hz1, rfl⟩ := Option.map_eq_some_iff.mp hxi
      have q0 := Int.emod_nonneg z (Int.ne_of_gt hlp)
      have q1 := Int.emod_lt_of_pos z hlp
      obtain ⟨j, hj⟩ := Int.eq_ofNat_of_zero_le q0
      rw [hj] at q1
      have hjL : j < L.length := by rw [tx_len] at q1; exact Int.ofNat_lt.mp q1
      have hc : L[j] ∈ L := List.getElem_mem hjL
      have hci : L.idxOf L[j] = j := idx_get hMa.lt.nd hjL
      have hv : ∀ x ∈ v ++ [L[j]], x ∈ L := fun x hx => by
        rcases List.mem_append.mp hx with z | z
        · exact hvL x z
        · rw [List.mem_singleton.mp z]; exact hc
      have b1 := run_lt hMa hMa.n1 hvL
      have b2 := run_lt hNa hNa.n1 hvL
      have c1 := run_lt hMa hMa.n1 hv
      have c2 := run_lt hNa hNa.n1 hv
      obtain ⟨ra, hra, hraH⟩ := MachAt.row f4 f5 b1
      obtain ⟨rb, hrb, hrbH⟩ := MachAt.row g4 g5 b2
      have e1 := atI_ints (ns := W.getD (run L W 0 v) []) (r := j) (by rw [(row_of hMa b1).1]; exact hjL)
      have e2 := atI_ints (ns := W2.getD (run L W2 0 v) []) (r := j) (by rw [(row_of hNa b2).1]; exact hjL)
      rw [← hj] at e1 e2
      have r1 : (W.getD (run L W 0 v) []).getD j 0 = run L W 0 (v ++ [L[j]]) := by rw [run_snoc, nxt_goal, hci]; rfl
      have r2 : (W2.getD (run L W2 0 v) []).getD j 0 = run L W2 0 (v ++ [L[j]]) := by rw [run_snoc, nxt_goal, hci]; rfl
      rw [r1] at e1
      rw [r2] at e2
      refine ⟨_, rfl, m, _, _, _, rfl, rfl, SqT.of f1, atI_nat (j := 1) rfl, _, rfl, wy, _, _, _, rfl, rfl, SqT.of f2, atI_map V.ref hra, _, rfl, _, rfl, _, rfl, hz, _, _, rfl, rfl, hlp, ra, _, _, _, rfl, rfl, SqT.of hraH, e1, ?_⟩
      refine ⟨_, rfl, f, _, _, _, rfl, rfl, SqT.of g1, atI_nat (j := 1) rfl, _, rfl, wy2, _, _, _, rfl, rfl, SqT.of g2, atI_map V.ref hrb, _, rfl, _, rfl, _, rfl, hz, _, _, rfl, rfl, hlp, rb, _, _, _, rfl, rfl, SqT.of hrbH, e2, ?_⟩
      refine ⟨_, rfl, m, _, _, _, rfl, rfl, SqT.of f1, atI_nat (j := 2) rfl, _, rfl, mk, _, _, _, rfl, rfl, SqT.of f3, mark_at (by rw [hMa.bl]; exact c1), _, rfl, f, _, _, _, rfl, rfl, SqT.of g1, atI_nat (j := 2) rfl, _, rfl, mk2, _, _, _, rfl, rfl, SqT.of g3, mark_at (by rw [hNa.bl]; exact c2), rfl, _, rfl, ?_⟩
      rw [lo.takes hMa hv]
      exact iteNS rfl ⟨v ++ [L[j]], _, rfl, rfl, hv⟩
    · rintro σ' H' ⟨v, s7, rfl, rfl, _⟩
      exact k _
end
end K12

namespace K12
open PySem L2 RA
theorem keepF {K : PySem.W.Frag} {f : Addr} {oc : Value} {od : Option Addr} {fd : FuncData} {sl : Array (Option Value)} (e : K.lookup f = some ⟨oc, od, .func fd, sl⟩) : PySem.W.keepIn K (.ref f) = true := by
  unfold PySem.W.keepIn
  dsimp only
  rw [show List.lookup f K = _ from e]
theorem all_mk {l : PySem.W.OpenLaw} {w : World} {K K0 : PySem.W.Frag} {h : Heap} {mg : Str → Option Value} {fa cT P0 : Addr} (hK : K = dropTab [P0] K0) (X : K.In h) (G : h.Ns mainGlobals mg) (hfa : mg "law" = some (.ref fa))
    {fI : Addr} {odI anI : Option Addr} {slI : Array (Option Value)} {ocI kVI dcI pmI ctI : Value} {cdI : Addr}
    {cW : Addr} (nW : PySem.W.nsIn K mainGlobals "Walk" = some (some (.ref cW))) (hI0 : PySem.W.findIn K0 (.ref cW) "__init__" = some (some (.ref fI)))
    (cls : Cls K cW) (mk : Mk K cW fI) (na1 : NoAttr K cW "letters") (na2 : NoAttr K cW "things") (na3 : NoAttr K cW "words") (na4 : NoAttr K cW "ways") (na5 : NoAttr K cW "marks")
     (lI : K.lookup fI = some ⟨ocI, odI, .func (PySem.W.fnOf "__init__" "Walk.__init__" (defArgs s_winit) (defBody s_winit) (defScope s_winit) .none kVI dcI pmI anI (.ref cdI) ctI), slI⟩) (cI : PySem.W.codeIn K (.ref cdI) "Walk.__init__" = true)
    {tD : Addr} {ocD : Value} {odD : Option Addr} {slD : Array (Option Value)} {nD : Nat}
    {fV : Addr} {odV anV : Option Addr} {slV : Array (Option Value)} {ocV kVV dcV pmV ctV : Value} {cdV : Addr}
    (aV : PySem.W.nsIn K mainGlobals "walked" = some (some (.ref fV))) (lV : K.lookup fV = some ⟨ocV, odV, .func (PySem.W.fnOf "walked" "walked" (defArgs s_walked) (defBody s_walked) (defScope s_walked) (.ref tD) kVV dcV pmV anV (.ref cdV) ctV), slV⟩) (cV : PySem.W.codeIn K (.ref cdV) "walked" = true)
    (lD : K.lookup tD = some ⟨ocD, odD, .seq #[.none] nD, slD⟩)
    {fM : Addr} {odM anM : Option Addr} {slM : Array (Option Value)} {ocM kVM dcM pmM ctM : Value}
    (aM : PySem.W.nsIn K mainGlobals "walked_machine" = some (some (.ref fM))) (lM : K.lookup fM = some ⟨ocM, odM, .func (PySem.W.fnOf "walked_machine" "walked_machine" (defArgs s_walked_machine) (defBody s_walked_machine) (defScope s_walked_machine) .none kVM dcM pmM anM (.ref cT) ctM), slM⟩) (cM : PySem.W.codeIn K (.ref cT) "walked_machine" = true)
    {f0 : Addr} {od0 an0 : Option Addr} {sl0 : Array (Option Value)} {oc0 kV0 dc0 pm0 ct0 : Value} {cd0 : Addr}
    (a0 : PySem.W.nsIn K mainGlobals "numbered" = some (some (.ref f0))) (l0 : K.lookup f0 = some ⟨oc0, od0, .func (PySem.W.fnOf "numbered" "numbered" (defArgs s_numbered) (defBody s_numbered) (defScope s_numbered) .none kV0 dc0 pm0 an0 (.ref cd0) ct0), sl0⟩) (c0 : PySem.W.codeIn K (.ref cd0) "numbered" = true)
    {f1 : Addr} {od1 an1 : Option Addr} {sl1 : Array (Option Value)} {oc1 kV1 dc1 pm1 ct1 : Value} {cd1 : Addr}
    (a1 : PySem.W.nsIn K mainGlobals "many_lots" = some (some (.ref f1))) (l1 : K.lookup f1 = some ⟨oc1, od1, .func (PySem.W.fnOf "many_lots" "many_lots" (defArgs s_many_lots) (defBody s_many_lots) (defScope s_many_lots) .none kV1 dc1 pm1 an1 (.ref cd1) ct1), sl1⟩) (c1 : PySem.W.codeIn K (.ref cd1) "many_lots" = true)
    {f2 : Addr} {od2 an2 : Option Addr} {sl2 : Array (Option Value)} {oc2 kV2 dc2 pm2 ct2 : Value} {cd2 : Addr}
    (a2 : PySem.W.nsIn K mainGlobals "rounds_of" = some (some (.ref f2))) (l2 : K.lookup f2 = some ⟨oc2, od2, .func (PySem.W.fnOf "rounds_of" "rounds_of" (defArgs s_rounds_of) (defBody s_rounds_of) (defScope s_rounds_of) .none kV2 dc2 pm2 an2 (.ref cd2) ct2), sl2⟩) (c2 : PySem.W.codeIn K (.ref cd2) "rounds_of" = true)
    {f3 : Addr} {od3 an3 : Option Addr} {sl3 : Array (Option Value)} {oc3 kV3 dc3 pm3 ct3 : Value} {cd3 : Addr}
    (a3 : PySem.W.nsIn K mainGlobals "first_rooms" = some (some (.ref f3))) (l3 : K.lookup f3 = some ⟨oc3, od3, .func (PySem.W.fnOf "first_rooms" "first_rooms" (defArgs s_first_rooms) (defBody s_first_rooms) (defScope s_first_rooms) .none kV3 dc3 pm3 an3 (.ref cd3) ct3), sl3⟩) (c3 : PySem.W.codeIn K (.ref cd3) "first_rooms" = true)
    {f4 : Addr} {od4 an4 : Option Addr} {sl4 : Array (Option Value)} {oc4 kV4 dc4 pm4 ct4 : Value} {cd4 : Addr}
    (a4 : PySem.W.nsIn K mainGlobals "folded" = some (some (.ref f4))) (l4 : K.lookup f4 = some ⟨oc4, od4, .func (PySem.W.fnOf "folded" "folded" (defArgs s_folded) (defBody s_folded) (defScope s_folded) .none kV4 dc4 pm4 an4 (.ref cd4) ct4), sl4⟩) (c4 : PySem.W.codeIn K (.ref cd4) "folded" = true)
    {f5 : Addr} {od5 an5 : Option Addr} {sl5 : Array (Option Value)} {oc5 kV5 dc5 pm5 ct5 : Value} {cd5 : Addr}
    (a5 : PySem.W.nsIn K mainGlobals "least" = some (some (.ref f5))) (l5 : K.lookup f5 = some ⟨oc5, od5, .func (PySem.W.fnOf "least" "least" (defArgs s_least) (defBody s_least) (defScope s_least) .none kV5 dc5 pm5 an5 (.ref cd5) ct5), sl5⟩) (c5 : PySem.W.codeIn K (.ref cd5) "least" = true)
    {f6 : Addr} {od6 an6 : Option Addr} {sl6 : Array (Option Value)} {oc6 kV6 dc6 pm6 ct6 : Value} {cd6 : Addr}
    (a6 : PySem.W.nsIn K mainGlobals "_law_cell_at" = some (some (.ref f6))) (l6 : K.lookup f6 = some ⟨oc6, od6, .func (PySem.W.fnOf "_law_cell_at" "_law_cell_at" (defArgs s__law_cell_at) (defBody s__law_cell_at) (defScope s__law_cell_at) .none kV6 dc6 pm6 an6 (.ref cd6) ct6), sl6⟩) (c6 : PySem.W.codeIn K (.ref cd6) "_law_cell_at" = true)
    {f7 : Addr} {od7 an7 : Option Addr} {sl7 : Array (Option Value)} {oc7 kV7 dc7 pm7 ct7 : Value} {cd7 : Addr}
    (a7 : PySem.W.nsIn K mainGlobals "_law_letters" = some (some (.ref f7))) (l7 : K.lookup f7 = some ⟨oc7, od7, .func (PySem.W.fnOf "_law_letters" "_law_letters" (defArgs s__law_letters) (defBody s__law_letters) (defScope s__law_letters) .none kV7 dc7 pm7 an7 (.ref cd7) ct7), sl7⟩) (c7 : PySem.W.codeIn K (.ref cd7) "_law_letters" = true)
    {f8 : Addr} {od8 an8 : Option Addr} {sl8 : Array (Option Value)} {oc8 kV8 dc8 pm8 ct8 : Value} {cd8 : Addr}
    (a8 : PySem.W.nsIn K mainGlobals "_law_machine" = some (some (.ref f8))) (l8 : K.lookup f8 = some ⟨oc8, od8, .func (PySem.W.fnOf "_law_machine" "_law_machine" (defArgs s__law_machine) (defBody s__law_machine) (defScope s__law_machine) .none kV8 dc8 pm8 an8 (.ref cd8) ct8), sl8⟩) (c8 : PySem.W.codeIn K (.ref cd8) "_law_machine" = true)
    {f9 : Addr} {od9 an9 : Option Addr} {sl9 : Array (Option Value)} {oc9 kV9 dc9 pm9 ct9 : Value} {cd9 : Addr}
    (a9 : PySem.W.nsIn K mainGlobals "_law_long" = some (some (.ref f9))) (l9 : K.lookup f9 = some ⟨oc9, od9, .func (PySem.W.fnOf "_law_long" "_law_long" (defArgs s__law_long) (defBody s__law_long) (defScope s__law_long) .none kV9 dc9 pm9 an9 (.ref cd9) ct9), sl9⟩) (c9 : PySem.W.codeIn K (.ref cd9) "_law_long" = true)
    {f10 : Addr} {od10 an10 : Option Addr} {sl10 : Array (Option Value)} {oc10 kV10 dc10 pm10 ct10 : Value} {cd10 : Addr}
    (a10 : PySem.W.nsIn K mainGlobals "_law_twins" = some (some (.ref f10))) (l10 : K.lookup f10 = some ⟨oc10, od10, .func (PySem.W.fnOf "_law_twins" "_law_twins" (defArgs s__law_twins) (defBody s__law_twins) (defScope s__law_twins) .none kV10 dc10 pm10 an10 (.ref cd10) ct10), sl10⟩) (c10 : PySem.W.codeIn K (.ref cd10) "_law_twins" = true)
    {f11 : Addr} {od11 an11 : Option Addr} {sl11 : Array (Option Value)} {oc11 kV11 dc11 pm11 ct11 : Value} {cd11 : Addr}
    (a11 : PySem.W.nsIn K mainGlobals "_law_some" = some (some (.ref f11))) (l11 : K.lookup f11 = some ⟨oc11, od11, .func (PySem.W.fnOf "_law_some" "_law_some" (defArgs s__law_some) (defBody s__law_some) (defScope s__law_some) .none kV11 dc11 pm11 an11 (.ref cd11) ct11), sl11⟩) (c11 : PySem.W.codeIn K (.ref cd11) "_law_some" = true)
    {f12 : Addr} {od12 an12 : Option Addr} {sl12 : Array (Option Value)} {oc12 kV12 dc12 pm12 ct12 : Value} {cd12 : Addr}
    (a12 : PySem.W.nsIn K mainGlobals "_law_is_machine" = some (some (.ref f12))) (l12 : K.lookup f12 = some ⟨oc12, od12, .func (PySem.W.fnOf "_law_is_machine" "_law_is_machine" (defArgs s__law_is_machine) (defBody s__law_is_machine) (defScope s__law_is_machine) .none kV12 dc12 pm12 an12 (.ref cd12) ct12), sl12⟩) (c12 : PySem.W.codeIn K (.ref cd12) "_law_is_machine" = true)
    {f13 : Addr} {od13 an13 : Option Addr} {sl13 : Array (Option Value)} {oc13 kV13 dc13 pm13 ct13 : Value} {cd13 : Addr}
    (a13 : PySem.W.nsIn K mainGlobals "_law_alike" = some (some (.ref f13))) (l13 : K.lookup f13 = some ⟨oc13, od13, .func (PySem.W.fnOf "_law_alike" "_law_alike" (defArgs s__law_alike) (defBody s__law_alike) (defScope s__law_alike) .none kV13 dc13 pm13 an13 (.ref cd13) ct13), sl13⟩) (c13 : PySem.W.codeIn K (.ref cd13) "_law_alike" = true)
    {f14 : Addr} {od14 an14 : Option Addr} {sl14 : Array (Option Value)} {oc14 kV14 dc14 pm14 ct14 : Value} {cd14 : Addr}
    (a14 : PySem.W.nsIn K mainGlobals "law" = some (some (.ref f14))) (l14 : K.lookup f14 = some ⟨oc14, od14, .func (PySem.W.fnOf "law" "law" (defArgs s_law) (defBody s_law) (defScope s_law) .none kV14 dc14 pm14 an14 (.ref cd14) ct14), sl14⟩) (c14 : PySem.W.codeIn K (.ref cd14) "law" = true)
    (z_len : PySem.W.nsIn K mainGlobals "len" = some none)
    (z_range : PySem.W.nsIn K mainGlobals "range" = some none)
    (z_isinst : PySem.W.nsIn K mainGlobals "isinstance" = some none)
    (z_int : PySem.W.nsIn K mainGlobals "int" = some none)
    (z_bool : PySem.W.nsIn K mainGlobals "bool" = some none)
    (z_tuple : PySem.W.nsIn K mainGlobals "tuple" = some none)
    (z_list : PySem.W.nsIn K mainGlobals "list" = some none)
    (z_str : PySem.W.nsIn K mainGlobals "str" = some none)
    (z_zip : PySem.W.nsIn K mainGlobals "zip" = some none)
    (z_max : PySem.W.nsIn K mainGlobals "max" = some none)
    (z_enumerate : PySem.W.nsIn K mainGlobals "enumerate" = some none)
    (z_all : PySem.W.nsIn K mainGlobals "all" = some none)
    : ∃ fd : FuncData, (∀ (s : Shared) (v : Value), BindsTo s fd ⟨[v], []⟩ [("_law_script", v)]) ∧ ∀ base : Heap, K.In base → base.Ns mainGlobals mg → BltAt base mg → (∀ q ∈ [(cT, P0)], PySem.W.CodeHd base q.1 q.2) → FnOk l.prog w K mg base CX0 8 fa fd ["_law_script"] (spLawT K [(cT, P0)]) := by
  have e := hfa.symm.trans (PySem.W.mg_of X G a14)
  cases e
  have T : Txt K mg := ⟨PySem.W.mg_none_of X G z_len, PySem.W.mg_none_of X G z_range, PySem.W.mg_none_of X G z_isinst, PySem.W.mg_none_of X G z_int, PySem.W.mg_none_of X G z_bool, PySem.W.mg_none_of X G z_tuple, PySem.W.mg_none_of X G z_list, PySem.W.mg_none_of X G z_str, PySem.W.mg_none_of X G z_zip, PySem.W.mg_none_of X G z_max, PySem.W.mg_none_of X G z_enumerate, PySem.W.mg_none_of X G z_all⟩
  have F0 := fun_mk (st := s_numbered) l0 c0 (keepF l0)
  have F1 := fun_mk (st := s_many_lots) l1 c1 (keepF l1)
  have F2 := fun_mk (st := s_rounds_of) l2 c2 (keepF l2)
  have F3 := fun_mk (st := s_first_rooms) l3 c3 (keepF l3)
  have F4 := fun_mk (st := s_folded) l4 c4 (keepF l4)
  have F5 := fun_mk (st := s_least) l5 c5 (keepF l5)
  have F6 := fun_mk (st := s__law_cell_at) l6 c6 (keepF l6)
  have F7 := fun_mk (st := s__law_letters) l7 c7 (keepF l7)
  have F8 := fun_mk (st := s__law_machine) l8 c8 (keepF l8)
  have F9 := fun_mk (st := s__law_long) l9 c9 (keepF l9)
  have F10 := fun_mk (st := s__law_twins) l10 c10 (keepF l10)
  have F11 := fun_mk (st := s__law_some) l11 c11 (keepF l11)
  have F12 := fun_mk (st := s__law_is_machine) l12 c12 (keepF l12)
  have F13 := fun_mk (st := s__law_alike) l13 c13 (keepF l13)
  have F14 := fun_mk (st := s_law) l14 c14 (keepF l14)
  have WT := WkT.mk (PySem.W.mg_of X G nW) cls mk na1 na2 na3 na4 na5 (fun_mk (st := s_winit) lI cI (keepF lI))
  refine ⟨PySem.W.fnOf "law" "law" (defArgs s_law) (defBody s_law) (defScope s_law) .none kV14 dc14 pm14 an14 (.ref cd14) ct14, fun s v => .of_eq rfl, fun base _ _ hB hC => ?_⟩
  have hC1 : PySem.W.CodeHd base cT P0 := hC (cT, P0) (List.mem_singleton.mpr rfl)
  have d_walked_machine : Df l.prog w K mg base "walked_machine" 6 ["machine"] (sp_wmach cW P0 sites) := ⟨fM, _, PySem.W.mg_of X G aM, keepF lM, (fun_mk (st := s_walked_machine) lM cM (keepF lM)).binds (ps := ["machine"]) (fun _ _ _ _ _ _ us hl => by obtain ⟨_, rfl⟩ := len1 hl; rfl), ok_wmach lM cM lV cV (keepF lV) (PySem.W.mg_of X G aV) lD WT (PySem.W.mg_none_of X G z_len) (PySem.W.mg_none_of X G z_zip) hC1 hB⟩
  have WK : WkK K cW := ⟨cls, na1, na4, na5⟩
  have d_numbered : Df l.prog w K mg base "numbered" 1 ["values"] sp_numbered := ⟨f0, _, PySem.W.mg_of X G a0, keepF l0, F0.binds (ps := ["values"]) (fun _ _ _ _ _ _ us hl => by obtain ⟨_, rfl⟩ := len1 hl; rfl), ok_numbered F0 T ⟩
  have d_many_lots : Df l.prog w K mg base "many_lots" 1 ["lots"] sp_manyM := ⟨f1, _, PySem.W.mg_of X G a1, keepF l1, F1.binds (ps := ["lots"]) (fun _ _ _ _ _ _ us hl => by obtain ⟨_, rfl⟩ := len1 hl; rfl), ok_many_lots F1 T ⟩
  have d_rounds_of : Df l.prog w K mg base "rounds_of" 2 ["ways", "marks", "most"] sp_roundsQ := ⟨f2, _, PySem.W.mg_of X G a2, keepF l2, F2.binds (ps := ["ways", "marks", "most"]) (fun _ _ _ _ _ _ us hl => by obtain ⟨_, _, _, rfl⟩ := len3 hl; rfl), ok_rounds_of F2 T d_numbered d_many_lots⟩
  have d_first_rooms : Df l.prog w K mg base "first_rooms" 2 ["lots"] sp_firstrooms := ⟨f3, _, PySem.W.mg_of X G a3, keepF l3, F3.binds (ps := ["lots"]) (fun _ _ _ _ _ _ us hl => by obtain ⟨_, rfl⟩ := len1 hl; rfl), ok_first_rooms F3 T d_many_lots⟩
  have d_folded : Df l.prog w K mg base "folded" 3 ["walk", "lots"] (sp_folded cW) := ⟨f4, _, PySem.W.mg_of X G a4, keepF l4, F4.binds (ps := ["walk", "lots"]) (fun _ _ _ _ _ _ us hl => by obtain ⟨_, _, rfl⟩ := len2 hl; rfl), ok_folded F4 T WK d_first_rooms⟩
  have d_least : Df l.prog w K mg base "least" 7 ["machine"] (sp_least P0 sites) := ⟨f5, _, PySem.W.mg_of X G a5, keepF l5, F5.binds (ps := ["machine"]) (fun _ _ _ _ _ _ us hl => by obtain ⟨_, rfl⟩ := len1 hl; rfl), ok_least F5 T WK d_walked_machine d_rounds_of d_folded⟩
  have d__law_cell_at : Df l.prog w K mg base "_law_cell_at" 1 ["_law_script", "_law_k"] (sp_cell K) := ⟨f6, _, PySem.W.mg_of X G a6, keepF l6, F6.binds (ps := ["_law_script", "_law_k"]) (fun _ _ _ _ _ _ us hl => by obtain ⟨_, _, rfl⟩ := len2 hl; rfl), ok__law_cell_at F6 T ⟩
  have d__law_letters : Df l.prog w K mg base "_law_letters" 1 ["_law_cell"] sp_letters := ⟨f7, _, PySem.W.mg_of X G a7, keepF l7, F7.binds (ps := ["_law_cell"]) (fun _ _ _ _ _ _ us hl => by obtain ⟨_, rfl⟩ := len1 hl; rfl), ok__law_letters F7 T ⟩
  have d__law_machine : Df l.prog w K mg base "_law_machine" 2 ["_law_script", "_law_at", "_law_rooms", "_law_letters_here"] (sp_machine K) := ⟨f8, _, PySem.W.mg_of X G a8, keepF l8, F8.binds (ps := ["_law_script", "_law_at", "_law_rooms", "_law_letters_here"]) (fun _ _ _ _ _ _ us hl => by obtain ⟨_, _, _, _, rfl⟩ := len4 hl; rfl), ok__law_machine F8 T d__law_cell_at⟩
  have d__law_long : Df l.prog w K mg base "_law_long" 1 ["_law_machine_here", "_law_cell"] sp_long := ⟨f9, _, PySem.W.mg_of X G a9, keepF l9, F9.binds (ps := ["_law_machine_here", "_law_cell"]) (fun _ _ _ _ _ _ us hl => by obtain ⟨_, _, rfl⟩ := len2 hl; rfl), ok__law_long F9 T ⟩
  have d__law_twins : Df l.prog w K mg base "_law_twins" 1 ["_law_machine_here", "_law_cell"] sp_twins := ⟨f10, _, PySem.W.mg_of X G a10, keepF l10, F10.binds (ps := ["_law_machine_here", "_law_cell"]) (fun _ _ _ _ _ _ us hl => by obtain ⟨_, _, rfl⟩ := len2 hl; rfl), ok__law_twins F10 T ⟩
  have d__law_some : Df l.prog w K mg base "_law_some" 3 ["_law_script", "_law_rooms", "_law_letters_here"] (sp_some K) := ⟨f11, _, PySem.W.mg_of X G a11, keepF l11, F11.binds (ps := ["_law_script", "_law_rooms", "_law_letters_here"]) (fun _ _ _ _ _ _ us hl => by obtain ⟨_, _, _, rfl⟩ := len3 hl; rfl), ok__law_some F11 T d__law_machine d__law_cell_at d__law_long d__law_twins⟩
  have d__law_is_machine : Df l.prog w K mg base "_law_is_machine" 1 ["_law_found", "_law_letters_here"] sp_ismach := ⟨f12, _, PySem.W.mg_of X G a12, keepF l12, F12.binds (ps := ["_law_found", "_law_letters_here"]) (fun _ _ _ _ _ _ us hl => by obtain ⟨_, _, rfl⟩ := len2 hl; rfl), ok__law_is_machine F12 T ⟩
  have d__law_alike : Df l.prog w K mg base "_law_alike" 1 ["_law_machine_here", "_law_left", "_law_second", "_law_right"] sp_alike2 := ⟨f13, _, PySem.W.mg_of X G a13, keepF l13, F13.binds (ps := ["_law_machine_here", "_law_left", "_law_second", "_law_right"]) (fun _ _ _ _ _ _ us hl => by obtain ⟨_, _, _, _, rfl⟩ := len4 hl; rfl), ok__law_alike F13 T ⟩
  exact ok_law F14 T d__law_cell_at d__law_letters d__law_some d_least d__law_is_machine d__law_alike
end K12
end

open PySem PySem.W PyProof.Rows
set_option maxRecDepth 100000 in
set_option maxHeartbeats 0 in
theorem PySem.Challenge.cw_roomalgebra_k12_least_takes_the_same_holds : PySem.Challenge.rw_roomalgebra_k12_least_takes_the_same.Holds := by
  w_on; o_law; z_head; (case hw => w_witness2)
  k_fill
  intro w sa sb mg mb G ye fa ob pm cd dc dv kv e1 e2 e3 e4 e5 e6 gs vs bs La c1 c2 c3 c4 c5
  z_open ye La KX ZH ZN ZT
  clear ye La ZH ZN ZT
  refine L2.walk63t (k := 8) (x := "_law_script") (l := PySem.Challenge.rw_roomalgebra_k12_least_takes_the_same) (tabs := [(76, 72)]) rfl rfl ⟨rfl, by decide, by decide⟩ ?T ?F w sa sb mg mb G KX fa ob pm cd dc dv kv e1 e2 e3 e4 e5 e6 gs vs bs c1 c2 c3 c4 c5
  case T =>
    intro p q hq
    rw [List.mem_singleton.mp hq]
    exact ⟨by kernel_rfl, by kernel_rfl⟩
  case F =>
    intro w mg fa h KX G hmg
    refine' K12.all_mk rfl KX G hmg ?nW ?hI0 ?cls ?mk ?na1 ?na2 ?na3 ?na4 ?na5 ?lI ?cI ?aV ?lV ?cV ?lD ?aM ?lM ?cM ?a0 ?l0 ?c0 ?a1 ?l1 ?c1 ?a2 ?l2 ?c2 ?a3 ?l3 ?c3 ?a4 ?l4 ?c4 ?a5 ?l5 ?c5 ?a6 ?l6 ?c6 ?a7 ?l7 ?c7 ?a8 ?l8 ?c8 ?a9 ?l9 ?c9 ?a10 ?l10 ?c10 ?a11 ?l11 ?c11 ?a12 ?l12 ?c12 ?a13 ?l13 ?c13 ?a14 ?l14 ?c14 ?z_len ?z_range ?z_isinst ?z_int ?z_bool ?z_tuple ?z_list ?z_str ?z_zip ?z_max ?z_enumerate ?z_all
    (case nW => exact L2.nsD (by k_is) (by decide))
    (case hI0 => k_is)
    (case cls => exact ⟨by kernel_rfl, by kernel_rfl, by kernel_rfl, by kernel_rfl⟩)
    (case mk => exact ⟨by kernel_rfl, by kernel_rfl, by kernel_rfl, by kernel_rfl⟩)
    (case na1 => unfold L2.NoAttr; kernel_rfl)
    (case na2 => unfold L2.NoAttr; kernel_rfl)
    (case na3 => unfold L2.NoAttr; kernel_rfl)
    (case na4 => unfold L2.NoAttr; kernel_rfl)
    (case na5 => unfold L2.NoAttr; kernel_rfl)
    (case lI => exact L2.lkD (by k_is) (by decide))
    (case cI => exact L2.cdD (by k_is) (by decide))
    (case aV => exact L2.nsD (by k_is) (by decide))
    (case lV => exact L2.lkD (by k_is) (by decide))
    (case cV => exact L2.cdD (by k_is) (by decide))
    (case lD => exact L2.lkD (by k_is) (by decide))
    (case aM => exact L2.nsD (by k_is) (by decide))
    (case lM => exact L2.lkD (by k_is) (by decide))
    (case cM => exact L2.cdD (by k_is) (by decide))
    (case a0 => exact L2.nsD (by k_is) (by decide))
    (case l0 => exact L2.lkD (by k_is) (by decide))
    (case c0 => exact L2.cdD (by k_is) (by decide))
    (case a1 => exact L2.nsD (by k_is) (by decide))
    (case l1 => exact L2.lkD (by k_is) (by decide))
    (case c1 => exact L2.cdD (by k_is) (by decide))
    (case a2 => exact L2.nsD (by k_is) (by decide))
    (case l2 => exact L2.lkD (by k_is) (by decide))
    (case c2 => exact L2.cdD (by k_is) (by decide))
    (case a3 => exact L2.nsD (by k_is) (by decide))
    (case l3 => exact L2.lkD (by k_is) (by decide))
    (case c3 => exact L2.cdD (by k_is) (by decide))
    (case a4 => exact L2.nsD (by k_is) (by decide))
    (case l4 => exact L2.lkD (by k_is) (by decide))
    (case c4 => exact L2.cdD (by k_is) (by decide))
    (case a5 => exact L2.nsD (by k_is) (by decide))
    (case l5 => exact L2.lkD (by k_is) (by decide))
    (case c5 => exact L2.cdD (by k_is) (by decide))
    (case a6 => exact L2.nsD (by k_is) (by decide))
    (case l6 => exact L2.lkD (by k_is) (by decide))
    (case c6 => exact L2.cdD (by k_is) (by decide))
    (case a7 => exact L2.nsD (by k_is) (by decide))
    (case l7 => exact L2.lkD (by k_is) (by decide))
    (case c7 => exact L2.cdD (by k_is) (by decide))
    (case a8 => exact L2.nsD (by k_is) (by decide))
    (case l8 => exact L2.lkD (by k_is) (by decide))
    (case c8 => exact L2.cdD (by k_is) (by decide))
    (case a9 => exact L2.nsD (by k_is) (by decide))
    (case l9 => exact L2.lkD (by k_is) (by decide))
    (case c9 => exact L2.cdD (by k_is) (by decide))
    (case a10 => exact L2.nsD (by k_is) (by decide))
    (case l10 => exact L2.lkD (by k_is) (by decide))
    (case c10 => exact L2.cdD (by k_is) (by decide))
    (case a11 => exact L2.nsD (by k_is) (by decide))
    (case l11 => exact L2.lkD (by k_is) (by decide))
    (case c11 => exact L2.cdD (by k_is) (by decide))
    (case a12 => exact L2.nsD (by k_is) (by decide))
    (case l12 => exact L2.lkD (by k_is) (by decide))
    (case c12 => exact L2.cdD (by k_is) (by decide))
    (case a13 => exact L2.nsD (by k_is) (by decide))
    (case l13 => exact L2.lkD (by k_is) (by decide))
    (case c13 => exact L2.cdD (by k_is) (by decide))
    (case a14 => exact L2.nsD (by k_is) (by decide))
    (case l14 => exact L2.lkD (by k_is) (by decide))
    (case c14 => exact L2.cdD (by k_is) (by decide))
    (case z_len => exact L2.nsD (by k_is) (by decide))
    (case z_range => exact L2.nsD (by k_is) (by decide))
    (case z_isinst => exact L2.nsD (by k_is) (by decide))
    (case z_int => exact L2.nsD (by k_is) (by decide))
    (case z_bool => exact L2.nsD (by k_is) (by decide))
    (case z_tuple => exact L2.nsD (by k_is) (by decide))
    (case z_list => exact L2.nsD (by k_is) (by decide))
    (case z_str => exact L2.nsD (by k_is) (by decide))
    (case z_zip => exact L2.nsD (by k_is) (by decide))
    (case z_max => exact L2.nsD (by k_is) (by decide))
    (case z_enumerate => exact L2.nsD (by k_is) (by decide))
    (case z_all => exact L2.nsD (by k_is) (by decide))
#print axioms PySem.Challenge.cw_roomalgebra_k12_least_takes_the_same_holds

