import PyProof.Rows.All
import Wide.All
import OpenK.AllK
import Wide.FinOn
import Lean
import PyProof.EqAt
import PyProof.EqKinds
import PyProof.TupleCall
import PyProof.Draws
import PyProof.ZipIter
import PySem.Challenge.RW_roomalgebra_k15_parting_words
-- CHANGE: your row's module here, as the last of these rows
set_option Elab.async false
set_option linter.all false
set_option maxRecDepth 100000
/-! THE HAND LAYER, for ints, bools, texts, own classes, LISTS and tuples (index, slices, in, append, pop ..), calls, loops. Paste it whole ahead of your own text; what your proof does not reach may be deleted. -/
namespace L2
open PySem PySem.Spec PyProof.Rows

/-- a key: an int or a str -/
abbrev Key := Sum Int Str
def keyIs : Key → Value → Bool
  | .inl k, v => Value.isInt k v
  | .inr x, v => Value.isStrOf x v
def keyH (w : World) : Key → Int
  | .inl k => hashInt k
  | .inr x => hashStr w x
theorem keyIs_shape : ∀ {k : Key} {v : Value}, keyIs k v = true → (∃ i t, k = Sum.inl i ∧ v = Value.int i t) ∨ (∃ x t, k = Sum.inr x ∧ v = Value.str x t)
  | .inl i, v, h => by
    obtain ⟨t, e⟩ := Value.isInt_shape (k := i) (v := v) h
    exact .inl ⟨i, t, rfl, e⟩
  | .inr x, v, h => by
    obtain ⟨t, e⟩ := Value.isStrOf_shape (x := x) (v := v) h
    exact .inr ⟨x, t, rfl, e⟩
theorem key_ll (a b : Int) : decide ((Sum.inl a : Key) = Sum.inl b) = (a == b) := by
  by_cases e : a = b
  · subst e; simp
  · have h : ¬ (Sum.inl a : Key) = Sum.inl b := fun q => e (Sum.inl.inj q)
    rw [decide_eq_false h]
    exact (beq_eq_false_iff_ne.mpr e).symm
theorem key_rr (a b : Str) : decide ((Sum.inr a : Key) = Sum.inr b) = decide (a = b) := by
  by_cases e : a = b
  · subst e; simp
  · have h : ¬ (Sum.inr a : Key) = Sum.inr b := fun q => e (Sum.inr.inj q)
    rw [decide_eq_false h, decide_eq_false e]
theorem key_lr (a : Int) (b : Str) : decide ((Sum.inl a : Key) = Sum.inr b) = false := decide_eq_false (fun q => nomatch q)
theorem key_rl (a : Str) (b : Int) : decide ((Sum.inr a : Key) = Sum.inl b) = false := decide_eq_false (fun q => nomatch q)

def mixKind (prog : Program) (w : World) : PySem.KeyKind prog w Key where
  is := keyIs
  hash := keyH w
  inj := fun v a b ha hb => by
    rcases keyIs_shape ha with ⟨i, t, rfl, rfl⟩ | ⟨x, t, rfl, rfl⟩
    · rcases keyIs_shape hb with ⟨j, u, rfl, e⟩ | ⟨y, u, rfl, e⟩
      · injection e with e1 _; rw [e1]
      · exact nomatch e
    · rcases keyIs_shape hb with ⟨j, u, rfl, e⟩ | ⟨y, u, rfl, e⟩
      · exact nomatch e
      · injection e with e1 _; rw [e1]
  byValue := fun k v h => by
    rcases keyIs_shape h with ⟨i, t, rfl, rfl⟩ | ⟨x, t, rfl, rfl⟩ <;> rfl
  pyHash := fun hv h => by
    rcases keyIs_shape hv with ⟨i, t, rfl, rfl⟩ | ⟨x, t, rfl, rfl⟩
    · exact wpAny_pyHash_int h
    · exact wpAny_pyHash_str h
  eqBool := fun hu hv h => by
    rcases keyIs_shape hu with ⟨i, t, rfl, rfl⟩ | ⟨x, t, rfl, rfl⟩
    · rcases keyIs_shape hv with ⟨j, u, rfl, rfl⟩ | ⟨y, u, rfl, rfl⟩
      · rw [key_ll] at h; exact wpAny_eqBool_int h
      · rw [key_lr] at h; exact SeqAt.EqAt.int_str i t y u _ _ _ _ h
    · rcases keyIs_shape hv with ⟨j, u, rfl, rfl⟩ | ⟨y, u, rfl, rfl⟩
      · rw [key_rl] at h; exact SeqAt.EqAt.str_int x t j u _ _ _ _ h
      · rw [key_rr] at h; exact wpAny_eqBool_str h
  «strs» := fun k x t v h => by
    rcases keyIs_shape h with ⟨i, u, rfl, e⟩ | ⟨y, u, rfl, e⟩
    · exact nomatch e
    · injection e with e1 _
      subst e1
      cases v <;> rfl

end L2

namespace L2
open PySem PySem.Spec PyProof.Rows

/-- a value, without the heap -/
inductive V where
  | non | bl (b : Bool) | int (i : Int) | str (x : Str) | byt (b : Array UInt8) | flt (b : UInt64) | ref (a : Addr) | ty (n : String)
  deriving DecidableEq

def RelV : V → Value → Prop
  | .non, u => u = Value.none
  | .bl b, u => u = Value.bool b
  | .int i, u => ∃ t, u = Value.int i t
  | .str x, u => ∃ t, u = Value.str x t
  | .byt b, u => ∃ t, u = Value.bytes b t
  | .flt b, u => ∃ t, u = Value.float b t
  | .ref a, u => u = Value.ref a
  | .ty n, u => u = Value.type n

abbrev Vals : List V → List Value → Prop := Paired RelV
theorem Vals.length {xs : List V} {us : List Value} (r : Vals xs us) : xs.length = us.length := Paired.length r
theorem Vals.get : ∀ {xs : List V} {us : List Value} {i : Nat} {x : V}, Vals xs us → xs[i]? = some x → ∃ u, us[i]? = some u ∧ RelV x u
  | _, _, _, _, .nil, e => by simp at e
  | _, _, 0, _, .cons r _, e => by simp at e; subst e; exact ⟨_, rfl, r⟩
  | _, _, i + 1, x, .cons _ t, e => by
    obtain ⟨u, h1, h2⟩ := Vals.get (i := i) (x := x) t (by simpa using e)
    exact ⟨u, by simpa using h1, h2⟩
theorem Vals.set {x : V} {u : Value} (r : RelV x u) : ∀ {xs : List V} {us : List Value} (i : Nat), Vals xs us → Vals (xs.set i x) (us.set i u)
  | _, _, _, .nil => .nil
  | _, _, 0, .cons _ t => .cons r t
  | _, _, i + 1, .cons q t => .cons q (Vals.set r i t)
theorem Vals.append : ∀ {xs ys : List V} {us ws : List Value}, Vals xs us → Vals ys ws → Vals (xs ++ ys) (us ++ ws)
  | _, _, _, _, .nil, s => s
  | _, _, _, _, .cons r t, s => .cons r (Vals.append t s)
theorem Vals.take : ∀ {xs : List V} {us : List Value} (n : Nat), Vals xs us → Vals (xs.take n) (us.take n)
  | _, _, 0, _ => .nil
  | _, _, _ + 1, .nil => .nil
  | _, _, n + 1, .cons r t => .cons r (Vals.take n t)
theorem Vals.drop : ∀ {xs : List V} {us : List Value} (n : Nat), Vals xs us → Vals (xs.drop n) (us.drop n)
  | _, _, 0, r => r
  | _, _, _ + 1, .nil => .nil
  | _, _, n + 1, .cons _ t => Vals.drop n t
def RelO : Option V → Option Value → Prop
  | some v, some u => RelV v u
  | none, none => True
  | _, _ => False
def KV {κ : Type} : List (κ × V) → List (κ × Value) → Prop := Paired fun (p : κ × V) (q : κ × Value) => p.1 = q.1 ∧ RelV p.2 q.2

/-- a key of a dict (00_mix): an int or a text -/
def kV : Key → V
  | .inl i => .int i
  | .inr x => .str x

/-- what stands at a tracked address -/
inductive HO where
  /-- a list -/
  | lst (xs : List V)
  /-- a tuple (never changes) -/
  | tup (xs : List V)
  /-- a dict whose keys are ints and texts; one whose keys are tuples of ints and texts (the empty one is both) -/
  | dK (kvs : List (Key × V)) | dT (kvs : List (List Key × V))
  /-- a set of ints: its members, its size -/
  | set (S : Int → Bool) (n : Nat)
  /-- an instance of the class at C, its dict at dx, its attributes -/
  | ins (C dx : Addr) (fs : List (Str × V))
  /-- the dict of the instance at x -/
  | own (x : Addr)
  /-- the dict of an exception -/
  | xd (fs : List (Str × V))
  /-- a bound method, f of x -/
  | met (f x : Addr)
  /-- a range object lo, lo + 1, .. below hi -/
  | rng (lo hi : Int)
  /-- a thing that is known to the object (the script; a dict while a loop walks it): read, never written while it is so -/
  | frz (o : Obj) (u : HO)
  /-- a code object's table -/
  | tbl (ps : Array Value)
  /-- any other thing, by what is true of its one object (a def of one's own: SetO a S n := HO.ext fun h => ..) -/
  | ext (φ : Heap → Prop)

abbrev Hp := Addr → Option HO
def upd (H : Hp) (a : Addr) (o : HO) : Hp := fun b => if b = a then some o else H b
theorem upd_same {H : Hp} {a : Addr} {o : HO} : upd H a o a = some o := by unfold upd; rw [if_pos rfl]
theorem upd_ne {H : Hp} {a b : Addr} {o : HO} (h : b ≠ a) : upd H a o b = H b := by unfold upd; rw [if_neg h]
theorem upd_upd {H : Hp} {a : Addr} {o u : HO} : upd (upd H a o) a u = upd H a u := by
  funext b; unfold upd; split <;> rfl
/-- two objects of different content stand apart -/
theorem ne_of {H : Hp} {a b : Addr} {o u : HO} (h : H a = some o) (h' : H b = some u) (d : o ≠ u) : a ≠ b := by
  intro e; subst e; rw [h] at h'; exact d (Option.some.inj h')
theorem ne_of_none {H : Hp} {a b : Addr} {o : HO} (h : H a = some o) (h' : H b = none) : a ≠ b := by
  intro e; subst e; rw [h] at h'; cases h'

section
variable (P : Program) (w : World)
def ObjOk (H : Hp) (h : Heap) (a : Addr) : HO → Prop
  | .lst xs => xs.length ≤ sizeLine ∧ ∃ (its : List Value) (n : Nat), Vals xs its ∧ h.get? a = some { cls := .type "list", data := .seq its.toArray n }
  | .tup xs => xs.length ≤ sizeLine ∧ ∃ its : List Value, Vals xs its ∧ IsTup h a its.toArray
  | .dK kvs => kvs.length ≤ sizeLine ∧ (a == sysModules) = false ∧ ∃ vs, KV kvs vs ∧ h.DictOf (mixKind P w) a vs
  | .dT kvs => kvs.length ≤ sizeLine ∧ (a == sysModules) = false ∧ ∃ xs : List (List Key × Addr × Value),
      Paired (fun (p : List Key × V) (q : List Key × Addr × Value) => p.1 = q.1 ∧ H q.2.1 = some (.tup (p.1.map kV)) ∧ RelV p.2 q.2.2) kvs xs ∧
      ∃ o es ep, h.get? a = some o ∧ o.ExactDict ∧ o.data = .dict es ep ∧ es.toList = xs.map (entryOfKey (tupleKind (mixKind P w))) ∧ (xs.map (·.1)).Nodup
  | .set S n => h.SetOf (intKind P w) a S n
  | .ins C dx fs => H dx = some (.own a) ∧ fs.length ≤ 1000 ∧ dx ≠ a ∧ h.get? a = some (PySem.W.instObj C dx) ∧
      ∃ mA, h.Ns1 dx mA ∧ (∀ f, RelO (fs.lookup f) (mA f)) ∧ PySem.Within mA (fs.map (·.1))
  | .own _ => ∃ o, h.get? a = some o
  | .xd fs => ∃ mA, h.Ns1 a mA ∧ ∀ f, RelO (fs.lookup f) (mA f)
  | .rng lo hi => ∃ t u v, h.get? a = some { cls := .type "range", data := .fields #[.int lo t, .int hi u, .int 1 v] }
  | .frz o u => h.get? a = some o ∧ ObjOk H h a u
  | .tbl ps => h.get? a = some { cls := .none, data := .fields ps }
  | .met f x => h.get? a = some (PySem.W.methodObj (.ref f) (.ref x))
  | .ext φ => φ h ∧ (∃ o, h.get? a = some o) ∧ ∀ h1 h2 : Heap, φ h1 → (∀ o, h1.get? a = some o → h2.get? a = some o) → φ h2
/-- the abstract heap is held -/
def HOk (H : Hp) (h : Heap) : Prop := ∀ a o, H a = some o → ObjOk P w H h a o
end

section
variable {P : Program} {w : World} {H H' : Hp} {h h' : Heap} {a : Addr} {o : HO}
theorem ObjOk.lt (x : ObjOk P w H h a o) : a < h.objs.size := by
  cases o with
  | lst xs => obtain ⟨_, _, _, _, e⟩ := x; exact Heap.lt_size e
  | tup xs => obtain ⟨_, _, _, p⟩ := x; exact p.lt
  | dK kvs => obtain ⟨_, _, _, _, o, _, _, e, _⟩ := x; exact Heap.lt_size e
  | dT kvs => obtain ⟨_, _, _, _, o, _, _, e, _⟩ := x; exact Heap.lt_size e
  | set S n => obtain ⟨o, _, _, _, e, _⟩ := x; exact Heap.lt_size e
  | ins C dx fs => obtain ⟨_, _, _, e, _⟩ := x; exact Heap.lt_size e
  | own y => obtain ⟨_, e⟩ := x; exact Heap.lt_size e
  | xd fs => obtain ⟨_, ⟨_, _, _, e, _⟩, _⟩ := x; exact Heap.lt_size e
  | rng lo hi => obtain ⟨_, _, _, e⟩ := x; exact Heap.lt_size e
  | frz ob u => obtain ⟨e, _⟩ := x; exact Heap.lt_size e
  | tbl ps => exact Heap.lt_size (show h.get? a = some _ from x)
  | met f y => exact Heap.lt_size (show h.get? a = some _ from x)
  | ext φ => obtain ⟨_, ⟨_, e⟩, _⟩ := x; exact Heap.lt_size e
theorem Paired.mapP {α β : Type} {F G : α → β → Prop} : ∀ {l₁ : List α} {l₂ : List β}, Paired F l₁ l₂ → (∀ a b, F a b → G a b) → Paired G l₁ l₂
  | _, _, .nil, _ => .nil
  | _, _, .cons r t, f => .cons (f _ _ r) (Paired.mapP t f)
/-- what an object's description leans on: its own object, its own dict, the tuples -/
theorem ObjOk.stay (x : ObjOk P w H h a o) (k : ∀ b u, (b = a ∨ H b = some (.own a)) → h.get? b = some u → h'.get? b = some u)
    (ho : ∀ b, H b = some (.own a) → H' b = some (.own a)) (ht : ∀ b xs, H b = some (.tup xs) → H' b = some (.tup xs)) : ObjOk P w H' h' a o := by
  induction o with
  | lst xs => obtain ⟨z, its, n, r, e⟩ := x; exact ⟨z, its, n, r, k _ _ (.inl rfl) e⟩
  | tup xs => obtain ⟨z, its, r, ob, e, c⟩ := x; exact ⟨z, its, r, ob, k _ _ (.inl rfl) e, c⟩
  | dK kvs => obtain ⟨z, y, vs, r, ob, es, ep, e, c⟩ := x; exact ⟨z, y, vs, r, ob, es, ep, k _ _ (.inl rfl) e, c⟩
  | dT kvs =>
    obtain ⟨z, y, xs, r, ob, es, ep, e, c⟩ := x
    exact ⟨z, y, xs, Paired.mapP r fun p q z => ⟨z.1, ht _ _ z.2.1, z.2.2⟩, ob, es, ep, k _ _ (.inl rfl) e, c⟩
  | set S n => obtain ⟨ob, es, ep, t, e, c⟩ := x; exact ⟨ob, es, ep, t, k _ _ (.inl rfl) e, c⟩
  | ins C dx fs =>
    obtain ⟨d, z, ne, e, mA, ⟨od, es, ep, e2, c⟩, r⟩ := x
    exact ⟨ho _ d, z, ne, k _ _ (.inl rfl) e, mA, ⟨od, es, ep, k _ _ (.inr d) e2, c⟩, r⟩
  | own y => obtain ⟨ob, e⟩ := x; exact ⟨ob, k _ _ (.inl rfl) e⟩
  | xd fs => obtain ⟨mA, ⟨od, es, ep, e, c⟩, r⟩ := x; exact ⟨mA, ⟨od, es, ep, k _ _ (.inl rfl) e, c⟩, r⟩
  | rng lo hi => obtain ⟨t, u, v, e⟩ := x; exact ⟨t, u, v, k _ _ (.inl rfl) e⟩
  | frz ob u ih => obtain ⟨e, q⟩ := x; exact ⟨k _ _ (.inl rfl) e, ih q⟩
  | tbl ps =>
    have e : h.get? a = some { cls := .none, data := .fields ps } := x
    show h'.get? a = some { cls := .none, data := .fields ps }
    exact k a _ (.inl rfl) e
  | met f y =>
    have e : h.get? a = some (PySem.W.methodObj (.ref f) (.ref y)) := x
    show h'.get? a = some (PySem.W.methodObj (.ref f) (.ref y))
    exact k a _ (.inl rfl) e
  | ext φ => obtain ⟨p, ⟨o, e⟩, st⟩ := x; exact ⟨st _ _ p fun o q => k _ _ (.inl rfl) q, ⟨o, k _ _ (.inl rfl) e⟩, st⟩
theorem HOk.lt (x : HOk P w H h) (e : H a = some o) : a < h.objs.size := (x a o e).lt
theorem HOk.fresh (x : HOk P w H h) (e : h.objs.size ≤ a) : H a = none := by
  cases q : H a with
  | none => rfl
  | some u => exact absurd (Nat.lt_of_lt_of_le (x.lt q) e) (Nat.lt_irrefl _)
/-- every object of the heap is kept -/
theorem HOk.kept (x : HOk P w H h) (k : ∀ b u, h.get? b = some u → h'.get? b = some u) : HOk P w H h' := fun a o e =>
  (x a o e).stay (fun b u _ q => k b u q) (fun _ q => q) fun _ _ q => q
/-- a new object is laid and tracked -/
theorem HOk.laid (x : HOk P w H h) (k : ∀ b u, h.get? b = some u → h'.get? b = some u) (hp : h.objs.size ≤ a) (new : ObjOk P w (upd H a o) h' a o) : HOk P w (upd H a o) h' := fun b u e => by
  have hn := x.fresh hp
  by_cases hb : b = a
  · subst hb; rw [upd_same] at e; cases e; exact new
  · rw [upd_ne hb] at e
    exact (x b u e).stay (fun c v _ q => k c v q) (fun c q => by rw [upd_ne (ne_of_none q hn)]; exact q) fun c xs q => by rw [upd_ne (ne_of_none q hn)]; exact q
end

/-- what may be read as u: it is u, or a known u -/
def Rd (H : Hp) (a : Addr) (u : HO) : Prop := H a = some u ∨ ∃ o, H a = some (.frz o u)
theorem Rd.ok {P : Program} {w : World} {H : Hp} {h : Heap} {a : Addr} {u : HO} (r : Rd H a u) (x : HOk P w H h) : ObjOk P w H h a u := by
  rcases r with r | ⟨o, r⟩
  · exact x a u r
  · obtain ⟨_, q⟩ := x a _ r
    exact q
/-- what may be written -/
def Mut : Option HO → Prop
  | some (.lst _) => True
  | some (.dK _) => True
  | some (.dT _) => True
  | some (.set _ _) => True
  | some (.ins _ _ _) => True
  | some (.ext _) => True
  | _ => False
section
variable {P : Program} {w : World} {H : Hp} {h h' : Heap} {x e : Addr} {o' : HO}
/-- the object at e is changed: x itself, or the dict of the instance x -/
theorem HOk.write (ok : HOk P w H h) (mu : Mut (H x)) (he : e = x ∨ H e = some (.own x)) (k : ∀ b u, b ≠ e → h.get? b = some u → h'.get? b = some u) (heo : ∃ u, h'.get? e = some u)
    (new : ObjOk P w (upd H x o') h' x o') : HOk P w (upd H x o') h' := fun b u q => by
  have nown : ∀ c y, H c = some (.own y) → c ≠ x := fun c y r z => by subst z; rw [r] at mu; exact mu
  have ntup : ∀ c xs, H c = some (.tup xs) → c ≠ x := fun c xs r z => by subst z; rw [r] at mu; exact mu
  by_cases hb : b = x
  · subst hb; rw [upd_same] at q; cases q; exact new
  · rw [upd_ne hb] at q
    by_cases hbe : b = e
    · have q' : H b = some (.own x) := by
        rcases he with z | z
        · exact absurd (hbe.trans z) hb
        · rw [hbe]; exact z
      rw [q] at q'; cases q'
      obtain ⟨v, hv⟩ := heo
      exact ⟨v, by rw [hbe]; exact hv⟩
    · refine (ok b u q).stay (fun c v hc r => k c v ?_ r) (fun c r => by rw [upd_ne (nown c b r)]; exact r) fun c xs r => by rw [upd_ne (ntup c xs r)]; exact r
      rcases hc with rfl | hc
      · exact hbe
      · rintro rfl
        rcases he with z | z
        · exact nown c b hc z
        · rw [hc] at z; cases z; exact hb rfl
end

/-! ### kept unless tracked; of the frames at fs (the callers') the slots may change (an exception that passes writes there); of the records at ex (iterators) nothing is said -/
structure Un (fs ex : List Addr) (H H' : Hp) (h h' : Heap) : Prop where
  keep : ∀ b o, h.get? b = some o → H b = none → b ∉ fs → b ∉ ex → h'.get? b = some o
  slot : ∀ b o, h.get? b = some o → H b = none → b ∈ fs → b ∉ ex → ∃ sl, h'.get? b = some { o with slots := sl }
  free : ∀ b o, h.get? b = some o → H b = none → b ∉ ex → H' b = none
  there : ∀ b o, h.get? b = some o → b ∉ ex → ∃ o', h'.get? b = some o'
  tups : ∀ b xs, H b = some (.tup xs) → H' b = some (.tup xs)
  frzs : ∀ b o u, H b = some (.frz o u) → H' b = some (.frz o u)
  tbls : ∀ b ps, H b = some (.tbl ps) → ∃ more, H' b = some (.tbl (ps ++ more))
section
variable {fs fs' ex ex' : List Addr} {H H1 H2 : Hp} {h h1 h2 h' : Heap} {a x e : Addr} {o : HO}
theorem Un.any (u : Un fs ex H H1 h h1) {b : Addr} {ob : Obj} (q : h.get? b = some ob) (n : H b = none) (hx : b ∉ ex) : ∃ sl, h1.get? b = some { ob with slots := sl } := by
  by_cases hb : b ∈ fs
  · exact u.slot b ob q n hb hx
  · exact ⟨ob.slots, u.keep b ob q n hb hx⟩
theorem Un.kept (k : ∀ b u, h.get? b = some u → h'.get? b = some u) : Un fs ex H H h h' :=
  ⟨fun b ob q _ _ _ => k b ob q, fun b ob q _ _ _ => ⟨ob.slots, k b ob q⟩, fun _ _ _ n _ => n, fun b ob q _ => ⟨ob, k b ob q⟩, fun _ _ q => q, fun _ _ _ q => q, fun _ ps q => ⟨#[], by rw [q]; simp⟩⟩
theorem Un.refl : Un fs ex H H h h := Un.kept fun _ _ q => q
theorem Un.laid (k : ∀ b u, h.get? b = some u → h'.get? b = some u) (hp : h.objs.size ≤ a) (hn : H a = none) : Un fs ex H (upd H a o) h h' where
  keep := fun b u q _ _ _ => k b u q
  slot := fun b u q _ _ _ => ⟨u.slots, k b u q⟩
  free := fun b u q n _ => by rw [upd_ne (Nat.ne_of_lt (Nat.lt_of_lt_of_le (Heap.lt_size q) hp))]; exact n
  there := fun b u q _ => ⟨u, k b u q⟩
  tups := fun b xs q => by rw [upd_ne (ne_of_none q hn)]; exact q
  frzs := fun b u xs q => by rw [upd_ne (ne_of_none q hn)]; exact q
  tbls := fun b ps q => ⟨#[], by rw [upd_ne (ne_of_none q hn), q]; simp⟩
theorem Un.write (mu : Mut (H x)) (he : e = x ∨ H e = some (.own x)) (k : ∀ b u, b ≠ e → h.get? b = some u → h'.get? b = some u) (heo : ∃ u, h'.get? e = some u) : Un fs ex H (upd H x o) h h' := by
  have hx : ∀ b, H b = none → b ≠ x := fun b n z => by subst z; rw [n] at mu; exact mu
  have hb : ∀ b, H b = none → b ≠ e := fun b n z => by
    subst z
    rcases he with r | r
    · exact hx b n r
    · rw [n] at r; cases r
  have hm : ∀ b u, H b = some u → ¬ Mut (some u) → b ≠ x := fun b u q nm z => by subst z; rw [q] at mu; exact nm mu
  refine ⟨fun b u q n _ _ => k b u (hb b n) q, fun b u q n _ _ => ⟨u.slots, k b u (hb b n) q⟩, fun b u q n _ => by rw [upd_ne (hx b n)]; exact n, fun b u q _ => ?_,
    fun b xs q => by rw [upd_ne (hm b _ q fun z => z)]; exact q, fun b u xs q => by rw [upd_ne (hm b _ q fun z => z)]; exact q, fun b ps q => ⟨#[], by rw [upd_ne (hm b _ q fun z => z), q]; simp⟩⟩
  by_cases hbe : b = e
  · subst hbe; exact heo
  · exact ⟨u, k b u hbe q⟩
end

/-! ### the heap without what is tracked -/
def trk (h : Heap) (H : Hp) : List Addr := (List.range h.objs.size).filter fun a => (H a).isSome
def hidT (h : Heap) (H : Hp) : Heap := PySem.W.hideAll h (trk h H)
theorem hidT_size (h : Heap) (H : Hp) : (hidT h H).objs.size = h.objs.size := PySem.W.hideAll_size _ _
theorem hidT_get {h : Heap} {H : Hp} {b : Addr} {o : Obj} (e : h.get? b = some o) (n : H b = none) : (hidT h H).get? b = some o :=
  PySem.W.hideAll_get _ e fun hm => by
    have q : (H b).isSome = true := (List.mem_filter.mp hm).2
    rw [n] at q; simp at q
theorem of_hidT {h : Heap} {H : Hp} {b : Addr} {o : Obj} (e : (hidT h H).get? b = some o) : h.get? b = some o ∧ H b = none := by
  have e' : h.get? b = some o := PySem.W.of_hideAll (trk h H) e
  refine ⟨e', ?_⟩
  cases q : H b with
  | none => rfl
  | some x =>
    have hm : b ∈ trk h H := List.mem_filter.mpr ⟨List.mem_range.mpr (Heap.lt_size e'), by simp [q]⟩
    have z : (hidT h H).get? b = none := PySem.W.hideAll_none (trk h H) hm
    rw [z] at e; cases e

/-! ### OpenK's ledger, filled with every new object but one -/
def allNews (g h : Heap) (L : Addr) : List (Addr × Obj) := (List.range h.objs.size).filterMap fun a => if a = L ∨ (g.get? a).isSome = true then none else (h.get? a).map fun o => (a, o)
def rest (g h : Heap) (L d : Addr) : List (Addr × Obj) := (allNews g h L).filter fun p => decide (p.1 ≠ d)
end L2

namespace L2
open PySem PySem.Spec PyProof.Rows

/-- the module's facts, over the base: the heap at the law's entry without what is tracked there -/
structure Mod (K : PySem.W.Frag) (mg : Str → Option Value) (base : Heap) : Prop where
  kin : K.In base
  glob : base.Ns mainGlobals mg
  blt : ∃ mb, base.Ns builtinsNs mb ∧ ∀ x : Str, x ≠ "__name__" → mb x = bootBuiltins x
  nolimit : base.NoLimit

/-- the context: a def's body (or a comprehension's block) running. base: fixed through the whole law; s₀, H₀: the entry; outer: the frames whose slots others may change (a def's callers); stack: all frames that run;
   ex: iterators that were made ahead of the entry and are walked here (a comprehension's); fn: the names whose cells were made at the entry (a def: all; a comprehension's block: its own); calm: not within an except suite; pn: pins that every state bears; xe: what is wanted of an exception that leaves the code -/
structure Cx where
  prog : Program
  w : World
  K : PySem.W.Frag
  mg : Str → Option Value
  base : Heap
  A : Around
  N : List Str
  s₀ : Shared
  H₀ : Hp
  env : Env
  outer : List Env
  stack : List Env
  ex : List Addr
  fn : Str → Bool
  calm : Bool
  pn : List (Addr × Obj)
  xe : Value → Shared → Prop
/-- the callers' frames -/
def frs (l : List Env) : List Addr := l.filterMap (·.frame)
abbrev Cx.fs (X : Cx) : List Addr := frs X.outer

def Vis (sc : Scope) (x : Str) : Prop := sc.names.lookup x = some .local ∨ sc.names.lookup x = some .cell ∨ sc.names.lookup x = some .free
def Loc (sc : Scope) (x : Str) : Prop := sc.names.lookup x = some .local ∨ sc.names.lookup x = some .cell
def Look (env : Env) (h : Heap) (m : Str → Option Value) (x : Str) (u : Value) : Prop :=
  (env.kindOf x = some .local ∧ m x = some u) ∨ ((env.kindOf x = some .cell ∨ env.kindOf x = some .free) ∧ ∃ c, env.cells.lookup x = some c ∧ h.IsCell c (some u))

structure Cx.Ok (X : Cx) : Prop where
  mod : Mod X.K X.mg X.base
  kind : X.env.scope.kind = .function
  glob : X.env.globals = mainGlobals
  blt : X.env.builtins = builtinsNs
  above : X.s₀.heap.objs.size ≤ X.env.locals
  inj : ∀ x y c, X.env.cells.lookup x = some c → X.env.cells.lookup y = some c → x = y
  has : ∀ x, (X.env.kindOf x = some .cell ∨ X.env.kindOf x = some .free) → ∃ c, X.env.cells.lookup x = some c
  cab : ∀ x c, X.fn x = true → X.env.cells.lookup x = some c → X.s₀.heap.objs.size ≤ c
  hd : X.calm = true → X.A.handled = none
  frames : X.A.frames = some X.stack
  stk : X.stack = X.outer ∨ (X.stack = X.env :: X.outer ∧ X.env.frame = some X.env.locals)
  exf : ∀ b ∈ X.ex, b ≠ X.env.locals ∧ ∀ x c, X.env.cells.lookup x = some c → c ≠ b
  bs : ∀ b o, X.base.get? b = some o → X.s₀.heap.get? b = some o ∧ X.H₀ b = none
  bsz : X.base.objs.size ≤ X.s₀.heap.objs.size
  noex : ∀ b o, X.base.get? b = some o → b ∉ X.ex
  exfs : ∀ b ∈ X.ex, b ∉ X.fs
  funs : X.s₀.heap.FunFrames X.base X.outer
  frf : ∀ b ∈ X.fs, X.H₀ b = none

structure Inv (X : Cx) (pins : List (Addr × Obj)) (σ : List (Option V)) (H : Hp) (s : Shared) : Prop where
  ok : X.Ok
  os : s.os = X.s₀.os
  bare : AllBare s.gens
  base : Un X.fs X.ex X.H₀ H X.s₀.heap s.heap
  loc : ∃ m, s.heap.Ns X.env.locals m ∧ ∀ (i : Nat) (x : Str) (v : V), X.N[i]? = some x → σ[i]? = some (some v) → Vis X.env.scope x → ∃ u, RelV v u ∧ Look X.env s.heap m x u
  cell : ∀ x c, X.env.cells.lookup x = some c → ∃ v, s.heap.IsCell c v
  free : H X.env.locals = none
  freeC : ∀ x c, X.env.cells.lookup x = some c → H c = none
  pin : ∀ p ∈ X.pn ++ pins, s.heap.get? p.1 = some p.2 ∧ H p.1 = none ∧ p.1 ≠ X.env.locals ∧ p.1 ∉ X.fs ∧ ∀ v, p.2.data ≠ .cell v
  hok : HOk X.prog X.w H s.heap
  len : σ.length = X.N.length

section
variable {X : Cx} {pins : List (Addr × Obj)} {σ : List (Option V)} {H H' : Hp} {s : Shared} {h' : Heap}

theorem Cx.Ok.nofr (ok : X.Ok) {b : Addr} {o : Obj} (e : X.base.get? b = some o) : b ∉ X.fs := fun hb => by
  have := (ok.funs.mem hb).1
  rw [e] at this; cases this
theorem Inv.bs (I : Inv X pins σ H s) : ∀ b o, X.base.get? b = some o → s.heap.get? b = some o ∧ H b = none := fun b o e =>
  ⟨I.base.keep b o (I.ok.bs b o e).1 (I.ok.bs b o e).2 (I.ok.nofr e) (I.ok.noex b o e), I.base.free b o (I.ok.bs b o e).1 (I.ok.bs b o e).2 (I.ok.noex b o e)⟩
theorem Inv.bk (I : Inv X pins σ H s) : ∀ b o, X.base.get? b = some o → s.heap.get? b = some o := fun b o e => (I.bs b o e).1
theorem Inv.mod (I : Inv X pins σ H s) : Mod X.K X.mg X.base := I.ok.mod
theorem Inv.kIn (I : Inv X pins σ H s) : X.K.In s.heap := I.ok.mod.kin.keeps I.bk
theorem Inv.lt (I : Inv X pins σ H s) : X.env.locals < s.heap.objs.size := let ⟨_, hn, _⟩ := I.loc; hn.lt
theorem Inv.sz (I : Inv X pins σ H s) : X.s₀.heap.objs.size ≤ s.heap.objs.size := Nat.le_trans I.ok.above (Nat.le_of_lt I.lt)
theorem Inv.nofs (I : Inv X pins σ H s) {a : Addr} (h : s.heap.objs.size ≤ a) : a ∉ X.fs := fun hb => by
  obtain ⟨_, o, ho, _⟩ := I.ok.funs.mem hb
  exact absurd (Nat.lt_of_lt_of_le (Heap.lt_size ho) (Nat.le_trans I.sz h)) (Nat.lt_irrefl _)
theorem Inv.cne (I : Inv X pins σ H s) : ∀ x c, X.env.cells.lookup x = some c → c ≠ X.env.locals := fun x c e z => by
  obtain ⟨v, o, ho, hd⟩ := I.cell x c e
  obtain ⟨m, ⟨o', es, ep, ho', hd', _⟩, _⟩ := I.loc
  rw [z, ho'] at ho; cases ho; rw [hd'] at hd; cases hd
theorem Inv.funs (I : Inv X pins σ H s) : s.heap.FunFrames X.base X.outer := by
  have all : ∀ (l : List Env), (∀ b ∈ frs l, b ∈ X.fs) → X.s₀.heap.FunFrames X.base l → s.heap.FunFrames X.base l := by
    intro l
    induction l with
    | nil => intro _ _; trivial
    | cons env r ih =>
      intro hs hl
      obtain ⟨hk, ⟨L, o, hf, hn, ho, hd⟩, hr⟩ := hl
      have hL : L ∈ X.fs := hs L (by unfold frs; rw [List.filterMap_cons, hf]; exact List.mem_cons_self)
      obtain ⟨sl, e⟩ := I.base.slot L o ho (I.ok.frf L hL) hL fun z => I.ok.exfs L z hL
      exact ⟨hk, ⟨L, _, hf, hn, e, hd⟩, ih (fun b hb => hs b (by unfold frs; rw [List.filterMap_cons, hf]; exact List.mem_cons_of_mem _ hb)) hr⟩
  exact all X.outer (fun _ hb => hb) I.ok.funs

/-- the frames that run, for a call -/
theorem Inv.stack (I : Inv X pins σ H s) : s.heap.FunFrames X.base X.stack := by
  rcases I.ok.stk with e | ⟨e, hf⟩
  · rw [e]; exact I.funs
  · rw [e]
    obtain ⟨m, hn, _⟩ := I.loc
    refine .cons (by rw [I.ok.kind]; decide) hf hn ?_ I.funs
    exact Heap.get?_none_of_le (Nat.le_trans I.ok.bsz I.ok.above)
theorem Inv.stkSub (I : Inv X pins σ H s) : ∀ b ∈ frs X.stack, b ∈ X.env.locals :: X.fs := fun b hb => by
  rcases I.ok.stk with e | ⟨e, hf⟩
  · rw [e] at hb; exact List.mem_cons_of_mem _ hb
  · rw [e] at hb
    unfold frs at hb
    rw [List.filterMap_cons, hf] at hb
    exact hb
theorem Inv.stkFree (I : Inv X pins σ H s) : ∀ b ∈ frs X.stack, H b = none := fun b hb => by
  rcases List.mem_cons.mp (I.stkSub b hb) with e | hb
  · rw [e]; exact I.free
  · obtain ⟨_, o, ho, _⟩ := I.ok.funs.mem hb
    exact I.base.free b o ho (I.ok.frf b hb) fun z => I.ok.exfs b z hb

/-- THE STEP: the untracked objects but the frame and the records at ch are kept (the callers' frames up to slots), the frame's map is kept, the new abstract heap is held -/
theorem Inv.step {g' : Array GenState} {t' : Nat} {d' : Drawn} {ch : List Addr} (I : Inv X pins σ H s)
    (hch : ∀ b ∈ ch, (b ∈ X.ex ∨ X.s₀.heap.objs.size ≤ b) ∧ b ≠ X.env.locals ∧ (∀ x c, X.env.cells.lookup x = some c → c ≠ b) ∧ ∀ p ∈ X.pn ++ pins, p.1 ≠ b)
    (keep : ∀ b o, b ≠ X.env.locals → b ∉ X.fs → b ∉ ch → s.heap.get? b = some o → H b = none → h'.get? b = some o)
    (slot : ∀ b o, b ≠ X.env.locals → b ∈ X.fs → b ∉ ch → s.heap.get? b = some o → H b = none → ∃ sl, h'.get? b = some { o with slots := sl }) (free : ∀ b o, b ∉ ch → s.heap.get? b = some o → H b = none → H' b = none)
    (there : ∀ b o, b ∉ ch → s.heap.get? b = some o → ∃ o', h'.get? b = some o')
    (tups : ∀ b xs, H b = some (.tup xs) → H' b = some (.tup xs)) (frzs : ∀ b o u, H b = some (.frz o u) → H' b = some (.frz o u)) (tbls : ∀ b ps, H b = some (.tbl ps) → ∃ more, H' b = some (.tbl (ps ++ more)))
    (ns : ∀ m, s.heap.Ns X.env.locals m → h'.Ns X.env.locals m) (hok : HOk X.prog X.w H' h') (hg : AllBare g') :
    Inv X pins σ H' { s with heap := h', gens := g', drawn := d', toks := t' } := by
  have neL : ∀ b o, X.s₀.heap.get? b = some o → b ≠ X.env.locals := fun b o e => Nat.ne_of_lt (Nat.lt_of_lt_of_le (Heap.lt_size e) I.ok.above)
  have neC : ∀ b o, X.s₀.heap.get? b = some o → b ∉ X.ex → b ∉ ch := fun b o e hx hb => by
    rcases (hch b hb).1 with z | z
    · exact hx z
    · exact absurd (Nat.lt_of_lt_of_le (Heap.lt_size e) z) (Nat.lt_irrefl _)
  have cellK : ∀ x c, X.env.cells.lookup x = some c → ∀ v, s.heap.IsCell c v → h'.IsCell c v := fun x c e v ⟨o, ho, hd⟩ => by
    have nch : c ∉ ch := fun z => (hch c z).2.2.1 x c e rfl
    by_cases hc : c ∈ X.fs
    · obtain ⟨sl, q⟩ := slot c o (I.cne x c e) hc nch ho (I.freeC x c e)
      exact ⟨_, q, hd⟩
    · exact ⟨o, keep c o (I.cne x c e) hc nch ho (I.freeC x c e), hd⟩
  refine ⟨I.ok, I.os, hg, ⟨fun b o e n hb hx => ?_, fun b o e n hb hx => ?_, fun b o e n hx => ?_, fun b o e hx => ?_, fun b xs e => tups b xs (I.base.tups b xs e), fun b o xs e => frzs b o xs (I.base.frzs b o xs e), fun b ps e => ?_⟩, ?_, fun x c e => ?_, ?_, fun x c e => ?_, fun p hp => ?_, hok, I.len⟩
  · exact keep b o (neL b o e) hb (neC b o e hx) (I.base.keep b o e n hb hx) (I.base.free b o e n hx)
  · obtain ⟨sl, e1⟩ := I.base.slot b o e n hb hx
    obtain ⟨sl', e2⟩ := slot b _ (neL b o e) hb (neC b o e hx) e1 (I.base.free b o e n hx)
    exact ⟨sl', e2⟩
  · obtain ⟨o', e1⟩ := I.base.there b o e hx
    exact free b o' (neC b o e hx) e1 (I.base.free b o e n hx)
  · obtain ⟨o', e1⟩ := I.base.there b o e hx
    exact there b o' (neC b o e hx) e1
  · obtain ⟨m1, e1⟩ := I.base.tbls b ps e
    obtain ⟨m2, e2⟩ := tbls b _ e1
    exact ⟨m1 ++ m2, by rw [e2, Array.append_assoc]⟩
  · obtain ⟨m, hn, hl⟩ := I.loc
    refine ⟨m, ns m hn, fun i x v e1 e2 e3 => ?_⟩
    obtain ⟨u, r, l⟩ := hl i x v e1 e2 e3
    refine ⟨u, r, ?_⟩
    rcases l with l | ⟨k, c, e, z⟩
    · exact .inl l
    · exact .inr ⟨k, c, e, cellK x c e _ z⟩
  · obtain ⟨v, z⟩ := I.cell x c e
    exact ⟨v, cellK x c e v z⟩
  · obtain ⟨m, ⟨o, _, _, ho, _⟩, _⟩ := I.loc
    exact free _ o (fun z => (hch _ z).2.1 rfl) ho I.free
  · obtain ⟨v, o, ho, hd⟩ := I.cell x c e
    exact free c o (fun z => (hch c z).2.2.1 x c e rfl) ho (I.freeC x c e)
  · obtain ⟨e, n, ne, nf, d⟩ := I.pin p hp
    have nch : p.1 ∉ ch := fun z => (hch p.1 z).2.2.2 p hp rfl
    exact ⟨keep p.1 p.2 ne nf nch e n, free p.1 p.2 nch e n, ne, nf, d⟩
/-- .. where the frame's own object is kept too -/
theorem Inv.un {t' : Nat} (I : Inv X pins σ H s) (u : Un X.fs [] H H' s.heap h') (hok : HOk X.prog X.w H' h') : Inv X pins σ H' { s with heap := h', toks := t' } := by
  obtain ⟨m, ⟨o, es, ep, ho, r⟩, _⟩ := id I.loc
  obtain ⟨sl, hL⟩ := u.any ho I.free (by simp)
  exact I.step (g' := s.gens) (d' := s.drawn) (ch := []) (fun _ z => nomatch z) (fun b o _ hb _ e n => u.keep b o e n hb (by simp)) (fun b o _ hb _ e n => u.slot b o e n hb (by simp)) (fun b o _ e n => u.free b o e n (by simp)) (fun b o _ e => u.there b o e (by simp)) u.tups u.frzs u.tbls (fun m' hm => by
    obtain ⟨o', es', ep', ho', r'⟩ := hm
    rw [ho] at ho'; cases ho'
    exact ⟨_, es', ep', hL, r'⟩) hok I.bare
/-- behind a call (or a comprehension's block): the slots of this frame may have changed too, the records at ch may have turned -/
theorem Inv.call {g' : Array GenState} {t' : Nat} {d' : Drawn} {ch : List Addr} (I : Inv X pins σ H s) (u : Un (frs X.stack) ch H H' s.heap h') (hok : HOk X.prog X.w H' h') (hg : AllBare g')
    (hch : ∀ b ∈ ch, (b ∈ X.ex ∨ X.s₀.heap.objs.size ≤ b) ∧ b ≠ X.env.locals ∧ (∀ x c, X.env.cells.lookup x = some c → c ≠ b) ∧ ∀ p ∈ X.pn ++ pins, p.1 ≠ b) :
    Inv X pins σ H' { s with heap := h', gens := g', drawn := d', toks := t' } := by
  obtain ⟨m, ⟨o, es, ep, ho, r⟩, _⟩ := id I.loc
  obtain ⟨sl, hL⟩ := u.any ho I.free fun z => (hch _ z).2.1 rfl
  exact I.step (ch := ch) hch (fun b o hL hb hc e n => u.keep b o e n (fun z => (List.mem_cons.mp (I.stkSub b z)).elim hL hb) hc) (fun b o _ _ hc e n => u.any e n hc) (fun b o hc e n => u.free b o e n hc) (fun b o hc e => u.there b o e hc) u.tups u.frzs u.tbls (fun m' hm => by
    obtain ⟨o', es', ep', ho', r'⟩ := hm
    rw [ho] at ho'; cases ho'
    exact ⟨_, es', ep', hL, r'⟩) hok hg
/-- an untracked record of ours (an iterator) has turned -/
theorem Inv.turned {t' : Nat} {it : Addr} (I : Inv X pins σ H s) (k : ∀ b o, b ≠ it → s.heap.get? b = some o → h'.get? b = some o) (hn : H it = none) (hL : it ≠ X.env.locals)
    (h1 : it ∈ X.ex ∨ X.s₀.heap.objs.size ≤ it) (h2 : ∀ x c, X.env.cells.lookup x = some c → c ≠ it) (h3 : ∀ p ∈ X.pn ++ pins, p.1 ≠ it) : Inv X pins σ H { s with heap := h', toks := t' } := by
  have nit : ∀ b u, H b = some u → b ≠ it := fun b u e z => by rw [z, hn] at e; cases e
  refine I.step (g' := s.gens) (d' := s.drawn) (ch := [it]) (fun b hb => ?_) (fun b o _ _ hc e _ => k b o (fun z => hc (by simp [z])) e) (fun b o _ _ hc e _ => ⟨o.slots, k b o (fun z => hc (by simp [z])) e⟩) (fun _ _ _ _ n => n)
    (fun b o hc e => ⟨o, k b o (fun z => hc (by simp [z])) e⟩) (fun _ _ e => e) (fun _ _ _ e => e) (fun b ps e => ⟨#[], by rw [e]; simp⟩) (fun m hm => ?_) (fun b u e => ?_) I.bare
  · have e : b = it := by simpa using hb
    subst e
    exact ⟨h1, hL, h2, h3⟩
  · obtain ⟨o, es, ep, ho, r⟩ := hm
    exact ⟨o, es, ep, k _ o (Ne.symm hL) ho, r⟩
  · refine (I.hok b u e).stay (fun c v hc q => k c v ?_ q) (fun _ q => q) fun _ _ q => q
    rcases hc with z | z
    · rw [z]; exact nit b u e
    · exact nit c _ z
theorem Inv.tok (I : Inv X pins σ H s) (t : Nat) : Inv X pins σ H { s with toks := t } := I.un (h' := s.heap) (t' := t) Un.refl I.hok
/-- all objects kept -/
theorem Inv.kept {t' : Nat} (I : Inv X pins σ H s) (k : ∀ b u, s.heap.get? b = some u → h'.get? b = some u) : Inv X pins σ H { s with heap := h', toks := t' } := I.un (Un.kept k) (I.hok.kept k)
/-- a new object laid and tracked -/
theorem Inv.laid {a : Addr} {o : HO} {t' : Nat} (I : Inv X pins σ H s) (k : ∀ b u, s.heap.get? b = some u → h'.get? b = some u) (hp : s.heap.objs.size ≤ a) (new : ObjOk X.prog X.w (upd H a o) h' a o) :
    Inv X pins σ (upd H a o) { s with heap := h', toks := t' } := I.un (Un.laid k hp (I.hok.fresh hp)) (I.hok.laid k hp new)
/-- an object written -/
theorem Inv.write {x e : Addr} {o : HO} {t' : Nat} (I : Inv X pins σ H s) (mu : Mut (H x)) (he : e = x ∨ H e = some (.own x)) (k : ∀ b u, b ≠ e → s.heap.get? b = some u → h'.get? b = some u) (heo : ∃ u, h'.get? e = some u)
    (new : ObjOk X.prog X.w (upd H x o) h' x o) : Inv X pins σ (upd H x o) { s with heap := h', toks := t' } := I.un (Un.write mu he k heo) (I.hok.write mu he k heo new)
theorem Inv.pins_of {pins' : List (Addr × Obj)} (I : Inv X pins σ H s) (h : ∀ p ∈ pins', s.heap.get? p.1 = some p.2 ∧ H p.1 = none ∧ p.1 ≠ X.env.locals ∧ p.1 ∉ X.fs ∧ ∀ v, p.2.data ≠ .cell v) : Inv X pins' σ H s :=
  ⟨I.ok, I.os, I.bare, I.base, I.loc, I.cell, I.free, I.freeC, fun p hp => (List.mem_append.mp hp).elim (fun z => I.pin p (List.mem_append_left _ z)) (h p), I.hok, I.len⟩

theorem nodup_ix {N : List Str} (hN : N.Nodup) {i j : Nat} {x : Str} (a : N[i]? = some x) (b : N[j]? = some x) : i = j := by
  obtain ⟨h1, e1⟩ := List.getElem?_eq_some_iff.mp a
  obtain ⟨h2, e2⟩ := List.getElem?_eq_some_iff.mp b
  exact (List.getElem_inj hN).mp (e1.trans e2.symm)

/-- a name is stored; what changed -/
theorem store_ok2 {M : Model} {A : Around} {E : Value → Shared → Prop} {i : Nat} {x : Str} {v : V} {u : Value} {Q : Unit → Shared → Prop} (I : Inv X pins σ H s) (hN : X.N.Nodup) (hi : X.N[i]? = some x) (hx : Loc X.env.scope x) (r : RelV v u)
    (h : ∀ s', Inv X pins (σ.set i (some v)) H s' → (∃ a, Heap.SameBut a s.heap s'.heap ∧ (a = X.env.locals ∨ X.env.cells.lookup x = some a)) → Q () s') (hf : X.fn x = true ∨ X.env.scope.names.lookup x = some .local := by first | exact .inl rfl | exact .inr rfl | assumption) : wpAny M A (storeName X.env x u) Q E s := by
  obtain ⟨m, hn, hl⟩ := id I.loc
  have hcls : (X.env.scope.kind == .class || (X.env.scope.kind == .module && X.env.locals != X.env.globals)) = false := by rw [I.ok.kind]; rfl
  have hiσ : i < σ.length := by rw [I.len]; exact (List.getElem?_eq_some_iff.mp hi).1
  have cne := I.cne
  have tracked : ∀ {a : Addr} {h' : Heap}, (∃ o, s.heap.get? a = some o ∧ H a = none) → Heap.SameBut a s.heap h' → HOk X.prog X.w H h' := fun {a h'} ha hs b ob e => by
    obtain ⟨_, _, hfree⟩ := ha
    refine (I.hok b ob e).stay (fun c w' hc q => (hs.2 c ?_).trans q) (fun _ q => q) fun _ _ q => q
    rintro rfl
    rcases hc with rfl | hc
    · rw [hfree] at e; cases e
    · rw [hfree] at hc; cases hc
  rcases hx with hk | hk
  · refine wpAny_storeName_local hk hn (fun h' hn' hs => ?_) hcls
    obtain ⟨oL, _, _, hoL, _⟩ := id hn
    refine h _ ⟨I.ok, I.os, I.bare, ⟨fun b o e n hb hx => ?_, fun b o e n hb hx => ?_, I.base.free, fun b o e hx => ?_, I.base.tups, I.base.frzs, I.base.tbls⟩, ⟨_, hn', fun j y v' e1 e2 e3 => ?_⟩, fun y c e => ?_, I.free, I.freeC, fun p hp => ?_, tracked ⟨oL, hoL, I.free⟩ hs, by simpa using I.len⟩ ⟨_, hs, .inl rfl⟩
    · exact (hs.2 b (Nat.ne_of_lt (Nat.lt_of_lt_of_le (Heap.lt_size e) I.ok.above))).trans (I.base.keep b o e n hb hx)
    · obtain ⟨sl, e1⟩ := I.base.slot b o e n hb hx
      exact ⟨sl, (hs.2 b (Nat.ne_of_lt (Nat.lt_of_lt_of_le (Heap.lt_size e) I.ok.above))).trans e1⟩
    · obtain ⟨o', e1⟩ := I.base.there b o e hx
      exact ⟨o', (hs.2 b (Nat.ne_of_lt (Nat.lt_of_lt_of_le (Heap.lt_size e) I.ok.above))).trans e1⟩
    · by_cases hj : j = i
      · subst hj
        rw [hi] at e1; cases e1
        rw [List.getElem?_set_self hiσ] at e2
        cases e2
        exact ⟨u, r, .inl ⟨hk, by simp⟩⟩
      · rw [List.getElem?_set_ne (Ne.symm hj)] at e2
        obtain ⟨u', r', q⟩ := hl j y v' e1 e2 e3
        refine ⟨u', r', ?_⟩
        rcases q with ⟨k, e⟩ | ⟨k, c, e, z⟩
        · refine .inl ⟨k, ?_⟩
          have : y ≠ x := fun e => hj (nodup_ix hN e1 (e ▸ hi))
          simp [this, e]
        · exact .inr ⟨k, c, e, z.sameBut hs (cne y c e)⟩
    · obtain ⟨w', z⟩ := I.cell y c e
      exact ⟨w', z.sameBut hs (cne y c e)⟩
    · obtain ⟨e, n, ne, nf, d⟩ := I.pin p hp
      exact ⟨(hs.2 p.1 ne).trans e, n, ne, nf, d⟩
  · have hfn : X.fn x = true := by
      rcases hf with z | z
      · exact z
      · rw [z] at hk; cases hk
    obtain ⟨c, hc⟩ := I.ok.has x (.inl hk)
    obtain ⟨w', z⟩ := I.cell x c hc
    refine wpAny_storeName_cell I.ok.kind hk hc z (fun h' hc' hs => ?_)
    obtain ⟨oc, hoc, hocd⟩ := id z
    refine h { s with heap := h' } ⟨I.ok, I.os, I.bare, ⟨fun b o e n hb hx => ?_, fun b o e n hb hx => ?_, I.base.free, fun b o e hx => ?_, I.base.tups, I.base.frzs, I.base.tbls⟩, ⟨m, hn.sameBut hs (Ne.symm (cne x c hc)), fun j y v' e1 e2 e3 => ?_⟩, fun y c' e => ?_, I.free, I.freeC, fun p hp => ?_, tracked ⟨oc, hoc, I.freeC x c hc⟩ hs, by simpa using I.len⟩ ⟨c, hs, .inr hc⟩
    · exact (hs.2 b (Nat.ne_of_lt (Nat.lt_of_lt_of_le (Heap.lt_size e) (I.ok.cab x c hfn hc)))).trans (I.base.keep b o e n hb hx)
    · obtain ⟨sl, e1⟩ := I.base.slot b o e n hb hx
      exact ⟨sl, (hs.2 b (Nat.ne_of_lt (Nat.lt_of_lt_of_le (Heap.lt_size e) (I.ok.cab x c hfn hc)))).trans e1⟩
    · obtain ⟨o', e1⟩ := I.base.there b o e hx
      exact ⟨o', (hs.2 b (Nat.ne_of_lt (Nat.lt_of_lt_of_le (Heap.lt_size e) (I.ok.cab x c hfn hc)))).trans e1⟩
    · by_cases hj : j = i
      · subst hj
        rw [hi] at e1; cases e1
        rw [List.getElem?_set_self hiσ] at e2
        cases e2
        exact ⟨u, r, .inr ⟨.inl hk, c, hc, hc'⟩⟩
      · rw [List.getElem?_set_ne (Ne.symm hj)] at e2
        obtain ⟨u', r', q⟩ := hl j y v' e1 e2 e3
        refine ⟨u', r', ?_⟩
        rcases q with q | ⟨k, c', e, z'⟩
        · exact .inl q
        · refine .inr ⟨k, c', e, z'.sameBut hs ?_⟩
          rintro rfl
          exact hj (nodup_ix hN e1 (I.ok.inj _ _ _ e hc ▸ hi))
    · by_cases hcc : c' = c
      · subst hcc; exact ⟨_, hc'⟩
      · obtain ⟨w2, z2⟩ := I.cell y c' e
        exact ⟨w2, z2.sameBut hs hcc⟩
    · obtain ⟨e, n, ne, nf, d⟩ := I.pin p hp
      refine ⟨(hs.2 p.1 ?_).trans e, n, ne, nf, d⟩
      intro q
      rw [q, hoc] at e
      have q' : oc = p.2 := Option.some.inj e
      exact d w' (by rw [← q']; exact hocd)
theorem store_ok {M : Model} {A : Around} {E : Value → Shared → Prop} {i : Nat} {x : Str} {v : V} {u : Value} {Q : Unit → Shared → Prop} (I : Inv X pins σ H s) (hN : X.N.Nodup) (hi : X.N[i]? = some x) (hx : Loc X.env.scope x) (r : RelV v u)
    (h : ∀ s', Inv X pins (σ.set i (some v)) H s' → Q () s') (hf : X.fn x = true ∨ X.env.scope.names.lookup x = some .local := by first | exact .inl rfl | exact .inr rfl | assumption) : wpAny M A (storeName X.env x u) Q E s :=
  store_ok2 I hN hi hx r (fun s' I' _ => h s' I') hf
/-- behind a call or a block, the state as it is -/
theorem Inv.call' {s' : Shared} {ch : List Addr} (I : Inv X pins σ H s) (ho : s'.os = s.os) (u : Un (frs X.stack) ch H H' s.heap s'.heap) (hok : HOk X.prog X.w H' s'.heap) (hg : AllBare s'.gens)
    (hch : ∀ b ∈ ch, (b ∈ X.ex ∨ X.s₀.heap.objs.size ≤ b) ∧ b ≠ X.env.locals ∧ (∀ x c, X.env.cells.lookup x = some c → c ≠ b) ∧ ∀ p ∈ X.pn ++ pins, p.1 ≠ b) : Inv X pins σ H' s' := by
  obtain ⟨h', g', d', t', o'⟩ := s'
  have e : o' = s.os := ho
  subst e
  exact I.call (g' := g') (t' := t') (d' := d') u hok hg hch
end

/-! ### the judgements -/
/-- an exception: its class, its own dict's address (where it has one), the abstract heap behind it -/
abbrev XK := Value → Option Addr → Hp → Prop
abbrev St := List (Option V)
abbrev VK := V → Hp → Prop
/-- an expression's reading; a test's; an argument list's -/
abbrev TE := St → Hp → VK → Prop
abbrev TT := St → Hp → (Bool → Hp → Prop) → Prop
abbrev TA := St → Hp → (List V → Hp → Prop) → Prop
/-- what is wanted behind a statement -/
structure Ends where
  nx : St → Hp → Prop
  rt : VK
  bk : St → Hp → Prop := fun _ _ => False
  ct : St → Hp → Prop := fun _ _ => False
abbrev TS := Ends → St → Hp → Prop

def EP (X : Cx) (pins : List (Addr × Obj)) (σ : St) (Q : VK) (u : Value) (s' : Shared) : Prop := ∃ v H', Inv X pins σ H' s' ∧ RelV v u ∧ Q v H'
def TP (X : Cx) (pins : List (Addr × Obj)) (σ : St) (Q : Bool → Hp → Prop) (b : Bool) (s' : Shared) : Prop := ∃ H', Inv X pins σ H' s' ∧ Q b H'
def AP (X : Cx) (pins : List (Addr × Obj)) (σ : St) (Q : List V → Hp → Prop) (us : List Value) (s' : Shared) : Prop := ∃ vs H', Inv X pins σ H' s' ∧ Vals vs us ∧ Q vs H'
def SP (X : Cx) (pins : List (Addr × Obj)) (D : Ends) (f : Flow) (s' : Shared) : Prop :=
  match f with
  | .next => ∃ σ' H', Inv X pins σ' H' s' ∧ D.nx σ' H'
  | .brk => ∃ σ' H', Inv X pins σ' H' s' ∧ D.bk σ' H'
  | .cont => ∃ σ' H', Inv X pins σ' H' s' ∧ D.ct σ' H'
  | .ret u => ∃ v σ' H', Inv X pins σ' H' s' ∧ RelV v u ∧ D.rt v H'

def PE (X : Cx) (e : Expr) (t : TE) : Prop :=
  ∀ (pins : List (Addr × Obj)) (s : Shared) (σ : St) (H : Hp) (Q : VK), Inv X pins σ H s → t σ H Q → wpAny (model X.prog X.w) X.A (eval e X.env) (EP X pins σ Q) X.xe s
def PT (X : Cx) (e : Expr) (t : TT) : Prop :=
  ∀ (pins : List (Addr × Obj)) (s : Shared) (σ : St) (H : Hp) (Q : Bool → Hp → Prop), Inv X pins σ H s → t σ H Q → wpAny (model X.prog X.w) X.A (isTrue e X.env (eval e X.env)) (TP X pins σ Q) X.xe s
/-- a test whatever its 'whole' is (and, or) -/
def PW (X : Cx) (e : Expr) (t : TT) : Prop :=
  ∀ (whole : Sem Value) (pins : List (Addr × Obj)) (s : Shared) (σ : St) (H : Hp) (Q : Bool → Hp → Prop), Inv X pins σ H s → t σ H Q → wpAny (model X.prog X.w) X.A (isTrue e X.env whole) (TP X pins σ Q) X.xe s
theorem PW.pt {X : Cx} {e : Expr} {t : TT} (h : PW X e t) : PT X e t := h _
/-- an argument list (no star), from the left -/
def PA (X : Cx) (es : List Expr) (t : TA) : Prop :=
  ∀ (pos : Pos) (pins : List (Addr × Obj)) (s : Shared) (σ : St) (H : Hp) (Q : List V → Hp → Prop), Inv X pins σ H s → t σ H Q → wpAny (model X.prog X.w) X.A (spliced (backTo pos (starEach es X.env))) (AP X pins σ Q) X.xe s
def PS (X : Cx) (st : Stmt) (t : TS) : Prop :=
  ∀ (pins : List (Addr × Obj)) (s : Shared) (σ : St) (H : Hp) (D : Ends), Inv X pins σ H s → t D σ H → wpAny (model X.prog X.w) X.A (exec st X.env) (SP X pins D) X.xe s
def PSs (X : Cx) (st : List Stmt) (t : TS) : Prop :=
  ∀ (pins : List (Addr × Obj)) (s : Shared) (σ : St) (H : Hp) (D : Ends), Inv X pins σ H s → t D σ H → wpAny (model X.prog X.w) X.A (execs st X.env) (SP X pins D) X.xe s
/-- weaken the end -/
theorem thn {α : Type} {t : Sem α} {Q Q' : α → Shared → Prop} {M : Model} {A : Around} {E : Value → Shared → Prop} {s : Shared} (h : wpAny M A t Q E s) (hQ : ∀ a s, Q a s → Q' a s) : wpAny M A t Q' E s := wpAny_mono h hQ fun _ _ x => x
end L2

namespace L2
open PySem PySem.Spec PyProof.Rows
section
variable {X : Cx}

/-! ### names and constants -/
def tVar (i : Nat) : TE := fun σ H Q => ∃ v, σ[i]? = some (some v) ∧ Q v H
def tC (v : V) : TE := fun _ H Q => Q v H
theorem pe_var {i : Nat} {x : Str} {pos : Pos} (hN : X.N[i]? = some x) (hv : Vis X.env.scope x) (hd : (x == ("__debug__" : Str)) = false := by decide) (hcd : (x == ("__classdict__" : Str)) = false := by decide) : PE X (.Name x pos) (tVar i) := by
  intro pins s σ H Q I h
  obtain ⟨v, e, h⟩ := h
  obtain ⟨m, hn, hl⟩ := I.loc
  obtain ⟨u, r, l⟩ := hl i x v hN e hv
  have fin : EP X pins σ Q u s := ⟨v, H, I, r, h⟩
  rcases l with ⟨hk, hm⟩ | ⟨hk, c, hc, hcell⟩
  · exact wpAny_Name (wpAny_loadName_local I.ok.kind hk hn hm fin) hd
  · rcases hk with hk | hk
    · exact wpAny_Name (wpAny_loadName_cell I.ok.kind hk hc hcell fin) hd
    · exact wpAny_Name (wpAny_loadName_free I.ok.kind hk hc hcell fin hcd) hd
theorem pe_int {i j pos} : PE X (.Constant (.int i) j pos) (tC (.int i)) := fun _ _ _ H _ I h => wpAny_Constant_int ⟨.int i, H, I.tok _, ⟨_, rfl⟩, h⟩
theorem pe_bl {b j pos} : PE X (.Constant (.bool b) j pos) (tC (.bl b)) := fun _ _ _ H _ I h => Constant_bool ⟨.bl b, H, I, rfl, h⟩
theorem pe_non {j pos} : PE X (.Constant .none j pos) (tC .non) := fun _ _ _ H _ I h => Constant_none ⟨.non, H, I, rfl, h⟩
theorem pe_str {x j pos} : PE X (.Constant (.str x) j pos) (tC (.str x)) := fun _ _ _ H _ I h => Calls.Constant_str ⟨.str x, H, I.tok _, ⟨_, rfl⟩, h⟩

/-- a global name of the def -/
def Gl (X : Cx) (x : Str) : Prop := X.env.kindOf x = some .globalImplicit
theorem ld_glob {E : Value → Shared → Prop} {pins : List (Addr × Obj)} {s : Shared} {σ : St} {H : Hp} {x : Str} {u : Value} {pos : Pos} {Q : Value → Shared → Prop} (I : Inv X pins σ H s) (hg : Gl X x) (hm : X.mg x = some u) (h : Q u s)
    (hd : (x == ("__debug__" : Str)) = false := by decide) : wpAny (model X.prog X.w) X.A (eval (.Name x pos) X.env) Q E s :=
  Calls.Name_function_global I.ok.kind hg (Calls.loadGlobal_global (by rw [I.ok.glob]; exact I.mod.glob.keeps I.bk) hm h) hd
theorem ld_blt {E : Value → Shared → Prop} {pins : List (Addr × Obj)} {s : Shared} {σ : St} {H : Hp} {x : Str} {u : Value} {pos : Pos} {Q : Value → Shared → Prop} (I : Inv X pins σ H s) (hg : Gl X x) (hm : X.mg x = none) (hv : bootBuiltins x = some u) (h : Q u s)
    (hn : x ≠ "__name__" := by decide) (hd : (x == ("__debug__" : Str)) = false := by decide) : wpAny (model X.prog X.w) X.A (eval (.Name x pos) X.env) Q E s := by
  obtain ⟨mb, h1, h2⟩ := I.mod.blt
  exact Calls.Name_function_global I.ok.kind hg (Calls.loadGlobal_builtin (by rw [I.ok.glob]; exact I.mod.glob.keeps I.bk) hm (by rw [I.ok.blt]; exact h1.keeps I.bk) ((h2 x hn).trans hv) h) hd
/-- a module's constant, a class, a function, as a value -/
theorem pe_glob {x : Str} {v : V} {u : Value} {pos : Pos} (hg : Gl X x) (hm : X.mg x = some u) (r : RelV v u) (hd : (x == ("__debug__" : Str)) = false := by decide) : PE X (.Name x pos) (tC v) :=
  fun _ _ _ H _ I h => ld_glob I hg hm ⟨v, H, I, r, h⟩ hd
theorem pe_bltn {x : Str} {v : V} {u : Value} {pos : Pos} (hg : Gl X x) (hm : X.mg x = none) (hv : bootBuiltins x = some u) (r : RelV v u) (hn : x ≠ "__name__" := by decide) (hd : (x == ("__debug__" : Str)) = false := by decide) : PE X (.Name x pos) (tC v) :=
  fun _ _ _ H _ I h => ld_blt I hg hm hv ⟨v, H, I, r, h⟩ hn hd

/-! ### arithmetic -/
/-- two ints -/
def t2I (ta tb : TE) (k : Int → Int → Hp → Prop) : St → Hp → Prop := fun σ H => ta σ H fun x H1 => tb σ H1 fun y H2 => ∃ i j, x = .int i ∧ y = .int j ∧ k i j H2
def tAdd (ta tb : TE) : TE := fun σ H Q => t2I ta tb (fun i j H2 => Q (.int (i + j)) H2) σ H
def tSub (ta tb : TE) : TE := fun σ H Q => t2I ta tb (fun i j H2 => Q (.int (i - j)) H2) σ H
/-- the left factor below 2^64 -/
def tMul (ta tb : TE) : TE := fun σ H Q => t2I ta tb (fun i j H2 => (-(2 ^ 64) < i ∧ i < 2 ^ 64) ∧ Q (.int (i * j)) H2) σ H
variable {a b : Expr} {ta tb : TE} {pos : Pos}
/-! ### comparisons -/
def PC (X : Cx) (op : CmpOp) (a b : Expr) (t : TE) : Prop :=
  ∀ (pins : List (Addr × Obj)) (s : Shared) (σ : St) (H : Hp) (Q : VK), Inv X pins σ H s → t σ H Q →
    wpAny (model X.prog X.w) X.A (eval a X.env) (fun v s₁ => wpAny (model X.prog X.w) X.A (eval b X.env) (fun u s₂ => wpAny (model X.prog X.w) X.A (compareOp op v u) (EP X pins σ Q) X.xe s₂) X.xe s₁) X.xe s
def tCmp (p : Int → Int → Bool) (ta tb : TE) : TE := fun σ H Q => t2I ta tb (fun i j H2 => Q (.bl (p i j)) H2) σ H
abbrev tLt : TE → TE → TE := tCmp fun i j => decide (i < j)
abbrev tLe : TE → TE → TE := tCmp fun i j => decide (i ≤ j)
abbrev tGt : TE → TE → TE := tCmp fun i j => decide (j < i)
abbrev tGe : TE → TE → TE := tCmp fun i j => decide (j ≤ i)
abbrev tEqI : TE → TE → TE := tCmp fun i j => decide (i = j)
abbrev tNeI : TE → TE → TE := tCmp fun i j => !decide (i = j)
/-- is None -/
def tIsN (ta : TE) : TE := fun σ H Q => ta σ H fun x H1 => Q (.bl (decide (x = .non))) H1
def tNotN (ta : TE) : TE := fun σ H Q => ta σ H fun x H1 => Q (.bl (!decide (x = .non))) H1
/-- a comparison as a value, as a test -/
def tB (t : TE) : TT := fun σ H Q => t σ H fun x H1 => ∃ c, x = .bl c ∧ Q c H1
/-- an expression whose value is a bool, as a test -/
theorem pt_val {e : Expr} {t : TE} (h : PE X e t) (he : ∀ whole, isTrue e X.env whole = (do let v ← whole; standAt e.pos; holding [v] (truthy v)) := by intro _; rfl) : PT X e (tB t) := by
  intro pins s σ H Q I hw
  refine isTrue_plain (thn (h pins s σ H _ I hw) fun v s1 ⟨x, H1, I1, r1, q1⟩ => ?_) (he _)
  obtain ⟨d, rfl, q⟩ := q1
  cases r1
  exact wpAny_truthy_bool ⟨H1, I1, q⟩

/-! ### and, or, not -/
variable {tA tB' : TT} {rest : List Expr}
def tAnd (t u : TT) : TT := fun σ H Q => t σ H fun c H1 => if c = true then u σ H1 Q else Q false H1
def tOr (t u : TT) : TT := fun σ H Q => t σ H fun c H1 => if c = true then Q true H1 else u σ H1 Q
def tNot (t : TT) : TT := fun σ H Q => t σ H fun c H1 => Q (!c) H1
theorem pw_or1 (ha : PT X a tA) : PW X (.BoolOp .Or [a] pos) tA := by
  intro wh pins s σ H Q I h
  refine isTrue_or (thn (ha pins s σ H Q I h) fun c s1 e => ?_)
  cases c with
  | false => exact isTrue_or_nil e
  | true => exact e
theorem pw_or (ha : PT X a tA) (hb : PW X (.BoolOp .Or (b :: rest) pos) tB') : PW X (.BoolOp .Or (a :: b :: rest) pos) (tOr tA tB') := by
  intro wh pins s σ H Q I h
  refine isTrue_or (thn (ha pins s σ H _ I h) fun c s1 ⟨H1, I1, q1⟩ => ?_)
  cases c with
  | true => exact ⟨H1, I1, q1⟩
  | false => exact hb wh pins s1 σ H1 Q I1 q1
theorem pt_not (ha : PT X a tA) : PT X (.UnaryOp .Not a pos) (tNot tA) := by
  intro pins s σ H Q I h
  exact isTrue_not (ha pins s σ H (fun c H1 => Q (!c) H1) I h)
/-- .. as values (bools) -/
def tAndV (ta tb : TE) : TE := fun σ H Q => ta σ H fun x H1 => ∃ c, x = .bl c ∧ if c = true then tb σ H1 Q else Q (.bl false) H1
def tOrV (ta tb : TE) : TE := fun σ H Q => ta σ H fun x H1 => ∃ c, x = .bl c ∧ if c = true then Q (.bl true) H1 else tb σ H1 Q
def tNotV (ta : TE) : TE := fun σ H Q => ta σ H fun x H1 => ∃ c, x = .bl c ∧ Q (.bl (!c)) H1
theorem pe_one {op} {t : TE} (h : PE X a t) : PE X (.BoolOp op [a] pos) t := fun pins s σ H Q I hw => BoolOp_one (h pins s σ H Q I hw)
theorem pe_and (ha : PE X a ta) (hb : PE X (.BoolOp .And (b :: rest) pos) tb) : PE X (.BoolOp .And (a :: b :: rest) pos) (tAndV ta tb) := by
  intro pins s σ H Q I h
  refine BoolOp_and (thn (ha pins s σ H _ I h) fun v s1 ⟨x, H1, I1, r1, q1⟩ => ?_)
  obtain ⟨c, rfl, q1⟩ := q1
  cases r1
  refine wpAny_truthy_bool ?_
  cases c with
  | true => exact hb pins s1 σ H1 Q I1 q1
  | false => exact ⟨.bl false, H1, I1, rfl, q1⟩
theorem pe_or (ha : PE X a ta) (hb : PE X (.BoolOp .Or (b :: rest) pos) tb) : PE X (.BoolOp .Or (a :: b :: rest) pos) (tOrV ta tb) := by
  intro pins s σ H Q I h
  refine BoolOp_or (thn (ha pins s σ H _ I h) fun v s1 ⟨x, H1, I1, r1, q1⟩ => ?_)
  obtain ⟨c, rfl, q1⟩ := q1
  cases r1
  refine wpAny_truthy_bool ?_
  cases c with
  | false => exact hb pins s1 σ H1 Q I1 q1
  | true => exact ⟨.bl true, H1, I1, rfl, q1⟩
theorem pe_not (ha : PE X a ta) : PE X (.UnaryOp .Not a pos) (tNotV ta) := by
  intro pins s σ H Q I h
  refine UnaryOp_ (thn (ha pins s σ H _ I h) fun v s1 ⟨x, H1, I1, r1, q1⟩ => ?_)
  obtain ⟨c, rfl, q1⟩ := q1
  cases r1
  exact not_of (wpAny_truthy_bool ⟨.bl (!c), H1, I1, rfl, q1⟩)
/-- a if t else b -/
def tIf (t : TT) (ta tb : TE) : TE := fun σ H Q => t σ H fun c H1 => if c = true then ta σ H1 Q else tb σ H1 Q
end
end L2

namespace L2
open PySem PySem.Spec PyProof.Rows

/-! ### a list, a tuple that is read: tracked, frozen, or an object of the module -/
def SqL (K : PySem.W.Frag) (H : Hp) (a : Addr) (xs : List V) : Prop :=
  Rd H a (.lst xs) ∨
    ∃ (o : Obj) (its : Array Value) (n : Nat), K.lookup a = some o ∧ o.cls = .type "list" ∧ o.dict = none ∧ o.data = .seq its n ∧ its.size ≤ sizeLine ∧ Vals xs its.toList
def SqT (K : PySem.W.Frag) (H : Hp) (a : Addr) (xs : List V) : Prop :=
  Rd H a (.tup xs) ∨
    ∃ (o : Obj) (its : Array Value) (n : Nat), K.lookup a = some o ∧ o.cls = .type "tuple" ∧ o.data = .seq its n ∧ its.size ≤ sizeLine ∧ Vals xs its.toList
def absV : Value → Option V
  | .none => some .non
  | .bool b => some (.bl b)
  | .int i _ => some (.int i)
  | .str x _ => some (.str x)
  | .bytes b _ => some (.byt b)
  | .float b _ => some (.flt b)
  | .ref a => some (.ref a)
  | .type n => some (.ty n)
  | _ => none
theorem RelV.abs {x : V} {u : Value} (r : RelV x u) : absV u = some x := by
  cases x with
  | non => cases r; rfl
  | bl _ => cases r; rfl
  | int _ => obtain ⟨t, rfl⟩ := r; rfl
  | str _ => obtain ⟨t, rfl⟩ := r; rfl
  | byt _ => obtain ⟨t, rfl⟩ := r; rfl
  | flt _ => obtain ⟨t, rfl⟩ := r; rfl
  | ref _ => cases r; rfl
  | ty _ => cases r; rfl
theorem RelV.inj {x y : V} {u : Value} (r : RelV x u) (q : RelV y u) : x = y := Option.some.inj (r.abs.symm.trans q.abs)
theorem Vals.inj : ∀ {xs ys : List V} {us : List Value}, Vals xs us → Vals ys us → xs = ys
  | _, _, _, .nil, .nil => rfl
  | _, _, _, .cons r t, .cons r' t' => by rw [r.inj r', Vals.inj t t']
section
variable {X : Cx} {pins : List (Addr × Obj)} {σ : St} {H : Hp} {s : Shared} {a : Addr} {xs ys : List V}
theorem SqL.of {K : PySem.W.Frag} (h : H a = some (.lst xs)) : SqL K H a xs := .inl (.inl h)
theorem SqT.of {K : PySem.W.Frag} (h : H a = some (.tup xs)) : SqT K H a xs := .inl (.inl h)
theorem Inv.list (I : Inv X pins σ H s) (h : SqL X.K H a xs) : ∃ its : List Value, Vals xs its ∧ PlainL s.heap a its.toArray ∧ xs.length ≤ sizeLine := by
  rcases h with h | ⟨o, its, n, hk, hc, hd, hs, hz, r⟩
  · obtain ⟨z, its, n, r, e⟩ := h.ok I.hok
    exact ⟨its, r, ⟨_, n, e, rfl, rfl, rfl⟩, z⟩
  · refine ⟨its.toList, r, ⟨o, n, I.kIn a o hk, hc, hd, by simpa using hs⟩, ?_⟩
    have e := r.length
    simp only [Array.length_toList] at e
    (clear hs hd hc hk; omega)
theorem Inv.tuple (I : Inv X pins σ H s) (h : SqT X.K H a xs) : ∃ its : List Value, Vals xs its ∧ IsTup s.heap a its.toArray ∧ xs.length ≤ sizeLine := by
  rcases h with h | ⟨o, its, n, hk, hc, hs, hz, r⟩
  · obtain ⟨z, its, r, p⟩ := h.ok I.hok
    exact ⟨its, r, p, z⟩
  · refine ⟨its.toList, r, ⟨o, I.kIn a o hk, hc, n, by simpa using hs⟩, ?_⟩
    have e := r.length
    simp only [Array.length_toList] at e
    (clear hs hc hk; omega)
theorem Inv.list_inj (I : Inv X pins σ H s) (h : SqL X.K H a xs) (h' : SqL X.K H a ys) : xs = ys := by
  obtain ⟨its, r, ⟨o, n, e, _, _, d⟩, _⟩ := I.list h
  obtain ⟨its', r', ⟨o', n', e', _, _, d'⟩, _⟩ := I.list h'
  rw [e] at e'; cases e'
  rw [d] at d'
  injection d' with d1 _
  have : its = its' := by simpa using congrArg Array.toList d1
  subst this
  exact r.inj r'
theorem Inv.tuple_inj (I : Inv X pins σ H s) (h : SqT X.K H a xs) (h' : SqT X.K H a ys) : xs = ys := by
  obtain ⟨its, r, ⟨o, e, _, n, d⟩, _⟩ := I.tuple h
  obtain ⟨its', r', ⟨o', e', _, n', d'⟩, _⟩ := I.tuple h'
  rw [e] at e'; cases e'
  rw [d] at d'
  injection d' with d1 _
  have : its = its' := by simpa using congrArg Array.toList d1
  subst this
  exact r.inj r'
end

/-! ### another wish about exceptions -/
abbrev Cx.wish (X : Cx) (E : Value → Shared → Prop) : Cx := { X with xe := E }
/-- no exception leaves -/
abbrev Cx.nox (X : Cx) : Cx := X.wish fun _ _ => False
theorem Cx.Ok.wish {X : Cx} (ok : X.Ok) (E : Value → Shared → Prop) : (X.wish E).Ok :=
  ⟨ok.mod, ok.kind, ok.glob, ok.blt, ok.above, ok.inj, ok.has, ok.cab, ok.hd, ok.frames, ok.stk, ok.exf, ok.bs, ok.bsz, ok.noex, ok.exfs, ok.funs, ok.frf⟩
theorem Cx.Ok.unwish {X : Cx} {E : Value → Shared → Prop} (ok : (X.wish E).Ok) : X.Ok :=
  ⟨ok.mod, ok.kind, ok.glob, ok.blt, ok.above, ok.inj, ok.has, ok.cab, ok.hd, ok.frames, ok.stk, ok.exf, ok.bs, ok.bsz, ok.noex, ok.exfs, ok.funs, ok.frf⟩
section
variable {X : Cx} {pins : List (Addr × Obj)} {σ : St} {H : Hp} {s : Shared} {E : Value → Shared → Prop}
theorem Inv.wish (I : Inv X pins σ H s) (E : Value → Shared → Prop) : Inv (X.wish E) pins σ H s := ⟨I.ok.wish E, I.os, I.bare, I.base, I.loc, I.cell, I.free, I.freeC, I.pin, I.hok, I.len⟩
theorem Inv.unwish (I : Inv (X.wish E) pins σ H s) : Inv X pins σ H s := ⟨I.ok.unwish, I.os, I.bare, I.base, I.loc, I.cell, I.free, I.freeC, I.pin, I.hok, I.len⟩
theorem SP.unwish {D : Ends} {f : Flow} {s' : Shared} (h : SP (X.wish E) pins D f s') : SP X pins D f s' := by
  cases f with
  | next => obtain ⟨σ', H', I, q⟩ := h; exact ⟨σ', H', I.unwish, q⟩
  | brk => obtain ⟨σ', H', I, q⟩ := h; exact ⟨σ', H', I.unwish, q⟩
  | cont => obtain ⟨σ', H', I, q⟩ := h; exact ⟨σ', H', I.unwish, q⟩
  | ret u => obtain ⟨v, σ', H', I, r, q⟩ := h; exact ⟨v, σ', H', I.unwish, r, q⟩
theorem PSs.nox {st : List Stmt} {t : TS} (h : PSs X.nox st t) : PSs X st t := fun pins s σ H D I hw =>
  wpAny_mono (h pins s σ H D (I.wish _) hw) (fun _ _ q => q.unwish) fun _ _ z => False.elim z
end

/-! ### blocks and small statements -/
section
variable {X : Cx} {st : Stmt} {rest : List Stmt} {t u : TS} {e : Expr} {te : TE} {pos : Pos}
def tNext : TS := fun D σ H => D.nx σ H
def tSeq (t u : TS) : TS := fun D σ H => t { D with nx := u D } σ H
theorem pss_nil : PSs X [] tNext := fun _ _ σ H _ I h => wpAny_execs_nil ⟨σ, H, I, h⟩
theorem pss_cons (h1 : PS X st t) (h2 : PSs X rest u) : PSs X (st :: rest) (tSeq t u) := by
  intro pins s σ H D I h
  refine wpAny_execs_cons (thn (h1 pins s σ H { D with nx := u D } I h) fun f s1 q => ?_)
  cases f with
  | next =>
    obtain ⟨σ', H', I', q⟩ := q
    exact h2 pins s1 σ' H' D I' q
  | ret v => exact q
  | brk => exact q
  | cont => exact q
theorem pss_one (h1 : PS X st t) : PSs X [st] t := by
  intro pins s σ H D I h
  refine wpAny_execs_cons (thn (h1 pins s σ H D I h) fun f s1 q => ?_)
  cases f with
  | next => exact wpAny_execs_nil q
  | ret v => exact q
  | brk => exact q
  | cont => exact q
def tBreak : TS := fun D σ H => D.bk σ H
def tCont : TS := fun D σ H => D.ct σ H
theorem ps_break : PS X (.Break pos) tBreak := fun _ _ σ H _ I h => wpAny_Break ⟨σ, H, I, h⟩
/-- in a def's body nothing is shown -/
theorem Inv.quiet {pins : List (Addr × Obj)} {σ : St} {H : Hp} {s : Shared} (I : Inv X pins σ H s) : interactive X.env = false := by simp [interactive, I.ok.kind]
/-- an expression whose value is dropped -/
def tDrop (te : TE) : TS := fun D σ H => te σ H fun _ H1 => D.nx σ H1
theorem ps_expr (he : PE X e te) (hs : swapsWith e none pos.line X.env = pure false := by rfl) : PS X (.Expr e pos) (tDrop te) := by
  intro pins s σ H D I h
  exact wpAny_Expr_any (thn (he pins s σ H _ I h) fun v s1 ⟨x, H1, I1, r1, q1⟩ => ⟨σ, H1, I1, q1⟩) I.quiet hs
def tRet (te : TE) : TS := fun D σ H => te σ H D.rt
theorem ps_ret (he : PE X e te) : PS X (.Return (some e) pos) (tRet te) := by
  intro pins s σ H D I h
  exact wpAny_Return_some (thn (he pins s σ H _ I h) fun v s1 ⟨x, H1, I1, r1, q1⟩ => ⟨x, σ, H1, I1, r1, q1⟩)
def tRetN : TS := fun D _ H => D.rt .non H
def tIfS (c : TT) (t u : TS) : TS := fun D σ H => c σ H fun b H1 => if b = true then t D σ H1 else u D σ H1
theorem ps_if {c : Expr} {a b : List Stmt} {tc : TT} (hc : PT X c tc) (ha : PSs X a t) (hb : PSs X b u) : PS X (.If c a b pos) (tIfS tc t u) := by
  intro pins s σ H D I h
  refine wpAny_If (thn (hc pins s σ H _ I h) fun d s1 ⟨H1, I1, q1⟩ => ?_)
  cases d with
  | true => exact ha pins s1 σ H1 D I1 q1
  | false => exact hb pins s1 σ H1 D I1 q1
/-- code that the proof never comes to -/
def tNever : TS := fun _ _ _ => False
theorem pss_never {sts : List Stmt} : PSs X sts tNever := fun _ _ _ _ _ _ h => h.elim
end

/-! ### targets -/
abbrev TG := V → St → Hp → (St → Hp → Prop) → Prop
abbrev TGs := List V → St → Hp → (St → Hp → Prop) → Prop
def PG (X : Cx) (target : Expr) (t : TG) : Prop :=
  ∀ (pins : List (Addr × Obj)) (s : Shared) (σ : St) (H : Hp) (v : V) (u : Value) (Q : St → Hp → Prop), Inv X pins σ H s → RelV v u → t v σ H Q →
    wpAny (model X.prog X.w) X.A (assign target X.env u) (fun _ s' => ∃ σ' H', Inv X pins σ' H' s' ∧ Q σ' H') X.xe s
/-- several targets, one after another -/
def PGs (X : Cx) (ts : List Expr) (t : TGs) : Prop :=
  ∀ (pins : List (Addr × Obj)) (s : Shared) (σ : St) (H : Hp) (vs : List V) (us : List Value) (Q : St → Hp → Prop), Inv X pins σ H s → Vals vs us → t vs σ H Q →
    wpAny (model X.prog X.w) X.A (assignInOrder ((assignEach ts X.env).map (·.2)) us) (fun _ s' => ∃ σ' H', Inv X pins σ' H' s' ∧ Q σ' H') X.xe s
/-- o[i] = v, by values -/
abbrev TSet := V → V → V → Hp → (Hp → Prop) → Prop
def PSet (X : Cx) (t : TSet) : Prop :=
  ∀ (pins : List (Addr × Obj)) (s : Shared) (σ : St) (H : Hp) (o i v : V) (ov iv u : Value) (Q : Hp → Prop), Inv X pins σ H s → RelV o ov → RelV i iv → RelV v u → t o i v H Q →
    wpAny (model X.prog X.w) X.A (setItem ov iv u) (fun _ s' => ∃ H', Inv X pins σ H' s' ∧ Q H') X.xe s
/-- a op= b, by values -/
abbrev TIp := V → V → Hp → VK → Prop
def PIp (X : Cx) (op : Operator) (t : TIp) : Prop :=
  ∀ (pins : List (Addr × Obj)) (s : Shared) (σ : St) (H : Hp) (x y : V) (v u : Value) (Q : VK), Inv X pins σ H s → RelV x v → RelV y u → t x y H Q →
    wpAny (model X.prog X.w) X.A (inplaceOp op v u) (EP X pins σ Q) X.xe s
section
variable {X : Cx} {pos : Pos}
def gName (i : Nat) : TG := fun v σ H Q => Q (σ.set i (some v)) H
theorem pg_name {i : Nat} {x : Str} (hN : X.N.Nodup) (hi : X.N[i]? = some x) (hx : Loc X.env.scope x) (hf : X.fn x = true ∨ X.env.scope.names.lookup x = some .local := by first | exact .inl rfl | exact .inr rfl | assumption) : PG X (.Name x pos) (gName i) := by
  intro pins s σ H v u Q I r h
  exact wpAny_assign_Name (store_ok I hN hi hx r (fun s' I' => ⟨_, H, I', h⟩) hf)
def gNil : TGs := fun vs σ H Q => vs = [] ∧ Q σ H
def gCons (t : TG) (u : TGs) : TGs := fun vs σ H Q => ∃ v r, vs = v :: r ∧ t v σ H fun σ' H' => u r σ' H' Q
theorem pgs_nil : PGs X [] gNil := by
  intro pins s σ H vs us Q I r h
  obtain ⟨e, h⟩ := h
  subst e
  cases r
  exact assignInOrder_nil ⟨σ, H, I, h⟩
theorem pgs_cons {e : Expr} {es : List Expr} {t : TG} {u : TGs} (h1 : PG X e t) (h2 : PGs X es u)
    (hs : (assignEach (e :: es) X.env).map (·.2) = assign e X.env :: (assignEach es X.env).map (·.2) := by rfl) : PGs X (e :: es) (gCons t u) := by
  intro pins s σ H vs us Q I r h
  obtain ⟨v, vr, e1, h⟩ := h
  subst e1
  cases r with
  | cons r rr =>
    rw [hs]
    refine assignInOrder_cons (thn (h1 pins s σ H _ _ _ I r h) fun _ s1 ⟨σ1, H1, I1, q1⟩ => ?_)
    exact h2 pins s1 σ1 H1 _ _ Q I1 rr q1
/-- (a, b, ..) = a tuple of that length -/
def gTup (K : PySem.W.Frag) (n : Nat) (t : TGs) : TG := fun v σ H Q => ∃ a xs, v = .ref a ∧ SqT K H a xs ∧ xs.length = n ∧ t xs σ H Q
theorem pg_tup {es : List Expr} {k : Nat} {t : TGs} {n : Nat} (hc : X.calm = true) (h : PGs X es t)
    (hn : (assignEach es X.env).length = n := by rfl) (hst : (assignEach es X.env).findIdx? (·.1) = none := by rfl) : PG X (.Tuple es k pos) (gTup X.K n t) := by
  intro pins s σ H v u Q I r hw
  obtain ⟨a, xs, e1, hq, hl, hw⟩ := hw
  subst e1
  cases r
  obtain ⟨its, rv, ht, hz⟩ := I.tuple hq
  refine assign_Tuple_tuple (I.ok.hd hc) ht (by simp [hn, ← hl, rv.length]) hst fun h' hx => ?_
  have I1 : Inv X pins σ H { s with heap := h' } := I.kept (t' := s.toks) fun b o e => hx b o (Nat.ne_of_lt (Heap.lt_size e)) e
  exact h pins _ σ H xs _ Q I1 (by simpa using rv) hw
/-- o[i] = .. -/
def gSub (to ti : TE) (t : TSet) : TG := fun v σ H Q => to σ H fun o H1 => ti σ H1 fun i H2 => t o i v H2 fun H3 => Q σ H3
theorem pg_sub {o i : Expr} {to ti : TE} {t : TSet} (ho : PE X o to) (hi : PE X i ti) (hs : PSet X t)
    (ha : ∀ v, assign (.Subscript o i pos) X.env v = (do
      let ov ← holding [v] (eval o X.env)
      let iv ← holding [v, ov] (eval i X.env)
      standAt pos
      holding [v, ov, iv] (setItem ov iv v)
      release [v, ov, iv] []) := by intro _; rfl) : PG X (.Subscript o i pos) (gSub to ti t) := by
  intro pins s σ H v u Q I r h
  rw [ha]
  refine wpAny_bind (wpAny_holding (thn (ho pins s σ H _ I h) fun ov s1 ⟨x, H1, I1, r1, q1⟩ => ?_))
  refine wpAny_bind (wpAny_holding (thn (hi pins s1 σ H1 _ I1 q1) fun iv s2 ⟨y, H2, I2, r2, q2⟩ => ?_))
  refine wpAny_bind (wpAny_standAt (wpAny_bind (wpAny_holding (thn (hs pins s2 σ H2 x y v ov iv u _ I2 r1 r2 r q2) fun _ s3 ⟨H3, I3, q3⟩ => ?_))))
  exact wpAny_release ⟨σ, H3, I3, q3⟩
/-- target = value -/
def tAsg (te : TE) (g : TG) : TS := fun D σ H => te σ H fun x H1 => g x σ H1 D.nx
theorem ps_asg {tg e : Expr} {te : TE} {g : TG} (he : PE X e te) (hg : PG X tg g) (hs : swapsWithSole [tg] e pos.line X.env = pure false := by rfl) (hw : swappedStores [tg] e X.env = pure none := by rfl)
    (h1 : (assignEach [tg] X.env).map (·.2) = [assign tg X.env] := by rfl) : PS X (.Assign [tg] e pos) (tAsg te g) := by
  intro pins s σ H D I h
  refine wpAny_Assign_stores (thn (he pins s σ H _ I h) fun v s1 ⟨x, H1, I1, r1, q1⟩ => ?_) hs hw
  rw [h1]
  exact thn (hg pins s1 σ H1 x v _ I1 r1 q1) fun _ s2 q => q
/-- name = value -/
theorem ps_set {i : Nat} {x : Str} {e : Expr} {te : TE} {pos' : Pos} (hN : X.N.Nodup) (hi : X.N[i]? = some x) (hx : Loc X.env.scope x) (he : PE X e te) (hs : swapsWith e (some (.Name x pos')) pos.line X.env = pure false := by rfl) (hf : X.fn x = true ∨ X.env.scope.names.lookup x = some .local := by first | exact .inl rfl | exact .inr rfl | assumption) :
    PS X (.Assign [.Name x pos'] e pos) (tAsg te (gName i)) := by
  intro pins s σ H D I h
  refine wpAny_Assign_Name (thn (he pins s σ H _ I h) fun v s1 ⟨y, H1, I1, r1, q1⟩ => ?_) hs
  exact store_ok I1 hN hi hx r1 (fun s2 I2 => ⟨_, H1, I2, q1⟩) hf
/-- a, b = x, y with plain local names: stored from the right; the pair itself is not tracked (the opening rows as in PyProof/Rows/TupAssign.lean:23) -/
def tPar (i j : Nat) (ta : TA) : TS := fun D σ H => ta σ H fun vs H1 => ∃ v w, vs = [v, w] ∧ D.nx ((σ.set i (some v)).set j (some w)) H1
/-- name op= e -/
def tAug (i : Nat) (te : TE) (ti : TIp) : TS := fun D σ H => ∃ x, σ[i]? = some (some x) ∧ te σ H fun y H1 => ti x y H1 fun z H2 => D.nx (σ.set i (some z)) H2
/-- o[i] op= e -/
def tAugS (to ti te : TE) (tget : V → V → Hp → VK → Prop) (tip : TIp) (tset : TSet) : TS := fun D σ H => to σ H fun o H1 => ti σ H1 fun i H2 => tget o i H2 fun x H3 => te σ H3 fun y H4 => tip x y H4 fun z H5 => tset o i z H5 fun H6 => D.nx σ H6
/-- o[i], by values -/
def PGet (X : Cx) (t : V → V → Hp → VK → Prop) : Prop :=
  ∀ (pins : List (Addr × Obj)) (s : Shared) (σ : St) (H : Hp) (o i : V) (ov iv : Value) (Q : VK), Inv X pins σ H s → RelV o ov → RelV i iv → t o i H Q →
    wpAny (model X.prog X.w) X.A (getItem ov iv) (EP X pins σ Q) X.xe s
/-- ints -/
def ipI (f : Int → Int → Int) : TIp := fun x y H Q => ∃ i j, x = .int i ∧ y = .int j ∧ Q (.int (f i j)) H
end

/-! ### while -/
section
variable {X : Cx} {pos : Pos}
/-- the invariant W with its measure -/
def tWhile (c : TT) (tb : TS) : TS := fun D σ H => ∃ W : Nat → St → Hp → Prop, (∃ m, W m σ H) ∧ ∀ m σ H, W m σ H →
  c σ H fun b H1 => if b = true then ∃ N : St → Hp → Prop, (∀ σ' H', N σ' H' → ∃ m', m' < m ∧ W m' σ' H') ∧ tb { D with nx := N, ct := N, bk := D.nx } σ H1 else D.nx σ H1
theorem ps_while {c : Expr} {body : List Stmt} {tc : TT} {tb : TS} (hp : PassesOwn (model X.prog X.w) X.A X.env X.xe) (hc : PT X c tc) (hb : PSs X body tb) : PS X (.While c body [] pos) (tWhile tc tb) := by
  intro pins s σ H D I h
  obtain ⟨W, ⟨m0, w0⟩, turn⟩ := h
  refine wpAny_While (codeAny_whileLoop (fun n s' => ∃ σ' H', Inv X pins σ' H' s' ∧ W n σ' H') ?_ m0 ⟨σ, H, I, w0⟩)
  rintro n s1 ⟨σ1, H1, I1, w1⟩
  refine wpAny_passesOwn hp (thn (hc pins s1 σ1 H1 _ I1 (turn n σ1 H1 w1)) fun b s2 ⟨H2, I2, q2⟩ => ?_)
  cases b with
  | true =>
    obtain ⟨N, hN, q2⟩ := q2
    rw [if_pos rfl]
    refine wpAny_passesOwn hp (thn (hb pins s2 σ1 H2 _ I2 q2) fun f s3 q3 => ?_)
    cases f with
    | next =>
      obtain ⟨σ3, H3, I3, n3⟩ := q3
      obtain ⟨m', hm, w3⟩ := hN σ3 H3 n3
      exact ⟨m', hm, σ3, H3, I3, w3⟩
    | cont =>
      obtain ⟨σ3, H3, I3, n3⟩ := q3
      obtain ⟨m', hm, w3⟩ := hN σ3 H3 n3
      exact ⟨m', hm, σ3, H3, I3, w3⟩
    | brk => exact q3
    | ret v => exact q3
  | false =>
    rw [if_neg Bool.false_ne_true]
    exact wpAny_execs_nil ⟨σ1, H2, I2, q2⟩
end

/-! ### what a loop or a comprehension walks -/
/-- at turn i: it yields x (the heap may grow), or it stops -/
structure It where
  go : Nat → Hp → Prop
  yld : Nat → Hp → V → Hp → Prop
  stop : Nat → Hp → Prop
/-- the iterator's own objects may turn: they are not the frame's, not pinned, younger than the entry (or a comprehension's own) -/
def FpOk (X : Cx) (pins : List (Addr × Obj)) (H : Hp) (b : Addr) : Prop :=
  H b = none ∧ b ≠ X.env.locals ∧ b ∉ X.fs ∧ (b ∈ X.ex ∨ X.s₀.heap.objs.size ≤ b) ∧ (∀ x c, X.env.cells.lookup x = some c → c ≠ b) ∧ ∀ p ∈ X.pn ++ pins, p.1 ≠ b
theorem Inv.fpOk {X : Cx} {pins : List (Addr × Obj)} {σ : St} {H H' : Hp} {s : Shared} {b : Addr} (I : Inv X pins σ H s) (hb : s.heap.objs.size ≤ b) (hn : H' b = none) : FpOk X pins H' b := by
  refine ⟨hn, Nat.ne_of_gt (Nat.lt_of_lt_of_le I.lt hb), I.nofs hb, .inr (Nat.le_trans I.sz hb), fun x c e z => ?_, fun p hp z => ?_⟩
  · obtain ⟨v, q⟩ := I.cell x c e
    exact absurd (Nat.lt_of_lt_of_le q.lt (by rw [z]; exact hb)) (Nat.lt_irrefl _)
  · exact absurd (Nat.lt_of_lt_of_le (Heap.lt_size (I.pin p hp).1) (by rw [z]; exact hb)) (Nat.lt_irrefl _)
structure Turn (P : Program) (w : World) (K : PySem.W.Frag) (tg : Expr) (J : It) (fp : List Addr) (it : Addr) (tn : Nat → Heap → Prop) : Prop where
  mem : it ∈ fp
  obj : ∀ i h, tn i h → ∀ b ∈ fp, ∃ o, h.get? b = some o ∧ ∀ v, o.data ≠ .cell v
  keep : ∀ i h h', tn i h → (∀ b ∈ fp, ∀ o, h.get? b = some o → h'.get? b = some o) → tn i h'
  item : ∀ (X : Cx), X.prog = P → X.w = w → X.K = K → X.calm = true → ∀ (i : Nat) (pins : List (Addr × Obj)) (s : Shared) (σ : St) (H : Hp) (E : Value → Shared → Prop), Inv X pins σ H s → (∀ b ∈ fp, FpOk X pins H b) → tn i s.heap → J.go i H →
    wpAny (model P w) X.A (pyNext (.ref it)) (fun r s1 => ∃ u, r = some u ∧
      wpAny (model P w) X.A (letOwnedTupleGo tg (.ref it) u) (fun _ s2 => ∃ x H', Inv X pins σ H' s2 ∧ RelV x u ∧ J.yld i H x H' ∧ tn (i + 1) s2.heap ∧ ∀ b ∈ fp, H' b = none) E s1) E s
  done : ∀ (X : Cx), X.prog = P → X.w = w → X.K = K → X.calm = true → ∀ (i : Nat) (pins : List (Addr × Obj)) (s : Shared) (σ : St) (H : Hp) (E : Value → Shared → Prop), Inv X pins σ H s → (∀ b ∈ fp, FpOk X pins H b) → tn i s.heap → J.stop i H →
    wpAny (model P w) X.A (pyNext (.ref it)) (fun r s1 => r = none ∧ Inv X pins σ H s1) E s
  self : ∀ (A : Around) (i : Nat) (s : Shared) (Q : Value → Shared → Prop) (E : Value → Shared → Prop), tn i s.heap → Q (.ref it) s → wpAny (model P w) A (pyIter (.ref it)) Q E s
abbrev TI := St → Hp → (It → Hp → Prop) → Prop
/-- an iterator has come -/
def PIE (X : Cx) (pins : List (Addr × Obj)) (σ : St) (tg : Expr) (R : It → Hp → Prop) (itv : Value) (s2 : Shared) : Prop :=
  ∃ (it : Addr) (fp : List Addr) (tn : Nat → Heap → Prop) (J : It) (H' : Hp), itv = .ref it ∧ Inv X pins σ H' s2 ∧ Turn X.prog X.w X.K tg J fp it tn ∧ tn 0 s2.heap ∧ (∀ b ∈ fp, FpOk X pins H' b) ∧ R J H'
def PI (X : Cx) (tg iter : Expr) (wi : TI) : Prop :=
  ∀ (pins : List (Addr × Obj)) (s : Shared) (σ : St) (H : Hp) (R : It → Hp → Prop), Inv X pins σ H s → wi σ H R →
    wpAny (model X.prog X.w) X.A (eval iter X.env) (fun v s1 => wpAny (model X.prog X.w) X.A (pyIter v) (PIE X pins σ tg R) X.xe s1) X.xe s

/-- the step ahead of the store is nothing for an iterator that keeps no tuple -/
theorem go_of {M : Model} {A : Around} {E : Value → Shared → Prop} {s : Shared} {tg : Expr} {it : Addr} {u : Value} {o : Obj} {n : String} {vs : Array Value} {Q : Unit → Shared → Prop} (ho : s.heap.get? it = some o) (hc : o.cls = .type n) (hd : o.data = .fields vs)
    (hn : ["enumerate", "zip", "dict_itemiterator", "dict_reverseitemiterator", "odict_iterator", "itertools.zip_longest", "itertools.pairwise"].contains n = false) (hQ : Q () s) : wpAny M A (letOwnedTupleGo tg (.ref it) u) Q E s := by
  unfold letOwnedTupleGo
  cases tg <;> first
    | exact wpAny_pure hQ
    | (cases u <;> first
        | exact wpAny_pure hQ
        | (refine wpAny_bind (wpAny_load ho ?_)
           rw [hc, hd]
           show wpAny M A (if (["enumerate", "zip", "dict_itemiterator", "dict_reverseitemiterator", "odict_iterator", "itertools.zip_longest", "itertools.pairwise"].contains n && vs[0]? == some (rawInt _)) = true then _ else _) Q E s
           rw [if_neg (by intro h; rw [hn, Bool.false_and] at h; cases h)]
           exact wpAny_pure hQ))

/-- the list at a, as it stands at each turn (a loop may append to it) -/
def Itl (K : PySem.W.Frag) (a : Addr) : It :=
  ⟨fun i H => ∃ xs x, SqL K H a xs ∧ xs[i]? = some x, fun i H x H' => H' = H ∧ ∀ xs, SqL K H a xs → xs[i]? = some x, fun i H => ∃ xs, SqL K H a xs ∧ xs.length ≤ i⟩
def Itt (K : PySem.W.Frag) (a : Addr) : It :=
  ⟨fun i H => ∃ xs x, SqT K H a xs ∧ xs[i]? = some x, fun i H x H' => H' = H ∧ ∀ xs, SqT K H a xs → xs[i]? = some x, fun i H => ∃ xs, SqT K H a xs ∧ xs.length ≤ i⟩
/-- lo, lo + 1, .. (n of them) -/
def Itr (lo : Int) (n : Nat) : It := ⟨fun i _ => i < n, fun i H x H' => H' = H ∧ x = .int (lo + i), fun i _ => n ≤ i⟩
theorem turn_list {P : Program} {w : World} {K : PySem.W.Frag} {tg : Expr} (a it : Addr) : Turn P w K tg (Itl K a) [it] it (fun i h => h.IsListIter it a i) where
  mem := by simp
  obj := fun i h st b hb => by
    have e : b = it := by simpa using hb
    subst e
    obtain ⟨o, e, c, d⟩ := st
    exact ⟨o, e, fun v z => by rw [d] at z; cases z⟩
  keep := fun i h h' st k => st.at fun o e => k it (by simp) o e
  item := by
    intro X hP hw hK hc i pins s σ H E I hf st hg
    subst hP hw hK
    obtain ⟨xs, x, hq, hx⟩ := hg
    obtain ⟨its, rv, p, hz⟩ := I.list hq
    obtain ⟨u, hu, ru⟩ := rv.get hx
    obtain ⟨f0, f1, f2, f3, f4, f5⟩ := hf it (by simp)
    refine wpAny_pyNext_list_item st p.isList (x := u) (by simpa using hu) fun h' st' sb => ?_
    have I1 : Inv X pins σ H { s with heap := h' } := I.turned (t' := s.toks) (fun b o hb e => (sb.2 b hb).trans e) f0 f1 f3 f4 f5
    obtain ⟨o, e, c, d⟩ := id st'
    exact ⟨u, rfl, go_of (s := { s with heap := h' }) e c d (by decide) ⟨x, H, I1, ru, ⟨rfl, fun ys hy => by rw [I.list_inj hy hq]; exact hx⟩, st', fun b hb => (hf b hb).1⟩⟩
  done := by
    intro X hP hw hK hc i pins s σ H E I hf st hg
    subst hP hw hK
    obtain ⟨xs, hq, hx⟩ := hg
    obtain ⟨its, rv, p, hz⟩ := I.list hq
    obtain ⟨f0, f1, f2, f3, f4, f5⟩ := hf it (by simp)
    have hl := rv.length
    exact wpAny_pyNext_list_end (I.ok.hd hc) st p.isList (by simp; (clear f5 f4 f3 f2 f1 f0 hz hf hc; omega)) fun h' eb => ⟨rfl, I.turned (t' := s.toks) (fun b o hb e => eb b o hb e) f0 f1 f3 f4 f5⟩
  self := fun _ _ _ _ _ st h => wpAny_pyIter_listiter st h
theorem turn_tuple {P : Program} {w : World} {K : PySem.W.Frag} {tg : Expr} (a it : Addr) : Turn P w K tg (Itt K a) [it] it (fun i h => h.IsTupleIter it a i) where
  mem := by simp
  obj := fun i h st b hb => by
    have e : b = it := by simpa using hb
    subst e
    obtain ⟨o, e, c, d⟩ := st
    exact ⟨o, e, fun v z => by rw [d] at z; cases z⟩
  keep := fun i h h' st k => st.at fun o e => k it (by simp) o e
  item := by
    intro X hP hw hK hc i pins s σ H E I hf st hg
    subst hP hw hK
    obtain ⟨xs, x, hq, hx⟩ := hg
    obtain ⟨its, rv, p, hz⟩ := I.tuple hq
    obtain ⟨u, hu, ru⟩ := rv.get hx
    obtain ⟨f0, f1, f2, f3, f4, f5⟩ := hf it (by simp)
    refine wpAny_pyNext_tuple_item st (show s.heap.IsTuple a its.toArray from p) (x := u) (by simpa using hu) fun h' st' sb => ?_
    have I1 : Inv X pins σ H { s with heap := h' } := I.turned (t' := s.toks) (fun b o hb e => (sb.2 b hb).trans e) f0 f1 f3 f4 f5
    obtain ⟨o, e, c, d⟩ := id st'
    exact ⟨u, rfl, go_of (s := { s with heap := h' }) e c d (by decide) ⟨x, H, I1, ru, ⟨rfl, fun ys hy => by rw [I.tuple_inj hy hq]; exact hx⟩, st', fun b hb => (hf b hb).1⟩⟩
  done := by
    intro X hP hw hK hc i pins s σ H E I hf st hg
    subst hP hw hK
    obtain ⟨xs, hq, hx⟩ := hg
    obtain ⟨its, rv, p, hz⟩ := I.tuple hq
    obtain ⟨f0, f1, f2, f3, f4, f5⟩ := hf it (by simp)
    have hl := rv.length
    exact wpAny_pyNext_tuple_end (I.ok.hd hc) st (show s.heap.IsTuple a its.toArray from p) (by simp; (clear f5 f4 f3 f2 f1 f0 hz hf hc; omega)) fun h' eb => ⟨rfl, I.turned (t' := s.toks) (fun b o hb e => eb b o hb e) f0 f1 f3 f4 f5⟩
  self := fun _ _ _ _ _ st h => wpAny_pyIter_tupleiter st h
theorem turn_range {P : Program} {w : World} {K : PySem.W.Frag} {tg : Expr} (it : Addr) (lo : Int) (n : Nat) : Turn P w K tg (Itr lo n) [it] it (fun i h => IsRangeIter h it (lo + (i : Nat) * 1) ((n : Int) - (i : Nat)) 1) where
  mem := by simp
  obj := fun i h st b hb => by
    have e : b = it := by simpa using hb
    subst e
    exact ⟨_, st, fun v z => by
      have z' : Data.fields _ = Data.cell v := z
      cases z'⟩
  keep := fun i h h' st k => k it (by simp) _ st
  item := by
    intro X hP hw hK hc i pins s σ H E I hf st hg
    subst hP hw hK
    obtain ⟨f0, f1, f2, f3, f4, f5⟩ := hf it (by simp)
    have W := Walks.range (prog := X.prog) (w := X.w) (I.ok.hd hc) it lo 1 n
    refine W.item i s _ _ hg st fun v h' tk hv st' kk => ?_
    obtain ⟨t, rfl⟩ := hv
    have I1 : Inv X pins σ H { s with heap := h', toks := tk } := I.turned (fun b o hb e => kk b o (by simpa using hb) e) f0 f1 f3 f4 f5
    refine ⟨_, rfl, go_of (s := { s with heap := h', toks := tk }) (n := "range_iterator") st' rfl rfl (by decide) ⟨.int (lo + i), H, I1, ⟨t, ?_⟩, ⟨rfl, rfl⟩, st', fun b hb => (hf b hb).1⟩⟩
    rw [Int.mul_one]
  done := by
    intro X hP hw hK hc i pins s σ H E I hf st hg
    subst hP hw hK
    obtain ⟨f0, f1, f2, f3, f4, f5⟩ := hf it (by simp)
    exact wpAny_pyNext_range_end (I.ok.hd hc) st (by have : n ≤ i := hg; (clear f5 f4 f3 f2 f1 f0 hf hc; omega)) fun h' eb => ⟨rfl, I.turned (t' := s.toks) (fun b o hb e => eb b o hb e) f0 f1 f3 f4 f5⟩
  self := fun _ _ _ _ _ st h => wpAny_pyIter_rangeiter st h
end L2

namespace L2
open PySem PySem.Spec PyProof.Rows
section
variable {X : Cx} {tg : Expr}
def iList (K : PySem.W.Frag) (tl : TE) : TI := fun σ H R => tl σ H fun x H1 => ∃ a, x = .ref a ∧ (∃ xs, SqL K H1 a xs) ∧ R (Itl K a) H1
def iTup (K : PySem.W.Frag) (tl : TE) : TI := fun σ H R => tl σ H fun x H1 => ∃ a, x = .ref a ∧ (∃ xs, SqT K H1 a xs) ∧ R (Itt K a) H1
theorem pi_list {l : Expr} {tl : TE} (hl : PE X l tl) : PI X tg l (iList X.K tl) := by
  intro pins s σ H R I h
  refine thn (hl pins s σ H _ I h) fun v s1 ⟨x, H1, I1, r1, q1⟩ => ?_
  obtain ⟨a, e, ⟨xs, hq⟩, q⟩ := q1
  subst e
  cases r1
  obtain ⟨its, rv, p, hz⟩ := I1.list hq
  refine wpAny_pyIter_list p.isList ?_
  refine ⟨s1.heap.objs.size, [s1.heap.objs.size], _, _, H1, rfl, I1.kept (t' := s1.toks) fun b o e => Heap.get?_push_of_some _ e, turn_list a _, ⟨_, Heap.get?_push_size _ rfl, rfl, rfl⟩, fun b hb => ?_, q⟩
  have e : b = s1.heap.objs.size := by simpa using hb
  subst e
  exact I1.fpOk (Nat.le_refl _) (I1.hok.fresh (Nat.le_refl _))
/-- a range object just made, walked -/
theorem range_it {pins : List (Addr × Obj)} {σ : St} {H : Hp} {s : Shared} {R : It → Hp → Prop} {E : Value → Shared → Prop} {lo hi : Int} {t u v : Tok} {tk : Nat} (I : Inv X pins σ H s) (h1 : -(2 ^ 62) ≤ lo) (h2 : lo < 2 ^ 62) (h3 : -(2 ^ 62) ≤ hi) (h4 : hi < 2 ^ 62)
    (q : R (Itr lo (hi - lo).toNat) H) : wpAny (model X.prog X.w) X.A (pyIter (.ref s.heap.objs.size)) (PIE X pins σ tg R) E { s with heap := s.heap.push { cls := .type "range", data := .fields #[.int lo t, .int hi u, .int 1 v] }, toks := tk } := by
  refine wpAny_pyIter_range (IsRange.new ..) (small_one h1 h2 h3 h4) ?_
  have I1 : Inv X pins σ H { s with heap := s.heap.push { cls := .type "range", data := .fields #[.int lo t, .int hi u, .int 1 v] }, toks := tk } := I.kept fun b o e => Heap.get?_push_of_some _ e
  refine ⟨(s.heap.push { cls := .type "range", data := .fields #[.int lo t, .int hi u, .int 1 v] }).objs.size, [(s.heap.push { cls := .type "range", data := .fields #[.int lo t, .int hi u, .int 1 v] }).objs.size], _, _, H, rfl,
    I1.kept (t' := tk) fun b o e => Heap.get?_push_of_some _ e, turn_range _ lo (hi - lo).toNat, ?_, fun b hb => ?_, q⟩
  · have e1 : lo + ((0 : Nat) : Int) * 1 = lo := by simp
    have e2 : (((hi - lo).toNat : Nat) : Int) - ((0 : Nat) : Int) = Builtin.Range.rangeSize lo hi 1 := by rw [rangeSize_one]; split <;> (clear e1 h4 h3 h2 h1; omega)
    show IsRangeIter _ _ (lo + ((0 : Nat) : Int) * 1) ((((hi - lo).toNat : Nat) : Int) - ((0 : Nat) : Int)) 1
    rw [e1, e2]
    exact Heap.get?_push_size _ rfl
  · have e : b = (s.heap.push { cls := .type "range", data := .fields #[.int lo t, .int hi u, .int 1 v] }).objs.size := by simpa using hb
    subst e
    exact I1.fpOk (Nat.le_refl _) (I1.hok.fresh (Nat.le_refl _))
def iRng1 (ta : TA) : TI := fun σ H R => ta σ H fun vs H1 => ∃ j : Int, vs = [.int j] ∧ -(2 ^ 62) ≤ j ∧ j < 2 ^ 62 ∧ R (Itr 0 j.toNat) H1
def iRng2 (ta : TA) : TI := fun σ H R => ta σ H fun vs H1 => ∃ i j : Int, vs = [.int i, .int j] ∧ (-(2 ^ 62) ≤ i ∧ i < 2 ^ 62 ∧ -(2 ^ 62) ≤ j ∧ j < 2 ^ 62) ∧ R (Itr i (j - i).toNat) H1
theorem pi_range1 {a : Expr} {ta : TA} {p pos : Pos} (hg : Gl X "range") (hm : X.mg "range" = none) (ha : PA X [a] ta) (hs : starEach [a] X.env = [(false, eval a X.env)] := by rfl) : PI X tg (.Call (.Name "range" p) [a] [] pos) (iRng1 ta) := by
  intro pins s σ H R I h
  refine Call_ (ld_blt I hg hm boot_range (PyProof.Rows.callWith_type1 (thn (ha pos pins s σ H _ I h) fun us s1 ⟨vs, H1, I1, r1, q1⟩ => ?_) hs rfl))
  obtain ⟨j, e, q1, q2, q⟩ := q1
  subst e
  cases r1 with
  | cons r rr =>
    cases rr
    obtain ⟨t, rfl⟩ := r
    exact call_range_1 (range_it I1 (by (clear q2 q1 hs hm; omega)) (by (clear q2 q1 hs hm; omega)) q1 q2 (by simpa using q))
theorem pi_range2 {a b : Expr} {ta : TA} {p pos : Pos} (hg : Gl X "range") (hm : X.mg "range" = none) (ha : PA X [a, b] ta) (hs : starEach [a, b] X.env = [(false, eval a X.env), (false, eval b X.env)] := by rfl) (hs2 : starEach [b] X.env = [(false, eval b X.env)] := by rfl) :
    PI X tg (.Call (.Name "range" p) [a, b] [] pos) (iRng2 ta) := by
  intro pins s σ H R I h
  refine Call_ (ld_blt I hg hm boot_range (PyProof.Rows.callWith_type1 (thn (ha pos pins s σ H _ I h) fun us s1 ⟨vs, H1, I1, r1, q1⟩ => ?_) (by rw [hs, hs2]) (by rw [hs2]; rfl)))
  obtain ⟨i, j, e, ⟨q1, q2, q3, q4⟩, q⟩ := q1
  subst e
  cases r1 with
  | cons r rr =>
    cases rr with
    | cons r' rr =>
      cases rr
      obtain ⟨t, rfl⟩ := r
      obtain ⟨t', rfl⟩ := r'
      exact call_range_2 (range_it I1 q1 q2 q3 q4 q)

/-! ### for -/
/-- W: the invariant by the turn and a measure; N: what the body is to reach -/
def tFor (wi : TI) (g : TG) (tb : TS) : TS := fun D σ H => wi σ H fun J H1 => ∃ W : Nat → Nat → St → Hp → Prop, (∃ m, W 0 m σ H1) ∧ ∀ i m σ H, W i m σ H →
  (J.stop i H ∧ D.nx σ H) ∨ (J.go i H ∧ ∃ N : St → Hp → Prop, (∀ σ' H', N σ' H' → ∃ m', m' < m ∧ W (i + 1) m' σ' H') ∧ ∀ x H', J.yld i H x H' → g x σ H' fun σ2 H2 => tb { D with nx := N, ct := N, bk := D.nx } σ2 H2)
/-- the records at fp as they stand -/
def pinsAt (fp : List Addr) (h : Heap) : List (Addr × Obj) := fp.filterMap fun b => (h.get? b).map fun o => (b, o)
theorem mem_pinsAt {fp : List Addr} {h : Heap} {b : Addr} {o : Obj} (hb : b ∈ fp) (e : h.get? b = some o) : (b, o) ∈ pinsAt fp h := List.mem_filterMap.mpr ⟨b, hb, by rw [e]; rfl⟩
theorem of_pinsAt {fp : List Addr} {h : Heap} {p : Addr × Obj} (hp : p ∈ pinsAt fp h) : p.1 ∈ fp ∧ h.get? p.1 = some p.2 := by
  obtain ⟨b, hb, e⟩ := List.mem_filterMap.mp hp
  cases q : h.get? b with
  | none => rw [q] at e; cases e
  | some o =>
    rw [q] at e
    have e' : (b, o) = p := Option.some.inj e
    subst e'
    exact ⟨hb, q⟩
theorem Inv.pinned {pins : List (Addr × Obj)} {σ : St} {H : Hp} {s : Shared} {fp : List Addr} (I : Inv X pins σ H s) (hf : ∀ b ∈ fp, FpOk X pins H b) (ho : ∀ b ∈ fp, ∃ o, s.heap.get? b = some o ∧ ∀ v, o.data ≠ .cell v) : Inv X (pins ++ pinsAt fp s.heap) σ H s :=
  I.pins_of fun p hp => (List.mem_append.mp hp).elim (fun z => I.pin p (List.mem_append_right _ z)) fun z => by
    obtain ⟨hb, e⟩ := of_pinsAt z
    obtain ⟨f0, f1, f2, _⟩ := hf p.1 hb
    obtain ⟨o, e', d⟩ := ho p.1 hb
    rw [e] at e'; cases e'
    exact ⟨e, f0, f1, f2, d⟩
theorem Inv.unpinned {pins pl : List (Addr × Obj)} {σ : St} {H : Hp} {s : Shared} (I : Inv X (pins ++ pl) σ H s) : Inv X pins σ H s := I.pins_of fun p hp => I.pin p (List.mem_append_right _ (List.mem_append_left _ hp))
theorem ps_for {iter : Expr} {body : List Stmt} {wi : TI} {g : TG} {tb : TS} {pos : Pos} (hp : PassesOwn (model X.prog X.w) X.A X.env X.xe) (hc : X.calm = true) (hi : PI X tg iter wi) (hg : PG X tg g) (hb : PSs X body tb)
    (hs : ∀ x, foldedSetIterable iter X.env x = pure x := by intro _; rfl) : PS X (.For tg iter body [] pos) (tFor wi g tb) := by
  intro pins s σ H D I h
  refine wpAny_For (thn (hi pins s σ H _ I h) fun v s1 h1 => thn h1 fun itv s2 h2 => ?_) hs
  obtain ⟨it, fp, tn, J, H2, e, I2, T, st2, f2, W, ⟨m0, w0⟩, turn⟩ := h2
  subst e
  -- what stays true of the iterator's objects through the loop
  have stat : ∀ {H' : Hp}, (∀ b ∈ fp, H' b = none) → ∀ b ∈ fp, FpOk X pins H' b := fun hn b hb => ⟨hn b hb, (f2 b hb).2⟩
  refine codeAny_forLoop_any (fun n s' => ∃ i σ' H', Inv X pins σ' H' s' ∧ tn i s'.heap ∧ (∀ b ∈ fp, H' b = none) ∧ W i n σ' H') ?_ m0 ⟨0, σ, H2, I2, st2, fun b hb => (f2 b hb).1, w0⟩
  rintro n s3 ⟨i, σ3, H3, I3, st3, fr3, w3⟩
  rcases turn i n σ3 H3 w3 with ⟨stop, qn⟩ | ⟨go, N, hN, step⟩
  · refine wpAny_passesOwn hp (thn (T.done X rfl rfl rfl hc i pins s3 σ3 H3 X.xe I3 (stat fr3) st3 stop) fun r s4 ⟨hr, I4⟩ => ?_)
    subst hr
    exact wpAny_execs_nil ⟨σ3, H3, I4, qn⟩
  · refine wpAny_passesOwn hp (thn (T.item X rfl rfl rfl hc i pins s3 σ3 H3 X.xe I3 (stat fr3) st3 go) fun r s4 ⟨u, hr, h4⟩ => ?_)
    subst hr
    refine wpAny_passesOwn hp (thn h4 fun _ s5 ⟨x, H5, I5, r5, y5, st5, fr5⟩ => ?_)
    have I5' := I5.pinned (stat fr5) (T.obj _ _ st5)
    refine wpAny_passesOwn hp (thn (hg _ s5 σ3 H5 x u _ I5' r5 (step x H5 y5)) fun _ s6 ⟨σ6, H6, I6, q6⟩ => ?_)
    refine wpAny_passesOwn hp (thn (hb _ s6 σ6 H6 _ I6 q6) fun f s7 q7 => ?_)
    have again : ∀ {σ7 : St} {H7 : Hp}, Inv X (pins ++ pinsAt fp s5.heap) σ7 H7 s7 → N σ7 H7 → ∃ m, m < n ∧ ∃ i σ' H', Inv X pins σ' H' s7 ∧ tn i s7.heap ∧ (∀ b ∈ fp, H' b = none) ∧ W i m σ' H' := fun {σ7 H7} I7 n7 => by
      obtain ⟨m', hm, w7⟩ := hN σ7 H7 n7
      refine ⟨m', hm, i + 1, σ7, H7, I7.unpinned, T.keep _ _ _ st5 fun b hb o e => (I7.pin (b, o) (List.mem_append_right _ (List.mem_append_right _ (mem_pinsAt hb e)))).1, fun b hb => ?_, w7⟩
      obtain ⟨o, e, d⟩ := T.obj _ _ st5 b hb
      exact (I7.pin (b, o) (List.mem_append_right _ (List.mem_append_right _ (mem_pinsAt hb e)))).2.1
    cases f with
    | next => obtain ⟨σ7, H7, I7, n7⟩ := q7; exact again I7 n7
    | cont => obtain ⟨σ7, H7, I7, n7⟩ := q7; exact again I7 n7
    | brk => obtain ⟨σ7, H7, I7, q7⟩ := q7; exact ⟨σ7, H7, I7.unpinned, q7⟩
    | ret v => obtain ⟨x7, σ7, H7, I7, r7, q7⟩ := q7; exact ⟨x7, σ7, H7, I7.unpinned, r7, q7⟩
end

/-! ### the forms one uses -/
/-- over a list that the body leaves as it is -/
theorem for_list {K : PySem.W.Frag} {a : Addr} {xs : List V} {g : TG} {tb : TS} {D : Ends} {σ : St} {H : Hp} (Pv : Nat → St → Hp → Prop) (h0 : Pv 0 σ H) (hl : ∀ i σ H, i ≤ xs.length → Pv i σ H → SqL K H a xs)
    (hs : ∀ i x σ H, xs[i]? = some x → Pv i σ H → g x σ H fun σ2 H2 => tb { D with nx := Pv (i + 1), ct := Pv (i + 1), bk := D.nx } σ2 H2) (hd : ∀ σ H, Pv xs.length σ H → D.nx σ H) :
    ∃ W : Nat → Nat → St → Hp → Prop, (∃ m, W 0 m σ H) ∧ ∀ i m σ H, W i m σ H →
      ((Itl K a).stop i H ∧ D.nx σ H) ∨ ((Itl K a).go i H ∧ ∃ N : St → Hp → Prop, (∀ σ' H', N σ' H' → ∃ m', m' < m ∧ W (i + 1) m' σ' H') ∧ ∀ x H', (Itl K a).yld i H x H' → g x σ H' fun σ2 H2 => tb { D with nx := N, ct := N, bk := D.nx } σ2 H2) := by
  refine ⟨fun i m σ H => m = xs.length - i ∧ i ≤ xs.length ∧ Pv i σ H, ⟨xs.length, by simp, Nat.zero_le _, h0⟩, ?_⟩
  rintro i m σ H ⟨rfl, hi, p⟩
  have q := hl i σ H hi p
  by_cases hlt : i < xs.length
  · refine .inr ⟨⟨xs, xs[i], q, by simp [hlt]⟩, Pv (i + 1), fun σ' H' p' => ⟨xs.length - (i + 1), by (clear hi hd hs hl; omega), rfl, hlt, p'⟩, fun x H' y => ?_⟩
    obtain ⟨e, y⟩ := y
    subst e
    exact hs i x σ _ (y xs q) p
  · have e : i = xs.length := by (clear hd hs hl; omega)
    subst e
    exact .inl ⟨⟨xs, q, Nat.le_refl _⟩, hd σ H p⟩
theorem for_range {lo : Int} {n : Nat} {g : TG} {tb : TS} {D : Ends} {σ : St} {H : Hp} (Pv : Nat → St → Hp → Prop) (h0 : Pv 0 σ H)
    (hs : ∀ i σ H, i < n → Pv i σ H → g (.int (lo + i)) σ H fun σ2 H2 => tb { D with nx := Pv (i + 1), ct := Pv (i + 1), bk := D.nx } σ2 H2) (hd : ∀ σ H, Pv n σ H → D.nx σ H) :
    ∃ W : Nat → Nat → St → Hp → Prop, (∃ m, W 0 m σ H) ∧ ∀ i m σ H, W i m σ H →
      ((Itr lo n).stop i H ∧ D.nx σ H) ∨ ((Itr lo n).go i H ∧ ∃ N : St → Hp → Prop, (∀ σ' H', N σ' H' → ∃ m', m' < m ∧ W (i + 1) m' σ' H') ∧ ∀ x H', (Itr lo n).yld i H x H' → g x σ H' fun σ2 H2 => tb { D with nx := N, ct := N, bk := D.nx } σ2 H2) := by
  refine ⟨fun i m σ H => m = n - i ∧ i ≤ n ∧ Pv i σ H, ⟨n, by simp, Nat.zero_le _, h0⟩, ?_⟩
  rintro i m σ H ⟨rfl, hi, p⟩
  by_cases hlt : i < n
  · refine .inr ⟨hlt, Pv (i + 1), fun σ' H' p' => ⟨n - (i + 1), by (clear hi hd hs; omega), rfl, hlt, p'⟩, fun x H' y => ?_⟩
    obtain ⟨e, y⟩ := y
    subst e y
    exact hs i σ _ hlt p
  · have e : i = n := by (clear hd hs; omega)
    subst e
    exact .inl ⟨Nat.le_refl _, hd σ H p⟩
end L2

namespace L2
open PySem PySem.Spec PyProof.Rows

abbrev R2 := V → V → Hp → VK → Prop
/-- a two-place operation on values: f is binaryOp op, inplaceOp op or compareOp op -/
def OpR (X : Cx) (f : Value → Value → Sem Value) (r : R2) : Prop :=
  ∀ (pins : List (Addr × Obj)) (s : Shared) (σ : St) (H : Hp) (x y : V) (v u : Value) (Q : VK), Inv X pins σ H s → RelV x v → RelV y u → r x y H Q →
    wpAny (model X.prog X.w) X.A (f v u) (EP X pins σ Q) X.xe s
/-- a one-place operation -/
def UnR (X : Cx) (f : Value → Sem Value) (r : V → Hp → VK → Prop) : Prop :=
  ∀ (pins : List (Addr × Obj)) (s : Shared) (σ : St) (H : Hp) (x : V) (v : Value) (Q : VK), Inv X pins σ H s → RelV x v → r x H Q →
    wpAny (model X.prog X.w) X.A (f v) (EP X pins σ Q) X.xe s
/-- a call of a value that is known (a builtin, a type) with values -/
def CallR (X : Cx) (f : Value) (r : List V → Hp → VK → Prop) : Prop :=
  ∀ (pins : List (Addr × Obj)) (s : Shared) (σ : St) (H : Hp) (xs : List V) (us : List Value) (Q : VK), Inv X pins σ H s → Vals xs us → r xs H Q →
    wpAny (model X.prog X.w) X.A (call f us) (EP X pins σ Q) X.xe s
/-- a value's truth -/
def TruR (X : Cx) (r : V → Hp → (Bool → Hp → Prop) → Prop) : Prop :=
  ∀ (pins : List (Addr × Obj)) (s : Shared) (σ : St) (H : Hp) (x : V) (v : Value) (Q : Bool → Hp → Prop), Inv X pins σ H s → RelV x v → r x H Q →
    wpAny (model X.prog X.w) X.A (truthy v) (TP X pins σ Q) X.xe s

def tOp (r : R2) (ta tb : TE) : TE := fun σ H Q => ta σ H fun x H1 => tb σ H1 fun y H2 => r x y H2 Q
def tUn (r : V → Hp → VK → Prop) (ta : TE) : TE := fun σ H Q => ta σ H fun x H1 => r x H1 Q
/-- ints in, under C, and a value out -/
def rI (C : Int → Int → Prop) (g : Int → Int → V) : R2 := fun x y H Q => ∃ i j, x = .int i ∧ y = .int j ∧ C i j ∧ Q (g i j) H
def rI0 (g : Int → Int → V) : R2 := fun x y H Q => ∃ i j, x = .int i ∧ y = .int j ∧ Q (g i j) H
def rU (g : Int → V) : V → Hp → VK → Prop := fun x H Q => ∃ i, x = .int i ∧ Q (g i) H

section
variable {X : Cx} {a b c : Expr} {ta tb tc : TE} {pos : Pos}

theorem binT (ha : PE X a ta) (hb : PE X b tb) {pins : List (Addr × Obj)} {s : Shared} {σ : St} {H : Hp} {R : V → V → Hp → Prop} (I : Inv X pins σ H s)
    (h : ta σ H fun x H1 => tb σ H1 fun y H2 => R x y H2) {Q : Value → Shared → Prop} {f : Value → Value → Sem Value}
    (hf : ∀ v u s2 x y H2, Inv X pins σ H2 s2 → RelV x v → RelV y u → R x y H2 → wpAny (model X.prog X.w) X.A (f v u) Q X.xe s2) :
    wpAny (model X.prog X.w) X.A (eval a X.env) (fun v s₁ => wpAny (model X.prog X.w) X.A (eval b X.env) (fun u s₂ => wpAny (model X.prog X.w) X.A (f v u) Q X.xe s₂) X.xe s₁) X.xe s := by
  refine thn (ha pins s σ H _ I h) fun v s1 ⟨x, H1, I1, r1, q1⟩ => ?_
  refine thn (hb pins s1 σ H1 _ I1 q1) fun u s2 ⟨y, H2, I2, r2, q2⟩ => ?_
  exact hf v u s2 x y H2 I2 r1 r2 q2

theorem pe_op {op : Operator} {r : R2} (ho : OpR X (binaryOp op) r) (ha : PE X a ta) (hb : PE X b tb) : PE X (.BinOp a op b pos) (tOp r ta tb) := by
  intro pins s σ H Q I h
  exact wpAny_BinOp (binT ha hb I h fun v u s2 x y H2 I2 rx ry q => ho pins s2 σ H2 x y v u Q I2 rx ry q)
theorem pe_un {op : UnaryOp} {r : V → Hp → VK → Prop} (ho : UnR X (unaryOp op) r) (ha : PE X a ta) : PE X (.UnaryOp op a pos) (tUn r ta) := by
  intro pins s σ H Q I h
  exact UnaryOp_ (thn (ha pins s σ H _ I h) fun v s1 ⟨x, H1, I1, r1, q1⟩ => ho pins s1 σ H1 x v Q I1 r1 q1)
/-! ### ints -/
theorem opI {f : Value → Value → Sem Value} {C : Int → Int → Prop} {g : Int → Int → Int}
    (rule : ∀ (i j : Int) (t u : Tok) (s : Shared) (Q : Value → Shared → Prop) (E : Value → Shared → Prop), C i j → Q (.int (g i j) s.toks) { s with toks := s.toks + 1 } → wpAny (model X.prog X.w) X.A (f (.int i t) (.int j u)) Q E s) :
    OpR X f (rI C fun i j => .int (g i j)) := by
  intro pins s σ H x y v u Q I rx ry h
  obtain ⟨i, j, rfl, rfl, hc, q⟩ := h
  obtain ⟨t, rfl⟩ := rx
  obtain ⟨t', rfl⟩ := ry
  exact rule i j t t' s _ _ hc ⟨.int (g i j), H, I.tok _, ⟨_, rfl⟩, q⟩
theorem opI0 {f : Value → Value → Sem Value} {g : Int → Int → Int}
    (rule : ∀ (i j : Int) (t u : Tok) (s : Shared) (Q : Value → Shared → Prop) (E : Value → Shared → Prop), Q (.int (g i j) s.toks) { s with toks := s.toks + 1 } → wpAny (model X.prog X.w) X.A (f (.int i t) (.int j u)) Q E s) :
    OpR X f (rI0 fun i j => .int (g i j)) := by
  intro pins s σ H x y v u Q I rx ry h
  obtain ⟨i, j, rfl, rfl, q⟩ := h
  obtain ⟨t, rfl⟩ := rx
  obtain ⟨t', rfl⟩ := ry
  exact rule i j t t' s _ _ ⟨.int (g i j), H, I.tok _, ⟨_, rfl⟩, q⟩
theorem opB0 {f : Value → Value → Sem Value} {g : Int → Int → Bool}
    (rule : ∀ (i j : Int) (t u : Tok) (s : Shared) (Q : Value → Shared → Prop) (E : Value → Shared → Prop), Q (.bool (g i j)) s → wpAny (model X.prog X.w) X.A (f (.int i t) (.int j u)) Q E s) :
    OpR X f (rI0 fun i j => .bl (g i j)) := by
  intro pins s σ H x y v u Q I rx ry h
  obtain ⟨i, j, rfl, rfl, q⟩ := h
  obtain ⟨t, rfl⟩ := rx
  obtain ⟨t', rfl⟩ := ry
  exact rule i j t t' s _ _ ⟨.bl (g i j), H, I, rfl, q⟩

def CDiv (i j : Int) : Prop := 0 < j ∧ j < 1073741824
def CDivN (i j : Int) : Prop := j ≠ 0 ∧ j.natAbs < 1073741824
def CPow (i j : Int) : Prop := 0 ≤ j ∧ j ≤ 1000000 ∧ i.natAbs < 2 ^ 64
def CMul (i j : Int) : Prop := (-(2 ^ 64) < i ∧ i < 2 ^ 64) ∨ (-(2 ^ 64) < j ∧ j < 2 ^ 64)
theorem CMul.ok {i j : Int} (h : CMul i j) : IntMulOk i j := by
  rcases h with ⟨h1, h2⟩ | ⟨h1, h2⟩
  · exact .of_left (intBits_le_64 h1 h2)
  · exact .of_right (intBits_le_64 h1 h2)
theorem op_add : OpR X (binaryOp .Add) (rI0 fun i j => .int (i + j)) := opI0 fun _ _ _ _ _ _ _ q => add_int q
theorem op_sub : OpR X (binaryOp .Sub) (rI0 fun i j => .int (i - j)) := opI0 fun _ _ _ _ _ _ _ q => sub_int q
theorem op_mul : OpR X (binaryOp .Mult) (rI CMul fun i j => .int (i * j)) := opI fun _ _ _ _ _ _ _ hc q => mul_int q hc.ok
/-- // by a positive divisor -/
theorem op_fdiv : OpR X (binaryOp .FloorDiv) (rI CDiv fun i j => .int (i / j)) := opI fun i j _ _ _ _ _ hc q => by
  have h1 : (0 : Int) < j := hc.1
  have h2 : j < 1073741824 := hc.2
  exact floordiv_int (by omega) (by rw [Int.fdiv_eq_ediv_of_nonneg i (by omega)]; exact q) (.inl (PyProof.noPylong_small (by omega)))
/-- % by a positive divisor of any size -/
theorem op_mod : OpR X (binaryOp .Mod) (rI (fun _ j => 0 < j) fun i j => .int (i % j)) := opI fun i j _ _ _ _ _ hc q => by
  have h1 : (0 : Int) < j := hc
  exact mod_int' (by (clear h1; omega)) (by rw [Int.fmod_eq_emod_of_nonneg i (by (clear h1; omega))]; exact q)
theorem op_pow : OpR X (binaryOp .Pow) (rI CPow fun i j => .int (i ^ j.toNat)) := opI fun _ _ _ _ _ _ _ hc q => pow_int_small hc.1 hc.2.1 hc.2.2 q
theorem unI {f : Value → Sem Value} {g : Int → Int}
    (rule : ∀ (i : Int) (t : Tok) (s : Shared) (Q : Value → Shared → Prop) (E : Value → Shared → Prop), Q (.int (g i) s.toks) { s with toks := s.toks + 1 } → wpAny (model X.prog X.w) X.A (f (.int i t)) Q E s) :
    UnR X f (rU fun i => .int (g i)) := by
  intro pins s σ H x v Q I rx h
  obtain ⟨i, rfl, q⟩ := h
  obtain ⟨t, rfl⟩ := rx
  exact rule i t s _ _ ⟨.int (g i), H, I.tok _, ⟨_, rfl⟩, q⟩
theorem un_neg : UnR X (unaryOp .USub) (rU fun i => .int (-i)) := unI fun _ _ _ _ _ q => neg_int q
/-! ### bools among ints: n += (a < b) -/
end

/-! ### comparisons -/
/-- the scalars that == tells apart as data does -/
def scal : V → V → Bool
  | .non, .non => true | .non, .int _ => true | .int _, .non => true | .non, .bl _ => true | .bl _, .non => true | .non, .str _ => true | .str _, .non => true
  | .int _, .int _ => true | .bl _, .bl _ => true | .str _, .str _ => true | .byt _, .byt _ => true
  | .int _, .str _ => true | .str _, .int _ => true | .bl _, .str _ => true | .str _, .bl _ => true
  | _, _ => false
def rEq : R2 := fun x y H Q => scal x y = true ∧ Q (.bl (decide (x = y))) H
def rNe : R2 := fun x y H Q => scal x y = true ∧ Q (.bl (!decide (x = y))) H

theorem dec_int {i j : Int} : decide (V.int i = V.int j) = (i == j) := by
  rw [Bool.eq_iff_iff]
  simp
theorem dec_bl {i j : Bool} : decide (V.bl i = V.bl j) = (i == j) := by
  rw [Bool.eq_iff_iff]
  simp
theorem dec_str {i j : Str} : decide (V.str i = V.str j) = (i == j) := by
  rw [Bool.eq_iff_iff]
  simp
theorem dec_byt {i j : Array UInt8} : decide (V.byt i = V.byt j) = (i.toList == j.toList) := by
  rw [Bool.eq_iff_iff]
  cases i
  cases j
  simp

section
variable {X : Cx} {a b c : Expr} {ta tb tc : TE} {pos : Pos}
theorem fin_bl {pins : List (Addr × Obj)} {σ : St} {H : Hp} {s : Shared} {Q : VK} {k k' : Bool} (I : Inv X pins σ H s) (q : Q (.bl k) H) (e : k = k') : EP X pins σ Q (.bool k') s := by
  subst e
  exact ⟨.bl k, H, I, rfl, q⟩
theorem op_eq : OpR X (compareOp .Eq) rEq := by
  intro pins s σ H x y v u Q I rx ry h
  obtain ⟨hs, q⟩ := h
  cases x with
  | non =>
    cases rx
    cases y with
    | non => cases ry; exact PySem.EqNone.eq_none_none (fin_bl I q (by simp))
    | bl j => cases ry; exact PySem.EqNone.eq_none_bool (fin_bl I q (by simp))
    | int j => obtain ⟨t', rfl⟩ := ry; exact PySem.EqNone.eq_none_int (fin_bl I q (by simp))
    | str j => obtain ⟨t', rfl⟩ := ry; exact PySem.EqNone.eq_none_str (fin_bl I q (by simp))
    | _ => exact absurd (show false = true from hs) Bool.false_ne_true
  | bl i =>
    cases rx
    cases y with
    | non => cases ry; exact PySem.EqNone.eq_bool_none (fin_bl I q (by simp))
    | bl j => cases ry; exact eq_bool (fin_bl I q dec_bl)
    | str j => obtain ⟨t', rfl⟩ := ry; exact PySem.EqMixed.eq_bool_str (fin_bl I q (by simp))
    | _ => exact absurd (show false = true from hs) Bool.false_ne_true
  | int i =>
    obtain ⟨t, rfl⟩ := rx
    cases y with
    | non => cases ry; exact PySem.EqNone.eq_int_none (fin_bl I q (by simp))
    | int j => obtain ⟨t', rfl⟩ := ry; exact eq_int (fin_bl I q dec_int)
    | str j => obtain ⟨t', rfl⟩ := ry; exact PySem.EqMixed.eq_int_str (fin_bl I q (by simp))
    | _ => exact absurd (show false = true from hs) Bool.false_ne_true
  | str i =>
    obtain ⟨t, rfl⟩ := rx
    cases y with
    | non => cases ry; exact PySem.EqNone.eq_str_none (fin_bl I q (by simp))
    | bl j => cases ry; exact PySem.EqMixed.eq_str_bool (fin_bl I q (by simp))
    | int j => obtain ⟨t', rfl⟩ := ry; exact PySem.EqMixed.eq_str_int (fin_bl I q (by simp))
    | str j => obtain ⟨t', rfl⟩ := ry; exact eq_str (fin_bl I q dec_str)
    | _ => exact absurd (show false = true from hs) Bool.false_ne_true
  | byt i =>
    obtain ⟨t, rfl⟩ := rx
    cases y with
    | byt j => obtain ⟨t', rfl⟩ := ry; exact PySem.W.eq_bytes (fin_bl I q dec_byt)
    | _ => exact absurd (show false = true from hs) Bool.false_ne_true
  | _ => cases y <;> exact absurd (show false = true from hs) Bool.false_ne_true
theorem op_ne : OpR X (compareOp .NotEq) rNe := by
  intro pins s σ H x y v u Q I rx ry h
  obtain ⟨hs, q⟩ := h
  cases x with
  | non =>
    cases rx
    cases y with
    | non => cases ry; exact PySem.EqNone.ne_none_none (fin_bl I q (by simp))
    | bl j => cases ry; exact PySem.EqNone.ne_none_bool (fin_bl I q (by simp))
    | int j => obtain ⟨t', rfl⟩ := ry; exact PySem.EqNone.ne_none_int (fin_bl I q (by simp))
    | str j => obtain ⟨t', rfl⟩ := ry; exact PySem.EqNone.ne_none_str (fin_bl I q (by simp))
    | _ => exact absurd (show false = true from hs) Bool.false_ne_true
  | bl i =>
    cases rx
    cases y with
    | non => cases ry; exact PySem.EqNone.ne_bool_none (fin_bl I q (by simp))
    | bl j => cases ry; exact ne_bool (fin_bl I q (congrArg not dec_bl))
    | str j => obtain ⟨t', rfl⟩ := ry; exact PySem.EqMixed.ne_bool_str (fin_bl I q (by simp))
    | _ => exact absurd (show false = true from hs) Bool.false_ne_true
  | int i =>
    obtain ⟨t, rfl⟩ := rx
    cases y with
    | non => cases ry; exact PySem.EqNone.ne_int_none (fin_bl I q (by simp))
    | int j => obtain ⟨t', rfl⟩ := ry; exact ne_int (fin_bl I q (congrArg not dec_int))
    | str j => obtain ⟨t', rfl⟩ := ry; exact PySem.EqMixed.ne_int_str (fin_bl I q (by simp))
    | _ => exact absurd (show false = true from hs) Bool.false_ne_true
  | str i =>
    obtain ⟨t, rfl⟩ := rx
    cases y with
    | non => cases ry; exact PySem.EqNone.ne_str_none (fin_bl I q (by simp))
    | bl j => cases ry; exact PySem.EqMixed.ne_str_bool (fin_bl I q (by simp))
    | int j => obtain ⟨t', rfl⟩ := ry; exact PySem.EqMixed.ne_str_int (fin_bl I q (by simp))
    | str j => obtain ⟨t', rfl⟩ := ry; exact ne_str (fin_bl I q (congrArg not dec_str))
    | _ => exact absurd (show false = true from hs) Bool.false_ne_true
  | byt i =>
    obtain ⟨t, rfl⟩ := rx
    cases y with
    | byt j => obtain ⟨t', rfl⟩ := ry; exact PySem.W.ne_bytes (fin_bl I q (congrArg not dec_byt))
    | _ => exact absurd (show false = true from hs) Bool.false_ne_true
  | _ => cases y <;> exact absurd (show false = true from hs) Bool.false_ne_true

theorem op_lt : OpR X (compareOp .Lt) (rI0 fun i j => .bl (decide (i < j))) := opB0 fun _ _ _ _ _ _ _ q => lt_int q
theorem op_le : OpR X (compareOp .LtE) (rI0 fun i j => .bl (decide (i ≤ j))) := opB0 fun _ _ _ _ _ _ _ q => le_int q
/-- is None, is not None: the right side a value none -/
theorem op_isN : OpR X (compareOp .Is) (fun x y H Q => y = .non ∧ Q (.bl (decide (x = .non))) H) := by
  intro pins s σ H x y v u Q I rx ry h
  obtain ⟨rfl, q⟩ := h
  cases ry
  refine is_none_gen (fin_bl I q ?_)
  cases x <;> first
    | (cases rx; rfl)
    | (obtain ⟨t, rfl⟩ := rx; rfl)
theorem op_notN : OpR X (compareOp .IsNot) (fun x y H Q => y = .non ∧ Q (.bl (!decide (x = .non))) H) := by
  intro pins s σ H x y v u Q I rx ry h
  obtain ⟨rfl, q⟩ := h
  cases ry
  refine isnot_none_gen (fin_bl I q ?_)
  cases x <;> first
    | (cases rx; rfl)
    | (obtain ⟨t, rfl⟩ := rx; rfl)

theorem op_notin_str : OpR X (compareOp .NotIn) (fun x y H Q => ∃ i j, x = .str i ∧ y = .str j ∧ Q (.bl (!(!(Builtin.Str.occurrences j i 0 j.length 1).isEmpty))) H) := by
  intro pins s σ H x y v u Q I rx ry h
  obtain ⟨i, j, rfl, rfl, q⟩ := h
  obtain ⟨t, rfl⟩ := rx
  obtain ⟨t', rfl⟩ := ry
  exact notIn_str (fin_bl I q rfl)
/-- is, is not of two objects that are tracked lists or instances -/
def isObj : HO → Bool
  | .lst _ => true
  | .ins _ _ _ => true
  | _ => false
theorem nomark (b : Expr) {op : CmpOp} (h : op ≠ .In := by decide) (h2 : op ≠ .NotIn := by decide) : behindInMarks op b = false := by
  have e1 : (op == CmpOp.In) = false := by cases op <;> first | rfl | exact absurd rfl h
  have e2 : (op == CmpOp.NotIn) = false := by cases op <;> first | rfl | exact absurd rfl h2
  cases b <;> simp [behindInMarks, e1, e2]
/-- a comparison as a value; hm: nomark b, or (for in, not in) by with_unfolding_all rfl -/
theorem pe_cmpR {op : CmpOp} {r : R2} (ho : OpR X (compareOp op) r) (ha : PE X a ta) (hb : PE X b tb) (hm : behindInMarks op b = false) : PE X (.Compare a [op] [b] pos) (tOp r ta tb) := by
  intro pins s σ H Q I h
  exact wpAny_Compare1 (binT ha hb I h fun v u s2 x y H2 I2 rx ry q => ho pins s2 σ H2 x y v u Q I2 rx ry q) hm
/-- a reading of a value as a test -/
def tTest (t : TE) : TT := fun σ H Q => t σ H fun x H' => ∃ k, x = .bl k ∧ Q k H'
theorem pt_cmpR {op : CmpOp} {r : R2} (ho : OpR X (compareOp op) r) (ha : PE X a ta) (hb : PE X b tb) (hm : behindInMarks op b = false) : PT X (.Compare a [op] [b] pos) (tTest (tOp r ta tb)) := by
  intro pins s σ H Q I h
  refine wpAny_isTrue_Compare1 (thn (ha pins s σ H _ I h) fun v s1 ⟨x, H1, I1, r1, q1⟩ => thn (hb pins s1 σ H1 _ I1 q1) fun u s2 ⟨y, H2, I2, r2, q2⟩ =>
    thn (ho pins s2 σ H2 x y v u _ I2 r1 r2 q2) fun c s3 ⟨z, H3, I3, r3, k, e, q3⟩ => ?_) hm
  subst e
  cases r3
  exact wpAny_truthy_bool ⟨H3, I3, q3⟩
/-- a op1 b op2 c -/
def tChain (r r' : R2) (ta tb tc : TE) : TE := fun σ H Q => ta σ H fun x H1 => tb σ H1 fun y H2 => r x y H2 fun z H3 => ∃ k, z = .bl k ∧
  (if k = true then tc σ H3 fun w' H4 => r' y w' H4 Q else Q (.bl false) H3)
theorem pe_chain {op op' : CmpOp} {r r' : R2} (ho : OpR X (compareOp op) r) (ho' : OpR X (compareOp op') r') (ha : PE X a ta) (hb : PE X b tb) (hc : PE X c tc)
    (hm : lastMarks [op, op'] [b, c] = false := by with_unfolding_all rfl) : PE X (.Compare a [op, op'] [b, c] pos) (tChain r r' ta tb tc) := by
  intro pins s σ H Q I h
  refine Compare_chain (thn (ha pins s σ H _ I h) fun v s1 ⟨x, H1, I1, r1, q1⟩ => chain_link (thn (hb pins s1 σ H1 _ I1 q1) fun u s2 ⟨y, H2, I2, r2, q2⟩ =>
    thn (ho pins s2 σ H2 x y v u _ I2 r1 r2 q2) fun d s3 ⟨z, H3, I3, r3, k, e, q3⟩ => ?_)) hm
  subst e
  cases r3
  refine wpAny_truthy_bool ?_
  cases k with
  | false => exact ite_ff ⟨.bl false, H3, I3, rfl, q3⟩
  | true => exact ite_tt (chain_last (thn (hc pins s3 σ H3 _ I3 q3) fun w' s4 ⟨z', H4, I4, r4, q4⟩ => ho' pins s4 σ H4 y z' u w' Q I4 r2 r4 q4))
/-! ### truth -/
/-- a value's truth by the abstract heap -/
def TruV (K : PySem.W.Frag) (x : V) (H : Hp) (k : Bool) : Prop :=
  match x with
  | .non => k = false
  | .bl b => k = b
  | .int i => k = (i != 0)
  | .str y => y.length ≤ sizeLine ∧ k = ((y.length : Int) != 0)
  | .byt y => y.size ≤ sizeLine ∧ k = ((y.size : Int) != 0)
  | .ref p => (∃ xs, SqL K H p xs ∧ k = !xs.isEmpty) ∨ (∃ xs, SqT K H p xs ∧ k = !xs.isEmpty) ∨ ∃ kvs, H p = some (.dK kvs) ∧ k = !kvs.isEmpty
  | _ => False
theorem line63 : (sizeLine : Nat) < 2 ^ 63 := by rw [sizeLine_eq]; decide
/-! ### strs and bytes -/
theorem op_add_str : OpR X (binaryOp .Add) (fun x y H Q => ∃ i j, x = .str i ∧ y = .str j ∧ i.length + j.length ≤ sizeLine ∧ Q (.str (i ++ j)) H) := by
  intro pins s σ H x y v u Q I rx ry h
  obtain ⟨i, j, rfl, rfl, hz, q⟩ := h
  obtain ⟨t, rfl⟩ := rx
  obtain ⟨t', rfl⟩ := ry
  exact add_str (fun t' tk => ⟨.str (i ++ j), H, I.tok _, ⟨_, rfl⟩, q⟩) hz
def PlainIxT (b : Expr) : Prop := ∀ o i, subscripted b false o i = operate [o, i] (getItem o i)
/-! ### scalar builtins, by CallR -/
theorem vals1 {x : V} {us : List Value} (r : Vals [x] us) : ∃ u, us = [u] ∧ RelV x u := by
  cases r with
  | cons r1 r2 => cases r2; exact ⟨_, rfl, r1⟩
theorem vals2 {x y : V} {us : List Value} (r : Vals [x, y] us) : ∃ u w', us = [u, w'] ∧ RelV x u ∧ RelV y w' := by
  cases r with
  | cons r1 r2 =>
    cases r2 with
    | cons r3 r4 => cases r4; exact ⟨_, _, rfl, r1, r3⟩
/-- len of a str, a bytes, a list, a tuple -/
def LenV (K : PySem.W.Frag) (x : V) (H : Hp) (n : Nat) : Prop :=
  match x with
  | .str y => y.length ≤ sizeLine ∧ n = y.length
  | .byt y => y.size ≤ sizeLine ∧ n = y.size
  | .ref p => (∃ xs, SqL K H p xs ∧ n = xs.length) ∨ ∃ xs, SqT K H p xs ∧ n = xs.length
  | _ => False
end
end L2

namespace L2
open PySem PySem.Spec PyProof.Rows

/-! ### an instance, its attributes a map -/
structure ObjM (h : Heap) (x dx C : Addr) (mA : Str → Option Value) : Prop where
  obj : h.get? x = some (PySem.W.instObj C dx)
  ns : h.Ns1 dx mA
  ne : dx ≠ x

theorem lookIn_ns {h : Heap} {dx : Addr} {mA : Str → Option Value} (n : h.Ns1 dx mA) : ∃ od, h.get? dx = some od ∧ ∀ name, PySem.W.lookIn name od = some (mA name) := by
  obtain ⟨o, es, ep, ho, hd, hk, _, hm⟩ := n
  refine ⟨o, ho, fun name => ?_⟩
  have e := hm name
  unfold nsFind findBy at e
  rw [← Array.find?_toList] at e
  unfold PySem.W.lookIn
  rw [hd]
  dsimp only
  split
  · rename_i y q
    rw [q] at e
    exact congrArg some e
  · rename_i q
    rw [q] at e
    have a : es.toList.any (·.refKey) = false := by
      rw [List.any_eq_false]
      intro y hy
      obtain ⟨z, t, hkey⟩ := hk y (Array.mem_toList_iff.mp hy)
      simp [DictEntry.refKey, hkey]
    have a' : ¬ es.toList.any (·.refKey) = true := by rw [a]; exact Bool.false_ne_true
    rw [if_neg a']
    exact congrArg some e

theorem ObjM.look {h : Heap} {x dx C : Addr} {mA : Str → Option Value} (I : ObjM h x dx C mA) : ∃ od, PySem.W.InstAt h x (PySem.W.instObj C dx) C (some od) ∧ ∀ name, PySem.W.lookIn name od = some (mA name) :=
  let ⟨od, ho, hl⟩ := lookIn_ns I.ns
  ⟨od, ⟨I.obj, rfl, rfl, ho⟩, hl⟩

section
variable {prog : Program} {w : World} {A : Around} {E : Value → Shared → Prop} {s : Shared} {K : PySem.W.Frag} {x dx C f : Addr} {mA : Str → Option Value} {name : Str} {v : Value}

end

/-! ### the attributes as a list of pairs -/
def putF (f : Str) (v : V) : List (Str × V) → List (Str × V)
  | [] => [(f, v)]
  | (g, x) :: r => if g = f then (g, v) :: r else (g, x) :: putF f v r
theorem RelO.some_of {v : V} {o : Option Value} (r : RelO (some v) o) : ∃ u, o = some u ∧ RelV v u := by
  cases o with
  | none => exact (show False from r).elim
  | some u => exact ⟨u, rfl, r⟩
theorem RelO.none_of {o : Option Value} (r : RelO none o) : o = none := by
  cases o with
  | none => rfl
  | some u => exact (show False from r).elim
section
variable {P : Program} {w : World} {H H' : Hp} {h h' : Heap} {a C dx : Addr} {fs fs' : List (Str × V)}
theorem ins_get (hok : HOk P w H h) (e : H a = some (.ins C dx fs)) : ∃ mA, ObjM h a dx C mA ∧ (∀ f, RelO (fs.lookup f) (mA f)) ∧ PySem.Within mA (fs.map (·.1)) ∧ fs.length ≤ 1000 ∧ H dx = some (.own a) := by
  obtain ⟨d, z, ne, ob, mA, n, r, q⟩ := (show ObjOk P w H h a (.ins C dx fs) from hok a _ e)
  exact ⟨mA, ⟨ob, n, ne⟩, r, q, z, d⟩
end

/-! ### what of the text a class must have -/
structure Cls (K : PySem.W.Frag) (C : Addr) : Prop where
  pg : PySem.W.plainGet K C Str.empty = true
  hd : PySem.W.hasDictIn K C = true
  po : PySem.W.plainOver K C = true
  sa : PySem.W.findIn K (.ref C) "__setattr__" = some (some (.builtin "object.__setattr__"))
theorem Cls.get {K : PySem.W.Frag} {C : Addr} (c : Cls K C) (f : Str) : PySem.W.plainGet K C f = true := c.pg
/-- no class of it has the name -/
def NoAttr (K : PySem.W.Frag) (C : Addr) (f : Str) : Prop := PySem.W.findIn K (.ref C) f = some none
/-- a constant of the class -/
structure Con (K : PySem.W.Frag) (C : Addr) (f : Str) (v : V) (u : Value) : Prop where
  at_ : PySem.W.findIn K (.ref C) f = some (some u)
  rel : RelV v u
  get : PySem.W.specialIn K u "__get__" = some none
  cp : PySem.W.copiedNames.contains f = false
/-- a method: a plain def of the class or of one above it -/
structure Meth (K : PySem.W.Frag) (C : Addr) (m : Str) (f : Addr) : Prop where
  at_ : PySem.W.findIn K (.ref C) m = some (some (.ref f))
  fn : PySem.W.isFn K (.ref f) = true
  kp : PySem.W.keepIn K (.ref f) = true

section
variable {X : Cx} {pins : List (Addr × Obj)} {σ : St} {H : Hp} {s : Shared} {a C dx : Addr} {fs : List (Str × V)} {f : Str} {v : V} {A : Around} {E : Value → Shared → Prop}

end

/-! ### readings and rules -/
/-- e.f, an attribute of the instance -/
def tFld (K : PySem.W.Frag) (ta : TE) (f : Str) : TE := fun σ H Q => ta σ H fun x H1 => ∃ a C dx fs v, x = .ref a ∧ H1 a = some (.ins C dx fs) ∧ Cls K C ∧ NoAttr K C f ∧ fs.lookup f = some v ∧ Q v H1
/-- e.f, a constant of the class -/
def tCon (K : PySem.W.Frag) (ta : TE) (f : Str) : TE := fun σ H Q => ta σ H fun x H1 => ∃ a C dx fs v u, x = .ref a ∧ H1 a = some (.ins C dx fs) ∧ Cls K C ∧ Con K C f v u ∧ fs.lookup f = none ∧ Q v H1
/-- e.f = value -/
def sFld (K : PySem.W.Frag) (ta tv : TE) (f : Str) : TS := fun D σ H => tv σ H fun y H1 => ta σ H1 fun x H2 => ∃ a C dx fs, x = .ref a ∧ H2 a = some (.ins C dx fs) ∧ Cls K C ∧ NoAttr K C f ∧ fs.length < 1000 ∧
  D.nx σ (upd H2 a (.ins C dx (putF f y fs)))
/-- an augmented operator on two values -/
def InOp (X : Cx) (op : Operator) (rd : V → V → Hp → VK → Prop) : Prop :=
  ∀ (pins : List (Addr × Obj)) (s : Shared) (σ : St) (H : Hp) (x y : V) (u v : Value) (Q : VK), Inv X pins σ H s → RelV x u → RelV y v → rd x y H Q → wpAny (model X.prog X.w) X.A (inplaceOp op u v) (EP X pins σ Q) X.xe s
/-- e.f op= value -/
def sFldAug (K : PySem.W.Frag) (ta tv : TE) (rd : V → V → Hp → VK → Prop) (f : Str) : TS := fun D σ H => ta σ H fun x H1 => ∃ a C dx fs v, x = .ref a ∧ H1 a = some (.ins C dx fs) ∧ Cls K C ∧ NoAttr K C f ∧ fs.lookup f = some v ∧
  tv σ H1 fun y H2 => rd v y H2 fun z H3 => ∃ dx' fs', H3 a = some (.ins C dx' fs') ∧ fs'.length < 1000 ∧ D.nx σ (upd H3 a (.ins C dx' (putF f z fs')))

section
variable {X : Cx} {o e value : Expr} {f : Str} {pos pos' tpos : Pos} {ta tv : TE}
def rAdd : V → V → Hp → VK → Prop := fun x y H Q => ∃ i j, x = .int i ∧ y = .int j ∧ Q (.int (i + j)) H
def rSub : V → V → Hp → VK → Prop := fun x y H Q => ∃ i j, x = .int i ∧ y = .int j ∧ Q (.int (i - j)) H
end

/-! ### isinstance -/
section
variable {X : Cx} {pins : List (Addr × Obj)} {σ : St} {H : Hp} {s : Shared} {A : Around} {E : Value → Shared → Prop} {Q : Value → Shared → Prop} {c : Value} {b : Bool}
/-- the type of a value, as the fragment's deciders take it; for an instance its class -/
inductive TyOf (K : PySem.W.Frag) (H : Hp) : V → Value → Prop where
  | non : TyOf K H .non (.type "NoneType")
  | bl (x : Bool) : TyOf K H (.bl x) (.type "bool")
  | int (i : Int) : TyOf K H (.int i) (.type "int")
  | str (x : Str) : TyOf K H (.str x) (.type "str")
  | flt (x : UInt64) : TyOf K H (.flt x) (.type "float")
  | lst {a : Addr} {xs : List V} (e : H a = some (.lst xs)) : TyOf K H (.ref a) (.type "list")
  | frz {a : Addr} {o : Obj} {xs : List V} (e : H a = some (.frz o (.lst xs))) : TyOf K H (.ref a) (.type "list")
  | tup {a : Addr} {xs : List V} (e : H a = some (.tup xs)) : TyOf K H (.ref a) (.type "tuple")
  | dK {a : Addr} {kvs : List (Key × V)} (e : H a = some (.dK kvs)) : TyOf K H (.ref a) (.type "dict")
  | dT {a : Addr} {kvs : List (List Key × V)} (e : H a = some (.dT kvs)) : TyOf K H (.ref a) (.type "dict")
  | ins {a C dx : Addr} {fs : List (Str × V)} (e : H a = some (.ins C dx fs)) (cl : Cls K C) (ha : PySem.W.findIn K (.ref C) "__class__" = some (some (.builtin "object.__class__")))
      (hn : PySem.W.specialIn K (.builtin "object.__class__") "__get__" = some (some (.builtin "getset_descriptor.__get__"))) (htk : PySem.W.takesIn K (.builtin "object.__class__") = some true)
      (hm : PySem.W.mroIn K C (.type "object") = some true) : TyOf K H (.ref a) (.ref C)
/-- isinstance(x, c) for one class c, a built-in or an own one: kitOne's answer -/
theorem isinst_ok {x : V} {u t : Value} (I : Inv X pins σ H s) (rx : RelV x u) (ty : TyOf X.K H x t) (e : PySem.W.kitOne X.K t c = some b) (h : ∀ tk, Q (.bool b) { s with toks := tk }) :
    wpAny (model X.prog X.w) A (call (.builtin "isinstance") [u, c]) Q E s := by
  cases ty with
  | non => cases (show u = Value.none from rx); exact PySem.W.kia_one PySem.W.kitx_none I.kIn True.intro e (fun z => nomatch z) h
  | bl y => cases (show u = Value.bool y from rx); exact PySem.W.kia_one PySem.W.kitx_bool I.kIn True.intro e (fun z => nomatch z) h
  | int i => obtain ⟨t, q⟩ := (show ∃ t, u = Value.int i t from rx); cases q; exact PySem.W.kia_one PySem.W.kitx_int I.kIn True.intro e (fun z => nomatch z) h
  | str y => obtain ⟨t, q⟩ := (show ∃ t, u = Value.str y t from rx); cases q; exact PySem.W.kia_one PySem.W.kitx_str I.kIn True.intro e (fun z => nomatch z) h
  | flt y => obtain ⟨t, q⟩ := (show ∃ t, u = Value.float y t from rx); cases q; exact PySem.W.kia_one PySem.W.kitx_float I.kIn True.intro e (fun z => nomatch z) h
  | @lst a xs ea =>
    cases (show u = Value.ref a from rx)
    obtain ⟨_, _, n, _, h1⟩ := (show ObjOk X.prog X.w H s.heap a (.lst xs) from I.hok a _ ea)
    exact PySem.W.kia_one PySem.W.kitx_list I.kIn ⟨_, h1, rfl⟩ e (fun z => nomatch z) h
  | @frz a ob xs ea =>
    cases (show u = Value.ref a from rx)
    obtain ⟨_, _, _, n, _, h1⟩ := (show ObjOk X.prog X.w H s.heap a (.frz ob (.lst xs)) from I.hok a _ ea)
    exact PySem.W.kia_one PySem.W.kitx_list I.kIn ⟨_, h1, rfl⟩ e (fun z => nomatch z) h
  | @tup a xs ea =>
    cases (show u = Value.ref a from rx)
    obtain ⟨_, _, _, p⟩ := (show ObjOk X.prog X.w H s.heap a (.tup xs) from I.hok a _ ea)
    obtain ⟨o, h1, h2, _⟩ := p
    exact PySem.W.kia_one PySem.W.kitx_tuple I.kIn ⟨o, h1, h2⟩ e (fun z => nomatch z) h
  | @dK a kvs ea =>
    cases (show u = Value.ref a from rx)
    obtain ⟨_, _, vs, _, p⟩ := (show ObjOk X.prog X.w H s.heap a (.dK kvs) from I.hok a _ ea)
    obtain ⟨o, es, ep, h1, h2, _⟩ := p
    exact PySem.W.kia_one PySem.W.kitx_dict I.kIn ⟨o, h1, h2.1⟩ e (fun z => nomatch z) h
  | @dT a kvs ea =>
    cases (show u = Value.ref a from rx)
    obtain ⟨_, _, xs, _, o, es, ep, h1, h2, _⟩ := (show ObjOk X.prog X.w H s.heap a (.dT kvs) from I.hok a _ ea)
    exact PySem.W.kia_one PySem.W.kitx_dict I.kIn ⟨o, h1, h2.1⟩ e (fun z => nomatch z) h
  | @ins a C dx fs ea cl ha hn htk hm =>
    cases (show u = Value.ref a from rx)
    obtain ⟨mA, O, _⟩ := ins_get I.hok ea
    obtain ⟨od, J, _⟩ := O.look
    exact PySem.W.kia_one (PySem.W.kitx_own (cl.get _) cl.hd ha hn htk hm) I.kIn J e (fun z => nomatch z) h
end
end L2

namespace L2
open PySem PySem.Spec PyProof.Rows

/-! ### room -/
structure Room (k : Nat) (A : Around) : Prop where
  hd : A.handled = none
  dp : A.depth + 3 * k + 5 < recursionLimit
  un : A.units + 16 * k + 200 < cLine
theorem Room.mono {j k : Nat} {A : Around} (r : Room k A) (h : j ≤ k) : Room j A := ⟨r.hd, by have := r.dp; omega, by have := r.un; omega⟩
theorem Room.deeper {k : Nat} {A : Around} (r : Room (k + 1) A) (env : Env) : Room k (A.deeper env) :=
  ⟨r.hd, by have := r.dp; show A.depth + 1 + 3 * k + 5 < _; omega, by have := r.un; show A.units + 3 + 16 * k + 200 < _; omega⟩
theorem Room.depth {k : Nat} {A : Around} (r : Room k A) : A.depth < recursionLimit := by have := r.dp; omega
theorem Room.units {k : Nat} {A : Around} (r : Room k A) : A.units + 64 < cLine := by have := r.un; omega
theorem Room.units0 {k : Nat} {A : Around} (r : Room k A) : A.units < cLine := by have := r.un; omega

/-! ### argument lists and displays -/
def tNil : TA := fun _ H Q => Q [] H
def tCons (ta : TE) (tr : TA) : TA := fun σ H Q => ta σ H fun x H1 => tr σ H1 fun xs H2 => Q (x :: xs) H2
section
variable {X : Cx} {e : Expr} {es : List Expr} {te : TE} {t : TA} {pos : Pos}
theorem pa_nil : PA X [] tNil := fun _ _ _ _ H Q I h => Calls.spliced_nil ⟨[], H, I, .nil, h⟩
theorem pa_cons (ha : PE X e te) (hr : PA X es t) (hs : starEach (e :: es) X.env = (false, eval e X.env) :: starEach es X.env := by rfl) : PA X (e :: es) (tCons te t) := by
  intro pos pins s σ H Q I h
  rw [hs]
  show wpAny _ _ (spliced ((false, eval e X.env) :: backTo pos (starEach es X.env))) _ _ s
  refine Calls.spliced_cons (thn (ha pins s σ H _ I h) fun u s1 ⟨x, H1, I1, r1, q1⟩ => ?_)
  exact thn (hr pos pins s1 σ H1 _ I1 q1) fun us s2 ⟨xs, H2, I2, r2, q2⟩ => ⟨x :: xs, H2, I2, .cons r1 r2, q2⟩

/-- a tuple, a list of written items -/
def tTup (t : TA) : TE := fun σ H Q => t σ H fun xs H1 => xs.length ≤ sizeLine ∧ ∀ p, H1 p = none → Q (.ref p) (upd H1 p (.tup xs))
def tLst (t : TA) : TE := fun σ H Q => t σ H fun xs H1 => xs.length ≤ sizeLine ∧ ∀ p, H1 p = none → Q (.ref p) (upd H1 p (.lst xs))
theorem pe_tup {x1} (h : PA X es t) : PE X (.Tuple es x1 pos) (tTup t) := by
  intro pins s σ H Q I hq
  refine wpAny_Tuple_spliced (thn (h pos pins s σ H _ I hq) fun us s1 ⟨xs, H1, I1, r, z, q⟩ => ⟨by rw [← r.length]; exact z, ?_⟩)
  have hf : H1 s1.heap.objs.size = none := I1.hok.fresh (Nat.le_refl _)
  refine ⟨.ref s1.heap.objs.size, upd H1 s1.heap.objs.size (.tup xs), I1.laid (t' := s1.toks) (fun b u e => Heap.get?_push_of_some _ e) (Nat.le_refl _) ?_, rfl, q _ hf⟩
  exact ⟨z, us, r, ⟨_, Heap.get?_push_size _ rfl, rfl, _, rfl⟩⟩
theorem pe_lst (h : PA X es t) : PE X (.List es pos) (tLst t) := by
  intro pins s σ H Q I hq
  refine wpAny_List_spliced (thn (h pos pins s σ H _ I hq) fun us s1 ⟨xs, H1, I1, r, z, q⟩ => ⟨by rw [← r.length]; exact z, ?_⟩)
  have hf : H1 s1.heap.objs.size = none := I1.hok.fresh (Nat.le_refl _)
  refine ⟨.ref s1.heap.objs.size, upd H1 s1.heap.objs.size (.lst xs), I1.laid (t' := s1.toks) (fun b u e => Heap.get?_push_of_some _ e) (Nat.le_refl _) ?_, rfl, q _ hf⟩
  exact ⟨z, us, 0, r, Heap.get?_push_size _ rfl⟩
end

/-! ### what a def promises -/
/-- a def's promise: the bound arguments in the parameters' order, the heap, the wanted end, the wanted exception -/
abbrev Sp := List V → Hp → VK → XK → Prop
/-- how an exception lies behind a call (file 08 gives it): the callers' frames, abstract heap and state ahead of the call, the wish, the exception, the state -/
abbrev CXT := List Env → Hp → Shared → XK → Value → Shared → Prop

/-- the state at a call -/
structure Env0 (P : Program) (w : World) (K : PySem.W.Frag) (mg : Str → Option Value) (base : Heap) (A : Around) (outer : List Env) (s : Shared) (H : Hp) : Prop where
  frames : A.frames = some outer
  mod : Mod K mg base
  bs : ∀ b o, base.get? b = some o → s.heap.get? b = some o ∧ H b = none
  bsz : base.objs.size ≤ s.heap.objs.size
  funs : s.heap.FunFrames base outer
  frf : ∀ b ∈ frs outer, H b = none
  hok : HOk P w H s.heap
  bare : AllBare s.gens
/-- a call's end -/
def CE (outer : List Env) (P : Program) (w : World) (H : Hp) (s : Shared) (Q : VK) (u : Value) (s' : Shared) : Prop :=
  ∃ v H', s'.os = s.os ∧ AllBare s'.gens ∧ Un (frs outer) [] H H' s.heap s'.heap ∧ HOk P w H' s'.heap ∧ RelV v u ∧ Q v H'
def CR (CX : CXT) (outer : List Env) (P : Program) (w : World) (H : Hp) (s : Shared) (Q : VK) (E : XK) (r : Result) (s' : Shared) : Prop :=
  match r with
  | .ok (.ret u) => CE outer P w H s Q u s'
  | .ok _ => False
  | .error e => CX outer H s E e s'
structure FnOk (P : Program) (w : World) (K : PySem.W.Frag) (mg : Str → Option Value) (base : Heap) (CX : CXT) (k : Nat) (f : Addr) (fd : FuncData) (ps : List Str) (sp : Sp) : Prop where
  len : ∀ vs H Q E, sp vs H Q E → vs.length = ps.length
  run : ∀ (A : Around) (outer : List Env) (s : Shared) (H : Hp) (args : Args) (us : List Value) (vs : List V) (Q : VK) (E : XK), Room k A → Env0 P w K mg base A outer s H → BindsTo s fd args (ps.zip us) → Vals vs us → sp vs H Q E →
    codeAny (model P w) A (.call (.ref f) args) (CR CX outer P w H s Q E) s
section
variable {X : Cx} {pins : List (Addr × Obj)} {σ : St} {H : Hp} {s s' : Shared}
/-- from a body: what a callee wants -/
theorem Inv.env0 (I : Inv X pins σ H s) : Env0 X.prog X.w X.K X.mg X.base X.A X.stack s H :=
  ⟨I.ok.frames, I.ok.mod, I.bs, Nat.le_trans I.ok.bsz I.sz, I.stack, I.stkFree, I.hok, I.bare⟩
/-- behind a call -/
theorem Inv.after {Q : VK} {u : Value} (I : Inv X pins σ H s) (h : CE X.stack X.prog X.w H s Q u s') : EP X pins σ Q u s' := by
  obtain ⟨v, H', os, bare, un, hok, r, q⟩ := h
  obtain ⟨hh, g, d, t, os'⟩ := s'
  obtain rfl : os' = s.os := os
  exact ⟨v, H', I.call (h' := hh) (g' := g) (d' := d) (t' := t) (ch := []) un hok bare (fun b z => absurd z (by simp)), r, q⟩
end

/-! ### calls -/
/-- f(..): the written arguments, then the defaults dvs; E: what is wanted of an exception -/
def tCall (sp : Sp) (dvs : List V) (E : XK) (t : TA) : TE := fun σ H Q => t σ H fun vs H1 => sp (vs ++ dvs) H1 Q E
/-- o.m(..) of an instance of the class at C -/
def tMeth (C : Addr) (m : Str) (sp : Sp) (dvs : List V) (E : XK) (ta : TE) (t : TA) : TE := fun σ H Q => ta σ H fun x H1 => ∃ a dx fs, x = .ref a ∧ H1 a = some (.ins C dx fs) ∧ fs.lookup m = none ∧
  t σ H1 fun vs H2 => sp (x :: (vs ++ dvs)) H2 Q E
/-- C(..): a new instance and its dict, then __init__ -/
def tMake (C : Addr) (sp : Sp) (dvs : List V) (E : XK) (t : TA) : TE := fun σ H Q => t σ H fun vs H1 => ∀ x dx, H1 x = none → H1 dx = none → dx ≠ x →
  sp (.ref x :: (vs ++ dvs)) (upd (upd H1 dx (.own x)) x (.ins C dx [])) (fun v H2 => v = .non ∧ Q (.ref x) H2) E

/-- how the parameters are bound: us the positional arguments, kw the keywords' values by name, ds the defaults that fill up -/
def Binds (K : PySem.W.Frag) (fd : FuncData) (ps : List Str) (ds : List Value) : Prop :=
  ∀ (s : Shared) (us : List Value), K.In s.heap → (us ++ ds).length = ps.length → BindsTo s fd ⟨us, []⟩ (ps.zip (us ++ ds))
/-- every parameter is given -/
theorem Binds.all {K : PySem.W.Frag} {fd : FuncData} {ps : List Str} (h : ∀ us : List Value, us.length = ps.length → bindArgs fd ⟨us, []⟩ = pure (ps.zip us)) : Binds K fd ps [] := fun s us _ hl => by
  rw [List.append_nil] at hl ⊢
  exact .of_eq (h us hl)

/-- an exception of a callee reaches what this body wants of exceptions -/
def Passes (CX : CXT) (X : Cx) (E : XK) : Prop := ∀ (pins : List (Addr × Obj)) (σ : St) (H : Hp) (s : Shared) (e : Value) (s' : Shared), Inv X pins σ H s → CX X.stack H s E e s' → X.xe e s'

section
variable {X : Cx} {CX : CXT} {k : Nat} {f C : Addr} {fd : FuncData} {ps : List Str} {sp : Sp} {dvs : List V} {ds : List Value} {E : XK} {x m : Str} {p pos apos : Pos} {e o : Expr} {es : List Expr} {ta : TE} {t : TA}

/-- the callee runs -/
theorem run_fn {pins : List (Addr × Obj)} {σ : St} {H : Hp} {s : Shared} {Q : VK} {us : List Value} {vs : List V} (F : FnOk X.prog X.w X.K X.mg X.base CX k f fd ps sp) (hr : Room k X.A) (hb : Binds X.K fd ps ds) (hd : Vals dvs ds) (hx : Passes CX X E)
    (I : Inv X pins σ H s) (r : Vals vs us) (h : sp (vs ++ dvs) H Q E) : wpAny (model X.prog X.w) X.A (call (.ref f) us) (EP X pins σ Q) X.xe s := by
  have r2 : Vals (vs ++ dvs) (us ++ ds) := r.append hd
  have hl : (us ++ ds).length = ps.length := by rw [← r2.length]; exact F.len _ _ _ _ h
  refine wpAny_call (codeAny_mono (F.run X.A X.stack s H ⟨us, []⟩ (us ++ ds) (vs ++ dvs) Q E hr I.env0 (hb s us I.kIn hl) r2 h) fun r s' hq => ?_)
  cases r with
  | error e => exact hx pins σ H s e s' I hq
  | ok fl =>
    cases fl with
    | ret u => exact I.after hq
    | next => exact False.elim hq
    | brk => exact False.elim hq
    | cont => exact False.elim hq

theorem pe_call (F : FnOk X.prog X.w X.K X.mg X.base CX k f fd ps sp) (hr : Room k X.A) (hg : Gl X x) (hm : X.mg x = some (.ref f)) (hk : PySem.W.keepIn X.K (.ref f) = true) (hb : Binds X.K fd ps ds) (hd : Vals dvs ds) (hx : Passes CX X E)
    (ha : PA X (e :: es) t) (hdb : (x == ("__debug__" : Str)) = false := by decide) (he : starEach (e :: es) X.env = (false, eval e X.env) :: starEach es X.env := by rfl) (hpl : (backTo pos (starEach es X.env)).any (·.1) = false := by rfl) :
    PE X (.Call (.Name x p) (e :: es) [] pos) (tCall sp dvs E t) := by
  intro pins s σ H Q I h
  refine wpAny_Call_Name_kw (ld_glob I hg hm ?_ hdb)
  refine PySem.W.callWith_K (h₀ := X.base) I.ok.mod.kin hk (thn (ha pos pins s σ H _ I h) fun us s1 ⟨vs, H1, I1, r, q⟩ => ⟨I1.kIn, ?_⟩) he hpl
  exact run_fn F hr hb hd hx I1 r q
/-- what a class must have to be made -/
structure Mk (K : PySem.W.Frag) (C f : Addr) : Prop where
  makes : PySem.W.makesIn K C = true
  init : PySem.W.findIn K (.ref C) "__init__" = some (some (.ref f))
  fn : PySem.W.isFn K (.ref f) = true
  kp : PySem.W.keepIn K (.ref C) = true

end

/-! ### keywords -/
/-- the values of the keywords, from the left -/
def PK (X : Cx) (kws : List Keyword) (t : TA) : Prop :=
  ∀ (pos : Pos) (pins : List (Addr × Obj)) (s : Shared) (σ : St) (H : Hp) (Q : List V → Hp → Prop), Inv X pins σ H s → t σ H Q → wpAny (model X.prog X.w) X.A (evalAll ((backToKw pos (keywordEach kws X.env)).map (·.2))) (AP X pins σ Q) X.xe s
section
variable {X : Cx} {CX : CXT} {k : Nat} {f C : Addr} {fd : FuncData} {ps ks : List Str} {sp : Sp} {E : XK} {x m : Str} {p pos apos kpos : Pos} {e o : Expr} {es : List Expr} {kws : List Keyword} {te ta : TE} {t tk : TA} {nm : Option Str}
/-- how a call with keywords binds: g puts the positional values us and the keywords' values ws (names ks) in the parameters' order, defaults among them -/
structure KBinds (K : PySem.W.Frag) (fd : FuncData) (ps ks : List Str) (g : List Value → List Value → List Value) (gV : List V → List V → List V) : Prop where
  to : ∀ (s : Shared) (us ws : List Value), K.In s.heap → (g us ws).length = ps.length → BindsTo s fd ⟨us, ks.zip ws⟩ (ps.zip (g us ws))
  rel : ∀ {vs : List V} {us : List Value} {zs : List V} {ws : List Value}, Vals vs us → Vals zs ws → Vals (gV vs zs) (g us ws)
def tCallK (sp : Sp) (gV : List V → List V → List V) (E : XK) (t tk : TA) : TE := fun σ H Q => t σ H fun vs H1 => tk σ H1 fun zs H2 => sp (gV vs zs) H2 Q E
variable {g : List Value → List Value → List Value} {gV : List V → List V → List V}
end

/-! ### a def's body keeps its promise -/
/-- names: the parameters first -/
structure FnScope (N P : List Str) (sc : Scope) : Prop where
  kind : sc.kind = .function
  co : sc.isCoroutine = false
  gen : sc.isGenerator = false
  nd : N.Nodup
  pre : N.take P.length = P
  par : ∀ x ∈ P, sc.names.lookup x = some .local ∨ sc.names.lookup x = some .cell
  nofree : ∀ y ∈ sc.names, y.2 ≠ .free

theorem bindL_out {kindOf : Str → Option NameKind} {x : Str} : ∀ {binds : List (Str × Value)} {m : Str → Option Value}, (∀ v, (x, v) ∉ binds) → bindL kindOf binds m x = m x
  | [], _, _ => rfl
  | (n, v) :: r, m, h => by
    unfold bindL
    rw [bindL_out fun w hw => h w (List.mem_cons_of_mem _ hw)]
    split
    · have : x ≠ n := by rintro rfl; exact h v List.mem_cons_self
      simp [this]
    · rfl
theorem bindC_out {kindOf : Str → Option NameKind} {x : Str} : ∀ {binds : List (Str × Value)} {m : Str → Option Value}, (∀ v, (x, v) ∉ binds) → bindC kindOf binds m x = m x
  | [], _, _ => rfl
  | (n, v) :: r, m, h => by
    unfold bindC
    rw [bindC_out fun w hw => h w (List.mem_cons_of_mem _ hw)]
    split
    · rfl
    · have : x ≠ n := by rintro rfl; exact h v List.mem_cons_self
      simp [this]
theorem bindL_get {kindOf : Str → Option NameKind} {x : Str} {v : Value} : ∀ {P : List Str} {vs : List Value} {i : Nat} {m : Str → Option Value}, P.Nodup → P[i]? = some x → vs[i]? = some v → kindOf x = some .local →
    bindL kindOf (P.zip vs) m x = some v
  | [], _, _, _, _, h, _, _ => by simp at h
  | _ :: _, [], _, _, _, _, h, _ => by simp at h
  | p :: P, w :: vs, 0, m, nd, h1, h2, hk => by
    simp at h1 h2; subst h1; subst h2
    show bindL kindOf ((p, w) :: P.zip vs) m p = _
    unfold bindL
    rw [bindL_out fun v hv => (List.nodup_cons.mp nd).1 (List.of_mem_zip hv).1, if_pos hk]
    simp
  | p :: P, w :: vs, i + 1, m, nd, h1, h2, hk => by
    show bindL kindOf ((p, w) :: P.zip vs) m x = _
    unfold bindL
    exact bindL_get (i := i) (List.nodup_cons.mp nd).2 (by simpa using h1) (by simpa using h2) hk
theorem bindC_get {kindOf : Str → Option NameKind} {x : Str} {v : Value} : ∀ {P : List Str} {vs : List Value} {i : Nat} {m : Str → Option Value}, P.Nodup → P[i]? = some x → vs[i]? = some v → kindOf x ≠ some .local →
    bindC kindOf (P.zip vs) m x = some v
  | [], _, _, _, _, h, _, _ => by simp at h
  | _ :: _, [], _, _, _, _, h, _ => by simp at h
  | p :: P, w :: vs, 0, m, nd, h1, h2, hk => by
    simp at h1 h2; subst h1; subst h2
    show bindC kindOf ((p, w) :: P.zip vs) m p = _
    unfold bindC
    rw [bindC_out fun v hv => (List.nodup_cons.mp nd).1 (List.of_mem_zip hv).1, if_neg hk]
    simp
  | p :: P, w :: vs, i + 1, m, nd, h1, h2, hk => by
    show bindC kindOf ((p, w) :: P.zip vs) m x = _
    unfold bindC
    exact bindC_get (i := i) (List.nodup_cons.mp nd).2 (by simpa using h1) (by simpa using h2) hk

/-- the names' values at the entry -/
def start (N : List Str) (vs : List V) : St := vs.map some ++ List.replicate (N.length - vs.length) none

/-- the context of a def's body, at its entry; an exception leaves the frame, then lies as CX says -/
def cxOf (CX : CXT) (P : Program) (w : World) (K : PySem.W.Frag) (mg : Str → Option Value) (base : Heap) (N : List Str) (qual : Str) (scope : Scope) (f : Addr) (cd : Value) (A : Around) (outer : List Env) (s : Shared) (H : Hp) (E : XK) : Cx where
  prog := P
  w := w
  K := K
  mg := mg
  base := base
  A := A.deeper (envOfC qual scope s.heap.objs.size f cd)
  N := N
  s₀ := s
  H₀ := H
  env := envOfC qual scope s.heap.objs.size f cd
  outer := outer
  stack := envOfC qual scope s.heap.objs.size f cd :: outer
  ex := []
  calm := true
  fn := fun _ => true
  pn := []
  xe := fun e s' => wpAny (model P w) (A.deeper (envOfC qual scope s.heap.objs.size f cd)) (leaving (envOfC qual scope s.heap.objs.size f cd) e) (fun _ s'' => CX outer H s E e s'') (fun e' s'' => CX outer H s E e' s'') s'

theorem cell_has {sc : Scope} {n : Nat} {x : Str} (h : sc.names.lookup x = some .cell) : ∃ c, (cellsFrom n sc.names []).lookup x = some c := by
  have q := PySem.W.cellsFrom_some sc.names n [] (.inl h)
  exact Option.isSome_iff_exists.mp q

theorem inv_start {CX : CXT} {P : Program} {w : World} {K : PySem.W.Frag} {mg : Str → Option Value} {base : Heap} {N ps : List Str} {qual : Str} {scope : Scope} {f : Addr} {cd : Value} {A : Around} {outer : List Env} {s s1 : Shared} {H : Hp} {E : XK} {us : List Value} {vs : List V}
    (S : FnScope N ps scope) (hd : A.handled = none) (e0 : Env0 P w K mg base A outer s H) (hl : vs.length = ps.length) (r : Vals vs us)
    (x : InCallC s s.heap.objs.size (bindL (envOfC qual scope s.heap.objs.size f cd).kindOf (ps.zip us) fun _ => none) (cellsFrom (s.heap.objs.size + 1) scope.names []) (bindC (envOfC qual scope s.heap.objs.size f cd).kindOf (ps.zip us) fun _ => none) s1) :
    Inv (cxOf CX P w K mg base N qual scope f cd A outer s H E) [] (start N vs) H s1 := by
  have hpl : ps.length ≤ N.length := by have := congrArg List.length S.pre; rw [List.length_take] at this; (clear hl hd; omega)
  obtain ⟨h1, tk, rfl, hk⟩ := x.done
  have noA : ∀ b : Addr, b ∉ (cxOf CX P w K mg base N qual scope f cd A outer s H E).ex := fun b z => absurd (show b ∈ ([] : List Addr) from z) (by simp)
  refine ⟨⟨e0.mod, S.kind, rfl, rfl, Nat.le_refl _, fun y z c h1 h2 => ?_, fun y hy => ?_, fun y c _ h => ?_, fun _ => hd, Around.frames_deeper e0.frames, .inr ⟨rfl, rfl⟩, fun b z => absurd z (noA b), e0.bs, e0.bsz, fun b _ _ => noA b, fun b z => absurd z (noA b), e0.funs, e0.frf⟩,
    rfl, e0.bare, Un.kept hk, ⟨_, x.toInCall.ns, fun i y v h1 h2 h3 => ?_⟩, fun y c h => ⟨_, x.cell y c h⟩, e0.hok.fresh (Nat.le_refl _), fun y c h => ?_, fun p hp => absurd (show p ∈ ([] : List (Addr × Obj)) from hp) (by simp), e0.hok.kept hk, ?_⟩
  · exact name_of_addr x.apart (PySem.mem_of_lookup h1) (PySem.mem_of_lookup h2)
  · have hy : scope.names.lookup y = some .cell ∨ scope.names.lookup y = some .free := hy
    rcases hy with hy | hy
    · exact cell_has hy
    · exact absurd rfl (S.nofree _ (PySem.mem_of_lookup hy))
  · exact Nat.le_of_lt (x.above y c (PySem.mem_of_lookup h))
  · have hi : i < vs.length := by
      unfold start at h2
      by_cases hi : i < vs.length
      · exact hi
      · rw [List.getElem?_append_right (by simpa using hi)] at h2
        rw [List.getElem?_replicate] at h2
        split at h2 <;> cases h2
    have ha : vs[i]? = some v := by
      unfold start at h2
      rw [List.getElem?_append_left (by simpa using hi), List.getElem?_map] at h2
      cases e : vs[i]? with
      | none => rw [e] at h2; cases h2
      | some a => rw [e] at h2; cases h2; rfl
    obtain ⟨u, hu, rv⟩ := r.get ha
    have hp : ps[i]? = some y := by
      rw [← S.pre, List.getElem?_take_of_lt (by (clear hu ha h2 h1 noA hk hpl hd; omega))]; exact h1
    have ndP : ps.Nodup := by rw [← S.pre]; exact S.nd.sublist (List.take_sublist _ _)
    refine ⟨u, rv, ?_⟩
    rcases S.par y (List.mem_of_getElem? hp) with k | k
    · exact .inl ⟨k, bindL_get ndP hp hu k⟩
    · obtain ⟨c, e⟩ := cell_has (n := s.heap.objs.size + 1) k
      refine .inr ⟨.inl k, c, e, ?_⟩
      have q := x.cell y c e
      rw [bindC_get ndP hp hu (by show scope.names.lookup y ≠ _; rw [k]; decide)] at q
      exact q
  · exact e0.hok.fresh (Nat.le_of_lt (x.above y c (PySem.mem_of_lookup h)))
  · unfold start
    show _ = N.length
    rw [List.length_append, List.length_map, List.length_replicate]
    (clear noA hk hd; omega)

/-- THE RULE: a def (or a method) of the text, by its body. The body's reading t is chosen for each entry; it is run at the parameters' values -/
theorem fn_of {CX : CXT} {P : Program} {w : World} {K : PySem.W.Frag} {mg : Str → Option Value} {base : Heap} {k : Nat} {f : Addr} {name qual : Str} {params : Arguments} {body : List Stmt} {scope : Scope} {dV kV doc pm cdv ct oc : Value} {an od : Option Addr}
    {osl : Array (Option Value)} {N ps : List Str} {sp : Sp} (lk : K.lookup f = some ⟨oc, od, .func (PySem.W.fnOf name qual params body scope dV kV doc pm an cdv ct), osl⟩) (hcd : PySem.W.codeIn K cdv qual = true) (S : FnScope N ps scope)
    (len : ∀ vs H Q E, sp vs H Q E → vs.length = ps.length)
    (hbody : ∀ (A : Around) (outer : List Env) (s : Shared) (H : Hp) (vs : List V) (Q : VK) (E : XK), Room k (A.deeper (envOfC qual scope s.heap.objs.size f cdv)) → sp vs H Q E →
      ∃ t, PSs (cxOf CX P w K mg base N qual scope f cdv A outer s H E) body t ∧ t { nx := fun _ H' => Q .non H', rt := Q } (start N vs) H) :
    FnOk P w K mg base CX (k + 1) f (PySem.W.fnOf name qual params body scope dV kV doc pm an cdv ct) ps sp := by
  refine ⟨len, fun A outer s H args us vs Q E hr e0 hb r hsp => ?_⟩
  have hl := len _ _ _ _ hsp
  have KX : K.In s.heap := e0.mod.kin.keeps fun b o e => (e0.bs b o e).1
  have lim : s.heap.NoLimit := e0.mod.nolimit.keeps fun b o e => (e0.bs b o e).1
  have hkind : ∀ y ∈ ps.zip us, scope.names.lookup y.1 = some .local ∨ (scope.names.lookup y.1 = some .cell ∧ ((cellsFrom (s.heap.objs.size + 1) scope.names []).lookup y.1).isSome = true) := fun ⟨n, v⟩ hy => by
    rcases S.par n (List.of_mem_zip hy).1 with q | q
    · exact .inl q
    · exact .inr ⟨q, PySem.W.cellsFrom_some _ _ _ (.inl q)⟩
  refine codeAny_call_function hr.depth (KX _ _ lk) rfl S.co S.gen rfl (PySem.W.codeRec_of KX hcd) (hb _ _ _ _ ?_)
  refine wpAny_newFunctionEnv_cells S.kind hkind fun env he s1 x => ?_
  subst he
  refine ⟨lim.keeps x.toInCall.keep, codeAny_func ?_⟩
  obtain ⟨t, ht, hq⟩ := hbody A outer s H vs Q E (hr.deeper _) hsp
  have I : Inv (cxOf CX P w K mg base N qual scope f cdv A outer s H E) [] (start N vs) H s1 := inv_start S hr.hd e0 hl r x
  refine wpAny_mono (ht [] s1 (start N vs) H _ I hq) (fun fl s' hs => ?_) fun e s' hs => hs
  have fin : ∀ {σ' : St} {H' : Hp} {v : V} {u : Value}, Inv (cxOf CX P w K mg base N qual scope f cdv A outer s H E) [] σ' H' s' → RelV v u → Q v H' → CE outer P w H s Q u s' :=
    fun {σ' H' v u} J rv q => ⟨v, H', J.os, J.bare, J.base, J.hok, rv, q⟩
  cases fl with
  | ret u =>
    obtain ⟨v, σ', H', J, rv, q⟩ := hs
    exact fin J rv q
  | next =>
    obtain ⟨σ', H', J, q⟩ := hs
    exact fin (v := V.non) (u := Value.none) J rfl q
  | brk =>
    obtain ⟨_, _, _, q⟩ := hs
    exact False.elim q
  | cont =>
    obtain ⟨_, _, _, q⟩ := hs
    exact False.elim q
end L2

namespace L2
open PySem PySem.Spec PyProof.Rows
section
variable {X : Cx} {x : Str} {p pos : Pos} {e : Expr} {es : List Expr} {t : TA} {id T : String} {r : List V → Hp → VK → Prop}

def tCB (r : List V → Hp → VK → Prop) (t : TA) : TE := fun σ H Q => t σ H fun vs H1 => r vs H1 Q
/-- f(e, ..), f a built-in function -/
theorem pe_callB (hc : CallR X (.builtin id) r) (hg : Gl X x) (hm : X.mg x = none) (hv : bootBuiltins x = some (.builtin id)) (ha : PA X (e :: es) t) (hn : x ≠ "__name__" := by decide) (hdb : (x == ("__debug__" : Str)) = false := by decide)
    (he : starEach (e :: es) X.env = (false, eval e X.env) :: starEach es X.env := by rfl) (hpl : (backTo pos (starEach es X.env)).any (·.1) = false := by rfl) : PE X (.Call (.Name x p) (e :: es) [] pos) (tCB r t) := by
  intro pins s σ H Q I h
  refine wpAny_Call_Name_kw (ld_blt I hg hm hv ?_ hn hdb)
  exact PyProof.Rows.callWith_builtin1 (thn (ha pos pins s σ H _ I h) fun us s1 ⟨vs, H1, I1, r1, q1⟩ => hc pins s1 σ H1 vs us Q I1 r1 q1) he hpl
/-- T(e, ..), T a built-in type -/
theorem pe_callTy (hc : CallR X (.type T) r) (hg : Gl X x) (hm : X.mg x = none) (hv : bootBuiltins x = some (.type T)) (ha : PA X (e :: es) t) (hn : x ≠ "__name__" := by decide) (hdb : (x == ("__debug__" : Str)) = false := by decide)
    (he : starEach (e :: es) X.env = (false, eval e X.env) :: starEach es X.env := by rfl) (hpl : (backTo pos (starEach es X.env)).any (·.1) = false := by rfl) : PE X (.Call (.Name x p) (e :: es) [] pos) (tCB r t) := by
  intro pins s σ H Q I h
  refine wpAny_Call_Name_kw (ld_blt I hg hm hv ?_ hn hdb)
  exact PyProof.Rows.callWith_type1 (thn (ha pos pins s σ H _ I h) fun us s1 ⟨vs, H1, I1, r1, q1⟩ => hc pins s1 σ H1 vs us Q I1 r1 q1) he hpl
end
end L2

namespace HT
open PySem PyProof.Rows

/-- t < u of tuples of ints -/
def lexLt : List Int → List Int → Bool
  | [], [] => false
  | [], _ :: _ => true
  | _ :: _, [] => false
  | x :: xs, y :: ys => if x = y then lexLt xs ys else decide (x < y)
section
open PySem.SeqAt
open PySem.AutoSeq1 (wpAny_loadPart')
open PySem.MeetsSeq PySem.MeetsSeq2 PySem.MeetsSeq3

end

section
variable {prog : Program} {w : World} {A : Around} {E : Value → Shared → Prop} {s : Shared}

/-! ### t[a:b], not the whole -/
/-- a slice's bound as a place among n (d where it is left out) -/
def sIx (n d : Nat) : Option Int → Nat
  | none => d
  | some v => if v < 0 then (v + (n : Int)).toNat else min v.toNat n
theorem sIx_none (n d : Nat) : sIx n d none = d := rfl
theorem sIx_nat (n d k : Nat) : sIx n d (some (k : Int)) = min k n := by
  show (if (k : Int) < 0 then ((k : Int) + (n : Int)).toNat else min (k : Int).toNat n) = min k n
  rw [if_neg (by omega), Int.toNat_natCast]
end
end HT

namespace L2
open PySem PySem.Spec PyProof.Rows

/-! ### the parts of a slice -/
abbrev TO := St → Hp → (Option Int → Hp → Prop) → Prop
/-- a slice's part (left out, or an int) -/
def PO (X : Cx) (e : Option Expr) (t : TO) : Prop :=
  ∀ (pins : List (Addr × Obj)) (s : Shared) (σ : St) (H : Hp) (Q : Option Int → Hp → Prop), Inv X pins σ H s → t σ H Q →
    wpAny (model X.prog X.w) X.A (evalPart e X.env) (fun u s' => ∃ o H', Inv X pins σ H' s' ∧ IsPart u o ∧ Q o H') X.xe s
def tNoPart : TO := fun _ H Q => Q none H
def tPart (t : TE) : TO := fun σ H Q => t σ H fun x H1 => ∃ i, x = .int i ∧ Q (some i) H1

section
variable {X : Cx} {e : Expr} {te : TE} {lo hi : Option Expr} {tl th : TO} {pos p2 : Pos}

theorem po_none : PO X none tNoPart := by
  intro pins s σ H Q I h
  rw [evalPart_none]
  exact wpAny_pure ⟨none, H, I, .none, h⟩
theorem po_some (h : PE X e te) : PO X (some e) (tPart te) := by
  intro pins s σ H Q I hw
  rw [evalPart_some]
  refine thn (h pins s σ H _ I hw) fun u s1 ⟨x, H1, I1, r1, q1⟩ => ?_
  obtain ⟨i, rfl, q⟩ := q1
  obtain ⟨t, rfl⟩ := r1
  exact ⟨some i, H1, I1, .int i t, q⟩

/-- what a slice of a value is, by values: the slice object stands at sl -/
def SlR (X : Cx) (r : V → Option Int → Option Int → Hp → VK → Prop) : Prop :=
  ∀ (pins : List (Addr × Obj)) (s : Shared) (σ : St) (H : Hp) (x : V) (v vl vu : Value) (lo hi : Option Int) (sl : Addr) (Q : VK), Inv X pins σ H s → RelV x v → s.heap.IsSliceOf sl vl vu .none → IsPart vl lo → IsPart vu hi → r x lo hi H Q →
    ∃ T id, typeLookup (.type T) "__getitem__" = pure (some (.builtin id)) ∧ s.TypeIs v T ∧ wpAny (model X.prog X.w) X.A (getItem v (.ref sl)) (EP X pins σ Q) X.xe s
def tSl (r : V → Option Int → Option Int → Hp → VK → Prop) (te : TE) (tl th : TO) : TE := fun σ H Q => te σ H fun x H1 => tl σ H1 fun l H2 => th σ H2 fun u H3 => r x l u H3 Q
/-- a[lo:hi], any a -/
theorem pe_slice {r : V → Option Int → Option Int → Hp → VK → Prop} (hr : SlR X r) (he : PE X e te) (hl : PO X lo tl) (hu : PO X hi th) : PE X (.Subscript e (.Slice lo hi none p2) pos) (tSl r te tl th) := by
  intro pins s σ H Q I h
  refine Subscript_ (thn (he pins s σ H _ I h) fun v s1 ⟨x, H1, I1, r1, q1⟩ => ?_)
  refine wpAny_Slice (thn (hl pins s1 σ H1 _ I1 q1) fun vl s2 ⟨l, H2, I2, pl, q2⟩ => thn (hu pins s2 σ H2 _ I2 q2) fun vu s3 ⟨u, H3, I3, pu, q3⟩ => ?_)
  rw [evalPart_none]
  refine wpAny_pure ?_
  have I4 : Inv X pins σ H3 { s3 with heap := s3.heap.push { cls := .type "slice", data := .fields #[vl, vu, .none] } } := I3.kept (t' := s3.toks) fun b ob q => Heap.get?_push_of_some _ q
  obtain ⟨T, id, hT, ht, hg⟩ := hr pins { s3 with heap := s3.heap.push { cls := .type "slice", data := .fields #[vl, vu, .none] } } σ H3 x v vl vu l u s3.heap.objs.size Q I4 r1 (Heap.IsSliceOf.new ..) pl pu q3
  show wpAny (model X.prog X.w) X.A (subscriptTail e (.Slice lo hi none p2) v (.ref s3.heap.objs.size)) (EP X pins σ Q) X.xe { s3 with heap := s3.heap.push { cls := .type "slice", data := .fields #[vl, vu, .none] } }
  exact tail_any (ops := [.ref s3.heap.objs.size, v]) ht hT hg (by with_unfolding_all rfl)

/-- the items of xs[lo:hi] -/
def cutV (xs : List V) (lo hi : Option Int) : List V := (xs.drop (HT.sIx xs.length 0 lo)).take (HT.sIx xs.length xs.length hi - HT.sIx xs.length 0 lo)
theorem cutV_length (xs : List V) (lo hi : Option Int) : (cutV xs lo hi).length ≤ xs.length := by
  unfold cutV
  rw [List.length_take, List.length_drop]
  omega
/-- t[lo:hi], not the whole of it (the whole would be t itself) -/
def rSlT (K : PySem.W.Frag) : V → Option Int → Option Int → Hp → VK → Prop := fun x lo hi H Q => ∃ a xs, x = .ref a ∧ SqT K H a xs ∧
  ¬ (HT.sIx xs.length 0 lo = 0 ∧ HT.sIx xs.length xs.length hi = xs.length) ∧ ∀ p, H p = none → Q (.ref p) (upd H p (.tup (cutV xs lo hi)))
/-! ### t < u, t + u -/
def rLtT (K : PySem.W.Frag) : R2 := fun x y H Q => ∃ a b ns ms, x = .ref a ∧ y = .ref b ∧ SqT K H a (ns.map V.int) ∧ SqT K H b (ms.map V.int) ∧ Q (.bl (HT.lexLt ns ms)) H
/-- t + u, t not empty: u empty gives t itself -/
def rCatT (K : PySem.W.Frag) : R2 := fun x y H Q => ∃ a b xs ys, x = .ref a ∧ y = .ref b ∧ SqT K H a xs ∧ SqT K H b ys ∧ xs ≠ [] ∧ xs.length + ys.length ≤ sizeLine ∧
  (ys = [] → Q (.ref a) H) ∧ (ys ≠ [] → ∀ p, H p = none → Q (.ref p) (upd H p (.tup (xs ++ ys))))
end
end L2

namespace L2
open PySem PySem.Spec PyProof.Rows

/-! ### places -/
/-- the place that an index of any sign means -/
def ixN (n : Nat) (i : Int) : Option Nat := if 0 ≤ i then (if i < n then some i.toNat else none) else if -(n : Int) ≤ i then some (i + n).toNat else none
def atI {α : Type} (xs : List α) (i : Int) : Option α := (ixN xs.length i).bind fun j => xs[j]?
theorem ixN_seq {n : Nat} {i : Int} {j : Nat} (h : ixN n i = some j) : seqIndex? i n = some j ∧ j < n ∧ -(n : Int) ≤ i ∧ i < n := by
  unfold ixN at h
  by_cases h0 : 0 ≤ i
  · rw [if_pos h0] at h
    by_cases h1 : i < n
    · rw [if_pos h1] at h
      have e : i.toNat = j := Option.some.inj h
      exact ⟨by rw [seqIndex_of h0 h1, e], by (clear h; omega), by (clear e h1 h; omega), h1⟩
    · rw [if_neg h1] at h; cases h
  · rw [if_neg h0] at h
    by_cases h1 : -(n : Int) ≤ i
    · rw [if_pos h1] at h
      have e : (i + n).toNat = j := Option.some.inj h
      exact ⟨by rw [seqIndex_neg (by (clear e h1 h; omega)) h1, e], by (clear h; omega), h1, by (clear e h; omega)⟩
    · rw [if_neg h1] at h; cases h
theorem atI_get {α : Type} {xs : List α} {i : Int} {v : α} (h : atI xs i = some v) : ∃ j, seqIndex? i xs.length = some j ∧ xs[j]? = some v ∧ j < xs.length ∧ -(xs.length : Int) ≤ i ∧ i < xs.length := by
  unfold atI at h
  cases e : ixN xs.length i with
  | none => rw [e] at h; cases h
  | some j =>
    rw [e] at h
    obtain ⟨h1, h2, h3, h4⟩ := ixN_seq e
    exact ⟨j, h1, h, h2, h3, h4⟩
theorem atI_nat {α : Type} {xs : List α} {j : Nat} {v : α} (h : xs[j]? = some v) : atI xs (j : Int) = some v := by
  have hj : j < xs.length := (List.getElem?_eq_some_iff.mp h).1
  have e : ixN xs.length (j : Int) = some j := by
    unfold ixN
    rw [if_pos (by (clear hj h; omega)), if_pos (by (clear h; omega))]; simp
  unfold atI; rw [e]; exact h
theorem atI_last {α : Type} (xs : List α) (v : α) : atI (xs ++ [v]) (-1) = some v := by
  have hl : (xs ++ [v]).length = xs.length + 1 := by simp
  have e : ixN (xs ++ [v]).length (-1) = some xs.length := by
    unfold ixN
    rw [hl, if_neg (by decide), if_pos (by (clear hl; omega))]
    congr 1
    (clear hl; omega)
  unfold atI
  rw [e]
  show (xs ++ [v])[xs.length]? = some v
  simp

/-! ### what may be subscripted -/
/-- what stands as an index of a plain subscript -/
def PlainIx (b : Expr) : Prop := ∀ o i, subscripted b false o i = operate [o, i] (getItem o i)
/-- a subscript by values -/
def IxR (X : Cx) (r : R2) : Prop :=
  ∀ (value slice : Expr) (pins : List (Addr × Obj)) (s : Shared) (σ : St) (H : Hp) (x y : V) (v u : Value) (Q : VK), Inv X pins σ H s → RelV x v → RelV y u → r x y H Q →
    subscripted slice false v u = operate [v, u] (getItem v u) → wpAny (model X.prog X.w) X.A (subscriptTail value slice v u) (EP X pins σ Q) X.xe s
/-- a call of a builtin's method by values: the receiver, the arguments -/
def MtR (X : Cx) (id : String) (r : V → List V → Hp → VK → Prop) : Prop :=
  ∀ (pins : List (Addr × Obj)) (s : Shared) (σ : St) (H : Hp) (x : V) (xs : List V) (v : Value) (us : List Value) (Q : VK), Inv X pins σ H s → RelV x v → Vals xs us → r x xs H Q →
    wpAny (model X.prog X.w) X.A (call (.builtin id) (v :: us)) (EP X pins σ Q) X.xe s
section
variable {X : Cx} {a b : Expr} {ta tb : TE} {pos : Pos}
/-- a[b] -/
theorem pe_ix {r : R2} (hr : IxR X r) (ha : PE X a ta) (hb : PE X b tb) (hs : PlainIx b) : PE X (.Subscript a b pos) (tOp r ta tb) := by
  intro pins s σ H Q I h
  exact Subscript_ (binT ha hb I h fun v u s2 x y H2 I2 rx ry q => hr a b pins s2 σ H2 x y v u Q I2 rx ry q (hs _ _))

def rIxL (K : PySem.W.Frag) : R2 := fun x y H Q => ∃ p xs i v, x = .ref p ∧ y = .int i ∧ SqL K H p xs ∧ atI xs i = some v ∧ Q v H
def rIxT (K : PySem.W.Frag) : R2 := fun x y H Q => ∃ p xs i v, x = .ref p ∧ y = .int i ∧ SqT K H p xs ∧ atI xs i = some v ∧ Q v H
def rIxS : R2 := fun x y H Q => ∃ z i c, x = .str z ∧ y = .int i ∧ z.length ≤ sizeLine ∧ atI z.cps.toList i = some c ∧ Q (.str ⟨#[c]⟩) H
theorem ix_list : IxR X (rIxL X.K) := by
  intro value slice pins s σ H x y v u Q I rx ry h hs
  obtain ⟨p, xs, i, z, rfl, rfl, hq, he, q⟩ := h
  cases rx
  obtain ⟨t, rfl⟩ := ry
  obtain ⟨its, r, pl, hz⟩ := I.list hq
  obtain ⟨j, h1, h2, h3, h4, h5⟩ := atI_get he
  obtain ⟨w, ew, rw'⟩ := r.get h2
  have hl := r.length
  have hn := line63
  have fin : EP X pins σ Q w s := ⟨z, H, I, rw', q⟩
  by_cases h0 : 0 ≤ i
  · have hj : i.toNat = j := by
      rw [seqIndex_of h0 h5] at h1
      exact Option.some.inj h1
    exact item_listR pl.isList h0 (by (clear hj h0 ew h4 h3 h2 h1 hs he; omega)) (by rw [hj]; simpa using ew) fin hs
  · have hj : (i + (its.toArray.size : Int)).toNat = j := by
      rw [seqIndex_neg (by (clear hn hl ew h5 h4 h3 h2 h1 hz hs he; omega)) h4] at h1
      rw [List.size_toArray, ← hl]
      exact Option.some.inj h1
    exact subscriptTail_builtinR (x := w) pl.isList.typeIs slot_list_getitem.lookup
      (wpAny_getItem_list_neg (Q := fun r s' => r = w ∧ EP X pins σ Q r s') pl.isList (by (clear hj hn hl ew h5 h4 h3 h2 h1 hz hs he; omega)) (by rw [List.size_toArray] <;> (clear hj h0 hn ew h5 h3 h2 h1 hz hs he; omega)) (by (clear hj h0 ew h5 h3 h2 h1 hs he; omega)) (by rw [hj]; simpa using ew) ⟨rfl, fin⟩) hs
theorem ix_tup : IxR X (rIxT X.K) := by
  intro value slice pins s σ H x y v u Q I rx ry h hs
  obtain ⟨p, xs, i, z, rfl, rfl, hq, he, q⟩ := h
  cases rx
  obtain ⟨t, rfl⟩ := ry
  obtain ⟨its, r, pl, hz⟩ := I.tuple hq
  obtain ⟨j, h1, h2, h3, h4, h5⟩ := atI_get he
  obtain ⟨w, ew, rw'⟩ := r.get h2
  have hl := r.length
  have hn := line63
  have fin : EP X pins σ Q w s := ⟨z, H, I, rw', q⟩
  exact subscriptTail_builtinR (x := w) pl.typeIs slot_tuple_getitem.lookup
    (getItem_tuple (j := j) (Q := fun r s' => r = w ∧ EP X pins σ Q r s') pl (by (clear ew h5 h2 h1 hs he; omega)) (by (clear ew h4 h2 h1 hs he; omega)) (by rw [List.size_toArray, ← hl]; exact h1) (by simpa using ew) ⟨rfl, fin⟩) hs
theorem ix_str : IxR X rIxS := by
  intro value slice pins s σ H x y v u Q I rx ry h hs
  obtain ⟨z, i, c, rfl, rfl, hz, he, q⟩ := h
  obtain ⟨t, rfl⟩ := rx
  obtain ⟨t', rfl⟩ := ry
  obtain ⟨j, h1, h2, h3, h4, h5⟩ := atI_get he
  have hl : z.cps.toList.length = z.length := by simp [Str.length]
  rw [hl] at h1 h4 h5
  have hn := line63
  exact tail_any (typeIs_str s z t) slot_str_getitem.lookup (getItem_str (c := c) (by
    have e1 : decide (i < -(2 ^ 63 : Int)) = false := decide_eq_false (by (clear h5 h3 h2 h1 hs he; omega))
    have e2 : decide (i ≥ 2 ^ 63) = false := decide_eq_false (by (clear e1 h4 h3 h2 h1 hs he; omega))
    rw [e1, e2, Bool.or_false]) (by rw [h1]; simpa using h2) ⟨.str ⟨#[c]⟩, H, I.tok _, ⟨_, rfl⟩, q⟩) hs
/-- list, tuple or str -/
def rIx (K : PySem.W.Frag) : R2 := fun x y H Q => rIxL K x y H Q ∨ rIxT K x y H Q ∨ rIxS x y H Q
/-! ### xs[i] = v, any sign -/
/-- the list's object behind a store -/
theorem mapSeq_set (its : List Value) (n j : Nat) (u : Value) : Obj.mapSeq (·.setIfInBounds j u) { cls := .type "list", data := .seq its.toArray n } = { cls := .type "list", data := .seq (its.set j u).toArray n } := by
  simp [Obj.mapSeq]
theorem Inv.lst {pins : List (Addr × Obj)} {σ : St} {H : Hp} {s : Shared} {p : Addr} {xs : List V} (I : Inv X pins σ H s) (h : H p = some (.lst xs)) :
    ∃ (its : List Value) (n : Nat), Vals xs its ∧ s.heap.get? p = some { cls := .type "list", data := .seq its.toArray n } ∧ xs.length ≤ sizeLine := by
  obtain ⟨z, its, n, r, e⟩ := I.hok p _ h
  exact ⟨its, n, r, e, z⟩
/-- the list at p is written by an update of its object -/
theorem Inv.lstUpd {pins : List (Addr × Obj)} {σ : St} {H : Hp} {s : Shared} {p : Addr} {xs ys : List V} {its its' : List Value} {n n' : Nat} {f : Obj → Obj} (I : Inv X pins σ H s) (h : H p = some (.lst xs))
    (ho : s.heap.get? p = some { cls := .type "list", data := .seq its.toArray n }) (hf : f { cls := .type "list", data := .seq its.toArray n } = { cls := .type "list", data := .seq its'.toArray n' }) (r : Vals ys its') (hz : ys.length ≤ sizeLine) (t : Nat) :
    Inv X pins σ (upd H p (.lst ys)) { s with heap := s.heap.update p f, toks := t } := by
  have e : (s.heap.update p f).get? p = some { cls := .type "list", data := .seq its'.toArray n' } := by
    rw [Heap.get?_update_self f ho (by rw [hf] <;> rfl), hf]
  refine I.write (x := p) (e := p) (by rw [h]; trivial) (.inl rfl) (fun b u hb q => (Heap.get?_update_other _ _ (Ne.symm hb)).trans q) ⟨_, e⟩ ?_
  exact ⟨hz, its', n', r, e⟩
def rSetL : V → V → V → Hp → (Hp → Prop) → Prop := fun o i v H Q => ∃ p xs k j, o = .ref p ∧ i = .int k ∧ H p = some (.lst xs) ∧ ixN xs.length k = some j ∧ Q (upd H p (.lst (xs.set j v)))
theorem set_list : PSet X rSetL := by
  intro pins s σ H o i v ov iv u Q I ro ri rv h
  obtain ⟨p, xs, k, j, rfl, rfl, hp, hj, q⟩ := h
  cases ro
  obtain ⟨t, rfl⟩ := ri
  obtain ⟨its, n, r, ho, hz⟩ := I.lst hp
  obtain ⟨h1, h2, h3, h4⟩ := ixN_seq hj
  have hl := r.length
  have hn := line63
  have I' : Inv X pins σ (upd H p (.lst (xs.set j v))) { s with heap := s.heap.update p (Obj.mapSeq (·.setIfInBounds j u)) } :=
    I.lstUpd hp ho (mapSeq_set its n j u) (r.set rv j) (by rw [List.length_set]; exact hz) s.toks
  by_cases h0 : 0 ≤ k
  · have hk : k.toNat = j := by
      rw [seqIndex_of h0 h4] at h1
      exact Option.some.inj h1
    exact PySem.W.ki_setAt ho h0 (by (clear hk h0 h3 h2 h1 ho hj hp; omega)) (by rw [List.size_toArray, ← hl]; exact h4) (by rw [hk]; exact ⟨_, I', q⟩)
  · have hk : (k + (its.toArray.size : Int)).toNat = j := by
      rw [seqIndex_neg (by (clear hn hl h4 h3 h2 h1 hz ho hj hp; omega)) h3] at h1
      rw [List.size_toArray, ← hl]
      exact Option.some.inj h1
    exact PySem.W.ki_setBack ho (by (clear hk hn hl h4 h3 h2 h1 hz ho hj hp; omega)) (by rw [List.size_toArray, ← hl]; exact h3) (by (clear hk h0 h4 h2 h1 ho hj hp; omega)) (by rw [hk]; exact ⟨_, I', q⟩)

/-! ### slices -/
theorem slice_bounds (lo hi : Option Int) (n : Nat) : (sliceBounds lo hi none n).1 = ((HT.sIx n 0 lo : Nat) : Int) ∧ (sliceBounds lo hi none n).2.1 = ((HT.sIx n n hi : Nat) : Int) ∧ (sliceBounds lo hi none n).2.2 = 1 := by
  refine ⟨?_, ?_, rfl⟩
  · cases lo with
    | none => simp [sliceBounds, HT.sIx]
    | some i =>
      simp only [sliceBounds, HT.sIx, Option.getD_none, show (1 : Int) > 0 by decide, if_true]
      by_cases h : i < 0
      · simp only [h, if_true] <;> omega
      · simp only [h, if_false] <;> omega
  · cases hi with
    | none => simp [sliceBounds, HT.sIx]
    | some i =>
      simp only [sliceBounds, HT.sIx, Option.getD_none, show (1 : Int) > 0 by decide, if_true]
      by_cases h : i < 0
      · simp only [h, if_true] <;> omega
      · simp only [h, if_false] <;> omega
theorem slicePick_cut (its : List Value) (lo hi : Option Int) : slicePick its.toArray lo hi none = ((its.drop (HT.sIx its.length 0 lo)).take (HT.sIx its.length its.length hi - HT.sIx its.length 0 lo)).toArray := by
  obtain ⟨h1, h2, h3⟩ := slice_bounds lo hi its.toArray.size
  unfold slicePick
  rw [h1, h2, h3]
  simp only [sliceRange_one, pick_run, List.size_toArray] <;> rfl
/-- xs[lo:hi] of a list: a new list -/
def rSlL (K : PySem.W.Frag) : V → Option Int → Option Int → Hp → VK → Prop := fun x lo hi H Q => ∃ a xs, x = .ref a ∧ SqL K H a xs ∧ ∀ p, H p = none → Q (.ref p) (upd H p (.lst (cutV xs lo hi)))
theorem sl_list : SlR X (rSlL X.K) := by
  intro pins s σ H x v vl vu lo hi sl Q I rx hs pl pu h
  obtain ⟨a, xs, rfl, hx, q⟩ := h
  cases rx
  obtain ⟨its, r, ht, hz⟩ := I.list hx
  have hlen := r.length
  refine ⟨"list", _, slot_list_getitem.lookup, ht.isList.typeIs, ?_⟩
  refine wpAny_getItem_list_slice ht.isList hs pl pu .none (by simp) ?_ (by rw [List.size_toArray] <;> (clear q; omega))
  rw [slicePick_cut, ← hlen]
  refine ⟨.ref s.heap.objs.size, _, I.laid (t' := s.toks) (o := .lst (cutV xs lo hi)) (fun b ob q => Heap.get?_push_of_some _ q) (Nat.le_refl _) ?_, rfl, q _ (I.hok.fresh (Nat.le_refl _))⟩
  exact ⟨Nat.le_trans (cutV_length xs lo hi) hz, _, 0, (r.drop (HT.sIx xs.length 0 lo)).take (HT.sIx xs.length xs.length hi - HT.sIx xs.length 0 lo), Heap.get?_push_size _ rfl⟩

/-! ### in, not in: flat items -/
def flatV : V → Bool
  | .non => true
  | .bl _ => true
  | .int _ => true
  | .str _ => true
  | _ => false
/-- == of flat values -/
def eqV : V → V → Bool
  | .non, .non => true
  | .bl a, .bl b => a == b
  | .bl a, .int b => (if a then 1 else 0) == b
  | .int a, .bl b => a == (if b then 1 else 0)
  | .int a, .int b => a == b
  | .str a, .str b => a == b
  | _, _ => false
theorem eqAt_V {A : Around} {s : Shared} {y x : V} {u v : Value} (ry : RelV y u) (rx : RelV x v) (fy : flatV y = true) (fx : flatV x = true) : SeqAt.EqAt A s u v (eqV y x) := by
  cases y with
  | non =>
    cases ry
    cases x with
    | non => cases rx; exact SeqAt.EqAt.same _
    | bl b => cases rx; exact SeqAt.EqAt.none_bool b
    | int b => obtain ⟨t, rfl⟩ := rx; exact SeqAt.EqAt.none_int b t
    | str b => obtain ⟨t, rfl⟩ := rx; exact SeqAt.EqAt.none_str b t
    | _ => exact absurd (show false = true from fx) Bool.false_ne_true
  | bl a =>
    cases ry
    cases x with
    | non => cases rx; exact SeqAt.EqAt.bool_none a
    | bl b => cases rx; exact SeqAt.EqAt.bool_bool a b
    | int b => obtain ⟨t, rfl⟩ := rx; exact SeqAt.EqAt.bool_int a b t
    | str b => obtain ⟨t, rfl⟩ := rx; exact SeqAt.EqAt.bool_str a b t
    | _ => exact absurd (show false = true from fx) Bool.false_ne_true
  | int a =>
    obtain ⟨t', rfl⟩ := ry
    cases x with
    | non => cases rx; exact SeqAt.EqAt.int_none a t'
    | bl b => cases rx; exact SeqAt.EqAt.int_bool a t' b
    | int b => obtain ⟨t, rfl⟩ := rx; exact SeqAt.EqAt.int_int a t' b t
    | str b => obtain ⟨t, rfl⟩ := rx; exact SeqAt.EqAt.int_str a t' b t
    | _ => exact absurd (show false = true from fx) Bool.false_ne_true
  | str a =>
    obtain ⟨t', rfl⟩ := ry
    cases x with
    | non => cases rx; exact SeqAt.EqAt.str_none a t'
    | bl b => cases rx; exact SeqAt.EqAt.str_bool a t' b
    | int b => obtain ⟨t, rfl⟩ := rx; exact SeqAt.EqAt.str_int a t' b t
    | str b => obtain ⟨t, rfl⟩ := rx; exact SeqAt.EqAt.str_str a t' b t
    | _ => exact absurd (show false = true from fx) Bool.false_ne_true
  | _ => exact absurd (show false = true from fy) Bool.false_ne_true
/-- the items' answers, read off the values (a value's own answer does not lean on its token) -/
def eqU (x : V) (u : Value) : Bool := match u with
  | .none => eqV .non x
  | .bool b => eqV (.bl b) x
  | .int i _ => eqV (.int i) x
  | .str z _ => eqV (.str z) x
  | _ => false
def inV (x : V) (xs : List V) : Bool := xs.any fun y => eqV y x
/-- x in a list or tuple of flat items -/
def rIn (K : PySem.W.Frag) (neg : Bool) : R2 := fun x y H Q => ∃ p xs, y = .ref p ∧ (SqL K H p xs ∨ SqT K H p xs) ∧ flatV x = true ∧ xs.all flatV = true ∧ Q (.bl (if neg then !inV x xs else inV x xs)) H
/-! ### len, list(x), tuple(x) of any list or tuple that is read -/
theorem call_len_seq : CallR X (.builtin "len") (fun xs H Q => ∃ p ys, xs = [.ref p] ∧ (SqL X.K H p ys ∨ SqT X.K H p ys) ∧ Q (.int ys.length) H) := by
  intro pins s σ H xs us Q I r h
  obtain ⟨p, ys, rfl, hq, q⟩ := h
  obtain ⟨u, rfl, rx⟩ := vals1 r
  cases rx
  have hn := line63
  rcases hq with hq | hq
  · obtain ⟨its, r', pl, hz⟩ := I.list hq
    have hlen := r'.length
    exact Calls.call_len_list pl.isList (by simp only [List.size_toArray] <;> omega) ⟨.int ys.length, H, I.tok _, ⟨s.toks + 1, by rw [List.size_toArray, hlen]⟩, q⟩
  · obtain ⟨its, r', pl, hz⟩ := I.tuple hq
    have hlen := r'.length
    exact len_tuple pl (by simp only [List.size_toArray] <;> omega) ⟨.int ys.length, H, I.tok _, ⟨s.toks + 1, by rw [List.size_toArray, hlen]⟩, q⟩
theorem call_len_str : CallR X (.builtin "len") (fun xs H Q => ∃ z, xs = [.str z] ∧ z.length ≤ sizeLine ∧ Q (.int z.length) H) := by
  intro pins s σ H xs us Q I r h
  obtain ⟨z, rfl, hz, q⟩ := h
  obtain ⟨u, rfl, t, rfl⟩ := vals1 r
  have hn := line63
  exact len_str (by omega) ⟨.int z.length, H, I.tok _, ⟨_, rfl⟩, q⟩
theorem call_list_of : CallR X (.type "list") (fun xs H Q => ∃ p ys, xs = [.ref p] ∧ (SqL X.K H p ys ∨ SqT X.K H p ys) ∧ ∀ l, H l = none → Q (.ref l) (upd H l (.lst ys))) := by
  intro pins s σ H xs us Q I r h
  obtain ⟨p, ys, rfl, hq, q⟩ := h
  obtain ⟨u, rfl, rx⟩ := vals1 r
  cases rx
  have fin : ∀ (its : List Value), Vals ys its → ys.length ≤ sizeLine → ∀ (h' : Heap) (c' : Nat), (∀ b o', s.heap.get? b = some o' → h'.get? b = some o') →
      h'.get? s.heap.objs.size = some { cls := .type "list", dict := none, data := .seq its.toArray c', slots := #[] } → EP X pins σ Q (.ref s.heap.objs.size) { s with heap := h' } := fun its r' hz h' c' kp e =>
    ⟨.ref s.heap.objs.size, _, I.laid (t' := s.toks) kp (Nat.le_refl _) (show ObjOk X.prog X.w _ h' _ (.lst ys) from ⟨hz, its, c', r', e⟩), rfl, q _ (I.hok.fresh (Nat.le_refl _))⟩
  rcases hq with hq | hq
  · obtain ⟨its, r', pl, hz⟩ := I.list hq
    have hlen := r'.length
    obtain ⟨o, ho, hc, n, hd⟩ := pl.isList
    exact call_list_seq p (.inl rfl) ho hc hd (fun h' c' kp e => fin its r' hz h' c' kp e) (by simp only [List.size_toArray] <;> (clear hd hc ho fin q; omega))
  · obtain ⟨its, r', pl, hz⟩ := I.tuple hq
    have hlen := r'.length
    obtain ⟨o, ho, hc, n, hd⟩ := pl
    exact call_list_seq p (.inr rfl) ho hc hd (fun h' c' kp e => fin its r' hz h' c' kp e) (by simp only [List.size_toArray] <;> (clear hd hc ho fin q; omega))
theorem call_tuple_of : CallR X (.type "tuple") (fun xs H Q => ∃ p ys, xs = [.ref p] ∧ ((SqL X.K H p ys ∧ ∀ l, H l = none → Q (.ref l) (upd H l (.tup ys))) ∨ (SqT X.K H p ys ∧ Q (.ref p) H))) := by
  intro pins s σ H xs us Q I r h
  obtain ⟨p, ys, rfl, h⟩ := h
  obtain ⟨u, rfl, rx⟩ := vals1 r
  cases rx
  rcases h with ⟨hq, q⟩ | ⟨hq, q⟩
  · obtain ⟨its, r', pl, hz⟩ := I.list hq
    have hlen := r'.length
    refine call_tuple_list pl.isList (fun h' kp => ?_) (by simp only [List.size_toArray] <;> (clear q; omega))
    have I1 : Inv X pins σ H { s with heap := h' } := I.kept (t' := s.toks) kp
    have I2 : Inv X pins σ (upd H h'.objs.size (.tup ys)) { s with heap := h'.push { cls := .type "tuple", data := .seq its.toArray } } :=
      I1.laid (t' := s.toks) (fun b o e => Heap.get?_push_of_some _ e) (Nat.le_refl _) (show ObjOk X.prog X.w _ _ _ (.tup ys) from ⟨hz, its, r', IsTup.new _ _⟩)
    exact ⟨.ref h'.objs.size, _, I2, rfl, q _ (I1.hok.fresh (Nat.le_refl _))⟩
  · obtain ⟨its, r', pl, hz⟩ := I.tuple hq
    exact call_tuple_same pl ⟨.ref p, H, I, rfl, q⟩

/-! ### the call of a builtin's method: o.m(..) -/
/-- the value is of that builtin type -/
def tyV (K : PySem.W.Frag) (T : String) (x : V) (H : Hp) : Prop := match x with
  | .str _ => T = "str"
  | .int _ => T = "int"
  | .ref p => (T = "list" ∧ ∃ xs, SqL K H p xs) ∨ (T = "tuple" ∧ ∃ o, K.lookup p = some o ∧ o.cls = .type "tuple" ∧ o.dict = none) ∨
      (T = "dict" ∧ ((∃ kvs, H p = some (.dK kvs)) ∨ ∃ kvs, H p = some (.dT kvs))) ∨ (T = "set" ∧ ∃ S n, H p = some (.set S n))
  | _ => False
theorem tyV_is {pins : List (Addr × Obj)} {σ : St} {H : Hp} {s : Shared} {T : String} {x : V} {v : Value} (I : Inv X pins σ H s) (r : RelV x v) (ty : tyV X.K T x H) :
    s.TypeIs v T ∧ ∀ a, v = .ref a → ∃ ob, s.heap.get? a = some ob ∧ ob.dict = none := by
  cases x with
  | str z =>
    obtain ⟨t, rfl⟩ := r
    cases (show T = "str" from ty)
    exact ⟨typeIs_str s z t, fun _ e => nomatch e⟩
  | int i =>
    obtain ⟨t, rfl⟩ := r
    cases (show T = "int" from ty)
    exact ⟨typeIs_int s i t, fun _ e => nomatch e⟩
  | ref p =>
    cases r
    rcases ty with ⟨rfl, xs, hq⟩ | ⟨rfl, o, hk, hc, hd⟩ | ⟨rfl, hk⟩ | ⟨rfl, S, n, hk⟩
    · obtain ⟨its, _, pl, _⟩ := I.list hq
      refine ⟨pl.isList.typeIs, fun a e => ?_⟩
      cases e
      obtain ⟨o, n, e, c, hd, _⟩ := pl
      exact ⟨o, e, hd⟩
    · refine ⟨⟨o, I.kIn p o hk, hc⟩, fun a e => ?_⟩
      cases e
      exact ⟨o, I.kIn _ o hk, hd⟩
    · have z : ∃ o, s.heap.get? p = some o ∧ o.ExactDict := by
        rcases hk with ⟨kvs, hk⟩ | ⟨kvs, hk⟩
        · obtain ⟨_, _, _, _, o, _, _, e, ex, _⟩ := I.hok p _ hk
          exact ⟨o, e, ex⟩
        · obtain ⟨_, _, _, _, o, _, _, e, ex, _⟩ := I.hok p _ hk
          exact ⟨o, e, ex⟩
      obtain ⟨o, e, ex⟩ := z
      refine ⟨⟨o, e, ex.1⟩, fun a e2 => ?_⟩
      cases e2
      exact ⟨o, e, ex.2.1⟩
    · obtain ⟨o, _, _, _, e, ex, _⟩ := I.hok p _ hk
      refine ⟨⟨o, e, ex.1⟩, fun a e2 => ?_⟩
      cases e2
      exact ⟨o, e, ex.2.1⟩
  | _ => exact False.elim ty
def tBM0 (K : PySem.W.Frag) (T : String) (r : V → List V → Hp → VK → Prop) (to : TE) : TE := fun σ H Q => to σ H fun x H1 => tyV K T x H1 ∧ r x [] H1 Q
def tBM (K : PySem.W.Frag) (T : String) (r : V → List V → Hp → VK → Prop) (to : TE) (t : TA) : TE := fun σ H Q => to σ H fun x H1 => tyV K T x H1 ∧ t σ H1 fun xs H2 => r x xs H2 Q
variable {o e : Expr} {es : List Expr} {to : TE} {t : TA} {name : Str} {apos cpos : Pos} {T id : String} {r : V → List V → Hp → VK → Prop}
theorem pe_bm (pa : PlainAttrs T) (slot : Slot T name id) (hty : typeOf (.builtin id) = pure (.type "method_descriptor")) (hm : MtR X id r) (ho : PE X o to) (ha : PA X (e :: es) t)
    (hbase : attributeBase o name X.env (eval o X.env) = eval o X.env := by rfl)
    (hfew : ((backTo cpos (starEach (e :: es) X.env)).all (fun x => !x.1) && (backToKw cpos (keywordEach [] X.env)).all (fun x => x.1.isSome)
      && decide ((e :: es).length + ([] : List Keyword).length + (if ([] : List Keyword).isEmpty then 0 else 1) < 30)) = true := by rfl)
    (hline : (apos.endLine == cpos.line) = true := by rfl) (hs : starEach (e :: es) X.env = (false, eval e X.env) :: starEach es X.env := by rfl) (hplain : (backTo cpos (starEach es X.env)).any (·.1) = false := by rfl) :
    PE X (.Call (.Attribute o name apos) (e :: es) [] cpos) (tBM X.K T r to t) := by
  intro pins s σ H Q I h
  refine wpAny_Call_method_late hbase hfew hline rfl (thn (ho pins s σ H _ I h) fun v s1 ⟨x, H1, I1, r1, ty, q1⟩ => ?_)
  obtain ⟨h1, h2⟩ := tyV_is I1 r1 ty
  refine ⟨T, id, pa, slot, hty, h1, h2, ?_⟩
  have hA := ha cpos pins s1 σ H1 _ I1 q1
  rw [hs] at hA ⊢
  refine Calls.callWith_builtin (by show (false || (backTo cpos (starEach es X.env)).any (·.1)) = false; rw [hplain] <;> rfl) (Calls.evalArgs_plain ?_)
  exact thn hA fun us s2 ⟨vs, H2, I2, r2, q2⟩ => hm pins s2 σ H2 x vs v us Q I2 r1 r2 q2
/- xs.append(e), list.index on a module's tuple .. are MtR facts of 06m -/
end
end L2

namespace L2
open PySem PySem.Spec PyProof.Rows

def MtM (X : Cx) (id : String) (r : V → List V → Hp → VK → Prop) : Prop :=
  ∀ (pins : List (Addr × Obj)) (s : Shared) (σ : St) (H : Hp) (x : V) (xs : List V) (v : Value) (us : List Value) (Q : VK), Inv X pins σ H s → RelV x v → Vals xs us → r x xs H Q →
    wpAny (model X.prog X.w) X.A (call (.builtin id) (v :: us)) (EP X pins σ Q) X.xe s

/-! ### lists of values -/
theorem Vals.one : ∀ {x : V} {us : List Value}, Vals [x] us → ∃ u, us = [u] ∧ RelV x u
  | _, _, .cons r .nil => ⟨_, rfl, r⟩
section
variable {X : Cx} {pins : List (Addr × Obj)} {σ : St} {H : Hp} {s : Shared} {l b : Addr} {xs ys zs : List V}

/-! ### the two steps: a tracked list is rewritten, a new list is laid -/
theorem Inv.lset {its its' : List Value} {n : Nat} {f : Array Value → Array Value} {t' : Nat} (I : Inv X pins σ H s) (hH : H l = some (.lst xs))
    (e : s.heap.get? l = some { cls := .type "list", data := .seq its.toArray n }) (hf : f its.toArray = its'.toArray) (hv : Vals ys its') (hz : ys.length ≤ sizeLine) :
    Inv X pins σ (upd H l (.lst ys)) { s with heap := s.heap.update l (Obj.mapSeq f), toks := t' } := by
  have q := PySem.IsL.update e f
  rw [hf] at q
  refine I.write (x := l) (e := l) (by rw [hH]; exact trivial) (.inl rfl) (fun b' u hb hu => (Heap.get?_update_other s.heap (Obj.mapSeq f) (Ne.symm hb)).trans hu) ⟨_, q⟩ ?_
  exact ⟨hz, its', _, hv, q⟩
theorem Inv.lstM (I : Inv X pins σ H s) (hH : H l = some (.lst xs)) : xs.length ≤ sizeLine ∧ ∃ (its : List Value) (n : Nat), Vals xs its ∧ xs.length = its.length ∧ s.heap.get? l = some { cls := .type "list", data := .seq its.toArray n } := by
  obtain ⟨z, its, n, r, e⟩ := I.hok l _ hH
  exact ⟨z, its, n, r, r.length, e⟩

end

section
variable {X : Cx}

/-! ### methods -/
def rAppend : V → List V → Hp → VK → Prop := fun x vs H Q => ∃ l xs y, x = .ref l ∧ vs = [y] ∧ H l = some (.lst xs) ∧ xs.length < sizeLine ∧ Q .non (upd H l (.lst (xs ++ [y])))
theorem mt_append : MtM X "list.append" rAppend := by
  intro pins s σ H x vs v us Q I rx rv h
  obtain ⟨l, xs, y, rfl, rfl, hH, hz, q⟩ := h
  cases rx
  obtain ⟨u, rfl, ru⟩ := rv.one
  obtain ⟨z, its, n, r, hl, e⟩ := I.lstM hH
  refine call_meets F.slot_list_append ⟨_, e, rfl⟩ F.entry_list_append (F.args_list_append_2 _ _) (PySem.list_append l its.toArray n u (by rw [List.size_toArray]; (clear e z hH; omega))) ⟨e, ?_⟩
  refine ⟨.non, _, I.lset (its' := its ++ [u]) hH e (by simp) (r.append (.cons ru .nil)) ?_, rfl, q⟩
  rw [List.length_append, List.length_singleton]
  (clear e z hH; omega)

def rExtend : V → List V → Hp → VK → Prop := fun x vs H Q => ∃ l b xs zs, x = .ref l ∧ vs = [.ref b] ∧ H l = some (.lst xs) ∧ H b = some (.lst zs) ∧ xs.length + zs.length ≤ sizeLine ∧ Q .non (upd H l (.lst (xs ++ zs)))
def rPop : V → List V → Hp → VK → Prop := fun x vs H Q => ∃ l xs y, x = .ref l ∧ vs = [] ∧ H l = some (.lst xs) ∧ xs[xs.length - 1]? = some y ∧ Q y (upd H l (.lst xs.dropLast))
def rPopAt : V → List V → Hp → VK → Prop := fun x vs H Q => ∃ l xs i k y, x = .ref l ∧ vs = [.int i] ∧ H l = some (.lst xs) ∧ -(2 ^ 63) ≤ i ∧ i < 2 ^ 63 ∧ seqIndex? i xs.length = some k ∧ xs[k]? = some y ∧ Q y (upd H l (.lst (xs.eraseIdx k)))
def rReverse : V → List V → Hp → VK → Prop := fun x vs H Q => ∃ l xs, x = .ref l ∧ vs = [] ∧ H l = some (.lst xs) ∧ Q .non (upd H l (.lst xs.reverse))
def rClear : V → List V → Hp → VK → Prop := fun x vs H Q => ∃ l xs, x = .ref l ∧ vs = [] ∧ H l = some (.lst xs) ∧ Q .non (upd H l (.lst []))
/-! ### list + list, list += list, list * int -/
def rCat : R2 := fun x y H Q => ∃ l b xs zs, x = .ref l ∧ y = .ref b ∧ H l = some (.lst xs) ∧ H b = some (.lst zs) ∧ xs.length + zs.length ≤ sizeLine ∧ ∀ p, H p = none → Q (.ref p) (upd H p (.lst (xs ++ zs)))
/-- a list times an int (a negative one is nothing) -/
def rRep : R2 := fun x y H Q => ∃ l k xs, x = .ref l ∧ y = .int k ∧ H l = some (.lst xs) ∧ -(2 ^ 63) ≤ k ∧ k < 2 ^ 63 ∧ xs.length * k.toNat ≤ sizeLine ∧
  ∀ p, H p = none → Q (.ref p) (upd H p (.lst (List.replicate k.toNat xs).flatten))
/-! ### del xs[i] -/
end

/-! ### xs[a:b] = ys -/
section
variable {prog : Program} {w : World} {A : Around} {E : Value → Shared → Prop} {s : Shared}
end

section
variable {X : Cx}
end
end L2

namespace Att
open PySem PySem.W PySem.Calls PyProof.Rows

/-! ### the script -/
theorem ints_of_wellAll {P : Params} {h : Heap} : ∀ (ns : List Int) (vs : List Value), WellAll P h vs (ns.map WData.int) → IntsAre vs ns := by
  intro ns
  induction ns with
  | nil =>
    intro vs w
    rw [List.map_nil] at w
    cases w
    exact .nil
  | cons n ns ih =>
    intro vs w
    rw [List.map_cons] at w
    cases w with
    | cons a b =>
      cases a
      exact .cons _ _ (ih _ b)

theorem script_of {l : OpenLaw} {n : Nat} (hn : l.most = some n) {P : Params} {h : Heap} {args : List WData} {vals : List Value}
    (hpre : l.row.toRowW.claim.pre args = true) (hwl : WellAll P h vals args) :
    ∃ a vs ns, vals = [Value.ref a] ∧ args = [WData.list (ns.map WData.int)] ∧ h.get? a = some { cls := .type "list", data := .seq vs.toArray } ∧ IntsAre vs ns ∧ ns.length ≤ n := by
  have hsh : WShape.hasAll [] args [.list .int] = true := (pre_splitW hpre).1
  have hc : l.pre.holds [] { args := args } = true := (pre_splitW hpre).2
  obtain ⟨d, r, rfl, h1, h2⟩ := hasAllW_cons hsh
  obtain rfl := hasAllW_nil h2
  obtain ⟨xs, rfl, h3⟩ := hasW_list h1
  obtain ⟨ns, rfl⟩ := items_int h3
  have hlen : ns.length ≤ n := by
    unfold OpenLaw.pre at hc
    have h4 : (WTm.not (.lt (.lit (.int (n : Int))) (.len (.arg 0)))).holds [] { args := [.list (ns.map .int)] } = true := by
      have h4 := (holds_andW hc).1
      rw [hn] at h4
      exact h4
    have h5 := condW_of h4 (w_not (w_lt w_lit (w_len_list (w_arg rfl))))
    rw [List.length_map] at h5
    refine Nat.le_of_not_lt fun q => ?_
    have q' : (n : Int) < ((ns.length : Nat) : Int) := by (clear h5 h4 hc hsh hpre h1 h3 h2 hn; omega)
    first
      | (rw [decide_eq_true q'] at h5; exact absurd h5 (by decide))
      | (simp at h5; omega)
  cases hwl with
  | cons w1 w2 =>
    cases w2
    cases w1 with
    | list ho hall => exact ⟨_, _, ns, rfl, rfl, ho, ints_of_wellAll ns _ hall, hlen⟩

theorem post_true (l : OpenLaw) (args : List WData) : l.row.toRowW.claim.post args (.bool true) args = true :=
  postW_of (r := l.row.toRowW) (X := (true == true))
    (show WShape.has [] (.bool true) .bool = true by first | rfl | decide | simp [WShape.has, WShape.arms, WShape.armsAll])
    (show (WTm.eq .res (.lit (.bool true))).value [] { args := args, res := some (.bool true), after := args } = some (.bool (true == true)) from w_eq_bool (w_res rfl) w_lit) rfl

/-! ### the attachment: holds_open's last premise (the goal 'hc' behind k_head) from a wpAny of the law's body -/
/-- the same from a codeAny of the CALL (for a layer whose function contracts speak of calls) -/
theorem attach_call {l : OpenLaw} {n : Nat} {q : Program} {loose : List Str} {XP : (Str → Option Value) → Heap → Prop} {YP : World → Heap → Prop} {d : DefRec}
    (hn : l.most = some n) (hdf : d.params.defaults = [])
    (call : ∀ (w : World) (s₀ s₁ : Shared) (mg mb : Str → Option Value) (fa : Addr) (o : Obj) (pm cd doc : Value) (a : Addr) (vs : List Value) (ns : List Int),
      Ground q loose [] XP w s₀ mg mb s₁.heap → YP w s₁.heap →
      s₁.heap.get? fa = some o → o.data = .func (docDef d.name d.params d.body d.scope pm cd doc) → s₁.heap.CodeRec cd d.name → mg d.name = some (.ref fa) →
      s₁.heap.get? a = some { cls := .type "list", data := .seq vs.toArray } → IntsAre vs ns → ns.length ≤ n → s₁.gens = #[] →
      codeAny (model l.prog w) callerA (.call (.ref fa) ⟨[.ref a], []⟩) (fun r s' => r = .ok (.ret (.bool true)) ∧ OldK s₁.heap s'.heap ∧ s'.os = s₁.os ∧ AllBare s'.gens) s₁) :
    WalkO q loose XP YP l.row.toRowW d [] (fun f vs => PySem.call f vs) := by
  intro w s₀ s₁ mg mb G Y fa o pm cd doc dV kV ho hd hcd hD hmg hg args vals as hpre hlay hrd hwl hlo
  obtain rfl : dV = .none := Dflts.none hD hdf
  obtain rfl : kV = .none := Dflts.noKw hD
  obtain ⟨a, vs, ns, rfl, rfl, hobj, hints, hlen⟩ := script_of hn hpre hwl
  refine enter_call (codeAny_mono (call w s₀ s₁ mg mb fa o pm cd doc a vs ns G Y ho (fd_plain hd) hcd hmg hobj hints hlen hg) fun r s' hq => ?_)
  obtain ⟨rfl, h2, h3, h4⟩ := hq
  exact ⟨.inl ⟨.bool true, .bool true, [], rfl, fun _ => rfl, .bool true, post_true l _, fun _ => ⟨List.Pairwise.nil, fun _ hm => (nomatch hm)⟩⟩, h2, h3, h4⟩

/-! ### rules over ANY heap (no ledger) from facts about the written part K: the library's own take a ledger (News) for what they write -/
section
variable {prog : Program} {w : World} {A : Around} {E : Value → Shared → Prop} {s : Shared} {K : Frag}

/-! the whole heap as the ledger: makes every rule that writes through a ledger a rule over any heap -/
def noObjs (h : Heap) : Heap := { h with objs := #[] }
def ledger (h : Heap) (L d : Addr) : List (Addr × Obj) := (List.range h.objs.size).filterMap fun a => if a = L ∨ a = d then none else (h.get? a).map fun o => (a, o)
end
end Att

namespace L2
open PySem PySem.Spec PyProof.Rows

theorem vals_ints : ∀ {vs : List Value} {ns : List Int}, IntsAre vs ns → Vals (ns.map V.int) vs
  | _, _, .nil => .nil
  | _, _, .cons n t h => .cons ⟨t, rfl⟩ (vals_ints h)

/-- nothing is tracked but the script, known to the object (or it is an object of the module) -/
def Only (H : Hp) : Prop := ∀ b, H b = none ∨ ∃ o xs, H b = some (.frz o (.lst xs))

/-- THE HEAD: the law's promise, at the heap behind the top. F, the promise of the law's def, may use that base is part of the heap (so K.In base, base.Ns mainGlobals mg stand in Mod) -/
theorem law_call {P : Program} {w : World} {K : PySem.W.Frag} {mg mb : Str → Option Value} {CX : CXT} {k : Nat} {fa a : Addr} {fd : FuncData} {x : Str} {sp : Sp} {s₁ : Shared} {vs : List Value} {ns : List Int}
    (KX : K.In s₁.heap) (hns : s₁.heap.Ns mainGlobals mg) (hb : s₁.heap.Ns builtinsNs mb) (hbb : ∀ x : Str, x ≠ "__name__" → mb x = bootBuiltins x) (hlim : s₁.heap.NoLimit) (hg : s₁.gens = #[])
    (ha : s₁.heap.get? a = some { cls := .type "list", data := .seq vs.toArray }) (hi : IntsAre vs ns) (hl : ns.length ≤ sizeLine) (hr : Room k callerA)
    (F : ∀ base : Heap, K.In base → base.Ns mainGlobals mg → FnOk P w K mg base CX k fa fd [x] sp) (hbind : ∀ (s : Shared) (u : Value), BindsTo s fd ⟨[u], []⟩ [(x, u)])
    (hsp : ∀ H : Hp, Only H → SqL K H a (ns.map V.int) → sp [.ref a] H (fun v _ => v = .bl true) fun _ _ _ => False)
    (hCX : ∀ H e s', CX [] H s₁ (fun _ _ _ => False) e s' → False) :
    codeAny (model P w) callerA (.call (.ref fa) ⟨[.ref a], []⟩) (fun r s' => r = .ok (.ret (.bool true)) ∧ OldK s₁.heap s'.heap ∧ s'.os = s₁.os ∧ AllBare s'.gens) s₁ := by
  have rv := vals_ints hi
  have lenV := hi.length
  -- from an abstract heap in which nothing but the script may be tracked
  have core : ∀ H : Hp, Only H → SqL K H a (ns.map V.int) → HOk P w H s₁.heap → (∀ b, H b ≠ none → b = a) → (H a ≠ none → K.lookup a = none) →
      codeAny (model P w) callerA (.call (.ref fa) ⟨[.ref a], []⟩) (fun r s' => r = .ok (.ret (.bool true)) ∧ OldK s₁.heap s'.heap ∧ s'.os = s₁.os ∧ AllBare s'.gens) s₁ := by
    intro H hO hS hok hA hK
    have base_of : ∀ {b : Addr} {o : Obj}, s₁.heap.get? b = some o → H b = none → (hidT s₁.heap H).get? b = some o := fun e n => hidT_get e n
    have noA : ∀ {b : Addr} {o : Obj} {es : Array DictEntry} {ep : Nat}, s₁.heap.get? b = some o → o.data = .dict es ep → H b = none := fun {b o es ep} e d => by
      cases q : H b with
      | none => rfl
      | some u =>
        have e' : b = a := hA b (by rw [q]; simp)
        subst e'
        rw [ha] at e; cases e
        have d' : Data.seq vs.toArray _ = Data.dict es ep := d
        cases d'
    have nsK : ∀ {b : Addr} {m : Str → Option Value}, s₁.heap.Ns b m → (hidT s₁.heap H).Ns b m := fun {b m} ⟨o, es, ep, e, d, r⟩ => ⟨o, es, ep, base_of e (noA e d), d, r⟩
    have hKb : K.In (hidT s₁.heap H) := fun b o e => base_of (KX b o e) (by
      cases q : H b with
      | none => rfl
      | some u =>
        have e' : b = a := hA b (by rw [q]; simp)
        subst e'
        rw [hK (by rw [q]; simp)] at e; cases e)
    have hM : Mod K mg (hidT s₁.heap H) := ⟨hKb, nsK hns, ⟨mb, nsK hb, hbb⟩, let ⟨mc, h1, h2⟩ := hlim; ⟨mc, nsK h1, h2⟩⟩
    have e0 : Env0 P w K mg (hidT s₁.heap H) callerA [] s₁ H := ⟨rfl, hM, fun b o e => of_hidT e, Nat.le_of_eq (hidT_size _ _), trivial, fun b hb => absurd (show b ∈ ([] : List Addr) from hb) (by simp), hok, .of_eq hg⟩
    refine codeAny_mono ((F _ hKb (nsK hns)).run callerA [] s₁ H ⟨[.ref a], []⟩ [.ref a] [.ref a] _ _ hr e0 (hbind s₁ (.ref a)) (.cons rfl .nil) (hsp H hO hS)) fun r s' h => ?_
    cases r with
    | error e => exact (hCX H e s' h).elim
    | ok fl =>
      cases fl with
      | next => exact False.elim h
      | brk => exact False.elim h
      | cont => exact False.elim h
      | ret u =>
        obtain ⟨v, H', os, bare, un, hok', r', q⟩ := h
        have q' : v = .bl true := q
        subst q'
        obtain rfl : u = Value.bool true := r'
        refine ⟨rfl, OldK.of_keep fun b o e => ?_, os, bare⟩
        cases q : H b with
        | none => exact un.keep b o e q (by intro z; exact absurd (show b ∈ ([] : List Addr) from z) (by simp)) (by simp)
        | some u =>
          rcases hO b with z | ⟨ob, xs, z⟩
          · rw [q] at z; cases z
          · have z2 := un.frzs b ob _ z
            obtain ⟨e1, _⟩ := hok b _ z
            obtain ⟨e2, _⟩ := hok' b _ z2
            rw [e] at e1; cases e1
            exact e2
  cases hk : K.lookup a with
  | some o =>
    -- the script is one of the module's own objects
    have e := KX a o hk
    rw [ha] at e
    cases e
    refine core (fun _ => none) (fun _ => .inl rfl) (.inr ⟨_, vs.toArray, _, hk, rfl, rfl, rfl, by rw [List.size_toArray, lenV]; exact hl, by simpa using rv⟩) (fun b u z => by have z' : (none : Option HO) = some u := z; cases z') (fun b z => absurd rfl z) fun z => absurd rfl z
  | none =>
    refine core (fun b => if b = a then some (.frz { cls := .type "list", data := .seq vs.toArray } (.lst (ns.map V.int))) else none) (fun b => ?_) (.inl (.inr ⟨{ cls := .type "list", data := .seq vs.toArray }, if_pos rfl⟩)) (fun b u z => ?_) (fun b z => ?_) fun _ => hk
    · by_cases hb : b = a
      · exact .inr ⟨_, _, if_pos hb⟩
      · exact .inl (if_neg hb)
    · by_cases hb : b = a
      · have z' := (if_pos hb).symm.trans z
        cases z'
        subst hb
        exact ⟨ha, by rw [List.length_map]; exact hl, vs, _, rv, ha⟩
      · have z' := (if_neg hb).symm.trans z
        cases z'
    · by_cases hb : b = a
      · exact hb
      · exact absurd (if_neg hb) z
end L2

namespace L2
open PySem PySem.Spec PyProof.Rows

abbrev KOf {K : PySem.W.Frag} {h : Heap} (_ : K.In h) : PySem.W.Frag := K

/-- the goal that k_head leaves (case hc), from the law's promise. F gives the function object fd (K's own) once, then the promise over every base -/
theorem walk_of {l : PySem.W.OpenLaw} {n k : Nat} {q : Program} {loose : List Str} {XP : (Str → Option Value) → Heap → Prop} {YP : World → Heap → Prop} {d : DefRec} {K : Params → PySem.W.Frag} {CX : World → CXT} {sp : World → Sp} {x : Str}
    (hn : l.most = some n) (hn2 : n ≤ sizeLine) (hdf : d.params.defaults = []) (hr : Room k callerA)
    (hY : ∀ (w : World) (h : Heap), YP w h → (K w.params).In h)
    (F : ∀ (w : World) (mg : Str → Option Value) (fa : Addr) (h : Heap), (K w.params).In h → h.Ns mainGlobals mg → mg d.name = some (.ref fa) →
      ∃ fd : FuncData, (∀ (s : Shared) (u : Value), BindsTo s fd ⟨[u], []⟩ [(x, u)]) ∧
        ∀ base : Heap, (K w.params).In base → base.Ns mainGlobals mg → FnOk l.prog w (K w.params) mg base (CX w) k fa fd [x] (sp w))
    (hsp : ∀ (w : World) (H : Hp) (a : Addr) (ns : List Int), ns.length ≤ n → Only H → SqL (K w.params) H a (ns.map V.int) → sp w [.ref a] H (fun v _ => v = .bl true) fun _ _ _ => False)
    (hCX : ∀ (w : World) (H : Hp) (s : Shared) (e : Value) (s' : Shared), CX w [] H s (fun _ _ _ => False) e s' → False) :
    PySem.W.WalkO q loose XP YP l.row.toRowW d [] (fun f vs => PySem.call f vs) := by
  refine Att.attach_call hn hdf fun w s₀ s₁ mg mb fa o pm cd doc a vs ns G Y ho hd hcd hmg hobj hints hlen hg => ?_
  have KX := hY w _ Y
  obtain ⟨fd, hb, hF⟩ := F w mg fa _ KX G.T.g hmg
  exact law_call KX G.T.g G.T.b G.T.builtins G.T.nolimit hg hobj hints (Nat.le_trans hlen hn2) hr hF hb (fun H hO hS => hsp w H a ns hlen hO hS) fun H e s' => hCX w H s₁ e s'
end L2

/- THE LAST THEOREM (shape; LID, My.* are yours):
   My.Adr: a structure of the addresses that your layer names (classes, functions); My.Txt K t: a structure (Prop) of the equations over K;
   My.txt_mk : {K} {implicit addresses ..} (e1 : nsIn K mainGlobals "law" = some (some (.ref f))) (e2 : K.lookup f = some ⟨oc, od, .func (fnOf "law" "law" params body scope dV kV doc pm an cdv ct), sl⟩) (e3 : codeIn K cdv "law" = true) .. : ∃ t, My.Txt K t

set_option maxRecDepth 100000 in
set_option maxHeartbeats 0 in
theorem PySem.Challenge.cw_LID_holds : PySem.Challenge.rw_LID.Holds := by
  w_on; o_law; k_head; (case hw => w_witness2)
  k_fill
  refine L2.walk_of (l := PySem.Challenge.rw_LID) (n := 63) (k := 40) (x := "script") (CX := fun w => ..) (sp := fun _ => My.sp_law) rfl (by decide) rfl ⟨rfl, by decide, by decide⟩ (fun w h Y => PySem.W.kIn_of Y) ?F ?S ?C
  case F =>
    intro w mg fa h KX G hmg
    have T : ∃ t, My.Txt (L2.KOf KX) t := by
      dsimp only [L2.KOf]                          -- K must stand as «<heap const> w.params» for k_is
      refine' My.txt_mk ?e1 ?e2 ?e3 ..
      (case e1 => PySem.W.k_is)                    -- in the order: a name -> its address -> its object -> its parts
      (case e2 => PySem.W.k_is)
      ..
    obtain ⟨t, T⟩ := T
    have e0 := hmg.symm.trans (PySem.W.mg_of KX G T.law)
    cases e0                                       -- fa is the law's own address
    exact ⟨_, fun s u => .of_eq rfl, fun base kb nb => My.law_fn T kb nb⟩     -- if «.of_eq rfl» comes too early: refine' ⟨_, ?b, fun base kb nb => My.law_fn T kb nb⟩; exact fun s u => .of_eq rfl
  case S => exact fun w H a ns hl hO hS => ..
  case C => exact ..
(the tactic k_is has no namespace: write k_is) -/

/-! SHORT WORDS over the layer: a def of the text, its body, what a loop and a test want. -/
namespace L2
open PySem PySem.Spec PyProof.Rows

/-! ### the text by places -/
/-- the j-th statement of a class's body -/
def inClass (s : Stmt) (j : Nat) : Stmt := match s with
  | .ClassDef _ _ _ body _ _ _ _ _ _ _ => body.getD j (.Pass ⟨0, 0, 0, 0⟩)
  | _ => .Pass ⟨0, 0, 0, 0⟩
def defArgs (s : Stmt) : Arguments := match s with
  | .FunctionDef _ a _ _ _ _ _ _ _ _ => a
  | _ => { posonlyargs := [], args := [], vararg := none, kwonlyargs := [], kw_defaults := [], kwarg := none, defaults := [] }
def defBody (s : Stmt) : List Stmt := match s with
  | .FunctionDef _ _ b _ _ _ _ _ _ _ => b
  | _ => []
def defScope (s : Stmt) : Scope := match s with
  | .FunctionDef _ _ _ _ _ _ sc _ _ _ => sc
  | _ => { kind := .function, names := [], isGenerator := false, isCoroutine := false }

/-! ### no exception leaves a def -/
abbrev CX0 : CXT := fun _ _ _ _ _ _ => False
abbrev E0 : XK := fun _ _ _ => False
theorem pass0 {X : Cx} : Passes CX0 X E0 := fun _ _ _ _ _ _ _ h => h.elim

/-! ### a def (or method) of the text as it stands behind the top -/
structure Fun (K : PySem.W.Frag) (x qual : Str) (st : Stmt) (f : Addr) (fd : FuncData) : Prop where
  ex : ∃ (oc : Value) (od : Option Addr) (kV doc pm : Value) (an : Option Addr) (cdv ct : Value) (osl : Array (Option Value)),
    fd = PySem.W.fnOf x qual (defArgs st) (defBody st) (defScope st) .none kV doc pm an cdv ct ∧ K.lookup f = some ⟨oc, od, .func fd, osl⟩ ∧ PySem.W.codeIn K cdv qual = true
  kp : PySem.W.keepIn K (.ref f) = true
section
variable {P : Program} {w : World} {K : PySem.W.Frag} {mg : Str → Option Value} {base : Heap}
/-- THE RULE for a def: its body as a term of rules, and the reading of that term -/
theorem Fun.ok {x qual : Str} {st : Stmt} {f : Addr} {fd : FuncData} {N ps : List Str} {k : Nat} {sp : Sp} (F : Fun K x qual st f fd) (S : FnScope N ps (defScope st)) (len : ∀ vs H Q E, sp vs H Q E → vs.length = ps.length)
    (hbody : ∀ (cdv : Value) (A : Around) (outer : List Env) (s : Shared) (H : Hp) (vs : List V) (Q : VK) (E : XK), Room k (A.deeper (envOfC qual (defScope st) s.heap.objs.size f cdv)) → sp vs H Q E →
      ∃ t, PSs (cxOf CX0 P w K mg base N qual (defScope st) f cdv A outer s H E).nox (defBody st) t ∧ t { nx := fun _ H' => Q .non H', rt := Q } (start N vs) H) : FnOk P w K mg base CX0 (k + 1) f fd ps sp := by
  obtain ⟨oc, od, kV, doc, pm, an, cdv, ct, osl, rfl, lk, hcd⟩ := F.ex
  refine fn_of lk hcd S len fun A outer s H vs Q E hr hsp => ?_
  obtain ⟨t, h, q⟩ := hbody cdv A outer s H vs Q E hr hsp
  exact ⟨t, h.nox, q⟩
/-- how its arguments bind (no defaults): h is «fun _ _ _ _ _ _ us hl => match us, hl with | [_, _], _ => rfl», one _ a parameter -/
theorem Fun.binds {x qual : Str} {st : Stmt} {f : Addr} {fd : FuncData} {ps : List Str} (F : Fun K x qual st f fd)
    (h : ∀ (kV doc pm : Value) (an : Option Addr) (cdv ct : Value) (us : List Value), us.length = ps.length → bindArgs (PySem.W.fnOf x qual (defArgs st) (defBody st) (defScope st) .none kV doc pm an cdv ct) ⟨us, []⟩ = pure (ps.zip us)) : Binds K fd ps [] := by
  obtain ⟨oc, od, kV, doc, pm, an, cdv, ct, osl, rfl, lk, hcd⟩ := F.ex
  exact .all (h kV doc pm an cdv ct)
theorem fun_mk {x qual : Str} {st : Stmt} {f : Addr} {oc : Value} {od an : Option Addr} {osl : Array (Option Value)} {kV doc pm cdv ct : Value} (l : K.lookup f = some ⟨oc, od, .func (PySem.W.fnOf x qual (defArgs st) (defBody st) (defScope st) .none kV doc pm an cdv ct), osl⟩)
    (c : PySem.W.codeIn K cdv qual = true) (k : PySem.W.keepIn K (.ref f) = true) : Fun K x qual st f (PySem.W.fnOf x qual (defArgs st) (defBody st) (defScope st) .none kV doc pm an cdv ct) := ⟨⟨oc, od, kV, doc, pm, an, cdv, ct, osl, rfl, l, c⟩, k⟩
end
theorem small1000 {n : Nat} (h : n ≤ 1000) : n < sizeLine := Nat.lt_of_le_of_lt h (by decide)

/-! ### expressions in short: the name that stands in the i-th slot -/
section
variable {X : Cx}
theorem pv (i : Nat) {x : Str} {pos : Pos} (hN : X.N[i]? = some x := by rfl) (hv : Vis X.env.scope x := by first | exact Or.inl rfl | exact Or.inr (Or.inl rfl) | exact Or.inr (Or.inr rfl)) (hd : (x == ("__debug__" : Str)) = false := by decide)
    (hcd : (x == ("__classdict__" : Str)) = false := by decide) : PE X (.Name x pos) (tVar i) := pe_var hN hv hd hcd
end

/-! ### tests -/
theorem iteF {A B : Prop} (h : B) : if false = true then A else B := by
  rw [if_neg Bool.false_ne_true]
  exact h
theorem iteT {A B : Prop} (h : A) : if true = true then A else B := by
  rw [if_pos rfl]
  exact h
theorem iteNS {c A B : Prop} [Decidable c] (hc : c) (h : B) : if (!decide c) = true then A else B := by
  rw [decide_eq_true hc]
  exact iteF h

/-! ### heaps -/
/-- all that was tracked is as it was -/
def Same (H H' : Hp) : Prop := ∀ b o, H b = some o → H' b = some o
theorem Same.refl (H : Hp) : Same H H := fun _ _ h => h
theorem Same.trans {H H1 H2 : Hp} (a : Same H H1) (b : Same H1 H2) : Same H H2 := fun c o h => b c o (a c o h)
theorem Same.seq {K : PySem.W.Frag} {H H' : Hp} {a : Addr} {xs : List V} (e : Same H H') (h : SqL K H a xs) : SqL K H' a xs := by
  rcases h with (h | ⟨o, h⟩) | h
  · exact .inl (.inl (e _ _ h))
  · exact .inl (.inr ⟨o, e _ _ h⟩)
  · exact .inr h

end L2

set_option Elab.async false
set_option maxRecDepth 100000
set_option maxHeartbeats 4000000
namespace L2
open PySem PySem.Spec PyProof.Rows
/-! ## X1. texts: a loop over the signs -/
def Its (x : Str) : It := ⟨fun i _ => i < x.length, fun i H v H' => H' = H ∧ ∃ c, x.cps[i]? = some c ∧ v = .str ⟨#[c]⟩, fun i _ => x.length ≤ i⟩
theorem turn_strA {P : Program} {w : World} {K : PySem.W.Frag} {tg : Expr} (x : Str) (t : Tok) (it : Addr) : Turn P w K tg (Its x) [it] it (fun i h => h.IsStrIter it "str_ascii_iterator" x t i) where
  mem := by simp
  obj := fun i h st b hb => by
    have e : b = it := by simpa using hb
    subst e
    obtain ⟨o, e, c, d⟩ := st
    exact ⟨o, e, fun v z => by rw [d] at z; cases z⟩
  keep := fun i h h' st k => by
    obtain ⟨o, e, r⟩ := st
    exact ⟨o, k it (by simp) o e, r⟩
  item := by
    intro X hP hw hK hc i pins s σ H E I hf st hg
    subst hP hw hK
    have hg : i < x.cps.size := hg
    obtain ⟨f0, f1, f2, f3, f4, f5⟩ := hf it (by simp)
    refine wpAny_pyNext_ascii_item st (c := x.cps[i]) (by simp [hg]) fun h' st' sb => ?_
    have I1 : Inv X pins σ H { s with heap := h', toks := s.toks + 1 } := I.turned (t' := s.toks + 1) (fun b o hb e => (sb.2 b hb).trans e) f0 f1 f3 f4 f5
    obtain ⟨o, e, c, d⟩ := id st'
    exact ⟨_, rfl, go_of (s := { s with heap := h', toks := s.toks + 1 }) e c d (by decide) ⟨.str ⟨#[x.cps[i]]⟩, H, I1, ⟨_, rfl⟩, ⟨rfl, _, by simp [hg], rfl⟩, st', fun b hb => (hf b hb).1⟩⟩
  done := by
    intro X hP hw hK hc i pins s σ H E I hf st hg
    subst hP hw hK
    have hg : x.cps.size ≤ i := hg
    obtain ⟨f0, f1, f2, f3, f4, f5⟩ := hf it (by simp)
    exact wpAny_pyNext_ascii_end (I.ok.hd hc) st (by simp [hg]) fun h' eb => ⟨rfl, I.turned (t' := s.toks) (fun b o hb e => eb b o hb e) f0 f1 f3 f4 f5⟩
  self := fun _ _ _ _ _ st h => wpAny_pyIter_striter_ascii st h
theorem turn_strW {P : Program} {w : World} {K : PySem.W.Frag} {tg : Expr} (x : Str) (t : Tok) (it : Addr) : Turn P w K tg (Its x) [it] it (fun i h => h.IsStrIter it "str_iterator" x t i) where
  mem := by simp
  obj := fun i h st b hb => by
    have e : b = it := by simpa using hb
    subst e
    obtain ⟨o, e, c, d⟩ := st
    exact ⟨o, e, fun v z => by rw [d] at z; cases z⟩
  keep := fun i h h' st k => by
    obtain ⟨o, e, r⟩ := st
    exact ⟨o, k it (by simp) o e, r⟩
  item := by
    intro X hP hw hK hc i pins s σ H E I hf st hg
    subst hP hw hK
    have hg : i < x.cps.size := hg
    obtain ⟨f0, f1, f2, f3, f4, f5⟩ := hf it (by simp)
    refine wpAny_pyNext_wide_item st (c := x.cps[i]) (by simp [hg]) fun h' st' sb => ?_
    have I1 : Inv X pins σ H { s with heap := h', toks := s.toks + 1 } := I.turned (t' := s.toks + 1) (fun b o hb e => (sb.2 b hb).trans e) f0 f1 f3 f4 f5
    obtain ⟨o, e, c, d⟩ := id st'
    exact ⟨_, rfl, go_of (s := { s with heap := h', toks := s.toks + 1 }) e c d (by decide) ⟨.str ⟨#[x.cps[i]]⟩, H, I1, ⟨_, rfl⟩, ⟨rfl, _, by simp [hg], rfl⟩, st', fun b hb => (hf b hb).1⟩⟩
  done := by
    intro X hP hw hK hc i pins s σ H E I hf st hg
    subst hP hw hK
    have hg : x.cps.size ≤ i := hg
    obtain ⟨f0, f1, f2, f3, f4, f5⟩ := hf it (by simp)
    exact wpAny_pyNext_wide_end (I.ok.hd hc) st (by simp [hg]) fun h' eb => ⟨rfl, I.turned (t' := s.toks) (fun b o hb e => eb b o hb e) f0 f1 f3 f4 f5⟩
  self := fun _ _ _ _ _ st h => wpAny_pyIter_striter_wide st h
def iStr (tl : TE) : TI := fun σ H R => tl σ H fun v H1 => ∃ x, v = .str x ∧ R (Its x) H1
theorem pi_str {X : Cx} {tg l : Expr} {tl : TE} (hl : PE X l tl) : PI X tg l (iStr tl) := by
  intro pins s σ H R I h
  refine thn (hl pins s σ H _ I h) fun v s1 ⟨y, H1, I1, r1, q1⟩ => ?_
  obtain ⟨x, rfl, q⟩ := q1
  obtain ⟨t, rfl⟩ := r1
  cases ha : x.cps.all (· < 128)
  · refine wpAny_pyIter_wide ha ?_
    refine ⟨s1.heap.objs.size, [s1.heap.objs.size], _, _, H1, rfl, I1.kept (t' := s1.toks) fun b o e => Heap.get?_push_of_some _ e, turn_strW x t _, ⟨_, Heap.get?_push_size _ rfl, rfl, rfl⟩, fun b hb => ?_, q⟩
    have e : b = s1.heap.objs.size := by simpa using hb
    subst e
    exact I1.fpOk (Nat.le_refl _) (I1.hok.fresh (Nat.le_refl _))
  · refine wpAny_pyIter_ascii ha ?_
    refine ⟨s1.heap.objs.size, [s1.heap.objs.size], _, _, H1, rfl, I1.kept (t' := s1.toks) fun b o e => Heap.get?_push_of_some _ e, turn_strA x t _, ⟨_, Heap.get?_push_size _ rfl, rfl, rfl⟩, fun b hb => ?_, q⟩
    have e : b = s1.heap.objs.size := by simpa using hb
    subst e
    exact I1.fpOk (Nat.le_refl _) (I1.hok.fresh (Nat.le_refl _))
theorem for_str {x : Str} {g : TG} {tb : TS} {D : Ends} {σ : St} {H : Hp} (Pv : Nat → St → Hp → Prop) (h0 : Pv 0 σ H)
    (hs : ∀ i c σ H, x.cps[i]? = some c → Pv i σ H → g (.str ⟨#[c]⟩) σ H fun σ2 H2 => tb { D with nx := Pv (i + 1), ct := Pv (i + 1), bk := D.nx } σ2 H2) (hd : ∀ σ H, Pv x.length σ H → D.nx σ H) :
    ∃ W : Nat → Nat → St → Hp → Prop, (∃ m, W 0 m σ H) ∧ ∀ i m σ H, W i m σ H →
      ((Its x).stop i H ∧ D.nx σ H) ∨ ((Its x).go i H ∧ ∃ N : St → Hp → Prop, (∀ σ' H', N σ' H' → ∃ m', m' < m ∧ W (i + 1) m' σ' H') ∧ ∀ y H', (Its x).yld i H y H' → g y σ H' fun σ2 H2 => tb { D with nx := N, ct := N, bk := D.nx } σ2 H2) := by
  refine ⟨fun i m σ H => m = x.length - i ∧ i ≤ x.length ∧ Pv i σ H, ⟨x.length, by simp, Nat.zero_le _, h0⟩, ?_⟩
  rintro i m σ H ⟨rfl, hi, p⟩
  by_cases hlt : i < x.length
  · refine .inr ⟨hlt, Pv (i + 1), fun σ' H' p' => ⟨x.length - (i + 1), by (clear hi hd hs; omega), rfl, hlt, p'⟩, fun y H' q => ?_⟩
    obtain ⟨e, c, hc, e2⟩ := q
    subst e e2
    exact hs i c σ _ hc p
  · have e : i = x.length := by (clear hd hs; omega)
    subst e
    exact .inl ⟨Nat.le_refl _, hd σ H p⟩

/-! ## X2. texts: slices, methods, products, order -/
section
variable {X : Cx}
def rSlS : V → Option Int → Option Int → Hp → VK → Prop := fun x lo hi H Q => ∃ z, x = .str z ∧ z.length ≤ sizeLine ∧ Q (.str (Txt.slice z lo hi)) H
theorem sl_str : SlR X rSlS := by
  intro pins s σ H x v vl vu lo hi sl Q I rx hs pl pu h
  obtain ⟨z, rfl, hz, q⟩ := h
  obtain ⟨t, rfl⟩ := rx
  refine ⟨"str", _, PySem.F.slot_str_getitem.lookup, typeIs_str _ _ _, ?_⟩
  have fin : ∀ t' k, EP X pins σ Q (.str (Txt.slice z lo hi) t') { s with toks := k } := fun t' k => ⟨.str _, H, I.tok k, ⟨t', rfl⟩, q⟩
  obtain ⟨o, ho, hc, hd⟩ := hs
  cases pl with
  | none =>
    cases pu with
    | none => exact wpAny_getItem_str_slice (l := none) (u := none) (st := none) ⟨o, ho, hc, hd⟩ rfl (post_val_or_str ⟨Nat.le_trans (Txt.slice_le z _ _) hz, fun t' k => fin t' k⟩)
    | int j uj => exact wpAny_getItem_str_slice (l := none) (u := some (j, uj)) (st := none) ⟨o, ho, hc, hd⟩ rfl (post_val_or_str ⟨Nat.le_trans (Txt.slice_le z _ _) hz, fun t' k => fin t' k⟩)
  | int i ui =>
    cases pu with
    | none => exact wpAny_getItem_str_slice (l := some (i, ui)) (u := none) (st := none) ⟨o, ho, hc, hd⟩ rfl (post_val_or_str ⟨Nat.le_trans (Txt.slice_le z _ _) hz, fun t' k => fin t' k⟩)
    | int j uj => exact wpAny_getItem_str_slice (l := some (i, ui)) (u := some (j, uj)) (st := none) ⟨o, ho, hc, hd⟩ rfl (post_val_or_str ⟨Nat.le_trans (Txt.slice_le z _ _) hz, fun t' k => fin t' k⟩)
def rMt1 (g : Str → Str → V) : V → List V → Hp → VK → Prop := fun x xs H Q => ∃ z y, x = .str z ∧ xs = [.str y] ∧ Q (g z y) H
theorem mt_find : MtR X "str.find" (fun x xs H Q => ∃ z y, x = .str z ∧ xs = [.str y] ∧ Q (.int (Txt.find z y)) H) := by
  intro pins s σ H x xs v us Q I rx rs h
  obtain ⟨z, y, rfl, rfl, q⟩ := h
  obtain ⟨t, rfl⟩ := rx
  obtain ⟨u, rfl, t', rfl⟩ := vals1 rs
  exact SC.find ⟨.int _, H, I.tok _, ⟨_, rfl⟩, q⟩
/-- index of a text that is within -/
def rIndex : V → List V → Hp → VK → Prop := fun x xs H Q => ∃ z y, x = .str z ∧ xs = [.str y] ∧ Txt.contains z y = true ∧ Q (.int (Txt.find z y)) H
def rRstrip : V → List V → Hp → VK → Prop := fun x xs H Q => ∃ z y, x = .str z ∧ xs = [.str y] ∧ z.length ≤ sizeLine ∧ Q (.str (Txt.rstripChars z y)) H
def rJoin (K : PySem.W.Frag) : V → List V → Hp → VK → Prop := fun x xs H Q => ∃ z p ys, x = .str z ∧ xs = [.ref p] ∧ SqL K H p (ys.map V.str) ∧ (ys.map (·.length)).sum + ys.length * z.length ≤ 16777216 ∧ Q (.str (Txt.join z ys)) H
/-- isinstance(x, T), T a built-in type -/
theorem call_isinst {T : String} {b : Bool} : CallR X (.builtin "isinstance") (fun xs H Q => ∃ x t, xs = [x, .ty T] ∧ TyOf X.K H x t ∧ PySem.W.kitOne X.K t (.type T) = some b ∧ Q (.bl b) H) := by
  intro pins s σ H xs us Q I r h
  obtain ⟨x, t, rfl, ty, e, q⟩ := h
  obtain ⟨u, w', rfl, rx, ry⟩ := vals2 r
  cases ry
  exact isinst_ok I rx ty e fun tk => ⟨.bl b, H, I.tok tk, rfl, q⟩
end
end L2

namespace L2
open PySem PySem.Spec PyProof.Rows
/-! ## X3. a comprehension [elt for x in iter if tests] whose block raises nothing -/
def cxComp (X : Cx) (x : Str) (sc : Scope) (cl : List (Str × Addr)) (C : Addr) (fp : List Addr) (s : Shared) (H : Hp) : Cx where
  prog := X.prog
  w := X.w
  K := X.K
  mg := X.mg
  base := X.base
  A := X.A
  N := x :: X.N
  s₀ := s
  H₀ := H
  env := compEnvC sc cl C X.env
  outer := X.stack
  stack := X.stack
  ex := fp
  fn := fun _ => false
  calm := X.calm
  pn := []
  xe := fun _ _ => False
/-- the tests behind the for -/
def PTs (X : Cx) (ifs : List Expr) (t : TT) : Prop :=
  ∀ (pins : List (Addr × Obj)) (s : Shared) (σ : St) (H : Hp) (Q : Bool → Hp → Prop), Inv X pins σ H s → t σ H Q →
    wpAny (model X.prog X.w) X.A (forIn ifs true fun c r => if r = true then do let ok ← isTrue c X.env (eval c X.env); pure (ForInStep.yield ok) else pure (ForInStep.yield r)) (TP X pins σ Q) X.xe s
def tAlways : TT := fun _ H Q => Q true H
theorem tAlways_if {σ : St} {H : Hp} {A B : Hp → Prop} (h : A H) : tAlways σ H (fun b H4 => if b = true then A H4 else B H4) := iteT (A := A H) (B := B H) h
theorem pts_nil {X : Cx} : PTs X [] tAlways := fun _ _ _ H _ I h => wpAny_tests_nil ⟨H, I, h⟩
theorem pts_one {X : Cx} {c : Expr} {t : TT} (h : PT X c t) : PTs X [c] t := fun pins s σ H Q I hw => wpAny_tests_one (h pins s σ H Q I hw)
def tComp (wi : TI) (tt : TT) (te : TE) : TE := fun σ H Q => wi σ H fun J H1 => ∀ D, H1 D = none → ∃ W : Nat → Nat → List V → Hp → Prop,
  (∃ m, W 0 m [] (upd H1 D (.lst []))) ∧ ∀ i m ys H2, W i m ys H2 → H2 D = some (.lst ys) ∧ ((J.stop i H2 ∧ Q (.ref D) H2) ∨ (J.go i H2 ∧ ys.length < sizeLine ∧ ∀ x H3, J.yld i H2 x H3 →
    tt (some x :: σ) H3 fun b H4 => if b = true then te (some x :: σ) H4 fun y H5 => H5 D = some (.lst ys) ∧ ∃ m', m' < m ∧ W (i + 1) m' (ys ++ [y]) (upd H5 D (.lst (ys ++ [y])))
      else ∃ m', m' < m ∧ W (i + 1) m' ys H4))
theorem neA {a b : Nat} (h : a ≠ b) : (show Addr from a) ≠ (show Addr from b) := h
theorem closure_of {sc : Scope} {env : Env} (hf : ∀ y ∈ sc.names, y.2 = .free → ∃ c, env.cells.lookup y.1 = some c) :
    ∃ cl, closureFor sc env = pure cl ∧ (∀ y c, cl.lookup y = some c → env.cells.lookup y = some c) ∧ ∀ y ∈ sc.names, y.2 = .free → ∃ c, cl.lookup y.1 = some c := by
  have go : ∀ (l : List (Str × NameKind)) (acc : List (Str × Addr)), (∀ y ∈ l, y.2 = .free → ∃ c, env.cells.lookup y.1 = some c) → (∀ y c, acc.lookup y = some c → env.cells.lookup y = some c) →
      ∃ cl, (forIn l acc fun (p : Str × NameKind) r => if (p.2 == .free) = true then do let a ← cellOf env p.1; pure (ForInStep.yield ((p.1, a) :: r)) else pure (ForInStep.yield r) : Sem (List (Str × Addr))) = pure cl ∧
        (∀ y c, cl.lookup y = some c → env.cells.lookup y = some c) ∧ (∀ y c, acc.lookup y = some c → ∃ c', cl.lookup y = some c') ∧ ∀ y ∈ l, y.2 = .free → ∃ c, cl.lookup y.1 = some c := by
    intro l
    induction l with
    | nil => intro acc _ ha; exact ⟨acc, rfl, ha, fun y c e => ⟨c, e⟩, fun y hy => by simp at hy⟩
    | cons p r ih =>
      intro acc hl ha
      obtain ⟨n, k⟩ := p
      by_cases hk : k = .free
      · subst hk
        obtain ⟨c, hc⟩ := hl (n, .free) List.mem_cons_self rfl
        have e1 : cellOf env n = pure c := by unfold cellOf; rw [hc]
        have ha' : ∀ y c', ((n, c) :: acc).lookup y = some c' → env.cells.lookup y = some c' := fun y c' e => by
          by_cases hy : (y == n) = true
          · rw [List.lookup_cons, hy] at e
            cases e
            rw [eq_of_beq hy]
            exact hc
          · rw [List.lookup_cons, Bool.eq_false_iff.mpr hy] at e
            exact ha y c' e
        obtain ⟨cl, h1, h2, h3, h4⟩ := ih ((n, c) :: acc) (fun y hy => hl y (List.mem_cons_of_mem _ hy)) ha'
        have kept : ∀ y c', acc.lookup y = some c' → ∃ c'', ((n, c) :: acc).lookup y = some c'' := fun y c' e => by
          by_cases hy : (y == n) = true
          · exact ⟨c, by rw [List.lookup_cons, hy]⟩
          · exact ⟨c', by rw [List.lookup_cons, Bool.eq_false_iff.mpr hy]; exact e⟩
        refine ⟨cl, ?_, h2, fun y c' e => ?_, fun y hy hyf => ?_⟩
        · rw [List.forIn_cons]
          simp only [beq_self_eq_true, if_true, e1, pure_bind]
          exact h1
        · obtain ⟨c'', e'⟩ := kept y c' e
          exact h3 y c'' e'
        · rcases List.mem_cons.mp hy with rfl | hy
          · exact h3 n c (by rw [List.lookup_cons, beq_self_eq_true])
          · exact h4 y hy hyf
      · have hb : (k == NameKind.free) = false := by simpa using hk
        obtain ⟨cl, h1, h2, h3, h4⟩ := ih acc (fun y hy => hl y (List.mem_cons_of_mem _ hy)) ha
        refine ⟨cl, ?_, h2, h3, fun y hy hyf => ?_⟩
        · rw [List.forIn_cons]
          simp only [hb, Bool.false_eq_true, if_false, pure_bind]
          exact h1
        · rcases List.mem_cons.mp hy with rfl | hy
          · exact absurd hyf hk
          · exact h4 y hy hyf
  obtain ⟨cl, h1, h2, _, h4⟩ := go sc.names [] hf (fun y c e => by simp at e)
  refine ⟨cl, ?_, h2, h4⟩
  show ((forIn sc.names [] fun (p : Str × NameKind) r => if (p.2 == .free) = true then do let a ← cellOf env p.1; pure (ForInStep.yield ((p.1, a) :: r)) else pure (ForInStep.yield r) : Sem (List (Str × Addr))) >>= fun s => pure s) = pure cl
  rw [bind_pure, h1]
theorem relabel_lookup {sc : Scope} {env : Env} {y : Str} {k : NameKind} (h : (relabel sc env).names.lookup y = some k) : sc.names.lookup y = some k ∨ (k = .cell ∧ sc.names.lookup y = some .free ∧ env.kindOf y = some .cell) := by
  have go : ∀ (l : List (Str × NameKind)), (l.map fun (n, k) => if (k == .free && env.scope.kind == .function && env.kindOf n == some .cell) then (n, NameKind.cell) else (n, k)).lookup y = some k →
      l.lookup y = some k ∨ (k = .cell ∧ l.lookup y = some .free ∧ env.kindOf y = some .cell) := by
    intro l
    induction l with
    | nil => intro h; simp at h
    | cons p r ih =>
      obtain ⟨n, kk⟩ := p
      intro h
      simp only [List.map_cons] at h
      by_cases hc : (kk == NameKind.free && env.scope.kind == .function && env.kindOf n == some .cell) = true
      · rw [if_pos hc] at h
        rw [List.lookup_cons] at h ⊢
        cases hy : y == n with
        | true =>
          rw [hy] at h
          have e : k = .cell := (Option.some.inj h).symm
          have e1 : kk = .free := by
            have := (Bool.and_eq_true_iff.mp (Bool.and_eq_true_iff.mp hc).1).1
            simpa using this
          have e2 : env.kindOf n = some .cell := by
            have := (Bool.and_eq_true_iff.mp hc).2
            simpa using this
          rw [eq_of_beq hy]
          exact .inr ⟨e, by rw [e1], e2⟩
        | false =>
          rw [hy] at h
          exact ih h
      · rw [if_neg hc] at h
        rw [List.lookup_cons] at h ⊢
        cases hy : y == n with
        | true => rw [hy] at h; exact .inl h
        | false => rw [hy] at h; exact ih h
  exact go sc.names h
section
variable {X : Cx} {elt iter : Expr} {x : Str} {px pos : Pos} {ifs : List Expr} {sc : Scope} {wi : TI} {tt : TT} {te : TE}
end
/-! the forms one uses -/
/-- over the signs of a text, the signs that pass a test, as they are -/
theorem comp_signs {x : Str} {tt : TT} {σ : St} {H : Hp} {Q : VK} (p : Nat → Bool) (hz : x.length ≤ sizeLine)
    (ht : ∀ (i : Nat) (c : Nat) (H' : Hp) (R : Bool → Hp → Prop), x.cps[i]? = some c → R (p c) H' → tt (some (.str ⟨#[c]⟩) :: σ) H' R) (hq : ∀ D, H D = none → Q (.ref D) (upd H D (.lst ((x.cps.toList.filter p).map fun c => V.str ⟨#[c]⟩)))) :
    ∀ D, H D = none → ∃ W : Nat → Nat → List V → Hp → Prop,
  (∃ m, W 0 m [] (upd H D (.lst []))) ∧ ∀ i m ys H2, W i m ys H2 → H2 D = some (.lst ys) ∧ (((Its x).stop i H2 ∧ Q (.ref D) H2) ∨ ((Its x).go i H2 ∧ ys.length < sizeLine ∧ ∀ y H3, (Its x).yld i H2 y H3 →
    tt (some y :: σ) H3 fun b H4 => if b = true then tVar 0 (some y :: σ) H4 fun z H5 => H5 D = some (.lst ys) ∧ ∃ m', m' < m ∧ W (i + 1) m' (ys ++ [z]) (upd H5 D (.lst (ys ++ [z])))
      else ∃ m', m' < m ∧ W (i + 1) m' ys H4)) := by
  intro D hD
  refine ⟨fun i m ys H2 => m = x.length - i ∧ i ≤ x.length ∧ ys = ((x.cps.toList.take i).filter p).map (fun c => V.str ⟨#[c]⟩) ∧ H2 = upd H D (.lst ys), ⟨x.length, by simp, Nat.zero_le _, by simp, rfl⟩, ?_⟩
  rintro i m ys H2 ⟨rfl, hi, rfl, rfl⟩
  refine ⟨upd_same, ?_⟩
  by_cases hlt : i < x.length
  · refine .inr ⟨hlt, ?_, fun y H3 q => ?_⟩
    · rw [List.length_map]
      have := List.length_filter_le p (x.cps.toList.take i)
      rw [List.length_take] at this
      (clear hi hD hq ht; omega)
    · obtain ⟨e, c, hx, e2⟩ := q
      subst e e2
      have hx' : x.cps.toList[i]? = some c := by simpa using hx
      refine ht i c _ _ hx ?_
      cases hp : p c with
      | true =>
        refine iteT ⟨_, rfl, upd_same, x.length - (i + 1), by (clear hp hx' hx hi hD hq ht hz; omega), rfl, hlt, ?_, ?_⟩
        · rw [List.take_add_one, hx', List.filter_append, List.map_append]
          simp [hp]
        · rw [upd_upd]
      | false =>
        refine iteF ⟨x.length - (i + 1), by (clear hp hx' hx hi hD hq ht hz; omega), rfl, hlt, ?_, rfl⟩
        rw [List.take_add_one, hx', List.filter_append, List.map_append]
        simp [hp]
  · have e : i = x.length := by (clear hD hq ht hz; omega)
    subst e
    refine .inl ⟨Nat.le_refl _, ?_⟩
    rw [show x.length = x.cps.toList.length by simp [Str.length], List.take_length]
    exact hq D hD
theorem comp_signsT {j : Nat} {x : Str} {tt : TT} {σ : St} {H : Hp} {Q : VK} (p : Nat → Bool) (hv : σ[j]? = some (some (.str x))) (hz : x.length ≤ sizeLine)
    (ht : ∀ (i : Nat) (c : Nat) (H' : Hp) (R : Bool → Hp → Prop), x.cps[i]? = some c → R (p c) H' → tt (some (.str ⟨#[c]⟩) :: σ) H' R) (hq : ∀ D, H D = none → Q (.ref D) (upd H D (.lst ((x.cps.toList.filter p).map fun c => V.str ⟨#[c]⟩)))) :
    tComp (iStr (tVar j)) tt (tVar 0) σ H Q := ⟨_, hv, x, rfl, comp_signs p hz ht hq⟩
end L2

namespace L2
open PySem PySem.Spec PyProof.Rows
/-! ## X4. a def of the text that may be called by its name -/
def Df (P : Program) (w : World) (K : PySem.W.Frag) (mg : Str → Option Value) (base : Heap) (x : Str) (k : Nat) (ps : List Str) (sp : Sp) : Prop :=
  ∃ (f : Addr) (fd : FuncData), mg x = some (.ref f) ∧ PySem.W.keepIn K (.ref f) = true ∧ Binds K fd ps [] ∧ FnOk P w K mg base CX0 k f fd ps sp
theorem pe_df {X : Cx} {x : Str} {k : Nat} {ps : List Str} {sp : Sp} {e : Expr} {es : List Expr} {p pos : Pos} {t : TA} (D : Df X.prog X.w X.K X.mg X.base x k ps sp) (hr : Room k X.A) (ha : PA X (e :: es) t)
    (hg : Gl X x := by rfl) (hdb : (x == ("__debug__" : Str)) = false := by decide) (he : starEach (e :: es) X.env = (false, eval e X.env) :: starEach es X.env := by rfl) (hpl : (backTo pos (starEach es X.env)).any (·.1) = false := by rfl) :
    PE X (.Call (.Name x p) (e :: es) [] pos) (tCall sp [] E0 t) := by
  obtain ⟨f, fd, h1, h2, h3, F⟩ := D
  exact pe_call F hr hg h1 h2 h3 .nil pass0 ha hdb he hpl
theorem iteD {c A B : Prop} [Decidable c] (hc : c) (h : A) : if decide c = true then A else B := by
  rw [decide_eq_true hc]
  exact iteT h
theorem iteN {c A B : Prop} [Decidable c] (hc : ¬ c) (h : B) : if decide c = true then A else B := by
  rw [decide_eq_false hc]
  exact iteF h
theorem iteB {c : Bool} {A B : Prop} (h1 : c = true → A) (h2 : c = false → B) : if c = true then A else B := by
  cases c
  · exact iteF (h2 rfl)
  · exact iteT (h1 rfl)
theorem ite3 {c A B : Prop} [Decidable c] (h1 : c → A) (h2 : ¬ c → B) : if decide c = true then A else B := by
  by_cases h : c
  · exact iteD h (h1 h)
  · exact iteN h (h2 h)
theorem Same.upd {H : Hp} {D : Addr} {o : HO} (n : H D = none) : Same H (upd H D o) := fun b u e => by rw [upd_ne (ne_of_none e n)]; exact e
theorem line_ge {n : Nat} (h : n ≤ 16777216) : n ≤ sizeLine := by rw [sizeLine_eq]; exact h
theorem atI_in {α : Type} {xs : List α} {i : Int} (h0 : 0 ≤ i) (h1 : i < xs.length) : ∃ v, atI xs i = some v ∧ xs[i.toNat]? = some v := by
  obtain ⟨j, rfl⟩ := Int.eq_ofNat_of_zero_le h0
  have hj : j < xs.length := by (clear h0; omega)
  exact ⟨xs[j], atI_nat (by simp [hj]), by simp [hj]⟩
end L2
namespace L2
open PySem PySem.Spec PyProof.Rows
/-- a statement, what holds behind it, the rest -/
def tCut (t u : TS) : TS := fun D σ H => ∃ M : St → Hp → Prop, t { D with nx := M } σ H ∧ ∀ σ' H', M σ' H' → u D σ' H'
theorem pss_cut {X : Cx} {st : Stmt} {rest : List Stmt} {t u : TS} (h1 : PS X st t) (h2 : PSs X rest u) : PSs X (st :: rest) (tCut t u) := by
  intro pins s σ H D I h
  obtain ⟨M, h, hM⟩ := h
  refine wpAny_execs_cons (thn (h1 pins s σ H { D with nx := M } I h) fun f s1 q => ?_)
  cases f with
  | next =>
    obtain ⟨σ', H', I', q⟩ := q
    exact h2 pins s1 σ' H' D I' (hM σ' H' q)
  | ret v => exact q
  | brk => exact q
  | cont => exact q
def cutI (ns : List Int) (lo hi : Option Int) : List Int := (ns.drop (HT.sIx ns.length 0 lo)).take (HT.sIx ns.length ns.length hi - HT.sIx ns.length 0 lo)
theorem cutV_ints (ns : List Int) (lo hi : Option Int) : cutV (ns.map V.int) lo hi = (cutI ns lo hi).map V.int := by
  unfold cutV cutI
  rw [List.length_map, List.map_take, List.map_drop]
theorem cutI_length (ns : List Int) (lo hi : Option Int) : (cutI ns lo hi).length ≤ ns.length := by
  unfold cutI
  rw [List.length_take, List.length_drop]
  omega
/-- the law's own promise -/
def spLaw (K : PySem.W.Frag) : Sp := fun vs H Q _ => ∃ (a : Addr) (ns : List Int), vs = [.ref a] ∧ SqL K H a (ns.map V.int) ∧ ns.length ≤ 63 ∧ ∀ H', Q (.bl true) H'
theorem walk63 {l : PySem.W.OpenLaw} {k : Nat} {x : Str} {q : Program} {loose : List Str} {XP : (Str → Option Value) → Heap → Prop} {YP : World → Heap → Prop} {d : DefRec} {K : Params → PySem.W.Frag} (hn : l.most = some 63) (hdf : d.params.defaults = []) (hr : Room k callerA)
    (hY : ∀ (w : World) (h : Heap), YP w h → (K w.params).In h)
    (F : ∀ (w : World) (mg : Str → Option Value) (fa : Addr) (h : Heap), (K w.params).In h → h.Ns mainGlobals mg → mg d.name = some (.ref fa) →
      ∃ fd : FuncData, (∀ (s : Shared) (u : Value), BindsTo s fd ⟨[u], []⟩ [(x, u)]) ∧ ∀ base : Heap, (K w.params).In base → base.Ns mainGlobals mg → FnOk l.prog w (K w.params) mg base CX0 k fa fd [x] (spLaw (K w.params))) :
    PySem.W.WalkO q loose XP YP l.row.toRowW d [] (fun f vs => PySem.call f vs) :=
  L2.walk_of (n := 63) (k := k) (x := x) (CX := fun _ => CX0) (sp := fun w => spLaw (K w.params)) hn (by decide) hdf hr hY F (fun _ _ a ns hl _ hS => ⟨a, ns, rfl, hS, hl, fun _ => rfl⟩) fun _ _ _ _ _ z => z
end L2
namespace L2
open PySem PySem.Spec PyProof.Rows
section
variable {X : Cx}
/-- the same, said plainly -/
theorem op_m : OpR X (binaryOp .Mod) (fun x y H Q => ∃ i j, x = .int i ∧ y = .int j ∧ 0 < j ∧ Q (.int (i % j)) H) := op_mod
theorem op_f : OpR X (binaryOp .FloorDiv) (fun x y H Q => ∃ i j, x = .int i ∧ y = .int j ∧ (0 < j ∧ j < 1073741824) ∧ Q (.int (i / j)) H) := op_fdiv
theorem op_a : OpR X (binaryOp .Add) (fun x y H Q => ∃ i j, x = .int i ∧ y = .int j ∧ Q (.int (i + j)) H) := op_add
theorem op_s : OpR X (binaryOp .Sub) (fun x y H Q => ∃ i j, x = .int i ∧ y = .int j ∧ Q (.int (i - j)) H) := op_sub
theorem op_p : OpR X (binaryOp .Mult) (fun x y H Q => ∃ i j, x = .int i ∧ y = .int j ∧ ((-(2 ^ 64) < i ∧ i < 2 ^ 64) ∨ (-(2 ^ 64) < j ∧ j < 2 ^ 64)) ∧ Q (.int (i * j)) H) := op_mul
end
end L2

namespace RA
open PySem PySem.StrLaws Builtin Builtin.Str
/-- a text by its codes -/
def tx (l : List Nat) : Str := ⟨l.toArray⟩
theorem tx_cps (l : List Nat) : (tx l).cps.toList = l := by simp [tx]
theorem tx_len (l : List Nat) : (tx l).length = l.length := by simp [tx, Str.length]
theorem tx_app (a b : List Nat) : tx a ++ tx b = tx (a ++ b) := by
  apply Str.ext'
  show a.toArray ++ b.toArray = (a ++ b).toArray
  simp
theorem tx_get (l : List Nat) (i : Nat) : (tx l).cps[i]? = l[i]? := by simp [tx]
theorem at_one (l : List Nat) (c i : Nat) : At (tx l) ⟨#[c]⟩ (tx l).length i ↔ l[i]? = some c := by
  have h := subAt_one (tx l) c i
  rw [tx_cps] at h
  exact h
theorem contains_one (l : List Nat) (c : Nat) : Txt.contains (tx l) ⟨#[c]⟩ = decide (c ∈ l) := by
  have h := found_one (tx l) c
  rw [tx_cps] at h
  exact h
theorem idxOf_le : ∀ {l : List Nat} {c i : Nat}, l[i]? = some c → l.idxOf c ≤ i
  | [], _, _, h => by simp at h
  | a :: l, c, 0, h => by
    have e : a = c := by simpa using h
    subst e
    simp
  | a :: l, c, i + 1, h => by
    rw [List.idxOf_cons]
    cases e : a == c with
    | true => simp
    | false =>
      have := idxOf_le (l := l) (c := c) (i := i) (by simpa using h)
      simp
      (clear e h; omega)
theorem find_one {l : List Nat} {c : Nat} (h : c ∈ l) : Txt.find (tx l) ⟨#[c]⟩ = (l.idxOf c : Nat) := by
  unfold Txt.find
  rcases occ_head (tx l) ⟨#[c]⟩ 1 (Nat.le_refl _) with ⟨_, hn⟩ | ⟨i, r, e, ha, hn⟩
  · obtain ⟨i, hi⟩ := List.mem_iff_getElem?.mp h
    exact absurd ((at_one l c i).mpr hi) (hn i)
  · rw [e]
    have hi := (at_one l c i).mp ha
    have hlt : l.idxOf c < l.length := List.idxOf_lt_length_of_mem h
    have e1 : l[l.idxOf c]? = some c := by
      rw [List.getElem?_eq_getElem hlt, List.getElem_idxOf hlt]
    have h1 : ¬ l.idxOf c < i := fun z => hn _ z ((at_one l c _).mpr e1)
    have h2 : l.idxOf c ≤ i := by
      exact idxOf_le hi
    have : i = l.idxOf c := by (clear e1 hlt hi hn e; omega)
    rw [this]
theorem slice_to (x : Str) {j : Int} (h : 0 ≤ j) : Txt.slice x none (some j) = tx (x.cps.toList.take j.toNat) := by
  have go : ∀ j : Int, 0 ≤ j → j ≤ x.cps.toList.length → Txt.slice x none (some j) = tx (x.cps.toList.take j.toNat) := fun j h0 h1 => by
    have e : Txt.slice x none (some j) = sliceText x none (some j) := rfl
    rw [e, sliceText_to ⟨h0, h1⟩]
    simp [tx]
  by_cases hj : j ≤ x.cps.toList.length
  · exact go j h hj
  · have e : Txt.slice x none (some j) = Txt.slice x none (some (x.length : Int)) := by
      have hl : x.length = x.cps.toList.length := by simp [Str.length]
      have e1 : strSliceIndices none (some j) 1 x.length = strSliceIndices none (some (x.length : Int)) 1 x.length := by
        have a : ¬ (j < 0) := by (clear hl hj go; omega)
        have b : ¬ ((x.length : Int) < 0) := by (clear a hj go h; omega)
        have m : min j (x.length : Int) = (x.length : Int) := by (clear b a go h; omega)
        simp [strSliceIndices, a, b, m]
      unfold Txt.slice
      rw [e1]
    rw [e, go _ (by (clear e hj go h; omega)) (by simp [Str.length])]
    have hl : x.length = x.cps.toList.length := by simp [Str.length]
    rw [List.take_of_length_le (i := j.toNat) (by (clear e go; omega)), List.take_of_length_le (by (clear e hj go h; omega))]
theorem slice_from (x : Str) {i : Int} (h : 0 ≤ i) (h1 : i ≤ x.cps.toList.length) : Txt.slice x (some i) none = tx (x.cps.toList.drop i.toNat) := by
  have e : Txt.slice x (some i) none = sliceText x (some i) none := rfl
  rw [e, sliceText_from ⟨h, h1⟩]
  have e2 : ((x.cps.toList.length : Int) - i).toNat = (x.cps.toList.drop i.toNat).length := by rw [List.length_drop]; (clear e; omega)
  rw [e2, List.take_length]
  rfl
end RA

namespace RA
open PySem PySem.StrLaws Builtin Builtin.Str
/-- letters by their codes -/
structure Let (L : List Nat) : Prop where
  lo : 1 ≤ L.length
  hi : L.length ≤ 3
  nd : L.Nodup
  az : ∀ c ∈ L, 97 ≤ c ∧ c ≤ 122
def val (L : List Nat) : Int → List Nat → Int
  | v, [] => v
  | v, c :: w => val L (v * (L.length : Int) + (L.idxOf c : Nat) + 1) w
theorem idx_get {L : List Nat} (nd : L.Nodup) {i : Nat} (h : i < L.length) : L.idxOf L[i] = i := by
  have h1 := idxOf_le (l := L) (c := L[i]) (i := i) (by simp [h])
  have hlt : L.idxOf L[i] < L.length := by omega
  have e := List.getElem_idxOf hlt
  by_cases hh : L.idxOf L[i] < i
  · exact absurd e (List.pairwise_iff_getElem.mp nd _ _ hlt h hh)
  · (clear e; omega)
/-- one sign drawn out of what is left -/
theorem draw_one {f l : List Nat} {i : Nat} (hi : i < l.length) (nd : (f ++ l).Nodup) : ((f ++ [l[i]]) ++ (l.take i ++ l.drop (i + 1))).Nodup ∧ ∀ c, c ∈ (f ++ [l[i]]) ++ (l.take i ++ l.drop (i + 1)) → c ∈ f ++ l := by
  have e : l = l.take i ++ l[i] :: l.drop (i + 1) := by
    conv => lhs; rw [← List.take_append_drop i l, List.drop_eq_getElem_cons hi]
  have p : (f ++ l).Perm ((f ++ [l[i]]) ++ (l.take i ++ l.drop (i + 1))) := by
    conv => lhs; rw [e]
    rw [List.append_assoc]
    refine List.Perm.append_left f ?_
    show (l.take i ++ l[i] :: l.drop (i + 1)).Perm (l[i] :: (l.take i ++ l.drop (i + 1)))
    exact List.perm_middle
  exact ⟨p.nodup_iff.mp nd, fun c hc => p.mem_iff.mpr hc⟩
end RA

namespace RA
open PySem L2
theorem abc_eq : (Str.ofString "abcdefghijklmnopqrstuvwxyz") = tx (List.range' 97 26) := by decide +kernel
theorem empty_eq : (Str.ofString "") = tx [] := by decide +kernel
/-- the sign that a cell draws -/
def signAt (L : List Nat) (z : Int) : Nat := L.getD (z % (L.length : Int)).toNat 0
def signV (L : List Nat) : V → V
  | .int z => .str ⟨#[signAt L z]⟩
  | v => v
end RA
namespace RA
open PySem L2 Builtin Builtin.Str
end RA

namespace L2
open PySem PySem.Spec PyProof.Rows
/-! ## X6. sums that forget what they are -/
section
variable {X : Cx}
theorem op_modG : OpR X (binaryOp .Mod) (fun x y H Q => ∃ i j, x = .int i ∧ y = .int j ∧ 0 < j ∧ ∀ r, 0 ≤ r → r < j → Q (.int r) H) := by
  intro pins s σ H x y v u Q I rx ry h
  obtain ⟨i, j, e1, e2, hj, q⟩ := h
  exact op_mod pins s σ H x y v u Q I rx ry ⟨i, j, e1, e2, hj, q _ (Int.emod_nonneg _ (by (clear q e2 e1; omega))) (Int.emod_lt_of_pos _ hj)⟩
theorem op_fdivG : OpR X (binaryOp .FloorDiv) (fun x y H Q => ∃ i j, x = .int i ∧ y = .int j ∧ CDiv i j ∧ 0 ≤ i ∧ ∀ r, 0 ≤ r → Q (.int r) H) := by
  intro pins s σ H x y v u Q I rx ry h
  obtain ⟨i, j, e1, e2, hj, hi, q⟩ := h
  exact op_fdiv pins s σ H x y v u Q I rx ry ⟨i, j, e1, e2, hj, q _ (Int.ediv_nonneg hi (by have := hj.1; (clear q hi e2 e1; omega)))⟩
end
theorem upd_keep {H : Hp} {a b : Addr} {o u : HO} (h : H a = some o) (n : H b = none) : upd H b u a = some o := by
  rw [upd_ne (ne_of_none h n)]
  exact h
theorem upd_keep2 {H : Hp} {a b : Addr} {o u v : HO} (h : H a = some o) (n : H b = some v) (d : o ≠ v) : upd H b u a = some o := by
  rw [upd_ne (ne_of h n d)]
  exact h
theorem kit_ib (K : PySem.W.Frag) : PySem.W.kitOne K (.type "int") (.type "bool") = some false := by kernel_rfl
theorem kit_ii (K : PySem.W.Frag) : PySem.W.kitOne K (.type "int") (.type "int") = some true := by with_unfolding_all rfl
theorem kit_ss (K : PySem.W.Frag) : PySem.W.kitOne K (.type "str") (.type "str") = some true := by with_unfolding_all rfl
end L2
namespace RA
open PySem L2
structure Mach (L : List Nat) (W : List (List Nat)) (B : List Bool) : Prop where
  lt : Let L
  n1 : 1 ≤ W.length
  n60 : W.length ≤ 60
  bl : B.length = W.length
  row : ∀ ws ∈ W, ws.length = L.length ∧ ∀ x ∈ ws, x < W.length
def nxt (L : List Nat) (W : List (List Nat)) (r c : Nat) : Nat := (W.getD r []).getD (L.idxOf c) 0
def run (L : List Nat) (W : List (List Nat)) (r : Nat) (w : List Nat) : Nat := w.foldl (nxt L W) r
theorem Mach.at {L : List Nat} {W : List (List Nat)} {B : List Bool} (h : Mach L W B) {r c : Nat} (hr : r < W.length) (hc : c ∈ L) :
    ∃ ws x, W[r]? = some ws ∧ ws[L.idxOf c]? = some x ∧ nxt L W r c = x ∧ x < W.length := by
  have hw : W[r]? = some W[r] := by simp [hr]
  obtain ⟨h1, h2⟩ := h.row W[r] (List.getElem_mem hr)
  have hi : L.idxOf c < W[r].length := by rw [h1]; exact List.idxOf_lt_length_of_mem hc
  have hx : W[r][L.idxOf c]? = some W[r][L.idxOf c] := by simp [hi]
  refine ⟨W[r], W[r][L.idxOf c], hw, hx, ?_, h2 _ (List.getElem_mem hi)⟩
  unfold nxt
  have e1 : W.getD r [] = W[r] := by
    rw [List.getD_eq_getElem?_getD, hw]
    rfl
  rw [e1, List.getD_eq_getElem?_getD, hx]
  rfl
theorem run_snoc (L : List Nat) (W : List (List Nat)) (r : Nat) (w : List Nat) (c : Nat) : run L W r (w ++ [c]) = nxt L W (run L W r w) c := by
  unfold run
  rw [List.foldl_append]
  rfl
theorem run_lt {L : List Nat} {W : List (List Nat)} {B : List Bool} (h : Mach L W B) : ∀ {w : List Nat} {r : Nat}, r < W.length → (∀ c ∈ w, c ∈ L) → run L W r w < W.length
  | [], _, hr, _ => hr
  | c :: w, r, hr, hw => by
    obtain ⟨ws, x, _, _, e, hx⟩ := h.at hr (hw c (by simp))
    exact run_lt h (w := w) (r := nxt L W r c) (by rw [e]; exact hx) fun d hd => hw d (by simp [hd])
def intsV (ws : List Nat) : List V := ws.map fun (n : Nat) => V.int (n : Int)
def RowsAt (H : Hp) (rows : List Addr) (W : List (List Nat)) : Prop := ∀ (i : Nat) (r : Addr), rows[i]? = some r → ∃ ws, W[i]? = some ws ∧ H r = some (.tup (intsV ws))
def MachAt (H : Hp) (m : Addr) (L : List Nat) (W : List (List Nat)) (B : List Bool) : Prop :=
  ∃ (wy mk : Addr) (rows : List Addr), H m = some (.tup [.str (tx L), .ref wy, .ref mk]) ∧ H wy = some (.tup (rows.map V.ref)) ∧ H mk = some (.tup (B.map V.bl)) ∧ rows.length = W.length ∧ RowsAt H rows W
theorem RowsAt.same {H H' : Hp} {rows : List Addr} {W : List (List Nat)} (h : RowsAt H rows W) (s : Same H H') : RowsAt H' rows W := fun i r e => by
  obtain ⟨ws, h1, h2⟩ := h i r e
  exact ⟨ws, h1, s _ _ h2⟩
theorem MachAt.same {H H' : Hp} {m : Addr} {L : List Nat} {W : List (List Nat)} {B : List Bool} (h : MachAt H m L W B) (s : Same H H') : MachAt H' m L W B := by
  obtain ⟨wy, mk, rows, h1, h2, h3, h4, h5⟩ := h
  exact ⟨wy, mk, rows, s _ _ h1, s _ _ h2, s _ _ h3, h4, h5.same s⟩
theorem atI_map {α β : Type} {xs : List α} (f : α → β) {i : Nat} {x : α} (h : xs[i]? = some x) : atI (xs.map f) ((i : Nat) : Int) = some (f x) := atI_nat (by rw [List.getElem?_map, h]; rfl)
end RA
namespace RA
end RA

namespace L2
open PySem
/-! ## X7. reversed(xs), and a text joined over what it walks -/
namespace RV
section
variable {prog : Program} {w : World} {A : Around} {E : Value → Shared → Prop} {s : Shared}
end
end RV
end L2

namespace L2
open PySem PySem.Spec PyProof.Rows
section
variable {X : Cx}
/-- sep.join(reversed(e)), e a list of texts -/
def tJoinRev (K : PySem.W.Frag) (to : TE) (t : TA) : TE := fun σ H Q => to σ H fun x H1 => ∃ z, x = .str z ∧ t σ H1 fun vs H2 => ∃ (p : Addr) (ys : List Str), vs = [.ref p] ∧ SqL K H2 p (ys.map V.str) ∧ (ys.map (·.length)).sum + ys.length * z.length ≤ 16777216 ∧ Q (.str (Txt.join z ys.reverse)) H2
end
end L2

namespace L2
open PySem
/-! ## X8. zip over two iterators of one object each (texts) -/
namespace ZP
/-- nothing is made, and nothing changes but at these addresses -/
def Keep (S : List Addr) (h h' : Heap) : Prop := h'.objs.size = h.objs.size ∧ ∀ c o, c ∉ S → h.get? c = some o → h'.get? c = some o
theorem Keep.one {a : Addr} {S : List Addr} {h h' : Heap} (x : Heap.SameBut a h h') (m : a ∈ S) : Keep S h h' := ⟨x.1, fun c o hc e => (x.2 c fun q => hc (q ▸ m)).trans e⟩
theorem Keep.trans {S : List Addr} {h h1 h2 : Heap} (x : Keep S h h1) (y : Keep S h1 h2) : Keep S h h2 := ⟨y.1.trans x.1, fun c o hc e => y.2 c o hc (x.2 c o hc e)⟩
section
variable {prog : Program} {w : World} {A : Around} {E : Value → Shared → Prop} {s : Shared} {z TI TO i1 i2 : Addr} {f1 f2 : List Addr} {n1 n2 k : Nat} {P1 P2 : Nat → Value → Prop} {S1 S2 : Nat → Heap → Prop} {a b : Value}
/-- a turn that tells a pair -/
theorem toldL {Q : Value → Shared → Prop} (D1 : Draws prog w A i1 f1 n1 P1 S1) (D2 : Draws prog w A i2 f2 n2 P2 S2) (m1 : ∀ c ∈ f1, c = i1 ∨ c ∉ [z, TO, i1, i2]) (m2 : ∀ c ∈ f2, c = i2 ∨ c ∉ [z, TO, i1, i2]) (ap : ZipApart z TI TO i1 i2 TI TI) (hz : IsZip s.heap z TI TO .none) (hTI : IsPair s.heap TI (.ref i1) (.ref i2)) (hTO : IsPair s.heap TO a b)
    (h1 : S1 k s.heap) (h2 : S2 k s.heap) (l1 : k < n1) (l2 : k < n2)
    (hQ : ∀ x y h' tk, P1 k x → P2 k y → IsZip h' z TI TO (rawInt s.heap.objs.size) → IsPair h' TI (.ref i1) (.ref i2) → IsPair h' TO x y → S1 (k + 1) h' → S2 (k + 1) h' → IsPair h' s.heap.objs.size x y →
      (∀ c o, c ∉ [z, TO, i1, i2] → s.heap.get? c = some o → h'.get? c = some o) → Q (.ref s.heap.objs.size) { s with heap := h', toks := tk }) :
    wpAny (model prog w) A (Builtin.«zip.__next__» ⟨[.ref z], []⟩) (fun fin s' => ∃ v, fin = .done (.ret v) ∧ Q v s') E s := by
  unfold Builtin.«zip.__next__»
  refine wpAny_bind (wpAny_of_eq (a := (Value.ref z, [])) rfl (wpAny_bind (wpAny_field hz rfl (x := .bool false) rfl (wpAny_bind (wpAny_field hz rfl (x := .ref TI) rfl (wpAny_bind (wpAny_seqItems hTI rfl ?_)))))))
  refine wpAny_ite_false (by simp) (wpAny_bind ?_)
  unfold Builtin.SmallTypes.ownedTupleIsFree
  refine wpAny_bind (wpAny_field hz rfl (x := .none) rfl (wpAny_pure (wpAny_ite_true (by decide) (wpAny_bind (wpAny_rule (wpAny_bind (wpAny_field hz rfl (x := .ref TO) rfl (wpAny_bind (wpAny_setField_rec hz (by simp) fun g1 z1 c1 => ?_)))))))))
  -- what may change, and how far it has come
  have k1 : Keep [z, TO, i1, i2] s.heap g1 := .one c1 (by simp)
  have S1f : ∀ {j : Nat} {g g' : Heap}, (∀ c o, c ∉ [z, TO, i1, i2] → g.get? c = some o → g'.get? c = some o) → S1 j g → (∀ o, g.get? i1 = some o → g'.get? i1 = some o) → S1 j g' := fun k st e => D1.frame _ _ _ st fun c hc => by
    rcases m1 c hc with rfl | hn
    · exact e
    · exact fun o q => k c o hn q
  have S2f : ∀ {j : Nat} {g g' : Heap}, (∀ c o, c ∉ [z, TO, i1, i2] → g.get? c = some o → g'.get? c = some o) → S2 j g → (∀ o, g.get? i2 = some o → g'.get? i2 = some o) → S2 j g' := fun k st e => D2.frame _ _ _ st fun c hc => by
    rcases m2 c hc with rfl | hn
    · exact e
    · exact fun o q => k c o hn q
  simp only [List.zipIdx_cons, List.zipIdx_nil, List.forIn_cons, List.forIn_nil]
  refine wpAny_bind (wpAny_bind (wpAny_bind (wpAny_onRaise (wpAny_bind (m := Builtin.SmallTypes.nextOf (.ref i1)) (D1.item k _ _ _ l1 (S1f k1.2 h1 fun o e => (c1.2 i1 ap.i1z).trans e) fun x g2 t2 p1 d1 c2 => wpAny_pure ?_)))))
  have o2 : IsPair g2 TO a b := (c2.2 TO ap.TOi1).trans ((c1.2 TO ap.TOz).trans hTO)
  refine wpAny_bind (wpAny_seqItems o2 rfl (wpAny_bind (wpAny_updateSeq_pair o2 fun g3 o3 c3 => wpAny_bind (wpAny_letGo (wpAny_pure (wpAny_bind (wpAny_bind (wpAny_onRaise (wpAny_bind (m := Builtin.SmallTypes.nextOf (.ref i2)) (D2.item k _ _ _ l2 (S2f ((k1.trans (.one c2 (by simp))).trans (.one c3 (by simp))).2 h2 fun o e => ?_) fun y g4 t4 p2 d2 c4 => wpAny_pure ?_))))))))))
  · exact (c3.2 i2 ap.TOi2.symm).trans ((c2.2 i2 ap.i12.symm).trans ((c1.2 i2 ap.i2z).trans e))
  have o4 : IsPair g4 TO x b := (c4.2 TO ap.TOi2).trans o3
  refine wpAny_bind (wpAny_seqItems o4 rfl (wpAny_bind (wpAny_updateSeq_pair o4 fun g5 o5 c5 => wpAny_bind (wpAny_letGo (wpAny_pure (wpAny_pure ?_))))))
  replace o5 : IsPair g5 TO x y := o5
  have k5 : Keep [z, TO, i1, i2] s.heap g5 := (((k1.trans (.one c2 (by simp))).trans (.one c3 (by simp))).trans (.one c4 (by simp))).trans (.one c5 (by simp))
  have z5 : IsZip g5 z TI TO .ellipsis := (c5.2 z ap.TOz.symm).trans ((c4.2 z ap.i2z.symm).trans ((c3.2 z ap.TOz.symm).trans ((c2.2 z ap.i1z.symm).trans z1)))
  have st1 : S1 (k + 1) g5 := S1f (((Keep.one (S := [z, TO, i1, i2]) c3 (by simp)).trans (.one c4 (by simp))).trans (.one c5 (by simp))).2 d1 fun o e => (c5.2 i1 ap.TOi1.symm).trans ((c4.2 i1 ap.i12).trans ((c3.2 i1 ap.TOi1.symm).trans e))
  have st2 : S2 (k + 1) g5 := S2f (Keep.one (S := [z, TO, i1, i2]) c5 (by simp)).2 d2 fun o e => (c5.2 i2 ap.TOi2.symm).trans e
  refine wpAny_bind (wpAny_seqItems o5 rfl (wpAny_bind (wpAny_newTuple ?_)))
  unfold Builtin.SmallTypes.ownedTupleHandOut
  have z6 : IsZip (g5.push { cls := .type "tuple", data := .seq #[x, y] }) z TI TO .ellipsis := Heap.get?_push_of_some _ z5
  refine wpAny_bind (wpAny_bind (wpAny_setField_rec z6 (by simp) fun g7 z7 c7 => ?_))
  replace z7 : IsZip g7 z TI TO (rawInt g5.objs.size) := z7
  refine wpAny_setField_rec z7 (by simp) fun g8 z8 c8 => wpAny_pure ⟨_, rfl, ?_⟩
  replace z8 : IsZip g8 z TI TO (rawInt g5.objs.size) := z8
  have up : ∀ c o, c ≠ z → g5.get? c = some o → g8.get? c = some o := fun c o hc e => (c8.2 c hc).trans ((c7.2 c hc).trans (Heap.get?_push_of_some _ e))
  have zlt : g5.objs.size ≠ z := Nat.ne_of_gt (Heap.lt_size z5)
  have new : IsPair g8 g5.objs.size x y := (c8.2 _ zlt).trans ((c7.2 _ zlt).trans (Heap.get?_push_size _ rfl))
  have sz : g5.objs.size = s.heap.objs.size := k5.1
  have ti5 : IsPair g5 TI (.ref i1) (.ref i2) := k5.2 TI _ (by simp [ap.TIz, ap.TITO, ap.TIi1, ap.TIi2]) hTI
  show Q (.ref g5.objs.size) _
  rw [sz] at z8 new ⊢
  exact hQ x y g8 t4 p1 p2 z8 (up _ _ ap.TIz ti5) (up _ _ ap.TOz o5) (S1f (fun c o hc e => up c o (fun q => hc (by simp [q])) e) st1 fun o e => up _ o ap.i1z e) (S2f (fun c o hc e => up c o (fun q => hc (by simp [q])) e) st2 fun o e => up _ o ap.i2z e) new fun c o hc e => up c o (fun q => hc (by simp [q])) (k5.2 c o hc e)
/-- the turn at which one of the two has no more -/
theorem endedL {Q : Fin → Shared → Prop} (D1 : Draws prog w A i1 f1 n1 P1 S1) (D2 : Draws prog w A i2 f2 n2 P2 S2) (m1 : ∀ c ∈ f1, c = i1 ∨ c ∉ [z, TO, i1, i2]) (m2 : ∀ c ∈ f2, c = i2 ∨ c ∉ [z, TO, i1, i2]) (ap : ZipApart z TI TO i1 i2 TI TI) (hz : IsZip s.heap z TI TO .none) (hTI : IsPair s.heap TI (.ref i1) (.ref i2)) (hTO : IsPair s.heap TO a b)
    (h1 : S1 k s.heap) (h2 : S2 k s.heap) (hend : k = n1 ∨ (k < n1 ∧ k = n2))
    (hE : ∀ h' e tk, (∀ c o, c ∉ [z, TO, i1, i2] → s.heap.get? c = some o → h'.get? c = some o) → (∃ o, h'.get? e = some o ∧ o.cls = .type "StopIteration") → E (.ref e) { s with heap := h', toks := tk }) :
    wpAny (model prog w) A (Builtin.«zip.__next__» ⟨[.ref z], []⟩) Q E s := by
  unfold Builtin.«zip.__next__»
  refine wpAny_bind (wpAny_of_eq (a := (Value.ref z, [])) rfl (wpAny_bind (wpAny_field hz rfl (x := .bool false) rfl (wpAny_bind (wpAny_field hz rfl (x := .ref TI) rfl (wpAny_bind (wpAny_seqItems hTI rfl (wpAny_ite_false (by simp) (wpAny_bind ?_)))))))))
  unfold Builtin.SmallTypes.ownedTupleIsFree
  refine wpAny_bind (wpAny_field hz rfl (x := .none) rfl (wpAny_pure (wpAny_ite_true (by decide) (wpAny_bind (wpAny_rule (wpAny_bind (wpAny_field hz rfl (x := .ref TO) rfl (wpAny_bind (wpAny_setField_rec hz (by simp) fun g1 z1 c1 => ?_)))))))))
  have k1 : Keep [z, TO, i1, i2] s.heap g1 := .one c1 (by simp)
  have S1f : ∀ {j : Nat} {g g' : Heap}, (∀ c o, c ∉ [z, TO, i1, i2] → g.get? c = some o → g'.get? c = some o) → S1 j g → (∀ o, g.get? i1 = some o → g'.get? i1 = some o) → S1 j g' := fun k st e => D1.frame _ _ _ st fun c hc => by
    rcases m1 c hc with rfl | hn
    · exact e
    · exact fun o q => k c o hn q
  have S2f : ∀ {j : Nat} {g g' : Heap}, (∀ c o, c ∉ [z, TO, i1, i2] → g.get? c = some o → g'.get? c = some o) → S2 j g → (∀ o, g.get? i2 = some o → g'.get? i2 = some o) → S2 j g' := fun k st e => D2.frame _ _ _ st fun c hc => by
    rcases m2 c hc with rfl | hn
    · exact e
    · exact fun o q => k c o hn q
  have s1 : S1 k g1 := S1f k1.2 h1 fun o e => (c1.2 i1 ap.i1z).trans e
  -- the record is given back its tuple, and the end goes on outward
  have out : ∀ (it : Addr) (g g' : Heap) (e : Addr) (tk : Nat), it = i1 ∨ it = i2 → Keep [z, TO, i1, i2] s.heap g → IsZip g z TI TO .ellipsis → Heap.ExtBut it g g' → (∃ o, g'.get? e = some o ∧ o.cls = .type "StopIteration") →
      wpAny (model prog w) A (setField (.ref z) 0 .none) (fun _ s' => E (.ref e) s') E { s with heap := g', toks := tk } := fun it g g' e tk hit hk hg hx he => by
    obtain ⟨oe, he, ce⟩ := he
    have zit : z ≠ it := by rcases hit with q | q <;> rw [q]; exact ap.i1z.symm; exact ap.i2z.symm
    have zg : IsZip g' z TI TO .ellipsis := hx z _ zit hg
    have ez : e ≠ z := fun q => by
      rw [q] at he
      have := congrArg (Option.map Obj.cls) (he.symm.trans zg)
      rw [Option.map_some, Option.map_some, ce] at this
      exact absurd (show Value.type "StopIteration" = Value.type "zip" from Option.some.inj this) (by decide)
    refine wpAny_setField_rec (s := { s with heap := g', toks := tk }) zg (by simp) fun g2 _ c2 => hE g2 e tk (fun c o hc q => ?_) ⟨oe, (c2.2 e ez).trans he, ce⟩
    refine (c2.2 c fun r => hc (by simp [r])).trans (hx c o (fun r => hc ?_) (hk.2 c o hc q))
    rcases hit with q | q <;> rw [r, q] <;> simp
  simp only [List.zipIdx_cons, List.zipIdx_nil, List.forIn_cons, List.forIn_nil]
  rcases hend with rfl | ⟨hlt, rfl⟩
  · refine wpAny_bind (wpAny_bind (wpAny_bind (wpAny_onRaise (wpAny_bind (m := Builtin.SmallTypes.nextOf (.ref i1)) (D1.done _ _ _ s1 fun g2 e x2 he => ?_)))))
    exact out i1 g1 g2 e s.toks (.inl rfl) k1 z1 x2 he
  · refine wpAny_bind (wpAny_bind (wpAny_bind (wpAny_onRaise (wpAny_bind (m := Builtin.SmallTypes.nextOf (.ref i1)) (D1.item k _ _ _ hlt s1 fun x g2 t2 p1 d1 c2 => wpAny_pure ?_)))))
    have o2 : IsPair g2 TO a b := (c2.2 TO ap.TOi1).trans ((c1.2 TO ap.TOz).trans hTO)
    refine wpAny_bind (wpAny_seqItems o2 rfl (wpAny_bind (wpAny_updateSeq_pair o2 fun g3 o3 c3 => wpAny_bind (wpAny_letGo (wpAny_pure (wpAny_bind (wpAny_bind (wpAny_onRaise (wpAny_bind (m := Builtin.SmallTypes.nextOf (.ref i2)) (D2.done _ _ _ (S2f ((k1.trans (.one c2 (by simp))).trans (.one c3 (by simp))).2 h2 fun o e => ?_) fun g4 e x4 he => ?_))))))))))
    · exact (c3.2 i2 ap.TOi2.symm).trans ((c2.2 i2 ap.i12.symm).trans ((c1.2 i2 ap.i2z).trans e))
    · exact out i2 g3 g4 e t2 (.inr rfl) ((k1.trans (.one c2 (by simp))).trans (.one c3 (by simp))) ((c3.2 z ap.TOz.symm).trans ((c2.2 z ap.i1z.symm).trans z1)) x4 he
end
section
variable {prog : Program} {w : World} {A : Around} {E : Value → Shared → Prop} {s : Shared} {z TI TO i1 i2 : Addr} {n1 n2 k : Nat} {P1 P2 : Nat → Value → Prop} {S1 S2 : Nat → Heap → Prop} {a b : Value}
theorem told {Q : Value → Shared → Prop} (D1 : Draws prog w A i1 [i1] n1 P1 S1) (D2 : Draws prog w A i2 [i2] n2 P2 S2) (ap : ZipApart z TI TO i1 i2 TI TI) (hz : IsZip s.heap z TI TO .none) (hTI : IsPair s.heap TI (.ref i1) (.ref i2)) (hTO : IsPair s.heap TO a b)
    (h1 : S1 k s.heap) (h2 : S2 k s.heap) (l1 : k < n1) (l2 : k < n2)
    (hQ : ∀ x y h' tk, P1 k x → P2 k y → IsZip h' z TI TO (rawInt s.heap.objs.size) → IsPair h' TI (.ref i1) (.ref i2) → IsPair h' TO x y → S1 (k + 1) h' → S2 (k + 1) h' → IsPair h' s.heap.objs.size x y →
      (∀ c o, c ∉ [z, TO, i1, i2] → s.heap.get? c = some o → h'.get? c = some o) → Q (.ref s.heap.objs.size) { s with heap := h', toks := tk }) :
    wpAny (model prog w) A (Builtin.«zip.__next__» ⟨[.ref z], []⟩) (fun fin s' => ∃ v, fin = .done (.ret v) ∧ Q v s') E s :=
  toldL D1 D2 (fun c hc => .inl (by simpa using hc)) (fun c hc => .inl (by simpa using hc)) ap hz hTI hTO h1 h2 l1 l2 hQ
theorem ended {Q : Fin → Shared → Prop} (D1 : Draws prog w A i1 [i1] n1 P1 S1) (D2 : Draws prog w A i2 [i2] n2 P2 S2) (ap : ZipApart z TI TO i1 i2 TI TI) (hz : IsZip s.heap z TI TO .none) (hTI : IsPair s.heap TI (.ref i1) (.ref i2)) (hTO : IsPair s.heap TO a b)
    (h1 : S1 k s.heap) (h2 : S2 k s.heap) (hend : k = n1 ∨ (k < n1 ∧ k = n2))
    (hE : ∀ h' e tk, (∀ c o, c ∉ [z, TO, i1, i2] → s.heap.get? c = some o → h'.get? c = some o) → (∃ o, h'.get? e = some o ∧ o.cls = .type "StopIteration") → E (.ref e) { s with heap := h', toks := tk }) :
    wpAny (model prog w) A (Builtin.«zip.__next__» ⟨[.ref z], []⟩) Q E s :=
  endedL D1 D2 (fun c hc => .inl (by simpa using hc)) (fun c hc => .inl (by simpa using hc)) ap hz hTI hTO h1 h2 hend hE
/-- the object that walks a text -/
def strIt (x : Str) (t : Tok) : Obj := { cls := .type (if x.cps.all (· < 128) then "str_ascii_iterator" else "str_iterator"), data := .fields #[.str x t, .int 0 0] }
theorem iter_text {x : Str} {t : Tok} {Q : Value → Shared → Prop} (h : Q (.ref s.heap.objs.size) { s with heap := s.heap.push (strIt x t) }) : wpAny (model prog w) A (pyIter (.str x t)) Q E s := by
  unfold strIt at h
  cases e : x.cps.all (· < 128) <;> rw [e] at h
  · exact wpAny_pyIter_wide e h
  · exact wpAny_pyIter_ascii e h
/-- two iterators, the two tuples, the record: five new objects -/
def made (h : Heap) (x y : Str) (t u : Tok) : Heap :=
  ((((h.push (strIt x t)).push (strIt y u)).push { cls := .type "tuple", data := .seq #[.ref h.objs.size, .ref (h.objs.size + 1)] }).push { cls := .type "tuple", data := .seq #[.none, .none] }).push
    { cls := .type "zip", data := .fields #[.none, .bool false, .bool false, .ref (h.objs.size + 2), .ref (h.objs.size + 3)] }
theorem meets (x y : Str) (t u : Tok) : Meets (Builtin.«zip.__new__» ⟨[.type "zip", .str x t, .str y u], []⟩) (fun _ R s => R (.ok (.ret (.ref (s.heap.objs.size + 4)))) { s with heap := made s.heap x y t u }) :=
  .of_wp fun prog w A R s h => by
    obtain ⟨hp, g, d, tk, os⟩ := s
    have hsub := sub_zip
    wp_walk using iter_text
    refine ⟨_, rfl, ?_⟩
    simp only [made] at h
    simpa [Heap.size_push, Builtin.SmallTypes.ownedTupleFields, Nat.add_assoc] using h
theorem call_texts {x y : Str} {t u : Tok} {Q : Value → Shared → Prop}
    (h : ∀ h', IsZip h' (s.heap.objs.size + 4) (s.heap.objs.size + 2) (s.heap.objs.size + 3) .none → IsPair h' (s.heap.objs.size + 2) (.ref s.heap.objs.size) (.ref (s.heap.objs.size + 1)) → IsPair h' (s.heap.objs.size + 3) .none .none →
      h'.get? s.heap.objs.size = some (strIt x t) → h'.get? (s.heap.objs.size + 1) = some (strIt y u) → (∀ c o, s.heap.get? c = some o → h'.get? c = some o) → Q (.ref (s.heap.objs.size + 4)) { s with heap := h' }) :
    wpAny (model prog w) A (call (.type "zip") [.str x t, .str y u]) Q E s := by
  refine callType_new F.called_zip (by decide) (F.typeCall_zip_2 _ _) (F.newCall_zip_2 _ _) (fun obj => F.args_object_init_3 obj _ _) F.entry_zip_new (meets x y t u) ?_
  have at1 : ∀ (g : Heap) (o : Obj) (n : Nat), g.objs.size = n → o.isFreed = false → (g.push o).get? n = some o := fun g o n e f => by rw [← e]; exact Heap.get?_push_size g f
  have f1 : ∀ (x : Str) (t : Tok), (strIt x t).isFreed = false := fun _ _ => rfl
  have z5 : IsZip (made s.heap x y t u) (s.heap.objs.size + 4) (s.heap.objs.size + 2) (s.heap.objs.size + 3) .none := at1 _ _ _ (by simp [Heap.size_push]) rfl
  exact ⟨⟨_, z5, rfl⟩, h _ z5 (Heap.get?_push_of_some _ (Heap.get?_push_of_some _ (at1 _ _ _ (by simp [Heap.size_push]) rfl))) (Heap.get?_push_of_some _ (at1 _ _ _ (by simp [Heap.size_push]) rfl))
    (Heap.get?_push_of_some _ (Heap.get?_push_of_some _ (Heap.get?_push_of_some _ (Heap.get?_push_of_some _ (at1 _ _ _ rfl (f1 _ _)))))) (Heap.get?_push_of_some _ (Heap.get?_push_of_some _ (Heap.get?_push_of_some _ (at1 _ _ _ (by simp [Heap.size_push]) (f1 _ _)))))
    fun c o e => Heap.get?_push_of_some _ (Heap.get?_push_of_some _ (Heap.get?_push_of_some _ (Heap.get?_push_of_some _ (Heap.get?_push_of_some _ e))))⟩
/-- where a text's walk stands -/
def strAt (x : Str) (t : Tok) (it : Addr) (i : Nat) (h : Heap) : Prop := h.IsStrIter it (if x.cps.all (· < 128) then "str_ascii_iterator" else "str_iterator") x t i
theorem draws (hh : A.handled = none) (it : Addr) (x : Str) (t : Tok) : Draws prog w A it [it] x.cps.size (fun i v => ∃ c u, x.cps[i]? = some c ∧ v = .str ⟨#[c]⟩ u) (strAt x t it) := by
  unfold strAt
  cases x.cps.all (· < 128)
  · exact Draws.strWide hh it x t
  · exact Draws.strAscii hh it x t
end
end ZP
end L2

namespace L2
open PySem PySem.Spec PyProof.Rows
section
variable {X : Cx} {pins : List (Addr × Obj)} {σ : St} {H : Hp} {s : Shared} {h' : Heap}
theorem tracked_off {S : List Addr} (f : ∀ b ∈ S, H b = none) {b : Addr} {u : HO} (e : H b = some u) : b ∉ S := fun hb => by rw [f b hb] at e; cases e
/-- several untracked records of ours have turned -/
theorem Inv.turnedL {S : List Addr} {t' : Nat} (I : Inv X pins σ H s) (k : ∀ b o, b ∉ S → s.heap.get? b = some o → h'.get? b = some o) (f : ∀ b ∈ S, FpOk X pins H b) : Inv X pins σ H { s with heap := h', toks := t' } := by
  refine I.call (g' := s.gens) (d' := s.drawn) (ch := S) ⟨fun b o e _ _ hc => k b o hc e, fun b o e _ _ hc => ⟨o.slots, k b o hc e⟩, fun _ _ _ n _ => n, fun b o e hc => ⟨o, k b o hc e⟩, fun _ _ e => e, fun _ _ _ e => e, fun _ ps e => ⟨#[], by rw [e]; simp⟩⟩
    (fun b u e => (I.hok b u e).stay (fun c v hc q => k c v ?_ q) (fun _ q => q) fun _ _ q => q) I.bare fun b hb => ⟨(f b hb).2.2.2.1, (f b hb).2.1, (f b hb).2.2.2.2.1, (f b hb).2.2.2.2.2⟩
  rcases hc with z | z
  · rw [z]; exact tracked_off (fun b hb => (f b hb).1) e
  · exact tracked_off (fun b hb => (f b hb).1) z
/-- .. and one new object is told of -/
theorem Inv.turnedNew {S : List Addr} {t' : Nat} {o : HO} (I : Inv X pins σ H s) (k : ∀ b o, b ∉ S → s.heap.get? b = some o → h'.get? b = some o) (f : ∀ b ∈ S, FpOk X pins H b)
    (new : ObjOk X.prog X.w (upd H s.heap.objs.size o) h' s.heap.objs.size o) : Inv X pins σ (upd H s.heap.objs.size o) { s with heap := h', toks := t' } := by
  have fr : H s.heap.objs.size = none := I.hok.fresh (Nat.le_refl _)
  have ne : ∀ b u, H b = some u → b ≠ s.heap.objs.size := fun b u e => ne_of_none e fr
  refine I.call (g' := s.gens) (d' := s.drawn) (ch := S) ⟨fun b o e _ _ hc => k b o hc e, fun b o e _ _ hc => ⟨o.slots, k b o hc e⟩, fun b o e n _ => ?_, fun b o e hc => ⟨o, k b o hc e⟩, fun b xs e => by rw [upd_ne (ne b _ e)]; exact e, fun b o u e => by rw [upd_ne (ne b _ e)]; exact e, fun b ps e => ⟨#[], by rw [upd_ne (ne b _ e), e]; simp⟩⟩
    (fun b u e => ?_) I.bare fun b hb => ⟨(f b hb).2.2.2.1, (f b hb).2.1, (f b hb).2.2.2.2.1, (f b hb).2.2.2.2.2⟩
  · rw [upd_ne (Nat.ne_of_lt (Heap.lt_size e))]
    exact n
  · by_cases hb : b = s.heap.objs.size
    · subst hb
      rw [upd_same] at e
      cases e
      exact new
    · rw [upd_ne hb] at e
      refine (I.hok b u e).stay (fun c v hc q => k c v ?_ q) (fun c q => by rw [upd_ne (ne c _ q)]; exact q) fun c xs q => by rw [upd_ne (ne c _ q)]; exact q
      rcases hc with z | z
      · rw [z]; exact tracked_off (fun b hb => (f b hb).1) e
      · exact tracked_off (fun b hb => (f b hb).1) z
end
/-- two texts side by side: the pair of signs, in a new tuple -/
def Itz (x y : Str) : It := ⟨fun i _ => i < x.length ∧ i < y.length, fun i H v H' => ∃ p c d, x.cps[i]? = some c ∧ y.cps[i]? = some d ∧ v = .ref p ∧ H p = none ∧ H' = upd H p (.tup [.str ⟨#[c]⟩, .str ⟨#[d]⟩]), fun i _ => x.length ≤ i ∨ y.length ≤ i⟩
theorem turn_zip {P : Program} {w : World} {K : PySem.W.Frag} {es : List Expr} {kt : Nat} {pt : Pos} (x y : Str) (t u : Tok) (z TI TO i1 i2 : Addr) (ap : ZipApart z TI TO i1 i2 TI TI) :
    Turn P w K (.Tuple es kt pt) (Itz x y) [z, TI, TO, i1, i2] z (fun i h => i ≤ x.length ∧ i ≤ y.length ∧ IsZip h z TI TO .none ∧ IsPair h TI (.ref i1) (.ref i2) ∧ (∃ a b, IsPair h TO a b) ∧ ZP.strAt x t i1 i h ∧ ZP.strAt y u i2 i h) where
  mem := by simp
  obj := fun i h ⟨_, _, hz, hTI, ⟨a, b, hTO⟩, ⟨o1, e1, _, d1⟩, ⟨o2, e2, _, d2⟩⟩ c hc => by
    simp only [List.mem_cons, List.not_mem_nil, or_false] at hc
    rcases hc with rfl | rfl | rfl | rfl | rfl
    · exact ⟨_, hz, fun v q => by cases q⟩
    · exact ⟨_, hTI, fun v q => by cases q⟩
    · exact ⟨_, hTO, fun v q => by cases q⟩
    · exact ⟨o1, e1, fun v q => by rw [d1] at q; cases q⟩
    · exact ⟨o2, e2, fun v q => by rw [d2] at q; cases q⟩
  keep := fun i h h' ⟨b1, b2, hz, hTI, ⟨a, b, hTO⟩, ⟨o1, e1, r1⟩, ⟨o2, e2, r2⟩⟩ k =>
    ⟨b1, b2, k z (by simp) _ hz, k TI (by simp) _ hTI, ⟨a, b, k TO (by simp) _ hTO⟩, ⟨o1, k i1 (by simp) _ e1, r1⟩, ⟨o2, k i2 (by simp) _ e2, r2⟩⟩
  item := by
    rintro X hP hw hK hc i pins s σ H E I hf ⟨b1, b2, hz, hTI, ⟨a, b, hTO⟩, s1, s2⟩ ⟨l1, l2⟩
    subst hP hw hK
    have hT : s.TypeIs (.ref z) "zip" := ⟨_, hz, rfl⟩
    unfold pyNext
    refine wpAny_bind (wpAny_attempt (wpAny_callSpecial?_slot (name := Str.ofString "__next__") hT F.slot_zip_next (wpAny_call_entry F.slot_zip_next hT F.entry_zip_next (ZP.told (ZP.draws (A := X.A.in1) (I.ok.hd hc) i1 x t) (ZP.draws (A := X.A.in1) (I.ok.hd hc) i2 y u) ap hz hTI hTO s1 s2 l1 l2 fun v1 v2 g tk p1 p2 gz gTI gTO g1 g2 new gk => wpAny_pure ⟨_, rfl, ?_⟩) (F.args_zip_next_1 _))))
    obtain ⟨c, t1, hc1, rfl⟩ := p1
    obtain ⟨d, t2, hd1, rfl⟩ := p2
    refine wpAny_letOwnedTupleGo_zip (s := { s with heap := g, toks := tk }) gz fun g' gz' gs => ?_
    have up : ∀ b o, b ≠ z → g.get? b = some o → g'.get? b = some o := fun b o hb e => (gs.2 b hb).trans e
    have nz : s.heap.objs.size ≠ z := Nat.ne_of_gt (Heap.lt_size hz)
    have tup : ObjOk X.prog X.w (upd H s.heap.objs.size (.tup [.str ⟨#[c]⟩, .str ⟨#[d]⟩])) g' s.heap.objs.size (.tup [.str ⟨#[c]⟩, .str ⟨#[d]⟩]) :=
      ⟨line_ge (by show 2 ≤ 16777216; decide), [.str ⟨#[c]⟩ t1, .str ⟨#[d]⟩ t2], .cons ⟨_, rfl⟩ (.cons ⟨_, rfl⟩ .nil), ⟨_, up _ _ nz new, rfl, 0, rfl⟩⟩
    refine ⟨.ref s.heap.objs.size, _, I.turnedNew (S := [z, TO, i1, i2]) (h' := g') (t' := tk) (fun b o hb e => up b o (fun q => hb (by simp [q])) (gk b o hb e)) (fun b hb => hf b (by simp at hb ⊢; rcases hb with q | q | q | q <;> simp [q])) tup, rfl,
      ⟨_, c, d, hc1, hd1, rfl, I.hok.fresh (Nat.le_refl _), rfl⟩, ⟨l1, l2, gz', up _ _ ap.TIz gTI, ⟨_, _, up _ _ ap.TOz gTO⟩, ?_, ?_⟩, fun b hb => ?_⟩
    · obtain ⟨o, e, r⟩ := g1
      exact ⟨o, up _ _ ap.i1z e, r⟩
    · obtain ⟨o, e, r⟩ := g2
      exact ⟨o, up _ _ ap.i2z e, r⟩
    · have lt : b < s.heap.objs.size := by
        obtain ⟨o1, e1, _⟩ := s1
        obtain ⟨o2, e2, _⟩ := s2
        simp only [List.mem_cons, List.not_mem_nil, or_false] at hb
        rcases hb with rfl | rfl | rfl | rfl | rfl
        · exact Heap.lt_size hz
        · exact Heap.lt_size hTI
        · exact Heap.lt_size hTO
        · exact Heap.lt_size e1
        · exact Heap.lt_size e2
      rw [upd_ne (Nat.ne_of_lt lt)]
      exact (hf b hb).1
  done := by
    rintro X hP hw hK hc i pins s σ H E I hf ⟨b1, b2, hz, hTI, ⟨a, b, hTO⟩, s1, s2⟩ hstop
    subst hP hw hK
    have hT : s.TypeIs (.ref z) "zip" := ⟨_, hz, rfl⟩
    have hend : i = x.cps.size ∨ (i < x.cps.size ∧ i = y.cps.size) := by
      have e1 : x.length = x.cps.size := rfl
      have e2 : y.length = y.cps.size := rfl
      have q : x.length ≤ i ∨ y.length ≤ i := hstop
      (clear hf hc; omega)
    unfold pyNext
    refine wpAny_bind (wpAny_attempt (wpAny_callSpecial?_slot (name := Str.ofString "__next__") hT F.slot_zip_next (wpAny_call_entry F.slot_zip_next hT F.entry_zip_next (ZP.ended (ZP.draws (A := X.A.in1) (I.ok.hd hc) i1 x t) (ZP.draws (A := X.A.in1) (I.ok.hd hc) i2 y u) ap hz hTI hTO s1 s2 hend fun g e tk gk he => ?_) (F.args_zip_next_1 _))))
    obtain ⟨o, ho, hcl⟩ := he
    refine wpAny_bind (wpAny_isInstance (s := { s with heap := g, toks := tk }) (T := "StopIteration") (b := true) ⟨o, ho, hcl⟩ isSubtype_stop (wpAny_pure ⟨rfl, ?_⟩))
    exact I.turnedL (S := [z, TO, i1, i2]) (fun b o hb e => gk b o hb e) fun b hb => hf b (by simp at hb ⊢; rcases hb with q | q | q | q <;> simp [q])
  self := fun _ _ _ _ _ st h => wpAny_pyIter_zip st.2.2.1 h
/-- zip(a, b), both texts, ahead of two targets -/
def iZip (t : TA) : TI := fun σ H R => t σ H fun vs H1 => ∃ x y, vs = [.str x, .str y] ∧ R (Itz x y) H1
theorem pi_zip {X : Cx} {es : List Expr} {kt : Nat} {pt : Pos} {a b : Expr} {ta : TA} {p pos : Pos} (hg : Gl X "zip") (hm : X.mg "zip" = none) (ha : PA X [a, b] ta) (hs : starEach [a, b] X.env = (false, eval a X.env) :: starEach [b] X.env := by rfl)
    (hpl : (backTo pos (starEach [b] X.env)).any (·.1) = false := by rfl) : PI X (.Tuple es kt pt) (.Call (.Name "zip" p) [a, b] [] pos) (iZip ta) := by
  intro pins s σ H R I h
  refine wpAny_Call_Name_kw (ld_blt I hg hm PyProof.Rows.boot_zip (PyProof.Rows.callWith_type1 (thn (ha pos pins s σ H _ I h) fun us s1 ⟨vs, H1, I1, r1, x, y, ev, q⟩ => ?_) hs hpl))
  subst ev
  obtain ⟨u1, u2, rfl, ⟨t, rfl⟩, ⟨u, rfl⟩⟩ := vals2 r1
  refine ZP.call_texts fun g gz gTI gTO g1 g2 gk => wpAny_pyIter_zip (s := { s1 with heap := g }) gz ?_
  have ap : ZipApart (s1.heap.objs.size + 4) (s1.heap.objs.size + 2) (s1.heap.objs.size + 3) s1.heap.objs.size (s1.heap.objs.size + 1) (s1.heap.objs.size + 2) (s1.heap.objs.size + 2) := by
    constructor <;> exact neA (by (clear gk g2 g1 hpl hs hm; omega))
  refine ⟨_, [s1.heap.objs.size + 4, s1.heap.objs.size + 2, s1.heap.objs.size + 3, s1.heap.objs.size, s1.heap.objs.size + 1], _, Itz x y, H1, rfl, I1.kept (t' := s1.toks) gk, turn_zip x y t u _ _ _ _ _ ap,
    ⟨Nat.zero_le _, Nat.zero_le _, gz, gTI, ⟨_, _, gTO⟩, ⟨_, g1, rfl, rfl⟩, ⟨_, g2, rfl, rfl⟩⟩, fun c hc => ?_, q⟩
  have hge : s1.heap.objs.size ≤ c := by
    simp only [List.mem_cons, List.not_mem_nil, or_false] at hc
    rcases hc with rfl | rfl | rfl | rfl | rfl
    · exact Nat.le_add_right _ _
    · exact Nat.le_add_right _ _
    · exact Nat.le_add_right _ _
    · exact Nat.le_refl _
    · exact Nat.le_add_right _ _
  exact I1.fpOk hge (I1.hok.fresh hge)
theorem for_zip {x y : Str} {g : TG} {tb : TS} {D : Ends} {σ : St} {H : Hp} (hxy : x.length = y.length) (Pv : Nat → St → Hp → Prop) (h0 : Pv 0 σ H)
    (hs : ∀ i c d p σ H, x.cps[i]? = some c → y.cps[i]? = some d → H p = none → Pv i σ H → g (.ref p) σ (upd H p (.tup [.str ⟨#[c]⟩, .str ⟨#[d]⟩])) fun σ2 H2 => tb { D with nx := Pv (i + 1), ct := Pv (i + 1), bk := D.nx } σ2 H2)
    (hd : ∀ σ H, Pv x.length σ H → D.nx σ H) :
    ∃ W : Nat → Nat → St → Hp → Prop, (∃ m, W 0 m σ H) ∧ ∀ i m σ H, W i m σ H →
      ((Itz x y).stop i H ∧ D.nx σ H) ∨ ((Itz x y).go i H ∧ ∃ N : St → Hp → Prop, (∀ σ' H', N σ' H' → ∃ m', m' < m ∧ W (i + 1) m' σ' H') ∧ ∀ v H', (Itz x y).yld i H v H' → g v σ H' fun σ2 H2 => tb { D with nx := N, ct := N, bk := D.nx } σ2 H2) := by
  refine ⟨fun i m σ H => m = x.length - i ∧ i ≤ x.length ∧ Pv i σ H, ⟨x.length, by simp, Nat.zero_le _, h0⟩, ?_⟩
  rintro i m σ H ⟨rfl, hi, p⟩
  by_cases hlt : i < x.length
  · refine .inr ⟨⟨hlt, by (clear hi hd hs; omega)⟩, Pv (i + 1), fun σ' H' p' => ⟨x.length - (i + 1), by (clear hi hd hs; omega), rfl, hlt, p'⟩, fun v H' q => ?_⟩
    obtain ⟨a, c, d, e1, e2, rfl, e3, rfl⟩ := q
    exact hs i c d a σ H e1 e2 e3 p
  · have e : i = x.length := by (clear hd hs; omega)
    subst e
    exact .inl ⟨.inl (Nat.le_refl _), hd σ H p⟩
end L2

namespace L2
open PySem PySem.Spec PyProof.Rows
/-! ## X9. exceptions of own classes: how one flies through the frames -/
/-- the exception at e, of that class, its first traceback entry at T -/
def Fly (h : Heap) (e T : Addr) (cls a0 : Value) : Prop :=
  ∃ oe vs oT ts, h.get? e = some oe ∧ (oe.cls = cls ∧ vs[0]? = some a0) ∧ oe.data = .fields vs ∧ vs[1]? = some (.ref T) ∧ T ≠ e ∧ h.get? T = some oT ∧ oT.data = .fields ts ∧ ts[3]? = some .none
theorem Fly.traced {h base : Heap} {e T : Addr} {cls a0 : Value} (x : Fly h e T cls a0) (n : base.get? T = none) : h.TracedW base e cls a0 := by
  obtain ⟨oe, vs, oT, ts, h1, h2, h3, h4, h5, h6, h7, h8⟩ := x
  exact ⟨oe, vs, T, oT, ts, h1, h2, h3, h4, n, h5, h6, h7, h8⟩
theorem fly_of {h base : Heap} {e : Addr} {cls a0 : Value} (x : h.TracedW base e cls a0) : ∃ T, base.get? T = none ∧ Fly h e T cls a0 := by
  obtain ⟨oe, vs, T, oT, ts, h1, h2, h3, h4, n, h5, h6, h7, h8⟩ := x
  exact ⟨T, n, oe, vs, oT, ts, h1, h2, h3, h4, h5, h6, h7, h8⟩
/-- what a call that raises leaves behind: E is told the class and the abstract heap -/
def CXE (P : Program) (w : World) : CXT := fun outer H s E ev s' => ∃ (e T : Addr) (C a0 : Value) (H' : Hp), ev = .ref e ∧ s'.os = s.os ∧ AllBare s'.gens ∧ Un (frs outer) [] H H' s.heap s'.heap ∧ HOk P w H' s'.heap ∧
  s.heap.get? e = none ∧ s.heap.get? T = none ∧ H' e = none ∧ H' T = none ∧ Fly s'.heap e T C a0 ∧ E C none H'
/-- the frames apart from a heap that hides them -/
theorem frames_hid {h base : Heap} {hid : List Addr} : ∀ {l : List Env}, h.FunFrames base l → (∀ b ∈ frs l, b ∈ hid) → h.FunFrames (PySem.W.hideAll h hid) l
  | [], _, _ => trivial
  | env :: r, hl, hs => by
    obtain ⟨hk, ⟨L, o, hf, hn, ho, hd⟩, hr⟩ := hl
    have e : frs (env :: r) = L :: frs r := by unfold frs; rw [List.filterMap_cons, hf]
    exact ⟨hk, ⟨L, o, hf, PySem.W.hideAll_none _ (hs L (by rw [e]; exact List.mem_cons_self)), ho, hd⟩, frames_hid hr fun b hb => hs b (by rw [e]; exact List.mem_cons_of_mem _ hb)⟩
theorem frame_there {h base : Heap} : ∀ {l : List Env}, h.FunFrames base l → ∀ b ∈ frs l, ∃ o, h.get? b = some o ∧ ∀ vs, o.data ≠ .fields vs
  | env :: r, hl, b, hb => by
    obtain ⟨hk, ⟨L, o, hf, hn, ho, hd⟩, hr⟩ := hl
    have e : frs (env :: r) = L :: frs r := by unfold frs; rw [List.filterMap_cons, hf]
    rw [e] at hb
    rcases List.mem_cons.mp hb with rfl | hb
    · exact ⟨o, ho, hd⟩
    · exact frame_there hr b hb
section
variable {X : Cx} {pins : List (Addr × Obj)} {σ : St} {H H' : Hp} {s : Shared} {h1 h2 : Heap}
/-- from the state ahead of a call, over what it left (h1) to a heap (h2) that keeps all but the exception's own objects and the frames' slots -/
theorem Inv.flown {g' : Array GenState} {d' : Drawn} {t' : Nat} {S : List Addr} (I : Inv X pins σ H s) (un : Un (frs X.stack) [] H H' s.heap h1) (hok : HOk X.prog X.w H' h1) (dead : ∀ b ∈ S, s.heap.get? b = none) (off : ∀ b ∈ S, H' b = none)
    (keep : ∀ b o, h1.get? b = some o → b ∉ S → b ∉ frs X.stack → h2.get? b = some o) (up : h1.UpToSlots h2) (hg : AllBare g') :
    Inv X pins σ H' { s with heap := h2, gens := g', drawn := d', toks := t' } ∧ Un (frs X.stack) [] H H' s.heap h2 ∧ HOk X.prog X.w H' h2 := by
  have live : ∀ b o, s.heap.get? b = some o → b ∉ S := fun b o e hb => by rw [dead b hb] at e; cases e
  have fr : ∀ b ∈ frs X.stack, ∃ o, s.heap.get? b = some o ∧ ∀ vs, o.data ≠ .fields vs := frame_there I.stack
  have frH : ∀ b ∈ frs X.stack, H' b = none := fun b hb => by
    obtain ⟨o, ho, _⟩ := fr b hb
    exact un.free b o ho (I.stkFree b hb) (by simp)
  have un2 : Un (frs X.stack) [] H H' s.heap h2 := by
    refine ⟨fun b o e n hb hx => keep b o (un.keep b o e n hb hx) (live b o e) hb, fun b o e n hb hx => ?_, un.free, fun b o e hx => ?_, un.tups, un.frzs, un.tbls⟩
    · obtain ⟨sl, e1⟩ := un.slot b o e n hb hx
      obtain ⟨o', ho', hd⟩ := fr b hb
      rw [e] at ho'
      cases ho'
      obtain ⟨sl', e2⟩ := up b _ e1 hd
      exact ⟨sl', e2⟩
    · obtain ⟨o1, e1⟩ := un.there b o e hx
      by_cases hb : b ∈ frs X.stack
      · obtain ⟨o', ho', hd⟩ := fr b hb
        rw [e] at ho'
        cases ho'
        obtain ⟨sl, e2⟩ := un.slot b o e (I.stkFree b hb) hb hx
        obtain ⟨sl', e3⟩ := up b _ e2 hd
        exact ⟨_, e3⟩
      · exact ⟨o1, keep b o1 e1 (live b o e) hb⟩
  have hok2 : HOk X.prog X.w H' h2 := fun b u e => (hok b u e).stay (fun c v hc q => keep c v q (fun hm => ?_) fun hm => ?_) (fun _ q => q) fun _ _ q => q
  · exact ⟨I.call (g' := g') (d' := d') (t' := t') (ch := []) un2 hok2 hg (fun _ z => nomatch z), un2, hok2⟩
  · rcases hc with rfl | hc
    · rw [off c hm] at e; cases e
    · rw [off c hm] at hc; cases hc
  · rcases hc with rfl | hc
    · rw [frH c hm] at e; cases e
    · rw [frH c hm] at hc; cases hc
theorem dead0 (I : Inv X pins σ H s) (hx : X.ex = []) {b : Addr} (d : s.heap.get? b = none) : X.s₀.heap.get? b = none := by
  cases e : X.s₀.heap.get? b with
  | none => rfl
  | some o =>
    obtain ⟨o', q⟩ := I.base.there b o e (by rw [hx]; simp)
    rw [d] at q
    cases q
theorem off_dead {P : Program} {w : World} {h : Heap} (hok : HOk P w H h) {b : Addr} (d : h.get? b = none) : H b = none := by
  cases e : H b with
  | none => rfl
  | some u =>
    obtain ⟨o, q⟩ : ∃ o, h.get? b = some o := by
      have z := hok b u e
      cases u with
      | lst => obtain ⟨_, its, n, _, q⟩ := z; exact ⟨_, q⟩
      | tup => obtain ⟨_, its, _, o, q, _⟩ := z; exact ⟨_, q⟩
      | dK => obtain ⟨_, _, vs, _, o, es, ep, q, _⟩ := z; exact ⟨_, q⟩
      | dT => obtain ⟨_, _, xs, _, o, es, ep, q, _⟩ := z; exact ⟨_, q⟩
      | set => obtain ⟨o, es, ep, t, q, _⟩ := z; exact ⟨o, q⟩
      | ins => obtain ⟨_, _, _, q, _⟩ := z; exact ⟨_, q⟩
      | own => exact z
      | xd => obtain ⟨mA, ⟨o, es, ep, q, _⟩, _⟩ := z; exact ⟨o, q⟩
      | rng => obtain ⟨t, u, v, q⟩ := z; exact ⟨_, q⟩
      | frz => exact ⟨_, z.1⟩
      | tbl => exact ⟨_, z⟩
      | met => exact ⟨_, z⟩
      | ext => exact z.2.1
    rw [d] at q
    cases q
/-- a traceback entry is no frame -/
theorem fly_noframe {base h : Heap} {l : List Env} {e T : Addr} {cls a0 : Value} (fl : Fly h e T cls a0) (hl : h.FunFrames base l) : T ∉ frs l := fun hm => by
  obtain ⟨oe, vs, oT, ts, _, _, _, _, _, hT, hdT, _⟩ := fl
  obtain ⟨o, ho, hd⟩ := frame_there hl T hm
  rw [hT] at ho
  cases ho
  exact hd ts hdT
end
section
variable {X : Cx} {E : XK}
/-- a new exception leaves the frame -/
theorem leave_new (hx : X.ex = []) (hst : X.stack = X.env :: X.outer) (hfr : X.env.frame = some X.env.locals) {pins : List (Addr × Obj)} {σ : St} {H : Hp} {s : Shared} {h1 : Heap} {e : Addr} {C : Value} {vs : List Value} (I : Inv X pins σ H s)
    (mk : Heap.MadeExcOf s.heap h1 e C vs) (q : E C none H) :
    wpAny (model X.prog X.w) X.A (leaving X.env (.ref e)) (fun _ s'' => CXE X.prog X.w X.outer X.H₀ X.s₀ E (.ref e) s'') (fun e' s'' => CXE X.prog X.w X.outer X.H₀ X.s₀ E e' s'') { s with heap := h1 } := by
  have stk : s.heap.FunFrames X.base (X.env :: X.outer) := hst ▸ I.stack
  refine wpAny_leaves_madeW (s := { s with heap := h1 }) (base := PySem.W.hideAll s.heap (frs X.stack)) (h := s.heap) (by rw [← hst]; exact I.ok.frames) hfr (fun b o z => PySem.W.of_hideAll _ z) (frames_hid stk (by rw [hst]; exact fun _ z => z)) mk fun h' t fl tup nt up => ?_
  obtain ⟨I2, un2, hok2⟩ := I.flown (H' := H) (h1 := s.heap) (h2 := h') (g' := s.gens) (d' := s.drawn) (t' := s.toks) (S := []) Un.refl I.hok (fun _ z => nomatch z) (fun _ z => nomatch z) (fun b o z _ hb => fl.1 b o (PySem.W.hideAll_get _ z hb))
    (fun b o z hd => up b o (mk.keeps b o z) hd) I.bare
  obtain ⟨T, nT, fT⟩ := fly_of fl.2.2.2
  have dT : s.heap.get? T = none := by
    cases z : s.heap.get? T with
    | none => rfl
    | some o =>
      have hT := fly_noframe fT I2.stack
      rw [PySem.W.hideAll_get _ z hT] at nT
      cases nT
  have ub := I2.base
  rw [hx] at ub
  exact ⟨e, T, C, .ref t, H, rfl, I2.os, I.bare, ub, hok2, dead0 I hx mk.new, dead0 I hx dT, off_dead I.hok mk.new, off_dead I.hok dT, fT, q⟩
/-- an exception of a callee leaves the frame -/
theorem leave_on (hx : X.ex = []) (hst : X.stack = X.env :: X.outer) (hfr : X.env.frame = some X.env.locals) {E' : XK} (hE : ∀ C d H, E' C d H → E C d H) {pins : List (Addr × Obj)} {σ : St} {H : Hp} {s s' : Shared} {ev : Value} (I : Inv X pins σ H s)
    (cx : CXE X.prog X.w X.stack H s E' ev s') :
    wpAny (model X.prog X.w) X.A (leaving X.env ev) (fun _ s'' => CXE X.prog X.w X.outer X.H₀ X.s₀ E ev s'') (fun e' s'' => CXE X.prog X.w X.outer X.H₀ X.s₀ E e' s'') s' := by
  obtain ⟨e, T, C, a0, H', rfl, os, bare, un, hok, de, dT, he, hT, fT, q⟩ := cx
  obtain ⟨hh, g, d, tk, os'⟩ := s'
  obtain rfl : os' = s.os := os
  have I1 : Inv X pins σ H' { s with heap := hh, gens := g, drawn := d, toks := tk } := I.call (g' := g) (d' := d) (t' := tk) (ch := []) un hok bare (fun _ z => nomatch z)
  have stk : hh.FunFrames X.base (X.env :: X.outer) := hst ▸ I1.stack
  have fl : Heap.FlyingW (PySem.W.hideAll hh (e :: T :: frs X.stack)) (X.env :: X.outer) e C a0 hh :=
    ⟨fun b o z => PySem.W.of_hideAll _ z, PySem.W.hideAll_none _ (by simp), frames_hid stk (by rw [← hst]; exact fun b z => List.mem_cons_of_mem _ (List.mem_cons_of_mem _ z)), fT.traced (PySem.W.hideAll_none _ (by simp))⟩
  refine wpAny_leaves_onW (s := ⟨hh, g, d, tk, s.os⟩) (by rw [← hst]; exact I.ok.frames) hfr fl fun h' fl' up => ?_
  have kept : ∀ b o, hh.get? b = some o → b ∉ [e, T] → b ∉ frs X.stack → h'.get? b = some o := fun b o z hS hb => fl'.1 b o (PySem.W.hideAll_get _ z fun hm => by
    rcases List.mem_cons.mp hm with y | hm
    · exact hS (by rw [y]; simp)
    · rcases List.mem_cons.mp hm with y | hm
      · exact hS (by rw [y]; simp)
      · exact hb hm)
  obtain ⟨I2, un2, hok2⟩ := I.flown (H' := H') (h1 := hh) (h2 := h') (g' := g) (d' := d) (t' := tk) (S := [e, T]) un hok (fun b hb => by rcases List.mem_cons.mp hb with z | z; rw [z]; exact de; rw [List.mem_singleton.mp z]; exact dT)
    (fun b hb => by rcases List.mem_cons.mp hb with z | z; rw [z]; exact he; rw [List.mem_singleton.mp z]; exact hT) kept up bare
  obtain ⟨T', nT, fT'⟩ := fly_of fl'.2.2.2
  have dT' : s.heap.get? T' = none ∧ H' T' = none := by
    cases z : hh.get? T' with
    | none =>
      refine ⟨?_, off_dead hok z⟩
      cases y : s.heap.get? T' with
      | none => rfl
      | some o =>
        obtain ⟨o', r⟩ := un.there T' o y (by simp)
        rw [z] at r
        cases r
    | some o =>
      by_cases hTT : T' = T
      · rw [hTT]; exact ⟨dT, hT⟩
      · have hTe : T' ≠ e := by obtain ⟨_, _, _, _, _, _, _, _, z, _⟩ := fT'; exact z
        have hTf := fly_noframe fT' I2.stack
        rw [PySem.W.hideAll_get _ z (by simp [hTT, hTe, hTf])] at nT
        cases nT
  have ub := I2.base
  rw [hx] at ub
  exact ⟨e, T', C, a0, H', rfl, I2.os, bare, ub, hok2, dead0 I hx de, dead0 I hx dT'.1, he, dT'.2, fT', hE _ _ _ q⟩
end
end L2

namespace L2
open PySem PySem.Spec PyProof.Rows
/-! ## X10. an error's words: some text that is not too long -/
section
variable {X : Cx}
/-- a part of a text that is put together, where c holds of the names -/
def FPart (X : Cx) (e : Expr) (c : St → Prop) : Prop := ∀ (pins : List (Addr × Obj)) (s : Shared) (σ : St) (H : Hp) (Q : Value → Shared → Prop), Inv X pins σ H s → c σ → (∀ y t s', Inv X pins σ H s' → y.length ≤ 100000 → Q (.str y t) s') →
  wpAny (model X.prog X.w) X.A (eval e X.env) Q X.xe s
def FParts (X : Cx) : List Expr → (St → Prop) → Prop
  | [], _ => True
  | e :: es, c => FPart X e c ∧ FParts X es c
/-- the name in slot i holds a text -/
def Txt5 (i : Nat) (σ : St) : Prop := ∃ x : Str, σ[i]? = some (some (.str x)) ∧ x.length ≤ 5000 ∧ ∀ c ∈ x.cps.toList, c < 1000000
def tMsg (c : St → Prop) : TE := fun σ H Q => c σ ∧ ∀ x, Q (.str x) H
end
/-! ## X11. raise C(..) -/
/-- a class of the text that stands under ValueError and has no __init__ of its own, nor have those between -/
def OwnX (K : PySem.W.Frag) (C : Addr) : Prop := PySem.W.excIn K C [.type "ValueError", .type "Exception", .type "BaseException", .type "object"] "ValueError.__new__" = true
theorem OwnX.obj {K : PySem.W.Frag} {C : Addr} {h : Heap} (q : OwnX K C) (X : K.In h) : ∃ bm N nm qn bs hdct sn sub ab col dd k0 k1 k2 k3 k5 mN, h.get? C = some (excClassObj nm qn C N bs bm hdct sn sub ab col dd k0 k1 k2 k3 k5 "ValueError.__new__") ∧ h.Ns N mN ∧ mN "__init__" = none ∧
    OwnTail h [.type "ValueError", .type "Exception", .type "BaseException", .type "object"] bm := by
  unfold OwnX PySem.W.excIn at q
  split at q
  case h_2 => cases q
  case h_1 ob dd cd sl there =>
    split at q
    case h_2 => cases q
    case h_1 D bm k0 k1 k2 k3 mk k5 hm hs =>
      obtain ⟨q, noInit⟩ := Bool.and_eq_true_iff.mp q
      obtain ⟨q, nsOk⟩ := Bool.and_eq_true_iff.mp q
      obtain ⟨q, tl⟩ := Bool.and_eq_true_iff.mp q
      obtain ⟨q, nodel⟩ := Bool.and_eq_true_iff.mp q
      obtain ⟨isC, isMk⟩ := Bool.and_eq_true_iff.mp q
      cases beq_iff_eq.mp isC
      cases beq_iff_eq.mp isMk
      obtain ⟨l⟩ := sl
      cases hs
      cases cd
      cases hm
      cases Bool.not_eq_true' _ ▸ nodel
      exact ⟨bm, _, _, _, _, _, _, _, _, _, dd, k0, k1, k2, k3, k5, _, X _ _ there, .of_isNs (PySem.W.isNs_of_in X nsOk), PySem.W.nsMap_none_of_in X nsOk (beq_iff_eq.mp noInit), PySem.W.tail_of_in X tl⟩
end L2

namespace L2
open PySem PySem.Spec PyProof.Rows
/-- what is wanted of exceptions here is met by a new one of a class that E takes -/
def Throws (X : Cx) (E : XK) : Prop := ∀ (pins : List (Addr × Obj)) (σ : St) (H : Hp) (s : Shared) (h1 : Heap) (e : Addr) (C : Value) (vs : List Value), Inv X pins σ H s → Heap.MadeExcOf s.heap h1 e C vs → E C none H → X.xe (.ref e) { s with heap := h1 }
def tRaise (C : Addr) (E : XK) (t : TA) : TS := fun _ σ H => t σ H fun vs H1 => vs.length ≤ sizeLine ∧ E (.ref C) none H1
theorem ps_raise {X : Cx} {E : XK} {x : Str} {C : Addr} {np cpos pos : Pos} {e0 : Expr} {rest : List Expr} {t : TA} (hc : X.calm = true) (hT : Throws X E) (hC : OwnX X.K C) (hm : X.mg x = some (.ref C)) (ha : PA X (e0 :: rest) t) (hg : Gl X x := by rfl)
    (hd : (x == ("__debug__" : Str)) = false := by decide) (he : starEach (e0 :: rest) X.env = (false, eval e0 X.env) :: starEach rest X.env := by rfl) (hpl : (backTo cpos (starEach rest X.env)).any (·.1) = false := by rfl) :
    PS X (.Raise (some (.Call (.Name x np) (e0 :: rest) [] cpos)) none pos) (tRaise C E t) := by
  intro pins s σ H D I h
  obtain ⟨bm, N, nm, qn, bs, hdct, sn, sub, ab, col, dd, k0, k1, k2, k3, k5, mN, hCo, hN, hni, TL⟩ := hC.obj I.ok.mod.kin
  refine wpAny_Raise_call_subT (C := C) (nm := nm) (q := qn) (N := N) (bs := bs) (bm := bm) (hdct := hdct) (sn := sn) (sub := sub) (ab := ab) (col := col) (dd := dd) (k0 := k0) (k1 := k1) (k2 := k2) (k3 := k3) (k5 := k5) PySem.F.excBase_ValueError (mN := mN)
    (TL.hasType PySem.F.excBase_ValueError.hasBase) (I.ok.hd hc) (by rw [he]; show (false || (backTo cpos (starEach rest X.env)).any (·.1)) = false; rw [hpl]; rfl) hni (ld_glob I hg hm ⟨rfl, ?_⟩ hd)
  have hA := ha cpos pins s σ H _ I h
  rw [he] at hA ⊢
  exact Calls.evalArgs_plain (thn hA fun us s2 ⟨vs, H2, I2, r2, hl, q⟩ => ⟨rfl, by rw [← r2.length]; exact hl, I2.bk _ _ hCo, hN.keeps I2.bk, TL.keeps I2.bk, fun h' e mk => hT pins σ H2 s2 h' e _ _ I2 mk q⟩)
section
variable {P : Program} {w : World} {K : PySem.W.Frag} {mg : Str → Option Value} {base : Heap} {N : List Str} {qual : Str} {scope : Scope} {f : Addr} {cd : Value} {A : Around} {outer : List Env} {s : Shared} {H : Hp} {E : XK}
/-- in a def's body: a new exception, one of a callee -/
theorem throws_def : Throws (cxOf (CXE P w) P w K mg base N qual scope f cd A outer s H E) E := fun pins σ H1 s1 h1 e C vs I mk q => leave_new (X := cxOf (CXE P w) P w K mg base N qual scope f cd A outer s H E) rfl rfl rfl I mk q
theorem passes_def {E' : XK} (hE : ∀ C d H, E' C d H → E C d H) : Passes (CXE P w) (cxOf (CXE P w) P w K mg base N qual scope f cd A outer s H E) E' := fun pins σ H1 s1 ev s' I cx => leave_on (X := cxOf (CXE P w) P w K mg base N qual scope f cd A outer s H E) rfl rfl rfl hE I cx
end
/-- a def that may raise -/
theorem Fun.okX {P : Program} {w : World} {K : PySem.W.Frag} {mg : Str → Option Value} {base : Heap} {x qual : Str} {st : Stmt} {f : Addr} {fd : FuncData} {N ps : List Str} {k : Nat} {sp : Sp} (F : Fun K x qual st f fd) (S : FnScope N ps (defScope st)) (len : ∀ vs H Q E, sp vs H Q E → vs.length = ps.length)
    (hbody : ∀ (cdv : Value) (A : Around) (outer : List Env) (s : Shared) (H : Hp) (vs : List V) (Q : VK) (E : XK), Room k (A.deeper (envOfC qual (defScope st) s.heap.objs.size f cdv)) → sp vs H Q E →
      ∃ t, PSs (cxOf (CXE P w) P w K mg base N qual (defScope st) f cdv A outer s H E) (defBody st) t ∧ t { nx := fun _ H' => Q .non H', rt := Q } (start N vs) H) : FnOk P w K mg base (CXE P w) (k + 1) f fd ps sp := by
  obtain ⟨oc, od, kV, doc, pm, an, cdv, ct, osl, rfl, lk, hcd⟩ := F.ex
  exact fn_of lk hcd S len fun A outer s H vs Q E hr hsp => hbody cdv A outer s H vs Q E hr hsp
def DfX (P : Program) (w : World) (K : PySem.W.Frag) (mg : Str → Option Value) (base : Heap) (x : Str) (k : Nat) (ps : List Str) (sp : Sp) : Prop :=
  ∃ (f : Addr) (fd : FuncData), mg x = some (.ref f) ∧ PySem.W.keepIn K (.ref f) = true ∧ Binds K fd ps [] ∧ FnOk P w K mg base (CXE P w) k f fd ps sp
theorem pe_dfX {X : Cx} {x : Str} {k : Nat} {ps : List Str} {sp : Sp} {E : XK} {e : Expr} {es : List Expr} {p pos : Pos} {t : TA} (D : DfX X.prog X.w X.K X.mg X.base x k ps sp) (hr : Room k X.A) (hp : Passes (CXE X.prog X.w) X E) (ha : PA X (e :: es) t)
    (hg : Gl X x := by rfl) (hdb : (x == ("__debug__" : Str)) = false := by decide) (he : starEach (e :: es) X.env = (false, eval e X.env) :: starEach es X.env := by rfl) (hpl : (backTo pos (starEach es X.env)).any (·.1) = false := by rfl) :
    PE X (.Call (.Name x p) (e :: es) [] pos) (tCall sp [] E t) := by
  obtain ⟨f, fd, h1, h2, h3, F⟩ := D
  exact pe_call F hr hg h1 h2 h3 .nil hp ha hdb he hpl
end L2

namespace L2
open PySem PySem.Spec PyProof.Rows
/-! ## X12. try: a call; except R as n: a suite -/
/-- the exception at e, of that class, caught and kept -/
def excAt (e : Addr) (C : Value) : HO := .ext fun h => ∃ o, h.get? e = some o ∧ o.cls = C
/-- the same frame, within an except suite that raises nothing -/
abbrev Cx.held (X : Cx) (v : Value) : Cx := { X with A := X.A.mark (some v), calm := false, xe := fun _ _ => False }
section
variable {X : Cx} {pins : List (Addr × Obj)} {σ : St} {H : Hp} {s : Shared}
theorem Inv.held (I : Inv X pins σ H s) (v : Value) : Inv (X.held v) pins σ H s :=
  ⟨⟨I.ok.mod, I.ok.kind, I.ok.glob, I.ok.blt, I.ok.above, I.ok.inj, I.ok.has, I.ok.cab, fun z => Bool.noConfusion z, I.ok.frames, I.ok.stk, I.ok.exf, I.ok.bs, I.ok.bsz, I.ok.noex, I.ok.exfs, I.ok.funs, I.ok.frf⟩, I.os, I.bare, I.base, I.loc, I.cell, I.free, I.freeC, I.pin, I.hok, I.len⟩
theorem Inv.unheld {v : Value} (I : Inv (X.held v) pins σ H s) (ok : X.Ok) : Inv X pins σ H s := ⟨ok, I.os, I.bare, I.base, I.loc, I.cell, I.free, I.freeC, I.pin, I.hok, I.len⟩
/-- an object that no one has spoken of is spoken of from now on -/
theorem Inv.track {e : Addr} {φ : Heap → Prop} (I : Inv X pins σ H s) (hn : H e = none) (d0 : X.s₀.heap.get? e = none) (nL : X.env.locals ≠ e) (nC : ∀ x c, X.env.cells.lookup x = some c → c ≠ e) (nP : ∀ p ∈ X.pn ++ pins, p.1 ≠ e) (hx : φ s.heap)
    (there : ∃ o, s.heap.get? e = some o) (st : ∀ h1 h2 : Heap, φ h1 → (∀ o, h1.get? e = some o → h2.get? e = some o) → φ h2) : Inv X pins σ (upd H e (.ext φ)) s := by
  have ne : ∀ b u, H b = some u → b ≠ e := fun b u q => ne_of_none q hn
  have old : ∀ b o, X.s₀.heap.get? b = some o → b ≠ e := fun b o q z => by rw [z, d0] at q; cases q
  refine ⟨I.ok, I.os, I.bare, ⟨I.base.keep, I.base.slot, fun b o q n hb => ?_, I.base.there, fun b xs q => ?_, fun b o u q => ?_, fun b ps q => ?_⟩, I.loc, I.cell, ?_, fun x c q => ?_, fun p hp => ?_, fun b u q => ?_, I.len⟩
  · rw [upd_ne (old b o q)]; exact I.base.free b o q n hb
  · have z := I.base.tups b xs q
    rw [upd_ne (ne b _ z)]; exact z
  · have z := I.base.frzs b o u q
    rw [upd_ne (ne b _ z)]; exact z
  · obtain ⟨more, z⟩ := I.base.tbls b ps q
    exact ⟨more, by rw [upd_ne (ne b _ z)]; exact z⟩
  · rw [upd_ne nL]; exact I.free
  · rw [upd_ne (nC x c q)]; exact I.freeC x c q
  · obtain ⟨a1, a2, a3⟩ := I.pin p hp
    exact ⟨a1, by rw [upd_ne (nP p hp)]; exact a2, a3⟩
  · by_cases hb : b = e
    · subst hb
      rw [upd_same] at q
      cases q
      exact ⟨hx, there, st⟩
    · rw [upd_ne hb] at q
      exact (I.hok b u q).stay (fun _ _ _ r => r) (fun c r => by rw [upd_ne (ne c _ r)]; exact r) fun c xs r => by rw [upd_ne (ne c _ r)]; exact r
/-- the frame's own map has changed, and nothing else -/
theorem Inv.reframed {h' : Heap} {σ' : St} {m' : Str → Option Value} {t' : Nat} (I : Inv X pins σ H s) (sb : Heap.SameBut X.env.locals s.heap h') (ns : h'.Ns X.env.locals m')
    (lk : ∀ (i : Nat) (x : Str) (v : V), X.N[i]? = some x → σ'[i]? = some (some v) → Vis X.env.scope x → ∃ u, RelV v u ∧ Look X.env h' m' x u) (ln : σ'.length = X.N.length) : Inv X pins σ' H { s with heap := h', toks := t' } := by
  have nl : ∀ b o, X.s₀.heap.get? b = some o → b ≠ X.env.locals := fun b o q => Nat.ne_of_lt (Nat.lt_of_lt_of_le (Heap.lt_size q) I.ok.above)
  have nt : ∀ b u, H b = some u → b ≠ X.env.locals := fun b u q => ne_of_none q I.free
  refine ⟨I.ok, I.os, I.bare, ⟨fun b o q n hb hc => (sb.2 b (nl b o q)).trans (I.base.keep b o q n hb hc), fun b o q n hb hc => ?_, I.base.free, fun b o q hc => ?_, I.base.tups, I.base.frzs, I.base.tbls⟩, ⟨m', ns, lk⟩, fun x c q => ?_, I.free, I.freeC, fun p hp => ?_, fun b u q => ?_, ln⟩
  · obtain ⟨sl, z⟩ := I.base.slot b o q n hb hc
    exact ⟨sl, (sb.2 b (nl b o q)).trans z⟩
  · obtain ⟨o', z⟩ := I.base.there b o q hc
    exact ⟨o', (sb.2 b (nl b o q)).trans z⟩
  · obtain ⟨v, o, z, d⟩ := I.cell x c q
    exact ⟨v, o, (sb.2 c (I.cne x c q)).trans z, d⟩
  · obtain ⟨a1, a2, a3, a4⟩ := I.pin p hp
    exact ⟨(sb.2 p.1 a3).trans a1, a2, a3, a4⟩
  · refine (I.hok b u q).stay (fun c v hc r => (sb.2 c ?_).trans r) (fun _ r => r) fun _ _ r => r
    rcases hc with rfl | hc
    · exact nt c u q
    · exact nt c _ hc
/-- the name behind as is bound no more -/
theorem Inv.goes {i : Nat} {n : Str} {pos : Pos} {A : Around} {E : Value → Shared → Prop} {Q : Unit → Shared → Prop} (I : Inv X pins σ H s) (nd : X.N.Nodup) (hi : X.N[i]? = some n) (hk : X.env.kindOf n = some .local)
    (q : ∀ s', Inv X pins (σ.set i none) H s' → Q () s') : wpAny (model X.prog X.w) A (do bindName X.env n .none; unbindBehindTheSuite X.env n pos) Q E s := by
  obtain ⟨m, hn, hl⟩ := id I.loc
  refine wpAny_nameGoes_keeps hk hn (by rw [I.ok.kind]; rfl) fun h' v ns sb => q _ (I.reframed sb ns (fun j x w hj hw hv => ?_) (by rw [List.length_set]; exact I.len))
  have hji : j ≠ i := fun z => by
    subst z
    have hlt : j < σ.length := by rw [I.len]; exact (List.getElem?_eq_some_iff.mp hj).1
    rw [List.getElem?_set_self hlt] at hw
    cases hw
  rw [List.getElem?_set_ne (Ne.symm hji)] at hw
  have hxn : x ≠ n := fun z => hji (nodup_ix nd hj (by rw [z]; exact hi))
  obtain ⟨u, r, l⟩ := hl j x w hj hw hv
  refine ⟨u, r, ?_⟩
  rcases l with ⟨k1, k2⟩ | ⟨k1, c, k2, o, k3, k4⟩
  · exact .inl ⟨k1, by show (if x = n then v else m x) = some u; rw [if_neg hxn]; exact k2⟩
  · exact .inr ⟨k1, c, k2, o, (sb.2 c (I.cne x c k2)).trans k3, k4⟩
end
/-- what the suite is to reach -/
def heldEnds (i : Nat) (D : Ends) : Ends := { nx := fun σ' H' => D.nx (σ'.set i none) H', rt := fun _ _ => False }
/-- a class that the clause takes, and what follows -/
def Caught (K : PySem.W.Frag) (R : Addr) (i : Nat) (ts : TS) (D : Ends) (σ : St) : XK := fun C _ H' => PySem.W.exmOne K C (.ref R) = some true ∧ ∀ e, H' e = none → ts (heldEnds i D) (σ.set i (some (.ref e))) (upd H' e (excAt e C))
theorem catch_ok {X : Cx} {pins : List (Addr × Obj)} {σ : St} {H : Hp} {s s' : Shared} {ev : Value} {x n : Str} {R : Addr} {i : Nat} {np hpos : Pos} {b0 : Stmt} {suite : List Stmt} {ts : TS} {D : Ends} (hex : X.ex = []) (hst : X.stack = X.env :: X.outer)
    (hfr : X.env.frame = some X.env.locals) (nd : X.N.Nodup) (hi : X.N[i]? = some n) (hk : X.env.kindOf n = some .local) (hl : Loc X.env.scope n) (hf : X.fn n = true ∨ X.env.scope.names.lookup n = some .local) (hg : Gl X x) (hm : X.mg x = some (.ref R))
    (hs : ∀ v, PSs (X.held v) (b0 :: suite) ts) (I : Inv X pins σ H s) (cx : CXE X.prog X.w X.stack H s (Caught X.K R i ts D σ) ev s') (hd : (x == ("__debug__" : Str)) = false) :
    wpAny (model X.prog X.w) X.A (noteFrame ev X.env) (fun _ s2 => wpAny (model X.prog X.w) X.A (setFlight ev none) (fun _ s3 => wpAny (model X.prog X.w) X.A (handleBy ev X.env [.ExceptHandler (some (.Name x np)) (some n) (b0 :: suite) hpos]) (SP X pins D) X.xe s3) X.xe s2) X.xe s' := by
  obtain ⟨e, T, C, a0, H', rfl, os, bare, un, hok, de, dT, he, hT, fT, hmatch, q⟩ := cx
  obtain ⟨hh, g, d, tk, os'⟩ := s'
  obtain rfl : os' = s.os := os
  have I1 : Inv X pins σ H' { s with heap := hh, gens := g, drawn := d, toks := tk } := I.call (g' := g) (d' := d) (t' := tk) (ch := []) un hok bare (fun _ z => nomatch z)
  have stk : hh.FunFrames X.base (X.env :: X.outer) := hst ▸ I1.stack
  have fl : Heap.FlyingW (PySem.W.hideAll hh (e :: T :: frs X.stack)) (X.env :: X.outer) e C a0 hh :=
    ⟨fun b o z => PySem.W.of_hideAll _ z, PySem.W.hideAll_none _ (by simp), frames_hid stk (by rw [← hst]; exact fun b z => List.mem_cons_of_mem _ (List.mem_cons_of_mem _ z)), fT.traced (PySem.W.hideAll_none _ (by simp))⟩
  -- any later heap of the flight, seen from here
  have seen : ∀ (h' : Heap), (PySem.W.hideAll hh (e :: T :: frs X.stack)).StaysIn h' → hh.UpToSlots h' → Inv X pins σ H' { s with heap := h', gens := g, drawn := d, toks := tk } := fun h' fk up =>
    (I.flown (H' := H') (h1 := hh) (h2 := h') (g' := g) (d' := d) (t' := tk) (S := [e, T]) un hok (fun b hb => by rcases List.mem_cons.mp hb with z | z; rw [z]; exact de; rw [List.mem_singleton.mp z]; exact dT)
      (fun b hb => by rcases List.mem_cons.mp hb with z | z; rw [z]; exact he; rw [List.mem_singleton.mp z]; exact hT) (fun b o z hS hb => fk b o (PySem.W.hideAll_get _ z fun hmem => by
        rcases List.mem_cons.mp hmem with y | hmem
        · exact hS (by rw [y]; simp)
        · rcases List.mem_cons.mp hmem with y | hmem
          · exact hS (by rw [y]; simp)
          · exact hb hmem)) up bare).1
  refine wpAny_looks_onW (s := ⟨hh, g, d, tk, s.os⟩) (by rw [← hst]; exact I.ok.frames) hfr fl fun h2 fl2 up2 => wpAny_landsW (s := ⟨h2, g, d, tk, s.os⟩) fl2 fun h3 fl3 up3 => ?_
  have I3 := seen h3 fl3.1 (up2.trans up3)
  obtain ⟨oe, hoe, hce⟩ := fl3.there
  have ty : PySem.W.Looks (model X.prog X.w) h3 (typeOf (.ref e)) C := hce ▸ (PySem.W.Looks.ld hoe).andThen .now
  refine wpAny_handleBy_cons (codeAny_handlers_test (ld_glob (X := X.held (.ref e)) (I3.held _) hg hm ?_ hd)) (by intro z; cases z)
  refine (PySem.W.exm_one I3.kIn ty hmatch).here ?_
  refine codeAny_handlers_suite_as (lands_againW (s := ⟨h3, g, d, tk, s.os⟩) fl3 fun h4 fl4 up4 => ?_)
  have I4 := seen h4 fl4.1 ((up2.trans up3).trans up4)
  obtain ⟨o4, ho4, hc4⟩ := fl4.there
  have live : ∀ b o, s.heap.get? b = some o → b ≠ e := fun b o z y => by rw [y, de] at z; cases z
  have I5 := I4.track (e := e) (φ := fun h => ∃ o, h.get? e = some o ∧ o.cls = C) he (dead0 I hex de) (by obtain ⟨m, ⟨o, es, ep, z, _⟩, _⟩ := I.loc; exact live _ o z) (fun y c z => by obtain ⟨v, o, r, _⟩ := I.cell y c z; exact live c o r)
    (fun p hp => live p.1 p.2 (I.pin p hp).1) ⟨o4, ho4, hc4⟩ ⟨o4, ho4⟩ fun a b ⟨o, y, z⟩ k => ⟨o, k o y, z⟩
  refine store_ok I5 nd hi hl (v := .ref e) rfl (fun s5 I6 => ?_) hf
  refine wpAny_mono (hs (.ref e) pins s5 _ _ (heldEnds i D) (I6.held _) (q e he)) (fun f s6 h6 => ?_) fun _ _ z => z.elim
  cases f with
  | next =>
    obtain ⟨σ7, H7, I7, q7⟩ := h6
    exact (I7.unheld I.ok).goes nd hi hk fun s8 I8 => ⟨_, H7, I8, q7⟩
  | ret u =>
    obtain ⟨_, _, _, _, _, z⟩ := h6
    exact z.elim
  | brk =>
    obtain ⟨_, _, _, z⟩ := h6
    exact z.elim
  | cont =>
    obtain ⟨_, _, _, z⟩ := h6
    exact z.elim
end L2

namespace L2
open PySem PySem.Spec PyProof.Rows
section
variable {X : Cx} {pins : List (Addr × Obj)} {σ : St} {H : Hp} {s : Shared} {x n y fx : Str} {R : Addr} {i j k : Nat} {np hpos pos p cp yp ap : Pos} {b0 : Stmt} {suite : List Stmt} {ts : TS} {D : Ends} {ps : List Str} {sp : Sp} {e : Expr} {es : List Expr} {t : TA}
/-- what stands round a try's clause -/
structure TryOk (X : Cx) (x n : Str) (R : Addr) (i : Nat) (b0 : Stmt) (suite : List Stmt) (ts : TS) : Prop where
  hex : X.ex = []
  hst : X.stack = X.env :: X.outer
  hfr : X.env.frame = some X.env.locals
  nd : X.N.Nodup
  hi : X.N[i]? = some n
  hk : X.env.kindOf n = some .local
  hl : Loc X.env.scope n
  hf : X.fn n = true ∨ X.env.scope.names.lookup n = some .local
  hg : Gl X x
  hm : X.mg x = some (.ref R)
  hs : ∀ v, PSs (X.held v) (b0 :: suite) ts
  hd : (x == ("__debug__" : Str)) = false
abbrev onCatch (X : Cx) (pins : List (Addr × Obj)) (D : Ends) (hs : List ExceptHandler) : Value → Shared → Prop := fun ev s' =>
  wpAny (model X.prog X.w) X.A (noteFrame ev X.env) (fun _ s2 => wpAny (model X.prog X.w) X.A (setFlight ev none) (fun _ s3 => wpAny (model X.prog X.w) X.A (handleBy ev X.env hs) (SP X pins D) X.xe s3) X.xe s2) X.xe s'
theorem try_call (G : TryOk X x n R i b0 suite ts) (F : DfX X.prog X.w X.K X.mg X.base fx k ps sp) (hr : Room k X.A) (ha : PA X.nox (e :: es) t) (hg : Gl X fx) (hdb : (fx == ("__debug__" : Str)) = false)
    (he : starEach (e :: es) X.env = (false, eval e X.env) :: starEach es X.env) (hpl : (backTo cp (starEach es X.env)).any (·.1) = false) {Qv : VK} (I : Inv X pins σ H s) (h : t σ H fun vs H1 => sp vs H1 Qv (Caught X.K R i ts D σ)) :
    wpAny (model X.prog X.w) X.A (eval (.Call (.Name fx p) (e :: es) [] cp) X.env) (EP X pins σ Qv) (onCatch X pins D [.ExceptHandler (some (.Name x np)) (some n) (b0 :: suite) hpos]) s := by
  obtain ⟨f, fd, h1, h2, h3, F⟩ := F
  refine wpAny_Call_Name_kw (ld_glob I hg h1 (PySem.W.callWith_K (h₀ := X.base) I.ok.mod.kin h2 (wpAny_mono (ha cp pins s σ H _ (I.wish _) h) (fun us s1 ⟨vs, H1, I1, r, q⟩ => ?_) fun _ _ z => z.elim) he hpl) hdb)
  have J : Inv X pins σ H1 s1 := I1.unwish
  refine ⟨J.kIn, wpAny_call (codeAny_mono (F.run X.A X.stack s1 H1 ⟨us, []⟩ us vs Qv _ hr J.env0 ?_ r q) fun r s' hq => ?_)⟩
  · have hb := h3 s1 us J.kIn
    rw [List.append_nil] at hb
    exact hb (by rw [← r.length]; exact F.len _ _ _ _ q)
  · cases r with
    | error ev => exact catch_ok G.hex G.hst G.hfr G.nd G.hi G.hk G.hl G.hf G.hg G.hm G.hs J hq G.hd
    | ok fl =>
      cases fl with
      | ret u => exact J.after hq
      | next => exact False.elim hq
      | brk => exact False.elim hq
      | cont => exact False.elim hq
/-- try: y = f(..) except R as n: suite -/
def tTryAsg (K : PySem.W.Frag) (R : Addr) (i j : Nat) (sp : Sp) (t : TA) (ts : TS) : TS := fun D σ H => t σ H fun vs H1 => sp vs H1 (fun v H2 => D.nx (σ.set j (some v)) H2) (Caught K R i ts D σ)
/-- try: f(..) except R as n: suite -/
def tTryExp (K : PySem.W.Frag) (R : Addr) (i : Nat) (sp : Sp) (t : TA) (ts : TS) : TS := fun D σ H => t σ H fun vs H1 => sp vs H1 (fun _ H2 => D.nx σ H2) (Caught K R i ts D σ)
theorem ps_tryExp (G : TryOk X x n R i b0 suite ts) (F : DfX X.prog X.w X.K X.mg X.base fx k ps sp) (hr : Room k X.A) (ha : PA X.nox (e :: es) t)
    (hg : Gl X fx := by rfl) (hdb : (fx == ("__debug__" : Str)) = false := by decide) (he : starEach (e :: es) X.env = (false, eval e X.env) :: starEach es X.env := by rfl) (hpl : (backTo cp (starEach es X.env)).any (·.1) = false := by rfl)
    (hs : swapsWith (.Call (.Name fx p) (e :: es) [] cp) none ap.line X.env = pure false := by rfl) :
    PS X (.Try [.Expr (.Call (.Name fx p) (e :: es) [] cp) ap] [.ExceptHandler (some (.Name x np)) (some n) (b0 :: suite) hpos] [] [] pos) (tTryExp X.K R i sp t ts) := by
  intro pins s σ H D I h
  refine wpAny_Try_except (wpAny_execs_cons (wpAny_Expr_any (wpAny_mono (try_call G F hr ha hg hdb he hpl I h) (fun v s1 ⟨w, H1, I1, r1, q1⟩ => ?_) fun _ _ z => z) I.quiet hs))
  exact wpAny_execs_nil (wpAny_execs_nil ⟨σ, H1, I1, q1⟩)
end
end L2

namespace L2
open PySem PySem.Spec PySem.W PyProof.Rows Builtin Builtin.ObjectAttr Builtin.Getset_descriptor
/-! ## X13. isinstance(e, C), e an exception of an own class -/
/-- what of the text an own exception class must have -/
structure ExcCls (K : Frag) (C : Addr) : Prop where
  ga : findIn K (.ref C) "__getattribute__" = some (some (.builtin "BaseException.__getattribute__"))
  noHook : findIn K (.ref C) "__getattr__" = some none
  cls : findIn K (.ref C) "__class__" = some (some (.builtin "object.__class__"))
  get : specialIn K (.builtin "object.__class__") "__get__" = some (some (.builtin "getset_descriptor.__get__"))
  tk : takesIn K (.builtin "object.__class__") = some true
  obj : mroIn K C (.type "object") = some true
  exc : mroIn K C (.type "BaseException") = some true
  isC : isClsIn K C = true
def ExcIs (e C : Addr) (h : Heap) : Prop := ∃ o, h.get? e = some o ∧ o.cls = .ref C
theorem ExcIs.ty {e C : Addr} {h : Heap} {M : Model} (x : ExcIs e C h) : Looks M h (typeOf (.ref e)) (.ref C) := by
  obtain ⟨o, a, b⟩ := x
  exact b ▸ (Looks.ld a).andThen .now
section
variable {prog : Program} {w : World} {A : Around} {E : Value → Shared → Prop} {s : Shared} {K : Frag} {e C : Addr}
/-- its class, as the getter of object tells it: walked anew, as no instance's dict is known here -/
theorem own_class : (".".intercalate ("object.__class__".cutAt '.').dropLast) = "object" := by decide +kernel
theorem exc_tells {R : Result → Shared → Prop} (x : ExcIs e C s.heap) (h : R (.ok (.ret (.ref C))) s) : codeAny (model prog w) A (.builtin "object.__class__" ⟨[.ref e], []⟩) R s := by
  have isE := x.ty (M := model prog w)
  refine codeAny_builtin KF.entry_class ?_
  wp_walk using isE.here
  exact h
theorem exc_getter {R : Result → Shared → Prop} {tp : Value} (F : ExcCls K C) (X : K.In s.heap) (x : ExcIs e C s.heap) (h : R (.ok (.ret (.ref C))) s) : codeAny (model prog w) A (.call (.builtin "getset_descriptor.__get__") ⟨[.builtin "object.__class__", .ref e, tp], []⟩) R s := by
  have walked : ∀ A', wpAny (model prog w) A' (Builtin.«getset_descriptor.__get__» ⟨[.builtin "object.__class__", .ref e, tp], []⟩)
      (fun fin s' => match fin with | .done f => R (.ok f) s' | .again c' => c'.quiet = true ∧ codeAny (model prog w) A c' R s') (fun e s' => R (.error e) s') s := fun A' => by
    have isE := x.ty (M := model prog w)
    have isO := looks_mroIn (M := model prog w) X F.obj
    wp_walk using isE.here
    simp only [own_class]
    refine isO.here ?_
    wp_walk
    exact ⟨Code.quiet_builtin _ (by decide +kernel), exc_tells x h⟩
  have args := KF.args_gs (.builtin "object.__class__") (.ref e) tp
  exact codeAny_call_builtin KF.slot_gs.plain KF.entry_gs (KF.slot_gs.check _ _ _ _ _ _ _ _ KF.type_class args (walked _))
theorem exc_class {Q : Option Value → Shared → Prop} (F : ExcCls K C) (X : K.In s.heap) (x : ExcIs e C s.heap) (h : Q (some (.ref C)) { s with toks := s.toks + 1 }) : wpAny (model prog w) A (getAttr? (.ref e) "__class__") Q E s := by
  obtain ⟨hh, g, d, t, os⟩ := s
  have isE := x.ty (M := model prog w)
  have ga := looks_findIn (M := model prog w) X F.ga
  have hook := looks_findIn (M := model prog w) X F.noHook
  have at_ := looks_findIn (M := model prog w) X F.cls
  have gt := looks_specialIn (M := model prog w) X F.get
  have tks := looks_takesIn (M := model prog w) X F.tk
  have isB := looks_mroIn (M := model prog w) X F.exc
  have bnd := PySem.F.attrBase_ValueError.ga.bind (.ref e)
  unfold getAttr? getAttrBy? getAttrBy
  refine wpAny_bind (wpAny_mkText (wpAny_bind (wpAny_attempt (wpAny_holding (wpAny_bind (isE.at (wpAny_bind (ga.at ?_))))))))
  have other : (onTheHeap (.ref C) && Value.builtin "BaseException.__getattribute__" == Value.builtin "object.__getattribute__") = false := by
    rw [show (Value.builtin "BaseException.__getattribute__" == Value.builtin "object.__getattribute__") = false by decide +kernel, Bool.and_false]
  refine wpAny_ite_false (by rw [other]; decide) ?_
  unfold getAttrByItsOwn hookBefore callGetattribute boundAndCalled
  refine wpAny_bind (wpAny_ite_true (by rfl) (hook.at (wpAny_bind (wpAny_attempt (wpAny_holding (wpAny_ite_false (by rfl) (wpAny_bind (wpAny_of_eq bnd (wpAny_call ?_)))))))))
  refine codeAny_call_builtin PySem.F.attrBase_ValueError.ga.plain PySem.F.entry_bexc_ga ?_
  have kd : builtinKind "BaseException.__getattribute__" = some .slot := by decide +kernel
  have sp : splitId "BaseException.__getattribute__" = some ("BaseException", "__getattribute__") := by decide +kernel
  have ag := PySem.F.args_bexc_ga (.ref e) (.str (Str.ofString "__class__") t)
  simp only [checkBuiltinCall, kd, sp]
  refine wpAny_bind ?_
  unfold isInstance
  refine wpAny_bind (isE.at (isB.at ?_))
  refine wpAny_ite_false (by decide) (wpAny_of_eq ag ?_)
  unfold Builtin.«object.__getattribute__» find getOf
  repeat (first | with_reducible refine wpAny_call ?_ | lk)
  refine exc_getter F X x (wpAny_pure ?_)
  exact handed_on rfl (wpAny_pure h)
/-- so isinstance has its answer -/
theorem kitx_exc (F : ExcCls K C) : KitX K (.ref e) (.ref C) (ExcIs e C) where
  ty := fun _ _ _ x => x.ty
  it := fun M h X x => by
    obtain ⟨cd, hc⟩ := Option.isSome_iff_exists.mp F.isC
    unfold clsIn at hc
    split at hc
    case h_2 => cases hc
    case h_1 ho => exact fun A' Q' E' s' k q => by unfold isType loadHead; exact wpAny_bind (wpAny_loadPart (k _ _ (X _ _ ho)) (wpAny_pure q))
  ne := fun h tp dd its n sl X htp => by
    obtain ⟨cd, hc⟩ := Option.isSome_iff_exists.mp F.isC
    unfold clsIn at hc
    split at hc
    case h_2 => cases hc
    case h_1 ho =>
      refine Bool.eq_false_iff.mpr fun q => ?_
      cases beq_iff_eq.mp q
      cases (X _ _ ho).symm.trans htp
  ca := fun X x k => exc_class F X x k
end
/-- isinstance(e, D) -/
def rIsExc (K : Frag) (D : Value) (d : V) : List V → Hp → VK → Prop := fun xs H Q => ∃ e C b, xs = [.ref e, d] ∧ H e = some (excAt e (.ref C)) ∧ ExcCls K C ∧ kitOne K (.ref C) D = some b ∧ Q (.bl b) H
theorem call_isexc {X : Cx} {D : Value} {d : V} (hd : RelV d D) (hD : ∀ u, RelV d u → u = D) : CallR X (.builtin "isinstance") (rIsExc X.K D d) := by
  intro pins s σ H xs us Q I r h
  obtain ⟨e, C, b, rfl, he, hC, hk, q⟩ := h
  obtain ⟨u, w', rfl, rx, ry⟩ := vals2 r
  cases rx
  cases hD _ ry
  obtain ⟨ex, _⟩ := I.hok e _ he
  exact kia_one (kitx_exc hC) I.kIn ex hk (fun z => nomatch z) fun tk => ⟨.bl b, H, I.tok tk, rfl, q⟩
end L2

namespace RA
/-! numbers of words: every number has its word -/
/-- how many words are shorter than n signs, of k letters -/
def geo (k : Int) : Nat → Int
  | 0 => 0
  | n + 1 => geo k n * k + 1
end RA

namespace RA
open PySem L2
/-- a text that may be shown in an error's words -/
structure Sm (w : List Nat) : Prop where
  len : w.length ≤ 4000
  cod : ∀ c ∈ w, c < 1000000
/-- the signs that are no letters -/
def forL : List Nat := List.range' 32 5 ++ List.range' 38 59 ++ List.range' 123 4
def abcL : List Nat := List.range' 97 26
/-- the small letters that are none of the letters -/
def othL (L : List Nat) : List Nat := abcL.filter fun c => !decide (c ∈ L)
/-! texts that tell no letters -/
/-! how far a word's number goes -/
end RA

namespace RA
/-! one word ahead of another -/
def lexd (L : List Nat) : List Nat → List Nat → Bool
  | c :: a, d :: b => if c = d then lexd L a b else decide (L.idxOf c < L.idxOf d)
  | _, _ => false
def ear (L a b : List Nat) : Bool := if a.length ≠ b.length then decide (a.length < b.length) else lexd L a b
theorem lexd_at (L : List Nat) {a b : List Nat} {i c d : Nat} (hc : a[i]? = some c) (hd : b[i]? = some d) : lexd L (a.drop i) (b.drop i) = if c = d then lexd L (a.drop (i + 1)) (b.drop (i + 1)) else decide (L.idxOf c < L.idxOf d) := by
  obtain ⟨h1, e1⟩ := List.getElem?_eq_some_iff.mp hc
  obtain ⟨h2, e2⟩ := List.getElem?_eq_some_iff.mp hd
  rw [List.drop_eq_getElem_cons h1, List.drop_eq_getElem_cons h2, e1, e2]
  rfl
end RA

namespace L2
open PySem PySem.Spec PyProof.Rows
/-! ## X14. lists of like flat items are alike -/
theorem eqV_same : ∀ {x : V}, flatV x = true → eqV x x = true := by
  intro x h
  cases x with
  | non => rfl
  | bl a => simp [eqV]
  | int a => simp [eqV]
  | str a => simp [eqV]
  | _ => exact absurd (show false = true from h) Bool.false_ne_true
def rEqL (K : PySem.W.Frag) : R2 := fun x y H Q => ∃ p q xs, x = .ref p ∧ y = .ref q ∧ SqL K H p xs ∧ SqL K H q xs ∧ xs.all flatV = true ∧ Q (.bl true) H
theorem op_eqL {X : Cx} (hu : X.A.units < cLine) : OpR X (compareOp .Eq) (rEqL X.K) := by
  intro pins s σ H x y v u Q I rx ry h
  obtain ⟨p, q, xs, rfl, rfl, hp, hq, hf, k⟩ := h
  cases rx
  cases ry
  obtain ⟨its, r1, pl1, hz1⟩ := I.list hp
  obtain ⟨its2, r2, pl2, hz2⟩ := I.list hq
  have l1 := r1.length
  have l2 := r2.length
  refine SeqAt.eq_listAt (e := fun _ => true) pl1.isList pl2.isList (by simp; (clear hz2 hz1 hf hu; omega)) hu (fun j h1 h2 => ?_) ⟨.bl _, H, I, rfl, ?_⟩
  · have hj : j < xs.length := by simp at h1; (clear h2 hz2 hz1 hf hu; omega)
    obtain ⟨a, ea, ra⟩ := r1.get (i := j) (List.getElem?_eq_getElem hj)
    obtain ⟨b, eb, rb⟩ := r2.get (i := j) (List.getElem?_eq_getElem hj)
    have fx : flatV xs[j] = true := List.all_eq_true.mp hf _ (List.getElem_mem hj)
    have e := eqAt_V (A := X.A.in1) (s := s) ra rb fx fx
    rw [eqV_same fx] at e
    have e1 : its.toArray[j] = a := by
      have := List.getElem?_eq_some_iff.mp ea
      obtain ⟨_, e⟩ := this
      simpa using e
    have e2 : its2.toArray[j] = b := by
      have := List.getElem?_eq_some_iff.mp eb
      obtain ⟨_, e⟩ := this
      simpa using e
    rw [e1, e2]
    exact e
  · have : ((List.range its.toArray.size).all fun _ => true) = true := by simp
    rw [this]
    exact k
theorem Same.set {H H' : Hp} {a : Addr} {o : HO} (s : Same H H') (n : H a = none) : Same H (L2.upd H' a o) := fun b u e => by
  rw [upd_ne (ne_of_none e n)]
  exact s b u e
end L2
namespace RA
open PySem L2
/-- which refusal is due: none, the letters, the number, the room, the word -/
def dueN (y : Int) (f s t : Bool) : Nat := if y < 4 ∧ f = true then 1 else if y = 2 ∧ s = true then 2 else if y = 4 ∧ f = true then 3 else if (y ≠ 2 ∧ s = true) ∨ (y = 0 ∧ t = true) then 4 else 0
def nmN : Nat → List V
  | 1 => [.str "NoLetters"]
  | 2 => [.str "NoNumber"]
  | 3 => [.str "NoRoom"]
  | 4 => [.str "NoWord"]
  | _ => []
end RA
namespace L2
theorem boot_verr : PySem.bootBuiltins "ValueError" = some (.type "ValueError") := by decide +kernel
end L2

namespace L2
open PySem PySem.Spec PyProof.Rows
/-! ## X15. more of lists -/
def rInsert : V → List V → Hp → VK → Prop := fun x vs H Q => ∃ l xs i y, x = .ref l ∧ vs = [.int i, y] ∧ H l = some (.lst xs) ∧ 0 ≤ i ∧ i ≤ 1000 ∧ i ≤ xs.length ∧ xs.length < sizeLine ∧ Q .non (upd H l (.lst (xs.take i.toNat ++ y :: xs.drop i.toNat)))
section
variable {K : PySem.W.Frag} {tl : TE} {a : Addr} {xs : List V} {tt : TT} {te : TE} {σ : St} {H : Hp} {Q : VK}
end
/-! types -/
theorem kit_st (K : PySem.W.Frag) : PySem.W.kitOne K (.type "str") (.type "tuple") = some false := by kernel_rfl
theorem kit_sl (K : PySem.W.Frag) : PySem.W.kitOne K (.type "str") (.type "list") = some false := by kernel_rfl
theorem kit_sb (K : PySem.W.Frag) : PySem.W.kitOne K (.type "str") (.type "bool") = some false := by kernel_rfl
theorem kit_si (K : PySem.W.Frag) : PySem.W.kitOne K (.type "str") (.type "int") = some false := by kernel_rfl
end L2
namespace L2
open PySem PySem.Spec PyProof.Rows
theorem call_isG {X : Cx} {T : String} : CallR X (.builtin "isinstance") (fun xs H Q => ∃ x t b, xs = [x, .ty T] ∧ TyOf X.K H x t ∧ PySem.W.kitOne X.K t (.type T) = some b ∧ Q (.bl b) H) := by
  intro pins s σ H xs us Q I r h
  obtain ⟨x, t, b, h1, h2, h3, q⟩ := h
  exact call_isinst (b := b) pins s σ H xs us Q I r ⟨x, t, h1, h2, h3, q⟩
end L2

namespace L2
open PySem PySem.Spec PyProof.Rows
/-! ## X16. y = [.. for x in ..]: the name is stored before the block's names go -/
section
variable {X : Cx} {elt iter : Expr} {x : Str} {px pos : Pos} {ifs : List Expr} {sc : Scope} {wi : TI} {tt : TT} {te : TE}
/-- a block stored in a name is the block that hands its own list on -/
theorem comp_used {M : Model} {A : Around} {env : Env} {E : Value → Shared → Prop} {Q : Flow → Shared → Prop} {s : Shared} {y : Str} {py spos : Pos} (hsw : swapsWith (.ListComp elt [⟨.Name x px, iter, ifs, 0⟩] sc pos) (some (.Name y py)) spos.line env = pure true)
    (h : ∀ p, wpAny M A (comprehension (.ListComp elt [⟨.Name x px, iter, ifs, 0⟩] sc pos) sc env p (newList []) false (eval iter env) (some (assign (.Name y py) env))) (fun _ s' => Q .next s') E s) :
    wpAny M A (exec (.Assign [.Name y py] (.ListComp elt [⟨.Name x px, iter, ifs, 0⟩] sc pos) spos) env) Q E s := by
  have used : wpAny M A (evalThenUse (.ListComp elt [⟨.Name x px, iter, ifs, 0⟩] sc pos) env (assign (.Name y py) env)) (fun _ s' => Q .next s') E s :=
    wpAny_bind (wpAny_mono (h iter.pos) (fun _ _ q => wpAny_pure q) fun _ _ e => e)
  have one := exec_Assign_Name_used (env := env) y py (.ListComp elt [⟨.Name x px, iter, ifs, 0⟩] sc pos) spos hsw
  exact one ▸ wpAny_bind (wpAny_standAt (wpAny_bind (wpAny_mono used (fun _ _ q => wpAny_pure q) fun _ _ e => e)))
end
/-! the same rules, the frame's part of the text named -/
theorem call_tupleK {X : Cx} (K : PySem.W.Frag) (hK : X.K = K := by rfl) : CallR X (.type "tuple") (fun xs H Q => ∃ p ys, xs = [.ref p] ∧ ((SqL K H p ys ∧ ∀ l, H l = none → Q (.ref l) (upd H l (.tup ys))) ∨ (SqT K H p ys ∧ Q (.ref p) H))) := by
  subst hK
  exact call_tuple_of
end L2
namespace L2
open PySem PySem.Spec PyProof.Rows
/-! ## X17. a block's name that the def has too -/
section
variable {X : Cx} {elt iter : Expr} {x : Str} {px pos : Pos} {ifs : List Expr} {sc : Scope} {wi : TI} {tt : TT} {te : TE}
theorem pe_compS (N2 : List Str) (hc : X.calm = true) (hN2 : (x :: N2).Nodup) (hi : PI X (.Name x px) iter wi)
    (hb : ∀ (cl : List (Str × Addr)) (C : Addr) (fp : List Addr) (s : Shared) (H : Hp), PTs { cxComp X x sc cl C fp s H with N := x :: N2 } ifs tt ∧ PE { cxComp X x sc cl C fp s H with N := x :: N2 } elt te)
    (hx : sc.names.lookup x = some .local := by rfl) (hkind : sc.kind = .function := by rfl)
    (hnames : ∀ y ∈ sc.names, y.2 = .local → sc.names.lookup y.1 = some .local := by decide +kernel) (hcell : ∀ y ∈ sc.names, y.2 ≠ .cell := by decide +kernel)
    (hfree : (sc.names.all fun y => y.2 != .free || X.env.scope.names.lookup y.1 == some .cell) = true := by rfl)
    (hlo : (N2.all fun y => sc.names.lookup y != some .local) = true := by rfl) (hl2 : N2.length = X.N.length := by rfl) (hz2 : ((N2.zip X.N).all fun y => y.1 == y.2 || sc.names.lookup y.1 == none) = true := by rfl)
    (hs : ∀ x, foldedSetIterable iter X.env x = pure x := by intro _; rfl) :
    PE X (.ListComp elt [⟨.Name x px, iter, ifs, 0⟩] sc pos) (tComp wi tt te) := by
  intro pins s σ H Q I h
  have hfr : ∀ y ∈ sc.names, y.2 = .free → X.env.kindOf y.1 = some .cell := fun y hy e => by
    have q := List.all_eq_true.mp hfree y hy
    rw [e] at q
    simpa [Env.kindOf] using q
  have hlo' : ∀ y ∈ N2, sc.names.lookup y ≠ some .local := fun y hy e => by
    have q := List.all_eq_true.mp hlo y hy
    rw [e] at q
    simp at q
  obtain ⟨cl, hclos, hsub, hhas⟩ := closure_of (env := X.env) (sc := sc) fun y hy e => I.ok.has y.1 (.inl (hfr y hy e))
  rw [eval_ListComp]
  refine wpAny_comprehension_free (use := none) rfl hs hclos hkind hnames (thn (hi pins s σ H _ I h) fun v s1 h1 => thn h1 fun itv s2 h2 => ?_)
  obtain ⟨it, fp, tn, J, H2, e, I2, T, st2, f2, hW⟩ := h2
  subst e
  -- the accumulator, then the block's frame
  have nobinds : ∀ y ∈ ([] : List (Str × Value)), sc.names.lookup y.1 = some .local := fun y hy => absurd hy (by simp)
  refine wpAny_newObj_type ?_
  refine wpAny_newFunctionEnv hcell nobinds (fun h₁ hns₁ hsb₁ => ?_) hkind
  dsimp only at hns₁ hsb₁ ⊢
  generalize hHa : s2.heap.push { cls := .type "list", dict := none, data := .seq ([] : List Value).toArray } = Ha at hns₁ hsb₁ ⊢
  have hC : Ha.objs.size = s2.heap.objs.size + 1 := by rw [← hHa, Heap.size_push]
  have hDC : s2.heap.objs.size ≠ Ha.objs.size := by rw [hC]; exact Nat.ne_of_lt (Nat.lt_succ_self _)
  have hCle : s2.heap.objs.size ≤ Ha.objs.size := by rw [hC]; exact Nat.le_succ _
  have neC : ∀ b o, s2.heap.get? b = some o → b ≠ Ha.objs.size := fun b o e => Nat.ne_of_lt (Nat.lt_of_lt_of_le (Heap.lt_size e) hCle)
  have old : ∀ b o, s2.heap.get? b = some o → h₁.get? b = some o := fun b o e => hsb₁.extBut b o (neC b o e) (Heap.get?_push_of_some _ (hHa ▸ Heap.get?_push_of_some _ e))
  have hacc : h₁.get? s2.heap.objs.size = some { cls := .type "list", dict := none, data := .seq ([] : List Value).toArray } := hsb₁.extBut _ _ hDC (Heap.get?_push_of_some _ (hHa ▸ Heap.get?_push_size _ rfl))
  generalize hDe : s2.heap.objs.size = D at *
  generalize hCe : Ha.objs.size = C at *
  have hHD : H2 D = none := I2.hok.fresh (Nat.le_of_eq hDe)
  have hHC : H2 C = none := I2.hok.fresh (by (clear hHD hCle hDC neC hCe hacc old hHa nobinds hW f2 hhas hsub hclos hlo' hfr hs hz2 hl2 hlo hfree hcell hnames hkind hx hb hc; omega))
  obtain ⟨W, ⟨m0, w0⟩, turn⟩ := hW D hHD
  have fplt : ∀ b ∈ fp, b < D := fun b hb => by
    obtain ⟨o, e, _⟩ := T.obj _ _ st2 b hb
    rw [← hDe]
    exact Heap.lt_size e
  -- the block's context
  let X' : Cx := { cxComp X x sc cl C fp s2 H2 with N := x :: N2 }
  have nofs : ∀ b ∈ fp, b ∉ frs X.stack := fun b hb z => by
    rcases List.mem_cons.mp (I2.stkSub b z) with e | e
    · exact (f2 b hb).2.1 e
    · exact (f2 b hb).2.2.1 e
  have ok' : X'.Ok := by
    refine ⟨I2.ok.mod, hkind, I2.ok.glob, I2.ok.blt, ?_, fun y z c e1 e2 => I2.ok.inj y z c (hsub y c e1) (hsub z c e2), fun y hy => ?_, fun y c e => absurd (show false = true from e) Bool.false_ne_true, I2.ok.hd, I2.ok.frames, .inl rfl, fun b hb => ⟨?_, fun y c e => ?_⟩, I2.bs,
      Nat.le_trans I2.ok.bsz I2.sz, fun b o e hb => ?_, nofs, I2.stack, I2.stkFree⟩
    · show s2.heap.objs.size ≤ C
      (clear nofs fplt turn hHC hHD hCle hDC neC hCe hacc old hHa nobinds hW f2 hhas hsub hclos hlo' hfr hs hz2 hl2 hlo hfree hcell hnames hkind hx hb hc; omega)
    · rcases hy with hy | hy
      · rcases relabel_lookup (show (relabel sc X.env).names.lookup y = some .cell from hy) with e | ⟨_, e, _⟩
        · exact absurd rfl (hcell _ (PySem.mem_of_lookup e))
        · exact hhas _ (PySem.mem_of_lookup e) rfl
      · rcases relabel_lookup (show (relabel sc X.env).names.lookup y = some .free from hy) with e | ⟨e, _⟩
        · exact hhas _ (PySem.mem_of_lookup e) rfl
        · cases e
    · exact Nat.ne_of_lt (Nat.lt_of_lt_of_le (fplt b hb) (by (clear nofs fplt turn hHC hHD hDC hC neC hCe hacc hDe old hHa nobinds hW f2 hhas hsub hclos hlo' hfr hs hz2 hl2 hlo hfree hcell hnames hkind hx hc; omega) : D ≤ C))
    · exact (f2 b hb).2.2.2.2.1 y c (hsub y c e)
    · rcases (f2 b hb).2.2.2.1 with z | z
      · exact I2.ok.noex b o e z
      · exact absurd (Nat.lt_of_lt_of_le (Nat.lt_of_lt_of_le (Heap.lt_size e) I2.ok.bsz) z) (Nat.lt_irrefl _)
  have I4 : ∀ tk, Inv X' [] (none :: σ) (upd H2 D (.lst [])) { s2 with heap := h₁, toks := tk } := fun tk => by
    refine ⟨ok', rfl, I2.bare, Un.laid old (Nat.le_of_eq hDe) hHD, ⟨_, hns₁, fun i y v e1 e2 e3 => ?_⟩, fun y c e => ?_, ?_, fun y c e => ?_, fun p hp => ?_, I2.hok.laid old (Nat.le_of_eq hDe) ?_, ?_⟩
    · cases i with
      | zero => simp at e2
      | succ i =>
        have e0 : N2[i]? = some y := by simpa [X', cxComp] using e1
        have e2 : σ[i]? = some (some v) := by simpa using e2
        have e3 : Vis (relabel sc X.env) y := e3
        have hyN : y ∈ N2 := List.mem_of_getElem? e0
        have free : sc.names.lookup y = some .free ∧ (relabel sc X.env).names.lookup y ≠ some .local := by
          rcases e3 with e | e | e
          · rcases relabel_lookup e with q | ⟨q, _⟩
            · exact absurd q (hlo' y hyN)
            · cases q
          · rcases relabel_lookup e with q | ⟨_, q, _⟩
            · exact absurd rfl (hcell _ (PySem.mem_of_lookup q))
            · exact ⟨q, by rw [e]; decide⟩
          · rcases relabel_lookup e with q | ⟨q, _⟩
            · exact ⟨q, by rw [e]; decide⟩
            · cases q
        have e1 : X.N[i]? = some y := by
          have hi : i < N2.length := (List.getElem?_eq_some_iff.mp e0).1
          have hi2 : i < X.N.length := by (clear free e2 e0 e1 nofs fplt turn hHC hHD hCle hDC hC neC hCe hacc hDe old hHa nobinds hW f2 hhas hsub hclos hlo' hfr hs hz2 hlo hfree hcell hnames hkind hx hb hc; omega)
          have hm : (y, X.N[i]) ∈ N2.zip X.N := by
            have hz : (N2.zip X.N)[i]? = some (y, X.N[i]) := by
              rw [List.getElem?_zip_eq_some]
              exact ⟨e0, List.getElem?_eq_getElem hi2⟩
            exact List.mem_of_getElem? hz
          have q := List.all_eq_true.mp hz2 _ hm
          rcases Bool.or_eq_true_iff.mp q with q | q
          · have : y = X.N[i] := eq_of_beq q
            rw [List.getElem?_eq_getElem hi2, ← this]
          · have q2 : sc.names.lookup y = none := by simpa using q
            rw [free.1] at q2
            cases q2
        have kc : X.env.kindOf y = some .cell := hfr _ (PySem.mem_of_lookup free.1) rfl
        obtain ⟨m, hn, hl⟩ := I2.loc
        obtain ⟨u, ru, lk⟩ := hl i y v e1 e2 (.inr (.inl kc))
        rcases lk with ⟨q, _⟩ | ⟨_, c, hcc, ⟨o, ho, hd⟩⟩
        · rw [kc] at q; cases q
        · obtain ⟨c', hc'⟩ := hhas _ (PySem.mem_of_lookup free.1) rfl
          have e4 := hsub _ _ hc'
          rw [hcc] at e4
          cases e4
          refine ⟨u, ru, .inr ⟨?_, c, hc', ⟨o, old c o ho, hd⟩⟩⟩
          rcases e3 with e | e | e
          · exact absurd e free.2
          · exact .inl e
          · exact .inr e
    · obtain ⟨v, o, ho, hd⟩ := I2.cell y c (hsub y c e)
      exact ⟨v, o, old c o ho, hd⟩
    · show upd H2 D (.lst []) C = none
      rw [upd_ne (neA (by (clear nofs fplt turn hHC hHD hCle hDC neC hCe hacc hDe old hHa nobinds hW f2 hhas hsub hclos hlo' hfr hs hz2 hl2 hlo hfree hcell hnames hkind hx hb hc; omega)))]
      exact hHC
    · obtain ⟨v, o, ho, hd⟩ := I2.cell y c (hsub y c e)
      have hlt := Heap.lt_size ho
      rw [hDe] at hlt
      show upd H2 D (.lst []) c = none
      rw [upd_ne (Nat.ne_of_lt hlt)]
      exact I2.freeC y c (hsub y c e)
    · exact absurd (show p ∈ ([] : List (Addr × Obj)) from hp) (by simp)
    · exact ⟨Nat.zero_le _, [], 0, .nil, hacc⟩
    · show (none :: σ).length = (x :: N2).length
      rw [List.length_cons, List.length_cons, I2.len, hl2]
  have hN' : X'.N.Nodup := hN2
  have hx' : X'.env.scope.names.lookup x = some .local := lookup_relabel_local hx
  obtain ⟨PT', PE'⟩ := hb cl C fp s2 H2
  have fpX : ∀ {pins' : List (Addr × Obj)} {H' : Hp}, (∀ b ∈ fp, H' b = none) → (∀ p ∈ pins', p.1 ∉ fp) → ∀ b ∈ fp, FpOk X' pins' H' b := fun hn hp b hb => by
    refine ⟨hn b hb, ?_, nofs b hb, .inl hb, fun y c e => (f2 b hb).2.2.2.2.1 y c (hsub y c e), fun p q z => ?_⟩
    · exact Nat.ne_of_lt (Nat.lt_of_lt_of_le (fplt b hb) (by (clear hp hn hx' I4 nofs fplt turn hHC hHD hDC hC neC hCe hacc hDe old hHa nobinds hW f2 hhas hsub hclos hlo' hfr hs hz2 hl2 hlo hfree hcell hnames hkind hx hc; omega) : D ≤ C))
    · rcases List.mem_append.mp q with q | q
      · exact absurd (show p ∈ ([] : List (Addr × Obj)) from q) (by simp)
      · exact hp p q (by rw [z]; exact hb)
  have loop : ∀ tk, codeAny (model X.prog X.w) X.A (.compLoop (.ListComp elt [⟨.Name x px, iter, ifs, 0⟩] sc pos) 0 (.ref it) (.ref D) (compEnvC sc cl C X.env)) (compPost (model X.prog X.w) X.A X.xe none (EP X pins σ Q) (.ref D) C) { s2 with heap := h₁, toks := tk } := fun tk => by
    refine codeAny_compLoop_tests (fun n s' => ∃ i ys o H', Inv X' [] (o :: σ) H' s' ∧ tn i s'.heap ∧ (∀ b ∈ fp, H' b = none) ∧ W i n ys H') ?_ m0 ⟨0, [], none, _, I4 tk, T.keep _ _ _ st2 fun b hb o e => old b o e, fun b hb => ?_, w0⟩
    · rintro n s3 ⟨i, ys, o3, H3, I3, st3, fr3, w3⟩
      obtain ⟨hD3, alt⟩ := turn i n ys H3 w3
      rcases alt with ⟨stop, qn⟩ | ⟨go, hlen, step⟩
      · refine wpAny_mono (T.done X' rfl rfl rfl hc i [] s3 _ H3 (fun _ _ => False) I3 (fpX fr3 (by simp)) st3 stop) (fun r s4 hpq => ?_) fun _ _ f => f.elim
        obtain ⟨hr, I4'⟩ := hpq
        subst hr
        obtain ⟨mC, hnC, _⟩ := I4'.loc
        refine ⟨mC, hnC, fun h' hs' => ?_⟩
        have nC : ∀ b u, H3 b = some u → b ≠ C := fun b u e z => by rw [z] at e; rw [show H3 C = none from I4'.free] at e; cases e
        have hok' : HOk X.prog X.w H3 h' := fun b u e => (I4'.hok b u e).stay (fun c v hcc q => hs'.extBut c v (by
          rcases hcc with z | z
          · rw [z]; exact nC b u e
          · exact nC c _ z) q) (fun _ q => q) fun _ _ q => q
        have un : Un (frs X.stack) fp H2 H3 s2.heap h' :=
          ⟨fun b o e n1 n2 n3 => hs'.extBut b o (neC b o e) (I4'.base.keep b o e n1 n2 n3), fun b o e n1 n2 n3 => by
              obtain ⟨sl, q⟩ := I4'.base.slot b o e n1 n2 n3
              exact ⟨sl, hs'.extBut b _ (neC b o e) q⟩, I4'.base.free, fun b o e n1 => by
              obtain ⟨o', q⟩ := I4'.base.there b o e n1
              exact ⟨o', hs'.extBut b _ (neC b o e) q⟩, I4'.base.tups, I4'.base.frzs, I4'.base.tbls⟩
        exact ⟨.ref D, H3, I2.call' (s' := { s4 with heap := h' }) I4'.os un hok' I4'.bare fun b hb => ⟨(f2 b hb).2.2.2.1, (f2 b hb).2.1, (f2 b hb).2.2.2.2.1, (f2 b hb).2.2.2.2.2⟩, rfl, qn⟩
      · refine wpAny_mono (T.item X' rfl rfl rfl hc i [] s3 _ H3 (fun _ _ => False) I3 (fpX fr3 (by simp)) st3 go) (fun r s4 hpq => ?_) fun _ _ f => f.elim
        obtain ⟨u, hr, h4⟩ := hpq
        subst hr
        have eg : (letOwnedTupleGo (.Name x px) (.ref it) u >>= fun _ => assign (.Name x px) (compEnvC sc cl C X.env) u) = assign (.Name x px) (compEnvC sc cl C X.env) u := pure_bind () _
        show wpAny _ _ (assign (.Name x px) (compEnvC sc cl C X.env) u) _ _ s4
        rw [← eg]
        refine wpAny_bind (wpAny_mono h4 (fun _ s5 hpq => ?_) fun _ _ f => f.elim)
        obtain ⟨y, H5, I5, r5, y5, st5, fr5⟩ := hpq
        have I5' := I5.pinned (fpX fr5 (by simp)) (T.obj _ _ st5)
        refine wpAny_mono (pg_name (X := X') (i := 0) (pos := px) hN' rfl (.inl hx') (.inr hx') _ s5 _ H5 y u (fun σ' H' => σ' = some y :: σ ∧ H' = H5) I5' r5 ⟨rfl, rfl⟩) (fun _ s6 hpq => ?_) fun _ _ f => f.elim
        obtain ⟨σ6, H6, I6, e1, e2⟩ := hpq
        subst e1 e2
        refine wpAny_mono (PT' _ s6 _ _ _ I6 (step y _ y5)) (fun ok s7 hpq => ?_) fun _ _ f => f.elim
        obtain ⟨H7, I7, q7⟩ := hpq
        have again : ∀ {s8 : Shared} {H8 : Hp} {ys' : List V}, Inv X' ([] ++ pinsAt fp s5.heap) (some y :: σ) H8 s8 → (∃ m', m' < n ∧ W (i + 1) m' ys' H8) → ∃ m, m < n ∧ ∃ i ys o H', Inv X' [] (o :: σ) H' s8 ∧ tn i s8.heap ∧ (∀ b ∈ fp, H' b = none) ∧ W i m ys H' := fun {s8 H8 ys'} I8 ⟨m', hm, w8⟩ => by
          refine ⟨m', hm, i + 1, ys', some y, H8, I8.unpinned, T.keep _ _ _ st5 fun b hb o e => (I8.pin (b, o) (List.mem_append_right _ (List.mem_append_right _ (mem_pinsAt hb e)))).1, fun b hb => ?_, w8⟩
          obtain ⟨o, e, d⟩ := T.obj _ _ st5 b hb
          exact (I8.pin (b, o) (List.mem_append_right _ (List.mem_append_right _ (mem_pinsAt hb e)))).2.1
        cases ok with
        | false => exact again I7 q7
        | true =>
          have q7 : te (some y :: σ) H7 _ := q7
          refine wpAny_mono (PE' _ s7 _ _ _ I7 q7) (fun z s8 hpq => ?_) fun _ _ f => f.elim
          obtain ⟨yv, H8, I8, r8, hD8, q8⟩ := hpq
          refine wpAny_mono (mt_append (X := X') _ s8 _ H8 (.ref D) [yv] (.ref D) [z] (fun _ H9 => H9 = upd H8 D (.lst (ys ++ [yv]))) I8 rfl (.cons r8 .nil) ⟨D, ys, yv, rfl, rfl, hD8, hlen, rfl⟩) (fun _ s9 hpq => ?_) fun _ _ f => f.elim
          obtain ⟨_, H9, I9, _, e9⟩ := hpq
          subst e9
          exact again I9 q8
    · show upd H2 D (.lst []) b = none
      rw [upd_ne (Nat.ne_of_lt (fplt b hb))]
      exact (f2 b hb).1
  exact codeAny_compStart_list (loop _) (T.self _ _ _ _ _ (T.keep _ _ _ st2 fun b hb o e => old b o e) (loop _))
end
end L2

namespace RA
open PySem L2
/-! machines out of lists -/
def RowsL (H : Hp) (rows : List Addr) (Rs : List (List Int)) : Prop := rows.length = Rs.length ∧ ∀ (i : Nat) (r : Addr), rows[i]? = some r → ∃ R, Rs[i]? = some R ∧ H r = some (.lst (R.map V.int))
def RowsT (H : Hp) (rows : List Addr) (Rs : List (List Int)) : Prop := rows.length = Rs.length ∧ ∀ (i : Nat) (r : Addr), rows[i]? = some r → ∃ R, Rs[i]? = some R ∧ H r = some (.tup (R.map V.int))
/-- what no machine can be made of -/
def BadM (L : List Nat) (Rs : List (List Int)) (Bs : List Bool) : Prop := Rs.length = 0 ∨ Bs.length ≠ Rs.length ∨ ∃ R ∈ Rs, R.length ≠ L.length ∨ ∃ x ∈ R, ¬ (0 ≤ x ∧ x < (Rs.length : Int))
def MachI (H : Hp) (m : Addr) (L : List Nat) (Rs : List (List Int)) (Bs : List Bool) : Prop :=
  ∃ (wy mk : Addr) (rows : List Addr), H m = some (.tup [.str (tx L), .ref wy, .ref mk]) ∧ H wy = some (.tup (rows.map V.ref)) ∧ H mk = some (.tup (Bs.map V.bl)) ∧ RowsT H rows Rs
/-- alike through and through -/
def flat3 : V → Bool
  | .bl _ => true
  | .int _ => true
  | .str _ => true
  | _ => false
def Like (H : Hp) : Nat → V → V → Prop
  | 0, x, y => x = y ∧ flat3 x = true
  | d + 1, x, y => (x = y ∧ flat3 x = true) ∨ ∃ p q xs ys, x = .ref p ∧ y = .ref q ∧ ((H p = some (.tup xs) ∧ H q = some (.tup ys)) ∨ (H p = some (.lst xs) ∧ H q = some (.lst ys))) ∧ xs.length = ys.length ∧ xs.length ≤ 1000 ∧
      ∀ (i : Nat) (x y : V), xs[i]? = some x → ys[i]? = some y → Like H d x y
def natR (W : List (List Nat)) : List (List Int) := W.map fun ws => ws.map fun (n : Nat) => (n : Int)
end RA
namespace RA
open PySem L2
end RA
namespace L2
theorem ixN_in {n : Nat} {k : Int} (h0 : 0 ≤ k) (h1 : k < (n : Int)) : ixN n k = some k.toNat := by
  unfold ixN
  simp [h0, h1]
end L2
namespace RA
open PySem L2
end RA

namespace L2
open PySem PySem.Spec PyProof.Rows
section
variable {κ : Type} [DecidableEq κ]
def valV (kvs : List (κ × V)) (k : κ) : Option V := (kvs.find? fun kv => decide (kv.1 = k)).map (·.2)
theorem valV_pos {p : κ × V} {r : List (κ × V)} {k : κ} (e : p.1 = k) : valV (p :: r) k = some p.2 := by simp [valV, List.find?_cons, e]
theorem valV_neg {p : κ × V} {r : List (κ × V)} {k : κ} (e : ¬ p.1 = k) : valV (p :: r) k = valV r k := by simp [valV, List.find?_cons, e]
/-- raw tables of the same keys -/
theorem KV.val {kvs : List (κ × V)} {vs : List (κ × Value)} (r : KV kvs vs) (k : κ) : RelO (valV kvs k) (valueAt vs k) := by
  unfold KV at r
  induction r with
  | nil => exact True.intro
  | @cons p q ps qs h t ih =>
    obtain ⟨h1, h2⟩ := h
    by_cases e : p.1 = k
    · have e' : q.1 = k := h1.symm.trans e
      have b : valueAt (q :: qs) k = some q.2 := by simp [valueAt, List.find?_cons, e']
      rw [valV_pos e, b]; exact h2
    · have e' : ¬ q.1 = k := fun z => e (h1.trans z)
      have b : valueAt (q :: qs) k = valueAt qs k := by simp [valueAt, List.find?_cons, e']
      rw [valV_neg e, b]; exact ih
end
/-! ### a dict of the module that is only read -/
structure DictK (P : Program) (w : World) (K : PySem.W.Frag) (d : Addr) (kvs : List (Key × V)) : Prop where
  at_ : ∀ h : Heap, K.In h → ∃ vs, KV kvs vs ∧ h.DictOf (mixKind P w) d vs
  ns : (d == sysModules) = false
section
variable {X : Cx} {d : Addr} {kvs : List (Key × V)}
def rIxD (d : Addr) (kvs : List (Key × V)) : R2 := fun x y H Q => ∃ k v, x = .ref d ∧ y = kV k ∧ valV kvs k = some v ∧ Q v H
/-- d.get(k, x) -/
def tGetK (d : Addr) (kvs : List (Key × V)) (to : TE) (t : TA) : TE := fun σ H Q => to σ H fun x H1 => x = .ref d ∧ t σ H1 fun xs H2 => ∃ k z, xs = [kV k, z] ∧ Q ((valV kvs k).getD z) H2
end
end L2

namespace RA
/-! ## rounds of lots, and the words that part rooms -/
section
variable {κ : Type} [DecidableEq κ]
/-- as they first come up -/
def disA (acc : List κ) : List κ → List κ
  | [] => acc
  | k :: ks => disA (if k ∈ acc then acc else acc ++ [k]) ks
def dis (ks : List κ) : List κ := disA [] ks
def numF (ks : List κ) : List Nat := ks.map fun k => (dis ks).idxOf k
theorem disA_snoc (k : κ) : ∀ (ks acc : List κ), disA acc (ks ++ [k]) = if k ∈ disA acc ks then disA acc ks else disA acc ks ++ [k]
  | [], _ => rfl
  | _ :: ks, _ => disA_snoc k ks _
theorem disA_sub : ∀ (ks acc : List κ) (k : κ), k ∈ acc ∨ k ∈ ks ↔ k ∈ disA acc ks
  | [], acc, k => by simp [disA]
  | a :: ks, acc, k => by
    show _ ↔ k ∈ disA (if a ∈ acc then acc else acc ++ [a]) ks
    rw [← disA_sub ks]
    by_cases h : a ∈ acc
    · rw [if_pos h, List.mem_cons]
      constructor
      · rintro (x | rfl | x)
        · exact .inl x
        · exact .inl h
        · exact .inr x
      · rintro (x | x)
        · exact .inl x
        · exact .inr (.inr x)
    · rw [if_neg h, List.mem_cons, List.mem_append, List.mem_singleton]
      constructor
      · rintro (x | x | x)
        · exact .inl (.inl x)
        · exact .inl (.inr x)
        · exact .inr x
      · rintro ((x | x) | x)
        · exact .inl x
        · exact .inr (.inl x)
        · exact .inr (.inr x)
theorem mem_dis {ks : List κ} {k : κ} : k ∈ dis ks ↔ k ∈ ks := by
  rw [dis, ← disA_sub]
  simp
theorem dis_snoc (ks : List κ) (k : κ) : dis (ks ++ [k]) = if k ∈ dis ks then dis ks else dis ks ++ [k] := disA_snoc k ks []
theorem disA_len : ∀ (ks acc : List κ), (disA acc ks).length ≤ acc.length + ks.length
  | [], _ => by simp [disA]
  | a :: ks, acc => by
    have h := disA_len ks (if a ∈ acc then acc else acc ++ [a])
    have h2 : (if a ∈ acc then acc else acc ++ [a]).length ≤ acc.length + 1 := by
      split
      · (clear h; omega)
      · simp
    show (disA (if a ∈ acc then acc else acc ++ [a]) ks).length ≤ _
    rw [List.length_cons]
    omega
theorem dis_len (ks : List κ) : (dis ks).length ≤ ks.length := by
  have := disA_len ks []
  simpa [dis] using this
theorem idx_inj {l : List κ} {a b : κ} (ha : a ∈ l) (h : l.idxOf a = l.idxOf b) : a = b := by
  have h1 : l.idxOf a < l.length := List.idxOf_lt_length_of_mem ha
  have h2 : l.idxOf b < l.length := by omega
  have e1 := List.getElem_idxOf h1
  have e2 := List.getElem_idxOf h2
  rw [← e1, ← e2]
  congr 1
theorem idxOf_leG {l : List κ} {c : κ} : ∀ {i : Nat}, l[i]? = some c → l.idxOf c ≤ i := by
  induction l with
  | nil => intro i e; simp at e
  | cons a l ih =>
    intro i e
    by_cases hac : a = c
    · subst hac
      rw [List.idxOf_cons_self]
      exact Nat.zero_le _
    · cases i with
      | zero => simp at e; exact absurd e hac
      | succ i =>
        have h1 := ih (i := i) (by simpa using e)
        have h2 : (a :: l).idxOf c = l.idxOf c + 1 := by
          rw [List.idxOf_cons, beq_eq_false_iff_ne.mpr hac]
          rfl
        (clear e hac ih; omega)
theorem numF_len (ks : List κ) : (numF ks).length = ks.length := by simp [numF]
theorem numF_get {ks : List κ} {i : Nat} {k : κ} (h : ks[i]? = some k) : (numF ks).getD i 0 = (dis ks).idxOf k := by
  rw [List.getD_eq_getElem?_getD, numF, List.getElem?_map, h]
  rfl
theorem numF_mem_lt {ks : List κ} {x : Nat} (h : x ∈ numF ks) : x < ks.length := by
  obtain ⟨k, hk, rfl⟩ := List.mem_map.mp h
  exact Nat.lt_of_lt_of_le (List.idxOf_lt_length_of_mem (mem_dis.mpr hk)) (dis_len ks)
/-- the same number just where the same value stands -/
theorem numF_eq {ks : List κ} {i j : Nat} {a b : κ} (ha : ks[i]? = some a) (hb : ks[j]? = some b) : (numF ks).getD i 0 = (numF ks).getD j 0 ↔ a = b := by
  rw [numF_get ha, numF_get hb]
  constructor
  · exact idx_inj (mem_dis.mpr (List.mem_of_getElem? ha))
  · rintro rfl
    rfl
theorem idx_app {l m : List κ} {a : κ} (h : a ∈ l) : (l ++ m).idxOf a = l.idxOf a := by
  rw [List.idxOf_append, if_pos h]
theorem idx_new {l : List κ} {a : κ} (h : a ∉ l) : (l ++ [a]).idxOf a = l.length := by
  rw [List.idxOf_append, if_neg h]
  simp
/-- the same lots always bear the same numbers -/
theorem numF_same {κ' : Type} [DecidableEq κ'] : ∀ (n : Nat) (ks : List κ) (ks' : List κ'), ks.length = n → ks'.length = n →
    (∀ (i j : Nat) (a b : κ) (a' b' : κ'), ks[i]? = some a → ks[j]? = some b → ks'[i]? = some a' → ks'[j]? = some b' → (a = b ↔ a' = b')) →
    (dis ks).length = (dis ks').length ∧ ∀ (i : Nat) (a : κ) (a' : κ'), ks[i]? = some a → ks'[i]? = some a' → (dis ks).idxOf a = (dis ks').idxOf a' := by
  intro n
  induction n with
  | zero =>
    intro ks ks' h1 h2 _
    rw [List.length_eq_zero_iff] at h1 h2
    subst h1 h2
    exact ⟨rfl, fun i a a' h => by simp at h⟩
  | succ n ih =>
    intro ks ks' h1 h2 hp
    obtain ⟨k, l, rfl⟩ : ∃ k l, ks = l ++ [k] := ⟨ks.getLast (by intro z; rw [z] at h1; cases h1), ks.dropLast, (List.dropLast_concat_getLast _).symm⟩
    obtain ⟨k', l', rfl⟩ : ∃ k l, ks' = l ++ [k] := ⟨ks'.getLast (by intro z; rw [z] at h2; cases h2), ks'.dropLast, (List.dropLast_concat_getLast _).symm⟩
    have l1 : l.length = n := by simpa using h1
    have l2 : l'.length = n := by simpa using h2
    have up : ∀ {α : Type} {l : List α} {k : α} {i : Nat} {a : α}, l[i]? = some a → (l ++ [k])[i]? = some a := fun {α l k i a} e => by
      rw [List.getElem?_append_left (List.getElem?_eq_some_iff.mp e).1]
      exact e
    have last : (l ++ [k])[n]? = some k := by rw [List.getElem?_append_right (by (clear up l2 hp h1 ih; omega)), l1]; simp
    have last' : (l' ++ [k'])[n]? = some k' := by rw [List.getElem?_append_right (by (clear last up hp h1 ih; omega)), l2]; simp
    obtain ⟨q1, q2⟩ := ih l l' l1 l2 fun i j a b a' b' e1 e2 e3 e4 => hp i j a b a' b' (up e1) (up e2) (up e3) (up e4)
    have mm : k ∈ dis l ↔ k' ∈ dis l' := by
      rw [mem_dis, mem_dis]
      constructor
      · intro hm
        obtain ⟨i, hi⟩ := List.mem_iff_getElem?.mp hm
        have hlt : i < l'.length := by have := (List.getElem?_eq_some_iff.mp hi).1; (clear hi q2 q1 last' last up hp h1 ih; omega)
        have e := (hp i n k k l'[i] k' (up hi) last (up (List.getElem?_eq_getElem hlt)) last').mp rfl
        rw [← e]
        exact List.getElem_mem hlt
      · intro hm
        obtain ⟨i, hi⟩ := List.mem_iff_getElem?.mp hm
        have hlt : i < l.length := by have := (List.getElem?_eq_some_iff.mp hi).1; (clear hi q2 q1 last' last up hp h1 ih; omega)
        have e := (hp i n l[i] k k' k' (up (List.getElem?_eq_getElem hlt)) last (up hi) last').mpr rfl
        rw [← e]
        exact List.getElem_mem hlt
    have split : ∀ {i : Nat} {a : κ} {a' : κ'}, (l ++ [k])[i]? = some a → (l' ++ [k'])[i]? = some a' → (l[i]? = some a ∧ l'[i]? = some a') ∨ (i = n ∧ a = k ∧ a' = k') := fun {i a a'} e1 e2 => by
      by_cases hi : i < n
      · rw [List.getElem?_append_left (by (clear e2 e1 mm q2 q1 last' last up hp h1 ih; omega))] at e1 e2
        exact .inl ⟨e1, e2⟩
      · have : i = n := by
          have := (List.getElem?_eq_some_iff.mp e1).1
          simp at this
          (clear e2 e1 mm q2 q1 last' last up hp h1 ih; omega)
        subst this
        rw [last] at e1
        rw [last'] at e2
        exact .inr ⟨rfl, (Option.some.inj e1).symm, (Option.some.inj e2).symm⟩
    rw [dis_snoc, dis_snoc]
    by_cases hm : k ∈ dis l
    · have hm' := mm.mp hm
      rw [if_pos hm, if_pos hm']
      refine ⟨q1, fun i a a' e1 e2 => ?_⟩
      rcases split e1 e2 with ⟨e1, e2⟩ | ⟨rfl, rfl, rfl⟩
      · exact q2 i a a' e1 e2
      · obtain ⟨j, hj⟩ := List.mem_iff_getElem?.mp (mem_dis.mp hm)
        have hlt : j < l'.length := by have := (List.getElem?_eq_some_iff.mp hj).1; (clear hj split mm hp last' e2 last e1 ih q2 q1 up; omega)
        have e := (hp j i a a l'[j] a' (up hj) last (up (List.getElem?_eq_getElem hlt)) last').mp rfl
        exact q2 j a a' hj (by rw [← e]; exact List.getElem?_eq_getElem hlt)
    · have hm' : k' ∉ dis l' := fun z => hm (mm.mpr z)
      rw [if_neg hm, if_neg hm']
      refine ⟨by simp [q1], fun i a a' e1 e2 => ?_⟩
      rcases split e1 e2 with ⟨e1, e2⟩ | ⟨rfl, rfl, rfl⟩
      · rw [idx_app (mem_dis.mpr (List.mem_of_getElem? e1)), idx_app (mem_dis.mpr (List.mem_of_getElem? e2))]
        exact q2 i a a' e1 e2
      · rw [idx_new hm, idx_new hm', q1]
theorem numF_canon {κ' : Type} [DecidableEq κ'] {ks : List κ} {ks' : List κ'} (hl : ks.length = ks'.length)
    (hp : ∀ (i j : Nat) (a b : κ) (a' b' : κ'), ks[i]? = some a → ks[j]? = some b → ks'[i]? = some a' → ks'[j]? = some b' → (a = b ↔ a' = b')) : numF ks = numF ks' := by
  obtain ⟨_, h⟩ := numF_same ks'.length ks ks' hl rfl hp
  refine List.ext_getElem? fun i => ?_
  by_cases hi : i < ks.length
  · have e1 : ks[i]? = some ks[i] := List.getElem?_eq_getElem hi
    have e2 : ks'[i]? = some (ks'[i]'(by (clear e1 h hp; omega))) := List.getElem?_eq_getElem (by (clear e1 h hp; omega))
    rw [numF, numF, List.getElem?_map, List.getElem?_map, e1, e2]
    exact congrArg some (h i _ _ e1 e2)
  · rw [List.getElem?_eq_none (by rw [numF_len]; (clear h hp; omega)), List.getElem?_eq_none (by rw [numF_len]; (clear h hp; omega))]
end
/-- the lots of the next round -/
def keyAt (W : List (List Nat)) (lots : List Nat) (i : Nat) : Nat × List Nat := (lots.getD i 0, (W.getD i []).map fun g => lots.getD g 0)
def keysOf (W : List (List Nat)) (lots : List Nat) : List (Nat × List Nat) := (List.range W.length).map (keyAt W lots)
def Rd (W : List (List Nat)) (B : List Bool) : Nat → List Nat
  | 0 => numF B
  | k + 1 => numF (keysOf W (Rd W B k))
theorem keysOf_get {W : List (List Nat)} {lots : List Nat} {i : Nat} (h : i < W.length) : (keysOf W lots)[i]? = some (keyAt W lots i) := by
  rw [keysOf, List.getElem?_map, List.getElem?_range h]
  rfl
theorem keysOf_len (W : List (List Nat)) (lots : List Nat) : (keysOf W lots).length = W.length := by simp [keysOf]
theorem Rd_len {L : List Nat} {W : List (List Nat)} {B : List Bool} (h : Mach L W B) : ∀ k, (Rd W B k).length = W.length
  | 0 => by rw [Rd, numF_len, h.bl]
  | k + 1 => by rw [Rd, numF_len, keysOf_len]
theorem Rd_lt {L : List Nat} {W : List (List Nat)} {B : List Bool} (h : Mach L W B) {k x : Nat} (hx : x ∈ Rd W B k) : x < W.length := by
  cases k with
  | zero => rw [← h.bl]; exact numF_mem_lt hx
  | succ k => rw [← keysOf_len W (Rd W B k)]; exact numF_mem_lt hx
/-- the lot of a room -/
def lot (W : List (List Nat)) (B : List Bool) (k r : Nat) : Nat := (Rd W B k).getD r 0
theorem lot_zero {L : List Nat} {W : List (List Nat)} {B : List Bool} (h : Mach L W B) {r s : Nat} (hr : r < W.length) (hs : s < W.length) : lot W B 0 r = lot W B 0 s ↔ B.getD r false = B.getD s false := by
  have e1 : B[r]? = some (B[r]'(by rw [h.bl]; exact hr)) := List.getElem?_eq_getElem _
  have e2 : B[s]? = some (B[s]'(by rw [h.bl]; exact hs)) := List.getElem?_eq_getElem _
  rw [lot, lot, Rd, numF_eq e1 e2, List.getD_eq_getElem?_getD, List.getD_eq_getElem?_getD, e1, e2]
  rfl
theorem row_of {L : List Nat} {W : List (List Nat)} {B : List Bool} (h : Mach L W B) {r : Nat} (hr : r < W.length) : (W.getD r []).length = L.length ∧ ∀ x ∈ W.getD r [], x < W.length := by
  have e : W.getD r [] = W[r] := by rw [List.getD_eq_getElem?_getD, List.getElem?_eq_getElem hr]; rfl
  rw [e]
  exact h.row _ (List.getElem_mem hr)
def goal (W : List (List Nat)) (r i : Nat) : Nat := (W.getD r []).getD i 0
theorem goal_lt {L : List Nat} {W : List (List Nat)} {B : List Bool} (h : Mach L W B) {r i : Nat} (hr : r < W.length) (hi : i < L.length) : goal W r i < W.length := by
  obtain ⟨h1, h2⟩ := row_of h hr
  rw [goal, List.getD_eq_getElem?_getD, List.getElem?_eq_getElem (by (clear h2 hr; omega))]
  exact h2 _ (List.getElem_mem _)
theorem nxt_goal (L : List Nat) (W : List (List Nat)) (r c : Nat) : nxt L W r c = goal W r (L.idxOf c) := rfl
theorem lot_succ {L : List Nat} {W : List (List Nat)} {B : List Bool} (h : Mach L W B) {k r s : Nat} (hr : r < W.length) (hs : s < W.length) :
    lot W B (k + 1) r = lot W B (k + 1) s ↔ lot W B k r = lot W B k s ∧ ∀ i < L.length, lot W B k (goal W r i) = lot W B k (goal W s i) := by
  rw [lot, lot, Rd, numF_eq (keysOf_get hr) (keysOf_get hs), keyAt, keyAt, Prod.mk.injEq]
  obtain ⟨a1, _⟩ := row_of h hr
  obtain ⟨b1, _⟩ := row_of h hs
  refine and_congr Iff.rfl ⟨fun e i hi => ?_, fun e => List.ext_getElem? fun i => ?_⟩
  · have := congrArg (fun l => l[i]?) e
    simp only [List.getElem?_map] at this
    rw [List.getElem?_eq_getElem (by (clear this e hs hr; omega)), List.getElem?_eq_getElem (by (clear this e a1 hs hr; omega))] at this
    rw [goal, goal, List.getD_eq_getElem?_getD (l := W.getD r []), List.getD_eq_getElem?_getD (l := W.getD s []), List.getElem?_eq_getElem (by (clear this e hs hr; omega)), List.getElem?_eq_getElem (by (clear this e a1 hs hr; omega))]
    exact Option.some.inj this
  · by_cases hi : i < L.length
    · have := e i hi
      rw [goal, goal, List.getD_eq_getElem?_getD (l := W.getD r []), List.getD_eq_getElem?_getD (l := W.getD s []), List.getElem?_eq_getElem (by (clear this e hs hr; omega)), List.getElem?_eq_getElem (by (clear this e hs hr; omega))] at this
      rw [List.getElem?_map, List.getElem?_map, List.getElem?_eq_getElem (by (clear this e hs hr; omega)), List.getElem?_eq_getElem (by (clear this e hs hr; omega))]
      exact congrArg some this
    · rw [List.getElem?_map, List.getElem?_map, List.getElem?_eq_none (by (clear e hs hr; omega)), List.getElem?_eq_none (by (clear e a1 hs hr; omega))]
theorem lot_mono {L : List Nat} {W : List (List Nat)} {B : List Bool} (h : Mach L W B) {r s : Nat} (hr : r < W.length) (hs : s < W.length) {k : Nat} : ∀ {j : Nat}, j ≤ k → lot W B k r = lot W B k s → lot W B j r = lot W B j s := by
  induction k with
  | zero => intro j hj e; rw [Nat.le_zero.mp hj]; exact e
  | succ k ih =>
    intro j hj e
    by_cases hjk : j = k + 1
    · subst hjk; exact e
    · exact ih (by (clear e ih hs hr; omega)) ((lot_succ h hr hs).mp e).1
/-- no word of at most k signs parts the two -/
theorem lot_words {L : List Nat} {W : List (List Nat)} {B : List Bool} (h : Mach L W B) : ∀ {k : Nat} {w : List Nat} {r s : Nat}, r < W.length → s < W.length → w.length ≤ k → (∀ c ∈ w, c ∈ L) → lot W B k r = lot W B k s → B.getD (run L W r w) false = B.getD (run L W s w) false
  | k, [], r, s, hr, hs, _, _, e => (lot_zero h hr hs).mp (lot_mono h hr hs (Nat.zero_le k) e)
  | 0, c :: w, r, s, hr, hs, hl, _, e => by simp at hl
  | k + 1, c :: w, r, s, hr, hs, hl, hw, e => by
    have hi : L.idxOf c < L.length := List.idxOf_lt_length_of_mem (hw c (by simp))
    exact lot_words h (k := k) (w := w) (goal_lt h hr hi) (goal_lt h hs hi) (by simpa using hl) (fun d hd => hw d (by simp [hd])) (((lot_succ h hr hs).mp e).2 _ hi)
/-- a round that parts no more is the last -/
theorem Rd_stay {W : List (List Nat)} {B : List Bool} {k : Nat} (e : Rd W B (k + 1) = Rd W B k) : ∀ j, Rd W B (k + j) = Rd W B k
  | 0 => rfl
  | j + 1 => by
    show numF (keysOf W (Rd W B (k + j))) = _
    rw [Rd_stay e j]
    exact e
theorem lot_all {L : List Nat} {W : List (List Nat)} {B : List Bool} (h : Mach L W B) {k : Nat} (e : Rd W B (k + 1) = Rd W B k) {r s : Nat} (q : lot W B k r = lot W B k s) (hr : r < W.length) (hs : s < W.length) (j : Nat) : lot W B j r = lot W B j s := by
  by_cases hj : j ≤ k
  · exact lot_mono h hr hs hj q
  · have := Rd_stay e (j - k)
    rw [show k + (j - k) = j by (clear this hs hr q e; omega)] at this
    rw [lot, lot, this]
    exact q
/-- how many pairs are alike -/
def twins (n : Nat) (lots : List Nat) : Nat := (List.range (n * n)).countP fun x => decide (lots.getD (x / n) 0 = lots.getD (x % n) 0)
theorem countP_lt {α : Type} {p q : α → Bool} : ∀ {l : List α}, (∀ x ∈ l, p x = true → q x = true) → (∃ x ∈ l, q x = true ∧ p x = false) → l.countP p < l.countP q
  | [], _, ⟨x, hx, _⟩ => by simp at hx
  | a :: l, hi, ⟨x, hx, hq, hp⟩ => by
    have le : l.countP p ≤ l.countP q := List.countP_mono_left fun y hy => hi y (by simp [hy])
    rw [List.countP_cons, List.countP_cons]
    rcases List.mem_cons.mp hx with rfl | hx
    · rw [hq, hp]
      simp
      (clear hi hp hq; omega)
    · have := countP_lt (l := l) (fun y hy => hi y (by simp [hy])) ⟨x, hx, hq, hp⟩
      have h1 := hi a (by simp)
      cases hpa : p a with
      | false => simp; (clear hpa h1 le hp hq hi; omega)
      | true => rw [h1 hpa]; simp; (clear hpa h1 le hp hq hi; omega)
theorem twins_lt {L : List Nat} {W : List (List Nat)} {B : List Bool} (h : Mach L W B) {k : Nat} (e : Rd W B (k + 1) ≠ Rd W B k) : twins W.length (Rd W B (k + 1)) < twins W.length (Rd W B k) := by
  have hn := h.n1
  have cell : ∀ x ∈ List.range (W.length * W.length), x / W.length < W.length ∧ x % W.length < W.length := fun x hx => by
    have hx := List.mem_range.mp hx
    exact ⟨Nat.div_lt_of_lt_mul hx, Nat.mod_lt _ (by (clear hx e; omega))⟩
  refine countP_lt (fun x hx hp => ?_) ?_
  · obtain ⟨c1, c2⟩ := cell x hx
    have q : lot W B (k + 1) (x / W.length) = lot W B (k + 1) (x % W.length) := of_decide_eq_true hp
    exact decide_eq_true ((lot_succ h c1 c2).mp q).1
  · refine Classical.byContradiction fun no => e ?_
    have pat : ∀ r s, r < W.length → s < W.length → (lot W B (k + 1) r = lot W B (k + 1) s ↔ lot W B k r = lot W B k s) := fun r s hr hs => by
      refine ⟨fun q => ((lot_succ h hr hs).mp q).1, fun q => Classical.byContradiction fun nq => no ⟨r * W.length + s, ?_, ?_, ?_⟩⟩
      · rw [List.mem_range]
        calc r * W.length + s < r * W.length + W.length := by (clear nq q hr no cell hn e; omega)
          _ = (r + 1) * W.length := by rw [Nat.succ_mul]
          _ ≤ W.length * W.length := Nat.mul_le_mul_right _ hr
      · have d1 : (r * W.length + s) / W.length = r := by rw [Nat.mul_comm, Nat.mul_add_div (by (clear nq q hs hr no cell e; omega)), Nat.div_eq_of_lt hs]; (clear nq q hs hr no cell hn e; omega)
        have d2 : (r * W.length + s) % W.length = s := by rw [Nat.mul_comm, Nat.mul_add_mod, Nat.mod_eq_of_lt hs]
        simp only [d1, d2]
        exact decide_eq_true q
      · have d1 : (r * W.length + s) / W.length = r := by rw [Nat.mul_comm, Nat.mul_add_div (by (clear nq q hs hr no cell e; omega)), Nat.div_eq_of_lt hs]; (clear nq q hs hr no cell hn e; omega)
        have d2 : (r * W.length + s) % W.length = s := by rw [Nat.mul_comm, Nat.mul_add_mod, Nat.mod_eq_of_lt hs]
        simp only [d1, d2]
        exact decide_eq_false nq
    cases k with
    | zero =>
      show numF (keysOf W (Rd W B 0)) = numF B
      refine numF_canon (by rw [keysOf_len, h.bl]) fun i j a b a' b' e1 e2 e3 e4 => ?_
      have hi : i < W.length := by have := (List.getElem?_eq_some_iff.mp e1).1; rwa [keysOf_len] at this
      have hj : j < W.length := by have := (List.getElem?_eq_some_iff.mp e2).1; rwa [keysOf_len] at this
      rw [← numF_eq e1 e2, ← numF_eq e3 e4]
      exact pat i j hi hj
    | succ k =>
      show numF (keysOf W (Rd W B (k + 1))) = numF (keysOf W (Rd W B k))
      refine numF_canon (by rw [keysOf_len, keysOf_len]) fun i j a b a' b' e1 e2 e3 e4 => ?_
      have hi : i < W.length := by have := (List.getElem?_eq_some_iff.mp e1).1; rwa [keysOf_len] at this
      have hj : j < W.length := by have := (List.getElem?_eq_some_iff.mp e2).1; rwa [keysOf_len] at this
      rw [← numF_eq e1 e2, ← numF_eq e3 e4]
      exact pat i j hi hj
/-! ### the word -/
/-- the first letter that parts -/
def parts (W : List (List Nat)) (B : List Bool) (k r s : Nat) : List Bool := ((W.getD r []).zip (W.getD s [])).map fun p => decide (lot W B k p.1 = lot W B k p.2)
def place (W : List (List Nat)) (B : List Bool) (k r s : Nat) : Nat := (parts W B k r s).idxOf false
def pw (L : List Nat) (W : List (List Nat)) (B : List Bool) : Nat → Nat → Nat → List Nat
  | 0, _, _ => []
  | k + 1, r, s => L.getD (place W B k r s) 0 :: pw L W B k (goal W r (place W B k r s)) (goal W s (place W B k r s))
theorem parts_get {L : List Nat} {W : List (List Nat)} {B : List Bool} (h : Mach L W B) {k r s i : Nat} (hr : r < W.length) (hs : s < W.length) (hi : i < L.length) : (parts W B k r s)[i]? = some (decide (lot W B k (goal W r i) = lot W B k (goal W s i))) := by
  obtain ⟨a1, _⟩ := row_of h hr
  obtain ⟨b1, _⟩ := row_of h hs
  rw [parts, List.getElem?_map, goal, goal, List.getD_eq_getElem?_getD (l := W.getD r []), List.getD_eq_getElem?_getD (l := W.getD s [])]
  have e : ((W.getD r []).zip (W.getD s []))[i]? = some ((W.getD r [])[i]'(by (clear hs hr; omega)), (W.getD s [])[i]'(by (clear hs hr; omega))) := by
    rw [List.getElem?_zip_eq_some]
    exact ⟨List.getElem?_eq_getElem _, List.getElem?_eq_getElem _⟩
  rw [e, List.getElem?_eq_getElem (by (clear e hs hr; omega)), List.getElem?_eq_getElem (by (clear e hs hr; omega))]
  rfl
theorem parts_len {L : List Nat} {W : List (List Nat)} {B : List Bool} (h : Mach L W B) {k r s : Nat} (hr : r < W.length) (hs : s < W.length) : (parts W B k r s).length = L.length := by
  obtain ⟨a1, _⟩ := row_of h hr
  obtain ⟨b1, _⟩ := row_of h hs
  rw [parts, List.length_map, List.length_zip]
  (clear hs hr; omega)
theorem place_of {L : List Nat} {W : List (List Nat)} {B : List Bool} (h : Mach L W B) {k r s : Nat} (hr : r < W.length) (hs : s < W.length) (ne : lot W B (k + 1) r ≠ lot W B (k + 1) s) (eq : lot W B k r = lot W B k s) :
    place W B k r s < L.length ∧ lot W B k (goal W r (place W B k r s)) ≠ lot W B k (goal W s (place W B k r s)) ∧ ∀ i < place W B k r s, lot W B k (goal W r i) = lot W B k (goal W s i) := by
  have hm : false ∈ parts W B k r s := by
    refine Classical.byContradiction fun no => ne ((lot_succ h hr hs).mpr ⟨eq, fun i hi => Classical.byContradiction fun q => no ?_⟩)
    have := parts_get h (k := k) hr hs hi
    rw [decide_eq_false q] at this
    exact List.mem_of_getElem? this
  have hlt : place W B k r s < (parts W B k r s).length := List.idxOf_lt_length_of_mem hm
  have hL : place W B k r s < L.length := by rw [parts_len h hr hs] at hlt; exact hlt
  refine ⟨hL, ?_, fun i hi => ?_⟩
  · have e1 := List.getElem_idxOf hlt
    have e2 := parts_get h (k := k) hr hs hL
    rw [List.getElem?_eq_getElem hlt] at e2
    have e3 : decide (lot W B k (goal W r (place W B k r s)) = lot W B k (goal W s (place W B k r s))) = false := by
      rw [← Option.some.inj e2]
      exact e1
    exact of_decide_eq_false e3
  · have e2 := parts_get h (k := k) hr hs (i := i) (by (clear hlt eq ne hs hr; omega))
    refine Classical.byContradiction fun q => ?_
    rw [decide_eq_false q] at e2
    have : (parts W B k r s).idxOf false ≤ i := by
      have hi2 := (List.getElem?_eq_some_iff.mp e2)
      obtain ⟨h1, h2⟩ := hi2
      exact idxOf_leG e2
    have h9 : place W B k r s ≤ i := this
    (clear this q e2 hL hlt eq ne hs hr; omega)
/-- the word parts, and no word that parts comes before it -/
theorem pw_spec {L : List Nat} {W : List (List Nat)} {B : List Bool} (h : Mach L W B) : ∀ {k r s : Nat}, r < W.length → s < W.length → lot W B k r ≠ lot W B k s → (∀ j < k, lot W B j r = lot W B j s) →
    (pw L W B k r s).length = k ∧ (∀ c ∈ pw L W B k r s, c ∈ L) ∧ B.getD (run L W r (pw L W B k r s)) false ≠ B.getD (run L W s (pw L W B k r s)) false ∧
    ∀ u : List Nat, (∀ c ∈ u, c ∈ L) → B.getD (run L W r u) false ≠ B.getD (run L W s u) false → ear L u (pw L W B k r s) = false
  | 0, r, s, hr, hs, ne, _ => by
    refine ⟨rfl, fun c hc => by simp [pw] at hc, fun e => ne ((lot_zero h hr hs).mpr e), fun u _ _ => ?_⟩
    show ear L u [] = false
    unfold ear
    by_cases hu : u.length = 0
    · rw [List.length_eq_zero_iff.mp hu]
      rfl
    · rw [if_pos (by simpa using hu)]
      simp
  | k + 1, r, s, hr, hs, ne, eq => by
    obtain ⟨hL, hne, hfirst⟩ := place_of h hr hs ne (eq k (by (clear eq ne hs hr; omega)))
    have g1 := goal_lt h hr hL
    have g2 := goal_lt h hs hL
    have heq : ∀ j < k, lot W B j (goal W r (place W B k r s)) = lot W B j (goal W s (place W B k r s)) := fun j hj => ((lot_succ h hr hs).mp (eq (j + 1) (by (clear g2 g1 hfirst hne hL eq ne hs hr; omega)))).2 _ hL
    obtain ⟨i1, i2, i3, i4⟩ := pw_spec h g1 g2 hne heq
    have hget : L.getD (place W B k r s) 0 = L[place W B k r s] := by rw [List.getD_eq_getElem?_getD, List.getElem?_eq_getElem hL]; rfl
    have hidx : L.idxOf (L.getD (place W B k r s) 0) = place W B k r s := by rw [hget]; exact idx_get h.lt.nd hL
    have hmem : L.getD (place W B k r s) 0 ∈ L := by rw [hget]; exact List.getElem_mem hL
    have n1 : nxt L W r (L.getD (place W B k r s) 0) = goal W r (place W B k r s) := by rw [nxt_goal, hidx]
    have n2 : nxt L W s (L.getD (place W B k r s) 0) = goal W s (place W B k r s) := by rw [nxt_goal, hidx]
    refine ⟨by rw [pw, List.length_cons, i1], fun c hc => ?_, ?_, fun u hu hpu => ?_⟩
    · rw [pw, List.mem_cons] at hc
      rcases hc with rfl | hc
      · exact hmem
      · exact i2 c hc
    · show B.getD (run L W (nxt L W r (L.getD (place W B k r s) 0)) (pw L W B k _ _)) false ≠ B.getD (run L W (nxt L W s (L.getD (place W B k r s) 0)) (pw L W B k _ _)) false
      rw [n1, n2]
      exact i3
    · have hlen : k + 1 ≤ u.length := Nat.lt_of_not_le fun hle => hpu (lot_words h hr hs hle hu (eq k (by (clear hle hpu hu n2 n1 hidx hget i4 i3 i2 i1 heq g2 g1 hfirst hne eq ne hs hr; omega))))
      have wl : (pw L W B (k + 1) r s).length = k + 1 := by rw [pw, List.length_cons, i1]
      cases u with
      | nil => simp at hlen
      | cons c u =>
        have hc := hu c (by simp)
        have hci : L.idxOf c < L.length := List.idxOf_lt_length_of_mem hc
        by_cases hle : (c :: u).length = k + 1
        · have hpu' : B.getD (run L W (nxt L W r c) u) false ≠ B.getD (run L W (nxt L W s c) u) false := hpu
          have hul : u.length = k := by simpa using hle
          have hge : place W B k r s ≤ L.idxOf c := Nat.le_of_not_lt fun hlt => hpu' (lot_words h (goal_lt h hr hci) (goal_lt h hs hci) (Nat.le_of_eq hul) (fun d hd => hu d (by simp [hd])) (hfirst _ hlt))
          unfold ear
          rw [if_neg (by rw [wl]; simpa using hle), pw, lexd]
          by_cases hce : c = L.getD (place W B k r s) 0
          · rw [if_pos hce]
            have := i4 u (fun d hd => hu d (by simp [hd])) (by rw [hce, n1, n2] at hpu'; exact hpu')
            unfold ear at this
            rw [if_neg (by rw [i1]; simpa using hul)] at this
            exact this
          · rw [if_neg hce, hidx]
            simp
            (clear hce hul hpu' hle hci hlen hpu hu wl n2 n1 hidx hget i4 i3 i2 i1 heq g2 g1 hfirst hne hL eq ne hs hr; omega)
        · unfold ear
          rw [if_pos (by rw [wl]; exact hle), wl]
          simp
          simp at hlen hle
          (clear hle hci hpu hu wl n2 n1 hidx hget i4 i3 i2 i1 heq g2 g1 hfirst hne hL eq ne hs hr; omega)
theorem zip_turn {f g : Nat × Nat → Bool} (h : ∀ a b, f (a, b) = g (b, a)) : ∀ (l m : List Nat), (l.zip m).map f = (m.zip l).map g
  | [], [] => rfl
  | [], _ :: _ => rfl
  | _ :: _, [] => rfl
  | a :: l, b :: m => by
    rw [List.zip_cons_cons, List.zip_cons_cons, List.map_cons, List.map_cons, h, zip_turn h l m]
theorem pw_symm {L : List Nat} {W : List (List Nat)} {B : List Bool} : ∀ (k r s : Nat), pw L W B k r s = pw L W B k s r
  | 0, _, _ => rfl
  | k + 1, r, s => by
    have hp : place W B k r s = place W B k s r := by
      unfold place parts
      congr 1
      exact zip_turn (fun a b => decide_eq_decide.mpr ⟨Eq.symm, Eq.symm⟩) _ _
    rw [pw, pw, hp, pw_symm k]
/-- what is told of two rooms -/
def PartOf (L : List Nat) (W : List (List Nat)) (B : List Bool) (r s : Nat) (o : Option (List Nat)) : Prop :=
  (o = none ∧ ∀ k, lot W B k r = lot W B k s) ∨ ∃ k, o = some (pw L W B k r s) ∧ lot W B k r ≠ lot W B k s ∧ ∀ j < k, lot W B j r = lot W B j s
theorem PartOf.symm {L : List Nat} {W : List (List Nat)} {B : List Bool} {r s : Nat} {o : Option (List Nat)} (h : PartOf L W B r s o) : PartOf L W B s r o := by
  rcases h with ⟨h1, h2⟩ | ⟨k, h1, h2, h3⟩
  · exact .inl ⟨h1, fun k => (h2 k).symm⟩
  · exact .inr ⟨k, by rw [h1, pw_symm], h2.symm, fun j hj => (h3 j hj).symm⟩
theorem PartOf.uniq {L : List Nat} {W : List (List Nat)} {B : List Bool} {r s : Nat} {o o' : Option (List Nat)} (h : PartOf L W B r s o) (h' : PartOf L W B r s o') : o = o' := by
  rcases h with ⟨h1, h2⟩ | ⟨k, h1, h2, h3⟩
  · rcases h' with ⟨g1, g2⟩ | ⟨j, g1, g2, g3⟩
    · rw [h1, g1]
    · exact (g2 (h2 j)).elim
  · rcases h' with ⟨g1, g2⟩ | ⟨j, g1, g2, g3⟩
    · exact (h2 (g2 k)).elim
    · have : k = j := by
        rcases Nat.lt_trichotomy k j with q | q | q
        · exact (h2 (g3 k q)).elim
        · exact q
        · exact (g2 (h3 j q)).elim
      rw [h1, g1, this]
theorem PartOf.self {L : List Nat} {W : List (List Nat)} {B : List Bool} {r : Nat} {o : Option (List Nat)} (h : PartOf L W B r r o) : o = none := by
  rcases h with ⟨h1, _⟩ | ⟨k, _, h2, _⟩
  · exact h1
  · exact (h2 rfl).elim
theorem twins_top {L : List Nat} {W : List (List Nat)} {B : List Bool} (h : Mach L W B) {k : Nat} (e : ∀ i < k, Rd W B (i + 1) ≠ Rd W B i) : ∀ j ≤ k, twins W.length (Rd W B j) + j ≤ W.length * W.length
  | 0, _ => by
    have := List.countP_le_length (p := fun x => decide ((Rd W B 0).getD (x / W.length) 0 = (Rd W B 0).getD (x % W.length) 0)) (l := List.range (W.length * W.length))
    rw [List.length_range] at this
    exact this
  | j + 1, hj => by
    have h1 := twins_top h e j (by (clear e; omega))
    have h2 := twins_lt h (e j (by (clear h1 e; omega)))
    (clear hj e; omega)
theorem few_rounds {L : List Nat} {W : List (List Nat)} {B : List Bool} (h : Mach L W B) {k : Nat} (e : ∀ i < k, Rd W B (i + 1) ≠ Rd W B i) : k ≤ 3600 := by
  have h1 := twins_top h e k (Nat.le_refl _)
  have h2 : W.length * W.length ≤ 60 * 60 := Nat.mul_le_mul h.n60 h.n60
  (clear e; omega)
theorem PartOf.spec {L : List Nat} {W : List (List Nat)} {B : List Bool} {r s : Nat} {o : Option (List Nat)} (h : PartOf L W B r s o) (hM : Mach L W B) (hr : r < W.length) (hs : s < W.length) :
    (o = none → ∀ u : List Nat, (∀ c ∈ u, c ∈ L) → B.getD (run L W r u) false = B.getD (run L W s u) false) ∧
    ∀ w, o = some w → (∀ c ∈ w, c ∈ L) ∧ w.length ≤ 3600 ∧ B.getD (run L W r w) false ≠ B.getD (run L W s w) false ∧ ∀ u : List Nat, (∀ c ∈ u, c ∈ L) → B.getD (run L W r u) false ≠ B.getD (run L W s u) false → ear L u w = false := by
  rcases h with ⟨e0, h2⟩ | ⟨k, e0, h2, h3⟩ <;> subst e0
  · exact ⟨fun _ u hu => lot_words hM hr hs (Nat.le_refl _) hu (h2 u.length), fun w z => by cases z⟩
  · refine ⟨fun z => (by cases z), fun w z => ?_⟩
    cases z
    obtain ⟨i1, i2, i3, i4⟩ := pw_spec hM hr hs h2 h3
    refine ⟨i2, ?_, i3, i4⟩
    rw [i1]
    exact few_rounds hM fun i hi z => h2 (lot_all hM z (h3 i hi) hr hs k)
end RA

namespace L2
open PySem PySem.Spec PyProof.Rows
/-! ## dicts whose keys are truths; dicts whose keys are tuples of an int and a tuple of ints -/
def isBl (b : Bool) : Value → Bool
  | .bool c => c == b
  | _ => false
theorem isBl_shape {b : Bool} {v : Value} (h : isBl b v = true) : v = .bool b := by
  cases v with
  | bool c => rw [eq_of_beq (show (c == b) = true from h)]
  | _ => exact absurd (show false = true from h) Bool.false_ne_true
def boolKind (P : Program) (w : World) : PySem.KeyKind P w Bool where
  is := isBl
  hash := fun b => reduceHash (if b then 1 else 0)
  inj := fun v a b ha hb => by
    have e := (isBl_shape ha).symm.trans (isBl_shape hb)
    cases e
    rfl
  byValue := fun k v h => by rw [isBl_shape h]; rfl
  pyHash := fun {A E s k v Q} h q => by
    cases isBl_shape h
    refine PySem.W.pyHash_slot (T := "bool") rfl F.slot_bool_hash entry_int_hash (args_int_hash _) (beq_builtin_none _) (.inl rfl) ?_
    cases k
    · exact (show wpAny _ _ (do ret (← mkInt 0)) _ _ s from wpAny_bind (wpAny_mkInt (wpAny_pure ⟨_, _, rfl, q⟩)))
    · exact (show wpAny _ _ (do ret (← mkInt 1)) _ _ s from wpAny_bind (wpAny_mkInt (wpAny_pure ⟨_, _, rfl, q⟩)))
  eqBool := fun {A E s a b u v Q} ha hb q => by
    cases isBl_shape ha
    cases isBl_shape hb
    have e : (a == b) = decide (a = b) := by cases a <;> cases b <;> rfl
    exact SeqAt.EqAt.bool_bool a b _ _ _ _ (by rw [e]; exact q)
  «strs» := fun k x t v h => absurd (show false = true from h) Bool.false_ne_true
abbrev NK := Nat × List Nat
def zs (ks : List Nat) : List Int := ks.map fun (n : Nat) => (n : Int)
theorem zs_inj {a b : List Nat} (h : zs a = zs b) : a = b := by
  induction a generalizing b with
  | nil => cases b with
    | nil => rfl
    | cons y b => cases h
  | cons x a ih => cases b with
    | nil => cases h
    | cons y b =>
      have h : ((x : Int) :: zs a) = ((y : Int) :: zs b) := h
      injection h with h1 h2
      rw [ih h2, Int.ofNat.inj h1]
section
variable (P : Program) (w : World)
def NestAt (h : Heap) (k : NK) (a : Addr) : Prop := ∃ (o : Obj) (n : Nat) (t : Tok) (b : Addr), h.get? a = some o ∧ o.cls = .type "tuple" ∧ o.data = .seq #[.int (k.1 : Int) t, .ref b] n ∧ IsTupleKey (intKind P w) h (zs k.2) b
def nestHash (k : NK) : Int := reduceHash (Builtin.Tuple.tupleHashOf [hashInt (k.1 : Int), tupleKeyHash (intKind P w) (zs k.2)])
end
section
variable {P : Program} {w : World}
theorem NestAt.inj {h : Heap} {a : Addr} {x y : NK} (hx : NestAt P w h x a) (hy : NestAt P w h y a) : x = y := by
  obtain ⟨o, n, t, b, h1, _, h3, h4⟩ := hx
  obtain ⟨o', n', t', b', g1, _, g3, g4⟩ := hy
  rw [h1] at g1
  cases g1
  rw [h3] at g3
  injection g3 with e1 _
  have e2 : [Value.int (x.1 : Int) t, .ref b] = [Value.int (y.1 : Int) t', .ref b'] := congrArg Array.toList e1
  injection e2 with e3 e4
  injection e3 with e5 _
  injection e4 with e6 _
  injection e6 with e7
  subst e7
  have e8 := zs_inj (h4.inj g4)
  have e9 : x.1 = y.1 := Int.ofNat.inj e5
  obtain ⟨x1, x2⟩ := x
  obtain ⟨y1, y2⟩ := y
  simp only at e8 e9
  rw [e8, e9]
theorem NestAt.keeps {h h' : Heap} {k : NK} {a d : Addr} {o : Obj} {es ep} (x : NestAt P w h k a) (ho : h.get? d = some o) (hd : o.data = .dict es ep) (hs : Heap.SameBut d h h') : NestAt P w h' k a := by
  obtain ⟨o', n, t, b, h1, h2, h3, h4⟩ := x
  refine ⟨o', n, t, b, (hs.2 a ?_).trans h1, h2, h3, h4.keeps ho hd hs⟩
  rintro rfl
  rw [h1] at ho
  cases ho
  rw [h3] at hd
  cases hd
theorem NestAt.tup {h : Heap} {k : NK} {a : Addr} (x : NestAt P w h k a) : ∃ t b, h.IsTuple a #[.int (k.1 : Int) t, .ref b] ∧ IsTupleKey (intKind P w) h (zs k.2) b := by
  obtain ⟨o, n, t, b, h1, h2, h3, h4⟩ := x
  exact ⟨t, b, ⟨o, h1, h2, n, h3⟩, h4⟩
theorem nest_hash {A : Around} {E : Value → Shared → Prop} {s : Shared} {k : NK} {a : Addr} {Q : Int → Shared → Prop} (hu : A.units + 1 < cLine) (x : NestAt P w s.heap k a) (q : Q (nestHash P w k) { s with toks := s.toks + (k.2.length + 3) }) :
    wpAny (model P w) A (pyHash (.ref a)) Q E s := by
  obtain ⟨o, n, t, b, h1, h2, h3, h4⟩ := x
  refine PySem.W.pyHash_slot (T := "tuple") ⟨o, h1, h2⟩ F.slot_tuple_hash F.entry_tuple_hash (F.args_tuple_hash_1 _) (beq_builtin_none _) (.inr (by (clear h3 h2 h1; omega))) ?_
  refine wpAny_bind (m := Builtin.Tuple.tupleItemsOf (.ref a)) (wpAny_tupleItemsOf h1 h3 (wpAny_bind ?_))
  rw [← Array.forIn_toList]
  show wpAny _ _ (forIn [Value.int (k.1 : Int) t, .ref b] _ _) _ _ _
  rw [List.forIn_cons]
  refine wpAny_bind (wpAny_bind (wpAny_pyHash_int (wpAny_bind (wpAny_pure (wpAny_pure ?_)))))
  dsimp only
  rw [List.forIn_cons]
  refine wpAny_bind (wpAny_bind (wpAny_pyHash_tuple (knd := intKind P w) (by show A.in1.units < cLine; rw [Around.in1_units]; exact hu) h4 (wpAny_bind (wpAny_pure (wpAny_pure ?_)))))
  dsimp only
  rw [List.forIn_nil]
  refine wpAny_pure ?_
  refine wpAny_bind (wpAny_mkInt (wpAny_pure ⟨_, _, rfl, ?_⟩))
  have e : s.toks + 1 + ((zs k.2).length + 1) + 1 = s.toks + (k.2.length + 3) := by
    have : (zs k.2).length = k.2.length := by simp [zs]
    (clear h3 h2 h1 hu; omega)
  simpa [e, nestHash] using q
theorem tk_any {P' : Program} {w' : World} {h : Heap} {ks : List Int} {b : Addr} (x : IsTupleKey (intKind P w) h ks b) : IsTupleKey (intKind P' w') h ks b := by
  obtain ⟨o, its, n, h1, h2, h3, h4⟩ := x
  refine ⟨o, its, n, h1, h2, h3, ?_⟩
  generalize its.toList = l at h4 ⊢
  induction h4 with
  | nil => exact .nil
  | cons a _ ih => exact .cons a ih
theorem nest_eq {A : Around} {s : Shared} {x y : NK} {a b : Addr} (hu : A.units + 1 < cLine) (hx : NestAt P w s.heap x a) (hy : NestAt P w s.heap y b) (E : Value → Shared → Prop) (Q : Bool → Shared → Prop) (q : Q (decide (x = y)) s) :
    wpAny (model P w) A (eqBool (.ref a) (.ref b)) Q E s := by
  by_cases hab : a = b
  · subst hab
    have e := hx.inj hy
    rw [decide_eq_true e] at q
    exact SeqAt.EqAt.same (.ref a) P w E Q q
  · obtain ⟨t, c, h1, h2⟩ := hx.tup
    obtain ⟨u, d, g1, g2⟩ := hy.tup
    have hu1 : A.in1.units < cLine := by rw [Around.in1_units]; exact hu
    have inner : SeqAt.EqAt A.in1 s (.ref c) (.ref d) (decide (zs x.2 = zs y.2)) := fun P' w' E' Q' q' => wpAny_eqBool_tuple (knd := intKind P' w') hu1 (tk_any h2) (tk_any g2) q'
    have all := SeqAt.EqAt.of_refs (A := A) hab (SeqAt.RcAt.tuples (s := s) (e := fun j => if j = 0 then ((x.1 : Int) == (y.1 : Int)) else decide (zs x.2 = zs y.2)) h1 g1 (by (clear hu1 hab; omega)) (fun j l1 l2 => by
      match j, l1, l2 with
      | 0, _, _ => exact SeqAt.EqAt.int_int _ t _ u
      | 1, _, _ => exact inner
      | n + 2, l1, _ => exact absurd l1 (by show ¬ (n + 2 < 2); (clear l1 l2 hu1 hab hu; omega))))
    refine all P w E Q ?_
    have e : ((List.range (min (#[Value.int (x.1 : Int) t, .ref c] : Array Value).size (#[Value.int (y.1 : Int) u, .ref d] : Array Value).size)).all (fun j => if j = 0 then ((x.1 : Int) == (y.1 : Int)) else decide (zs x.2 = zs y.2)) && (#[Value.int (x.1 : Int) t, .ref c] : Array Value).size == (#[Value.int (y.1 : Int) u, .ref d] : Array Value).size) = decide (x = y) := by
      show (((x.1 : Int) == (y.1 : Int)) && (decide (zs x.2 = zs y.2) && true) && true) = _
      obtain ⟨x1, x2⟩ := x
      obtain ⟨y1, y2⟩ := y
      by_cases e1 : x1 = y1
      · by_cases e2 : x2 = y2
        · subst e1 e2
          simp
        · have : zs x2 ≠ zs y2 := fun z => e2 (zs_inj z)
          simp [e1, e2, this]
      · have : ¬ ((x1 : Int) = (y1 : Int)) := fun z => e1 (Int.ofNat.inj z)
        simp [e1, this]
    rw [e]
    exact q
theorem quiet_in {A : Around} {E : Value → Shared → Prop} {s : Shared} {n : Nat} {a : Addr} {items : Array Value} {Q : Bool → Shared → Prop} (x : s.heap.IsTuple a items) (hi : ∀ v ∈ items.toList, ∀ (R : Bool → Shared → Prop), R true s → wpAny (model P w) A (eqIsQuiet n v) R E s) (q : Q true s) :
    wpAny (model P w) A (eqIsQuiet (n + 1) (.ref a)) Q E s := by
  obtain ⟨o, h1, h2, m, h3⟩ := x
  have hT : s.TypeIs (.ref a) "tuple" := ⟨o, h1, h2⟩
  unfold eqIsQuiet
  refine wpAny_bind (wpAny_specialOf hT F.slot_tuple_eq.lookup (wpAny_bind (m := isInstance (.ref a) (.type "tuple")) (wpAny_isInstance hT isSubtype_tuple_tuple ?_)))
  simp only [Bool.not_true, Bool.false_eq_true, if_false]
  refine wpAny_bind (wpAny_seqItems h1 h3 (wpAny_bind ?_))
  show wpAny _ _ (forIn items _ _) _ _ _
  rw [← Array.forIn_toList]
  refine wpAny_forIn_list _ (fun rest r s' => r.1 = none ∧ s' = s ∧ ∀ v ∈ rest, v ∈ items.toList) _ ?_ ?_ _ _ ⟨rfl, rfl, fun v hv => hv⟩
  · rintro v rest r s' ⟨hr, rfl, all⟩
    refine wpAny_bind (hi v (all v List.mem_cons_self) _ ?_)
    simp only [Bool.not_true, Bool.false_eq_true, if_false]
    exact wpAny_pure ⟨rfl, rfl, fun u hu => all u (List.mem_cons_of_mem _ hu)⟩
  · rintro ⟨r1, r2⟩ s' ⟨hr, rfl, _⟩
    simp only at hr
    subst hr
    exact wpAny_pure q
theorem nest_quiet {A : Around} {E : Value → Shared → Prop} {s : Shared} {k : NK} {a : Addr} {Q : Bool → Shared → Prop} (x : NestAt P w s.heap k a) (q : Q true s) : wpAny (model P w) A (eqIsQuiet 8 (.ref a)) Q E s := by
  obtain ⟨t, b, h1, h2⟩ := x.tup
  refine quiet_in (n := 7) h1 (fun v hv R r => ?_) q
  have hv : v ∈ [Value.int (k.1 : Int) t, .ref b] := hv
  rcases List.mem_cons.mp hv with rfl | hv
  · rw [eqIsQuiet_byValue _ rfl]
    exact wpAny_pure r
  · rw [List.mem_singleton.mp hv]
    obtain ⟨o, its, n, g1, g2, g3, g4⟩ := h2
    refine quiet_in (n := 6) ⟨o, g1, g2, n, g3⟩ (fun v hv R r => ?_) r
    rw [eqIsQuiet_byValue _ (g4.byValue v hv)]
    exact wpAny_pure r
end
def nestKind (P : Program) (w : World) : HeapKind P w NK where
  is := NestAt P w
  hash := nestHash P w
  draws := fun k => k.2.length + 3
  room := fun A => A.units + 1 < cLine
  inj := fun a b => a.inj b
  keeps := fun x ho hd hs => x.keeps ho hd hs
  pyHash := fun hu hk h => nest_hash hu hk h
  eqBool := fun hu hx hy h => nest_eq hu hx hy _ _ h
  quiet := fun hk h => nest_quiet hk h
end L2

namespace L2
open PySem PySem.Spec PyProof.Rows
/-! ## dicts by their keys' kind -/
structure HKd (P : Program) (w : World) (κ : Type) [DecidableEq κ] where
  knd : HeapKind P w κ
  kin : Hp → κ → Addr → Prop
  ok : ∀ {H : Hp} {h : Heap} {k : κ} {a : Addr}, kin H k a → HOk P w H h → knd.is h k a
  room : ∀ {A : Around}, A.units + 64 < cLine → knd.room A.in1 ∧ knd.room A
  stay : ∀ {H H' : Hp} {k : κ} {a : Addr}, (∀ b xs, H b = some (.tup xs) → H' b = some (.tup xs)) → kin H k a → kin H' k a
def TIn (H : Hp) (k : List Int) (a : Addr) : Prop := H a = some (.tup (k.map V.int))
def NIn (H : Hp) (k : NK) (a : Addr) : Prop := ∃ b, H a = some (.tup [.int (k.1 : Int), .ref b]) ∧ H b = some (.tup ((zs k.2).map V.int))
theorem items_int {P : Program} {w : World} : ∀ {ks : List Int} {us : List Value}, Vals (ks.map V.int) us → ItemsAre (intKind P w) ks us
  | [], _, r => by rw [List.map_nil] at r; cases r; exact .nil
  | k :: ks, _, r => by
    rw [List.map_cons] at r
    cases r with
    | cons h t =>
      obtain ⟨u, rfl⟩ := (show ∃ t, _ = Value.int k t from h)
      exact .cons (by show Value.isInt k (.int k u) = true; simp [Value.isInt]) (items_int t)
theorem tin_ok {P : Program} {w : World} {H : Hp} {h : Heap} {k : List Int} {a : Addr} (e : TIn H k a) (ok : HOk P w H h) : IsTupleKey (intKind P w) h k a := by
  obtain ⟨_, its, r, o, h1, h2, n, h3⟩ := (show ObjOk P w H h a (.tup (k.map V.int)) from ok a _ e)
  exact ⟨o, its.toArray, n, h1, h2, h3, by simpa using items_int r⟩
def pairD (P : Program) (w : World) : HKd P w (List Int) where
  knd := tupleKind (intKind P w)
  kin := TIn
  ok := fun e ok => tin_ok e ok
  room := fun {A} hu => ⟨by show A.in1.units < cLine; rw [Around.in1_units]; omega, by show A.units < cLine; omega⟩
  stay := fun s e => s _ _ e
def nestD (P : Program) (w : World) : HKd P w NK where
  knd := nestKind P w
  kin := NIn
  ok := fun {H h k a} e ok => by
    obtain ⟨b, e1, e2⟩ := e
    obtain ⟨_, its, r, o, h1, h2, n, h3⟩ := (show ObjOk P w H h a (.tup [.int (k.1 : Int), .ref b]) from ok a _ e1)
    obtain ⟨u1, u2, rfl, r1, r2⟩ := vals2 r
    obtain ⟨t, rfl⟩ := (show ∃ t, u1 = Value.int (k.1 : Int) t from r1)
    cases (show u2 = Value.ref b from r2)
    exact ⟨o, n, t, b, h1, h2, h3, tin_ok e2 ok⟩
  room := fun {A} hu => ⟨by show A.in1.units + 1 < cLine; rw [Around.in1_units]; omega, by show A.units + 1 < cLine; omega⟩
  stay := fun s ⟨b, e1, e2⟩ => ⟨b, s _ _ e1, s _ _ e2⟩
def kdO {P : Program} {w : World} {κ : Type} [DecidableEq κ] (knd : PySem.KeyKind P w κ) (d : Addr) (kvs : List (κ × V)) : HO := .ext fun h => (d == sysModules) = false ∧ kvs.length ≤ sizeLine ∧ ∃ vs, KV kvs vs ∧ h.DictOf knd d vs
abbrev KHr (κ : Type) : (κ × Addr × V) → (κ × Addr × Value) → Prop := fun p q => p.1 = q.1 ∧ p.2.1 = q.2.1 ∧ RelV p.2.2 q.2.2
def hdO {P : Program} {w : World} {κ : Type} [DecidableEq κ] (D : HKd P w κ) (d : Addr) (kvs : List (κ × Addr × V)) : HO := .ext fun h => (d == sysModules) = false ∧ kvs.length ≤ sizeLine ∧ ∃ xs, Paired (KHr κ) kvs xs ∧
  ∃ o es ep, h.get? d = some o ∧ o.ExactDict ∧ o.data = .dict es ep ∧ es.toList = xs.map (entryOfKey D.knd) ∧ (xs.map (·.1)).Nodup
section
variable {P : Program} {w : World} {κ : Type} [DecidableEq κ]
theorem kd_ok {knd : PySem.KeyKind P w κ} {H : Hp} {h : Heap} {d : Addr} {kvs : List (κ × V)} {vs : List (κ × Value)} (ns : (d == sysModules) = false) (hl : kvs.length ≤ sizeLine) (r : KV kvs vs) (dd : h.DictOf knd d vs) : ObjOk P w H h d (kdO knd d kvs) := by
  refine ⟨⟨ns, hl, vs, r, dd⟩, let ⟨o, _, _, e, _⟩ := dd; ⟨o, e⟩, fun h1 h2 a b => ?_⟩
  obtain ⟨a1, a2, vs, r, o, es, ep, e, q⟩ := a
  exact ⟨a1, a2, vs, r, o, es, ep, b o e, q⟩
theorem hd_ok {D : HKd P w κ} {H : Hp} {h : Heap} {d : Addr} {kvs : List (κ × Addr × V)} {xs : List (κ × Addr × Value)} (ns : (d == sysModules) = false) (hl : kvs.length ≤ sizeLine) (r : Paired (KHr κ) kvs xs) (dd : h.DictOfH D.knd d xs) : ObjOk P w H h d (hdO D d kvs) := by
  obtain ⟨o, es, ep, e, q1, q2, q3, _, q5⟩ := dd
  refine ⟨⟨ns, hl, xs, r, o, es, ep, e, q1, q2, q3, q5⟩, ⟨o, e⟩, fun h1 h2 a b => ?_⟩
  obtain ⟨a1, a2, vs, r, o, es, ep, e, q⟩ := a
  exact ⟨a1, a2, vs, r, o, es, ep, b o e, q⟩
theorem kd_of {knd : PySem.KeyKind P w κ} {H : Hp} {h : Heap} {d : Addr} {kvs : List (κ × V)} (ok : HOk P w H h) (e : H d = some (kdO knd d kvs)) : (d == sysModules) = false ∧ kvs.length ≤ sizeLine ∧ ∃ vs, KV kvs vs ∧ h.DictOf knd d vs := (ok d _ e).1
theorem hd_of {D : HKd P w κ} {H : Hp} {h : Heap} {d : Addr} {kvs : List (κ × Addr × V)} (ok : HOk P w H h) (e : H d = some (hdO D d kvs)) (hk : ∀ x ∈ kvs, D.kin H x.1 x.2.1) : (d == sysModules) = false ∧ kvs.length ≤ sizeLine ∧ ∃ xs, Paired (KHr κ) kvs xs ∧ h.DictOfH D.knd d xs := by
  obtain ⟨a1, a2, xs, r, o, es, ep, e1, q1, q2, q3, q5⟩ := (ok d _ e).1
  refine ⟨a1, a2, xs, r, o, es, ep, e1, q1, q2, q3, ?_, q5⟩
  clear q3 q5 e a2
  induction r with
  | nil => intro x hx; simp at hx
  | @cons p q ps qs h t ih =>
    intro x hx
    rcases List.mem_cons.mp hx with rfl | hx
    · have := D.ok (hk p (by simp)) ok
      rw [← h.1, ← h.2.1]
      exact this
    · exact ih (fun y hy => hk y (by simp [hy])) x hx
def valH (kvs : List (κ × Addr × V)) (k : κ) : Option V := (kvs.find? fun x => decide (x.1 = k)).map (·.2.2)
theorem kh_val {kvs : List (κ × Addr × V)} {xs : List (κ × Addr × Value)} (r : Paired (KHr κ) kvs xs) (k : κ) : RelO (valH kvs k) ((atKey xs k).map (·.2)) := by
  induction r with
  | nil => exact True.intro
  | @cons p q ps qs h t ih =>
    by_cases e : p.1 = k
    · have e' : q.1 = k := h.1.symm.trans e
      have a1 : valH (p :: ps) k = some p.2.2 := by simp [valH, List.find?_cons, e]
      have b : atKey (q :: qs) k = some q.2 := by simp [atKey, List.find?_cons, e']
      rw [a1, b]
      exact h.2.2
    · have e' : ¬ q.1 = k := fun z => e (h.1.trans z)
      have a1 : valH (p :: ps) k = valH ps k := by simp [valH, List.find?_cons, e]
      have b : atKey (q :: qs) k = atKey qs k := by simp [atKey, List.find?_cons, e']
      rw [a1, b]
      exact ih
theorem pd_snoc {α β : Type} {F : α → β → Prop} {a : α} {b : β} (h : F a b) : ∀ {l : List α} {m : List β}, Paired F l m → Paired F (l ++ [a]) (m ++ [b])
  | _, _, .nil => .cons h .nil
  | _, _, .cons r t => .cons r (pd_snoc h t)
theorem relO_isSome {o : Option V} {u : Option Value} (r : RelO o u) : o.isSome = u.isSome := by
  cases o <;> cases u <;> first | rfl | exact (show False from r).elim
end
section
variable {X : Cx} {pins : List (Addr × Obj)} {σ : St} {H : Hp} {s : Shared} {d : Addr}
theorem Inv.bigS (I : Inv X pins σ H s) : sysModules < s.heap.objs.size := by
  have h : mainGlobals < s.heap.objs.size := (I.mod.glob.keeps I.bk).lt
  exact Nat.lt_trans (by decide) h
/-- what the dict at d holds at y -/
def DGet (P : Program) (w : World) (H : Hp) (d : Addr) (y : V) (r : Option V) : Prop :=
  (∃ kvs k, H d = some (kdO (boolKind P w) d kvs) ∧ y = .bl k ∧ r = valV kvs k) ∨
  (∃ kvs k b, H d = some (hdO (nestD P w) d kvs) ∧ (∀ x ∈ kvs, NIn H x.1 x.2.1) ∧ y = .ref b ∧ NIn H k b ∧ r = valH kvs k) ∨
  ∃ kvs k b, H d = some (hdO (pairD P w) d kvs) ∧ (∀ x ∈ kvs, TIn H x.1 x.2.1) ∧ y = .ref b ∧ TIn H k b ∧ r = valH kvs k
/-- a new key -/
def DPut (P : Program) (w : World) (H : Hp) (d : Addr) (y v : V) (H' : Hp) : Prop :=
  (∃ kvs k, H d = some (kdO (boolKind P w) d kvs) ∧ y = .bl k ∧ valV kvs k = none ∧ kvs.length < sizeLine ∧ H' = upd H d (kdO (boolKind P w) d (kvs ++ [(k, v)]))) ∨
  (∃ kvs k b, H d = some (hdO (nestD P w) d kvs) ∧ (∀ x ∈ kvs, NIn H x.1 x.2.1) ∧ y = .ref b ∧ NIn H k b ∧ valH kvs k = none ∧ kvs.length < sizeLine ∧ H' = upd H d (hdO (nestD P w) d (kvs ++ [(k, b, v)]))) ∨
  ∃ kvs k b, H d = some (hdO (pairD P w) d kvs) ∧ (∀ x ∈ kvs, TIn H x.1 x.2.1) ∧ y = .ref b ∧ TIn H k b ∧ valH kvs k = none ∧ kvs.length < sizeLine ∧ H' = upd H d (hdO (pairD P w) d (kvs ++ [(k, b, v)]))
def DLen (P : Program) (w : World) (H : Hp) (d : Addr) (n : Nat) : Prop :=
  (∃ kvs, H d = some (kdO (boolKind P w) d kvs) ∧ n = kvs.length) ∨ ∃ kvs, H d = some (hdO (nestD P w) d kvs) ∧ n = kvs.length
theorem h_get {κ : Type} [DecidableEq κ] {D : HKd X.prog X.w κ} {kvs : List (κ × Addr × V)} {k : κ} {b : Addr} {v : V} {A : Around} {E : Value → Shared → Prop} {Q : Value → Shared → Prop} (hu : A.units + 64 < cLine) (I : Inv X pins σ H s) (e : H d = some (hdO D d kvs)) (hk : ∀ x ∈ kvs, D.kin H x.1 x.2.1) (kb : D.kin H k b)
    (l : some v = valH kvs k) (h : ∀ w' s', Inv X pins σ H s' → RelV v w' → Q w' s') : wpAny (model X.prog X.w) A (getItem (.ref d) (.ref b)) Q E s := by
  obtain ⟨_, _, xs, rel, dd⟩ := hd_of I.hok e hk
  obtain ⟨w', hw, rw'⟩ := RelO.some_of (v := v) (o := (atKey xs k).map (·.2)) (by rw [l]; exact kh_val rel k)
  obtain ⟨p, hp, hp2⟩ := Option.map_eq_some_iff.mp hw
  refine wpAny_getItem_heap (D.room hu).1 (D.ok kb I.hok) dd hp ?_
  rw [hp2]
  exact h w' _ (I.tok _) rw'
theorem h_notIn {κ : Type} [DecidableEq κ] {D : HKd X.prog X.w κ} {kvs : List (κ × Addr × V)} {k : κ} {b : Addr} {A : Around} {E : Value → Shared → Prop} {Q : Value → Shared → Prop} (hu : A.units + 64 < cLine) (I : Inv X pins σ H s) (e : H d = some (hdO D d kvs)) (hk : ∀ x ∈ kvs, D.kin H x.1 x.2.1) (kb : D.kin H k b)
    (h : ∀ s', Inv X pins σ H s' → Q (.bool (!(valH kvs k).isSome)) s') : wpAny (model X.prog X.w) A (compareOp .NotIn (.ref b) (.ref d)) Q E s := by
  obtain ⟨ns, _, xs, rel, dd⟩ := hd_of I.hok e hk
  refine wpAny_notIn_heap (D.room hu).1 (D.ok kb I.hok) ns dd ?_
  have q := relO_isSome (kh_val rel k)
  rw [Option.isSome_map] at q
  rw [← q]
  exact h _ (I.tok _)
theorem ext_write {h' : Heap} {t' : Nat} {ob : HO} (I : Inv X pins σ H s) (mu : Mut (H d)) (hs : Heap.SameBut d s.heap h') (he : ∃ q, h'.get? d = some q) (new : ObjOk X.prog X.w (upd H d ob) h' d ob) : Inv X pins σ (upd H d ob) { s with heap := h', toks := t' } :=
  I.write (x := d) (e := d) mu (.inl rfl) (fun b q hb z => (hs.2 b hb).trans z) he new
theorem h_new {κ : Type} [DecidableEq κ] {D : HKd X.prog X.w κ} {kvs : List (κ × Addr × V)} {xs : List (κ × Addr × Value)} {k : κ} {b : Addr} {v : V} {r : Value} {h' : Heap} {t' : Nat} (I : Inv X pins σ H s) (e : H d = some (hdO D d kvs)) (ns : (d == sysModules) = false) (hl : kvs.length < sizeLine) (rel : Paired (KHr κ) kvs xs)
    (hn : valH kvs k = none) (rv : RelV v r) (dd : h'.DictOfH D.knd d (storedH xs k b r)) (hs : Heap.SameBut d s.heap h') : Inv X pins σ (upd H d (hdO D d (kvs ++ [(k, b, v)]))) { s with heap := h', toks := t' } := by
  have q := RelO.none_of (show RelO none ((atKey xs k).map (·.2)) by rw [← hn]; exact kh_val rel k)
  rw [storedH_new (Option.map_eq_none_iff.mp q)] at dd
  exact ext_write I (by rw [e]; exact True.intro) hs (let ⟨o, _, _, q, _⟩ := dd; ⟨o, q⟩) (hd_ok ns (by rw [List.length_append]; exact hl) (pd_snoc (F := KHr κ) ⟨rfl, rfl, rv⟩ rel) dd)
theorem h_set {κ : Type} [DecidableEq κ] {D : HKd X.prog X.w κ} {kvs : List (κ × Addr × V)} {k : κ} {b : Addr} {v : V} {r : Value} {A : Around} {E : Value → Shared → Prop} {Q : Unit → Shared → Prop} (hu : A.units + 64 < cLine) (I : Inv X pins σ H s) (e : H d = some (hdO D d kvs)) (hk : ∀ x ∈ kvs, D.kin H x.1 x.2.1) (kb : D.kin H k b)
    (hn : valH kvs k = none) (hl : kvs.length < sizeLine) (rv : RelV v r) (h : ∀ s', Inv X pins σ (upd H d (hdO D d (kvs ++ [(k, b, v)]))) s' → Q () s') : wpAny (model X.prog X.w) A (setItem (.ref d) (.ref b) r) Q E s := by
  obtain ⟨ns, hz, xs, rel, dd⟩ := hd_of I.hok e hk
  exact wpAny_setItem_heap (hsz := by rw [← Paired.length rel]; exact hz) (D.room hu).1 (D.ok kb I.hok) dd fun h' dd' hs => h _ (h_new I e ns hl rel hn rv dd' hs)
theorem kv_snoc {κ : Type} {kvs : List (κ × V)} {vs : List (κ × Value)} {k : κ} {v : V} {r : Value} (rel : KV kvs vs) (rv : RelV v r) : KV (kvs ++ [(k, v)]) (vs ++ [(k, r)]) := pd_snoc (F := fun (p : κ × V) (q : κ × Value) => p.1 = q.1 ∧ RelV p.2 q.2) ⟨rfl, rv⟩ rel
theorem stored_new {κ : Type} [DecidableEq κ] {vs : List (κ × Value)} {k : κ} {r : Value} (h : valueAt vs k = none) : stored vs k r = vs ++ [(k, r)] := by
  unfold stored
  rw [if_neg]
  intro q
  rw [List.any_eq_true] at q
  obtain ⟨x, hx, e⟩ := q
  unfold valueAt at h
  rw [Option.map_eq_none_iff, List.find?_eq_none] at h
  exact h x hx e
/-- len of a raw table -/
theorem len_raw {A : Around} {E : Value → Shared → Prop} {o : Obj} {es : Array DictEntry} {ep : Nat} {Q : Value → Shared → Prop} (ns : (d == sysModules) = false) (ho : s.heap.get? d = some o) (hc : o.ExactDict) (hd : o.data = .dict es ep) (hz : es.size ≤ sizeLine)
    (h : ∀ t t', Q (.int (es.size : Nat) t) { s with toks := t' }) : wpAny (model X.prog X.w) A (call (.builtin "len") [.ref d]) Q E s := by
  have hT : s.TypeIs (.ref d) "dict" := ⟨o, ho, hc.1⟩
  have hb : (es.size : Int) < 2 ^ 63 := by rw [sizeLine_eq] at hz; (clear h hd ho ns; omega)
  refine Calls.call_function_entry kind_len plain_len entry_len (args_len1 _) ?_
  unfold Builtin.«len»
  refine wpAny_bind (m := oneArg "len" _) (wpAny_pure (wpAny_bind (m := callSpecial? (.ref d) (Str.ofString "__len__")) (wpAny_callSpecial?_slot (name := Str.ofString "__len__") hT F.slot_dict_len (wpAny_call_entry F.slot_dict_len hT F.entry_dict_len ?_ (F.args_dict_len_1 _)))))
  refine wpAny_bind (m := dictSize d) ?_
  unfold dictSize
  refine wpAny_bind (wpAny_dictEntries ho hd (wpAny_pure (wpAny_bind (m := Builtin.Dict.pendingCount d) (wpAny_pendingCount_other ns (wpAny_bind (wpAny_mkInt (wpAny_pure ⟨_, rfl, wpAny_bind (wpAny_holding (wpAny_pure (wpAny_bind (wpAny_letGo ?_))))⟩)))))))
  refine wpAny_ite_false (by simp) (wpAny_ite_false (by simp; (clear h hz hd ho ns; omega)) (wpAny_bind (wpAny_mkInt (wpAny_pure ⟨_, rfl, ?_⟩))))
  simpa using h _ _
end
end L2

namespace L2
open PySem PySem.Spec PyProof.Rows
/-! ## their rules -/
section
variable {X : Cx}
def rNotInD (P : Program) (w : World) : R2 := fun x y H Q => ∃ d o, y = .ref d ∧ DGet P w H d x o ∧ Q (.bl (!o.isSome)) H
theorem op_notinD (hu : X.A.units + 64 < cLine) : OpR X (compareOp .NotIn) (rNotInD X.prog X.w) := by
  intro pins s σ H x y v u Q I rx ry h
  obtain ⟨d, o, rfl, g, q⟩ := h
  cases ry
  rcases g with ⟨kvs, k, e, rfl, rfl⟩ | ⟨kvs, k, b, e, hk, rfl, kb, rfl⟩ | ⟨kvs, k, b, e, hk, rfl, kb, rfl⟩
  · cases rx
    obtain ⟨ns, _, vs, rel, dd⟩ := kd_of I.hok e
    refine wpAny_notIn_of (knd := boolKind X.prog X.w) (k := k) (show isBl k (.bool k) = true by cases k <;> rfl) ns dd.mapOf ?_
    rw [← relO_isSome (rel.val k)]
    exact ⟨.bl _, H, I.tok _, rfl, q⟩
  · cases rx
    exact h_notIn (D := nestD X.prog X.w) hu I e hk kb fun s' I' => ⟨.bl _, H, I', rfl, q⟩
  · cases rx
    exact h_notIn (D := pairD X.prog X.w) hu I e hk kb fun s' I' => ⟨.bl _, H, I', rfl, q⟩
theorem dg_type {pins : List (Addr × Obj)} {σ : St} {H : Hp} {s : Shared} {d : Addr} {y : V} {o : Option V} (I : Inv X pins σ H s) (g : DGet X.prog X.w H d y o) : s.TypeIs (.ref d) "dict" := by
  rcases g with ⟨kvs, k, e, _⟩ | ⟨kvs, k, b, e, hk, _⟩ | ⟨kvs, k, b, e, hk, _⟩
  · obtain ⟨_, _, vs, _, dd⟩ := kd_of I.hok e
    exact dd.typeIs
  · obtain ⟨_, _, vs, _, dd⟩ := hd_of (D := nestD X.prog X.w) I.hok e hk
    exact dd.typeIs
  · obtain ⟨_, _, vs, _, dd⟩ := hd_of (D := pairD X.prog X.w) I.hok e hk
    exact dd.typeIs
def rIxG (P : Program) (w : World) : R2 := fun x y H Q => ∃ d v, x = .ref d ∧ DGet P w H d y (some v) ∧ Q v H
theorem ix_dictG (hu : X.A.units + 64 < cLine) : IxR X (rIxG X.prog X.w) := by
  intro value slice pins s σ H x y v u Q I rx ry h hs
  obtain ⟨d, z, rfl, g, q⟩ := h
  cases rx
  refine tail_any (ops := [.ref d, u]) (dg_type I g) PySem.F.slot_dict_getitem.lookup ?_ hs
  rcases g with ⟨kvs, k, e, rfl, l⟩ | ⟨kvs, k, b, e, hk, rfl, kb, l⟩ | ⟨kvs, k, b, e, hk, rfl, kb, l⟩
  · cases ry
    obtain ⟨ns, _, vs, rel, dd⟩ := kd_of I.hok e
    obtain ⟨w', hw, rw'⟩ := RelO.some_of (v := z) (o := valueAt vs k) (by rw [l]; exact rel.val k)
    exact wpAny_getItem_of (knd := boolKind X.prog X.w) (k := k) (show isBl k (.bool k) = true by cases k <;> rfl) dd.mapOf hw ⟨z, H, I.tok _, rw', q⟩
  · cases ry
    exact h_get (D := nestD X.prog X.w) hu I e hk kb l fun w' s' I' rw' => ⟨z, H, I', rw', q⟩
  · cases ry
    exact h_get (D := pairD X.prog X.w) hu I e hk kb l fun w' s' I' rw' => ⟨z, H, I', rw', q⟩
def rSetD (P : Program) (w : World) : TSet := fun o i v H Q => ∃ d H', o = .ref d ∧ DPut P w H d i v H' ∧ Q H'
theorem set_dictG (hu : X.A.units + 64 < cLine) : PSet X (rSetD X.prog X.w) := by
  intro pins s σ H o i v ov iv u Q I ro ri rv h
  obtain ⟨d, H', rfl, g, q⟩ := h
  cases ro
  rcases g with ⟨kvs, k, e, rfl, hn, hl, rfl⟩ | ⟨kvs, k, b, e, hk, rfl, kb, hn, hl, rfl⟩ | ⟨kvs, k, b, e, hk, rfl, kb, hn, hl, rfl⟩
  · cases ri
    obtain ⟨ns, hz, vs, rel, dd⟩ := kd_of I.hok e
    refine wpAny_setItem_pairs (knd := boolKind X.prog X.w) (k := k) (hsz := by rw [← rel.length]; exact hz) (show isBl k (.bool k) = true by cases k <;> rfl) dd fun h' dd' hs => ⟨_, ?_, q⟩
    have qn := RelO.none_of (show RelO none (valueAt vs k) by rw [← hn]; exact rel.val k)
    rw [stored_new qn] at dd'
    exact ext_write I (by rw [e]; exact True.intro) hs (let ⟨o, _, _, q, _⟩ := dd'; ⟨o, q⟩) (kd_ok ns (by rw [List.length_append]; exact hl) (kv_snoc rel rv) dd')
  · cases ri
    exact h_set (D := nestD X.prog X.w) hu I e hk kb hn hl rv fun s' I' => ⟨_, I', q⟩
  · cases ri
    exact h_set (D := pairD X.prog X.w) hu I e hk kb hn hl rv fun s' I' => ⟨_, I', q⟩
theorem call_lenD : CallR X (.builtin "len") (fun xs H Q => ∃ d n, xs = [V.ref d] ∧ DLen X.prog X.w H d n ∧ Q (.int (n : Nat)) H) := by
  intro pins s σ H xs us Q I r h
  obtain ⟨d, n, rfl, g, q⟩ := h
  obtain ⟨u1, rfl, r1⟩ := vals1 r
  cases r1
  rcases g with ⟨kvs, e, rfl⟩ | ⟨kvs, e, rfl⟩
  · obtain ⟨ns, hz, vs, rel, o, es, ep, h1, h2, h3, _, hp, _⟩ := kd_of I.hok e
    have hs : es.size = kvs.length := by rw [rel.length, ← hp.length]; simp
    refine len_raw (X := X) ns h1 h2 h3 (by (clear h3 h1 ns e; omega)) fun t t' => ⟨.int (kvs.length : Nat), H, I.tok _, ⟨t, by rw [hs]⟩, q⟩
  · obtain ⟨ns, hz, xs, rel, o, es, ep, h1, h2, h3, he, _⟩ := (I.hok d _ e).1
    have hs : es.size = kvs.length := by rw [Paired.length rel, ← Array.length_toList, he, List.length_map]
    refine len_raw (X := X) ns h1 h2 h3 (by (clear he h3 h1 ns e; omega)) fun t t' => ⟨.int (kvs.length : Nat), H, I.tok _, ⟨t, by rw [hs]⟩, q⟩
/-- a new dict, of the kind that is wanted -/
inductive DKd where
  | bl | nest | pair
def newO (P : Program) (w : World) (d : Addr) : DKd → HO
  | .bl => kdO (boolKind P w) d []
  | .nest => hdO (nestD P w) d []
  | .pair => hdO (pairD P w) d []
theorem new_ok {P : Program} {w : World} {H : Hp} (h : Heap) (hb : sysModules < h.objs.size) (k : DKd) : ObjOk P w H (h.push { cls := .type "dict", data := .dict #[] }) h.objs.size (newO P w h.objs.size k) := by
  have ns : (h.objs.size == sysModules) = false := beq_eq_false_iff_ne.mpr (Ne.symm (Nat.ne_of_lt hb))
  cases k with
  | bl => exact kd_ok (knd := boolKind P w) ns (Nat.zero_le _) .nil (Heap.DictOf.new h)
  | nest => exact hd_ok (D := nestD P w) ns (Nat.zero_le _) .nil (Heap.DictOfH.new h)
  | pair => exact hd_ok (D := pairD P w) ns (Nat.zero_le _) .nil (Heap.DictOfH.new h)
def tDNew (P : Program) (w : World) : TE := fun _ H Q => ∃ k, ∀ p, H p = none → Q (.ref p) (upd H p (newO P w p k))
theorem pe_dnew {pos : Pos} : PE X (.Dict [] [] pos) (tDNew X.prog X.w) := fun pins s σ H Q I ⟨k, h⟩ =>
  wpAny_Dict_empty ⟨.ref s.heap.objs.size, _, I.laid (a := s.heap.objs.size) (o := newO X.prog X.w s.heap.objs.size k) (t' := s.toks) (fun _ _ q => Heap.get?_push_of_some _ q) (Nat.le_refl _) (new_ok s.heap I.bigS k), rfl, h _ (I.hok.fresh (Nat.le_refl _))⟩
/-- {k: v}, k a pair of ints -/
def tDOne (P : Program) (w : World) (tk tv : TE) : TE := fun σ H Q => ∀ p, H p = none → tk σ (upd H p (newO P w p .pair)) fun x H1 => tv σ H1 fun y H2 => ∃ b k, x = .ref b ∧ TIn H2 k b ∧ H2 p = some (newO P w p .pair) ∧ Q (.ref p) (upd H2 p (hdO (pairD P w) p [(k, b, y)]))
theorem pe_done {k v : Expr} {tk tv : TE} {pos : Pos} (hu : X.A.units + 64 < cLine) (hk : PE X k tk) (hv : PE X v tv) : PE X (.Dict [some k] [v] pos) (tDOne X.prog X.w tk tv) := by
  intro pins s σ H Q I h
  have hn := I.hok.fresh (Nat.le_refl s.heap.objs.size)
  have I1 := I.laid (a := s.heap.objs.size) (o := newO X.prog X.w s.heap.objs.size .pair) (t' := s.toks) (fun _ _ q => Heap.get?_push_of_some { cls := .type "dict", data := .dict #[] } q) (Nat.le_refl _) (new_ok s.heap I.bigS .pair)
  have hsh := zip_pairTrees [some k] [v] X.env pos rfl rfl
  rw [arm_eval_Dict, hsh, dictDisplay_pairs (pairTrees [some k] [v] X.env pos) (by intro z; cases z) (by show 1 < 17; decide)]
  refine wpAny_bind (wpAny_standAt (wpAny_bind ?_))
  unfold subDict
  refine wpAny_bind (wpAny_alloc (wpAny_bind (wpAny_holding ?_)))
  rw [if_pos (show (pairTrees [some k] [v] X.env pos).length ≤ 15 by show 1 ≤ 15; decide)]
  refine wpAny_bind (pairTrees_cons_walk (thn (hk pins _ σ _ _ I1 (h _ hn)) fun u s1 ⟨x, H1, I2, rx, q1⟩ => thn (hv pins s1 σ H1 _ I2 q1) fun r s2 ⟨y, H2, I3, ry, b, kk, ex, kb, hp, q2⟩ => pairTrees_nil_walk (wpAny_holding (wpAny_bind ?_))))
  subst ex
  cases rx
  rw [List.forIn_cons]
  obtain ⟨ns, hz, xs, rel, dd⟩ := hd_of (D := pairD X.prog X.w) (kvs := []) I3.hok hp (fun x hx => by simp at hx)
  refine wpAny_bind (wpAny_bind (wpAny_dictSet_heap (knd := (pairD X.prog X.w).knd) (hsz := by rw [← Paired.length rel]; exact hz) ((pairD X.prog X.w).room hu).2 ((pairD X.prog X.w).ok kb I3.hok) dd fun h' dd' hs => wpAny_pure ?_))
  dsimp only
  rw [List.forIn_nil]
  refine wpAny_pure (wpAny_pure (wpAny_pure (wpAny_pure ⟨.ref s.heap.objs.size, _, ?_, rfl, q2⟩)))
  exact h_new (D := pairD X.prog X.w) (kvs := []) I3 hp ns (line_ge (by show 1 ≤ 16777216; decide)) rel rfl ry dd' hs
end
end L2

namespace L2
open PySem PySem.Spec PyProof.Rows
/-! ## X18. a comprehension with two targets -/
section
variable {X : Cx} {elt iter : Expr} {x y : Str} {px py pt pos : Pos} {kt : Nat} {sc : Scope} {wi : TI} {te : TE}
def tComp2 (K : PySem.W.Frag) (wi : TI) (te : TE) : TE := fun σ H Q => wi σ H fun J H1 => ∀ D, H1 D = none → ∃ W : Nat → Nat → List V → Hp → Prop,
  (∃ m, W 0 m [] (upd H1 D (.lst []))) ∧ ∀ i m ys H2, W i m ys H2 → H2 D = some (.lst ys) ∧ ((J.stop i H2 ∧ Q (.ref D) H2) ∨ (J.go i H2 ∧ ys.length < sizeLine ∧ ∀ x H3, J.yld i H2 x H3 →
    ∃ p a b, x = .ref p ∧ SqT K H3 p [a, b] ∧ te (some a :: some b :: σ) H3 fun y H5 => H5 D = some (.lst ys) ∧ ∃ m', m' < m ∧ W (i + 1) m' (ys ++ [y]) (upd H5 D (.lst (ys ++ [y])))))
theorem pe_comp2 (N2 : List Str) (hc : X.calm = true) (hN2 : (x :: y :: N2).Nodup) (hi : PI X (.Tuple [.Name x px, .Name y py] kt pt) iter wi)
    (hb : ∀ (cl : List (Str × Addr)) (C : Addr) (fp : List Addr) (s : Shared) (H : Hp), PE { cxComp X x sc cl C fp s H with N := x :: y :: N2 } elt te)
    (hx : sc.names.lookup x = some .local := by rfl) (hy : sc.names.lookup y = some .local := by rfl) (hkind : sc.kind = .function := by rfl)
    (hnames : ∀ y ∈ sc.names, y.2 = .local → sc.names.lookup y.1 = some .local := by decide +kernel) (hcell : ∀ y ∈ sc.names, y.2 ≠ .cell := by decide +kernel)
    (hfree : (sc.names.all fun y => y.2 != .free || X.env.scope.names.lookup y.1 == some .cell) = true := by rfl)
    (hlo : (N2.all fun y => sc.names.lookup y != some .local) = true := by rfl) (hl2 : N2.length = X.N.length := by rfl) (hz2 : ((N2.zip X.N).all fun y => y.1 == y.2 || sc.names.lookup y.1 == none) = true := by rfl)
    (hs : ∀ x, foldedSetIterable iter X.env x = pure x := by intro _; rfl) :
    PE X (.ListComp elt [⟨.Tuple [.Name x px, .Name y py] kt pt, iter, [], 0⟩] sc pos) (tComp2 X.K wi te) := by
  intro pins s σ H Q I h
  have hfr : ∀ y ∈ sc.names, y.2 = .free → X.env.kindOf y.1 = some .cell := fun y hy e => by
    have q := List.all_eq_true.mp hfree y hy
    rw [e] at q
    simpa [Env.kindOf] using q
  have hlo' : ∀ y ∈ N2, sc.names.lookup y ≠ some .local := fun y hy e => by
    have q := List.all_eq_true.mp hlo y hy
    rw [e] at q
    simp at q
  obtain ⟨cl, hclos, hsub, hhas⟩ := closure_of (env := X.env) (sc := sc) fun y hy e => I.ok.has y.1 (.inl (hfr y hy e))
  rw [eval_ListComp]
  refine wpAny_comprehension_free (use := none) rfl hs hclos hkind hnames (thn (hi pins s σ H _ I h) fun v s1 h1 => thn h1 fun itv s2 h2 => ?_)
  obtain ⟨it, fp, tn, J, H2, e, I2, T, st2, f2, hW⟩ := h2
  subst e
  -- the accumulator, then the block's frame
  have nobinds : ∀ y ∈ ([] : List (Str × Value)), sc.names.lookup y.1 = some .local := fun y hy => absurd hy (by simp)
  refine wpAny_newObj_type ?_
  refine wpAny_newFunctionEnv hcell nobinds (fun h₁ hns₁ hsb₁ => ?_) hkind
  dsimp only at hns₁ hsb₁ ⊢
  generalize hHa : s2.heap.push { cls := .type "list", dict := none, data := .seq ([] : List Value).toArray } = Ha at hns₁ hsb₁ ⊢
  have hC : Ha.objs.size = s2.heap.objs.size + 1 := by rw [← hHa, Heap.size_push]
  have hDC : s2.heap.objs.size ≠ Ha.objs.size := by rw [hC]; exact Nat.ne_of_lt (Nat.lt_succ_self _)
  have hCle : s2.heap.objs.size ≤ Ha.objs.size := by rw [hC]; exact Nat.le_succ _
  have neC : ∀ b o, s2.heap.get? b = some o → b ≠ Ha.objs.size := fun b o e => Nat.ne_of_lt (Nat.lt_of_lt_of_le (Heap.lt_size e) hCle)
  have old : ∀ b o, s2.heap.get? b = some o → h₁.get? b = some o := fun b o e => hsb₁.extBut b o (neC b o e) (Heap.get?_push_of_some _ (hHa ▸ Heap.get?_push_of_some _ e))
  have hacc : h₁.get? s2.heap.objs.size = some { cls := .type "list", dict := none, data := .seq ([] : List Value).toArray } := hsb₁.extBut _ _ hDC (Heap.get?_push_of_some _ (hHa ▸ Heap.get?_push_size _ rfl))
  generalize hDe : s2.heap.objs.size = D at *
  generalize hCe : Ha.objs.size = C at *
  have hHD : H2 D = none := I2.hok.fresh (Nat.le_of_eq hDe)
  have hHC : H2 C = none := I2.hok.fresh (by (clear hHD hCle hDC neC hCe hacc old hHa nobinds hW f2 hhas hsub hclos hlo' hfr hs hz2 hl2 hlo hfree hcell hnames hkind hy hx hb hc; omega))
  obtain ⟨W, ⟨m0, w0⟩, turn⟩ := hW D hHD
  have fplt : ∀ b ∈ fp, b < D := fun b hb => by
    obtain ⟨o, e, _⟩ := T.obj _ _ st2 b hb
    rw [← hDe]
    exact Heap.lt_size e
  -- the block's context
  let X' : Cx := { cxComp X x sc cl C fp s2 H2 with N := x :: y :: N2 }
  have nofs : ∀ b ∈ fp, b ∉ frs X.stack := fun b hb z => by
    rcases List.mem_cons.mp (I2.stkSub b z) with e | e
    · exact (f2 b hb).2.1 e
    · exact (f2 b hb).2.2.1 e
  have ok' : X'.Ok := by
    refine ⟨I2.ok.mod, hkind, I2.ok.glob, I2.ok.blt, ?_, fun y z c e1 e2 => I2.ok.inj y z c (hsub y c e1) (hsub z c e2), fun y hy => ?_, fun y c e => absurd (show false = true from e) Bool.false_ne_true, I2.ok.hd, I2.ok.frames, .inl rfl, fun b hb => ⟨?_, fun y c e => ?_⟩, I2.bs,
      Nat.le_trans I2.ok.bsz I2.sz, fun b o e hb => ?_, nofs, I2.stack, I2.stkFree⟩
    · show s2.heap.objs.size ≤ C
      (clear nofs fplt turn hHC hHD hCle hDC neC hCe hacc old hHa nobinds hW f2 hhas hsub hclos hlo' hfr hs hz2 hl2 hlo hfree hcell hnames hkind hy hx hb hc; omega)
    · rcases hy with hy | hy
      · rcases relabel_lookup (show (relabel sc X.env).names.lookup y = some .cell from hy) with e | ⟨_, e, _⟩
        · exact absurd rfl (hcell _ (PySem.mem_of_lookup e))
        · exact hhas _ (PySem.mem_of_lookup e) rfl
      · rcases relabel_lookup (show (relabel sc X.env).names.lookup y = some .free from hy) with e | ⟨e, _⟩
        · exact hhas _ (PySem.mem_of_lookup e) rfl
        · cases e
    · exact Nat.ne_of_lt (Nat.lt_of_lt_of_le (fplt b hb) (by (clear nofs fplt turn hHC hHD hDC hC neC hCe hacc hDe old hHa nobinds hW f2 hhas hsub hclos hlo' hfr hs hz2 hl2 hlo hfree hcell hnames hkind hy hx hc; omega) : D ≤ C))
    · exact (f2 b hb).2.2.2.2.1 y c (hsub y c e)
    · rcases (f2 b hb).2.2.2.1 with z | z
      · exact I2.ok.noex b o e z
      · exact absurd (Nat.lt_of_lt_of_le (Nat.lt_of_lt_of_le (Heap.lt_size e) I2.ok.bsz) z) (Nat.lt_irrefl _)
  have I4 : ∀ tk, Inv X' [] (none :: none :: σ) (upd H2 D (.lst [])) { s2 with heap := h₁, toks := tk } := fun tk => by
    refine ⟨ok', rfl, I2.bare, Un.laid old (Nat.le_of_eq hDe) hHD, ⟨_, hns₁, fun i y' v e1 e2 e3 => ?_⟩, fun y c e => ?_, ?_, fun y c e => ?_, fun p hp => ?_, I2.hok.laid old (Nat.le_of_eq hDe) ?_, ?_⟩
    · match i, e1, e2 with
      | 0, e1, e2 => simp at e2
      | 1, e1, e2 => simp at e2
      | i + 2, e1, e2 =>
        have e0 : N2[i]? = some y' := by simpa [X', cxComp] using e1
        have e2 : σ[i]? = some (some v) := by simpa using e2
        have e3 : Vis (relabel sc X.env) y' := e3
        have hyN : y' ∈ N2 := List.mem_of_getElem? e0
        have free : sc.names.lookup y' = some .free ∧ (relabel sc X.env).names.lookup y' ≠ some .local := by
          rcases e3 with e | e | e
          · rcases relabel_lookup e with q | ⟨q, _⟩
            · exact absurd q (hlo' y' hyN)
            · cases q
          · rcases relabel_lookup e with q | ⟨_, q, _⟩
            · exact absurd rfl (hcell _ (PySem.mem_of_lookup q))
            · exact ⟨q, by rw [e]; decide⟩
          · rcases relabel_lookup e with q | ⟨q, _⟩
            · exact ⟨q, by rw [e]; decide⟩
            · cases q
        have e1 : X.N[i]? = some y' := by
          have hi : i < N2.length := (List.getElem?_eq_some_iff.mp e0).1
          have hi2 : i < X.N.length := by (clear free e2 e0 e1 nofs fplt turn hHC hHD hCle hDC hC neC hCe hacc hDe old hHa nobinds hW f2 hhas hsub hclos hlo' hfr hs hz2 hlo hfree hcell hnames hkind hy hx hb hc; omega)
          have hm : (y', X.N[i]) ∈ N2.zip X.N := by
            have hz : (N2.zip X.N)[i]? = some (y', X.N[i]) := by
              rw [List.getElem?_zip_eq_some]
              exact ⟨e0, List.getElem?_eq_getElem hi2⟩
            exact List.mem_of_getElem? hz
          have q := List.all_eq_true.mp hz2 _ hm
          rcases Bool.or_eq_true_iff.mp q with q | q
          · have : y' = X.N[i] := eq_of_beq q
            rw [List.getElem?_eq_getElem hi2, ← this]
          · have q2 : sc.names.lookup y' = none := by simpa using q
            rw [free.1] at q2
            cases q2
        have kc : X.env.kindOf y' = some .cell := hfr _ (PySem.mem_of_lookup free.1) rfl
        obtain ⟨m, hn, hl⟩ := I2.loc
        obtain ⟨u, ru, lk⟩ := hl i y' v e1 e2 (.inr (.inl kc))
        rcases lk with ⟨q, _⟩ | ⟨_, c, hcc, ⟨o, ho, hd⟩⟩
        · rw [kc] at q; cases q
        · obtain ⟨c', hc'⟩ := hhas _ (PySem.mem_of_lookup free.1) rfl
          have e4 := hsub _ _ hc'
          rw [hcc] at e4
          cases e4
          refine ⟨u, ru, .inr ⟨?_, c, hc', ⟨o, old c o ho, hd⟩⟩⟩
          rcases e3 with e | e | e
          · exact absurd e free.2
          · exact .inl e
          · exact .inr e
    · obtain ⟨v, o, ho, hd⟩ := I2.cell y c (hsub y c e)
      exact ⟨v, o, old c o ho, hd⟩
    · show upd H2 D (.lst []) C = none
      rw [upd_ne (neA (by (clear nofs fplt turn hHC hHD hCle hDC neC hCe hacc hDe old hHa nobinds hW f2 hhas hsub hclos hlo' hfr hs hz2 hl2 hlo hfree hcell hnames hkind hy hx hb hc; omega)))]
      exact hHC
    · obtain ⟨v, o, ho, hd⟩ := I2.cell y c (hsub y c e)
      have hlt := Heap.lt_size ho
      rw [hDe] at hlt
      show upd H2 D (.lst []) c = none
      rw [upd_ne (Nat.ne_of_lt hlt)]
      exact I2.freeC y c (hsub y c e)
    · exact absurd (show p ∈ ([] : List (Addr × Obj)) from hp) (by simp)
    · exact ⟨Nat.zero_le _, [], 0, .nil, hacc⟩
    · show (none :: none :: σ).length = (x :: y :: N2).length
      rw [List.length_cons, List.length_cons, List.length_cons, List.length_cons, I2.len, hl2]
  have hN' : X'.N.Nodup := hN2
  have hx' : X'.env.scope.names.lookup x = some .local := lookup_relabel_local hx
  have hy' : X'.env.scope.names.lookup y = some .local := lookup_relabel_local hy
  have PE' := hb cl C fp s2 H2
  have PG' : PG X' (.Tuple [.Name x px, .Name y py] kt pt) (gTup X.K 2 (gCons (gName 0) (gCons (gName 1) gNil))) := pg_tup hc (pgs_cons (pg_name (X := X') (i := 0) hN' rfl (.inl hx') (.inr hx')) (pgs_cons (pg_name (X := X') (i := 1) hN' rfl (.inl hy') (.inr hy')) pgs_nil))
  have fpX : ∀ {pins' : List (Addr × Obj)} {H' : Hp}, (∀ b ∈ fp, H' b = none) → (∀ p ∈ pins', p.1 ∉ fp) → ∀ b ∈ fp, FpOk X' pins' H' b := fun hn hp b hb => by
    refine ⟨hn b hb, ?_, nofs b hb, .inl hb, fun y c e => (f2 b hb).2.2.2.2.1 y c (hsub y c e), fun p q z => ?_⟩
    · exact Nat.ne_of_lt (Nat.lt_of_lt_of_le (fplt b hb) (by (clear hp hn hy' hx' I4 nofs fplt turn hHC hHD hDC hC neC hCe hacc hDe old hHa nobinds hW f2 hhas hsub hclos hlo' hfr hs hz2 hl2 hlo hfree hcell hnames hkind hy hx hc; omega) : D ≤ C))
    · rcases List.mem_append.mp q with q | q
      · exact absurd (show p ∈ ([] : List (Addr × Obj)) from q) (by simp)
      · exact hp p q (by rw [z]; exact hb)
  have loop : ∀ tk, codeAny (model X.prog X.w) X.A (.compLoop (.ListComp elt [⟨.Tuple [.Name x px, .Name y py] kt pt, iter, [], 0⟩] sc pos) 0 (.ref it) (.ref D) (compEnvC sc cl C X.env)) (compPost (model X.prog X.w) X.A X.xe none (EP X pins σ Q) (.ref D) C) { s2 with heap := h₁, toks := tk } := fun tk => by
    refine PyProof.Rows.LCp.codeAny_compLoop_pair (fun n s' => ∃ i ys o o' H', Inv X' [] (o :: o' :: σ) H' s' ∧ tn i s'.heap ∧ (∀ b ∈ fp, H' b = none) ∧ W i n ys H') ?_ m0 ⟨0, [], none, none, _, I4 tk, T.keep _ _ _ st2 fun b hb o e => old b o e, fun b hb => ?_, w0⟩
    · rintro n s3 ⟨i, ys, o3, o4, H3, I3, st3, fr3, w3⟩
      obtain ⟨hD3, alt⟩ := turn i n ys H3 w3
      rcases alt with ⟨stop, qn⟩ | ⟨go, hlen, step⟩
      · refine wpAny_mono (T.done X' rfl rfl rfl hc i [] s3 _ H3 (fun _ _ => False) I3 (fpX fr3 (by simp)) st3 stop) (fun r s4 hpq => ?_) fun _ _ f => f.elim
        obtain ⟨hr, I4'⟩ := hpq
        subst hr
        obtain ⟨mC, hnC, _⟩ := I4'.loc
        refine ⟨mC, hnC, fun h' hs' => ?_⟩
        have nC : ∀ b u, H3 b = some u → b ≠ C := fun b u e z => by rw [z] at e; rw [show H3 C = none from I4'.free] at e; cases e
        have hok' : HOk X.prog X.w H3 h' := fun b u e => (I4'.hok b u e).stay (fun c v hcc q => hs'.extBut c v (by
          rcases hcc with z | z
          · rw [z]; exact nC b u e
          · exact nC c _ z) q) (fun _ q => q) fun _ _ q => q
        have un : Un (frs X.stack) fp H2 H3 s2.heap h' :=
          ⟨fun b o e n1 n2 n3 => hs'.extBut b o (neC b o e) (I4'.base.keep b o e n1 n2 n3), fun b o e n1 n2 n3 => by
              obtain ⟨sl, q⟩ := I4'.base.slot b o e n1 n2 n3
              exact ⟨sl, hs'.extBut b _ (neC b o e) q⟩, I4'.base.free, fun b o e n1 => by
              obtain ⟨o', q⟩ := I4'.base.there b o e n1
              exact ⟨o', hs'.extBut b _ (neC b o e) q⟩, I4'.base.tups, I4'.base.frzs, I4'.base.tbls⟩
        exact ⟨.ref D, H3, I2.call' (s' := { s4 with heap := h' }) I4'.os un hok' I4'.bare fun b hb => ⟨(f2 b hb).2.2.2.1, (f2 b hb).2.1, (f2 b hb).2.2.2.2.1, (f2 b hb).2.2.2.2.2⟩, rfl, qn⟩
      · refine wpAny_mono (T.item X' rfl rfl rfl hc i [] s3 _ H3 (fun _ _ => False) I3 (fpX fr3 (by simp)) st3 go) (fun r s4 hpq => ?_) fun _ _ f => f.elim
        obtain ⟨u, hr, h4⟩ := hpq
        subst hr
        refine wpAny_mono h4 (fun _ s5 hpq => ?_) fun _ _ f => f.elim
        obtain ⟨z, H5, I5, r5, y5, st5, fr5⟩ := hpq
        have I5' := I5.pinned (fpX fr5 (by simp)) (T.obj _ _ st5)
        obtain ⟨p, a1, a2, rfl, hp, hte⟩ := step z _ y5
        refine wpAny_mono (PG' _ s5 _ H5 (.ref p) u (fun σ' H' => σ' = some a1 :: some a2 :: σ ∧ H' = H5) I5' r5 ⟨p, _, rfl, hp, rfl, _, _, rfl, _, _, rfl, rfl, rfl, rfl⟩) (fun _ s6 hpq => ?_) fun _ _ f => f.elim
        obtain ⟨σ6, H6, I6, e1, e2⟩ := hpq
        subst e1 e2
        refine wpAny_mono (PE' _ s6 _ _ _ I6 hte) (fun z s8 hpq => ?_) fun _ _ f => f.elim
        obtain ⟨yv, H8, I8, r8, hD8, q8⟩ := hpq
        refine wpAny_mono (mt_append (X := X') _ s8 _ H8 (.ref D) [yv] (.ref D) [z] (fun _ H9 => H9 = upd H8 D (.lst (ys ++ [yv]))) I8 rfl (.cons r8 .nil) ⟨D, ys, yv, rfl, rfl, hD8, hlen, rfl⟩) (fun _ s9 hpq => ?_) fun _ _ f => f.elim
        obtain ⟨_, H9, I9, _, e9⟩ := hpq
        subst e9
        obtain ⟨m', hm, w8⟩ := q8
        refine ⟨m', hm, i + 1, _, some a1, some a2, _, I9.unpinned, T.keep _ _ _ st5 fun b hb o e => (I9.pin (b, o) (List.mem_append_right _ (List.mem_append_right _ (mem_pinsAt hb e)))).1, fun b hb => ?_, w8⟩
        obtain ⟨o, e, d⟩ := T.obj _ _ st5 b hb
        exact (I9.pin (b, o) (List.mem_append_right _ (List.mem_append_right _ (mem_pinsAt hb e)))).2.1
    · show upd H2 D (.lst []) b = none
      rw [upd_ne (Nat.ne_of_lt (fplt b hb))]
      exact (f2 b hb).1
  exact codeAny_compStart_list (loop _) (T.self _ _ _ _ _ (T.keep _ _ _ st2 fun b hb o e => old b o e) (loop _))
end
end L2

namespace L2
open PySem PySem.Spec PyProof.Rows
/-! ## a tuple's iterator, by itself and within enumerate -/
section
variable {prog : Program} {w : World} {A : Around} {E : Value → Shared → Prop} {s : Shared} {it t : Addr} {i : Nat} {items : Array Value}
theorem nextT_item {x : Value} {Q : Value → Shared → Prop} (hit : s.heap.IsTupleIter it t i) (ht : s.heap.IsTuple t items) (hx : items[i]? = some x) (hQ : ∀ h', h'.IsTupleIter it t (i + 1) → Heap.SameBut it s.heap h' → Q x { s with heap := h' }) :
    wpAny (model prog w) A (Builtin.SmallTypes.nextOf (.ref it)) Q E s := by
  obtain ⟨o, ho, hc, hd⟩ := id hit
  obtain ⟨ol, hol, _, nl, hdl⟩ := ht
  unfold Builtin.SmallTypes.nextOf
  refine wpAny_bind (wpAny_callSpecial?_slot (name := Str.ofString "__next__") hit.typeIs F.slot_tuple_iterator_next (wpAny_call_entry F.slot_tuple_iterator_next hit.typeIs F.entry_tuple_iterator_next ?_ (F.args_tuple_iterator_next_1 _)))
  refine wpAny_bind (m := field (.ref it) 0) (wpAny_field ho hd (x := .ref t) rfl (wpAny_ite_false rfl (wpAny_bind (m := field (.ref it) 1) (wpAny_field ho hd (x := .int i 0) rfl (wpAny_bind (m := seqItems? (.ref t)) (wpAny_seqItems hol hdl ?_))))))
  simp only [Int.toNat_natCast, hx]
  refine wpAny_bind (wpAny_setField ho hd (by simp) (wpAny_pure ⟨x, rfl, wpAny_pure (hQ _ ⟨_, Heap.get?_update_self _ ho (Obj.isFreed_of_fields (Obj.data_mapFields hd _)), (Obj.cls_mapFields ..).trans hc, ?_⟩ (Heap.SameBut.update ..))⟩))
  rw [Obj.data_mapFields hd]
  simp [rawInt]
theorem nextT_end {Q : Value → Shared → Prop} (hh : A.handled = none) (hit : s.heap.IsTupleIter it t i) (ht : s.heap.IsTuple t items) (hx : items[i]? = none)
    (hE : ∀ h' e, Heap.ExtBut it s.heap h' → (∃ o, h'.get? e = some o ∧ o.cls = .type "StopIteration") → E (.ref e) { s with heap := h' }) : wpAny (model prog w) A (Builtin.SmallTypes.nextOf (.ref it)) Q E s := by
  obtain ⟨o, ho, hc, hd⟩ := id hit
  obtain ⟨ol, hol, _, nl, hdl⟩ := ht
  unfold Builtin.SmallTypes.nextOf
  refine wpAny_bind (wpAny_callSpecial?_slot (name := Str.ofString "__next__") hit.typeIs F.slot_tuple_iterator_next (wpAny_call_entry F.slot_tuple_iterator_next hit.typeIs F.entry_tuple_iterator_next ?_ (F.args_tuple_iterator_next_1 _)))
  refine wpAny_bind (m := field (.ref it) 0) (wpAny_field ho hd (x := .ref t) rfl (wpAny_ite_false rfl (wpAny_bind (m := field (.ref it) 1) (wpAny_field ho hd (x := .int i 0) rfl (wpAny_bind (m := seqItems? (.ref t)) (wpAny_seqItems hol hdl ?_))))))
  simp only [Int.toNat_natCast, hx]
  refine wpAny_bind (wpAny_rule (wpAny_bind (wpAny_setField ho hd (by simp) (wpAny_bind (m := newExc (.type "StopIteration") []) ?_))))
  simp only [newExc, newTuple]
  refine wpAny_bind (wpAny_newObj_type (wpAny_bind (m := firstArgMember _ _) (wpAny_of_eq (a := Value.none) (by first | rfl | (simp only [firstArgMember]; rfl)) (wpAny_newObj_type ?_ (by size_fits)))) (by size_fits))
  simp only [raiseNew]
  refine wpAny_bind (wpAny_handled ?_)
  first | rw [show A.in1.handled = none from hh] | rw [hh]
  exact wpAny_bind (wpAny_pure (wpAny_throw (hE _ _ (((Heap.SameBut.update ..).extBut.push _).push _) ⟨_, Heap.get?_push_size _ rfl, rfl⟩)))
end
theorem IsTup.keeps {h h' : Heap} {t : Addr} {items : Array Value} (x : h.IsTuple t items) (k : ∀ o, h.get? t = some o → h'.get? t = some o) : h'.IsTuple t items := let ⟨o, e, r⟩ := x; ⟨o, k o e, r⟩
theorem drawsT {prog : Program} {w : World} {A : Around} (hh : A.handled = none) (it t : Addr) (hne : t ≠ it) (items : Array Value) :
    Draws prog w A it [it, t] items.size (fun i v => items[i]? = some v) (fun i h => h.IsTupleIter it t i ∧ h.IsTuple t items) where
  live := fun _ _ st => let ⟨o, ho, _⟩ := st.1; ⟨o, ho⟩
  frame := fun _ _ _ st hk => ⟨st.1.at fun o e => hk it (by simp) o e, IsTup.keeps st.2 fun o e => hk t (by simp) o e⟩
  item := fun i s Q E hi st hQ => nextT_item st.1 st.2 (x := items[i]) (by simp [hi]) fun h' hit' hs' => hQ _ h' s.toks (by simp [hi]) ⟨hit', IsTup.keeps st.2 fun o e => (hs'.2 t hne).trans e⟩ hs'
  done := fun s Q E st hE => nextT_end hh st.1 st.2 (by simp) hE
theorem sub_enum' : isSubtype (.type "enumerate") (.type "enumerate") = pure true := by rw [isSubtype_type]; kernel_rfl
set_option maxHeartbeats 1000000 in
theorem meets_enumT (l : Addr) (items : Array Value) (n : Nat) (dct : Option Addr) (sl : Array (Option Value)) :
    Meets (Builtin.«enumerate.__new__» ⟨[.type "enumerate", .ref l], []⟩) (fun _ R s => s.heap.get? l = some { cls := .type "tuple", dict := dct, data := .seq items n, slots := sl } ∧
      R (.ok (.ret (.ref (s.heap.push { cls := .type "tuple_iterator", data := .fields #[.ref l, .int 0 0] }).objs.size)))
        { s with heap := (s.heap.push { cls := .type "tuple_iterator", data := .fields #[.ref l, .int 0 0] }).push { cls := .type "enumerate", data := .fields #[.none, .bool false, .ref s.heap.objs.size, rawInt 0, .none, .none] } }) :=
  .of_wp fun prog w A R s h => by
    obtain ⟨hp, g, d, tk, os⟩ := s
    obtain ⟨hl, h⟩ := h
    have hsub := sub_enum'
    have hT : hp.IsTuple l items := ⟨_, hl, rfl, n, rfl⟩
    wp_walk using wpAny_pyIter_tuple hT
    refine wpAny_stack_any fun st => wpAny_pure ?_
    split
    · rename_i c _ _ _ _ _
      cases (c == Value.type "enumerate") <;> (wp_walk using wpAny_pyIter_tuple hT; exact ⟨_, rfl, h⟩)
    · wp_walk using wpAny_pyIter_tuple hT
      exact ⟨_, rfl, h⟩
theorem call_enumT {prog : Program} {w : World} {A : Around} {E : Value → Shared → Prop} {s : Shared} {l : Addr} {items : Array Value} {Q : Value → Shared → Prop} (hL : s.heap.IsTuple l items)
    (h : ∀ h', IsEnum h' (s.heap.objs.size + 1) s.heap.objs.size 0 .none → h'.IsTupleIter s.heap.objs.size l 0 → (∀ b o, s.heap.get? b = some o → h'.get? b = some o) → Q (.ref (s.heap.objs.size + 1)) { s with heap := h' }) :
    wpAny (model prog w) A (call (.type "enumerate") [.ref l]) Q E s := by
  obtain ⟨⟨c, dct, dt, sl⟩, hl, hc, n, hd⟩ := hL
  simp only at hc hd
  subst hc hd
  refine callType_new F.called_enumerate (by decide) (F.typeCall_enumerate_1 _) (F.newCall_enumerate_1 _) (fun obj => F.args_object_init_2 obj _) F.entry_enumerate_new (meets_enumT l items n dct sl) ⟨hl, ?_⟩
  generalize hG : s.heap.push { cls := .type "tuple_iterator", data := .fields #[.ref l, .int 0 0] } = G
  have hz : G.objs.size = s.heap.objs.size + 1 := by rw [← hG]; exact Heap.size_push ..
  have he : IsEnum (G.push { cls := .type "enumerate", data := .fields #[.none, .bool false, .ref s.heap.objs.size, rawInt 0, .none, .none] }) (s.heap.objs.size + 1) s.heap.objs.size 0 .none := by
    have q := Heap.get?_push_size G (o := { cls := .type "enumerate", data := .fields #[.none, .bool false, .ref s.heap.objs.size, rawInt 0, .none, .none] }) rfl
    rw [hz] at q
    exact q
  show _ ∧ _
  rw [hz]
  exact ⟨⟨_, he, rfl⟩, h _ he ⟨_, Heap.get?_push_of_some _ (by rw [← hG]; exact Heap.get?_push_size _ rfl), rfl, rfl⟩ fun b o x => Heap.get?_push_of_some _ (by rw [← hG]; exact Heap.get?_push_of_some _ x)⟩
/-! ### enumerate(tuple) -/
def IteT (a : Addr) : It := ⟨fun i H => ∃ xs x, H a = some (.tup xs) ∧ xs[i]? = some x, fun i H v H' => ∃ p x xs, H a = some (.tup xs) ∧ xs[i]? = some x ∧ v = .ref p ∧ H p = none ∧ H' = upd H p (.tup [.int (i : Int), x]), fun i H => ∃ xs, H a = some (.tup xs) ∧ i = xs.length⟩
theorem turn_enumT {P : Program} {w : World} {K : PySem.W.Frag} {es : List Expr} {kt : Nat} {pt : Pos} (a e it : Addr) (hne : e ≠ it) : Turn P w K (.Tuple es kt pt) (IteT a) [e, it] e (fun i h => (∃ old, IsEnum h e it i old) ∧ h.IsTupleIter it a i) where
  mem := by simp
  obj := fun i h ⟨⟨old, he⟩, ⟨o1, e1, _, d1⟩⟩ c hc => by
    simp only [List.mem_cons, List.not_mem_nil, or_false] at hc
    rcases hc with rfl | rfl
    · exact ⟨_, he, fun v q => by cases q⟩
    · exact ⟨o1, e1, fun v q => by rw [d1] at q; cases q⟩
  keep := fun i h h' ⟨⟨old, he⟩, ⟨o1, e1, r1⟩⟩ k => ⟨⟨old, k e (by simp) _ he⟩, ⟨o1, k it (by simp) _ e1, r1⟩⟩
  item := by
    rintro X hP hw hK hc i pins s σ H E I hf ⟨⟨old, he⟩, s1⟩ hg
    subst hP hw hK
    obtain ⟨xs, x, hq, hx⟩ := hg
    obtain ⟨its, rv, p, hz⟩ := I.tuple (SqT.of hq)
    obtain ⟨u, hu, ru⟩ := rv.get hx
    have p' : s.heap.IsTuple a its.toArray := p
    have hlt : i < its.toArray.size := by
      have := (List.getElem?_eq_some_iff.mp hu).1
      simpa using this
    have hat : a ≠ it := by
      obtain ⟨o, e1, c1, _⟩ := p'
      obtain ⟨o2, e2, c2, _⟩ := s1
      rintro rfl
      rw [e1] at e2
      cases e2
      rw [c1] at c2
      exact absurd c2 (by decide)
    have hae : e ≠ a := by
      obtain ⟨o, e1, c1, _⟩ := p'
      rintro rfl
      have he' : s.heap.get? e = some _ := he
      rw [e1] at he'
      cases he'
      exact absurd (show Value.type "enumerate" = Value.type "tuple" from c1) (by decide)
    refine wpAny_pyNext_enum_itemD (drawsT (A := X.A.in1) (I.ok.hd hc) it a hat its.toArray) he ⟨s1, p'⟩ hlt hne (by simp [hne, hae]) fun v g tk pv ho st new hsz gk => ⟨_, rfl, ?_⟩
    have ev : v = u := by
      have : its.toArray[i]? = some v := pv
      rw [List.getElem?_toArray, hu] at this
      exact (Option.some.inj this).symm
    subst ev
    refine wpAny_letOwnedTupleGo_enum (s := { s with heap := g, toks := tk + 1 }) ho fun g' ge gs => ?_
    have up : ∀ b o, b ≠ e → g.get? b = some o → g'.get? b = some o := fun b o hb q => (gs.2 b hb).trans q
    have ne : s.heap.objs.size ≠ e := Nat.ne_of_gt (Heap.lt_size he)
    have tup : ObjOk X.prog X.w (upd H s.heap.objs.size (.tup [.int (i : Int), x])) g' s.heap.objs.size (.tup [.int (i : Int), x]) :=
      ⟨line_ge (by show 2 ≤ 16777216; decide), [.int i tk, v], .cons ⟨_, rfl⟩ (.cons ru .nil), ⟨_, up _ _ ne new, rfl, 0, rfl⟩⟩
    refine ⟨.ref s.heap.objs.size, _, I.turnedNew (S := [e, it]) (h' := g') (t' := tk + 1) (fun b o hb q => up b o (fun z => hb (by simp [z])) (gk b o (fun z => hb (by simp [z])) (fun z => hb (by simp [z])) q)) hf tup, rfl,
      ⟨_, x, xs, hq, hx, rfl, I.hok.fresh (Nat.le_refl _), rfl⟩, ⟨⟨_, by rw [Int.natCast_succ]; exact ge⟩, st.1.at fun o q => up _ o (fun z => hne z.symm) q⟩, fun b hb => ?_⟩
    have lt : b < s.heap.objs.size := by
      obtain ⟨o1, e1, _⟩ := s1
      simp only [List.mem_cons, List.not_mem_nil, or_false] at hb
      rcases hb with rfl | rfl
      · exact Heap.lt_size he
      · exact Heap.lt_size e1
    rw [upd_ne (Nat.ne_of_lt lt)]
    exact (hf b hb).1
  done := by
    rintro X hP hw hK hc i pins s σ H E I hf ⟨⟨old, he⟩, s1⟩ hstop
    subst hP hw hK
    obtain ⟨xs, hq, rfl⟩ := hstop
    obtain ⟨its, rv, p, hz⟩ := I.tuple (SqT.of hq)
    have p' : s.heap.IsTuple a its.toArray := p
    have hat : a ≠ it := by
      obtain ⟨o, e1, c1, _⟩ := p'
      obtain ⟨o2, e2, c2, _⟩ := s1
      rintro rfl
      rw [e1] at e2
      cases e2
      rw [c1] at c2
      exact absurd c2 (by decide)
    have hsz : xs.length = its.toArray.size := by rw [rv.length]; simp
    refine wpAny_pyNext_enum_endD (drawsT (A := X.A.in1) (I.ok.hd hc) it a hat its.toArray) he ⟨by rw [← hsz]; exact s1, p'⟩ fun g gs => ⟨rfl, ?_⟩
    exact I.turnedL (S := [e, it]) (fun b o hb q => gs b o (fun z => hb (by simp [z])) q) hf
  self := fun _ _ _ _ _ st h => by
    obtain ⟨⟨old, he⟩, _⟩ := st
    exact wpAny_pyIter_enum he h
def iEnumT (t : TA) : TI := fun σ H R => t σ H fun vs H1 => ∃ a xs, vs = [.ref a] ∧ H1 a = some (.tup xs) ∧ R (IteT a) H1
theorem pi_enumT {X : Cx} {es : List Expr} {kt : Nat} {pt : Pos} {a : Expr} {ta : TA} {p pos : Pos} (hg : Gl X "enumerate") (hm : X.mg "enumerate" = none) (ha : PA X [a] ta) (hs : starEach [a] X.env = (false, eval a X.env) :: starEach [] X.env := by rfl)
    (hpl : (backTo pos (starEach [] X.env)).any (·.1) = false := by rfl) : PI X (.Tuple es kt pt) (.Call (.Name "enumerate" p) [a] [] pos) (iEnumT ta) := by
  intro pins s σ H R I h
  refine wpAny_Call_Name_kw (ld_blt I hg hm PyProof.Rows.boot_enumerate (PyProof.Rows.callWith_type1 (thn (ha pos pins s σ H _ I h) fun us s1 z => ?_) hs hpl))
  obtain ⟨vs, H1, I1, r1, b, xs, rfl, hq, q⟩ := z
  obtain ⟨u1, rfl, r2⟩ := vals1 r1
  cases r2
  obtain ⟨its, rv, pp, hz⟩ := I1.tuple (SqT.of hq)
  refine call_enumT (show s1.heap.IsTuple b its.toArray from pp) fun g ge gi gk => wpAny_pyIter_enum (s := { s1 with heap := g }) ge ?_
  refine ⟨_, [s1.heap.objs.size + 1, s1.heap.objs.size], _, IteT b, H1, rfl, I1.kept (t' := s1.toks) gk, turn_enumT b _ _ (neA (by (clear gk hz hq hpl hs hm; omega))), ⟨⟨_, ge⟩, gi⟩, fun c hc => ?_, q⟩
  have hge : s1.heap.objs.size ≤ c := by
    simp only [List.mem_cons, List.not_mem_nil, or_false] at hc
    rcases hc with rfl | rfl
    · exact Nat.le_add_right _ _
    · exact Nat.le_refl _
  exact I1.fpOk hge (I1.hok.fresh hge)
end L2

namespace L2
open PySem PySem.Spec PyProof.Rows
/-! ## zip over two tuples -/
namespace ZP
section
variable {prog : Program} {w : World} {A : Around} {E : Value → Shared → Prop} {s : Shared} {z TI TO i1 i2 : Addr} {f1 f2 : List Addr} {n1 n2 k : Nat} {P1 P2 : Nat → Value → Prop} {S1 S2 : Nat → Heap → Prop} {a b : Value}
/-- the object that walks a tuple -/
def tupIt (a : Addr) : Obj := { cls := .type "tuple_iterator", data := .fields #[.ref a, .int 0 0] }
theorem iter_tup {a : Addr} {items : Array Value} {Q : Value → Shared → Prop} (ht : s.heap.IsTuple a items) (h : Q (.ref s.heap.objs.size) { s with heap := s.heap.push (tupIt a) }) : wpAny (model prog w) A (pyIter (.ref a)) Q E s := wpAny_pyIter_tuple ht h
def madeT (h : Heap) (x y : Addr) : Heap :=
  ((((h.push (tupIt x)).push (tupIt y)).push { cls := .type "tuple", data := .seq #[.ref h.objs.size, .ref (h.objs.size + 1)] }).push { cls := .type "tuple", data := .seq #[.none, .none] }).push
    { cls := .type "zip", data := .fields #[.none, .bool false, .bool false, .ref (h.objs.size + 2), .ref (h.objs.size + 3)] }
theorem meetsT (x y : Addr) (xs ys : Array Value) : Meets (Builtin.«zip.__new__» ⟨[.type "zip", .ref x, .ref y], []⟩) (fun _ R s => s.heap.IsTuple x xs ∧ s.heap.IsTuple y ys ∧ R (.ok (.ret (.ref (s.heap.objs.size + 4)))) { s with heap := madeT s.heap x y }) :=
  .of_wp fun prog w A R s h => by
    obtain ⟨hp, g, d, tk, os⟩ := s
    obtain ⟨hx, hy, h⟩ := h
    have hsub := sub_zip
    have hx : hp.IsTuple x xs := hx
    have hy : (hp.push (tupIt x)).IsTuple y ys := IsTup.keeps hy fun o e => Heap.get?_push_of_some _ e
    wp_walk using iter_tup hx, iter_tup hy
    refine ⟨_, rfl, ?_⟩
    simp only [madeT] at h
    simpa [Heap.size_push, Builtin.SmallTypes.ownedTupleFields, Nat.add_assoc] using h
theorem call_tups {x y : Addr} {xs ys : Array Value} {Q : Value → Shared → Prop} (hx : s.heap.IsTuple x xs) (hy : s.heap.IsTuple y ys)
    (h : ∀ h', IsZip h' (s.heap.objs.size + 4) (s.heap.objs.size + 2) (s.heap.objs.size + 3) .none → IsPair h' (s.heap.objs.size + 2) (.ref s.heap.objs.size) (.ref (s.heap.objs.size + 1)) → IsPair h' (s.heap.objs.size + 3) .none .none →
      h'.get? s.heap.objs.size = some (tupIt x) → h'.get? (s.heap.objs.size + 1) = some (tupIt y) → (∀ c o, s.heap.get? c = some o → h'.get? c = some o) → Q (.ref (s.heap.objs.size + 4)) { s with heap := h' }) :
    wpAny (model prog w) A (call (.type "zip") [.ref x, .ref y]) Q E s := by
  refine callType_new F.called_zip (by decide) (F.typeCall_zip_2 _ _) (F.newCall_zip_2 _ _) (fun obj => F.args_object_init_3 obj _ _) F.entry_zip_new (meetsT x y xs ys) ⟨hx, hy, ?_⟩
  have at1 : ∀ (g : Heap) (o : Obj) (n : Nat), g.objs.size = n → o.isFreed = false → (g.push o).get? n = some o := fun g o n e f => by rw [← e]; exact Heap.get?_push_size g f
  have z5 : IsZip (madeT s.heap x y) (s.heap.objs.size + 4) (s.heap.objs.size + 2) (s.heap.objs.size + 3) .none := at1 _ _ _ (by simp [Heap.size_push]) rfl
  exact ⟨⟨_, z5, rfl⟩, h _ z5 (Heap.get?_push_of_some _ (Heap.get?_push_of_some _ (at1 _ _ _ (by simp [Heap.size_push]) rfl))) (Heap.get?_push_of_some _ (at1 _ _ _ (by simp [Heap.size_push]) rfl))
    (Heap.get?_push_of_some _ (Heap.get?_push_of_some _ (Heap.get?_push_of_some _ (Heap.get?_push_of_some _ (at1 _ _ _ rfl rfl))))) (Heap.get?_push_of_some _ (Heap.get?_push_of_some _ (Heap.get?_push_of_some _ (at1 _ _ _ (by simp [Heap.size_push]) rfl))))
    fun c o e => Heap.get?_push_of_some _ (Heap.get?_push_of_some _ (Heap.get?_push_of_some _ (Heap.get?_push_of_some _ (Heap.get?_push_of_some _ e))))⟩
end
end ZP
/-- two tuples side by side -/
def Itzt (x y : Addr) : It := ⟨fun i H => ∃ xs ys a b, H x = some (.tup xs) ∧ H y = some (.tup ys) ∧ xs[i]? = some a ∧ ys[i]? = some b, fun i H v H' => ∃ p xs ys a b, H x = some (.tup xs) ∧ H y = some (.tup ys) ∧ xs[i]? = some a ∧ ys[i]? = some b ∧ v = .ref p ∧ H p = none ∧ H' = upd H p (.tup [a, b]),
  fun i H => ∃ xs ys, H x = some (.tup xs) ∧ H y = some (.tup ys) ∧ xs.length = ys.length ∧ i = xs.length⟩
theorem tup_ne {h : Heap} {a it l : Addr} {i : Nat} {its : Array Value} (p : h.IsTuple a its) (s1 : h.IsTupleIter it l i) : a ≠ it := by
  obtain ⟨o, e1, c1, _⟩ := p
  obtain ⟨o2, e2, c2, _⟩ := s1
  rintro rfl
  rw [e1] at e2
  cases e2
  rw [c1] at c2
  exact absurd c2 (by decide)
theorem turn_zipT {P : Program} {w : World} {K : PySem.W.Frag} {es : List Expr} {kt : Nat} {pt : Pos} (x y : Addr) (z TI TO i1 i2 : Addr) (ap : ZipApart z TI TO i1 i2 TI TI) :
    Turn P w K (.Tuple es kt pt) (Itzt x y) [z, TI, TO, i1, i2] z (fun i h => IsZip h z TI TO .none ∧ IsPair h TI (.ref i1) (.ref i2) ∧ (∃ a b, IsPair h TO a b) ∧ h.IsTupleIter i1 x i ∧ h.IsTupleIter i2 y i) where
  mem := by simp
  obj := fun i h ⟨hz, hTI, ⟨a, b, hTO⟩, ⟨o1, e1, _, d1⟩, ⟨o2, e2, _, d2⟩⟩ c hc => by
    simp only [List.mem_cons, List.not_mem_nil, or_false] at hc
    rcases hc with rfl | rfl | rfl | rfl | rfl
    · exact ⟨_, hz, fun v q => by cases q⟩
    · exact ⟨_, hTI, fun v q => by cases q⟩
    · exact ⟨_, hTO, fun v q => by cases q⟩
    · exact ⟨o1, e1, fun v q => by rw [d1] at q; cases q⟩
    · exact ⟨o2, e2, fun v q => by rw [d2] at q; cases q⟩
  keep := fun i h h' ⟨hz, hTI, ⟨a, b, hTO⟩, ⟨o1, e1, r1⟩, ⟨o2, e2, r2⟩⟩ k =>
    ⟨k z (by simp) _ hz, k TI (by simp) _ hTI, ⟨a, b, k TO (by simp) _ hTO⟩, ⟨o1, k i1 (by simp) _ e1, r1⟩, ⟨o2, k i2 (by simp) _ e2, r2⟩⟩
  item := by
    rintro X hP hw hK hc i pins s σ H E I hf ⟨hz, hTI, ⟨a, b, hTO⟩, s1, s2⟩ ⟨xs, ys, va, vb, hqx, hqy, hxa, hyb⟩
    subst hP hw hK
    obtain ⟨itx, rvx, px, _⟩ := I.tuple (SqT.of hqx)
    obtain ⟨ity, rvy, py, _⟩ := I.tuple (SqT.of hqy)
    have px' : s.heap.IsTuple x itx.toArray := px
    have py' : s.heap.IsTuple y ity.toArray := py
    obtain ⟨ua, hua, ra⟩ := rvx.get hxa
    obtain ⟨ub, hub, rb⟩ := rvy.get hyb
    have l1 : i < itx.toArray.size := by have := (List.getElem?_eq_some_iff.mp hua).1; simpa using this
    have l2 : i < ity.toArray.size := by have := (List.getElem?_eq_some_iff.mp hub).1; simpa using this
    have offx : x ∉ [z, TO, i1, i2] := fun hm => by
      have : x ∈ [z, TI, TO, i1, i2] := by simp at hm ⊢; rcases hm with q | q | q | q <;> simp [q]
      rw [(hf x this).1] at hqx
      cases hqx
    have offy : y ∉ [z, TO, i1, i2] := fun hm => by
      have : y ∈ [z, TI, TO, i1, i2] := by simp at hm ⊢; rcases hm with q | q | q | q <;> simp [q]
      rw [(hf y this).1] at hqy
      cases hqy
    have hT : s.TypeIs (.ref z) "zip" := ⟨_, hz, rfl⟩
    unfold pyNext
    refine wpAny_bind (wpAny_attempt (wpAny_callSpecial?_slot (name := Str.ofString "__next__") hT F.slot_zip_next (wpAny_call_entry F.slot_zip_next hT F.entry_zip_next (ZP.toldL (drawsT (A := X.A.in1) (I.ok.hd hc) i1 x (tup_ne px' s1) itx.toArray) (drawsT (A := X.A.in1) (I.ok.hd hc) i2 y (tup_ne py' s2) ity.toArray)
      (fun c hc => by simp only [List.mem_cons, List.not_mem_nil, or_false] at hc; rcases hc with rfl | rfl; exact .inl rfl; exact .inr offx) (fun c hc => by simp only [List.mem_cons, List.not_mem_nil, or_false] at hc; rcases hc with rfl | rfl; exact .inl rfl; exact .inr offy)
      ap hz hTI hTO ⟨s1, px'⟩ ⟨s2, py'⟩ l1 l2 fun v1 v2 g tk p1 p2 gz gTI gTO g1 g2 new gk => wpAny_pure ⟨_, rfl, ?_⟩) (F.args_zip_next_1 _))))
    have ev1 : v1 = ua := by
      have : itx.toArray[i]? = some v1 := p1
      rw [List.getElem?_toArray, hua] at this
      exact (Option.some.inj this).symm
    have ev2 : v2 = ub := by
      have : ity.toArray[i]? = some v2 := p2
      rw [List.getElem?_toArray, hub] at this
      exact (Option.some.inj this).symm
    subst ev1 ev2
    refine wpAny_letOwnedTupleGo_zip (s := { s with heap := g, toks := tk }) gz fun g' gz' gs => ?_
    have up : ∀ b o, b ≠ z → g.get? b = some o → g'.get? b = some o := fun b o hb e => (gs.2 b hb).trans e
    have nz : s.heap.objs.size ≠ z := Nat.ne_of_gt (Heap.lt_size hz)
    have tup : ObjOk X.prog X.w (upd H s.heap.objs.size (.tup [va, vb])) g' s.heap.objs.size (.tup [va, vb]) :=
      ⟨line_ge (by show 2 ≤ 16777216; decide), [v1, v2], .cons ra (.cons rb .nil), ⟨_, up _ _ nz new, rfl, 0, rfl⟩⟩
    refine ⟨.ref s.heap.objs.size, _, I.turnedNew (S := [z, TO, i1, i2]) (h' := g') (t' := tk) (fun b o hb e => up b o (fun q => hb (by simp [q])) (gk b o hb e)) (fun b hb => hf b (by simp at hb ⊢; rcases hb with q | q | q | q <;> simp [q])) tup, rfl,
      ⟨_, xs, ys, va, vb, hqx, hqy, hxa, hyb, rfl, I.hok.fresh (Nat.le_refl _), rfl⟩, ⟨gz', up _ _ ap.TIz gTI, ⟨_, _, up _ _ ap.TOz gTO⟩, g1.1.at fun o e => up _ o ap.i1z e, g2.1.at fun o e => up _ o ap.i2z e⟩, fun b hb => ?_⟩
    have lt : b < s.heap.objs.size := by
      obtain ⟨o1, e1, _⟩ := s1
      obtain ⟨o2, e2, _⟩ := s2
      simp only [List.mem_cons, List.not_mem_nil, or_false] at hb
      rcases hb with rfl | rfl | rfl | rfl | rfl
      · exact Heap.lt_size hz
      · exact Heap.lt_size hTI
      · exact Heap.lt_size hTO
      · exact Heap.lt_size e1
      · exact Heap.lt_size e2
    rw [upd_ne (Nat.ne_of_lt lt)]
    exact (hf b hb).1
  done := by
    rintro X hP hw hK hc i pins s σ H E I hf ⟨hz, hTI, ⟨a, b, hTO⟩, s1, s2⟩ ⟨xs, ys, hqx, hqy, hl, hi⟩
    subst hP hw hK
    obtain ⟨itx, rvx, px, _⟩ := I.tuple (SqT.of hqx)
    obtain ⟨ity, rvy, py, _⟩ := I.tuple (SqT.of hqy)
    have px' : s.heap.IsTuple x itx.toArray := px
    have py' : s.heap.IsTuple y ity.toArray := py
    have offx : x ∉ [z, TO, i1, i2] := fun hm => by
      have : x ∈ [z, TI, TO, i1, i2] := by simp at hm ⊢; rcases hm with q | q | q | q <;> simp [q]
      rw [(hf x this).1] at hqx
      cases hqx
    have offy : y ∉ [z, TO, i1, i2] := fun hm => by
      have : y ∈ [z, TI, TO, i1, i2] := by simp at hm ⊢; rcases hm with q | q | q | q <;> simp [q]
      rw [(hf y this).1] at hqy
      cases hqy
    have hT : s.TypeIs (.ref z) "zip" := ⟨_, hz, rfl⟩
    unfold pyNext
    refine wpAny_bind (wpAny_attempt (wpAny_callSpecial?_slot (name := Str.ofString "__next__") hT F.slot_zip_next (wpAny_call_entry F.slot_zip_next hT F.entry_zip_next (ZP.endedL (drawsT (A := X.A.in1) (I.ok.hd hc) i1 x (tup_ne px' s1) itx.toArray) (drawsT (A := X.A.in1) (I.ok.hd hc) i2 y (tup_ne py' s2) ity.toArray)
      (fun c hc => by simp only [List.mem_cons, List.not_mem_nil, or_false] at hc; rcases hc with rfl | rfl; exact .inl rfl; exact .inr offx) (fun c hc => by simp only [List.mem_cons, List.not_mem_nil, or_false] at hc; rcases hc with rfl | rfl; exact .inl rfl; exact .inr offy)
      ap hz hTI hTO ⟨s1, px'⟩ ⟨s2, py'⟩ (.inl (by rw [hi, rvx.length]; simp)) fun g e tk gk he => ?_) (F.args_zip_next_1 _))))
    obtain ⟨o, ho, hcl⟩ := he
    refine wpAny_bind (wpAny_isInstance (s := { s with heap := g, toks := tk }) (T := "StopIteration") (b := true) ⟨o, ho, hcl⟩ isSubtype_stop (wpAny_pure ⟨rfl, ?_⟩))
    exact I.turnedL (S := [z, TO, i1, i2]) (fun b o hb e => gk b o hb e) fun b hb => hf b (by simp at hb ⊢; rcases hb with q | q | q | q <;> simp [q])
  self := fun _ _ _ _ _ st h => wpAny_pyIter_zip st.1 h
def iZipT (t : TA) : TI := fun σ H R => t σ H fun vs H1 => ∃ x y xs ys, vs = [.ref x, .ref y] ∧ H1 x = some (.tup xs) ∧ H1 y = some (.tup ys) ∧ R (Itzt x y) H1
theorem pi_zipT {X : Cx} {es : List Expr} {kt : Nat} {pt : Pos} {a b : Expr} {ta : TA} {p pos : Pos} (hg : Gl X "zip") (hm : X.mg "zip" = none) (ha : PA X [a, b] ta) (hs : starEach [a, b] X.env = (false, eval a X.env) :: starEach [b] X.env := by rfl)
    (hpl : (backTo pos (starEach [b] X.env)).any (·.1) = false := by rfl) : PI X (.Tuple es kt pt) (.Call (.Name "zip" p) [a, b] [] pos) (iZipT ta) := by
  intro pins s σ H R I h
  refine wpAny_Call_Name_kw (ld_blt I hg hm PyProof.Rows.boot_zip (PyProof.Rows.callWith_type1 (thn (ha pos pins s σ H _ I h) fun us s1 ⟨vs, H1, I1, r1, x, y, xs, ys, ev, hqx, hqy, q⟩ => ?_) hs hpl))
  subst ev
  obtain ⟨u1, u2, rfl, e1, e2⟩ := vals2 r1
  cases e1
  cases e2
  obtain ⟨itx, rvx, px, _⟩ := I1.tuple (SqT.of hqx)
  obtain ⟨ity, rvy, py, _⟩ := I1.tuple (SqT.of hqy)
  refine ZP.call_tups (show s1.heap.IsTuple x itx.toArray from px) (show s1.heap.IsTuple y ity.toArray from py) fun g gz gTI gTO g1 g2 gk => wpAny_pyIter_zip (s := { s1 with heap := g }) gz ?_
  have ap : ZipApart (s1.heap.objs.size + 4) (s1.heap.objs.size + 2) (s1.heap.objs.size + 3) s1.heap.objs.size (s1.heap.objs.size + 1) (s1.heap.objs.size + 2) (s1.heap.objs.size + 2) := by
    constructor <;> exact neA (by (clear gk g2 g1 hqy hqx hpl hs hm; omega))
  refine ⟨_, [s1.heap.objs.size + 4, s1.heap.objs.size + 2, s1.heap.objs.size + 3, s1.heap.objs.size, s1.heap.objs.size + 1], _, Itzt x y, H1, rfl, I1.kept (t' := s1.toks) gk, turn_zipT x y _ _ _ _ _ ap,
    ⟨gz, gTI, ⟨_, _, gTO⟩, ⟨_, g1, rfl, rfl⟩, ⟨_, g2, rfl, rfl⟩⟩, fun c hc => ?_, q⟩
  have hge : s1.heap.objs.size ≤ c := by
    simp only [List.mem_cons, List.not_mem_nil, or_false] at hc
    rcases hc with rfl | rfl | rfl | rfl | rfl
    · exact Nat.le_add_right _ _
    · exact Nat.le_add_right _ _
    · exact Nat.le_add_right _ _
    · exact Nat.le_refl _
    · exact Nat.le_add_right _ _
  exact I1.fpOk hge (I1.hok.fresh hge)
end L2

namespace L2
open PySem PySem.Spec PyProof.Rows
/-! ## max of a list of ints; the place of a truth; two lists of ints alike; a list from behind -/
theorem ints_are : ∀ {ns : List Int} {us : List Value}, Vals (ns.map V.int) us → IntsAre us ns
  | [], _, r => by rw [List.map_nil] at r; cases r; exact .nil
  | n :: ns, _, r => by
    rw [List.map_cons] at r
    cases r with
    | cons h t =>
      obtain ⟨u, rfl⟩ := (show ∃ t, _ = Value.int n t from h)
      exact .cons n u (ints_are t)
section
variable {X : Cx}
theorem call_maxL (hc : X.calm = true) : CallR X (.builtin "max") (fun xs H Q => ∃ (a : Addr) (ns : List Int), xs = [V.ref a] ∧ H a = some (.lst (ns.map V.int)) ∧ 0 < ns.length ∧ ∀ M ∈ ns, Q (.int M) H) := by
  intro pins s σ H xs us Q I r h
  obtain ⟨a, ns, rfl, ha, hn, q⟩ := h
  obtain ⟨u1, rfl, r1⟩ := vals1 r
  cases r1
  obtain ⟨its, rv, p, hz⟩ := I.list (SqL.of ha)
  have hi := ints_are rv
  have hl : s.heap.IsList a its.toArray := p.isList
  obtain ⟨xs, e⟩ := hi.allInts.items
  have hns : ns = xs.toList.map (·.1) := by rw [← hi.numsOf, ← nums_intItems, ← e]
  have hsz : 0 < xs.size := by
    rw [hns, List.length_map, Array.length_toList] at hn
    exact hn
  rw [e] at hl
  refine max_intList (I.ok.hd hc) hl hsz fun v h' tk hv hk => ?_
  obtain ⟨t, rfl⟩ := intItems_at hv
  obtain ⟨h1, _⟩ := argBest_gt (numAt xs) (xs.size - 1)
  refine ⟨.int _, H, I.kept hk, ⟨t, rfl⟩, q _ ?_⟩
  rw [hns, numAt_eq]
  exact PySem.getD_mem (by rw [List.length_map, Array.length_toList]; (clear hv hk hns e hz q hn ha hc; omega))
/-- bs.index(False) -/
def rIndexB : V → List V → Hp → VK → Prop := fun x vs H Q => ∃ (l : Addr) (bs : List Bool), x = .ref l ∧ vs = [.bl false] ∧ H l = some (.lst (bs.map V.bl)) ∧ false ∈ bs ∧ Q (.int (bs.idxOf false : Nat)) H
theorem mt_indexB : MtM X "list.index" rIndexB := by
  intro pins s σ H x vs v us Q I rx rv h
  obtain ⟨l, bs, rfl, rfl, hH, hm, q⟩ := h
  cases rx
  obtain ⟨u, rfl, ru⟩ := rv.one
  cases ru
  obtain ⟨z, its, n, r, hl, e⟩ := I.lstM hH
  have hlen : its.length = bs.length := by rw [← r.length, List.length_map]
  have hlt : bs.idxOf false < bs.length := List.idxOf_lt_length_of_mem hm
  have at_ : ∀ (j : Nat) (hj : j < its.toArray.size), ∃ hb : j < bs.length, its.toArray[j] = .bool bs[j] := fun j hj => by
    have hb : j < bs.length := by simpa [hlen] using hj
    refine ⟨hb, ?_⟩
    obtain ⟨a, ea, ra⟩ := r.get (i := j) (x := .bl bs[j]) (by rw [List.getElem?_map, List.getElem?_eq_getElem hb]; rfl)
    cases ra
    obtain ⟨_, q⟩ := List.getElem?_eq_some_iff.mp ea
    simpa using q
  have hsm : ((bs.idxOf false : Nat) : Int) < 2 ^ 63 - 1 := by
    have h9 : (bs.map V.bl).length ≤ sizeLine := (I.lst hH).choose_spec.choose_spec.2.2
    rw [List.length_map, sizeLine_eq] at h9
    (clear at_ e z hH; omega)
  refine call_meets F.slot_list_index ⟨_, e, rfl⟩ F.entry_list_index (F.args_list_index_2 _ _) (SeqAt.list_indexAt l its.toArray n none #[] (.bool false) (fun y => match y with | .bool b => b == false | _ => false) (bs.idxOf false) (by simpa [hlen] using hlt) hsm ?_ ?_) ⟨e, ?_, ⟨.int _, H, I.tok _, ⟨_, rfl⟩, q⟩⟩
  · obtain ⟨hb, e1⟩ := at_ (bs.idxOf false) (by simpa [hlen] using hlt)
    rw [e1]
    have := List.getElem_idxOf hb
    rw [this]
    rfl
  · intro m hm2 hlt2
    obtain ⟨hb, e1⟩ := at_ m hm2
    rw [e1]
    show (bs[m] == false) = false
    cases hbm : bs[m] with
    | true => rfl
    | false =>
      have := RA.idxOf_leG (l := bs) (c := false) (i := m) (by rw [List.getElem?_eq_getElem hb, hbm])
      (clear hbm e1 hb hm2 hsm at_ hlt hlen e hl z hH; omega)
  · intro y hy
    obtain ⟨j, hj, rfl⟩ := Array.mem_iff_getElem.mp hy
    obtain ⟨hb, e1⟩ := at_ j hj
    rw [e1]
    exact SeqAt.EqAt.bool_bool _ _
/-- two lists of ints -/
def rEqI (K : PySem.W.Frag) : R2 := fun x y H Q => ∃ (p q : Addr) (xs ys : List Int), x = .ref p ∧ y = .ref q ∧ H p = some (.lst (xs.map V.int)) ∧ H q = some (.lst (ys.map V.int)) ∧ xs.length = ys.length ∧ Q (.bl (decide (xs = ys))) H
theorem op_eqI (hu : X.A.units < cLine) : OpR X (compareOp .Eq) (rEqI X.K) := by
  intro pins s σ H x y v u Q I rx ry h
  obtain ⟨p, q, xs, ys, rfl, rfl, hp, hq, hl, k⟩ := h
  cases rx
  cases ry
  obtain ⟨its, r1, pl1, hz1⟩ := I.list (SqL.of hp)
  obtain ⟨its2, r2, pl2, hz2⟩ := I.list (SqL.of hq)
  have l1 := r1.length
  have l2 := r2.length
  rw [List.length_map] at l1 l2
  refine SeqAt.eq_listAt (e := fun j => decide (xs.getD j 0 = ys.getD j 0)) pl1.isList pl2.isList (by simp; (clear hz2 hz1 hq hp hu; omega)) hu (fun j h1 h2 => ?_) ⟨.bl _, H, I, rfl, ?_⟩
  · have hj : j < xs.length := by simp at h1; (clear h2 hz2 hz1 hq hp hu; omega)
    have hj2 : j < ys.length := by (clear h2 h1 hz2 hz1 hq hp hu; omega)
    obtain ⟨a, ea, ra⟩ := r1.get (i := j) (x := .int xs[j]) (by rw [List.getElem?_map, List.getElem?_eq_getElem hj]; rfl)
    obtain ⟨b, eb, rb⟩ := r2.get (i := j) (x := .int ys[j]) (by rw [List.getElem?_map, List.getElem?_eq_getElem hj2]; rfl)
    obtain ⟨t, rfl⟩ := ra
    obtain ⟨t', rfl⟩ := rb
    have e1 : its.toArray[j] = .int xs[j] t := by
      obtain ⟨_, e⟩ := List.getElem?_eq_some_iff.mp ea
      simpa using e
    have e2 : its2.toArray[j] = .int ys[j] t' := by
      obtain ⟨_, e⟩ := List.getElem?_eq_some_iff.mp eb
      simpa using e
    rw [e1, e2]
    have e3 : decide (xs.getD j 0 = ys.getD j 0) = (xs[j] == ys[j]) := by
      rw [List.getD_eq_getElem?_getD, List.getD_eq_getElem?_getD, List.getElem?_eq_getElem hj, List.getElem?_eq_getElem hj2]
      by_cases z : xs[j] = ys[j] <;> simp [z]
    show SeqAt.EqAt _ _ _ _ (decide (xs.getD j 0 = ys.getD j 0))
    rw [e3]
    exact SeqAt.EqAt.int_int _ t _ t'
  · have e : ((List.range its.toArray.size).all fun j => decide (xs.getD j 0 = ys.getD j 0)) = decide (xs = ys) := by
      have hs : its.toArray.size = xs.length := by simp; (clear l2 hz2 hz1 hq hp hu; omega)
      rw [hs]
      by_cases z : xs = ys
      · subst z
        simp
      · rw [decide_eq_false z, Bool.eq_false_iff]
        intro all
        refine z (List.ext_getElem? fun i => ?_)
        rw [List.all_eq_true] at all
        by_cases hi : i < xs.length
        · have := of_decide_eq_true (all i (List.mem_range.mpr hi))
          rw [List.getD_eq_getElem?_getD, List.getD_eq_getElem?_getD, List.getElem?_eq_getElem hi, List.getElem?_eq_getElem (by (clear this all z hz2 hz1 hq hp hu; omega))] at this
          rw [List.getElem?_eq_getElem hi, List.getElem?_eq_getElem (by (clear this all z hz2 hz1 hq hp hu; omega))]
          exact congrArg some this
        · rw [List.getElem?_eq_none (by (clear all z hz2 hz1 hq hp hu; omega)), List.getElem?_eq_none (by (clear all z hz2 hz1 hq hp hu; omega))]
    rw [e]
    exact k
end
/-! ### reversed(list) -/
def Itv (a : Addr) (n : Nat) : It := ⟨fun i H => ∃ xs, H a = some (.lst xs) ∧ xs.length = n ∧ i < n, fun i H v H' => H' = H ∧ ∃ xs, H a = some (.lst xs) ∧ xs[n - 1 - i]? = some v, fun i _ => i = n⟩
theorem turn_rev {P : Program} {w : World} {K : PySem.W.Frag} {tg : Expr} (a it : Addr) (n : Nat) : Turn P w K tg (Itv a n) [it] it (fun i h => h.IsRevIter it a ((n : Int) - 1 - (i : Int))) where
  mem := by simp
  obj := fun i h st b hb => by
    have e : b = it := by simpa using hb
    subst e
    obtain ⟨o, e, c, d⟩ := st
    exact ⟨o, e, fun v z => by rw [d] at z; cases z⟩
  keep := fun i h h' st k => st.at fun o e => k it (by simp) o e
  item := by
    intro X hP hw hK hc i pins s σ H E I hf st hg
    subst hP hw hK
    obtain ⟨xs, hq, hl, hi⟩ := hg
    have e0 : (n : Int) - 1 - (i : Int) = ((n - 1 - i : Nat) : Int) := by (clear hl hq hf hc; omega)
    rw [e0] at st
    have hx : xs[n - 1 - i]? = some (xs[n - 1 - i]'(by (clear hi hq hf hc; omega))) := List.getElem?_eq_getElem _
    obtain ⟨its, rv, p, hz⟩ := I.list (SqL.of hq)
    obtain ⟨u, hu, ru⟩ := rv.get hx
    obtain ⟨f0, f1, f2, f3, f4, f5⟩ := hf it (by simp)
    refine wpAny_pyNext_rev_item st p.isList (x := u) (by simpa using hu) fun h' st' sb => ?_
    have I1 : Inv X pins σ H { s with heap := h' } := I.turned (t' := s.toks) (fun b o hb e => (sb.2 b hb).trans e) f0 f1 f3 f4 f5
    have e2 : ((n - 1 - i : Nat) : Int) - 1 = (n : Int) - 1 - ((i + 1 : Nat) : Int) := by (clear f5 f4 f3 f2 f1 f0 hu hz hx hi hq hf hc; omega)
    rw [e2] at st'
    obtain ⟨o, ho, hcl, hd⟩ := id st'
    refine ⟨u, rfl, go_of (s := { s with heap := h' }) ho hcl hd (by decide) ⟨_, H, I1, ru, ⟨rfl, xs, hq, hx⟩, st', fun b hb => ?_⟩⟩
    have e : b = it := by simpa using hb
    subst e
    exact f0
  done := by
    intro X hP hw hK hc i pins s σ H E I hf st hg
    subst hP hw hK
    have hg : i = n := hg
    have e0 : (n : Int) - 1 - (i : Int) = -1 := by (clear hf hc; omega)
    rw [e0] at st
    obtain ⟨f0, f1, f2, f3, f4, f5⟩ := hf it (by simp)
    exact wpAny_pyNext_rev_end (I.ok.hd hc) st fun h' sb => ⟨rfl, I.turned (t' := s.toks) (fun b o hb e => sb b o hb e) f0 f1 f3 f4 f5⟩
  self := fun _ _ _ _ _ st h => wpAny_pyIter_revIter st h
def iRev (t : TA) : TI := fun σ H R => t σ H fun vs H1 => ∃ a xs, vs = [.ref a] ∧ H1 a = some (.lst xs) ∧ R (Itv a xs.length) H1
theorem pi_rev {X : Cx} {tg a : Expr} {ta : TA} {p pos : Pos} (hg : Gl X "reversed") (hm : X.mg "reversed" = none) (ha : PA X [a] ta) (hs : starEach [a] X.env = (false, eval a X.env) :: starEach [] X.env := by rfl)
    (hpl : (backTo pos (starEach [] X.env)).any (·.1) = false := by rfl) : PI X tg (.Call (.Name "reversed" p) [a] [] pos) (iRev ta) := by
  intro pins s σ H R I h
  refine wpAny_Call_Name_kw (ld_blt I hg hm PyProof.Rows.boot_reversed (PyProof.Rows.callWith_type1 (thn (ha pos pins s σ H _ I h) fun us s1 z => ?_) hs hpl))
  obtain ⟨vs, H1, I1, r1, b, xs, rfl, hq, q⟩ := z
  obtain ⟨u1, rfl, r2⟩ := vals1 r1
  cases r2
  obtain ⟨its, rv, pp, hz⟩ := I1.list (SqL.of hq)
  have hsz : its.toArray.size = xs.length := by rw [rv.length]; simp
  refine call_reversed_list pp.isList ?_
  have hn : (s1.heap.push (revObj b ((its.toArray.size : Int) - 1))).IsRevIter s1.heap.objs.size b ((xs.length : Int) - 1 - ((0 : Nat) : Int)) := ⟨_, Heap.get?_push_size _ rfl, rfl, by rw [hsz]; simp [revObj]⟩
  refine wpAny_pyIter_revIter (s := { s1 with heap := s1.heap.push (revObj b ((its.toArray.size : Int) - 1)) }) hn ?_
  refine ⟨_, [s1.heap.objs.size], _, Itv b xs.length, H1, rfl, I1.kept (t' := s1.toks) fun b o e => Heap.get?_push_of_some _ e, turn_rev b _ _, hn, fun c hc => ?_, q⟩
  have e : c = s1.heap.objs.size := by simpa using hc
  subst e
  exact I1.fpOk (Nat.le_refl _) (I1.hok.fresh (Nat.le_refl _))
end L2

namespace L2
open PySem PySem.Spec PyProof.Rows
/-! ## walks over a list or a tuple; comprehensions with two targets -/
def Over (J : It) (a : Addr) (o : HO) (xs : List V) : Prop := ∀ H2 : Hp, H2 a = some o → (∀ i, i < xs.length → J.go i H2) ∧ (∀ i x H3, i < xs.length → J.yld i H2 x H3 → H3 = H2 ∧ xs[i]? = some x) ∧ J.stop xs.length H2
theorem over_l {K : PySem.W.Frag} {a : Addr} {xs : List V} : Over (Itl K a) a (.lst xs) xs := fun H2 e =>
  ⟨fun i h => ⟨xs, xs[i], SqL.of e, List.getElem?_eq_getElem h⟩, fun i x H3 _ ⟨e1, h⟩ => ⟨e1, h xs (SqL.of e)⟩, ⟨xs, SqL.of e, Nat.le_refl _⟩⟩
theorem over_t {K : PySem.W.Frag} {a : Addr} {xs : List V} : Over (Itt K a) a (.tup xs) xs := fun H2 e =>
  ⟨fun i h => ⟨xs, xs[i], SqT.of e, List.getElem?_eq_getElem h⟩, fun i x H3 _ ⟨e1, h⟩ => ⟨e1, h xs (SqT.of e)⟩, ⟨xs, SqT.of e, Nat.le_refl _⟩⟩
def iSq (tl : TE) : TI := fun σ H R => tl σ H fun x H1 => ∃ a o xs, x = .ref a ∧ (o = .lst xs ∨ o = .tup xs) ∧ H1 a = some o ∧ ∀ J, Over J a o xs → R J H1
theorem pi_sq {X : Cx} {tg l : Expr} {tl : TE} (hl : PE X l tl) : PI X tg l (iSq tl) := by
  intro pins s σ H R I h
  refine thn (hl pins s σ H _ I h) fun v s1 ⟨x, H1, I1, r1, q1⟩ => ?_
  obtain ⟨a, o, xs, e, ho, hq, q⟩ := q1
  subst e
  cases r1
  have tail : ∀ b ∈ [s1.heap.objs.size], FpOk X pins H1 b := fun b hb => by
    have e : b = s1.heap.objs.size := by simpa using hb
    subst e
    exact I1.fpOk (Nat.le_refl _) (I1.hok.fresh (Nat.le_refl _))
  rcases ho with rfl | rfl
  · obtain ⟨its, rv, p, hz⟩ := I1.list (SqL.of hq)
    refine wpAny_pyIter_list p.isList ?_
    exact ⟨s1.heap.objs.size, [s1.heap.objs.size], _, _, H1, rfl, I1.kept (t' := s1.toks) fun b o e => Heap.get?_push_of_some _ e, turn_list a _, ⟨_, Heap.get?_push_size _ rfl, rfl, rfl⟩, tail, q _ over_l⟩
  · obtain ⟨its, rv, p, hz⟩ := I1.tuple (SqT.of hq)
    refine wpAny_pyIter_tuple (show s1.heap.IsTuple a its.toArray from p) ?_
    exact ⟨s1.heap.objs.size, [s1.heap.objs.size], _, _, H1, rfl, I1.kept (t' := s1.toks) fun b o e => Heap.get?_push_of_some _ e, turn_tuple a _, ⟨_, Heap.get?_push_size _ rfl, rfl, rfl⟩, tail, q _ over_t⟩
theorem for_over {J : It} {a : Addr} {o : HO} {xs : List V} {g : TG} {tb : TS} {D : Ends} {σ : St} {H : Hp} (ov : Over J a o xs) (Pv : Nat → St → Hp → Prop) (h0 : Pv 0 σ H) (hl : ∀ i σ H, Pv i σ H → H a = some o)
    (hs : ∀ i x σ H, xs[i]? = some x → Pv i σ H → g x σ H fun σ2 H2 => tb { D with nx := Pv (i + 1), ct := Pv (i + 1), bk := D.nx } σ2 H2) (hd : ∀ σ H, Pv xs.length σ H → D.nx σ H) :
    ∃ W : Nat → Nat → St → Hp → Prop, (∃ m, W 0 m σ H) ∧ ∀ i m σ H, W i m σ H →
      (J.stop i H ∧ D.nx σ H) ∨ (J.go i H ∧ ∃ N : St → Hp → Prop, (∀ σ' H', N σ' H' → ∃ m', m' < m ∧ W (i + 1) m' σ' H') ∧ ∀ x H', J.yld i H x H' → g x σ H' fun σ2 H2 => tb { D with nx := N, ct := N, bk := D.nx } σ2 H2) := by
  refine ⟨fun i m σ H => m = xs.length - i ∧ i ≤ xs.length ∧ Pv i σ H, ⟨xs.length, by simp, Nat.zero_le _, h0⟩, ?_⟩
  rintro i m σ H ⟨rfl, hi, p⟩
  obtain ⟨q1, q2, q3⟩ := ov H (hl i σ H p)
  by_cases hlt : i < xs.length
  · refine .inr ⟨q1 i hlt, Pv (i + 1), fun σ' H' p' => ⟨xs.length - (i + 1), Nat.sub_succ_lt_self _ _ hlt, rfl, hlt, p'⟩, fun x H' y => ?_⟩
    obtain ⟨e, y2⟩ := q2 i x H' hlt y
    subst e
    exact hs i x σ _ y2 p
  · have e : i = xs.length := Nat.le_antisymm hi (Nat.le_of_not_lt hlt)
    subst e
    exact .inl ⟨q3, hd σ H p⟩
theorem comp_over {J : It} {a : Addr} {o : HO} {xs : List V} {tt : TT} {te : TE} {σ : St} {H : Hp} {Q : VK} (ov : Over J a o xs) (hH : H a = some o) (Pv : Addr → Nat → List V → Hp → Prop) (hz : xs.length ≤ sizeLine)
    (h0 : ∀ D, H D = none → Pv D 0 [] (upd H D (.lst [])))
    (hs : ∀ (D : Addr) (i : Nat) (x : V) (ys : List V) (H' : Hp) (R1 : VK) (R2 : Hp → Prop), H D = none → xs[i]? = some x → Same H H' → H' D = some (.lst ys) → Pv D i ys H' →
      (∀ y H5, H5 D = some (.lst ys) → Same H (upd H5 D (.lst (ys ++ [y]))) → Pv D (i + 1) (ys ++ [y]) (upd H5 D (.lst (ys ++ [y]))) → R1 y H5) → (∀ H4, Same H H4 → H4 D = some (.lst ys) → Pv D (i + 1) ys H4 → R2 H4) →
      tt (some x :: σ) H' fun b H4 => if b = true then te (some x :: σ) H4 R1 else R2 H4)
    (hq : ∀ D ys H', H D = none → Same H H' → H' D = some (.lst ys) → Pv D xs.length ys H' → Q (.ref D) H') : ∀ D, H D = none → ∃ W : Nat → Nat → List V → Hp → Prop,
  (∃ m, W 0 m [] (upd H D (.lst []))) ∧ ∀ i m ys H2, W i m ys H2 → H2 D = some (.lst ys) ∧ ((J.stop i H2 ∧ Q (.ref D) H2) ∨ (J.go i H2 ∧ ys.length < sizeLine ∧ ∀ x H3, J.yld i H2 x H3 →
    tt (some x :: σ) H3 fun b H4 => if b = true then te (some x :: σ) H4 fun y H5 => H5 D = some (.lst ys) ∧ ∃ m', m' < m ∧ W (i + 1) m' (ys ++ [y]) (upd H5 D (.lst (ys ++ [y])))
      else ∃ m', m' < m ∧ W (i + 1) m' ys H4)) := by
  intro D hD
  refine ⟨fun i m ys H2 => m = xs.length - i ∧ i ≤ xs.length ∧ ys.length ≤ i ∧ Same H H2 ∧ H2 D = some (.lst ys) ∧ Pv D i ys H2, ⟨xs.length, by simp, Nat.zero_le _, by simp, Same.upd hD, upd_same, h0 D hD⟩, ?_⟩
  rintro i m ys H2 ⟨rfl, hi, hy, hsm, hDl, hp⟩
  refine ⟨hDl, ?_⟩
  obtain ⟨q1, q2, q3⟩ := ov H2 (hsm _ _ hH)
  by_cases hlt : i < xs.length
  · refine .inr ⟨q1 i hlt, Nat.lt_of_le_of_lt hy (Nat.lt_of_lt_of_le hlt hz), fun x H3 hyl => ?_⟩
    obtain ⟨e, hx⟩ := q2 i x H3 hlt hyl
    subst e
    exact hs D i x ys H3 _ _ hD hx hsm hDl hp (fun y H5 a b c => ⟨a, xs.length - (i + 1), Nat.sub_succ_lt_self _ _ hlt, rfl, hlt, by rw [List.length_append]; exact Nat.succ_le_succ hy, b, upd_same, c⟩) (fun H4 a b c => ⟨xs.length - (i + 1), Nat.sub_succ_lt_self _ _ hlt, rfl, hlt, Nat.le_succ_of_le hy, a, b, c⟩)
  · have e : i = xs.length := Nat.le_antisymm hi (Nat.le_of_not_lt hlt)
    subst e
    exact .inl ⟨q3, hq D ys H2 hD hsm hDl hp⟩
/-- what a comprehension with two targets asks for -/
def C2Goal (K : PySem.W.Frag) (J : It) (te : TE) (σ : St) (H1 : Hp) (Q : VK) : Prop := ∀ D, H1 D = none → ∃ W : Nat → Nat → List V → Hp → Prop,
  (∃ m, W 0 m [] (upd H1 D (.lst []))) ∧ ∀ i m ys H2, W i m ys H2 → H2 D = some (.lst ys) ∧ ((J.stop i H2 ∧ Q (.ref D) H2) ∨ (J.go i H2 ∧ ys.length < sizeLine ∧ ∀ x H3, J.yld i H2 x H3 →
    ∃ p a b, x = .ref p ∧ SqT K H3 p [a, b] ∧ te (some a :: some b :: σ) H3 fun y H5 => H5 D = some (.lst ys) ∧ ∃ m', m' < m ∧ W (i + 1) m' (ys ++ [y]) (upd H5 D (.lst (ys ++ [y])))))
theorem comp2_step {K : PySem.W.Frag} {J : It} {n : Nat} {te : TE} {σ : St} {H : Hp} {Q : VK} (Pr : Nat → V → V → Prop) (Pv : Addr → Nat → List V → Hp → Prop) (hz : n ≤ sizeLine)
    (j1 : ∀ i H2, Same H H2 → i < n → J.go i H2) (j2 : ∀ i H2 x H3, Same H H2 → i < n → J.yld i H2 x H3 → ∃ p a b, x = .ref p ∧ Pr i a b ∧ H2 p = none ∧ H3 = upd H2 p (.tup [a, b])) (j3 : ∀ H2, Same H H2 → J.stop n H2)
    (h0 : ∀ D, H D = none → Pv D 0 [] (upd H D (.lst [])))
    (hs : ∀ (D : Addr) (i : Nat) (a b : V) (ys : List V) (H' H3 : Hp) (R1 : VK), H D = none → i < n → Pr i a b → Same H H' → H' D = some (.lst ys) → Pv D i ys H' → Same H' H3 →
      (∀ y H5, H5 D = some (.lst ys) → Same H (upd H5 D (.lst (ys ++ [y]))) → Pv D (i + 1) (ys ++ [y]) (upd H5 D (.lst (ys ++ [y]))) → R1 y H5) → te (some a :: some b :: σ) H3 R1)
    (hq : ∀ D ys H', H D = none → Same H H' → H' D = some (.lst ys) → Pv D n ys H' → Q (.ref D) H') : C2Goal K J te σ H Q := by
  intro D hD
  refine ⟨fun i m ys H2 => m = n - i ∧ i ≤ n ∧ ys.length ≤ i ∧ Same H H2 ∧ H2 D = some (.lst ys) ∧ Pv D i ys H2, ⟨n, by simp, Nat.zero_le _, by simp, Same.upd hD, upd_same, h0 D hD⟩, ?_⟩
  rintro i m ys H2 ⟨rfl, hi, hy, hsm, hDl, hp⟩
  refine ⟨hDl, ?_⟩
  by_cases hlt : i < n
  · refine .inr ⟨j1 i H2 hsm hlt, Nat.lt_of_le_of_lt hy (Nat.lt_of_lt_of_le hlt hz), fun x H3 hyl => ?_⟩
    obtain ⟨p, a, b, rfl, hab, hpn, rfl⟩ := j2 i H2 x H3 hsm hlt hyl
    refine ⟨p, a, b, rfl, SqT.of upd_same, hs D i a b ys H2 _ _ hD hlt hab hsm hDl hp (Same.upd hpn) fun y H5 e1 e2 e3 => ⟨e1, n - (i + 1), Nat.sub_succ_lt_self _ _ hlt, rfl, hlt, by rw [List.length_append]; exact Nat.succ_le_succ hy, e2, upd_same, e3⟩⟩
  · have e : i = n := Nat.le_antisymm hi (Nat.le_of_not_lt hlt)
    subst e
    exact .inl ⟨j3 H2 hsm, hq D ys H2 hD hsm hDl hp⟩
theorem comp2_enum {K : PySem.W.Frag} {c : Addr} {xs : List V} {te : TE} {σ : St} {H : Hp} {Q : VK} (hH : H c = some (.tup xs)) (Pv : Addr → Nat → List V → Hp → Prop) (hz : xs.length ≤ sizeLine)
    (h0 : ∀ D, H D = none → Pv D 0 [] (upd H D (.lst [])))
    (hs : ∀ (D : Addr) (i : Nat) (x : V) (ys : List V) (H' H3 : Hp) (R1 : VK), H D = none → xs[i]? = some x → Same H H' → H' D = some (.lst ys) → Pv D i ys H' → Same H' H3 →
      (∀ y H5, H5 D = some (.lst ys) → Same H (upd H5 D (.lst (ys ++ [y]))) → Pv D (i + 1) (ys ++ [y]) (upd H5 D (.lst (ys ++ [y]))) → R1 y H5) → te (some (.int (i : Int)) :: some x :: σ) H3 R1)
    (hq : ∀ D ys H', H D = none → Same H H' → H' D = some (.lst ys) → Pv D xs.length ys H' → Q (.ref D) H') : C2Goal K (IteT c) te σ H Q := by
  refine comp2_step (n := xs.length) (fun i a b => a = .int (i : Int) ∧ xs[i]? = some b) Pv hz (fun i H2 s h => ⟨xs, xs[i], s _ _ hH, List.getElem?_eq_getElem h⟩) ?_ (fun H2 s => ⟨xs, s _ _ hH, rfl⟩) h0 ?_ hq
  · rintro i H2 x H3 s h ⟨p, y, zs, e1, e2, e3, e4, e5⟩
    rw [s _ _ hH] at e1
    cases e1
    exact ⟨p, _, y, e3, ⟨rfl, e2⟩, e4, e5⟩
  · rintro D i a b ys H' H3 R1 hD hi ⟨rfl, hb⟩ a1 a2 a3 a4 a5
    exact hs D i b ys H' H3 R1 hD hb a1 a2 a3 a4 a5
theorem comp2_zip {K : PySem.W.Frag} {c d : Addr} {xs zs : List V} {te : TE} {σ : St} {H : Hp} {Q : VK} (hH : H c = some (.tup xs)) (hK : H d = some (.tup zs)) (hl : xs.length = zs.length) (Pv : Addr → Nat → List V → Hp → Prop) (hz : xs.length ≤ sizeLine)
    (h0 : ∀ D, H D = none → Pv D 0 [] (upd H D (.lst [])))
    (hs : ∀ (D : Addr) (i : Nat) (x z : V) (ys : List V) (H' H3 : Hp) (R1 : VK), H D = none → xs[i]? = some x → zs[i]? = some z → Same H H' → H' D = some (.lst ys) → Pv D i ys H' → Same H' H3 →
      (∀ y H5, H5 D = some (.lst ys) → Same H (upd H5 D (.lst (ys ++ [y]))) → Pv D (i + 1) (ys ++ [y]) (upd H5 D (.lst (ys ++ [y]))) → R1 y H5) → te (some x :: some z :: σ) H3 R1)
    (hq : ∀ D ys H', H D = none → Same H H' → H' D = some (.lst ys) → Pv D xs.length ys H' → Q (.ref D) H') : C2Goal K (Itzt c d) te σ H Q := by
  refine comp2_step (n := xs.length) (fun i a b => xs[i]? = some a ∧ zs[i]? = some b) Pv hz (fun i H2 s h => ⟨xs, zs, xs[i], zs[i]'(by (clear hq hs h0 hz hK hH; omega)), s _ _ hH, s _ _ hK, List.getElem?_eq_getElem h, List.getElem?_eq_getElem _⟩) ?_ (fun H2 s => ⟨xs, zs, s _ _ hH, s _ _ hK, hl, rfl⟩) h0 ?_ hq
  · rintro i H2 x H3 s h ⟨p, as, bs, a, b, e1, e2, e3, e4, e5, e6, e7⟩
    rw [s _ _ hH] at e1
    rw [s _ _ hK] at e2
    cases e1
    cases e2
    exact ⟨p, a, b, e5, ⟨e3, e4⟩, e6, e7⟩
  · rintro D i a b ys H' H3 R1 hD hi ⟨ha, hb⟩ a1 a2 a3 a4 a5
    exact hs D i a b ys H' H3 R1 hD ha hb a1 a2 a3 a4 a5
end L2
namespace RA
open PySem L2
/-! ## numbers by first appearance, in a dict -/
inductive KS where
  | inl (b : Bool)
  | inr (k : NK)
instance : DecidableEq KS := fun a b => match a, b with
  | .inl a, .inl b => if h : a = b then isTrue (by rw [h]) else isFalse fun z => h (KS.inl.inj z)
  | .inr a, .inr b => if h : a = b then isTrue (by rw [h]) else isFalse fun z => h (KS.inr.inj z)
  | .inl _, .inr _ => isFalse fun z => by cases z
  | .inr _, .inl _ => isFalse fun z => by cases z
def isN : KS → Bool
  | .inl _ => false
  | .inr _ => true
def KeyV (H : Hp) : KS → V → Prop
  | .inl b, x => x = .bl b
  | .inr k, x => ∃ p, x = .ref p ∧ NIn H k p
theorem nin_stay {H H' : Hp} {k : NK} {a : Addr} (s : ∀ b xs, H b = some (.tup xs) → H' b = some (.tup xs)) (h : NIn H k a) : NIn H' k a := by
  obtain ⟨b, e1, e2⟩ := h
  exact ⟨b, s _ _ e1, s _ _ e2⟩
theorem KeyV.stay {H H' : Hp} {k : KS} {x : V} (s : ∀ b xs, H b = some (.tup xs) → H' b = some (.tup xs)) (h : KeyV H k x) : KeyV H' k x := by
  cases k with
  | inl b => exact h
  | inr k =>
    obtain ⟨p, e, h⟩ := h
    exact ⟨p, e, nin_stay s h⟩
theorem find_num {α κ : Type} [DecidableEq κ] (key : α → κ) (val : α → V) (k : κ) : ∀ (kvs : List α) (n : Nat), (∀ i x, kvs[i]? = some x → val x = .int ((n + i : Nat) : Int)) →
    (kvs.find? fun x => decide (key x = k)).map val = if k ∈ kvs.map key then some (.int ((n + (kvs.map key).idxOf k : Nat) : Int)) else none
  | [], n, _ => by simp
  | a :: kvs, n, h => by
    by_cases e : key a = k
    · have h0 := h 0 a rfl
      rw [if_pos (by simp [e])]
      subst e
      simp [List.find?_cons, h0]
    · have ih := find_num key val k kvs (n + 1) fun i x hx => by
        have := h (i + 1) x (by simpa using hx)
        rw [this]
        congr 2
        (clear this hx e h; omega)
      have e1 : (kvs.map key).idxOf k + 1 = ((a :: kvs).map key).idxOf k := by
        rw [List.map_cons, List.idxOf_cons, beq_eq_false_iff_ne.mpr e]
        rfl
      rw [List.find?_cons, decide_eq_false e]
      show (kvs.find? fun x => decide (key x = k)).map val = _
      rw [ih]
      by_cases hm : k ∈ kvs.map key
      · rw [if_pos hm, if_pos (by rw [List.map_cons]; exact List.mem_cons_of_mem _ hm), ← e1]
        congr 3
        (clear e1 ih e h; omega)
      · rw [if_neg hm, if_neg (by rw [List.map_cons, List.mem_cons]; rintro (z | z); exact e z.symm; exact hm z)]
def NumAt (P : Program) (w : World) (H : Hp) (d : Addr) (nest : Bool) (ks : List KS) : Prop :=
  (nest = false ∧ ∃ kvs : List (Bool × V), H d = some (kdO (boolKind P w) d kvs) ∧ (kvs.map fun x => (KS.inl x.1 : KS)) = dis ks ∧ ∀ (i : Nat) (x : Bool × V), kvs[i]? = some x → x.2 = V.int (i : Int)) ∨
  (nest = true ∧ ∃ kvs : List (NK × Addr × V), H d = some (hdO (nestD P w) d kvs) ∧ (∀ x ∈ kvs, NIn H x.1 x.2.1) ∧ (kvs.map fun x => (KS.inr x.1 : KS)) = dis ks ∧ ∀ (i : Nat) (x : NK × Addr × V), kvs[i]? = some x → x.2.2 = V.int (i : Int))
section
variable {P : Program} {w : World} {H : Hp} {d : Addr} {nest : Bool} {ks : List KS}
def numO (ks : List KS) (k : KS) : Option V := if k ∈ dis ks then some (.int ((dis ks).idxOf k : Nat)) else none
theorem NumAt.get {k : KS} {x : V} (h : NumAt P w H d nest ks) (hk : KeyV H k x) (hn : isN k = nest) : DGet P w H d x (numO ks k) := by
  rcases h with ⟨rfl, kvs, e, hm, hv⟩ | ⟨rfl, kvs, e, hN, hm, hv⟩
  · cases k with
    | inr k => cases hn
    | inl b =>
      refine .inl ⟨kvs, b, e, hk, ?_⟩
      have := find_num (fun x : Bool × V => (KS.inl x.1 : KS)) (·.2) (KS.inl b) kvs 0 (fun i x hx => by rw [hv i x hx, Nat.zero_add])
      rw [hm] at this
      unfold numO valV
      rw [Nat.zero_add] at this
      rw [← this]
      congr 2
      funext x
      exact decide_eq_decide.mpr ⟨fun z => KS.inl.inj z, fun z => by rw [z]⟩
  · cases k with
    | inl k => cases hn
    | inr b =>
      obtain ⟨p, e1, e2⟩ := hk
      refine .inr (.inl ⟨kvs, b, p, e, hN, e1, e2, ?_⟩)
      have := find_num (fun x : NK × Addr × V => (KS.inr x.1 : KS)) (·.2.2) (KS.inr b) kvs 0 (fun i x hx => by rw [hv i x hx, Nat.zero_add])
      rw [hm] at this
      unfold numO valH
      rw [Nat.zero_add] at this
      rw [← this]
      congr 2
      funext x
      exact decide_eq_decide.mpr ⟨fun z => KS.inr.inj z, fun z => by rw [z]⟩
theorem NumAt.len (h : NumAt P w H d nest ks) : DLen P w H d (dis ks).length := by
  rcases h with ⟨_, kvs, e, hm, _⟩ | ⟨_, kvs, e, _, hm, _⟩
  · exact .inl ⟨kvs, e, by rw [← hm, List.length_map]⟩
  · exact .inr ⟨kvs, e, by rw [← hm, List.length_map]⟩
theorem NumAt.same {k : KS} (h : NumAt P w H d nest ks) (hk : k ∈ dis ks) : NumAt P w H d nest (ks ++ [k]) := by
  unfold NumAt at h ⊢
  rw [dis_snoc, if_pos hk]
  exact h
theorem NumAt.mono {H' : Hp} (h : NumAt P w H d nest ks) (s : Same H H') : NumAt P w H' d nest ks := by
  rcases h with ⟨a, kvs, e, hm⟩ | ⟨a, kvs, e, hN, hm⟩
  · exact .inl ⟨a, kvs, s _ _ e, hm⟩
  · exact .inr ⟨a, kvs, s _ _ e, fun x hx => nin_stay (fun b xs z => s _ _ z) (hN x hx), hm⟩
theorem NumAt.tups {H' : Hp} {ob : HO} (h : NumAt P w H d nest ks) (e : H' = upd H d ob) : ∀ b xs, H b = some (.tup xs) → H' b = some (.tup xs) := fun b xs z => by
  rw [e, upd_ne (fun q => ?_)]
  · exact z
  · subst q
    rcases h with ⟨_, kvs, e1, _⟩ | ⟨_, kvs, e1, _⟩
    · rw [e1] at z; cases z
    · rw [e1] at z; cases z
theorem num_at {j n : Nat} (h : ¬ j < n) (h2 : j - n < 1) : j = n := by omega
theorem NumAt.put {k : KS} {x : V} (h : NumAt P w H d nest ks) (hk : KeyV H k x) (hn : isN k = nest) (hnew : k ∉ dis ks) (hl : (dis ks).length < sizeLine) :
    ∃ ob, DPut P w H d x (.int ((dis ks).length : Nat)) (upd H d ob) ∧ NumAt P w (upd H d ob) d nest (ks ++ [k]) := by
  have hnone : numO ks k = none := if_neg hnew
  have hget := h.get hk hn
  rw [hnone] at hget
  have h0 := h
  rcases h with ⟨rfl, kvs, e, hm, hv⟩ | ⟨rfl, kvs, e, hN, hm, hv⟩
  · cases k with
    | inr k => cases hn
    | inl b =>
      have hlen : (dis ks).length = kvs.length := by rw [← hm, List.length_map]
      have hval : valV kvs b = none := by
        have := find_num (fun x : Bool × V => (KS.inl x.1 : KS)) (·.2) (KS.inl b) kvs 0 (fun i x hx => by rw [hv i x hx, Nat.zero_add])
        rw [hm, if_neg hnew] at this
        unfold valV
        rw [← this]
        congr 2
        funext x
        exact decide_eq_decide.mpr ⟨fun z => by rw [z], fun z => KS.inl.inj z⟩
      refine ⟨_, .inl ⟨kvs, b, e, hk, hval, by rw [← hlen]; exact hl, rfl⟩, .inl ⟨rfl, kvs ++ [(b, .int ((dis ks).length : Nat))], upd_same, ?_, fun i y hy => ?_⟩⟩
      · rw [dis_snoc, if_neg hnew, List.map_append, hm]
        rfl
      · by_cases hi : i < kvs.length
        · rw [List.getElem?_append_left hi] at hy
          exact hv i y hy
        · rw [List.getElem?_append_right (Nat.le_of_not_lt hi)] at hy
          have h9 := num_at hi (List.getElem?_eq_some_iff.mp hy).1
          rw [h9, Nat.sub_self] at hy
          cases hy
          show V.int ((dis ks).length : Nat) = _
          rw [hlen, h9]
  · cases k with
    | inl k => cases hn
    | inr b =>
      have hlen : (dis ks).length = kvs.length := by rw [← hm, List.length_map]
      obtain ⟨p, e1, e2⟩ := hk
      have hval : valH kvs b = none := by
        have := find_num (fun x : NK × Addr × V => (KS.inr x.1 : KS)) (·.2.2) (KS.inr b) kvs 0 (fun i x hx => by rw [hv i x hx, Nat.zero_add])
        rw [hm, if_neg hnew] at this
        unfold valH
        rw [← this]
        congr 2
        funext x
        exact decide_eq_decide.mpr ⟨fun z => by rw [z], fun z => KS.inr.inj z⟩
      have keep := h0.tups (H' := upd H d (hdO (nestD P w) d (kvs ++ [(b, p, .int ((dis ks).length : Nat))]))) rfl
      refine ⟨_, .inr (.inl ⟨kvs, b, p, e, hN, e1, e2, hval, by rw [← hlen]; exact hl, rfl⟩), .inr ⟨rfl, kvs ++ [(b, p, .int ((dis ks).length : Nat))], upd_same, fun y hy => ?_, ?_, fun i y hy => ?_⟩⟩
      · rcases List.mem_append.mp hy with hy | hy
        · exact nin_stay keep (hN y hy)
        · rw [List.mem_singleton.mp hy]
          exact nin_stay keep e2
      · rw [dis_snoc, if_neg hnew, List.map_append, hm]
        rfl
      · by_cases hi : i < kvs.length
        · rw [List.getElem?_append_left hi] at hy
          exact hv i y hy
        · rw [List.getElem?_append_right (Nat.le_of_not_lt hi)] at hy
          have h9 := num_at hi (List.getElem?_eq_some_iff.mp hy).1
          rw [h9, Nat.sub_self] at hy
          cases hy
          show V.int ((dis ks).length : Nat) = _
          rw [hlen, h9]
theorem NumAt.new (P : Program) (w : World) (H : Hp) (p : Addr) (nest : Bool) : NumAt P w (upd H p (newO P w p (if nest = true then .nest else .bl))) p nest [] := by
  cases nest with
  | false => exact .inl ⟨rfl, [], upd_same, rfl, fun i x h => by simp at h⟩
  | true => exact .inr ⟨rfl, [], upd_same, fun x h => by simp at h, rfl, fun i x h => by simp at h⟩
end
theorem numF_inl (bs : List Bool) : numF (bs.map fun b => (KS.inl b : KS)) = numF bs := numF_canon (by rw [List.length_map]) fun i j a b a' b' h1 h2 h3 h4 => by
  rw [List.getElem?_map, h3] at h1
  rw [List.getElem?_map, h4] at h2
  cases h1
  cases h2
  exact ⟨fun z => KS.inl.inj z, fun z => by rw [z]⟩
theorem numF_inr (bs : List NK) : numF (bs.map fun b => (KS.inr b : KS)) = numF bs := numF_canon (by rw [List.length_map]) fun i j a b a' b' h1 h2 h3 h4 => by
  rw [List.getElem?_map, h3] at h1
  rw [List.getElem?_map, h4] at h2
  cases h1
  cases h2
  exact ⟨fun z => KS.inr.inj z, fun z => by rw [z]⟩
end RA

namespace L2
open PySem PySem.Spec PyProof.Rows
section
variable {X : Cx} {elt iter : Expr} {x : Str} {px pos : Pos} {ifs : List Expr} {sc : Scope} {wi : TI} {tt : TT} {te : TE}
theorem ps_setCompS (N2 : List Str) {j : Nat} {y : Str} {py spos : Pos} (hc : X.calm = true) (hN : X.N.Nodup) (hN2 : (x :: N2).Nodup) (hj : X.N[j]? = some y) (hyl : Loc X.env.scope y) (hi : PI X (.Name x px) iter wi)
    (hb : ∀ (cl : List (Str × Addr)) (C : Addr) (fp : List Addr) (s : Shared) (H : Hp), PTs { cxComp X x sc cl C fp s H with N := x :: N2 } ifs tt ∧ PE { cxComp X x sc cl C fp s H with N := x :: N2 } elt te)
    (hx : sc.names.lookup x = some .local := by rfl) (hkind : sc.kind = .function := by rfl)
    (hnames : ∀ y ∈ sc.names, y.2 = .local → sc.names.lookup y.1 = some .local := by decide +kernel) (hcell : ∀ y ∈ sc.names, y.2 ≠ .cell := by decide +kernel)
    (hfree : (sc.names.all fun y => y.2 != .free || X.env.scope.names.lookup y.1 == some .cell) = true := by rfl)
    (hlo : (N2.all fun y => sc.names.lookup y != some .local) = true := by rfl) (hl2 : N2.length = X.N.length := by rfl) (hz2 : ((N2.zip X.N).all fun y => y.1 == y.2 || sc.names.lookup y.1 == none) = true := by rfl)
    (hs : ∀ x, foldedSetIterable iter X.env x = pure x := by intro _; rfl) (hsw : swapsWith (.ListComp elt [⟨.Name x px, iter, ifs, 0⟩] sc pos) (some (.Name y py)) spos.line X.env = pure true := by rfl)
    (hfy : X.fn y = true ∨ X.env.scope.names.lookup y = some .local := by first | exact .inl rfl | exact .inr rfl) :
    PS X (.Assign [.Name y py] (.ListComp elt [⟨.Name x px, iter, ifs, 0⟩] sc pos) spos) (tAsg (tComp wi tt te) (gName j)) := by
  intro pins s σ H DD I h
  have hfr : ∀ y ∈ sc.names, y.2 = .free → X.env.kindOf y.1 = some .cell := fun y hy e => by
    have q := List.all_eq_true.mp hfree y hy
    rw [e] at q
    simpa [Env.kindOf] using q
  have hlo' : ∀ y ∈ N2, sc.names.lookup y ≠ some .local := fun y hy e => by
    have q := List.all_eq_true.mp hlo y hy
    rw [e] at q
    simp at q
  obtain ⟨cl, hclos, hsub, hhas⟩ := closure_of (env := X.env) (sc := sc) fun y hy e => I.ok.has y.1 (.inl (hfr y hy e))
  refine comp_used hsw fun _ => wpAny_comprehension_free (Q := fun _ s' => SP X pins DD .next s') rfl hs hclos hkind hnames (thn (hi pins s σ H _ I h) fun v s1 h1 => thn h1 fun itv s2 h2 => ?_)
  obtain ⟨it, fp, tn, J, H2, e, I2, T, st2, f2, hW⟩ := h2
  subst e
  -- the accumulator, then the block's frame
  have nobinds : ∀ y ∈ ([] : List (Str × Value)), sc.names.lookup y.1 = some .local := fun y hy => absurd hy (by simp)
  refine wpAny_newObj_type ?_
  refine wpAny_newFunctionEnv hcell nobinds (fun h₁ hns₁ hsb₁ => ?_) hkind
  dsimp only at hns₁ hsb₁ ⊢
  generalize hHa : s2.heap.push { cls := .type "list", dict := none, data := .seq ([] : List Value).toArray } = Ha at hns₁ hsb₁ ⊢
  have hC : Ha.objs.size = s2.heap.objs.size + 1 := by rw [← hHa, Heap.size_push]
  have hDC : s2.heap.objs.size ≠ Ha.objs.size := by rw [hC]; exact Nat.ne_of_lt (Nat.lt_succ_self _)
  have hCle : s2.heap.objs.size ≤ Ha.objs.size := by rw [hC]; exact Nat.le_succ _
  have neC : ∀ b o, s2.heap.get? b = some o → b ≠ Ha.objs.size := fun b o e => Nat.ne_of_lt (Nat.lt_of_lt_of_le (Heap.lt_size e) hCle)
  have old : ∀ b o, s2.heap.get? b = some o → h₁.get? b = some o := fun b o e => hsb₁.extBut b o (neC b o e) (Heap.get?_push_of_some _ (hHa ▸ Heap.get?_push_of_some _ e))
  have hacc : h₁.get? s2.heap.objs.size = some { cls := .type "list", dict := none, data := .seq ([] : List Value).toArray } := hsb₁.extBut _ _ hDC (Heap.get?_push_of_some _ (hHa ▸ Heap.get?_push_size _ rfl))
  generalize hDe : s2.heap.objs.size = D at *
  generalize hCe : Ha.objs.size = C at *
  have hHD : H2 D = none := I2.hok.fresh (Nat.le_of_eq hDe)
  have hHC : H2 C = none := I2.hok.fresh (by (clear hHD hCle hDC neC hCe hacc old hHa nobinds hW f2 hhas hsub hclos hlo' hfr hfy hsw hs hz2 hl2 hlo hfree hcell hnames hkind hx hb hj hc; omega))
  obtain ⟨W, ⟨m0, w0⟩, turn⟩ := hW D hHD
  have fplt : ∀ b ∈ fp, b < D := fun b hb => by
    obtain ⟨o, e, _⟩ := T.obj _ _ st2 b hb
    rw [← hDe]
    exact Heap.lt_size e
  -- the block's context
  let X' : Cx := { cxComp X x sc cl C fp s2 H2 with N := x :: N2 }
  have nofs : ∀ b ∈ fp, b ∉ frs X.stack := fun b hb z => by
    rcases List.mem_cons.mp (I2.stkSub b z) with e | e
    · exact (f2 b hb).2.1 e
    · exact (f2 b hb).2.2.1 e
  have ok' : X'.Ok := by
    refine ⟨I2.ok.mod, hkind, I2.ok.glob, I2.ok.blt, ?_, fun y z c e1 e2 => I2.ok.inj y z c (hsub y c e1) (hsub z c e2), fun y hy => ?_, fun y c e => absurd (show false = true from e) Bool.false_ne_true, I2.ok.hd, I2.ok.frames, .inl rfl, fun b hb => ⟨?_, fun y c e => ?_⟩, I2.bs,
      Nat.le_trans I2.ok.bsz I2.sz, fun b o e hb => ?_, nofs, I2.stack, I2.stkFree⟩
    · show s2.heap.objs.size ≤ C
      (clear nofs fplt turn hHC hHD hCle hDC neC hCe hacc old hHa nobinds hW f2 hhas hsub hclos hlo' hfr hfy hsw hs hz2 hl2 hlo hfree hcell hnames hkind hx hb hj hc; omega)
    · rcases hy with hy | hy
      · rcases relabel_lookup (show (relabel sc X.env).names.lookup y = some .cell from hy) with e | ⟨_, e, _⟩
        · exact absurd rfl (hcell _ (PySem.mem_of_lookup e))
        · exact hhas _ (PySem.mem_of_lookup e) rfl
      · rcases relabel_lookup (show (relabel sc X.env).names.lookup y = some .free from hy) with e | ⟨e, _⟩
        · exact hhas _ (PySem.mem_of_lookup e) rfl
        · cases e
    · exact Nat.ne_of_lt (Nat.lt_of_lt_of_le (fplt b hb) (by (clear nofs fplt turn hHC hHD hDC hC neC hCe hacc hDe old hHa nobinds hW f2 hhas hsub hclos hlo' hfr hfy hsw hs hz2 hl2 hlo hfree hcell hnames hkind hx hj hc; omega) : D ≤ C))
    · exact (f2 b hb).2.2.2.2.1 y c (hsub y c e)
    · rcases (f2 b hb).2.2.2.1 with z | z
      · exact I2.ok.noex b o e z
      · exact absurd (Nat.lt_of_lt_of_le (Nat.lt_of_lt_of_le (Heap.lt_size e) I2.ok.bsz) z) (Nat.lt_irrefl _)
  have I4 : ∀ tk, Inv X' [] (none :: σ) (upd H2 D (.lst [])) { s2 with heap := h₁, toks := tk } := fun tk => by
    refine ⟨ok', rfl, I2.bare, Un.laid old (Nat.le_of_eq hDe) hHD, ⟨_, hns₁, fun i y v e1 e2 e3 => ?_⟩, fun y c e => ?_, ?_, fun y c e => ?_, fun p hp => ?_, I2.hok.laid old (Nat.le_of_eq hDe) ?_, ?_⟩
    · cases i with
      | zero => simp at e2
      | succ i =>
        have e0 : N2[i]? = some y := by simpa [X', cxComp] using e1
        have e2 : σ[i]? = some (some v) := by simpa using e2
        have e3 : Vis (relabel sc X.env) y := e3
        have hyN : y ∈ N2 := List.mem_of_getElem? e0
        have free : sc.names.lookup y = some .free ∧ (relabel sc X.env).names.lookup y ≠ some .local := by
          rcases e3 with e | e | e
          · rcases relabel_lookup e with q | ⟨q, _⟩
            · exact absurd q (hlo' y hyN)
            · cases q
          · rcases relabel_lookup e with q | ⟨_, q, _⟩
            · exact absurd rfl (hcell _ (PySem.mem_of_lookup q))
            · exact ⟨q, by rw [e]; decide⟩
          · rcases relabel_lookup e with q | ⟨q, _⟩
            · exact ⟨q, by rw [e]; decide⟩
            · cases q
        have e1 : X.N[i]? = some y := by
          have hi : i < N2.length := (List.getElem?_eq_some_iff.mp e0).1
          have hi2 : i < X.N.length := by (clear free e2 e0 e1 nofs fplt turn hHC hHD hCle hDC hC neC hCe hacc hDe old hHa nobinds hW f2 hhas hsub hclos hlo' hfr hfy hsw hs hz2 hlo hfree hcell hnames hkind hx hb hj hc; omega)
          have hm : (y, X.N[i]) ∈ N2.zip X.N := by
            have hz : (N2.zip X.N)[i]? = some (y, X.N[i]) := by
              rw [List.getElem?_zip_eq_some]
              exact ⟨e0, List.getElem?_eq_getElem hi2⟩
            exact List.mem_of_getElem? hz
          have q := List.all_eq_true.mp hz2 _ hm
          rcases Bool.or_eq_true_iff.mp q with q | q
          · have : y = X.N[i] := eq_of_beq q
            rw [List.getElem?_eq_getElem hi2, ← this]
          · have q2 : sc.names.lookup y = none := by simpa using q
            rw [free.1] at q2
            cases q2
        have kc : X.env.kindOf y = some .cell := hfr _ (PySem.mem_of_lookup free.1) rfl
        obtain ⟨m, hn, hl⟩ := I2.loc
        obtain ⟨u, ru, lk⟩ := hl i y v e1 e2 (.inr (.inl kc))
        rcases lk with ⟨q, _⟩ | ⟨_, c, hcc, ⟨o, ho, hd⟩⟩
        · rw [kc] at q; cases q
        · obtain ⟨c', hc'⟩ := hhas _ (PySem.mem_of_lookup free.1) rfl
          have e4 := hsub _ _ hc'
          rw [hcc] at e4
          cases e4
          refine ⟨u, ru, .inr ⟨?_, c, hc', ⟨o, old c o ho, hd⟩⟩⟩
          rcases e3 with e | e | e
          · exact absurd e free.2
          · exact .inl e
          · exact .inr e
    · obtain ⟨v, o, ho, hd⟩ := I2.cell y c (hsub y c e)
      exact ⟨v, o, old c o ho, hd⟩
    · show upd H2 D (.lst []) C = none
      rw [upd_ne (neA (by (clear nofs fplt turn hHC hHD hCle hDC neC hCe hacc hDe old hHa nobinds hW f2 hhas hsub hclos hlo' hfr hfy hsw hs hz2 hl2 hlo hfree hcell hnames hkind hx hb hj hc; omega)))]
      exact hHC
    · obtain ⟨v, o, ho, hd⟩ := I2.cell y c (hsub y c e)
      have hlt := Heap.lt_size ho
      rw [hDe] at hlt
      show upd H2 D (.lst []) c = none
      rw [upd_ne (Nat.ne_of_lt hlt)]
      exact I2.freeC y c (hsub y c e)
    · exact absurd (show p ∈ ([] : List (Addr × Obj)) from hp) (by simp)
    · exact ⟨Nat.zero_le _, [], 0, .nil, hacc⟩
    · show (none :: σ).length = (x :: N2).length
      rw [List.length_cons, List.length_cons, I2.len, hl2]
  have hN' : X'.N.Nodup := hN2
  have hx' : X'.env.scope.names.lookup x = some .local := lookup_relabel_local hx
  obtain ⟨PT', PE'⟩ := hb cl C fp s2 H2
  have fpX : ∀ {pins' : List (Addr × Obj)} {H' : Hp}, (∀ b ∈ fp, H' b = none) → (∀ p ∈ pins', p.1 ∉ fp) → ∀ b ∈ fp, FpOk X' pins' H' b := fun hn hp b hb => by
    refine ⟨hn b hb, ?_, nofs b hb, .inl hb, fun y c e => (f2 b hb).2.2.2.2.1 y c (hsub y c e), fun p q z => ?_⟩
    · exact Nat.ne_of_lt (Nat.lt_of_lt_of_le (fplt b hb) (by (clear hp hn hx' I4 nofs fplt turn hHC hHD hDC hC neC hCe hacc hDe old hHa nobinds hW f2 hhas hsub hclos hlo' hfr hfy hsw hs hz2 hl2 hlo hfree hcell hnames hkind hx hj hc; omega) : D ≤ C))
    · rcases List.mem_append.mp q with q | q
      · exact absurd (show p ∈ ([] : List (Addr × Obj)) from q) (by simp)
      · exact hp p q (by rw [z]; exact hb)
  have loop : ∀ tk, codeAny (model X.prog X.w) X.A (.compLoop (.ListComp elt [⟨.Name x px, iter, ifs, 0⟩] sc pos) 0 (.ref it) (.ref D) (compEnvC sc cl C X.env)) (compPost (model X.prog X.w) X.A X.xe (some (assign (.Name y py) X.env)) (fun _ s' => SP X pins DD .next s') (.ref D) C) { s2 with heap := h₁, toks := tk } := fun tk => by
    refine codeAny_compLoop_tests (fun n s' => ∃ i ys o H', Inv X' [] (o :: σ) H' s' ∧ tn i s'.heap ∧ (∀ b ∈ fp, H' b = none) ∧ W i n ys H') ?_ m0 ⟨0, [], none, _, I4 tk, T.keep _ _ _ st2 fun b hb o e => old b o e, fun b hb => ?_, w0⟩
    · rintro n s3 ⟨i, ys, o3, H3, I3, st3, fr3, w3⟩
      obtain ⟨hD3, alt⟩ := turn i n ys H3 w3
      rcases alt with ⟨stop, qn⟩ | ⟨go, hlen, step⟩
      · refine wpAny_mono (T.done X' rfl rfl rfl hc i [] s3 _ H3 (fun _ _ => False) I3 (fpX fr3 (by simp)) st3 stop) (fun r s4 hpq => ?_) fun _ _ f => f.elim
        obtain ⟨hr, I4'⟩ := hpq
        subst hr
        obtain ⟨mC, hnC, _⟩ := I4'.loc
        have nC : ∀ b u, H3 b = some u → b ≠ C := fun b u e z => by rw [z] at e; rw [show H3 C = none from I4'.free] at e; cases e
        have un : Un (frs X.stack) fp H2 H3 s2.heap s4.heap :=
          ⟨fun b o e n1 n2 n3 => I4'.base.keep b o e n1 n2 n3, fun b o e n1 n2 n3 => I4'.base.slot b o e n1 n2 n3, I4'.base.free, fun b o e n1 => I4'.base.there b o e n1, I4'.base.tups, I4'.base.frzs, I4'.base.tbls⟩
        have I5 : Inv X pins σ H3 s4 := I2.call' (s' := s4) I4'.os un I4'.hok I4'.bare fun b hb => ⟨(f2 b hb).2.2.2.1, (f2 b hb).2.1, (f2 b hb).2.2.2.2.1, (f2 b hb).2.2.2.2.2⟩
        obtain ⟨oC, epC, esC, hoC, _⟩ := id hnC
        have liveL : ∃ o, s2.heap.get? X.env.locals = some o := by obtain ⟨m, ⟨o, es, ep, z, _⟩, _⟩ := I2.loc; exact ⟨o, z⟩
        have neL : X.env.locals ≠ C := by obtain ⟨o, z⟩ := liveL; exact neC _ o z
        have neCell : ∀ y c, X.env.cells.lookup y = some c → c ≠ C := fun y c e => by obtain ⟨v, o, r, _⟩ := I2.cell y c e; exact neC c o r
        dsimp only [compPost]
        refine wpAny_assign_Name (store_ok2 I5 hN hj hyl (v := .ref D) rfl (fun s6 I6 hpq => ?_) hfy)
        obtain ⟨a, sb, ha⟩ := hpq
        have haC : C ≠ a := by
          rcases ha with z | z
          · rw [z]; exact Ne.symm neL
          · exact Ne.symm (neCell _ _ z)
        have hoC6 : s6.heap.get? C = some oC := (sb.2 C haC).trans hoC
        refine ⟨mC, hnC.sameBut sb haC, fun h'' hs'' => ?_⟩
        have hlt : C < h''.objs.size := by rw [hs''.1]; exact Heap.lt_size hoC6
        have hok'' : HOk X.prog X.w H3 h'' := fun b u e => (I6.hok b u e).stay (fun c v hcc q => hs''.extBut c v (by
          rcases hcc with z | z
          · rw [z]; exact nC b u e
          · exact nC c _ z) q) (fun _ q => q) fun _ _ q => q
        have un2 : Un (frs X.stack) [C] H3 H3 s6.heap h'' :=
          ⟨fun b o e n1 n2 n3 => hs''.extBut b o (fun z => n3 (by simp [z])) e, fun b o e n1 n2 n3 => ⟨o.slots, hs''.extBut b o (fun z => n3 (by simp [z])) e⟩, fun b o e n1 _ => n1, fun b o e n1 => ⟨o, hs''.extBut b o (fun z => n1 (by simp [z])) e⟩, fun _ _ q => q, fun _ _ _ q => q, fun b ps q => ⟨#[], by rw [Array.append_empty]; exact q⟩⟩
        refine ⟨_, H3, I6.call' (s' := { s6 with heap := h'' }) rfl un2 hok'' I6.bare (fun b hb => ?_), qn⟩
        have eb : b = C := by simpa using hb
        subst eb
        refine ⟨.inr (Nat.le_trans I2.sz (by (clear hlt hoC6 haC neCell neL hoC nC fpX hx' I4 hHC hCle hDC neC hCe ha hD3 fr3 nofs fplt turn hHD hacc old hHa nobinds hW f2 hhas hsub hclos hlo' hfr hfy hsw hs hz2 hl2 hlo hfree hcell hnames hkind hx hj hc; omega))), Ne.symm neL, neCell, fun p hp z => ?_⟩
        obtain ⟨z1, _⟩ := I2.pin p hp
        exact neC p.1 p.2 z1 z
      · refine wpAny_mono (T.item X' rfl rfl rfl hc i [] s3 _ H3 (fun _ _ => False) I3 (fpX fr3 (by simp)) st3 go) (fun r s4 hpq => ?_) fun _ _ f => f.elim
        obtain ⟨u, hr, h4⟩ := hpq
        subst hr
        have eg : (letOwnedTupleGo (.Name x px) (.ref it) u >>= fun _ => assign (.Name x px) (compEnvC sc cl C X.env) u) = assign (.Name x px) (compEnvC sc cl C X.env) u := pure_bind () _
        show wpAny _ _ (assign (.Name x px) (compEnvC sc cl C X.env) u) _ _ s4
        rw [← eg]
        refine wpAny_bind (wpAny_mono h4 (fun _ s5 hpq => ?_) fun _ _ f => f.elim)
        obtain ⟨y, H5, I5, r5, y5, st5, fr5⟩ := hpq
        have I5' := I5.pinned (fpX fr5 (by simp)) (T.obj _ _ st5)
        refine wpAny_mono (pg_name (X := X') (i := 0) (pos := px) hN' rfl (.inl hx') (.inr hx') _ s5 _ H5 y u (fun σ' H' => σ' = some y :: σ ∧ H' = H5) I5' r5 ⟨rfl, rfl⟩) (fun _ s6 hpq => ?_) fun _ _ f => f.elim
        obtain ⟨σ6, H6, I6, e1, e2⟩ := hpq
        subst e1 e2
        refine wpAny_mono (PT' _ s6 _ _ _ I6 (step y _ y5)) (fun ok s7 hpq => ?_) fun _ _ f => f.elim
        obtain ⟨H7, I7, q7⟩ := hpq
        have again : ∀ {s8 : Shared} {H8 : Hp} {ys' : List V}, Inv X' ([] ++ pinsAt fp s5.heap) (some y :: σ) H8 s8 → (∃ m', m' < n ∧ W (i + 1) m' ys' H8) → ∃ m, m < n ∧ ∃ i ys o H', Inv X' [] (o :: σ) H' s8 ∧ tn i s8.heap ∧ (∀ b ∈ fp, H' b = none) ∧ W i m ys H' := fun {s8 H8 ys'} I8 ⟨m', hm, w8⟩ => by
          refine ⟨m', hm, i + 1, ys', some y, H8, I8.unpinned, T.keep _ _ _ st5 fun b hb o e => (I8.pin (b, o) (List.mem_append_right _ (List.mem_append_right _ (mem_pinsAt hb e)))).1, fun b hb => ?_, w8⟩
          obtain ⟨o, e, d⟩ := T.obj _ _ st5 b hb
          exact (I8.pin (b, o) (List.mem_append_right _ (List.mem_append_right _ (mem_pinsAt hb e)))).2.1
        cases ok with
        | false => exact again I7 q7
        | true =>
          have q7 : te (some y :: σ) H7 _ := q7
          refine wpAny_mono (PE' _ s7 _ _ _ I7 q7) (fun z s8 hpq => ?_) fun _ _ f => f.elim
          obtain ⟨yv, H8, I8, r8, hD8, q8⟩ := hpq
          refine wpAny_mono (mt_append (X := X') _ s8 _ H8 (.ref D) [yv] (.ref D) [z] (fun _ H9 => H9 = upd H8 D (.lst (ys ++ [yv]))) I8 rfl (.cons r8 .nil) ⟨D, ys, yv, rfl, rfl, hD8, hlen, rfl⟩) (fun _ s9 hpq => ?_) fun _ _ f => f.elim
          obtain ⟨_, H9, I9, _, e9⟩ := hpq
          subst e9
          exact again I9 q8
    · show upd H2 D (.lst []) b = none
      rw [upd_ne (Nat.ne_of_lt (fplt b hb))]
      exact (f2 b hb).1
  exact codeAny_compStart_list (loop _) (T.self _ _ _ _ _ (T.keep _ _ _ st2 fun b hb o e => old b o e) (loop _))
end
end L2

namespace L2
open PySem PySem.Spec PyProof.Rows
theorem ix_listK {X : Cx} (K : PySem.W.Frag) (hK : X.K = K := by rfl) : IxR X (rIxL K) := by
  subst hK
  exact ix_list
theorem ix_dictGK {X : Cx} (P : Program) (w : World) (hu : X.A.units + 64 < cLine) (hP : X.prog = P := by rfl) (hw : X.w = w := by rfl) : IxR X (rIxG P w) := by
  subst hP hw
  exact ix_dictG hu
theorem passes_no {X : Cx} : Passes (CXE X.prog X.w) X E0 := fun _ _ _ _ _ _ _ h => by
  obtain ⟨_, _, _, _, _, _, _, _, _, _, _, _, _, _, _, h⟩ := h
  exact h.elim
theorem walk63z {l : PySem.W.OpenLaw} {k : Nat} {x : Str} {q : Program} {loose : List Str} {XP : (Str → Option Value) → Heap → Prop} {d : DefRec} {K : Params → PySem.W.Frag} (hn : l.most = some 63) (hdf : d.params.defaults = []) (hr : Room k callerA)
    (F : ∀ (w : World) (mg : Str → Option Value) (fa : Addr) (h : Heap), (K w.params).In h → h.Ns mainGlobals mg → mg d.name = some (.ref fa) →
      ∃ fd : FuncData, (∀ (s : Shared) (u : Value), BindsTo s fd ⟨[u], []⟩ [(x, u)]) ∧ ∀ base : Heap, (K w.params).In base → base.Ns mainGlobals mg → FnOk l.prog w (K w.params) mg base CX0 k fa fd [x] (spLaw (K w.params))) :
    PySem.W.WalkO q loose XP (fun w h => (K w.params).In h) l.row.toRowW d [] (fun f vs => PySem.call f vs) := walk63 hn hdf hr (fun _ _ Y => Y) F
theorem over_rev {a : Addr} {ys : List V} : Over (Itv a ys.length) a (.lst ys) ys.reverse := fun H2 e => by
  refine ⟨fun i h => ⟨ys, e, rfl, by simpa using h⟩, fun i x H3 hi h => ?_, ?_⟩
  · obtain ⟨e1, xs, e2, e3⟩ := h
    rw [e] at e2
    cases e2
    refine ⟨e1, ?_⟩
    rw [List.getElem?_reverse (by simpa using hi)]
    exact e3
  · show ys.reverse.length = ys.length
    rw [List.length_reverse]
theorem cutV_take {xs : List V} {t : Nat} (h : t ≤ xs.length) : cutV xs none (some (t : Int)) = xs.take t := by
  unfold cutV
  rw [HT.sIx_none, HT.sIx_nat, List.drop_zero, Nat.sub_zero, Nat.min_eq_left h]
theorem kit_nt (K : PySem.W.Frag) : PySem.W.kitOne K (.type "NoneType") (.type "tuple") = some false := by kernel_rfl
theorem kit_nl (K : PySem.W.Frag) : PySem.W.kitOne K (.type "NoneType") (.type "list") = some false := by kernel_rfl
theorem kit_nb (K : PySem.W.Frag) : PySem.W.kitOne K (.type "NoneType") (.type "bool") = some false := by kernel_rfl
theorem kit_ni (K : PySem.W.Frag) : PySem.W.kitOne K (.type "NoneType") (.type "int") = some false := by kernel_rfl
theorem kit_ns (K : PySem.W.Frag) : PySem.W.kitOne K (.type "NoneType") (.type "str") = some false := by kernel_rfl
end L2
namespace RA
open PySem L2
theorem ar_len {a b x : Nat} (h : a = b) (hx : x < b) : x < a := Nat.lt_of_lt_of_eq hx h.symm
theorem ar_lt {i j : Nat} (h : i < j + 1) (n : ¬ i = j) : i < j := Nat.lt_of_le_of_ne (Nat.le_of_lt_succ h) n
theorem ar_rng {n : Nat} (h : n ≤ 1000) : -(2 ^ 62) ≤ (n : Int) ∧ (n : Int) < 2 ^ 62 := by omega
theorem ar_rng1 {n : Nat} (h : n ≤ 1000) : -(2 ^ 62) ≤ (n : Int) + 1 ∧ (n : Int) + 1 < 2 ^ 62 := by omega
theorem ar_toNat {r : Int} {n : Nat} (h0 : 0 ≤ r) (h1 : r < n) : r.toNat < n := (Int.toNat_lt h0).mpr h1
theorem ar_at {j n : Nat} (h : ¬ j < n) (h2 : j - n < 1) : j = n := by omega
theorem ar_64 {n : Int} (h0 : 0 ≤ n) (h1 : n < 2147483647) : -(2 ^ 64) < n ∧ n < 2 ^ 64 := by omega
theorem ar_pos (i : Nat) : (0 : Int) < 1 + (i : Int) := by omega
theorem ar_pos1 {n : Nat} (h : 1 ≤ n) : (0 : Int) < (n : Int) := Int.ofNat_lt.mpr h
theorem ar_pos2 (i : Nat) : (0 : Int) < 0 + (i : Int) + 1 := by omega
theorem ar_long {g : Int} {i n : Nat} (h : g < 0 + (i : Int) + 1) (hi : i < n) : g.toNat < n := by omega
theorem ar_lt2 {i n : Nat} (h : 0 + (i : Int) + 1 < (n : Int)) : i + 1 < n := by omega
theorem ar_fd {n : Nat} (h1 : 1 ≤ n) (h : n ≤ 60) : (0 : Int) < (n : Int) ∧ (n : Int) < 1073741824 := by omega
theorem ar_few {u a q : Nat} (hq : q ≤ 60 * 60) (hf : u + a ≤ q + 1) : a < sizeLine := by
  have : 4000 ≤ sizeLine := line_ge (by decide)
  omega
theorem ar_ms {u1 u2 a e n : Nat} (h : u2 + (a + e) ≤ u1 + a) (hn : n < a) : u2 + (a + e - (n + 1)) < u1 + (a - n) := by omega
theorem ar_sub1 {t i : Nat} (h : i < t) : t - 1 - i < t := by omega
theorem ar_sub {t i : Nat} (h : i < t) : ∃ u, t - i = u + 1 ∧ t - 1 - i = u ∧ t - (i + 1) = u := ⟨t - i - 1, by omega, by omega, by (clear h; omega)⟩
theorem ar_wl {w i t k : Nat} (h1 : w = i) (h2 : i < t) (h3 : t < k + 1) (h4 : k ≤ 3600) : w + 1 ≤ 16777216 := by omega
theorem ar_w1 {w i n : Nat} (h1 : w ≤ i) (h2 : i < n) (h3 : n ≤ 63) : w + 1 ≤ 16777216 := by omega
theorem ar_k {k : Nat} (h : k ≤ 3600) : k + 1 < sizeLine := by
  have : 4000 ≤ sizeLine := line_ge (by decide)
  omega
theorem ar_room (z : Int) (b m : Nat) (hm : 0 < m) : ∃ n : Nat, (n : Int) = (b : Int) + z % (m : Int) ∧ b ≤ n ∧ n < b + m := by
  have h0 := Int.emod_nonneg z (show (m : Int) ≠ 0 by omega)
  have h1 := Int.emod_lt_of_pos z (show (0 : Int) < (m : Int) by (clear h0; omega))
  exact ⟨b + (z % (m : Int)).toNat, by (clear h1 hm; omega), by (clear h1 h0 hm; omega), by (clear hm; omega)⟩
theorem ar_iW {i n : Nat} (h : i < ((n : Int) - 1).toNat) : 1 + (i : Int) < (n : Int) := by omega
theorem ar_p {p : Int} (h : 0 ≤ p) (i : Nat) : 0 ≤ p + (0 + (i : Int)) := by omega
theorem ar_l26 {l i : Nat} (h : l + i = 26) (hi : i ≤ 3) : 1 ≤ l ∧ l ≤ 26 := by omega
theorem ar_26 {n : Nat} (h : n ≤ 26) : (n : Int) < 1073741824 := by omega
theorem ar_sum {a b n : Nat} (h1 : a ≤ n) (h2 : b ≤ n) (hn : n ≤ 26) : a + b ≤ 16777216 := by omega
theorem ar_succ {x : Int} (h : 0 ≤ x) : (x + 1).toNat = x.toNat + 1 := by omega
theorem ar_draw {k l i : Nat} (h : k < l) (hl : l + i = 26) : min k l + (l - (k + 1)) + (i + 1) = 26 := by omega
theorem intsV_zs (ws : List Nat) : intsV ws = (zs ws).map V.int := by
  unfold intsV zs
  rw [List.map_map]
  rfl
theorem zs_len (ws : List Nat) : (zs ws).length = ws.length := by simp [zs]
theorem intsV_len (ws : List Nat) : (intsV ws).length = ws.length := by simp [intsV]
theorem intsV_get {ws : List Nat} {i : Nat} (h : i < ws.length) : (intsV ws)[i]? = some (.int ((ws.getD i 0 : Nat) : Int)) := by
  unfold intsV
  rw [List.getElem?_map, List.getD_eq_getElem?_getD, List.getElem?_eq_getElem h]
  rfl
theorem atI_ints {ns : List Nat} {r : Nat} (h : r < ns.length) : atI (intsV ns) (r : Int) = some (.int ((ns.getD r 0 : Nat) : Int)) := atI_nat (intsV_get h)
theorem take_snoc {α : Type} {l : List α} {i : Nat} {x : α} (h : l[i]? = some x) : l.take (i + 1) = l.take i ++ [x] := by
  rw [List.take_add_one, h]
  rfl
theorem dec_nat {a b : Nat} : decide (V.int (a : Int) = V.int (b : Int)) = decide (a = b) := by
  by_cases h : a = b
  · subst h
    simp
  · have : ¬ V.int (a : Int) = V.int (b : Int) := fun z => h (by injection z with z; exact Int.ofNat.inj z)
    rw [decide_eq_false h, decide_eq_false this]
def oV : Option (List Nat) → V
  | none => .non
  | some w => .str (tx w)
def LotsAt (H : Hp) (lots : List Addr) (W : List (List Nat)) (B : List Bool) : Prop := ∀ (i : Nat) (r : Addr), lots[i]? = some r → H r = some (.lst (intsV (Rd W B i)))
theorem LotsAt.same {H H' : Hp} {lots : List Addr} {W : List (List Nat)} {B : List Bool} (h : LotsAt H lots W B) (s : Same H H') : LotsAt H' lots W B := fun i r e => s _ _ (h i r e)
/-- the first that is false -/
theorem first_false {f : Nat → Bool} {n j : Nat} (hj : j < n) (hf : f j = false) : false ∈ (List.range n).map f ∧ ((List.range n).map f).idxOf false < n ∧ f (((List.range n).map f).idxOf false) = false ∧ ∀ i < ((List.range n).map f).idxOf false, f i = true := by
  have get : ∀ i, i < n → ((List.range n).map f)[i]? = some (f i) := fun i hi => by rw [List.getElem?_map, List.getElem?_range hi]; rfl
  have hm : false ∈ (List.range n).map f := List.mem_map.mpr ⟨j, List.mem_range.mpr hj, hf⟩
  have hlt := List.idxOf_lt_length_of_mem hm
  have hlt2 : ((List.range n).map f).idxOf false < n := by simpa using hlt
  refine ⟨hm, hlt2, ?_, fun i hi => ?_⟩
  · have e := get _ hlt2
    rw [List.getElem?_eq_getElem hlt, List.getElem_idxOf hlt] at e
    exact (Option.some.inj e).symm
  · have e := get i (by (clear hlt get hf hj; omega))
    cases h : f i with
    | true => rfl
    | false =>
      rw [h] at e
      have := idxOf_leG e
      (clear h e hlt2 hlt get hf hj; omega)
/-- a row of a machine -/
theorem MachAt.row {H : Hp} {rows : List Addr} {W : List (List Nat)} (hl : rows.length = W.length) (h : RowsAt H rows W) {r : Nat} (hr : r < W.length) : ∃ ra, rows[r]? = some ra ∧ H ra = some (.tup (intsV (W.getD r []))) := by
  have e : rows[r]? = some (rows[r]'(by omega)) := List.getElem?_eq_getElem _
  obtain ⟨ws, h1, h2⟩ := h r _ e
  refine ⟨_, e, ?_⟩
  rw [h2, List.getD_eq_getElem?_getD, h1]
  rfl
theorem same_none {H H' : Hp} {p : Addr} (s : Same H H') (h : H' p = none) : H p = none := by
  cases e : H p with
  | none => rfl
  | some o => rw [s _ _ e] at h; cases h
/-- a comprehension over a range -/
theorem comp_range {lo : Int} {n : Nat} {tt : TT} {te : TE} {σ : St} {H : Hp} {Q : VK} (Pv : Addr → Nat → List V → Hp → Prop) (hz : n ≤ sizeLine)
    (h0 : ∀ D, H D = none → Pv D 0 [] (L2.upd H D (.lst [])))
    (hs : ∀ (D : Addr) (i : Nat) (ys : List V) (H' : Hp) (R1 : VK) (R2 : Hp → Prop), H D = none → i < n → Same H H' → H' D = some (.lst ys) → Pv D i ys H' →
      (∀ y H5, H5 D = some (.lst ys) → Same H (L2.upd H5 D (.lst (ys ++ [y]))) → Pv D (i + 1) (ys ++ [y]) (L2.upd H5 D (.lst (ys ++ [y]))) → R1 y H5) → (∀ H4, Same H H4 → H4 D = some (.lst ys) → Pv D (i + 1) ys H4 → R2 H4) →
      tt (some (.int (lo + (i : Int))) :: σ) H' fun b H4 => if b = true then te (some (.int (lo + (i : Int))) :: σ) H4 R1 else R2 H4)
    (hq : ∀ D ys H', H D = none → Same H H' → H' D = some (.lst ys) → Pv D n ys H' → Q (.ref D) H') : ∀ D, H D = none → ∃ W : Nat → Nat → List V → Hp → Prop,
  (∃ m, W 0 m [] (L2.upd H D (.lst []))) ∧ ∀ i m ys H2, W i m ys H2 → H2 D = some (.lst ys) ∧ (((Itr lo n).stop i H2 ∧ Q (.ref D) H2) ∨ ((Itr lo n).go i H2 ∧ ys.length < sizeLine ∧ ∀ x H3, (Itr lo n).yld i H2 x H3 →
    tt (some x :: σ) H3 fun b H4 => if b = true then te (some x :: σ) H4 fun y H5 => H5 D = some (.lst ys) ∧ ∃ m', m' < m ∧ W (i + 1) m' (ys ++ [y]) (L2.upd H5 D (.lst (ys ++ [y])))
      else ∃ m', m' < m ∧ W (i + 1) m' ys H4)) := by
  intro D hD
  refine ⟨fun i m ys H2 => m = n - i ∧ i ≤ n ∧ ys.length ≤ i ∧ Same H H2 ∧ H2 D = some (.lst ys) ∧ Pv D i ys H2, ⟨n, by simp, Nat.zero_le _, by simp, Same.upd hD, upd_same, h0 D hD⟩, ?_⟩
  rintro i m ys H2 ⟨rfl, hi, hy, hsm, hDl, hp⟩
  refine ⟨hDl, ?_⟩
  by_cases hlt : i < n
  · refine .inr ⟨hlt, Nat.lt_of_le_of_lt hy (Nat.lt_of_lt_of_le hlt hz), fun x H3 hyl => ?_⟩
    obtain ⟨e, hx⟩ := hyl
    subst e hx
    exact hs D i ys H3 _ _ hD hlt hsm hDl hp (fun y H5 a b c => ⟨a, n - (i + 1), Nat.sub_succ_lt_self _ _ hlt, rfl, hlt, by rw [List.length_append]; exact Nat.succ_le_succ hy, b, upd_same, c⟩) (fun H4 a b c => ⟨n - (i + 1), Nat.sub_succ_lt_self _ _ hlt, rfl, hlt, Nat.le_succ_of_le hy, a, b, c⟩)
  · have e : i = n := Nat.le_antisymm hi (Nat.le_of_not_lt hlt)
    subst e
    exact .inl ⟨Nat.le_refl _, hq D ys H2 hD hsm hDl hp⟩
theorem atI_lastG {lots : List Addr} {k : Nat} {la : Addr} (hl : lots.length = k + 1) (h : lots[k]? = some la) : atI (lots.map V.ref) (-1) = some (.ref la) := by
  have e : lots = lots.take k ++ [la] := by rw [← take_snoc h, List.take_of_length_le (by (clear h; omega))]
  rw [e, List.map_append]
  exact atI_last _ _
theorem map_getD {f : Nat → Nat} {ws : List Nat} {j : Nat} (h : j < ws.length) : (ws.map f).getD j 0 = f (ws.getD j 0) := by
  rw [List.getD_eq_getElem?_getD, List.getD_eq_getElem?_getD, List.getElem?_map, List.getElem?_eq_getElem h]
  rfl
theorem getD_in {ws : List Nat} {j : Nat} (h : j < ws.length) : ws.getD j 0 ∈ ws := by
  rw [List.getD_eq_getElem?_getD, List.getElem?_eq_getElem h]
  exact List.getElem_mem h
theorem lots_ne {H : Hp} {r p : Addr} {ns : List Nat} {ls : List Addr} (h1 : H r = some (.lst (intsV ns))) (h2 : H p = some (.lst (ls.map V.ref))) (h3 : ls ≠ []) : r ≠ p := by
  rintro rfl
  rw [h1] at h2
  injection h2 with h2
  injection h2 with h2
  cases ls with
  | nil => exact h3 rfl
  | cons a l =>
    cases ns with
    | nil => cases h2
    | cons n ns =>
      rw [List.map_cons, intsV, List.map_cons] at h2
      injection h2 with h4 _
      cases h4
def RInv (H : Hp) (wy mk p : Addr) (W : List (List Nat)) (B : List Bool) (m : Nat) (σ : St) (H' : Hp) : Prop := ∃ (k : Nat) (lots : List Addr) (s4 s5 : Option V), m = twins W.length (Rd W B k) ∧ σ = [some (.ref wy), some (.ref mk), some (.int ((W.length : Nat) : Int)), some (.ref p), s4, s5] ∧ Same H H' ∧ H' p = some (.lst (lots.map V.ref)) ∧ lots.length = k + 1 ∧ LotsAt H' lots W B ∧ ∀ i < k, Rd W B (i + 1) ≠ Rd W B i
section
variable {K : PySem.W.Frag} {te : TE} {tt : TT} {σ : St} {H : Hp} {Q : VK} {a c d : Addr} {o : HO} {xs zs : List V}
theorem comp_sq {tl : TE} (htl : ∀ R : VK, R (.ref a) H → tl σ H R) (ho : o = .lst xs ∨ o = .tup xs) (hH : H a = some o) (Pv : Addr → Nat → List V → Hp → Prop) (hz : xs.length ≤ sizeLine)
    (h0 : ∀ D, H D = none → Pv D 0 [] (L2.upd H D (.lst [])))
    (hs : ∀ (D : Addr) (i : Nat) (x : V) (ys : List V) (H' : Hp) (R1 : VK) (R2 : Hp → Prop), H D = none → xs[i]? = some x → Same H H' → H' D = some (.lst ys) → Pv D i ys H' →
      (∀ y H5, H5 D = some (.lst ys) → Same H (L2.upd H5 D (.lst (ys ++ [y]))) → Pv D (i + 1) (ys ++ [y]) (L2.upd H5 D (.lst (ys ++ [y]))) → R1 y H5) → (∀ H4, Same H H4 → H4 D = some (.lst ys) → Pv D (i + 1) ys H4 → R2 H4) →
      tt (some x :: σ) H' fun b H4 => if b = true then te (some x :: σ) H4 R1 else R2 H4)
    (hq : ∀ D ys H', H D = none → Same H H' → H' D = some (.lst ys) → Pv D xs.length ys H' → Q (.ref D) H') : tComp (iSq tl) tt te σ H Q :=
  htl _ ⟨a, o, xs, rfl, ho, hH, fun J ov => comp_over ov hH Pv hz h0 hs hq⟩
theorem comp2_enumG {t : TA} (ht : ∀ R : List V → Hp → Prop, R [.ref c] H → t σ H R) (hH : H c = some (.tup xs)) (Pv : Addr → Nat → List V → Hp → Prop) (hz : xs.length ≤ sizeLine)
    (h0 : ∀ D, H D = none → Pv D 0 [] (L2.upd H D (.lst [])))
    (hs : ∀ (D : Addr) (i : Nat) (x : V) (ys : List V) (H' H3 : Hp) (R1 : VK), H D = none → xs[i]? = some x → Same H H' → H' D = some (.lst ys) → Pv D i ys H' → Same H' H3 →
      (∀ y H5, H5 D = some (.lst ys) → Same H (L2.upd H5 D (.lst (ys ++ [y]))) → Pv D (i + 1) (ys ++ [y]) (L2.upd H5 D (.lst (ys ++ [y]))) → R1 y H5) → te (some (.int (i : Int)) :: some x :: σ) H3 R1)
    (hq : ∀ D ys H', H D = none → Same H H' → H' D = some (.lst ys) → Pv D xs.length ys H' → Q (.ref D) H') : tComp2 K (iEnumT t) te σ H Q :=
  ht _ ⟨c, xs, rfl, hH, comp2_enum (K := K) hH Pv hz h0 hs hq⟩
theorem comp2_zipG {t : TA} (ht : ∀ R : List V → Hp → Prop, R [.ref c, .ref d] H → t σ H R) (hH : H c = some (.tup xs)) (hK : H d = some (.tup zs)) (hl : xs.length = zs.length) (Pv : Addr → Nat → List V → Hp → Prop) (hz : xs.length ≤ sizeLine)
    (h0 : ∀ D, H D = none → Pv D 0 [] (L2.upd H D (.lst [])))
    (hs : ∀ (D : Addr) (i : Nat) (x z : V) (ys : List V) (H' H3 : Hp) (R1 : VK), H D = none → xs[i]? = some x → zs[i]? = some z → Same H H' → H' D = some (.lst ys) → Pv D i ys H' → Same H' H3 →
      (∀ y H5, H5 D = some (.lst ys) → Same H (L2.upd H5 D (.lst (ys ++ [y]))) → Pv D (i + 1) (ys ++ [y]) (L2.upd H5 D (.lst (ys ++ [y]))) → R1 y H5) → te (some x :: some z :: σ) H3 R1)
    (hq : ∀ D ys H', H D = none → Same H H' → H' D = some (.lst ys) → Pv D xs.length ys H' → Q (.ref D) H') : tComp2 K (iZipT t) te σ H Q :=
  ht _ ⟨c, d, xs, zs, rfl, hH, hK, comp2_zip (K := K) hH hK hl Pv hz h0 hs hq⟩
theorem comp_rngG {t : TA} {n : Nat} (ht : ∀ R : List V → Hp → Prop, R [.int (n : Int)] H → t σ H R) (hn : n ≤ 1000) (Pv : Addr → Nat → List V → Hp → Prop)
    (h0 : ∀ D, H D = none → Pv D 0 [] (L2.upd H D (.lst [])))
    (hs : ∀ (D : Addr) (i : Nat) (ys : List V) (H' : Hp) (R1 : VK) (R2 : Hp → Prop), H D = none → i < n → Same H H' → H' D = some (.lst ys) → Pv D i ys H' →
      (∀ y H5, H5 D = some (.lst ys) → Same H (L2.upd H5 D (.lst (ys ++ [y]))) → Pv D (i + 1) (ys ++ [y]) (L2.upd H5 D (.lst (ys ++ [y]))) → R1 y H5) → (∀ H4, Same H H4 → H4 D = some (.lst ys) → Pv D (i + 1) ys H4 → R2 H4) →
      tt (some (.int (0 + (i : Int))) :: σ) H' fun b H4 => if b = true then te (some (.int (0 + (i : Int))) :: σ) H4 R1 else R2 H4)
    (hq : ∀ D ys H', H D = none → Same H H' → H' D = some (.lst ys) → Pv D n ys H' → Q (.ref D) H') : tComp (iRng1 t) tt te σ H Q :=
  ht _ ⟨(n : Int), rfl, by (clear hq hs h0 ht; omega), by (clear hq hs h0 ht; omega), comp_range (n := n) Pv (line_ge (by (clear hq hs h0 ht; omega))) h0 hs hq⟩
end
end RA

namespace RA
open PySem L2
/-! ## pairs of rooms, gone through together -/
def unseen (n : Nat) (ps : List (Nat × Nat)) : Nat := (List.range (n * n)).countP fun x => !decide ((x / n, x % n) ∈ ps)
theorem unseen_le (n : Nat) (ps : List (Nat × Nat)) : unseen n ps ≤ n * n := by
  have := List.countP_le_length (p := fun x => !decide ((x / n, x % n) ∈ ps)) (l := List.range (n * n))
  rw [List.length_range] at this
  exact this
theorem unseen_lt {n x y : Nat} {ps : List (Nat × Nat)} (hx : x < n) (hy : y < n) (hp : (x, y) ∉ ps) : unseen n (ps ++ [(x, y)]) < unseen n ps := by
  have d1 : (x * n + y) / n = x := by rw [Nat.mul_comm, Nat.mul_add_div (by (clear hp hx; omega)), Nat.div_eq_of_lt hy]; (clear hp hy hx; omega)
  have d2 : (x * n + y) % n = y := by rw [Nat.mul_comm, Nat.mul_add_mod, Nat.mod_eq_of_lt hy]
  refine countP_lt (fun z hz h => ?_) ⟨x * n + y, ?_, ?_, ?_⟩
  · simp only [Bool.not_eq_true', decide_eq_false_iff_not] at h ⊢
    exact fun q => h (List.mem_append_left _ q)
  · rw [List.mem_range]
    calc x * n + y < x * n + n := by (clear d1 hp hx; omega)
      _ = (x + 1) * n := by rw [Nat.succ_mul]
      _ ≤ n * n := Nat.mul_le_mul_right _ hx
  · simp only [d1, d2, Bool.not_eq_true', decide_eq_false_iff_not]
    exact hp
  · simp only [d1, d2, Bool.not_eq_false', decide_eq_true_eq]
    exact List.mem_append_right _ (List.mem_singleton.mpr rfl)
theorem pairs_all {L : List Nat} {W : List (List Nat)} {ps : List (Nat × Nat)} (hc : ∀ p ∈ ps, ∀ i < L.length, (goal W p.1 i, goal W p.2 i) ∈ ps) : ∀ (u : List Nat) (p : Nat × Nat), p ∈ ps → (∀ c ∈ u, c ∈ L) → (run L W p.1 u, run L W p.2 u) ∈ ps
  | [], p, h, _ => h
  | c :: u, p, h, hu => pairs_all hc u _ (hc p h (L.idxOf c) (List.idxOf_lt_length_of_mem (hu c (by simp)))) fun d hd => hu d (by simp [hd])
theorem alike_all {L : List Nat} {W : List (List Nat)} {B : List Bool} {ps : List (Nat × Nat)} {l r : Nat} (h0 : (l, r) ∈ ps) (hm : ∀ p ∈ ps, B.getD p.1 false = B.getD p.2 false) (hc : ∀ p ∈ ps, ∀ i < L.length, (goal W p.1 i, goal W p.2 i) ∈ ps) :
    ∀ u : List Nat, (∀ c ∈ u, c ∈ L) → B.getD (run L W l u) false = B.getD (run L W r u) false := fun u hu => hm _ (pairs_all hc u _ h0 hu)
def kI (p : Nat × Nat) : List Int := [(p.1 : Int), (p.2 : Int)]
theorem kI_inj {p q : Nat × Nat} (h : kI p = kI q) : p = q := by
  obtain ⟨a, b⟩ := p
  obtain ⟨c, d⟩ := q
  unfold kI at h
  injection h with h1 h2
  injection h2 with h2 _
  have e1 : a = c := Int.ofNat.inj h1
  have e2 : b = d := Int.ofNat.inj h2
  rw [e1, e2]
theorem kI_mem {p : Nat × Nat} {ps : List (Nat × Nat)} : kI p ∈ ps.map kI ↔ p ∈ ps := by
  rw [List.mem_map]
  exact ⟨fun ⟨q, hq, e⟩ => by rw [← kI_inj e]; exact hq, fun h => ⟨p, h, rfl⟩⟩
theorem valH_isSome {κ : Type} [DecidableEq κ] (k : κ) : ∀ kvs : List (κ × Addr × V), (valH kvs k).isSome = decide (k ∈ kvs.map (·.1))
  | [] => rfl
  | a :: kvs => by
    have ih := valH_isSome k kvs
    by_cases e : a.1 = k
    · have h1 : valH (a :: kvs) k = some a.2.2 := by simp [valH, List.find?_cons, e]
      rw [h1, decide_eq_true (by rw [List.map_cons, e]; exact List.mem_cons_self)]
      rfl
    · have h1 : valH (a :: kvs) k = valH kvs k := by simp [valH, List.find?_cons, e]
      rw [h1, ih]
      refine decide_eq_decide.mpr ⟨fun z => by rw [List.map_cons]; exact List.mem_cons_of_mem _ z, fun z => ?_⟩
      rw [List.map_cons, List.mem_cons] at z
      exact z.resolve_left fun q => e q.symm
def PairsAt (P : Program) (w : World) (H : Hp) (d q : Addr) (ps : List (Nat × Nat)) : Prop := ∃ (kvs : List (List Int × Addr × V)) (ts : List Addr), H d = some (hdO (pairD P w) d kvs) ∧ (∀ x ∈ kvs, TIn H x.1 x.2.1) ∧ kvs.map (·.1) = ps.map kI ∧
  H q = some (.lst (ts.map V.ref)) ∧ ts.length = ps.length ∧ ∀ (i : Nat) (t : Addr) (p : Nat × Nat), ts[i]? = some t → ps[i]? = some p → TIn H (kI p) t
section
variable {P : Program} {w : World} {H : Hp} {d q : Addr} {ps : List (Nat × Nat)}
theorem PairsAt.mono {H' : Hp} (h : PairsAt P w H d q ps) (s : Same H H') : PairsAt P w H' d q ps := by
  obtain ⟨kvs, ts, h1, h2, h3, h4, h5, h6⟩ := h
  exact ⟨kvs, ts, s _ _ h1, fun x hx => s _ _ (h2 x hx), h3, s _ _ h4, h5, fun i t p e1 e2 => s _ _ (h6 i t p e1 e2)⟩
theorem PairsAt.get {t : Addr} {p : Nat × Nat} (h : PairsAt P w H d q ps) (ht : TIn H (kI p) t) : ∃ o, DGet P w H d (.ref t) o ∧ o.isSome = decide (p ∈ ps) := by
  obtain ⟨kvs, ts, h1, h2, h3, h4, h5, h6⟩ := h
  refine ⟨_, .inr (.inr ⟨kvs, kI p, t, h1, h2, rfl, ht, rfl⟩), ?_⟩
  rw [valH_isSome, h3]
  exact decide_eq_decide.mpr kI_mem
theorem PairsAt.at {i : Nat} {p : Nat × Nat} (h : PairsAt P w H d q ps) (hp : ps[i]? = some p) : ∃ ys t, H q = some (.lst ys) ∧ ys.length = ps.length ∧ atI ys (i : Int) = some (.ref t) ∧ H t = some (.tup [.int (p.1 : Int), .int (p.2 : Int)]) := by
  obtain ⟨kvs, ts, h1, h2, h3, h4, h5, h6⟩ := h
  have hi : i < ts.length := by have := (List.getElem?_eq_some_iff.mp hp).1; (clear h6 h4 h3 h2 h1 hp; omega)
  exact ⟨_, ts[i], h4, by rw [List.length_map]; exact h5, atI_map V.ref (List.getElem?_eq_getElem hi), h6 i _ p (List.getElem?_eq_getElem hi) hp⟩
theorem PairsAt.row (h : PairsAt P w H d q ps) : ∃ ys, H q = some (.lst ys) ∧ ys.length = ps.length := by
  obtain ⟨kvs, ts, h1, h2, h3, h4, h5, h6⟩ := h
  exact ⟨_, h4, by rw [List.length_map]; exact h5⟩
theorem PairsAt.put {t : Addr} {p : Nat × Nat} (h : PairsAt P w H d q ps) (ht : TIn H (kI p) t) (hn : p ∉ ps) (hl : ps.length < sizeLine) :
    ∃ ob ys, DPut P w H d (.ref t) (.bl true) (L2.upd H d ob) ∧ L2.upd H d ob q = some (.lst ys) ∧ ys.length = ps.length ∧ PairsAt P w (L2.upd (L2.upd H d ob) q (.lst (ys ++ [.ref t]))) d q (ps ++ [p]) := by
  obtain ⟨kvs, ts, h1, h2, h3, h4, h5, h6⟩ := h
  have hdq : q ≠ d := by
    rintro rfl
    rw [h1] at h4
    cases h4
  have hlen : kvs.length = ps.length := by
    have := congrArg List.length h3
    simpa using this
  have hval : valH kvs (kI p) = none := by
    have hs : (valH kvs (kI p)).isSome = false := by
      rw [valH_isSome, decide_eq_false_iff_not, h3]
      exact fun z => hn (kI_mem.mp z)
    cases e : valH kvs (kI p) with
    | none => rfl
    | some v => rw [e] at hs; cases hs
  have keep : ∀ (ob u : HO) (k : List Int) (b : Addr), TIn H k b → TIn (L2.upd (L2.upd H d ob) q u) k b := fun ob u k b e => by
    have e1 : b ≠ d := by rintro rfl; rw [TIn, h1] at e; cases e
    have e2 : b ≠ q := by rintro rfl; rw [TIn, h4] at e; cases e
    rw [TIn, upd_ne e2, upd_ne e1]
    exact e
  refine ⟨_, ts.map V.ref, .inr (.inr ⟨kvs, kI p, t, h1, h2, rfl, ht, hval, by rw [hlen]; exact hl, rfl⟩), ?_, by rw [List.length_map]; exact h5, kvs ++ [(kI p, t, .bl true)], ts ++ [t], ?_, fun x hx => ?_, ?_, ?_, ?_, fun i u p' e1 e2 => ?_⟩
  · rw [upd_ne hdq]
    exact h4
  · rw [upd_ne (Ne.symm hdq), upd_same]
  · rcases List.mem_append.mp hx with hx | hx
    · exact keep _ _ _ _ (h2 x hx)
    · rw [List.mem_singleton.mp hx]
      exact keep _ _ _ _ ht
  · rw [List.map_append, List.map_append, h3]
    rfl
  · rw [upd_same, List.map_append]
    rfl
  · rw [List.length_append, List.length_append, h5]
    rfl
  · by_cases hi : i < ts.length
    · rw [List.getElem?_append_left hi] at e1
      rw [List.getElem?_append_left (by rw [← h5]; exact hi)] at e2
      exact keep _ _ _ _ (h6 i u p' e1 e2)
    · rw [List.getElem?_append_right (Nat.le_of_not_lt hi)] at e1
      rw [List.getElem?_append_right (by rw [← h5]; exact Nat.le_of_not_lt hi), ← h5] at e2
      have hi0 := num_at hi (List.getElem?_eq_some_iff.mp e1).1
      rw [hi0, Nat.sub_self] at e1 e2
      cases e1
      cases e2
      exact keep _ _ _ _ ht
end
/-- what is known of the pairs that are told -/
structure Told (L : List Nat) (W : List (List Nat)) (B : List Bool) (l r : Nat) (ps : List (Nat × Nat)) : Prop where
  has : (l, r) ∈ ps
  got : ∀ p ∈ ps, p.1 < W.length ∧ p.2 < W.length ∧ ∃ u, (∀ c ∈ u, c ∈ L) ∧ p.1 = run L W l u ∧ p.2 = run L W r u
  few : unseen W.length ps + ps.length ≤ W.length * W.length + 1
theorem Told.first {L : List Nat} {W : List (List Nat)} {B : List Bool} {l r : Nat} (hl : l < W.length) (hr : r < W.length) : Told L W B l r [(l, r)] :=
  ⟨by simp, fun p hp => by rw [List.mem_singleton.mp hp]; exact ⟨hl, hr, [], fun c hc => by simp at hc, rfl, rfl⟩, by have := unseen_le W.length [(l, r)]; simp; (clear hr hl; omega)⟩
theorem Told.more {L : List Nat} {W : List (List Nat)} {B : List Bool} {l r : Nat} {ps : List (Nat × Nat)} (h : Told L W B l r ps) (hM : Mach L W B) {p : Nat × Nat} (hp : p ∈ ps) {i : Nat} (hi : i < L.length) (hn : (goal W p.1 i, goal W p.2 i) ∉ ps) :
    Told L W B l r (ps ++ [(goal W p.1 i, goal W p.2 i)]) ∧ unseen W.length (ps ++ [(goal W p.1 i, goal W p.2 i)]) + (ps ++ [(goal W p.1 i, goal W p.2 i)]).length ≤ unseen W.length ps + ps.length := by
  obtain ⟨h1, h2, u, h3, h4, h5⟩ := h.got p hp
  have g1 := goal_lt hM h1 hi
  have g2 := goal_lt hM h2 hi
  have hu := unseen_lt g1 g2 hn
  have hf := h.few
  have hlen : (ps ++ [(goal W p.1 i, goal W p.2 i)]).length = ps.length + 1 := by simp
  refine ⟨⟨List.mem_append_left _ h.has, fun z hz => ?_, by (clear g2 g1 h5 h4 h3 h2 h1 hn hi; omega)⟩, by (clear hf g2 g1 h5 h4 h3 h2 h1 hn hi; omega)⟩
  rcases List.mem_append.mp hz with hz | hz
  · exact h.got z hz
  · rw [List.mem_singleton.mp hz]
    have hc : L[i] ∈ L := List.getElem_mem hi
    have hx := idx_get hM.lt.nd hi
    refine ⟨g1, g2, u ++ [L[i]], fun c hcm => ?_, ?_, ?_⟩
    · rcases List.mem_append.mp hcm with hcm | hcm
      · exact h3 c hcm
      · rw [List.mem_singleton.mp hcm]; exact hc
    · rw [run_snoc, nxt_goal, hx, ← h4]
    · rw [run_snoc, nxt_goal, hx, ← h5]
/-- the pairs gone through so far -/
def Done (L : List Nat) (W : List (List Nat)) (B : List Bool) (ps : List (Nat × Nat)) (n : Nat) : Prop := ∀ (i : Nat) (p : Nat × Nat), i < n → ps[i]? = some p → B.getD p.1 false = B.getD p.2 false ∧ ∀ j < L.length, (goal W p.1 j, goal W p.2 j) ∈ ps
theorem Done.all {L : List Nat} {W : List (List Nat)} {B : List Bool} {l r : Nat} {ps : List (Nat × Nat)} (h : Done L W B ps ps.length) (ht : Told L W B l r ps) : ∀ u : List Nat, (∀ c ∈ u, c ∈ L) → B.getD (run L W l u) false = B.getD (run L W r u) false := by
  have all : ∀ p ∈ ps, B.getD p.1 false = B.getD p.2 false ∧ ∀ j < L.length, (goal W p.1 j, goal W p.2 j) ∈ ps := fun p hp => by
    obtain ⟨i, hi⟩ := List.mem_iff_getElem?.mp hp
    exact h i p (List.getElem?_eq_some_iff.mp hi).1 hi
  exact alike_all ht.has (fun p hp => (all p hp).1) fun p hp => (all p hp).2
def AInv (P : Program) (w : World) (H : Hp) (m d q : Addr) (L : List Nat) (W : List (List Nat)) (B : List Bool) (l r : Nat) (ms : Nat) (σ : St) (H' : Hp) : Prop := ∃ (ps : List (Nat × Nat)) (n : Nat) (s7 s8 : Option V), ms = unseen W.length ps + (ps.length - n) ∧
  σ = [some (.ref m), some (.int (l : Int)), some (.ref m), some (.int (r : Int)), some (.ref d), some (.ref q), some (.int (n : Int)), s7, s8] ∧ Same H H' ∧ PairsAt P w H' d q ps ∧ Told L W B l r ps ∧ n ≤ ps.length ∧ Done L W B ps n
theorem mark_at {B : List Bool} {r : Nat} (h : r < B.length) : atI (B.map V.bl) ((r : Nat) : Int) = some (.bl (B.getD r false)) := atI_map V.bl (by rw [List.getD_eq_getElem?_getD, List.getElem?_eq_getElem h]; rfl)
theorem dec_bls {a b : Bool} : decide (V.bl a = V.bl b) = decide (a = b) := by cases a <;> cases b <;> rfl
theorem same_set2 {H H' : Hp} {a b : Addr} {o u : HO} (s : Same H H') (n : H a = none) (n2 : H b = none) : Same H (L2.upd (L2.upd H' a o) b u) := Same.set (Same.set s n) n2
theorem iteNS2 {x : Str} {A B : Prop} (h : A) : if (!decide (V.str x = V.non)) = true then A else B := by
  rw [decide_eq_false (fun z => by cases z)]
  exact iteT h
theorem rows_snoc {H H' : Hp} {rows : List Addr} {W : List (List Nat)} {ws : List Nat} {t : Addr} (h : RowsAt H rows W) (hl : rows.length = W.length) (keep : ∀ b xs, H b = some (.tup xs) → H' b = some (.tup xs)) (ht : H' t = some (.tup (intsV ws))) : RowsAt H' (rows ++ [t]) (W ++ [ws]) := fun j r e => by
  by_cases hj : j < rows.length
  · rw [List.getElem?_append_left hj] at e
    obtain ⟨v, e1, e2⟩ := h j r e
    exact ⟨v, by rw [List.getElem?_append_left (by rw [← hl]; exact hj)]; exact e1, keep _ _ e2⟩
  · rw [List.getElem?_append_right (Nat.le_of_not_lt hj)] at e
    have hj0 := num_at hj (List.getElem?_eq_some_iff.mp e).1
    rw [hj0, Nat.sub_self] at e
    have et : t = r := by simpa using e
    subst et
    exact ⟨ws, by rw [hj0, hl, List.getElem?_append_right (Nat.le_refl _), Nat.sub_self]; rfl, ht⟩
theorem rows_set {H : Hp} {rows : List Addr} {W : List (List Nat)} {k j : Nat} {t : Addr} {ws : List Nat} (h : RowsAt H rows W) (hl : rows.length = W.length) (hk : k < W.length) (ht : rows[j]? = some t) (hw : W[j]? = some ws) : RowsAt H (rows.set k t) (W.set k ws) := fun i r e => by
  by_cases hi : i = k
  · subst hi
    rw [List.getElem?_set_self (by (clear e hw ht; omega))] at e
    cases e
    obtain ⟨v, e1, e2⟩ := h j t ht
    rw [hw] at e1
    cases e1
    exact ⟨ws, by rw [List.getElem?_set_self hk], e2⟩
  · rw [List.getElem?_set_ne (Ne.symm hi)] at e
    obtain ⟨v, e1, e2⟩ := h i r e
    exact ⟨v, by rw [List.getElem?_set_ne (Ne.symm hi)]; exact e1, e2⟩
theorem set_mapL {α β : Type} (f : α → β) (l : List α) (k : Nat) (x : α) : (l.map f).set k (f x) = (l.set k x).map f := by rw [List.map_set]
theorem intsV_snoc (vs : List Nat) (n : Nat) : intsV (vs ++ [n]) = intsV vs ++ [.int (n : Int)] := by
  unfold intsV
  rw [List.map_append]
  rfl
theorem set_intsV (ws : List Nat) (k x : Nat) : (intsV ws).set k (.int (x : Int)) = intsV (ws.set k x) := by
  unfold intsV
  rw [List.map_set]
theorem len1 {α : Type} {l : List α} (h : l.length = 1) : ∃ a, l = [a] := match l, h with | [a], _ => ⟨a, rfl⟩
theorem len2 {α : Type} {l : List α} (h : l.length = 2) : ∃ a b, l = [a, b] := match l, h with | [a, b], _ => ⟨a, b, rfl⟩
theorem len3 {α : Type} {l : List α} (h : l.length = 3) : ∃ a b c, l = [a, b, c] := match l, h with | [a, b, c], _ => ⟨a, b, c, rfl⟩
theorem len4 {α : Type} {l : List α} (h : l.length = 4) : ∃ a b c d, l = [a, b, c, d] := match l, h with | [a, b, c, d], _ => ⟨a, b, c, d, rfl⟩
theorem len5 {α : Type} {l : List α} (h : l.length = 5) : ∃ a b c d e, l = [a, b, c, d, e] := match l, h with | [a, b, c, d, e], _ => ⟨a, b, c, d, e, rfl⟩
end RA

namespace K15
open PySem L2 RA
def top (i : Nat) : Stmt := PySem.Challenge.pw_roomalgebra_k15_parting_words.main.body.getD i (.Pass ⟨0, 0, 0, 0⟩)
abbrev s_is_whole : Stmt := top 18
abbrev s_is_room : Stmt := top 20
abbrev s_need_room : Stmt := top 21
abbrev s_numbered : Stmt := top 2
abbrev s_many_lots : Stmt := top 3
abbrev s_rounds_of : Stmt := top 1
abbrev s_parting_word : Stmt := top 4
abbrev s_parting : Stmt := top 23
abbrev s__law_cell_at : Stmt := top 25
abbrev s__law_letters : Stmt := top 26
abbrev s__law_machine : Stmt := top 27
abbrev s__law_long : Stmt := top 28
abbrev s__law_twins : Stmt := top 29
abbrev s__law_some : Stmt := top 30
abbrev s__law_after : Stmt := top 31
abbrev s__law_alike : Stmt := top 32
abbrev s__law_earlier : Stmt := top 33
abbrev s__law_is_word : Stmt := top 34
abbrev s__law_same : Stmt := top 35
abbrev s__law_kinds : Stmt := top 36
abbrev s__law_refused : Stmt := top 37
abbrev s__law_none_before : Stmt := top 38
abbrev s_law : Stmt := top 39
structure Txt (K : PySem.W.Frag) (mg : Str → Option Value) (c_RoomError c_NoLetters c_NoWord c_NoNumber c_NoRoom c_NoMachine c_OtherLetters c_TooMany c_NoPattern c_TooGreat c_NoKind : Addr) : Prop where
  k_RoomError : mg "RoomError" = some (.ref c_RoomError)
  k_NoLetters : mg "NoLetters" = some (.ref c_NoLetters)
  k_NoWord : mg "NoWord" = some (.ref c_NoWord)
  k_NoNumber : mg "NoNumber" = some (.ref c_NoNumber)
  k_NoRoom : mg "NoRoom" = some (.ref c_NoRoom)
  k_NoMachine : mg "NoMachine" = some (.ref c_NoMachine)
  k_OtherLetters : mg "OtherLetters" = some (.ref c_OtherLetters)
  k_TooMany : mg "TooMany" = some (.ref c_TooMany)
  k_NoPattern : mg "NoPattern" = some (.ref c_NoPattern)
  k_TooGreat : mg "TooGreat" = some (.ref c_TooGreat)
  k_NoKind : mg "NoKind" = some (.ref c_NoKind)
  o_NoRoom : OwnX K c_NoRoom
  e_NoRoom : ExcCls K c_NoRoom
  m_NoRoom : PySem.W.exmOne K (.ref c_NoRoom) (.ref c_RoomError) = some true
  i_NoRoom_NoLetters : PySem.W.kitOne K (.ref c_NoRoom) (.ref c_NoLetters) = some false
  i_NoRoom_NoWord : PySem.W.kitOne K (.ref c_NoRoom) (.ref c_NoWord) = some false
  i_NoRoom_NoNumber : PySem.W.kitOne K (.ref c_NoRoom) (.ref c_NoNumber) = some false
  i_NoRoom_NoRoom : PySem.W.kitOne K (.ref c_NoRoom) (.ref c_NoRoom) = some true
  i_NoRoom_NoMachine : PySem.W.kitOne K (.ref c_NoRoom) (.ref c_NoMachine) = some false
  i_NoRoom_OtherLetters : PySem.W.kitOne K (.ref c_NoRoom) (.ref c_OtherLetters) = some false
  i_NoRoom_TooMany : PySem.W.kitOne K (.ref c_NoRoom) (.ref c_TooMany) = some false
  i_NoRoom_NoPattern : PySem.W.kitOne K (.ref c_NoRoom) (.ref c_NoPattern) = some false
  i_NoRoom_TooGreat : PySem.W.kitOne K (.ref c_NoRoom) (.ref c_TooGreat) = some false
  i_NoRoom_NoKind : PySem.W.kitOne K (.ref c_NoRoom) (.ref c_NoKind) = some false
  v_NoRoom : PySem.W.kitOne K (.ref c_NoRoom) (.type "ValueError") = some true
  len : mg "len" = none
  range : mg "range" = none
  isinst : mg "isinstance" = none
  int : mg "int" = none
  bool : mg "bool" = none
  tuple : mg "tuple" = none
  list : mg "list" = none
  str : mg "str" = none
  zip : mg "zip" = none
  enumerate : mg "enumerate" = none
  reversed : mg "reversed" = none
  max : mg "max" = none
  verr : mg "ValueError" = none
def sp_is_whole : Sp := fun vs H Q _ => ∃ (i : Int), vs = [.int i] ∧ Q (.bl true) H
def sp_isroom2 : Sp := fun vs H Q _ => ∃ (i n : Int), vs = [.int i, .int n] ∧ Q (.bl (decide (0 ≤ i ∧ i < n))) H
def sp_needroomX (cNR : Addr) : Sp := fun vs H Q E => ∃ (m : Addr) (L : List Nat) (W : List (List Nat)) (B : List Bool) (r : Int), vs = [.ref m, .int r] ∧ MachAt H m L W B ∧ Mach L W B ∧ (¬ (0 ≤ r ∧ r < W.length) → E (.ref cNR) none H) ∧ (0 ≤ r ∧ r < W.length → Q .non H)
def sp_numbered : Sp := fun vs H Q _ => ∃ (a : Addr) (o : HO) (xs : List V) (ks : List KS) (nest : Bool), vs = [.ref a] ∧ (o = .lst xs ∨ o = .tup xs) ∧ H a = some o ∧ xs.length = ks.length ∧ ks.length ≤ 1000 ∧ (∀ (i : Nat) (k : KS) (x : V), ks[i]? = some k → xs[i]? = some x → KeyV H k x ∧ isN k = nest) ∧ ∀ p H', Same H H' → H' p = some (.lst (intsV (numF ks))) → Q (.ref p) H'
def sp_many : Sp := fun vs H Q _ => ∃ (a : Addr) (ns : List Nat), vs = [.ref a] ∧ H a = some (.lst (intsV ns)) ∧ 0 < ns.length ∧ ∀ M ∈ ns, Q (.int ((M : Int) + 1)) H
def sp_rounds : Sp := fun vs H Q _ => ∃ (wy mk : Addr) (rows : List Addr) (L : List Nat) (W : List (List Nat)) (B : List Bool), vs = [.ref wy, .ref mk, .int ((W.length : Nat) : Int)] ∧ H wy = some (.tup (rows.map V.ref)) ∧ H mk = some (.tup (B.map V.bl)) ∧ rows.length = W.length ∧ RowsAt H rows W ∧ Mach L W B ∧
  ∀ (p : Addr) (lots : List Addr) (k : Nat) (H' : Hp), Same H H' → H' p = some (.lst (lots.map V.ref)) → lots.length = k + 1 → LotsAt H' lots W B → Rd W B (k + 1) = Rd W B k → k ≤ 3600 → Q (.ref p) H'
def sp_pword : Sp := fun vs H Q _ => ∃ (wy p : Addr) (rows lots : List Addr) (L : List Nat) (W : List (List Nat)) (B : List Bool) (k r s : Nat), vs = [.str (tx L), .ref wy, .ref p, .int (r : Int), .int (s : Int)] ∧ H wy = some (.tup (rows.map V.ref)) ∧ rows.length = W.length ∧ RowsAt H rows W ∧ Mach L W B ∧ H p = some (.lst (lots.map V.ref)) ∧ lots.length = k + 1 ∧ LotsAt H lots W B ∧ Rd W B (k + 1) = Rd W B k ∧ k ≤ 3600 ∧ r < W.length ∧ s < W.length ∧
  ∀ o H', Same H H' → PartOf L W B r s o → Q (oV o) H'
def sp_parting (cNR : Addr) : Sp := fun vs H Q E => ∃ (m : Addr) (L : List Nat) (W : List (List Nat)) (B : List Bool) (r s : Int), vs = [.ref m, .int r, .int s] ∧ MachAt H m L W B ∧ Mach L W B ∧ (¬ ((0 ≤ r ∧ r < W.length) ∧ 0 ≤ s ∧ s < W.length) → E (.ref cNR) none H) ∧
  (0 ≤ r ∧ r < W.length → 0 ≤ s ∧ s < W.length → ∀ o H', Same H H' → PartOf L W B r.toNat s.toNat o → Q (oV o) H')
def sp_cell (K : PySem.W.Frag) : Sp := fun vs H Q _ => ∃ (a : Addr) (ns : List Int) (k : Int), vs = [.ref a, .int k] ∧ SqL K H a (ns.map V.int) ∧ 0 ≤ k ∧ ∀ z, Q (.int z) H
def sp_letters : Sp := fun vs H Q _ => ∃ (c : Int), vs = [.int c] ∧ ∀ L, Let L → Q (.str (tx L)) H
def sp_machine (K : PySem.W.Frag) : Sp := fun vs H Q _ => ∃ (a : Addr) (ns : List Int) (p : Int) (n : Nat) (L : List Nat), vs = [.ref a, .int p, .int (n : Int), .str (tx L)] ∧ SqL K H a (ns.map V.int) ∧ 0 ≤ p ∧ 1 ≤ n ∧ n ≤ 60 ∧ Let L ∧
  ∀ (m : Addr) (W : List (List Nat)) (B : List Bool) (H' : Hp), Same H H' → MachAt H' m L W B → Mach L W B → W.length = n → Q (.ref m) H'
def sp_long : Sp := fun vs H Q _ => ∃ (m : Addr) (L : List Nat) (W : List (List Nat)) (B : List Bool) (c : Int), vs = [.ref m, .int c] ∧ MachAt H m L W B ∧ Mach L W B ∧ ∀ (m' : Addr) (W' : List (List Nat)) (B' : List Bool) (H' : Hp), Same H H' → MachAt H' m' L W' B' → Mach L W' B' → W'.length = W.length → Q (.ref m') H'
def sp_twins : Sp := fun vs H Q _ => ∃ (m : Addr) (L : List Nat) (W : List (List Nat)) (B : List Bool) (c : Int), vs = [.ref m, .int c] ∧ MachAt H m L W B ∧ Mach L W B ∧ ∀ (m' : Addr) (W' : List (List Nat)) (B' : List Bool) (H' : Hp), Same H H' → MachAt H' m' L W' B' → Mach L W' B' → W'.length = W.length → Q (.ref m') H'
def sp_some (K : PySem.W.Frag) : Sp := fun vs H Q _ => ∃ (a : Addr) (ns : List Int) (n : Nat) (L : List Nat), vs = [.ref a, .int (n : Int), .str (tx L)] ∧ SqL K H a (ns.map V.int) ∧ 1 ≤ n ∧ n ≤ 60 ∧ Let L ∧ ∀ (m : Addr) (W : List (List Nat)) (B : List Bool) (H' : Hp), Same H H' → MachAt H' m L W B → Mach L W B → W.length = n → Q (.ref m) H'
def sp_after : Sp := fun vs H Q _ => ∃ (m : Addr) (L : List Nat) (W : List (List Nat)) (B : List Bool) (r : Nat) (w : List Nat), vs = [.ref m, .int (r : Int), .str (tx w)] ∧ MachAt H m L W B ∧ Mach L W B ∧ r < W.length ∧ (∀ c ∈ w, c ∈ L) ∧ Q (.int (run L W r w : Nat)) H
def sp_alike : Sp := fun vs H Q _ => ∃ (m : Addr) (L : List Nat) (W : List (List Nat)) (B : List Bool) (l r : Nat), vs = [.ref m, .int (l : Int), .ref m, .int (r : Int)] ∧ MachAt H m L W B ∧ Mach L W B ∧ l < W.length ∧ r < W.length ∧
  ∀ b H', Same H H' → (b = true ↔ ∀ u : List Nat, (∀ c ∈ u, c ∈ L) → B.getD (run L W l u) false = B.getD (run L W r u) false) → Q (.bl b) H'
def sp__law_earlier : Sp := fun vs H Q _ => ∃ (L a b : List Nat), vs = [.str (tx L), .str (tx a), .str (tx b)] ∧ Let L ∧ (∀ c ∈ a, c ∈ L) ∧ (∀ c ∈ b, c ∈ L) ∧ a.length ≤ 5000 ∧ b.length ≤ 5000 ∧ ∀ H', Same H H' → Q (.bl (ear L a b)) H'
def sp_isword : Sp := fun vs H Q _ => ∃ (L w : List Nat), vs = [.str (tx w), .str (tx L)] ∧ (∀ c ∈ w, c ∈ L) ∧ w.length ≤ 10000 ∧ ∀ H', Same H H' → Q (.bl true) H'
def sp_same15 : Sp := fun vs H Q _ => ∃ o, vs = [oV o, oV o] ∧ Q (.bl true) H
def sp_kinds15 (cNR : Addr) : Sp := fun vs H Q _ => ∃ e : Addr, vs = [.ref e] ∧ H e = some (excAt e (.ref cNR)) ∧ ∀ p H', Same H H' → H' p = some (.lst [.str "NoRoom"]) → Q (.ref p) H'
def sp_refused : Sp := fun vs H Q _ => ∃ (m : Addr) (L : List Nat) (W : List (List Nat)) (B : List Bool) (r s : Int), vs = [.ref m, .int r, .int s] ∧ MachAt H m L W B ∧ Mach L W B ∧ ¬ ((0 ≤ r ∧ r < W.length) ∧ 0 ≤ s ∧ s < W.length) ∧ ∀ H', Same H H' → Q (.bl true) H'
def sp_nonebefore (K : PySem.W.Frag) : Sp := fun vs H Q _ => ∃ (m : Addr) (L : List Nat) (W : List (List Nat)) (B : List Bool) (r s : Nat) (o : Option (List Nat)) (a : Addr) (ns : List Int), vs = [.ref m, .int (r : Int), .int (s : Int), oV o, .ref a] ∧ MachAt H m L W B ∧ Mach L W B ∧ r < W.length ∧ s < W.length ∧ PartOf L W B r s o ∧ SqL K H a (ns.map V.int) ∧ ns.length ≤ 63 ∧ ∀ H', Same H H' → Q (.bl true) H'
section
variable {P : Program} {w : World} {K : PySem.W.Frag} {mg : Str → Option Value} {base : Heap} {c_RoomError c_NoLetters c_NoWord c_NoNumber c_NoRoom c_NoMachine c_OtherLetters c_TooMany c_NoPattern c_TooGreat c_NoKind : Addr}
theorem sc_is_whole : FnScope ["value"] ["value"] (defScope s_is_whole) := ⟨rfl, rfl, rfl, by decide +kernel, rfl, by decide +kernel, by decide +kernel⟩
set_option maxHeartbeats 4000000 in
theorem ok_is_whole {f : Addr} {fd : FuncData} (F : Fun K "is_whole" "is_whole" s_is_whole f fd) (T : Txt K mg c_RoomError c_NoLetters c_NoWord c_NoNumber c_NoRoom c_NoMachine c_OtherLetters c_TooMany c_NoPattern c_TooGreat c_NoKind) : FnOk P w K mg base CX0 1 f fd ["value"] sp_is_whole := by
  refine F.ok sc_is_whole (fun vs H Q E h => ?_) (fun cdv A outer s H vs Q E hr h => ?_)
  · obtain ⟨i, rfl, _⟩ := h
    rfl
  · obtain ⟨i, rfl, q⟩ := h
    refine ⟨_, (pss_one (ps_ret (pe_and (pe_callB (call_isinst (T := "int") (b := true)) (by rfl) T.isinst PyProof.Rows.boot_isinstance (pa_cons (pv 0) (pa_cons (pe_bltn (v := .ty "int") (by rfl) T.int PyProof.Rows.boot_int rfl) pa_nil)))
      (pe_one (pe_not (pe_callB (call_isinst (T := "bool") (b := false)) (by rfl) T.isinst PyProof.Rows.boot_isinstance (pa_cons (pv 0) (pa_cons (pe_bltn (v := .ty "bool") (by rfl) T.bool PyProof.Rows.boot_bool rfl) pa_nil)))))))), ?_⟩
    exact ⟨_, rfl, _, _, rfl, TyOf.int _, kit_ii K, _, rfl, iteT ⟨_, rfl, _, _, rfl, TyOf.int _, kit_ib K, _, rfl, q⟩⟩
theorem sc_is_room : FnScope ["number", "many"] ["number", "many"] (defScope s_is_room) := ⟨rfl, rfl, rfl, by decide +kernel, rfl, by decide +kernel, by decide +kernel⟩
set_option maxHeartbeats 4000000 in
theorem ok_is_room {f : Addr} {fd : FuncData} (F : Fun K "is_room" "is_room" s_is_room f fd) (T : Txt K mg c_RoomError c_NoLetters c_NoWord c_NoNumber c_NoRoom c_NoMachine c_OtherLetters c_TooMany c_NoPattern c_TooGreat c_NoKind) (d_is_whole : Df P w K mg base "is_whole" 1 ["value"] sp_is_whole) : FnOk P w K mg base CX0 2 f fd ["number", "many"] sp_isroom2 := by
  refine F.ok sc_is_room (fun vs H Q E h => ?_) (fun cdv A outer s H vs Q E hr h => ?_)
  · obtain ⟨i, n, rfl, _⟩ := h
    rfl
  · obtain ⟨i, n, rfl, q⟩ := h
    refine ⟨_, (pss_one (ps_ret (pe_and (pe_df d_is_whole hr (pa_cons (pv 0) pa_nil)) (pe_one (pe_chain op_le op_lt pe_int (pv 0) (pv 1)))))), ?_⟩
    refine ⟨_, rfl, i, rfl, _, rfl, iteT ⟨_, rfl, _, _, rfl, rfl, _, rfl, ite3 (fun h0 => ⟨_, rfl, _, _, rfl, rfl, ?_⟩) (fun h0 => ?_)⟩⟩
    · show Q (.bl (decide (i < n))) H
      rw [show decide (i < n) = decide (0 ≤ i ∧ i < n) from decide_eq_decide.mpr ⟨fun z => ⟨h0, z⟩, fun z => z.2⟩]
      exact q
    · rw [decide_eq_false (fun z => h0 z.1)] at q
      exact q
theorem sc_need_room : FnScope ["machine", "number"] ["machine", "number"] (defScope s_need_room) := ⟨rfl, rfl, rfl, by decide +kernel, rfl, by decide +kernel, by decide +kernel⟩
set_option maxHeartbeats 4000000 in
theorem ok_need_room {f : Addr} {fd : FuncData} (F : Fun K "need_room" "need_room" s_need_room f fd) (T : Txt K mg c_RoomError c_NoLetters c_NoWord c_NoNumber c_NoRoom c_NoMachine c_OtherLetters c_TooMany c_NoPattern c_TooGreat c_NoKind) (d_is_room : Df P w K mg base "is_room" 2 ["number", "many"] sp_isroom2) : FnOk P w K mg base (CXE P w) 3 f fd ["machine", "number"] (sp_needroomX c_NoRoom) := by
  refine F.okX sc_need_room (fun vs H Q E h => ?_) (fun cdv A outer s H vs Q E hr h => ?_)
  · obtain ⟨m, L, W, B, r, rfl, _⟩ := h
    rfl
  · obtain ⟨m, L, W, B, r, rfl, hM, hMa, q1, q2⟩ := h
    obtain ⟨wy, mk, rows, h1, h2, h3, h4, h5⟩ := hM
    refine ⟨_, (pss_one ((ps_if (pt_not (pt_val (pe_df d_is_room hr (pa_cons (pv 1) (pa_cons ((pe_callB call_len_seq (by rfl) T.len PySem.boot_len (pa_cons (pe_ix ix_tup (pv 0) pe_int (fun _ _ => rfl)) pa_nil))) pa_nil))))) ((pss_one ((ps_raise rfl throws_def T.o_NoRoom T.k_NoRoom (pa_cons (pe_str) pa_nil))))) (pss_nil)))), ?_⟩
    refine ⟨_, rfl, _, rfl, m, _, _, _, rfl, rfl, SqT.of h1, atI_nat (j := 1) rfl, wy, _, rfl, .inr (SqT.of h2), r, _, rfl, _, rfl, ?_⟩
    rw [List.length_map, h4]
    by_cases hrm : 0 ≤ r ∧ r < W.length
    case neg =>
      rw [decide_eq_false hrm]
      exact iteT ⟨line_ge (by show 1 ≤ 16777216; decide), q1 hrm⟩
    rw [decide_eq_true hrm]
    exact iteF (q2 hrm)
theorem sc_numbered : FnScope ["values", "numbers", "value"] ["values"] (defScope s_numbered) := ⟨rfl, rfl, rfl, by decide +kernel, rfl, by decide +kernel, by decide +kernel⟩
set_option maxHeartbeats 4000000 in
theorem ok_numbered {f : Addr} {fd : FuncData} (F : Fun K "numbered" "numbered" s_numbered f fd) (T : Txt K mg c_RoomError c_NoLetters c_NoWord c_NoNumber c_NoRoom c_NoMachine c_OtherLetters c_TooMany c_NoPattern c_TooGreat c_NoKind) : FnOk P w K mg base CX0 1 f fd ["values"] sp_numbered := by
  refine F.ok sc_numbered (fun vs H Q E h => ?_) (fun cdv A outer s H vs Q E hr h => ?_)
  · obtain ⟨a, o, xs, ks, nest, rfl, _⟩ := h
    rfl
  · obtain ⟨a, o, xs, ks, nest, rfl, ho, hH, hl, h1000, hk, q⟩ := h
    refine ⟨_, (pss_cons ((ps_set (i := 1) sc_numbered.nd rfl (Or.inr rfl) (pe_dnew))) (pss_cons ((ps_for PassesOwn.never rfl (pi_sq (pv 0)) (pg_name (i := 2) sc_numbered.nd rfl (Or.inl rfl)) ((pss_one ((ps_if (pt_cmpR (op_notinD hr.units) (pv 2) (pv 1) (by with_unfolding_all rfl)) ((pss_one (ps_asg (pe_callB call_lenD (by rfl) T.len PySem.boot_len (pa_cons (pv 1) pa_nil)) (pg_sub (pv 1) (pv 2) (set_dictG hr.units))))) (pss_nil))))))) (pss_one (ps_ret (pe_compS ["values", "numbers", "?"] rfl (by decide) (pi_sq (pv 0)) (fun cl C fp s' H' => ⟨pts_nil, pe_ix (ix_dictGK P w hr.units) (pv 2) (pv 0) (fun _ _ => rfl)⟩)))))), ?_⟩
    have hz : xs.length ≤ sizeLine := line_ge (by rw [hl]; exact Nat.le_trans h1000 (by decide))
    have keyOf : ∀ {i : Nat} {x : V}, xs[i]? = some x → ∃ k, ks[i]? = some k ∧ KeyV H k x ∧ isN k = nest := fun {i x} hx => by
      have hi : i < ks.length := by rw [← hl]; exact (List.getElem?_eq_some_iff.mp hx).1
      exact ⟨ks[i], List.getElem?_eq_getElem hi, hk i _ x (List.getElem?_eq_getElem hi) hx⟩
    refine ⟨if nest = true then .nest else .bl, fun d hd => ?_⟩
    refine ⟨_, rfl, a, o, xs, rfl, ho, upd_keep hH hd, fun J ov => for_over ov (fun i σ' H' => ∃ v0 ob, σ' = [some (.ref a), some (.ref d), v0] ∧ H' = L2.upd H d ob ∧ NumAt P w H' d nest (ks.take i)) ⟨none, _, rfl, rfl, NumAt.new P w H d nest⟩ ?_ ?_ ?_⟩
    · rintro i σ' H' ⟨v0, ob, rfl, rfl, _⟩
      exact upd_keep hH hd
    · rintro i x σ' H' hx ⟨v0, ob, rfl, rfl, hn⟩
      obtain ⟨k, hki, hkv, hkn⟩ := keyOf hx
      have hkv' : KeyV (L2.upd H d ob) k x := hkv.stay fun b ys z => upd_keep z hd
      refine ⟨_, rfl, _, rfl, d, _, rfl, hn.get hkv' hkn, _, rfl, ?_⟩
      by_cases hm : k ∈ dis (ks.take i)
      · rw [show (!(numO (ks.take i) k).isSome) = false by rw [numO, if_pos hm]; rfl]
        refine iteF ⟨_, _, rfl, rfl, ?_⟩
        rw [take_snoc hki]
        exact hn.same hm
      · rw [show (!(numO (ks.take i) k).isSome) = true by rw [numO, if_neg hm]; rfl]
        have hdl : (dis (ks.take i)).length < sizeLine := by
          have h1 := dis_len (ks.take i)
          have h2 : (ks.take i).length ≤ 1000 := by rw [List.length_take]; exact Nat.le_trans (Nat.min_le_right _ _) h1000
          exact small1000 (Nat.le_trans h1 h2)
        obtain ⟨ob2, hput, hn2⟩ := hn.put hkv' hkn hm hdl
        refine iteT ⟨_, rfl, d, _, rfl, hn.len, _, rfl, _, rfl, d, _, rfl, hput, ?_⟩
        refine ⟨some x, ob2, rfl, upd_upd, ?_⟩
        rw [take_snoc hki]
        exact hn2
    · rintro σ' H' ⟨v0, ob, rfl, rfl, hn⟩
      rw [hl, List.take_length] at hn
      have hH1 : L2.upd H d ob a = some o := upd_keep hH hd
      have sm1 : Same H (L2.upd H d ob) := Same.upd hd
      refine ⟨_, rfl, a, o, xs, rfl, ho, hH1, fun J ov => comp_over ov hH1 (fun D j ys H' => ys = (intsV (numF ks)).take j) hz (fun D hD => by simp) ?_ ?_⟩
      · intro D j x ys H' R1 R2 hD hx hsm hDl hp k1 k2
        obtain ⟨k, hki, hkv, hkn⟩ := keyOf hx
        have hm : k ∈ dis ks := mem_dis.mpr (List.mem_of_getElem? hki)
        have hg := (hn.mono hsm).get (hkv.stay fun b ys z => (sm1.trans hsm) _ _ z) hkn
        rw [show numO ks k = some _ from if_pos hm] at hg
        refine tAlways_if ⟨_, rfl, _, rfl, d, _, rfl, hg, k1 _ H' hDl (Same.set hsm hD) ?_⟩
        rw [hp]
        refine (take_snoc ?_).symm
        rw [intsV, numF, List.map_map, List.getElem?_map, hki]
        rfl
      · intro D ys H' hD hsm hDl hp
        refine q D H' (sm1.trans hsm) ?_
        rw [hDl, hp, hl, List.take_of_length_le (by rw [intsV_len, numF_len]; exact Nat.le_refl _)]
theorem sc_many_lots : FnScope ["lots"] ["lots"] (defScope s_many_lots) := ⟨rfl, rfl, rfl, by decide +kernel, rfl, by decide +kernel, by decide +kernel⟩
set_option maxHeartbeats 4000000 in
theorem ok_many_lots {f : Addr} {fd : FuncData} (F : Fun K "many_lots" "many_lots" s_many_lots f fd) (T : Txt K mg c_RoomError c_NoLetters c_NoWord c_NoNumber c_NoRoom c_NoMachine c_OtherLetters c_TooMany c_NoPattern c_TooGreat c_NoKind) : FnOk P w K mg base CX0 1 f fd ["lots"] sp_many := by
  refine F.ok sc_many_lots (fun vs H Q E h => ?_) (fun cdv A outer s H vs Q E hr h => ?_)
  · obtain ⟨a, ns, rfl, _⟩ := h
    rfl
  · obtain ⟨a, ns, rfl, hH, hn, q⟩ := h
    refine ⟨_, (pss_one (ps_ret (pe_op op_a (pe_callB (call_maxL rfl) (by rfl) T.max PyProof.Rows.boot_max (pa_cons (pv 0) pa_nil)) pe_int))), ?_⟩
    refine ⟨_, rfl, a, zs ns, rfl, by rw [hH, intsV_zs], by rw [zs_len]; exact hn, fun M hM => ⟨_, _, rfl, rfl, ?_⟩⟩
    obtain ⟨m, hm, rfl⟩ := List.mem_map.mp hM
    exact q m hm
theorem sc_rounds_of : FnScope ["ways", "marks", "most", "rounds", "lots", "finer"] ["ways", "marks", "most"] (defScope s_rounds_of) := ⟨rfl, rfl, rfl, by decide +kernel, rfl, by decide +kernel, by decide +kernel⟩
set_option maxHeartbeats 4000000 in
theorem ok_rounds_of {f : Addr} {fd : FuncData} (F : Fun K "rounds_of" "rounds_of" s_rounds_of f fd) (T : Txt K mg c_RoomError c_NoLetters c_NoWord c_NoNumber c_NoRoom c_NoMachine c_OtherLetters c_TooMany c_NoPattern c_TooGreat c_NoKind) (d_numbered : Df P w K mg base "numbered" 1 ["values"] sp_numbered) (d_many_lots : Df P w K mg base "many_lots" 1 ["lots"] sp_many) : FnOk P w K mg base CX0 2 f fd ["ways", "marks", "most"] sp_rounds := by
  refine F.ok sc_rounds_of (fun vs H Q E h => ?_) (fun cdv A outer s H vs Q E hr h => ?_)
  · obtain ⟨wy, mk, rows, L, W, B, rfl, _⟩ := h
    rfl
  · obtain ⟨wy, mk, rows, L, W, B, rfl, hwy, hmk, hrl, hrows, hMa, q⟩ := h
    refine ⟨_, (pss_cons ((ps_set (i := 3) sc_rounds_of.nd rfl (Or.inl rfl) (pe_lst (pa_cons (pe_df d_numbered hr (pa_cons (pv 1) pa_nil)) pa_nil)))) (pss_cons (ps_while PassesOwn.never (pt_cmpR op_le (pe_df d_many_lots hr (pa_cons (pe_ix ix_list (pv 3) (pe_un un_neg pe_int) (fun _ _ => rfl)) pa_nil)) (pv 2) (nomark _)) (pss_cons ((ps_set (i := 4) sc_rounds_of.nd rfl (Or.inr rfl) (pe_ix ix_list (pv 3) (pe_un un_neg pe_int) (fun _ _ => rfl)))) (pss_cons ((ps_set (i := 5) sc_rounds_of.nd rfl (Or.inl rfl) ((pe_df d_numbered hr (pa_cons (pe_comp2 ["ways", "marks", "most", "rounds", "lots", "finer"] rfl (by decide) (pi_enumT rfl T.enumerate (pa_cons (pv 0) pa_nil)) (fun cl C fp s' H' => pe_tup (pa_cons (pe_ix (ix_listK K) (pv 6) (pv 0) (fun _ _ => rfl)) (pa_cons (pe_callTy (call_tupleK K) (by rfl) T.tuple PyProof.Rows.boot_tuple (pa_cons (pe_compS ["room", "row", "ways", "marks", "most", "rounds", "lots", "finer"] rfl (show List.Nodup (["goal", "room", "row", "ways", "marks", "most", "rounds", "lots", "finer"] : List Str) by decide) (pi_sq (pv 1)) (fun cl C fp s' H' => ⟨pts_nil, pe_ix (ix_listK K) (pv 7) (pv 0) (fun _ _ => rfl)⟩)) pa_nil)) pa_nil)))) pa_nil))))) (pss_cons ((ps_if (pt_cmpR (op_eqI hr.units0) (pv 5) (pv 4) (nomark _)) ((pss_one (ps_break))) (pss_nil))) (pss_one (ps_expr (pe_bm PySem.F.plainAttrs_list PySem.F.slot_list_append PySem.F.type_list_append mt_append (pv 3) (pa_cons (pv 5) pa_nil)))))))) (pss_one (ps_ret (pv 3))))), ?_⟩
    have hn60 := hMa.n60
    have hn1 := hMa.n1
    refine ⟨_, rfl, mk, _, B.map V.bl, B.map (fun b => (KS.inl b : KS)), false, rfl, .inr rfl, hmk, by rw [List.length_map, List.length_map], by rw [List.length_map, hMa.bl]; exact Nat.le_trans hn60 (by decide), ?_, fun p0 H1 s1 hp0 => ⟨line_ge (by show 1 ≤ 16777216; decide), fun p hp => ?_⟩⟩
    · intro i k x hk hx
      rw [List.getElem?_map] at hk hx
      cases hb : B[i]? with
      | none => rw [hb] at hk; cases hk
      | some b => rw [hb] at hk hx; cases hk; cases hx; exact ⟨rfl, rfl⟩
    rw [numF_inl] at hp0
    have hpH : H p = none := same_none s1 hp
    refine ⟨RInv H wy mk p W B, ⟨_, 0, [p0], none, none, rfl, rfl, s1.trans (Same.upd hp), upd_same, rfl, ?_, fun i hi => absurd hi (Nat.not_lt_zero _)⟩, ?_⟩
    · intro i r e
      match i, e with
      | 0, e => cases e; exact upd_keep hp0 hp
      | n + 1, e => simp at e
    rintro m σ' H' ⟨k, lots, s4, s5, rfl, rfl, sm, hpl, hll, hlots, hne⟩
    have hk := few_rounds hMa hne
    obtain ⟨la, hla⟩ : ∃ la, lots[k]? = some la := ⟨lots[k]'(by rw [hll]; exact Nat.lt_succ_self k), List.getElem?_eq_getElem _⟩
    have hla1 := hlots k la hla
    have hat := atI_lastG hll hla
    have hlen := Rd_len hMa k
    refine ⟨_, rfl, _, rfl, p, _, _, _, rfl, rfl, SqL.of hpl, hat, la, Rd W B k, rfl, hla1, by rw [hlen]; exact hn1, fun M hM => ⟨_, rfl, _, _, rfl, rfl, _, rfl, ?_⟩⟩
    have hM2 := Rd_lt hMa hM
    refine iteD (show ((M : Int) + 1) ≤ ((W.length : Nat) : Int) from Int.ofNat_le.mpr hM2) ?_
    refine ⟨fun σ2 H2 => Rd W B (k + 1) ≠ Rd W B k ∧ RInv H wy mk p W B (twins W.length (Rd W B (k + 1))) σ2 H2, fun σ2 H2 h => ⟨_, twins_lt hMa h.1, h.2⟩, ?_⟩
    refine ⟨_, rfl, _, rfl, p, _, _, _, rfl, rfl, SqL.of hpl, hat, ?_⟩
    dsimp only [gName]
    dsimp only [tNext, tSeq, tAsg, tCall, tCons, tBM, tCB]
    refine comp2_enumG (c := wy) (fun R h => ⟨_, rfl, h⟩) (sm _ _ hwy) (fun D i ys H2 => ∃ ps : List Addr, ys = ps.map V.ref ∧ ps.length = i ∧ ∀ (j : Nat) (t : Addr), ps[j]? = some t → NIn H2 (keyAt W (Rd W B k) j) t) (by rw [List.length_map, hrl]; exact line_ge (Nat.le_trans hn60 (by decide))) (fun D hD => ⟨[], rfl, rfl, fun j t e => by simp at e⟩) ?_ ?_
    · intro D i x ys H2 H3 R1 hD hx hsm hDl hp hsm3 k1
      obtain ⟨ps, rfl, hpsl, hps⟩ := hp
      rw [List.getElem?_map] at hx
      obtain ⟨rr, hrr, rfl⟩ := Option.map_eq_some_iff.mp hx
      have hi : i < W.length := by rw [← hrl]; exact (List.getElem?_eq_some_iff.mp hrr).1
      obtain ⟨ws, hws, hrow⟩ := hrows i rr hrr
      have s3 : Same H H3 := (sm.trans hsm).trans hsm3
      have hrow3 := s3 _ _ hrow
      have hla3 : H3 la = some (.lst (intsV (Rd W B k))) := hsm3 _ _ (hsm _ _ hla1)
      have ew : W.getD i [] = ws := by rw [List.getD_eq_getElem?_getD, hws]; rfl
      obtain ⟨hwl, hwb⟩ := hMa.row ws (List.mem_of_getElem? hws)
      have hL3 := hMa.lt.hi
      refine ⟨_, rfl, _, rfl, la, _, _, _, rfl, rfl, SqL.of hla3, atI_ints (by rw [hlen]; exact hi), ?_⟩
      dsimp only [tNext, tSeq, tAsg, tCall, tCons, tBM, tCB]
      refine comp_sq (a := rr) (fun R h => ⟨_, rfl, h⟩) (.inr rfl) hrow3 (fun D2 j zs2 H4 => zs2 = (intsV (ws.map fun g => (Rd W B k).getD g 0)).take j) (by rw [intsV_len, hwl]; exact line_ge (Nat.le_trans hL3 (by decide))) (fun D2 hD2 => by simp) ?_ ?_
      · intro D2 j y zs2 H4 R3 R4 hD2 hy hsm4 hD2l hp2 k3 k4
        have hj : j < ws.length := by have := (List.getElem?_eq_some_iff.mp hy).1; rwa [intsV_len] at this
        rw [intsV_get hj] at hy
        cases hy
        refine tAlways_if ⟨_, rfl, _, rfl, la, _, _, _, rfl, rfl, SqL.of (hsm4 _ _ hla3), atI_ints (by rw [hlen]; exact hwb _ (getD_in hj)), k3 _ H4 hD2l (Same.set hsm4 hD2) ?_⟩
        rw [hp2]
        refine (take_snoc ?_).symm
        rw [intsV_get (by rw [List.length_map]; exact hj), map_getD hj]
      · intro D2 zs2 H4 hD2 hsm4 hD2l hp2
        rw [intsV_len, List.take_of_length_le (by rw [intsV_len, List.length_map]; exact Nat.le_refl _)] at hp2
        subst hp2
        refine ⟨D2, _, rfl, .inl ⟨SqL.of hD2l, fun b hb => ⟨line_ge (by show 2 ≤ 16777216; decide), fun t ht => ?_⟩⟩⟩
        have s5 := hsm4.trans ((Same.upd (o := .tup (intsV (ws.map fun g => (Rd W B k).getD g 0))) hb).trans (Same.upd (o := .tup [.int (((Rd W B k).getD i 0 : Nat) : Int), .ref b]) ht))
        have hD5 := s5 _ _ (hsm3 _ _ hDl)
        refine k1 (.ref t) _ hD5 (Same.set (hsm.trans (hsm3.trans s5)) hD) ⟨ps ++ [t], by rw [List.map_append]; rfl, by rw [List.length_append, hpsl]; rfl, fun j u e => ?_⟩
        by_cases hj : j < ps.length
        · rw [List.getElem?_append_left hj] at e
          exact nin_stay (fun c cs z => upd_keep2 ((hsm3.trans s5) _ _ z) hD5 (by intro z; cases z)) (hps j u e)
        · rw [List.getElem?_append_right (Nat.le_of_not_lt hj)] at e
          have hj0 : j = i := (ar_at hj (List.getElem?_eq_some_iff.mp e).1).trans hpsl
          subst hj0
          rw [hpsl, Nat.sub_self] at e
          have et : t = u := by simpa using e
          subst et
          have ek : (zs (keyAt W (Rd W B k) j).2).map V.int = intsV (ws.map fun g => (Rd W B k).getD g 0) := by
            rw [← intsV_zs]
            show intsV ((W.getD j []).map _) = _
            rw [ew]
          refine ⟨b, upd_keep2 upd_same hD5 (by intro z; cases z), ?_⟩
          rw [ek]
          exact upd_keep2 (upd_keep upd_same ht) hD5 (by intro z; cases z)
    intro D ys H2 hD hsm hDl hp
    obtain ⟨ps, rfl, hpsl, hps⟩ := hp
    refine ⟨D, _, ps.map V.ref, (keysOf W (Rd W B k)).map (fun x => (KS.inr x : KS)), true, rfl, .inl rfl, hDl, by rw [List.length_map, List.length_map, keysOf_len, hpsl, List.length_map, hrl], by rw [List.length_map, keysOf_len]; exact Nat.le_trans hn60 (by decide), ?_, fun fa H4 s4' hfa => ?_⟩
    · intro i kk x hk hx
      rw [List.getElem?_map] at hk hx
      obtain ⟨nk, e1, rfl⟩ := Option.map_eq_some_iff.mp hk
      obtain ⟨t, e2, rfl⟩ := Option.map_eq_some_iff.mp hx
      have hi : i < W.length := by have := (List.getElem?_eq_some_iff.mp e1).1; rwa [keysOf_len] at this
      rw [keysOf_get hi] at e1
      cases e1
      exact ⟨⟨t, rfl, hps i t e2⟩, rfl⟩
    rw [numF_inr] at hfa
    have hfa' : H4 fa = some (.lst (intsV (Rd W B (k + 1)))) := hfa
    have sm4 : Same H H4 := sm.trans (hsm.trans s4')
    have la4 := (hsm.trans s4') _ _ hla1
    have p4 := (hsm.trans s4') _ _ hpl
    have lots4 := hlots.same (hsm.trans s4')
    refine ⟨_, rfl, _, rfl, fa, la, zs (Rd W B (k + 1)), zs (Rd W B k), rfl, rfl, by rw [hfa', intsV_zs], by rw [la4, intsV_zs], by rw [zs_len, zs_len, Rd_len hMa, Rd_len hMa], _, rfl, ite3 (fun he => ?_) (fun he => ?_)⟩
    · exact ⟨_, rfl, q p lots k H4 sm4 p4 hll lots4 (zs_inj he) hk⟩
    have he' : Rd W B (k + 1) ≠ Rd W B k := fun z => he (by rw [z])
    have hl0 : lots ≠ [] := by
      intro z
      rw [z] at hll
      simp at hll
    refine ⟨_, rfl, .inl ⟨rfl, _, SqL.of p4⟩, _, rfl, p, _, _, rfl, rfl, p4, ?_, he', k + 1, lots ++ [fa], _, _, rfl, rfl, Same.set sm4 hpH, ?_, ?_, ?_, ?_⟩
    · rw [List.length_map, hll]
      exact ar_k hk
    · rw [upd_same, List.map_append]
      rfl
    · rw [List.length_append, hll]
      rfl
    · intro i r e
      by_cases hi : i < lots.length
      · rw [List.getElem?_append_left hi] at e
        have h1 := lots4 i r e
        rw [upd_ne (lots_ne h1 p4 hl0)]
        exact h1
      · rw [List.getElem?_append_right (Nat.le_of_not_lt hi)] at e
        have hi0 : i = k + 1 := (ar_at hi (List.getElem?_eq_some_iff.mp e).1).trans hll
        subst hi0
        rw [hll, Nat.sub_self] at e
        have et : fa = r := by simpa using e
        subst et
        rw [upd_ne (lots_ne hfa' p4 hl0)]
        exact hfa'
    · intro i hi
      by_cases h : i = k
      · subst h
        exact he'
      · exact hne i (ar_lt hi h)
theorem sc_parting_word : FnScope ["letters", "ways", "rounds", "one", "two", "needed", "here", "there", "word", "lots", "place"] ["letters", "ways", "rounds", "one", "two"] (defScope s_parting_word) := ⟨rfl, rfl, rfl, by decide +kernel, rfl, by decide +kernel, by decide +kernel⟩
set_option maxHeartbeats 4000000 in
theorem ok_parting_word {f : Addr} {fd : FuncData} (F : Fun K "parting_word" "parting_word" s_parting_word f fd) (T : Txt K mg c_RoomError c_NoLetters c_NoWord c_NoNumber c_NoRoom c_NoMachine c_OtherLetters c_TooMany c_NoPattern c_TooGreat c_NoKind) : FnOk P w K mg base CX0 1 f fd ["letters", "ways", "rounds", "one", "two"] sp_pword := by
  refine F.ok sc_parting_word (fun vs H Q E h => ?_) (fun cdv A outer s H vs Q E hr h => ?_)
  · obtain ⟨wy, p, rows, lots, L, W, B, k, r, s, rfl, _⟩ := h
    rfl
  · obtain ⟨wy, p, rows, lots, L, W, B, k, r, s, rfl, hwy, hrl, hrows, hMa, hp, hll, hlots, hst, hk36, hr0, hs0, q⟩ := h
    refine ⟨_, (pss_cons ((ps_if (pt_cmpR op_eq (pe_ix ix_list (pe_ix ix_list (pv 2) (pe_un un_neg pe_int) (fun _ _ => rfl)) (pv 3) (fun _ _ => rfl)) (pe_ix ix_list (pe_ix ix_list (pv 2) (pe_un un_neg pe_int) (fun _ _ => rfl)) (pv 4) (fun _ _ => rfl)) (nomark _)) ((pss_one (ps_ret pe_non))) (pss_nil))) (pss_cons ((ps_set (i := 5) sc_parting_word.nd rfl (Or.inl rfl) ((pe_bm PySem.F.plainAttrs_list PySem.F.slot_list_index PySem.F.type_list_index mt_indexB (pe_compS ["letters", "ways", "rounds", "one", "two", "needed", "here", "there", "word", "?", "place"] rfl (by decide) (pi_sq (pv 2)) (fun cl C fp s' H' => ⟨pts_nil, pe_cmpR op_eq (pe_ix (ix_listK K) (pv 0) (pv 4) (fun _ _ => rfl)) (pe_ix (ix_listK K) (pv 0) (pv 5) (fun _ _ => rfl)) (nomark _)⟩)) (pa_cons pe_bl pa_nil))))) (pss_cons ((ps_set (i := 6) sc_parting_word.nd rfl (Or.inl rfl) (pv 3))) (pss_cons ((ps_set (i := 7) sc_parting_word.nd rfl (Or.inl rfl) (pv 4))) (pss_cons ((ps_set (i := 8) sc_parting_word.nd rfl (Or.inl rfl) (pe_str))) (pss_cons ((ps_for PassesOwn.never rfl (pi_rev rfl T.reversed (pa_cons (pe_slice sl_list (pv 2) po_none (po_some (pv 5))) pa_nil)) (pg_name (i := 9) sc_parting_word.nd rfl (Or.inr rfl)) ((pss_cons ((ps_set (i := 10) sc_parting_word.nd rfl (Or.inl rfl) ((pe_bm PySem.F.plainAttrs_list PySem.F.slot_list_index PySem.F.type_list_index mt_indexB (pe_comp2 ["letters", "ways", "rounds", "one", "two", "needed", "here", "there", "word", "lots", "place"] rfl (by decide) (pi_zipT rfl T.zip (pa_cons (pe_ix ix_tup (pv 1) (pv 6) (fun _ _ => rfl)) (pa_cons (pe_ix ix_tup (pv 1) (pv 7) (fun _ _ => rfl)) pa_nil))) (fun cl C fp s' H' => pe_cmpR op_eq (pe_ix (ix_listK K) (pv 11) (pv 0) (fun _ _ => rfl)) (pe_ix (ix_listK K) (pv 11) (pv 1) (fun _ _ => rfl)) (nomark _))) (pa_cons pe_bl pa_nil))))) (pss_cons ((ps_set (i := 8) sc_parting_word.nd rfl (Or.inl rfl) (pe_op op_add_str (pv 8) (pe_ix ix_str (pv 0) (pv 10) (fun _ _ => rfl))))) (pss_cons ((ps_set (i := 6) sc_parting_word.nd rfl (Or.inl rfl) (pe_ix ix_tup (pe_ix ix_tup (pv 1) (pv 6) (fun _ _ => rfl)) (pv 10) (fun _ _ => rfl)))) (pss_one ((ps_set (i := 7) sc_parting_word.nd rfl (Or.inl rfl) (pe_ix ix_tup (pe_ix ix_tup (pv 1) (pv 7) (fun _ _ => rfl)) (pv 10) (fun _ _ => rfl))))))))))) (pss_one (ps_ret (pv 8))))))))), ?_⟩
    have hz : (tx L).length ≤ sizeLine := line_ge (by rw [tx_len]; exact Nat.le_trans hMa.lt.hi (by decide))
    obtain ⟨la, hla⟩ : ∃ la, lots[k]? = some la := ⟨lots[k]'(by rw [hll]; exact Nat.lt_succ_self k), List.getElem?_eq_getElem _⟩
    have hla1 := hlots k la hla
    have hat := atI_lastG hll hla
    have hlen := Rd_len hMa k
    refine ⟨_, rfl, _, rfl, p, _, _, _, rfl, rfl, SqL.of hp, hat, _, rfl, la, _, _, _, rfl, rfl, SqL.of hla1, atI_ints (by rw [hlen]; exact hr0), ?_⟩
    refine ⟨_, rfl, _, rfl, p, _, _, _, rfl, rfl, SqL.of hp, hat, _, rfl, la, _, _, _, rfl, rfl, SqL.of hla1, atI_ints (by rw [hlen]; exact hs0), rfl, _, rfl, ?_⟩
    rw [dec_nat]
    refine ite3 (fun he => ?_) (fun he => ?_)
    · exact q none H (Same.refl H) (.inl ⟨rfl, fun j => lot_all hMa hst he hr0 hs0 j⟩)
    obtain ⟨hmem, hlt, hff, hfirst⟩ := first_false (f := fun j => decide (lot W B j r = lot W B j s)) (n := k + 1) (j := k) (Nat.lt_succ_self k) (decide_eq_false he)
    dsimp only [tNext, tSeq, tAsg, tCall, tCons, tBM, tCB]
    refine comp_sq (a := p) (fun R h => ⟨_, rfl, h⟩) (.inl rfl) hp (fun D j ys H' => ys = (((List.range (k + 1)).map fun j => decide (lot W B j r = lot W B j s)).map V.bl).take j) (by rw [List.length_map, hll]; exact line_ge (Nat.le_trans (Nat.succ_le_succ hk36) (by decide))) (fun D hD => by simp) ?_ ?_
    · intro D j x ys H' R1 R2 hD hx hsm hDl hp2 k1 k2
      rw [List.getElem?_map] at hx
      obtain ⟨la', hla', rfl⟩ := Option.map_eq_some_iff.mp hx
      have hj : j < k + 1 := by rw [← hll]; exact (List.getElem?_eq_some_iff.mp hla').1
      have h1 := hsm _ _ (hlots j la' hla')
      refine tAlways_if ⟨_, rfl, _, rfl, la', _, _, _, rfl, rfl, SqL.of h1, atI_ints (by rw [Rd_len hMa]; exact hr0), _, rfl, _, rfl, la', _, _, _, rfl, rfl, SqL.of h1, atI_ints (by rw [Rd_len hMa]; exact hs0), rfl, ?_⟩
      rw [dec_nat]
      refine k1 _ H' hDl (Same.set hsm hD) ?_
      rw [hp2]
      refine (take_snoc ?_).symm
      rw [List.getElem?_map, List.getElem?_map, List.getElem?_range hj]
      rfl
    intro D ys H1 hD hsm hDl hp2
    rw [List.length_map, hll, List.take_of_length_le (by simp)] at hp2
    subst hp2
    refine ⟨.inl ⟨rfl, _, SqL.of hDl⟩, D, _, rfl, rfl, hDl, hmem, ?_⟩
    generalize ((List.range (k + 1)).map fun j => decide (lot W B j r = lot W B j s)).idxOf false = t at hlt hff hfirst ⊢
    have hne : lot W B t r ≠ lot W B t s := of_decide_eq_false hff
    have heq : ∀ j < t, lot W B j r = lot W B j s := fun j hj => of_decide_eq_true (hfirst j hj)
    refine ⟨_, rfl, _, rfl, ?_⟩
    refine ⟨_, rfl, _, rfl, _, rfl, p, _, rfl, SqL.of (hsm _ _ hp), fun pl hpl => ?_⟩
    rw [cutV_take (by rw [List.length_map, hll]; exact Nat.le_of_lt hlt)]
    have hxl : ((lots.map V.ref).take t).length = t := by rw [List.length_take, List.length_map, hll]; exact Nat.min_eq_left (Nat.le_of_lt hlt)
    refine ⟨pl, _, rfl, upd_same, for_over over_rev (fun i σ' H' => ∃ (h1 h2 : Nat) (w : List Nat) (s9 s10 : Option V), σ' = [some (.str (tx L)), some (.ref wy), some (.ref p), some (.int (r : Int)), some (.int (s : Int)), some (.int (t : Int)), some (.int (h1 : Int)), some (.int (h2 : Int)), some (.str (tx w)), s9, s10] ∧ Same (L2.upd H1 pl (.lst ((lots.map V.ref).take t))) H' ∧ h1 < W.length ∧ h2 < W.length ∧ w.length = i ∧ i ≤ t ∧ lot W B (t - i) h1 ≠ lot W B (t - i) h2 ∧ (∀ j < t - i, lot W B j h1 = lot W B j h2) ∧ w ++ pw L W B (t - i) h1 h2 = pw L W B t r s) ⟨r, s, [], none, none, by rw [← empty_eq]; rfl, Same.refl _, hr0, hs0, rfl, Nat.zero_le _, hne, heq, rfl⟩ ?_ ?_ ?_⟩
    · rintro i σ' H' ⟨h1, h2, w, s9, s10, rfl, sm2, _⟩
      exact sm2 _ _ upd_same
    · rintro i x σ' H2 hx ⟨h1, h2, w, s9, s10, rfl, sm2, hh1, hh2, hwl, hit, hne2, heq2, hw⟩
      have hi : i < t := by have := (List.getElem?_eq_some_iff.mp hx).1; rwa [List.length_reverse, hxl] at this
      rw [List.getElem?_reverse (by rw [hxl]; exact hi), hxl, List.getElem?_take, if_pos (ar_sub1 hi), List.getElem?_map] at hx
      obtain ⟨la2, hla2, rfl⟩ := Option.map_eq_some_iff.mp hx
      obtain ⟨u, hu, hu1, hu2⟩ := ar_sub hi
      rw [hu1] at hla2
      rw [hu] at hne2 heq2 hw
      have s0 : Same H H2 := hsm.trans ((Same.upd hpl).trans sm2)
      have hlaH := s0 _ _ (hlots u la2 hla2)
      obtain ⟨ra, hra, hraH⟩ := MachAt.row hrl (hrows.same s0) hh1
      obtain ⟨rb, hrb, hrbH⟩ := MachAt.row hrl (hrows.same s0) hh2
      obtain ⟨hpl1, hpl2, hpl3⟩ := place_of hMa hh1 hh2 hne2 (heq2 u (Nat.lt_succ_self u))
      have l1 := (row_of hMa hh1).1
      have l2 := (row_of hMa hh2).1
      have hL3 := hMa.lt.hi
      dsimp only [gName]
      dsimp only [tNext, tSeq, tAsg, tCall, tCons, tBM, tCB]
      refine comp2_zipG (c := ra) (d := rb) (fun R h => ⟨_, rfl, _, rfl, wy, _, _, _, rfl, rfl, SqT.of (s0 _ _ hwy), atI_map V.ref hra, _, rfl, _, rfl, wy, _, _, _, rfl, rfl, SqT.of (s0 _ _ hwy), atI_map V.ref hrb, h⟩) hraH hrbH (by rw [intsV_len, intsV_len, l1, l2]) (fun D j ys H3 => ys = ((parts W B u h1 h2).map V.bl).take j) (by rw [intsV_len, l1]; exact line_ge (Nat.le_trans hL3 (by decide))) (fun D hD => by simp) ?_ ?_
      · intro D j x z ys H3 H4 R1 hD hx hz' hsm3 hDl hp3 hsm4 k1
        have hj : j < L.length := by have := (List.getElem?_eq_some_iff.mp hx).1; rwa [intsV_len, l1] at this
        rw [intsV_get (by rw [l1]; exact hj)] at hx
        rw [intsV_get (by rw [l2]; exact hj)] at hz'
        cases hx
        cases hz'
        have hla4 := hsm4 _ _ (hsm3 _ _ hlaH)
        refine ⟨_, rfl, _, rfl, la2, _, _, _, rfl, rfl, SqL.of hla4, atI_ints (by rw [Rd_len hMa]; exact goal_lt hMa hh1 hj), _, rfl, _, rfl, la2, _, _, _, rfl, rfl, SqL.of hla4, atI_ints (by rw [Rd_len hMa]; exact goal_lt hMa hh2 hj), rfl, ?_⟩
        rw [dec_nat]
        refine k1 _ H4 (hsm4 _ _ hDl) (Same.set (hsm3.trans hsm4) hD) ?_
        rw [hp3]
        refine (take_snoc ?_).symm
        rw [List.getElem?_map, parts_get hMa hh1 hh2 hj]
        rfl
      intro D ys H3 hD hsm3 hDl hp3
      rw [intsV_len, l1, List.take_of_length_le (by rw [List.length_map, parts_len hMa hh1 hh2]; exact Nat.le_refl _)] at hp3
      subst hp3
      have hmem2 : false ∈ parts W B u h1 h2 := List.idxOf_lt_length_iff.mp (by rw [parts_len hMa hh1 hh2]; exact hpl1)
      refine ⟨.inl ⟨rfl, _, SqL.of hDl⟩, D, _, rfl, rfl, hDl, hmem2, ?_⟩
      have s3 := s0.trans hsm3
      have hget : L[place W B u h1 h2]? = some (L.getD (place W B u h1 h2) 0) := by rw [List.getD_eq_getElem?_getD, List.getElem?_eq_getElem hpl1]; rfl
      have hatL : atI (tx L).cps.toList ((place W B u h1 h2 : Nat) : Int) = some (L.getD (place W B u h1 h2) 0) := by
        rw [tx_cps]
        exact atI_nat hget
      have e1 := atI_ints (ns := W.getD h1 []) (r := place W B u h1 h2) (by rw [l1]; exact hpl1)
      have e2 := atI_ints (ns := W.getD h2 []) (r := place W B u h1 h2) (by rw [l2]; exact hpl1)
      refine ⟨_, rfl, _, rfl, _, rfl, _, _, _, rfl, rfl, hz, hatL, _, _, rfl, rfl, ?_, ?_⟩
      · rw [tx_len]
        show w.length + 1 ≤ sizeLine
        exact line_ge (ar_wl hwl hi hlt hk36)
      refine ⟨_, rfl, _, rfl, wy, _, _, _, rfl, rfl, SqT.of (s3 _ _ hwy), atI_map V.ref hra, _, rfl, ra, _, _, _, rfl, rfl, SqT.of (hsm3 _ _ hraH), e1, ?_⟩
      refine ⟨_, rfl, _, rfl, wy, _, _, _, rfl, rfl, SqT.of (s3 _ _ hwy), atI_map V.ref hrb, _, rfl, rb, _, _, _, rfl, rfl, SqT.of (hsm3 _ _ hrbH), e2, ?_⟩
      rw [hu2]
      refine ⟨goal W h1 (place W B u h1 h2), goal W h2 (place W B u h1 h2), w ++ [L.getD (place W B u h1 h2) 0], _, _, by rw [← tx_app]; rfl, sm2.trans hsm3, goal_lt hMa hh1 hpl1, goal_lt hMa hh2 hpl1, by rw [List.length_append, hwl]; rfl, hi, hpl2, fun j hj => ((lot_succ hMa hh1 hh2).mp (heq2 (j + 1) (Nat.succ_lt_succ hj))).2 _ hpl1, ?_⟩
      rw [List.append_assoc]
      exact hw
    · rintro σ' H2 ⟨h1, h2, w, s9, s10, rfl, sm2, hh1, hh2, hwl, hit, hne2, heq2, hw⟩
      rw [List.length_reverse, hxl, Nat.sub_self] at hw
      have hw' : w = pw L W B t r s := by rw [← hw]; simp [pw]
      exact ⟨_, rfl, q (some w) H2 (hsm.trans ((Same.upd hpl).trans sm2)) (.inr ⟨t, by rw [hw'], hne, heq⟩)⟩
theorem sc_parting : FnScope ["machine", "one", "two", "ways", "rounds"] ["machine", "one", "two"] (defScope s_parting) := ⟨rfl, rfl, rfl, by decide +kernel, rfl, by decide +kernel, by decide +kernel⟩
set_option maxHeartbeats 4000000 in
theorem ok_parting {f : Addr} {fd : FuncData} (F : Fun K "parting" "parting" s_parting f fd) (T : Txt K mg c_RoomError c_NoLetters c_NoWord c_NoNumber c_NoRoom c_NoMachine c_OtherLetters c_TooMany c_NoPattern c_TooGreat c_NoKind) (d_need_room : DfX P w K mg base "need_room" 3 ["machine", "number"] (sp_needroomX c_NoRoom)) (d_rounds_of : Df P w K mg base "rounds_of" 2 ["ways", "marks", "most"] sp_rounds) (d_parting_word : Df P w K mg base "parting_word" 1 ["letters", "ways", "rounds", "one", "two"] sp_pword) : FnOk P w K mg base (CXE P w) 4 f fd ["machine", "one", "two"] (sp_parting c_NoRoom) := by
  refine F.okX sc_parting (fun vs H Q E h => ?_) (fun cdv A outer s H vs Q E hr h => ?_)
  · obtain ⟨m, L, W, B, r, s, rfl, _⟩ := h
    rfl
  · obtain ⟨m, L, W, B, r, s, rfl, hM, hMa, e1, q⟩ := h
    have hM0 := hM
    obtain ⟨wy, mk, rows, h1, h2, h3, h4, h5⟩ := hM0
    have hr1 := hr.mono (j := 1) (by decide)
    have hr2 := hr.mono (j := 2) (by decide)
    refine ⟨_, (pss_cons (ps_expr (pe_dfX d_need_room hr (passes_def fun _ _ _ z => z) (pa_cons (pv 0) (pa_cons (pv 1) pa_nil)))) (pss_cons (ps_expr (pe_dfX d_need_room hr (passes_def fun _ _ _ z => z) (pa_cons (pv 0) (pa_cons (pv 2) pa_nil)))) (pss_cons ((ps_set (i := 3) sc_parting.nd rfl (Or.inl rfl) (pe_ix ix_tup (pv 0) pe_int (fun _ _ => rfl)))) (pss_cons ((ps_set (i := 4) sc_parting.nd rfl (Or.inl rfl) ((pe_df d_rounds_of hr2 (pa_cons (pv 3) (pa_cons (pe_ix ix_tup (pv 0) pe_int (fun _ _ => rfl)) (pa_cons ((pe_callB call_len_seq (by rfl) T.len PySem.boot_len (pa_cons (pv 3) pa_nil))) pa_nil))))))) (pss_one (ps_ret (pe_df d_parting_word hr1 (pa_cons (pe_ix ix_tup (pv 0) pe_int (fun _ _ => rfl)) (pa_cons (pv 3) (pa_cons (pv 4) (pa_cons (pv 1) (pa_cons (pv 2) pa_nil)))))))))))), ?_⟩
    refine ⟨_, rfl, _, rfl, m, L, W, B, r, rfl, hM, hMa, fun n => e1 (fun z => n z.1), fun hr1' => ?_⟩
    refine ⟨_, rfl, _, rfl, m, L, W, B, s, rfl, hM, hMa, fun n => e1 (fun z => n z.2), fun hs1' => ?_⟩
    refine ⟨_, rfl, m, _, _, _, rfl, rfl, SqT.of h1, atI_nat (j := 1) rfl, ?_⟩
    refine ⟨_, rfl, _, rfl, m, _, _, _, rfl, rfl, SqT.of h1, atI_nat (j := 2) rfl, _, rfl, wy, _, rfl, .inr (SqT.of h2), wy, mk, rows, L, W, B, by rw [List.length_map, h4]; rfl, h2, h3, h4, h5, hMa, fun p lots k H1 s1 hp hll hlots hst hk => ?_⟩
    refine ⟨_, rfl, m, _, _, _, rfl, rfl, SqT.of (s1 _ _ h1), atI_nat (j := 0) rfl, _, rfl, _, rfl, _, rfl, _, rfl, wy, p, rows, lots, L, W, B, k, r.toNat, s.toNat, by rw [Int.toNat_of_nonneg hr1'.1, Int.toNat_of_nonneg hs1'.1]; rfl, s1 _ _ h2, h4, h5.same s1, hMa, hp, hll, hlots, hst, hk, ar_toNat hr1'.1 hr1'.2, ar_toNat hs1'.1 hs1'.2, fun o H2 s2 hpo => q hr1' hs1' o H2 (s1.trans s2) hpo⟩
theorem sc__law_cell_at : FnScope ["_law_script", "_law_k"] ["_law_script", "_law_k"] (defScope s__law_cell_at) := ⟨rfl, rfl, rfl, by decide +kernel, rfl, by decide +kernel, by decide +kernel⟩
set_option maxHeartbeats 4000000 in
theorem ok__law_cell_at {f : Addr} {fd : FuncData} (F : Fun K "_law_cell_at" "_law_cell_at" s__law_cell_at f fd) (T : Txt K mg c_RoomError c_NoLetters c_NoWord c_NoNumber c_NoRoom c_NoMachine c_OtherLetters c_TooMany c_NoPattern c_TooGreat c_NoKind) : FnOk P w K mg base CX0 1 f fd ["_law_script", "_law_k"] (sp_cell K) := by
  refine F.ok sc__law_cell_at (fun vs H Q E h => ?_) (fun cdv A outer s H vs Q E hr h => ?_)
  · obtain ⟨a, ns, k, rfl, _⟩ := h
    rfl
  · obtain ⟨a, ns, k, rfl, hS, h0, q⟩ := h
    refine ⟨_, (pss_cons ((ps_if (pt_cmpR op_lt (pv 1) (pe_callB call_len_seq (by rfl) T.len PySem.boot_len (pa_cons (pv 0) pa_nil)) (nomark _)) ((pss_one (ps_ret (pe_ix ix_list (pv 0) (pv 1) (fun _ _ => rfl))))) (pss_nil))) (pss_one (ps_ret pe_int))), ?_⟩
    refine ⟨_, rfl, _, rfl, a, _, rfl, .inl hS, _, _, rfl, rfl, _, rfl, ?_⟩
    refine ite3 (fun hlt => ?_) (fun _ => q 0)
    obtain ⟨v, hv, hv2⟩ := atI_in (xs := ns.map V.int) h0 hlt
    obtain ⟨z, rfl⟩ : ∃ z, v = V.int z := by
      rw [List.getElem?_map] at hv2
      cases e : ns[k.toNat]? with
      | none => rw [e] at hv2; cases hv2
      | some z => rw [e] at hv2; exact ⟨z, (Option.some.inj hv2).symm⟩
    exact ⟨_, rfl, _, rfl, a, _, _, _, rfl, rfl, hS, hv, q z⟩
theorem sc__law_letters : FnScope ["_law_cell", "_law_left", "_law_number", "_law_many", "_law_found", "_law_k", "_law_at"] ["_law_cell"] (defScope s__law_letters) := ⟨rfl, rfl, rfl, by decide +kernel, rfl, by decide +kernel, by decide +kernel⟩
set_option maxHeartbeats 4000000 in
theorem ok__law_letters {f : Addr} {fd : FuncData} (F : Fun K "_law_letters" "_law_letters" s__law_letters f fd) (T : Txt K mg c_RoomError c_NoLetters c_NoWord c_NoNumber c_NoRoom c_NoMachine c_OtherLetters c_TooMany c_NoPattern c_TooGreat c_NoKind) : FnOk P w K mg base CX0 1 f fd ["_law_cell"] sp_letters := by
  refine F.ok sc__law_letters (fun vs H Q E h => ?_) (fun cdv A outer s H vs Q E hr h => ?_)
  · obtain ⟨c, rfl, _⟩ := h
    rfl
  · obtain ⟨c, rfl, q⟩ := h
    refine ⟨_, (pss_cons ((ps_set (i := 1) sc__law_letters.nd rfl (Or.inl rfl) (pe_str))) (pss_cons ((ps_set (i := 2) sc__law_letters.nd rfl (Or.inl rfl) (pe_op op_mod (pv 0) pe_int))) (pss_cons ((ps_set (i := 3) sc__law_letters.nd rfl (Or.inl rfl) (pe_op op_add pe_int (pe_op op_mod (pv 2) pe_int)))) (pss_cons ((ps_set (i := 2) sc__law_letters.nd rfl (Or.inl rfl) (pe_op op_fdiv (pv 2) pe_int))) (pss_cons ((ps_set (i := 4) sc__law_letters.nd rfl (Or.inl rfl) (pe_str))) (pss_cons ((ps_for PassesOwn.never rfl (pi_range1 rfl T.range (pa_cons (pv 3) pa_nil)) (pg_name (i := 5) sc__law_letters.nd rfl (Or.inl rfl)) ((pss_cons ((ps_set (i := 6) sc__law_letters.nd rfl (Or.inl rfl) (pe_op op_mod (pv 2) (pe_callB call_len_str (by rfl) T.len PySem.boot_len (pa_cons (pv 1) pa_nil))))) (pss_cons ((ps_set (i := 2) sc__law_letters.nd rfl (Or.inl rfl) (pe_op op_fdiv (pv 2) (pe_callB call_len_str (by rfl) T.len PySem.boot_len (pa_cons (pv 1) pa_nil))))) (pss_cons ((ps_set (i := 4) sc__law_letters.nd rfl (Or.inl rfl) (pe_op op_add_str (pv 4) (pe_ix ix_str (pv 1) (pv 6) (fun _ _ => rfl))))) (pss_one ((ps_set (i := 1) sc__law_letters.nd rfl (Or.inl rfl) (pe_op op_add_str (pe_slice sl_str (pv 1) po_none (po_some (pv 6))) (pe_slice sl_str (pv 1) (po_some (pe_op op_add (pv 6) pe_int)) po_none))))))))))) (pss_one (ps_ret (pv 4))))))))), ?_⟩
    obtain ⟨N, en, n1, n2⟩ := ar_room (c % 46800) 1 3 (by decide)
    have en : (N : Int) = 1 + c % 46800 % 3 := en
    have n3 : N ≤ 3 := Nat.le_of_lt_succ n2
    refine ⟨_, rfl, _, _, rfl, rfl, (by show (0 : Int) < 46800; decide), _, rfl, _, _, rfl, rfl, (by show (0 : Int) < 3; decide), _, _, rfl, rfl, _, rfl, _, _, rfl, rfl, ⟨by decide, by decide⟩, _, rfl, _, rfl, by rw [← en]; exact (ar_rng (Nat.le_trans (Nat.le_of_lt n2) (by decide))).1, by rw [← en]; exact (ar_rng (Nat.le_trans (Nat.le_of_lt n2) (by decide))).2, ?_⟩
    generalize hM : (1 : Int) + c % 46800 % 3 = M at en ⊢
    have hMN : M.toNat = N := by rw [← en]; rfl
    refine for_range (n := M.toNat) (fun i σ H' => ∃ f l n k0 a0, σ = [some (.int c), some (.str (tx l)), some (.int n), some (.int M), some (.str (tx f)), k0, a0] ∧ H' = H ∧ 0 ≤ n ∧ f.length = i ∧ l.length + i = 26 ∧ (f ++ l).Nodup ∧ ∀ c ∈ f ++ l, 97 ≤ c ∧ c ≤ 122) ?_ ?_ ?_
    · refine ⟨[], List.range' 97 26, c % 46800 / 3, none, none, ?_, rfl, Int.ediv_nonneg (Int.emod_nonneg _ (by decide)) (by decide), rfl, rfl, by decide, by decide⟩
      show [some (V.int c), some (V.str _), some (V.int _), some (V.int _), some (V.str _), none, none] = _
      rw [abc_eq, empty_eq, hM]
    · rintro i σ H1 hi ⟨f, l, n, k0, a0, rfl, rfl, hn, hf, hl, nd, az⟩
      have hi3 : i < 3 := Nat.lt_of_lt_of_le (hMN ▸ hi) n3
      obtain ⟨l1, l26⟩ := ar_l26 hl (Nat.le_of_lt hi3)
      have hz : (tx l).length ≤ sizeLine := line_ge (by rw [tx_len]; exact Nat.le_trans l26 (by decide))
      have hlp : (0 : Int) < ((tx l).length : Int) := by rw [tx_len]; exact ar_pos1 l1
      have hr0 := Int.emod_nonneg n (Int.ne_of_gt hlp)
      have hr1 := Int.emod_lt_of_pos n hlp
      have hd0 : 0 ≤ n / ((tx l).length : Int) := Int.ediv_nonneg hn (Int.le_of_lt hlp)
      have hRl : (n % ((tx l).length : Int)).toNat < l.length := Nat.lt_of_lt_of_eq (ar_toNat hr0 hr1) (tx_len l)
      obtain ⟨v, hv, hv2⟩ := atI_in (xs := (tx l).cps.toList) hr0 (by rw [tx_cps]; exact Int.lt_of_lt_of_le hr1 (Int.le_of_eq (congrArg Nat.cast (tx_len l))))
      rw [tx_cps] at hv2
      have ev : v = l[(n % ((tx l).length : Int)).toNat] := by
        rw [List.getElem?_eq_getElem hRl] at hv2
        exact (Option.some.inj hv2).symm
      subst ev
      refine ⟨_, rfl, _, rfl, _, rfl, hz, _, _, rfl, rfl, hlp, _, rfl, _, rfl, _, rfl, hz, _, _, rfl, rfl, ⟨hlp, by rw [tx_len]; exact ar_26 l26⟩, _, rfl, _, rfl, _, rfl, _, _, _, rfl, rfl, hz, hv, _, _, rfl, rfl, ?_, _, rfl, _, rfl, _, rfl, _, rfl, hz, _, rfl, _, rfl, _, _, rfl, rfl, _, rfl, _, rfl, hz, _, _, rfl, rfl, ?_, ?_⟩
      · refine line_ge ?_
        rw [tx_len]
        show f.length + 1 ≤ _
        rw [hf]
        exact Nat.le_trans hi3 (by decide)
      · refine line_ge ?_
        have h1 := Txt.slice_le (tx l) none (some (n % ((tx l).length : Int)))
        have h2 := Txt.slice_le (tx l) (some ((n % ((tx l).length : Int)) + 1)) none
        exact ar_sum h1 h2 (by rw [tx_len]; exact l26)
      · obtain ⟨d1, d2⟩ := draw_one hRl nd
        refine ⟨f ++ [l[(n % ((tx l).length : Int)).toNat]], l.take (n % ((tx l).length : Int)).toNat ++ l.drop ((n % ((tx l).length : Int)).toNat + 1), n / ((tx l).length : Int), some (.int (0 + (i : Int))), some (.int (n % ((tx l).length : Int))), ?_, rfl, hd0, by rw [List.length_append, hf]; rfl, ?_, d1, fun c hc => az c (d2 c hc)⟩
        · have e1 := slice_to (tx l) hr0
          have e2 := slice_from (tx l) (i := (n % ((tx l).length : Int)) + 1) (Int.le_trans hr0 (Int.le_of_lt (Int.lt_succ _))) (by rw [tx_cps]; exact Int.lt_of_lt_of_le hr1 (Int.le_of_eq (congrArg Nat.cast (tx_len l))))
          rw [tx_cps] at e1 e2
          rw [ar_succ hr0] at e2
          show [some (V.int c), some (V.str (Txt.slice (tx l) none (some (n % ((tx l).length : Int))) ++ Txt.slice (tx l) (some ((n % ((tx l).length : Int)) + 1)) none)), some (V.int _), some (V.int M), some (V.str (tx f ++ ⟨#[l[(n % ((tx l).length : Int)).toNat]]⟩)), some _, some _] = _
          rw [e1, e2, tx_app, show (⟨#[l[(n % ((tx l).length : Int)).toNat]]⟩ : Str) = tx [l[(n % ((tx l).length : Int)).toNat]] from rfl, tx_app]
        · rw [List.length_append, List.length_take, List.length_drop]
          exact ar_draw hRl hl
    · rintro σ H1 ⟨f, l, n, k0, a0, rfl, rfl, hn, hf, hl, nd, az⟩
      refine ⟨_, rfl, q f ⟨by rw [hf, hMN]; exact n1, by rw [hf, hMN]; exact n3, (List.nodup_append.mp nd).1, fun c hc => az c (List.mem_append_left _ hc)⟩⟩
theorem sc__law_machine : FnScope ["_law_script", "_law_at", "_law_rooms", "_law_letters_here", "_law_ways", "_law_marks", "_law_number", "_law_k", "_law_rest", "_law_row", "_law_sign"] ["_law_script", "_law_at", "_law_rooms", "_law_letters_here"] (defScope s__law_machine) := ⟨rfl, rfl, rfl, by decide +kernel, rfl, by decide +kernel, by decide +kernel⟩
set_option maxHeartbeats 4000000 in
theorem ok__law_machine {f : Addr} {fd : FuncData} (F : Fun K "_law_machine" "_law_machine" s__law_machine f fd) (T : Txt K mg c_RoomError c_NoLetters c_NoWord c_NoNumber c_NoRoom c_NoMachine c_OtherLetters c_TooMany c_NoPattern c_TooGreat c_NoKind) (d__law_cell_at : Df P w K mg base "_law_cell_at" 1 ["_law_script", "_law_k"] (sp_cell K)) : FnOk P w K mg base CX0 2 f fd ["_law_script", "_law_at", "_law_rooms", "_law_letters_here"] (sp_machine K) := by
  refine F.ok sc__law_machine (fun vs H Q E h => ?_) (fun cdv A outer s H vs Q E hr h => ?_)
  · obtain ⟨a, ns, p, n, L, rfl, _⟩ := h
    rfl
  · obtain ⟨a, ns, p, n, L, rfl, hS, hp0, hn1, hn60, hL, q⟩ := h
    refine ⟨_, (pss_cons ((ps_set (i := 4) sc__law_machine.nd rfl (Or.inl rfl) (pe_lst pa_nil))) (pss_cons ((ps_set (i := 5) sc__law_machine.nd rfl (Or.inl rfl) (pe_lst pa_nil))) (pss_cons ((ps_set (i := 6) sc__law_machine.nd rfl (Or.inl rfl) (pe_int))) (pss_cons ((ps_for PassesOwn.never rfl (pi_range1 rfl T.range (pa_cons (pv 2) pa_nil)) (pg_name (i := 7) sc__law_machine.nd rfl (Or.inl rfl)) ((pss_cons ((ps_set (i := 6) sc__law_machine.nd rfl (Or.inl rfl) (pe_op op_modG (pe_op op_a (pe_op op_a (pe_op op_p (pv 6) (pv 6)) (pe_op op_p pe_int (pe_op op_m (pe_df d__law_cell_at hr (pa_cons (pv 0) (pa_cons (pe_op op_a (pv 1) (pv 7)) pa_nil))) (pe_op op_pow pe_int pe_int)))) (pv 7)) pe_int))) (pss_cons ((ps_set (i := 8) sc__law_machine.nd rfl (Or.inl rfl) (pv 6))) (pss_cons ((ps_set (i := 9) sc__law_machine.nd rfl (Or.inl rfl) (pe_lst pa_nil))) (pss_cons ((ps_for PassesOwn.never rfl (pi_str (pv 3)) (pg_name (i := 10) sc__law_machine.nd rfl (Or.inl rfl)) ((pss_cons (ps_expr (pe_bm PySem.F.plainAttrs_list PySem.F.slot_list_append PySem.F.type_list_append mt_append (pv 9) (pa_cons (pe_op op_modG (pv 8) (pv 2)) pa_nil))) (pss_one ((ps_set (i := 8) sc__law_machine.nd rfl (Or.inl rfl) (pe_op op_fdivG (pv 8) (pv 2))))))))) (pss_cons (ps_expr (pe_bm PySem.F.plainAttrs_list PySem.F.slot_list_append PySem.F.type_list_append mt_append (pv 4) (pa_cons ((pe_callTy call_tuple_of (by rfl) T.tuple PyProof.Rows.boot_tuple (pa_cons (pv 9) pa_nil))) pa_nil))) (pss_one (ps_expr (pe_bm PySem.F.plainAttrs_list PySem.F.slot_list_append PySem.F.type_list_append mt_append (pv 5) (pa_cons (pe_cmpR op_eq (pe_op op_modG (pv 8) pe_int) pe_int (nomark _)) pa_nil)))))))))))) (pss_one (ps_ret (pe_tup (pa_cons (pv 3) (pa_cons (pe_callTy call_tuple_of (by rfl) T.tuple PyProof.Rows.boot_tuple (pa_cons (pv 4) pa_nil)) (pa_cons (pe_callTy call_tuple_of (by rfl) T.tuple PyProof.Rows.boot_tuple (pa_cons (pv 5) pa_nil)) pa_nil)))))))))), ?_⟩
    refine ⟨Nat.zero_le _, fun wa hwa => ⟨Nat.zero_le _, fun mk hmk => ?_⟩⟩
    have hwm : wa ≠ mk := ne_of_none upd_same hmk
    have hmk0 : H mk = none := by rw [upd_ne hwm.symm] at hmk; exact hmk
    refine ⟨_, rfl, _, rfl, (ar_rng (Nat.le_trans hn60 (by decide))).1, (ar_rng (Nat.le_trans hn60 (by decide))).2, ?_⟩
    refine for_range (n := (n : Int).toNat) (fun i σ H' => ∃ (rows : List Addr) (W : List (List Nat)) (B : List Bool) (num : Int) (k0 rest row sg : Option V), σ = [some (.ref a), some (.int p), some (.int (n : Int)), some (.str (tx L)), some (.ref wa), some (.ref mk), some (.int num), k0, rest, row, sg] ∧
      Same H H' ∧ H' wa = some (.lst (rows.map V.ref)) ∧ H' mk = some (.lst (B.map V.bl)) ∧ rows.length = i ∧ W.length = i ∧ B.length = i ∧ 0 ≤ num ∧ num < 2147483647 ∧ RowsAt H' rows W ∧ ∀ ws ∈ W, ws.length = L.length ∧ ∀ x ∈ ws, x < n) ?_ ?_ ?_
    · exact ⟨[], [], [], 0, none, none, none, none, rfl, fun b o e => upd_keep (upd_keep e hwa) hmk, upd_keep upd_same hmk, upd_same, rfl, rfl, rfl, by decide, by decide, fun i r e => by simp at e, fun ws e => by simp at e⟩
    · rintro i σ H1 hi ⟨rows, W, B, num, k0, rest0, row0, sg0, rfl, hsame, h1wa, h1mk, hrl, hWl, hBl, hn0, hn1', hrows, hW⟩
      refine ⟨_, rfl, _, rfl, _, _, rfl, rfl, .inl (ar_64 hn0 hn1'), _, rfl, _, rfl, _, rfl, _, _, rfl, rfl, a, ns, _, rfl, hsame.seq hS, ar_p hp0 i, fun z => ?_⟩
      refine ⟨_, _, rfl, rfl, ⟨by decide, by decide, by decide⟩, _, _, rfl, rfl, by decide, _, _, rfl, rfl, .inl ⟨by decide, by decide⟩, _, _, rfl, rfl, _, rfl, _, _, rfl, rfl, _, _, rfl, rfl, by decide, fun num2 hm0 hm1 => ?_⟩
      refine ⟨_, rfl, Nat.zero_le _, fun rw hrw => ?_⟩
      have rwa : wa ≠ rw := ne_of_none h1wa hrw
      have rmk : mk ≠ rw := ne_of_none h1mk hrw
      refine ⟨_, rfl, _, rfl, for_str (x := tx L) (fun j σ' H2 => ∃ (ws : List Nat) (rest : Int) (sg : Option V), σ' = [some (.ref a), some (.int p), some (.int (n : Int)), some (.str (tx L)), some (.ref wa), some (.ref mk), some (.int num2), some (.int (0 + (i : Int))), some (.int rest), some (.ref rw), sg] ∧
        H2 = upd H1 rw (.lst (intsV ws)) ∧ ws.length = j ∧ (∀ x ∈ ws, x < n) ∧ 0 ≤ rest) ⟨[], num2, sg0, rfl, rfl, rfl, fun x e => by simp at e, hm0⟩ ?_ ?_⟩
      · rintro j c σ2 H2 hc ⟨ws, rest, sg, rfl, rfl, hwl, hwn, hr0⟩
        have hjl : j < 4 := by
          have h9 := (Array.getElem?_eq_some_iff.mp hc).1
          have e : (tx L).cps.size = L.length := tx_len L
          rw [e] at h9
          exact Nat.lt_of_lt_of_le h9 (Nat.le_trans hL.hi (by decide))
        refine ⟨_, rfl, .inl ⟨rfl, _, SqL.of upd_same⟩, _, rfl, _, rfl, _, _, rfl, rfl, ar_pos1 hn1, fun r hr0' hr1 => ⟨rw, _, _, rfl, rfl, upd_same, ?_, _, rfl, _, rfl, _, _, rfl, rfl, ar_fd hn1 hn60, hr0, fun q2 hq2 => ?_⟩⟩
        · unfold intsV
          rw [List.length_map, hwl]
          exact small1000 (Nat.le_trans (Nat.le_of_lt hjl) (by decide))
        · refine ⟨ws ++ [r.toNat], q2, some (.str ⟨#[c]⟩), rfl, ?_, by rw [List.length_append, hwl]; rfl, fun x hx => ?_, hq2⟩
          · have e : ((r.toNat : Nat) : Int) = r := Int.toNat_of_nonneg hr0'
            rw [upd_upd]
            unfold intsV
            rw [List.map_append]
            show _ = upd H1 rw (.lst (_ ++ [V.int ((r.toNat : Nat) : Int)]))
            rw [e]
          · rcases List.mem_append.mp hx with hx | hx
            · exact hwn x hx
            · rw [List.mem_singleton.mp hx]
              exact ar_toNat hr0' hr1
      · rintro σ2 H2 ⟨ws, rest, sg, rfl, rfl, hwl, hwn, hr0⟩
        rw [tx_len] at hwl
        have a1 : upd H1 rw (.lst (intsV ws)) wa = some (.lst (rows.map V.ref)) := by rw [upd_ne rwa]; exact h1wa
        have a2 : upd H1 rw (.lst (intsV ws)) mk = some (.lst (B.map V.bl)) := by rw [upd_ne rmk]; exact h1mk
        refine ⟨_, rfl, .inl ⟨rfl, _, SqL.of a1⟩, _, rfl, rw, _, rfl, .inl ⟨SqL.of upd_same, fun tp htp => ?_⟩⟩
        have twa : wa ≠ tp := ne_of_none a1 htp
        have tmk : mk ≠ tp := ne_of_none a2 htp
        refine ⟨wa, _, _, rfl, rfl, (by rw [upd_ne twa]; exact a1), (by rw [List.length_map, hrl]; exact small1000 (Nat.le_trans (Nat.le_of_lt hi) (Nat.le_trans hn60 (by decide)))), ?_⟩
        refine ⟨_, rfl, .inl ⟨rfl, _, SqL.of (by rw [upd_ne hwm.symm, upd_ne tmk]; exact a2)⟩, _, rfl, _, _, rfl, rfl, by decide, fun r3 _ _ => ⟨rfl, mk, _, _, rfl, rfl, (by rw [upd_ne hwm.symm, upd_ne tmk]; exact a2), (by rw [List.length_map, hBl]; exact small1000 (Nat.le_trans (Nat.le_of_lt hi) (Nat.le_trans hn60 (by decide)))), ?_⟩⟩
        have hk : ∀ b o, H1 b = some o → b ≠ wa → b ≠ mk → upd (upd (upd (upd H1 rw (.lst (intsV ws))) tp (.tup (intsV ws))) wa (.lst (rows.map V.ref ++ [.ref tp]))) mk (.lst (B.map V.bl ++ [.bl (decide (V.int r3 = V.int 1))])) b = some o := fun b o e e1 e2 => by
          rw [upd_ne e2, upd_ne e1, upd_ne (ne_of_none (upd_keep e hrw) htp), upd_ne (ne_of_none e hrw)]
          exact e
        refine ⟨rows ++ [tp], W ++ [ws], B ++ [decide (V.int r3 = V.int 1)], num2, some (.int (0 + (i : Int))), some (.int rest), some (.ref rw), sg, rfl, fun b o e => ?_, ?_, ?_, ?_, ?_, ?_, hm0, hm1, fun j r e => ?_, fun v hv => ?_⟩
        · exact hk b o (hsame b o e) (ne_of_none e hwa) (ne_of_none e hmk0)
        · rw [upd_ne hwm, upd_same, List.map_append]
          rfl
        · rw [upd_same, List.map_append]
          rfl
        · rw [List.length_append, hrl]; rfl
        · rw [List.length_append, hWl]; rfl
        · rw [List.length_append, hBl]; rfl
        · exact rows_snoc hrows (hrl.trans hWl.symm) (fun b xs z => hk b _ z (ne_of z h1wa (by intro z; cases z)) (ne_of z h1mk (by intro z; cases z))) (by rw [upd_ne tmk.symm, upd_ne twa.symm, upd_same]) j r e
        · rcases List.mem_append.mp hv with hv | hv
          · exact hW v hv
          · rw [List.mem_singleton.mp hv]
            exact ⟨hwl, hwn⟩
    · rintro σ H1 ⟨rows, W, B, num, k0, rest0, row0, sg0, rfl, hsame, h1wa, h1mk, hrl, hWl, hBl, hn0, hn1', hrows, hW⟩
      refine ⟨_, rfl, _, rfl, wa, _, rfl, .inl ⟨SqL.of h1wa, fun tw htw => ⟨_, rfl, mk, _, rfl, .inl ⟨SqL.of (upd_keep h1mk htw), fun tm htm => ⟨line_ge (by show 3 ≤ 16777216; decide), fun m hm => ?_⟩⟩⟩⟩⟩
      have up : ∀ b o, H1 b = some o → upd (upd (upd H1 tw (.tup (rows.map V.ref))) tm (.tup (B.map V.bl))) m (.tup [.str (tx L), .ref tw, .ref tm]) b = some o := fun b o e => upd_keep (upd_keep (upd_keep e htw) htm) hm
      have hWn : W.length = n := hWl
      exact q m W B _ (fun b o e => up b o (hsame b o e)) ⟨tw, tm, rows, upd_same, upd_keep (upd_keep upd_same htm) hm, upd_keep upd_same hm, hrl.trans hWl.symm, hrows.same up⟩ ⟨hL, by rw [hWn]; exact hn1, by rw [hWn]; exact hn60, hBl.trans hWl.symm, fun ws hws => ⟨(hW ws hws).1, fun x hx => by rw [hWn]; exact (hW ws hws).2 x hx⟩⟩ hWn
theorem sc__law_long : FnScope ["_law_machine_here", "_law_cell", "_law_rooms", "_law_place", "_law_other", "_law_ways", "_law_k", "_law_row", "_law_marks"] ["_law_machine_here", "_law_cell"] (defScope s__law_long) := ⟨rfl, rfl, rfl, by decide +kernel, rfl, by decide +kernel, by decide +kernel⟩
set_option maxHeartbeats 4000000 in
theorem ok__law_long {f : Addr} {fd : FuncData} (F : Fun K "_law_long" "_law_long" s__law_long f fd) (T : Txt K mg c_RoomError c_NoLetters c_NoWord c_NoNumber c_NoRoom c_NoMachine c_OtherLetters c_TooMany c_NoPattern c_TooGreat c_NoKind) : FnOk P w K mg base CX0 1 f fd ["_law_machine_here", "_law_cell"] sp_long := by
  refine F.ok sc__law_long (fun vs H Q E h => ?_) (fun cdv A outer s H vs Q E hr h => ?_)
  · obtain ⟨m, L, W, B, c, rfl, _⟩ := h
    rfl
  · obtain ⟨m, L, W, B, c, rfl, hM, hMa, q⟩ := h
    obtain ⟨wy, mk, rows, h1, h2, h3, h4, h5⟩ := hM
    refine ⟨_, (pss_cons ((ps_set (i := 2) sc__law_long.nd rfl (Or.inr rfl) ((pe_callB call_len_seq (by rfl) T.len PySem.boot_len (pa_cons (pe_ix ix_tup (pv 0) (pe_int) (fun _ _ => rfl)) pa_nil))))) (pss_cons ((ps_set (i := 3) sc__law_long.nd rfl (Or.inl rfl) (pe_op op_modG (pv 1) (pe_callB call_len_str (by rfl) T.len PySem.boot_len (pa_cons (pe_ix ix_tup (pv 0) (pe_int) (fun _ _ => rfl)) pa_nil))))) (pss_cons ((ps_set (i := 4) sc__law_long.nd rfl (Or.inr rfl) (pe_op op_modG (pe_op op_f (pv 1) pe_int) (pv 2)))) (pss_cons ((ps_set (i := 5) sc__law_long.nd rfl (Or.inl rfl) (pe_lst pa_nil))) (pss_cons ((ps_for PassesOwn.never rfl (pi_range1 rfl T.range (pa_cons (pv 2) pa_nil)) (pg_name (i := 6) sc__law_long.nd rfl (Or.inr rfl)) ((pss_cons (ps_setCompS ["_law_machine_here", "_law_cell", "_law_rooms", "_law_place", "_law_other", "_law_ways", "_law_k", "_law_row", "_law_marks"] (j := 7) rfl sc__law_long.nd (by decide) rfl (Or.inl rfl) (pi_sq (pe_ix ix_tup (pe_ix ix_tup (pv 0) (pe_int) (fun _ _ => rfl)) (pv 6) (fun _ _ => rfl))) (fun cl C fp s' H' => ⟨pts_nil, pe_op op_modG (pv 0) (pe_op op_a (pv 7) pe_int)⟩)) (pss_cut ((ps_if (pt_cmpR op_lt (pe_op op_a (pv 6) pe_int) (pv 2) (nomark _)) ((pss_one (ps_asg (pe_op op_a (pv 6) pe_int) (pg_sub (pv 7) (pv 3) set_list)))) (pss_nil))) (pss_one (ps_expr (pe_bm PySem.F.plainAttrs_list PySem.F.slot_list_append PySem.F.type_list_append mt_append (pv 5) (pa_cons ((pe_callTy call_tuple_of (by rfl) T.tuple PyProof.Rows.boot_tuple (pa_cons (pv 7) pa_nil))) pa_nil))))))))) (pss_cons (ps_setCompS ["_law_machine_here", "_law_cell", "_law_rooms", "_law_place", "_law_other", "_law_ways", "?", "_law_row", "_law_marks"] (j := 8) rfl sc__law_long.nd (by decide) rfl (Or.inl rfl) (pi_range1 rfl T.range (pa_cons (pv 2) pa_nil)) (fun cl C fp s' H' => ⟨pts_nil, pe_or (pe_cmpR op_eq (pv 0) (pe_op op_s (pv 3) pe_int) (nomark _)) (pe_one (pe_and (pe_cmpR op_eq (pe_op op_modG (pe_op op_f (pe_op op_f (pv 2) pe_int) (pv 3)) pe_int) pe_int (nomark _)) (pe_one (pe_cmpR op_eq (pv 0) (pv 5) (nomark _)))))⟩)) (pss_one (ps_ret (pe_tup (pa_cons (pe_ix ix_tup (pv 0) (pe_int) (fun _ _ => rfl)) (pa_cons (pe_callTy call_tuple_of (by rfl) T.tuple PyProof.Rows.boot_tuple (pa_cons (pv 5) pa_nil)) (pa_cons (pe_callTy call_tuple_of (by rfl) T.tuple PyProof.Rows.boot_tuple (pa_cons (pv 8) pa_nil)) pa_nil)))))))))))), ?_⟩
    have hz : (tx L).length ≤ sizeLine := line_ge (by rw [tx_len]; exact Nat.le_trans hMa.lt.hi (by decide))
    have hlp : (0 : Int) < ((tx L).length : Int) := by rw [tx_len]; exact ar_pos1 hMa.lt.lo
    have hn1 := hMa.n1
    have hn60 := hMa.n60
    have h1000 : W.length ≤ 1000 := Nat.le_trans hn60 (by decide)
    have hLh := hMa.lt.hi
    have hrl : (rows.map V.ref).length = W.length := by rw [List.length_map, h4]
    refine ⟨_, rfl, m, _, _, _, rfl, rfl, SqT.of h1, atI_nat (j := 1) rfl, wy, _, rfl, .inr (SqT.of h2), ?_⟩
    rw [hrl]
    refine ⟨_, rfl, _, rfl, m, _, _, _, rfl, rfl, SqT.of h1, atI_nat (j := 0) rfl, _, rfl, hz, _, _, rfl, rfl, hlp, fun pl hpl0 hpl1 => ?_⟩
    refine ⟨_, rfl, _, _, rfl, rfl, ⟨by decide, by decide⟩, _, rfl, _, _, rfl, rfl, ar_pos1 hn1, fun ot _ _ => ?_⟩
    refine ⟨Nat.zero_le _, fun wa hwa => ?_⟩
    refine ⟨_, rfl, _, rfl, (ar_rng h1000).1, (ar_rng h1000).2, ?_⟩
    rw [tx_len] at hpl1
    refine for_range (n := ((W.length : Nat) : Int).toNat) (fun i σ' H' => ∃ (rs : List Addr) (W' : List (List Nat)) (s6 s7 : Option V), σ' = [some (.ref m), some (.int c), some (.int ((W.length : Nat) : Int)), some (.int pl), some (.int ot), some (.ref wa), s6, s7, none] ∧ Same H H' ∧ H' wa = some (.lst (rs.map V.ref)) ∧ rs.length = i ∧ W'.length = i ∧ RowsAt H' rs W' ∧ ∀ ws ∈ W', ws.length = L.length ∧ ∀ x ∈ ws, x < W.length) ?_ ?_ ?_
    · exact ⟨[], [], none, none, rfl, Same.upd hwa, upd_same, rfl, rfl, fun i r e => by simp at e, fun ws e => by simp at e⟩
    · rintro i σ' H1 hi ⟨rs, W', s6, s7, rfl, sm, hwa1, hrs, hW', hrows, hW⟩
      have hi2 : i < W.length := hi
      obtain ⟨ra, hra, hraH⟩ := MachAt.row h4 (h5.same sm) hi2
      obtain ⟨lr, lb⟩ := row_of hMa hi2
      have hat : atI (rows.map V.ref) (0 + (i : Int)) = some (.ref ra) := by
        rw [Int.zero_add]
        exact atI_map V.ref hra
      dsimp only [gName, tNext, tSeq, tAsg]
      refine comp_sq (a := ra) (fun R h => ⟨_, rfl, m, _, _, _, rfl, rfl, SqT.of (sm _ _ h1), atI_nat (j := 1) rfl, _, rfl, wy, _, _, _, rfl, rfl, SqT.of (sm _ _ h2), hat, h⟩) (.inr rfl) hraH (fun D j ys H' => ∃ vs : List Nat, ys = intsV vs ∧ vs.length = j ∧ ∀ x ∈ vs, x < W.length) (by rw [intsV_len, lr]; exact line_ge (Nat.le_trans hLh (by decide))) (fun D hD => ⟨[], rfl, rfl, fun x hx => by simp at hx⟩) ?_ ?_
      · intro D j x ys H' R1 R2 hD hx hsm hDl hp k1 k2
        obtain ⟨vs, rfl, hvl, hv⟩ := hp
        have hj : j < (W.getD i []).length := by have := (List.getElem?_eq_some_iff.mp hx).1; rwa [intsV_len] at this
        rw [intsV_get hj] at hx
        cases hx
        refine tAlways_if ⟨_, rfl, _, rfl, _, _, rfl, rfl, _, _, rfl, rfl, ar_pos2 i, fun g hg0 hg1 => k1 _ H' hDl (Same.set hsm hD) ⟨vs ++ [g.toNat], ?_, by rw [List.length_append, hvl]; rfl, fun x hx => ?_⟩⟩
        · rw [intsV_snoc, Int.toNat_of_nonneg hg0]
        · rcases List.mem_append.mp hx with hx | hx
          · exact hv x hx
          · rw [List.mem_singleton.mp hx]
            exact ar_long hg1 hi2
      intro D ys H2 hD hsm hDl hp
      obtain ⟨vs, rfl, hvl, hv⟩ := hp
      rw [intsV_len, lr] at hvl
      have hDH : H D = none := same_none sm hD
      refine ⟨fun σ2 H3 => ∃ vs : List Nat, σ2 = [some (.ref m), some (.int c), some (.int ((W.length : Nat) : Int)), some (.int pl), some (.int ot), some (.ref wa), some (.int (0 + (i : Int))), some (.ref D), none] ∧ Same H H3 ∧ H3 wa = some (.lst (rs.map V.ref)) ∧ RowsAt H3 rs W' ∧ H3 D = some (.lst (intsV vs)) ∧ vs.length = L.length ∧ ∀ x ∈ vs, x < W.length, ?_, ?_⟩
      · refine ⟨_, rfl, _, _, rfl, rfl, _, rfl, _, _, rfl, rfl, _, rfl, ite3 (fun hlt => ?_) (fun hlt => ?_)⟩
        case _ =>
          have hix : ixN (intsV vs).length pl = some pl.toNat := ixN_in hpl0 (by rw [intsV_len, hvl]; exact hpl1)
          refine ⟨_, rfl, _, _, rfl, rfl, _, rfl, _, rfl, D, _, pl, pl.toNat, rfl, rfl, hDl, hix, ?_⟩
          refine ⟨vs.set pl.toNat (i + 1), rfl, Same.set (sm.trans hsm) hDH, ?_, ?_, ?_, by rw [List.length_set]; exact hvl, fun x hx => ?_⟩
          · rw [upd_ne (ne_of_none hwa1 hD)]
            exact hsm _ _ hwa1
          · exact fun j r e => by
              obtain ⟨v, e1, e2⟩ := hrows j r e
              exact ⟨v, e1, upd_keep2 (hsm _ _ e2) hDl (by intro z; cases z)⟩
          · rw [upd_same, ← set_intsV]
            have e : (0 + (i : Int) + 1) = ((i + 1 : Nat) : Int) := by rw [Int.zero_add]; rfl
            rw [e]
          · rcases List.mem_or_eq_of_mem_set hx with z | z
            · exact hv x z
            · rw [z]; exact ar_lt2 hlt
        case _ => exact ⟨vs, rfl, sm.trans hsm, hsm _ _ hwa1, hrows.same hsm, hDl, hvl, hv⟩
      rintro σ2 H3 ⟨vs2, rfl, sm3, hwa3, hrows3, hD3, hvl2, hv2⟩
      refine ⟨_, rfl, .inl ⟨rfl, _, SqL.of hwa3⟩, _, rfl, D, _, rfl, .inl ⟨SqL.of hD3, fun tp htp => ?_⟩⟩
      have hwa4 : L2.upd H3 tp (.tup (intsV vs2)) wa = some (.lst (rs.map V.ref)) := upd_keep hwa3 htp
      refine ⟨wa, _, _, rfl, rfl, hwa4, by rw [List.length_map, hrs]; exact small1000 (Nat.le_trans (Nat.le_of_lt hi2) h1000), ?_⟩
      refine ⟨rs ++ [tp], W' ++ [vs2], _, _, rfl, Same.set (sm3.trans (Same.upd htp)) hwa, ?_, by rw [List.length_append, hrs]; rfl, by rw [List.length_append, hW']; rfl, rows_snoc hrows3 (hrs.trans hW'.symm) (fun b xs z => upd_keep2 (upd_keep z htp) hwa4 (by intro z; cases z)) (upd_keep2 upd_same hwa4 (by intro z; cases z)), fun ws hws => ?_⟩
      · rw [upd_same, List.map_append]
        rfl
      · rcases List.mem_append.mp hws with z | z
        · exact hW ws z
        · rw [List.mem_singleton.mp z]
          exact ⟨hvl2, hv2⟩
    · rintro σ' H1 ⟨rs, W', s6, s7, rfl, sm, hwa1, hrs, hW', hrows, hW⟩
      have hWn : W'.length = W.length := hW'
      dsimp only [gName, tNext, tSeq, tAsg]
      refine comp_rngG (n := W.length) (fun R h => ⟨_, rfl, h⟩) h1000 (fun D j ys H' => ∃ bs : List Bool, ys = bs.map V.bl ∧ bs.length = j) (fun D hD => ⟨[], rfl, rfl⟩) ?_ ?_
      · intro D j ys H' R1 R2 hD hj hsm hDl hp k1 k2
        obtain ⟨bs, rfl, hbl⟩ := hp
        have fin : ∀ b : Bool, R1 (.bl b) H' := fun b => k1 _ H' hDl (Same.set hsm hD) ⟨bs ++ [b], by rw [List.map_append]; rfl, by rw [List.length_append, hbl]; rfl⟩
        refine tAlways_if ⟨_, rfl, _, rfl, _, _, rfl, rfl, rfl, _, rfl, iteB (fun _ => fin _) (fun _ => ?_)⟩
        refine ⟨_, rfl, _, _, rfl, rfl, ⟨by decide, by decide⟩, _, rfl, _, _, rfl, rfl, ar_fd hn1 hn60, _, _, rfl, rfl, by decide, fun g _ _ => ⟨rfl, _, rfl, iteB (fun _ => ⟨_, rfl, _, rfl, rfl, fin _⟩) (fun _ => fin _)⟩⟩
      intro D ys H2 hD hsm hDl hp
      obtain ⟨bs, rfl, hbl⟩ := hp
      have sm2 := sm.trans hsm
      refine ⟨_, rfl, m, _, _, _, rfl, rfl, SqT.of (sm2 _ _ h1), atI_nat (j := 0) rfl, _, rfl, wa, _, rfl, .inl ⟨SqL.of (hsm _ _ hwa1), fun tw htw => ⟨_, rfl, D, _, rfl, .inl ⟨SqL.of (upd_keep hDl htw), fun tm htm => ⟨line_ge (by show 3 ≤ 16777216; decide), fun m' hm' => ?_⟩⟩⟩⟩⟩
      have up : Same H2 (L2.upd (L2.upd (L2.upd H2 tw (.tup (rs.map V.ref))) tm (.tup (bs.map V.bl))) m' (.tup [.str (tx L), .ref tw, .ref tm])) := (Same.upd htw).trans ((Same.upd htm).trans (Same.upd hm'))
      exact q m' W' bs _ (sm2.trans up) ⟨tw, tm, rs, upd_same, upd_keep (upd_keep upd_same htm) hm', upd_keep upd_same hm', hrs.trans hW'.symm, (hrows.same hsm).same up⟩ ⟨hMa.lt, by rw [hWn]; exact hn1, by rw [hWn]; exact hn60, hbl.trans hWn.symm, fun ws hws => ⟨(hW ws hws).1, fun x hx => by rw [hWn]; exact (hW ws hws).2 x hx⟩⟩ hWn
theorem sc__law_twins : FnScope ["_law_machine_here", "_law_cell", "_law_ways", "_law_marks", "_law_number", "_law_k"] ["_law_machine_here", "_law_cell"] (defScope s__law_twins) := ⟨rfl, rfl, rfl, by decide +kernel, rfl, by decide +kernel, by decide +kernel⟩
set_option maxHeartbeats 4000000 in
theorem ok__law_twins {f : Addr} {fd : FuncData} (F : Fun K "_law_twins" "_law_twins" s__law_twins f fd) (T : Txt K mg c_RoomError c_NoLetters c_NoWord c_NoNumber c_NoRoom c_NoMachine c_OtherLetters c_TooMany c_NoPattern c_TooGreat c_NoKind) : FnOk P w K mg base CX0 1 f fd ["_law_machine_here", "_law_cell"] sp_twins := by
  refine F.ok sc__law_twins (fun vs H Q E h => ?_) (fun cdv A outer s H vs Q E hr h => ?_)
  · obtain ⟨m, L, W, B, c, rfl, _⟩ := h
    rfl
  · obtain ⟨m, L, W, B, c, rfl, hM, hMa, q⟩ := h
    obtain ⟨wy, mk, rows, h1, h2, h3, h4, h5⟩ := hM
    refine ⟨_, (pss_cons ((ps_set (i := 2) sc__law_twins.nd rfl (Or.inl rfl) ((pe_callTy call_list_of (by rfl) T.list PyProof.Rows.boot_list (pa_cons (pe_ix ix_tup (pv 0) (pe_int) (fun _ _ => rfl)) pa_nil))))) (pss_cons ((ps_set (i := 3) sc__law_twins.nd rfl (Or.inl rfl) ((pe_callTy call_list_of (by rfl) T.list PyProof.Rows.boot_list (pa_cons (pe_ix ix_tup (pv 0) (pe_int) (fun _ _ => rfl)) pa_nil))))) (pss_cons ((ps_set (i := 4) sc__law_twins.nd rfl (Or.inl rfl) (pe_op op_modG (pv 1) pe_int))) (pss_cons ((ps_for PassesOwn.never rfl (pi_range2 rfl T.range (pa_cons pe_int (pa_cons (pe_callB call_len_seq (by rfl) T.len PySem.boot_len (pa_cons (pv 2) pa_nil)) pa_nil))) (pg_name (i := 5) sc__law_twins.nd rfl (Or.inl rfl)) ((pss_cons ((ps_set (i := 4) sc__law_twins.nd rfl (Or.inl rfl) (pe_op op_modG (pe_op op_a (pe_op op_a (pe_op op_p (pv 4) (pv 4)) (pe_op op_p pe_int (pv 4))) (pv 5)) pe_int))) (pss_one ((ps_if (pt_cmpR op_eq (pe_op op_modG (pv 4) pe_int) pe_int (nomark _)) ((pss_cons (ps_asg (pe_ix ix_list (pv 2) (pe_op op_modG (pe_op op_f (pv 4) pe_int) (pv 5)) (fun _ _ => rfl)) (pg_sub (pv 2) (pv 5) set_list)) (pss_one (ps_asg (pe_ix ix_list (pv 3) (pe_op op_modG (pe_op op_f (pv 4) pe_int) (pv 5)) (fun _ _ => rfl)) (pg_sub (pv 3) (pv 5) set_list))))) (pss_nil)))))))) (pss_one (ps_ret (pe_tup (pa_cons (pe_ix ix_tup (pv 0) (pe_int) (fun _ _ => rfl)) (pa_cons (pe_callTy call_tuple_of (by rfl) T.tuple PyProof.Rows.boot_tuple (pa_cons (pv 2) pa_nil)) (pa_cons (pe_callTy call_tuple_of (by rfl) T.tuple PyProof.Rows.boot_tuple (pa_cons (pv 3) pa_nil)) pa_nil)))))))))), ?_⟩
    have hn1 := hMa.n1
    have hn60 := hMa.n60
    have h1000 : W.length ≤ 1000 := Nat.le_trans hn60 (by decide)
    have hbl := hMa.bl
    have hrl : (rows.map V.ref).length = W.length := by rw [List.length_map, h4]
    refine ⟨_, rfl, m, _, _, _, rfl, rfl, SqT.of h1, atI_nat (j := 1) rfl, wy, _, rfl, .inr (SqT.of h2), fun wa hwa => ?_⟩
    refine ⟨_, rfl, m, _, _, _, rfl, rfl, SqT.of (upd_keep h1 hwa), atI_nat (j := 2) rfl, mk, _, rfl, .inr (SqT.of (upd_keep h3 hwa)), fun ma hma => ?_⟩
    have hwm : wa ≠ ma := ne_of_none upd_same hma
    have hma0 : H ma = none := by rw [upd_ne hwm.symm] at hma; exact hma
    refine ⟨_, rfl, _, _, rfl, rfl, by decide, fun n0 hn0 hn0' => ?_⟩
    refine ⟨_, rfl, wa, _, rfl, .inl (SqL.of (upd_keep upd_same hma)), _, _, rfl, ⟨by decide, by decide, by rw [hrl]; exact (ar_rng h1000).1, by rw [hrl]; exact (ar_rng h1000).2⟩, ?_⟩
    rw [hrl]
    refine for_range (n := (((W.length : Nat) : Int) - 1).toNat) (fun i σ' H' => ∃ (rs : List Addr) (W' : List (List Nat)) (B' : List Bool) (num : Int) (s5 : Option V), σ' = [some (.ref m), some (.int c), some (.ref wa), some (.ref ma), some (.int num), s5] ∧ 0 ≤ num ∧ num < 2147483647 ∧ Same H H' ∧ H' wa = some (.lst (rs.map V.ref)) ∧ H' ma = some (.lst (B'.map V.bl)) ∧ rs.length = W.length ∧ W'.length = W.length ∧ B'.length = W.length ∧ RowsAt H' rs W' ∧ ∀ ws ∈ W', ws.length = L.length ∧ ∀ x ∈ ws, x < W.length) ?_ ?_ ?_
    · have sm : Same H (L2.upd (L2.upd H wa (.lst (rows.map V.ref))) ma (.lst (B.map V.bl))) := (Same.upd hwa).trans (Same.upd hma)
      exact ⟨rows, W, B, n0, none, rfl, hn0, hn0', sm, upd_keep upd_same hma, upd_same, h4, rfl, hbl, h5.same sm, hMa.row⟩
    · rintro i σ' H1 hi ⟨rs, W', B', num, s5, rfl, hq0, hq1, sm, hwa1, hma1, hrs, hW', hB', hrows, hW⟩
      refine ⟨_, rfl, _, rfl, _, _, rfl, rfl, .inl (ar_64 hq0 hq1), _, rfl, _, _, rfl, rfl, .inl ⟨by decide, by decide⟩, _, _, rfl, rfl, _, rfl, _, _, rfl, rfl, _, _, rfl, rfl, by decide, fun num2 hm0 hm1 => ?_⟩
      have hiW := ar_iW hi
      have hi0 := Int.le_of_lt (ar_pos i)
      refine ⟨_, rfl, _, _, rfl, rfl, by decide, fun r3 _ _ => ⟨rfl, _, rfl, ite3 (fun _ => ?_) (fun _ => ?_)⟩⟩
      case _ =>
        refine ⟨_, rfl, _, rfl, _, _, rfl, rfl, ⟨by decide, by decide⟩, _, rfl, _, _, rfl, rfl, ar_pos i, fun j1 hj0 hj1 => ?_⟩
        have hj1' : j1.toNat < rs.length := by rw [hrs]; exact ar_toNat hj0 (Int.lt_trans hj1 hiW)
        obtain ⟨t, ht⟩ : ∃ t, rs[j1.toNat]? = some t := ⟨rs[j1.toNat], List.getElem?_eq_getElem hj1'⟩
        obtain ⟨ws, hws, _⟩ := hrows _ _ ht
        have hat : atI (rs.map V.ref) j1 = some (.ref t) := by
          have := atI_map V.ref ht
          rwa [Int.toNat_of_nonneg hj0] at this
        have hix : ixN (rs.map V.ref).length (1 + (i : Int)) = some (1 + (i : Int)).toNat := ixN_in hi0 (by rw [List.length_map, hrs]; exact hiW)
        refine ⟨wa, _, _, _, rfl, rfl, SqL.of hwa1, hat, _, rfl, _, rfl, wa, _, _, _, rfl, rfl, hwa1, hix, ?_⟩
        rw [set_mapL]
        have hma2 : L2.upd H1 wa (.lst ((rs.set (1 + (i : Int)).toNat t).map V.ref)) ma = some (.lst (B'.map V.bl)) := by rw [upd_ne hwm.symm]; exact hma1
        refine ⟨_, rfl, _, rfl, _, _, rfl, rfl, ⟨by decide, by decide⟩, _, rfl, _, _, rfl, rfl, ar_pos i, fun j2 hk0 hk1 => ?_⟩
        have hk1' : j2.toNat < B'.length := by rw [hB']; exact ar_toNat hk0 (Int.lt_trans hk1 hiW)
        have hat2 : atI (B'.map V.bl) j2 = some (.bl B'[j2.toNat]) := by
          have := atI_map V.bl (List.getElem?_eq_getElem hk1')
          rwa [Int.toNat_of_nonneg hk0] at this
        have hix2 : ixN (B'.map V.bl).length (1 + (i : Int)) = some (1 + (i : Int)).toNat := ixN_in hi0 (by rw [List.length_map, hB']; exact hiW)
        refine ⟨ma, _, _, _, rfl, rfl, SqL.of hma2, hat2, _, rfl, _, rfl, ma, _, _, _, rfl, rfl, hma2, hix2, ?_⟩
        rw [set_mapL]
        refine ⟨rs.set (1 + (i : Int)).toNat t, W'.set (1 + (i : Int)).toNat ws, B'.set (1 + (i : Int)).toNat B'[j2.toNat], num2, _, rfl, hm0, Int.lt_trans hm1 (by decide), same_set2 sm hwa hma0, by rw [upd_ne hwm, upd_same], upd_same, by rw [List.length_set]; exact hrs, by rw [List.length_set]; exact hW', by rw [List.length_set]; exact hB', ?_, fun v hv => ?_⟩
        · have keep : ∀ b xs, H1 b = some (.tup xs) → L2.upd (L2.upd H1 wa (.lst ((rs.set (1 + (i : Int)).toNat t).map V.ref))) ma (.lst ((B'.set (1 + (i : Int)).toNat B'[j2.toNat]).map V.bl)) b = some (.tup xs) := fun b xs z => by
            rw [upd_ne (ne_of z hma1 (by intro z; cases z)), upd_ne (ne_of z hwa1 (by intro z; cases z))]
            exact z
          have hR := rows_set (k := (1 + (i : Int)).toNat) hrows (hrs.trans hW'.symm) (by rw [hW']; exact ar_toNat hi0 hiW) ht hws
          exact fun a r e => by
            obtain ⟨v, e1, e2⟩ := hR a r e
            exact ⟨v, e1, keep _ _ e2⟩
        · rcases List.mem_or_eq_of_mem_set hv with z | z
          · exact hW v z
          · rw [z]
            exact hW ws (List.mem_of_getElem? hws)
      case _ => exact ⟨rs, W', B', num2, _, rfl, hm0, Int.lt_trans hm1 (by decide), sm, hwa1, hma1, hrs, hW', hB', hrows, hW⟩
    · rintro σ' H2 ⟨rs, W', B', num, s5, rfl, hq0, hq1, sm, hwa1, hma1, hrs, hW', hB', hrows, hW⟩
      refine ⟨_, rfl, m, _, _, _, rfl, rfl, SqT.of (sm _ _ h1), atI_nat (j := 0) rfl, _, rfl, wa, _, rfl, .inl ⟨SqL.of hwa1, fun tw htw => ⟨_, rfl, ma, _, rfl, .inl ⟨SqL.of (upd_keep hma1 htw), fun tm htm => ⟨line_ge (by show 3 ≤ 16777216; decide), fun m' hm' => ?_⟩⟩⟩⟩⟩
      have up : Same H2 (L2.upd (L2.upd (L2.upd H2 tw (.tup (rs.map V.ref))) tm (.tup (B'.map V.bl))) m' (.tup [.str (tx L), .ref tw, .ref tm])) := (Same.upd htw).trans ((Same.upd htm).trans (Same.upd hm'))
      exact q m' W' B' _ (sm.trans up) ⟨tw, tm, rs, upd_same, upd_keep (upd_keep upd_same htm) hm', upd_keep upd_same hm', hrs.trans hW'.symm, hrows.same up⟩ ⟨hMa.lt, by rw [hW']; exact hn1, by rw [hW']; exact hn60, hB'.trans hW'.symm, fun ws hws => ⟨(hW ws hws).1, fun x hx => by rw [hW']; exact (hW ws hws).2 x hx⟩⟩ hW'
theorem sc__law_some : FnScope ["_law_script", "_law_rooms", "_law_letters_here", "_law_machine_here", "_law_kind"] ["_law_script", "_law_rooms", "_law_letters_here"] (defScope s__law_some) := ⟨rfl, rfl, rfl, by decide +kernel, rfl, by decide +kernel, by decide +kernel⟩
set_option maxHeartbeats 4000000 in
theorem ok__law_some {f : Addr} {fd : FuncData} (F : Fun K "_law_some" "_law_some" s__law_some f fd) (T : Txt K mg c_RoomError c_NoLetters c_NoWord c_NoNumber c_NoRoom c_NoMachine c_OtherLetters c_TooMany c_NoPattern c_TooGreat c_NoKind) (d__law_machine : Df P w K mg base "_law_machine" 2 ["_law_script", "_law_at", "_law_rooms", "_law_letters_here"] (sp_machine K)) (d__law_cell_at : Df P w K mg base "_law_cell_at" 1 ["_law_script", "_law_k"] (sp_cell K)) (d__law_long : Df P w K mg base "_law_long" 1 ["_law_machine_here", "_law_cell"] sp_long) (d__law_twins : Df P w K mg base "_law_twins" 1 ["_law_machine_here", "_law_cell"] sp_twins) : FnOk P w K mg base CX0 3 f fd ["_law_script", "_law_rooms", "_law_letters_here"] (sp_some K) := by
  refine F.ok sc__law_some (fun vs H Q E h => ?_) (fun cdv A outer s H vs Q E hr h => ?_)
  · obtain ⟨a, ns, n, L, rfl, _⟩ := h
    rfl
  · obtain ⟨a, ns, n, L, rfl, hS, hn1, hn60, hL, q⟩ := h
    have hr1 := hr.mono (j := 1) (by decide)
    refine ⟨_, (pss_cons ((ps_set (i := 3) sc__law_some.nd rfl (Or.inl rfl) ((pe_df d__law_machine hr (pa_cons (pv 0) (pa_cons (pe_int) (pa_cons (pv 1) (pa_cons (pv 2) pa_nil)))))))) (pss_cons ((ps_set (i := 4) sc__law_some.nd rfl (Or.inl rfl) (pe_op op_modG (pe_df d__law_cell_at hr1 (pa_cons (pv 0) (pa_cons (pe_int) pa_nil))) pe_int))) (pss_cons ((ps_if (pt_cmpR op_eq (pv 4) pe_int (nomark _)) ((pss_one (ps_ret (pe_df d__law_long hr1 (pa_cons (pv 3) (pa_cons (pe_op op_m (pe_op op_f (pe_df d__law_cell_at hr1 (pa_cons (pv 0) (pa_cons (pe_int) pa_nil))) pe_int) (pe_op op_pow pe_int pe_int)) pa_nil)))))) (pss_nil))) (pss_cons ((ps_if (pt_cmpR op_eq (pv 4) pe_int (nomark _)) ((pss_one (ps_ret (pe_df d__law_twins hr1 (pa_cons (pv 3) (pa_cons (pe_op op_f (pe_df d__law_cell_at hr1 (pa_cons (pv 0) (pa_cons (pe_int) pa_nil))) pe_int) pa_nil)))))) (pss_nil))) (pss_one (ps_ret (pv 3))))))), ?_⟩
    refine ⟨_, rfl, _, rfl, _, rfl, a, ns, 4, n, L, rfl, hS, by decide, hn1, hn60, hL, fun m W B H1 s1 hM hMa hWn => ?_⟩
    have hS1 := s1.seq hS
    refine ⟨_, rfl, a, ns, 3, rfl, hS1, by decide, fun z1 => ⟨_, _, rfl, rfl, by decide, fun kd _ _ => ?_⟩⟩
    refine ⟨_, rfl, rfl, _, rfl, ite3 (fun _ => ?_) (fun _ => ?_)⟩
    case _ =>
      exact ⟨_, rfl, _, rfl, a, ns, 3, rfl, hS1, by decide, fun z2 => ⟨_, _, rfl, rfl, ⟨by decide, by decide⟩, _, _, rfl, rfl, ⟨by decide, by decide, by decide⟩, _, _, rfl, rfl, by decide, m, L, W, B, _, rfl, hM, hMa, fun m' W' B' H2 s2 hM2 hMa2 hW2 => q m' W' B' H2 (s1.trans s2) hM2 hMa2 (hW2.trans hWn)⟩⟩
    refine ⟨_, rfl, rfl, _, rfl, ite3 (fun _ => ?_) (fun _ => ?_)⟩
    case _ =>
      exact ⟨_, rfl, _, rfl, a, ns, 3, rfl, hS1, by decide, fun z2 => ⟨_, _, rfl, rfl, ⟨by decide, by decide⟩, m, L, W, B, _, rfl, hM, hMa, fun m' W' B' H2 s2 hM2 hMa2 hW2 => q m' W' B' H2 (s1.trans s2) hM2 hMa2 (hW2.trans hWn)⟩⟩
    exact ⟨_, rfl, q m W B H1 s1 hM hMa hWn⟩
theorem sc__law_after : FnScope ["_law_machine_here", "_law_room", "_law_word", "_law_sign"] ["_law_machine_here", "_law_room", "_law_word"] (defScope s__law_after) := ⟨rfl, rfl, rfl, by decide +kernel, rfl, by decide +kernel, by decide +kernel⟩
set_option maxHeartbeats 4000000 in
theorem ok__law_after {f : Addr} {fd : FuncData} (F : Fun K "_law_after" "_law_after" s__law_after f fd) (T : Txt K mg c_RoomError c_NoLetters c_NoWord c_NoNumber c_NoRoom c_NoMachine c_OtherLetters c_TooMany c_NoPattern c_TooGreat c_NoKind) : FnOk P w K mg base CX0 1 f fd ["_law_machine_here", "_law_room", "_law_word"] sp_after := by
  refine F.ok sc__law_after (fun vs H Q E h => ?_) (fun cdv A outer s H vs Q E hr h => ?_)
  · obtain ⟨m, L, W, B, r, w, rfl, _⟩ := h
    rfl
  · obtain ⟨m, L, W, B, r, w, rfl, hM, hMa, hr0, hw, q⟩ := h
    obtain ⟨wy, mk, rows, h1, h2, h3, h4, h5⟩ := hM
    refine ⟨_, (pss_cons ((ps_for PassesOwn.never rfl (pi_str (pv 2)) (pg_name (i := 3) sc__law_after.nd rfl (Or.inl rfl)) ((pss_one ((ps_set (i := 1) sc__law_after.nd rfl (Or.inl rfl) (pe_ix ix_tup (pe_ix ix_tup (pe_ix ix_tup (pv 0) pe_int (fun _ _ => rfl)) (pv 1) (fun _ _ => rfl)) (pe_bm PySem.F.plainAttrs_str PySem.F.slot_str_find PySem.F.type_str_find mt_find (pe_ix ix_tup (pv 0) pe_int (fun _ _ => rfl)) (pa_cons (pv 3) pa_nil)) (fun _ _ => rfl)))))))) (pss_one (ps_ret (pv 1)))), ?_⟩
    refine ⟨_, rfl, _, rfl, for_str (x := tx w) (fun i σ H' => ∃ s0, σ = [some (.ref m), some (.int (run L W r (w.take i) : Nat)), some (.str (tx w)), s0] ∧ H' = H) ⟨none, rfl, rfl⟩ ?_ ?_⟩
    · rintro i c σ H1 hc ⟨s0, rfl, rfl⟩
      rw [tx_get] at hc
      have hcL : c ∈ L := hw c (List.mem_of_getElem? hc)
      have hlt := run_lt hMa (w := w.take i) hr0 fun d hd => hw d (List.mem_of_mem_take hd)
      obtain ⟨ws, x, e1, e2, e3, e4⟩ := hMa.at hlt hcL
      obtain ⟨rr, hrr⟩ : ∃ rr, rows[run L W r (w.take i)]? = some rr := ⟨rows[run L W r (w.take i)]'(by omega), by simp [h4, hlt]⟩
      obtain ⟨ws', e5, e6⟩ := h5 _ _ hrr
      rw [e1] at e5
      cases e5
      refine ⟨_, rfl, m, _, _, _, rfl, rfl, SqT.of h1, atI_nat (j := 1) rfl, _, rfl, wy, _, _, _, rfl, rfl, SqT.of h2, atI_map V.ref hrr, _, rfl, m, _, _, _, rfl, rfl, SqT.of h1, atI_nat (j := 0) rfl, rfl, _, rfl, _, _, rfl, rfl, ?_⟩
      rw [find_one hcL]
      refine ⟨rr, _, _, _, rfl, rfl, SqT.of e6, atI_map _ e2, ?_⟩
      refine ⟨some (.str ⟨#[c]⟩), ?_, rfl⟩
      show [some (V.ref m), some (V.int ((x : Nat) : Int)), some (V.str (tx w)), some _] = _
      rw [List.take_add_one, hc]
      show _ = [some (V.ref m), some (V.int ((run L W r (w.take i ++ [c]) : Nat) : Int)), some (V.str (tx w)), some (V.str ⟨#[c]⟩)]
      rw [run_snoc, e3]
    · rintro σ H1 ⟨s0, rfl, rfl⟩
      rw [tx_len, List.take_length]
      exact ⟨_, rfl, q⟩
theorem sc__law_alike : FnScope ["_law_machine_here", "_law_left", "_law_second", "_law_right", "_law_seen", "_law_row", "_law_at", "_law_k", "_law_pair"] ["_law_machine_here", "_law_left", "_law_second", "_law_right"] (defScope s__law_alike) := ⟨rfl, rfl, rfl, by decide +kernel, rfl, by decide +kernel, by decide +kernel⟩
set_option maxHeartbeats 4000000 in
theorem ok__law_alike {f : Addr} {fd : FuncData} (F : Fun K "_law_alike" "_law_alike" s__law_alike f fd) (T : Txt K mg c_RoomError c_NoLetters c_NoWord c_NoNumber c_NoRoom c_NoMachine c_OtherLetters c_TooMany c_NoPattern c_TooGreat c_NoKind) : FnOk P w K mg base CX0 1 f fd ["_law_machine_here", "_law_left", "_law_second", "_law_right"] sp_alike := by
  refine F.ok sc__law_alike (fun vs H Q E h => ?_) (fun cdv A outer s H vs Q E hr h => ?_)
  · obtain ⟨m, L, W, B, l, r, rfl, _⟩ := h
    rfl
  · obtain ⟨m, L, W, B, l, r, rfl, hM, hMa, hl, hr0, q⟩ := h
    obtain ⟨wy, mk, rows, h1, h2, h3, h4, h5⟩ := hM
    refine ⟨_, (pss_cons ((ps_set (i := 4) sc__law_alike.nd rfl (Or.inl rfl) (pe_done hr.units (pe_tup (pa_cons (pv 1) (pa_cons (pv 3) pa_nil))) pe_bl))) (pss_cons ((ps_set (i := 5) sc__law_alike.nd rfl (Or.inl rfl) (pe_lst (pa_cons (pe_tup (pa_cons (pv 1) (pa_cons (pv 3) pa_nil))) pa_nil)))) (pss_cons ((ps_set (i := 6) sc__law_alike.nd rfl (Or.inl rfl) (pe_int))) (pss_cons (ps_while PassesOwn.never (pt_cmpR op_lt (pv 6) (pe_callB call_len_seq (by rfl) T.len PySem.boot_len (pa_cons (pv 5) pa_nil)) (nomark _)) (pss_cons ((ps_if (pt_cmpR op_ne (pe_ix ix_tup (pe_ix ix_tup (pv 0) (pe_int) (fun _ _ => rfl)) (pe_ix ix_tup (pe_ix ix_list (pv 5) (pv 6) (fun _ _ => rfl)) (pe_int) (fun _ _ => rfl)) (fun _ _ => rfl)) (pe_ix ix_tup (pe_ix ix_tup (pv 2) (pe_int) (fun _ _ => rfl)) (pe_ix ix_tup (pe_ix ix_list (pv 5) (pv 6) (fun _ _ => rfl)) (pe_int) (fun _ _ => rfl)) (fun _ _ => rfl)) (nomark _)) ((pss_one (ps_ret pe_bl))) (pss_nil))) (pss_cons ((ps_for PassesOwn.never rfl (pi_range1 rfl T.range (pa_cons (pe_callB call_len_str (by rfl) T.len PySem.boot_len (pa_cons (pe_ix ix_tup (pv 0) (pe_int) (fun _ _ => rfl)) pa_nil)) pa_nil)) (pg_name (i := 7) sc__law_alike.nd rfl (Or.inl rfl)) ((pss_cons ((ps_set (i := 8) sc__law_alike.nd rfl (Or.inl rfl) (pe_tup (pa_cons (pe_ix ix_tup (pe_ix ix_tup (pe_ix ix_tup (pv 0) (pe_int) (fun _ _ => rfl)) (pe_ix ix_tup (pe_ix ix_list (pv 5) (pv 6) (fun _ _ => rfl)) (pe_int) (fun _ _ => rfl)) (fun _ _ => rfl)) (pv 7) (fun _ _ => rfl)) (pa_cons (pe_ix ix_tup (pe_ix ix_tup (pe_ix ix_tup (pv 2) (pe_int) (fun _ _ => rfl)) (pe_ix ix_tup (pe_ix ix_list (pv 5) (pv 6) (fun _ _ => rfl)) (pe_int) (fun _ _ => rfl)) (fun _ _ => rfl)) (pv 7) (fun _ _ => rfl)) pa_nil))))) (pss_one ((ps_if (pt_cmpR (op_notinD hr.units) (pv 8) (pv 4) (by with_unfolding_all rfl)) ((pss_cons (ps_asg pe_bl (pg_sub (pv 4) (pv 8) (set_dictG hr.units))) (pss_one (ps_expr (pe_bm PySem.F.plainAttrs_list PySem.F.slot_list_append PySem.F.type_list_append mt_append (pv 5) (pa_cons (pv 8) pa_nil)))))) (pss_nil)))))))) (pss_one ((ps_set (i := 6) sc__law_alike.nd rfl (Or.inl rfl) (pe_op op_a (pv 6) pe_int))))))) (pss_one (ps_ret pe_bl)))))), ?_⟩
    have hz : (tx L).length ≤ sizeLine := line_ge (by rw [tx_len]; exact Nat.le_trans hMa.lt.hi (by decide))
    have two : 2 ≤ sizeLine := line_ge (by show 2 ≤ 16777216; decide)
    have hLh : L.length ≤ 1000 := Nat.le_trans hMa.lt.hi (by decide)
    have hsq : W.length * W.length ≤ 60 * 60 := Nat.mul_le_mul hMa.n60 hMa.n60
    have hbl := hMa.bl
    refine fun d hd => ⟨_, rfl, _, rfl, two, fun t ht => ⟨t, kI (l, r), rfl, upd_same, upd_keep upd_same ht, ?_⟩⟩
    have hdt : d ≠ t := by
      rintro rfl
      rw [upd_same] at ht
      cases ht
    have ht0 : H t = none := by rw [upd_ne (Ne.symm hdt)] at ht; exact ht
    refine ⟨_, rfl, _, rfl, two, fun t2 ht2 => ⟨line_ge (by show 1 ≤ 16777216; decide), fun q0 hq0 => ?_⟩⟩
    have sma : Same H (L2.upd (L2.upd (L2.upd (L2.upd (L2.upd H d (newO P w d .pair)) t (.tup [.int (l : Int), .int (r : Int)])) d (hdO (pairD P w) d [(kI (l, r), t, .bl true)])) t2 (.tup [.int (l : Int), .int (r : Int)])) q0 (.lst [.ref t2])) := by
      have a1 : Same H (L2.upd (L2.upd (L2.upd H d (newO P w d .pair)) t (.tup [.int (l : Int), .int (r : Int)])) d (hdO (pairD P w) d [(kI (l, r), t, .bl true)])) := Same.set (Same.set (Same.upd hd) ht0) hd
      exact a1.trans ((Same.upd ht2).trans (Same.upd hq0))
    have hq00 : H q0 = none := by
      cases e : H q0 with
      | none => rfl
      | some o =>
        have a1 : Same H (L2.upd (L2.upd (L2.upd H d (newO P w d .pair)) t (.tup [.int (l : Int), .int (r : Int)])) d (hdO (pairD P w) d [(kI (l, r), t, .bl true)])) := Same.set (Same.set (Same.upd hd) ht0) hd
        have := (a1.trans (Same.upd (o := .tup [.int (l : Int), .int (r : Int)]) ht2)) _ _ e
        exact absurd (this.symm.trans hq0) (by intro z; cases z)
    have hpa : PairsAt P w (L2.upd (L2.upd (L2.upd (L2.upd (L2.upd H d (newO P w d .pair)) t (.tup [.int (l : Int), .int (r : Int)])) d (hdO (pairD P w) d [(kI (l, r), t, .bl true)])) t2 (.tup [.int (l : Int), .int (r : Int)])) q0 (.lst [.ref t2])) d q0 [(l, r)] := by
      refine ⟨[(kI (l, r), t, .bl true)], [t2], upd_keep (upd_keep upd_same ht2) hq0, fun x hx => ?_, rfl, upd_same, rfl, fun i u p e1 e2 => ?_⟩
      · rw [List.mem_singleton.mp hx]
        have e : L2.upd (L2.upd (L2.upd H d (newO P w d .pair)) t (.tup [.int (l : Int), .int (r : Int)])) d (hdO (pairD P w) d [(kI (l, r), t, .bl true)]) t = some (.tup ((kI (l, r)).map V.int)) := by
          rw [upd_ne (Ne.symm hdt), upd_same]
          rfl
        exact upd_keep (upd_keep e ht2) hq0
      · match i, e1, e2 with
        | 0, e1, e2 => cases e1; cases e2; exact upd_keep upd_same hq0
        | n + 1, e1, e2 => simp at e1
    refine ⟨AInv P w H m d q0 L W B l r, ⟨_, [(l, r)], 0, none, none, rfl, rfl, sma, hpa, Told.first hl hr0, Nat.zero_le _, fun i p hi => absurd hi (Nat.not_lt_zero _)⟩, ?_⟩
    rintro ms σ' H' ⟨ps, n, s7, s8, rfl, rfl, sm, hps, htold, hn, hdone⟩
    obtain ⟨ys, hys, hyl⟩ := hps.row
    refine ⟨_, rfl, _, rfl, q0, _, rfl, .inl (SqL.of hys), _, _, rfl, rfl, _, rfl, ?_⟩
    rw [hyl]
    refine ite3 (fun hlt => ?_) (fun hlt => ?_)
    case _ =>
      have hnl : n < ps.length := Int.ofNat_lt.mp hlt
      obtain ⟨p, hp⟩ : ∃ p, ps[n]? = some p := ⟨ps[n], List.getElem?_eq_getElem hnl⟩
      have hpm : p ∈ ps := List.mem_of_getElem? hp
      obtain ⟨p1, p2, u, hu, hu1, hu2⟩ := htold.got p hpm
      obtain ⟨ys', tp, hys', _, hat, htp⟩ := hps.at hp
      rw [hys] at hys'
      cases hys'
      refine ⟨fun σ2 H2 => ∃ ms', ms' < unseen W.length ps + (ps.length - n) ∧ AInv P w H m d q0 L W B l r ms' σ2 H2, fun σ2 H2 h => h, ?_⟩
      refine ⟨_, rfl, m, _, _, _, rfl, rfl, SqT.of (sm _ _ h1), atI_nat (j := 2) rfl, _, rfl, _, rfl, q0, _, _, _, rfl, rfl, SqL.of hys, hat, tp, _, _, _, rfl, rfl, SqT.of htp, atI_nat (j := 0) rfl, mk, _, _, _, rfl, rfl, SqT.of (sm _ _ h3), mark_at (ar_len hbl p1), ?_⟩
      refine ⟨_, rfl, m, _, _, _, rfl, rfl, SqT.of (sm _ _ h1), atI_nat (j := 2) rfl, _, rfl, _, rfl, q0, _, _, _, rfl, rfl, SqL.of hys, hat, tp, _, _, _, rfl, rfl, SqT.of htp, atI_nat (j := 1) rfl, mk, _, _, _, rfl, rfl, SqT.of (sm _ _ h3), mark_at (ar_len hbl p2), rfl, _, rfl, ?_⟩
      rw [dec_bls]
      by_cases hmk : B.getD p.1 false = B.getD p.2 false
      case neg =>
        rw [decide_eq_false hmk]
        refine iteT (q false H' sm ⟨fun z => Bool.noConfusion z, fun z => ?_⟩)
        exact (hmk (by rw [hu1, hu2]; exact z u hu)).elim
      rw [decide_eq_true hmk]
      refine iteF ?_
      refine ⟨_, rfl, m, _, _, _, rfl, rfl, SqT.of (sm _ _ h1), atI_nat (j := 0) rfl, _, rfl, hz, _, rfl, by rw [tx_len]; exact (ar_rng hLh).1, by rw [tx_len]; exact (ar_rng hLh).2, ?_⟩
      refine for_range (n := (((tx L).length : Nat) : Int).toNat) (fun j σ2 H2 => ∃ (ext : List (Nat × Nat)) (s7 s8 : Option V), σ2 = [some (.ref m), some (.int (l : Int)), some (.ref m), some (.int (r : Int)), some (.ref d), some (.ref q0), some (.int (n : Int)), s7, s8] ∧ Same H H2 ∧ PairsAt P w H2 d q0 (ps ++ ext) ∧ Told L W B l r (ps ++ ext) ∧ unseen W.length (ps ++ ext) + (ps ++ ext).length ≤ unseen W.length ps + ps.length ∧ ∀ i < j, (goal W p.1 i, goal W p.2 i) ∈ ps ++ ext) ⟨[], s7, s8, rfl, sm, by rw [List.append_nil]; exact hps, by rw [List.append_nil]; exact htold, by rw [List.append_nil]; exact Nat.le_refl _, fun i hi => absurd hi (Nat.not_lt_zero _)⟩ ?_ ?_
      · rintro j σ2 H2 hj ⟨ext, s7', s8', rfl, sm2, hps2, htold2, hun, hgo⟩
        have hjL : j < L.length := by rw [tx_len] at hj; exact hj
        have hp2 : (ps ++ ext)[n]? = some p := by rw [List.getElem?_append_left hnl]; exact hp
        obtain ⟨ys2, tp2, hys2, hyl2, hat2, htp2⟩ := hps2.at hp2
        obtain ⟨ra, hra, hraH⟩ := MachAt.row h4 (h5.same sm2) p1
        obtain ⟨rb, hrb, hrbH⟩ := MachAt.row h4 (h5.same sm2) p2
        have e1 := atI_ints (ns := W.getD p.1 []) (r := j) (by rw [(row_of hMa p1).1]; exact hjL)
        have e2 := atI_ints (ns := W.getD p.2 []) (r := j) (by rw [(row_of hMa p2).1]; exact hjL)
        rw [← Int.zero_add ((j : Nat) : Int)] at e1 e2
        refine ⟨_, rfl, m, _, _, _, rfl, rfl, SqT.of (sm2 _ _ h1), atI_nat (j := 1) rfl, _, rfl, _, rfl, q0, _, _, _, rfl, rfl, SqL.of hys2, hat2, tp2, _, _, _, rfl, rfl, SqT.of htp2, atI_nat (j := 0) rfl, wy, _, _, _, rfl, rfl, SqT.of (sm2 _ _ h2), atI_map V.ref hra, _, rfl, ra, _, _, _, rfl, rfl, SqT.of hraH, e1, ?_⟩
        refine ⟨_, rfl, m, _, _, _, rfl, rfl, SqT.of (sm2 _ _ h1), atI_nat (j := 1) rfl, _, rfl, _, rfl, q0, _, _, _, rfl, rfl, SqL.of hys2, hat2, tp2, _, _, _, rfl, rfl, SqT.of htp2, atI_nat (j := 1) rfl, wy, _, _, _, rfl, rfl, SqT.of (sm2 _ _ h2), atI_map V.ref hrb, _, rfl, rb, _, _, _, rfl, rfl, SqT.of hrbH, e2, two, fun t3 ht3 => ?_⟩
        have hps3 := hps2.mono (Same.upd (o := .tup [.int ((goal W p.1 j : Nat) : Int), .int ((goal W p.2 j : Nat) : Int)]) ht3)
        have sm3 := sm2.trans (Same.upd (o := .tup [.int ((goal W p.1 j : Nat) : Int), .int ((goal W p.2 j : Nat) : Int)]) ht3)
        have hT3 : TIn (L2.upd H2 t3 (.tup [.int ((goal W p.1 j : Nat) : Int), .int ((goal W p.2 j : Nat) : Int)])) (kI (goal W p.1 j, goal W p.2 j)) t3 := upd_same
        obtain ⟨o, hget, ho⟩ := hps3.get hT3
        refine ⟨_, rfl, _, rfl, d, o, rfl, hget, _, rfl, ?_⟩
        rw [ho]
        have hpm2 : p ∈ ps ++ ext := List.mem_append_left _ hpm
        by_cases hin : (goal W p.1 j, goal W p.2 j) ∈ ps ++ ext
        case pos =>
          rw [decide_eq_true hin]
          refine iteF ⟨ext, _, _, rfl, sm3, hps3, htold2, hun, fun i hi => ?_⟩
          by_cases hij : i = j
          · subst hij; exact hin
          · exact hgo i (ar_lt hi hij)
        rw [decide_eq_false hin]
        obtain ⟨hmore, hun2⟩ := htold2.more hMa hpm2 hjL hin
        have hfew := htold2.few
        obtain ⟨ob, zs0, hput, hq3, hzl, hps4⟩ := hps3.put hT3 hin (ar_few hsq hfew)
        refine iteT ⟨_, rfl, _, rfl, d, _, rfl, hput, ?_⟩
        refine ⟨_, rfl, .inl ⟨rfl, _, SqL.of hq3⟩, _, rfl, q0, _, _, rfl, rfl, hq3, by rw [hzl]; exact ar_few hsq hfew, ?_⟩
        refine ⟨ext ++ [(goal W p.1 j, goal W p.2 j)], _, _, rfl, same_set2 sm3 hd hq00, by rw [← List.append_assoc]; exact hps4, by rw [← List.append_assoc]; exact hmore, by rw [← List.append_assoc]; exact Nat.le_trans hun2 hun, fun i hi => ?_⟩
        rw [← List.append_assoc]
        by_cases hij : i = j
        · subst hij
          exact List.mem_append_right _ (List.mem_singleton.mpr rfl)
        · exact List.mem_append_left _ (hgo i (ar_lt hi hij))
      · rintro σ2 H2 ⟨ext, s7', s8', rfl, sm2, hps2, htold2, hun, hgo⟩
        have hgo' : ∀ i < L.length, (goal W p.1 i, goal W p.2 i) ∈ ps ++ ext := fun i hi => hgo i (by rw [tx_len]; exact hi)
        have hll : (ps ++ ext).length = ps.length + ext.length := List.length_append
        refine ⟨_, rfl, _, _, rfl, rfl, _, ?_, ps ++ ext, n + 1, s7', s8', rfl, rfl, sm2, hps2, htold2, by rw [hll]; exact Nat.le_trans hnl (Nat.le_add_right _ _), fun i z hi hz => ?_⟩
        · rw [hll] at hun ⊢
          exact ar_ms hun hnl
        by_cases hin : i = n
        · subst hin
          rw [List.getElem?_append_left hnl, hp] at hz
          cases hz
          exact ⟨hmk, hgo'⟩
        · rw [List.getElem?_append_left (Nat.lt_of_le_of_lt (Nat.le_of_lt_succ hi) hnl)] at hz
          obtain ⟨z1, z2⟩ := hdone i z (ar_lt hi hin) hz
          exact ⟨z1, fun j hj => List.mem_append_left _ (z2 j hj)⟩
    case _ =>
      have hn2 : n = ps.length := Nat.le_antisymm hn (Nat.le_of_not_lt fun z => hlt (Int.ofNat_lt.mpr z))
      subst hn2
      exact q true H' sm ⟨fun _ => hdone.all htold, fun _ => rfl⟩
theorem sc__law_earlier : FnScope ["_law_letters_here", "_law_one", "_law_two", "_law_left", "_law_right"] ["_law_letters_here", "_law_one", "_law_two"] (defScope s__law_earlier) := ⟨rfl, rfl, rfl, by decide +kernel, rfl, by decide +kernel, by decide +kernel⟩
set_option maxHeartbeats 4000000 in
theorem ok__law_earlier {f : Addr} {fd : FuncData} (F : Fun K "_law_earlier" "_law_earlier" s__law_earlier f fd) (T : Txt K mg c_RoomError c_NoLetters c_NoWord c_NoNumber c_NoRoom c_NoMachine c_OtherLetters c_TooMany c_NoPattern c_TooGreat c_NoKind) : FnOk P w K mg base CX0 1 f fd ["_law_letters_here", "_law_one", "_law_two"] sp__law_earlier := by
  refine F.ok sc__law_earlier (fun vs H Q E h => ?_) (fun cdv A outer s H vs Q E hr h => ?_)
  · obtain ⟨L, a, b, rfl, _⟩ := h
    rfl
  · obtain ⟨L, a, b, rfl, hL, ha, hb, hla, hlb, q⟩ := h
    refine ⟨_, (pss_cons ((ps_if (pt_cmpR op_ne (pe_callB call_len_str (by rfl) T.len PySem.boot_len (pa_cons (pv 1) pa_nil)) (pe_callB call_len_str (by rfl) T.len PySem.boot_len (pa_cons (pv 2) pa_nil)) (nomark _)) ((pss_one (ps_ret (pe_cmpR op_lt (pe_callB call_len_str (by rfl) T.len PySem.boot_len (pa_cons (pv 1) pa_nil)) (pe_callB call_len_str (by rfl) T.len PySem.boot_len (pa_cons (pv 2) pa_nil)) (nomark _))))) (pss_nil))) (pss_cons ((ps_for PassesOwn.never rfl (pi_zip rfl T.zip (pa_cons (pv 1) (pa_cons (pv 2) pa_nil))) (pg_tup rfl (pgs_cons (pg_name (i := 3) sc__law_earlier.nd rfl (Or.inl rfl)) (pgs_cons (pg_name (i := 4) sc__law_earlier.nd rfl (Or.inl rfl)) pgs_nil))) (pss_one ((ps_if (pt_cmpR op_ne (pv 3) (pv 4) (nomark _)) ((pss_one (ps_ret (pe_cmpR op_lt (pe_bm PySem.F.plainAttrs_str PySem.F.slot_str_find PySem.F.type_str_find mt_find (pv 0) (pa_cons (pv 3) pa_nil)) (pe_bm PySem.F.plainAttrs_str PySem.F.slot_str_find PySem.F.type_str_find mt_find (pv 0) (pa_cons (pv 4) pa_nil)) (nomark _))))) (pss_nil)))))) (pss_one (ps_ret pe_bl)))), ?_⟩
    have hza : (tx a).length ≤ sizeLine := line_ge (by rw [tx_len]; omega)
    have hzb : (tx b).length ≤ sizeLine := line_ge (by rw [tx_len]; omega)
    refine ⟨_, rfl, _, rfl, hza, _, rfl, _, rfl, hzb, rfl, _, rfl, ?_⟩
    by_cases hab : a.length = b.length
    · refine iteNS (by rw [tx_len, tx_len, hab]) ?_
      refine ⟨_, rfl, _, rfl, _, _, rfl, for_zip (x := tx a) (y := tx b) (by rw [tx_len, tx_len]; exact hab) (fun i σ H' => ∃ s1 s2, σ = [some (.str (tx L)), some (.str (tx a)), some (.str (tx b)), s1, s2] ∧ Same H H' ∧ lexd L a b = lexd L (a.drop i) (b.drop i)) ⟨none, none, rfl, Same.refl H, rfl⟩ ?_ ?_⟩
      · rintro i c e p σ H1 hc he hp ⟨s1, s2, rfl, hsame, hlex⟩
        rw [tx_get] at hc he
        have hcL : c ∈ L := ha c (List.mem_of_getElem? hc)
        have heL : e ∈ L := hb e (List.mem_of_getElem? he)
        have hs2 : Same H (upd H1 p (.tup [.str ⟨#[c]⟩, .str ⟨#[e]⟩])) := hsame.trans (Same.upd hp)
        rw [lexd_at L hc he] at hlex
        refine ⟨p, _, rfl, SqT.of upd_same, rfl, _, _, rfl, _, _, rfl, rfl, ?_⟩
        refine ⟨_, rfl, _, rfl, rfl, _, rfl, ?_⟩
        by_cases hce : c = e
        · subst hce
          rw [if_pos rfl] at hlex
          exact iteNS rfl ⟨_, _, rfl, hs2, hlex⟩
        · rw [if_neg hce] at hlex
          rw [decide_eq_false (fun z => hce (by have := congrArg (fun v : V => match v with | .str x => x.cps.toList | _ => []) z; simpa using this))]
          refine iteT ?_
          refine ⟨_, rfl, rfl, _, rfl, _, _, rfl, rfl, ?_⟩
          rw [find_one hcL]
          refine ⟨_, rfl, rfl, _, rfl, _, _, rfl, rfl, ?_⟩
          rw [find_one heL]
          refine ⟨_, _, rfl, rfl, ?_⟩
          have ev : ear L a b = decide (((L.idxOf c : Nat) : Int) < ((L.idxOf e : Nat) : Int)) := by
            unfold ear
            rw [if_neg (by simpa using hab), hlex]
            simp
          have q2 := q _ hs2
          rw [ev] at q2
          exact q2
      · rintro σ H1 ⟨s1, s2, rfl, hsame, hlex⟩
        have ev : ear L a b = false := by
          unfold ear
          rw [if_neg (by simpa using hab), hlex, tx_len, List.drop_length]
          rfl
        have := q _ hsame
        rw [ev] at this
        exact this
    · have hne : ¬ V.int (((tx a).length : Nat) : Int) = V.int (((tx b).length : Nat) : Int) := fun z => hab (by
        have := congrArg (fun v : V => match v with | .int x => x | _ => 0) z
        rw [tx_len, tx_len] at this
        have h2 : ((a.length : Nat) : Int) = ((b.length : Nat) : Int) := this
        omega)
      rw [decide_eq_false hne]
      refine iteT ⟨_, rfl, _, rfl, hza, _, rfl, _, rfl, hzb, _, _, rfl, rfl, ?_⟩
      have ev : ear L a b = decide ((((tx a).length : Nat) : Int) < (((tx b).length : Nat) : Int)) := by
        unfold ear
        rw [if_pos hab, tx_len, tx_len]
        simp
      have q2 := q _ (Same.refl H)
      rw [ev] at q2
      exact q2
theorem sc__law_is_word : FnScope ["_law_found", "_law_letters_here"] ["_law_found", "_law_letters_here"] (defScope s__law_is_word) := ⟨rfl, rfl, rfl, by decide +kernel, rfl, by decide +kernel, by decide +kernel⟩
set_option maxHeartbeats 4000000 in
theorem ok__law_is_word {f : Addr} {fd : FuncData} (F : Fun K "_law_is_word" "_law_is_word" s__law_is_word f fd) (T : Txt K mg c_RoomError c_NoLetters c_NoWord c_NoNumber c_NoRoom c_NoMachine c_OtherLetters c_TooMany c_NoPattern c_TooGreat c_NoKind) : FnOk P w K mg base CX0 1 f fd ["_law_found", "_law_letters_here"] sp_isword := by
  refine F.ok sc__law_is_word (fun vs H Q E h => ?_) (fun cdv A outer s H vs Q E hr h => ?_)
  · obtain ⟨L, w, rfl, _⟩ := h
    rfl
  · obtain ⟨L, w, rfl, hw, hl, q⟩ := h
    refine ⟨_, (pss_one (ps_ret (pe_and (pe_callB (call_isinst (T := "str") (b := true)) (by rfl) T.isinst PyProof.Rows.boot_isinstance (pa_cons (pv 0) (pa_cons (pe_bltn (v := .ty "str") (by rfl) T.str PyProof.Rows.boot_str rfl) pa_nil)))
      (pe_one (pe_cmpR op_eq (pe_callB call_len_seq (by rfl) T.len PySem.boot_len (pa_cons (pe_compS ["_law_found", "_law_letters_here"] rfl (by decide) (pi_str (pv 0)) (fun cl C fp s' H' => ⟨pts_one (pt_cmpR op_notin_str (pv 0) (pv 2) (by with_unfolding_all rfl)), pv 0⟩)) pa_nil)) pe_int (nomark _)))))), ?_⟩
    refine ⟨_, rfl, _, _, rfl, TyOf.str _, by with_unfolding_all rfl, _, rfl, iteT ?_⟩
    dsimp only [tOp, tCB, tCons]
    refine comp_signsT (x := tx w) (fun c => !decide (c ∈ L)) (by rfl) (line_ge (by rw [tx_len]; omega)) (fun i c H' R hc hR => ?_) (fun D hD => ?_)
    · refine ⟨_, rfl, _, rfl, _, _, rfl, rfl, _, rfl, ?_⟩
      have e := contains_one L c
      unfold Txt.contains at e
      rw [e]
      exact hR
    · refine ⟨D, _, rfl, .inl (SqL.of upd_same), rfl, ?_⟩
      have e : ((tx w).cps.toList.filter fun c => !decide (c ∈ L)) = [] := by
        rw [tx_cps, List.filter_eq_nil_iff]
        intro c hc
        simp [hw c hc]
      have hb : decide (V.int (((((tx w).cps.toList.filter fun c => !decide (c ∈ L)).map fun c => V.str ⟨#[c]⟩).length : Nat) : Int) = V.int 0) = true := by
        rw [e]
        rfl
      rw [hb]
      exact q _ (Same.upd hD)
theorem sc__law_same : FnScope ["_law_found", "_law_due", "_law_k"] ["_law_found", "_law_due"] (defScope s__law_same) := ⟨rfl, rfl, rfl, by decide +kernel, rfl, by decide +kernel, by decide +kernel⟩
set_option maxHeartbeats 4000000 in
theorem ok__law_same {f : Addr} {fd : FuncData} (F : Fun K "_law_same" "_law_same" s__law_same f fd) (T : Txt K mg c_RoomError c_NoLetters c_NoWord c_NoNumber c_NoRoom c_NoMachine c_OtherLetters c_TooMany c_NoPattern c_TooGreat c_NoKind) : FnOk P w K mg base CX0 1 f fd ["_law_found", "_law_due"] sp_same15 := by
  refine F.ok sc__law_same (fun vs H Q E h => ?_) (fun cdv A outer s H vs Q E hr h => ?_)
  · obtain ⟨o, rfl, _⟩ := h
    rfl
  · obtain ⟨o, rfl, q⟩ := h
    refine ⟨_, (pss_cons ((ps_if ((pw_or (pt_val (pe_callB (call_isG (T := "tuple")) (by rfl) T.isinst PyProof.Rows.boot_isinstance (pa_cons (pv 1) (pa_cons (pe_bltn (v := .ty "tuple") (by rfl) T.tuple PyProof.Rows.boot_tuple rfl) pa_nil)))) (pw_or1 (pt_val (pe_callB (call_isG (T := "list")) (by rfl) T.isinst PyProof.Rows.boot_isinstance (pa_cons (pv 1) (pa_cons (pe_bltn (v := .ty "list") (by rfl) T.list PyProof.Rows.boot_list rfl) pa_nil)))))).pt) (pss_never) (pss_nil))) (pss_cons ((ps_if (pt_val (pe_callB (call_isG (T := "bool")) (by rfl) T.isinst PyProof.Rows.boot_isinstance (pa_cons (pv 1) (pa_cons (pe_bltn (v := .ty "bool") (by rfl) T.bool PyProof.Rows.boot_bool rfl) pa_nil)))) (pss_never) (pss_nil))) (pss_cons ((ps_if (pt_val (pe_callB (call_isG (T := "int")) (by rfl) T.isinst PyProof.Rows.boot_isinstance (pa_cons (pv 1) (pa_cons (pe_bltn (v := .ty "int") (by rfl) T.int PyProof.Rows.boot_int rfl) pa_nil)))) (pss_never) (pss_nil))) (pss_cons ((ps_if (pt_val (pe_callB (call_isG (T := "str")) (by rfl) T.isinst PyProof.Rows.boot_isinstance (pa_cons (pv 1) (pa_cons (pe_bltn (v := .ty "str") (by rfl) T.str PyProof.Rows.boot_str rfl) pa_nil)))) ((pss_one (ps_ret (pe_and (pe_callB (call_isG (T := "str")) (by rfl) T.isinst PyProof.Rows.boot_isinstance (pa_cons (pv 0) (pa_cons (pe_bltn (v := .ty "str") (by rfl) T.str PyProof.Rows.boot_str rfl) pa_nil))) (pe_one (pe_cmpR op_eq (pv 0) (pv 1) (nomark _))))))) (pss_nil))) (pss_one (ps_ret (pe_and (pe_cmpR op_isN (pv 1) pe_non (nomark _)) (pe_one (pe_cmpR op_isN (pv 0) pe_non (nomark _)))))))))), ?_⟩
    cases o with
    | some b =>
      refine ⟨_, rfl, _, _, _, rfl, TyOf.str _, kit_st K, _, rfl, iteF ⟨_, rfl, _, _, _, rfl, TyOf.str _, kit_sl K, _, rfl, iteF ?_⟩⟩
      refine ⟨_, rfl, _, _, _, rfl, TyOf.str _, kit_sb K, _, rfl, iteF ?_⟩
      refine ⟨_, rfl, _, _, _, rfl, TyOf.str _, kit_si K, _, rfl, iteF ?_⟩
      refine ⟨_, rfl, _, _, _, rfl, TyOf.str _, kit_ss K, _, rfl, iteT ⟨_, rfl, _, _, _, rfl, TyOf.str _, kit_ss K, _, rfl, iteT ⟨_, rfl, _, rfl, rfl, ?_⟩⟩⟩
      show Q (.bl (decide (V.str (tx b) = V.str (tx b)))) H
      rw [decide_eq_true rfl]
      exact q
    | none =>
      refine ⟨_, rfl, _, _, _, rfl, TyOf.non, kit_nt K, _, rfl, iteF ⟨_, rfl, _, _, _, rfl, TyOf.non, kit_nl K, _, rfl, iteF ?_⟩⟩
      refine ⟨_, rfl, _, _, _, rfl, TyOf.non, kit_nb K, _, rfl, iteF ?_⟩
      refine ⟨_, rfl, _, _, _, rfl, TyOf.non, kit_ni K, _, rfl, iteF ?_⟩
      refine ⟨_, rfl, _, _, _, rfl, TyOf.non, kit_ns K, _, rfl, iteF ?_⟩
      exact ⟨_, rfl, rfl, _, rfl, iteD rfl ⟨_, rfl, rfl, q⟩⟩
theorem sc__law_kinds : FnScope ["_law_e", "_law_found"] ["_law_e"] (defScope s__law_kinds) := ⟨rfl, rfl, rfl, by decide +kernel, rfl, by decide +kernel, by decide +kernel⟩
set_option maxHeartbeats 4000000 in
theorem ok__law_kinds {f : Addr} {fd : FuncData} (F : Fun K "_law_kinds" "_law_kinds" s__law_kinds f fd) (T : Txt K mg c_RoomError c_NoLetters c_NoWord c_NoNumber c_NoRoom c_NoMachine c_OtherLetters c_TooMany c_NoPattern c_TooGreat c_NoKind) : FnOk P w K mg base CX0 1 f fd ["_law_e"] (sp_kinds15 c_NoRoom) := by
  refine F.ok sc__law_kinds (fun vs H Q E h => ?_) (fun cdv A outer s H vs Q E hr h => ?_)
  · obtain ⟨e, rfl, _⟩ := h
    rfl
  · obtain ⟨e, rfl, he, q⟩ := h
    refine ⟨_, (pss_cons ((ps_set (i := 1) sc__law_kinds.nd rfl (Or.inl rfl) (pe_lst pa_nil))) (pss_cons ((ps_if ((pt_val (pe_callB (call_isexc (D := .ref c_NoLetters) (d := .ref c_NoLetters) rfl (fun _ h => h)) (by rfl) T.isinst PyProof.Rows.boot_isinstance (pa_cons (pv 0) (pa_cons (pe_glob (v := .ref c_NoLetters) (by rfl) T.k_NoLetters rfl) pa_nil))))) ((pss_one (ps_expr (pe_bm PySem.F.plainAttrs_list PySem.F.slot_list_append PySem.F.type_list_append mt_append (pv 1) (pa_cons (pe_str) pa_nil))))) (pss_nil))) (pss_cons ((ps_if ((pt_val (pe_callB (call_isexc (D := .ref c_NoWord) (d := .ref c_NoWord) rfl (fun _ h => h)) (by rfl) T.isinst PyProof.Rows.boot_isinstance (pa_cons (pv 0) (pa_cons (pe_glob (v := .ref c_NoWord) (by rfl) T.k_NoWord rfl) pa_nil))))) ((pss_one (ps_expr (pe_bm PySem.F.plainAttrs_list PySem.F.slot_list_append PySem.F.type_list_append mt_append (pv 1) (pa_cons (pe_str) pa_nil))))) (pss_nil))) (pss_cons ((ps_if ((pt_val (pe_callB (call_isexc (D := .ref c_NoNumber) (d := .ref c_NoNumber) rfl (fun _ h => h)) (by rfl) T.isinst PyProof.Rows.boot_isinstance (pa_cons (pv 0) (pa_cons (pe_glob (v := .ref c_NoNumber) (by rfl) T.k_NoNumber rfl) pa_nil))))) ((pss_one (ps_expr (pe_bm PySem.F.plainAttrs_list PySem.F.slot_list_append PySem.F.type_list_append mt_append (pv 1) (pa_cons (pe_str) pa_nil))))) (pss_nil))) (pss_cons ((ps_if ((pt_val (pe_callB (call_isexc (D := .ref c_NoRoom) (d := .ref c_NoRoom) rfl (fun _ h => h)) (by rfl) T.isinst PyProof.Rows.boot_isinstance (pa_cons (pv 0) (pa_cons (pe_glob (v := .ref c_NoRoom) (by rfl) T.k_NoRoom rfl) pa_nil))))) ((pss_one (ps_expr (pe_bm PySem.F.plainAttrs_list PySem.F.slot_list_append PySem.F.type_list_append mt_append (pv 1) (pa_cons (pe_str) pa_nil))))) (pss_nil))) (pss_cons ((ps_if ((pt_val (pe_callB (call_isexc (D := .ref c_NoMachine) (d := .ref c_NoMachine) rfl (fun _ h => h)) (by rfl) T.isinst PyProof.Rows.boot_isinstance (pa_cons (pv 0) (pa_cons (pe_glob (v := .ref c_NoMachine) (by rfl) T.k_NoMachine rfl) pa_nil))))) ((pss_one (ps_expr (pe_bm PySem.F.plainAttrs_list PySem.F.slot_list_append PySem.F.type_list_append mt_append (pv 1) (pa_cons (pe_str) pa_nil))))) (pss_nil))) (pss_cons ((ps_if ((pt_val (pe_callB (call_isexc (D := .ref c_OtherLetters) (d := .ref c_OtherLetters) rfl (fun _ h => h)) (by rfl) T.isinst PyProof.Rows.boot_isinstance (pa_cons (pv 0) (pa_cons (pe_glob (v := .ref c_OtherLetters) (by rfl) T.k_OtherLetters rfl) pa_nil))))) ((pss_one (ps_expr (pe_bm PySem.F.plainAttrs_list PySem.F.slot_list_append PySem.F.type_list_append mt_append (pv 1) (pa_cons (pe_str) pa_nil))))) (pss_nil))) (pss_cons ((ps_if ((pt_val (pe_callB (call_isexc (D := .ref c_TooMany) (d := .ref c_TooMany) rfl (fun _ h => h)) (by rfl) T.isinst PyProof.Rows.boot_isinstance (pa_cons (pv 0) (pa_cons (pe_glob (v := .ref c_TooMany) (by rfl) T.k_TooMany rfl) pa_nil))))) ((pss_one (ps_expr (pe_bm PySem.F.plainAttrs_list PySem.F.slot_list_append PySem.F.type_list_append mt_append (pv 1) (pa_cons (pe_str) pa_nil))))) (pss_nil))) (pss_cons ((ps_if ((pt_val (pe_callB (call_isexc (D := .ref c_NoPattern) (d := .ref c_NoPattern) rfl (fun _ h => h)) (by rfl) T.isinst PyProof.Rows.boot_isinstance (pa_cons (pv 0) (pa_cons (pe_glob (v := .ref c_NoPattern) (by rfl) T.k_NoPattern rfl) pa_nil))))) ((pss_one (ps_expr (pe_bm PySem.F.plainAttrs_list PySem.F.slot_list_append PySem.F.type_list_append mt_append (pv 1) (pa_cons (pe_str) pa_nil))))) (pss_nil))) (pss_cons ((ps_if ((pt_val (pe_callB (call_isexc (D := .ref c_TooGreat) (d := .ref c_TooGreat) rfl (fun _ h => h)) (by rfl) T.isinst PyProof.Rows.boot_isinstance (pa_cons (pv 0) (pa_cons (pe_glob (v := .ref c_TooGreat) (by rfl) T.k_TooGreat rfl) pa_nil))))) ((pss_one (ps_expr (pe_bm PySem.F.plainAttrs_list PySem.F.slot_list_append PySem.F.type_list_append mt_append (pv 1) (pa_cons (pe_str) pa_nil))))) (pss_nil))) (pss_cons ((ps_if ((pt_val (pe_callB (call_isexc (D := .ref c_NoKind) (d := .ref c_NoKind) rfl (fun _ h => h)) (by rfl) T.isinst PyProof.Rows.boot_isinstance (pa_cons (pv 0) (pa_cons (pe_glob (v := .ref c_NoKind) (by rfl) T.k_NoKind rfl) pa_nil))))) ((pss_one (ps_expr (pe_bm PySem.F.plainAttrs_list PySem.F.slot_list_append PySem.F.type_list_append mt_append (pv 1) (pa_cons (pe_str) pa_nil))))) (pss_nil))) (pss_cons ((ps_if (pt_not (pt_val (pe_callB (call_isexc (D := .type "ValueError") (d := .ty "ValueError") rfl (fun _ h => h)) (by rfl) T.isinst PyProof.Rows.boot_isinstance (pa_cons (pv 0) (pa_cons (pe_bltn (v := .ty "ValueError") (by rfl) T.verr boot_verr rfl) pa_nil))))) ((pss_one (ps_expr (pe_bm PySem.F.plainAttrs_list PySem.F.slot_list_append PySem.F.type_list_append mt_append (pv 1) (pa_cons (pe_str) pa_nil))))) (pss_nil))) (pss_one (ps_ret (pv 1))))))))))))))), ?_⟩
    refine ⟨Nat.zero_le _, fun p hp => ?_⟩
    refine ⟨_, rfl, e, _, _, rfl, upd_keep he hp, T.e_NoRoom, T.i_NoRoom_NoLetters, _, rfl, iteF ?_⟩
    refine ⟨_, rfl, e, _, _, rfl, upd_keep he hp, T.e_NoRoom, T.i_NoRoom_NoWord, _, rfl, iteF ?_⟩
    refine ⟨_, rfl, e, _, _, rfl, upd_keep he hp, T.e_NoRoom, T.i_NoRoom_NoNumber, _, rfl, iteF ?_⟩
    refine ⟨_, rfl, e, _, _, rfl, upd_keep he hp, T.e_NoRoom, T.i_NoRoom_NoRoom, _, rfl, iteT ⟨_, rfl, .inl ⟨rfl, _, SqL.of upd_same⟩, p, _, _, rfl, rfl, upd_same, small1000 (by decide), ?_⟩⟩
    rw [upd_upd]
    refine ⟨_, rfl, e, _, _, rfl, upd_keep he hp, T.e_NoRoom, T.i_NoRoom_NoMachine, _, rfl, iteF ?_⟩
    refine ⟨_, rfl, e, _, _, rfl, upd_keep he hp, T.e_NoRoom, T.i_NoRoom_OtherLetters, _, rfl, iteF ?_⟩
    refine ⟨_, rfl, e, _, _, rfl, upd_keep he hp, T.e_NoRoom, T.i_NoRoom_TooMany, _, rfl, iteF ?_⟩
    refine ⟨_, rfl, e, _, _, rfl, upd_keep he hp, T.e_NoRoom, T.i_NoRoom_NoPattern, _, rfl, iteF ?_⟩
    refine ⟨_, rfl, e, _, _, rfl, upd_keep he hp, T.e_NoRoom, T.i_NoRoom_TooGreat, _, rfl, iteF ?_⟩
    refine ⟨_, rfl, e, _, _, rfl, upd_keep he hp, T.e_NoRoom, T.i_NoRoom_NoKind, _, rfl, iteF ?_⟩
    exact ⟨_, rfl, e, _, _, rfl, upd_keep he hp, T.e_NoRoom, T.v_NoRoom, _, rfl, iteF ⟨_, rfl, q p _ (Same.upd hp) upd_same⟩⟩
theorem sc__law_refused : FnScope ["_law_machine_here", "_law_one", "_law_two", "_law_caught", "_law_e"] ["_law_machine_here", "_law_one", "_law_two"] (defScope s__law_refused) := ⟨rfl, rfl, rfl, by decide +kernel, rfl, by decide +kernel, by decide +kernel⟩
set_option maxHeartbeats 4000000 in
theorem ok__law_refused {f : Addr} {fd : FuncData} (F : Fun K "_law_refused" "_law_refused" s__law_refused f fd) (T : Txt K mg c_RoomError c_NoLetters c_NoWord c_NoNumber c_NoRoom c_NoMachine c_OtherLetters c_TooMany c_NoPattern c_TooGreat c_NoKind) (d_parting : DfX P w K mg base "parting" 4 ["machine", "one", "two"] (sp_parting c_NoRoom)) (d__law_kinds : Df P w K mg base "_law_kinds" 1 ["_law_e"] (sp_kinds15 c_NoRoom)) : FnOk P w K mg base CX0 5 f fd ["_law_machine_here", "_law_one", "_law_two"] sp_refused := by
  refine F.ok sc__law_refused (fun vs H Q E h => ?_) (fun cdv A outer s H vs Q E hr h => ?_)
  · obtain ⟨m, L, W, B, r, s, rfl, _⟩ := h
    rfl
  · obtain ⟨m, L, W, B, r, s, rfl, hM, hMa, hno, q⟩ := h
    have hr1 := hr.mono (j := 1) (by decide)
    refine ⟨_, (pss_cons ((ps_set (i := 3) sc__law_refused.nd rfl (Or.inl rfl) (pe_non))) (pss_cut ((ps_tryExp (i := 4) (R := c_RoomError) ⟨rfl, rfl, rfl, sc__law_refused.nd, rfl, rfl, Or.inl rfl, Or.inl rfl, by rfl, T.k_RoomError, fun v => (pss_one ((ps_set (i := 3) sc__law_refused.nd rfl (Or.inl rfl) (pv 4)))), by decide⟩ d_parting hr (pa_cons (pv 0) (pa_cons (pv 1) (pa_cons (pv 2) pa_nil))))) (pss_one (ps_ret (pe_cmpR (op_eqL hr.units0) (pe_df d__law_kinds hr1 (pa_cons (pv 3) pa_nil)) (pe_lst (pa_cons pe_str pa_nil)) (nomark _)))))), ?_⟩
    refine ⟨fun σ' H' => ∃ e, σ' = [some (.ref m), some (.int r), some (.int s), some (.ref e), none] ∧ Same H H' ∧ H' e = some (excAt e (.ref c_NoRoom)), ?_, ?_⟩
    · refine ⟨_, rfl, _, rfl, _, rfl, m, L, W, B, r, s, rfl, hM, hMa, ?_, ?_⟩
      · exact fun h0 => ⟨T.m_NoRoom, fun e he => ⟨_, rfl, e, rfl, Same.upd he, upd_same⟩⟩
      · exact fun h0 h1 => (hno ⟨h0, h1⟩).elim
    rintro σ1 H1 ⟨e, rfl, sm, he⟩
    refine ⟨_, rfl, e, rfl, he, fun p H2 s2 hp => ⟨line_ge (by show 1 ≤ 16777216; decide), fun p2 hp2 => ?_⟩⟩
    exact ⟨p, p2, _, rfl, rfl, SqL.of (upd_keep hp hp2), SqL.of upd_same, rfl, q _ (sm.trans (s2.trans (Same.upd hp2)))⟩
theorem sc__law_none_before : FnScope ["_law_machine_here", "_law_one", "_law_two", "_law_found", "_law_cells", "_law_word", "_law_k"] ["_law_machine_here", "_law_one", "_law_two", "_law_found", "_law_cells"] (defScope s__law_none_before) := ⟨rfl, rfl, rfl, by decide +kernel, rfl, by decide +kernel, by decide +kernel⟩
set_option maxHeartbeats 4000000 in
theorem ok__law_none_before {f : Addr} {fd : FuncData} (F : Fun K "_law_none_before" "_law_none_before" s__law_none_before f fd) (T : Txt K mg c_RoomError c_NoLetters c_NoWord c_NoNumber c_NoRoom c_NoMachine c_OtherLetters c_TooMany c_NoPattern c_TooGreat c_NoKind) (d__law_after : Df P w K mg base "_law_after" 1 ["_law_machine_here", "_law_room", "_law_word"] sp_after) (d__law_earlier : Df P w K mg base "_law_earlier" 1 ["_law_letters_here", "_law_one", "_law_two"] sp__law_earlier) : FnOk P w K mg base CX0 2 f fd ["_law_machine_here", "_law_one", "_law_two", "_law_found", "_law_cells"] (sp_nonebefore K) := by
  refine F.ok sc__law_none_before (fun vs H Q E h => ?_) (fun cdv A outer s H vs Q E hr h => ?_)
  · obtain ⟨m, L, W, B, r, s, o, a, ns, rfl, _⟩ := h
    rfl
  · obtain ⟨m, L, W, B, r, s, o, a, ns, rfl, hM, hMa, hr0, hs0, hpo, hS, hns, q⟩ := h
    refine ⟨_, (pss_cons ((ps_set (i := 5) sc__law_none_before.nd rfl (Or.inl rfl) (pe_str))) (pss_cons ((ps_for PassesOwn.never rfl (pi_range1 rfl T.range (pa_cons (pe_op op_a (pe_callB call_len_seq (by rfl) T.len PySem.boot_len (pa_cons (pv 4) pa_nil)) pe_int) pa_nil)) (pg_name (i := 6) sc__law_none_before.nd rfl (Or.inl rfl)) ((pss_cons ((ps_if (pt_cmpR op_ne (pe_ix ix_tup (pe_ix ix_tup (pv 0) (pe_int) (fun _ _ => rfl)) ((pe_df d__law_after hr (pa_cons (pv 0) (pa_cons (pv 1) (pa_cons (pv 5) pa_nil))))) (fun _ _ => rfl)) (pe_ix ix_tup (pe_ix ix_tup (pv 0) (pe_int) (fun _ _ => rfl)) ((pe_df d__law_after hr (pa_cons (pv 0) (pa_cons (pv 2) (pa_cons (pv 5) pa_nil))))) (fun _ _ => rfl)) (nomark _)) ((pss_one (ps_ret (pe_and (pe_cmpR op_notN (pv 3) pe_non (nomark _)) (pe_one (pe_not (pe_df d__law_earlier hr (pa_cons (pe_ix ix_tup (pv 0) (pe_int) (fun _ _ => rfl)) (pa_cons (pv 5) (pa_cons (pv 3) pa_nil)))))))))) (pss_nil))) (pss_one ((ps_if (pt_cmpR op_lt (pv 6) (pe_callB call_len_seq (by rfl) T.len PySem.boot_len (pa_cons (pv 4) pa_nil)) (nomark _)) ((pss_one ((ps_set (i := 5) sc__law_none_before.nd rfl (Or.inl rfl) (pe_op op_add_str (pv 5) (pe_ix ix_str (pe_ix ix_tup (pv 0) (pe_int) (fun _ _ => rfl)) (pe_op op_m (pe_ix ix_list (pv 4) (pv 6) (fun _ _ => rfl)) (pe_callB call_len_str (by rfl) T.len PySem.boot_len (pa_cons (pe_ix ix_tup (pv 0) (pe_int) (fun _ _ => rfl)) pa_nil))) (fun _ _ => rfl))))))) (pss_nil)))))))) (pss_one (ps_ret pe_bl)))), ?_⟩
    have hM0 := hM
    obtain ⟨wy, mk, rows, h1, h2, h3, h4, h5⟩ := hM0
    have hz : (tx L).length ≤ sizeLine := line_ge (by rw [tx_len]; exact Nat.le_trans hMa.lt.hi (by decide))
    have hlp : (0 : Int) < ((tx L).length : Int) := by rw [tx_len]; exact ar_pos1 hMa.lt.lo
    have hbl := hMa.bl
    have hnl : (ns.map V.int).length = ns.length := List.length_map _
    obtain ⟨sp1, sp2⟩ := hpo.spec hMa hr0 hs0
    refine ⟨_, rfl, a, _, rfl, .inl hS, _, _, rfl, rfl, _, rfl, by rw [hnl]; exact (ar_rng1 (Nat.le_trans hns (by decide))).1, by rw [hnl]; exact (ar_rng1 (Nat.le_trans hns (by decide))).2, ?_⟩
    refine for_range (n := (((ns.map V.int).length : Nat) + 1 : Int).toNat) (fun i σ' H' => ∃ (w : List Nat) (s6 : Option V), σ' = [some (.ref m), some (.int (r : Int)), some (.int (s : Int)), some (oV o), some (.ref a), some (.str (tx w)), s6] ∧ H' = H ∧ (∀ c ∈ w, c ∈ L) ∧ w.length ≤ i) ⟨[], none, by rw [← empty_eq]; rfl, rfl, fun c hc => by simp at hc, by simp⟩ ?_ ?_
    · rintro i σ' H' hi ⟨w, s6, rfl, rfl, hw, hwl⟩
      rw [hnl] at hi
      have hi : i < ns.length + 1 := hi
      have b1 := run_lt hMa (w := w) hr0 hw
      have b2 := run_lt hMa (w := w) hs0 hw
      refine ⟨_, rfl, m, _, _, _, rfl, rfl, SqT.of h1, atI_nat (j := 2) rfl, _, rfl, _, rfl, _, rfl, m, L, W, B, r, w, rfl, hM, hMa, hr0, hw, mk, _, _, _, rfl, rfl, SqT.of h3, mark_at (ar_len hbl b1), ?_⟩
      refine ⟨_, rfl, m, _, _, _, rfl, rfl, SqT.of h1, atI_nat (j := 2) rfl, _, rfl, _, rfl, _, rfl, m, L, W, B, s, w, rfl, hM, hMa, hs0, hw, mk, _, _, _, rfl, rfl, SqT.of h3, mark_at (ar_len hbl b2), rfl, _, rfl, ?_⟩
      rw [dec_bls]
      by_cases hmk : B.getD (run L W r w) false = B.getD (run L W s w) false
      case neg =>
        rw [decide_eq_false hmk]
        refine iteT ?_
        cases o with
        | none => exact (hmk (sp1 rfl w hw)).elim
        | some v =>
          obtain ⟨v1, v2, v3, v4⟩ := sp2 v rfl
          refine ⟨_, rfl, rfl, _, rfl, iteNS2 ?_⟩
          refine ⟨_, rfl, m, _, _, _, rfl, rfl, SqT.of h1, atI_nat (j := 0) rfl, _, rfl, _, rfl, L, w, v, rfl, hMa.lt, hw, v1, Nat.le_trans hwl (Nat.le_trans (Nat.le_of_lt_succ hi) (Nat.le_trans hns (by decide))), Nat.le_trans v2 (by decide), fun H2 s2 => ⟨_, rfl, ?_⟩⟩
          rw [v4 w hw hmk]
          exact q H2 s2
      rw [decide_eq_true hmk]
      refine iteF ?_
      refine ⟨_, rfl, _, rfl, a, _, rfl, .inl hS, _, _, rfl, rfl, _, rfl, ite3 (fun hlt => ?_) (fun hlt => ?_)⟩
      case _ =>
        rw [hnl] at hlt
        have hi2 : i < ns.length := by rw [Int.zero_add] at hlt; exact Int.ofNat_lt.mp hlt
        have hat : atI (ns.map V.int) (0 + (i : Int)) = some (.int ns[i]) := by
          rw [Int.zero_add]
          exact atI_map V.int (List.getElem?_eq_getElem hi2)
        have q0 := Int.emod_nonneg ns[i] (Int.ne_of_gt hlp)
        have q1 := Int.emod_lt_of_pos ns[i] hlp
        obtain ⟨v, hv, hv2⟩ := atI_in (xs := (tx L).cps.toList) q0 (by rw [tx_cps, ← tx_len]; exact q1)
        rw [tx_cps] at hv2
        have hvL : v ∈ L := List.mem_of_getElem? hv2
        refine ⟨_, rfl, _, rfl, m, _, _, _, rfl, rfl, SqT.of h1, atI_nat (j := 0) rfl, _, rfl, _, rfl, a, _, _, _, rfl, rfl, hS, hat, _, rfl, m, _, _, _, rfl, rfl, SqT.of h1, atI_nat (j := 0) rfl, _, rfl, hz, _, _, rfl, rfl, hlp, _, _, _, rfl, rfl, hz, hv, _, _, rfl, rfl, ?_, ?_⟩
        · rw [tx_len]
          show w.length + 1 ≤ sizeLine
          exact line_ge (ar_w1 hwl hi2 hns)
        refine ⟨w ++ [v], _, by rw [← tx_app]; rfl, rfl, fun c hc => ?_, by rw [List.length_append]; exact Nat.succ_le_succ hwl⟩
        rcases List.mem_append.mp hc with hc | hc
        · exact hw c hc
        · rw [List.mem_singleton.mp hc]; exact hvL
      case _ => exact ⟨w, _, rfl, rfl, hw, Nat.le_succ_of_le hwl⟩
    · rintro σ' H' ⟨w, s6, rfl, rfl, hw, hwl⟩
      exact q _ (Same.refl _)
theorem sc_law : FnScope ["_law_script", "_law_letters_here", "_law_first", "_law_rooms", "_law_machine_here", "_law_one", "_law_two", "_law_found", "_law_number"] ["_law_script"] (defScope s_law) := ⟨rfl, rfl, rfl, by decide +kernel, rfl, by decide +kernel, by decide +kernel⟩
set_option maxHeartbeats 4000000 in
theorem ok_law {f : Addr} {fd : FuncData} (F : Fun K "law" "law" s_law f fd) (T : Txt K mg c_RoomError c_NoLetters c_NoWord c_NoNumber c_NoRoom c_NoMachine c_OtherLetters c_TooMany c_NoPattern c_TooGreat c_NoKind) (d__law_cell_at : Df P w K mg base "_law_cell_at" 1 ["_law_script", "_law_k"] (sp_cell K)) (d__law_letters : Df P w K mg base "_law_letters" 1 ["_law_cell"] sp_letters) (d__law_some : Df P w K mg base "_law_some" 3 ["_law_script", "_law_rooms", "_law_letters_here"] (sp_some K)) (d_parting : DfX P w K mg base "parting" 4 ["machine", "one", "two"] (sp_parting c_NoRoom)) (d__law_alike : Df P w K mg base "_law_alike" 1 ["_law_machine_here", "_law_left", "_law_second", "_law_right"] sp_alike) (d__law_is_word : Df P w K mg base "_law_is_word" 1 ["_law_found", "_law_letters_here"] sp_isword) (d__law_after : Df P w K mg base "_law_after" 1 ["_law_machine_here", "_law_room", "_law_word"] sp_after) (d__law_none_before : Df P w K mg base "_law_none_before" 2 ["_law_machine_here", "_law_one", "_law_two", "_law_found", "_law_cells"] (sp_nonebefore K)) (d__law_same : Df P w K mg base "_law_same" 1 ["_law_found", "_law_due"] sp_same15) (d__law_refused : Df P w K mg base "_law_refused" 5 ["_law_machine_here", "_law_one", "_law_two"] sp_refused) : FnOk P w K mg base CX0 6 f fd ["_law_script"] (spLaw K) := by
  refine F.ok sc_law (fun vs H Q E h => ?_) (fun cdv A outer s H vs Q E hr h => ?_)
  · obtain ⟨a, ns, rfl, _⟩ := h
    rfl
  · obtain ⟨a, ns, rfl, hS, hlen, k⟩ := h
    have hr1 := hr.mono (j := 1) (by decide)
    have hr2 := hr.mono (j := 2) (by decide)
    have hr3 := hr.mono (j := 3) (by decide)
    have hr4 := hr.mono (j := 4) (by decide)
    have hr5 := hr.mono (j := 5) (by decide)
    refine ⟨_, (pss_cons ((ps_set (i := 1) sc_law.nd rfl (Or.inl rfl) ((pe_df d__law_letters hr1 (pa_cons ((pe_df d__law_cell_at hr1 (pa_cons (pv 0) (pa_cons (pe_int) pa_nil)))) pa_nil))))) (pss_cons ((ps_set (i := 2) sc_law.nd rfl (Or.inl rfl) ((pe_df d__law_cell_at hr1 (pa_cons (pv 0) (pa_cons (pe_int) pa_nil)))))) (pss_cons ((ps_set (i := 3) sc_law.nd rfl (Or.inl rfl) (pe_op op_a pe_int (pe_op op_m (pv 2) pe_int)))) (pss_cut ((ps_if (pt_cmpR op_eq (pe_op op_m (pe_op op_f (pv 2) pe_int) pe_int) pe_int (nomark _)) ((pss_one ((ps_set (i := 3) sc_law.nd rfl (Or.inl rfl) (pe_op op_a pe_int (pe_op op_m (pe_op op_f (pv 2) pe_int) pe_int)))))) (pss_nil))) (pss_cons ((ps_set (i := 4) sc_law.nd rfl (Or.inl rfl) ((pe_df d__law_some hr3 (pa_cons (pv 0) (pa_cons (pv 3) (pa_cons (pv 1) pa_nil))))))) (pss_cons ((ps_set (i := 5) sc_law.nd rfl (Or.inl rfl) (pe_op op_modG (pe_df d__law_cell_at hr1 (pa_cons (pv 0) (pa_cons (pe_int) pa_nil))) (pv 3)))) (pss_cons ((ps_set (i := 6) sc_law.nd rfl (Or.inl rfl) (pe_op op_modG (pe_op op_f (pe_df d__law_cell_at hr1 (pa_cons (pv 0) (pa_cons (pe_int) pa_nil))) (pv 3)) (pv 3)))) (pss_cons ((ps_set (i := 7) sc_law.nd rfl (Or.inl rfl) ((pe_dfX d_parting hr4 passes_no (pa_cons (pv 4) (pa_cons (pv 5) (pa_cons (pv 6) pa_nil))))))) (pss_cons ((ps_if (pt_cmpR op_ne (pe_cmpR op_isN (pv 7) pe_non (nomark _)) (pe_df d__law_alike hr1 (pa_cons (pv 4) (pa_cons (pv 5) (pa_cons (pv 4) (pa_cons (pv 6) pa_nil))))) (nomark _)) ((pss_one (ps_ret pe_bl))) (pss_nil))) (pss_cut ((ps_if (pt_cmpR op_notN (pv 7) pe_non (nomark _)) ((pss_cons ((ps_if (pt_not (pt_val (pe_df d__law_is_word hr1 (pa_cons (pv 7) (pa_cons (pv 1) pa_nil))))) ((pss_one (ps_ret pe_bl))) (pss_nil))) (pss_one ((ps_if (pt_cmpR op_eq (pe_ix ix_tup (pe_ix ix_tup (pv 4) (pe_int) (fun _ _ => rfl)) ((pe_df d__law_after hr1 (pa_cons (pv 4) (pa_cons (pv 5) (pa_cons (pv 7) pa_nil))))) (fun _ _ => rfl)) (pe_ix ix_tup (pe_ix ix_tup (pv 4) (pe_int) (fun _ _ => rfl)) ((pe_df d__law_after hr1 (pa_cons (pv 4) (pa_cons (pv 6) (pa_cons (pv 7) pa_nil))))) (fun _ _ => rfl)) (nomark _)) ((pss_one (ps_ret pe_bl))) (pss_nil)))))) (pss_nil))) (pss_cons ((ps_if (pt_not (pt_val (pe_df d__law_none_before hr2 (pa_cons (pv 4) (pa_cons (pv 5) (pa_cons (pv 6) (pa_cons (pv 7) (pa_cons (pe_slice sl_list (pv 0) (po_some pe_int) (po_some pe_int)) pa_nil)))))))) ((pss_one (ps_ret pe_bl))) (pss_nil))) (pss_cons ((ps_if ((pw_or (pt_not (pt_val (pe_df d__law_same hr1 (pa_cons ((pe_dfX d_parting hr4 passes_no (pa_cons (pv 4) (pa_cons (pv 6) (pa_cons (pv 5) pa_nil))))) (pa_cons (pv 7) pa_nil))))) (pw_or1 (pt_cmpR op_notN (pe_dfX d_parting hr4 passes_no (pa_cons (pv 4) (pa_cons (pv 5) (pa_cons (pv 5) pa_nil)))) pe_non (nomark _)))).pt) ((pss_one (ps_ret pe_bl))) (pss_nil))) (pss_cons ((ps_for PassesOwn.never rfl (pi_list (pe_lst (pa_cons (pe_op op_s (pe_un un_neg pe_int) (pe_op op_modG (pe_df d__law_cell_at hr1 (pa_cons (pv 0) (pa_cons (pe_int) pa_nil))) (pe_op op_pow pe_int pe_int))) (pa_cons (pe_op op_a (pv 3) (pe_op op_modG (pe_df d__law_cell_at hr1 (pa_cons (pv 0) (pa_cons (pe_int) pa_nil))) (pe_op op_pow pe_int pe_int))) pa_nil)))) (pg_name (i := 8) sc_law.nd rfl (Or.inl rfl)) ((pss_cons ((ps_if ((pw_or (pt_not (pt_val (pe_df d__law_refused hr5 (pa_cons (pv 4) (pa_cons (pv 5) (pa_cons (pv 8) pa_nil)))))) (pw_or1 (pt_not (pt_val (pe_df d__law_refused hr5 (pa_cons (pv 4) (pa_cons (pv 8) (pa_cons (pv 6) pa_nil)))))))).pt) ((pss_one (ps_ret pe_bl))) (pss_nil))) (pss_one ((ps_if (pt_not (pt_val (pe_df d__law_refused hr5 (pa_cons (pv 4) (pa_cons (pv 8) (pa_cons (pv 8) pa_nil)))))) ((pss_one (ps_ret pe_bl))) (pss_nil)))))))) (pss_one (ps_ret pe_bl))))))))))))))), ?_⟩
    refine ⟨_, rfl, a, ns, 1, rfl, hS, by decide, fun z0 => ⟨z0, rfl, fun L hL => ?_⟩⟩
    refine ⟨_, rfl, a, ns, 0, rfl, hS, by decide, fun z1 => ?_⟩
    refine ⟨_, rfl, _, _, rfl, rfl, by decide, _, _, rfl, rfl, ?_⟩
    refine ⟨fun σ' H' => ∃ n : Nat, σ' = [some (.ref a), some (.str (tx L)), some (.int z1), some (.int (n : Int)), none, none, none, none, none] ∧ H' = H ∧ 1 ≤ n ∧ n ≤ 60, ?_, ?_⟩
    · refine ⟨_, rfl, _, _, rfl, rfl, ⟨by decide, by decide⟩, _, _, rfl, rfl, by decide, rfl, _, rfl, ite3 (fun _ => ?_) (fun _ => ?_)⟩
      · obtain ⟨n, en, n1, n2⟩ := ar_room (z1 / 49) 8 53 (by decide)
        refine ⟨_, rfl, _, _, rfl, rfl, ⟨by decide, by decide⟩, _, _, rfl, rfl, by decide, _, _, rfl, rfl, n, ?_, rfl, Nat.le_trans (by decide) n1, Nat.le_of_lt_succ n2⟩
        rw [en]
        rfl
      · obtain ⟨n, en, n1, n2⟩ := ar_room z1 1 7 (by decide)
        refine ⟨n, ?_, rfl, n1, Nat.le_trans (Nat.le_of_lt n2) (by decide)⟩
        rw [en]
        rfl
    rintro σ1 H0 ⟨n, rfl, rfl, hn1, hn60⟩
    refine ⟨_, rfl, _, rfl, _, rfl, a, ns, n, L, rfl, hS, hn1, hn60, hL, fun m W B H1 s1 hM1 hMa hWn => ?_⟩
    have hS1 := s1.seq hS
    refine ⟨_, rfl, a, ns, 2, rfl, hS1, by decide, fun z2 => ⟨_, rfl, _, _, rfl, rfl, ar_pos1 hn1, fun r hr0 hrn => ?_⟩⟩
    refine ⟨_, rfl, a, ns, 2, rfl, hS1, by decide, fun z3 => ⟨_, rfl, _, _, rfl, rfl, ar_fd hn1 hn60, _, rfl, _, _, rfl, rfl, ar_pos1 hn1, fun s hs0 hsn => ?_⟩⟩
    obtain ⟨r, rfl⟩ := Int.eq_ofNat_of_zero_le hr0
    obtain ⟨s, rfl⟩ := Int.eq_ofNat_of_zero_le hs0
    have hrW : r < W.length := by rw [hWn]; exact Int.ofNat_lt.mp hrn
    have hsW : s < W.length := by rw [hWn]; exact Int.ofNat_lt.mp hsn
    have rin : 0 ≤ (r : Int) ∧ (r : Int) < W.length := ⟨Int.natCast_nonneg r, Int.ofNat_lt.mpr hrW⟩
    have sin : 0 ≤ (s : Int) ∧ (s : Int) < W.length := ⟨Int.natCast_nonneg s, Int.ofNat_lt.mpr hsW⟩
    refine ⟨_, rfl, _, rfl, _, rfl, m, L, W, B, r, s, rfl, hM1, hMa, fun z => (z ⟨rin, sin⟩).elim, fun _ _ o H2 s2 hpo => ?_⟩
    have hpo : PartOf L W B r s o := hpo
    have sm2 := s1.trans s2
    have hS2 := s2.seq hS1
    have hM2 := hM1.same s2
    obtain ⟨sp1, sp2⟩ := hpo.spec hMa hrW hsW
    refine ⟨_, rfl, rfl, _, rfl, _, rfl, _, rfl, _, rfl, m, L, W, B, r, s, rfl, hM2, hMa, hrW, hsW, fun b H3 s3 hb => ⟨rfl, _, rfl, iteNS ?_ ?_⟩⟩
    · congr 1
      cases o with
      | none => exact (hb.mpr (sp1 rfl)).symm
      | some v =>
        rw [decide_eq_false (fun z => by cases z)]
        cases hbb : b with
        | false => rfl
        | true => exact ((sp2 v rfl).2.2.1 (hb.mp hbb v (sp2 v rfl).1)).elim
    have hS3 := s3.seq hS2
    have hM3 := hM2.same s3
    refine ⟨fun σ' H' => σ' = [some (.ref a), some (.str (tx L)), some (.int z1), some (.int (n : Int)), some (.ref m), some (.int (r : Int)), some (.int (s : Int)), some (oV o), none] ∧ Same H3 H', ?_, ?_⟩
    · cases o with
      | none => exact ⟨_, rfl, rfl, _, rfl, iteNS rfl ⟨rfl, Same.refl _⟩⟩
      | some v =>
        obtain ⟨v1, v2, v3, v4⟩ := sp2 v rfl
        refine ⟨_, rfl, rfl, _, rfl, iteNS2 ?_⟩
        refine ⟨_, rfl, _, rfl, L, v, rfl, v1, Nat.le_trans v2 (by decide), fun H4 s4 => ⟨_, rfl, iteF ?_⟩⟩
        have hM4 := hM3.same s4
        have hM4' := hM4
        obtain ⟨wy, mk, rows, h1, h2, h3, h4, h5⟩ := hM4'
        have hbl := hMa.bl
        have b1 := run_lt hMa (w := v) hrW v1
        have b2 := run_lt hMa (w := v) hsW v1
        refine ⟨_, rfl, m, _, _, _, rfl, rfl, SqT.of h1, atI_nat (j := 2) rfl, _, rfl, _, rfl, _, rfl, m, L, W, B, r, v, rfl, hM4, hMa, hrW, v1, mk, _, _, _, rfl, rfl, SqT.of h3, mark_at (ar_len hbl b1), ?_⟩
        refine ⟨_, rfl, m, _, _, _, rfl, rfl, SqT.of h1, atI_nat (j := 2) rfl, _, rfl, _, rfl, _, rfl, m, L, W, B, s, v, rfl, hM4, hMa, hsW, v1, mk, _, _, _, rfl, rfl, SqT.of h3, mark_at (ar_len hbl b2), rfl, _, rfl, ?_⟩
        rw [dec_bls]
        exact iteN v3 ⟨rfl, s4⟩
    rintro σ2 H4 ⟨rfl, s4⟩
    have hS4 := s4.seq hS3
    have hM4 := hM3.same s4
    refine ⟨_, rfl, _, rfl, _, rfl, _, rfl, _, rfl, _, rfl, _, rfl, a, _, rfl, hS4, fun p5 hp5 => ⟨m, L, W, B, r, s, o, p5, cutI ns (some 11) (some 63), rfl, hM4.same (Same.upd hp5), hMa, hrW, hsW, hpo, SqL.of (by rw [upd_same, cutV_ints]), Nat.le_trans (cutI_length _ _ _) hlen, fun H5 s5 => ⟨_, rfl, iteF ?_⟩⟩⟩
    have s5' := (Same.upd hp5).trans s5
    have hM5 := hM4.same s5'
    have hS5 := s5'.seq hS4
    refine ⟨_, rfl, _, rfl, _, rfl, m, L, W, B, s, r, rfl, hM5, hMa, fun z => (z ⟨sin, rin⟩).elim, fun _ _ o6 H6 s6 hpo6 => ?_⟩
    have ho6 : o6 = o := (show PartOf L W B s r o6 from hpo6).symm.uniq hpo
    subst ho6
    have hM6 := hM5.same s6
    refine ⟨_, rfl, o6, rfl, _, rfl, iteF ?_⟩
    refine ⟨_, rfl, _, rfl, _, rfl, m, L, W, B, r, r, rfl, hM6, hMa, fun z => (z ⟨rin, rin⟩).elim, fun _ _ o7 H7 s7 hpo7 => ?_⟩
    have ho7 : o7 = none := (show PartOf L W B r r o7 from hpo7).self
    subst ho7
    have hM7 := hM6.same s7
    have hS7 := (s6.trans s7).seq hS5
    refine ⟨rfl, _, rfl, iteNS rfl ?_⟩
    refine ⟨_, rfl, _, rfl, a, ns, 2, rfl, hS7, by decide, fun y1 => ⟨_, _, rfl, rfl, ⟨by decide, by decide, by decide⟩, _, _, rfl, rfl, by decide, fun f1 hf0 _ => ⟨_, _, rfl, rfl, ?_⟩⟩⟩
    refine ⟨_, rfl, _, rfl, a, ns, 3, rfl, hS7, by decide, fun y2 => ⟨_, _, rfl, rfl, ⟨by decide, by decide, by decide⟩, _, _, rfl, rfl, by decide, fun f2 hg0 _ => ⟨_, _, rfl, rfl, line_ge (by show 2 ≤ 16777216; decide), fun ls hls => ?_⟩⟩⟩
    refine ⟨ls, rfl, ⟨_, SqL.of upd_same⟩, ?_⟩
    refine for_list (K := K) (a := ls) (xs := [.int (-1 - f1), .int ((n : Int) + f2)]) (fun i σ' H' => ∃ s8, σ' = [some (.ref a), some (.str (tx L)), some (.int z1), some (.int (n : Int)), some (.ref m), some (.int (r : Int)), some (.int (s : Int)), some (oV o6), s8] ∧ Same (L2.upd H7 ls (.lst [.int (-1 - f1), .int ((n : Int) + f2)])) H') ⟨none, rfl, Same.refl _⟩ ?_ ?_ ?_
    · rintro i σ' H' hi ⟨s8, rfl, hsm⟩
      exact SqL.of (hsm _ _ upd_same)
    · rintro i x σ' H' hx ⟨s8, rfl, hsm⟩
      obtain ⟨y, rfl, hy⟩ : ∃ y : Int, x = .int y ∧ ¬ (0 ≤ y ∧ y < W.length) := by
        match i, hx with
        | 0, hx => cases hx; exact ⟨_, rfl, by omega⟩
        | 1, hx => cases hx; exact ⟨_, rfl, by omega⟩
        | j + 2, hx => simp at hx
      have hM8 := hM7.same ((Same.upd hls).trans hsm)
      refine ⟨_, rfl, _, rfl, _, rfl, m, L, W, B, r, y, rfl, hM8, hMa, fun z => hy z.2, fun H9 s9 => ⟨_, rfl, iteF ?_⟩⟩
      have hM9 := hM8.same s9
      refine ⟨_, rfl, _, rfl, _, rfl, m, L, W, B, y, s, rfl, hM9, hMa, fun z => hy z.1, fun H10 s10 => ⟨_, rfl, iteF ?_⟩⟩
      have hM10 := hM9.same s10
      refine ⟨_, rfl, _, rfl, _, rfl, m, L, W, B, y, y, rfl, hM10, hMa, fun z => hy z.1, fun H11 s11 => ⟨_, rfl, iteF ?_⟩⟩
      exact ⟨_, rfl, hsm.trans (s9.trans (s10.trans s11))⟩
    · rintro σ' H' ⟨s8, rfl, hsm⟩
      exact k H'
end
theorem all_mk {l : PySem.W.OpenLaw} {w : World} {K : PySem.W.Frag} {h : Heap} {mg : Str → Option Value} {fa : Addr} (X : K.In h) (G : h.Ns mainGlobals mg) (hfa : mg "law" = some (.ref fa))
    {f0 : Addr} {od0 an0 : Option Addr} {sl0 : Array (Option Value)} {oc0 kV0 dc0 pm0 cd0 ct0 : Value}
    {f1 : Addr} {od1 an1 : Option Addr} {sl1 : Array (Option Value)} {oc1 kV1 dc1 pm1 cd1 ct1 : Value}
    {f2 : Addr} {od2 an2 : Option Addr} {sl2 : Array (Option Value)} {oc2 kV2 dc2 pm2 cd2 ct2 : Value}
    {f3 : Addr} {od3 an3 : Option Addr} {sl3 : Array (Option Value)} {oc3 kV3 dc3 pm3 cd3 ct3 : Value}
    {f4 : Addr} {od4 an4 : Option Addr} {sl4 : Array (Option Value)} {oc4 kV4 dc4 pm4 cd4 ct4 : Value}
    {f5 : Addr} {od5 an5 : Option Addr} {sl5 : Array (Option Value)} {oc5 kV5 dc5 pm5 cd5 ct5 : Value}
    {f6 : Addr} {od6 an6 : Option Addr} {sl6 : Array (Option Value)} {oc6 kV6 dc6 pm6 cd6 ct6 : Value}
    {f7 : Addr} {od7 an7 : Option Addr} {sl7 : Array (Option Value)} {oc7 kV7 dc7 pm7 cd7 ct7 : Value}
    {f8 : Addr} {od8 an8 : Option Addr} {sl8 : Array (Option Value)} {oc8 kV8 dc8 pm8 cd8 ct8 : Value}
    {f9 : Addr} {od9 an9 : Option Addr} {sl9 : Array (Option Value)} {oc9 kV9 dc9 pm9 cd9 ct9 : Value}
    {f10 : Addr} {od10 an10 : Option Addr} {sl10 : Array (Option Value)} {oc10 kV10 dc10 pm10 cd10 ct10 : Value}
    {f11 : Addr} {od11 an11 : Option Addr} {sl11 : Array (Option Value)} {oc11 kV11 dc11 pm11 cd11 ct11 : Value}
    {f12 : Addr} {od12 an12 : Option Addr} {sl12 : Array (Option Value)} {oc12 kV12 dc12 pm12 cd12 ct12 : Value}
    {f13 : Addr} {od13 an13 : Option Addr} {sl13 : Array (Option Value)} {oc13 kV13 dc13 pm13 cd13 ct13 : Value}
    {f14 : Addr} {od14 an14 : Option Addr} {sl14 : Array (Option Value)} {oc14 kV14 dc14 pm14 cd14 ct14 : Value}
    {f15 : Addr} {od15 an15 : Option Addr} {sl15 : Array (Option Value)} {oc15 kV15 dc15 pm15 cd15 ct15 : Value}
    {f16 : Addr} {od16 an16 : Option Addr} {sl16 : Array (Option Value)} {oc16 kV16 dc16 pm16 cd16 ct16 : Value}
    {f17 : Addr} {od17 an17 : Option Addr} {sl17 : Array (Option Value)} {oc17 kV17 dc17 pm17 cd17 ct17 : Value}
    {f18 : Addr} {od18 an18 : Option Addr} {sl18 : Array (Option Value)} {oc18 kV18 dc18 pm18 cd18 ct18 : Value}
    {f19 : Addr} {od19 an19 : Option Addr} {sl19 : Array (Option Value)} {oc19 kV19 dc19 pm19 cd19 ct19 : Value}
    {f20 : Addr} {od20 an20 : Option Addr} {sl20 : Array (Option Value)} {oc20 kV20 dc20 pm20 cd20 ct20 : Value}
    {f21 : Addr} {od21 an21 : Option Addr} {sl21 : Array (Option Value)} {oc21 kV21 dc21 pm21 cd21 ct21 : Value}
    {f22 : Addr} {od22 an22 : Option Addr} {sl22 : Array (Option Value)} {oc22 kV22 dc22 pm22 cd22 ct22 : Value}
    (a0 : PySem.W.nsIn K mainGlobals "is_whole" = some (some (.ref f0))) (l0 : K.lookup f0 = some ⟨oc0, od0, .func (PySem.W.fnOf "is_whole" "is_whole" (defArgs s_is_whole) (defBody s_is_whole) (defScope s_is_whole) .none kV0 dc0 pm0 an0 cd0 ct0), sl0⟩) (c0 : PySem.W.codeIn K cd0 "is_whole" = true) (k0 : PySem.W.keepIn K (.ref f0) = true)
    (a1 : PySem.W.nsIn K mainGlobals "is_room" = some (some (.ref f1))) (l1 : K.lookup f1 = some ⟨oc1, od1, .func (PySem.W.fnOf "is_room" "is_room" (defArgs s_is_room) (defBody s_is_room) (defScope s_is_room) .none kV1 dc1 pm1 an1 cd1 ct1), sl1⟩) (c1 : PySem.W.codeIn K cd1 "is_room" = true) (k1 : PySem.W.keepIn K (.ref f1) = true)
    (a2 : PySem.W.nsIn K mainGlobals "need_room" = some (some (.ref f2))) (l2 : K.lookup f2 = some ⟨oc2, od2, .func (PySem.W.fnOf "need_room" "need_room" (defArgs s_need_room) (defBody s_need_room) (defScope s_need_room) .none kV2 dc2 pm2 an2 cd2 ct2), sl2⟩) (c2 : PySem.W.codeIn K cd2 "need_room" = true) (k2 : PySem.W.keepIn K (.ref f2) = true)
    (a3 : PySem.W.nsIn K mainGlobals "numbered" = some (some (.ref f3))) (l3 : K.lookup f3 = some ⟨oc3, od3, .func (PySem.W.fnOf "numbered" "numbered" (defArgs s_numbered) (defBody s_numbered) (defScope s_numbered) .none kV3 dc3 pm3 an3 cd3 ct3), sl3⟩) (c3 : PySem.W.codeIn K cd3 "numbered" = true) (k3 : PySem.W.keepIn K (.ref f3) = true)
    (a4 : PySem.W.nsIn K mainGlobals "many_lots" = some (some (.ref f4))) (l4 : K.lookup f4 = some ⟨oc4, od4, .func (PySem.W.fnOf "many_lots" "many_lots" (defArgs s_many_lots) (defBody s_many_lots) (defScope s_many_lots) .none kV4 dc4 pm4 an4 cd4 ct4), sl4⟩) (c4 : PySem.W.codeIn K cd4 "many_lots" = true) (k4 : PySem.W.keepIn K (.ref f4) = true)
    (a5 : PySem.W.nsIn K mainGlobals "rounds_of" = some (some (.ref f5))) (l5 : K.lookup f5 = some ⟨oc5, od5, .func (PySem.W.fnOf "rounds_of" "rounds_of" (defArgs s_rounds_of) (defBody s_rounds_of) (defScope s_rounds_of) .none kV5 dc5 pm5 an5 cd5 ct5), sl5⟩) (c5 : PySem.W.codeIn K cd5 "rounds_of" = true) (k5 : PySem.W.keepIn K (.ref f5) = true)
    (a6 : PySem.W.nsIn K mainGlobals "parting_word" = some (some (.ref f6))) (l6 : K.lookup f6 = some ⟨oc6, od6, .func (PySem.W.fnOf "parting_word" "parting_word" (defArgs s_parting_word) (defBody s_parting_word) (defScope s_parting_word) .none kV6 dc6 pm6 an6 cd6 ct6), sl6⟩) (c6 : PySem.W.codeIn K cd6 "parting_word" = true) (k6 : PySem.W.keepIn K (.ref f6) = true)
    (a7 : PySem.W.nsIn K mainGlobals "parting" = some (some (.ref f7))) (l7 : K.lookup f7 = some ⟨oc7, od7, .func (PySem.W.fnOf "parting" "parting" (defArgs s_parting) (defBody s_parting) (defScope s_parting) .none kV7 dc7 pm7 an7 cd7 ct7), sl7⟩) (c7 : PySem.W.codeIn K cd7 "parting" = true) (k7 : PySem.W.keepIn K (.ref f7) = true)
    (a8 : PySem.W.nsIn K mainGlobals "_law_cell_at" = some (some (.ref f8))) (l8 : K.lookup f8 = some ⟨oc8, od8, .func (PySem.W.fnOf "_law_cell_at" "_law_cell_at" (defArgs s__law_cell_at) (defBody s__law_cell_at) (defScope s__law_cell_at) .none kV8 dc8 pm8 an8 cd8 ct8), sl8⟩) (c8 : PySem.W.codeIn K cd8 "_law_cell_at" = true) (k8 : PySem.W.keepIn K (.ref f8) = true)
    (a9 : PySem.W.nsIn K mainGlobals "_law_letters" = some (some (.ref f9))) (l9 : K.lookup f9 = some ⟨oc9, od9, .func (PySem.W.fnOf "_law_letters" "_law_letters" (defArgs s__law_letters) (defBody s__law_letters) (defScope s__law_letters) .none kV9 dc9 pm9 an9 cd9 ct9), sl9⟩) (c9 : PySem.W.codeIn K cd9 "_law_letters" = true) (k9 : PySem.W.keepIn K (.ref f9) = true)
    (a10 : PySem.W.nsIn K mainGlobals "_law_machine" = some (some (.ref f10))) (l10 : K.lookup f10 = some ⟨oc10, od10, .func (PySem.W.fnOf "_law_machine" "_law_machine" (defArgs s__law_machine) (defBody s__law_machine) (defScope s__law_machine) .none kV10 dc10 pm10 an10 cd10 ct10), sl10⟩) (c10 : PySem.W.codeIn K cd10 "_law_machine" = true) (k10 : PySem.W.keepIn K (.ref f10) = true)
    (a11 : PySem.W.nsIn K mainGlobals "_law_long" = some (some (.ref f11))) (l11 : K.lookup f11 = some ⟨oc11, od11, .func (PySem.W.fnOf "_law_long" "_law_long" (defArgs s__law_long) (defBody s__law_long) (defScope s__law_long) .none kV11 dc11 pm11 an11 cd11 ct11), sl11⟩) (c11 : PySem.W.codeIn K cd11 "_law_long" = true) (k11 : PySem.W.keepIn K (.ref f11) = true)
    (a12 : PySem.W.nsIn K mainGlobals "_law_twins" = some (some (.ref f12))) (l12 : K.lookup f12 = some ⟨oc12, od12, .func (PySem.W.fnOf "_law_twins" "_law_twins" (defArgs s__law_twins) (defBody s__law_twins) (defScope s__law_twins) .none kV12 dc12 pm12 an12 cd12 ct12), sl12⟩) (c12 : PySem.W.codeIn K cd12 "_law_twins" = true) (k12 : PySem.W.keepIn K (.ref f12) = true)
    (a13 : PySem.W.nsIn K mainGlobals "_law_some" = some (some (.ref f13))) (l13 : K.lookup f13 = some ⟨oc13, od13, .func (PySem.W.fnOf "_law_some" "_law_some" (defArgs s__law_some) (defBody s__law_some) (defScope s__law_some) .none kV13 dc13 pm13 an13 cd13 ct13), sl13⟩) (c13 : PySem.W.codeIn K cd13 "_law_some" = true) (k13 : PySem.W.keepIn K (.ref f13) = true)
    (a14 : PySem.W.nsIn K mainGlobals "_law_after" = some (some (.ref f14))) (l14 : K.lookup f14 = some ⟨oc14, od14, .func (PySem.W.fnOf "_law_after" "_law_after" (defArgs s__law_after) (defBody s__law_after) (defScope s__law_after) .none kV14 dc14 pm14 an14 cd14 ct14), sl14⟩) (c14 : PySem.W.codeIn K cd14 "_law_after" = true) (k14 : PySem.W.keepIn K (.ref f14) = true)
    (a15 : PySem.W.nsIn K mainGlobals "_law_alike" = some (some (.ref f15))) (l15 : K.lookup f15 = some ⟨oc15, od15, .func (PySem.W.fnOf "_law_alike" "_law_alike" (defArgs s__law_alike) (defBody s__law_alike) (defScope s__law_alike) .none kV15 dc15 pm15 an15 cd15 ct15), sl15⟩) (c15 : PySem.W.codeIn K cd15 "_law_alike" = true) (k15 : PySem.W.keepIn K (.ref f15) = true)
    (a16 : PySem.W.nsIn K mainGlobals "_law_earlier" = some (some (.ref f16))) (l16 : K.lookup f16 = some ⟨oc16, od16, .func (PySem.W.fnOf "_law_earlier" "_law_earlier" (defArgs s__law_earlier) (defBody s__law_earlier) (defScope s__law_earlier) .none kV16 dc16 pm16 an16 cd16 ct16), sl16⟩) (c16 : PySem.W.codeIn K cd16 "_law_earlier" = true) (k16 : PySem.W.keepIn K (.ref f16) = true)
    (a17 : PySem.W.nsIn K mainGlobals "_law_is_word" = some (some (.ref f17))) (l17 : K.lookup f17 = some ⟨oc17, od17, .func (PySem.W.fnOf "_law_is_word" "_law_is_word" (defArgs s__law_is_word) (defBody s__law_is_word) (defScope s__law_is_word) .none kV17 dc17 pm17 an17 cd17 ct17), sl17⟩) (c17 : PySem.W.codeIn K cd17 "_law_is_word" = true) (k17 : PySem.W.keepIn K (.ref f17) = true)
    (a18 : PySem.W.nsIn K mainGlobals "_law_same" = some (some (.ref f18))) (l18 : K.lookup f18 = some ⟨oc18, od18, .func (PySem.W.fnOf "_law_same" "_law_same" (defArgs s__law_same) (defBody s__law_same) (defScope s__law_same) .none kV18 dc18 pm18 an18 cd18 ct18), sl18⟩) (c18 : PySem.W.codeIn K cd18 "_law_same" = true) (k18 : PySem.W.keepIn K (.ref f18) = true)
    (a19 : PySem.W.nsIn K mainGlobals "_law_kinds" = some (some (.ref f19))) (l19 : K.lookup f19 = some ⟨oc19, od19, .func (PySem.W.fnOf "_law_kinds" "_law_kinds" (defArgs s__law_kinds) (defBody s__law_kinds) (defScope s__law_kinds) .none kV19 dc19 pm19 an19 cd19 ct19), sl19⟩) (c19 : PySem.W.codeIn K cd19 "_law_kinds" = true) (k19 : PySem.W.keepIn K (.ref f19) = true)
    (a20 : PySem.W.nsIn K mainGlobals "_law_refused" = some (some (.ref f20))) (l20 : K.lookup f20 = some ⟨oc20, od20, .func (PySem.W.fnOf "_law_refused" "_law_refused" (defArgs s__law_refused) (defBody s__law_refused) (defScope s__law_refused) .none kV20 dc20 pm20 an20 cd20 ct20), sl20⟩) (c20 : PySem.W.codeIn K cd20 "_law_refused" = true) (k20 : PySem.W.keepIn K (.ref f20) = true)
    (a21 : PySem.W.nsIn K mainGlobals "_law_none_before" = some (some (.ref f21))) (l21 : K.lookup f21 = some ⟨oc21, od21, .func (PySem.W.fnOf "_law_none_before" "_law_none_before" (defArgs s__law_none_before) (defBody s__law_none_before) (defScope s__law_none_before) .none kV21 dc21 pm21 an21 cd21 ct21), sl21⟩) (c21 : PySem.W.codeIn K cd21 "_law_none_before" = true) (k21 : PySem.W.keepIn K (.ref f21) = true)
    (a22 : PySem.W.nsIn K mainGlobals "law" = some (some (.ref f22))) (l22 : K.lookup f22 = some ⟨oc22, od22, .func (PySem.W.fnOf "law" "law" (defArgs s_law) (defBody s_law) (defScope s_law) .none kV22 dc22 pm22 an22 cd22 ct22), sl22⟩) (c22 : PySem.W.codeIn K cd22 "law" = true) (k22 : PySem.W.keepIn K (.ref f22) = true)
    (z_len : PySem.W.nsIn K mainGlobals "len" = some none)
    (z_range : PySem.W.nsIn K mainGlobals "range" = some none)
    (z_isinst : PySem.W.nsIn K mainGlobals "isinstance" = some none)
    (z_int : PySem.W.nsIn K mainGlobals "int" = some none)
    (z_bool : PySem.W.nsIn K mainGlobals "bool" = some none)
    (z_tuple : PySem.W.nsIn K mainGlobals "tuple" = some none)
    (z_list : PySem.W.nsIn K mainGlobals "list" = some none)
    (z_str : PySem.W.nsIn K mainGlobals "str" = some none)
    (z_zip : PySem.W.nsIn K mainGlobals "zip" = some none)
    (z_enumerate : PySem.W.nsIn K mainGlobals "enumerate" = some none)
    (z_reversed : PySem.W.nsIn K mainGlobals "reversed" = some none)
    (z_max : PySem.W.nsIn K mainGlobals "max" = some none)
    (z_verr : PySem.W.nsIn K mainGlobals "ValueError" = some none)
    {c_RoomError : Addr} (n_RoomError : PySem.W.nsIn K mainGlobals "RoomError" = some (some (.ref c_RoomError)))
    {c_NoLetters : Addr} (n_NoLetters : PySem.W.nsIn K mainGlobals "NoLetters" = some (some (.ref c_NoLetters)))
    {c_NoWord : Addr} (n_NoWord : PySem.W.nsIn K mainGlobals "NoWord" = some (some (.ref c_NoWord)))
    {c_NoNumber : Addr} (n_NoNumber : PySem.W.nsIn K mainGlobals "NoNumber" = some (some (.ref c_NoNumber)))
    {c_NoRoom : Addr} (n_NoRoom : PySem.W.nsIn K mainGlobals "NoRoom" = some (some (.ref c_NoRoom)))
    {c_NoMachine : Addr} (n_NoMachine : PySem.W.nsIn K mainGlobals "NoMachine" = some (some (.ref c_NoMachine)))
    {c_OtherLetters : Addr} (n_OtherLetters : PySem.W.nsIn K mainGlobals "OtherLetters" = some (some (.ref c_OtherLetters)))
    {c_TooMany : Addr} (n_TooMany : PySem.W.nsIn K mainGlobals "TooMany" = some (some (.ref c_TooMany)))
    {c_NoPattern : Addr} (n_NoPattern : PySem.W.nsIn K mainGlobals "NoPattern" = some (some (.ref c_NoPattern)))
    {c_TooGreat : Addr} (n_TooGreat : PySem.W.nsIn K mainGlobals "TooGreat" = some (some (.ref c_TooGreat)))
    {c_NoKind : Addr} (n_NoKind : PySem.W.nsIn K mainGlobals "NoKind" = some (some (.ref c_NoKind)))
    (o_NoRoom : OwnX K c_NoRoom) (e_NoRoom : ExcCls K c_NoRoom) (m_NoRoom : PySem.W.exmOne K (.ref c_NoRoom) (.ref c_RoomError) = some true)
    (i_NoRoom_NoLetters : PySem.W.kitOne K (.ref c_NoRoom) (.ref c_NoLetters) = some false)
    (i_NoRoom_NoWord : PySem.W.kitOne K (.ref c_NoRoom) (.ref c_NoWord) = some false)
    (i_NoRoom_NoNumber : PySem.W.kitOne K (.ref c_NoRoom) (.ref c_NoNumber) = some false)
    (i_NoRoom_NoRoom : PySem.W.kitOne K (.ref c_NoRoom) (.ref c_NoRoom) = some true)
    (i_NoRoom_NoMachine : PySem.W.kitOne K (.ref c_NoRoom) (.ref c_NoMachine) = some false)
    (i_NoRoom_OtherLetters : PySem.W.kitOne K (.ref c_NoRoom) (.ref c_OtherLetters) = some false)
    (i_NoRoom_TooMany : PySem.W.kitOne K (.ref c_NoRoom) (.ref c_TooMany) = some false)
    (i_NoRoom_NoPattern : PySem.W.kitOne K (.ref c_NoRoom) (.ref c_NoPattern) = some false)
    (i_NoRoom_TooGreat : PySem.W.kitOne K (.ref c_NoRoom) (.ref c_TooGreat) = some false)
    (i_NoRoom_NoKind : PySem.W.kitOne K (.ref c_NoRoom) (.ref c_NoKind) = some false)
    (v_NoRoom : PySem.W.kitOne K (.ref c_NoRoom) (.type "ValueError") = some true)
    : ∃ fd : FuncData, (∀ (s : Shared) (v : Value), BindsTo s fd ⟨[v], []⟩ [("_law_script", v)]) ∧ ∀ base : Heap, K.In base → base.Ns mainGlobals mg → FnOk l.prog w K mg base CX0 6 fa fd ["_law_script"] (spLaw K) := by
  have e := hfa.symm.trans (PySem.W.mg_of X G a22)
  cases e
  have T : Txt K mg c_RoomError c_NoLetters c_NoWord c_NoNumber c_NoRoom c_NoMachine c_OtherLetters c_TooMany c_NoPattern c_TooGreat c_NoKind := ⟨PySem.W.mg_of X G n_RoomError, PySem.W.mg_of X G n_NoLetters, PySem.W.mg_of X G n_NoWord, PySem.W.mg_of X G n_NoNumber, PySem.W.mg_of X G n_NoRoom, PySem.W.mg_of X G n_NoMachine, PySem.W.mg_of X G n_OtherLetters, PySem.W.mg_of X G n_TooMany, PySem.W.mg_of X G n_NoPattern, PySem.W.mg_of X G n_TooGreat, PySem.W.mg_of X G n_NoKind, o_NoRoom, e_NoRoom, m_NoRoom, i_NoRoom_NoLetters, i_NoRoom_NoWord, i_NoRoom_NoNumber, i_NoRoom_NoRoom, i_NoRoom_NoMachine, i_NoRoom_OtherLetters, i_NoRoom_TooMany, i_NoRoom_NoPattern, i_NoRoom_TooGreat, i_NoRoom_NoKind, v_NoRoom, PySem.W.mg_none_of X G z_len, PySem.W.mg_none_of X G z_range, PySem.W.mg_none_of X G z_isinst, PySem.W.mg_none_of X G z_int, PySem.W.mg_none_of X G z_bool, PySem.W.mg_none_of X G z_tuple, PySem.W.mg_none_of X G z_list, PySem.W.mg_none_of X G z_str, PySem.W.mg_none_of X G z_zip, PySem.W.mg_none_of X G z_enumerate, PySem.W.mg_none_of X G z_reversed, PySem.W.mg_none_of X G z_max, PySem.W.mg_none_of X G z_verr⟩
  have F0 := fun_mk (st := s_is_whole) l0 c0 k0
  have F1 := fun_mk (st := s_is_room) l1 c1 k1
  have F2 := fun_mk (st := s_need_room) l2 c2 k2
  have F3 := fun_mk (st := s_numbered) l3 c3 k3
  have F4 := fun_mk (st := s_many_lots) l4 c4 k4
  have F5 := fun_mk (st := s_rounds_of) l5 c5 k5
  have F6 := fun_mk (st := s_parting_word) l6 c6 k6
  have F7 := fun_mk (st := s_parting) l7 c7 k7
  have F8 := fun_mk (st := s__law_cell_at) l8 c8 k8
  have F9 := fun_mk (st := s__law_letters) l9 c9 k9
  have F10 := fun_mk (st := s__law_machine) l10 c10 k10
  have F11 := fun_mk (st := s__law_long) l11 c11 k11
  have F12 := fun_mk (st := s__law_twins) l12 c12 k12
  have F13 := fun_mk (st := s__law_some) l13 c13 k13
  have F14 := fun_mk (st := s__law_after) l14 c14 k14
  have F15 := fun_mk (st := s__law_alike) l15 c15 k15
  have F16 := fun_mk (st := s__law_earlier) l16 c16 k16
  have F17 := fun_mk (st := s__law_is_word) l17 c17 k17
  have F18 := fun_mk (st := s__law_same) l18 c18 k18
  have F19 := fun_mk (st := s__law_kinds) l19 c19 k19
  have F20 := fun_mk (st := s__law_refused) l20 c20 k20
  have F21 := fun_mk (st := s__law_none_before) l21 c21 k21
  have F22 := fun_mk (st := s_law) l22 c22 k22
  refine ⟨PySem.W.fnOf "law" "law" (defArgs s_law) (defBody s_law) (defScope s_law) .none kV22 dc22 pm22 an22 cd22 ct22, fun s v => .of_eq rfl, fun base _ _ => ?_⟩
  have d_is_whole : Df l.prog w K mg base "is_whole" 1 ["value"] sp_is_whole := ⟨f0, _, PySem.W.mg_of X G a0, k0, F0.binds (ps := ["value"]) (fun _ _ _ _ _ _ us hl => by obtain ⟨_, rfl⟩ := len1 hl; rfl), ok_is_whole F0 T ⟩
  have d_is_room : Df l.prog w K mg base "is_room" 2 ["number", "many"] sp_isroom2 := ⟨f1, _, PySem.W.mg_of X G a1, k1, F1.binds (ps := ["number", "many"]) (fun _ _ _ _ _ _ us hl => by obtain ⟨_, _, rfl⟩ := len2 hl; rfl), ok_is_room F1 T d_is_whole⟩
  have d_need_room : DfX l.prog w K mg base "need_room" 3 ["machine", "number"] (sp_needroomX c_NoRoom) := ⟨f2, _, PySem.W.mg_of X G a2, k2, F2.binds (ps := ["machine", "number"]) (fun _ _ _ _ _ _ us hl => by obtain ⟨_, _, rfl⟩ := len2 hl; rfl), ok_need_room F2 T d_is_room⟩
  have d_numbered : Df l.prog w K mg base "numbered" 1 ["values"] sp_numbered := ⟨f3, _, PySem.W.mg_of X G a3, k3, F3.binds (ps := ["values"]) (fun _ _ _ _ _ _ us hl => by obtain ⟨_, rfl⟩ := len1 hl; rfl), ok_numbered F3 T ⟩
  have d_many_lots : Df l.prog w K mg base "many_lots" 1 ["lots"] sp_many := ⟨f4, _, PySem.W.mg_of X G a4, k4, F4.binds (ps := ["lots"]) (fun _ _ _ _ _ _ us hl => by obtain ⟨_, rfl⟩ := len1 hl; rfl), ok_many_lots F4 T ⟩
  have d_rounds_of : Df l.prog w K mg base "rounds_of" 2 ["ways", "marks", "most"] sp_rounds := ⟨f5, _, PySem.W.mg_of X G a5, k5, F5.binds (ps := ["ways", "marks", "most"]) (fun _ _ _ _ _ _ us hl => by obtain ⟨_, _, _, rfl⟩ := len3 hl; rfl), ok_rounds_of F5 T d_numbered d_many_lots⟩
  have d_parting_word : Df l.prog w K mg base "parting_word" 1 ["letters", "ways", "rounds", "one", "two"] sp_pword := ⟨f6, _, PySem.W.mg_of X G a6, k6, F6.binds (ps := ["letters", "ways", "rounds", "one", "two"]) (fun _ _ _ _ _ _ us hl => by obtain ⟨_, _, _, _, _, rfl⟩ := len5 hl; rfl), ok_parting_word F6 T ⟩
  have d_parting : DfX l.prog w K mg base "parting" 4 ["machine", "one", "two"] (sp_parting c_NoRoom) := ⟨f7, _, PySem.W.mg_of X G a7, k7, F7.binds (ps := ["machine", "one", "two"]) (fun _ _ _ _ _ _ us hl => by obtain ⟨_, _, _, rfl⟩ := len3 hl; rfl), ok_parting F7 T d_need_room d_rounds_of d_parting_word⟩
  have d__law_cell_at : Df l.prog w K mg base "_law_cell_at" 1 ["_law_script", "_law_k"] (sp_cell K) := ⟨f8, _, PySem.W.mg_of X G a8, k8, F8.binds (ps := ["_law_script", "_law_k"]) (fun _ _ _ _ _ _ us hl => by obtain ⟨_, _, rfl⟩ := len2 hl; rfl), ok__law_cell_at F8 T ⟩
  have d__law_letters : Df l.prog w K mg base "_law_letters" 1 ["_law_cell"] sp_letters := ⟨f9, _, PySem.W.mg_of X G a9, k9, F9.binds (ps := ["_law_cell"]) (fun _ _ _ _ _ _ us hl => by obtain ⟨_, rfl⟩ := len1 hl; rfl), ok__law_letters F9 T ⟩
  have d__law_machine : Df l.prog w K mg base "_law_machine" 2 ["_law_script", "_law_at", "_law_rooms", "_law_letters_here"] (sp_machine K) := ⟨f10, _, PySem.W.mg_of X G a10, k10, F10.binds (ps := ["_law_script", "_law_at", "_law_rooms", "_law_letters_here"]) (fun _ _ _ _ _ _ us hl => by obtain ⟨_, _, _, _, rfl⟩ := len4 hl; rfl), ok__law_machine F10 T d__law_cell_at⟩
  have d__law_long : Df l.prog w K mg base "_law_long" 1 ["_law_machine_here", "_law_cell"] sp_long := ⟨f11, _, PySem.W.mg_of X G a11, k11, F11.binds (ps := ["_law_machine_here", "_law_cell"]) (fun _ _ _ _ _ _ us hl => by obtain ⟨_, _, rfl⟩ := len2 hl; rfl), ok__law_long F11 T ⟩
  have d__law_twins : Df l.prog w K mg base "_law_twins" 1 ["_law_machine_here", "_law_cell"] sp_twins := ⟨f12, _, PySem.W.mg_of X G a12, k12, F12.binds (ps := ["_law_machine_here", "_law_cell"]) (fun _ _ _ _ _ _ us hl => by obtain ⟨_, _, rfl⟩ := len2 hl; rfl), ok__law_twins F12 T ⟩
  have d__law_some : Df l.prog w K mg base "_law_some" 3 ["_law_script", "_law_rooms", "_law_letters_here"] (sp_some K) := ⟨f13, _, PySem.W.mg_of X G a13, k13, F13.binds (ps := ["_law_script", "_law_rooms", "_law_letters_here"]) (fun _ _ _ _ _ _ us hl => by obtain ⟨_, _, _, rfl⟩ := len3 hl; rfl), ok__law_some F13 T d__law_machine d__law_cell_at d__law_long d__law_twins⟩
  have d__law_after : Df l.prog w K mg base "_law_after" 1 ["_law_machine_here", "_law_room", "_law_word"] sp_after := ⟨f14, _, PySem.W.mg_of X G a14, k14, F14.binds (ps := ["_law_machine_here", "_law_room", "_law_word"]) (fun _ _ _ _ _ _ us hl => by obtain ⟨_, _, _, rfl⟩ := len3 hl; rfl), ok__law_after F14 T ⟩
  have d__law_alike : Df l.prog w K mg base "_law_alike" 1 ["_law_machine_here", "_law_left", "_law_second", "_law_right"] sp_alike := ⟨f15, _, PySem.W.mg_of X G a15, k15, F15.binds (ps := ["_law_machine_here", "_law_left", "_law_second", "_law_right"]) (fun _ _ _ _ _ _ us hl => by obtain ⟨_, _, _, _, rfl⟩ := len4 hl; rfl), ok__law_alike F15 T ⟩
  have d__law_earlier : Df l.prog w K mg base "_law_earlier" 1 ["_law_letters_here", "_law_one", "_law_two"] sp__law_earlier := ⟨f16, _, PySem.W.mg_of X G a16, k16, F16.binds (ps := ["_law_letters_here", "_law_one", "_law_two"]) (fun _ _ _ _ _ _ us hl => by obtain ⟨_, _, _, rfl⟩ := len3 hl; rfl), ok__law_earlier F16 T ⟩
  have d__law_is_word : Df l.prog w K mg base "_law_is_word" 1 ["_law_found", "_law_letters_here"] sp_isword := ⟨f17, _, PySem.W.mg_of X G a17, k17, F17.binds (ps := ["_law_found", "_law_letters_here"]) (fun _ _ _ _ _ _ us hl => by obtain ⟨_, _, rfl⟩ := len2 hl; rfl), ok__law_is_word F17 T ⟩
  have d__law_same : Df l.prog w K mg base "_law_same" 1 ["_law_found", "_law_due"] sp_same15 := ⟨f18, _, PySem.W.mg_of X G a18, k18, F18.binds (ps := ["_law_found", "_law_due"]) (fun _ _ _ _ _ _ us hl => by obtain ⟨_, _, rfl⟩ := len2 hl; rfl), ok__law_same F18 T ⟩
  have d__law_kinds : Df l.prog w K mg base "_law_kinds" 1 ["_law_e"] (sp_kinds15 c_NoRoom) := ⟨f19, _, PySem.W.mg_of X G a19, k19, F19.binds (ps := ["_law_e"]) (fun _ _ _ _ _ _ us hl => by obtain ⟨_, rfl⟩ := len1 hl; rfl), ok__law_kinds F19 T ⟩
  have d__law_refused : Df l.prog w K mg base "_law_refused" 5 ["_law_machine_here", "_law_one", "_law_two"] sp_refused := ⟨f20, _, PySem.W.mg_of X G a20, k20, F20.binds (ps := ["_law_machine_here", "_law_one", "_law_two"]) (fun _ _ _ _ _ _ us hl => by obtain ⟨_, _, _, rfl⟩ := len3 hl; rfl), ok__law_refused F20 T d_parting d__law_kinds⟩
  have d__law_none_before : Df l.prog w K mg base "_law_none_before" 2 ["_law_machine_here", "_law_one", "_law_two", "_law_found", "_law_cells"] (sp_nonebefore K) := ⟨f21, _, PySem.W.mg_of X G a21, k21, F21.binds (ps := ["_law_machine_here", "_law_one", "_law_two", "_law_found", "_law_cells"]) (fun _ _ _ _ _ _ us hl => by obtain ⟨_, _, _, _, _, rfl⟩ := len5 hl; rfl), ok__law_none_before F21 T d__law_after d__law_earlier⟩
  exact ok_law F22 T d__law_cell_at d__law_letters d__law_some d_parting d__law_alike d__law_is_word d__law_after d__law_none_before d__law_same d__law_refused
end K15
open PySem PySem.W PyProof.Rows
set_option maxRecDepth 100000 in
set_option maxHeartbeats 0 in
theorem PySem.Challenge.cw_roomalgebra_k15_parting_words_holds : PySem.Challenge.rw_roomalgebra_k15_parting_words.Holds := by
  w_on; o_law; z_head; (case hw => w_witness2)
  k_fill
  intro w sa sb mg mb G ye fa ob pm cd dc dv kv e1 e2 e3 e4 e5 e6 gs vs bs La c1 c2 c3 c4 c5
  z_open ye La KX ZH ZN ZT
  clear ye La ZH ZN ZT
  refine L2.walk63z (k := 6) (x := "_law_script") (l := PySem.Challenge.rw_roomalgebra_k15_parting_words) rfl rfl ⟨rfl, by decide, by decide⟩ ?F w sa sb mg mb G KX fa ob pm cd dc dv kv e1 e2 e3 e4 e5 e6 gs vs bs c1 c2 c3 c4 c5
  case F =>
    intro w mg fa h KX G hmg
    refine' K15.all_mk KX G hmg ?a0 ?l0 ?c0 ?k0 ?a1 ?l1 ?c1 ?k1 ?a2 ?l2 ?c2 ?k2 ?a3 ?l3 ?c3 ?k3 ?a4 ?l4 ?c4 ?k4 ?a5 ?l5 ?c5 ?k5 ?a6 ?l6 ?c6 ?k6 ?a7 ?l7 ?c7 ?k7 ?a8 ?l8 ?c8 ?k8 ?a9 ?l9 ?c9 ?k9 ?a10 ?l10 ?c10 ?k10 ?a11 ?l11 ?c11 ?k11 ?a12 ?l12 ?c12 ?k12 ?a13 ?l13 ?c13 ?k13 ?a14 ?l14 ?c14 ?k14 ?a15 ?l15 ?c15 ?k15 ?a16 ?l16 ?c16 ?k16 ?a17 ?l17 ?c17 ?k17 ?a18 ?l18 ?c18 ?k18 ?a19 ?l19 ?c19 ?k19 ?a20 ?l20 ?c20 ?k20 ?a21 ?l21 ?c21 ?k21 ?a22 ?l22 ?c22 ?k22 ?z_len ?z_range ?z_isinst ?z_int ?z_bool ?z_tuple ?z_list ?z_str ?z_zip ?z_enumerate ?z_reversed ?z_max ?z_verr ?n_RoomError ?n_NoLetters ?n_NoWord ?n_NoNumber ?n_NoRoom ?n_NoMachine ?n_OtherLetters ?n_TooMany ?n_NoPattern ?n_TooGreat ?n_NoKind ?o_NoRoom ?e_NoRoom ?m_NoRoom ?i_NoRoom_NoLetters ?i_NoRoom_NoWord ?i_NoRoom_NoNumber ?i_NoRoom_NoRoom ?i_NoRoom_NoMachine ?i_NoRoom_OtherLetters ?i_NoRoom_TooMany ?i_NoRoom_NoPattern ?i_NoRoom_TooGreat ?i_NoRoom_NoKind ?v_NoRoom
    (case a0 => k_is); (case l0 => k_is); (case c0 => k_is); (case k0 => k_is)
    (case a1 => k_is); (case l1 => k_is); (case c1 => k_is); (case k1 => k_is)
    (case a2 => k_is); (case l2 => k_is); (case c2 => k_is); (case k2 => k_is)
    (case a3 => k_is); (case l3 => k_is); (case c3 => k_is); (case k3 => k_is)
    (case a4 => k_is); (case l4 => k_is); (case c4 => k_is); (case k4 => k_is)
    (case a5 => k_is); (case l5 => k_is); (case c5 => k_is); (case k5 => k_is)
    (case a6 => k_is); (case l6 => k_is); (case c6 => k_is); (case k6 => k_is)
    (case a7 => k_is); (case l7 => k_is); (case c7 => k_is); (case k7 => k_is)
    (case a8 => k_is); (case l8 => k_is); (case c8 => k_is); (case k8 => k_is)
    (case a9 => k_is); (case l9 => k_is); (case c9 => k_is); (case k9 => k_is)
    (case a10 => k_is); (case l10 => k_is); (case c10 => k_is); (case k10 => k_is)
    (case a11 => k_is); (case l11 => k_is); (case c11 => k_is); (case k11 => k_is)
    (case a12 => k_is); (case l12 => k_is); (case c12 => k_is); (case k12 => k_is)
    (case a13 => k_is); (case l13 => k_is); (case c13 => k_is); (case k13 => k_is)
    (case a14 => k_is); (case l14 => k_is); (case c14 => k_is); (case k14 => k_is)
    (case a15 => k_is); (case l15 => k_is); (case c15 => k_is); (case k15 => k_is)
    (case a16 => k_is); (case l16 => k_is); (case c16 => k_is); (case k16 => k_is)
    (case a17 => k_is); (case l17 => k_is); (case c17 => k_is); (case k17 => k_is)
    (case a18 => k_is); (case l18 => k_is); (case c18 => k_is); (case k18 => k_is)
    (case a19 => k_is); (case l19 => k_is); (case c19 => k_is); (case k19 => k_is)
    (case a20 => k_is); (case l20 => k_is); (case c20 => k_is); (case k20 => k_is)
    (case a21 => k_is); (case l21 => k_is); (case c21 => k_is); (case k21 => k_is)
    (case a22 => k_is); (case l22 => k_is); (case c22 => k_is); (case k22 => k_is)
    (case z_len => k_is)
    (case z_range => k_is)
    (case z_isinst => k_is)
    (case z_int => k_is)
    (case z_bool => k_is)
    (case z_tuple => k_is)
    (case z_list => k_is)
    (case z_str => k_is)
    (case z_zip => k_is)
    (case z_enumerate => k_is)
    (case z_reversed => k_is)
    (case z_max => k_is)
    (case z_verr => k_is)
    (case n_RoomError => k_is)
    (case n_NoLetters => k_is)
    (case n_NoWord => k_is)
    (case n_NoNumber => k_is)
    (case n_NoRoom => k_is)
    (case n_NoMachine => k_is)
    (case n_OtherLetters => k_is)
    (case n_TooMany => k_is)
    (case n_NoPattern => k_is)
    (case n_TooGreat => k_is)
    (case n_NoKind => k_is)
    (case o_NoRoom => unfold L2.OwnX; k_exc)
    (case e_NoRoom => exact ⟨by k_is, by k_is, by k_is, by k_is, by k_is, by k_is, by k_is, by k_is⟩)
    (case m_NoRoom => kts_exm)
    (case i_NoRoom_NoLetters => kit_is)
    (case i_NoRoom_NoWord => kit_is)
    (case i_NoRoom_NoNumber => kit_is)
    (case i_NoRoom_NoRoom => kit_is)
    (case i_NoRoom_NoMachine => kit_is)
    (case i_NoRoom_OtherLetters => kit_is)
    (case i_NoRoom_TooMany => kit_is)
    (case i_NoRoom_NoPattern => kit_is)
    (case i_NoRoom_TooGreat => kit_is)
    (case i_NoRoom_NoKind => kit_is)
    (case v_NoRoom => kit_is)
#print axioms PySem.Challenge.cw_roomalgebra_k15_parting_words_holds
