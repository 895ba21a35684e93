import PyProof.Rows.All
import Wide.All
import OpenK.AllK
import Wide.FinOn
import Lean
import PyProof.EqAt
import PyProof.EqKinds
import PyProof.TupleCall
import PyProof.Draws
import PyProof.ZipIter
import PySem.Challenge.RW_roomalgebra_k41_what_a_word_does
-- CHANGE: your row's module here, as the last of these rows
set_option Elab.async false
set_option linter.all false
set_option maxRecDepth 100000
/-! THE HAND LAYER, for ints, bools, texts, own classes, LISTS and tuples (index, slices, in, append, pop ..), calls, loops. Paste it whole ahead of your own text; what your proof does not reach may be deleted. -/
namespace L2
open PySem PySem.Spec PyProof.Rows

/-- a key: an int or a str -/
abbrev Key := Sum Int Str
def keyIs : Key → Value → Bool
  | .inl k, v => Value.isInt k v
  | .inr x, v => Value.isStrOf x v
def keyH (w : World) : Key → Int
  | .inl k => hashInt k
  | .inr x => hashStr w x
theorem keyIs_shape : ∀ {k : Key} {v : Value}, keyIs k v = true → (∃ i t, k = Sum.inl i ∧ v = Value.int i t) ∨ (∃ x t, k = Sum.inr x ∧ v = Value.str x t)
  | .inl i, v, h => by
    obtain ⟨t, e⟩ := Value.isInt_shape (k := i) (v := v) h
    exact .inl ⟨i, t, rfl, e⟩
  | .inr x, v, h => by
    obtain ⟨t, e⟩ := Value.isStrOf_shape (x := x) (v := v) h
    exact .inr ⟨x, t, rfl, e⟩
theorem key_ll (a b : Int) : decide ((Sum.inl a : Key) = Sum.inl b) = (a == b) := by
  by_cases e : a = b
  · subst e; simp
  · have h : ¬ (Sum.inl a : Key) = Sum.inl b := fun q => e (Sum.inl.inj q)
    rw [decide_eq_false h]
    exact (beq_eq_false_iff_ne.mpr e).symm
theorem key_rr (a b : Str) : decide ((Sum.inr a : Key) = Sum.inr b) = decide (a = b) := by
  by_cases e : a = b
  · subst e; simp
  · have h : ¬ (Sum.inr a : Key) = Sum.inr b := fun q => e (Sum.inr.inj q)
    rw [decide_eq_false h, decide_eq_false e]
theorem key_lr (a : Int) (b : Str) : decide ((Sum.inl a : Key) = Sum.inr b) = false := decide_eq_false (fun q => nomatch q)
theorem key_rl (a : Str) (b : Int) : decide ((Sum.inr a : Key) = Sum.inl b) = false := decide_eq_false (fun q => nomatch q)

def mixKind (prog : Program) (w : World) : PySem.KeyKind prog w Key where
  is := keyIs
  hash := keyH w
  inj := fun v a b ha hb => by
    rcases keyIs_shape ha with ⟨i, t, rfl, rfl⟩ | ⟨x, t, rfl, rfl⟩
    · rcases keyIs_shape hb with ⟨j, u, rfl, e⟩ | ⟨y, u, rfl, e⟩
      · injection e with e1 _; rw [e1]
      · exact nomatch e
    · rcases keyIs_shape hb with ⟨j, u, rfl, e⟩ | ⟨y, u, rfl, e⟩
      · exact nomatch e
      · injection e with e1 _; rw [e1]
  byValue := fun k v h => by
    rcases keyIs_shape h with ⟨i, t, rfl, rfl⟩ | ⟨x, t, rfl, rfl⟩ <;> rfl
  pyHash := fun hv h => by
    rcases keyIs_shape hv with ⟨i, t, rfl, rfl⟩ | ⟨x, t, rfl, rfl⟩
    · exact wpAny_pyHash_int h
    · exact wpAny_pyHash_str h
  eqBool := fun hu hv h => by
    rcases keyIs_shape hu with ⟨i, t, rfl, rfl⟩ | ⟨x, t, rfl, rfl⟩
    · rcases keyIs_shape hv with ⟨j, u, rfl, rfl⟩ | ⟨y, u, rfl, rfl⟩
      · rw [key_ll] at h; exact wpAny_eqBool_int h
      · rw [key_lr] at h; exact SeqAt.EqAt.int_str i t y u _ _ _ _ h
    · rcases keyIs_shape hv with ⟨j, u, rfl, rfl⟩ | ⟨y, u, rfl, rfl⟩
      · rw [key_rl] at h; exact SeqAt.EqAt.str_int x t j u _ _ _ _ h
      · rw [key_rr] at h; exact wpAny_eqBool_str h
  «strs» := fun k x t v h => by
    rcases keyIs_shape h with ⟨i, u, rfl, e⟩ | ⟨y, u, rfl, e⟩
    · exact nomatch e
    · injection e with e1 _
      subst e1
      cases v <;> rfl

end L2

namespace L2
open PySem PySem.Spec PyProof.Rows

/-- a value, without the heap -/
inductive V where
  | non | bl (b : Bool) | int (i : Int) | str (x : Str) | byt (b : Array UInt8) | flt (b : UInt64) | ref (a : Addr) | ty (n : String)
  deriving DecidableEq

def RelV : V → Value → Prop
  | .non, u => u = Value.none
  | .bl b, u => u = Value.bool b
  | .int i, u => ∃ t, u = Value.int i t
  | .str x, u => ∃ t, u = Value.str x t
  | .byt b, u => ∃ t, u = Value.bytes b t
  | .flt b, u => ∃ t, u = Value.float b t
  | .ref a, u => u = Value.ref a
  | .ty n, u => u = Value.type n

abbrev Vals : List V → List Value → Prop := Paired RelV
theorem Vals.length {xs : List V} {us : List Value} (r : Vals xs us) : xs.length = us.length := Paired.length r
theorem Vals.get : ∀ {xs : List V} {us : List Value} {i : Nat} {x : V}, Vals xs us → xs[i]? = some x → ∃ u, us[i]? = some u ∧ RelV x u
  | _, _, _, _, .nil, e => by simp at e
  | _, _, 0, _, .cons r _, e => by simp at e; subst e; exact ⟨_, rfl, r⟩
  | _, _, i + 1, x, .cons _ t, e => by
    obtain ⟨u, h1, h2⟩ := Vals.get (i := i) (x := x) t (by simpa using e)
    exact ⟨u, by simpa using h1, h2⟩
theorem Vals.append : ∀ {xs ys : List V} {us ws : List Value}, Vals xs us → Vals ys ws → Vals (xs ++ ys) (us ++ ws)
  | _, _, _, _, .nil, s => s
  | _, _, _, _, .cons r t, s => .cons r (Vals.append t s)
theorem Vals.take : ∀ {xs : List V} {us : List Value} (n : Nat), Vals xs us → Vals (xs.take n) (us.take n)
  | _, _, 0, _ => .nil
  | _, _, _ + 1, .nil => .nil
  | _, _, n + 1, .cons r t => .cons r (Vals.take n t)
theorem Vals.drop : ∀ {xs : List V} {us : List Value} (n : Nat), Vals xs us → Vals (xs.drop n) (us.drop n)
  | _, _, 0, r => r
  | _, _, _ + 1, .nil => .nil
  | _, _, n + 1, .cons _ t => Vals.drop n t
def RelO : Option V → Option Value → Prop
  | some v, some u => RelV v u
  | none, none => True
  | _, _ => False
def KV {κ : Type} : List (κ × V) → List (κ × Value) → Prop := Paired fun (p : κ × V) (q : κ × Value) => p.1 = q.1 ∧ RelV p.2 q.2

/-- a key of a dict (00_mix): an int or a text -/
def kV : Key → V
  | .inl i => .int i
  | .inr x => .str x

/-- what stands at a tracked address -/
inductive HO where
  /-- a list -/
  | lst (xs : List V)
  /-- a tuple (never changes) -/
  | tup (xs : List V)
  /-- a dict whose keys are ints and texts; one whose keys are tuples of ints and texts (the empty one is both) -/
  | dK (kvs : List (Key × V)) | dT (kvs : List (List Key × V))
  /-- a set of ints: its members, its size -/
  | set (S : Int → Bool) (n : Nat)
  /-- an instance of the class at C, its dict at dx, its attributes -/
  | ins (C dx : Addr) (fs : List (Str × V))
  /-- the dict of the instance at x -/
  | own (x : Addr)
  /-- the dict of an exception -/
  | xd (fs : List (Str × V))
  /-- a bound method, f of x -/
  | met (f x : Addr)
  /-- a range object lo, lo + 1, .. below hi -/
  | rng (lo hi : Int)
  /-- a thing that is known to the object (the script; a dict while a loop walks it): read, never written while it is so -/
  | frz (o : Obj) (u : HO)
  /-- a code object's table -/
  | tbl (ps : Array Value)
  /-- any other thing, by what is true of its one object (a def of one's own: SetO a S n := HO.ext fun h => ..) -/
  | ext (φ : Heap → Prop)

abbrev Hp := Addr → Option HO
def upd (H : Hp) (a : Addr) (o : HO) : Hp := fun b => if b = a then some o else H b
theorem upd_same {H : Hp} {a : Addr} {o : HO} : upd H a o a = some o := by unfold upd; rw [if_pos rfl]
theorem upd_ne {H : Hp} {a b : Addr} {o : HO} (h : b ≠ a) : upd H a o b = H b := by unfold upd; rw [if_neg h]
theorem upd_upd {H : Hp} {a : Addr} {o u : HO} : upd (upd H a o) a u = upd H a u := by
  funext b; unfold upd; split <;> rfl
/-- two objects of different content stand apart -/
theorem ne_of {H : Hp} {a b : Addr} {o u : HO} (h : H a = some o) (h' : H b = some u) (d : o ≠ u) : a ≠ b := by
  intro e; subst e; rw [h] at h'; exact d (Option.some.inj h')
theorem ne_of_none {H : Hp} {a b : Addr} {o : HO} (h : H a = some o) (h' : H b = none) : a ≠ b := by
  intro e; subst e; rw [h] at h'; cases h'

section
variable (P : Program) (w : World)
def ObjOk (H : Hp) (h : Heap) (a : Addr) : HO → Prop
  | .lst xs => xs.length ≤ sizeLine ∧ ∃ (its : List Value) (n : Nat), Vals xs its ∧ h.get? a = some { cls := .type "list", data := .seq its.toArray n }
  | .tup xs => xs.length ≤ sizeLine ∧ ∃ its : List Value, Vals xs its ∧ IsTup h a its.toArray
  | .dK kvs => kvs.length ≤ sizeLine ∧ (a == sysModules) = false ∧ ∃ vs, KV kvs vs ∧ h.DictOf (mixKind P w) a vs
  | .dT kvs => kvs.length ≤ sizeLine ∧ (a == sysModules) = false ∧ ∃ xs : List (List Key × Addr × Value),
      Paired (fun (p : List Key × V) (q : List Key × Addr × Value) => p.1 = q.1 ∧ H q.2.1 = some (.tup (p.1.map kV)) ∧ RelV p.2 q.2.2) kvs xs ∧
      ∃ o es ep, h.get? a = some o ∧ o.ExactDict ∧ o.data = .dict es ep ∧ es.toList = xs.map (entryOfKey (tupleKind (mixKind P w))) ∧ (xs.map (·.1)).Nodup
  | .set S n => h.SetOf (intKind P w) a S n
  | .ins C dx fs => H dx = some (.own a) ∧ fs.length ≤ 1000 ∧ dx ≠ a ∧ h.get? a = some (PySem.W.instObj C dx) ∧
      ∃ mA, h.Ns1 dx mA ∧ (∀ f, RelO (fs.lookup f) (mA f)) ∧ PySem.Within mA (fs.map (·.1))
  | .own _ => ∃ o, h.get? a = some o
  | .xd fs => ∃ mA, h.Ns1 a mA ∧ ∀ f, RelO (fs.lookup f) (mA f)
  | .rng lo hi => ∃ t u v, h.get? a = some { cls := .type "range", data := .fields #[.int lo t, .int hi u, .int 1 v] }
  | .frz o u => h.get? a = some o ∧ ObjOk H h a u
  | .tbl ps => h.get? a = some { cls := .none, data := .fields ps }
  | .met f x => h.get? a = some (PySem.W.methodObj (.ref f) (.ref x))
  | .ext φ => φ h ∧ (∃ o, h.get? a = some o) ∧ ∀ h1 h2 : Heap, φ h1 → (∀ o, h1.get? a = some o → h2.get? a = some o) → φ h2
/-- the abstract heap is held -/
def HOk (H : Hp) (h : Heap) : Prop := ∀ a o, H a = some o → ObjOk P w H h a o
end

section
variable {P : Program} {w : World} {H H' : Hp} {h h' : Heap} {a : Addr} {o : HO}
theorem ObjOk.lt (x : ObjOk P w H h a o) : a < h.objs.size := by
  cases o with
  | lst xs => obtain ⟨_, _, _, _, e⟩ := x; exact Heap.lt_size e
  | tup xs => obtain ⟨_, _, _, p⟩ := x; exact p.lt
  | dK kvs => obtain ⟨_, _, _, _, o, _, _, e, _⟩ := x; exact Heap.lt_size e
  | dT kvs => obtain ⟨_, _, _, _, o, _, _, e, _⟩ := x; exact Heap.lt_size e
  | set S n => obtain ⟨o, _, _, _, e, _⟩ := x; exact Heap.lt_size e
  | ins C dx fs => obtain ⟨_, _, _, e, _⟩ := x; exact Heap.lt_size e
  | own y => obtain ⟨_, e⟩ := x; exact Heap.lt_size e
  | xd fs => obtain ⟨_, ⟨_, _, _, e, _⟩, _⟩ := x; exact Heap.lt_size e
  | rng lo hi => obtain ⟨_, _, _, e⟩ := x; exact Heap.lt_size e
  | frz ob u => obtain ⟨e, _⟩ := x; exact Heap.lt_size e
  | tbl ps => exact Heap.lt_size (show h.get? a = some _ from x)
  | met f y => exact Heap.lt_size (show h.get? a = some _ from x)
  | ext φ => obtain ⟨_, ⟨_, e⟩, _⟩ := x; exact Heap.lt_size e
theorem Paired.mapP {α β : Type} {F G : α → β → Prop} : ∀ {l₁ : List α} {l₂ : List β}, Paired F l₁ l₂ → (∀ a b, F a b → G a b) → Paired G l₁ l₂
  | _, _, .nil, _ => .nil
  | _, _, .cons r t, f => .cons (f _ _ r) (Paired.mapP t f)
/-- what an object's description leans on: its own object, its own dict, the tuples -/
theorem ObjOk.stay (x : ObjOk P w H h a o) (k : ∀ b u, (b = a ∨ H b = some (.own a)) → h.get? b = some u → h'.get? b = some u)
    (ho : ∀ b, H b = some (.own a) → H' b = some (.own a)) (ht : ∀ b xs, H b = some (.tup xs) → H' b = some (.tup xs)) : ObjOk P w H' h' a o := by
  induction o with
  | lst xs => obtain ⟨z, its, n, r, e⟩ := x; exact ⟨z, its, n, r, k _ _ (.inl rfl) e⟩
  | tup xs => obtain ⟨z, its, r, ob, e, c⟩ := x; exact ⟨z, its, r, ob, k _ _ (.inl rfl) e, c⟩
  | dK kvs => obtain ⟨z, y, vs, r, ob, es, ep, e, c⟩ := x; exact ⟨z, y, vs, r, ob, es, ep, k _ _ (.inl rfl) e, c⟩
  | dT kvs =>
    obtain ⟨z, y, xs, r, ob, es, ep, e, c⟩ := x
    exact ⟨z, y, xs, Paired.mapP r fun p q z => ⟨z.1, ht _ _ z.2.1, z.2.2⟩, ob, es, ep, k _ _ (.inl rfl) e, c⟩
  | set S n => obtain ⟨ob, es, ep, t, e, c⟩ := x; exact ⟨ob, es, ep, t, k _ _ (.inl rfl) e, c⟩
  | ins C dx fs =>
    obtain ⟨d, z, ne, e, mA, ⟨od, es, ep, e2, c⟩, r⟩ := x
    exact ⟨ho _ d, z, ne, k _ _ (.inl rfl) e, mA, ⟨od, es, ep, k _ _ (.inr d) e2, c⟩, r⟩
  | own y => obtain ⟨ob, e⟩ := x; exact ⟨ob, k _ _ (.inl rfl) e⟩
  | xd fs => obtain ⟨mA, ⟨od, es, ep, e, c⟩, r⟩ := x; exact ⟨mA, ⟨od, es, ep, k _ _ (.inl rfl) e, c⟩, r⟩
  | rng lo hi => obtain ⟨t, u, v, e⟩ := x; exact ⟨t, u, v, k _ _ (.inl rfl) e⟩
  | frz ob u ih => obtain ⟨e, q⟩ := x; exact ⟨k _ _ (.inl rfl) e, ih q⟩
  | tbl ps =>
    have e : h.get? a = some { cls := .none, data := .fields ps } := x
    show h'.get? a = some { cls := .none, data := .fields ps }
    exact k a _ (.inl rfl) e
  | met f y =>
    have e : h.get? a = some (PySem.W.methodObj (.ref f) (.ref y)) := x
    show h'.get? a = some (PySem.W.methodObj (.ref f) (.ref y))
    exact k a _ (.inl rfl) e
  | ext φ => obtain ⟨p, ⟨o, e⟩, st⟩ := x; exact ⟨st _ _ p fun o q => k _ _ (.inl rfl) q, ⟨o, k _ _ (.inl rfl) e⟩, st⟩
theorem HOk.lt (x : HOk P w H h) (e : H a = some o) : a < h.objs.size := (x a o e).lt
theorem HOk.fresh (x : HOk P w H h) (e : h.objs.size ≤ a) : H a = none := by
  cases q : H a with
  | none => rfl
  | some u => exact absurd (Nat.lt_of_lt_of_le (x.lt q) e) (Nat.lt_irrefl _)
/-- every object of the heap is kept -/
theorem HOk.kept (x : HOk P w H h) (k : ∀ b u, h.get? b = some u → h'.get? b = some u) : HOk P w H h' := fun a o e =>
  (x a o e).stay (fun b u _ q => k b u q) (fun _ q => q) fun _ _ q => q
/-- a new object is laid and tracked -/
theorem HOk.laid (x : HOk P w H h) (k : ∀ b u, h.get? b = some u → h'.get? b = some u) (hp : h.objs.size ≤ a) (new : ObjOk P w (upd H a o) h' a o) : HOk P w (upd H a o) h' := fun b u e => by
  have hn := x.fresh hp
  by_cases hb : b = a
  · subst hb; rw [upd_same] at e; cases e; exact new
  · rw [upd_ne hb] at e
    exact (x b u e).stay (fun c v _ q => k c v q) (fun c q => by rw [upd_ne (ne_of_none q hn)]; exact q) fun c xs q => by rw [upd_ne (ne_of_none q hn)]; exact q
end

/-- what may be read as u: it is u, or a known u -/
def Rd (H : Hp) (a : Addr) (u : HO) : Prop := H a = some u ∨ ∃ o, H a = some (.frz o u)
theorem Rd.ok {P : Program} {w : World} {H : Hp} {h : Heap} {a : Addr} {u : HO} (r : Rd H a u) (x : HOk P w H h) : ObjOk P w H h a u := by
  rcases r with r | ⟨o, r⟩
  · exact x a u r
  · obtain ⟨_, q⟩ := x a _ r
    exact q
/-- what may be written -/
def Mut : Option HO → Prop
  | some (.lst _) => True
  | some (.dK _) => True
  | some (.dT _) => True
  | some (.set _ _) => True
  | some (.ins _ _ _) => True
  | some (.ext _) => True
  | _ => False
section
variable {P : Program} {w : World} {H : Hp} {h h' : Heap} {x e : Addr} {o' : HO}
/-- the object at e is changed: x itself, or the dict of the instance x -/
theorem HOk.write (ok : HOk P w H h) (mu : Mut (H x)) (he : e = x ∨ H e = some (.own x)) (k : ∀ b u, b ≠ e → h.get? b = some u → h'.get? b = some u) (heo : ∃ u, h'.get? e = some u)
    (new : ObjOk P w (upd H x o') h' x o') : HOk P w (upd H x o') h' := fun b u q => by
  have nown : ∀ c y, H c = some (.own y) → c ≠ x := fun c y r z => by subst z; rw [r] at mu; exact mu
  have ntup : ∀ c xs, H c = some (.tup xs) → c ≠ x := fun c xs r z => by subst z; rw [r] at mu; exact mu
  by_cases hb : b = x
  · subst hb; rw [upd_same] at q; cases q; exact new
  · rw [upd_ne hb] at q
    by_cases hbe : b = e
    · have q' : H b = some (.own x) := by
        rcases he with z | z
        · exact absurd (hbe.trans z) hb
        · rw [hbe]; exact z
      rw [q] at q'; cases q'
      obtain ⟨v, hv⟩ := heo
      exact ⟨v, by rw [hbe]; exact hv⟩
    · refine (ok b u q).stay (fun c v hc r => k c v ?_ r) (fun c r => by rw [upd_ne (nown c b r)]; exact r) fun c xs r => by rw [upd_ne (ntup c xs r)]; exact r
      rcases hc with rfl | hc
      · exact hbe
      · rintro rfl
        rcases he with z | z
        · exact nown c b hc z
        · rw [hc] at z; cases z; exact hb rfl
end

/-! ### kept unless tracked; of the frames at fs (the callers') the slots may change (an exception that passes writes there); of the records at ex (iterators) nothing is said -/
structure Un (fs ex : List Addr) (H H' : Hp) (h h' : Heap) : Prop where
  keep : ∀ b o, h.get? b = some o → H b = none → b ∉ fs → b ∉ ex → h'.get? b = some o
  slot : ∀ b o, h.get? b = some o → H b = none → b ∈ fs → b ∉ ex → ∃ sl, h'.get? b = some { o with slots := sl }
  free : ∀ b o, h.get? b = some o → H b = none → b ∉ ex → H' b = none
  there : ∀ b o, h.get? b = some o → b ∉ ex → ∃ o', h'.get? b = some o'
  tups : ∀ b xs, H b = some (.tup xs) → H' b = some (.tup xs)
  frzs : ∀ b o u, H b = some (.frz o u) → H' b = some (.frz o u)
  tbls : ∀ b ps, H b = some (.tbl ps) → ∃ more, H' b = some (.tbl (ps ++ more))
section
variable {fs fs' ex ex' : List Addr} {H H1 H2 : Hp} {h h1 h2 h' : Heap} {a x e : Addr} {o : HO}
theorem Un.any (u : Un fs ex H H1 h h1) {b : Addr} {ob : Obj} (q : h.get? b = some ob) (n : H b = none) (hx : b ∉ ex) : ∃ sl, h1.get? b = some { ob with slots := sl } := by
  by_cases hb : b ∈ fs
  · exact u.slot b ob q n hb hx
  · exact ⟨ob.slots, u.keep b ob q n hb hx⟩
theorem Un.trans (a : Un fs ex H H1 h h1) (b : Un fs ex H1 H2 h1 h2) : Un fs ex H H2 h h2 where
  keep := fun c ob q n hc hx => b.keep c ob (a.keep c ob q n hc hx) (a.free c ob q n hx) hc hx
  slot := fun c ob q n hc hx => by
    obtain ⟨sl, e1⟩ := a.slot c ob q n hc hx
    obtain ⟨sl', e2⟩ := b.slot c _ e1 (a.free c ob q n hx) hc hx
    exact ⟨sl', e2⟩
  free := fun c ob q n hx => by
    obtain ⟨o', e1⟩ := a.there c ob q hx
    exact b.free c o' e1 (a.free c ob q n hx) hx
  there := fun c ob q hx => by
    obtain ⟨o', e1⟩ := a.there c ob q hx
    exact b.there c o' e1 hx
  tups := fun c xs q => b.tups c xs (a.tups c xs q)
  frzs := fun c ob xs q => b.frzs c ob xs (a.frzs c ob xs q)
  tbls := fun c ps q => by
    obtain ⟨m1, e1⟩ := a.tbls c ps q
    obtain ⟨m2, e2⟩ := b.tbls c _ e1
    exact ⟨m1 ++ m2, by rw [e2, Array.append_assoc]⟩
theorem Un.kept (k : ∀ b u, h.get? b = some u → h'.get? b = some u) : Un fs ex H H h h' :=
  ⟨fun b ob q _ _ _ => k b ob q, fun b ob q _ _ _ => ⟨ob.slots, k b ob q⟩, fun _ _ _ n _ => n, fun b ob q _ => ⟨ob, k b ob q⟩, fun _ _ q => q, fun _ _ _ q => q, fun _ ps q => ⟨#[], by rw [q]; simp⟩⟩
theorem Un.refl : Un fs ex H H h h := Un.kept fun _ _ q => q
theorem Un.laid (k : ∀ b u, h.get? b = some u → h'.get? b = some u) (hp : h.objs.size ≤ a) (hn : H a = none) : Un fs ex H (upd H a o) h h' where
  keep := fun b u q _ _ _ => k b u q
  slot := fun b u q _ _ _ => ⟨u.slots, k b u q⟩
  free := fun b u q n _ => by rw [upd_ne (Nat.ne_of_lt (Nat.lt_of_lt_of_le (Heap.lt_size q) hp))]; exact n
  there := fun b u q _ => ⟨u, k b u q⟩
  tups := fun b xs q => by rw [upd_ne (ne_of_none q hn)]; exact q
  frzs := fun b u xs q => by rw [upd_ne (ne_of_none q hn)]; exact q
  tbls := fun b ps q => ⟨#[], by rw [upd_ne (ne_of_none q hn), q]; simp⟩
theorem Un.write (mu : Mut (H x)) (he : e = x ∨ H e = some (.own x)) (k : ∀ b u, b ≠ e → h.get? b = some u → h'.get? b = some u) (heo : ∃ u, h'.get? e = some u) : Un fs ex H (upd H x o) h h' := by
  have hx : ∀ b, H b = none → b ≠ x := fun b n z => by subst z; rw [n] at mu; exact mu
  have hb : ∀ b, H b = none → b ≠ e := fun b n z => by
    subst z
    rcases he with r | r
    · exact hx b n r
    · rw [n] at r; cases r
  have hm : ∀ b u, H b = some u → ¬ Mut (some u) → b ≠ x := fun b u q nm z => by subst z; rw [q] at mu; exact nm mu
  refine ⟨fun b u q n _ _ => k b u (hb b n) q, fun b u q n _ _ => ⟨u.slots, k b u (hb b n) q⟩, fun b u q n _ => by rw [upd_ne (hx b n)]; exact n, fun b u q _ => ?_,
    fun b xs q => by rw [upd_ne (hm b _ q fun z => z)]; exact q, fun b u xs q => by rw [upd_ne (hm b _ q fun z => z)]; exact q, fun b ps q => ⟨#[], by rw [upd_ne (hm b _ q fun z => z), q]; simp⟩⟩
  by_cases hbe : b = e
  · subst hbe; exact heo
  · exact ⟨u, k b u hbe q⟩
theorem Un.mono (u : Un fs ex H H1 h h1) (hs : ∀ b ∈ fs, b ∈ fs') (hx : ∀ b ∈ ex, b ∈ ex') : Un fs' ex' H H1 h h1 :=
  ⟨fun b ob q n hb he => u.keep b ob q n (fun z => hb (hs b z)) fun z => he (hx b z), fun _ _ q n _ he => u.any q n fun z => he (hx _ z), fun b ob q n he => u.free b ob q n fun z => he (hx b z), fun b ob q he => u.there b ob q fun z => he (hx b z), u.tups, u.frzs, u.tbls⟩
end

/-! ### the heap without what is tracked -/
def trk (h : Heap) (H : Hp) : List Addr := (List.range h.objs.size).filter fun a => (H a).isSome
def hidT (h : Heap) (H : Hp) : Heap := PySem.W.hideAll h (trk h H)
theorem hidT_size (h : Heap) (H : Hp) : (hidT h H).objs.size = h.objs.size := PySem.W.hideAll_size _ _
theorem hidT_get {h : Heap} {H : Hp} {b : Addr} {o : Obj} (e : h.get? b = some o) (n : H b = none) : (hidT h H).get? b = some o :=
  PySem.W.hideAll_get _ e fun hm => by
    have q : (H b).isSome = true := (List.mem_filter.mp hm).2
    rw [n] at q; simp at q
theorem of_hidT {h : Heap} {H : Hp} {b : Addr} {o : Obj} (e : (hidT h H).get? b = some o) : h.get? b = some o ∧ H b = none := by
  have e' : h.get? b = some o := PySem.W.of_hideAll (trk h H) e
  refine ⟨e', ?_⟩
  cases q : H b with
  | none => rfl
  | some x =>
    have hm : b ∈ trk h H := List.mem_filter.mpr ⟨List.mem_range.mpr (Heap.lt_size e'), by simp [q]⟩
    have z : (hidT h H).get? b = none := PySem.W.hideAll_none (trk h H) hm
    rw [z] at e; cases e

/-! ### OpenK's ledger, filled with every new object but one -/
def allNews (g h : Heap) (L : Addr) : List (Addr × Obj) := (List.range h.objs.size).filterMap fun a => if a = L ∨ (g.get? a).isSome = true then none else (h.get? a).map fun o => (a, o)
def rest (g h : Heap) (L d : Addr) : List (Addr × Obj) := (allNews g h L).filter fun p => decide (p.1 ≠ d)
end L2

namespace L2
open PySem PySem.Spec PyProof.Rows

/-- the module's facts, over the base: the heap at the law's entry without what is tracked there -/
structure Mod (K : PySem.W.Frag) (mg : Str → Option Value) (base : Heap) : Prop where
  kin : K.In base
  glob : base.Ns mainGlobals mg
  blt : ∃ mb, base.Ns builtinsNs mb ∧ ∀ x : Str, x ≠ "__name__" → mb x = bootBuiltins x
  nolimit : base.NoLimit

/-- the context: a def's body (or a comprehension's block) running. base: fixed through the whole law; s₀, H₀: the entry; outer: the frames whose slots others may change (a def's callers); stack: all frames that run;
   ex: iterators that were made ahead of the entry and are walked here (a comprehension's); fn: the names whose cells were made at the entry (a def: all; a comprehension's block: its own); calm: not within an except suite; pn: pins that every state bears; xe: what is wanted of an exception that leaves the code -/
structure Cx where
  prog : Program
  w : World
  K : PySem.W.Frag
  mg : Str → Option Value
  base : Heap
  A : Around
  N : List Str
  s₀ : Shared
  H₀ : Hp
  env : Env
  outer : List Env
  stack : List Env
  ex : List Addr
  fn : Str → Bool
  calm : Bool
  pn : List (Addr × Obj)
  xe : Value → Shared → Prop
/-- the callers' frames -/
def frs (l : List Env) : List Addr := l.filterMap (·.frame)
abbrev Cx.fs (X : Cx) : List Addr := frs X.outer

def Vis (sc : Scope) (x : Str) : Prop := sc.names.lookup x = some .local ∨ sc.names.lookup x = some .cell ∨ sc.names.lookup x = some .free
def Loc (sc : Scope) (x : Str) : Prop := sc.names.lookup x = some .local ∨ sc.names.lookup x = some .cell
def Look (env : Env) (h : Heap) (m : Str → Option Value) (x : Str) (u : Value) : Prop :=
  (env.kindOf x = some .local ∧ m x = some u) ∨ ((env.kindOf x = some .cell ∨ env.kindOf x = some .free) ∧ ∃ c, env.cells.lookup x = some c ∧ h.IsCell c (some u))

structure Cx.Ok (X : Cx) : Prop where
  mod : Mod X.K X.mg X.base
  kind : X.env.scope.kind = .function
  glob : X.env.globals = mainGlobals
  blt : X.env.builtins = builtinsNs
  above : X.s₀.heap.objs.size ≤ X.env.locals
  inj : ∀ x y c, X.env.cells.lookup x = some c → X.env.cells.lookup y = some c → x = y
  has : ∀ x, (X.env.kindOf x = some .cell ∨ X.env.kindOf x = some .free) → ∃ c, X.env.cells.lookup x = some c
  cab : ∀ x c, X.fn x = true → X.env.cells.lookup x = some c → X.s₀.heap.objs.size ≤ c
  hd : X.calm = true → X.A.handled = none
  frames : X.A.frames = some X.stack
  stk : X.stack = X.outer ∨ (X.stack = X.env :: X.outer ∧ X.env.frame = some X.env.locals)
  exf : ∀ b ∈ X.ex, b ≠ X.env.locals ∧ ∀ x c, X.env.cells.lookup x = some c → c ≠ b
  bs : ∀ b o, X.base.get? b = some o → X.s₀.heap.get? b = some o ∧ X.H₀ b = none
  bsz : X.base.objs.size ≤ X.s₀.heap.objs.size
  noex : ∀ b o, X.base.get? b = some o → b ∉ X.ex
  exfs : ∀ b ∈ X.ex, b ∉ X.fs
  funs : X.s₀.heap.FunFrames X.base X.outer
  frf : ∀ b ∈ X.fs, X.H₀ b = none

structure Inv (X : Cx) (pins : List (Addr × Obj)) (σ : List (Option V)) (H : Hp) (s : Shared) : Prop where
  ok : X.Ok
  os : s.os = X.s₀.os
  bare : AllBare s.gens
  base : Un X.fs X.ex X.H₀ H X.s₀.heap s.heap
  loc : ∃ m, s.heap.Ns X.env.locals m ∧ ∀ (i : Nat) (x : Str) (v : V), X.N[i]? = some x → σ[i]? = some (some v) → Vis X.env.scope x → ∃ u, RelV v u ∧ Look X.env s.heap m x u
  cell : ∀ x c, X.env.cells.lookup x = some c → ∃ v, s.heap.IsCell c v
  free : H X.env.locals = none
  freeC : ∀ x c, X.env.cells.lookup x = some c → H c = none
  pin : ∀ p ∈ X.pn ++ pins, s.heap.get? p.1 = some p.2 ∧ H p.1 = none ∧ p.1 ≠ X.env.locals ∧ p.1 ∉ X.fs ∧ ∀ v, p.2.data ≠ .cell v
  hok : HOk X.prog X.w H s.heap
  len : σ.length = X.N.length

section
variable {X : Cx} {pins : List (Addr × Obj)} {σ : List (Option V)} {H H' : Hp} {s : Shared} {h' : Heap}

theorem Cx.Ok.nofr (ok : X.Ok) {b : Addr} {o : Obj} (e : X.base.get? b = some o) : b ∉ X.fs := fun hb => by
  have := (ok.funs.mem hb).1
  rw [e] at this; cases this
theorem Inv.bs (I : Inv X pins σ H s) : ∀ b o, X.base.get? b = some o → s.heap.get? b = some o ∧ H b = none := fun b o e =>
  ⟨I.base.keep b o (I.ok.bs b o e).1 (I.ok.bs b o e).2 (I.ok.nofr e) (I.ok.noex b o e), I.base.free b o (I.ok.bs b o e).1 (I.ok.bs b o e).2 (I.ok.noex b o e)⟩
theorem Inv.bk (I : Inv X pins σ H s) : ∀ b o, X.base.get? b = some o → s.heap.get? b = some o := fun b o e => (I.bs b o e).1
theorem Inv.mod (I : Inv X pins σ H s) : Mod X.K X.mg X.base := I.ok.mod
theorem Inv.kIn (I : Inv X pins σ H s) : X.K.In s.heap := I.ok.mod.kin.keeps I.bk
theorem Inv.lt (I : Inv X pins σ H s) : X.env.locals < s.heap.objs.size := let ⟨_, hn, _⟩ := I.loc; hn.lt
theorem Inv.sz (I : Inv X pins σ H s) : X.s₀.heap.objs.size ≤ s.heap.objs.size := Nat.le_trans I.ok.above (Nat.le_of_lt I.lt)
theorem Inv.nofs (I : Inv X pins σ H s) {a : Addr} (h : s.heap.objs.size ≤ a) : a ∉ X.fs := fun hb => by
  obtain ⟨_, o, ho, _⟩ := I.ok.funs.mem hb
  exact absurd (Nat.lt_of_lt_of_le (Heap.lt_size ho) (Nat.le_trans I.sz h)) (Nat.lt_irrefl _)
theorem Inv.cne (I : Inv X pins σ H s) : ∀ x c, X.env.cells.lookup x = some c → c ≠ X.env.locals := fun x c e z => by
  obtain ⟨v, o, ho, hd⟩ := I.cell x c e
  obtain ⟨m, ⟨o', es, ep, ho', hd', _⟩, _⟩ := I.loc
  rw [z, ho'] at ho; cases ho; rw [hd'] at hd; cases hd
theorem Inv.funs (I : Inv X pins σ H s) : s.heap.FunFrames X.base X.outer := by
  have all : ∀ (l : List Env), (∀ b ∈ frs l, b ∈ X.fs) → X.s₀.heap.FunFrames X.base l → s.heap.FunFrames X.base l := by
    intro l
    induction l with
    | nil => intro _ _; trivial
    | cons env r ih =>
      intro hs hl
      obtain ⟨hk, ⟨L, o, hf, hn, ho, hd⟩, hr⟩ := hl
      have hL : L ∈ X.fs := hs L (by unfold frs; rw [List.filterMap_cons, hf]; exact List.mem_cons_self)
      obtain ⟨sl, e⟩ := I.base.slot L o ho (I.ok.frf L hL) hL fun z => I.ok.exfs L z hL
      exact ⟨hk, ⟨L, _, hf, hn, e, hd⟩, ih (fun b hb => hs b (by unfold frs; rw [List.filterMap_cons, hf]; exact List.mem_cons_of_mem _ hb)) hr⟩
  exact all X.outer (fun _ hb => hb) I.ok.funs

/-- the frames that run, for a call -/
theorem Inv.stack (I : Inv X pins σ H s) : s.heap.FunFrames X.base X.stack := by
  rcases I.ok.stk with e | ⟨e, hf⟩
  · rw [e]; exact I.funs
  · rw [e]
    obtain ⟨m, hn, _⟩ := I.loc
    refine .cons (by rw [I.ok.kind]; decide) hf hn ?_ I.funs
    exact Heap.get?_none_of_le (Nat.le_trans I.ok.bsz I.ok.above)
theorem Inv.stkSub (I : Inv X pins σ H s) : ∀ b ∈ frs X.stack, b ∈ X.env.locals :: X.fs := fun b hb => by
  rcases I.ok.stk with e | ⟨e, hf⟩
  · rw [e] at hb; exact List.mem_cons_of_mem _ hb
  · rw [e] at hb
    unfold frs at hb
    rw [List.filterMap_cons, hf] at hb
    exact hb
theorem Inv.stkFree (I : Inv X pins σ H s) : ∀ b ∈ frs X.stack, H b = none := fun b hb => by
  rcases List.mem_cons.mp (I.stkSub b hb) with e | hb
  · rw [e]; exact I.free
  · obtain ⟨_, o, ho, _⟩ := I.ok.funs.mem hb
    exact I.base.free b o ho (I.ok.frf b hb) fun z => I.ok.exfs b z hb

/-- THE STEP: the untracked objects but the frame and the records at ch are kept (the callers' frames up to slots), the frame's map is kept, the new abstract heap is held -/
theorem Inv.step {g' : Array GenState} {t' : Nat} {d' : Drawn} {ch : List Addr} (I : Inv X pins σ H s)
    (hch : ∀ b ∈ ch, (b ∈ X.ex ∨ X.s₀.heap.objs.size ≤ b) ∧ b ≠ X.env.locals ∧ (∀ x c, X.env.cells.lookup x = some c → c ≠ b) ∧ ∀ p ∈ X.pn ++ pins, p.1 ≠ b)
    (keep : ∀ b o, b ≠ X.env.locals → b ∉ X.fs → b ∉ ch → s.heap.get? b = some o → H b = none → h'.get? b = some o)
    (slot : ∀ b o, b ≠ X.env.locals → b ∈ X.fs → b ∉ ch → s.heap.get? b = some o → H b = none → ∃ sl, h'.get? b = some { o with slots := sl }) (free : ∀ b o, b ∉ ch → s.heap.get? b = some o → H b = none → H' b = none)
    (there : ∀ b o, b ∉ ch → s.heap.get? b = some o → ∃ o', h'.get? b = some o')
    (tups : ∀ b xs, H b = some (.tup xs) → H' b = some (.tup xs)) (frzs : ∀ b o u, H b = some (.frz o u) → H' b = some (.frz o u)) (tbls : ∀ b ps, H b = some (.tbl ps) → ∃ more, H' b = some (.tbl (ps ++ more)))
    (ns : ∀ m, s.heap.Ns X.env.locals m → h'.Ns X.env.locals m) (hok : HOk X.prog X.w H' h') (hg : AllBare g') :
    Inv X pins σ H' { s with heap := h', gens := g', drawn := d', toks := t' } := by
  have neL : ∀ b o, X.s₀.heap.get? b = some o → b ≠ X.env.locals := fun b o e => Nat.ne_of_lt (Nat.lt_of_lt_of_le (Heap.lt_size e) I.ok.above)
  have neC : ∀ b o, X.s₀.heap.get? b = some o → b ∉ X.ex → b ∉ ch := fun b o e hx hb => by
    rcases (hch b hb).1 with z | z
    · exact hx z
    · exact absurd (Nat.lt_of_lt_of_le (Heap.lt_size e) z) (Nat.lt_irrefl _)
  have cellK : ∀ x c, X.env.cells.lookup x = some c → ∀ v, s.heap.IsCell c v → h'.IsCell c v := fun x c e v ⟨o, ho, hd⟩ => by
    have nch : c ∉ ch := fun z => (hch c z).2.2.1 x c e rfl
    by_cases hc : c ∈ X.fs
    · obtain ⟨sl, q⟩ := slot c o (I.cne x c e) hc nch ho (I.freeC x c e)
      exact ⟨_, q, hd⟩
    · exact ⟨o, keep c o (I.cne x c e) hc nch ho (I.freeC x c e), hd⟩
  refine ⟨I.ok, I.os, hg, ⟨fun b o e n hb hx => ?_, fun b o e n hb hx => ?_, fun b o e n hx => ?_, fun b o e hx => ?_, fun b xs e => tups b xs (I.base.tups b xs e), fun b o xs e => frzs b o xs (I.base.frzs b o xs e), fun b ps e => ?_⟩, ?_, fun x c e => ?_, ?_, fun x c e => ?_, fun p hp => ?_, hok, I.len⟩
  · exact keep b o (neL b o e) hb (neC b o e hx) (I.base.keep b o e n hb hx) (I.base.free b o e n hx)
  · obtain ⟨sl, e1⟩ := I.base.slot b o e n hb hx
    obtain ⟨sl', e2⟩ := slot b _ (neL b o e) hb (neC b o e hx) e1 (I.base.free b o e n hx)
    exact ⟨sl', e2⟩
  · obtain ⟨o', e1⟩ := I.base.there b o e hx
    exact free b o' (neC b o e hx) e1 (I.base.free b o e n hx)
  · obtain ⟨o', e1⟩ := I.base.there b o e hx
    exact there b o' (neC b o e hx) e1
  · obtain ⟨m1, e1⟩ := I.base.tbls b ps e
    obtain ⟨m2, e2⟩ := tbls b _ e1
    exact ⟨m1 ++ m2, by rw [e2, Array.append_assoc]⟩
  · obtain ⟨m, hn, hl⟩ := I.loc
    refine ⟨m, ns m hn, fun i x v e1 e2 e3 => ?_⟩
    obtain ⟨u, r, l⟩ := hl i x v e1 e2 e3
    refine ⟨u, r, ?_⟩
    rcases l with l | ⟨k, c, e, z⟩
    · exact .inl l
    · exact .inr ⟨k, c, e, cellK x c e _ z⟩
  · obtain ⟨v, z⟩ := I.cell x c e
    exact ⟨v, cellK x c e v z⟩
  · obtain ⟨m, ⟨o, _, _, ho, _⟩, _⟩ := I.loc
    exact free _ o (fun z => (hch _ z).2.1 rfl) ho I.free
  · obtain ⟨v, o, ho, hd⟩ := I.cell x c e
    exact free c o (fun z => (hch c z).2.2.1 x c e rfl) ho (I.freeC x c e)
  · obtain ⟨e, n, ne, nf, d⟩ := I.pin p hp
    have nch : p.1 ∉ ch := fun z => (hch p.1 z).2.2.2 p hp rfl
    exact ⟨keep p.1 p.2 ne nf nch e n, free p.1 p.2 nch e n, ne, nf, d⟩
/-- .. where the frame's own object is kept too -/
theorem Inv.un {t' : Nat} (I : Inv X pins σ H s) (u : Un X.fs [] H H' s.heap h') (hok : HOk X.prog X.w H' h') : Inv X pins σ H' { s with heap := h', toks := t' } := by
  obtain ⟨m, ⟨o, es, ep, ho, r⟩, _⟩ := id I.loc
  obtain ⟨sl, hL⟩ := u.any ho I.free (by simp)
  exact I.step (g' := s.gens) (d' := s.drawn) (ch := []) (fun _ z => nomatch z) (fun b o _ hb _ e n => u.keep b o e n hb (by simp)) (fun b o _ hb _ e n => u.slot b o e n hb (by simp)) (fun b o _ e n => u.free b o e n (by simp)) (fun b o _ e => u.there b o e (by simp)) u.tups u.frzs u.tbls (fun m' hm => by
    obtain ⟨o', es', ep', ho', r'⟩ := hm
    rw [ho] at ho'; cases ho'
    exact ⟨_, es', ep', hL, r'⟩) hok I.bare
/-- behind a call (or a comprehension's block): the slots of this frame may have changed too, the records at ch may have turned -/
theorem Inv.call {g' : Array GenState} {t' : Nat} {d' : Drawn} {ch : List Addr} (I : Inv X pins σ H s) (u : Un (frs X.stack) ch H H' s.heap h') (hok : HOk X.prog X.w H' h') (hg : AllBare g')
    (hch : ∀ b ∈ ch, (b ∈ X.ex ∨ X.s₀.heap.objs.size ≤ b) ∧ b ≠ X.env.locals ∧ (∀ x c, X.env.cells.lookup x = some c → c ≠ b) ∧ ∀ p ∈ X.pn ++ pins, p.1 ≠ b) :
    Inv X pins σ H' { s with heap := h', gens := g', drawn := d', toks := t' } := by
  obtain ⟨m, ⟨o, es, ep, ho, r⟩, _⟩ := id I.loc
  obtain ⟨sl, hL⟩ := u.any ho I.free fun z => (hch _ z).2.1 rfl
  exact I.step (ch := ch) hch (fun b o hL hb hc e n => u.keep b o e n (fun z => (List.mem_cons.mp (I.stkSub b z)).elim hL hb) hc) (fun b o _ _ hc e n => u.any e n hc) (fun b o hc e n => u.free b o e n hc) (fun b o hc e => u.there b o e hc) u.tups u.frzs u.tbls (fun m' hm => by
    obtain ⟨o', es', ep', ho', r'⟩ := hm
    rw [ho] at ho'; cases ho'
    exact ⟨_, es', ep', hL, r'⟩) hok hg
/-- an untracked record of ours (an iterator) has turned -/
theorem Inv.turned {t' : Nat} {it : Addr} (I : Inv X pins σ H s) (k : ∀ b o, b ≠ it → s.heap.get? b = some o → h'.get? b = some o) (hn : H it = none) (hL : it ≠ X.env.locals)
    (h1 : it ∈ X.ex ∨ X.s₀.heap.objs.size ≤ it) (h2 : ∀ x c, X.env.cells.lookup x = some c → c ≠ it) (h3 : ∀ p ∈ X.pn ++ pins, p.1 ≠ it) : Inv X pins σ H { s with heap := h', toks := t' } := by
  have nit : ∀ b u, H b = some u → b ≠ it := fun b u e z => by rw [z, hn] at e; cases e
  refine I.step (g' := s.gens) (d' := s.drawn) (ch := [it]) (fun b hb => ?_) (fun b o _ _ hc e _ => k b o (fun z => hc (by simp [z])) e) (fun b o _ _ hc e _ => ⟨o.slots, k b o (fun z => hc (by simp [z])) e⟩) (fun _ _ _ _ n => n)
    (fun b o hc e => ⟨o, k b o (fun z => hc (by simp [z])) e⟩) (fun _ _ e => e) (fun _ _ _ e => e) (fun b ps e => ⟨#[], by rw [e]; simp⟩) (fun m hm => ?_) (fun b u e => ?_) I.bare
  · have e : b = it := by simpa using hb
    subst e
    exact ⟨h1, hL, h2, h3⟩
  · obtain ⟨o, es, ep, ho, r⟩ := hm
    exact ⟨o, es, ep, k _ o (Ne.symm hL) ho, r⟩
  · refine (I.hok b u e).stay (fun c v hc q => k c v ?_ q) (fun _ q => q) fun _ _ q => q
    rcases hc with z | z
    · rw [z]; exact nit b u e
    · exact nit c _ z
theorem Inv.tok (I : Inv X pins σ H s) (t : Nat) : Inv X pins σ H { s with toks := t } := I.un (h' := s.heap) (t' := t) Un.refl I.hok
/-- all objects kept -/
theorem Inv.kept {t' : Nat} (I : Inv X pins σ H s) (k : ∀ b u, s.heap.get? b = some u → h'.get? b = some u) : Inv X pins σ H { s with heap := h', toks := t' } := I.un (Un.kept k) (I.hok.kept k)
/-- a new object laid and tracked -/
theorem Inv.laid {a : Addr} {o : HO} {t' : Nat} (I : Inv X pins σ H s) (k : ∀ b u, s.heap.get? b = some u → h'.get? b = some u) (hp : s.heap.objs.size ≤ a) (new : ObjOk X.prog X.w (upd H a o) h' a o) :
    Inv X pins σ (upd H a o) { s with heap := h', toks := t' } := I.un (Un.laid k hp (I.hok.fresh hp)) (I.hok.laid k hp new)
/-- an object written -/
theorem Inv.write {x e : Addr} {o : HO} {t' : Nat} (I : Inv X pins σ H s) (mu : Mut (H x)) (he : e = x ∨ H e = some (.own x)) (k : ∀ b u, b ≠ e → s.heap.get? b = some u → h'.get? b = some u) (heo : ∃ u, h'.get? e = some u)
    (new : ObjOk X.prog X.w (upd H x o) h' x o) : Inv X pins σ (upd H x o) { s with heap := h', toks := t' } := I.un (Un.write mu he k heo) (I.hok.write mu he k heo new)
theorem Inv.pins_of {pins' : List (Addr × Obj)} (I : Inv X pins σ H s) (h : ∀ p ∈ pins', s.heap.get? p.1 = some p.2 ∧ H p.1 = none ∧ p.1 ≠ X.env.locals ∧ p.1 ∉ X.fs ∧ ∀ v, p.2.data ≠ .cell v) : Inv X pins' σ H s :=
  ⟨I.ok, I.os, I.bare, I.base, I.loc, I.cell, I.free, I.freeC, fun p hp => (List.mem_append.mp hp).elim (fun z => I.pin p (List.mem_append_left _ z)) (h p), I.hok, I.len⟩

theorem nodup_ix {N : List Str} (hN : N.Nodup) {i j : Nat} {x : Str} (a : N[i]? = some x) (b : N[j]? = some x) : i = j := by
  obtain ⟨h1, e1⟩ := List.getElem?_eq_some_iff.mp a
  obtain ⟨h2, e2⟩ := List.getElem?_eq_some_iff.mp b
  exact (List.getElem_inj hN).mp (e1.trans e2.symm)

/-- a name is stored; what changed -/
theorem store_ok2 {M : Model} {A : Around} {E : Value → Shared → Prop} {i : Nat} {x : Str} {v : V} {u : Value} {Q : Unit → Shared → Prop} (I : Inv X pins σ H s) (hN : X.N.Nodup) (hi : X.N[i]? = some x) (hx : Loc X.env.scope x) (r : RelV v u)
    (h : ∀ s', Inv X pins (σ.set i (some v)) H s' → (∃ a, Heap.SameBut a s.heap s'.heap ∧ (a = X.env.locals ∨ X.env.cells.lookup x = some a)) → Q () s') (hf : X.fn x = true ∨ X.env.scope.names.lookup x = some .local := by first | exact .inl rfl | exact .inr rfl | assumption) : wpAny M A (storeName X.env x u) Q E s := by
  obtain ⟨m, hn, hl⟩ := id I.loc
  have hcls : (X.env.scope.kind == .class || (X.env.scope.kind == .module && X.env.locals != X.env.globals)) = false := by rw [I.ok.kind]; rfl
  have hiσ : i < σ.length := by rw [I.len]; exact (List.getElem?_eq_some_iff.mp hi).1
  have cne := I.cne
  have tracked : ∀ {a : Addr} {h' : Heap}, (∃ o, s.heap.get? a = some o ∧ H a = none) → Heap.SameBut a s.heap h' → HOk X.prog X.w H h' := fun {a h'} ha hs b ob e => by
    obtain ⟨_, _, hfree⟩ := ha
    refine (I.hok b ob e).stay (fun c w' hc q => (hs.2 c ?_).trans q) (fun _ q => q) fun _ _ q => q
    rintro rfl
    rcases hc with rfl | hc
    · rw [hfree] at e; cases e
    · rw [hfree] at hc; cases hc
  rcases hx with hk | hk
  · refine wpAny_storeName_local hk hn (fun h' hn' hs => ?_) hcls
    obtain ⟨oL, _, _, hoL, _⟩ := id hn
    refine h _ ⟨I.ok, I.os, I.bare, ⟨fun b o e n hb hx => ?_, fun b o e n hb hx => ?_, I.base.free, fun b o e hx => ?_, I.base.tups, I.base.frzs, I.base.tbls⟩, ⟨_, hn', fun j y v' e1 e2 e3 => ?_⟩, fun y c e => ?_, I.free, I.freeC, fun p hp => ?_, tracked ⟨oL, hoL, I.free⟩ hs, by simpa using I.len⟩ ⟨_, hs, .inl rfl⟩
    · exact (hs.2 b (Nat.ne_of_lt (Nat.lt_of_lt_of_le (Heap.lt_size e) I.ok.above))).trans (I.base.keep b o e n hb hx)
    · obtain ⟨sl, e1⟩ := I.base.slot b o e n hb hx
      exact ⟨sl, (hs.2 b (Nat.ne_of_lt (Nat.lt_of_lt_of_le (Heap.lt_size e) I.ok.above))).trans e1⟩
    · obtain ⟨o', e1⟩ := I.base.there b o e hx
      exact ⟨o', (hs.2 b (Nat.ne_of_lt (Nat.lt_of_lt_of_le (Heap.lt_size e) I.ok.above))).trans e1⟩
    · by_cases hj : j = i
      · subst hj
        rw [hi] at e1; cases e1
        rw [List.getElem?_set_self hiσ] at e2
        cases e2
        exact ⟨u, r, .inl ⟨hk, by simp⟩⟩
      · rw [List.getElem?_set_ne (Ne.symm hj)] at e2
        obtain ⟨u', r', q⟩ := hl j y v' e1 e2 e3
        refine ⟨u', r', ?_⟩
        rcases q with ⟨k, e⟩ | ⟨k, c, e, z⟩
        · refine .inl ⟨k, ?_⟩
          have : y ≠ x := fun e => hj (nodup_ix hN e1 (e ▸ hi))
          simp [this, e]
        · exact .inr ⟨k, c, e, z.sameBut hs (cne y c e)⟩
    · obtain ⟨w', z⟩ := I.cell y c e
      exact ⟨w', z.sameBut hs (cne y c e)⟩
    · obtain ⟨e, n, ne, nf, d⟩ := I.pin p hp
      exact ⟨(hs.2 p.1 ne).trans e, n, ne, nf, d⟩
  · have hfn : X.fn x = true := by
      rcases hf with z | z
      · exact z
      · rw [z] at hk; cases hk
    obtain ⟨c, hc⟩ := I.ok.has x (.inl hk)
    obtain ⟨w', z⟩ := I.cell x c hc
    refine wpAny_storeName_cell I.ok.kind hk hc z (fun h' hc' hs => ?_)
    obtain ⟨oc, hoc, hocd⟩ := id z
    refine h { s with heap := h' } ⟨I.ok, I.os, I.bare, ⟨fun b o e n hb hx => ?_, fun b o e n hb hx => ?_, I.base.free, fun b o e hx => ?_, I.base.tups, I.base.frzs, I.base.tbls⟩, ⟨m, hn.sameBut hs (Ne.symm (cne x c hc)), fun j y v' e1 e2 e3 => ?_⟩, fun y c' e => ?_, I.free, I.freeC, fun p hp => ?_, tracked ⟨oc, hoc, I.freeC x c hc⟩ hs, by simpa using I.len⟩ ⟨c, hs, .inr hc⟩
    · exact (hs.2 b (Nat.ne_of_lt (Nat.lt_of_lt_of_le (Heap.lt_size e) (I.ok.cab x c hfn hc)))).trans (I.base.keep b o e n hb hx)
    · obtain ⟨sl, e1⟩ := I.base.slot b o e n hb hx
      exact ⟨sl, (hs.2 b (Nat.ne_of_lt (Nat.lt_of_lt_of_le (Heap.lt_size e) (I.ok.cab x c hfn hc)))).trans e1⟩
    · obtain ⟨o', e1⟩ := I.base.there b o e hx
      exact ⟨o', (hs.2 b (Nat.ne_of_lt (Nat.lt_of_lt_of_le (Heap.lt_size e) (I.ok.cab x c hfn hc)))).trans e1⟩
    · by_cases hj : j = i
      · subst hj
        rw [hi] at e1; cases e1
        rw [List.getElem?_set_self hiσ] at e2
        cases e2
        exact ⟨u, r, .inr ⟨.inl hk, c, hc, hc'⟩⟩
      · rw [List.getElem?_set_ne (Ne.symm hj)] at e2
        obtain ⟨u', r', q⟩ := hl j y v' e1 e2 e3
        refine ⟨u', r', ?_⟩
        rcases q with q | ⟨k, c', e, z'⟩
        · exact .inl q
        · refine .inr ⟨k, c', e, z'.sameBut hs ?_⟩
          rintro rfl
          exact hj (nodup_ix hN e1 (I.ok.inj _ _ _ e hc ▸ hi))
    · by_cases hcc : c' = c
      · subst hcc; exact ⟨_, hc'⟩
      · obtain ⟨w2, z2⟩ := I.cell y c' e
        exact ⟨w2, z2.sameBut hs hcc⟩
    · obtain ⟨e, n, ne, nf, d⟩ := I.pin p hp
      refine ⟨(hs.2 p.1 ?_).trans e, n, ne, nf, d⟩
      intro q
      rw [q, hoc] at e
      have q' : oc = p.2 := Option.some.inj e
      exact d w' (by rw [← q']; exact hocd)
theorem store_ok {M : Model} {A : Around} {E : Value → Shared → Prop} {i : Nat} {x : Str} {v : V} {u : Value} {Q : Unit → Shared → Prop} (I : Inv X pins σ H s) (hN : X.N.Nodup) (hi : X.N[i]? = some x) (hx : Loc X.env.scope x) (r : RelV v u)
    (h : ∀ s', Inv X pins (σ.set i (some v)) H s' → Q () s') (hf : X.fn x = true ∨ X.env.scope.names.lookup x = some .local := by first | exact .inl rfl | exact .inr rfl | assumption) : wpAny M A (storeName X.env x u) Q E s :=
  store_ok2 I hN hi hx r (fun s' I' _ => h s' I') hf
/-- behind a call or a block, the state as it is -/
theorem Inv.call' {s' : Shared} {ch : List Addr} (I : Inv X pins σ H s) (ho : s'.os = s.os) (u : Un (frs X.stack) ch H H' s.heap s'.heap) (hok : HOk X.prog X.w H' s'.heap) (hg : AllBare s'.gens)
    (hch : ∀ b ∈ ch, (b ∈ X.ex ∨ X.s₀.heap.objs.size ≤ b) ∧ b ≠ X.env.locals ∧ (∀ x c, X.env.cells.lookup x = some c → c ≠ b) ∧ ∀ p ∈ X.pn ++ pins, p.1 ≠ b) : Inv X pins σ H' s' := by
  obtain ⟨h', g', d', t', o'⟩ := s'
  have e : o' = s.os := ho
  subst e
  exact I.call (g' := g') (t' := t') (d' := d') u hok hg hch
end

/-! ### the judgements -/
/-- an exception: its class, its own dict's address (where it has one), the abstract heap behind it -/
abbrev XK := Value → Option Addr → Hp → Prop
abbrev St := List (Option V)
abbrev VK := V → Hp → Prop
/-- an expression's reading; a test's; an argument list's -/
abbrev TE := St → Hp → VK → Prop
abbrev TT := St → Hp → (Bool → Hp → Prop) → Prop
abbrev TA := St → Hp → (List V → Hp → Prop) → Prop
/-- what is wanted behind a statement -/
structure Ends where
  nx : St → Hp → Prop
  rt : VK
  bk : St → Hp → Prop := fun _ _ => False
  ct : St → Hp → Prop := fun _ _ => False
abbrev TS := Ends → St → Hp → Prop

def EP (X : Cx) (pins : List (Addr × Obj)) (σ : St) (Q : VK) (u : Value) (s' : Shared) : Prop := ∃ v H', Inv X pins σ H' s' ∧ RelV v u ∧ Q v H'
def TP (X : Cx) (pins : List (Addr × Obj)) (σ : St) (Q : Bool → Hp → Prop) (b : Bool) (s' : Shared) : Prop := ∃ H', Inv X pins σ H' s' ∧ Q b H'
def AP (X : Cx) (pins : List (Addr × Obj)) (σ : St) (Q : List V → Hp → Prop) (us : List Value) (s' : Shared) : Prop := ∃ vs H', Inv X pins σ H' s' ∧ Vals vs us ∧ Q vs H'
def SP (X : Cx) (pins : List (Addr × Obj)) (D : Ends) (f : Flow) (s' : Shared) : Prop :=
  match f with
  | .next => ∃ σ' H', Inv X pins σ' H' s' ∧ D.nx σ' H'
  | .brk => ∃ σ' H', Inv X pins σ' H' s' ∧ D.bk σ' H'
  | .cont => ∃ σ' H', Inv X pins σ' H' s' ∧ D.ct σ' H'
  | .ret u => ∃ v σ' H', Inv X pins σ' H' s' ∧ RelV v u ∧ D.rt v H'

def PE (X : Cx) (e : Expr) (t : TE) : Prop :=
  ∀ (pins : List (Addr × Obj)) (s : Shared) (σ : St) (H : Hp) (Q : VK), Inv X pins σ H s → t σ H Q → wpAny (model X.prog X.w) X.A (eval e X.env) (EP X pins σ Q) X.xe s
def PT (X : Cx) (e : Expr) (t : TT) : Prop :=
  ∀ (pins : List (Addr × Obj)) (s : Shared) (σ : St) (H : Hp) (Q : Bool → Hp → Prop), Inv X pins σ H s → t σ H Q → wpAny (model X.prog X.w) X.A (isTrue e X.env (eval e X.env)) (TP X pins σ Q) X.xe s
/-- a test whatever its 'whole' is (and, or) -/
def PW (X : Cx) (e : Expr) (t : TT) : Prop :=
  ∀ (whole : Sem Value) (pins : List (Addr × Obj)) (s : Shared) (σ : St) (H : Hp) (Q : Bool → Hp → Prop), Inv X pins σ H s → t σ H Q → wpAny (model X.prog X.w) X.A (isTrue e X.env whole) (TP X pins σ Q) X.xe s
theorem PW.pt {X : Cx} {e : Expr} {t : TT} (h : PW X e t) : PT X e t := h _
/-- an argument list (no star), from the left -/
def PA (X : Cx) (es : List Expr) (t : TA) : Prop :=
  ∀ (pos : Pos) (pins : List (Addr × Obj)) (s : Shared) (σ : St) (H : Hp) (Q : List V → Hp → Prop), Inv X pins σ H s → t σ H Q → wpAny (model X.prog X.w) X.A (spliced (backTo pos (starEach es X.env))) (AP X pins σ Q) X.xe s
def PS (X : Cx) (st : Stmt) (t : TS) : Prop :=
  ∀ (pins : List (Addr × Obj)) (s : Shared) (σ : St) (H : Hp) (D : Ends), Inv X pins σ H s → t D σ H → wpAny (model X.prog X.w) X.A (exec st X.env) (SP X pins D) X.xe s
def PSs (X : Cx) (st : List Stmt) (t : TS) : Prop :=
  ∀ (pins : List (Addr × Obj)) (s : Shared) (σ : St) (H : Hp) (D : Ends), Inv X pins σ H s → t D σ H → wpAny (model X.prog X.w) X.A (execs st X.env) (SP X pins D) X.xe s
/-- weaken the end -/
theorem thn {α : Type} {t : Sem α} {Q Q' : α → Shared → Prop} {M : Model} {A : Around} {E : Value → Shared → Prop} {s : Shared} (h : wpAny M A t Q E s) (hQ : ∀ a s, Q a s → Q' a s) : wpAny M A t Q' E s := wpAny_mono h hQ fun _ _ x => x
end L2

namespace L2
open PySem PySem.Spec PyProof.Rows
section
variable {X : Cx}

/-! ### names and constants -/
def tVar (i : Nat) : TE := fun σ H Q => ∃ v, σ[i]? = some (some v) ∧ Q v H
def tC (v : V) : TE := fun _ H Q => Q v H
theorem pe_var {i : Nat} {x : Str} {pos : Pos} (hN : X.N[i]? = some x) (hv : Vis X.env.scope x) (hd : (x == ("__debug__" : Str)) = false := by decide) (hcd : (x == ("__classdict__" : Str)) = false := by decide) : PE X (.Name x pos) (tVar i) := by
  intro pins s σ H Q I h
  obtain ⟨v, e, h⟩ := h
  obtain ⟨m, hn, hl⟩ := I.loc
  obtain ⟨u, r, l⟩ := hl i x v hN e hv
  have fin : EP X pins σ Q u s := ⟨v, H, I, r, h⟩
  rcases l with ⟨hk, hm⟩ | ⟨hk, c, hc, hcell⟩
  · exact wpAny_Name (wpAny_loadName_local I.ok.kind hk hn hm fin) hd
  · rcases hk with hk | hk
    · exact wpAny_Name (wpAny_loadName_cell I.ok.kind hk hc hcell fin) hd
    · exact wpAny_Name (wpAny_loadName_free I.ok.kind hk hc hcell fin hcd) hd
theorem pe_int {i j pos} : PE X (.Constant (.int i) j pos) (tC (.int i)) := fun _ _ _ H _ I h => wpAny_Constant_int ⟨.int i, H, I.tok _, ⟨_, rfl⟩, h⟩
theorem pe_bl {b j pos} : PE X (.Constant (.bool b) j pos) (tC (.bl b)) := fun _ _ _ H _ I h => Constant_bool ⟨.bl b, H, I, rfl, h⟩
theorem pe_non {j pos} : PE X (.Constant .none j pos) (tC .non) := fun _ _ _ H _ I h => Constant_none ⟨.non, H, I, rfl, h⟩
theorem pe_str {x j pos} : PE X (.Constant (.str x) j pos) (tC (.str x)) := fun _ _ _ H _ I h => Calls.Constant_str ⟨.str x, H, I.tok _, ⟨_, rfl⟩, h⟩

/-- a global name of the def -/
def Gl (X : Cx) (x : Str) : Prop := X.env.kindOf x = some .globalImplicit
theorem ld_glob {E : Value → Shared → Prop} {pins : List (Addr × Obj)} {s : Shared} {σ : St} {H : Hp} {x : Str} {u : Value} {pos : Pos} {Q : Value → Shared → Prop} (I : Inv X pins σ H s) (hg : Gl X x) (hm : X.mg x = some u) (h : Q u s)
    (hd : (x == ("__debug__" : Str)) = false := by decide) : wpAny (model X.prog X.w) X.A (eval (.Name x pos) X.env) Q E s :=
  Calls.Name_function_global I.ok.kind hg (Calls.loadGlobal_global (by rw [I.ok.glob]; exact I.mod.glob.keeps I.bk) hm h) hd
theorem ld_blt {E : Value → Shared → Prop} {pins : List (Addr × Obj)} {s : Shared} {σ : St} {H : Hp} {x : Str} {u : Value} {pos : Pos} {Q : Value → Shared → Prop} (I : Inv X pins σ H s) (hg : Gl X x) (hm : X.mg x = none) (hv : bootBuiltins x = some u) (h : Q u s)
    (hn : x ≠ "__name__" := by decide) (hd : (x == ("__debug__" : Str)) = false := by decide) : wpAny (model X.prog X.w) X.A (eval (.Name x pos) X.env) Q E s := by
  obtain ⟨mb, h1, h2⟩ := I.mod.blt
  exact Calls.Name_function_global I.ok.kind hg (Calls.loadGlobal_builtin (by rw [I.ok.glob]; exact I.mod.glob.keeps I.bk) hm (by rw [I.ok.blt]; exact h1.keeps I.bk) ((h2 x hn).trans hv) h) hd
/-- a module's constant, a class, a function, as a value -/
theorem pe_glob {x : Str} {v : V} {u : Value} {pos : Pos} (hg : Gl X x) (hm : X.mg x = some u) (r : RelV v u) (hd : (x == ("__debug__" : Str)) = false := by decide) : PE X (.Name x pos) (tC v) :=
  fun _ _ _ H _ I h => ld_glob I hg hm ⟨v, H, I, r, h⟩ hd
theorem pe_bltn {x : Str} {v : V} {u : Value} {pos : Pos} (hg : Gl X x) (hm : X.mg x = none) (hv : bootBuiltins x = some u) (r : RelV v u) (hn : x ≠ "__name__" := by decide) (hd : (x == ("__debug__" : Str)) = false := by decide) : PE X (.Name x pos) (tC v) :=
  fun _ _ _ H _ I h => ld_blt I hg hm hv ⟨v, H, I, r, h⟩ hn hd

/-! ### arithmetic -/
/-- two ints -/
def t2I (ta tb : TE) (k : Int → Int → Hp → Prop) : St → Hp → Prop := fun σ H => ta σ H fun x H1 => tb σ H1 fun y H2 => ∃ i j, x = .int i ∧ y = .int j ∧ k i j H2
def tAdd (ta tb : TE) : TE := fun σ H Q => t2I ta tb (fun i j H2 => Q (.int (i + j)) H2) σ H
def tSub (ta tb : TE) : TE := fun σ H Q => t2I ta tb (fun i j H2 => Q (.int (i - j)) H2) σ H
/-- the left factor below 2^64 -/
def tMul (ta tb : TE) : TE := fun σ H Q => t2I ta tb (fun i j H2 => (-(2 ^ 64) < i ∧ i < 2 ^ 64) ∧ Q (.int (i * j)) H2) σ H
variable {a b : Expr} {ta tb : TE} {pos : Pos}
/-! ### comparisons -/
def PC (X : Cx) (op : CmpOp) (a b : Expr) (t : TE) : Prop :=
  ∀ (pins : List (Addr × Obj)) (s : Shared) (σ : St) (H : Hp) (Q : VK), Inv X pins σ H s → t σ H Q →
    wpAny (model X.prog X.w) X.A (eval a X.env) (fun v s₁ => wpAny (model X.prog X.w) X.A (eval b X.env) (fun u s₂ => wpAny (model X.prog X.w) X.A (compareOp op v u) (EP X pins σ Q) X.xe s₂) X.xe s₁) X.xe s
def tCmp (p : Int → Int → Bool) (ta tb : TE) : TE := fun σ H Q => t2I ta tb (fun i j H2 => Q (.bl (p i j)) H2) σ H
abbrev tLt : TE → TE → TE := tCmp fun i j => decide (i < j)
abbrev tLe : TE → TE → TE := tCmp fun i j => decide (i ≤ j)
abbrev tGt : TE → TE → TE := tCmp fun i j => decide (j < i)
abbrev tGe : TE → TE → TE := tCmp fun i j => decide (j ≤ i)
abbrev tEqI : TE → TE → TE := tCmp fun i j => decide (i = j)
abbrev tNeI : TE → TE → TE := tCmp fun i j => !decide (i = j)
/-- is None -/
def tIsN (ta : TE) : TE := fun σ H Q => ta σ H fun x H1 => Q (.bl (decide (x = .non))) H1
def tNotN (ta : TE) : TE := fun σ H Q => ta σ H fun x H1 => Q (.bl (!decide (x = .non))) H1
/-- a comparison as a value, as a test -/
def tB (t : TE) : TT := fun σ H Q => t σ H fun x H1 => ∃ c, x = .bl c ∧ Q c H1
/-- an expression whose value is a bool, as a test -/
theorem pt_val {e : Expr} {t : TE} (h : PE X e t) (he : ∀ whole, isTrue e X.env whole = (do let v ← whole; standAt e.pos; holding [v] (truthy v)) := by intro _; rfl) : PT X e (tB t) := by
  intro pins s σ H Q I hw
  refine isTrue_plain (thn (h pins s σ H _ I hw) fun v s1 ⟨x, H1, I1, r1, q1⟩ => ?_) (he _)
  obtain ⟨d, rfl, q⟩ := q1
  cases r1
  exact wpAny_truthy_bool ⟨H1, I1, q⟩

/-! ### and, or, not -/
variable {tA tB' : TT} {rest : List Expr}
def tAnd (t u : TT) : TT := fun σ H Q => t σ H fun c H1 => if c = true then u σ H1 Q else Q false H1
def tOr (t u : TT) : TT := fun σ H Q => t σ H fun c H1 => if c = true then Q true H1 else u σ H1 Q
def tNot (t : TT) : TT := fun σ H Q => t σ H fun c H1 => Q (!c) H1
theorem pw_or1 (ha : PT X a tA) : PW X (.BoolOp .Or [a] pos) tA := by
  intro wh pins s σ H Q I h
  refine isTrue_or (thn (ha pins s σ H Q I h) fun c s1 e => ?_)
  cases c with
  | false => exact isTrue_or_nil e
  | true => exact e
theorem pw_or (ha : PT X a tA) (hb : PW X (.BoolOp .Or (b :: rest) pos) tB') : PW X (.BoolOp .Or (a :: b :: rest) pos) (tOr tA tB') := by
  intro wh pins s σ H Q I h
  refine isTrue_or (thn (ha pins s σ H _ I h) fun c s1 ⟨H1, I1, q1⟩ => ?_)
  cases c with
  | true => exact ⟨H1, I1, q1⟩
  | false => exact hb wh pins s1 σ H1 Q I1 q1
theorem pt_not (ha : PT X a tA) : PT X (.UnaryOp .Not a pos) (tNot tA) := by
  intro pins s σ H Q I h
  exact isTrue_not (ha pins s σ H (fun c H1 => Q (!c) H1) I h)
/-- .. as values (bools) -/
def tAndV (ta tb : TE) : TE := fun σ H Q => ta σ H fun x H1 => ∃ c, x = .bl c ∧ if c = true then tb σ H1 Q else Q (.bl false) H1
def tOrV (ta tb : TE) : TE := fun σ H Q => ta σ H fun x H1 => ∃ c, x = .bl c ∧ if c = true then Q (.bl true) H1 else tb σ H1 Q
def tNotV (ta : TE) : TE := fun σ H Q => ta σ H fun x H1 => ∃ c, x = .bl c ∧ Q (.bl (!c)) H1
theorem pe_one {op} {t : TE} (h : PE X a t) : PE X (.BoolOp op [a] pos) t := fun pins s σ H Q I hw => BoolOp_one (h pins s σ H Q I hw)
theorem pe_and (ha : PE X a ta) (hb : PE X (.BoolOp .And (b :: rest) pos) tb) : PE X (.BoolOp .And (a :: b :: rest) pos) (tAndV ta tb) := by
  intro pins s σ H Q I h
  refine BoolOp_and (thn (ha pins s σ H _ I h) fun v s1 ⟨x, H1, I1, r1, q1⟩ => ?_)
  obtain ⟨c, rfl, q1⟩ := q1
  cases r1
  refine wpAny_truthy_bool ?_
  cases c with
  | true => exact hb pins s1 σ H1 Q I1 q1
  | false => exact ⟨.bl false, H1, I1, rfl, q1⟩
theorem pe_not (ha : PE X a ta) : PE X (.UnaryOp .Not a pos) (tNotV ta) := by
  intro pins s σ H Q I h
  refine UnaryOp_ (thn (ha pins s σ H _ I h) fun v s1 ⟨x, H1, I1, r1, q1⟩ => ?_)
  obtain ⟨c, rfl, q1⟩ := q1
  cases r1
  exact not_of (wpAny_truthy_bool ⟨.bl (!c), H1, I1, rfl, q1⟩)
/-- a if t else b -/
def tIf (t : TT) (ta tb : TE) : TE := fun σ H Q => t σ H fun c H1 => if c = true then ta σ H1 Q else tb σ H1 Q
end
end L2

namespace L2
open PySem PySem.Spec PyProof.Rows

/-! ### a list, a tuple that is read: tracked, frozen, or an object of the module -/
def SqL (K : PySem.W.Frag) (H : Hp) (a : Addr) (xs : List V) : Prop :=
  Rd H a (.lst xs) ∨
    ∃ (o : Obj) (its : Array Value) (n : Nat), K.lookup a = some o ∧ o.cls = .type "list" ∧ o.dict = none ∧ o.data = .seq its n ∧ its.size ≤ sizeLine ∧ Vals xs its.toList
def SqT (K : PySem.W.Frag) (H : Hp) (a : Addr) (xs : List V) : Prop :=
  Rd H a (.tup xs) ∨
    ∃ (o : Obj) (its : Array Value) (n : Nat), K.lookup a = some o ∧ o.cls = .type "tuple" ∧ o.data = .seq its n ∧ its.size ≤ sizeLine ∧ Vals xs its.toList
def absV : Value → Option V
  | .none => some .non
  | .bool b => some (.bl b)
  | .int i _ => some (.int i)
  | .str x _ => some (.str x)
  | .bytes b _ => some (.byt b)
  | .float b _ => some (.flt b)
  | .ref a => some (.ref a)
  | .type n => some (.ty n)
  | _ => none
theorem RelV.abs {x : V} {u : Value} (r : RelV x u) : absV u = some x := by
  cases x with
  | non => cases r; rfl
  | bl _ => cases r; rfl
  | int _ => obtain ⟨t, rfl⟩ := r; rfl
  | str _ => obtain ⟨t, rfl⟩ := r; rfl
  | byt _ => obtain ⟨t, rfl⟩ := r; rfl
  | flt _ => obtain ⟨t, rfl⟩ := r; rfl
  | ref _ => cases r; rfl
  | ty _ => cases r; rfl
theorem RelV.inj {x y : V} {u : Value} (r : RelV x u) (q : RelV y u) : x = y := Option.some.inj (r.abs.symm.trans q.abs)
theorem Vals.inj : ∀ {xs ys : List V} {us : List Value}, Vals xs us → Vals ys us → xs = ys
  | _, _, _, .nil, .nil => rfl
  | _, _, _, .cons r t, .cons r' t' => by rw [r.inj r', Vals.inj t t']
section
variable {X : Cx} {pins : List (Addr × Obj)} {σ : St} {H : Hp} {s : Shared} {a : Addr} {xs ys : List V}
theorem SqL.of {K : PySem.W.Frag} (h : H a = some (.lst xs)) : SqL K H a xs := .inl (.inl h)
theorem SqT.of {K : PySem.W.Frag} (h : H a = some (.tup xs)) : SqT K H a xs := .inl (.inl h)
theorem Inv.list (I : Inv X pins σ H s) (h : SqL X.K H a xs) : ∃ its : List Value, Vals xs its ∧ PlainL s.heap a its.toArray ∧ xs.length ≤ sizeLine := by
  rcases h with h | ⟨o, its, n, hk, hc, hd, hs, hz, r⟩
  · obtain ⟨z, its, n, r, e⟩ := h.ok I.hok
    exact ⟨its, r, ⟨_, n, e, rfl, rfl, rfl⟩, z⟩
  · refine ⟨its.toList, r, ⟨o, n, I.kIn a o hk, hc, hd, by simpa using hs⟩, ?_⟩
    have e := r.length
    simp only [Array.length_toList] at e
    omega
theorem Inv.tuple (I : Inv X pins σ H s) (h : SqT X.K H a xs) : ∃ its : List Value, Vals xs its ∧ IsTup s.heap a its.toArray ∧ xs.length ≤ sizeLine := by
  rcases h with h | ⟨o, its, n, hk, hc, hs, hz, r⟩
  · obtain ⟨z, its, r, p⟩ := h.ok I.hok
    exact ⟨its, r, p, z⟩
  · refine ⟨its.toList, r, ⟨o, I.kIn a o hk, hc, n, by simpa using hs⟩, ?_⟩
    have e := r.length
    simp only [Array.length_toList] at e
    omega
theorem Inv.list_inj (I : Inv X pins σ H s) (h : SqL X.K H a xs) (h' : SqL X.K H a ys) : xs = ys := by
  obtain ⟨its, r, ⟨o, n, e, _, _, d⟩, _⟩ := I.list h
  obtain ⟨its', r', ⟨o', n', e', _, _, d'⟩, _⟩ := I.list h'
  rw [e] at e'; cases e'
  rw [d] at d'
  injection d' with d1 _
  have : its = its' := by simpa using congrArg Array.toList d1
  subst this
  exact r.inj r'
end

/-! ### another wish about exceptions -/
abbrev Cx.wish (X : Cx) (E : Value → Shared → Prop) : Cx := { X with xe := E }
/-- no exception leaves -/
abbrev Cx.nox (X : Cx) : Cx := X.wish fun _ _ => False
theorem Cx.Ok.wish {X : Cx} (ok : X.Ok) (E : Value → Shared → Prop) : (X.wish E).Ok :=
  ⟨ok.mod, ok.kind, ok.glob, ok.blt, ok.above, ok.inj, ok.has, ok.cab, ok.hd, ok.frames, ok.stk, ok.exf, ok.bs, ok.bsz, ok.noex, ok.exfs, ok.funs, ok.frf⟩
theorem Cx.Ok.unwish {X : Cx} {E : Value → Shared → Prop} (ok : (X.wish E).Ok) : X.Ok :=
  ⟨ok.mod, ok.kind, ok.glob, ok.blt, ok.above, ok.inj, ok.has, ok.cab, ok.hd, ok.frames, ok.stk, ok.exf, ok.bs, ok.bsz, ok.noex, ok.exfs, ok.funs, ok.frf⟩
section
variable {X : Cx} {pins : List (Addr × Obj)} {σ : St} {H : Hp} {s : Shared} {E : Value → Shared → Prop}
theorem Inv.wish (I : Inv X pins σ H s) (E : Value → Shared → Prop) : Inv (X.wish E) pins σ H s := ⟨I.ok.wish E, I.os, I.bare, I.base, I.loc, I.cell, I.free, I.freeC, I.pin, I.hok, I.len⟩
theorem Inv.unwish (I : Inv (X.wish E) pins σ H s) : Inv X pins σ H s := ⟨I.ok.unwish, I.os, I.bare, I.base, I.loc, I.cell, I.free, I.freeC, I.pin, I.hok, I.len⟩
theorem SP.unwish {D : Ends} {f : Flow} {s' : Shared} (h : SP (X.wish E) pins D f s') : SP X pins D f s' := by
  cases f with
  | next => obtain ⟨σ', H', I, q⟩ := h; exact ⟨σ', H', I.unwish, q⟩
  | brk => obtain ⟨σ', H', I, q⟩ := h; exact ⟨σ', H', I.unwish, q⟩
  | cont => obtain ⟨σ', H', I, q⟩ := h; exact ⟨σ', H', I.unwish, q⟩
  | ret u => obtain ⟨v, σ', H', I, r, q⟩ := h; exact ⟨v, σ', H', I.unwish, r, q⟩
theorem PSs.nox {st : List Stmt} {t : TS} (h : PSs X.nox st t) : PSs X st t := fun pins s σ H D I hw =>
  wpAny_mono (h pins s σ H D (I.wish _) hw) (fun _ _ q => q.unwish) fun _ _ z => False.elim z
end

/-! ### blocks and small statements -/
section
variable {X : Cx} {st : Stmt} {rest : List Stmt} {t u : TS} {e : Expr} {te : TE} {pos : Pos}
def tNext : TS := fun D σ H => D.nx σ H
def tSeq (t u : TS) : TS := fun D σ H => t { D with nx := u D } σ H
theorem pss_nil : PSs X [] tNext := fun _ _ σ H _ I h => wpAny_execs_nil ⟨σ, H, I, h⟩
theorem pss_cons (h1 : PS X st t) (h2 : PSs X rest u) : PSs X (st :: rest) (tSeq t u) := by
  intro pins s σ H D I h
  refine wpAny_execs_cons (thn (h1 pins s σ H { D with nx := u D } I h) fun f s1 q => ?_)
  cases f with
  | next =>
    obtain ⟨σ', H', I', q⟩ := q
    exact h2 pins s1 σ' H' D I' q
  | ret v => exact q
  | brk => exact q
  | cont => exact q
theorem pss_one (h1 : PS X st t) : PSs X [st] t := by
  intro pins s σ H D I h
  refine wpAny_execs_cons (thn (h1 pins s σ H D I h) fun f s1 q => ?_)
  cases f with
  | next => exact wpAny_execs_nil q
  | ret v => exact q
  | brk => exact q
  | cont => exact q
def tBreak : TS := fun D σ H => D.bk σ H
def tCont : TS := fun D σ H => D.ct σ H
/-- in a def's body nothing is shown -/
theorem Inv.quiet {pins : List (Addr × Obj)} {σ : St} {H : Hp} {s : Shared} (I : Inv X pins σ H s) : interactive X.env = false := by simp [interactive, I.ok.kind]
/-- an expression whose value is dropped -/
def tDrop (te : TE) : TS := fun D σ H => te σ H fun _ H1 => D.nx σ H1
theorem ps_expr (he : PE X e te) (hs : swapsWith e none pos.line X.env = pure false := by rfl) : PS X (.Expr e pos) (tDrop te) := by
  intro pins s σ H D I h
  exact wpAny_Expr_any (thn (he pins s σ H _ I h) fun v s1 ⟨x, H1, I1, r1, q1⟩ => ⟨σ, H1, I1, q1⟩) I.quiet hs
def tRet (te : TE) : TS := fun D σ H => te σ H D.rt
theorem ps_ret (he : PE X e te) : PS X (.Return (some e) pos) (tRet te) := by
  intro pins s σ H D I h
  exact wpAny_Return_some (thn (he pins s σ H _ I h) fun v s1 ⟨x, H1, I1, r1, q1⟩ => ⟨x, σ, H1, I1, r1, q1⟩)
def tRetN : TS := fun D _ H => D.rt .non H
def tIfS (c : TT) (t u : TS) : TS := fun D σ H => c σ H fun b H1 => if b = true then t D σ H1 else u D σ H1
theorem ps_if {c : Expr} {a b : List Stmt} {tc : TT} (hc : PT X c tc) (ha : PSs X a t) (hb : PSs X b u) : PS X (.If c a b pos) (tIfS tc t u) := by
  intro pins s σ H D I h
  refine wpAny_If (thn (hc pins s σ H _ I h) fun d s1 ⟨H1, I1, q1⟩ => ?_)
  cases d with
  | true => exact ha pins s1 σ H1 D I1 q1
  | false => exact hb pins s1 σ H1 D I1 q1
/-- code that the proof never comes to -/
def tNever : TS := fun _ _ _ => False
theorem ps_never : PS X st tNever := fun _ _ _ _ _ _ h => h.elim
end

/-! ### targets -/
abbrev TG := V → St → Hp → (St → Hp → Prop) → Prop
abbrev TGs := List V → St → Hp → (St → Hp → Prop) → Prop
def PG (X : Cx) (target : Expr) (t : TG) : Prop :=
  ∀ (pins : List (Addr × Obj)) (s : Shared) (σ : St) (H : Hp) (v : V) (u : Value) (Q : St → Hp → Prop), Inv X pins σ H s → RelV v u → t v σ H Q →
    wpAny (model X.prog X.w) X.A (assign target X.env u) (fun _ s' => ∃ σ' H', Inv X pins σ' H' s' ∧ Q σ' H') X.xe s
/-- several targets, one after another -/
def PGs (X : Cx) (ts : List Expr) (t : TGs) : Prop :=
  ∀ (pins : List (Addr × Obj)) (s : Shared) (σ : St) (H : Hp) (vs : List V) (us : List Value) (Q : St → Hp → Prop), Inv X pins σ H s → Vals vs us → t vs σ H Q →
    wpAny (model X.prog X.w) X.A (assignInOrder ((assignEach ts X.env).map (·.2)) us) (fun _ s' => ∃ σ' H', Inv X pins σ' H' s' ∧ Q σ' H') X.xe s
/-- o[i] = v, by values -/
abbrev TSet := V → V → V → Hp → (Hp → Prop) → Prop
def PSet (X : Cx) (t : TSet) : Prop :=
  ∀ (pins : List (Addr × Obj)) (s : Shared) (σ : St) (H : Hp) (o i v : V) (ov iv u : Value) (Q : Hp → Prop), Inv X pins σ H s → RelV o ov → RelV i iv → RelV v u → t o i v H Q →
    wpAny (model X.prog X.w) X.A (setItem ov iv u) (fun _ s' => ∃ H', Inv X pins σ H' s' ∧ Q H') X.xe s
/-- a op= b, by values -/
abbrev TIp := V → V → Hp → VK → Prop
def PIp (X : Cx) (op : Operator) (t : TIp) : Prop :=
  ∀ (pins : List (Addr × Obj)) (s : Shared) (σ : St) (H : Hp) (x y : V) (v u : Value) (Q : VK), Inv X pins σ H s → RelV x v → RelV y u → t x y H Q →
    wpAny (model X.prog X.w) X.A (inplaceOp op v u) (EP X pins σ Q) X.xe s
section
variable {X : Cx} {pos : Pos}
def gName (i : Nat) : TG := fun v σ H Q => Q (σ.set i (some v)) H
theorem pg_name {i : Nat} {x : Str} (hN : X.N.Nodup) (hi : X.N[i]? = some x) (hx : Loc X.env.scope x) (hf : X.fn x = true ∨ X.env.scope.names.lookup x = some .local := by first | exact .inl rfl | exact .inr rfl | assumption) : PG X (.Name x pos) (gName i) := by
  intro pins s σ H v u Q I r h
  exact wpAny_assign_Name (store_ok I hN hi hx r (fun s' I' => ⟨_, H, I', h⟩) hf)
def gNil : TGs := fun vs σ H Q => vs = [] ∧ Q σ H
def gCons (t : TG) (u : TGs) : TGs := fun vs σ H Q => ∃ v r, vs = v :: r ∧ t v σ H fun σ' H' => u r σ' H' Q
/-- (a, b, ..) = a tuple of that length -/
def gTup (K : PySem.W.Frag) (n : Nat) (t : TGs) : TG := fun v σ H Q => ∃ a xs, v = .ref a ∧ SqT K H a xs ∧ xs.length = n ∧ t xs σ H Q
/-- o[i] = .. -/
def gSub (to ti : TE) (t : TSet) : TG := fun v σ H Q => to σ H fun o H1 => ti σ H1 fun i H2 => t o i v H2 fun H3 => Q σ H3
/-- target = value -/
def tAsg (te : TE) (g : TG) : TS := fun D σ H => te σ H fun x H1 => g x σ H1 D.nx
/-- name = value -/
theorem ps_set {i : Nat} {x : Str} {e : Expr} {te : TE} {pos' : Pos} (hN : X.N.Nodup) (hi : X.N[i]? = some x) (hx : Loc X.env.scope x) (he : PE X e te) (hs : swapsWith e (some (.Name x pos')) pos.line X.env = pure false := by rfl) (hf : X.fn x = true ∨ X.env.scope.names.lookup x = some .local := by first | exact .inl rfl | exact .inr rfl | assumption) :
    PS X (.Assign [.Name x pos'] e pos) (tAsg te (gName i)) := by
  intro pins s σ H D I h
  refine wpAny_Assign_Name (thn (he pins s σ H _ I h) fun v s1 ⟨y, H1, I1, r1, q1⟩ => ?_) hs
  exact store_ok I1 hN hi hx r1 (fun s2 I2 => ⟨_, H1, I2, q1⟩) hf
/-- a, b = x, y with plain local names: stored from the right; the pair itself is not tracked (the opening rows as in PyProof/Rows/TupAssign.lean:23) -/
def tPar (i j : Nat) (ta : TA) : TS := fun D σ H => ta σ H fun vs H1 => ∃ v w, vs = [v, w] ∧ D.nx ((σ.set i (some v)).set j (some w)) H1
/-- name op= e -/
def tAug (i : Nat) (te : TE) (ti : TIp) : TS := fun D σ H => ∃ x, σ[i]? = some (some x) ∧ te σ H fun y H1 => ti x y H1 fun z H2 => D.nx (σ.set i (some z)) H2
/-- o[i] op= e -/
def tAugS (to ti te : TE) (tget : V → V → Hp → VK → Prop) (tip : TIp) (tset : TSet) : TS := fun D σ H => to σ H fun o H1 => ti σ H1 fun i H2 => tget o i H2 fun x H3 => te σ H3 fun y H4 => tip x y H4 fun z H5 => tset o i z H5 fun H6 => D.nx σ H6
/-- o[i], by values -/
def PGet (X : Cx) (t : V → V → Hp → VK → Prop) : Prop :=
  ∀ (pins : List (Addr × Obj)) (s : Shared) (σ : St) (H : Hp) (o i : V) (ov iv : Value) (Q : VK), Inv X pins σ H s → RelV o ov → RelV i iv → t o i H Q →
    wpAny (model X.prog X.w) X.A (getItem ov iv) (EP X pins σ Q) X.xe s
/-- ints -/
def ipI (f : Int → Int → Int) : TIp := fun x y H Q => ∃ i j, x = .int i ∧ y = .int j ∧ Q (.int (f i j)) H
end

/-! ### while -/
section
variable {X : Cx} {pos : Pos}
/-- the invariant W with its measure -/
def tWhile (c : TT) (tb : TS) : TS := fun D σ H => ∃ W : Nat → St → Hp → Prop, (∃ m, W m σ H) ∧ ∀ m σ H, W m σ H →
  c σ H fun b H1 => if b = true then ∃ N : St → Hp → Prop, (∀ σ' H', N σ' H' → ∃ m', m' < m ∧ W m' σ' H') ∧ tb { D with nx := N, ct := N, bk := D.nx } σ H1 else D.nx σ H1
end

/-! ### what a loop or a comprehension walks -/
/-- at turn i: it yields x (the heap may grow), or it stops -/
structure It where
  go : Nat → Hp → Prop
  yld : Nat → Hp → V → Hp → Prop
  stop : Nat → Hp → Prop
/-- the iterator's own objects may turn: they are not the frame's, not pinned, younger than the entry (or a comprehension's own) -/
def FpOk (X : Cx) (pins : List (Addr × Obj)) (H : Hp) (b : Addr) : Prop :=
  H b = none ∧ b ≠ X.env.locals ∧ b ∉ X.fs ∧ (b ∈ X.ex ∨ X.s₀.heap.objs.size ≤ b) ∧ (∀ x c, X.env.cells.lookup x = some c → c ≠ b) ∧ ∀ p ∈ X.pn ++ pins, p.1 ≠ b
theorem Inv.fpOk {X : Cx} {pins : List (Addr × Obj)} {σ : St} {H H' : Hp} {s : Shared} {b : Addr} (I : Inv X pins σ H s) (hb : s.heap.objs.size ≤ b) (hn : H' b = none) : FpOk X pins H' b := by
  refine ⟨hn, Nat.ne_of_gt (Nat.lt_of_lt_of_le I.lt hb), I.nofs hb, .inr (Nat.le_trans I.sz hb), fun x c e z => ?_, fun p hp z => ?_⟩
  · obtain ⟨v, q⟩ := I.cell x c e
    exact absurd (Nat.lt_of_lt_of_le q.lt (by rw [z]; exact hb)) (Nat.lt_irrefl _)
  · exact absurd (Nat.lt_of_lt_of_le (Heap.lt_size (I.pin p hp).1) (by rw [z]; exact hb)) (Nat.lt_irrefl _)
structure Turn (P : Program) (w : World) (K : PySem.W.Frag) (tg : Expr) (J : It) (fp : List Addr) (it : Addr) (tn : Nat → Heap → Prop) : Prop where
  mem : it ∈ fp
  obj : ∀ i h, tn i h → ∀ b ∈ fp, ∃ o, h.get? b = some o ∧ ∀ v, o.data ≠ .cell v
  keep : ∀ i h h', tn i h → (∀ b ∈ fp, ∀ o, h.get? b = some o → h'.get? b = some o) → tn i h'
  item : ∀ (X : Cx), X.prog = P → X.w = w → X.K = K → X.calm = true → ∀ (i : Nat) (pins : List (Addr × Obj)) (s : Shared) (σ : St) (H : Hp) (E : Value → Shared → Prop), Inv X pins σ H s → (∀ b ∈ fp, FpOk X pins H b) → tn i s.heap → J.go i H →
    wpAny (model P w) X.A (pyNext (.ref it)) (fun r s1 => ∃ u, r = some u ∧
      wpAny (model P w) X.A (letOwnedTupleGo tg (.ref it) u) (fun _ s2 => ∃ x H', Inv X pins σ H' s2 ∧ RelV x u ∧ J.yld i H x H' ∧ tn (i + 1) s2.heap ∧ ∀ b ∈ fp, H' b = none) E s1) E s
  done : ∀ (X : Cx), X.prog = P → X.w = w → X.K = K → X.calm = true → ∀ (i : Nat) (pins : List (Addr × Obj)) (s : Shared) (σ : St) (H : Hp) (E : Value → Shared → Prop), Inv X pins σ H s → (∀ b ∈ fp, FpOk X pins H b) → tn i s.heap → J.stop i H →
    wpAny (model P w) X.A (pyNext (.ref it)) (fun r s1 => r = none ∧ Inv X pins σ H s1) E s
  self : ∀ (A : Around) (i : Nat) (s : Shared) (Q : Value → Shared → Prop) (E : Value → Shared → Prop), tn i s.heap → Q (.ref it) s → wpAny (model P w) A (pyIter (.ref it)) Q E s
abbrev TI := St → Hp → (It → Hp → Prop) → Prop
/-- an iterator has come -/
def PIE (X : Cx) (pins : List (Addr × Obj)) (σ : St) (tg : Expr) (R : It → Hp → Prop) (itv : Value) (s2 : Shared) : Prop :=
  ∃ (it : Addr) (fp : List Addr) (tn : Nat → Heap → Prop) (J : It) (H' : Hp), itv = .ref it ∧ Inv X pins σ H' s2 ∧ Turn X.prog X.w X.K tg J fp it tn ∧ tn 0 s2.heap ∧ (∀ b ∈ fp, FpOk X pins H' b) ∧ R J H'
def PI (X : Cx) (tg iter : Expr) (wi : TI) : Prop :=
  ∀ (pins : List (Addr × Obj)) (s : Shared) (σ : St) (H : Hp) (R : It → Hp → Prop), Inv X pins σ H s → wi σ H R →
    wpAny (model X.prog X.w) X.A (eval iter X.env) (fun v s1 => wpAny (model X.prog X.w) X.A (pyIter v) (PIE X pins σ tg R) X.xe s1) X.xe s

/-- the step ahead of the store is nothing for an iterator that keeps no tuple -/
theorem go_of {M : Model} {A : Around} {E : Value → Shared → Prop} {s : Shared} {tg : Expr} {it : Addr} {u : Value} {o : Obj} {n : String} {vs : Array Value} {Q : Unit → Shared → Prop} (ho : s.heap.get? it = some o) (hc : o.cls = .type n) (hd : o.data = .fields vs)
    (hn : ["enumerate", "zip", "dict_itemiterator", "dict_reverseitemiterator", "odict_iterator", "itertools.zip_longest", "itertools.pairwise"].contains n = false) (hQ : Q () s) : wpAny M A (letOwnedTupleGo tg (.ref it) u) Q E s := by
  unfold letOwnedTupleGo
  cases tg <;> first
    | exact wpAny_pure hQ
    | (cases u <;> first
        | exact wpAny_pure hQ
        | (refine wpAny_bind (wpAny_load ho ?_)
           rw [hc, hd]
           show wpAny M A (if (["enumerate", "zip", "dict_itemiterator", "dict_reverseitemiterator", "odict_iterator", "itertools.zip_longest", "itertools.pairwise"].contains n && vs[0]? == some (rawInt _)) = true then _ else _) Q E s
           rw [if_neg (by intro h; rw [hn, Bool.false_and] at h; cases h)]
           exact wpAny_pure hQ))

/-- the list at a, as it stands at each turn (a loop may append to it) -/
def Itl (K : PySem.W.Frag) (a : Addr) : It :=
  ⟨fun i H => ∃ xs x, SqL K H a xs ∧ xs[i]? = some x, fun i H x H' => H' = H ∧ ∀ xs, SqL K H a xs → xs[i]? = some x, fun i H => ∃ xs, SqL K H a xs ∧ xs.length ≤ i⟩
def Itt (K : PySem.W.Frag) (a : Addr) : It :=
  ⟨fun i H => ∃ xs x, SqT K H a xs ∧ xs[i]? = some x, fun i H x H' => H' = H ∧ ∀ xs, SqT K H a xs → xs[i]? = some x, fun i H => ∃ xs, SqT K H a xs ∧ xs.length ≤ i⟩
/-- lo, lo + 1, .. (n of them) -/
def Itr (lo : Int) (n : Nat) : It := ⟨fun i _ => i < n, fun i H x H' => H' = H ∧ x = .int (lo + i), fun i _ => n ≤ i⟩
theorem turn_list {P : Program} {w : World} {K : PySem.W.Frag} {tg : Expr} (a it : Addr) : Turn P w K tg (Itl K a) [it] it (fun i h => h.IsListIter it a i) where
  mem := by simp
  obj := fun i h st b hb => by
    have e : b = it := by simpa using hb
    subst e
    obtain ⟨o, e, c, d⟩ := st
    exact ⟨o, e, fun v z => by rw [d] at z; cases z⟩
  keep := fun i h h' st k => st.at fun o e => k it (by simp) o e
  item := by
    intro X hP hw hK hc i pins s σ H E I hf st hg
    subst hP hw hK
    obtain ⟨xs, x, hq, hx⟩ := hg
    obtain ⟨its, rv, p, hz⟩ := I.list hq
    obtain ⟨u, hu, ru⟩ := rv.get hx
    obtain ⟨f0, f1, f2, f3, f4, f5⟩ := hf it (by simp)
    refine wpAny_pyNext_list_item st p.isList (x := u) (by simpa using hu) fun h' st' sb => ?_
    have I1 : Inv X pins σ H { s with heap := h' } := I.turned (t' := s.toks) (fun b o hb e => (sb.2 b hb).trans e) f0 f1 f3 f4 f5
    obtain ⟨o, e, c, d⟩ := id st'
    exact ⟨u, rfl, go_of (s := { s with heap := h' }) e c d (by decide) ⟨x, H, I1, ru, ⟨rfl, fun ys hy => by rw [I.list_inj hy hq]; exact hx⟩, st', fun b hb => (hf b hb).1⟩⟩
  done := by
    intro X hP hw hK hc i pins s σ H E I hf st hg
    subst hP hw hK
    obtain ⟨xs, hq, hx⟩ := hg
    obtain ⟨its, rv, p, hz⟩ := I.list hq
    obtain ⟨f0, f1, f2, f3, f4, f5⟩ := hf it (by simp)
    have hl := rv.length
    exact wpAny_pyNext_list_end (I.ok.hd hc) st p.isList (by simp; omega) fun h' eb => ⟨rfl, I.turned (t' := s.toks) (fun b o hb e => eb b o hb e) f0 f1 f3 f4 f5⟩
  self := fun _ _ _ _ _ st h => wpAny_pyIter_listiter st h
theorem turn_range {P : Program} {w : World} {K : PySem.W.Frag} {tg : Expr} (it : Addr) (lo : Int) (n : Nat) : Turn P w K tg (Itr lo n) [it] it (fun i h => IsRangeIter h it (lo + (i : Nat) * 1) ((n : Int) - (i : Nat)) 1) where
  mem := by simp
  obj := fun i h st b hb => by
    have e : b = it := by simpa using hb
    subst e
    exact ⟨_, st, fun v z => by
      have z' : Data.fields _ = Data.cell v := z
      cases z'⟩
  keep := fun i h h' st k => k it (by simp) _ st
  item := by
    intro X hP hw hK hc i pins s σ H E I hf st hg
    subst hP hw hK
    obtain ⟨f0, f1, f2, f3, f4, f5⟩ := hf it (by simp)
    have W := Walks.range (prog := X.prog) (w := X.w) (I.ok.hd hc) it lo 1 n
    refine W.item i s _ _ hg st fun v h' tk hv st' kk => ?_
    obtain ⟨t, rfl⟩ := hv
    have I1 : Inv X pins σ H { s with heap := h', toks := tk } := I.turned (fun b o hb e => kk b o (by simpa using hb) e) f0 f1 f3 f4 f5
    refine ⟨_, rfl, go_of (s := { s with heap := h', toks := tk }) (n := "range_iterator") st' rfl rfl (by decide) ⟨.int (lo + i), H, I1, ⟨t, ?_⟩, ⟨rfl, rfl⟩, st', fun b hb => (hf b hb).1⟩⟩
    rw [Int.mul_one]
  done := by
    intro X hP hw hK hc i pins s σ H E I hf st hg
    subst hP hw hK
    obtain ⟨f0, f1, f2, f3, f4, f5⟩ := hf it (by simp)
    exact wpAny_pyNext_range_end (I.ok.hd hc) st (by have : n ≤ i := hg; omega) fun h' eb => ⟨rfl, I.turned (t' := s.toks) (fun b o hb e => eb b o hb e) f0 f1 f3 f4 f5⟩
  self := fun _ _ _ _ _ st h => wpAny_pyIter_rangeiter st h
end L2

namespace L2
open PySem PySem.Spec PyProof.Rows
section
variable {X : Cx} {tg : Expr}
def iList (K : PySem.W.Frag) (tl : TE) : TI := fun σ H R => tl σ H fun x H1 => ∃ a, x = .ref a ∧ (∃ xs, SqL K H1 a xs) ∧ R (Itl K a) H1
def iTup (K : PySem.W.Frag) (tl : TE) : TI := fun σ H R => tl σ H fun x H1 => ∃ a, x = .ref a ∧ (∃ xs, SqT K H1 a xs) ∧ R (Itt K a) H1
theorem pi_list {l : Expr} {tl : TE} (hl : PE X l tl) : PI X tg l (iList X.K tl) := by
  intro pins s σ H R I h
  refine thn (hl pins s σ H _ I h) fun v s1 ⟨x, H1, I1, r1, q1⟩ => ?_
  obtain ⟨a, e, ⟨xs, hq⟩, q⟩ := q1
  subst e
  cases r1
  obtain ⟨its, rv, p, hz⟩ := I1.list hq
  refine wpAny_pyIter_list p.isList ?_
  refine ⟨s1.heap.objs.size, [s1.heap.objs.size], _, _, H1, rfl, I1.kept (t' := s1.toks) fun b o e => Heap.get?_push_of_some _ e, turn_list a _, ⟨_, Heap.get?_push_size _ rfl, rfl, rfl⟩, fun b hb => ?_, q⟩
  have e : b = s1.heap.objs.size := by simpa using hb
  subst e
  exact I1.fpOk (Nat.le_refl _) (I1.hok.fresh (Nat.le_refl _))
/-- a range object just made, walked -/
theorem range_it {pins : List (Addr × Obj)} {σ : St} {H : Hp} {s : Shared} {R : It → Hp → Prop} {E : Value → Shared → Prop} {lo hi : Int} {t u v : Tok} {tk : Nat} (I : Inv X pins σ H s) (h1 : -(2 ^ 62) ≤ lo) (h2 : lo < 2 ^ 62) (h3 : -(2 ^ 62) ≤ hi) (h4 : hi < 2 ^ 62)
    (q : R (Itr lo (hi - lo).toNat) H) : wpAny (model X.prog X.w) X.A (pyIter (.ref s.heap.objs.size)) (PIE X pins σ tg R) E { s with heap := s.heap.push { cls := .type "range", data := .fields #[.int lo t, .int hi u, .int 1 v] }, toks := tk } := by
  refine wpAny_pyIter_range (IsRange.new ..) (small_one h1 h2 h3 h4) ?_
  have I1 : Inv X pins σ H { s with heap := s.heap.push { cls := .type "range", data := .fields #[.int lo t, .int hi u, .int 1 v] }, toks := tk } := I.kept fun b o e => Heap.get?_push_of_some _ e
  refine ⟨(s.heap.push { cls := .type "range", data := .fields #[.int lo t, .int hi u, .int 1 v] }).objs.size, [(s.heap.push { cls := .type "range", data := .fields #[.int lo t, .int hi u, .int 1 v] }).objs.size], _, _, H, rfl,
    I1.kept (t' := tk) fun b o e => Heap.get?_push_of_some _ e, turn_range _ lo (hi - lo).toNat, ?_, fun b hb => ?_, q⟩
  · have e1 : lo + ((0 : Nat) : Int) * 1 = lo := by simp
    have e2 : (((hi - lo).toNat : Nat) : Int) - ((0 : Nat) : Int) = Builtin.Range.rangeSize lo hi 1 := by rw [rangeSize_one]; split <;> omega
    show IsRangeIter _ _ (lo + ((0 : Nat) : Int) * 1) ((((hi - lo).toNat : Nat) : Int) - ((0 : Nat) : Int)) 1
    rw [e1, e2]
    exact Heap.get?_push_size _ rfl
  · have e : b = (s.heap.push { cls := .type "range", data := .fields #[.int lo t, .int hi u, .int 1 v] }).objs.size := by simpa using hb
    subst e
    exact I1.fpOk (Nat.le_refl _) (I1.hok.fresh (Nat.le_refl _))
def iRng1 (ta : TA) : TI := fun σ H R => ta σ H fun vs H1 => ∃ j : Int, vs = [.int j] ∧ -(2 ^ 62) ≤ j ∧ j < 2 ^ 62 ∧ R (Itr 0 j.toNat) H1
def iRng2 (ta : TA) : TI := fun σ H R => ta σ H fun vs H1 => ∃ i j : Int, vs = [.int i, .int j] ∧ (-(2 ^ 62) ≤ i ∧ i < 2 ^ 62 ∧ -(2 ^ 62) ≤ j ∧ j < 2 ^ 62) ∧ R (Itr i (j - i).toNat) H1
theorem pi_range1 {a : Expr} {ta : TA} {p pos : Pos} (hg : Gl X "range") (hm : X.mg "range" = none) (ha : PA X [a] ta) (hs : starEach [a] X.env = [(false, eval a X.env)] := by rfl) : PI X tg (.Call (.Name "range" p) [a] [] pos) (iRng1 ta) := by
  intro pins s σ H R I h
  refine Call_ (ld_blt I hg hm boot_range (PyProof.Rows.callWith_type1 (thn (ha pos pins s σ H _ I h) fun us s1 ⟨vs, H1, I1, r1, q1⟩ => ?_) hs rfl))
  obtain ⟨j, e, q1, q2, q⟩ := q1
  subst e
  cases r1 with
  | cons r rr =>
    cases rr
    obtain ⟨t, rfl⟩ := r
    exact call_range_1 (range_it I1 (by omega) (by omega) q1 q2 (by simpa using q))
/-! ### for -/
/-- W: the invariant by the turn and a measure; N: what the body is to reach -/
def tFor (wi : TI) (g : TG) (tb : TS) : TS := fun D σ H => wi σ H fun J H1 => ∃ W : Nat → Nat → St → Hp → Prop, (∃ m, W 0 m σ H1) ∧ ∀ i m σ H, W i m σ H →
  (J.stop i H ∧ D.nx σ H) ∨ (J.go i H ∧ ∃ N : St → Hp → Prop, (∀ σ' H', N σ' H' → ∃ m', m' < m ∧ W (i + 1) m' σ' H') ∧ ∀ x H', J.yld i H x H' → g x σ H' fun σ2 H2 => tb { D with nx := N, ct := N, bk := D.nx } σ2 H2)
/-- the records at fp as they stand -/
def pinsAt (fp : List Addr) (h : Heap) : List (Addr × Obj) := fp.filterMap fun b => (h.get? b).map fun o => (b, o)
theorem mem_pinsAt {fp : List Addr} {h : Heap} {b : Addr} {o : Obj} (hb : b ∈ fp) (e : h.get? b = some o) : (b, o) ∈ pinsAt fp h := List.mem_filterMap.mpr ⟨b, hb, by rw [e]; rfl⟩
theorem of_pinsAt {fp : List Addr} {h : Heap} {p : Addr × Obj} (hp : p ∈ pinsAt fp h) : p.1 ∈ fp ∧ h.get? p.1 = some p.2 := by
  obtain ⟨b, hb, e⟩ := List.mem_filterMap.mp hp
  cases q : h.get? b with
  | none => rw [q] at e; cases e
  | some o =>
    rw [q] at e
    have e' : (b, o) = p := Option.some.inj e
    subst e'
    exact ⟨hb, q⟩
theorem Inv.pinned {pins : List (Addr × Obj)} {σ : St} {H : Hp} {s : Shared} {fp : List Addr} (I : Inv X pins σ H s) (hf : ∀ b ∈ fp, FpOk X pins H b) (ho : ∀ b ∈ fp, ∃ o, s.heap.get? b = some o ∧ ∀ v, o.data ≠ .cell v) : Inv X (pins ++ pinsAt fp s.heap) σ H s :=
  I.pins_of fun p hp => (List.mem_append.mp hp).elim (fun z => I.pin p (List.mem_append_right _ z)) fun z => by
    obtain ⟨hb, e⟩ := of_pinsAt z
    obtain ⟨f0, f1, f2, _⟩ := hf p.1 hb
    obtain ⟨o, e', d⟩ := ho p.1 hb
    rw [e] at e'; cases e'
    exact ⟨e, f0, f1, f2, d⟩
theorem Inv.unpinned {pins pl : List (Addr × Obj)} {σ : St} {H : Hp} {s : Shared} (I : Inv X (pins ++ pl) σ H s) : Inv X pins σ H s := I.pins_of fun p hp => I.pin p (List.mem_append_right _ (List.mem_append_left _ hp))
theorem ps_for {iter : Expr} {body : List Stmt} {wi : TI} {g : TG} {tb : TS} {pos : Pos} (hp : PassesOwn (model X.prog X.w) X.A X.env X.xe) (hc : X.calm = true) (hi : PI X tg iter wi) (hg : PG X tg g) (hb : PSs X body tb)
    (hs : ∀ x, foldedSetIterable iter X.env x = pure x := by intro _; rfl) : PS X (.For tg iter body [] pos) (tFor wi g tb) := by
  intro pins s σ H D I h
  refine wpAny_For (thn (hi pins s σ H _ I h) fun v s1 h1 => thn h1 fun itv s2 h2 => ?_) hs
  obtain ⟨it, fp, tn, J, H2, e, I2, T, st2, f2, W, ⟨m0, w0⟩, turn⟩ := h2
  subst e
  -- what stays true of the iterator's objects through the loop
  have stat : ∀ {H' : Hp}, (∀ b ∈ fp, H' b = none) → ∀ b ∈ fp, FpOk X pins H' b := fun hn b hb => ⟨hn b hb, (f2 b hb).2⟩
  refine codeAny_forLoop_any (fun n s' => ∃ i σ' H', Inv X pins σ' H' s' ∧ tn i s'.heap ∧ (∀ b ∈ fp, H' b = none) ∧ W i n σ' H') ?_ m0 ⟨0, σ, H2, I2, st2, fun b hb => (f2 b hb).1, w0⟩
  rintro n s3 ⟨i, σ3, H3, I3, st3, fr3, w3⟩
  rcases turn i n σ3 H3 w3 with ⟨stop, qn⟩ | ⟨go, N, hN, step⟩
  · refine wpAny_passesOwn hp (thn (T.done X rfl rfl rfl hc i pins s3 σ3 H3 X.xe I3 (stat fr3) st3 stop) fun r s4 ⟨hr, I4⟩ => ?_)
    subst hr
    exact wpAny_execs_nil ⟨σ3, H3, I4, qn⟩
  · refine wpAny_passesOwn hp (thn (T.item X rfl rfl rfl hc i pins s3 σ3 H3 X.xe I3 (stat fr3) st3 go) fun r s4 ⟨u, hr, h4⟩ => ?_)
    subst hr
    refine wpAny_passesOwn hp (thn h4 fun _ s5 ⟨x, H5, I5, r5, y5, st5, fr5⟩ => ?_)
    have I5' := I5.pinned (stat fr5) (T.obj _ _ st5)
    refine wpAny_passesOwn hp (thn (hg _ s5 σ3 H5 x u _ I5' r5 (step x H5 y5)) fun _ s6 ⟨σ6, H6, I6, q6⟩ => ?_)
    refine wpAny_passesOwn hp (thn (hb _ s6 σ6 H6 _ I6 q6) fun f s7 q7 => ?_)
    have again : ∀ {σ7 : St} {H7 : Hp}, Inv X (pins ++ pinsAt fp s5.heap) σ7 H7 s7 → N σ7 H7 → ∃ m, m < n ∧ ∃ i σ' H', Inv X pins σ' H' s7 ∧ tn i s7.heap ∧ (∀ b ∈ fp, H' b = none) ∧ W i m σ' H' := fun {σ7 H7} I7 n7 => by
      obtain ⟨m', hm, w7⟩ := hN σ7 H7 n7
      refine ⟨m', hm, i + 1, σ7, H7, I7.unpinned, T.keep _ _ _ st5 fun b hb o e => (I7.pin (b, o) (List.mem_append_right _ (List.mem_append_right _ (mem_pinsAt hb e)))).1, fun b hb => ?_, w7⟩
      obtain ⟨o, e, d⟩ := T.obj _ _ st5 b hb
      exact (I7.pin (b, o) (List.mem_append_right _ (List.mem_append_right _ (mem_pinsAt hb e)))).2.1
    cases f with
    | next => obtain ⟨σ7, H7, I7, n7⟩ := q7; exact again I7 n7
    | cont => obtain ⟨σ7, H7, I7, n7⟩ := q7; exact again I7 n7
    | brk => obtain ⟨σ7, H7, I7, q7⟩ := q7; exact ⟨σ7, H7, I7.unpinned, q7⟩
    | ret v => obtain ⟨x7, σ7, H7, I7, r7, q7⟩ := q7; exact ⟨x7, σ7, H7, I7.unpinned, r7, q7⟩
end

/-! ### the forms one uses -/
/-- over a list that the body leaves as it is -/
theorem for_list {K : PySem.W.Frag} {a : Addr} {xs : List V} {g : TG} {tb : TS} {D : Ends} {σ : St} {H : Hp} (Pv : Nat → St → Hp → Prop) (h0 : Pv 0 σ H) (hl : ∀ i σ H, i ≤ xs.length → Pv i σ H → SqL K H a xs)
    (hs : ∀ i x σ H, xs[i]? = some x → Pv i σ H → g x σ H fun σ2 H2 => tb { D with nx := Pv (i + 1), ct := Pv (i + 1), bk := D.nx } σ2 H2) (hd : ∀ σ H, Pv xs.length σ H → D.nx σ H) :
    ∃ W : Nat → Nat → St → Hp → Prop, (∃ m, W 0 m σ H) ∧ ∀ i m σ H, W i m σ H →
      ((Itl K a).stop i H ∧ D.nx σ H) ∨ ((Itl K a).go i H ∧ ∃ N : St → Hp → Prop, (∀ σ' H', N σ' H' → ∃ m', m' < m ∧ W (i + 1) m' σ' H') ∧ ∀ x H', (Itl K a).yld i H x H' → g x σ H' fun σ2 H2 => tb { D with nx := N, ct := N, bk := D.nx } σ2 H2) := by
  refine ⟨fun i m σ H => m = xs.length - i ∧ i ≤ xs.length ∧ Pv i σ H, ⟨xs.length, by simp, Nat.zero_le _, h0⟩, ?_⟩
  rintro i m σ H ⟨rfl, hi, p⟩
  have q := hl i σ H hi p
  by_cases hlt : i < xs.length
  · refine .inr ⟨⟨xs, xs[i], q, by simp [hlt]⟩, Pv (i + 1), fun σ' H' p' => ⟨xs.length - (i + 1), by omega, rfl, hlt, p'⟩, fun x H' y => ?_⟩
    obtain ⟨e, y⟩ := y
    subst e
    exact hs i x σ _ (y xs q) p
  · have e : i = xs.length := by omega
    subst e
    exact .inl ⟨⟨xs, q, Nat.le_refl _⟩, hd σ H p⟩
theorem for_range {lo : Int} {n : Nat} {g : TG} {tb : TS} {D : Ends} {σ : St} {H : Hp} (Pv : Nat → St → Hp → Prop) (h0 : Pv 0 σ H)
    (hs : ∀ i σ H, i < n → Pv i σ H → g (.int (lo + i)) σ H fun σ2 H2 => tb { D with nx := Pv (i + 1), ct := Pv (i + 1), bk := D.nx } σ2 H2) (hd : ∀ σ H, Pv n σ H → D.nx σ H) :
    ∃ W : Nat → Nat → St → Hp → Prop, (∃ m, W 0 m σ H) ∧ ∀ i m σ H, W i m σ H →
      ((Itr lo n).stop i H ∧ D.nx σ H) ∨ ((Itr lo n).go i H ∧ ∃ N : St → Hp → Prop, (∀ σ' H', N σ' H' → ∃ m', m' < m ∧ W (i + 1) m' σ' H') ∧ ∀ x H', (Itr lo n).yld i H x H' → g x σ H' fun σ2 H2 => tb { D with nx := N, ct := N, bk := D.nx } σ2 H2) := by
  refine ⟨fun i m σ H => m = n - i ∧ i ≤ n ∧ Pv i σ H, ⟨n, by simp, Nat.zero_le _, h0⟩, ?_⟩
  rintro i m σ H ⟨rfl, hi, p⟩
  by_cases hlt : i < n
  · refine .inr ⟨hlt, Pv (i + 1), fun σ' H' p' => ⟨n - (i + 1), by omega, rfl, hlt, p'⟩, fun x H' y => ?_⟩
    obtain ⟨e, y⟩ := y
    subst e y
    exact hs i σ _ hlt p
  · have e : i = n := by omega
    subst e
    exact .inl ⟨Nat.le_refl _, hd σ H p⟩
end L2

namespace L2
open PySem PySem.Spec PyProof.Rows

abbrev R2 := V → V → Hp → VK → Prop
/-- a two-place operation on values: f is binaryOp op, inplaceOp op or compareOp op -/
def OpR (X : Cx) (f : Value → Value → Sem Value) (r : R2) : Prop :=
  ∀ (pins : List (Addr × Obj)) (s : Shared) (σ : St) (H : Hp) (x y : V) (v u : Value) (Q : VK), Inv X pins σ H s → RelV x v → RelV y u → r x y H Q →
    wpAny (model X.prog X.w) X.A (f v u) (EP X pins σ Q) X.xe s
/-- a one-place operation -/
def UnR (X : Cx) (f : Value → Sem Value) (r : V → Hp → VK → Prop) : Prop :=
  ∀ (pins : List (Addr × Obj)) (s : Shared) (σ : St) (H : Hp) (x : V) (v : Value) (Q : VK), Inv X pins σ H s → RelV x v → r x H Q →
    wpAny (model X.prog X.w) X.A (f v) (EP X pins σ Q) X.xe s
/-- a call of a value that is known (a builtin, a type) with values -/
def CallR (X : Cx) (f : Value) (r : List V → Hp → VK → Prop) : Prop :=
  ∀ (pins : List (Addr × Obj)) (s : Shared) (σ : St) (H : Hp) (xs : List V) (us : List Value) (Q : VK), Inv X pins σ H s → Vals xs us → r xs H Q →
    wpAny (model X.prog X.w) X.A (call f us) (EP X pins σ Q) X.xe s
/-- a value's truth -/
def TruR (X : Cx) (r : V → Hp → (Bool → Hp → Prop) → Prop) : Prop :=
  ∀ (pins : List (Addr × Obj)) (s : Shared) (σ : St) (H : Hp) (x : V) (v : Value) (Q : Bool → Hp → Prop), Inv X pins σ H s → RelV x v → r x H Q →
    wpAny (model X.prog X.w) X.A (truthy v) (TP X pins σ Q) X.xe s

def tOp (r : R2) (ta tb : TE) : TE := fun σ H Q => ta σ H fun x H1 => tb σ H1 fun y H2 => r x y H2 Q
def tUn (r : V → Hp → VK → Prop) (ta : TE) : TE := fun σ H Q => ta σ H fun x H1 => r x H1 Q
/-- ints in, under C, and a value out -/
def rI (C : Int → Int → Prop) (g : Int → Int → V) : R2 := fun x y H Q => ∃ i j, x = .int i ∧ y = .int j ∧ C i j ∧ Q (g i j) H
def rI0 (g : Int → Int → V) : R2 := fun x y H Q => ∃ i j, x = .int i ∧ y = .int j ∧ Q (g i j) H
def rU (g : Int → V) : V → Hp → VK → Prop := fun x H Q => ∃ i, x = .int i ∧ Q (g i) H

section
variable {X : Cx} {a b c : Expr} {ta tb tc : TE} {pos : Pos}

theorem binT (ha : PE X a ta) (hb : PE X b tb) {pins : List (Addr × Obj)} {s : Shared} {σ : St} {H : Hp} {R : V → V → Hp → Prop} (I : Inv X pins σ H s)
    (h : ta σ H fun x H1 => tb σ H1 fun y H2 => R x y H2) {Q : Value → Shared → Prop} {f : Value → Value → Sem Value}
    (hf : ∀ v u s2 x y H2, Inv X pins σ H2 s2 → RelV x v → RelV y u → R x y H2 → wpAny (model X.prog X.w) X.A (f v u) Q X.xe s2) :
    wpAny (model X.prog X.w) X.A (eval a X.env) (fun v s₁ => wpAny (model X.prog X.w) X.A (eval b X.env) (fun u s₂ => wpAny (model X.prog X.w) X.A (f v u) Q X.xe s₂) X.xe s₁) X.xe s := by
  refine thn (ha pins s σ H _ I h) fun v s1 ⟨x, H1, I1, r1, q1⟩ => ?_
  refine thn (hb pins s1 σ H1 _ I1 q1) fun u s2 ⟨y, H2, I2, r2, q2⟩ => ?_
  exact hf v u s2 x y H2 I2 r1 r2 q2

theorem pe_op {op : Operator} {r : R2} (ho : OpR X (binaryOp op) r) (ha : PE X a ta) (hb : PE X b tb) : PE X (.BinOp a op b pos) (tOp r ta tb) := by
  intro pins s σ H Q I h
  exact wpAny_BinOp (binT ha hb I h fun v u s2 x y H2 I2 rx ry q => ho pins s2 σ H2 x y v u Q I2 rx ry q)
/-! ### ints -/
theorem opI {f : Value → Value → Sem Value} {C : Int → Int → Prop} {g : Int → Int → Int}
    (rule : ∀ (i j : Int) (t u : Tok) (s : Shared) (Q : Value → Shared → Prop) (E : Value → Shared → Prop), C i j → Q (.int (g i j) s.toks) { s with toks := s.toks + 1 } → wpAny (model X.prog X.w) X.A (f (.int i t) (.int j u)) Q E s) :
    OpR X f (rI C fun i j => .int (g i j)) := by
  intro pins s σ H x y v u Q I rx ry h
  obtain ⟨i, j, rfl, rfl, hc, q⟩ := h
  obtain ⟨t, rfl⟩ := rx
  obtain ⟨t', rfl⟩ := ry
  exact rule i j t t' s _ _ hc ⟨.int (g i j), H, I.tok _, ⟨_, rfl⟩, q⟩
theorem opI0 {f : Value → Value → Sem Value} {g : Int → Int → Int}
    (rule : ∀ (i j : Int) (t u : Tok) (s : Shared) (Q : Value → Shared → Prop) (E : Value → Shared → Prop), Q (.int (g i j) s.toks) { s with toks := s.toks + 1 } → wpAny (model X.prog X.w) X.A (f (.int i t) (.int j u)) Q E s) :
    OpR X f (rI0 fun i j => .int (g i j)) := by
  intro pins s σ H x y v u Q I rx ry h
  obtain ⟨i, j, rfl, rfl, q⟩ := h
  obtain ⟨t, rfl⟩ := rx
  obtain ⟨t', rfl⟩ := ry
  exact rule i j t t' s _ _ ⟨.int (g i j), H, I.tok _, ⟨_, rfl⟩, q⟩
theorem opB0 {f : Value → Value → Sem Value} {g : Int → Int → Bool}
    (rule : ∀ (i j : Int) (t u : Tok) (s : Shared) (Q : Value → Shared → Prop) (E : Value → Shared → Prop), Q (.bool (g i j)) s → wpAny (model X.prog X.w) X.A (f (.int i t) (.int j u)) Q E s) :
    OpR X f (rI0 fun i j => .bl (g i j)) := by
  intro pins s σ H x y v u Q I rx ry h
  obtain ⟨i, j, rfl, rfl, q⟩ := h
  obtain ⟨t, rfl⟩ := rx
  obtain ⟨t', rfl⟩ := ry
  exact rule i j t t' s _ _ ⟨.bl (g i j), H, I, rfl, q⟩

def CDiv (i j : Int) : Prop := 0 < j ∧ j < 1073741824
def CDivN (i j : Int) : Prop := j ≠ 0 ∧ j.natAbs < 1073741824
def CPow (i j : Int) : Prop := 0 ≤ j ∧ j ≤ 1000000 ∧ i.natAbs < 2 ^ 64
def CMul (i j : Int) : Prop := (-(2 ^ 64) < i ∧ i < 2 ^ 64) ∨ (-(2 ^ 64) < j ∧ j < 2 ^ 64)
theorem CMul.ok {i j : Int} (h : CMul i j) : IntMulOk i j := by
  rcases h with ⟨h1, h2⟩ | ⟨h1, h2⟩
  · exact .of_left (intBits_le_64 h1 h2)
  · exact .of_right (intBits_le_64 h1 h2)
theorem op_add : OpR X (binaryOp .Add) (rI0 fun i j => .int (i + j)) := opI0 fun _ _ _ _ _ _ _ q => add_int q
theorem op_mul : OpR X (binaryOp .Mult) (rI CMul fun i j => .int (i * j)) := opI fun _ _ _ _ _ _ _ hc q => mul_int q hc.ok
/-- // by a positive divisor -/
theorem op_fdiv : OpR X (binaryOp .FloorDiv) (rI CDiv fun i j => .int (i / j)) := opI fun i j _ _ _ _ _ hc q => by
  have h1 : (0 : Int) < j := hc.1
  have h2 : j < 1073741824 := hc.2
  exact floordiv_int (by omega) (by rw [Int.fdiv_eq_ediv_of_nonneg i (by omega)]; exact q) (.inl (PyProof.noPylong_small (by omega)))
/-- % by a positive divisor of any size -/
theorem op_mod : OpR X (binaryOp .Mod) (rI (fun _ j => 0 < j) fun i j => .int (i % j)) := opI fun i j _ _ _ _ _ hc q => by
  have h1 : (0 : Int) < j := hc
  exact mod_int' (by omega) (by rw [Int.fmod_eq_emod_of_nonneg i (by omega)]; exact q)
theorem op_pow : OpR X (binaryOp .Pow) (rI CPow fun i j => .int (i ^ j.toNat)) := opI fun _ _ _ _ _ _ _ hc q => pow_int_small hc.1 hc.2.1 hc.2.2 q
/-! ### bools among ints: n += (a < b) -/
end

/-! ### comparisons -/
/-- the scalars that == tells apart as data does -/
def scal : V → V → Bool
  | .non, .non => true | .non, .int _ => true | .int _, .non => true | .non, .bl _ => true | .bl _, .non => true | .non, .str _ => true | .str _, .non => true
  | .int _, .int _ => true | .bl _, .bl _ => true | .str _, .str _ => true | .byt _, .byt _ => true
  | .int _, .str _ => true | .str _, .int _ => true | .bl _, .str _ => true | .str _, .bl _ => true
  | _, _ => false
def rEq : R2 := fun x y H Q => scal x y = true ∧ Q (.bl (decide (x = y))) H
def rNe : R2 := fun x y H Q => scal x y = true ∧ Q (.bl (!decide (x = y))) H

theorem dec_int {i j : Int} : decide (V.int i = V.int j) = (i == j) := by
  rw [Bool.eq_iff_iff]
  simp
theorem dec_bl {i j : Bool} : decide (V.bl i = V.bl j) = (i == j) := by
  rw [Bool.eq_iff_iff]
  simp
theorem dec_str {i j : Str} : decide (V.str i = V.str j) = (i == j) := by
  rw [Bool.eq_iff_iff]
  simp
theorem dec_byt {i j : Array UInt8} : decide (V.byt i = V.byt j) = (i.toList == j.toList) := by
  rw [Bool.eq_iff_iff]
  cases i
  cases j
  simp

section
variable {X : Cx} {a b c : Expr} {ta tb tc : TE} {pos : Pos}
theorem fin_bl {pins : List (Addr × Obj)} {σ : St} {H : Hp} {s : Shared} {Q : VK} {k k' : Bool} (I : Inv X pins σ H s) (q : Q (.bl k) H) (e : k = k') : EP X pins σ Q (.bool k') s := by
  subst e
  exact ⟨.bl k, H, I, rfl, q⟩
theorem op_eq : OpR X (compareOp .Eq) rEq := by
  intro pins s σ H x y v u Q I rx ry h
  obtain ⟨hs, q⟩ := h
  cases x with
  | non =>
    cases rx
    cases y with
    | non => cases ry; exact PySem.EqNone.eq_none_none (fin_bl I q (by simp))
    | bl j => cases ry; exact PySem.EqNone.eq_none_bool (fin_bl I q (by simp))
    | int j => obtain ⟨t', rfl⟩ := ry; exact PySem.EqNone.eq_none_int (fin_bl I q (by simp))
    | str j => obtain ⟨t', rfl⟩ := ry; exact PySem.EqNone.eq_none_str (fin_bl I q (by simp))
    | _ => exact absurd (show false = true from hs) Bool.false_ne_true
  | bl i =>
    cases rx
    cases y with
    | non => cases ry; exact PySem.EqNone.eq_bool_none (fin_bl I q (by simp))
    | bl j => cases ry; exact eq_bool (fin_bl I q dec_bl)
    | str j => obtain ⟨t', rfl⟩ := ry; exact PySem.EqMixed.eq_bool_str (fin_bl I q (by simp))
    | _ => exact absurd (show false = true from hs) Bool.false_ne_true
  | int i =>
    obtain ⟨t, rfl⟩ := rx
    cases y with
    | non => cases ry; exact PySem.EqNone.eq_int_none (fin_bl I q (by simp))
    | int j => obtain ⟨t', rfl⟩ := ry; exact eq_int (fin_bl I q dec_int)
    | str j => obtain ⟨t', rfl⟩ := ry; exact PySem.EqMixed.eq_int_str (fin_bl I q (by simp))
    | _ => exact absurd (show false = true from hs) Bool.false_ne_true
  | str i =>
    obtain ⟨t, rfl⟩ := rx
    cases y with
    | non => cases ry; exact PySem.EqNone.eq_str_none (fin_bl I q (by simp))
    | bl j => cases ry; exact PySem.EqMixed.eq_str_bool (fin_bl I q (by simp))
    | int j => obtain ⟨t', rfl⟩ := ry; exact PySem.EqMixed.eq_str_int (fin_bl I q (by simp))
    | str j => obtain ⟨t', rfl⟩ := ry; exact eq_str (fin_bl I q dec_str)
    | _ => exact absurd (show false = true from hs) Bool.false_ne_true
  | byt i =>
    obtain ⟨t, rfl⟩ := rx
    cases y with
    | byt j => obtain ⟨t', rfl⟩ := ry; exact PySem.W.eq_bytes (fin_bl I q dec_byt)
    | _ => exact absurd (show false = true from hs) Bool.false_ne_true
  | _ => cases y <;> exact absurd (show false = true from hs) Bool.false_ne_true
theorem op_ne : OpR X (compareOp .NotEq) rNe := by
  intro pins s σ H x y v u Q I rx ry h
  obtain ⟨hs, q⟩ := h
  cases x with
  | non =>
    cases rx
    cases y with
    | non => cases ry; exact PySem.EqNone.ne_none_none (fin_bl I q (by simp))
    | bl j => cases ry; exact PySem.EqNone.ne_none_bool (fin_bl I q (by simp))
    | int j => obtain ⟨t', rfl⟩ := ry; exact PySem.EqNone.ne_none_int (fin_bl I q (by simp))
    | str j => obtain ⟨t', rfl⟩ := ry; exact PySem.EqNone.ne_none_str (fin_bl I q (by simp))
    | _ => exact absurd (show false = true from hs) Bool.false_ne_true
  | bl i =>
    cases rx
    cases y with
    | non => cases ry; exact PySem.EqNone.ne_bool_none (fin_bl I q (by simp))
    | bl j => cases ry; exact ne_bool (fin_bl I q (congrArg not dec_bl))
    | str j => obtain ⟨t', rfl⟩ := ry; exact PySem.EqMixed.ne_bool_str (fin_bl I q (by simp))
    | _ => exact absurd (show false = true from hs) Bool.false_ne_true
  | int i =>
    obtain ⟨t, rfl⟩ := rx
    cases y with
    | non => cases ry; exact PySem.EqNone.ne_int_none (fin_bl I q (by simp))
    | int j => obtain ⟨t', rfl⟩ := ry; exact ne_int (fin_bl I q (congrArg not dec_int))
    | str j => obtain ⟨t', rfl⟩ := ry; exact PySem.EqMixed.ne_int_str (fin_bl I q (by simp))
    | _ => exact absurd (show false = true from hs) Bool.false_ne_true
  | str i =>
    obtain ⟨t, rfl⟩ := rx
    cases y with
    | non => cases ry; exact PySem.EqNone.ne_str_none (fin_bl I q (by simp))
    | bl j => cases ry; exact PySem.EqMixed.ne_str_bool (fin_bl I q (by simp))
    | int j => obtain ⟨t', rfl⟩ := ry; exact PySem.EqMixed.ne_str_int (fin_bl I q (by simp))
    | str j => obtain ⟨t', rfl⟩ := ry; exact ne_str (fin_bl I q (congrArg not dec_str))
    | _ => exact absurd (show false = true from hs) Bool.false_ne_true
  | byt i =>
    obtain ⟨t, rfl⟩ := rx
    cases y with
    | byt j => obtain ⟨t', rfl⟩ := ry; exact PySem.W.ne_bytes (fin_bl I q (congrArg not dec_byt))
    | _ => exact absurd (show false = true from hs) Bool.false_ne_true
  | _ => cases y <;> exact absurd (show false = true from hs) Bool.false_ne_true

theorem op_lt : OpR X (compareOp .Lt) (rI0 fun i j => .bl (decide (i < j))) := opB0 fun _ _ _ _ _ _ _ q => lt_int q
theorem op_le : OpR X (compareOp .LtE) (rI0 fun i j => .bl (decide (i ≤ j))) := opB0 fun _ _ _ _ _ _ _ q => le_int q
/-- is None, is not None: the right side a value none -/
theorem op_isN : OpR X (compareOp .Is) (fun x y H Q => y = .non ∧ Q (.bl (decide (x = .non))) H) := by
  intro pins s σ H x y v u Q I rx ry h
  obtain ⟨rfl, q⟩ := h
  cases ry
  refine is_none_gen (fin_bl I q ?_)
  cases x <;> first
    | (cases rx; rfl)
    | (obtain ⟨t, rfl⟩ := rx; rfl)
theorem op_notin_str : OpR X (compareOp .NotIn) (fun x y H Q => ∃ i j, x = .str i ∧ y = .str j ∧ Q (.bl (!(!(Builtin.Str.occurrences j i 0 j.length 1).isEmpty))) H) := by
  intro pins s σ H x y v u Q I rx ry h
  obtain ⟨i, j, rfl, rfl, q⟩ := h
  obtain ⟨t, rfl⟩ := rx
  obtain ⟨t', rfl⟩ := ry
  exact notIn_str (fin_bl I q rfl)
/-- is, is not of two objects that are tracked lists or instances -/
def isObj : HO → Bool
  | .lst _ => true
  | .ins _ _ _ => true
  | _ => false
theorem nomark (b : Expr) {op : CmpOp} (h : op ≠ .In := by decide) (h2 : op ≠ .NotIn := by decide) : behindInMarks op b = false := by
  have e1 : (op == CmpOp.In) = false := by cases op <;> first | rfl | exact absurd rfl h
  have e2 : (op == CmpOp.NotIn) = false := by cases op <;> first | rfl | exact absurd rfl h2
  cases b <;> simp [behindInMarks, e1, e2]
/-- a comparison as a value; hm: nomark b, or (for in, not in) by with_unfolding_all rfl -/
theorem pe_cmpR {op : CmpOp} {r : R2} (ho : OpR X (compareOp op) r) (ha : PE X a ta) (hb : PE X b tb) (hm : behindInMarks op b = false) : PE X (.Compare a [op] [b] pos) (tOp r ta tb) := by
  intro pins s σ H Q I h
  exact wpAny_Compare1 (binT ha hb I h fun v u s2 x y H2 I2 rx ry q => ho pins s2 σ H2 x y v u Q I2 rx ry q) hm
/-- a reading of a value as a test -/
def tTest (t : TE) : TT := fun σ H Q => t σ H fun x H' => ∃ k, x = .bl k ∧ Q k H'
theorem pt_cmpR {op : CmpOp} {r : R2} (ho : OpR X (compareOp op) r) (ha : PE X a ta) (hb : PE X b tb) (hm : behindInMarks op b = false) : PT X (.Compare a [op] [b] pos) (tTest (tOp r ta tb)) := by
  intro pins s σ H Q I h
  refine wpAny_isTrue_Compare1 (thn (ha pins s σ H _ I h) fun v s1 ⟨x, H1, I1, r1, q1⟩ => thn (hb pins s1 σ H1 _ I1 q1) fun u s2 ⟨y, H2, I2, r2, q2⟩ =>
    thn (ho pins s2 σ H2 x y v u _ I2 r1 r2 q2) fun c s3 ⟨z, H3, I3, r3, k, e, q3⟩ => ?_) hm
  subst e
  cases r3
  exact wpAny_truthy_bool ⟨H3, I3, q3⟩
/-- a op1 b op2 c -/
def tChain (r r' : R2) (ta tb tc : TE) : TE := fun σ H Q => ta σ H fun x H1 => tb σ H1 fun y H2 => r x y H2 fun z H3 => ∃ k, z = .bl k ∧
  (if k = true then tc σ H3 fun w' H4 => r' y w' H4 Q else Q (.bl false) H3)
theorem pe_chain {op op' : CmpOp} {r r' : R2} (ho : OpR X (compareOp op) r) (ho' : OpR X (compareOp op') r') (ha : PE X a ta) (hb : PE X b tb) (hc : PE X c tc)
    (hm : lastMarks [op, op'] [b, c] = false := by with_unfolding_all rfl) : PE X (.Compare a [op, op'] [b, c] pos) (tChain r r' ta tb tc) := by
  intro pins s σ H Q I h
  refine Compare_chain (thn (ha pins s σ H _ I h) fun v s1 ⟨x, H1, I1, r1, q1⟩ => chain_link (thn (hb pins s1 σ H1 _ I1 q1) fun u s2 ⟨y, H2, I2, r2, q2⟩ =>
    thn (ho pins s2 σ H2 x y v u _ I2 r1 r2 q2) fun d s3 ⟨z, H3, I3, r3, k, e, q3⟩ => ?_)) hm
  subst e
  cases r3
  refine wpAny_truthy_bool ?_
  cases k with
  | false => exact ite_ff ⟨.bl false, H3, I3, rfl, q3⟩
  | true => exact ite_tt (chain_last (thn (hc pins s3 σ H3 _ I3 q3) fun w' s4 ⟨z', H4, I4, r4, q4⟩ => ho' pins s4 σ H4 y z' u w' Q I4 r2 r4 q4))
/-! ### truth -/
/-- a value's truth by the abstract heap -/
def TruV (K : PySem.W.Frag) (x : V) (H : Hp) (k : Bool) : Prop :=
  match x with
  | .non => k = false
  | .bl b => k = b
  | .int i => k = (i != 0)
  | .str y => y.length ≤ sizeLine ∧ k = ((y.length : Int) != 0)
  | .byt y => y.size ≤ sizeLine ∧ k = ((y.size : Int) != 0)
  | .ref p => (∃ xs, SqL K H p xs ∧ k = !xs.isEmpty) ∨ (∃ xs, SqT K H p xs ∧ k = !xs.isEmpty) ∨ ∃ kvs, H p = some (.dK kvs) ∧ k = !kvs.isEmpty
  | _ => False
theorem line63 : (sizeLine : Nat) < 2 ^ 63 := by rw [sizeLine_eq]; decide
/-! ### strs and bytes -/
theorem op_add_str : OpR X (binaryOp .Add) (fun x y H Q => ∃ i j, x = .str i ∧ y = .str j ∧ i.length + j.length ≤ sizeLine ∧ Q (.str (i ++ j)) H) := by
  intro pins s σ H x y v u Q I rx ry h
  obtain ⟨i, j, rfl, rfl, hz, q⟩ := h
  obtain ⟨t, rfl⟩ := rx
  obtain ⟨t', rfl⟩ := ry
  exact add_str (fun t' tk => ⟨.str (i ++ j), H, I.tok _, ⟨_, rfl⟩, q⟩) hz
def PlainIxT (b : Expr) : Prop := ∀ o i, subscripted b false o i = operate [o, i] (getItem o i)
/-! ### scalar builtins, by CallR -/
theorem vals1 {x : V} {us : List Value} (r : Vals [x] us) : ∃ u, us = [u] ∧ RelV x u := by
  cases r with
  | cons r1 r2 => cases r2; exact ⟨_, rfl, r1⟩
theorem vals2 {x y : V} {us : List Value} (r : Vals [x, y] us) : ∃ u w', us = [u, w'] ∧ RelV x u ∧ RelV y w' := by
  cases r with
  | cons r1 r2 =>
    cases r2 with
    | cons r3 r4 => cases r4; exact ⟨_, _, rfl, r1, r3⟩
/-- len of a str, a bytes, a list, a tuple -/
def LenV (K : PySem.W.Frag) (x : V) (H : Hp) (n : Nat) : Prop :=
  match x with
  | .str y => y.length ≤ sizeLine ∧ n = y.length
  | .byt y => y.size ≤ sizeLine ∧ n = y.size
  | .ref p => (∃ xs, SqL K H p xs ∧ n = xs.length) ∨ ∃ xs, SqT K H p xs ∧ n = xs.length
  | _ => False
end
end L2

namespace L2
open PySem PySem.Spec PyProof.Rows

/-! ### an instance, its attributes a map -/
structure ObjM (h : Heap) (x dx C : Addr) (mA : Str → Option Value) : Prop where
  obj : h.get? x = some (PySem.W.instObj C dx)
  ns : h.Ns1 dx mA
  ne : dx ≠ x

theorem lookIn_ns {h : Heap} {dx : Addr} {mA : Str → Option Value} (n : h.Ns1 dx mA) : ∃ od, h.get? dx = some od ∧ ∀ name, PySem.W.lookIn name od = some (mA name) := by
  obtain ⟨o, es, ep, ho, hd, hk, _, hm⟩ := n
  refine ⟨o, ho, fun name => ?_⟩
  have e := hm name
  unfold nsFind findBy at e
  rw [← Array.find?_toList] at e
  unfold PySem.W.lookIn
  rw [hd]
  dsimp only
  split
  · rename_i y q
    rw [q] at e
    exact congrArg some e
  · rename_i q
    rw [q] at e
    have a : es.toList.any (·.refKey) = false := by
      rw [List.any_eq_false]
      intro y hy
      obtain ⟨z, t, hkey⟩ := hk y (Array.mem_toList_iff.mp hy)
      simp [DictEntry.refKey, hkey]
    have a' : ¬ es.toList.any (·.refKey) = true := by rw [a]; exact Bool.false_ne_true
    rw [if_neg a']
    exact congrArg some e

theorem ObjM.look {h : Heap} {x dx C : Addr} {mA : Str → Option Value} (I : ObjM h x dx C mA) : ∃ od, PySem.W.InstAt h x (PySem.W.instObj C dx) C (some od) ∧ ∀ name, PySem.W.lookIn name od = some (mA name) :=
  let ⟨od, ho, hl⟩ := lookIn_ns I.ns
  ⟨od, ⟨I.obj, rfl, rfl, ho⟩, hl⟩

section
variable {prog : Program} {w : World} {A : Around} {E : Value → Shared → Prop} {s : Shared} {K : PySem.W.Frag} {x dx C f : Addr} {mA : Str → Option Value} {name : Str} {v : Value}

end

/-! ### the attributes as a list of pairs -/
def putF (f : Str) (v : V) : List (Str × V) → List (Str × V)
  | [] => [(f, v)]
  | (g, x) :: r => if g = f then (g, v) :: r else (g, x) :: putF f v r
section
variable {P : Program} {w : World} {H H' : Hp} {h h' : Heap} {a C dx : Addr} {fs fs' : List (Str × V)}
theorem ins_get (hok : HOk P w H h) (e : H a = some (.ins C dx fs)) : ∃ mA, ObjM h a dx C mA ∧ (∀ f, RelO (fs.lookup f) (mA f)) ∧ PySem.Within mA (fs.map (·.1)) ∧ fs.length ≤ 1000 ∧ H dx = some (.own a) := by
  obtain ⟨d, z, ne, ob, mA, n, r, q⟩ := (show ObjOk P w H h a (.ins C dx fs) from hok a _ e)
  exact ⟨mA, ⟨ob, n, ne⟩, r, q, z, d⟩
end

/-! ### what of the text a class must have -/
structure Cls (K : PySem.W.Frag) (C : Addr) : Prop where
  pg : PySem.W.plainGet K C Str.empty = true
  hd : PySem.W.hasDictIn K C = true
  po : PySem.W.plainOver K C = true
  sa : PySem.W.findIn K (.ref C) "__setattr__" = some (some (.builtin "object.__setattr__"))
theorem Cls.get {K : PySem.W.Frag} {C : Addr} (c : Cls K C) (f : Str) : PySem.W.plainGet K C f = true := c.pg
/-- no class of it has the name -/
def NoAttr (K : PySem.W.Frag) (C : Addr) (f : Str) : Prop := PySem.W.findIn K (.ref C) f = some none
/-- a constant of the class -/
structure Con (K : PySem.W.Frag) (C : Addr) (f : Str) (v : V) (u : Value) : Prop where
  at_ : PySem.W.findIn K (.ref C) f = some (some u)
  rel : RelV v u
  get : PySem.W.specialIn K u "__get__" = some none
  cp : PySem.W.copiedNames.contains f = false
/-- a method: a plain def of the class or of one above it -/
structure Meth (K : PySem.W.Frag) (C : Addr) (m : Str) (f : Addr) : Prop where
  at_ : PySem.W.findIn K (.ref C) m = some (some (.ref f))
  fn : PySem.W.isFn K (.ref f) = true
  kp : PySem.W.keepIn K (.ref f) = true

section
variable {X : Cx} {pins : List (Addr × Obj)} {σ : St} {H : Hp} {s : Shared} {a C dx : Addr} {fs : List (Str × V)} {f : Str} {v : V} {A : Around} {E : Value → Shared → Prop}

end

/-! ### readings and rules -/
/-- e.f, an attribute of the instance -/
def tFld (K : PySem.W.Frag) (ta : TE) (f : Str) : TE := fun σ H Q => ta σ H fun x H1 => ∃ a C dx fs v, x = .ref a ∧ H1 a = some (.ins C dx fs) ∧ Cls K C ∧ NoAttr K C f ∧ fs.lookup f = some v ∧ Q v H1
/-- e.f, a constant of the class -/
def tCon (K : PySem.W.Frag) (ta : TE) (f : Str) : TE := fun σ H Q => ta σ H fun x H1 => ∃ a C dx fs v u, x = .ref a ∧ H1 a = some (.ins C dx fs) ∧ Cls K C ∧ Con K C f v u ∧ fs.lookup f = none ∧ Q v H1
/-- e.f = value -/
def sFld (K : PySem.W.Frag) (ta tv : TE) (f : Str) : TS := fun D σ H => tv σ H fun y H1 => ta σ H1 fun x H2 => ∃ a C dx fs, x = .ref a ∧ H2 a = some (.ins C dx fs) ∧ Cls K C ∧ NoAttr K C f ∧ fs.length < 1000 ∧
  D.nx σ (upd H2 a (.ins C dx (putF f y fs)))
/-- an augmented operator on two values -/
def InOp (X : Cx) (op : Operator) (rd : V → V → Hp → VK → Prop) : Prop :=
  ∀ (pins : List (Addr × Obj)) (s : Shared) (σ : St) (H : Hp) (x y : V) (u v : Value) (Q : VK), Inv X pins σ H s → RelV x u → RelV y v → rd x y H Q → wpAny (model X.prog X.w) X.A (inplaceOp op u v) (EP X pins σ Q) X.xe s
/-- e.f op= value -/
def sFldAug (K : PySem.W.Frag) (ta tv : TE) (rd : V → V → Hp → VK → Prop) (f : Str) : TS := fun D σ H => ta σ H fun x H1 => ∃ a C dx fs v, x = .ref a ∧ H1 a = some (.ins C dx fs) ∧ Cls K C ∧ NoAttr K C f ∧ fs.lookup f = some v ∧
  tv σ H1 fun y H2 => rd v y H2 fun z H3 => ∃ dx' fs', H3 a = some (.ins C dx' fs') ∧ fs'.length < 1000 ∧ D.nx σ (upd H3 a (.ins C dx' (putF f z fs')))

section
variable {X : Cx} {o e value : Expr} {f : Str} {pos pos' tpos : Pos} {ta tv : TE}
def rAdd : V → V → Hp → VK → Prop := fun x y H Q => ∃ i j, x = .int i ∧ y = .int j ∧ Q (.int (i + j)) H
def rSub : V → V → Hp → VK → Prop := fun x y H Q => ∃ i j, x = .int i ∧ y = .int j ∧ Q (.int (i - j)) H
end

/-! ### isinstance -/
section
variable {X : Cx} {pins : List (Addr × Obj)} {σ : St} {H : Hp} {s : Shared} {A : Around} {E : Value → Shared → Prop} {Q : Value → Shared → Prop} {c : Value} {b : Bool}
/-- the type of a value, as the fragment's deciders take it; for an instance its class -/
inductive TyOf (K : PySem.W.Frag) (H : Hp) : V → Value → Prop where
  | non : TyOf K H .non (.type "NoneType")
  | bl (x : Bool) : TyOf K H (.bl x) (.type "bool")
  | int (i : Int) : TyOf K H (.int i) (.type "int")
  | str (x : Str) : TyOf K H (.str x) (.type "str")
  | flt (x : UInt64) : TyOf K H (.flt x) (.type "float")
  | lst {a : Addr} {xs : List V} (e : H a = some (.lst xs)) : TyOf K H (.ref a) (.type "list")
  | frz {a : Addr} {o : Obj} {xs : List V} (e : H a = some (.frz o (.lst xs))) : TyOf K H (.ref a) (.type "list")
  | tup {a : Addr} {xs : List V} (e : H a = some (.tup xs)) : TyOf K H (.ref a) (.type "tuple")
  | dK {a : Addr} {kvs : List (Key × V)} (e : H a = some (.dK kvs)) : TyOf K H (.ref a) (.type "dict")
  | dT {a : Addr} {kvs : List (List Key × V)} (e : H a = some (.dT kvs)) : TyOf K H (.ref a) (.type "dict")
  | ins {a C dx : Addr} {fs : List (Str × V)} (e : H a = some (.ins C dx fs)) (cl : Cls K C) (ha : PySem.W.findIn K (.ref C) "__class__" = some (some (.builtin "object.__class__")))
      (hn : PySem.W.specialIn K (.builtin "object.__class__") "__get__" = some (some (.builtin "getset_descriptor.__get__"))) (htk : PySem.W.takesIn K (.builtin "object.__class__") = some true)
      (hm : PySem.W.mroIn K C (.type "object") = some true) : TyOf K H (.ref a) (.ref C)
/-- isinstance(x, c) for one class c, a built-in or an own one: kitOne's answer -/
theorem isinst_ok {x : V} {u t : Value} (I : Inv X pins σ H s) (rx : RelV x u) (ty : TyOf X.K H x t) (e : PySem.W.kitOne X.K t c = some b) (h : ∀ tk, Q (.bool b) { s with toks := tk }) :
    wpAny (model X.prog X.w) A (call (.builtin "isinstance") [u, c]) Q E s := by
  cases ty with
  | non => cases (show u = Value.none from rx); exact PySem.W.kia_one PySem.W.kitx_none I.kIn True.intro e (fun z => nomatch z) h
  | bl y => cases (show u = Value.bool y from rx); exact PySem.W.kia_one PySem.W.kitx_bool I.kIn True.intro e (fun z => nomatch z) h
  | int i => obtain ⟨t, q⟩ := (show ∃ t, u = Value.int i t from rx); cases q; exact PySem.W.kia_one PySem.W.kitx_int I.kIn True.intro e (fun z => nomatch z) h
  | str y => obtain ⟨t, q⟩ := (show ∃ t, u = Value.str y t from rx); cases q; exact PySem.W.kia_one PySem.W.kitx_str I.kIn True.intro e (fun z => nomatch z) h
  | flt y => obtain ⟨t, q⟩ := (show ∃ t, u = Value.float y t from rx); cases q; exact PySem.W.kia_one PySem.W.kitx_float I.kIn True.intro e (fun z => nomatch z) h
  | @lst a xs ea =>
    cases (show u = Value.ref a from rx)
    obtain ⟨_, _, n, _, h1⟩ := (show ObjOk X.prog X.w H s.heap a (.lst xs) from I.hok a _ ea)
    exact PySem.W.kia_one PySem.W.kitx_list I.kIn ⟨_, h1, rfl⟩ e (fun z => nomatch z) h
  | @frz a ob xs ea =>
    cases (show u = Value.ref a from rx)
    obtain ⟨_, _, _, n, _, h1⟩ := (show ObjOk X.prog X.w H s.heap a (.frz ob (.lst xs)) from I.hok a _ ea)
    exact PySem.W.kia_one PySem.W.kitx_list I.kIn ⟨_, h1, rfl⟩ e (fun z => nomatch z) h
  | @tup a xs ea =>
    cases (show u = Value.ref a from rx)
    obtain ⟨_, _, _, p⟩ := (show ObjOk X.prog X.w H s.heap a (.tup xs) from I.hok a _ ea)
    obtain ⟨o, h1, h2, _⟩ := p
    exact PySem.W.kia_one PySem.W.kitx_tuple I.kIn ⟨o, h1, h2⟩ e (fun z => nomatch z) h
  | @dK a kvs ea =>
    cases (show u = Value.ref a from rx)
    obtain ⟨_, _, vs, _, p⟩ := (show ObjOk X.prog X.w H s.heap a (.dK kvs) from I.hok a _ ea)
    obtain ⟨o, es, ep, h1, h2, _⟩ := p
    exact PySem.W.kia_one PySem.W.kitx_dict I.kIn ⟨o, h1, h2.1⟩ e (fun z => nomatch z) h
  | @dT a kvs ea =>
    cases (show u = Value.ref a from rx)
    obtain ⟨_, _, xs, _, o, es, ep, h1, h2, _⟩ := (show ObjOk X.prog X.w H s.heap a (.dT kvs) from I.hok a _ ea)
    exact PySem.W.kia_one PySem.W.kitx_dict I.kIn ⟨o, h1, h2.1⟩ e (fun z => nomatch z) h
  | @ins a C dx fs ea cl ha hn htk hm =>
    cases (show u = Value.ref a from rx)
    obtain ⟨mA, O, _⟩ := ins_get I.hok ea
    obtain ⟨od, J, _⟩ := O.look
    exact PySem.W.kia_one (PySem.W.kitx_own (cl.get _) cl.hd ha hn htk hm) I.kIn J e (fun z => nomatch z) h
end
end L2

namespace L2
open PySem PySem.Spec PyProof.Rows

/-! ### room -/
structure Room (k : Nat) (A : Around) : Prop where
  hd : A.handled = none
  dp : A.depth + 3 * k + 5 < recursionLimit
  un : A.units + 16 * k + 200 < cLine
theorem Room.mono {j k : Nat} {A : Around} (r : Room k A) (h : j ≤ k) : Room j A := ⟨r.hd, by have := r.dp; omega, by have := r.un; omega⟩
theorem Room.deeper {k : Nat} {A : Around} (r : Room (k + 1) A) (env : Env) : Room k (A.deeper env) :=
  ⟨r.hd, by have := r.dp; show A.depth + 1 + 3 * k + 5 < _; omega, by have := r.un; show A.units + 3 + 16 * k + 200 < _; omega⟩
theorem Room.depth {k : Nat} {A : Around} (r : Room k A) : A.depth < recursionLimit := by have := r.dp; omega
theorem Room.units0 {k : Nat} {A : Around} (r : Room k A) : A.units < cLine := by have := r.un; omega

/-! ### argument lists and displays -/
def tNil : TA := fun _ H Q => Q [] H
def tCons (ta : TE) (tr : TA) : TA := fun σ H Q => ta σ H fun x H1 => tr σ H1 fun xs H2 => Q (x :: xs) H2
section
variable {X : Cx} {e : Expr} {es : List Expr} {te : TE} {t : TA} {pos : Pos}
theorem pa_nil : PA X [] tNil := fun _ _ _ _ H Q I h => Calls.spliced_nil ⟨[], H, I, .nil, h⟩
theorem pa_cons (ha : PE X e te) (hr : PA X es t) (hs : starEach (e :: es) X.env = (false, eval e X.env) :: starEach es X.env := by rfl) : PA X (e :: es) (tCons te t) := by
  intro pos pins s σ H Q I h
  rw [hs]
  show wpAny _ _ (spliced ((false, eval e X.env) :: backTo pos (starEach es X.env))) _ _ s
  refine Calls.spliced_cons (thn (ha pins s σ H _ I h) fun u s1 ⟨x, H1, I1, r1, q1⟩ => ?_)
  exact thn (hr pos pins s1 σ H1 _ I1 q1) fun us s2 ⟨xs, H2, I2, r2, q2⟩ => ⟨x :: xs, H2, I2, .cons r1 r2, q2⟩

/-- a tuple, a list of written items -/
def tTup (t : TA) : TE := fun σ H Q => t σ H fun xs H1 => xs.length ≤ sizeLine ∧ ∀ p, H1 p = none → Q (.ref p) (upd H1 p (.tup xs))
def tLst (t : TA) : TE := fun σ H Q => t σ H fun xs H1 => xs.length ≤ sizeLine ∧ ∀ p, H1 p = none → Q (.ref p) (upd H1 p (.lst xs))
theorem pe_tup {x1} (h : PA X es t) : PE X (.Tuple es x1 pos) (tTup t) := by
  intro pins s σ H Q I hq
  refine wpAny_Tuple_spliced (thn (h pos pins s σ H _ I hq) fun us s1 ⟨xs, H1, I1, r, z, q⟩ => ⟨by rw [← r.length]; exact z, ?_⟩)
  have hf : H1 s1.heap.objs.size = none := I1.hok.fresh (Nat.le_refl _)
  refine ⟨.ref s1.heap.objs.size, upd H1 s1.heap.objs.size (.tup xs), I1.laid (t' := s1.toks) (fun b u e => Heap.get?_push_of_some _ e) (Nat.le_refl _) ?_, rfl, q _ hf⟩
  exact ⟨z, us, r, ⟨_, Heap.get?_push_size _ rfl, rfl, _, rfl⟩⟩
theorem pe_lst (h : PA X es t) : PE X (.List es pos) (tLst t) := by
  intro pins s σ H Q I hq
  refine wpAny_List_spliced (thn (h pos pins s σ H _ I hq) fun us s1 ⟨xs, H1, I1, r, z, q⟩ => ⟨by rw [← r.length]; exact z, ?_⟩)
  have hf : H1 s1.heap.objs.size = none := I1.hok.fresh (Nat.le_refl _)
  refine ⟨.ref s1.heap.objs.size, upd H1 s1.heap.objs.size (.lst xs), I1.laid (t' := s1.toks) (fun b u e => Heap.get?_push_of_some _ e) (Nat.le_refl _) ?_, rfl, q _ hf⟩
  exact ⟨z, us, 0, r, Heap.get?_push_size _ rfl⟩
end

/-! ### what a def promises -/
/-- a def's promise: the bound arguments in the parameters' order, the heap, the wanted end, the wanted exception -/
abbrev Sp := List V → Hp → VK → XK → Prop
/-- how an exception lies behind a call (file 08 gives it): the callers' frames, abstract heap and state ahead of the call, the wish, the exception, the state -/
abbrev CXT := List Env → Hp → Shared → XK → Value → Shared → Prop

/-- the state at a call -/
structure Env0 (P : Program) (w : World) (K : PySem.W.Frag) (mg : Str → Option Value) (base : Heap) (A : Around) (outer : List Env) (s : Shared) (H : Hp) : Prop where
  frames : A.frames = some outer
  mod : Mod K mg base
  bs : ∀ b o, base.get? b = some o → s.heap.get? b = some o ∧ H b = none
  bsz : base.objs.size ≤ s.heap.objs.size
  funs : s.heap.FunFrames base outer
  frf : ∀ b ∈ frs outer, H b = none
  hok : HOk P w H s.heap
  bare : AllBare s.gens
/-- a call's end -/
def CE (outer : List Env) (P : Program) (w : World) (H : Hp) (s : Shared) (Q : VK) (u : Value) (s' : Shared) : Prop :=
  ∃ v H', s'.os = s.os ∧ AllBare s'.gens ∧ Un (frs outer) [] H H' s.heap s'.heap ∧ HOk P w H' s'.heap ∧ RelV v u ∧ Q v H'
def CR (CX : CXT) (outer : List Env) (P : Program) (w : World) (H : Hp) (s : Shared) (Q : VK) (E : XK) (r : Result) (s' : Shared) : Prop :=
  match r with
  | .ok (.ret u) => CE outer P w H s Q u s'
  | .ok _ => False
  | .error e => CX outer H s E e s'
structure FnOk (P : Program) (w : World) (K : PySem.W.Frag) (mg : Str → Option Value) (base : Heap) (CX : CXT) (k : Nat) (f : Addr) (fd : FuncData) (ps : List Str) (sp : Sp) : Prop where
  len : ∀ vs H Q E, sp vs H Q E → vs.length = ps.length
  run : ∀ (A : Around) (outer : List Env) (s : Shared) (H : Hp) (args : Args) (us : List Value) (vs : List V) (Q : VK) (E : XK), Room k A → Env0 P w K mg base A outer s H → BindsTo s fd args (ps.zip us) → Vals vs us → sp vs H Q E →
    codeAny (model P w) A (.call (.ref f) args) (CR CX outer P w H s Q E) s
section
variable {X : Cx} {pins : List (Addr × Obj)} {σ : St} {H : Hp} {s s' : Shared}
/-- from a body: what a callee wants -/
theorem Inv.env0 (I : Inv X pins σ H s) : Env0 X.prog X.w X.K X.mg X.base X.A X.stack s H :=
  ⟨I.ok.frames, I.ok.mod, I.bs, Nat.le_trans I.ok.bsz I.sz, I.stack, I.stkFree, I.hok, I.bare⟩
/-- behind a call -/
theorem Inv.after {Q : VK} {u : Value} (I : Inv X pins σ H s) (h : CE X.stack X.prog X.w H s Q u s') : EP X pins σ Q u s' := by
  obtain ⟨v, H', os, bare, un, hok, r, q⟩ := h
  obtain ⟨hh, g, d, t, os'⟩ := s'
  obtain rfl : os' = s.os := os
  exact ⟨v, H', I.call (h' := hh) (g' := g) (d' := d) (t' := t) (ch := []) un hok bare (fun b z => absurd z (by simp)), r, q⟩
end

/-! ### calls -/
/-- f(..): the written arguments, then the defaults dvs; E: what is wanted of an exception -/
def tCall (sp : Sp) (dvs : List V) (E : XK) (t : TA) : TE := fun σ H Q => t σ H fun vs H1 => sp (vs ++ dvs) H1 Q E
/-- o.m(..) of an instance of the class at C -/
def tMeth (C : Addr) (m : Str) (sp : Sp) (dvs : List V) (E : XK) (ta : TE) (t : TA) : TE := fun σ H Q => ta σ H fun x H1 => ∃ a dx fs, x = .ref a ∧ H1 a = some (.ins C dx fs) ∧ fs.lookup m = none ∧
  t σ H1 fun vs H2 => sp (x :: (vs ++ dvs)) H2 Q E
/-- C(..): a new instance and its dict, then __init__ -/
def tMake (C : Addr) (sp : Sp) (dvs : List V) (E : XK) (t : TA) : TE := fun σ H Q => t σ H fun vs H1 => ∀ x dx, H1 x = none → H1 dx = none → dx ≠ x →
  sp (.ref x :: (vs ++ dvs)) (upd (upd H1 dx (.own x)) x (.ins C dx [])) (fun v H2 => v = .non ∧ Q (.ref x) H2) E

/-- how the parameters are bound: us the positional arguments, kw the keywords' values by name, ds the defaults that fill up -/
def Binds (K : PySem.W.Frag) (fd : FuncData) (ps : List Str) (ds : List Value) : Prop :=
  ∀ (s : Shared) (us : List Value), K.In s.heap → (us ++ ds).length = ps.length → BindsTo s fd ⟨us, []⟩ (ps.zip (us ++ ds))
/-- every parameter is given -/
theorem Binds.all {K : PySem.W.Frag} {fd : FuncData} {ps : List Str} (h : ∀ us : List Value, us.length = ps.length → bindArgs fd ⟨us, []⟩ = pure (ps.zip us)) : Binds K fd ps [] := fun s us _ hl => by
  rw [List.append_nil] at hl ⊢
  exact .of_eq (h us hl)

/-- an exception of a callee reaches what this body wants of exceptions -/
def Passes (CX : CXT) (X : Cx) (E : XK) : Prop := ∀ (pins : List (Addr × Obj)) (σ : St) (H : Hp) (s : Shared) (e : Value) (s' : Shared), Inv X pins σ H s → CX X.stack H s E e s' → X.xe e s'

section
variable {X : Cx} {CX : CXT} {k : Nat} {f C : Addr} {fd : FuncData} {ps : List Str} {sp : Sp} {dvs : List V} {ds : List Value} {E : XK} {x m : Str} {p pos apos : Pos} {e o : Expr} {es : List Expr} {ta : TE} {t : TA}

/-- the callee runs -/
theorem run_fn {pins : List (Addr × Obj)} {σ : St} {H : Hp} {s : Shared} {Q : VK} {us : List Value} {vs : List V} (F : FnOk X.prog X.w X.K X.mg X.base CX k f fd ps sp) (hr : Room k X.A) (hb : Binds X.K fd ps ds) (hd : Vals dvs ds) (hx : Passes CX X E)
    (I : Inv X pins σ H s) (r : Vals vs us) (h : sp (vs ++ dvs) H Q E) : wpAny (model X.prog X.w) X.A (call (.ref f) us) (EP X pins σ Q) X.xe s := by
  have r2 : Vals (vs ++ dvs) (us ++ ds) := r.append hd
  have hl : (us ++ ds).length = ps.length := by rw [← r2.length]; exact F.len _ _ _ _ h
  refine wpAny_call (codeAny_mono (F.run X.A X.stack s H ⟨us, []⟩ (us ++ ds) (vs ++ dvs) Q E hr I.env0 (hb s us I.kIn hl) r2 h) fun r s' hq => ?_)
  cases r with
  | error e => exact hx pins σ H s e s' I hq
  | ok fl =>
    cases fl with
    | ret u => exact I.after hq
    | next => exact False.elim hq
    | brk => exact False.elim hq
    | cont => exact False.elim hq

theorem pe_call (F : FnOk X.prog X.w X.K X.mg X.base CX k f fd ps sp) (hr : Room k X.A) (hg : Gl X x) (hm : X.mg x = some (.ref f)) (hk : PySem.W.keepIn X.K (.ref f) = true) (hb : Binds X.K fd ps ds) (hd : Vals dvs ds) (hx : Passes CX X E)
    (ha : PA X (e :: es) t) (hdb : (x == ("__debug__" : Str)) = false := by decide) (he : starEach (e :: es) X.env = (false, eval e X.env) :: starEach es X.env := by rfl) (hpl : (backTo pos (starEach es X.env)).any (·.1) = false := by rfl) :
    PE X (.Call (.Name x p) (e :: es) [] pos) (tCall sp dvs E t) := by
  intro pins s σ H Q I h
  refine wpAny_Call_Name_kw (ld_glob I hg hm ?_ hdb)
  refine PySem.W.callWith_K (h₀ := X.base) I.ok.mod.kin hk (thn (ha pos pins s σ H _ I h) fun us s1 ⟨vs, H1, I1, r, q⟩ => ⟨I1.kIn, ?_⟩) he hpl
  exact run_fn F hr hb hd hx I1 r q
/-- what a class must have to be made -/
structure Mk (K : PySem.W.Frag) (C f : Addr) : Prop where
  makes : PySem.W.makesIn K C = true
  init : PySem.W.findIn K (.ref C) "__init__" = some (some (.ref f))
  fn : PySem.W.isFn K (.ref f) = true
  kp : PySem.W.keepIn K (.ref C) = true

end

/-! ### keywords -/
/-- the values of the keywords, from the left -/
def PK (X : Cx) (kws : List Keyword) (t : TA) : Prop :=
  ∀ (pos : Pos) (pins : List (Addr × Obj)) (s : Shared) (σ : St) (H : Hp) (Q : List V → Hp → Prop), Inv X pins σ H s → t σ H Q → wpAny (model X.prog X.w) X.A (evalAll ((backToKw pos (keywordEach kws X.env)).map (·.2))) (AP X pins σ Q) X.xe s
section
variable {X : Cx} {CX : CXT} {k : Nat} {f C : Addr} {fd : FuncData} {ps ks : List Str} {sp : Sp} {E : XK} {x m : Str} {p pos apos kpos : Pos} {e o : Expr} {es : List Expr} {kws : List Keyword} {te ta : TE} {t tk : TA} {nm : Option Str}
/-- how a call with keywords binds: g puts the positional values us and the keywords' values ws (names ks) in the parameters' order, defaults among them -/
structure KBinds (K : PySem.W.Frag) (fd : FuncData) (ps ks : List Str) (g : List Value → List Value → List Value) (gV : List V → List V → List V) : Prop where
  to : ∀ (s : Shared) (us ws : List Value), K.In s.heap → (g us ws).length = ps.length → BindsTo s fd ⟨us, ks.zip ws⟩ (ps.zip (g us ws))
  rel : ∀ {vs : List V} {us : List Value} {zs : List V} {ws : List Value}, Vals vs us → Vals zs ws → Vals (gV vs zs) (g us ws)
def tCallK (sp : Sp) (gV : List V → List V → List V) (E : XK) (t tk : TA) : TE := fun σ H Q => t σ H fun vs H1 => tk σ H1 fun zs H2 => sp (gV vs zs) H2 Q E
variable {g : List Value → List Value → List Value} {gV : List V → List V → List V}
end

/-! ### a def's body keeps its promise -/
/-- names: the parameters first -/
structure FnScope (N P : List Str) (sc : Scope) : Prop where
  kind : sc.kind = .function
  co : sc.isCoroutine = false
  gen : sc.isGenerator = false
  nd : N.Nodup
  pre : N.take P.length = P
  par : ∀ x ∈ P, sc.names.lookup x = some .local ∨ sc.names.lookup x = some .cell
  nofree : ∀ y ∈ sc.names, y.2 ≠ .free

theorem bindL_out {kindOf : Str → Option NameKind} {x : Str} : ∀ {binds : List (Str × Value)} {m : Str → Option Value}, (∀ v, (x, v) ∉ binds) → bindL kindOf binds m x = m x
  | [], _, _ => rfl
  | (n, v) :: r, m, h => by
    unfold bindL
    rw [bindL_out fun w hw => h w (List.mem_cons_of_mem _ hw)]
    split
    · have : x ≠ n := by rintro rfl; exact h v List.mem_cons_self
      simp [this]
    · rfl
theorem bindC_out {kindOf : Str → Option NameKind} {x : Str} : ∀ {binds : List (Str × Value)} {m : Str → Option Value}, (∀ v, (x, v) ∉ binds) → bindC kindOf binds m x = m x
  | [], _, _ => rfl
  | (n, v) :: r, m, h => by
    unfold bindC
    rw [bindC_out fun w hw => h w (List.mem_cons_of_mem _ hw)]
    split
    · rfl
    · have : x ≠ n := by rintro rfl; exact h v List.mem_cons_self
      simp [this]
theorem bindL_get {kindOf : Str → Option NameKind} {x : Str} {v : Value} : ∀ {P : List Str} {vs : List Value} {i : Nat} {m : Str → Option Value}, P.Nodup → P[i]? = some x → vs[i]? = some v → kindOf x = some .local →
    bindL kindOf (P.zip vs) m x = some v
  | [], _, _, _, _, h, _, _ => by simp at h
  | _ :: _, [], _, _, _, _, h, _ => by simp at h
  | p :: P, w :: vs, 0, m, nd, h1, h2, hk => by
    simp at h1 h2; subst h1; subst h2
    show bindL kindOf ((p, w) :: P.zip vs) m p = _
    unfold bindL
    rw [bindL_out fun v hv => (List.nodup_cons.mp nd).1 (List.of_mem_zip hv).1, if_pos hk]
    simp
  | p :: P, w :: vs, i + 1, m, nd, h1, h2, hk => by
    show bindL kindOf ((p, w) :: P.zip vs) m x = _
    unfold bindL
    exact bindL_get (i := i) (List.nodup_cons.mp nd).2 (by simpa using h1) (by simpa using h2) hk
theorem bindC_get {kindOf : Str → Option NameKind} {x : Str} {v : Value} : ∀ {P : List Str} {vs : List Value} {i : Nat} {m : Str → Option Value}, P.Nodup → P[i]? = some x → vs[i]? = some v → kindOf x ≠ some .local →
    bindC kindOf (P.zip vs) m x = some v
  | [], _, _, _, _, h, _, _ => by simp at h
  | _ :: _, [], _, _, _, _, h, _ => by simp at h
  | p :: P, w :: vs, 0, m, nd, h1, h2, hk => by
    simp at h1 h2; subst h1; subst h2
    show bindC kindOf ((p, w) :: P.zip vs) m p = _
    unfold bindC
    rw [bindC_out fun v hv => (List.nodup_cons.mp nd).1 (List.of_mem_zip hv).1, if_neg hk]
    simp
  | p :: P, w :: vs, i + 1, m, nd, h1, h2, hk => by
    show bindC kindOf ((p, w) :: P.zip vs) m x = _
    unfold bindC
    exact bindC_get (i := i) (List.nodup_cons.mp nd).2 (by simpa using h1) (by simpa using h2) hk

/-- the names' values at the entry -/
def start (N : List Str) (vs : List V) : St := vs.map some ++ List.replicate (N.length - vs.length) none

/-- the context of a def's body, at its entry; an exception leaves the frame, then lies as CX says -/
def cxOf (CX : CXT) (P : Program) (w : World) (K : PySem.W.Frag) (mg : Str → Option Value) (base : Heap) (N : List Str) (qual : Str) (scope : Scope) (f : Addr) (cd : Value) (A : Around) (outer : List Env) (s : Shared) (H : Hp) (E : XK) : Cx where
  prog := P
  w := w
  K := K
  mg := mg
  base := base
  A := A.deeper (envOfC qual scope s.heap.objs.size f cd)
  N := N
  s₀ := s
  H₀ := H
  env := envOfC qual scope s.heap.objs.size f cd
  outer := outer
  stack := envOfC qual scope s.heap.objs.size f cd :: outer
  ex := []
  calm := true
  fn := fun _ => true
  pn := []
  xe := fun e s' => wpAny (model P w) (A.deeper (envOfC qual scope s.heap.objs.size f cd)) (leaving (envOfC qual scope s.heap.objs.size f cd) e) (fun _ s'' => CX outer H s E e s'') (fun e' s'' => CX outer H s E e' s'') s'

theorem cell_has {sc : Scope} {n : Nat} {x : Str} (h : sc.names.lookup x = some .cell) : ∃ c, (cellsFrom n sc.names []).lookup x = some c := by
  have q := PySem.W.cellsFrom_some sc.names n [] (.inl h)
  exact Option.isSome_iff_exists.mp q

theorem inv_start {CX : CXT} {P : Program} {w : World} {K : PySem.W.Frag} {mg : Str → Option Value} {base : Heap} {N ps : List Str} {qual : Str} {scope : Scope} {f : Addr} {cd : Value} {A : Around} {outer : List Env} {s s1 : Shared} {H : Hp} {E : XK} {us : List Value} {vs : List V}
    (S : FnScope N ps scope) (hd : A.handled = none) (e0 : Env0 P w K mg base A outer s H) (hl : vs.length = ps.length) (r : Vals vs us)
    (x : InCallC s s.heap.objs.size (bindL (envOfC qual scope s.heap.objs.size f cd).kindOf (ps.zip us) fun _ => none) (cellsFrom (s.heap.objs.size + 1) scope.names []) (bindC (envOfC qual scope s.heap.objs.size f cd).kindOf (ps.zip us) fun _ => none) s1) :
    Inv (cxOf CX P w K mg base N qual scope f cd A outer s H E) [] (start N vs) H s1 := by
  have hpl : ps.length ≤ N.length := by have := congrArg List.length S.pre; rw [List.length_take] at this; omega
  obtain ⟨h1, tk, rfl, hk⟩ := x.done
  have noA : ∀ b : Addr, b ∉ (cxOf CX P w K mg base N qual scope f cd A outer s H E).ex := fun b z => absurd (show b ∈ ([] : List Addr) from z) (by simp)
  refine ⟨⟨e0.mod, S.kind, rfl, rfl, Nat.le_refl _, fun y z c h1 h2 => ?_, fun y hy => ?_, fun y c _ h => ?_, fun _ => hd, Around.frames_deeper e0.frames, .inr ⟨rfl, rfl⟩, fun b z => absurd z (noA b), e0.bs, e0.bsz, fun b _ _ => noA b, fun b z => absurd z (noA b), e0.funs, e0.frf⟩,
    rfl, e0.bare, Un.kept hk, ⟨_, x.toInCall.ns, fun i y v h1 h2 h3 => ?_⟩, fun y c h => ⟨_, x.cell y c h⟩, e0.hok.fresh (Nat.le_refl _), fun y c h => ?_, fun p hp => absurd (show p ∈ ([] : List (Addr × Obj)) from hp) (by simp), e0.hok.kept hk, ?_⟩
  · exact name_of_addr x.apart (PySem.mem_of_lookup h1) (PySem.mem_of_lookup h2)
  · have hy : scope.names.lookup y = some .cell ∨ scope.names.lookup y = some .free := hy
    rcases hy with hy | hy
    · exact cell_has hy
    · exact absurd rfl (S.nofree _ (PySem.mem_of_lookup hy))
  · exact Nat.le_of_lt (x.above y c (PySem.mem_of_lookup h))
  · have hi : i < vs.length := by
      unfold start at h2
      by_cases hi : i < vs.length
      · exact hi
      · rw [List.getElem?_append_right (by simpa using hi)] at h2
        rw [List.getElem?_replicate] at h2
        split at h2 <;> cases h2
    have ha : vs[i]? = some v := by
      unfold start at h2
      rw [List.getElem?_append_left (by simpa using hi), List.getElem?_map] at h2
      cases e : vs[i]? with
      | none => rw [e] at h2; cases h2
      | some a => rw [e] at h2; cases h2; rfl
    obtain ⟨u, hu, rv⟩ := r.get ha
    have hp : ps[i]? = some y := by
      rw [← S.pre, List.getElem?_take_of_lt (by omega)]; exact h1
    have ndP : ps.Nodup := by rw [← S.pre]; exact S.nd.sublist (List.take_sublist _ _)
    refine ⟨u, rv, ?_⟩
    rcases S.par y (List.mem_of_getElem? hp) with k | k
    · exact .inl ⟨k, bindL_get ndP hp hu k⟩
    · obtain ⟨c, e⟩ := cell_has (n := s.heap.objs.size + 1) k
      refine .inr ⟨.inl k, c, e, ?_⟩
      have q := x.cell y c e
      rw [bindC_get ndP hp hu (by show scope.names.lookup y ≠ _; rw [k]; decide)] at q
      exact q
  · exact e0.hok.fresh (Nat.le_of_lt (x.above y c (PySem.mem_of_lookup h)))
  · unfold start
    show _ = N.length
    rw [List.length_append, List.length_map, List.length_replicate]
    omega

/-- THE RULE: a def (or a method) of the text, by its body. The body's reading t is chosen for each entry; it is run at the parameters' values -/
theorem fn_of {CX : CXT} {P : Program} {w : World} {K : PySem.W.Frag} {mg : Str → Option Value} {base : Heap} {k : Nat} {f : Addr} {name qual : Str} {params : Arguments} {body : List Stmt} {scope : Scope} {dV kV doc pm cdv ct oc : Value} {an od : Option Addr}
    {osl : Array (Option Value)} {N ps : List Str} {sp : Sp} (lk : K.lookup f = some ⟨oc, od, .func (PySem.W.fnOf name qual params body scope dV kV doc pm an cdv ct), osl⟩) (hcd : PySem.W.codeIn K cdv qual = true) (S : FnScope N ps scope)
    (len : ∀ vs H Q E, sp vs H Q E → vs.length = ps.length)
    (hbody : ∀ (A : Around) (outer : List Env) (s : Shared) (H : Hp) (vs : List V) (Q : VK) (E : XK), Room k (A.deeper (envOfC qual scope s.heap.objs.size f cdv)) → sp vs H Q E →
      ∃ t, PSs (cxOf CX P w K mg base N qual scope f cdv A outer s H E) body t ∧ t { nx := fun _ H' => Q .non H', rt := Q } (start N vs) H) :
    FnOk P w K mg base CX (k + 1) f (PySem.W.fnOf name qual params body scope dV kV doc pm an cdv ct) ps sp := by
  refine ⟨len, fun A outer s H args us vs Q E hr e0 hb r hsp => ?_⟩
  have hl := len _ _ _ _ hsp
  have KX : K.In s.heap := e0.mod.kin.keeps fun b o e => (e0.bs b o e).1
  have lim : s.heap.NoLimit := e0.mod.nolimit.keeps fun b o e => (e0.bs b o e).1
  have hkind : ∀ y ∈ ps.zip us, scope.names.lookup y.1 = some .local ∨ (scope.names.lookup y.1 = some .cell ∧ ((cellsFrom (s.heap.objs.size + 1) scope.names []).lookup y.1).isSome = true) := fun ⟨n, v⟩ hy => by
    rcases S.par n (List.of_mem_zip hy).1 with q | q
    · exact .inl q
    · exact .inr ⟨q, PySem.W.cellsFrom_some _ _ _ (.inl q)⟩
  refine codeAny_call_function hr.depth (KX _ _ lk) rfl S.co S.gen rfl (PySem.W.codeRec_of KX hcd) (hb _ _ _ _ ?_)
  refine wpAny_newFunctionEnv_cells S.kind hkind fun env he s1 x => ?_
  subst he
  refine ⟨lim.keeps x.toInCall.keep, codeAny_func ?_⟩
  obtain ⟨t, ht, hq⟩ := hbody A outer s H vs Q E (hr.deeper _) hsp
  have I : Inv (cxOf CX P w K mg base N qual scope f cdv A outer s H E) [] (start N vs) H s1 := inv_start S hr.hd e0 hl r x
  refine wpAny_mono (ht [] s1 (start N vs) H _ I hq) (fun fl s' hs => ?_) fun e s' hs => hs
  have fin : ∀ {σ' : St} {H' : Hp} {v : V} {u : Value}, Inv (cxOf CX P w K mg base N qual scope f cdv A outer s H E) [] σ' H' s' → RelV v u → Q v H' → CE outer P w H s Q u s' :=
    fun {σ' H' v u} J rv q => ⟨v, H', J.os, J.bare, J.base, J.hok, rv, q⟩
  cases fl with
  | ret u =>
    obtain ⟨v, σ', H', J, rv, q⟩ := hs
    exact fin J rv q
  | next =>
    obtain ⟨σ', H', J, q⟩ := hs
    exact fin (v := V.non) (u := Value.none) J rfl q
  | brk =>
    obtain ⟨_, _, _, q⟩ := hs
    exact False.elim q
  | cont =>
    obtain ⟨_, _, _, q⟩ := hs
    exact False.elim q
end L2

namespace L2
open PySem PySem.Spec PyProof.Rows
section
variable {X : Cx} {x : Str} {p pos : Pos} {e : Expr} {es : List Expr} {t : TA} {id T : String} {r : List V → Hp → VK → Prop}

def tCB (r : List V → Hp → VK → Prop) (t : TA) : TE := fun σ H Q => t σ H fun vs H1 => r vs H1 Q
/-- f(e, ..), f a built-in function -/
theorem pe_callB (hc : CallR X (.builtin id) r) (hg : Gl X x) (hm : X.mg x = none) (hv : bootBuiltins x = some (.builtin id)) (ha : PA X (e :: es) t) (hn : x ≠ "__name__" := by decide) (hdb : (x == ("__debug__" : Str)) = false := by decide)
    (he : starEach (e :: es) X.env = (false, eval e X.env) :: starEach es X.env := by rfl) (hpl : (backTo pos (starEach es X.env)).any (·.1) = false := by rfl) : PE X (.Call (.Name x p) (e :: es) [] pos) (tCB r t) := by
  intro pins s σ H Q I h
  refine wpAny_Call_Name_kw (ld_blt I hg hm hv ?_ hn hdb)
  exact PyProof.Rows.callWith_builtin1 (thn (ha pos pins s σ H _ I h) fun us s1 ⟨vs, H1, I1, r1, q1⟩ => hc pins s1 σ H1 vs us Q I1 r1 q1) he hpl
/-- T(e, ..), T a built-in type -/
theorem pe_callTy (hc : CallR X (.type T) r) (hg : Gl X x) (hm : X.mg x = none) (hv : bootBuiltins x = some (.type T)) (ha : PA X (e :: es) t) (hn : x ≠ "__name__" := by decide) (hdb : (x == ("__debug__" : Str)) = false := by decide)
    (he : starEach (e :: es) X.env = (false, eval e X.env) :: starEach es X.env := by rfl) (hpl : (backTo pos (starEach es X.env)).any (·.1) = false := by rfl) : PE X (.Call (.Name x p) (e :: es) [] pos) (tCB r t) := by
  intro pins s σ H Q I h
  refine wpAny_Call_Name_kw (ld_blt I hg hm hv ?_ hn hdb)
  exact PyProof.Rows.callWith_type1 (thn (ha pos pins s σ H _ I h) fun us s1 ⟨vs, H1, I1, r1, q1⟩ => hc pins s1 σ H1 vs us Q I1 r1 q1) he hpl
end
end L2

namespace HT
open PySem PyProof.Rows

/-- t < u of tuples of ints -/
def lexLt : List Int → List Int → Bool
  | [], [] => false
  | [], _ :: _ => true
  | _ :: _, [] => false
  | x :: xs, y :: ys => if x = y then lexLt xs ys else decide (x < y)
section
open PySem.SeqAt
open PySem.AutoSeq1 (wpAny_loadPart')
open PySem.MeetsSeq PySem.MeetsSeq2 PySem.MeetsSeq3

end

section
variable {prog : Program} {w : World} {A : Around} {E : Value → Shared → Prop} {s : Shared}

/-! ### t[a:b], not the whole -/
/-- a slice's bound as a place among n (d where it is left out) -/
def sIx (n d : Nat) : Option Int → Nat
  | none => d
  | some v => if v < 0 then (v + (n : Int)).toNat else min v.toNat n
end
end HT

namespace L2
open PySem PySem.Spec PyProof.Rows

/-! ### the parts of a slice -/
abbrev TO := St → Hp → (Option Int → Hp → Prop) → Prop
/-- a slice's part (left out, or an int) -/
def PO (X : Cx) (e : Option Expr) (t : TO) : Prop :=
  ∀ (pins : List (Addr × Obj)) (s : Shared) (σ : St) (H : Hp) (Q : Option Int → Hp → Prop), Inv X pins σ H s → t σ H Q →
    wpAny (model X.prog X.w) X.A (evalPart e X.env) (fun u s' => ∃ o H', Inv X pins σ H' s' ∧ IsPart u o ∧ Q o H') X.xe s
def tNoPart : TO := fun _ H Q => Q none H
def tPart (t : TE) : TO := fun σ H Q => t σ H fun x H1 => ∃ i, x = .int i ∧ Q (some i) H1

section
variable {X : Cx} {e : Expr} {te : TE} {lo hi : Option Expr} {tl th : TO} {pos p2 : Pos}

theorem po_none : PO X none tNoPart := by
  intro pins s σ H Q I h
  rw [evalPart_none]
  exact wpAny_pure ⟨none, H, I, .none, h⟩
theorem po_some (h : PE X e te) : PO X (some e) (tPart te) := by
  intro pins s σ H Q I hw
  rw [evalPart_some]
  refine thn (h pins s σ H _ I hw) fun u s1 ⟨x, H1, I1, r1, q1⟩ => ?_
  obtain ⟨i, rfl, q⟩ := q1
  obtain ⟨t, rfl⟩ := r1
  exact ⟨some i, H1, I1, .int i t, q⟩

/-- what a slice of a value is, by values: the slice object stands at sl -/
def SlR (X : Cx) (r : V → Option Int → Option Int → Hp → VK → Prop) : Prop :=
  ∀ (pins : List (Addr × Obj)) (s : Shared) (σ : St) (H : Hp) (x : V) (v vl vu : Value) (lo hi : Option Int) (sl : Addr) (Q : VK), Inv X pins σ H s → RelV x v → s.heap.IsSliceOf sl vl vu .none → IsPart vl lo → IsPart vu hi → r x lo hi H Q →
    ∃ T id, typeLookup (.type T) "__getitem__" = pure (some (.builtin id)) ∧ s.TypeIs v T ∧ wpAny (model X.prog X.w) X.A (getItem v (.ref sl)) (EP X pins σ Q) X.xe s
def tSl (r : V → Option Int → Option Int → Hp → VK → Prop) (te : TE) (tl th : TO) : TE := fun σ H Q => te σ H fun x H1 => tl σ H1 fun l H2 => th σ H2 fun u H3 => r x l u H3 Q
/-- a[lo:hi], any a -/
theorem pe_slice {r : V → Option Int → Option Int → Hp → VK → Prop} (hr : SlR X r) (he : PE X e te) (hl : PO X lo tl) (hu : PO X hi th) : PE X (.Subscript e (.Slice lo hi none p2) pos) (tSl r te tl th) := by
  intro pins s σ H Q I h
  refine Subscript_ (thn (he pins s σ H _ I h) fun v s1 ⟨x, H1, I1, r1, q1⟩ => ?_)
  refine wpAny_Slice (thn (hl pins s1 σ H1 _ I1 q1) fun vl s2 ⟨l, H2, I2, pl, q2⟩ => thn (hu pins s2 σ H2 _ I2 q2) fun vu s3 ⟨u, H3, I3, pu, q3⟩ => ?_)
  rw [evalPart_none]
  refine wpAny_pure ?_
  have I4 : Inv X pins σ H3 { s3 with heap := s3.heap.push { cls := .type "slice", data := .fields #[vl, vu, .none] } } := I3.kept (t' := s3.toks) fun b ob q => Heap.get?_push_of_some _ q
  obtain ⟨T, id, hT, ht, hg⟩ := hr pins { s3 with heap := s3.heap.push { cls := .type "slice", data := .fields #[vl, vu, .none] } } σ H3 x v vl vu l u s3.heap.objs.size Q I4 r1 (Heap.IsSliceOf.new ..) pl pu q3
  show wpAny (model X.prog X.w) X.A (subscriptTail e (.Slice lo hi none p2) v (.ref s3.heap.objs.size)) (EP X pins σ Q) X.xe { s3 with heap := s3.heap.push { cls := .type "slice", data := .fields #[vl, vu, .none] } }
  exact tail_any (ops := [.ref s3.heap.objs.size, v]) ht hT hg (by with_unfolding_all rfl)

/-- the items of xs[lo:hi] -/
def cutV (xs : List V) (lo hi : Option Int) : List V := (xs.drop (HT.sIx xs.length 0 lo)).take (HT.sIx xs.length xs.length hi - HT.sIx xs.length 0 lo)
theorem cutV_length (xs : List V) (lo hi : Option Int) : (cutV xs lo hi).length ≤ xs.length := by
  unfold cutV
  rw [List.length_take, List.length_drop]
  omega
/-- t[lo:hi], not the whole of it (the whole would be t itself) -/
def rSlT (K : PySem.W.Frag) : V → Option Int → Option Int → Hp → VK → Prop := fun x lo hi H Q => ∃ a xs, x = .ref a ∧ SqT K H a xs ∧
  ¬ (HT.sIx xs.length 0 lo = 0 ∧ HT.sIx xs.length xs.length hi = xs.length) ∧ ∀ p, H p = none → Q (.ref p) (upd H p (.tup (cutV xs lo hi)))
/-! ### t < u, t + u -/
def rLtT (K : PySem.W.Frag) : R2 := fun x y H Q => ∃ a b ns ms, x = .ref a ∧ y = .ref b ∧ SqT K H a (ns.map V.int) ∧ SqT K H b (ms.map V.int) ∧ Q (.bl (HT.lexLt ns ms)) H
/-- t + u, t not empty: u empty gives t itself -/
def rCatT (K : PySem.W.Frag) : R2 := fun x y H Q => ∃ a b xs ys, x = .ref a ∧ y = .ref b ∧ SqT K H a xs ∧ SqT K H b ys ∧ xs ≠ [] ∧ xs.length + ys.length ≤ sizeLine ∧
  (ys = [] → Q (.ref a) H) ∧ (ys ≠ [] → ∀ p, H p = none → Q (.ref p) (upd H p (.tup (xs ++ ys))))
end
end L2

namespace L2
open PySem PySem.Spec PyProof.Rows

/-! ### places -/
/-- the place that an index of any sign means -/
def ixN (n : Nat) (i : Int) : Option Nat := if 0 ≤ i then (if i < n then some i.toNat else none) else if -(n : Int) ≤ i then some (i + n).toNat else none
def atI {α : Type} (xs : List α) (i : Int) : Option α := (ixN xs.length i).bind fun j => xs[j]?
theorem ixN_seq {n : Nat} {i : Int} {j : Nat} (h : ixN n i = some j) : seqIndex? i n = some j ∧ j < n ∧ -(n : Int) ≤ i ∧ i < n := by
  unfold ixN at h
  by_cases h0 : 0 ≤ i
  · rw [if_pos h0] at h
    by_cases h1 : i < n
    · rw [if_pos h1] at h
      have e : i.toNat = j := Option.some.inj h
      exact ⟨by rw [seqIndex_of h0 h1, e], by omega, by omega, h1⟩
    · rw [if_neg h1] at h; cases h
  · rw [if_neg h0] at h
    by_cases h1 : -(n : Int) ≤ i
    · rw [if_pos h1] at h
      have e : (i + n).toNat = j := Option.some.inj h
      exact ⟨by rw [seqIndex_neg (by omega) h1, e], by omega, h1, by omega⟩
    · rw [if_neg h1] at h; cases h
theorem atI_get {α : Type} {xs : List α} {i : Int} {v : α} (h : atI xs i = some v) : ∃ j, seqIndex? i xs.length = some j ∧ xs[j]? = some v ∧ j < xs.length ∧ -(xs.length : Int) ≤ i ∧ i < xs.length := by
  unfold atI at h
  cases e : ixN xs.length i with
  | none => rw [e] at h; cases h
  | some j =>
    rw [e] at h
    obtain ⟨h1, h2, h3, h4⟩ := ixN_seq e
    exact ⟨j, h1, h, h2, h3, h4⟩
theorem atI_nat {α : Type} {xs : List α} {j : Nat} {v : α} (h : xs[j]? = some v) : atI xs (j : Int) = some v := by
  have hj : j < xs.length := (List.getElem?_eq_some_iff.mp h).1
  have e : ixN xs.length (j : Int) = some j := by
    unfold ixN
    rw [if_pos (by omega), if_pos (by omega)]; simp
  unfold atI; rw [e]; exact h
/-! ### what may be subscripted -/
/-- what stands as an index of a plain subscript -/
def PlainIx (b : Expr) : Prop := ∀ o i, subscripted b false o i = operate [o, i] (getItem o i)
/-- a subscript by values -/
def IxR (X : Cx) (r : R2) : Prop :=
  ∀ (value slice : Expr) (pins : List (Addr × Obj)) (s : Shared) (σ : St) (H : Hp) (x y : V) (v u : Value) (Q : VK), Inv X pins σ H s → RelV x v → RelV y u → r x y H Q →
    subscripted slice false v u = operate [v, u] (getItem v u) → wpAny (model X.prog X.w) X.A (subscriptTail value slice v u) (EP X pins σ Q) X.xe s
/-- a call of a builtin's method by values: the receiver, the arguments -/
def MtR (X : Cx) (id : String) (r : V → List V → Hp → VK → Prop) : Prop :=
  ∀ (pins : List (Addr × Obj)) (s : Shared) (σ : St) (H : Hp) (x : V) (xs : List V) (v : Value) (us : List Value) (Q : VK), Inv X pins σ H s → RelV x v → Vals xs us → r x xs H Q →
    wpAny (model X.prog X.w) X.A (call (.builtin id) (v :: us)) (EP X pins σ Q) X.xe s
section
variable {X : Cx} {a b : Expr} {ta tb : TE} {pos : Pos}
theorem IxR.or {r r' : R2} (h : IxR X r) (h' : IxR X r') : IxR X (fun x y H Q => r x y H Q ∨ r' x y H Q) := by
  intro value slice pins s σ H x y v u Q I rx ry q hs
  rcases q with q | q
  · exact h value slice pins s σ H x y v u Q I rx ry q hs
  · exact h' value slice pins s σ H x y v u Q I rx ry q hs
/-- a[b] -/
theorem pe_ix {r : R2} (hr : IxR X r) (ha : PE X a ta) (hb : PE X b tb) (hs : PlainIx b) : PE X (.Subscript a b pos) (tOp r ta tb) := by
  intro pins s σ H Q I h
  exact Subscript_ (binT ha hb I h fun v u s2 x y H2 I2 rx ry q => hr a b pins s2 σ H2 x y v u Q I2 rx ry q (hs _ _))

def rIxL (K : PySem.W.Frag) : R2 := fun x y H Q => ∃ p xs i v, x = .ref p ∧ y = .int i ∧ SqL K H p xs ∧ atI xs i = some v ∧ Q v H
def rIxT (K : PySem.W.Frag) : R2 := fun x y H Q => ∃ p xs i v, x = .ref p ∧ y = .int i ∧ SqT K H p xs ∧ atI xs i = some v ∧ Q v H
def rIxS : R2 := fun x y H Q => ∃ z i c, x = .str z ∧ y = .int i ∧ z.length ≤ sizeLine ∧ atI z.cps.toList i = some c ∧ Q (.str ⟨#[c]⟩) H
theorem ix_list : IxR X (rIxL X.K) := by
  intro value slice pins s σ H x y v u Q I rx ry h hs
  obtain ⟨p, xs, i, z, rfl, rfl, hq, he, q⟩ := h
  cases rx
  obtain ⟨t, rfl⟩ := ry
  obtain ⟨its, r, pl, hz⟩ := I.list hq
  obtain ⟨j, h1, h2, h3, h4, h5⟩ := atI_get he
  obtain ⟨w, ew, rw'⟩ := r.get h2
  have hl := r.length
  have hn := line63
  have fin : EP X pins σ Q w s := ⟨z, H, I, rw', q⟩
  by_cases h0 : 0 ≤ i
  · have hj : i.toNat = j := by
      rw [seqIndex_of h0 h5] at h1
      exact Option.some.inj h1
    exact item_listR pl.isList h0 (by omega) (by rw [hj]; simpa using ew) fin hs
  · have hj : (i + (its.toArray.size : Int)).toNat = j := by
      rw [seqIndex_neg (by omega) h4] at h1
      rw [List.size_toArray, ← hl]
      exact Option.some.inj h1
    exact subscriptTail_builtinR (x := w) pl.isList.typeIs slot_list_getitem.lookup
      (wpAny_getItem_list_neg (Q := fun r s' => r = w ∧ EP X pins σ Q r s') pl.isList (by omega) (by rw [List.size_toArray] <;> omega) (by omega) (by rw [hj]; simpa using ew) ⟨rfl, fin⟩) hs
theorem ix_tup : IxR X (rIxT X.K) := by
  intro value slice pins s σ H x y v u Q I rx ry h hs
  obtain ⟨p, xs, i, z, rfl, rfl, hq, he, q⟩ := h
  cases rx
  obtain ⟨t, rfl⟩ := ry
  obtain ⟨its, r, pl, hz⟩ := I.tuple hq
  obtain ⟨j, h1, h2, h3, h4, h5⟩ := atI_get he
  obtain ⟨w, ew, rw'⟩ := r.get h2
  have hl := r.length
  have hn := line63
  have fin : EP X pins σ Q w s := ⟨z, H, I, rw', q⟩
  exact subscriptTail_builtinR (x := w) pl.typeIs slot_tuple_getitem.lookup
    (getItem_tuple (j := j) (Q := fun r s' => r = w ∧ EP X pins σ Q r s') pl (by omega) (by omega) (by rw [List.size_toArray, ← hl]; exact h1) (by simpa using ew) ⟨rfl, fin⟩) hs
theorem ix_str : IxR X rIxS := by
  intro value slice pins s σ H x y v u Q I rx ry h hs
  obtain ⟨z, i, c, rfl, rfl, hz, he, q⟩ := h
  obtain ⟨t, rfl⟩ := rx
  obtain ⟨t', rfl⟩ := ry
  obtain ⟨j, h1, h2, h3, h4, h5⟩ := atI_get he
  have hl : z.cps.toList.length = z.length := by simp [Str.length]
  rw [hl] at h1 h4 h5
  have hn := line63
  exact tail_any (typeIs_str s z t) slot_str_getitem.lookup (getItem_str (c := c) (by
    have e1 : decide (i < -(2 ^ 63 : Int)) = false := decide_eq_false (by omega)
    have e2 : decide (i ≥ 2 ^ 63) = false := decide_eq_false (by omega)
    rw [e1, e2, Bool.or_false]) (by rw [h1]; simpa using h2) ⟨.str ⟨#[c]⟩, H, I.tok _, ⟨_, rfl⟩, q⟩) hs
/-- list, tuple or str -/
def rIx (K : PySem.W.Frag) : R2 := fun x y H Q => rIxL K x y H Q ∨ rIxT K x y H Q ∨ rIxS x y H Q
theorem ix_seq : IxR X (rIx X.K) := ix_list.or (ix_tup.or ix_str)

/-! ### xs[i] = v, any sign -/
def rSetL : V → V → V → Hp → (Hp → Prop) → Prop := fun o i v H Q => ∃ p xs k j, o = .ref p ∧ i = .int k ∧ H p = some (.lst xs) ∧ ixN xs.length k = some j ∧ Q (upd H p (.lst (xs.set j v)))
/-! ### slices -/
theorem slice_bounds (lo hi : Option Int) (n : Nat) : (sliceBounds lo hi none n).1 = ((HT.sIx n 0 lo : Nat) : Int) ∧ (sliceBounds lo hi none n).2.1 = ((HT.sIx n n hi : Nat) : Int) ∧ (sliceBounds lo hi none n).2.2 = 1 := by
  refine ⟨?_, ?_, rfl⟩
  · cases lo with
    | none => simp [sliceBounds, HT.sIx]
    | some i =>
      simp only [sliceBounds, HT.sIx, Option.getD_none, show (1 : Int) > 0 by decide, if_true]
      by_cases h : i < 0
      · simp only [h, if_true] <;> omega
      · simp only [h, if_false] <;> omega
  · cases hi with
    | none => simp [sliceBounds, HT.sIx]
    | some i =>
      simp only [sliceBounds, HT.sIx, Option.getD_none, show (1 : Int) > 0 by decide, if_true]
      by_cases h : i < 0
      · simp only [h, if_true] <;> omega
      · simp only [h, if_false] <;> omega
theorem slicePick_cut (its : List Value) (lo hi : Option Int) : slicePick its.toArray lo hi none = ((its.drop (HT.sIx its.length 0 lo)).take (HT.sIx its.length its.length hi - HT.sIx its.length 0 lo)).toArray := by
  obtain ⟨h1, h2, h3⟩ := slice_bounds lo hi its.toArray.size
  unfold slicePick
  rw [h1, h2, h3]
  simp only [sliceRange_one, pick_run, List.size_toArray] <;> rfl
/-- xs[lo:hi] of a list: a new list -/
def rSlL (K : PySem.W.Frag) : V → Option Int → Option Int → Hp → VK → Prop := fun x lo hi H Q => ∃ a xs, x = .ref a ∧ SqL K H a xs ∧ ∀ p, H p = none → Q (.ref p) (upd H p (.lst (cutV xs lo hi)))
theorem sl_list : SlR X (rSlL X.K) := by
  intro pins s σ H x v vl vu lo hi sl Q I rx hs pl pu h
  obtain ⟨a, xs, rfl, hx, q⟩ := h
  cases rx
  obtain ⟨its, r, ht, hz⟩ := I.list hx
  have hlen := r.length
  refine ⟨"list", _, slot_list_getitem.lookup, ht.isList.typeIs, ?_⟩
  refine wpAny_getItem_list_slice ht.isList hs pl pu .none (by simp) ?_ (by rw [List.size_toArray] <;> omega)
  rw [slicePick_cut, ← hlen]
  refine ⟨.ref s.heap.objs.size, _, I.laid (t' := s.toks) (o := .lst (cutV xs lo hi)) (fun b ob q => Heap.get?_push_of_some _ q) (Nat.le_refl _) ?_, rfl, q _ (I.hok.fresh (Nat.le_refl _))⟩
  exact ⟨Nat.le_trans (cutV_length xs lo hi) hz, _, 0, (r.drop (HT.sIx xs.length 0 lo)).take (HT.sIx xs.length xs.length hi - HT.sIx xs.length 0 lo), Heap.get?_push_size _ rfl⟩

/-! ### in, not in: flat items -/
def flatV : V → Bool
  | .non => true
  | .bl _ => true
  | .int _ => true
  | .str _ => true
  | _ => false
/-- == of flat values -/
def eqV : V → V → Bool
  | .non, .non => true
  | .bl a, .bl b => a == b
  | .bl a, .int b => (if a then 1 else 0) == b
  | .int a, .bl b => a == (if b then 1 else 0)
  | .int a, .int b => a == b
  | .str a, .str b => a == b
  | _, _ => false
theorem eqAt_V {A : Around} {s : Shared} {y x : V} {u v : Value} (ry : RelV y u) (rx : RelV x v) (fy : flatV y = true) (fx : flatV x = true) : SeqAt.EqAt A s u v (eqV y x) := by
  cases y with
  | non =>
    cases ry
    cases x with
    | non => cases rx; exact SeqAt.EqAt.same _
    | bl b => cases rx; exact SeqAt.EqAt.none_bool b
    | int b => obtain ⟨t, rfl⟩ := rx; exact SeqAt.EqAt.none_int b t
    | str b => obtain ⟨t, rfl⟩ := rx; exact SeqAt.EqAt.none_str b t
    | _ => exact absurd (show false = true from fx) Bool.false_ne_true
  | bl a =>
    cases ry
    cases x with
    | non => cases rx; exact SeqAt.EqAt.bool_none a
    | bl b => cases rx; exact SeqAt.EqAt.bool_bool a b
    | int b => obtain ⟨t, rfl⟩ := rx; exact SeqAt.EqAt.bool_int a b t
    | str b => obtain ⟨t, rfl⟩ := rx; exact SeqAt.EqAt.bool_str a b t
    | _ => exact absurd (show false = true from fx) Bool.false_ne_true
  | int a =>
    obtain ⟨t', rfl⟩ := ry
    cases x with
    | non => cases rx; exact SeqAt.EqAt.int_none a t'
    | bl b => cases rx; exact SeqAt.EqAt.int_bool a t' b
    | int b => obtain ⟨t, rfl⟩ := rx; exact SeqAt.EqAt.int_int a t' b t
    | str b => obtain ⟨t, rfl⟩ := rx; exact SeqAt.EqAt.int_str a t' b t
    | _ => exact absurd (show false = true from fx) Bool.false_ne_true
  | str a =>
    obtain ⟨t', rfl⟩ := ry
    cases x with
    | non => cases rx; exact SeqAt.EqAt.str_none a t'
    | bl b => cases rx; exact SeqAt.EqAt.str_bool a t' b
    | int b => obtain ⟨t, rfl⟩ := rx; exact SeqAt.EqAt.str_int a t' b t
    | str b => obtain ⟨t, rfl⟩ := rx; exact SeqAt.EqAt.str_str a t' b t
    | _ => exact absurd (show false = true from fx) Bool.false_ne_true
  | _ => exact absurd (show false = true from fy) Bool.false_ne_true
/-- the items' answers, read off the values (a value's own answer does not lean on its token) -/
def eqU (x : V) (u : Value) : Bool := match u with
  | .none => eqV .non x
  | .bool b => eqV (.bl b) x
  | .int i _ => eqV (.int i) x
  | .str z _ => eqV (.str z) x
  | _ => false
def inV (x : V) (xs : List V) : Bool := xs.any fun y => eqV y x
/-- x in a list or tuple of flat items -/
def rIn (K : PySem.W.Frag) (neg : Bool) : R2 := fun x y H Q => ∃ p xs, y = .ref p ∧ (SqL K H p xs ∨ SqT K H p xs) ∧ flatV x = true ∧ xs.all flatV = true ∧ Q (.bl (if neg then !inV x xs else inV x xs)) H
/-! ### len, list(x), tuple(x) of any list or tuple that is read -/
theorem call_len_seq : CallR X (.builtin "len") (fun xs H Q => ∃ p ys, xs = [.ref p] ∧ (SqL X.K H p ys ∨ SqT X.K H p ys) ∧ Q (.int ys.length) H) := by
  intro pins s σ H xs us Q I r h
  obtain ⟨p, ys, rfl, hq, q⟩ := h
  obtain ⟨u, rfl, rx⟩ := vals1 r
  cases rx
  have hn := line63
  rcases hq with hq | hq
  · obtain ⟨its, r', pl, hz⟩ := I.list hq
    have hlen := r'.length
    exact Calls.call_len_list pl.isList (by simp only [List.size_toArray] <;> omega) ⟨.int ys.length, H, I.tok _, ⟨s.toks + 1, by rw [List.size_toArray, hlen]⟩, q⟩
  · obtain ⟨its, r', pl, hz⟩ := I.tuple hq
    have hlen := r'.length
    exact len_tuple pl (by simp only [List.size_toArray] <;> omega) ⟨.int ys.length, H, I.tok _, ⟨s.toks + 1, by rw [List.size_toArray, hlen]⟩, q⟩
theorem call_len_str : CallR X (.builtin "len") (fun xs H Q => ∃ z, xs = [.str z] ∧ z.length ≤ sizeLine ∧ Q (.int z.length) H) := by
  intro pins s σ H xs us Q I r h
  obtain ⟨z, rfl, hz, q⟩ := h
  obtain ⟨u, rfl, t, rfl⟩ := vals1 r
  have hn := line63
  exact len_str (by omega) ⟨.int z.length, H, I.tok _, ⟨_, rfl⟩, q⟩
theorem call_tuple_of : CallR X (.type "tuple") (fun xs H Q => ∃ p ys, xs = [.ref p] ∧ ((SqL X.K H p ys ∧ ∀ l, H l = none → Q (.ref l) (upd H l (.tup ys))) ∨ (SqT X.K H p ys ∧ Q (.ref p) H))) := by
  intro pins s σ H xs us Q I r h
  obtain ⟨p, ys, rfl, h⟩ := h
  obtain ⟨u, rfl, rx⟩ := vals1 r
  cases rx
  rcases h with ⟨hq, q⟩ | ⟨hq, q⟩
  · obtain ⟨its, r', pl, hz⟩ := I.list hq
    have hlen := r'.length
    refine call_tuple_list pl.isList (fun h' kp => ?_) (by simp only [List.size_toArray] <;> omega)
    have I1 : Inv X pins σ H { s with heap := h' } := I.kept (t' := s.toks) kp
    have I2 : Inv X pins σ (upd H h'.objs.size (.tup ys)) { s with heap := h'.push { cls := .type "tuple", data := .seq its.toArray } } :=
      I1.laid (t' := s.toks) (fun b o e => Heap.get?_push_of_some _ e) (Nat.le_refl _) (show ObjOk X.prog X.w _ _ _ (.tup ys) from ⟨hz, its, r', IsTup.new _ _⟩)
    exact ⟨.ref h'.objs.size, _, I2, rfl, q _ (I1.hok.fresh (Nat.le_refl _))⟩
  · obtain ⟨its, r', pl, hz⟩ := I.tuple hq
    exact call_tuple_same pl ⟨.ref p, H, I, rfl, q⟩

/-! ### the call of a builtin's method: o.m(..) -/
/-- the value is of that builtin type -/
def tyV (K : PySem.W.Frag) (T : String) (x : V) (H : Hp) : Prop := match x with
  | .str _ => T = "str"
  | .int _ => T = "int"
  | .ref p => (T = "list" ∧ ∃ xs, SqL K H p xs) ∨ (T = "tuple" ∧ ∃ o, K.lookup p = some o ∧ o.cls = .type "tuple" ∧ o.dict = none) ∨
      (T = "dict" ∧ ((∃ kvs, H p = some (.dK kvs)) ∨ ∃ kvs, H p = some (.dT kvs))) ∨ (T = "set" ∧ ∃ S n, H p = some (.set S n))
  | _ => False
theorem tyV_is {pins : List (Addr × Obj)} {σ : St} {H : Hp} {s : Shared} {T : String} {x : V} {v : Value} (I : Inv X pins σ H s) (r : RelV x v) (ty : tyV X.K T x H) :
    s.TypeIs v T ∧ ∀ a, v = .ref a → ∃ ob, s.heap.get? a = some ob ∧ ob.dict = none := by
  cases x with
  | str z =>
    obtain ⟨t, rfl⟩ := r
    cases (show T = "str" from ty)
    exact ⟨typeIs_str s z t, fun _ e => nomatch e⟩
  | int i =>
    obtain ⟨t, rfl⟩ := r
    cases (show T = "int" from ty)
    exact ⟨typeIs_int s i t, fun _ e => nomatch e⟩
  | ref p =>
    cases r
    rcases ty with ⟨rfl, xs, hq⟩ | ⟨rfl, o, hk, hc, hd⟩ | ⟨rfl, hk⟩ | ⟨rfl, S, n, hk⟩
    · obtain ⟨its, _, pl, _⟩ := I.list hq
      refine ⟨pl.isList.typeIs, fun a e => ?_⟩
      cases e
      obtain ⟨o, n, e, c, hd, _⟩ := pl
      exact ⟨o, e, hd⟩
    · refine ⟨⟨o, I.kIn p o hk, hc⟩, fun a e => ?_⟩
      cases e
      exact ⟨o, I.kIn _ o hk, hd⟩
    · have z : ∃ o, s.heap.get? p = some o ∧ o.ExactDict := by
        rcases hk with ⟨kvs, hk⟩ | ⟨kvs, hk⟩
        · obtain ⟨_, _, _, _, o, _, _, e, ex, _⟩ := I.hok p _ hk
          exact ⟨o, e, ex⟩
        · obtain ⟨_, _, _, _, o, _, _, e, ex, _⟩ := I.hok p _ hk
          exact ⟨o, e, ex⟩
      obtain ⟨o, e, ex⟩ := z
      refine ⟨⟨o, e, ex.1⟩, fun a e2 => ?_⟩
      cases e2
      exact ⟨o, e, ex.2.1⟩
    · obtain ⟨o, _, _, _, e, ex, _⟩ := I.hok p _ hk
      refine ⟨⟨o, e, ex.1⟩, fun a e2 => ?_⟩
      cases e2
      exact ⟨o, e, ex.2.1⟩
  | _ => exact False.elim ty
def tBM0 (K : PySem.W.Frag) (T : String) (r : V → List V → Hp → VK → Prop) (to : TE) : TE := fun σ H Q => to σ H fun x H1 => tyV K T x H1 ∧ r x [] H1 Q
def tBM (K : PySem.W.Frag) (T : String) (r : V → List V → Hp → VK → Prop) (to : TE) (t : TA) : TE := fun σ H Q => to σ H fun x H1 => tyV K T x H1 ∧ t σ H1 fun xs H2 => r x xs H2 Q
variable {o e : Expr} {es : List Expr} {to : TE} {t : TA} {name : Str} {apos cpos : Pos} {T id : String} {r : V → List V → Hp → VK → Prop}
theorem pe_bm (pa : PlainAttrs T) (slot : Slot T name id) (hty : typeOf (.builtin id) = pure (.type "method_descriptor")) (hm : MtR X id r) (ho : PE X o to) (ha : PA X (e :: es) t)
    (hbase : attributeBase o name X.env (eval o X.env) = eval o X.env := by rfl)
    (hfew : ((backTo cpos (starEach (e :: es) X.env)).all (fun x => !x.1) && (backToKw cpos (keywordEach [] X.env)).all (fun x => x.1.isSome)
      && decide ((e :: es).length + ([] : List Keyword).length + (if ([] : List Keyword).isEmpty then 0 else 1) < 30)) = true := by rfl)
    (hline : (apos.endLine == cpos.line) = true := by rfl) (hs : starEach (e :: es) X.env = (false, eval e X.env) :: starEach es X.env := by rfl) (hplain : (backTo cpos (starEach es X.env)).any (·.1) = false := by rfl) :
    PE X (.Call (.Attribute o name apos) (e :: es) [] cpos) (tBM X.K T r to t) := by
  intro pins s σ H Q I h
  refine wpAny_Call_method_late hbase hfew hline rfl (thn (ho pins s σ H _ I h) fun v s1 ⟨x, H1, I1, r1, ty, q1⟩ => ?_)
  obtain ⟨h1, h2⟩ := tyV_is I1 r1 ty
  refine ⟨T, id, pa, slot, hty, h1, h2, ?_⟩
  have hA := ha cpos pins s1 σ H1 _ I1 q1
  rw [hs] at hA ⊢
  refine Calls.callWith_builtin (by show (false || (backTo cpos (starEach es X.env)).any (·.1)) = false; rw [hplain] <;> rfl) (Calls.evalArgs_plain ?_)
  exact thn hA fun us s2 ⟨vs, H2, I2, r2, q2⟩ => hm pins s2 σ H2 x vs v us Q I2 r1 r2 q2
/- xs.append(e), list.index on a module's tuple .. are MtR facts of 06m -/
end
end L2

namespace L2
open PySem PySem.Spec PyProof.Rows

def MtM (X : Cx) (id : String) (r : V → List V → Hp → VK → Prop) : Prop :=
  ∀ (pins : List (Addr × Obj)) (s : Shared) (σ : St) (H : Hp) (x : V) (xs : List V) (v : Value) (us : List Value) (Q : VK), Inv X pins σ H s → RelV x v → Vals xs us → r x xs H Q →
    wpAny (model X.prog X.w) X.A (call (.builtin id) (v :: us)) (EP X pins σ Q) X.xe s

/-! ### lists of values -/
theorem Vals.one : ∀ {x : V} {us : List Value}, Vals [x] us → ∃ u, us = [u] ∧ RelV x u
  | _, _, .cons r .nil => ⟨_, rfl, r⟩
section
variable {X : Cx} {pins : List (Addr × Obj)} {σ : St} {H : Hp} {s : Shared} {l b : Addr} {xs ys zs : List V}

/-! ### the two steps: a tracked list is rewritten, a new list is laid -/
theorem Inv.lset {its its' : List Value} {n : Nat} {f : Array Value → Array Value} {t' : Nat} (I : Inv X pins σ H s) (hH : H l = some (.lst xs))
    (e : s.heap.get? l = some { cls := .type "list", data := .seq its.toArray n }) (hf : f its.toArray = its'.toArray) (hv : Vals ys its') (hz : ys.length ≤ sizeLine) :
    Inv X pins σ (upd H l (.lst ys)) { s with heap := s.heap.update l (Obj.mapSeq f), toks := t' } := by
  have q := PySem.IsL.update e f
  rw [hf] at q
  refine I.write (x := l) (e := l) (by rw [hH]; exact trivial) (.inl rfl) (fun b' u hb hu => (Heap.get?_update_other s.heap (Obj.mapSeq f) (Ne.symm hb)).trans hu) ⟨_, q⟩ ?_
  exact ⟨hz, its', _, hv, q⟩
theorem Inv.lstM (I : Inv X pins σ H s) (hH : H l = some (.lst xs)) : xs.length ≤ sizeLine ∧ ∃ (its : List Value) (n : Nat), Vals xs its ∧ xs.length = its.length ∧ s.heap.get? l = some { cls := .type "list", data := .seq its.toArray n } := by
  obtain ⟨z, its, n, r, e⟩ := I.hok l _ hH
  exact ⟨z, its, n, r, r.length, e⟩

end

section
variable {X : Cx}

/-! ### methods -/
def rAppend : V → List V → Hp → VK → Prop := fun x vs H Q => ∃ l xs y, x = .ref l ∧ vs = [y] ∧ H l = some (.lst xs) ∧ xs.length < sizeLine ∧ Q .non (upd H l (.lst (xs ++ [y])))
theorem mt_append : MtM X "list.append" rAppend := by
  intro pins s σ H x vs v us Q I rx rv h
  obtain ⟨l, xs, y, rfl, rfl, hH, hz, q⟩ := h
  cases rx
  obtain ⟨u, rfl, ru⟩ := rv.one
  obtain ⟨z, its, n, r, hl, e⟩ := I.lstM hH
  refine call_meets F.slot_list_append ⟨_, e, rfl⟩ F.entry_list_append (F.args_list_append_2 _ _) (PySem.list_append l its.toArray n u (by rw [List.size_toArray]; omega)) ⟨e, ?_⟩
  refine ⟨.non, _, I.lset (its' := its ++ [u]) hH e (by simp) (r.append (.cons ru .nil)) ?_, rfl, q⟩
  rw [List.length_append, List.length_singleton]
  omega

def rExtend : V → List V → Hp → VK → Prop := fun x vs H Q => ∃ l b xs zs, x = .ref l ∧ vs = [.ref b] ∧ H l = some (.lst xs) ∧ H b = some (.lst zs) ∧ xs.length + zs.length ≤ sizeLine ∧ Q .non (upd H l (.lst (xs ++ zs)))
def rPop : V → List V → Hp → VK → Prop := fun x vs H Q => ∃ l xs y, x = .ref l ∧ vs = [] ∧ H l = some (.lst xs) ∧ xs[xs.length - 1]? = some y ∧ Q y (upd H l (.lst xs.dropLast))
def rPopAt : V → List V → Hp → VK → Prop := fun x vs H Q => ∃ l xs i k y, x = .ref l ∧ vs = [.int i] ∧ H l = some (.lst xs) ∧ -(2 ^ 63) ≤ i ∧ i < 2 ^ 63 ∧ seqIndex? i xs.length = some k ∧ xs[k]? = some y ∧ Q y (upd H l (.lst (xs.eraseIdx k)))
def rReverse : V → List V → Hp → VK → Prop := fun x vs H Q => ∃ l xs, x = .ref l ∧ vs = [] ∧ H l = some (.lst xs) ∧ Q .non (upd H l (.lst xs.reverse))
def rClear : V → List V → Hp → VK → Prop := fun x vs H Q => ∃ l xs, x = .ref l ∧ vs = [] ∧ H l = some (.lst xs) ∧ Q .non (upd H l (.lst []))
/-! ### list + list, list += list, list * int -/
def rCat : R2 := fun x y H Q => ∃ l b xs zs, x = .ref l ∧ y = .ref b ∧ H l = some (.lst xs) ∧ H b = some (.lst zs) ∧ xs.length + zs.length ≤ sizeLine ∧ ∀ p, H p = none → Q (.ref p) (upd H p (.lst (xs ++ zs)))
/-- a list times an int (a negative one is nothing) -/
def rRep : R2 := fun x y H Q => ∃ l k xs, x = .ref l ∧ y = .int k ∧ H l = some (.lst xs) ∧ -(2 ^ 63) ≤ k ∧ k < 2 ^ 63 ∧ xs.length * k.toNat ≤ sizeLine ∧
  ∀ p, H p = none → Q (.ref p) (upd H p (.lst (List.replicate k.toNat xs).flatten))
/-! ### del xs[i] -/
end

/-! ### xs[a:b] = ys -/
section
variable {prog : Program} {w : World} {A : Around} {E : Value → Shared → Prop} {s : Shared}
end

section
variable {X : Cx}
end
end L2

namespace Att
open PySem PySem.W PySem.Calls PyProof.Rows

/-! ### the script -/
theorem ints_of_wellAll {P : Params} {h : Heap} : ∀ (ns : List Int) (vs : List Value), WellAll P h vs (ns.map WData.int) → IntsAre vs ns := by
  intro ns
  induction ns with
  | nil =>
    intro vs w
    rw [List.map_nil] at w
    cases w
    exact .nil
  | cons n ns ih =>
    intro vs w
    rw [List.map_cons] at w
    cases w with
    | cons a b =>
      cases a
      exact .cons _ _ (ih _ b)

theorem script_of {l : OpenLaw} {n : Nat} (hn : l.most = some n) {P : Params} {h : Heap} {args : List WData} {vals : List Value}
    (hpre : l.row.toRowW.claim.pre args = true) (hwl : WellAll P h vals args) :
    ∃ a vs ns, vals = [Value.ref a] ∧ args = [WData.list (ns.map WData.int)] ∧ h.get? a = some { cls := .type "list", data := .seq vs.toArray } ∧ IntsAre vs ns ∧ ns.length ≤ n := by
  have hsh : WShape.hasAll [] args [.list .int] = true := (pre_splitW hpre).1
  have hc : l.pre.holds [] { args := args } = true := (pre_splitW hpre).2
  obtain ⟨d, r, rfl, h1, h2⟩ := hasAllW_cons hsh
  obtain rfl := hasAllW_nil h2
  obtain ⟨xs, rfl, h3⟩ := hasW_list h1
  obtain ⟨ns, rfl⟩ := items_int h3
  have hlen : ns.length ≤ n := by
    unfold OpenLaw.pre at hc
    have h4 : (WTm.not (.lt (.lit (.int (n : Int))) (.len (.arg 0)))).holds [] { args := [.list (ns.map .int)] } = true := by
      have h4 := (holds_andW hc).1
      rw [hn] at h4
      exact h4
    have h5 := condW_of h4 (w_not (w_lt w_lit (w_len_list (w_arg rfl))))
    rw [List.length_map] at h5
    refine Nat.le_of_not_lt fun q => ?_
    have q' : (n : Int) < ((ns.length : Nat) : Int) := by omega
    first
      | (rw [decide_eq_true q'] at h5; exact absurd h5 (by decide))
      | (simp at h5; omega)
  cases hwl with
  | cons w1 w2 =>
    cases w2
    cases w1 with
    | list ho hall => exact ⟨_, _, ns, rfl, rfl, ho, ints_of_wellAll ns _ hall, hlen⟩

theorem post_true (l : OpenLaw) (args : List WData) : l.row.toRowW.claim.post args (.bool true) args = true :=
  postW_of (r := l.row.toRowW) (X := (true == true))
    (show WShape.has [] (.bool true) .bool = true by first | rfl | decide | simp [WShape.has, WShape.arms, WShape.armsAll])
    (show (WTm.eq .res (.lit (.bool true))).value [] { args := args, res := some (.bool true), after := args } = some (.bool (true == true)) from w_eq_bool (w_res rfl) w_lit) rfl

/-! ### the attachment: holds_open's last premise (the goal 'hc' behind k_head) from a wpAny of the law's body -/
/-- the same from a codeAny of the CALL (for a layer whose function contracts speak of calls) -/
theorem attach_call {l : OpenLaw} {n : Nat} {q : Program} {loose : List Str} {XP : (Str → Option Value) → Heap → Prop} {YP : World → Heap → Prop} {d : DefRec}
    (hn : l.most = some n) (hdf : d.params.defaults = [])
    (call : ∀ (w : World) (s₀ s₁ : Shared) (mg mb : Str → Option Value) (fa : Addr) (o : Obj) (pm cd doc : Value) (a : Addr) (vs : List Value) (ns : List Int),
      Ground q loose [] XP w s₀ mg mb s₁.heap → YP w s₁.heap →
      s₁.heap.get? fa = some o → o.data = .func (docDef d.name d.params d.body d.scope pm cd doc) → s₁.heap.CodeRec cd d.name → mg d.name = some (.ref fa) →
      s₁.heap.get? a = some { cls := .type "list", data := .seq vs.toArray } → IntsAre vs ns → ns.length ≤ n → s₁.gens = #[] →
      codeAny (model l.prog w) callerA (.call (.ref fa) ⟨[.ref a], []⟩) (fun r s' => r = .ok (.ret (.bool true)) ∧ OldK s₁.heap s'.heap ∧ s'.os = s₁.os ∧ AllBare s'.gens) s₁) :
    WalkO q loose XP YP l.row.toRowW d [] (fun f vs => PySem.call f vs) := by
  intro w s₀ s₁ mg mb G Y fa o pm cd doc dV kV ho hd hcd hD hmg hg args vals as hpre hlay hrd hwl hlo
  obtain rfl : dV = .none := Dflts.none hD hdf
  obtain rfl : kV = .none := Dflts.noKw hD
  obtain ⟨a, vs, ns, rfl, rfl, hobj, hints, hlen⟩ := script_of hn hpre hwl
  refine enter_call (codeAny_mono (call w s₀ s₁ mg mb fa o pm cd doc a vs ns G Y ho (fd_plain hd) hcd hmg hobj hints hlen hg) fun r s' hq => ?_)
  obtain ⟨rfl, h2, h3, h4⟩ := hq
  exact ⟨.inl ⟨.bool true, .bool true, [], rfl, fun _ => rfl, .bool true, post_true l _, fun _ => ⟨List.Pairwise.nil, fun _ hm => (nomatch hm)⟩⟩, h2, h3, h4⟩

/-! ### rules over ANY heap (no ledger) from facts about the written part K: the library's own take a ledger (News) for what they write -/
section
variable {prog : Program} {w : World} {A : Around} {E : Value → Shared → Prop} {s : Shared} {K : Frag}

/-! the whole heap as the ledger: makes every rule that writes through a ledger a rule over any heap -/
def noObjs (h : Heap) : Heap := { h with objs := #[] }
def ledger (h : Heap) (L d : Addr) : List (Addr × Obj) := (List.range h.objs.size).filterMap fun a => if a = L ∨ a = d then none else (h.get? a).map fun o => (a, o)
end
end Att

namespace L2
open PySem PySem.Spec PyProof.Rows

theorem vals_ints : ∀ {vs : List Value} {ns : List Int}, IntsAre vs ns → Vals (ns.map V.int) vs
  | _, _, .nil => .nil
  | _, _, .cons n t h => .cons ⟨t, rfl⟩ (vals_ints h)

/-- nothing is tracked but the script, known to the object (or it is an object of the module) -/
def Only (H : Hp) : Prop := ∀ b, H b = none ∨ ∃ o xs, H b = some (.frz o (.lst xs))

/-- THE HEAD: the law's promise, at the heap behind the top. F, the promise of the law's def, may use that base is part of the heap (so K.In base, base.Ns mainGlobals mg stand in Mod) -/
theorem law_call {P : Program} {w : World} {K : PySem.W.Frag} {mg mb : Str → Option Value} {CX : CXT} {k : Nat} {fa a : Addr} {fd : FuncData} {x : Str} {sp : Sp} {s₁ : Shared} {vs : List Value} {ns : List Int}
    (KX : K.In s₁.heap) (hns : s₁.heap.Ns mainGlobals mg) (hb : s₁.heap.Ns builtinsNs mb) (hbb : ∀ x : Str, x ≠ "__name__" → mb x = bootBuiltins x) (hlim : s₁.heap.NoLimit) (hg : s₁.gens = #[])
    (ha : s₁.heap.get? a = some { cls := .type "list", data := .seq vs.toArray }) (hi : IntsAre vs ns) (hl : ns.length ≤ sizeLine) (hr : Room k callerA)
    (F : ∀ base : Heap, K.In base → base.Ns mainGlobals mg → FnOk P w K mg base CX k fa fd [x] sp) (hbind : ∀ (s : Shared) (u : Value), BindsTo s fd ⟨[u], []⟩ [(x, u)])
    (hsp : ∀ H : Hp, Only H → SqL K H a (ns.map V.int) → sp [.ref a] H (fun v _ => v = .bl true) fun _ _ _ => False)
    (hCX : ∀ H e s', CX [] H s₁ (fun _ _ _ => False) e s' → False) :
    codeAny (model P w) callerA (.call (.ref fa) ⟨[.ref a], []⟩) (fun r s' => r = .ok (.ret (.bool true)) ∧ OldK s₁.heap s'.heap ∧ s'.os = s₁.os ∧ AllBare s'.gens) s₁ := by
  have rv := vals_ints hi
  have lenV := hi.length
  -- from an abstract heap in which nothing but the script may be tracked
  have core : ∀ H : Hp, Only H → SqL K H a (ns.map V.int) → HOk P w H s₁.heap → (∀ b, H b ≠ none → b = a) → (H a ≠ none → K.lookup a = none) →
      codeAny (model P w) callerA (.call (.ref fa) ⟨[.ref a], []⟩) (fun r s' => r = .ok (.ret (.bool true)) ∧ OldK s₁.heap s'.heap ∧ s'.os = s₁.os ∧ AllBare s'.gens) s₁ := by
    intro H hO hS hok hA hK
    have base_of : ∀ {b : Addr} {o : Obj}, s₁.heap.get? b = some o → H b = none → (hidT s₁.heap H).get? b = some o := fun e n => hidT_get e n
    have noA : ∀ {b : Addr} {o : Obj} {es : Array DictEntry} {ep : Nat}, s₁.heap.get? b = some o → o.data = .dict es ep → H b = none := fun {b o es ep} e d => by
      cases q : H b with
      | none => rfl
      | some u =>
        have e' : b = a := hA b (by rw [q]; simp)
        subst e'
        rw [ha] at e; cases e
        have d' : Data.seq vs.toArray _ = Data.dict es ep := d
        cases d'
    have nsK : ∀ {b : Addr} {m : Str → Option Value}, s₁.heap.Ns b m → (hidT s₁.heap H).Ns b m := fun {b m} ⟨o, es, ep, e, d, r⟩ => ⟨o, es, ep, base_of e (noA e d), d, r⟩
    have hKb : K.In (hidT s₁.heap H) := fun b o e => base_of (KX b o e) (by
      cases q : H b with
      | none => rfl
      | some u =>
        have e' : b = a := hA b (by rw [q]; simp)
        subst e'
        rw [hK (by rw [q]; simp)] at e; cases e)
    have hM : Mod K mg (hidT s₁.heap H) := ⟨hKb, nsK hns, ⟨mb, nsK hb, hbb⟩, let ⟨mc, h1, h2⟩ := hlim; ⟨mc, nsK h1, h2⟩⟩
    have e0 : Env0 P w K mg (hidT s₁.heap H) callerA [] s₁ H := ⟨rfl, hM, fun b o e => of_hidT e, Nat.le_of_eq (hidT_size _ _), trivial, fun b hb => absurd (show b ∈ ([] : List Addr) from hb) (by simp), hok, .of_eq hg⟩
    refine codeAny_mono ((F _ hKb (nsK hns)).run callerA [] s₁ H ⟨[.ref a], []⟩ [.ref a] [.ref a] _ _ hr e0 (hbind s₁ (.ref a)) (.cons rfl .nil) (hsp H hO hS)) fun r s' h => ?_
    cases r with
    | error e => exact (hCX H e s' h).elim
    | ok fl =>
      cases fl with
      | next => exact False.elim h
      | brk => exact False.elim h
      | cont => exact False.elim h
      | ret u =>
        obtain ⟨v, H', os, bare, un, hok', r', q⟩ := h
        have q' : v = .bl true := q
        subst q'
        obtain rfl : u = Value.bool true := r'
        refine ⟨rfl, OldK.of_keep fun b o e => ?_, os, bare⟩
        cases q : H b with
        | none => exact un.keep b o e q (by intro z; exact absurd (show b ∈ ([] : List Addr) from z) (by simp)) (by simp)
        | some u =>
          rcases hO b with z | ⟨ob, xs, z⟩
          · rw [q] at z; cases z
          · have z2 := un.frzs b ob _ z
            obtain ⟨e1, _⟩ := hok b _ z
            obtain ⟨e2, _⟩ := hok' b _ z2
            rw [e] at e1; cases e1
            exact e2
  cases hk : K.lookup a with
  | some o =>
    -- the script is one of the module's own objects
    have e := KX a o hk
    rw [ha] at e
    cases e
    refine core (fun _ => none) (fun _ => .inl rfl) (.inr ⟨_, vs.toArray, _, hk, rfl, rfl, rfl, by rw [List.size_toArray, lenV]; exact hl, by simpa using rv⟩) (fun b u z => by have z' : (none : Option HO) = some u := z; cases z') (fun b z => absurd rfl z) fun z => absurd rfl z
  | none =>
    refine core (fun b => if b = a then some (.frz { cls := .type "list", data := .seq vs.toArray } (.lst (ns.map V.int))) else none) (fun b => ?_) (.inl (.inr ⟨{ cls := .type "list", data := .seq vs.toArray }, if_pos rfl⟩)) (fun b u z => ?_) (fun b z => ?_) fun _ => hk
    · by_cases hb : b = a
      · exact .inr ⟨_, _, if_pos hb⟩
      · exact .inl (if_neg hb)
    · by_cases hb : b = a
      · have z' := (if_pos hb).symm.trans z
        cases z'
        subst hb
        exact ⟨ha, by rw [List.length_map]; exact hl, vs, _, rv, ha⟩
      · have z' := (if_neg hb).symm.trans z
        cases z'
    · by_cases hb : b = a
      · exact hb
      · exact absurd (if_neg hb) z
end L2

namespace L2
open PySem PySem.Spec PyProof.Rows

abbrev KOf {K : PySem.W.Frag} {h : Heap} (_ : K.In h) : PySem.W.Frag := K

/-- the goal that k_head leaves (case hc), from the law's promise. F gives the function object fd (K's own) once, then the promise over every base -/
theorem walk_of {l : PySem.W.OpenLaw} {n k : Nat} {q : Program} {loose : List Str} {XP : (Str → Option Value) → Heap → Prop} {YP : World → Heap → Prop} {d : DefRec} {K : Params → PySem.W.Frag} {CX : World → CXT} {sp : World → Sp} {x : Str}
    (hn : l.most = some n) (hn2 : n ≤ sizeLine) (hdf : d.params.defaults = []) (hr : Room k callerA)
    (hY : ∀ (w : World) (h : Heap), YP w h → (K w.params).In h)
    (F : ∀ (w : World) (mg : Str → Option Value) (fa : Addr) (h : Heap), (K w.params).In h → h.Ns mainGlobals mg → mg d.name = some (.ref fa) →
      ∃ fd : FuncData, (∀ (s : Shared) (u : Value), BindsTo s fd ⟨[u], []⟩ [(x, u)]) ∧
        ∀ base : Heap, (K w.params).In base → base.Ns mainGlobals mg → FnOk l.prog w (K w.params) mg base (CX w) k fa fd [x] (sp w))
    (hsp : ∀ (w : World) (H : Hp) (a : Addr) (ns : List Int), ns.length ≤ n → Only H → SqL (K w.params) H a (ns.map V.int) → sp w [.ref a] H (fun v _ => v = .bl true) fun _ _ _ => False)
    (hCX : ∀ (w : World) (H : Hp) (s : Shared) (e : Value) (s' : Shared), CX w [] H s (fun _ _ _ => False) e s' → False) :
    PySem.W.WalkO q loose XP YP l.row.toRowW d [] (fun f vs => PySem.call f vs) := by
  refine Att.attach_call hn hdf fun w s₀ s₁ mg mb fa o pm cd doc a vs ns G Y ho hd hcd hmg hobj hints hlen hg => ?_
  have KX := hY w _ Y
  obtain ⟨fd, hb, hF⟩ := F w mg fa _ KX G.T.g hmg
  exact law_call KX G.T.g G.T.b G.T.builtins G.T.nolimit hg hobj hints (Nat.le_trans hlen hn2) hr hF hb (fun H hO hS => hsp w H a ns hlen hO hS) fun H e s' => hCX w H s₁ e s'
end L2

/- THE LAST THEOREM (shape; LID, My.* are yours):
   My.Adr: a structure of the addresses that your layer names (classes, functions); My.Txt K t: a structure (Prop) of the equations over K;
   My.txt_mk : {K} {implicit addresses ..} (e1 : nsIn K mainGlobals "law" = some (some (.ref f))) (e2 : K.lookup f = some ⟨oc, od, .func (fnOf "law" "law" params body scope dV kV doc pm an cdv ct), sl⟩) (e3 : codeIn K cdv "law" = true) .. : ∃ t, My.Txt K t

set_option maxRecDepth 100000 in
set_option maxHeartbeats 0 in
theorem PySem.Challenge.cw_LID_holds : PySem.Challenge.rw_LID.Holds := by
  w_on; o_law; k_head; (case hw => w_witness2)
  k_fill
  refine L2.walk_of (l := PySem.Challenge.rw_LID) (n := 63) (k := 40) (x := "script") (CX := fun w => ..) (sp := fun _ => My.sp_law) rfl (by decide) rfl ⟨rfl, by decide, by decide⟩ (fun w h Y => PySem.W.kIn_of Y) ?F ?S ?C
  case F =>
    intro w mg fa h KX G hmg
    have T : ∃ t, My.Txt (L2.KOf KX) t := by
      dsimp only [L2.KOf]                          -- K must stand as «<heap const> w.params» for k_is
      refine' My.txt_mk ?e1 ?e2 ?e3 ..
      (case e1 => PySem.W.k_is)                    -- in the order: a name -> its address -> its object -> its parts
      (case e2 => PySem.W.k_is)
      ..
    obtain ⟨t, T⟩ := T
    have e0 := hmg.symm.trans (PySem.W.mg_of KX G T.law)
    cases e0                                       -- fa is the law's own address
    exact ⟨_, fun s u => .of_eq rfl, fun base kb nb => My.law_fn T kb nb⟩     -- if «.of_eq rfl» comes too early: refine' ⟨_, ?b, fun base kb nb => My.law_fn T kb nb⟩; exact fun s u => .of_eq rfl
  case S => exact fun w H a ns hl hO hS => ..
  case C => exact ..
(the tactic k_is has no namespace: write k_is) -/

/-! SHORT WORDS over the layer: a def of the text, its body, what a loop and a test want. -/
namespace L2
open PySem PySem.Spec PyProof.Rows

/-! ### the text by places -/
/-- the j-th statement of a class's body -/
def inClass (s : Stmt) (j : Nat) : Stmt := match s with
  | .ClassDef _ _ _ body _ _ _ _ _ _ _ => body.getD j (.Pass ⟨0, 0, 0, 0⟩)
  | _ => .Pass ⟨0, 0, 0, 0⟩
def defArgs (s : Stmt) : Arguments := match s with
  | .FunctionDef _ a _ _ _ _ _ _ _ _ => a
  | _ => { posonlyargs := [], args := [], vararg := none, kwonlyargs := [], kw_defaults := [], kwarg := none, defaults := [] }
def defBody (s : Stmt) : List Stmt := match s with
  | .FunctionDef _ _ b _ _ _ _ _ _ _ => b
  | _ => []
def defScope (s : Stmt) : Scope := match s with
  | .FunctionDef _ _ _ _ _ _ sc _ _ _ => sc
  | _ => { kind := .function, names := [], isGenerator := false, isCoroutine := false }

/-! ### no exception leaves a def -/
abbrev CX0 : CXT := fun _ _ _ _ _ _ => False
abbrev E0 : XK := fun _ _ _ => False
theorem pass0 {X : Cx} : Passes CX0 X E0 := fun _ _ _ _ _ _ _ h => h.elim

/-! ### a def (or method) of the text as it stands behind the top -/
structure Fun (K : PySem.W.Frag) (x qual : Str) (st : Stmt) (f : Addr) (fd : FuncData) : Prop where
  ex : ∃ (oc : Value) (od : Option Addr) (kV doc pm : Value) (an : Option Addr) (cdv ct : Value) (osl : Array (Option Value)),
    fd = PySem.W.fnOf x qual (defArgs st) (defBody st) (defScope st) .none kV doc pm an cdv ct ∧ K.lookup f = some ⟨oc, od, .func fd, osl⟩ ∧ PySem.W.codeIn K cdv qual = true
  kp : PySem.W.keepIn K (.ref f) = true
section
variable {P : Program} {w : World} {K : PySem.W.Frag} {mg : Str → Option Value} {base : Heap}
/-- THE RULE for a def: its body as a term of rules, and the reading of that term -/
theorem Fun.ok {x qual : Str} {st : Stmt} {f : Addr} {fd : FuncData} {N ps : List Str} {k : Nat} {sp : Sp} (F : Fun K x qual st f fd) (S : FnScope N ps (defScope st)) (len : ∀ vs H Q E, sp vs H Q E → vs.length = ps.length)
    (hbody : ∀ (cdv : Value) (A : Around) (outer : List Env) (s : Shared) (H : Hp) (vs : List V) (Q : VK) (E : XK), Room k (A.deeper (envOfC qual (defScope st) s.heap.objs.size f cdv)) → sp vs H Q E →
      ∃ t, PSs (cxOf CX0 P w K mg base N qual (defScope st) f cdv A outer s H E).nox (defBody st) t ∧ t { nx := fun _ H' => Q .non H', rt := Q } (start N vs) H) : FnOk P w K mg base CX0 (k + 1) f fd ps sp := by
  obtain ⟨oc, od, kV, doc, pm, an, cdv, ct, osl, rfl, lk, hcd⟩ := F.ex
  refine fn_of lk hcd S len fun A outer s H vs Q E hr hsp => ?_
  obtain ⟨t, h, q⟩ := hbody cdv A outer s H vs Q E hr hsp
  exact ⟨t, h.nox, q⟩
/-- how its arguments bind (no defaults): h is «fun _ _ _ _ _ _ us hl => match us, hl with | [_, _], _ => rfl», one _ a parameter -/
theorem Fun.binds {x qual : Str} {st : Stmt} {f : Addr} {fd : FuncData} {ps : List Str} (F : Fun K x qual st f fd)
    (h : ∀ (kV doc pm : Value) (an : Option Addr) (cdv ct : Value) (us : List Value), us.length = ps.length → bindArgs (PySem.W.fnOf x qual (defArgs st) (defBody st) (defScope st) .none kV doc pm an cdv ct) ⟨us, []⟩ = pure (ps.zip us)) : Binds K fd ps [] := by
  obtain ⟨oc, od, kV, doc, pm, an, cdv, ct, osl, rfl, lk, hcd⟩ := F.ex
  exact .all (h kV doc pm an cdv ct)
theorem fun_mk {x qual : Str} {st : Stmt} {f : Addr} {oc : Value} {od an : Option Addr} {osl : Array (Option Value)} {kV doc pm cdv ct : Value} (l : K.lookup f = some ⟨oc, od, .func (PySem.W.fnOf x qual (defArgs st) (defBody st) (defScope st) .none kV doc pm an cdv ct), osl⟩)
    (c : PySem.W.codeIn K cdv qual = true) (k : PySem.W.keepIn K (.ref f) = true) : Fun K x qual st f (PySem.W.fnOf x qual (defArgs st) (defBody st) (defScope st) .none kV doc pm an cdv ct) := ⟨⟨oc, od, kV, doc, pm, an, cdv, ct, osl, rfl, l, c⟩, k⟩
end
theorem small1000 {n : Nat} (h : n ≤ 1000) : n < sizeLine := Nat.lt_of_le_of_lt h (by decide)

/-! ### expressions in short: the name that stands in the i-th slot -/
section
variable {X : Cx}
theorem pv (i : Nat) {x : Str} {pos : Pos} (hN : X.N[i]? = some x := by rfl) (hv : Vis X.env.scope x := by first | exact Or.inl rfl | exact Or.inr (Or.inl rfl) | exact Or.inr (Or.inr rfl)) (hd : (x == ("__debug__" : Str)) = false := by decide)
    (hcd : (x == ("__classdict__" : Str)) = false := by decide) : PE X (.Name x pos) (tVar i) := pe_var hN hv hd hcd
end

/-! ### tests -/
theorem iteF {A B : Prop} (h : B) : if false = true then A else B := by
  rw [if_neg Bool.false_ne_true]
  exact h
theorem iteT {A B : Prop} (h : A) : if true = true then A else B := by
  rw [if_pos rfl]
  exact h
theorem iteNS {c A B : Prop} [Decidable c] (hc : c) (h : B) : if (!decide c) = true then A else B := by
  rw [decide_eq_true hc]
  exact iteF h

/-! ### heaps -/
/-- all that was tracked is as it was -/
def Same (H H' : Hp) : Prop := ∀ b o, H b = some o → H' b = some o
theorem Same.refl (H : Hp) : Same H H := fun _ _ h => h
theorem Same.trans {H H1 H2 : Hp} (a : Same H H1) (b : Same H1 H2) : Same H H2 := fun c o h => b c o (a c o h)
theorem Same.seq {K : PySem.W.Frag} {H H' : Hp} {a : Addr} {xs : List V} (e : Same H H') (h : SqL K H a xs) : SqL K H' a xs := by
  rcases h with (h | ⟨o, h⟩) | h
  · exact .inl (.inl (e _ _ h))
  · exact .inl (.inr ⟨o, e _ _ h⟩)
  · exact .inr h

end L2

set_option Elab.async false
set_option maxRecDepth 100000
set_option maxHeartbeats 4000000
namespace L2
open PySem PySem.Spec PyProof.Rows
/-! ## X1. texts: a loop over the signs -/
def Its (x : Str) : It := ⟨fun i _ => i < x.length, fun i H v H' => H' = H ∧ ∃ c, x.cps[i]? = some c ∧ v = .str ⟨#[c]⟩, fun i _ => x.length ≤ i⟩
theorem turn_strA {P : Program} {w : World} {K : PySem.W.Frag} {tg : Expr} (x : Str) (t : Tok) (it : Addr) : Turn P w K tg (Its x) [it] it (fun i h => h.IsStrIter it "str_ascii_iterator" x t i) where
  mem := by simp
  obj := fun i h st b hb => by
    have e : b = it := by simpa using hb
    subst e
    obtain ⟨o, e, c, d⟩ := st
    exact ⟨o, e, fun v z => by rw [d] at z; cases z⟩
  keep := fun i h h' st k => by
    obtain ⟨o, e, r⟩ := st
    exact ⟨o, k it (by simp) o e, r⟩
  item := by
    intro X hP hw hK hc i pins s σ H E I hf st hg
    subst hP hw hK
    have hg : i < x.cps.size := hg
    obtain ⟨f0, f1, f2, f3, f4, f5⟩ := hf it (by simp)
    refine wpAny_pyNext_ascii_item st (c := x.cps[i]) (by simp [hg]) fun h' st' sb => ?_
    have I1 : Inv X pins σ H { s with heap := h', toks := s.toks + 1 } := I.turned (t' := s.toks + 1) (fun b o hb e => (sb.2 b hb).trans e) f0 f1 f3 f4 f5
    obtain ⟨o, e, c, d⟩ := id st'
    exact ⟨_, rfl, go_of (s := { s with heap := h', toks := s.toks + 1 }) e c d (by decide) ⟨.str ⟨#[x.cps[i]]⟩, H, I1, ⟨_, rfl⟩, ⟨rfl, _, by simp [hg], rfl⟩, st', fun b hb => (hf b hb).1⟩⟩
  done := by
    intro X hP hw hK hc i pins s σ H E I hf st hg
    subst hP hw hK
    have hg : x.cps.size ≤ i := hg
    obtain ⟨f0, f1, f2, f3, f4, f5⟩ := hf it (by simp)
    exact wpAny_pyNext_ascii_end (I.ok.hd hc) st (by simp [hg]) fun h' eb => ⟨rfl, I.turned (t' := s.toks) (fun b o hb e => eb b o hb e) f0 f1 f3 f4 f5⟩
  self := fun _ _ _ _ _ st h => wpAny_pyIter_striter_ascii st h
theorem turn_strW {P : Program} {w : World} {K : PySem.W.Frag} {tg : Expr} (x : Str) (t : Tok) (it : Addr) : Turn P w K tg (Its x) [it] it (fun i h => h.IsStrIter it "str_iterator" x t i) where
  mem := by simp
  obj := fun i h st b hb => by
    have e : b = it := by simpa using hb
    subst e
    obtain ⟨o, e, c, d⟩ := st
    exact ⟨o, e, fun v z => by rw [d] at z; cases z⟩
  keep := fun i h h' st k => by
    obtain ⟨o, e, r⟩ := st
    exact ⟨o, k it (by simp) o e, r⟩
  item := by
    intro X hP hw hK hc i pins s σ H E I hf st hg
    subst hP hw hK
    have hg : i < x.cps.size := hg
    obtain ⟨f0, f1, f2, f3, f4, f5⟩ := hf it (by simp)
    refine wpAny_pyNext_wide_item st (c := x.cps[i]) (by simp [hg]) fun h' st' sb => ?_
    have I1 : Inv X pins σ H { s with heap := h', toks := s.toks + 1 } := I.turned (t' := s.toks + 1) (fun b o hb e => (sb.2 b hb).trans e) f0 f1 f3 f4 f5
    obtain ⟨o, e, c, d⟩ := id st'
    exact ⟨_, rfl, go_of (s := { s with heap := h', toks := s.toks + 1 }) e c d (by decide) ⟨.str ⟨#[x.cps[i]]⟩, H, I1, ⟨_, rfl⟩, ⟨rfl, _, by simp [hg], rfl⟩, st', fun b hb => (hf b hb).1⟩⟩
  done := by
    intro X hP hw hK hc i pins s σ H E I hf st hg
    subst hP hw hK
    have hg : x.cps.size ≤ i := hg
    obtain ⟨f0, f1, f2, f3, f4, f5⟩ := hf it (by simp)
    exact wpAny_pyNext_wide_end (I.ok.hd hc) st (by simp [hg]) fun h' eb => ⟨rfl, I.turned (t' := s.toks) (fun b o hb e => eb b o hb e) f0 f1 f3 f4 f5⟩
  self := fun _ _ _ _ _ st h => wpAny_pyIter_striter_wide st h
def iStr (tl : TE) : TI := fun σ H R => tl σ H fun v H1 => ∃ x, v = .str x ∧ R (Its x) H1
theorem pi_str {X : Cx} {tg l : Expr} {tl : TE} (hl : PE X l tl) : PI X tg l (iStr tl) := by
  intro pins s σ H R I h
  refine thn (hl pins s σ H _ I h) fun v s1 ⟨y, H1, I1, r1, q1⟩ => ?_
  obtain ⟨x, rfl, q⟩ := q1
  obtain ⟨t, rfl⟩ := r1
  cases ha : x.cps.all (· < 128)
  · refine wpAny_pyIter_wide ha ?_
    refine ⟨s1.heap.objs.size, [s1.heap.objs.size], _, _, H1, rfl, I1.kept (t' := s1.toks) fun b o e => Heap.get?_push_of_some _ e, turn_strW x t _, ⟨_, Heap.get?_push_size _ rfl, rfl, rfl⟩, fun b hb => ?_, q⟩
    have e : b = s1.heap.objs.size := by simpa using hb
    subst e
    exact I1.fpOk (Nat.le_refl _) (I1.hok.fresh (Nat.le_refl _))
  · refine wpAny_pyIter_ascii ha ?_
    refine ⟨s1.heap.objs.size, [s1.heap.objs.size], _, _, H1, rfl, I1.kept (t' := s1.toks) fun b o e => Heap.get?_push_of_some _ e, turn_strA x t _, ⟨_, Heap.get?_push_size _ rfl, rfl, rfl⟩, fun b hb => ?_, q⟩
    have e : b = s1.heap.objs.size := by simpa using hb
    subst e
    exact I1.fpOk (Nat.le_refl _) (I1.hok.fresh (Nat.le_refl _))
theorem for_str {x : Str} {g : TG} {tb : TS} {D : Ends} {σ : St} {H : Hp} (Pv : Nat → St → Hp → Prop) (h0 : Pv 0 σ H)
    (hs : ∀ i c σ H, x.cps[i]? = some c → Pv i σ H → g (.str ⟨#[c]⟩) σ H fun σ2 H2 => tb { D with nx := Pv (i + 1), ct := Pv (i + 1), bk := D.nx } σ2 H2) (hd : ∀ σ H, Pv x.length σ H → D.nx σ H) :
    ∃ W : Nat → Nat → St → Hp → Prop, (∃ m, W 0 m σ H) ∧ ∀ i m σ H, W i m σ H →
      ((Its x).stop i H ∧ D.nx σ H) ∨ ((Its x).go i H ∧ ∃ N : St → Hp → Prop, (∀ σ' H', N σ' H' → ∃ m', m' < m ∧ W (i + 1) m' σ' H') ∧ ∀ y H', (Its x).yld i H y H' → g y σ H' fun σ2 H2 => tb { D with nx := N, ct := N, bk := D.nx } σ2 H2) := by
  refine ⟨fun i m σ H => m = x.length - i ∧ i ≤ x.length ∧ Pv i σ H, ⟨x.length, by simp, Nat.zero_le _, h0⟩, ?_⟩
  rintro i m σ H ⟨rfl, hi, p⟩
  by_cases hlt : i < x.length
  · refine .inr ⟨hlt, Pv (i + 1), fun σ' H' p' => ⟨x.length - (i + 1), by omega, rfl, hlt, p'⟩, fun y H' q => ?_⟩
    obtain ⟨e, c, hc, e2⟩ := q
    subst e e2
    exact hs i c σ _ hc p
  · have e : i = x.length := by omega
    subst e
    exact .inl ⟨Nat.le_refl _, hd σ H p⟩

/-! ## X2. texts: slices, methods, products, order -/
section
variable {X : Cx}
def rSlS : V → Option Int → Option Int → Hp → VK → Prop := fun x lo hi H Q => ∃ z, x = .str z ∧ z.length ≤ sizeLine ∧ Q (.str (Txt.slice z lo hi)) H
theorem sl_str : SlR X rSlS := by
  intro pins s σ H x v vl vu lo hi sl Q I rx hs pl pu h
  obtain ⟨z, rfl, hz, q⟩ := h
  obtain ⟨t, rfl⟩ := rx
  refine ⟨"str", _, PySem.F.slot_str_getitem.lookup, typeIs_str _ _ _, ?_⟩
  have fin : ∀ t' k, EP X pins σ Q (.str (Txt.slice z lo hi) t') { s with toks := k } := fun t' k => ⟨.str _, H, I.tok k, ⟨t', rfl⟩, q⟩
  obtain ⟨o, ho, hc, hd⟩ := hs
  cases pl with
  | none =>
    cases pu with
    | none => exact wpAny_getItem_str_slice (l := none) (u := none) (st := none) ⟨o, ho, hc, hd⟩ rfl (post_val_or_str ⟨Nat.le_trans (Txt.slice_le z _ _) hz, fun t' k => fin t' k⟩)
    | int j uj => exact wpAny_getItem_str_slice (l := none) (u := some (j, uj)) (st := none) ⟨o, ho, hc, hd⟩ rfl (post_val_or_str ⟨Nat.le_trans (Txt.slice_le z _ _) hz, fun t' k => fin t' k⟩)
  | int i ui =>
    cases pu with
    | none => exact wpAny_getItem_str_slice (l := some (i, ui)) (u := none) (st := none) ⟨o, ho, hc, hd⟩ rfl (post_val_or_str ⟨Nat.le_trans (Txt.slice_le z _ _) hz, fun t' k => fin t' k⟩)
    | int j uj => exact wpAny_getItem_str_slice (l := some (i, ui)) (u := some (j, uj)) (st := none) ⟨o, ho, hc, hd⟩ rfl (post_val_or_str ⟨Nat.le_trans (Txt.slice_le z _ _) hz, fun t' k => fin t' k⟩)
def rMt1 (g : Str → Str → V) : V → List V → Hp → VK → Prop := fun x xs H Q => ∃ z y, x = .str z ∧ xs = [.str y] ∧ Q (g z y) H
theorem mt_find : MtR X "str.find" (fun x xs H Q => ∃ z y, x = .str z ∧ xs = [.str y] ∧ Q (.int (Txt.find z y)) H) := by
  intro pins s σ H x xs v us Q I rx rs h
  obtain ⟨z, y, rfl, rfl, q⟩ := h
  obtain ⟨t, rfl⟩ := rx
  obtain ⟨u, rfl, t', rfl⟩ := vals1 rs
  exact SC.find ⟨.int _, H, I.tok _, ⟨_, rfl⟩, q⟩
/-- index of a text that is within -/
def rIndex : V → List V → Hp → VK → Prop := fun x xs H Q => ∃ z y, x = .str z ∧ xs = [.str y] ∧ Txt.contains z y = true ∧ Q (.int (Txt.find z y)) H
theorem mt_index : MtR X "str.index" rIndex := by
  intro pins s σ H x xs v us Q I rx rs h
  obtain ⟨z, y, rfl, rfl, hc, q⟩ := h
  obtain ⟨t, rfl⟩ := rx
  obtain ⟨u, rfl, t', rfl⟩ := vals1 rs
  unfold Txt.contains at hc
  unfold Txt.find at q
  cases ho : Builtin.Str.occurrences z y 0 z.length 1 with
  | nil => rw [ho] at hc; exact absurd hc (by decide)
  | cons i rest =>
    rw [ho] at q
    exact SC.index ho ⟨.int _, H, I.tok _, ⟨_, rfl⟩, q⟩
def rRstrip : V → List V → Hp → VK → Prop := fun x xs H Q => ∃ z y, x = .str z ∧ xs = [.str y] ∧ z.length ≤ sizeLine ∧ Q (.str (Txt.rstripChars z y)) H
theorem strsAre_of : ∀ {ys : List Str} {us : List Value}, Vals (ys.map V.str) us → StrsAre us ys
  | [], _, r => by cases r; exact .nil
  | y :: ys, _, r => by
    cases r with
    | cons a b =>
      obtain ⟨t, rfl⟩ := a
      exact .cons y t (strsAre_of b)
def rJoin (K : PySem.W.Frag) : V → List V → Hp → VK → Prop := fun x xs H Q => ∃ z p ys, x = .str z ∧ xs = [.ref p] ∧ SqL K H p (ys.map V.str) ∧ (ys.map (·.length)).sum + ys.length * z.length ≤ 16777216 ∧ Q (.str (Txt.join z ys)) H
theorem mt_join : MtR X "str.join" (rJoin X.K) := by
  intro pins s σ H x xs v us Q I rx rs h
  obtain ⟨z, p, ys, rfl, rfl, hp, hz, q⟩ := h
  obtain ⟨t, rfl⟩ := rx
  obtain ⟨u, rfl, e⟩ := vals1 rs
  cases e
  obtain ⟨its, rv, pl, _⟩ := I.list hp
  exact join_list pl.isList (by simpa using strsAre_of rv) hz fun t' k => ⟨.str _, H, I.tok k, ⟨t', rfl⟩, q⟩
theorem op_mul_str : OpR X (binaryOp .Mult) (fun x y H Q => ∃ z n, x = .str z ∧ y = .int n ∧ MulOk z n ∧ Q (.str (Txt.mul z n)) H) := by
  intro pins s σ H x y v u Q I rx ry h
  obtain ⟨z, n, rfl, rfl, hm, q⟩ := h
  obtain ⟨t, rfl⟩ := rx
  obtain ⟨t', rfl⟩ := ry
  exact SB.mul hm fun t' k => ⟨.str _, H, I.tok k, ⟨t', rfl⟩, q⟩
/-- isinstance(x, T), T a built-in type -/
theorem call_isinst {T : String} {b : Bool} : CallR X (.builtin "isinstance") (fun xs H Q => ∃ x t, xs = [x, .ty T] ∧ TyOf X.K H x t ∧ PySem.W.kitOne X.K t (.type T) = some b ∧ Q (.bl b) H) := by
  intro pins s σ H xs us Q I r h
  obtain ⟨x, t, rfl, ty, e, q⟩ := h
  obtain ⟨u, w', rfl, rx, ry⟩ := vals2 r
  cases ry
  exact isinst_ok I rx ty e fun tk => ⟨.bl b, H, I.tok tk, rfl, q⟩
end
end L2

namespace L2
open PySem PySem.Spec PyProof.Rows
/-! ## X3. a comprehension [elt for x in iter if tests] whose block raises nothing -/
def cxComp (X : Cx) (x : Str) (sc : Scope) (cl : List (Str × Addr)) (C : Addr) (fp : List Addr) (s : Shared) (H : Hp) : Cx where
  prog := X.prog
  w := X.w
  K := X.K
  mg := X.mg
  base := X.base
  A := X.A
  N := x :: X.N
  s₀ := s
  H₀ := H
  env := compEnvC sc cl C X.env
  outer := X.stack
  stack := X.stack
  ex := fp
  fn := fun _ => false
  calm := X.calm
  pn := []
  xe := fun _ _ => False
/-- the tests behind the for -/
def PTs (X : Cx) (ifs : List Expr) (t : TT) : Prop :=
  ∀ (pins : List (Addr × Obj)) (s : Shared) (σ : St) (H : Hp) (Q : Bool → Hp → Prop), Inv X pins σ H s → t σ H Q →
    wpAny (model X.prog X.w) X.A (forIn ifs true fun c r => if r = true then do let ok ← isTrue c X.env (eval c X.env); pure (ForInStep.yield ok) else pure (ForInStep.yield r)) (TP X pins σ Q) X.xe s
def tAlways : TT := fun _ H Q => Q true H
theorem tAlways_if {σ : St} {H : Hp} {A B : Hp → Prop} (h : A H) : tAlways σ H (fun b H4 => if b = true then A H4 else B H4) := iteT (A := A H) (B := B H) h
theorem pts_nil {X : Cx} : PTs X [] tAlways := fun _ _ _ H _ I h => wpAny_tests_nil ⟨H, I, h⟩
theorem pts_one {X : Cx} {c : Expr} {t : TT} (h : PT X c t) : PTs X [c] t := fun pins s σ H Q I hw => wpAny_tests_one (h pins s σ H Q I hw)
def tComp (wi : TI) (tt : TT) (te : TE) : TE := fun σ H Q => wi σ H fun J H1 => ∀ D, H1 D = none → ∃ W : Nat → Nat → List V → Hp → Prop,
  (∃ m, W 0 m [] (upd H1 D (.lst []))) ∧ ∀ i m ys H2, W i m ys H2 → H2 D = some (.lst ys) ∧ ((J.stop i H2 ∧ Q (.ref D) H2) ∨ (J.go i H2 ∧ ys.length < sizeLine ∧ ∀ x H3, J.yld i H2 x H3 →
    tt (some x :: σ) H3 fun b H4 => if b = true then te (some x :: σ) H4 fun y H5 => H5 D = some (.lst ys) ∧ ∃ m', m' < m ∧ W (i + 1) m' (ys ++ [y]) (upd H5 D (.lst (ys ++ [y])))
      else ∃ m', m' < m ∧ W (i + 1) m' ys H4))
theorem neA {a b : Nat} (h : a ≠ b) : (show Addr from a) ≠ (show Addr from b) := h
theorem closure_of {sc : Scope} {env : Env} (hf : ∀ y ∈ sc.names, y.2 = .free → ∃ c, env.cells.lookup y.1 = some c) :
    ∃ cl, closureFor sc env = pure cl ∧ (∀ y c, cl.lookup y = some c → env.cells.lookup y = some c) ∧ ∀ y ∈ sc.names, y.2 = .free → ∃ c, cl.lookup y.1 = some c := by
  have go : ∀ (l : List (Str × NameKind)) (acc : List (Str × Addr)), (∀ y ∈ l, y.2 = .free → ∃ c, env.cells.lookup y.1 = some c) → (∀ y c, acc.lookup y = some c → env.cells.lookup y = some c) →
      ∃ cl, (forIn l acc fun (p : Str × NameKind) r => if (p.2 == .free) = true then do let a ← cellOf env p.1; pure (ForInStep.yield ((p.1, a) :: r)) else pure (ForInStep.yield r) : Sem (List (Str × Addr))) = pure cl ∧
        (∀ y c, cl.lookup y = some c → env.cells.lookup y = some c) ∧ (∀ y c, acc.lookup y = some c → ∃ c', cl.lookup y = some c') ∧ ∀ y ∈ l, y.2 = .free → ∃ c, cl.lookup y.1 = some c := by
    intro l
    induction l with
    | nil => intro acc _ ha; exact ⟨acc, rfl, ha, fun y c e => ⟨c, e⟩, fun y hy => by simp at hy⟩
    | cons p r ih =>
      intro acc hl ha
      obtain ⟨n, k⟩ := p
      by_cases hk : k = .free
      · subst hk
        obtain ⟨c, hc⟩ := hl (n, .free) List.mem_cons_self rfl
        have e1 : cellOf env n = pure c := by unfold cellOf; rw [hc]
        have ha' : ∀ y c', ((n, c) :: acc).lookup y = some c' → env.cells.lookup y = some c' := fun y c' e => by
          by_cases hy : (y == n) = true
          · rw [List.lookup_cons, hy] at e
            cases e
            rw [eq_of_beq hy]
            exact hc
          · rw [List.lookup_cons, Bool.eq_false_iff.mpr hy] at e
            exact ha y c' e
        obtain ⟨cl, h1, h2, h3, h4⟩ := ih ((n, c) :: acc) (fun y hy => hl y (List.mem_cons_of_mem _ hy)) ha'
        have kept : ∀ y c', acc.lookup y = some c' → ∃ c'', ((n, c) :: acc).lookup y = some c'' := fun y c' e => by
          by_cases hy : (y == n) = true
          · exact ⟨c, by rw [List.lookup_cons, hy]⟩
          · exact ⟨c', by rw [List.lookup_cons, Bool.eq_false_iff.mpr hy]; exact e⟩
        refine ⟨cl, ?_, h2, fun y c' e => ?_, fun y hy hyf => ?_⟩
        · rw [List.forIn_cons]
          simp only [beq_self_eq_true, if_true, e1, pure_bind]
          exact h1
        · obtain ⟨c'', e'⟩ := kept y c' e
          exact h3 y c'' e'
        · rcases List.mem_cons.mp hy with rfl | hy
          · exact h3 n c (by rw [List.lookup_cons, beq_self_eq_true])
          · exact h4 y hy hyf
      · have hb : (k == NameKind.free) = false := by simpa using hk
        obtain ⟨cl, h1, h2, h3, h4⟩ := ih acc (fun y hy => hl y (List.mem_cons_of_mem _ hy)) ha
        refine ⟨cl, ?_, h2, h3, fun y hy hyf => ?_⟩
        · rw [List.forIn_cons]
          simp only [hb, Bool.false_eq_true, if_false, pure_bind]
          exact h1
        · rcases List.mem_cons.mp hy with rfl | hy
          · exact absurd hyf hk
          · exact h4 y hy hyf
  obtain ⟨cl, h1, h2, _, h4⟩ := go sc.names [] hf (fun y c e => by simp at e)
  refine ⟨cl, ?_, h2, h4⟩
  show ((forIn sc.names [] fun (p : Str × NameKind) r => if (p.2 == .free) = true then do let a ← cellOf env p.1; pure (ForInStep.yield ((p.1, a) :: r)) else pure (ForInStep.yield r) : Sem (List (Str × Addr))) >>= fun s => pure s) = pure cl
  rw [bind_pure, h1]
theorem relabel_lookup {sc : Scope} {env : Env} {y : Str} {k : NameKind} (h : (relabel sc env).names.lookup y = some k) : sc.names.lookup y = some k ∨ (k = .cell ∧ sc.names.lookup y = some .free ∧ env.kindOf y = some .cell) := by
  have go : ∀ (l : List (Str × NameKind)), (l.map fun (n, k) => if (k == .free && env.scope.kind == .function && env.kindOf n == some .cell) then (n, NameKind.cell) else (n, k)).lookup y = some k →
      l.lookup y = some k ∨ (k = .cell ∧ l.lookup y = some .free ∧ env.kindOf y = some .cell) := by
    intro l
    induction l with
    | nil => intro h; simp at h
    | cons p r ih =>
      obtain ⟨n, kk⟩ := p
      intro h
      simp only [List.map_cons] at h
      by_cases hc : (kk == NameKind.free && env.scope.kind == .function && env.kindOf n == some .cell) = true
      · rw [if_pos hc] at h
        rw [List.lookup_cons] at h ⊢
        cases hy : y == n with
        | true =>
          rw [hy] at h
          have e : k = .cell := (Option.some.inj h).symm
          have e1 : kk = .free := by
            have := (Bool.and_eq_true_iff.mp (Bool.and_eq_true_iff.mp hc).1).1
            simpa using this
          have e2 : env.kindOf n = some .cell := by
            have := (Bool.and_eq_true_iff.mp hc).2
            simpa using this
          rw [eq_of_beq hy]
          exact .inr ⟨e, by rw [e1], e2⟩
        | false =>
          rw [hy] at h
          exact ih h
      · rw [if_neg hc] at h
        rw [List.lookup_cons] at h ⊢
        cases hy : y == n with
        | true => rw [hy] at h; exact .inl h
        | false => rw [hy] at h; exact ih h
  exact go sc.names h
section
variable {X : Cx} {elt iter : Expr} {x : Str} {px pos : Pos} {ifs : List Expr} {sc : Scope} {wi : TI} {tt : TT} {te : TE}
theorem pe_comp (hc : X.calm = true) (hN : X.N.Nodup) (hi : PI X (.Name x px) iter wi)
    (hb : ∀ (cl : List (Str × Addr)) (C : Addr) (fp : List Addr) (s : Shared) (H : Hp), PTs (cxComp X x sc cl C fp s H) ifs tt ∧ PE (cxComp X x sc cl C fp s H) elt te)
    (hx : sc.names.lookup x = some .local := by rfl) (hkind : sc.kind = .function := by rfl)
    (hnames : ∀ y ∈ sc.names, y.2 = .local → sc.names.lookup y.1 = some .local := by decide +kernel) (hcell : ∀ y ∈ sc.names, y.2 ≠ .cell := by decide +kernel)
    (hfree : (sc.names.all fun y => y.2 != .free || X.env.scope.names.lookup y.1 == some .cell) = true := by rfl)
    (hlo : (X.N.all fun y => sc.names.lookup y != some .local) = true := by rfl)
    (hs : ∀ x, foldedSetIterable iter X.env x = pure x := by intro _; rfl) :
    PE X (.ListComp elt [⟨.Name x px, iter, ifs, 0⟩] sc pos) (tComp wi tt te) := by
  intro pins s σ H Q I h
  have hfr : ∀ y ∈ sc.names, y.2 = .free → X.env.kindOf y.1 = some .cell := fun y hy e => by
    have q := List.all_eq_true.mp hfree y hy
    rw [e] at q
    simpa [Env.kindOf] using q
  have hlo' : ∀ y ∈ X.N, sc.names.lookup y ≠ some .local := fun y hy e => by
    have q := List.all_eq_true.mp hlo y hy
    rw [e] at q
    simp at q
  obtain ⟨cl, hclos, hsub, hhas⟩ := closure_of (env := X.env) (sc := sc) fun y hy e => I.ok.has y.1 (.inl (hfr y hy e))
  rw [eval_ListComp]
  refine wpAny_comprehension_free (use := none) rfl hs hclos hkind hnames (thn (hi pins s σ H _ I h) fun v s1 h1 => thn h1 fun itv s2 h2 => ?_)
  obtain ⟨it, fp, tn, J, H2, e, I2, T, st2, f2, hW⟩ := h2
  subst e
  -- the accumulator, then the block's frame
  have nobinds : ∀ y ∈ ([] : List (Str × Value)), sc.names.lookup y.1 = some .local := fun y hy => absurd hy (by simp)
  refine wpAny_newObj_type ?_
  refine wpAny_newFunctionEnv hcell nobinds (fun h₁ hns₁ hsb₁ => ?_) hkind
  dsimp only at hns₁ hsb₁ ⊢
  generalize hHa : s2.heap.push { cls := .type "list", dict := none, data := .seq ([] : List Value).toArray } = Ha at hns₁ hsb₁ ⊢
  have hC : Ha.objs.size = s2.heap.objs.size + 1 := by rw [← hHa, Heap.size_push]
  have hDC : s2.heap.objs.size ≠ Ha.objs.size := by rw [hC]; exact Nat.ne_of_lt (Nat.lt_succ_self _)
  have hCle : s2.heap.objs.size ≤ Ha.objs.size := by rw [hC]; exact Nat.le_succ _
  have neC : ∀ b o, s2.heap.get? b = some o → b ≠ Ha.objs.size := fun b o e => Nat.ne_of_lt (Nat.lt_of_lt_of_le (Heap.lt_size e) hCle)
  have old : ∀ b o, s2.heap.get? b = some o → h₁.get? b = some o := fun b o e => hsb₁.extBut b o (neC b o e) (Heap.get?_push_of_some _ (hHa ▸ Heap.get?_push_of_some _ e))
  have hacc : h₁.get? s2.heap.objs.size = some { cls := .type "list", dict := none, data := .seq ([] : List Value).toArray } := hsb₁.extBut _ _ hDC (Heap.get?_push_of_some _ (hHa ▸ Heap.get?_push_size _ rfl))
  generalize hDe : s2.heap.objs.size = D at *
  generalize hCe : Ha.objs.size = C at *
  have hHD : H2 D = none := I2.hok.fresh (Nat.le_of_eq hDe)
  have hHC : H2 C = none := I2.hok.fresh (by omega)
  obtain ⟨W, ⟨m0, w0⟩, turn⟩ := hW D hHD
  have fplt : ∀ b ∈ fp, b < D := fun b hb => by
    obtain ⟨o, e, _⟩ := T.obj _ _ st2 b hb
    rw [← hDe]
    exact Heap.lt_size e
  -- the block's context
  let X' : Cx := cxComp X x sc cl C fp s2 H2
  have nofs : ∀ b ∈ fp, b ∉ frs X.stack := fun b hb z => by
    rcases List.mem_cons.mp (I2.stkSub b z) with e | e
    · exact (f2 b hb).2.1 e
    · exact (f2 b hb).2.2.1 e
  have ok' : X'.Ok := by
    refine ⟨I2.ok.mod, hkind, I2.ok.glob, I2.ok.blt, ?_, fun y z c e1 e2 => I2.ok.inj y z c (hsub y c e1) (hsub z c e2), fun y hy => ?_, fun y c e => absurd (show false = true from e) Bool.false_ne_true, I2.ok.hd, I2.ok.frames, .inl rfl, fun b hb => ⟨?_, fun y c e => ?_⟩, I2.bs,
      Nat.le_trans I2.ok.bsz I2.sz, fun b o e hb => ?_, nofs, I2.stack, I2.stkFree⟩
    · show s2.heap.objs.size ≤ C
      omega
    · rcases hy with hy | hy
      · rcases relabel_lookup (show (relabel sc X.env).names.lookup y = some .cell from hy) with e | ⟨_, e, _⟩
        · exact absurd rfl (hcell _ (PySem.mem_of_lookup e))
        · exact hhas _ (PySem.mem_of_lookup e) rfl
      · rcases relabel_lookup (show (relabel sc X.env).names.lookup y = some .free from hy) with e | ⟨e, _⟩
        · exact hhas _ (PySem.mem_of_lookup e) rfl
        · cases e
    · exact Nat.ne_of_lt (Nat.lt_of_lt_of_le (fplt b hb) (by omega : D ≤ C))
    · exact (f2 b hb).2.2.2.2.1 y c (hsub y c e)
    · rcases (f2 b hb).2.2.2.1 with z | z
      · exact I2.ok.noex b o e z
      · exact absurd (Nat.lt_of_lt_of_le (Nat.lt_of_lt_of_le (Heap.lt_size e) I2.ok.bsz) z) (Nat.lt_irrefl _)
  have I4 : ∀ tk, Inv X' [] (none :: σ) (upd H2 D (.lst [])) { s2 with heap := h₁, toks := tk } := fun tk => by
    refine ⟨ok', rfl, I2.bare, Un.laid old (Nat.le_of_eq hDe) hHD, ⟨_, hns₁, fun i y v e1 e2 e3 => ?_⟩, fun y c e => ?_, ?_, fun y c e => ?_, fun p hp => ?_, I2.hok.laid old (Nat.le_of_eq hDe) ?_, ?_⟩
    · cases i with
      | zero => simp at e2
      | succ i =>
        have e1 : X.N[i]? = some y := by simpa [X', cxComp] using e1
        have e2 : σ[i]? = some (some v) := by simpa using e2
        have e3 : Vis (relabel sc X.env) y := e3
        have hyN : y ∈ X.N := List.mem_of_getElem? e1
        have free : sc.names.lookup y = some .free ∧ (relabel sc X.env).names.lookup y ≠ some .local := by
          rcases e3 with e | e | e
          · rcases relabel_lookup e with q | ⟨q, _⟩
            · exact absurd q (hlo' y hyN)
            · cases q
          · rcases relabel_lookup e with q | ⟨_, q, _⟩
            · exact absurd rfl (hcell _ (PySem.mem_of_lookup q))
            · exact ⟨q, by rw [e]; decide⟩
          · rcases relabel_lookup e with q | ⟨q, _⟩
            · exact ⟨q, by rw [e]; decide⟩
            · cases q
        have kc : X.env.kindOf y = some .cell := hfr _ (PySem.mem_of_lookup free.1) rfl
        obtain ⟨m, hn, hl⟩ := I2.loc
        obtain ⟨u, ru, lk⟩ := hl i y v e1 e2 (.inr (.inl kc))
        rcases lk with ⟨q, _⟩ | ⟨_, c, hcc, ⟨o, ho, hd⟩⟩
        · rw [kc] at q; cases q
        · obtain ⟨c', hc'⟩ := hhas _ (PySem.mem_of_lookup free.1) rfl
          have e4 := hsub _ _ hc'
          rw [hcc] at e4
          cases e4
          refine ⟨u, ru, .inr ⟨?_, c, hc', ⟨o, old c o ho, hd⟩⟩⟩
          rcases e3 with e | e | e
          · exact absurd e free.2
          · exact .inl e
          · exact .inr e
    · obtain ⟨v, o, ho, hd⟩ := I2.cell y c (hsub y c e)
      exact ⟨v, o, old c o ho, hd⟩
    · show upd H2 D (.lst []) C = none
      rw [upd_ne (neA (by omega))]
      exact hHC
    · obtain ⟨v, o, ho, hd⟩ := I2.cell y c (hsub y c e)
      have hlt := Heap.lt_size ho
      rw [hDe] at hlt
      show upd H2 D (.lst []) c = none
      rw [upd_ne (Nat.ne_of_lt hlt)]
      exact I2.freeC y c (hsub y c e)
    · exact absurd (show p ∈ ([] : List (Addr × Obj)) from hp) (by simp)
    · exact ⟨Nat.zero_le _, [], 0, .nil, hacc⟩
    · show (none :: σ).length = (x :: X.N).length
      rw [List.length_cons, List.length_cons, I2.len]
  have hN' : X'.N.Nodup := by
    show (x :: X.N).Nodup
    exact List.nodup_cons.mpr ⟨fun z => hlo' x z hx, hN⟩
  have hx' : X'.env.scope.names.lookup x = some .local := lookup_relabel_local hx
  obtain ⟨PT', PE'⟩ := hb cl C fp s2 H2
  have fpX : ∀ {pins' : List (Addr × Obj)} {H' : Hp}, (∀ b ∈ fp, H' b = none) → (∀ p ∈ pins', p.1 ∉ fp) → ∀ b ∈ fp, FpOk X' pins' H' b := fun hn hp b hb => by
    refine ⟨hn b hb, ?_, nofs b hb, .inl hb, fun y c e => (f2 b hb).2.2.2.2.1 y c (hsub y c e), fun p q z => ?_⟩
    · exact Nat.ne_of_lt (Nat.lt_of_lt_of_le (fplt b hb) (by omega : D ≤ C))
    · rcases List.mem_append.mp q with q | q
      · exact absurd (show p ∈ ([] : List (Addr × Obj)) from q) (by simp)
      · exact hp p q (by rw [z]; exact hb)
  have loop : ∀ tk, codeAny (model X.prog X.w) X.A (.compLoop (.ListComp elt [⟨.Name x px, iter, ifs, 0⟩] sc pos) 0 (.ref it) (.ref D) (compEnvC sc cl C X.env)) (compPost (model X.prog X.w) X.A X.xe none (EP X pins σ Q) (.ref D) C) { s2 with heap := h₁, toks := tk } := fun tk => by
    refine codeAny_compLoop_tests (fun n s' => ∃ i ys o H', Inv X' [] (o :: σ) H' s' ∧ tn i s'.heap ∧ (∀ b ∈ fp, H' b = none) ∧ W i n ys H') ?_ m0 ⟨0, [], none, _, I4 tk, T.keep _ _ _ st2 fun b hb o e => old b o e, fun b hb => ?_, w0⟩
    · rintro n s3 ⟨i, ys, o3, H3, I3, st3, fr3, w3⟩
      obtain ⟨hD3, alt⟩ := turn i n ys H3 w3
      rcases alt with ⟨stop, qn⟩ | ⟨go, hlen, step⟩
      · refine wpAny_mono (T.done X' rfl rfl rfl hc i [] s3 _ H3 (fun _ _ => False) I3 (fpX fr3 (by simp)) st3 stop) (fun r s4 ⟨hr, I4'⟩ => ?_) fun _ _ f => f.elim
        subst hr
        obtain ⟨mC, hnC, _⟩ := I4'.loc
        refine ⟨mC, hnC, fun h' hs' => ?_⟩
        have nC : ∀ b u, H3 b = some u → b ≠ C := fun b u e z => by rw [z] at e; rw [show H3 C = none from I4'.free] at e; cases e
        have hok' : HOk X.prog X.w H3 h' := fun b u e => (I4'.hok b u e).stay (fun c v hcc q => hs'.extBut c v (by
          rcases hcc with z | z
          · rw [z]; exact nC b u e
          · exact nC c _ z) q) (fun _ q => q) fun _ _ q => q
        have un : Un (frs X.stack) fp H2 H3 s2.heap h' :=
          ⟨fun b o e n1 n2 n3 => hs'.extBut b o (neC b o e) (I4'.base.keep b o e n1 n2 n3), fun b o e n1 n2 n3 => by
              obtain ⟨sl, q⟩ := I4'.base.slot b o e n1 n2 n3
              exact ⟨sl, hs'.extBut b _ (neC b o e) q⟩, I4'.base.free, fun b o e n1 => by
              obtain ⟨o', q⟩ := I4'.base.there b o e n1
              exact ⟨o', hs'.extBut b _ (neC b o e) q⟩, I4'.base.tups, I4'.base.frzs, I4'.base.tbls⟩
        exact ⟨.ref D, H3, I2.call' (s' := { s4 with heap := h' }) I4'.os un hok' I4'.bare fun b hb => ⟨(f2 b hb).2.2.2.1, (f2 b hb).2.1, (f2 b hb).2.2.2.2.1, (f2 b hb).2.2.2.2.2⟩, rfl, qn⟩
      · refine wpAny_mono (T.item X' rfl rfl rfl hc i [] s3 _ H3 (fun _ _ => False) I3 (fpX fr3 (by simp)) st3 go) (fun r s4 ⟨u, hr, h4⟩ => ?_) fun _ _ f => f.elim
        subst hr
        have eg : (letOwnedTupleGo (.Name x px) (.ref it) u >>= fun _ => assign (.Name x px) (compEnvC sc cl C X.env) u) = assign (.Name x px) (compEnvC sc cl C X.env) u := pure_bind () _
        show wpAny _ _ (assign (.Name x px) (compEnvC sc cl C X.env) u) _ _ s4
        rw [← eg]
        refine wpAny_bind (wpAny_mono h4 (fun _ s5 ⟨y, H5, I5, r5, y5, st5, fr5⟩ => ?_) fun _ _ f => f.elim)
        have I5' := I5.pinned (fpX fr5 (by simp)) (T.obj _ _ st5)
        refine wpAny_mono (pg_name (X := X') (i := 0) (pos := px) hN' rfl (.inl hx') (.inr hx') _ s5 _ H5 y u (fun σ' H' => σ' = some y :: σ ∧ H' = H5) I5' r5 ⟨rfl, rfl⟩) (fun _ s6 ⟨σ6, H6, I6, e1, e2⟩ => ?_) fun _ _ f => f.elim
        subst e1 e2
        refine wpAny_mono (PT' _ s6 _ _ _ I6 (step y _ y5)) (fun ok s7 ⟨H7, I7, q7⟩ => ?_) fun _ _ f => f.elim
        have again : ∀ {s8 : Shared} {H8 : Hp} {ys' : List V}, Inv X' ([] ++ pinsAt fp s5.heap) (some y :: σ) H8 s8 → (∃ m', m' < n ∧ W (i + 1) m' ys' H8) → ∃ m, m < n ∧ ∃ i ys o H', Inv X' [] (o :: σ) H' s8 ∧ tn i s8.heap ∧ (∀ b ∈ fp, H' b = none) ∧ W i m ys H' := fun {s8 H8 ys'} I8 ⟨m', hm, w8⟩ => by
          refine ⟨m', hm, i + 1, ys', some y, H8, I8.unpinned, T.keep _ _ _ st5 fun b hb o e => (I8.pin (b, o) (List.mem_append_right _ (List.mem_append_right _ (mem_pinsAt hb e)))).1, fun b hb => ?_, w8⟩
          obtain ⟨o, e, d⟩ := T.obj _ _ st5 b hb
          exact (I8.pin (b, o) (List.mem_append_right _ (List.mem_append_right _ (mem_pinsAt hb e)))).2.1
        cases ok with
        | false => exact again I7 q7
        | true =>
          have q7 : te (some y :: σ) H7 _ := q7
          refine wpAny_mono (PE' _ s7 _ _ _ I7 q7) (fun z s8 ⟨yv, H8, I8, r8, hD8, q8⟩ => ?_) fun _ _ f => f.elim
          refine wpAny_mono (mt_append (X := X') _ s8 _ H8 (.ref D) [yv] (.ref D) [z] (fun _ H9 => H9 = upd H8 D (.lst (ys ++ [yv]))) I8 rfl (.cons r8 .nil) ⟨D, ys, yv, rfl, rfl, hD8, hlen, rfl⟩) (fun _ s9 ⟨_, H9, I9, _, e9⟩ => ?_) fun _ _ f => f.elim
          subst e9
          exact again I9 q8
    · show upd H2 D (.lst []) b = none
      rw [upd_ne (Nat.ne_of_lt (fplt b hb))]
      exact (f2 b hb).1
  exact codeAny_compStart_list (loop _) (T.self _ _ _ _ _ (T.keep _ _ _ st2 fun b hb o e => old b o e) (loop _))
end
/-! the forms one uses -/
theorem SqL.new {K : PySem.W.Frag} {H : Hp} {a D : Addr} {xs : List V} {o : HO} (h : SqL K H a xs) (n : H D = none) : SqL K (upd H D o) a xs := by
  rcases h with (h | ⟨u, h⟩) | h
  · exact .inl (.inl (by rw [upd_ne (ne_of_none h n)]; exact h))
  · exact .inl (.inr ⟨u, by rw [upd_ne (ne_of_none h n)]; exact h⟩)
  · exact .inr h
/-- over a list, no test, the element a value that makes nothing -/
theorem comp_list {K : PySem.W.Frag} {a : Addr} {xs : List V} {te : TE} {σ : St} {H : Hp} {Q : VK} (f : V → V) (hl : SqL K H a xs) (hz : xs.length ≤ sizeLine)
    (he : ∀ (i : Nat) (x : V) (H' : Hp) (R : VK), xs[i]? = some x → Same H H' → R (f x) H' → te (some x :: σ) H' R) (hq : ∀ D, H D = none → Q (.ref D) (upd H D (.lst (xs.map f)))) :
    ∀ D, H D = none → ∃ W : Nat → Nat → List V → Hp → Prop,
  (∃ m, W 0 m [] (upd H D (.lst []))) ∧ ∀ i m ys H2, W i m ys H2 → H2 D = some (.lst ys) ∧ (((Itl K a).stop i H2 ∧ Q (.ref D) H2) ∨ ((Itl K a).go i H2 ∧ ys.length < sizeLine ∧ ∀ x H3, (Itl K a).yld i H2 x H3 →
    tAlways (some x :: σ) H3 fun b H4 => if b = true then te (some x :: σ) H4 fun y H5 => H5 D = some (.lst ys) ∧ ∃ m', m' < m ∧ W (i + 1) m' (ys ++ [y]) (upd H5 D (.lst (ys ++ [y])))
      else ∃ m', m' < m ∧ W (i + 1) m' ys H4)) := by
  intro D hD
  refine ⟨fun i m ys H2 => m = xs.length - i ∧ i ≤ xs.length ∧ ys = (xs.take i).map f ∧ H2 = upd H D (.lst ys), ⟨xs.length, by simp, Nat.zero_le _, by simp, rfl⟩, ?_⟩
  rintro i m ys H2 ⟨rfl, hi, rfl, rfl⟩
  have q : SqL K (upd H D (.lst ((xs.take i).map f))) a xs := hl.new hD
  refine ⟨upd_same, ?_⟩
  by_cases hlt : i < xs.length
  · refine .inr ⟨⟨xs, xs[i], q, by simp [hlt]⟩, by rw [List.length_map, List.length_take]; omega, fun x H3 y => ?_⟩
    obtain ⟨e, y⟩ := y
    subst e
    have hx := y xs q
    refine tAlways_if (he i x _ _ hx (fun b o e => by rw [upd_ne (ne_of_none e hD)]; exact e) ⟨upd_same, xs.length - (i + 1), by omega, rfl, hlt, ?_, ?_⟩)
    · rw [List.take_add_one, hx, List.map_append]
      rfl
    · rw [upd_upd]
  · have e : i = xs.length := by omega
    subst e
    refine .inl ⟨⟨xs, q, Nat.le_refl _⟩, ?_⟩
    rw [List.take_length]
    exact hq D hD
/-- over the signs of a text, the signs that pass a test, as they are -/
theorem comp_signs {x : Str} {tt : TT} {σ : St} {H : Hp} {Q : VK} (p : Nat → Bool) (hz : x.length ≤ sizeLine)
    (ht : ∀ (i : Nat) (c : Nat) (H' : Hp) (R : Bool → Hp → Prop), x.cps[i]? = some c → R (p c) H' → tt (some (.str ⟨#[c]⟩) :: σ) H' R) (hq : ∀ D, H D = none → Q (.ref D) (upd H D (.lst ((x.cps.toList.filter p).map fun c => V.str ⟨#[c]⟩)))) :
    ∀ D, H D = none → ∃ W : Nat → Nat → List V → Hp → Prop,
  (∃ m, W 0 m [] (upd H D (.lst []))) ∧ ∀ i m ys H2, W i m ys H2 → H2 D = some (.lst ys) ∧ (((Its x).stop i H2 ∧ Q (.ref D) H2) ∨ ((Its x).go i H2 ∧ ys.length < sizeLine ∧ ∀ y H3, (Its x).yld i H2 y H3 →
    tt (some y :: σ) H3 fun b H4 => if b = true then tVar 0 (some y :: σ) H4 fun z H5 => H5 D = some (.lst ys) ∧ ∃ m', m' < m ∧ W (i + 1) m' (ys ++ [z]) (upd H5 D (.lst (ys ++ [z])))
      else ∃ m', m' < m ∧ W (i + 1) m' ys H4)) := by
  intro D hD
  refine ⟨fun i m ys H2 => m = x.length - i ∧ i ≤ x.length ∧ ys = ((x.cps.toList.take i).filter p).map (fun c => V.str ⟨#[c]⟩) ∧ H2 = upd H D (.lst ys), ⟨x.length, by simp, Nat.zero_le _, by simp, rfl⟩, ?_⟩
  rintro i m ys H2 ⟨rfl, hi, rfl, rfl⟩
  refine ⟨upd_same, ?_⟩
  by_cases hlt : i < x.length
  · refine .inr ⟨hlt, ?_, fun y H3 q => ?_⟩
    · rw [List.length_map]
      have := List.length_filter_le p (x.cps.toList.take i)
      rw [List.length_take] at this
      omega
    · obtain ⟨e, c, hx, e2⟩ := q
      subst e e2
      have hx' : x.cps.toList[i]? = some c := by simpa using hx
      refine ht i c _ _ hx ?_
      cases hp : p c with
      | true =>
        refine iteT ⟨_, rfl, upd_same, x.length - (i + 1), by omega, rfl, hlt, ?_, ?_⟩
        · rw [List.take_add_one, hx', List.filter_append, List.map_append]
          simp [hp]
        · rw [upd_upd]
      | false =>
        refine iteF ⟨x.length - (i + 1), by omega, rfl, hlt, ?_, rfl⟩
        rw [List.take_add_one, hx', List.filter_append, List.map_append]
        simp [hp]
  · have e : i = x.length := by omega
    subst e
    refine .inl ⟨Nat.le_refl _, ?_⟩
    rw [show x.length = x.cps.toList.length by simp [Str.length], List.take_length]
    exact hq D hD
theorem comp_listT {K : PySem.W.Frag} {j : Nat} {a : Addr} {xs : List V} {te : TE} {σ : St} {H : Hp} {Q : VK} (f : V → V) (hv : σ[j]? = some (some (.ref a))) (hl : SqL K H a xs) (hz : xs.length ≤ sizeLine)
    (he : ∀ (i : Nat) (x : V) (H' : Hp) (R : VK), xs[i]? = some x → Same H H' → R (f x) H' → te (some x :: σ) H' R) (hq : ∀ D, H D = none → Q (.ref D) (upd H D (.lst (xs.map f)))) : tComp (iList K (tVar j)) tAlways te σ H Q :=
  ⟨_, hv, a, rfl, ⟨_, hl⟩, comp_list f hl hz he hq⟩
end L2

namespace L2
open PySem PySem.Spec PyProof.Rows
/-! ## X4. a def of the text that may be called by its name -/
def Df (P : Program) (w : World) (K : PySem.W.Frag) (mg : Str → Option Value) (base : Heap) (x : Str) (k : Nat) (ps : List Str) (sp : Sp) : Prop :=
  ∃ (f : Addr) (fd : FuncData), mg x = some (.ref f) ∧ PySem.W.keepIn K (.ref f) = true ∧ Binds K fd ps [] ∧ FnOk P w K mg base CX0 k f fd ps sp
theorem pe_df {X : Cx} {x : Str} {k : Nat} {ps : List Str} {sp : Sp} {e : Expr} {es : List Expr} {p pos : Pos} {t : TA} (D : Df X.prog X.w X.K X.mg X.base x k ps sp) (hr : Room k X.A) (ha : PA X (e :: es) t)
    (hg : Gl X x := by rfl) (hdb : (x == ("__debug__" : Str)) = false := by decide) (he : starEach (e :: es) X.env = (false, eval e X.env) :: starEach es X.env := by rfl) (hpl : (backTo pos (starEach es X.env)).any (·.1) = false := by rfl) :
    PE X (.Call (.Name x p) (e :: es) [] pos) (tCall sp [] E0 t) := by
  obtain ⟨f, fd, h1, h2, h3, F⟩ := D
  exact pe_call F hr hg h1 h2 h3 .nil pass0 ha hdb he hpl
theorem iteD {c A B : Prop} [Decidable c] (hc : c) (h : A) : if decide c = true then A else B := by
  rw [decide_eq_true hc]
  exact iteT h
theorem iteN {c A B : Prop} [Decidable c] (hc : ¬ c) (h : B) : if decide c = true then A else B := by
  rw [decide_eq_false hc]
  exact iteF h
theorem iteB {c : Bool} {A B : Prop} (h1 : c = true → A) (h2 : c = false → B) : if c = true then A else B := by
  cases c
  · exact iteF (h2 rfl)
  · exact iteT (h1 rfl)
theorem ite3 {c A B : Prop} [Decidable c] (h1 : c → A) (h2 : ¬ c → B) : if decide c = true then A else B := by
  by_cases h : c
  · exact iteD h (h1 h)
  · exact iteN h (h2 h)
theorem Same.upd {H : Hp} {D : Addr} {o : HO} (n : H D = none) : Same H (upd H D o) := fun b u e => by rw [upd_ne (ne_of_none e n)]; exact e
theorem line_ge {n : Nat} (h : n ≤ 16777216) : n ≤ sizeLine := by rw [sizeLine_eq]; exact h
theorem atI_in {α : Type} {xs : List α} {i : Int} (h0 : 0 ≤ i) (h1 : i < xs.length) : ∃ v, atI xs i = some v ∧ xs[i.toNat]? = some v := by
  obtain ⟨j, rfl⟩ := Int.eq_ofNat_of_zero_le h0
  have hj : j < xs.length := by omega
  exact ⟨xs[j], atI_nat (by simp [hj]), by simp [hj]⟩
end L2
namespace L2
open PySem PySem.Spec PyProof.Rows
/-- a statement, what holds behind it, the rest -/
def tCut (t u : TS) : TS := fun D σ H => ∃ M : St → Hp → Prop, t { D with nx := M } σ H ∧ ∀ σ' H', M σ' H' → u D σ' H'
theorem pss_cut {X : Cx} {st : Stmt} {rest : List Stmt} {t u : TS} (h1 : PS X st t) (h2 : PSs X rest u) : PSs X (st :: rest) (tCut t u) := by
  intro pins s σ H D I h
  obtain ⟨M, h, hM⟩ := h
  refine wpAny_execs_cons (thn (h1 pins s σ H { D with nx := M } I h) fun f s1 q => ?_)
  cases f with
  | next =>
    obtain ⟨σ', H', I', q⟩ := q
    exact h2 pins s1 σ' H' D I' (hM σ' H' q)
  | ret v => exact q
  | brk => exact q
  | cont => exact q
def cutI (ns : List Int) (lo hi : Option Int) : List Int := (ns.drop (HT.sIx ns.length 0 lo)).take (HT.sIx ns.length ns.length hi - HT.sIx ns.length 0 lo)
theorem cutV_ints (ns : List Int) (lo hi : Option Int) : cutV (ns.map V.int) lo hi = (cutI ns lo hi).map V.int := by
  unfold cutV cutI
  rw [List.length_map, List.map_take, List.map_drop]
theorem cutI_length (ns : List Int) (lo hi : Option Int) : (cutI ns lo hi).length ≤ ns.length := by
  unfold cutI
  rw [List.length_take, List.length_drop]
  omega
/-- the law's own promise -/
def spLaw (K : PySem.W.Frag) : Sp := fun vs H Q _ => ∃ (a : Addr) (ns : List Int), vs = [.ref a] ∧ SqL K H a (ns.map V.int) ∧ ns.length ≤ 63 ∧ ∀ H', Q (.bl true) H'
theorem walk63 {l : PySem.W.OpenLaw} {k : Nat} {x : Str} {q : Program} {loose : List Str} {XP : (Str → Option Value) → Heap → Prop} {YP : World → Heap → Prop} {d : DefRec} {K : Params → PySem.W.Frag} (hn : l.most = some 63) (hdf : d.params.defaults = []) (hr : Room k callerA)
    (hY : ∀ (w : World) (h : Heap), YP w h → (K w.params).In h)
    (F : ∀ (w : World) (mg : Str → Option Value) (fa : Addr) (h : Heap), (K w.params).In h → h.Ns mainGlobals mg → mg d.name = some (.ref fa) →
      ∃ fd : FuncData, (∀ (s : Shared) (u : Value), BindsTo s fd ⟨[u], []⟩ [(x, u)]) ∧ ∀ base : Heap, (K w.params).In base → base.Ns mainGlobals mg → FnOk l.prog w (K w.params) mg base CX0 k fa fd [x] (spLaw (K w.params))) :
    PySem.W.WalkO q loose XP YP l.row.toRowW d [] (fun f vs => PySem.call f vs) :=
  L2.walk_of (n := 63) (k := k) (x := x) (CX := fun _ => CX0) (sp := fun w => spLaw (K w.params)) hn (by decide) hdf hr hY F (fun _ _ a ns hl _ hS => ⟨a, ns, rfl, hS, hl, fun _ => rfl⟩) fun _ _ _ _ _ z => z
end L2
namespace L2
open PySem PySem.Spec PyProof.Rows
section
variable {X : Cx}
/-- the same, said plainly -/
theorem op_m : OpR X (binaryOp .Mod) (fun x y H Q => ∃ i j, x = .int i ∧ y = .int j ∧ 0 < j ∧ Q (.int (i % j)) H) := op_mod
theorem op_f : OpR X (binaryOp .FloorDiv) (fun x y H Q => ∃ i j, x = .int i ∧ y = .int j ∧ (0 < j ∧ j < 1073741824) ∧ Q (.int (i / j)) H) := op_fdiv
theorem op_a : OpR X (binaryOp .Add) (fun x y H Q => ∃ i j, x = .int i ∧ y = .int j ∧ Q (.int (i + j)) H) := op_add
theorem op_p : OpR X (binaryOp .Mult) (fun x y H Q => ∃ i j, x = .int i ∧ y = .int j ∧ ((-(2 ^ 64) < i ∧ i < 2 ^ 64) ∨ (-(2 ^ 64) < j ∧ j < 2 ^ 64)) ∧ Q (.int (i * j)) H) := op_mul
end
end L2

namespace RA
open PySem PySem.StrLaws Builtin Builtin.Str
/-- a text by its codes -/
def tx (l : List Nat) : Str := ⟨l.toArray⟩
theorem tx_cps (l : List Nat) : (tx l).cps.toList = l := by simp [tx]
theorem tx_len (l : List Nat) : (tx l).length = l.length := by simp [tx, Str.length]
theorem tx_app (a b : List Nat) : tx a ++ tx b = tx (a ++ b) := by
  apply Str.ext'
  show a.toArray ++ b.toArray = (a ++ b).toArray
  simp
theorem tx_get (l : List Nat) (i : Nat) : (tx l).cps[i]? = l[i]? := by simp [tx]
theorem at_one (l : List Nat) (c i : Nat) : At (tx l) ⟨#[c]⟩ (tx l).length i ↔ l[i]? = some c := by
  have h := subAt_one (tx l) c i
  rw [tx_cps] at h
  exact h
theorem contains_one (l : List Nat) (c : Nat) : Txt.contains (tx l) ⟨#[c]⟩ = decide (c ∈ l) := by
  have h := found_one (tx l) c
  rw [tx_cps] at h
  exact h
theorem idxOf_le : ∀ {l : List Nat} {c i : Nat}, l[i]? = some c → l.idxOf c ≤ i
  | [], _, _, h => by simp at h
  | a :: l, c, 0, h => by
    have e : a = c := by simpa using h
    subst e
    simp
  | a :: l, c, i + 1, h => by
    rw [List.idxOf_cons]
    cases e : a == c with
    | true => simp
    | false =>
      have := idxOf_le (l := l) (c := c) (i := i) (by simpa using h)
      simp
      omega
theorem find_one {l : List Nat} {c : Nat} (h : c ∈ l) : Txt.find (tx l) ⟨#[c]⟩ = (l.idxOf c : Nat) := by
  unfold Txt.find
  rcases occ_head (tx l) ⟨#[c]⟩ 1 (Nat.le_refl _) with ⟨_, hn⟩ | ⟨i, r, e, ha, hn⟩
  · obtain ⟨i, hi⟩ := List.mem_iff_getElem?.mp h
    exact absurd ((at_one l c i).mpr hi) (hn i)
  · rw [e]
    have hi := (at_one l c i).mp ha
    have hlt : l.idxOf c < l.length := List.idxOf_lt_length_of_mem h
    have e1 : l[l.idxOf c]? = some c := by
      rw [List.getElem?_eq_getElem hlt, List.getElem_idxOf hlt]
    have h1 : ¬ l.idxOf c < i := fun z => hn _ z ((at_one l c _).mpr e1)
    have h2 : l.idxOf c ≤ i := by
      exact idxOf_le hi
    have : i = l.idxOf c := by omega
    rw [this]
theorem slice_to (x : Str) {j : Int} (h : 0 ≤ j) : Txt.slice x none (some j) = tx (x.cps.toList.take j.toNat) := by
  have go : ∀ j : Int, 0 ≤ j → j ≤ x.cps.toList.length → Txt.slice x none (some j) = tx (x.cps.toList.take j.toNat) := fun j h0 h1 => by
    have e : Txt.slice x none (some j) = sliceText x none (some j) := rfl
    rw [e, sliceText_to ⟨h0, h1⟩]
    simp [tx]
  by_cases hj : j ≤ x.cps.toList.length
  · exact go j h hj
  · have e : Txt.slice x none (some j) = Txt.slice x none (some (x.length : Int)) := by
      have hl : x.length = x.cps.toList.length := by simp [Str.length]
      have e1 : strSliceIndices none (some j) 1 x.length = strSliceIndices none (some (x.length : Int)) 1 x.length := by
        have a : ¬ (j < 0) := by omega
        have b : ¬ ((x.length : Int) < 0) := by omega
        have m : min j (x.length : Int) = (x.length : Int) := by omega
        simp [strSliceIndices, a, b, m]
      unfold Txt.slice
      rw [e1]
    rw [e, go _ (by omega) (by simp [Str.length])]
    have hl : x.length = x.cps.toList.length := by simp [Str.length]
    rw [List.take_of_length_le (i := j.toNat) (by omega), List.take_of_length_le (by omega)]
theorem slice_from (x : Str) {i : Int} (h : 0 ≤ i) (h1 : i ≤ x.cps.toList.length) : Txt.slice x (some i) none = tx (x.cps.toList.drop i.toNat) := by
  have e : Txt.slice x (some i) none = sliceText x (some i) none := rfl
  rw [e, sliceText_from ⟨h, h1⟩]
  have e2 : ((x.cps.toList.length : Int) - i).toNat = (x.cps.toList.drop i.toNat).length := by rw [List.length_drop]; omega
  rw [e2, List.take_length]
  rfl
theorem join_signs : ∀ cs : List Nat, Txt.join Str.empty (cs.map fun c => (⟨#[c]⟩ : Str)) = tx cs := by
  intro cs
  unfold Txt.join
  rw [glued_eq_join]
  have go : ∀ (cs : List Nat), Str.join Str.empty (cs.map fun c => (⟨#[c]⟩ : Str)) = tx cs := by
    intro cs
    induction cs with
    | nil => rfl
    | cons a r ih =>
      cases r with
      | nil => rfl
      | cons b r =>
        show (⟨#[a]⟩ : Str) ++ Str.empty ++ Str.join Str.empty ((b :: r).map fun c => (⟨#[c]⟩ : Str)) = tx (a :: b :: r)
        rw [ih, Str.append_empty]
        exact tx_app [a] (b :: r)
  exact go cs
end RA

namespace RA
open PySem PySem.StrLaws Builtin Builtin.Str
/-- letters by their codes -/
structure Let (L : List Nat) : Prop where
  lo : 1 ≤ L.length
  hi : L.length ≤ 3
  nd : L.Nodup
  az : ∀ c ∈ L, 97 ≤ c ∧ c ≤ 122
def val (L : List Nat) : Int → List Nat → Int
  | v, [] => v
  | v, c :: w => val L (v * (L.length : Int) + (L.idxOf c : Nat) + 1) w
/-- one sign drawn out of what is left -/
theorem draw_one {f l : List Nat} {i : Nat} (hi : i < l.length) (nd : (f ++ l).Nodup) : ((f ++ [l[i]]) ++ (l.take i ++ l.drop (i + 1))).Nodup ∧ ∀ c, c ∈ (f ++ [l[i]]) ++ (l.take i ++ l.drop (i + 1)) → c ∈ f ++ l := by
  have e : l = l.take i ++ l[i] :: l.drop (i + 1) := by
    conv => lhs; rw [← List.take_append_drop i l, List.drop_eq_getElem_cons hi]
  have p : (f ++ l).Perm ((f ++ [l[i]]) ++ (l.take i ++ l.drop (i + 1))) := by
    conv => lhs; rw [e]
    rw [List.append_assoc]
    refine List.Perm.append_left f ?_
    show (l.take i ++ l[i] :: l.drop (i + 1)).Perm (l[i] :: (l.take i ++ l.drop (i + 1)))
    exact List.perm_middle
  exact ⟨p.nodup_iff.mp nd, fun c hc => p.mem_iff.mpr hc⟩
end RA

namespace RA
open PySem L2
theorem abc_eq : (Str.ofString "abcdefghijklmnopqrstuvwxyz") = tx (List.range' 97 26) := by decide +kernel
theorem empty_eq : (Str.ofString "") = tx [] := by decide +kernel
theorem empty_eq' : (Str.ofString "") = Str.empty := by decide +kernel
/-- the sign that a cell draws -/
def signAt (L : List Nat) (z : Int) : Nat := L.getD (z % (L.length : Int)).toNat 0
def signV (L : List Nat) : V → V
  | .int z => .str ⟨#[signAt L z]⟩
  | v => v
theorem signAt_eq (L : List Nat) (z : Int) : signAt L z = (L[(z % (L.length : Int)).toNat]?).getD 0 := by
  unfold signAt
  rw [List.getD_eq_getElem?_getD]
theorem signs_in {L : List Nat} (h : Let L) {ns : List Int} {c : Nat} (hc : c ∈ ns.map (signAt L)) : c ∈ L := by
  obtain ⟨z, _, rfl⟩ := List.mem_map.mp hc
  have hp : (0 : Int) < (L.length : Int) := by have := h.lo; omega
  have h0 := Int.emod_nonneg z (show (L.length : Int) ≠ 0 by omega)
  have h1 := Int.emod_lt_of_pos z hp
  have hlt : (z % (L.length : Int)).toNat < L.length := by omega
  rw [signAt_eq, List.getElem?_eq_getElem hlt]
  exact List.getElem_mem hlt
end RA
namespace RA
open PySem L2 Builtin Builtin.Str
theorem sum_ones : ∀ cs : List Nat, ((cs.map fun c => (⟨#[c]⟩ : Str)).map (·.length)).sum = cs.length
  | [] => rfl
  | _ :: cs => by
    rw [List.map_cons, List.map_cons, List.sum_cons, sum_ones cs, List.length_cons]
    show 1 + _ = _
    omega
theorem join_size (cs : List Nat) (h : cs.length ≤ 16777216) : ((cs.map fun c => (⟨#[c]⟩ : Str)).map (·.length)).sum + (cs.map fun c => (⟨#[c]⟩ : Str)).length * (Str.ofString "").length ≤ 16777216 := by
  rw [sum_ones, show (Str.ofString "").length = 0 by rw [empty_eq']; rfl]
  omega
theorem flat_any (l : List Nat) : ∀ (n : Nat) (acc : List Nat), ((List.replicate n (tx l).cps).foldl (· ++ ·) acc.toArray) = (acc ++ (List.replicate n l).flatten).toArray
  | 0, acc => by simp
  | n + 1, acc => by
    rw [List.replicate_succ, List.foldl_cons]
    have e : acc.toArray ++ (tx l).cps = (acc ++ l).toArray := by simp [tx]
    rw [e, flat_any l n (acc ++ l), List.replicate_succ, List.append_assoc]
    rfl
theorem mul_tx (l : List Nat) {n : Int} (h : 0 ≤ n) : Txt.mul (tx l) n = tx (List.replicate n.toNat l).flatten := by
  unfold Txt.mul
  by_cases h1 : n < 1
  · rw [if_pos h1, show n.toNat = 0 by omega]
    rfl
  · rw [if_neg h1]
    by_cases h2 : n = 1
    · subst h2
      rw [if_pos (by simp)]
      simp
    · by_cases h3 : l = []
      · subst h3
        rw [if_pos (by simp [tx, Str.length])]
        have z : ∀ k : Nat, (List.replicate k ([] : List Nat)).flatten = [] := fun k => by induction k with
          | zero => rfl
          | succ k ih => rw [List.replicate_succ, List.flatten_cons, ih]; rfl
        rw [z]
      · rw [if_neg (by simp [h2, Str.length, tx, h3])]
        have := flat_any l n.toNat []
        rw [List.nil_append] at this
        show (⟨_⟩ : Str) = ⟨_⟩
        rw [← this]
theorem mulOk {x : Str} {n : Int} (h : n ≤ 1000000) (h0 : 0 ≤ n) (hx : x.length * n.toNat ≤ 16777216) (hl : x.length ≤ 16777216) : MulOk x n := by
  unfold MulOk
  refine ⟨?_, fun h1 _ => ?_, fun h1 _ => ?_⟩
  · rw [decide_eq_false (by omega), decide_eq_false (by omega)]
    rfl
  · have hp : (0 : Int) < n := by omega
    have h2 : (x.length : Int) * n ≤ 2 ^ 63 - 1 := by
      have e : (x.length : Int) * n = ((x.length * n.toNat : Nat) : Int) := by
        rw [Int.natCast_mul, Int.toNat_of_nonneg h0]
      rw [e]
      omega
    have h3 := (Int.le_ediv_iff_mul_le hp).mpr h2
    omega
  · unfold tooLong
    exact decide_eq_false (by rw [sizeLine_eq]; omega)
end RA

namespace L2
open PySem PySem.Spec PyProof.Rows
/-! ## X6. sums that forget what they are -/
section
variable {X : Cx}
theorem op_modG : OpR X (binaryOp .Mod) (fun x y H Q => ∃ i j, x = .int i ∧ y = .int j ∧ 0 < j ∧ ∀ r, 0 ≤ r → r < j → Q (.int r) H) := by
  intro pins s σ H x y v u Q I rx ry h
  obtain ⟨i, j, e1, e2, hj, q⟩ := h
  exact op_mod pins s σ H x y v u Q I rx ry ⟨i, j, e1, e2, hj, q _ (Int.emod_nonneg _ (by omega)) (Int.emod_lt_of_pos _ hj)⟩
theorem op_fdivG : OpR X (binaryOp .FloorDiv) (fun x y H Q => ∃ i j, x = .int i ∧ y = .int j ∧ CDiv i j ∧ 0 ≤ i ∧ ∀ r, 0 ≤ r → Q (.int r) H) := by
  intro pins s σ H x y v u Q I rx ry h
  obtain ⟨i, j, e1, e2, hj, hi, q⟩ := h
  exact op_fdiv pins s σ H x y v u Q I rx ry ⟨i, j, e1, e2, hj, q _ (Int.ediv_nonneg hi (by have := hj.1; omega))⟩
end
theorem upd_keep {H : Hp} {a b : Addr} {o u : HO} (h : H a = some o) (n : H b = none) : upd H b u a = some o := by
  rw [upd_ne (ne_of_none h n)]
  exact h
theorem kit_ib (K : PySem.W.Frag) : PySem.W.kitOne K (.type "int") (.type "bool") = some false := by kernel_rfl
theorem kit_ii (K : PySem.W.Frag) : PySem.W.kitOne K (.type "int") (.type "int") = some true := by with_unfolding_all rfl
theorem kit_bb (K : PySem.W.Frag) : PySem.W.kitOne K (.type "bool") (.type "bool") = some true := by with_unfolding_all rfl
theorem kit_ss (K : PySem.W.Frag) : PySem.W.kitOne K (.type "str") (.type "str") = some true := by with_unfolding_all rfl
end L2
namespace RA
open PySem L2
structure Mach (L : List Nat) (W : List (List Nat)) (B : List Bool) : Prop where
  lt : Let L
  n1 : 1 ≤ W.length
  n60 : W.length ≤ 60
  bl : B.length = W.length
  row : ∀ ws ∈ W, ws.length = L.length ∧ ∀ x ∈ ws, x < W.length
def nxt (L : List Nat) (W : List (List Nat)) (r c : Nat) : Nat := (W.getD r []).getD (L.idxOf c) 0
def run (L : List Nat) (W : List (List Nat)) (r : Nat) (w : List Nat) : Nat := w.foldl (nxt L W) r
theorem Mach.at {L : List Nat} {W : List (List Nat)} {B : List Bool} (h : Mach L W B) {r c : Nat} (hr : r < W.length) (hc : c ∈ L) :
    ∃ ws x, W[r]? = some ws ∧ ws[L.idxOf c]? = some x ∧ nxt L W r c = x ∧ x < W.length := by
  have hw : W[r]? = some W[r] := by simp [hr]
  obtain ⟨h1, h2⟩ := h.row W[r] (List.getElem_mem hr)
  have hi : L.idxOf c < W[r].length := by rw [h1]; exact List.idxOf_lt_length_of_mem hc
  have hx : W[r][L.idxOf c]? = some W[r][L.idxOf c] := by simp [hi]
  refine ⟨W[r], W[r][L.idxOf c], hw, hx, ?_, h2 _ (List.getElem_mem hi)⟩
  unfold nxt
  have e1 : W.getD r [] = W[r] := by
    rw [List.getD_eq_getElem?_getD, hw]
    rfl
  rw [e1, List.getD_eq_getElem?_getD, hx]
  rfl
theorem run_snoc (L : List Nat) (W : List (List Nat)) (r : Nat) (w : List Nat) (c : Nat) : run L W r (w ++ [c]) = nxt L W (run L W r w) c := by
  unfold run
  rw [List.foldl_append]
  rfl
theorem run_lt {L : List Nat} {W : List (List Nat)} {B : List Bool} (h : Mach L W B) : ∀ {w : List Nat} {r : Nat}, r < W.length → (∀ c ∈ w, c ∈ L) → run L W r w < W.length
  | [], _, hr, _ => hr
  | c :: w, r, hr, hw => by
    obtain ⟨ws, x, _, _, e, hx⟩ := h.at hr (hw c (by simp))
    exact run_lt h (w := w) (r := nxt L W r c) (by rw [e]; exact hx) fun d hd => hw d (by simp [hd])
def intsV (ws : List Nat) : List V := ws.map fun (n : Nat) => V.int (n : Int)
def RowsAt (H : Hp) (rows : List Addr) (W : List (List Nat)) : Prop := ∀ (i : Nat) (r : Addr), rows[i]? = some r → ∃ ws, W[i]? = some ws ∧ H r = some (.tup (intsV ws))
def MachAt (H : Hp) (m : Addr) (L : List Nat) (W : List (List Nat)) (B : List Bool) : Prop :=
  ∃ (wy mk : Addr) (rows : List Addr), H m = some (.tup [.str (tx L), .ref wy, .ref mk]) ∧ H wy = some (.tup (rows.map V.ref)) ∧ H mk = some (.tup (B.map V.bl)) ∧ rows.length = W.length ∧ RowsAt H rows W
theorem RowsAt.same {H H' : Hp} {rows : List Addr} {W : List (List Nat)} (h : RowsAt H rows W) (s : Same H H') : RowsAt H' rows W := fun i r e => by
  obtain ⟨ws, h1, h2⟩ := h i r e
  exact ⟨ws, h1, s _ _ h2⟩
theorem MachAt.same {H H' : Hp} {m : Addr} {L : List Nat} {W : List (List Nat)} {B : List Bool} (h : MachAt H m L W B) (s : Same H H') : MachAt H' m L W B := by
  obtain ⟨wy, mk, rows, h1, h2, h3, h4, h5⟩ := h
  exact ⟨wy, mk, rows, s _ _ h1, s _ _ h2, s _ _ h3, h4, h5.same s⟩
theorem atI_map {α β : Type} {xs : List α} (f : α → β) {i : Nat} {x : α} (h : xs[i]? = some x) : atI (xs.map f) ((i : Nat) : Int) = some (f x) := atI_nat (by rw [List.getElem?_map, h]; rfl)
end RA
namespace RA
theorem flat_len (l : List Nat) : ∀ n : Nat, (List.replicate n l).flatten.length = n * l.length
  | 0 => by simp
  | n + 1 => by rw [List.replicate_succ, List.flatten_cons, List.length_append, flat_len l n, Nat.succ_mul]; omega
end RA

namespace L2
open PySem
/-! ## X7. reversed(xs), and a text joined over what it walks -/
namespace RV
section
variable {prog : Program} {w : World} {A : Around} {E : Value → Shared → Prop} {s : Shared}
end
end RV
end L2

namespace L2
open PySem PySem.Spec PyProof.Rows
section
variable {X : Cx}
/-- sep.join(reversed(e)), e a list of texts -/
def tJoinRev (K : PySem.W.Frag) (to : TE) (t : TA) : TE := fun σ H Q => to σ H fun x H1 => ∃ z, x = .str z ∧ t σ H1 fun vs H2 => ∃ (p : Addr) (ys : List Str), vs = [.ref p] ∧ SqL K H2 p (ys.map V.str) ∧ (ys.map (·.length)).sum + ys.length * z.length ≤ 16777216 ∧ Q (.str (Txt.join z ys.reverse)) H2
end
end L2

namespace L2
open PySem PySem.Spec PyProof.Rows
/-! ## X9. exceptions of own classes: how one flies through the frames -/
/-- the exception at e, of that class, its first traceback entry at T -/
def Fly (h : Heap) (e T : Addr) (cls a0 : Value) : Prop :=
  ∃ oe vs oT ts, h.get? e = some oe ∧ (oe.cls = cls ∧ vs[0]? = some a0) ∧ oe.data = .fields vs ∧ vs[1]? = some (.ref T) ∧ T ≠ e ∧ h.get? T = some oT ∧ oT.data = .fields ts ∧ ts[3]? = some .none
theorem Fly.traced {h base : Heap} {e T : Addr} {cls a0 : Value} (x : Fly h e T cls a0) (n : base.get? T = none) : h.TracedW base e cls a0 := by
  obtain ⟨oe, vs, oT, ts, h1, h2, h3, h4, h5, h6, h7, h8⟩ := x
  exact ⟨oe, vs, T, oT, ts, h1, h2, h3, h4, n, h5, h6, h7, h8⟩
theorem fly_of {h base : Heap} {e : Addr} {cls a0 : Value} (x : h.TracedW base e cls a0) : ∃ T, base.get? T = none ∧ Fly h e T cls a0 := by
  obtain ⟨oe, vs, T, oT, ts, h1, h2, h3, h4, n, h5, h6, h7, h8⟩ := x
  exact ⟨T, n, oe, vs, oT, ts, h1, h2, h3, h4, h5, h6, h7, h8⟩
/-- what a call that raises leaves behind: E is told the class and the abstract heap -/
def CXE (P : Program) (w : World) : CXT := fun outer H s E ev s' => ∃ (e T : Addr) (C a0 : Value) (H' : Hp), ev = .ref e ∧ s'.os = s.os ∧ AllBare s'.gens ∧ Un (frs outer) [] H H' s.heap s'.heap ∧ HOk P w H' s'.heap ∧
  s.heap.get? e = none ∧ s.heap.get? T = none ∧ H' e = none ∧ H' T = none ∧ Fly s'.heap e T C a0 ∧ E C none H'
/-- the frames apart from a heap that hides them -/
theorem frames_hid {h base : Heap} {hid : List Addr} : ∀ {l : List Env}, h.FunFrames base l → (∀ b ∈ frs l, b ∈ hid) → h.FunFrames (PySem.W.hideAll h hid) l
  | [], _, _ => trivial
  | env :: r, hl, hs => by
    obtain ⟨hk, ⟨L, o, hf, hn, ho, hd⟩, hr⟩ := hl
    have e : frs (env :: r) = L :: frs r := by unfold frs; rw [List.filterMap_cons, hf]
    exact ⟨hk, ⟨L, o, hf, PySem.W.hideAll_none _ (hs L (by rw [e]; exact List.mem_cons_self)), ho, hd⟩, frames_hid hr fun b hb => hs b (by rw [e]; exact List.mem_cons_of_mem _ hb)⟩
theorem frame_there {h base : Heap} : ∀ {l : List Env}, h.FunFrames base l → ∀ b ∈ frs l, ∃ o, h.get? b = some o ∧ ∀ vs, o.data ≠ .fields vs
  | env :: r, hl, b, hb => by
    obtain ⟨hk, ⟨L, o, hf, hn, ho, hd⟩, hr⟩ := hl
    have e : frs (env :: r) = L :: frs r := by unfold frs; rw [List.filterMap_cons, hf]
    rw [e] at hb
    rcases List.mem_cons.mp hb with rfl | hb
    · exact ⟨o, ho, hd⟩
    · exact frame_there hr b hb
section
variable {X : Cx} {pins : List (Addr × Obj)} {σ : St} {H H' : Hp} {s : Shared} {h1 h2 : Heap}
/-- from the state ahead of a call, over what it left (h1) to a heap (h2) that keeps all but the exception's own objects and the frames' slots -/
theorem Inv.flown {g' : Array GenState} {d' : Drawn} {t' : Nat} {S : List Addr} (I : Inv X pins σ H s) (un : Un (frs X.stack) [] H H' s.heap h1) (hok : HOk X.prog X.w H' h1) (dead : ∀ b ∈ S, s.heap.get? b = none) (off : ∀ b ∈ S, H' b = none)
    (keep : ∀ b o, h1.get? b = some o → b ∉ S → b ∉ frs X.stack → h2.get? b = some o) (up : h1.UpToSlots h2) (hg : AllBare g') :
    Inv X pins σ H' { s with heap := h2, gens := g', drawn := d', toks := t' } ∧ Un (frs X.stack) [] H H' s.heap h2 ∧ HOk X.prog X.w H' h2 := by
  have live : ∀ b o, s.heap.get? b = some o → b ∉ S := fun b o e hb => by rw [dead b hb] at e; cases e
  have fr : ∀ b ∈ frs X.stack, ∃ o, s.heap.get? b = some o ∧ ∀ vs, o.data ≠ .fields vs := frame_there I.stack
  have frH : ∀ b ∈ frs X.stack, H' b = none := fun b hb => by
    obtain ⟨o, ho, _⟩ := fr b hb
    exact un.free b o ho (I.stkFree b hb) (by simp)
  have un2 : Un (frs X.stack) [] H H' s.heap h2 := by
    refine ⟨fun b o e n hb hx => keep b o (un.keep b o e n hb hx) (live b o e) hb, fun b o e n hb hx => ?_, un.free, fun b o e hx => ?_, un.tups, un.frzs, un.tbls⟩
    · obtain ⟨sl, e1⟩ := un.slot b o e n hb hx
      obtain ⟨o', ho', hd⟩ := fr b hb
      rw [e] at ho'
      cases ho'
      obtain ⟨sl', e2⟩ := up b _ e1 hd
      exact ⟨sl', e2⟩
    · obtain ⟨o1, e1⟩ := un.there b o e hx
      by_cases hb : b ∈ frs X.stack
      · obtain ⟨o', ho', hd⟩ := fr b hb
        rw [e] at ho'
        cases ho'
        obtain ⟨sl, e2⟩ := un.slot b o e (I.stkFree b hb) hb hx
        obtain ⟨sl', e3⟩ := up b _ e2 hd
        exact ⟨_, e3⟩
      · exact ⟨o1, keep b o1 e1 (live b o e) hb⟩
  have hok2 : HOk X.prog X.w H' h2 := fun b u e => (hok b u e).stay (fun c v hc q => keep c v q (fun hm => ?_) fun hm => ?_) (fun _ q => q) fun _ _ q => q
  · exact ⟨I.call (g' := g') (d' := d') (t' := t') (ch := []) un2 hok2 hg (fun _ z => nomatch z), un2, hok2⟩
  · rcases hc with rfl | hc
    · rw [off c hm] at e; cases e
    · rw [off c hm] at hc; cases hc
  · rcases hc with rfl | hc
    · rw [frH c hm] at e; cases e
    · rw [frH c hm] at hc; cases hc
theorem dead0 (I : Inv X pins σ H s) (hx : X.ex = []) {b : Addr} (d : s.heap.get? b = none) : X.s₀.heap.get? b = none := by
  cases e : X.s₀.heap.get? b with
  | none => rfl
  | some o =>
    obtain ⟨o', q⟩ := I.base.there b o e (by rw [hx]; simp)
    rw [d] at q
    cases q
theorem off_dead {P : Program} {w : World} {h : Heap} (hok : HOk P w H h) {b : Addr} (d : h.get? b = none) : H b = none := by
  cases e : H b with
  | none => rfl
  | some u =>
    obtain ⟨o, q⟩ : ∃ o, h.get? b = some o := by
      have z := hok b u e
      cases u with
      | lst => obtain ⟨_, its, n, _, q⟩ := z; exact ⟨_, q⟩
      | tup => obtain ⟨_, its, _, o, q, _⟩ := z; exact ⟨_, q⟩
      | dK => obtain ⟨_, _, vs, _, o, es, ep, q, _⟩ := z; exact ⟨_, q⟩
      | dT => obtain ⟨_, _, xs, _, o, es, ep, q, _⟩ := z; exact ⟨_, q⟩
      | set => obtain ⟨o, es, ep, t, q, _⟩ := z; exact ⟨o, q⟩
      | ins => obtain ⟨_, _, _, q, _⟩ := z; exact ⟨_, q⟩
      | own => exact z
      | xd => obtain ⟨mA, ⟨o, es, ep, q, _⟩, _⟩ := z; exact ⟨o, q⟩
      | rng => obtain ⟨t, u, v, q⟩ := z; exact ⟨_, q⟩
      | frz => exact ⟨_, z.1⟩
      | tbl => exact ⟨_, z⟩
      | met => exact ⟨_, z⟩
      | ext => exact z.2.1
    rw [d] at q
    cases q
/-- a traceback entry is no frame -/
theorem fly_noframe {base h : Heap} {l : List Env} {e T : Addr} {cls a0 : Value} (fl : Fly h e T cls a0) (hl : h.FunFrames base l) : T ∉ frs l := fun hm => by
  obtain ⟨oe, vs, oT, ts, _, _, _, _, _, hT, hdT, _⟩ := fl
  obtain ⟨o, ho, hd⟩ := frame_there hl T hm
  rw [hT] at ho
  cases ho
  exact hd ts hdT
end
section
variable {X : Cx} {E : XK}
/-- a new exception leaves the frame -/
theorem leave_new (hx : X.ex = []) (hst : X.stack = X.env :: X.outer) (hfr : X.env.frame = some X.env.locals) {pins : List (Addr × Obj)} {σ : St} {H : Hp} {s : Shared} {h1 : Heap} {e : Addr} {C : Value} {vs : List Value} (I : Inv X pins σ H s)
    (mk : Heap.MadeExcOf s.heap h1 e C vs) (q : E C none H) :
    wpAny (model X.prog X.w) X.A (leaving X.env (.ref e)) (fun _ s'' => CXE X.prog X.w X.outer X.H₀ X.s₀ E (.ref e) s'') (fun e' s'' => CXE X.prog X.w X.outer X.H₀ X.s₀ E e' s'') { s with heap := h1 } := by
  have stk : s.heap.FunFrames X.base (X.env :: X.outer) := hst ▸ I.stack
  refine wpAny_leaves_madeW (s := { s with heap := h1 }) (base := PySem.W.hideAll s.heap (frs X.stack)) (h := s.heap) (by rw [← hst]; exact I.ok.frames) hfr (fun b o z => PySem.W.of_hideAll _ z) (frames_hid stk (by rw [hst]; exact fun _ z => z)) mk fun h' t fl tup nt up => ?_
  obtain ⟨I2, un2, hok2⟩ := I.flown (H' := H) (h1 := s.heap) (h2 := h') (g' := s.gens) (d' := s.drawn) (t' := s.toks) (S := []) Un.refl I.hok (fun _ z => nomatch z) (fun _ z => nomatch z) (fun b o z _ hb => fl.1 b o (PySem.W.hideAll_get _ z hb))
    (fun b o z hd => up b o (mk.keeps b o z) hd) I.bare
  obtain ⟨T, nT, fT⟩ := fly_of fl.2.2.2
  have dT : s.heap.get? T = none := by
    cases z : s.heap.get? T with
    | none => rfl
    | some o =>
      have hT := fly_noframe fT I2.stack
      rw [PySem.W.hideAll_get _ z hT] at nT
      cases nT
  have ub := I2.base
  rw [hx] at ub
  exact ⟨e, T, C, .ref t, H, rfl, I2.os, I.bare, ub, hok2, dead0 I hx mk.new, dead0 I hx dT, off_dead I.hok mk.new, off_dead I.hok dT, fT, q⟩
/-- an exception of a callee leaves the frame -/
theorem leave_on (hx : X.ex = []) (hst : X.stack = X.env :: X.outer) (hfr : X.env.frame = some X.env.locals) {E' : XK} (hE : ∀ C d H, E' C d H → E C d H) {pins : List (Addr × Obj)} {σ : St} {H : Hp} {s s' : Shared} {ev : Value} (I : Inv X pins σ H s)
    (cx : CXE X.prog X.w X.stack H s E' ev s') :
    wpAny (model X.prog X.w) X.A (leaving X.env ev) (fun _ s'' => CXE X.prog X.w X.outer X.H₀ X.s₀ E ev s'') (fun e' s'' => CXE X.prog X.w X.outer X.H₀ X.s₀ E e' s'') s' := by
  obtain ⟨e, T, C, a0, H', rfl, os, bare, un, hok, de, dT, he, hT, fT, q⟩ := cx
  obtain ⟨hh, g, d, tk, os'⟩ := s'
  obtain rfl : os' = s.os := os
  have I1 : Inv X pins σ H' { s with heap := hh, gens := g, drawn := d, toks := tk } := I.call (g' := g) (d' := d) (t' := tk) (ch := []) un hok bare (fun _ z => nomatch z)
  have stk : hh.FunFrames X.base (X.env :: X.outer) := hst ▸ I1.stack
  have fl : Heap.FlyingW (PySem.W.hideAll hh (e :: T :: frs X.stack)) (X.env :: X.outer) e C a0 hh :=
    ⟨fun b o z => PySem.W.of_hideAll _ z, PySem.W.hideAll_none _ (by simp), frames_hid stk (by rw [← hst]; exact fun b z => List.mem_cons_of_mem _ (List.mem_cons_of_mem _ z)), fT.traced (PySem.W.hideAll_none _ (by simp))⟩
  refine wpAny_leaves_onW (s := ⟨hh, g, d, tk, s.os⟩) (by rw [← hst]; exact I.ok.frames) hfr fl fun h' fl' up => ?_
  have kept : ∀ b o, hh.get? b = some o → b ∉ [e, T] → b ∉ frs X.stack → h'.get? b = some o := fun b o z hS hb => fl'.1 b o (PySem.W.hideAll_get _ z fun hm => by
    rcases List.mem_cons.mp hm with y | hm
    · exact hS (by rw [y]; simp)
    · rcases List.mem_cons.mp hm with y | hm
      · exact hS (by rw [y]; simp)
      · exact hb hm)
  obtain ⟨I2, un2, hok2⟩ := I.flown (H' := H') (h1 := hh) (h2 := h') (g' := g) (d' := d) (t' := tk) (S := [e, T]) un hok (fun b hb => by rcases List.mem_cons.mp hb with z | z; rw [z]; exact de; rw [List.mem_singleton.mp z]; exact dT)
    (fun b hb => by rcases List.mem_cons.mp hb with z | z; rw [z]; exact he; rw [List.mem_singleton.mp z]; exact hT) kept up bare
  obtain ⟨T', nT, fT'⟩ := fly_of fl'.2.2.2
  have dT' : s.heap.get? T' = none ∧ H' T' = none := by
    cases z : hh.get? T' with
    | none =>
      refine ⟨?_, off_dead hok z⟩
      cases y : s.heap.get? T' with
      | none => rfl
      | some o =>
        obtain ⟨o', r⟩ := un.there T' o y (by simp)
        rw [z] at r
        cases r
    | some o =>
      by_cases hTT : T' = T
      · rw [hTT]; exact ⟨dT, hT⟩
      · have hTe : T' ≠ e := by obtain ⟨_, _, _, _, _, _, _, _, z, _⟩ := fT'; exact z
        have hTf := fly_noframe fT' I2.stack
        rw [PySem.W.hideAll_get _ z (by simp [hTT, hTe, hTf])] at nT
        cases nT
  have ub := I2.base
  rw [hx] at ub
  exact ⟨e, T', C, a0, H', rfl, I2.os, bare, ub, hok2, dead0 I hx de, dead0 I hx dT'.1, he, dT'.2, fT', hE _ _ _ q⟩
end
end L2

namespace L2
open PySem PySem.Spec PyProof.Rows
/-! ## X10. an error's words: some text that is not too long -/
section
variable {X : Cx}
/-- a part of a text that is put together, where c holds of the names -/
def FPart (X : Cx) (e : Expr) (c : St → Prop) : Prop := ∀ (pins : List (Addr × Obj)) (s : Shared) (σ : St) (H : Hp) (Q : Value → Shared → Prop), Inv X pins σ H s → c σ → (∀ y t s', Inv X pins σ H s' → y.length ≤ 100000 → Q (.str y t) s') →
  wpAny (model X.prog X.w) X.A (eval e X.env) Q X.xe s
def FParts (X : Cx) : List Expr → (St → Prop) → Prop
  | [], _ => True
  | e :: es, c => FPart X e c ∧ FParts X es c
theorem fp_const {x : Str} {j : Nat} {pos : Pos} {c : St → Prop} (h : x.length ≤ 100000 := by decide) : FPart X (.Constant (.str x) j pos) c := fun _ _ _ _ _ I _ q => Calls.Constant_str (q x _ _ (I.tok _) h)
/-- the name in slot i holds a text -/
def Txt5 (i : Nat) (σ : St) : Prop := ∃ x : Str, σ[i]? = some (some (.str x)) ∧ x.length ≤ 5000 ∧ ∀ c ∈ x.cps.toList, c < 1000000
theorem short5 {n : Nat} (h : n ≤ 100000) : n ≤ sizeLine := by rw [sizeLine_eq]; omega
theorem fp_plain {c : St → Prop} {v : Expr} {pos : Pos} (i : Nat) (hv : PE X v (tVar i)) (k : ∀ σ, c σ → Txt5 i σ) : FPart X (.FormattedValue v (-1) none pos) c := fun pins s σ H Q I hc q => by
  obtain ⟨x, e, hl, _⟩ := k σ hc
  refine PyProof.Rows.FormattedValue_plain (thn (hv pins s σ H (fun w H1 => w = .str x ∧ H1 = H) I ⟨_, e, rfl, rfl⟩) fun u s1 ⟨w, H1, I1, r1, e1, e2⟩ => ?_)
  subst e1 e2
  obtain ⟨t, rfl⟩ := r1
  exact PyProof.Rows.formatField_str (fun t' tk => q x t' _ (I1.tok tk) (by omega)) (short5 (by omega))
theorem fp_repr {c : St → Prop} {v : Expr} {pos : Pos} (i : Nat) (hv : PE X v (tVar i)) (k : ∀ σ, c σ → Txt5 i σ) : FPart X (.FormattedValue v 114 none pos) c := fun pins s σ H Q I hc q => by
  obtain ⟨x, e, hl, hb⟩ := k σ hc
  have hz : (reprText x).length ≤ 100000 := Nat.le_trans (StrLaws.reprText_len x fun c hc => Nat.lt_trans (hb c hc) (by decide)) (by omega)
  refine wpAny_FormattedValue_repr (thn (hv pins s σ H (fun w H1 => w = .str x ∧ H1 = H) I ⟨_, e, rfl, rfl⟩) fun u s1 ⟨w, H1, I1, r1, e1, e2⟩ => ?_)
  subst e1 e2
  obtain ⟨t, rfl⟩ := r1
  refine wpAny_pyReprObj_str ?_ (short5 hz)
  exact PyProof.Rows.formatField_str (fun t' tk => q _ t' _ ((I1.tok _).tok tk) hz) (short5 hz)
/-- the parts one after another -/
theorem joins_parts {c : St → Prop} {pins : List (Addr × Obj)} {σ : St} {H : Hp} {Q : Str → Shared → Prop} (hc : c σ) (q : ∀ out s, Inv X pins σ H s → out.length ≤ 3000000 → Q out s) : ∀ {es : List Expr} {acc : Str} {s : Shared}, FParts X es c → es.length ≤ 20 → acc.length + es.length * 100000 ≤ 3000000 → Inv X pins σ H s →
    Joins (model X.prog X.w) X.A X.xe (evalEach es X.env) acc Q s
  | [], acc, s, _, _, hz, I => by
    rw [show evalEach [] X.env = [] by rfl]
    exact q acc s I (by simpa using hz)
  | e :: es, acc, s, h, hl, hz, I => by
    rw [show evalEach (e :: es) X.env = eval e X.env :: evalEach es X.env by rfl]
    refine h.1 pins s σ H _ I hc fun y t s' I' hy => ⟨y, t, rfl, ?_, ?_⟩
    · rw [Str.length_append, sizeLine_eq]
      simp at hz
      omega
    · refine joins_parts hc q h.2 (by simp at hl; omega) ?_ I'
      rw [Str.length_append]
      simp at hz
      omega
def tMsg (c : St → Prop) : TE := fun σ H Q => c σ ∧ ∀ x, Q (.str x) H
theorem pe_msg {v1 v2 : Expr} {rest : List Expr} {pos : Pos} {c : St → Prop} (h : FParts X (v1 :: v2 :: rest) c) (hl : (v1 :: v2 :: rest).length ≤ 20 := by decide) : PE X (.JoinedStr (v1 :: v2 :: rest) pos) (tMsg c) := by
  intro pins s σ H Q I ⟨hc, q⟩
  refine wpAny_JoinedStr (joins_parts hc (fun out s' I' hz => ⟨?_, .str out, H, I'.tok _, ⟨_, rfl⟩, q out⟩) h hl ?_ I)
  · have : Str.empty.length = 0 := rfl
    simp at hl ⊢
    omega
  · rw [sizeLine_eq]; omega
end
/-! ## X11. raise C(..) -/
/-- a class of the text that stands under ValueError and has no __init__ of its own, nor have those between -/
def OwnX (K : PySem.W.Frag) (C : Addr) : Prop := PySem.W.excIn K C [.type "ValueError", .type "Exception", .type "BaseException", .type "object"] "ValueError.__new__" = true
theorem OwnX.obj {K : PySem.W.Frag} {C : Addr} {h : Heap} (q : OwnX K C) (X : K.In h) : ∃ bm N nm qn bs hdct sn sub ab col dd k0 k1 k2 k3 k5 mN, h.get? C = some (excClassObj nm qn C N bs bm hdct sn sub ab col dd k0 k1 k2 k3 k5 "ValueError.__new__") ∧ h.Ns N mN ∧ mN "__init__" = none ∧
    OwnTail h [.type "ValueError", .type "Exception", .type "BaseException", .type "object"] bm := by
  unfold OwnX PySem.W.excIn at q
  split at q
  case h_2 => cases q
  case h_1 ob dd cd sl there =>
    split at q
    case h_2 => cases q
    case h_1 D bm k0 k1 k2 k3 mk k5 hm hs =>
      obtain ⟨q, noInit⟩ := Bool.and_eq_true_iff.mp q
      obtain ⟨q, nsOk⟩ := Bool.and_eq_true_iff.mp q
      obtain ⟨q, tl⟩ := Bool.and_eq_true_iff.mp q
      obtain ⟨q, nodel⟩ := Bool.and_eq_true_iff.mp q
      obtain ⟨isC, isMk⟩ := Bool.and_eq_true_iff.mp q
      cases beq_iff_eq.mp isC
      cases beq_iff_eq.mp isMk
      obtain ⟨l⟩ := sl
      cases hs
      cases cd
      cases hm
      cases Bool.not_eq_true' _ ▸ nodel
      exact ⟨bm, _, _, _, _, _, _, _, _, _, dd, k0, k1, k2, k3, k5, _, X _ _ there, .of_isNs (PySem.W.isNs_of_in X nsOk), PySem.W.nsMap_none_of_in X nsOk (beq_iff_eq.mp noInit), PySem.W.tail_of_in X tl⟩
end L2

namespace L2
open PySem PySem.Spec PyProof.Rows
/-- what is wanted of exceptions here is met by a new one of a class that E takes -/
def Throws (X : Cx) (E : XK) : Prop := ∀ (pins : List (Addr × Obj)) (σ : St) (H : Hp) (s : Shared) (h1 : Heap) (e : Addr) (C : Value) (vs : List Value), Inv X pins σ H s → Heap.MadeExcOf s.heap h1 e C vs → E C none H → X.xe (.ref e) { s with heap := h1 }
def tRaise (C : Addr) (E : XK) (t : TA) : TS := fun _ σ H => t σ H fun vs H1 => vs.length ≤ sizeLine ∧ E (.ref C) none H1
theorem ps_raise {X : Cx} {E : XK} {x : Str} {C : Addr} {np cpos pos : Pos} {e0 : Expr} {rest : List Expr} {t : TA} (hc : X.calm = true) (hT : Throws X E) (hC : OwnX X.K C) (hm : X.mg x = some (.ref C)) (ha : PA X (e0 :: rest) t) (hg : Gl X x := by rfl)
    (hd : (x == ("__debug__" : Str)) = false := by decide) (he : starEach (e0 :: rest) X.env = (false, eval e0 X.env) :: starEach rest X.env := by rfl) (hpl : (backTo cpos (starEach rest X.env)).any (·.1) = false := by rfl) :
    PS X (.Raise (some (.Call (.Name x np) (e0 :: rest) [] cpos)) none pos) (tRaise C E t) := by
  intro pins s σ H D I h
  obtain ⟨bm, N, nm, qn, bs, hdct, sn, sub, ab, col, dd, k0, k1, k2, k3, k5, mN, hCo, hN, hni, TL⟩ := hC.obj I.ok.mod.kin
  refine wpAny_Raise_call_subT (C := C) (nm := nm) (q := qn) (N := N) (bs := bs) (bm := bm) (hdct := hdct) (sn := sn) (sub := sub) (ab := ab) (col := col) (dd := dd) (k0 := k0) (k1 := k1) (k2 := k2) (k3 := k3) (k5 := k5) PySem.F.excBase_ValueError (mN := mN)
    (TL.hasType PySem.F.excBase_ValueError.hasBase) (I.ok.hd hc) (by rw [he]; show (false || (backTo cpos (starEach rest X.env)).any (·.1)) = false; rw [hpl]; rfl) hni (ld_glob I hg hm ⟨rfl, ?_⟩ hd)
  have hA := ha cpos pins s σ H _ I h
  rw [he] at hA ⊢
  exact Calls.evalArgs_plain (thn hA fun us s2 ⟨vs, H2, I2, r2, hl, q⟩ => ⟨rfl, by rw [← r2.length]; exact hl, I2.bk _ _ hCo, hN.keeps I2.bk, TL.keeps I2.bk, fun h' e mk => hT pins σ H2 s2 h' e _ _ I2 mk q⟩)
section
variable {P : Program} {w : World} {K : PySem.W.Frag} {mg : Str → Option Value} {base : Heap} {N : List Str} {qual : Str} {scope : Scope} {f : Addr} {cd : Value} {A : Around} {outer : List Env} {s : Shared} {H : Hp} {E : XK}
/-- in a def's body: a new exception, one of a callee -/
theorem throws_def : Throws (cxOf (CXE P w) P w K mg base N qual scope f cd A outer s H E) E := fun pins σ H1 s1 h1 e C vs I mk q => leave_new (X := cxOf (CXE P w) P w K mg base N qual scope f cd A outer s H E) rfl rfl rfl I mk q
theorem passes_def {E' : XK} (hE : ∀ C d H, E' C d H → E C d H) : Passes (CXE P w) (cxOf (CXE P w) P w K mg base N qual scope f cd A outer s H E) E' := fun pins σ H1 s1 ev s' I cx => leave_on (X := cxOf (CXE P w) P w K mg base N qual scope f cd A outer s H E) rfl rfl rfl hE I cx
end
/-- a def that may raise -/
theorem Fun.okX {P : Program} {w : World} {K : PySem.W.Frag} {mg : Str → Option Value} {base : Heap} {x qual : Str} {st : Stmt} {f : Addr} {fd : FuncData} {N ps : List Str} {k : Nat} {sp : Sp} (F : Fun K x qual st f fd) (S : FnScope N ps (defScope st)) (len : ∀ vs H Q E, sp vs H Q E → vs.length = ps.length)
    (hbody : ∀ (cdv : Value) (A : Around) (outer : List Env) (s : Shared) (H : Hp) (vs : List V) (Q : VK) (E : XK), Room k (A.deeper (envOfC qual (defScope st) s.heap.objs.size f cdv)) → sp vs H Q E →
      ∃ t, PSs (cxOf (CXE P w) P w K mg base N qual (defScope st) f cdv A outer s H E) (defBody st) t ∧ t { nx := fun _ H' => Q .non H', rt := Q } (start N vs) H) : FnOk P w K mg base (CXE P w) (k + 1) f fd ps sp := by
  obtain ⟨oc, od, kV, doc, pm, an, cdv, ct, osl, rfl, lk, hcd⟩ := F.ex
  exact fn_of lk hcd S len fun A outer s H vs Q E hr hsp => hbody cdv A outer s H vs Q E hr hsp
def DfX (P : Program) (w : World) (K : PySem.W.Frag) (mg : Str → Option Value) (base : Heap) (x : Str) (k : Nat) (ps : List Str) (sp : Sp) : Prop :=
  ∃ (f : Addr) (fd : FuncData), mg x = some (.ref f) ∧ PySem.W.keepIn K (.ref f) = true ∧ Binds K fd ps [] ∧ FnOk P w K mg base (CXE P w) k f fd ps sp
theorem pe_dfX {X : Cx} {x : Str} {k : Nat} {ps : List Str} {sp : Sp} {E : XK} {e : Expr} {es : List Expr} {p pos : Pos} {t : TA} (D : DfX X.prog X.w X.K X.mg X.base x k ps sp) (hr : Room k X.A) (hp : Passes (CXE X.prog X.w) X E) (ha : PA X (e :: es) t)
    (hg : Gl X x := by rfl) (hdb : (x == ("__debug__" : Str)) = false := by decide) (he : starEach (e :: es) X.env = (false, eval e X.env) :: starEach es X.env := by rfl) (hpl : (backTo pos (starEach es X.env)).any (·.1) = false := by rfl) :
    PE X (.Call (.Name x p) (e :: es) [] pos) (tCall sp [] E t) := by
  obtain ⟨f, fd, h1, h2, h3, F⟩ := D
  exact pe_call F hr hg h1 h2 h3 .nil hp ha hdb he hpl
end L2

namespace L2
open PySem PySem.Spec PyProof.Rows
/-! ## X12. try: a call; except R as n: a suite -/
/-- the exception at e, of that class, caught and kept -/
def excAt (e : Addr) (C : Value) : HO := .ext fun h => ∃ o, h.get? e = some o ∧ o.cls = C
/-- the same frame, within an except suite that raises nothing -/
abbrev Cx.held (X : Cx) (v : Value) : Cx := { X with A := X.A.mark (some v), calm := false, xe := fun _ _ => False }
section
variable {X : Cx} {pins : List (Addr × Obj)} {σ : St} {H : Hp} {s : Shared}
theorem Inv.held (I : Inv X pins σ H s) (v : Value) : Inv (X.held v) pins σ H s :=
  ⟨⟨I.ok.mod, I.ok.kind, I.ok.glob, I.ok.blt, I.ok.above, I.ok.inj, I.ok.has, I.ok.cab, fun z => Bool.noConfusion z, I.ok.frames, I.ok.stk, I.ok.exf, I.ok.bs, I.ok.bsz, I.ok.noex, I.ok.exfs, I.ok.funs, I.ok.frf⟩, I.os, I.bare, I.base, I.loc, I.cell, I.free, I.freeC, I.pin, I.hok, I.len⟩
theorem Inv.unheld {v : Value} (I : Inv (X.held v) pins σ H s) (ok : X.Ok) : Inv X pins σ H s := ⟨ok, I.os, I.bare, I.base, I.loc, I.cell, I.free, I.freeC, I.pin, I.hok, I.len⟩
/-- an object that no one has spoken of is spoken of from now on -/
theorem Inv.track {e : Addr} {φ : Heap → Prop} (I : Inv X pins σ H s) (hn : H e = none) (d0 : X.s₀.heap.get? e = none) (nL : X.env.locals ≠ e) (nC : ∀ x c, X.env.cells.lookup x = some c → c ≠ e) (nP : ∀ p ∈ X.pn ++ pins, p.1 ≠ e) (hx : φ s.heap)
    (there : ∃ o, s.heap.get? e = some o) (st : ∀ h1 h2 : Heap, φ h1 → (∀ o, h1.get? e = some o → h2.get? e = some o) → φ h2) : Inv X pins σ (upd H e (.ext φ)) s := by
  have ne : ∀ b u, H b = some u → b ≠ e := fun b u q => ne_of_none q hn
  have old : ∀ b o, X.s₀.heap.get? b = some o → b ≠ e := fun b o q z => by rw [z, d0] at q; cases q
  refine ⟨I.ok, I.os, I.bare, ⟨I.base.keep, I.base.slot, fun b o q n hb => ?_, I.base.there, fun b xs q => ?_, fun b o u q => ?_, fun b ps q => ?_⟩, I.loc, I.cell, ?_, fun x c q => ?_, fun p hp => ?_, fun b u q => ?_, I.len⟩
  · rw [upd_ne (old b o q)]; exact I.base.free b o q n hb
  · have z := I.base.tups b xs q
    rw [upd_ne (ne b _ z)]; exact z
  · have z := I.base.frzs b o u q
    rw [upd_ne (ne b _ z)]; exact z
  · obtain ⟨more, z⟩ := I.base.tbls b ps q
    exact ⟨more, by rw [upd_ne (ne b _ z)]; exact z⟩
  · rw [upd_ne nL]; exact I.free
  · rw [upd_ne (nC x c q)]; exact I.freeC x c q
  · obtain ⟨a1, a2, a3⟩ := I.pin p hp
    exact ⟨a1, by rw [upd_ne (nP p hp)]; exact a2, a3⟩
  · by_cases hb : b = e
    · subst hb
      rw [upd_same] at q
      cases q
      exact ⟨hx, there, st⟩
    · rw [upd_ne hb] at q
      exact (I.hok b u q).stay (fun _ _ _ r => r) (fun c r => by rw [upd_ne (ne c _ r)]; exact r) fun c xs r => by rw [upd_ne (ne c _ r)]; exact r
/-- the frame's own map has changed, and nothing else -/
theorem Inv.reframed {h' : Heap} {σ' : St} {m' : Str → Option Value} {t' : Nat} (I : Inv X pins σ H s) (sb : Heap.SameBut X.env.locals s.heap h') (ns : h'.Ns X.env.locals m')
    (lk : ∀ (i : Nat) (x : Str) (v : V), X.N[i]? = some x → σ'[i]? = some (some v) → Vis X.env.scope x → ∃ u, RelV v u ∧ Look X.env h' m' x u) (ln : σ'.length = X.N.length) : Inv X pins σ' H { s with heap := h', toks := t' } := by
  have nl : ∀ b o, X.s₀.heap.get? b = some o → b ≠ X.env.locals := fun b o q => Nat.ne_of_lt (Nat.lt_of_lt_of_le (Heap.lt_size q) I.ok.above)
  have nt : ∀ b u, H b = some u → b ≠ X.env.locals := fun b u q => ne_of_none q I.free
  refine ⟨I.ok, I.os, I.bare, ⟨fun b o q n hb hc => (sb.2 b (nl b o q)).trans (I.base.keep b o q n hb hc), fun b o q n hb hc => ?_, I.base.free, fun b o q hc => ?_, I.base.tups, I.base.frzs, I.base.tbls⟩, ⟨m', ns, lk⟩, fun x c q => ?_, I.free, I.freeC, fun p hp => ?_, fun b u q => ?_, ln⟩
  · obtain ⟨sl, z⟩ := I.base.slot b o q n hb hc
    exact ⟨sl, (sb.2 b (nl b o q)).trans z⟩
  · obtain ⟨o', z⟩ := I.base.there b o q hc
    exact ⟨o', (sb.2 b (nl b o q)).trans z⟩
  · obtain ⟨v, o, z, d⟩ := I.cell x c q
    exact ⟨v, o, (sb.2 c (I.cne x c q)).trans z, d⟩
  · obtain ⟨a1, a2, a3, a4⟩ := I.pin p hp
    exact ⟨(sb.2 p.1 a3).trans a1, a2, a3, a4⟩
  · refine (I.hok b u q).stay (fun c v hc r => (sb.2 c ?_).trans r) (fun _ r => r) fun _ _ r => r
    rcases hc with rfl | hc
    · exact nt c u q
    · exact nt c _ hc
/-- the name behind as is bound no more -/
theorem Inv.goes {i : Nat} {n : Str} {pos : Pos} {A : Around} {E : Value → Shared → Prop} {Q : Unit → Shared → Prop} (I : Inv X pins σ H s) (nd : X.N.Nodup) (hi : X.N[i]? = some n) (hk : X.env.kindOf n = some .local)
    (q : ∀ s', Inv X pins (σ.set i none) H s' → Q () s') : wpAny (model X.prog X.w) A (do bindName X.env n .none; unbindBehindTheSuite X.env n pos) Q E s := by
  obtain ⟨m, hn, hl⟩ := id I.loc
  refine wpAny_nameGoes_keeps hk hn (by rw [I.ok.kind]; rfl) fun h' v ns sb => q _ (I.reframed sb ns (fun j x w hj hw hv => ?_) (by rw [List.length_set]; exact I.len))
  have hji : j ≠ i := fun z => by
    subst z
    have hlt : j < σ.length := by rw [I.len]; exact (List.getElem?_eq_some_iff.mp hj).1
    rw [List.getElem?_set_self hlt] at hw
    cases hw
  rw [List.getElem?_set_ne (Ne.symm hji)] at hw
  have hxn : x ≠ n := fun z => hji (nodup_ix nd hj (by rw [z]; exact hi))
  obtain ⟨u, r, l⟩ := hl j x w hj hw hv
  refine ⟨u, r, ?_⟩
  rcases l with ⟨k1, k2⟩ | ⟨k1, c, k2, o, k3, k4⟩
  · exact .inl ⟨k1, by show (if x = n then v else m x) = some u; rw [if_neg hxn]; exact k2⟩
  · exact .inr ⟨k1, c, k2, o, (sb.2 c (I.cne x c k2)).trans k3, k4⟩
end
/-- what the suite is to reach -/
def heldEnds (i : Nat) (D : Ends) : Ends := { nx := fun σ' H' => D.nx (σ'.set i none) H', rt := fun _ _ => False }
/-- a class that the clause takes, and what follows -/
def Caught (K : PySem.W.Frag) (R : Addr) (i : Nat) (ts : TS) (D : Ends) (σ : St) : XK := fun C _ H' => PySem.W.exmOne K C (.ref R) = some true ∧ ∀ e, H' e = none → ts (heldEnds i D) (σ.set i (some (.ref e))) (upd H' e (excAt e C))
theorem catch_ok {X : Cx} {pins : List (Addr × Obj)} {σ : St} {H : Hp} {s s' : Shared} {ev : Value} {x n : Str} {R : Addr} {i : Nat} {np hpos : Pos} {b0 : Stmt} {suite : List Stmt} {ts : TS} {D : Ends} (hex : X.ex = []) (hst : X.stack = X.env :: X.outer)
    (hfr : X.env.frame = some X.env.locals) (nd : X.N.Nodup) (hi : X.N[i]? = some n) (hk : X.env.kindOf n = some .local) (hl : Loc X.env.scope n) (hf : X.fn n = true ∨ X.env.scope.names.lookup n = some .local) (hg : Gl X x) (hm : X.mg x = some (.ref R))
    (hs : ∀ v, PSs (X.held v) (b0 :: suite) ts) (I : Inv X pins σ H s) (cx : CXE X.prog X.w X.stack H s (Caught X.K R i ts D σ) ev s') (hd : (x == ("__debug__" : Str)) = false) :
    wpAny (model X.prog X.w) X.A (noteFrame ev X.env) (fun _ s2 => wpAny (model X.prog X.w) X.A (setFlight ev none) (fun _ s3 => wpAny (model X.prog X.w) X.A (handleBy ev X.env [.ExceptHandler (some (.Name x np)) (some n) (b0 :: suite) hpos]) (SP X pins D) X.xe s3) X.xe s2) X.xe s' := by
  obtain ⟨e, T, C, a0, H', rfl, os, bare, un, hok, de, dT, he, hT, fT, hmatch, q⟩ := cx
  obtain ⟨hh, g, d, tk, os'⟩ := s'
  obtain rfl : os' = s.os := os
  have I1 : Inv X pins σ H' { s with heap := hh, gens := g, drawn := d, toks := tk } := I.call (g' := g) (d' := d) (t' := tk) (ch := []) un hok bare (fun _ z => nomatch z)
  have stk : hh.FunFrames X.base (X.env :: X.outer) := hst ▸ I1.stack
  have fl : Heap.FlyingW (PySem.W.hideAll hh (e :: T :: frs X.stack)) (X.env :: X.outer) e C a0 hh :=
    ⟨fun b o z => PySem.W.of_hideAll _ z, PySem.W.hideAll_none _ (by simp), frames_hid stk (by rw [← hst]; exact fun b z => List.mem_cons_of_mem _ (List.mem_cons_of_mem _ z)), fT.traced (PySem.W.hideAll_none _ (by simp))⟩
  -- any later heap of the flight, seen from here
  have seen : ∀ (h' : Heap), (PySem.W.hideAll hh (e :: T :: frs X.stack)).StaysIn h' → hh.UpToSlots h' → Inv X pins σ H' { s with heap := h', gens := g, drawn := d, toks := tk } := fun h' fk up =>
    (I.flown (H' := H') (h1 := hh) (h2 := h') (g' := g) (d' := d) (t' := tk) (S := [e, T]) un hok (fun b hb => by rcases List.mem_cons.mp hb with z | z; rw [z]; exact de; rw [List.mem_singleton.mp z]; exact dT)
      (fun b hb => by rcases List.mem_cons.mp hb with z | z; rw [z]; exact he; rw [List.mem_singleton.mp z]; exact hT) (fun b o z hS hb => fk b o (PySem.W.hideAll_get _ z fun hmem => by
        rcases List.mem_cons.mp hmem with y | hmem
        · exact hS (by rw [y]; simp)
        · rcases List.mem_cons.mp hmem with y | hmem
          · exact hS (by rw [y]; simp)
          · exact hb hmem)) up bare).1
  refine wpAny_looks_onW (s := ⟨hh, g, d, tk, s.os⟩) (by rw [← hst]; exact I.ok.frames) hfr fl fun h2 fl2 up2 => wpAny_landsW (s := ⟨h2, g, d, tk, s.os⟩) fl2 fun h3 fl3 up3 => ?_
  have I3 := seen h3 fl3.1 (up2.trans up3)
  obtain ⟨oe, hoe, hce⟩ := fl3.there
  have ty : PySem.W.Looks (model X.prog X.w) h3 (typeOf (.ref e)) C := hce ▸ (PySem.W.Looks.ld hoe).andThen .now
  refine wpAny_handleBy_cons (codeAny_handlers_test (ld_glob (X := X.held (.ref e)) (I3.held _) hg hm ?_ hd)) (by intro z; cases z)
  refine (PySem.W.exm_one I3.kIn ty hmatch).here ?_
  refine codeAny_handlers_suite_as (lands_againW (s := ⟨h3, g, d, tk, s.os⟩) fl3 fun h4 fl4 up4 => ?_)
  have I4 := seen h4 fl4.1 ((up2.trans up3).trans up4)
  obtain ⟨o4, ho4, hc4⟩ := fl4.there
  have live : ∀ b o, s.heap.get? b = some o → b ≠ e := fun b o z y => by rw [y, de] at z; cases z
  have I5 := I4.track (e := e) (φ := fun h => ∃ o, h.get? e = some o ∧ o.cls = C) he (dead0 I hex de) (by obtain ⟨m, ⟨o, es, ep, z, _⟩, _⟩ := I.loc; exact live _ o z) (fun y c z => by obtain ⟨v, o, r, _⟩ := I.cell y c z; exact live c o r)
    (fun p hp => live p.1 p.2 (I.pin p hp).1) ⟨o4, ho4, hc4⟩ ⟨o4, ho4⟩ fun a b ⟨o, y, z⟩ k => ⟨o, k o y, z⟩
  refine store_ok I5 nd hi hl (v := .ref e) rfl (fun s5 I6 => ?_) hf
  refine wpAny_mono (hs (.ref e) pins s5 _ _ (heldEnds i D) (I6.held _) (q e he)) (fun f s6 h6 => ?_) fun _ _ z => z.elim
  cases f with
  | next =>
    obtain ⟨σ7, H7, I7, q7⟩ := h6
    exact (I7.unheld I.ok).goes nd hi hk fun s8 I8 => ⟨_, H7, I8, q7⟩
  | ret u =>
    obtain ⟨_, _, _, _, _, z⟩ := h6
    exact z.elim
  | brk =>
    obtain ⟨_, _, _, z⟩ := h6
    exact z.elim
  | cont =>
    obtain ⟨_, _, _, z⟩ := h6
    exact z.elim
end L2

namespace L2
open PySem PySem.Spec PyProof.Rows
section
variable {X : Cx} {pins : List (Addr × Obj)} {σ : St} {H : Hp} {s : Shared} {x n y fx : Str} {R : Addr} {i j k : Nat} {np hpos pos p cp yp ap : Pos} {b0 : Stmt} {suite : List Stmt} {ts : TS} {D : Ends} {ps : List Str} {sp : Sp} {e : Expr} {es : List Expr} {t : TA}
/-- what stands round a try's clause -/
structure TryOk (X : Cx) (x n : Str) (R : Addr) (i : Nat) (b0 : Stmt) (suite : List Stmt) (ts : TS) : Prop where
  hex : X.ex = []
  hst : X.stack = X.env :: X.outer
  hfr : X.env.frame = some X.env.locals
  nd : X.N.Nodup
  hi : X.N[i]? = some n
  hk : X.env.kindOf n = some .local
  hl : Loc X.env.scope n
  hf : X.fn n = true ∨ X.env.scope.names.lookup n = some .local
  hg : Gl X x
  hm : X.mg x = some (.ref R)
  hs : ∀ v, PSs (X.held v) (b0 :: suite) ts
  hd : (x == ("__debug__" : Str)) = false
abbrev onCatch (X : Cx) (pins : List (Addr × Obj)) (D : Ends) (hs : List ExceptHandler) : Value → Shared → Prop := fun ev s' =>
  wpAny (model X.prog X.w) X.A (noteFrame ev X.env) (fun _ s2 => wpAny (model X.prog X.w) X.A (setFlight ev none) (fun _ s3 => wpAny (model X.prog X.w) X.A (handleBy ev X.env hs) (SP X pins D) X.xe s3) X.xe s2) X.xe s'
theorem try_call (G : TryOk X x n R i b0 suite ts) (F : DfX X.prog X.w X.K X.mg X.base fx k ps sp) (hr : Room k X.A) (ha : PA X.nox (e :: es) t) (hg : Gl X fx) (hdb : (fx == ("__debug__" : Str)) = false)
    (he : starEach (e :: es) X.env = (false, eval e X.env) :: starEach es X.env) (hpl : (backTo cp (starEach es X.env)).any (·.1) = false) {Qv : VK} (I : Inv X pins σ H s) (h : t σ H fun vs H1 => sp vs H1 Qv (Caught X.K R i ts D σ)) :
    wpAny (model X.prog X.w) X.A (eval (.Call (.Name fx p) (e :: es) [] cp) X.env) (EP X pins σ Qv) (onCatch X pins D [.ExceptHandler (some (.Name x np)) (some n) (b0 :: suite) hpos]) s := by
  obtain ⟨f, fd, h1, h2, h3, F⟩ := F
  refine wpAny_Call_Name_kw (ld_glob I hg h1 (PySem.W.callWith_K (h₀ := X.base) I.ok.mod.kin h2 (wpAny_mono (ha cp pins s σ H _ (I.wish _) h) (fun us s1 ⟨vs, H1, I1, r, q⟩ => ?_) fun _ _ z => z.elim) he hpl) hdb)
  have J : Inv X pins σ H1 s1 := I1.unwish
  refine ⟨J.kIn, wpAny_call (codeAny_mono (F.run X.A X.stack s1 H1 ⟨us, []⟩ us vs Qv _ hr J.env0 ?_ r q) fun r s' hq => ?_)⟩
  · have hb := h3 s1 us J.kIn
    rw [List.append_nil] at hb
    exact hb (by rw [← r.length]; exact F.len _ _ _ _ q)
  · cases r with
    | error ev => exact catch_ok G.hex G.hst G.hfr G.nd G.hi G.hk G.hl G.hf G.hg G.hm G.hs J hq G.hd
    | ok fl =>
      cases fl with
      | ret u => exact J.after hq
      | next => exact False.elim hq
      | brk => exact False.elim hq
      | cont => exact False.elim hq
/-- try: y = f(..) except R as n: suite -/
def tTryAsg (K : PySem.W.Frag) (R : Addr) (i j : Nat) (sp : Sp) (t : TA) (ts : TS) : TS := fun D σ H => t σ H fun vs H1 => sp vs H1 (fun v H2 => D.nx (σ.set j (some v)) H2) (Caught K R i ts D σ)
/-- try: f(..) except R as n: suite -/
def tTryExp (K : PySem.W.Frag) (R : Addr) (i : Nat) (sp : Sp) (t : TA) (ts : TS) : TS := fun D σ H => t σ H fun vs H1 => sp vs H1 (fun _ H2 => D.nx σ H2) (Caught K R i ts D σ)
theorem ps_tryExp (G : TryOk X x n R i b0 suite ts) (F : DfX X.prog X.w X.K X.mg X.base fx k ps sp) (hr : Room k X.A) (ha : PA X.nox (e :: es) t)
    (hg : Gl X fx := by rfl) (hdb : (fx == ("__debug__" : Str)) = false := by decide) (he : starEach (e :: es) X.env = (false, eval e X.env) :: starEach es X.env := by rfl) (hpl : (backTo cp (starEach es X.env)).any (·.1) = false := by rfl)
    (hs : swapsWith (.Call (.Name fx p) (e :: es) [] cp) none ap.line X.env = pure false := by rfl) :
    PS X (.Try [.Expr (.Call (.Name fx p) (e :: es) [] cp) ap] [.ExceptHandler (some (.Name x np)) (some n) (b0 :: suite) hpos] [] [] pos) (tTryExp X.K R i sp t ts) := by
  intro pins s σ H D I h
  refine wpAny_Try_except (wpAny_execs_cons (wpAny_Expr_any (wpAny_mono (try_call G F hr ha hg hdb he hpl I h) (fun v s1 ⟨w, H1, I1, r1, q1⟩ => ?_) fun _ _ z => z) I.quiet hs))
  exact wpAny_execs_nil (wpAny_execs_nil ⟨σ, H1, I1, q1⟩)
end
end L2

namespace L2
open PySem PySem.Spec PySem.W PyProof.Rows Builtin Builtin.ObjectAttr Builtin.Getset_descriptor
/-! ## X13. isinstance(e, C), e an exception of an own class -/
/-- what of the text an own exception class must have -/
structure ExcCls (K : Frag) (C : Addr) : Prop where
  ga : findIn K (.ref C) "__getattribute__" = some (some (.builtin "BaseException.__getattribute__"))
  noHook : findIn K (.ref C) "__getattr__" = some none
  cls : findIn K (.ref C) "__class__" = some (some (.builtin "object.__class__"))
  get : specialIn K (.builtin "object.__class__") "__get__" = some (some (.builtin "getset_descriptor.__get__"))
  tk : takesIn K (.builtin "object.__class__") = some true
  obj : mroIn K C (.type "object") = some true
  exc : mroIn K C (.type "BaseException") = some true
  isC : isClsIn K C = true
def ExcIs (e C : Addr) (h : Heap) : Prop := ∃ o, h.get? e = some o ∧ o.cls = .ref C
theorem ExcIs.ty {e C : Addr} {h : Heap} {M : Model} (x : ExcIs e C h) : Looks M h (typeOf (.ref e)) (.ref C) := by
  obtain ⟨o, a, b⟩ := x
  exact b ▸ (Looks.ld a).andThen .now
section
variable {prog : Program} {w : World} {A : Around} {E : Value → Shared → Prop} {s : Shared} {K : Frag} {e C : Addr}
/-- its class, as the getter of object tells it: walked anew, as no instance's dict is known here -/
theorem own_class : (".".intercalate ("object.__class__".cutAt '.').dropLast) = "object" := by decide +kernel
theorem exc_tells {R : Result → Shared → Prop} (x : ExcIs e C s.heap) (h : R (.ok (.ret (.ref C))) s) : codeAny (model prog w) A (.builtin "object.__class__" ⟨[.ref e], []⟩) R s := by
  have isE := x.ty (M := model prog w)
  refine codeAny_builtin KF.entry_class ?_
  wp_walk using isE.here
  exact h
theorem exc_getter {R : Result → Shared → Prop} {tp : Value} (F : ExcCls K C) (X : K.In s.heap) (x : ExcIs e C s.heap) (h : R (.ok (.ret (.ref C))) s) : codeAny (model prog w) A (.call (.builtin "getset_descriptor.__get__") ⟨[.builtin "object.__class__", .ref e, tp], []⟩) R s := by
  have walked : ∀ A', wpAny (model prog w) A' (Builtin.«getset_descriptor.__get__» ⟨[.builtin "object.__class__", .ref e, tp], []⟩)
      (fun fin s' => match fin with | .done f => R (.ok f) s' | .again c' => c'.quiet = true ∧ codeAny (model prog w) A c' R s') (fun e s' => R (.error e) s') s := fun A' => by
    have isE := x.ty (M := model prog w)
    have isO := looks_mroIn (M := model prog w) X F.obj
    wp_walk using isE.here
    simp only [own_class]
    refine isO.here ?_
    wp_walk
    exact ⟨Code.quiet_builtin _ (by decide +kernel), exc_tells x h⟩
  have args := KF.args_gs (.builtin "object.__class__") (.ref e) tp
  exact codeAny_call_builtin KF.slot_gs.plain KF.entry_gs (KF.slot_gs.check _ _ _ _ _ _ _ _ KF.type_class args (walked _))
theorem exc_class {Q : Option Value → Shared → Prop} (F : ExcCls K C) (X : K.In s.heap) (x : ExcIs e C s.heap) (h : Q (some (.ref C)) { s with toks := s.toks + 1 }) : wpAny (model prog w) A (getAttr? (.ref e) "__class__") Q E s := by
  obtain ⟨hh, g, d, t, os⟩ := s
  have isE := x.ty (M := model prog w)
  have ga := looks_findIn (M := model prog w) X F.ga
  have hook := looks_findIn (M := model prog w) X F.noHook
  have at_ := looks_findIn (M := model prog w) X F.cls
  have gt := looks_specialIn (M := model prog w) X F.get
  have tks := looks_takesIn (M := model prog w) X F.tk
  have isB := looks_mroIn (M := model prog w) X F.exc
  have bnd := PySem.F.attrBase_ValueError.ga.bind (.ref e)
  unfold getAttr? getAttrBy? getAttrBy
  refine wpAny_bind (wpAny_mkText (wpAny_bind (wpAny_attempt (wpAny_holding (wpAny_bind (isE.at (wpAny_bind (ga.at ?_))))))))
  have other : (onTheHeap (.ref C) && Value.builtin "BaseException.__getattribute__" == Value.builtin "object.__getattribute__") = false := by
    rw [show (Value.builtin "BaseException.__getattribute__" == Value.builtin "object.__getattribute__") = false by decide +kernel, Bool.and_false]
  refine wpAny_ite_false (by rw [other]; decide) ?_
  unfold getAttrByItsOwn hookBefore callGetattribute boundAndCalled
  refine wpAny_bind (wpAny_ite_true (by rfl) (hook.at (wpAny_bind (wpAny_attempt (wpAny_holding (wpAny_ite_false (by rfl) (wpAny_bind (wpAny_of_eq bnd (wpAny_call ?_)))))))))
  refine codeAny_call_builtin PySem.F.attrBase_ValueError.ga.plain PySem.F.entry_bexc_ga ?_
  have kd : builtinKind "BaseException.__getattribute__" = some .slot := by decide +kernel
  have sp : splitId "BaseException.__getattribute__" = some ("BaseException", "__getattribute__") := by decide +kernel
  have ag := PySem.F.args_bexc_ga (.ref e) (.str (Str.ofString "__class__") t)
  simp only [checkBuiltinCall, kd, sp]
  refine wpAny_bind ?_
  unfold isInstance
  refine wpAny_bind (isE.at (isB.at ?_))
  refine wpAny_ite_false (by decide) (wpAny_of_eq ag ?_)
  unfold Builtin.«object.__getattribute__» find getOf
  repeat (first | with_reducible refine wpAny_call ?_ | lk)
  refine exc_getter F X x (wpAny_pure ?_)
  exact handed_on rfl (wpAny_pure h)
/-- so isinstance has its answer -/
theorem kitx_exc (F : ExcCls K C) : KitX K (.ref e) (.ref C) (ExcIs e C) where
  ty := fun _ _ _ x => x.ty
  it := fun M h X x => by
    obtain ⟨cd, hc⟩ := Option.isSome_iff_exists.mp F.isC
    unfold clsIn at hc
    split at hc
    case h_2 => cases hc
    case h_1 ho => exact fun A' Q' E' s' k q => by unfold isType loadHead; exact wpAny_bind (wpAny_loadPart (k _ _ (X _ _ ho)) (wpAny_pure q))
  ne := fun h tp dd its n sl X htp => by
    obtain ⟨cd, hc⟩ := Option.isSome_iff_exists.mp F.isC
    unfold clsIn at hc
    split at hc
    case h_2 => cases hc
    case h_1 ho =>
      refine Bool.eq_false_iff.mpr fun q => ?_
      cases beq_iff_eq.mp q
      cases (X _ _ ho).symm.trans htp
  ca := fun X x k => exc_class F X x k
end
/-- isinstance(e, D) -/
def rIsExc (K : Frag) (D : Value) (d : V) : List V → Hp → VK → Prop := fun xs H Q => ∃ e C b, xs = [.ref e, d] ∧ H e = some (excAt e (.ref C)) ∧ ExcCls K C ∧ kitOne K (.ref C) D = some b ∧ Q (.bl b) H
theorem call_isexc {X : Cx} {D : Value} {d : V} (hd : RelV d D) (hD : ∀ u, RelV d u → u = D) : CallR X (.builtin "isinstance") (rIsExc X.K D d) := by
  intro pins s σ H xs us Q I r h
  obtain ⟨e, C, b, rfl, he, hC, hk, q⟩ := h
  obtain ⟨u, w', rfl, rx, ry⟩ := vals2 r
  cases rx
  cases hD _ ry
  obtain ⟨ex, _⟩ := I.hok e _ he
  exact kia_one (kitx_exc hC) I.kIn ex hk (fun z => nomatch z) fun tk => ⟨.bl b, H, I.tok tk, rfl, q⟩
end L2

namespace RA
/-! numbers of words: every number has its word -/
/-- how many words are shorter than n signs, of k letters -/
def geo (k : Int) : Nat → Int
  | 0 => 0
  | n + 1 => geo k n * k + 1
end RA

namespace RA
open PySem L2
/-- a text that may be shown in an error's words -/
structure Sm (w : List Nat) : Prop where
  len : w.length ≤ 4000
  cod : ∀ c ∈ w, c < 1000000
theorem Let.sm {L : List Nat} (h : Let L) : Sm L := ⟨by have := h.hi; omega, fun c hc => by have := (h.az c hc).2; omega⟩
theorem Sm.txt {w : List Nat} (h : Sm w) {σ : St} {i : Nat} (e : σ[i]? = some (some (.str (tx w)))) : Txt5 i σ := ⟨tx w, e, by rw [tx_len]; have := h.len; omega, by rw [tx_cps]; exact h.cod⟩
theorem Sm.one {w : List Nat} (h : Sm w) {c : Nat} (hc : c ∈ w) : Sm [c] := ⟨by simp, fun d hd => by rw [List.mem_singleton.mp hd]; exact h.cod c hc⟩
theorem sm_in {L w : List Nat} (hL : Let L) (hw : ∀ c ∈ w, c ∈ L) (hl : w.length ≤ 4000) : Sm w := ⟨hl, fun c hc => hL.sm.cod c (hw c hc)⟩
/-- the signs that are no letters -/
def forL : List Nat := List.range' 32 5 ++ List.range' 38 59 ++ List.range' 123 4
theorem for_eq : (Str.ofString " !\"#$&'()*+,-./0123456789:;<=>?@ABCDEFGHIJKLMNOPQRSTUVWXYZ[\\]^_`{|}~") = tx forL := by decide +kernel
theorem for_len : forL.length = 68 := by decide
theorem for_no : ∀ c ∈ forL, (c < 97 ∨ 122 < c) ∧ c < 127 := by decide
theorem sub_len : ∀ {a b : List Nat}, a.Nodup → (∀ c ∈ a, c ∈ b) → a.length ≤ b.length
  | [], _, _, _ => Nat.zero_le _
  | c :: a, b, nd, h => by
    obtain ⟨b1, b2, e⟩ := List.append_of_mem (h c (by simp))
    obtain ⟨n1, n2⟩ := List.nodup_cons.mp nd
    have := sub_len (a := a) (b := b1 ++ b2) n2 fun d hd => by
      have hd2 := h d (by simp [hd])
      rw [e] at hd2
      have hdc : d ≠ c := fun z => n1 (z ▸ hd)
      simp [hdc] at hd2
      simpa using hd2
    rw [e]
    simp at this ⊢
    omega
def abcL : List Nat := List.range' 97 26
/-- the small letters that are none of the letters -/
def othL (L : List Nat) : List Nat := abcL.filter fun c => !decide (c ∈ L)
theorem oth_mem {L : List Nat} {c : Nat} (h : c ∈ othL L) : (97 ≤ c ∧ c ≤ 122) ∧ c ∉ L := by
  obtain ⟨h1, h2⟩ := List.mem_filter.mp h
  refine ⟨?_, by simpa using h2⟩
  have := List.mem_range'.mp h1
  omega
theorem oth_len (L : List Nat) : 26 ≤ (othL L).length + L.length := by
  have h1 : (abcL.filter fun c => decide (c ∈ L)).length ≤ L.length := sub_len ((by decide : abcL.Nodup).filter _) fun c hc => by
    have := (List.mem_filter.mp hc).2
    simpa using this
  have h2 : (abcL.filter fun c => decide (c ∈ L)).length + (othL L).length = abcL.length := by
    have : ∀ l : List Nat, (l.filter fun c => decide (c ∈ L)).length + (l.filter fun c => !decide (c ∈ L)).length = l.length := fun l => by
      induction l with
      | nil => rfl
      | cons a r ih => by_cases ha : a ∈ L <;> simp [List.filter_cons, ha] at ih ⊢ <;> omega
    exact this abcL
  have h3 : abcL.length = 26 := by decide
  omega
/-! texts that tell no letters -/
/-! how far a word's number goes -/
end RA

namespace L2
open PySem PySem.Spec PyProof.Rows
/-! ## X14. lists of like flat items are alike -/
theorem eqV_same : ∀ {x : V}, flatV x = true → eqV x x = true := by
  intro x h
  cases x with
  | non => rfl
  | bl a => simp [eqV]
  | int a => simp [eqV]
  | str a => simp [eqV]
  | _ => exact absurd (show false = true from h) Bool.false_ne_true
def rEqL (K : PySem.W.Frag) : R2 := fun x y H Q => ∃ p q xs, x = .ref p ∧ y = .ref q ∧ SqL K H p xs ∧ SqL K H q xs ∧ xs.all flatV = true ∧ Q (.bl true) H
theorem op_eqL {X : Cx} (hu : X.A.units < cLine) : OpR X (compareOp .Eq) (rEqL X.K) := by
  intro pins s σ H x y v u Q I rx ry h
  obtain ⟨p, q, xs, rfl, rfl, hp, hq, hf, k⟩ := h
  cases rx
  cases ry
  obtain ⟨its, r1, pl1, hz1⟩ := I.list hp
  obtain ⟨its2, r2, pl2, hz2⟩ := I.list hq
  have l1 := r1.length
  have l2 := r2.length
  refine SeqAt.eq_listAt (e := fun _ => true) pl1.isList pl2.isList (by simp; omega) hu (fun j h1 h2 => ?_) ⟨.bl _, H, I, rfl, ?_⟩
  · have hj : j < xs.length := by simp at h1; omega
    obtain ⟨a, ea, ra⟩ := r1.get (i := j) (List.getElem?_eq_getElem hj)
    obtain ⟨b, eb, rb⟩ := r2.get (i := j) (List.getElem?_eq_getElem hj)
    have fx : flatV xs[j] = true := List.all_eq_true.mp hf _ (List.getElem_mem hj)
    have e := eqAt_V (A := X.A.in1) (s := s) ra rb fx fx
    rw [eqV_same fx] at e
    have e1 : its.toArray[j] = a := by
      have := List.getElem?_eq_some_iff.mp ea
      obtain ⟨_, e⟩ := this
      simpa using e
    have e2 : its2.toArray[j] = b := by
      have := List.getElem?_eq_some_iff.mp eb
      obtain ⟨_, e⟩ := this
      simpa using e
    rw [e1, e2]
    exact e
  · have : ((List.range its.toArray.size).all fun _ => true) = true := by simp
    rw [this]
    exact k
theorem Same.set {H H' : Hp} {a : Addr} {o : HO} (s : Same H H') (n : H a = none) : Same H (L2.upd H' a o) := fun b u e => by
  rw [upd_ne (ne_of_none e n)]
  exact s b u e
/-- the same over a text that stands there -/
theorem comp_signsC {x : Str} {tt : TT} {σ : St} {H : Hp} {Q : VK} (p : Nat → Bool) (hz : x.length ≤ sizeLine)
    (ht : ∀ (i : Nat) (c : Nat) (H' : Hp) (R : Bool → Hp → Prop), x.cps[i]? = some c → R (p c) H' → tt (some (.str ⟨#[c]⟩) :: σ) H' R) (hq : ∀ D, H D = none → Q (.ref D) (L2.upd H D (.lst ((x.cps.toList.filter p).map fun c => V.str ⟨#[c]⟩)))) :
    tComp (iStr (tC (.str x))) tt (tVar 0) σ H Q := ⟨x, rfl, comp_signs p hz ht hq⟩
end L2
namespace RA
open PySem L2
theorem Sm.app {a b : List Nat} (ha : Sm a) (hb : Sm b) (h : a.length + b.length ≤ 4000) : Sm (a ++ b) := ⟨by rw [List.length_append]; exact h, fun c hc => by
  rcases List.mem_append.mp hc with hc | hc
  · exact ha.cod c hc
  · exact hb.cod c hc⟩
theorem Sm.take {a : List Nat} (h : Sm a) (n : Nat) : Sm (a.take n) := ⟨by have := h.len; rw [List.length_take]; omega, fun c hc => h.cod c (List.mem_of_mem_take hc)⟩
theorem Sm.drop {a : List Nat} (h : Sm a) (n : Nat) : Sm (a.drop n) := ⟨by have := h.len; rw [List.length_drop]; omega, fun c hc => h.cod c (List.mem_of_mem_drop hc)⟩
theorem Sm.mid {a m : List Nat} {i j : Nat} (h : Sm a) (hm : Sm m) (hl : a.length + a.length + m.length ≤ 4000) : Sm (a.take i ++ m ++ a.drop j) := by
  have h1 : (a.take i).length ≤ a.length := by rw [List.length_take]; omega
  have h2 : (a.drop j).length ≤ a.length := by rw [List.length_drop]; omega
  exact ((h.take i).app hm (by omega)).app (h.drop j) (by rw [List.length_append]; omega)
theorem sm_one {c : Nat} (h : c < 1000000) : Sm [c] := ⟨by simp, fun d hd => by rw [List.mem_singleton.mp hd]; exact h⟩
/-- which refusal is due: none, the letters, the number, the room, the word -/
def dueN (y : Int) (f s t : Bool) : Nat := if y < 4 ∧ f = true then 1 else if y = 2 ∧ s = true then 2 else if y = 4 ∧ f = true then 3 else if (y ≠ 2 ∧ s = true) ∨ (y = 0 ∧ t = true) then 4 else 0
def nmN : Nat → List V
  | 1 => [.str "NoLetters"]
  | 2 => [.str "NoNumber"]
  | 3 => [.str "NoRoom"]
  | 4 => [.str "NoWord"]
  | _ => []
end RA
namespace L2
theorem boot_verr : PySem.bootBuiltins "ValueError" = some (.type "ValueError") := by decide +kernel
end L2

namespace L2
open PySem PySem.Spec PyProof.Rows
/-! ## X15. more of lists -/
def rInsert : V → List V → Hp → VK → Prop := fun x vs H Q => ∃ l xs i y, x = .ref l ∧ vs = [.int i, y] ∧ H l = some (.lst xs) ∧ 0 ≤ i ∧ i ≤ 1000 ∧ i ≤ xs.length ∧ xs.length < sizeLine ∧ Q .non (upd H l (.lst (xs.take i.toNat ++ y :: xs.drop i.toNat)))
section
variable {K : PySem.W.Frag} {tl : TE} {a : Addr} {xs : List V} {tt : TT} {te : TE} {σ : St} {H : Hp} {Q : VK}
end
/-! types -/
theorem kit_any (K : PySem.W.Frag) : PySem.W.kitOne K (.type "tuple") (.type "tuple") = some true ∧ PySem.W.kitOne K (.type "list") (.type "list") = some true ∧ PySem.W.kitOne K (.type "str") (.type "str") = some true :=
  ⟨by with_unfolding_all rfl, by with_unfolding_all rfl, by with_unfolding_all rfl⟩
theorem kit_tl (K : PySem.W.Frag) : PySem.W.kitOne K (.type "tuple") (.type "list") = some false := by kernel_rfl
theorem kit_lt (K : PySem.W.Frag) : PySem.W.kitOne K (.type "list") (.type "tuple") = some false := by kernel_rfl
theorem kit_it (K : PySem.W.Frag) : PySem.W.kitOne K (.type "int") (.type "tuple") = some false := by kernel_rfl
theorem kit_il (K : PySem.W.Frag) : PySem.W.kitOne K (.type "int") (.type "list") = some false := by kernel_rfl
theorem kit_bt (K : PySem.W.Frag) : PySem.W.kitOne K (.type "bool") (.type "tuple") = some false := by kernel_rfl
theorem kit_bl (K : PySem.W.Frag) : PySem.W.kitOne K (.type "bool") (.type "list") = some false := by kernel_rfl
theorem kit_st (K : PySem.W.Frag) : PySem.W.kitOne K (.type "str") (.type "tuple") = some false := by kernel_rfl
theorem kit_sl (K : PySem.W.Frag) : PySem.W.kitOne K (.type "str") (.type "list") = some false := by kernel_rfl
theorem kit_sb (K : PySem.W.Frag) : PySem.W.kitOne K (.type "str") (.type "bool") = some false := by kernel_rfl
theorem kit_si (K : PySem.W.Frag) : PySem.W.kitOne K (.type "str") (.type "int") = some false := by kernel_rfl
end L2
namespace L2
open PySem PySem.Spec PyProof.Rows
theorem call_isG {X : Cx} {T : String} : CallR X (.builtin "isinstance") (fun xs H Q => ∃ x t b, xs = [x, .ty T] ∧ TyOf X.K H x t ∧ PySem.W.kitOne X.K t (.type T) = some b ∧ Q (.bl b) H) := by
  intro pins s σ H xs us Q I r h
  obtain ⟨x, t, b, h1, h2, h3, q⟩ := h
  exact call_isinst (b := b) pins s σ H xs us Q I r ⟨x, t, h1, h2, h3, q⟩
end L2

namespace L2
open PySem PySem.Spec PyProof.Rows
/-! ## X16. y = [.. for x in ..]: the name is stored before the block's names go -/
section
variable {X : Cx} {elt iter : Expr} {x : Str} {px pos : Pos} {ifs : List Expr} {sc : Scope} {wi : TI} {tt : TT} {te : TE}
end
/-! the same rules, the frame's part of the text named -/
end L2
namespace L2
open PySem PySem.Spec PyProof.Rows
/-! ## X17. a block's name that the def has too -/
section
variable {X : Cx} {elt iter : Expr} {x : Str} {px pos : Pos} {ifs : List Expr} {sc : Scope} {wi : TI} {tt : TT} {te : TE}
theorem pe_compS (N2 : List Str) (hc : X.calm = true) (hN2 : (x :: N2).Nodup) (hi : PI X (.Name x px) iter wi)
    (hb : ∀ (cl : List (Str × Addr)) (C : Addr) (fp : List Addr) (s : Shared) (H : Hp), PTs { cxComp X x sc cl C fp s H with N := x :: N2 } ifs tt ∧ PE { cxComp X x sc cl C fp s H with N := x :: N2 } elt te)
    (hx : sc.names.lookup x = some .local := by rfl) (hkind : sc.kind = .function := by rfl)
    (hnames : ∀ y ∈ sc.names, y.2 = .local → sc.names.lookup y.1 = some .local := by decide +kernel) (hcell : ∀ y ∈ sc.names, y.2 ≠ .cell := by decide +kernel)
    (hfree : (sc.names.all fun y => y.2 != .free || X.env.scope.names.lookup y.1 == some .cell) = true := by rfl)
    (hlo : (N2.all fun y => sc.names.lookup y != some .local) = true := by rfl) (hl2 : N2.length = X.N.length := by rfl) (hz2 : ((N2.zip X.N).all fun y => y.1 == y.2 || sc.names.lookup y.1 == none) = true := by rfl)
    (hs : ∀ x, foldedSetIterable iter X.env x = pure x := by intro _; rfl) :
    PE X (.ListComp elt [⟨.Name x px, iter, ifs, 0⟩] sc pos) (tComp wi tt te) := by
  intro pins s σ H Q I h
  have hfr : ∀ y ∈ sc.names, y.2 = .free → X.env.kindOf y.1 = some .cell := fun y hy e => by
    have q := List.all_eq_true.mp hfree y hy
    rw [e] at q
    simpa [Env.kindOf] using q
  have hlo' : ∀ y ∈ N2, sc.names.lookup y ≠ some .local := fun y hy e => by
    have q := List.all_eq_true.mp hlo y hy
    rw [e] at q
    simp at q
  obtain ⟨cl, hclos, hsub, hhas⟩ := closure_of (env := X.env) (sc := sc) fun y hy e => I.ok.has y.1 (.inl (hfr y hy e))
  rw [eval_ListComp]
  refine wpAny_comprehension_free (use := none) rfl hs hclos hkind hnames (thn (hi pins s σ H _ I h) fun v s1 h1 => thn h1 fun itv s2 h2 => ?_)
  obtain ⟨it, fp, tn, J, H2, e, I2, T, st2, f2, hW⟩ := h2
  subst e
  -- the accumulator, then the block's frame
  have nobinds : ∀ y ∈ ([] : List (Str × Value)), sc.names.lookup y.1 = some .local := fun y hy => absurd hy (by simp)
  refine wpAny_newObj_type ?_
  refine wpAny_newFunctionEnv hcell nobinds (fun h₁ hns₁ hsb₁ => ?_) hkind
  dsimp only at hns₁ hsb₁ ⊢
  generalize hHa : s2.heap.push { cls := .type "list", dict := none, data := .seq ([] : List Value).toArray } = Ha at hns₁ hsb₁ ⊢
  have hC : Ha.objs.size = s2.heap.objs.size + 1 := by rw [← hHa, Heap.size_push]
  have hDC : s2.heap.objs.size ≠ Ha.objs.size := by rw [hC]; exact Nat.ne_of_lt (Nat.lt_succ_self _)
  have hCle : s2.heap.objs.size ≤ Ha.objs.size := by rw [hC]; exact Nat.le_succ _
  have neC : ∀ b o, s2.heap.get? b = some o → b ≠ Ha.objs.size := fun b o e => Nat.ne_of_lt (Nat.lt_of_lt_of_le (Heap.lt_size e) hCle)
  have old : ∀ b o, s2.heap.get? b = some o → h₁.get? b = some o := fun b o e => hsb₁.extBut b o (neC b o e) (Heap.get?_push_of_some _ (hHa ▸ Heap.get?_push_of_some _ e))
  have hacc : h₁.get? s2.heap.objs.size = some { cls := .type "list", dict := none, data := .seq ([] : List Value).toArray } := hsb₁.extBut _ _ hDC (Heap.get?_push_of_some _ (hHa ▸ Heap.get?_push_size _ rfl))
  generalize hDe : s2.heap.objs.size = D at *
  generalize hCe : Ha.objs.size = C at *
  have hHD : H2 D = none := I2.hok.fresh (Nat.le_of_eq hDe)
  have hHC : H2 C = none := I2.hok.fresh (by omega)
  obtain ⟨W, ⟨m0, w0⟩, turn⟩ := hW D hHD
  have fplt : ∀ b ∈ fp, b < D := fun b hb => by
    obtain ⟨o, e, _⟩ := T.obj _ _ st2 b hb
    rw [← hDe]
    exact Heap.lt_size e
  -- the block's context
  let X' : Cx := { cxComp X x sc cl C fp s2 H2 with N := x :: N2 }
  have nofs : ∀ b ∈ fp, b ∉ frs X.stack := fun b hb z => by
    rcases List.mem_cons.mp (I2.stkSub b z) with e | e
    · exact (f2 b hb).2.1 e
    · exact (f2 b hb).2.2.1 e
  have ok' : X'.Ok := by
    refine ⟨I2.ok.mod, hkind, I2.ok.glob, I2.ok.blt, ?_, fun y z c e1 e2 => I2.ok.inj y z c (hsub y c e1) (hsub z c e2), fun y hy => ?_, fun y c e => absurd (show false = true from e) Bool.false_ne_true, I2.ok.hd, I2.ok.frames, .inl rfl, fun b hb => ⟨?_, fun y c e => ?_⟩, I2.bs,
      Nat.le_trans I2.ok.bsz I2.sz, fun b o e hb => ?_, nofs, I2.stack, I2.stkFree⟩
    · show s2.heap.objs.size ≤ C
      omega
    · rcases hy with hy | hy
      · rcases relabel_lookup (show (relabel sc X.env).names.lookup y = some .cell from hy) with e | ⟨_, e, _⟩
        · exact absurd rfl (hcell _ (PySem.mem_of_lookup e))
        · exact hhas _ (PySem.mem_of_lookup e) rfl
      · rcases relabel_lookup (show (relabel sc X.env).names.lookup y = some .free from hy) with e | ⟨e, _⟩
        · exact hhas _ (PySem.mem_of_lookup e) rfl
        · cases e
    · exact Nat.ne_of_lt (Nat.lt_of_lt_of_le (fplt b hb) (by omega : D ≤ C))
    · exact (f2 b hb).2.2.2.2.1 y c (hsub y c e)
    · rcases (f2 b hb).2.2.2.1 with z | z
      · exact I2.ok.noex b o e z
      · exact absurd (Nat.lt_of_lt_of_le (Nat.lt_of_lt_of_le (Heap.lt_size e) I2.ok.bsz) z) (Nat.lt_irrefl _)
  have I4 : ∀ tk, Inv X' [] (none :: σ) (upd H2 D (.lst [])) { s2 with heap := h₁, toks := tk } := fun tk => by
    refine ⟨ok', rfl, I2.bare, Un.laid old (Nat.le_of_eq hDe) hHD, ⟨_, hns₁, fun i y v e1 e2 e3 => ?_⟩, fun y c e => ?_, ?_, fun y c e => ?_, fun p hp => ?_, I2.hok.laid old (Nat.le_of_eq hDe) ?_, ?_⟩
    · cases i with
      | zero => simp at e2
      | succ i =>
        have e0 : N2[i]? = some y := by simpa [X', cxComp] using e1
        have e2 : σ[i]? = some (some v) := by simpa using e2
        have e3 : Vis (relabel sc X.env) y := e3
        have hyN : y ∈ N2 := List.mem_of_getElem? e0
        have free : sc.names.lookup y = some .free ∧ (relabel sc X.env).names.lookup y ≠ some .local := by
          rcases e3 with e | e | e
          · rcases relabel_lookup e with q | ⟨q, _⟩
            · exact absurd q (hlo' y hyN)
            · cases q
          · rcases relabel_lookup e with q | ⟨_, q, _⟩
            · exact absurd rfl (hcell _ (PySem.mem_of_lookup q))
            · exact ⟨q, by rw [e]; decide⟩
          · rcases relabel_lookup e with q | ⟨q, _⟩
            · exact ⟨q, by rw [e]; decide⟩
            · cases q
        have e1 : X.N[i]? = some y := by
          have hi : i < N2.length := (List.getElem?_eq_some_iff.mp e0).1
          have hi2 : i < X.N.length := by omega
          have hm : (y, X.N[i]) ∈ N2.zip X.N := by
            have hz : (N2.zip X.N)[i]? = some (y, X.N[i]) := by
              rw [List.getElem?_zip_eq_some]
              exact ⟨e0, List.getElem?_eq_getElem hi2⟩
            exact List.mem_of_getElem? hz
          have q := List.all_eq_true.mp hz2 _ hm
          rcases Bool.or_eq_true_iff.mp q with q | q
          · have : y = X.N[i] := eq_of_beq q
            rw [List.getElem?_eq_getElem hi2, ← this]
          · have q2 : sc.names.lookup y = none := by simpa using q
            rw [free.1] at q2
            cases q2
        have kc : X.env.kindOf y = some .cell := hfr _ (PySem.mem_of_lookup free.1) rfl
        obtain ⟨m, hn, hl⟩ := I2.loc
        obtain ⟨u, ru, lk⟩ := hl i y v e1 e2 (.inr (.inl kc))
        rcases lk with ⟨q, _⟩ | ⟨_, c, hcc, ⟨o, ho, hd⟩⟩
        · rw [kc] at q; cases q
        · obtain ⟨c', hc'⟩ := hhas _ (PySem.mem_of_lookup free.1) rfl
          have e4 := hsub _ _ hc'
          rw [hcc] at e4
          cases e4
          refine ⟨u, ru, .inr ⟨?_, c, hc', ⟨o, old c o ho, hd⟩⟩⟩
          rcases e3 with e | e | e
          · exact absurd e free.2
          · exact .inl e
          · exact .inr e
    · obtain ⟨v, o, ho, hd⟩ := I2.cell y c (hsub y c e)
      exact ⟨v, o, old c o ho, hd⟩
    · show upd H2 D (.lst []) C = none
      rw [upd_ne (neA (by omega))]
      exact hHC
    · obtain ⟨v, o, ho, hd⟩ := I2.cell y c (hsub y c e)
      have hlt := Heap.lt_size ho
      rw [hDe] at hlt
      show upd H2 D (.lst []) c = none
      rw [upd_ne (Nat.ne_of_lt hlt)]
      exact I2.freeC y c (hsub y c e)
    · exact absurd (show p ∈ ([] : List (Addr × Obj)) from hp) (by simp)
    · exact ⟨Nat.zero_le _, [], 0, .nil, hacc⟩
    · show (none :: σ).length = (x :: N2).length
      rw [List.length_cons, List.length_cons, I2.len, hl2]
  have hN' : X'.N.Nodup := hN2
  have hx' : X'.env.scope.names.lookup x = some .local := lookup_relabel_local hx
  obtain ⟨PT', PE'⟩ := hb cl C fp s2 H2
  have fpX : ∀ {pins' : List (Addr × Obj)} {H' : Hp}, (∀ b ∈ fp, H' b = none) → (∀ p ∈ pins', p.1 ∉ fp) → ∀ b ∈ fp, FpOk X' pins' H' b := fun hn hp b hb => by
    refine ⟨hn b hb, ?_, nofs b hb, .inl hb, fun y c e => (f2 b hb).2.2.2.2.1 y c (hsub y c e), fun p q z => ?_⟩
    · exact Nat.ne_of_lt (Nat.lt_of_lt_of_le (fplt b hb) (by omega : D ≤ C))
    · rcases List.mem_append.mp q with q | q
      · exact absurd (show p ∈ ([] : List (Addr × Obj)) from q) (by simp)
      · exact hp p q (by rw [z]; exact hb)
  have loop : ∀ tk, codeAny (model X.prog X.w) X.A (.compLoop (.ListComp elt [⟨.Name x px, iter, ifs, 0⟩] sc pos) 0 (.ref it) (.ref D) (compEnvC sc cl C X.env)) (compPost (model X.prog X.w) X.A X.xe none (EP X pins σ Q) (.ref D) C) { s2 with heap := h₁, toks := tk } := fun tk => by
    refine codeAny_compLoop_tests (fun n s' => ∃ i ys o H', Inv X' [] (o :: σ) H' s' ∧ tn i s'.heap ∧ (∀ b ∈ fp, H' b = none) ∧ W i n ys H') ?_ m0 ⟨0, [], none, _, I4 tk, T.keep _ _ _ st2 fun b hb o e => old b o e, fun b hb => ?_, w0⟩
    · rintro n s3 ⟨i, ys, o3, H3, I3, st3, fr3, w3⟩
      obtain ⟨hD3, alt⟩ := turn i n ys H3 w3
      rcases alt with ⟨stop, qn⟩ | ⟨go, hlen, step⟩
      · refine wpAny_mono (T.done X' rfl rfl rfl hc i [] s3 _ H3 (fun _ _ => False) I3 (fpX fr3 (by simp)) st3 stop) (fun r s4 hpq => ?_) fun _ _ f => f.elim
        obtain ⟨hr, I4'⟩ := hpq
        subst hr
        obtain ⟨mC, hnC, _⟩ := I4'.loc
        refine ⟨mC, hnC, fun h' hs' => ?_⟩
        have nC : ∀ b u, H3 b = some u → b ≠ C := fun b u e z => by rw [z] at e; rw [show H3 C = none from I4'.free] at e; cases e
        have hok' : HOk X.prog X.w H3 h' := fun b u e => (I4'.hok b u e).stay (fun c v hcc q => hs'.extBut c v (by
          rcases hcc with z | z
          · rw [z]; exact nC b u e
          · exact nC c _ z) q) (fun _ q => q) fun _ _ q => q
        have un : Un (frs X.stack) fp H2 H3 s2.heap h' :=
          ⟨fun b o e n1 n2 n3 => hs'.extBut b o (neC b o e) (I4'.base.keep b o e n1 n2 n3), fun b o e n1 n2 n3 => by
              obtain ⟨sl, q⟩ := I4'.base.slot b o e n1 n2 n3
              exact ⟨sl, hs'.extBut b _ (neC b o e) q⟩, I4'.base.free, fun b o e n1 => by
              obtain ⟨o', q⟩ := I4'.base.there b o e n1
              exact ⟨o', hs'.extBut b _ (neC b o e) q⟩, I4'.base.tups, I4'.base.frzs, I4'.base.tbls⟩
        exact ⟨.ref D, H3, I2.call' (s' := { s4 with heap := h' }) I4'.os un hok' I4'.bare fun b hb => ⟨(f2 b hb).2.2.2.1, (f2 b hb).2.1, (f2 b hb).2.2.2.2.1, (f2 b hb).2.2.2.2.2⟩, rfl, qn⟩
      · refine wpAny_mono (T.item X' rfl rfl rfl hc i [] s3 _ H3 (fun _ _ => False) I3 (fpX fr3 (by simp)) st3 go) (fun r s4 hpq => ?_) fun _ _ f => f.elim
        obtain ⟨u, hr, h4⟩ := hpq
        subst hr
        have eg : (letOwnedTupleGo (.Name x px) (.ref it) u >>= fun _ => assign (.Name x px) (compEnvC sc cl C X.env) u) = assign (.Name x px) (compEnvC sc cl C X.env) u := pure_bind () _
        show wpAny _ _ (assign (.Name x px) (compEnvC sc cl C X.env) u) _ _ s4
        rw [← eg]
        refine wpAny_bind (wpAny_mono h4 (fun _ s5 hpq => ?_) fun _ _ f => f.elim)
        obtain ⟨y, H5, I5, r5, y5, st5, fr5⟩ := hpq
        have I5' := I5.pinned (fpX fr5 (by simp)) (T.obj _ _ st5)
        refine wpAny_mono (pg_name (X := X') (i := 0) (pos := px) hN' rfl (.inl hx') (.inr hx') _ s5 _ H5 y u (fun σ' H' => σ' = some y :: σ ∧ H' = H5) I5' r5 ⟨rfl, rfl⟩) (fun _ s6 hpq => ?_) fun _ _ f => f.elim
        obtain ⟨σ6, H6, I6, e1, e2⟩ := hpq
        subst e1 e2
        refine wpAny_mono (PT' _ s6 _ _ _ I6 (step y _ y5)) (fun ok s7 hpq => ?_) fun _ _ f => f.elim
        obtain ⟨H7, I7, q7⟩ := hpq
        have again : ∀ {s8 : Shared} {H8 : Hp} {ys' : List V}, Inv X' ([] ++ pinsAt fp s5.heap) (some y :: σ) H8 s8 → (∃ m', m' < n ∧ W (i + 1) m' ys' H8) → ∃ m, m < n ∧ ∃ i ys o H', Inv X' [] (o :: σ) H' s8 ∧ tn i s8.heap ∧ (∀ b ∈ fp, H' b = none) ∧ W i m ys H' := fun {s8 H8 ys'} I8 ⟨m', hm, w8⟩ => by
          refine ⟨m', hm, i + 1, ys', some y, H8, I8.unpinned, T.keep _ _ _ st5 fun b hb o e => (I8.pin (b, o) (List.mem_append_right _ (List.mem_append_right _ (mem_pinsAt hb e)))).1, fun b hb => ?_, w8⟩
          obtain ⟨o, e, d⟩ := T.obj _ _ st5 b hb
          exact (I8.pin (b, o) (List.mem_append_right _ (List.mem_append_right _ (mem_pinsAt hb e)))).2.1
        cases ok with
        | false => exact again I7 q7
        | true =>
          have q7 : te (some y :: σ) H7 _ := q7
          refine wpAny_mono (PE' _ s7 _ _ _ I7 q7) (fun z s8 hpq => ?_) fun _ _ f => f.elim
          obtain ⟨yv, H8, I8, r8, hD8, q8⟩ := hpq
          refine wpAny_mono (mt_append (X := X') _ s8 _ H8 (.ref D) [yv] (.ref D) [z] (fun _ H9 => H9 = upd H8 D (.lst (ys ++ [yv]))) I8 rfl (.cons r8 .nil) ⟨D, ys, yv, rfl, rfl, hD8, hlen, rfl⟩) (fun _ s9 hpq => ?_) fun _ _ f => f.elim
          obtain ⟨_, H9, I9, _, e9⟩ := hpq
          subst e9
          exact again I9 q8
    · show upd H2 D (.lst []) b = none
      rw [upd_ne (Nat.ne_of_lt (fplt b hb))]
      exact (f2 b hb).1
  exact codeAny_compStart_list (loop _) (T.self _ _ _ _ _ (T.keep _ _ _ st2 fun b hb o e => old b o e) (loop _))
end
end L2

namespace RA
open PySem L2
/-! machines out of lists -/
def RowsL (H : Hp) (rows : List Addr) (Rs : List (List Int)) : Prop := rows.length = Rs.length ∧ ∀ (i : Nat) (r : Addr), rows[i]? = some r → ∃ R, Rs[i]? = some R ∧ H r = some (.lst (R.map V.int))
def RowsT (H : Hp) (rows : List Addr) (Rs : List (List Int)) : Prop := rows.length = Rs.length ∧ ∀ (i : Nat) (r : Addr), rows[i]? = some r → ∃ R, Rs[i]? = some R ∧ H r = some (.tup (R.map V.int))
/-- what no machine can be made of -/
def BadM (L : List Nat) (Rs : List (List Int)) (Bs : List Bool) : Prop := Rs.length = 0 ∨ Bs.length ≠ Rs.length ∨ ∃ R ∈ Rs, R.length ≠ L.length ∨ ∃ x ∈ R, ¬ (0 ≤ x ∧ x < (Rs.length : Int))
def MachI (H : Hp) (m : Addr) (L : List Nat) (Rs : List (List Int)) (Bs : List Bool) : Prop :=
  ∃ (wy mk : Addr) (rows : List Addr), H m = some (.tup [.str (tx L), .ref wy, .ref mk]) ∧ H wy = some (.tup (rows.map V.ref)) ∧ H mk = some (.tup (Bs.map V.bl)) ∧ RowsT H rows Rs
/-- alike through and through -/
def flat3 : V → Bool
  | .bl _ => true
  | .int _ => true
  | .str _ => true
  | _ => false
def Like (H : Hp) : Nat → V → V → Prop
  | 0, x, y => x = y ∧ flat3 x = true
  | d + 1, x, y => (x = y ∧ flat3 x = true) ∨ ∃ p q xs ys, x = .ref p ∧ y = .ref q ∧ ((H p = some (.tup xs) ∧ H q = some (.tup ys)) ∨ (H p = some (.lst xs) ∧ H q = some (.lst ys))) ∧ xs.length = ys.length ∧ xs.length ≤ 1000 ∧
      ∀ (i : Nat) (x y : V), xs[i]? = some x → ys[i]? = some y → Like H d x y
theorem like_flat {H : Hp} {d : Nat} {x : V} (h : flat3 x = true) : Like H d x x := by
  cases d with
  | zero => exact ⟨rfl, h⟩
  | succ d => exact Or.inl ⟨rfl, h⟩
theorem like_flats {H : Hp} {d : Nat} {xs : List V} (h : xs.all flat3 = true) : ∀ (i : Nat) (x y : V), xs[i]? = some x → xs[i]? = some y → Like H d x y := fun i x y hx hy => by
  rw [hx] at hy
  cases hy
  exact like_flat (List.all_eq_true.mp h x (List.mem_of_getElem? hx))
def natR (W : List (List Nat)) : List (List Int) := W.map fun ws => ws.map fun (n : Nat) => (n : Int)
end RA
namespace RA
open PySem L2
end RA
namespace L2
end L2
namespace RA
open PySem L2
end RA

namespace L2
open PySem PySem.Spec PyProof.Rows
theorem passes_no {X : Cx} : Passes (CXE X.prog X.w) X E0 := fun _ _ _ _ _ _ _ h => by
  obtain ⟨_, _, _, _, _, _, _, _, _, _, _, _, _, _, _, h⟩ := h
  exact h.elim
theorem walk63z {l : PySem.W.OpenLaw} {k : Nat} {x : Str} {q : Program} {loose : List Str} {XP : (Str → Option Value) → Heap → Prop} {d : DefRec} {K : Params → PySem.W.Frag} (hn : l.most = some 63) (hdf : d.params.defaults = []) (hr : Room k callerA)
    (F : ∀ (w : World) (mg : Str → Option Value) (fa : Addr) (h : Heap), (K w.params).In h → h.Ns mainGlobals mg → mg d.name = some (.ref fa) →
      ∃ fd : FuncData, (∀ (s : Shared) (u : Value), BindsTo s fd ⟨[u], []⟩ [(x, u)]) ∧ ∀ base : Heap, (K w.params).In base → base.Ns mainGlobals mg → FnOk l.prog w (K w.params) mg base CX0 k fa fd [x] (spLaw (K w.params))) :
    PySem.W.WalkO q loose XP (fun w h => (K w.params).In h) l.row.toRowW d [] (fun f vs => PySem.call f vs) := walk63 hn hdf hr (fun _ _ Y => Y) F
end L2
namespace RA
open PySem L2
theorem ar_room (z : Int) (b m : Nat) (hm : 0 < m) : ∃ n : Nat, (n : Int) = (b : Int) + z % (m : Int) ∧ b ≤ n ∧ n < b + m := by
  have h0 := Int.emod_nonneg z (show (m : Int) ≠ 0 by omega)
  have h1 := Int.emod_lt_of_pos z (show (0 : Int) < (m : Int) by omega)
  exact ⟨b + (z % (m : Int)).toNat, by omega, by omega, by omega⟩
theorem intsV_len (ws : List Nat) : (intsV ws).length = ws.length := by simp [intsV]
theorem comp_range {lo : Int} {n : Nat} {tt : TT} {te : TE} {σ : St} {H : Hp} {Q : VK} (Pv : Addr → Nat → List V → Hp → Prop) (hz : n ≤ sizeLine)
    (h0 : ∀ D, H D = none → Pv D 0 [] (L2.upd H D (.lst [])))
    (hs : ∀ (D : Addr) (i : Nat) (ys : List V) (H' : Hp) (R1 : VK) (R2 : Hp → Prop), H D = none → i < n → Same H H' → H' D = some (.lst ys) → Pv D i ys H' →
      (∀ y H5, H5 D = some (.lst ys) → Same H (L2.upd H5 D (.lst (ys ++ [y]))) → Pv D (i + 1) (ys ++ [y]) (L2.upd H5 D (.lst (ys ++ [y]))) → R1 y H5) → (∀ H4, Same H H4 → H4 D = some (.lst ys) → Pv D (i + 1) ys H4 → R2 H4) →
      tt (some (.int (lo + (i : Int))) :: σ) H' fun b H4 => if b = true then te (some (.int (lo + (i : Int))) :: σ) H4 R1 else R2 H4)
    (hq : ∀ D ys H', H D = none → Same H H' → H' D = some (.lst ys) → Pv D n ys H' → Q (.ref D) H') : ∀ D, H D = none → ∃ W : Nat → Nat → List V → Hp → Prop,
  (∃ m, W 0 m [] (L2.upd H D (.lst []))) ∧ ∀ i m ys H2, W i m ys H2 → H2 D = some (.lst ys) ∧ (((Itr lo n).stop i H2 ∧ Q (.ref D) H2) ∨ ((Itr lo n).go i H2 ∧ ys.length < sizeLine ∧ ∀ x H3, (Itr lo n).yld i H2 x H3 →
    tt (some x :: σ) H3 fun b H4 => if b = true then te (some x :: σ) H4 fun y H5 => H5 D = some (.lst ys) ∧ ∃ m', m' < m ∧ W (i + 1) m' (ys ++ [y]) (L2.upd H5 D (.lst (ys ++ [y])))
      else ∃ m', m' < m ∧ W (i + 1) m' ys H4)) := by
  intro D hD
  refine ⟨fun i m ys H2 => m = n - i ∧ i ≤ n ∧ ys.length ≤ i ∧ Same H H2 ∧ H2 D = some (.lst ys) ∧ Pv D i ys H2, ⟨n, by simp, Nat.zero_le _, by simp, Same.upd hD, upd_same, h0 D hD⟩, ?_⟩
  rintro i m ys H2 ⟨rfl, hi, hy, hsm, hDl, hp⟩
  refine ⟨hDl, ?_⟩
  by_cases hlt : i < n
  · refine .inr ⟨hlt, Nat.lt_of_le_of_lt hy (Nat.lt_of_lt_of_le hlt hz), fun x H3 hyl => ?_⟩
    obtain ⟨e, hx⟩ := hyl
    subst e hx
    exact hs D i ys H3 _ _ hD hlt hsm hDl hp (fun y H5 a b c => ⟨a, n - (i + 1), Nat.sub_succ_lt_self _ _ hlt, rfl, hlt, by rw [List.length_append]; exact Nat.succ_le_succ hy, b, upd_same, c⟩) (fun H4 a b c => ⟨n - (i + 1), Nat.sub_succ_lt_self _ _ hlt, rfl, hlt, Nat.le_succ_of_le hy, a, b, c⟩)
  · have e : i = n := Nat.le_antisymm hi (Nat.le_of_not_lt hlt)
    subst e
    exact .inl ⟨Nat.le_refl _, hq D ys H2 hD hsm hDl hp⟩
section
variable {K : PySem.W.Frag} {te : TE} {tt : TT} {σ : St} {H : Hp} {Q : VK} {a c d : Addr} {o : HO} {xs zs : List V}
theorem comp_rngG {t : TA} {n : Nat} (ht : ∀ R : List V → Hp → Prop, R [.int (n : Int)] H → t σ H R) (hn : n ≤ 1000) (Pv : Addr → Nat → List V → Hp → Prop)
    (h0 : ∀ D, H D = none → Pv D 0 [] (L2.upd H D (.lst [])))
    (hs : ∀ (D : Addr) (i : Nat) (ys : List V) (H' : Hp) (R1 : VK) (R2 : Hp → Prop), H D = none → i < n → Same H H' → H' D = some (.lst ys) → Pv D i ys H' →
      (∀ y H5, H5 D = some (.lst ys) → Same H (L2.upd H5 D (.lst (ys ++ [y]))) → Pv D (i + 1) (ys ++ [y]) (L2.upd H5 D (.lst (ys ++ [y]))) → R1 y H5) → (∀ H4, Same H H4 → H4 D = some (.lst ys) → Pv D (i + 1) ys H4 → R2 H4) →
      tt (some (.int (0 + (i : Int))) :: σ) H' fun b H4 => if b = true then te (some (.int (0 + (i : Int))) :: σ) H4 R1 else R2 H4)
    (hq : ∀ D ys H', H D = none → Same H H' → H' D = some (.lst ys) → Pv D n ys H' → Q (.ref D) H') : tComp (iRng1 t) tt te σ H Q :=
  ht _ ⟨(n : Int), rfl, by omega, by omega, comp_range (n := n) Pv (line_ge (by omega)) h0 hs hq⟩
end
theorem len1 {α : Type} {l : List α} (h : l.length = 1) : ∃ a, l = [a] := match l, h with | [a], _ => ⟨a, rfl⟩
theorem len2 {α : Type} {l : List α} (h : l.length = 2) : ∃ a b, l = [a, b] := match l, h with | [a, b], _ => ⟨a, b, rfl⟩
theorem len3 {α : Type} {l : List α} (h : l.length = 3) : ∃ a b c, l = [a, b, c] := match l, h with | [a, b, c], _ => ⟨a, b, c, rfl⟩
theorem len4 {α : Type} {l : List α} (h : l.length = 4) : ∃ a b c d, l = [a, b, c, d] := match l, h with | [a, b, c, d], _ => ⟨a, b, c, d, rfl⟩
theorem len5 {α : Type} {l : List α} (h : l.length = 5) : ∃ a b c d e, l = [a, b, c, d, e] := match l, h with | [a, b, c, d, e], _ => ⟨a, b, c, d, e, rfl⟩
end RA

namespace L2
open PySem PySem.Spec PyProof.Rows
/-! ## an exception that flies out of a block of a comprehension -/
section
variable {M : Model} {A : Around} {E : Value → Shared → Prop} {s : Shared} {base : Heap} {env : Env} {outer l : List Env} {L e : Addr} {cls a0 fl : Value}
/-- it leaves the frame, wherever it was noted last -/
theorem leaves_any {Q : Unit → Shared → Prop} (hfr : A.frames = some (env :: outer)) (hf : env.frame = some L) (hkb : base.StaysIn s.heap) (hen : base.get? e = none) (hl : s.heap.FunFrames base (env :: outer)) (ht : s.heap.TracedAtW base e cls a0 fl)
    (hQ : ∀ h', Heap.FlyingW base outer e cls a0 h' → s.heap.UpToSlots h' → Q () { s with heap := h' }) : wpAny M A (leaving env (.ref e)) Q E s := by
  by_cases hfl : fl = rawInt L
  · subst hfl
    unfold leaving
    refine wpAny_bind (wpAny_noteFrame_againW hf ht ?_)
    refine wpAny_landsW (l := env :: outer) ⟨hkb, hen, hl, ht⟩ fun h' hfl up => ?_
    obtain ⟨k1, k2, ⟨_, _, k3⟩, k4⟩ := hfl
    exact hQ h' ⟨k1, k2, k3, k4⟩ up
  · obtain ⟨oe, vs, T, oT, ts, he, ⟨hc, h0⟩, hd, h1, nT, hTe, hT, dT, h3⟩ := ht
    subst hc
    unfold leaving noteFrame
    simp only [hf]
    refine wpAny_bind (wpAny_bind (wpAny_field he hd h1 ?_))
    rw [if_pos (by simp)]
    refine wpAny_bind (wpAny_field hT dT h3 ?_)
    rw [if_neg (by simpa using hfl)]
    refine wpAny_bind (wpAny_setField hT dT (Array.getElem?_eq_some_iff.mp h3).1 ?_)
    have off : ∀ c, c ≠ T → (s.heap.update T (Obj.mapFields (·.setIfInBounds 3 Value.none))).get? c = s.heap.get? c := fun c hc => Heap.get?_update_other _ _ (Ne.symm hc)
    have nof : ∀ c o, s.heap.get? c = some o → (∀ ws, o.data ≠ .fields ws) → c ≠ T := fun c o hc hn z => by
      rw [z, hT] at hc
      cases hc
      exact hn ts dT
    refine wpAny_newEntryW (base := base) hfr (hl.of_keeps fun c o hc hn => ⟨o, (off c (nof c o hc hn)).trans hc, rfl⟩) hf ((off e (Ne.symm hTe)).trans he) (fun c o hc => (off c fun z => by rw [z, nT] at hc; cases hc).trans (hkb c o hc)) hen hd
      (Array.getElem?_eq_some_iff.mp h1).1 h0 fun h' hL => ?_
    obtain ⟨k1, ⟨_, _, k2⟩, k3, k4⟩ := hL
    exact hQ h' ⟨k1, hen, k2, k3⟩ fun c o hc hn => k4 c o ((off c (nof c o hc hn)).trans hc) hn
/-- the block passes it on -/
theorem pass_any {α : Type} {what : String} {cenv : Env} {Q : α → Shared → Prop} (hkb : base.StaysIn s.heap) (hl : s.heap.FunFrames base l) (ht : s.heap.TracedAtW base e cls a0 fl)
    (hE : ∀ h' fl', base.StaysIn h' → h'.FunFrames base l → h'.TracedAtW base e cls a0 fl' → s.heap.UpToSlots h' → E (.ref e) { s with heap := h' }) : wpAny M A (PySem.passOn what (.ref e) cenv : Sem α) Q E s := by
  obtain ⟨oe, vs, T, oT, ts, he, hc, hd, h1, nT, hTe, hT, dT, h3⟩ := ht
  have off : ∀ v c, c ≠ T → (s.heap.update T (Obj.mapFields (·.setIfInBounds 3 v))).get? c = s.heap.get? c := fun v c hc => Heap.get?_update_other _ _ (Ne.symm hc)
  have nof : ∀ c o, s.heap.get? c = some o → (∀ ws, o.data ≠ .fields ws) → c ≠ T := fun c o hc hn z => by
    rw [z, hT] at hc
    cases hc
    exact hn ts dT
  have l3 := (Array.getElem?_eq_some_iff.mp h3).1
  unfold PySem.passOn
  refine wpAny_bind (wpAny_field he hd h1 ?_)
  rw [if_neg (by simp)]
  have fly : ∀ v, wpAny M A (setField (.ref T) 3 v) (fun _ s' => E (.ref e) s') E s := fun v => by
    refine wpAny_setField hT dT l3 (hE _ v (fun c o hc => (off v c fun z => by rw [z, nT] at hc; cases hc).trans (hkb c o hc)) (hl.of_keeps fun c o hc hn => ⟨o, (off v c (nof c o hc hn)).trans hc, rfl⟩) ?_ fun c o hc hn => ⟨o.slots, (off v c (nof c o hc hn)).trans hc⟩)
    exact ⟨oe, vs, T, _, _, (off v e (Ne.symm hTe)).trans he, hc, hd, h1, nT, hTe, Heap.get?_update_self _ hT (Obj.isFreed_of_fields (Obj.data_mapFields dT _)), Obj.data_mapFields dT _, by simp [l3]⟩
  have go : ∀ f, wpAny M A (setFlight (.ref e) f) (fun _ s' => wpAny M A (throw (.ref e) : Sem α) Q E s') E s := fun f => by
    unfold setFlight
    refine wpAny_bind (wpAny_field he hd h1 ?_)
    rw [if_pos (by simp)]
    exact wpAny_mono (fly _) (fun _ _ q => wpAny_throw q) fun _ _ q => q
  first
    | exact wpAny_bind (wpAny_pure (wpAny_bind (go _)))
    | exact wpAny_bind (go _)
end
theorem frames_off {h h' base : Heap} : ∀ {l : List Env}, h.FunFrames base l → (∀ b ∈ frs l, h'.get? b = h.get? b) → h'.FunFrames base l
  | [], _, _ => trivial
  | env :: r, hl, hs => by
    obtain ⟨hk, ⟨L, o, hf, hn, ho, hd⟩, hr⟩ := hl
    have e : frs (env :: r) = L :: frs r := by unfold frs; rw [List.filterMap_cons, hf]
    exact ⟨hk, ⟨L, o, hf, hn, (hs L (by rw [e]; exact List.mem_cons_self)).trans ho, hd⟩, frames_off hr fun b hb => hs b (by rw [e]; exact List.mem_cons_of_mem _ hb)⟩
end L2

namespace L2
open PySem PySem.Spec PyProof.Rows
section
variable {X : Cx} {E : XK}
/-- what is wanted of an exception of the block: it came out of a callee there -/
def blockX (X X' : Cx) (E : XK) : Value → Shared → Prop := fun ev s' => ∃ pins σ H s, Inv X' pins σ H s ∧ CXE X.prog X.w X.stack H s E ev s'
theorem passes_block {Y X' : Cx} (hY : Y = X'.wish (blockX X X' E)) (h1 : X'.prog = X.prog := by rfl) (h2 : X'.w = X.w := by rfl) (h3 : X'.stack = X.stack := by rfl) : Passes (CXE Y.prog Y.w) Y E := fun pins σ H s _ _ I cx => by
  subst hY
  refine ⟨pins, σ, H, s, I.unwish, ?_⟩
  rw [← h1, ← h2, ← h3]
  exact cx
/-- how the def's own wish about exceptions reads -/
def OwnXe (X : Cx) (E : XK) : Prop := X.ex = [] ∧ X.stack = X.env :: X.outer ∧ X.env.frame = some X.env.locals ∧
  ∀ ev s', wpAny (model X.prog X.w) X.A (leaving X.env ev) (fun _ s'' => CXE X.prog X.w X.outer X.H₀ X.s₀ E ev s'') (fun e' s'' => CXE X.prog X.w X.outer X.H₀ X.s₀ E e' s'') s' → X.xe ev s'
theorem block_flies {pins : List (Addr × Obj)} {σ : St} {H2 : Hp} {s2 : Shared} {fp : List Addr} {x : Str} {sc : Scope} {cl : List (Str × Addr)} {C : Addr} {N' : List Str} {Q : Value → Shared → Prop} {acc ev : Value} {s' : Shared} (O : OwnXe X E) (I2 : Inv X pins σ H2 s2)
    (f2 : ∀ b ∈ fp, (b ∈ X.ex ∨ X.s₀.heap.objs.size ≤ b) ∧ b ≠ X.env.locals ∧ (∀ x c, X.env.cells.lookup x = some c → c ≠ b) ∧ ∀ p ∈ X.pn ++ pins, p.1 ≠ b) (hC : s2.heap.objs.size ≤ C)
    (h : blockX X { cxComp X x sc cl C fp s2 H2 with N := N' } E ev s') :
    notedBy (model X.prog X.w) X.A (compEnvC sc cl C X.env) (fun e s'' => compPost (model X.prog X.w) X.A X.xe none Q acc C (.error e) s'') ev s' := by
  obtain ⟨hx, hst, hfr, hxe⟩ := O
  obtain ⟨pins1, σ1, H1, s1, I1, e, T, Cc, a0, H', rfl, os, bare, un, hok, de, dT, he, hT, fT, q⟩ := h
  have unA : Un (frs X.stack) fp H2 H1 s2.heap s1.heap := I1.base
  have unAB : Un (frs X.stack) fp H2 H' s2.heap s'.heap := unA.trans (un.mono (fun _ z => z) (fun _ z => nomatch z))
  have os1 : s1.os = s2.os := I1.os
  have os2 : s'.os = s2.os := os.trans os1
  have I3 : Inv X pins σ H' s' := I2.call' os2 unAB hok bare f2
  have nC : C ∉ frs X.stack := fun hm => by
    obtain ⟨o, ho, _⟩ := frame_there I2.stack C hm
    exact absurd (Heap.lt_size ho) (Nat.not_lt.mpr hC)
  have frH : ∀ b ∈ frs X.stack, H' b = none := I3.stkFree
  obtain ⟨m, ⟨oC, es, ep, hoC, hdC, rC⟩, _⟩ := I1.loc
  have hoC : s1.heap.get? C = some oC := hoC
  have fC : H1 C = none := I1.free
  have hC' : s'.heap.get? C = some oC := un.keep C oC hoC fC nC (by simp)
  have HC : H' C = none := un.free C oC hoC fC (by simp)
  have eC : e ≠ C := fun z => by rw [z, hoC] at de; cases de
  obtain ⟨hh, g, d, tk, os'⟩ := s'
  have os2 : os' = s2.os := os2
  have unAB : Un (frs X.stack) fp H2 H' s2.heap hh := unAB
  have hok : HOk X.prog X.w H' hh := hok
  have un : Un (frs X.stack) [] H1 H' s1.heap hh := un
  have fT : Fly hh e T Cc a0 := fT
  have hC' : hh.get? C = some oC := hC'
  have stk : hh.FunFrames X.base (X.env :: X.outer) := hst ▸ I3.stack
  have hAf : X.A.frames = some (X.env :: X.outer) := by rw [← hst]; exact I2.ok.frames
  have fl : Heap.FlyingW (PySem.W.hideAll hh (e :: T :: C :: frs X.stack)) (X.env :: X.outer) e Cc a0 hh :=
    ⟨fun b o z => PySem.W.of_hideAll _ z, PySem.W.hideAll_none _ (by simp), frames_hid stk (by rw [← hst]; exact fun b z => List.mem_cons_of_mem _ (List.mem_cons_of_mem _ (List.mem_cons_of_mem _ z))), fT.traced (PySem.W.hideAll_none _ (by simp))⟩
  have hb0C : (PySem.W.hideAll hh (e :: T :: C :: frs X.stack)).get? C = none := PySem.W.hideAll_none _ (by simp)
  have hget : ∀ b o, hh.get? b = some o → b ≠ e → b ≠ T → b ≠ C → b ∉ frs X.stack → (PySem.W.hideAll hh (e :: T :: C :: frs X.stack)).get? b = some o := fun b o z h1 h2 h3 h4 => PySem.W.hideAll_get _ z (by simp [h1, h2, h3, h4])
  generalize hB : PySem.W.hideAll hh (e :: T :: C :: frs X.stack) = B at fl hb0C hget
  have hbT : ∀ b, B.get? b = none → b ≠ e → b ≠ T → b ≠ C → b ∉ frs X.stack → hh.get? b = none := fun b z h1 h2 h3 h4 => by
    cases y : hh.get? b with
    | none => rfl
    | some o => rw [hget b o y h1 h2 h3 h4] at z; cases z
  show wpAny (model X.prog X.w) X.A (noteFrame (.ref e) X.env) _ _ _
  refine wpAny_looks_onW (base := B) hAf hfr fl fun h1 hh1 up1 => ?_
  have ns1 : h1.Ns C m := up1.ns ⟨oC, es, ep, hC', hdC, rC⟩
  refine ⟨m, ns1, fun h2 sb cenv _ => ?_⟩
  obtain ⟨k1, k2, k3, k4⟩ := hh1
  have g1 : B.StaysIn h2 := fun b o z => (sb.2 b fun y => by rw [y, hb0C] at z; cases z).trans (k1 b o z)
  have g3 : h2.FunFrames B (X.env :: X.outer) := frames_off k3 fun b hb => sb.2 b fun y => nC (by rw [← y, hst]; exact hb)
  have g4 : h2.TracedAtW B e Cc a0 (rawInt X.env.locals) := by
    obtain ⟨oe, vs, T1, oT, ts, y1, y2, y3, y4, y5, y6, y7, y8, y9⟩ := k4
    have T1C : T1 ≠ C := fun z => by
      obtain ⟨o', es', ep', ho', hd', _⟩ := ns1
      rw [z, ho'] at y7
      cases y7
      rw [hd'] at y8
      cases y8
    exact ⟨oe, vs, T1, oT, ts, (sb.2 e eC).trans y1, y2, y3, y4, y5, y6, (sb.2 T1 T1C).trans y7, y8, y9⟩
  refine pass_any (base := B) (l := X.env :: X.outer) g1 g3 g4 fun h3 fl' j1 j2 j3 up3 => hxe _ _ (leaves_any (base := B) hAf hfr j1 k2 j2 j3 fun h4 hfl up4 => ?_)
  obtain ⟨i1, i2, i3, i4⟩ := hfl
  have kept : ∀ b o, hh.get? b = some o → b ≠ e → b ≠ T → b ≠ C → b ∉ frs X.stack → h4.get? b = some o := fun b o z a1 a2 a3 a4 => i1 b o (hget b o z a1 a2 a3 a4)
  have upX : ∀ b o, b ≠ C → hh.get? b = some o → (∀ vs, o.data ≠ .fields vs) → ∃ sl, h4.get? b = some { o with slots := sl } := fun b o hbC z hd => by
    obtain ⟨s1', e1⟩ := up1 b o z hd
    obtain ⟨s3', e3⟩ := up3 b _ ((sb.2 b hbC).trans e1) hd
    obtain ⟨s4', e4⟩ := up4 b _ e3 hd
    exact ⟨s4', e4⟩
  have live : ∀ b o, s2.heap.get? b = some o → b ∉ fp → b ≠ e ∧ b ≠ T ∧ b ≠ C := fun b o z hf => by
    obtain ⟨o1, z1⟩ := unA.there b o z hf
    refine ⟨fun y => ?_, fun y => ?_, fun y => ?_⟩
    · rw [y, de] at z1; cases z1
    · rw [y, dT] at z1; cases z1
    · exact absurd (Heap.lt_size z) (Nat.not_lt.mpr (by rw [y]; exact hC))
  have frT : ∀ b ∈ frs X.stack, ∀ o, s2.heap.get? b = some o → ∀ vs, o.data ≠ .fields vs := fun b hb o z => by
    obtain ⟨o', z', hd⟩ := frame_there I2.stack b hb
    rw [z] at z'
    cases z'
    exact hd
  have unF : Un (frs X.stack) fp H2 H' s2.heap h4 := by
    refine ⟨fun b o z n hb hf => ?_, fun b o z n hb hf => ?_, unAB.free, fun b o z hf => ?_, unAB.tups, unAB.frzs, unAB.tbls⟩
    · obtain ⟨a1, a2, a3⟩ := live b o z hf
      exact kept b o (unAB.keep b o z n hb hf) a1 a2 a3 hb
    · obtain ⟨a1, a2, a3⟩ := live b o z hf
      obtain ⟨sl, z1⟩ := unAB.slot b o z n hb hf
      obtain ⟨sl', z2⟩ := upX b _ a3 z1 (frT b hb o z)
      exact ⟨sl', z2⟩
    · obtain ⟨a1, a2, a3⟩ := live b o z hf
      obtain ⟨o1, z1⟩ := unAB.there b o z hf
      by_cases hb : b ∈ frs X.stack
      · obtain ⟨sl, z3⟩ := unAB.slot b o z (I2.stkFree b hb) hb hf
        obtain ⟨sl', z2⟩ := upX b _ a3 z3 (frT b hb o z)
        exact ⟨_, z2⟩
      · exact ⟨o1, kept b o1 z1 a1 a2 a3 hb⟩
  have hokF : HOk X.prog X.w H' h4 := fun b u z => (hok b u z).stay (fun c v hc y => by
    have hc' : ∃ u', H' c = some u' := by
      rcases hc with w1 | w1
      · exact ⟨u, by rw [w1]; exact z⟩
      · exact ⟨_, w1⟩
    obtain ⟨u', hu⟩ := hc'
    refine kept c v y (fun w1 => ?_) (fun w1 => ?_) (fun w1 => ?_) (fun w1 => ?_)
    · rw [w1, he] at hu; cases hu
    · rw [w1, hT] at hu; cases hu
    · rw [w1, HC] at hu; cases hu
    · rw [frH c w1] at hu; cases hu) (fun _ y => y) fun _ _ y => y
  have IF : Inv X pins σ H' ⟨h4, g, d, tk, os'⟩ := I2.call' (s' := ⟨h4, g, d, tk, os'⟩) os2 unF hokF bare f2
  have deadOf : ∀ b, s1.heap.get? b = none → X.s₀.heap.get? b = none := fun b z => by
    cases y : X.s₀.heap.get? b with
    | none => rfl
    | some o =>
      obtain ⟨o2, r2⟩ := I2.base.there b o y (by rw [hx]; simp)
      obtain ⟨o1, r1⟩ := unA.there b o2 r2 fun hm => by
        rcases (f2 b hm).1 with w1 | w1
        · rw [hx] at w1; cases w1
        · exact absurd (Heap.lt_size y) (Nat.not_lt.mpr w1)
      rw [z] at r1
      cases r1
  obtain ⟨T2, nT2, fT2⟩ := fly_of i4
  have dT2 : X.s₀.heap.get? T2 = none ∧ H' T2 = none := by
    have hTe : T2 ≠ e := by obtain ⟨_, _, _, _, _, _, _, _, z, _⟩ := fT2; exact z
    by_cases w1 : T2 = T
    · rw [w1]; exact ⟨deadOf T dT, hT⟩
    by_cases w2 : T2 = C
    · rw [w2]
      refine ⟨?_, HC⟩
      cases y : X.s₀.heap.get? C with
      | none => rfl
      | some o => exact absurd (Heap.lt_size y) (Nat.not_lt.mpr (Nat.le_trans I2.sz hC))
    have hTf := fly_noframe fT2 IF.stack
    have z := hbT T2 nT2 hTe w1 w2 hTf
    refine ⟨deadOf T2 ?_, off_dead hok z⟩
    cases y : s1.heap.get? T2 with
    | none => rfl
    | some o =>
      obtain ⟨o', r⟩ := un.there T2 o y (by simp)
      rw [z] at r
      cases r
  have ub := IF.base
  rw [hx] at ub
  exact ⟨e, T2, Cc, a0, H', rfl, IF.os, bare, ub, hokF, deadOf e de, dT2.1, he, dT2.2, fT2, q⟩
end
end L2

namespace L2
open PySem PySem.Spec PyProof.Rows
section
variable {X : Cx} {elt iter : Expr} {x : Str} {px pos : Pos} {ifs : List Expr} {sc : Scope} {wi : TI} {tt : TT} {te : TE}
theorem pe_compX {E : XK} (N2 : List Str) (O : OwnXe X E) (hc : X.calm = true) (hN2 : (x :: N2).Nodup) (hi : PI X (.Name x px) iter wi)
    (hb : ∀ (cl : List (Str × Addr)) (C : Addr) (fp : List Addr) (s : Shared) (H : Hp), PTs { cxComp X x sc cl C fp s H with N := x :: N2 } ifs tt ∧ PE (({ cxComp X x sc cl C fp s H with N := x :: N2 } : Cx).wish (blockX X { cxComp X x sc cl C fp s H with N := x :: N2 } E)) elt te)
    (hx : sc.names.lookup x = some .local := by rfl) (hkind : sc.kind = .function := by rfl)
    (hnames : ∀ y ∈ sc.names, y.2 = .local → sc.names.lookup y.1 = some .local := by decide +kernel) (hcell : ∀ y ∈ sc.names, y.2 ≠ .cell := by decide +kernel)
    (hfree : (sc.names.all fun y => y.2 != .free || X.env.scope.names.lookup y.1 == some .cell) = true := by rfl)
    (hlo : (N2.all fun y => sc.names.lookup y != some .local) = true := by rfl) (hl2 : N2.length = X.N.length := by rfl) (hz2 : ((N2.zip X.N).all fun y => y.1 == y.2 || sc.names.lookup y.1 == none) = true := by rfl)
    (hs : ∀ x, foldedSetIterable iter X.env x = pure x := by intro _; rfl) :
    PE X (.ListComp elt [⟨.Name x px, iter, ifs, 0⟩] sc pos) (tComp wi tt te) := by
  intro pins s σ H Q I h
  have hfr : ∀ y ∈ sc.names, y.2 = .free → X.env.kindOf y.1 = some .cell := fun y hy e => by
    have q := List.all_eq_true.mp hfree y hy
    rw [e] at q
    simpa [Env.kindOf] using q
  have hlo' : ∀ y ∈ N2, sc.names.lookup y ≠ some .local := fun y hy e => by
    have q := List.all_eq_true.mp hlo y hy
    rw [e] at q
    simp at q
  obtain ⟨cl, hclos, hsub, hhas⟩ := closure_of (env := X.env) (sc := sc) fun y hy e => I.ok.has y.1 (.inl (hfr y hy e))
  rw [eval_ListComp]
  refine wpAny_comprehension_free (use := none) rfl hs hclos hkind hnames (thn (hi pins s σ H _ I h) fun v s1 h1 => thn h1 fun itv s2 h2 => ?_)
  obtain ⟨it, fp, tn, J, H2, e, I2, T, st2, f2, hW⟩ := h2
  subst e
  -- the accumulator, then the block's frame
  have nobinds : ∀ y ∈ ([] : List (Str × Value)), sc.names.lookup y.1 = some .local := fun y hy => absurd hy (by simp)
  refine wpAny_newObj_type ?_
  refine wpAny_newFunctionEnv hcell nobinds (fun h₁ hns₁ hsb₁ => ?_) hkind
  dsimp only at hns₁ hsb₁ ⊢
  generalize hHa : s2.heap.push { cls := .type "list", dict := none, data := .seq ([] : List Value).toArray } = Ha at hns₁ hsb₁ ⊢
  have hC : Ha.objs.size = s2.heap.objs.size + 1 := by rw [← hHa, Heap.size_push]
  have hDC : s2.heap.objs.size ≠ Ha.objs.size := by rw [hC]; exact Nat.ne_of_lt (Nat.lt_succ_self _)
  have hCle : s2.heap.objs.size ≤ Ha.objs.size := by rw [hC]; exact Nat.le_succ _
  have neC : ∀ b o, s2.heap.get? b = some o → b ≠ Ha.objs.size := fun b o e => Nat.ne_of_lt (Nat.lt_of_lt_of_le (Heap.lt_size e) hCle)
  have old : ∀ b o, s2.heap.get? b = some o → h₁.get? b = some o := fun b o e => hsb₁.extBut b o (neC b o e) (Heap.get?_push_of_some _ (hHa ▸ Heap.get?_push_of_some _ e))
  have hacc : h₁.get? s2.heap.objs.size = some { cls := .type "list", dict := none, data := .seq ([] : List Value).toArray } := hsb₁.extBut _ _ hDC (Heap.get?_push_of_some _ (hHa ▸ Heap.get?_push_size _ rfl))
  generalize hDe : s2.heap.objs.size = D at *
  generalize hCe : Ha.objs.size = C at *
  have hHD : H2 D = none := I2.hok.fresh (Nat.le_of_eq hDe)
  have hHC : H2 C = none := I2.hok.fresh (by omega)
  obtain ⟨W, ⟨m0, w0⟩, turn⟩ := hW D hHD
  have fplt : ∀ b ∈ fp, b < D := fun b hb => by
    obtain ⟨o, e, _⟩ := T.obj _ _ st2 b hb
    rw [← hDe]
    exact Heap.lt_size e
  -- the block's context
  let X' : Cx := { cxComp X x sc cl C fp s2 H2 with N := x :: N2 }
  have nofs : ∀ b ∈ fp, b ∉ frs X.stack := fun b hb z => by
    rcases List.mem_cons.mp (I2.stkSub b z) with e | e
    · exact (f2 b hb).2.1 e
    · exact (f2 b hb).2.2.1 e
  have ok' : X'.Ok := by
    refine ⟨I2.ok.mod, hkind, I2.ok.glob, I2.ok.blt, ?_, fun y z c e1 e2 => I2.ok.inj y z c (hsub y c e1) (hsub z c e2), fun y hy => ?_, fun y c e => absurd (show false = true from e) Bool.false_ne_true, I2.ok.hd, I2.ok.frames, .inl rfl, fun b hb => ⟨?_, fun y c e => ?_⟩, I2.bs,
      Nat.le_trans I2.ok.bsz I2.sz, fun b o e hb => ?_, nofs, I2.stack, I2.stkFree⟩
    · show s2.heap.objs.size ≤ C
      omega
    · rcases hy with hy | hy
      · rcases relabel_lookup (show (relabel sc X.env).names.lookup y = some .cell from hy) with e | ⟨_, e, _⟩
        · exact absurd rfl (hcell _ (PySem.mem_of_lookup e))
        · exact hhas _ (PySem.mem_of_lookup e) rfl
      · rcases relabel_lookup (show (relabel sc X.env).names.lookup y = some .free from hy) with e | ⟨e, _⟩
        · exact hhas _ (PySem.mem_of_lookup e) rfl
        · cases e
    · exact Nat.ne_of_lt (Nat.lt_of_lt_of_le (fplt b hb) (by omega : D ≤ C))
    · exact (f2 b hb).2.2.2.2.1 y c (hsub y c e)
    · rcases (f2 b hb).2.2.2.1 with z | z
      · exact I2.ok.noex b o e z
      · exact absurd (Nat.lt_of_lt_of_le (Nat.lt_of_lt_of_le (Heap.lt_size e) I2.ok.bsz) z) (Nat.lt_irrefl _)
  have I4 : ∀ tk, Inv X' [] (none :: σ) (upd H2 D (.lst [])) { s2 with heap := h₁, toks := tk } := fun tk => by
    refine ⟨ok', rfl, I2.bare, Un.laid old (Nat.le_of_eq hDe) hHD, ⟨_, hns₁, fun i y v e1 e2 e3 => ?_⟩, fun y c e => ?_, ?_, fun y c e => ?_, fun p hp => ?_, I2.hok.laid old (Nat.le_of_eq hDe) ?_, ?_⟩
    · cases i with
      | zero => simp at e2
      | succ i =>
        have e0 : N2[i]? = some y := by simpa [X', cxComp] using e1
        have e2 : σ[i]? = some (some v) := by simpa using e2
        have e3 : Vis (relabel sc X.env) y := e3
        have hyN : y ∈ N2 := List.mem_of_getElem? e0
        have free : sc.names.lookup y = some .free ∧ (relabel sc X.env).names.lookup y ≠ some .local := by
          rcases e3 with e | e | e
          · rcases relabel_lookup e with q | ⟨q, _⟩
            · exact absurd q (hlo' y hyN)
            · cases q
          · rcases relabel_lookup e with q | ⟨_, q, _⟩
            · exact absurd rfl (hcell _ (PySem.mem_of_lookup q))
            · exact ⟨q, by rw [e]; decide⟩
          · rcases relabel_lookup e with q | ⟨q, _⟩
            · exact ⟨q, by rw [e]; decide⟩
            · cases q
        have e1 : X.N[i]? = some y := by
          have hi : i < N2.length := (List.getElem?_eq_some_iff.mp e0).1
          have hi2 : i < X.N.length := by omega
          have hm : (y, X.N[i]) ∈ N2.zip X.N := by
            have hz : (N2.zip X.N)[i]? = some (y, X.N[i]) := by
              rw [List.getElem?_zip_eq_some]
              exact ⟨e0, List.getElem?_eq_getElem hi2⟩
            exact List.mem_of_getElem? hz
          have q := List.all_eq_true.mp hz2 _ hm
          rcases Bool.or_eq_true_iff.mp q with q | q
          · have : y = X.N[i] := eq_of_beq q
            rw [List.getElem?_eq_getElem hi2, ← this]
          · have q2 : sc.names.lookup y = none := by simpa using q
            rw [free.1] at q2
            cases q2
        have kc : X.env.kindOf y = some .cell := hfr _ (PySem.mem_of_lookup free.1) rfl
        obtain ⟨m, hn, hl⟩ := I2.loc
        obtain ⟨u, ru, lk⟩ := hl i y v e1 e2 (.inr (.inl kc))
        rcases lk with ⟨q, _⟩ | ⟨_, c, hcc, ⟨o, ho, hd⟩⟩
        · rw [kc] at q; cases q
        · obtain ⟨c', hc'⟩ := hhas _ (PySem.mem_of_lookup free.1) rfl
          have e4 := hsub _ _ hc'
          rw [hcc] at e4
          cases e4
          refine ⟨u, ru, .inr ⟨?_, c, hc', ⟨o, old c o ho, hd⟩⟩⟩
          rcases e3 with e | e | e
          · exact absurd e free.2
          · exact .inl e
          · exact .inr e
    · obtain ⟨v, o, ho, hd⟩ := I2.cell y c (hsub y c e)
      exact ⟨v, o, old c o ho, hd⟩
    · show upd H2 D (.lst []) C = none
      rw [upd_ne (neA (by omega))]
      exact hHC
    · obtain ⟨v, o, ho, hd⟩ := I2.cell y c (hsub y c e)
      have hlt := Heap.lt_size ho
      rw [hDe] at hlt
      show upd H2 D (.lst []) c = none
      rw [upd_ne (Nat.ne_of_lt hlt)]
      exact I2.freeC y c (hsub y c e)
    · exact absurd (show p ∈ ([] : List (Addr × Obj)) from hp) (by simp)
    · exact ⟨Nat.zero_le _, [], 0, .nil, hacc⟩
    · show (none :: σ).length = (x :: N2).length
      rw [List.length_cons, List.length_cons, I2.len, hl2]
  have hN' : X'.N.Nodup := hN2
  have hx' : X'.env.scope.names.lookup x = some .local := lookup_relabel_local hx
  obtain ⟨PT', PE'⟩ := hb cl C fp s2 H2
  have fpX : ∀ {pins' : List (Addr × Obj)} {H' : Hp}, (∀ b ∈ fp, H' b = none) → (∀ p ∈ pins', p.1 ∉ fp) → ∀ b ∈ fp, FpOk X' pins' H' b := fun hn hp b hb => by
    refine ⟨hn b hb, ?_, nofs b hb, .inl hb, fun y c e => (f2 b hb).2.2.2.2.1 y c (hsub y c e), fun p q z => ?_⟩
    · exact Nat.ne_of_lt (Nat.lt_of_lt_of_le (fplt b hb) (by omega : D ≤ C))
    · rcases List.mem_append.mp q with q | q
      · exact absurd (show p ∈ ([] : List (Addr × Obj)) from q) (by simp)
      · exact hp p q (by rw [z]; exact hb)
  have loop : ∀ tk, codeAny (model X.prog X.w) X.A (.compLoop (.ListComp elt [⟨.Name x px, iter, ifs, 0⟩] sc pos) 0 (.ref it) (.ref D) (compEnvC sc cl C X.env)) (compPost (model X.prog X.w) X.A X.xe none (EP X pins σ Q) (.ref D) C) { s2 with heap := h₁, toks := tk } := fun tk => by
    refine codeAny_compLoop_tests (fun n s' => ∃ i ys o H', Inv X' [] (o :: σ) H' s' ∧ tn i s'.heap ∧ (∀ b ∈ fp, H' b = none) ∧ W i n ys H') ?_ m0 ⟨0, [], none, _, I4 tk, T.keep _ _ _ st2 fun b hb o e => old b o e, fun b hb => ?_, w0⟩
    · rintro n s3 ⟨i, ys, o3, H3, I3, st3, fr3, w3⟩
      obtain ⟨hD3, alt⟩ := turn i n ys H3 w3
      rcases alt with ⟨stop, qn⟩ | ⟨go, hlen, step⟩
      · refine wpAny_mono (T.done X' rfl rfl rfl hc i [] s3 _ H3 (fun _ _ => False) I3 (fpX fr3 (by simp)) st3 stop) (fun r s4 hpq => ?_) fun _ _ f => f.elim
        obtain ⟨hr, I4'⟩ := hpq
        subst hr
        obtain ⟨mC, hnC, _⟩ := I4'.loc
        refine ⟨mC, hnC, fun h' hs' => ?_⟩
        have nC : ∀ b u, H3 b = some u → b ≠ C := fun b u e z => by rw [z] at e; rw [show H3 C = none from I4'.free] at e; cases e
        have hok' : HOk X.prog X.w H3 h' := fun b u e => (I4'.hok b u e).stay (fun c v hcc q => hs'.extBut c v (by
          rcases hcc with z | z
          · rw [z]; exact nC b u e
          · exact nC c _ z) q) (fun _ q => q) fun _ _ q => q
        have un : Un (frs X.stack) fp H2 H3 s2.heap h' :=
          ⟨fun b o e n1 n2 n3 => hs'.extBut b o (neC b o e) (I4'.base.keep b o e n1 n2 n3), fun b o e n1 n2 n3 => by
              obtain ⟨sl, q⟩ := I4'.base.slot b o e n1 n2 n3
              exact ⟨sl, hs'.extBut b _ (neC b o e) q⟩, I4'.base.free, fun b o e n1 => by
              obtain ⟨o', q⟩ := I4'.base.there b o e n1
              exact ⟨o', hs'.extBut b _ (neC b o e) q⟩, I4'.base.tups, I4'.base.frzs, I4'.base.tbls⟩
        exact ⟨.ref D, H3, I2.call' (s' := { s4 with heap := h' }) I4'.os un hok' I4'.bare fun b hb => ⟨(f2 b hb).2.2.2.1, (f2 b hb).2.1, (f2 b hb).2.2.2.2.1, (f2 b hb).2.2.2.2.2⟩, rfl, qn⟩
      · refine wpAny_mono (T.item X' rfl rfl rfl hc i [] s3 _ H3 (fun _ _ => False) I3 (fpX fr3 (by simp)) st3 go) (fun r s4 hpq => ?_) fun _ _ f => f.elim
        obtain ⟨u, hr, h4⟩ := hpq
        subst hr
        have eg : (letOwnedTupleGo (.Name x px) (.ref it) u >>= fun _ => assign (.Name x px) (compEnvC sc cl C X.env) u) = assign (.Name x px) (compEnvC sc cl C X.env) u := pure_bind () _
        show wpAny _ _ (assign (.Name x px) (compEnvC sc cl C X.env) u) _ _ s4
        rw [← eg]
        refine wpAny_bind (wpAny_mono h4 (fun _ s5 hpq => ?_) fun _ _ f => f.elim)
        obtain ⟨y, H5, I5, r5, y5, st5, fr5⟩ := hpq
        have I5' := I5.pinned (fpX fr5 (by simp)) (T.obj _ _ st5)
        refine wpAny_mono (pg_name (X := X') (i := 0) (pos := px) hN' rfl (.inl hx') (.inr hx') _ s5 _ H5 y u (fun σ' H' => σ' = some y :: σ ∧ H' = H5) I5' r5 ⟨rfl, rfl⟩) (fun _ s6 hpq => ?_) fun _ _ f => f.elim
        obtain ⟨σ6, H6, I6, e1, e2⟩ := hpq
        subst e1 e2
        refine wpAny_mono (PT' _ s6 _ _ _ I6 (step y _ y5)) (fun ok s7 hpq => ?_) fun _ _ f => f.elim
        obtain ⟨H7, I7, q7⟩ := hpq
        have again : ∀ {s8 : Shared} {H8 : Hp} {ys' : List V}, Inv X' ([] ++ pinsAt fp s5.heap) (some y :: σ) H8 s8 → (∃ m', m' < n ∧ W (i + 1) m' ys' H8) → ∃ m, m < n ∧ ∃ i ys o H', Inv X' [] (o :: σ) H' s8 ∧ tn i s8.heap ∧ (∀ b ∈ fp, H' b = none) ∧ W i m ys H' := fun {s8 H8 ys'} I8 ⟨m', hm, w8⟩ => by
          refine ⟨m', hm, i + 1, ys', some y, H8, I8.unpinned, T.keep _ _ _ st5 fun b hb o e => (I8.pin (b, o) (List.mem_append_right _ (List.mem_append_right _ (mem_pinsAt hb e)))).1, fun b hb => ?_, w8⟩
          obtain ⟨o, e, d⟩ := T.obj _ _ st5 b hb
          exact (I8.pin (b, o) (List.mem_append_right _ (List.mem_append_right _ (mem_pinsAt hb e)))).2.1
        cases ok with
        | false => exact again I7 q7
        | true =>
          have q7 : te (some y :: σ) H7 _ := q7
          refine wpAny_mono (PE' _ s7 _ _ _ (I7.wish _) q7) (fun z s8 hpq => ?_) fun ev s8 f => block_flies O I2 (fun b hb => ⟨(f2 b hb).2.2.2.1, (f2 b hb).2.1, (f2 b hb).2.2.2.2.1, (f2 b hb).2.2.2.2.2⟩) (by omega) f
          obtain ⟨yv, H8, I8, r8, hD8, q8⟩ := hpq
          have I8 := I8.unwish
          refine wpAny_mono (mt_append (X := X') _ s8 _ H8 (.ref D) [yv] (.ref D) [z] (fun _ H9 => H9 = upd H8 D (.lst (ys ++ [yv]))) I8 rfl (.cons r8 .nil) ⟨D, ys, yv, rfl, rfl, hD8, hlen, rfl⟩) (fun _ s9 hpq => ?_) fun _ _ f => f.elim
          obtain ⟨_, H9, I9, _, e9⟩ := hpq
          subst e9
          exact again I9 q8
    · show upd H2 D (.lst []) b = none
      rw [upd_ne (Nat.ne_of_lt (fplt b hb))]
      exact (f2 b hb).1
  exact codeAny_compStart_list (loop _) (T.self _ _ _ _ _ (T.keep _ _ _ st2 fun b hb o e => old b o e) (loop _))
end
theorem own_xe {P : Program} {w : World} {K : PySem.W.Frag} {mg : Str → Option Value} {base : Heap} {N : List Str} {qual : Str} {scope : Scope} {f : Addr} {cd : Value} {A : Around} {outer : List Env} {s : Shared} {H : Hp} {E : XK} : OwnXe (cxOf (CXE P w) P w K mg base N qual scope f cd A outer s H E) E := ⟨rfl, rfl, rfl, fun _ _ h => h⟩
end L2

namespace K41
open PySem L2 RA
def top (i : Nat) : Stmt := PySem.Challenge.pw_roomalgebra_k41_what_a_word_does.main.body.getD i (.Pass ⟨0, 0, 0, 0⟩)
abbrev s_is_whole : Stmt := top 13
abbrev s_need_word : Stmt := top 14
abbrev s_is_room : Stmt := top 17
abbrev s_need_room : Stmt := top 18
abbrev s_room_after : Stmt := top 16
abbrev s_act_of : Stmt := top 20
abbrev s__law_cell_at : Stmt := top 22
abbrev s__law_letters : Stmt := top 23
abbrev s__law_word : Stmt := top 24
abbrev s__law_machine : Stmt := top 25
abbrev s__law_after : Stmt := top 26
abbrev s__law_act : Stmt := top 27
abbrev s__law_same : Stmt := top 28
abbrev s__law_kinds : Stmt := top 29
abbrev s__law_foreign : Stmt := top 30
abbrev s__law_others : Stmt := top 31
abbrev s__law_no_word : Stmt := top 32
abbrev s__law_refusal : Stmt := top 33
abbrev s_law : Stmt := top 34
structure Txt (K : PySem.W.Frag) (mg : Str → Option Value) (c_RoomError c_NoLetters c_NoWord c_NoNumber c_NoRoom c_NoMachine c_OtherLetters c_TooMany c_NoPattern c_TooGreat c_NoKind : Addr) : Prop where
  k_RoomError : mg "RoomError" = some (.ref c_RoomError)
  k_NoLetters : mg "NoLetters" = some (.ref c_NoLetters)
  k_NoWord : mg "NoWord" = some (.ref c_NoWord)
  k_NoNumber : mg "NoNumber" = some (.ref c_NoNumber)
  k_NoRoom : mg "NoRoom" = some (.ref c_NoRoom)
  k_NoMachine : mg "NoMachine" = some (.ref c_NoMachine)
  k_OtherLetters : mg "OtherLetters" = some (.ref c_OtherLetters)
  k_TooMany : mg "TooMany" = some (.ref c_TooMany)
  k_NoPattern : mg "NoPattern" = some (.ref c_NoPattern)
  k_TooGreat : mg "TooGreat" = some (.ref c_TooGreat)
  k_NoKind : mg "NoKind" = some (.ref c_NoKind)
  o_NoRoom : OwnX K c_NoRoom
  e_NoRoom : ExcCls K c_NoRoom
  m_NoRoom : PySem.W.exmOne K (.ref c_NoRoom) (.ref c_RoomError) = some true
  i_NoRoom_NoLetters : PySem.W.kitOne K (.ref c_NoRoom) (.ref c_NoLetters) = some false
  i_NoRoom_NoWord : PySem.W.kitOne K (.ref c_NoRoom) (.ref c_NoWord) = some false
  i_NoRoom_NoNumber : PySem.W.kitOne K (.ref c_NoRoom) (.ref c_NoNumber) = some false
  i_NoRoom_NoRoom : PySem.W.kitOne K (.ref c_NoRoom) (.ref c_NoRoom) = some true
  i_NoRoom_NoMachine : PySem.W.kitOne K (.ref c_NoRoom) (.ref c_NoMachine) = some false
  i_NoRoom_OtherLetters : PySem.W.kitOne K (.ref c_NoRoom) (.ref c_OtherLetters) = some false
  i_NoRoom_TooMany : PySem.W.kitOne K (.ref c_NoRoom) (.ref c_TooMany) = some false
  i_NoRoom_NoPattern : PySem.W.kitOne K (.ref c_NoRoom) (.ref c_NoPattern) = some false
  i_NoRoom_TooGreat : PySem.W.kitOne K (.ref c_NoRoom) (.ref c_TooGreat) = some false
  i_NoRoom_NoKind : PySem.W.kitOne K (.ref c_NoRoom) (.ref c_NoKind) = some false
  v_NoRoom : PySem.W.kitOne K (.ref c_NoRoom) (.type "ValueError") = some true
  o_NoWord : OwnX K c_NoWord
  e_NoWord : ExcCls K c_NoWord
  m_NoWord : PySem.W.exmOne K (.ref c_NoWord) (.ref c_RoomError) = some true
  i_NoWord_NoLetters : PySem.W.kitOne K (.ref c_NoWord) (.ref c_NoLetters) = some false
  i_NoWord_NoWord : PySem.W.kitOne K (.ref c_NoWord) (.ref c_NoWord) = some true
  i_NoWord_NoNumber : PySem.W.kitOne K (.ref c_NoWord) (.ref c_NoNumber) = some false
  i_NoWord_NoRoom : PySem.W.kitOne K (.ref c_NoWord) (.ref c_NoRoom) = some false
  i_NoWord_NoMachine : PySem.W.kitOne K (.ref c_NoWord) (.ref c_NoMachine) = some false
  i_NoWord_OtherLetters : PySem.W.kitOne K (.ref c_NoWord) (.ref c_OtherLetters) = some false
  i_NoWord_TooMany : PySem.W.kitOne K (.ref c_NoWord) (.ref c_TooMany) = some false
  i_NoWord_NoPattern : PySem.W.kitOne K (.ref c_NoWord) (.ref c_NoPattern) = some false
  i_NoWord_TooGreat : PySem.W.kitOne K (.ref c_NoWord) (.ref c_TooGreat) = some false
  i_NoWord_NoKind : PySem.W.kitOne K (.ref c_NoWord) (.ref c_NoKind) = some false
  v_NoWord : PySem.W.kitOne K (.ref c_NoWord) (.type "ValueError") = some true
  len : mg "len" = none
  range : mg "range" = none
  isinst : mg "isinstance" = none
  int : mg "int" = none
  bool : mg "bool" = none
  tuple : mg "tuple" = none
  list : mg "list" = none
  str : mg "str" = none
  verr : mg "ValueError" = none
def sp_is_whole : Sp := fun vs H Q _ => ∃ (i : Int), vs = [.int i] ∧ Q (.bl true) H
def sp_needwordX (cNW : Addr) : Sp := fun vs H Q E => ∃ (L w : List Nat), vs = [.str (tx L), .str (tx w)] ∧ Sm L ∧ Sm w ∧ ((∀ c ∈ w, c ∈ L) → Q .non H) ∧ ((∃ c ∈ w, c ∉ L) → E (.ref cNW) none H)
def sp_isroom2 : Sp := fun vs H Q _ => ∃ (i n : Int), vs = [.int i, .int n] ∧ Q (.bl (decide (0 ≤ i ∧ i < n))) H
def sp_needroomX (cNR : Addr) : Sp := fun vs H Q E => ∃ (m : Addr) (L : List Nat) (W : List (List Nat)) (B : List Bool) (r : Int), vs = [.ref m, .int r] ∧ MachAt H m L W B ∧ Mach L W B ∧ (¬ (0 ≤ r ∧ r < W.length) → E (.ref cNR) none H) ∧ (0 ≤ r ∧ r < W.length → Q .non H)
def sp_roomafterX (cNR cNW : Addr) : Sp := fun vs H Q E => ∃ (m : Addr) (L : List Nat) (W : List (List Nat)) (B : List Bool) (r : Int) (w : List Nat), vs = [.ref m, .int r, .str (tx w)] ∧ MachAt H m L W B ∧ Mach L W B ∧ Sm w ∧ (¬ (0 ≤ r ∧ r < W.length) → E (.ref cNR) none H) ∧
  (0 ≤ r ∧ r < W.length → (∃ c ∈ w, c ∉ L) → E (.ref cNW) none H) ∧ (0 ≤ r ∧ r < W.length → (∀ c ∈ w, c ∈ L) → Q (.int (run L W r.toNat w : Nat)) H)
theorem flats_ints (l : List Nat) : (intsV l).all flat3 = true := by
  rw [intsV, List.all_map, List.all_eq_true]
  exact fun _ _ => rfl
theorem ints_snoc (l : List Nat) (x : Nat) : intsV (l ++ [x]) = intsV l ++ [V.int (x : Int)] := by simp [intsV]
def actN (L : List Nat) (W : List (List Nat)) (w : List Nat) : List Nat := (List.range W.length).map fun r => run L W r w
def sp_actof (cNW : Addr) : Sp := fun vs H Q E => ∃ (m : Addr) (L : List Nat) (W : List (List Nat)) (B : List Bool) (w : List Nat), vs = [.ref m, .str (tx w)] ∧ MachAt H m L W B ∧ Mach L W B ∧ Sm w ∧ ((∃ c ∈ w, c ∉ L) → ∀ H', Same H H' → E (.ref cNW) none H') ∧
  ((∀ c ∈ w, c ∈ L) → ∀ t H', Same H H' → H' t = some (.tup (intsV (actN L W w))) → Q (.ref t) H')
def sp_cell (K : PySem.W.Frag) : Sp := fun vs H Q _ => ∃ (a : Addr) (ns : List Int) (k : Int), vs = [.ref a, .int k] ∧ SqL K H a (ns.map V.int) ∧ 0 ≤ k ∧ ∀ z, Q (.int z) H
def sp_letters : Sp := fun vs H Q _ => ∃ (c : Int), vs = [.int c] ∧ ∀ L, Let L → Q (.str (tx L)) H
def sp_word (K : PySem.W.Frag) : Sp := fun vs H Q _ => ∃ (L : List Nat) (a : Addr) (ns : List Int), vs = [.str (tx L), .ref a] ∧ Let L ∧ SqL K H a (ns.map V.int) ∧ ns.length ≤ 63 ∧
  ∀ (w : List Nat) (H' : Hp), w.length = ns.length → (∀ c ∈ w, c ∈ L) → Same H H' → Q (.str (tx w)) H'
def sp_machine (K : PySem.W.Frag) : Sp := fun vs H Q _ => ∃ (a : Addr) (ns : List Int) (p : Int) (n : Nat) (L : List Nat), vs = [.ref a, .int p, .int (n : Int), .str (tx L)] ∧ SqL K H a (ns.map V.int) ∧ 0 ≤ p ∧ 1 ≤ n ∧ n ≤ 60 ∧ Let L ∧
  ∀ (m : Addr) (W : List (List Nat)) (B : List Bool) (H' : Hp), Same H H' → MachAt H' m L W B → Mach L W B → W.length = n → Q (.ref m) H'
def sp_after : Sp := fun vs H Q _ => ∃ (m : Addr) (L : List Nat) (W : List (List Nat)) (B : List Bool) (r : Nat) (w : List Nat), vs = [.ref m, .int (r : Int), .str (tx w)] ∧ MachAt H m L W B ∧ Mach L W B ∧ r < W.length ∧ (∀ c ∈ w, c ∈ L) ∧ Q (.int (run L W r w : Nat)) H
def sp_lawact : Sp := fun vs H Q _ => ∃ (m : Addr) (L : List Nat) (W : List (List Nat)) (B : List Bool) (w : List Nat), vs = [.ref m, .str (tx w)] ∧ MachAt H m L W B ∧ Mach L W B ∧ (∀ c ∈ w, c ∈ L) ∧ ∀ t H', Same H H' → H' t = some (.tup (intsV (actN L W w))) → Q (.ref t) H'
def sp_same (d : Nat) : Sp := fun vs H Q _ => ∃ x y, vs = [x, y] ∧ Like H d x y ∧ Q (.bl true) H
def sp_kinds41 (cNW : Addr) : Sp := fun vs H Q _ => ∃ e : Addr, vs = [.ref e] ∧ H e = some (excAt e (.ref cNW)) ∧ ∀ p H', Same H H' → H' p = some (.lst [.str "NoWord"]) → Q (.ref p) H'
def sp_foreign : Sp := fun vs H Q _ => ∃ (z : Int), vs = [.int z] ∧ ∀ c : Nat, (c < 97 ∨ 122 < c) → c < 127 → Q (.str ⟨#[c]⟩) H
def sp_others : Sp := fun vs H Q _ => ∃ (L : List Nat), vs = [.str (tx L)] ∧ ∀ H', Same H H' → Q (.str (tx (othL L))) H'
def sp_noword (K : PySem.W.Frag) : Sp := fun vs H Q _ => ∃ (L w : List Nat) (a : Addr) (ns : List Int) (k : Int), vs = [.str (tx L), .str (tx w), .ref a, .int k] ∧ Let L ∧ (∀ c ∈ w, c ∈ L) ∧ w.length ≤ 1000 ∧ SqL K H a (ns.map V.int) ∧ 0 ≤ k ∧
  ∀ v H', (∃ c ∈ v, c ∉ L) → Sm v → Same H H' → Q (.str (tx v)) H'
def sp_refusal41 : Sp := fun vs H Q _ => ∃ (m : Addr) (L : List Nat) (W : List (List Nat)) (B : List Bool) (w : List Nat), vs = [.ref m, .str (tx w)] ∧ MachAt H m L W B ∧ Mach L W B ∧ Sm w ∧ (∃ c ∈ w, c ∉ L) ∧ ∀ p H', Same H H' → H' p = some (.lst [.str "NoWord"]) → Q (.ref p) H'
section
variable {P : Program} {w : World} {K : PySem.W.Frag} {mg : Str → Option Value} {base : Heap} {c_RoomError c_NoLetters c_NoWord c_NoNumber c_NoRoom c_NoMachine c_OtherLetters c_TooMany c_NoPattern c_TooGreat c_NoKind : Addr}
theorem sc_is_whole : FnScope ["value"] ["value"] (defScope s_is_whole) := ⟨rfl, rfl, rfl, by decide +kernel, rfl, by decide +kernel, by decide +kernel⟩
set_option maxHeartbeats 4000000 in
theorem ok_is_whole {f : Addr} {fd : FuncData} (F : Fun K "is_whole" "is_whole" s_is_whole f fd) (T : Txt K mg c_RoomError c_NoLetters c_NoWord c_NoNumber c_NoRoom c_NoMachine c_OtherLetters c_TooMany c_NoPattern c_TooGreat c_NoKind) : FnOk P w K mg base CX0 1 f fd ["value"] sp_is_whole := by
  refine F.ok sc_is_whole (fun vs H Q E h => ?_) (fun cdv A outer s H vs Q E hr h => ?_)
  · obtain ⟨i, rfl, _⟩ := h
    rfl
  · obtain ⟨i, rfl, q⟩ := h
    refine ⟨_, (pss_one (ps_ret (pe_and (pe_callB (call_isinst (T := "int") (b := true)) (by rfl) T.isinst PyProof.Rows.boot_isinstance (pa_cons (pv 0) (pa_cons (pe_bltn (v := .ty "int") (by rfl) T.int PyProof.Rows.boot_int rfl) pa_nil)))
      (pe_one (pe_not (pe_callB (call_isinst (T := "bool") (b := false)) (by rfl) T.isinst PyProof.Rows.boot_isinstance (pa_cons (pv 0) (pa_cons (pe_bltn (v := .ty "bool") (by rfl) T.bool PyProof.Rows.boot_bool rfl) pa_nil)))))))), ?_⟩
    exact ⟨_, rfl, _, _, rfl, TyOf.int _, kit_ii K, _, rfl, iteT ⟨_, rfl, _, _, rfl, TyOf.int _, kit_ib K, _, rfl, q⟩⟩
theorem sc_need_word : FnScope ["letters", "word", "sign"] ["letters", "word"] (defScope s_need_word) := ⟨rfl, rfl, rfl, by decide +kernel, rfl, by decide +kernel, by decide +kernel⟩
set_option maxHeartbeats 4000000 in
theorem ok_need_word {f : Addr} {fd : FuncData} (F : Fun K "need_word" "need_word" s_need_word f fd) (T : Txt K mg c_RoomError c_NoLetters c_NoWord c_NoNumber c_NoRoom c_NoMachine c_OtherLetters c_TooMany c_NoPattern c_TooGreat c_NoKind) : FnOk P w K mg base (CXE P w) 1 f fd ["letters", "word"] (sp_needwordX c_NoWord) := by
  refine F.okX sc_need_word (fun vs H Q E h => ?_) (fun cdv A outer s H vs Q E hr h => ?_)
  · obtain ⟨L, w, rfl, _⟩ := h
    rfl
  · obtain ⟨L, w, rfl, hs, hs2, q1, q2⟩ := h
    refine ⟨_, (pss_one ((ps_for PassesOwn.leaving rfl (pi_str (pv 1)) (pg_name (i := 2) sc_need_word.nd rfl (Or.inl rfl)) ((pss_one ((ps_if (pt_cmpR op_notin_str (pv 2) (pv 0) (by with_unfolding_all rfl)) ((pss_one ((ps_raise rfl throws_def T.o_NoWord T.k_NoWord (pa_cons (pe_msg (c := fun σ => Txt5 2 σ ∧ Txt5 0 σ) ⟨fp_repr 2 (pv 2) (fun _ z => z.1), fp_const, fp_plain 0 (pv 0) (fun _ z => z.2), trivial⟩) pa_nil))))) (pss_nil)))))))), ?_⟩
    refine ⟨_, rfl, _, rfl, for_str (x := tx w) (fun i σ H' => ∃ s0, σ = [some (.str (tx L)), some (.str (tx w)), s0] ∧ H' = H ∧ ∀ c ∈ w.take i, c ∈ L) ⟨none, rfl, rfl, fun c hc => by simp at hc⟩ ?_ ?_⟩
    · rintro i c σ H1 hc ⟨s0, rfl, rfl, hall⟩
      rw [tx_get] at hc
      have hcw : c ∈ w := List.mem_of_getElem? hc
      refine ⟨_, rfl, _, rfl, _, _, rfl, rfl, _, rfl, ?_⟩
      have e := contains_one L c
      unfold Txt.contains at e
      rw [e]
      by_cases hcL : c ∈ L
      · rw [decide_eq_true hcL]
        refine iteF ⟨_, rfl, rfl, fun d hd => ?_⟩
        rw [List.take_add_one, hc] at hd
        rcases List.mem_append.mp hd with hd | hd
        · exact hall d hd
        · have e : d = c := by simpa using hd
          subst e
          exact hcL
      · rw [decide_eq_false hcL]
        exact iteT ⟨⟨(hs2.one hcw).txt rfl, hs.txt rfl⟩, fun x => ⟨line_ge (by show 1 ≤ 16777216; decide), q2 ⟨c, hcw, hcL⟩⟩⟩
    · rintro σ H1 ⟨s0, rfl, rfl, hall⟩
      rw [tx_len, List.take_length] at hall
      exact q1 hall
theorem sc_is_room : FnScope ["number", "many"] ["number", "many"] (defScope s_is_room) := ⟨rfl, rfl, rfl, by decide +kernel, rfl, by decide +kernel, by decide +kernel⟩
set_option maxHeartbeats 4000000 in
theorem ok_is_room {f : Addr} {fd : FuncData} (F : Fun K "is_room" "is_room" s_is_room f fd) (T : Txt K mg c_RoomError c_NoLetters c_NoWord c_NoNumber c_NoRoom c_NoMachine c_OtherLetters c_TooMany c_NoPattern c_TooGreat c_NoKind) (d_is_whole : Df P w K mg base "is_whole" 1 ["value"] sp_is_whole) : FnOk P w K mg base CX0 2 f fd ["number", "many"] sp_isroom2 := by
  refine F.ok sc_is_room (fun vs H Q E h => ?_) (fun cdv A outer s H vs Q E hr h => ?_)
  · obtain ⟨i, n, rfl, _⟩ := h
    rfl
  · obtain ⟨i, n, rfl, q⟩ := h
    refine ⟨_, (pss_one (ps_ret (pe_and (pe_df d_is_whole hr (pa_cons (pv 0) pa_nil)) (pe_one (pe_chain op_le op_lt pe_int (pv 0) (pv 1)))))), ?_⟩
    refine ⟨_, rfl, i, rfl, _, rfl, iteT ⟨_, rfl, _, _, rfl, rfl, _, rfl, ite3 (fun h0 => ⟨_, rfl, _, _, rfl, rfl, ?_⟩) (fun h0 => ?_)⟩⟩
    · show Q (.bl (decide (i < n))) H
      rw [show decide (i < n) = decide (0 ≤ i ∧ i < n) from decide_eq_decide.mpr ⟨fun z => ⟨h0, z⟩, fun z => z.2⟩]
      exact q
    · rw [decide_eq_false (fun z => h0 z.1)] at q
      exact q
theorem sc_need_room : FnScope ["machine", "number"] ["machine", "number"] (defScope s_need_room) := ⟨rfl, rfl, rfl, by decide +kernel, rfl, by decide +kernel, by decide +kernel⟩
set_option maxHeartbeats 4000000 in
theorem ok_need_room {f : Addr} {fd : FuncData} (F : Fun K "need_room" "need_room" s_need_room f fd) (T : Txt K mg c_RoomError c_NoLetters c_NoWord c_NoNumber c_NoRoom c_NoMachine c_OtherLetters c_TooMany c_NoPattern c_TooGreat c_NoKind) (d_is_room : Df P w K mg base "is_room" 2 ["number", "many"] sp_isroom2) : FnOk P w K mg base (CXE P w) 3 f fd ["machine", "number"] (sp_needroomX c_NoRoom) := by
  refine F.okX sc_need_room (fun vs H Q E h => ?_) (fun cdv A outer s H vs Q E hr h => ?_)
  · obtain ⟨m, L, W, B, r, rfl, _⟩ := h
    rfl
  · obtain ⟨m, L, W, B, r, rfl, hM, hMa, q1, q2⟩ := h
    obtain ⟨wy, mk, rows, h1, h2, h3, h4, h5⟩ := hM
    refine ⟨_, (pss_one ((ps_if (pt_not (pt_val (pe_df d_is_room hr (pa_cons (pv 1) (pa_cons ((pe_callB call_len_seq (by rfl) T.len PySem.boot_len (pa_cons (pe_ix ix_tup (pv 0) pe_int (fun _ _ => rfl)) pa_nil))) pa_nil))))) ((pss_one ((ps_raise rfl throws_def T.o_NoRoom T.k_NoRoom (pa_cons (pe_str) pa_nil))))) (pss_nil)))), ?_⟩
    refine ⟨_, rfl, _, rfl, m, _, _, _, rfl, rfl, SqT.of h1, atI_nat (j := 1) rfl, wy, _, rfl, .inr (SqT.of h2), r, _, rfl, _, rfl, ?_⟩
    rw [List.length_map, h4]
    by_cases hrm : 0 ≤ r ∧ r < W.length
    case neg =>
      rw [decide_eq_false hrm]
      exact iteT ⟨line_ge (by show 1 ≤ 16777216; decide), q1 hrm⟩
    rw [decide_eq_true hrm]
    exact iteF (q2 hrm)
theorem sc_room_after : FnScope ["machine", "room", "word", "letters", "ways", "here", "sign"] ["machine", "room", "word"] (defScope s_room_after) := ⟨rfl, rfl, rfl, by decide +kernel, rfl, by decide +kernel, by decide +kernel⟩
set_option maxHeartbeats 4000000 in
theorem ok_room_after {f : Addr} {fd : FuncData} (F : Fun K "room_after" "room_after" s_room_after f fd) (T : Txt K mg c_RoomError c_NoLetters c_NoWord c_NoNumber c_NoRoom c_NoMachine c_OtherLetters c_TooMany c_NoPattern c_TooGreat c_NoKind) (d_need_room : DfX P w K mg base "need_room" 3 ["machine", "number"] (sp_needroomX c_NoRoom)) (d_need_word : DfX P w K mg base "need_word" 1 ["letters", "word"] (sp_needwordX c_NoWord)) : FnOk P w K mg base (CXE P w) 4 f fd ["machine", "room", "word"] (sp_roomafterX c_NoRoom c_NoWord) := by
  refine F.okX sc_room_after (fun vs H Q E h => ?_) (fun cdv A outer s H vs Q E hr h => ?_)
  · obtain ⟨m, L, W, B, r, w, rfl, _⟩ := h
    rfl
  · obtain ⟨m, L, W, B, r, w, rfl, hM, hMa, hsw, q1, q2, q3⟩ := h
    have hM0 := hM
    obtain ⟨wy, mk, rows, h1, h2, h3, h4, h5⟩ := hM0
    have hr1 := hr.mono (j := 1) (by decide)
    refine ⟨_, (pss_cons ((ps_set (i := 3) sc_room_after.nd rfl (Or.inl rfl) (pe_ix ix_tup (pv 0) pe_int (fun _ _ => rfl)))) (pss_cons ((ps_set (i := 4) sc_room_after.nd rfl (Or.inl rfl) (pe_ix ix_tup (pv 0) pe_int (fun _ _ => rfl)))) (pss_cons (ps_expr (pe_dfX d_need_room hr (passes_def fun _ _ _ z => z) (pa_cons (pv 0) (pa_cons (pv 1) pa_nil)))) (pss_cons (ps_expr (pe_dfX d_need_word hr1 (passes_def fun _ _ _ z => z) (pa_cons (pv 3) (pa_cons (pv 2) pa_nil)))) (pss_cons ((ps_set (i := 5) sc_room_after.nd rfl (Or.inl rfl) (pv 1))) (pss_cons ((ps_for PassesOwn.leaving rfl (pi_str (pv 2)) (pg_name (i := 6) sc_room_after.nd rfl (Or.inl rfl)) ((pss_one ((ps_set (i := 5) sc_room_after.nd rfl (Or.inl rfl) (pe_ix ix_tup (pe_ix ix_tup (pv 4) (pv 5) (fun _ _ => rfl)) (pe_bm PySem.F.plainAttrs_str PySem.F.slot_str_index PySem.F.type_str_index mt_index (pv 3) (pa_cons (pv 6) pa_nil)) (fun _ _ => rfl)))))))) (pss_one (ps_ret (pv 5))))))))), ?_⟩
    refine ⟨_, rfl, m, _, _, _, rfl, rfl, SqT.of h1, atI_nat (j := 0) rfl, _, rfl, m, _, _, _, rfl, rfl, SqT.of h1, atI_nat (j := 1) rfl, ?_⟩
    refine ⟨_, rfl, _, rfl, m, L, W, B, r, rfl, hM, hMa, fun n => q1 n, fun hrm => ?_⟩
    refine ⟨_, rfl, _, rfl, L, w, rfl, hMa.lt.sm, hsw, fun hw => ?_, fun hb => q2 hrm hb⟩
    have hr0 : r.toNat < W.length := by omega
    have q4 := q3 hrm hw
    obtain ⟨n, rfl⟩ := Int.eq_ofNat_of_zero_le hrm.1
    refine ⟨_, rfl, _, rfl, _, rfl, for_str (x := tx w) (fun i σ H' => ∃ s0, σ = [some (.ref m), some (.int (n : Int)), some (.str (tx w)), some (.str (tx L)), some (.ref wy), some (.int (run L W n (w.take i) : Nat)), s0] ∧ H' = H) ⟨none, rfl, rfl⟩ ?_ ?_⟩
    · rintro i c σ H1 hc ⟨s0, rfl, rfl⟩
      rw [tx_get] at hc
      have hcL : c ∈ L := hw c (List.mem_of_getElem? hc)
      have hlt := run_lt hMa (w := w.take i) (r := n) (by omega) fun d hd => hw d (List.mem_of_mem_take hd)
      obtain ⟨ws, x, e1, e2, e3, e4⟩ := hMa.at hlt hcL
      obtain ⟨rr, hrr⟩ : ∃ rr, rows[run L W n (w.take i)]? = some rr := ⟨rows[run L W n (w.take i)]'(by omega), by simp [h4, hlt]⟩
      obtain ⟨ws', e5, e6⟩ := h5 _ _ hrr
      rw [e1] at e5
      cases e5
      refine ⟨_, rfl, _, rfl, wy, _, _, _, rfl, rfl, SqT.of h2, atI_map V.ref hrr, _, rfl, rfl, _, rfl, _, _, rfl, rfl, by rw [contains_one]; exact decide_eq_true hcL, ?_⟩
      rw [find_one hcL]
      refine ⟨rr, _, _, _, rfl, rfl, SqT.of e6, atI_map _ e2, ?_⟩
      refine ⟨some (.str ⟨#[c]⟩), ?_, rfl⟩
      show [some (V.ref m), some (V.int (n : Int)), some (V.str (tx w)), some (V.str (tx L)), some (V.ref wy), some (V.int ((x : Nat) : Int)), some _] = _
      rw [List.take_add_one, hc]
      show _ = [some (V.ref m), some (V.int (n : Int)), some (V.str (tx w)), some (V.str (tx L)), some (V.ref wy), some (V.int ((run L W n (w.take i ++ [c]) : Nat) : Int)), some (V.str ⟨#[c]⟩)]
      rw [run_snoc, e3]
    · rintro σ H1 ⟨s0, rfl, rfl⟩
      rw [tx_len, List.take_length]
      exact ⟨_, rfl, q4⟩
theorem sc_act_of : FnScope ["machine", "word"] ["machine", "word"] (defScope s_act_of) := ⟨rfl, rfl, rfl, by decide +kernel, rfl, by decide +kernel, by decide +kernel⟩
set_option maxHeartbeats 4000000 in
theorem ok_act_of {f : Addr} {fd : FuncData} (F : Fun K "act_of" "act_of" s_act_of f fd) (T : Txt K mg c_RoomError c_NoLetters c_NoWord c_NoNumber c_NoRoom c_NoMachine c_OtherLetters c_TooMany c_NoPattern c_TooGreat c_NoKind) (d_room_after : DfX P w K mg base "room_after" 4 ["machine", "room", "word"] (sp_roomafterX c_NoRoom c_NoWord)) : FnOk P w K mg base (CXE P w) 5 f fd ["machine", "word"] (sp_actof c_NoWord) := by
  refine F.okX sc_act_of (fun vs H Q E h => ?_) (fun cdv A outer s H vs Q E hr h => ?_)
  · obtain ⟨m, L, W, B, w, rfl, _⟩ := h
    rfl
  · obtain ⟨m, L, W, B, w, rfl, hM, hMa, hsw, q1, q2⟩ := h
    refine ⟨_, (pss_one (ps_ret (pe_callTy call_tuple_of (by rfl) T.tuple PyProof.Rows.boot_tuple (pa_cons (pe_compX ["machine", "word"] own_xe rfl (by decide) (pi_range1 rfl T.range (pa_cons (pe_callB call_len_seq (by rfl) T.len PySem.boot_len (pa_cons (pe_ix ix_tup (pv 0) pe_int (fun _ _ => rfl)) pa_nil)) pa_nil)) (fun cl C fp s' H' => ⟨pts_nil, pe_dfX d_room_after hr (passes_block rfl) (pa_cons (pv 1) (pa_cons (pv 0) (pa_cons (pv 2) pa_nil)))⟩)) pa_nil)))), ?_⟩
    have hM0 := hM
    obtain ⟨wy, mk, rows, h1, h2, h3, h4, h5⟩ := hM0
    have hl : (rows.map V.ref).length = W.length := by rw [List.length_map, h4]
    dsimp only [tRet, gName, tNext, tSeq, tAsg, tCall, tCons, tBM, tCB]
    refine comp_rngG (n := W.length) (fun R h => ⟨_, rfl, m, _, _, _, rfl, rfl, SqT.of h1, atI_nat (j := 1) rfl, wy, _, rfl, .inr (SqT.of h2), by rw [hl]; exact h⟩) (Nat.le_trans hMa.n60 (by decide)) (fun D j ys H' => ys = intsV ((List.range j).map fun r => run L W r w) ∧ (0 < j → ∀ c ∈ w, c ∈ L)) (fun D hD => ⟨rfl, fun z => absurd z (Nat.lt_irrefl 0)⟩) ?_ ?_
    · intro D j ys H' R1 R2 hD hj hsm hDl hp k1 k2
      have hr0 : 0 ≤ (0 + (j : Int)) ∧ (0 + (j : Int)) < W.length := by omega
      refine tAlways_if ⟨_, rfl, _, rfl, _, rfl, m, L, W, B, _, w, rfl, hM.same hsm, hMa, hsw, fun n => (n hr0).elim, fun _ hb => q1 hb _ hsm, fun _ hw => k1 _ H' hDl (Same.set hsm hD) ⟨?_, fun _ => hw⟩⟩
      rw [hp.1, List.range_succ, List.map_append, Int.zero_add]
      exact (ints_snoc _ _).symm
    · intro D ys H' hD hsm hDl hp
      refine ⟨D, ys, rfl, .inl ⟨SqL.of hDl, fun t ht => ?_⟩⟩
      refine q2 (hp.2 hMa.n1) t _ (hsm.trans (Same.upd ht)) ?_
      rw [upd_same, hp.1]
      rfl
theorem sc__law_cell_at : FnScope ["_law_script", "_law_k"] ["_law_script", "_law_k"] (defScope s__law_cell_at) := ⟨rfl, rfl, rfl, by decide +kernel, rfl, by decide +kernel, by decide +kernel⟩
set_option maxHeartbeats 4000000 in
theorem ok__law_cell_at {f : Addr} {fd : FuncData} (F : Fun K "_law_cell_at" "_law_cell_at" s__law_cell_at f fd) (T : Txt K mg c_RoomError c_NoLetters c_NoWord c_NoNumber c_NoRoom c_NoMachine c_OtherLetters c_TooMany c_NoPattern c_TooGreat c_NoKind) : FnOk P w K mg base CX0 1 f fd ["_law_script", "_law_k"] (sp_cell K) := by
  refine F.ok sc__law_cell_at (fun vs H Q E h => ?_) (fun cdv A outer s H vs Q E hr h => ?_)
  · obtain ⟨a, ns, k, rfl, _⟩ := h
    rfl
  · obtain ⟨a, ns, k, rfl, hS, h0, q⟩ := h
    refine ⟨_, (pss_cons ((ps_if (pt_cmpR op_lt (pv 1) (pe_callB call_len_seq (by rfl) T.len PySem.boot_len (pa_cons (pv 0) pa_nil)) (nomark _)) ((pss_one (ps_ret (pe_ix ix_list (pv 0) (pv 1) (fun _ _ => rfl))))) (pss_nil))) (pss_one (ps_ret pe_int))), ?_⟩
    refine ⟨_, rfl, _, rfl, a, _, rfl, .inl hS, _, _, rfl, rfl, _, rfl, ?_⟩
    refine ite3 (fun hlt => ?_) (fun _ => q 0)
    obtain ⟨v, hv, hv2⟩ := atI_in (xs := ns.map V.int) h0 hlt
    obtain ⟨z, rfl⟩ : ∃ z, v = V.int z := by
      rw [List.getElem?_map] at hv2
      cases e : ns[k.toNat]? with
      | none => rw [e] at hv2; cases hv2
      | some z => rw [e] at hv2; exact ⟨z, (Option.some.inj hv2).symm⟩
    exact ⟨_, rfl, _, rfl, a, _, _, _, rfl, rfl, hS, hv, q z⟩
theorem sc__law_letters : FnScope ["_law_cell", "_law_left", "_law_number", "_law_many", "_law_found", "_law_k", "_law_at"] ["_law_cell"] (defScope s__law_letters) := ⟨rfl, rfl, rfl, by decide +kernel, rfl, by decide +kernel, by decide +kernel⟩
set_option maxHeartbeats 4000000 in
theorem ok__law_letters {f : Addr} {fd : FuncData} (F : Fun K "_law_letters" "_law_letters" s__law_letters f fd) (T : Txt K mg c_RoomError c_NoLetters c_NoWord c_NoNumber c_NoRoom c_NoMachine c_OtherLetters c_TooMany c_NoPattern c_TooGreat c_NoKind) : FnOk P w K mg base CX0 1 f fd ["_law_cell"] sp_letters := by
  refine F.ok sc__law_letters (fun vs H Q E h => ?_) (fun cdv A outer s H vs Q E hr h => ?_)
  · obtain ⟨c, rfl, _⟩ := h
    rfl
  · obtain ⟨c, rfl, q⟩ := h
    refine ⟨_, (pss_cons ((ps_set (i := 1) sc__law_letters.nd rfl (Or.inl rfl) (pe_str))) (pss_cons ((ps_set (i := 2) sc__law_letters.nd rfl (Or.inl rfl) (pe_op op_mod (pv 0) pe_int))) (pss_cons ((ps_set (i := 3) sc__law_letters.nd rfl (Or.inl rfl) (pe_op op_add pe_int (pe_op op_mod (pv 2) pe_int)))) (pss_cons ((ps_set (i := 2) sc__law_letters.nd rfl (Or.inl rfl) (pe_op op_fdiv (pv 2) pe_int))) (pss_cons ((ps_set (i := 4) sc__law_letters.nd rfl (Or.inl rfl) (pe_str))) (pss_cons ((ps_for PassesOwn.never rfl (pi_range1 rfl T.range (pa_cons (pv 3) pa_nil)) (pg_name (i := 5) sc__law_letters.nd rfl (Or.inl rfl)) ((pss_cons ((ps_set (i := 6) sc__law_letters.nd rfl (Or.inl rfl) (pe_op op_mod (pv 2) (pe_callB call_len_str (by rfl) T.len PySem.boot_len (pa_cons (pv 1) pa_nil))))) (pss_cons ((ps_set (i := 2) sc__law_letters.nd rfl (Or.inl rfl) (pe_op op_fdiv (pv 2) (pe_callB call_len_str (by rfl) T.len PySem.boot_len (pa_cons (pv 1) pa_nil))))) (pss_cons ((ps_set (i := 4) sc__law_letters.nd rfl (Or.inl rfl) (pe_op op_add_str (pv 4) (pe_ix ix_str (pv 1) (pv 6) (fun _ _ => rfl))))) (pss_one ((ps_set (i := 1) sc__law_letters.nd rfl (Or.inl rfl) (pe_op op_add_str (pe_slice sl_str (pv 1) po_none (po_some (pv 6))) (pe_slice sl_str (pv 1) (po_some (pe_op op_add (pv 6) pe_int)) po_none))))))))))) (pss_one (ps_ret (pv 4))))))))), ?_⟩
    refine ⟨_, rfl, _, _, rfl, rfl, (by show (0 : Int) < 46800; decide), _, rfl, _, _, rfl, rfl, (by show (0 : Int) < 3; decide), _, _, rfl, rfl, _, rfl, _, _, rfl, rfl, ⟨by decide, by decide⟩, _, rfl, _, rfl, by omega, by omega, ?_⟩
    have hm : (1 : Int) + c % 46800 % 3 ≤ 3 ∧ 1 ≤ (1 : Int) + c % 46800 % 3 := by omega
    generalize hM : (1 : Int) + c % 46800 % 3 = M at hm ⊢
    refine for_range (n := M.toNat) (fun i σ H' => ∃ f l n k0 a0, σ = [some (.int c), some (.str (tx l)), some (.int n), some (.int M), some (.str (tx f)), k0, a0] ∧ H' = H ∧ 0 ≤ n ∧ f.length = i ∧ l.length + i = 26 ∧ (f ++ l).Nodup ∧ ∀ c ∈ f ++ l, 97 ≤ c ∧ c ≤ 122) ?_ ?_ ?_
    · refine ⟨[], List.range' 97 26, c % 46800 / 3, none, none, ?_, rfl, by omega, rfl, rfl, by decide, by decide⟩
      show [some (V.int c), some (V.str _), some (V.int _), some (V.int _), some (V.str _), none, none] = _
      rw [abc_eq, empty_eq, hM]
    · rintro i σ H1 hi ⟨f, l, n, k0, a0, rfl, rfl, hn, hf, hl, nd, az⟩
      have hz : (tx l).length ≤ sizeLine := line_ge (by rw [tx_len]; omega)
      have hlen : ((tx l).length : Int) = 26 - (i : Int) := by rw [tx_len]; omega
      have hlp : (0 : Int) < ((tx l).length : Int) := by omega
      have hr0 := Int.emod_nonneg n (show ((tx l).length : Int) ≠ 0 by omega)
      have hr1 := Int.emod_lt_of_pos n hlp
      have hd0 : 0 ≤ n / ((tx l).length : Int) := Int.ediv_nonneg hn (by omega)
      have hRl : (n % ((tx l).length : Int)).toNat < l.length := by omega
      obtain ⟨v, hv, hv2⟩ := atI_in (xs := (tx l).cps.toList) hr0 (by rw [tx_cps]; omega)
      rw [tx_cps] at hv2
      have ev : v = l[(n % ((tx l).length : Int)).toNat] := by
        rw [List.getElem?_eq_getElem hRl] at hv2
        exact (Option.some.inj hv2).symm
      subst ev
      refine ⟨_, rfl, _, rfl, _, rfl, hz, _, _, rfl, rfl, hlp, _, rfl, _, rfl, _, rfl, hz, _, _, rfl, rfl, ⟨hlp, by omega⟩, _, rfl, _, rfl, _, rfl, _, _, _, rfl, rfl, hz, hv, _, _, rfl, rfl, ?_, _, rfl, _, rfl, _, rfl, _, rfl, hz, _, rfl, _, rfl, _, _, rfl, rfl, _, rfl, _, rfl, hz, _, _, rfl, rfl, ?_, ?_⟩
      · refine line_ge ?_
        rw [tx_len]
        show f.length + 1 ≤ _
        omega
      · refine line_ge ?_
        have h1 := Txt.slice_le (tx l) none (some (n % ((tx l).length : Int)))
        have h2 := Txt.slice_le (tx l) (some ((n % ((tx l).length : Int)) + 1)) none
        have hll := tx_len l
        omega
      · obtain ⟨d1, d2⟩ := draw_one hRl nd
        refine ⟨f ++ [l[(n % ((tx l).length : Int)).toNat]], l.take (n % ((tx l).length : Int)).toNat ++ l.drop ((n % ((tx l).length : Int)).toNat + 1), n / ((tx l).length : Int), some (.int (0 + (i : Int))), some (.int (n % ((tx l).length : Int))), ?_, rfl, hd0, by rw [List.length_append, hf]; rfl, ?_, d1, fun c hc => az c (d2 c hc)⟩
        · have e1 := slice_to (tx l) hr0
          have e2 := slice_from (tx l) (i := (n % ((tx l).length : Int)) + 1) (by omega) (by rw [tx_cps]; omega)
          rw [tx_cps] at e1 e2
          rw [show ((n % ((tx l).length : Int)) + 1).toNat = (n % ((tx l).length : Int)).toNat + 1 by omega] at e2
          show [some (V.int c), some (V.str (Txt.slice (tx l) none (some (n % ((tx l).length : Int))) ++ Txt.slice (tx l) (some ((n % ((tx l).length : Int)) + 1)) none)), some (V.int _), some (V.int M), some (V.str (tx f ++ ⟨#[l[(n % ((tx l).length : Int)).toNat]]⟩)), some _, some _] = _
          rw [e1, e2, tx_app, show (⟨#[l[(n % ((tx l).length : Int)).toNat]]⟩ : Str) = tx [l[(n % ((tx l).length : Int)).toNat]] from rfl, tx_app]
        · rw [List.length_append, List.length_take, List.length_drop]
          omega
    · rintro σ H1 ⟨f, l, n, k0, a0, rfl, rfl, hn, hf, hl, nd, az⟩
      refine ⟨_, rfl, q f ⟨by omega, by omega, (List.nodup_append.mp nd).1, fun c hc => az c (List.mem_append_left _ hc)⟩⟩
theorem sc__law_word : FnScope ["_law_letters_here", "_law_cells"] ["_law_letters_here", "_law_cells"] (defScope s__law_word) := ⟨rfl, rfl, rfl, by decide +kernel, rfl, by decide +kernel, by decide +kernel⟩
set_option maxHeartbeats 4000000 in
theorem ok__law_word {f : Addr} {fd : FuncData} (F : Fun K "_law_word" "_law_word" s__law_word f fd) (T : Txt K mg c_RoomError c_NoLetters c_NoWord c_NoNumber c_NoRoom c_NoMachine c_OtherLetters c_TooMany c_NoPattern c_TooGreat c_NoKind) : FnOk P w K mg base CX0 1 f fd ["_law_letters_here", "_law_cells"] (sp_word K) := by
  refine F.ok sc__law_word (fun vs H Q E h => ?_) (fun cdv A outer s H vs Q E hr h => ?_)
  · obtain ⟨L, a, ns, rfl, _⟩ := h
    rfl
  · obtain ⟨L, a, ns, rfl, hL, hS, hl, q⟩ := h
    refine ⟨_, (pss_one (ps_ret (pe_bm PySem.F.plainAttrs_str PySem.F.slot_str_join PySem.F.type_str_join mt_join (pe_str) (pa_cons (pe_comp rfl sc__law_word.nd (pi_list (pv 1)) (fun cl C fp s' H' => ⟨pts_nil, pe_ix ix_str (pv 1) (pe_op op_mod (pv 0) (pe_callB call_len_str (by rfl) T.len PySem.boot_len (pa_cons (pv 1) pa_nil))) (fun _ _ => rfl)⟩)) pa_nil)))), ?_⟩
    have hz : (tx L).length ≤ sizeLine := line_ge (by rw [tx_len]; have := hL.hi; omega)
    have hlp : (0 : Int) < ((tx L).length : Int) := by rw [tx_len]; have := hL.lo; omega
    refine ⟨rfl, comp_listT (signV L) rfl hS (by rw [List.length_map]; exact line_ge (by omega)) (fun i x H' R hx hsame hR => ?_) (fun D hD => ?_)⟩
    · obtain ⟨z, rfl⟩ : ∃ z, x = V.int z := by
        rw [List.getElem?_map] at hx
        cases e : ns[i]? with
        | none => rw [e] at hx; cases hx
        | some z => rw [e] at hx; exact ⟨z, (Option.some.inj hx).symm⟩
      have hr0 := Int.emod_nonneg z (show ((tx L).length : Int) ≠ 0 by omega)
      have hr1 := Int.emod_lt_of_pos z hlp
      obtain ⟨v, hv, hv2⟩ := atI_in (xs := (tx L).cps.toList) hr0 (by rw [tx_cps, ← tx_len]; exact hr1)
      rw [tx_cps] at hv2
      refine ⟨_, rfl, _, rfl, _, rfl, _, rfl, hz, _, _, rfl, rfl, hlp, _, _, _, rfl, rfl, hz, hv, ?_⟩
      have e : signV L (V.int z) = .str ⟨#[v]⟩ := by
        show V.str ⟨#[signAt L z]⟩ = _
        rw [signAt_eq L z, ← tx_len, hv2]
        rfl
      rw [← e]
      exact hR
    · refine ⟨_, D, (ns.map (signAt L)).map fun c => (⟨#[c]⟩ : Str), rfl, rfl, SqL.of ?_, ?_, ?_⟩
      · rw [upd_same]
        simp [List.map_map, Function.comp_def, signV]
      · exact join_size _ (by rw [List.length_map]; omega)
      · rw [empty_eq', join_signs]
        exact q _ _ (by simp) (fun c hc => signs_in hL hc) (Same.upd hD)
theorem sc__law_machine : FnScope ["_law_script", "_law_at", "_law_rooms", "_law_letters_here", "_law_ways", "_law_marks", "_law_number", "_law_k", "_law_rest", "_law_row", "_law_sign"] ["_law_script", "_law_at", "_law_rooms", "_law_letters_here"] (defScope s__law_machine) := ⟨rfl, rfl, rfl, by decide +kernel, rfl, by decide +kernel, by decide +kernel⟩
set_option maxHeartbeats 4000000 in
theorem ok__law_machine {f : Addr} {fd : FuncData} (F : Fun K "_law_machine" "_law_machine" s__law_machine f fd) (T : Txt K mg c_RoomError c_NoLetters c_NoWord c_NoNumber c_NoRoom c_NoMachine c_OtherLetters c_TooMany c_NoPattern c_TooGreat c_NoKind) (d__law_cell_at : Df P w K mg base "_law_cell_at" 1 ["_law_script", "_law_k"] (sp_cell K)) : FnOk P w K mg base CX0 2 f fd ["_law_script", "_law_at", "_law_rooms", "_law_letters_here"] (sp_machine K) := by
  refine F.ok sc__law_machine (fun vs H Q E h => ?_) (fun cdv A outer s H vs Q E hr h => ?_)
  · obtain ⟨a, ns, p, n, L, rfl, _⟩ := h
    rfl
  · obtain ⟨a, ns, p, n, L, rfl, hS, hp0, hn1, hn60, hL, q⟩ := h
    refine ⟨_, (pss_cons ((ps_set (i := 4) sc__law_machine.nd rfl (Or.inl rfl) (pe_lst pa_nil))) (pss_cons ((ps_set (i := 5) sc__law_machine.nd rfl (Or.inl rfl) (pe_lst pa_nil))) (pss_cons ((ps_set (i := 6) sc__law_machine.nd rfl (Or.inl rfl) (pe_int))) (pss_cons ((ps_for PassesOwn.never rfl (pi_range1 rfl T.range (pa_cons (pv 2) pa_nil)) (pg_name (i := 7) sc__law_machine.nd rfl (Or.inl rfl)) ((pss_cons ((ps_set (i := 6) sc__law_machine.nd rfl (Or.inl rfl) (pe_op op_modG (pe_op op_a (pe_op op_a (pe_op op_p (pv 6) (pv 6)) (pe_op op_p pe_int (pe_op op_m (pe_df d__law_cell_at hr (pa_cons (pv 0) (pa_cons (pe_op op_a (pv 1) (pv 7)) pa_nil))) (pe_op op_pow pe_int pe_int)))) (pv 7)) pe_int))) (pss_cons ((ps_set (i := 8) sc__law_machine.nd rfl (Or.inl rfl) (pv 6))) (pss_cons ((ps_set (i := 9) sc__law_machine.nd rfl (Or.inl rfl) (pe_lst pa_nil))) (pss_cons ((ps_for PassesOwn.never rfl (pi_str (pv 3)) (pg_name (i := 10) sc__law_machine.nd rfl (Or.inl rfl)) ((pss_cons (ps_expr (pe_bm PySem.F.plainAttrs_list PySem.F.slot_list_append PySem.F.type_list_append mt_append (pv 9) (pa_cons (pe_op op_modG (pv 8) (pv 2)) pa_nil))) (pss_one ((ps_set (i := 8) sc__law_machine.nd rfl (Or.inl rfl) (pe_op op_fdivG (pv 8) (pv 2))))))))) (pss_cons (ps_expr (pe_bm PySem.F.plainAttrs_list PySem.F.slot_list_append PySem.F.type_list_append mt_append (pv 4) (pa_cons ((pe_callTy call_tuple_of (by rfl) T.tuple PyProof.Rows.boot_tuple (pa_cons (pv 9) pa_nil))) pa_nil))) (pss_one (ps_expr (pe_bm PySem.F.plainAttrs_list PySem.F.slot_list_append PySem.F.type_list_append mt_append (pv 5) (pa_cons (pe_cmpR op_eq (pe_op op_modG (pv 8) pe_int) pe_int (nomark _)) pa_nil)))))))))))) (pss_one (ps_ret (pe_tup (pa_cons (pv 3) (pa_cons (pe_callTy call_tuple_of (by rfl) T.tuple PyProof.Rows.boot_tuple (pa_cons (pv 4) pa_nil)) (pa_cons (pe_callTy call_tuple_of (by rfl) T.tuple PyProof.Rows.boot_tuple (pa_cons (pv 5) pa_nil)) pa_nil)))))))))), ?_⟩
    refine ⟨Nat.zero_le _, fun wa hwa => ⟨Nat.zero_le _, fun mk hmk => ?_⟩⟩
    have hwm : wa ≠ mk := ne_of_none upd_same hmk
    have hmk0 : H mk = none := by rw [upd_ne hwm.symm] at hmk; exact hmk
    refine ⟨_, rfl, _, rfl, by omega, by omega, ?_⟩
    refine for_range (n := (n : Int).toNat) (fun i σ H' => ∃ (rows : List Addr) (W : List (List Nat)) (B : List Bool) (num : Int) (k0 rest row sg : Option V), σ = [some (.ref a), some (.int p), some (.int (n : Int)), some (.str (tx L)), some (.ref wa), some (.ref mk), some (.int num), k0, rest, row, sg] ∧
      Same H H' ∧ H' wa = some (.lst (rows.map V.ref)) ∧ H' mk = some (.lst (B.map V.bl)) ∧ rows.length = i ∧ W.length = i ∧ B.length = i ∧ 0 ≤ num ∧ num < 2147483647 ∧ RowsAt H' rows W ∧ ∀ ws ∈ W, ws.length = L.length ∧ ∀ x ∈ ws, x < n) ?_ ?_ ?_
    · exact ⟨[], [], [], 0, none, none, none, none, rfl, fun b o e => upd_keep (upd_keep e hwa) hmk, upd_keep upd_same hmk, upd_same, rfl, rfl, rfl, by decide, by decide, fun i r e => by simp at e, fun ws e => by simp at e⟩
    · rintro i σ H1 hi ⟨rows, W, B, num, k0, rest0, row0, sg0, rfl, hsame, h1wa, h1mk, hrl, hWl, hBl, hn0, hn1', hrows, hW⟩
      refine ⟨_, rfl, _, rfl, _, _, rfl, rfl, .inl ⟨by omega, by omega⟩, _, rfl, _, rfl, _, rfl, _, _, rfl, rfl, a, ns, _, rfl, hsame.seq hS, by omega, fun z => ?_⟩
      refine ⟨_, _, rfl, rfl, ⟨by decide, by decide, by decide⟩, _, _, rfl, rfl, by decide, _, _, rfl, rfl, .inl ⟨by decide, by decide⟩, _, _, rfl, rfl, _, rfl, _, _, rfl, rfl, _, _, rfl, rfl, by decide, fun num2 hm0 hm1 => ?_⟩
      refine ⟨_, rfl, Nat.zero_le _, fun rw hrw => ?_⟩
      have rwa : wa ≠ rw := ne_of_none h1wa hrw
      have rmk : mk ≠ rw := ne_of_none h1mk hrw
      refine ⟨_, rfl, _, rfl, for_str (x := tx L) (fun j σ' H2 => ∃ (ws : List Nat) (rest : Int) (sg : Option V), σ' = [some (.ref a), some (.int p), some (.int (n : Int)), some (.str (tx L)), some (.ref wa), some (.ref mk), some (.int num2), some (.int (0 + (i : Int))), some (.int rest), some (.ref rw), sg] ∧
        H2 = upd H1 rw (.lst (intsV ws)) ∧ ws.length = j ∧ (∀ x ∈ ws, x < n) ∧ 0 ≤ rest) ⟨[], num2, sg0, rfl, rfl, rfl, fun x e => by simp at e, hm0⟩ ?_ ?_⟩
      · rintro j c σ2 H2 hc ⟨ws, rest, sg, rfl, rfl, hwl, hwn, hr0⟩
        have hjl : j < 4 := by
          have := (Array.getElem?_eq_some_iff.mp hc).1
          have e : (tx L).cps.size = L.length := tx_len L
          have := hL.hi
          omega
        refine ⟨_, rfl, .inl ⟨rfl, _, SqL.of upd_same⟩, _, rfl, _, rfl, _, _, rfl, rfl, by omega, fun r hr0' hr1 => ⟨rw, _, _, rfl, rfl, upd_same, ?_, _, rfl, _, rfl, _, _, rfl, rfl, ⟨by omega, by omega⟩, hr0, fun q2 hq2 => ?_⟩⟩
        · unfold intsV
          rw [List.length_map]
          exact small1000 (by omega)
        · refine ⟨ws ++ [r.toNat], q2, some (.str ⟨#[c]⟩), rfl, ?_, by rw [List.length_append, hwl]; rfl, fun x hx => ?_, hq2⟩
          · have e : ((r.toNat : Nat) : Int) = r := by omega
            rw [upd_upd]
            unfold intsV
            rw [List.map_append]
            show _ = upd H1 rw (.lst (_ ++ [V.int ((r.toNat : Nat) : Int)]))
            rw [e]
          · rcases List.mem_append.mp hx with hx | hx
            · exact hwn x hx
            · rw [List.mem_singleton.mp hx]
              omega
      · rintro σ2 H2 ⟨ws, rest, sg, rfl, rfl, hwl, hwn, hr0⟩
        rw [tx_len] at hwl
        have a1 : upd H1 rw (.lst (intsV ws)) wa = some (.lst (rows.map V.ref)) := by rw [upd_ne rwa]; exact h1wa
        have a2 : upd H1 rw (.lst (intsV ws)) mk = some (.lst (B.map V.bl)) := by rw [upd_ne rmk]; exact h1mk
        refine ⟨_, rfl, .inl ⟨rfl, _, SqL.of a1⟩, _, rfl, rw, _, rfl, .inl ⟨SqL.of upd_same, fun tp htp => ?_⟩⟩
        have twa : wa ≠ tp := ne_of_none a1 htp
        have tmk : mk ≠ tp := ne_of_none a2 htp
        refine ⟨wa, _, _, rfl, rfl, (by rw [upd_ne twa]; exact a1), (by rw [List.length_map]; exact small1000 (by omega)), ?_⟩
        refine ⟨_, rfl, .inl ⟨rfl, _, SqL.of (by rw [upd_ne hwm.symm, upd_ne tmk]; exact a2)⟩, _, rfl, _, _, rfl, rfl, by decide, fun r3 _ _ => ⟨rfl, mk, _, _, rfl, rfl, (by rw [upd_ne hwm.symm, upd_ne tmk]; exact a2), (by rw [List.length_map]; exact small1000 (by omega)), ?_⟩⟩
        have hk : ∀ b o, H1 b = some o → b ≠ wa → b ≠ mk → upd (upd (upd (upd H1 rw (.lst (intsV ws))) tp (.tup (intsV ws))) wa (.lst (rows.map V.ref ++ [.ref tp]))) mk (.lst (B.map V.bl ++ [.bl (decide (V.int r3 = V.int 1))])) b = some o := fun b o e e1 e2 => by
          rw [upd_ne e2, upd_ne e1, upd_ne (ne_of_none (upd_keep e hrw) htp), upd_ne (ne_of_none e hrw)]
          exact e
        refine ⟨rows ++ [tp], W ++ [ws], B ++ [decide (V.int r3 = V.int 1)], num2, some (.int (0 + (i : Int))), some (.int rest), some (.ref rw), sg, rfl, fun b o e => ?_, ?_, ?_, ?_, ?_, ?_, hm0, hm1, fun j r e => ?_, fun v hv => ?_⟩
        · exact hk b o (hsame b o e) (ne_of_none e hwa) (ne_of_none e hmk0)
        · rw [upd_ne hwm, upd_same, List.map_append]
          rfl
        · rw [upd_same, List.map_append]
          rfl
        · rw [List.length_append, hrl]; rfl
        · rw [List.length_append, hWl]; rfl
        · rw [List.length_append, hBl]; rfl
        · by_cases hj : j < rows.length
          · rw [List.getElem?_append_left hj] at e
            obtain ⟨v, e1, e2⟩ := hrows j r e
            refine ⟨v, by rw [List.getElem?_append_left (by omega)]; exact e1, hk r _ e2 (ne_of e2 h1wa (by intro z; cases z)) (ne_of e2 h1mk (by intro z; cases z))⟩
          · rw [List.getElem?_append_right (by omega)] at e
            have hj0 : j - rows.length = 0 := by
              have := (List.getElem?_eq_some_iff.mp e).1
              simp at this
              omega
            rw [hj0] at e
            have et : tp = r := by simpa using e
            subst et
            refine ⟨ws, by rw [List.getElem?_append_right (by omega), show j - W.length = 0 by omega]; rfl, ?_⟩
            rw [upd_ne tmk.symm, upd_ne twa.symm, upd_same]
        · rcases List.mem_append.mp hv with hv | hv
          · exact hW v hv
          · rw [List.mem_singleton.mp hv]
            exact ⟨hwl, hwn⟩
    · rintro σ H1 ⟨rows, W, B, num, k0, rest0, row0, sg0, rfl, hsame, h1wa, h1mk, hrl, hWl, hBl, hn0, hn1', hrows, hW⟩
      refine ⟨_, rfl, _, rfl, wa, _, rfl, .inl ⟨SqL.of h1wa, fun tw htw => ⟨_, rfl, mk, _, rfl, .inl ⟨SqL.of (upd_keep h1mk htw), fun tm htm => ⟨line_ge (by show 3 ≤ 16777216; decide), fun m hm => ?_⟩⟩⟩⟩⟩
      have up : ∀ b o, H1 b = some o → upd (upd (upd H1 tw (.tup (rows.map V.ref))) tm (.tup (B.map V.bl))) m (.tup [.str (tx L), .ref tw, .ref tm]) b = some o := fun b o e => upd_keep (upd_keep (upd_keep e htw) htm) hm
      have hWn : W.length = n := by omega
      exact q m W B _ (fun b o e => up b o (hsame b o e)) ⟨tw, tm, rows, upd_same, upd_keep (upd_keep upd_same htm) hm, upd_keep upd_same hm, by omega, hrows.same up⟩ ⟨hL, by omega, by omega, by omega, fun ws hws => ⟨(hW ws hws).1, fun x hx => by rw [hWn]; exact (hW ws hws).2 x hx⟩⟩ hWn
theorem sc__law_after : FnScope ["_law_machine_here", "_law_room", "_law_word_here", "_law_sign"] ["_law_machine_here", "_law_room", "_law_word_here"] (defScope s__law_after) := ⟨rfl, rfl, rfl, by decide +kernel, rfl, by decide +kernel, by decide +kernel⟩
set_option maxHeartbeats 4000000 in
theorem ok__law_after {f : Addr} {fd : FuncData} (F : Fun K "_law_after" "_law_after" s__law_after f fd) (T : Txt K mg c_RoomError c_NoLetters c_NoWord c_NoNumber c_NoRoom c_NoMachine c_OtherLetters c_TooMany c_NoPattern c_TooGreat c_NoKind) : FnOk P w K mg base CX0 1 f fd ["_law_machine_here", "_law_room", "_law_word_here"] sp_after := by
  refine F.ok sc__law_after (fun vs H Q E h => ?_) (fun cdv A outer s H vs Q E hr h => ?_)
  · obtain ⟨m, L, W, B, r, w, rfl, _⟩ := h
    rfl
  · obtain ⟨m, L, W, B, r, w, rfl, hM, hMa, hr0, hw, q⟩ := h
    obtain ⟨wy, mk, rows, h1, h2, h3, h4, h5⟩ := hM
    refine ⟨_, (pss_cons ((ps_for PassesOwn.never rfl (pi_str (pv 2)) (pg_name (i := 3) sc__law_after.nd rfl (Or.inl rfl)) ((pss_one ((ps_set (i := 1) sc__law_after.nd rfl (Or.inl rfl) (pe_ix ix_tup (pe_ix ix_tup (pe_ix ix_tup (pv 0) pe_int (fun _ _ => rfl)) (pv 1) (fun _ _ => rfl)) (pe_bm PySem.F.plainAttrs_str PySem.F.slot_str_find PySem.F.type_str_find mt_find (pe_ix ix_tup (pv 0) pe_int (fun _ _ => rfl)) (pa_cons (pv 3) pa_nil)) (fun _ _ => rfl)))))))) (pss_one (ps_ret (pv 1)))), ?_⟩
    refine ⟨_, rfl, _, rfl, for_str (x := tx w) (fun i σ H' => ∃ s0, σ = [some (.ref m), some (.int (run L W r (w.take i) : Nat)), some (.str (tx w)), s0] ∧ H' = H) ⟨none, rfl, rfl⟩ ?_ ?_⟩
    · rintro i c σ H1 hc ⟨s0, rfl, rfl⟩
      rw [tx_get] at hc
      have hcL : c ∈ L := hw c (List.mem_of_getElem? hc)
      have hlt := run_lt hMa (w := w.take i) hr0 fun d hd => hw d (List.mem_of_mem_take hd)
      obtain ⟨ws, x, e1, e2, e3, e4⟩ := hMa.at hlt hcL
      obtain ⟨rr, hrr⟩ : ∃ rr, rows[run L W r (w.take i)]? = some rr := ⟨rows[run L W r (w.take i)]'(by omega), by simp [h4, hlt]⟩
      obtain ⟨ws', e5, e6⟩ := h5 _ _ hrr
      rw [e1] at e5
      cases e5
      refine ⟨_, rfl, m, _, _, _, rfl, rfl, SqT.of h1, atI_nat (j := 1) rfl, _, rfl, wy, _, _, _, rfl, rfl, SqT.of h2, atI_map V.ref hrr, _, rfl, m, _, _, _, rfl, rfl, SqT.of h1, atI_nat (j := 0) rfl, rfl, _, rfl, _, _, rfl, rfl, ?_⟩
      rw [find_one hcL]
      refine ⟨rr, _, _, _, rfl, rfl, SqT.of e6, atI_map _ e2, ?_⟩
      refine ⟨some (.str ⟨#[c]⟩), ?_, rfl⟩
      show [some (V.ref m), some (V.int ((x : Nat) : Int)), some (V.str (tx w)), some _] = _
      rw [List.take_add_one, hc]
      show _ = [some (V.ref m), some (V.int ((run L W r (w.take i ++ [c]) : Nat) : Int)), some (V.str (tx w)), some (V.str ⟨#[c]⟩)]
      rw [run_snoc, e3]
    · rintro σ H1 ⟨s0, rfl, rfl⟩
      rw [tx_len, List.take_length]
      exact ⟨_, rfl, q⟩
theorem sc__law_act : FnScope ["_law_machine_here", "_law_word_here"] ["_law_machine_here", "_law_word_here"] (defScope s__law_act) := ⟨rfl, rfl, rfl, by decide +kernel, rfl, by decide +kernel, by decide +kernel⟩
set_option maxHeartbeats 4000000 in
theorem ok__law_act {f : Addr} {fd : FuncData} (F : Fun K "_law_act" "_law_act" s__law_act f fd) (T : Txt K mg c_RoomError c_NoLetters c_NoWord c_NoNumber c_NoRoom c_NoMachine c_OtherLetters c_TooMany c_NoPattern c_TooGreat c_NoKind) (d__law_after : Df P w K mg base "_law_after" 1 ["_law_machine_here", "_law_room", "_law_word_here"] sp_after) : FnOk P w K mg base CX0 2 f fd ["_law_machine_here", "_law_word_here"] sp_lawact := by
  refine F.ok sc__law_act (fun vs H Q E h => ?_) (fun cdv A outer s H vs Q E hr h => ?_)
  · obtain ⟨m, L, W, B, w, rfl, _⟩ := h
    rfl
  · obtain ⟨m, L, W, B, w, rfl, hM, hMa, hw, q⟩ := h
    refine ⟨_, (pss_one (ps_ret (pe_callTy call_tuple_of (by rfl) T.tuple PyProof.Rows.boot_tuple (pa_cons (pe_compS ["_law_machine_here", "_law_word_here"] rfl (by decide) (pi_range1 rfl T.range (pa_cons (pe_callB call_len_seq (by rfl) T.len PySem.boot_len (pa_cons (pe_ix ix_tup (pv 0) pe_int (fun _ _ => rfl)) pa_nil)) pa_nil)) (fun cl C fp s' H' => ⟨pts_nil, (pe_df d__law_after hr (pa_cons (pv 1) (pa_cons (pv 0) (pa_cons (pv 2) pa_nil))))⟩)) pa_nil)))), ?_⟩
    have hM0 := hM
    obtain ⟨wy, mk, rows, h1, h2, h3, h4, h5⟩ := hM0
    have hl : (rows.map V.ref).length = W.length := by rw [List.length_map, h4]
    dsimp only [tRet, gName, tNext, tSeq, tAsg, tCall, tCons, tBM, tCB]
    refine comp_rngG (n := W.length) (fun R h => ⟨_, rfl, m, _, _, _, rfl, rfl, SqT.of h1, atI_nat (j := 1) rfl, wy, _, rfl, .inr (SqT.of h2), by rw [hl]; exact h⟩) (Nat.le_trans hMa.n60 (by decide)) (fun D j ys H' => ys = intsV ((List.range j).map fun r => run L W r w) ∧ (0 < j → ∀ c ∈ w, c ∈ L)) (fun D hD => ⟨rfl, fun z => absurd z (Nat.lt_irrefl 0)⟩) ?_ ?_
    · intro D j ys H' R1 R2 hD hj hsm hDl hp k1 k2
      refine tAlways_if ⟨_, rfl, _, rfl, _, rfl, m, L, W, B, j, w, by rw [Int.zero_add]; rfl, hM.same hsm, hMa, hj, hw, k1 _ H' hDl (Same.set hsm hD) ⟨?_, fun _ => hw⟩⟩
      rw [hp.1, List.range_succ, List.map_append]
      exact (ints_snoc _ _).symm
    · intro D ys H' hD hsm hDl hp
      refine ⟨D, ys, rfl, .inl ⟨SqL.of hDl, fun t ht => q t _ (hsm.trans (Same.upd ht)) ?_⟩⟩
      rw [upd_same, hp.1]
      rfl
theorem sc__law_same : FnScope ["_law_found", "_law_due", "_law_k"] ["_law_found", "_law_due"] (defScope s__law_same) := ⟨rfl, rfl, rfl, by decide +kernel, rfl, by decide +kernel, by decide +kernel⟩
set_option maxHeartbeats 4000000 in
theorem ok__law_same {f : Addr} {fd : FuncData} (F : Fun K "_law_same" "_law_same" s__law_same f fd) (T : Txt K mg c_RoomError c_NoLetters c_NoWord c_NoNumber c_NoRoom c_NoMachine c_OtherLetters c_TooMany c_NoPattern c_TooGreat c_NoKind) (hm : mg "_law_same" = some (.ref f)) (hbi : Binds K fd ["_law_found", "_law_due"] []) : FnOk P w K mg base CX0 4 f fd ["_law_found", "_law_due"] (sp_same 3) := by
  have step : ∀ (d : Nat) (sp' : Sp), Df P w K mg base "_law_same" d ["_law_found", "_law_due"] sp' → (∀ d' x y H Q E, d = d' + 1 → Like H d' x y → Q (.bl true) H → sp' [x, y] H Q E) → FnOk P w K mg base CX0 (d + 1) f fd ["_law_found", "_law_due"] (sp_same d) := by
    intro d sp' d__law_same hsp
    refine F.ok sc__law_same (fun vs H Q E h => ?_) (fun cdv A outer s H vs Q E hr h => ?_)
    · obtain ⟨x, y, rfl, _⟩ := h
      rfl
    · obtain ⟨x, y, rfl, hlike, q⟩ := h
      refine ⟨_, (pss_cons ((ps_if ((pw_or (pt_val (pe_callB (call_isG (T := "tuple")) (by rfl) T.isinst PyProof.Rows.boot_isinstance (pa_cons (pv 1) (pa_cons (pe_bltn (v := .ty "tuple") (by rfl) T.tuple PyProof.Rows.boot_tuple rfl) pa_nil)))) (pw_or1 (pt_val (pe_callB (call_isG (T := "list")) (by rfl) T.isinst PyProof.Rows.boot_isinstance (pa_cons (pv 1) (pa_cons (pe_bltn (v := .ty "list") (by rfl) T.list PyProof.Rows.boot_list rfl) pa_nil)))))).pt) ((pss_cons ((ps_if ((pw_or (pt_cmpR op_ne (pe_callB (call_isG (T := "tuple")) (by rfl) T.isinst PyProof.Rows.boot_isinstance (pa_cons (pv 0) (pa_cons (pe_bltn (v := .ty "tuple") (by rfl) T.tuple PyProof.Rows.boot_tuple rfl) pa_nil))) (pe_callB (call_isG (T := "tuple")) (by rfl) T.isinst PyProof.Rows.boot_isinstance (pa_cons (pv 1) (pa_cons (pe_bltn (v := .ty "tuple") (by rfl) T.tuple PyProof.Rows.boot_tuple rfl) pa_nil))) (nomark _)) (pw_or1 (pt_cmpR op_ne (pe_callB (call_isG (T := "list")) (by rfl) T.isinst PyProof.Rows.boot_isinstance (pa_cons (pv 0) (pa_cons (pe_bltn (v := .ty "list") (by rfl) T.list PyProof.Rows.boot_list rfl) pa_nil))) (pe_callB (call_isG (T := "list")) (by rfl) T.isinst PyProof.Rows.boot_isinstance (pa_cons (pv 1) (pa_cons (pe_bltn (v := .ty "list") (by rfl) T.list PyProof.Rows.boot_list rfl) pa_nil))) (nomark _)))).pt) ((pss_one (ps_ret pe_bl))) (pss_nil))) (pss_cons ((ps_if (pt_cmpR op_ne (pe_callB call_len_seq (by rfl) T.len PySem.boot_len (pa_cons (pv 0) pa_nil)) (pe_callB call_len_seq (by rfl) T.len PySem.boot_len (pa_cons (pv 1) pa_nil)) (nomark _)) ((pss_one (ps_ret pe_bl))) (pss_nil))) (pss_cons ((ps_for PassesOwn.never rfl (pi_range1 rfl T.range (pa_cons (pe_callB call_len_seq (by rfl) T.len PySem.boot_len (pa_cons (pv 1) pa_nil)) pa_nil)) (pg_name (i := 2) sc__law_same.nd rfl (Or.inl rfl)) ((pss_one ((ps_if (pt_not (pt_val (pe_df d__law_same hr (pa_cons (pe_ix ix_seq (pv 0) (pv 2) (fun _ _ => rfl)) (pa_cons (pe_ix ix_seq (pv 1) (pv 2) (fun _ _ => rfl)) pa_nil))))) ((pss_one (ps_ret pe_bl))) (pss_nil))))))) (pss_one (ps_ret pe_bl)))))) (pss_nil))) (pss_cons ((ps_if (pt_val (pe_callB (call_isG (T := "bool")) (by rfl) T.isinst PyProof.Rows.boot_isinstance (pa_cons (pv 1) (pa_cons (pe_bltn (v := .ty "bool") (by rfl) T.bool PyProof.Rows.boot_bool rfl) pa_nil)))) ((pss_one (ps_ret (pe_and (pe_callB (call_isG (T := "bool")) (by rfl) T.isinst PyProof.Rows.boot_isinstance (pa_cons (pv 0) (pa_cons (pe_bltn (v := .ty "bool") (by rfl) T.bool PyProof.Rows.boot_bool rfl) pa_nil))) (pe_one (pe_cmpR op_eq (pv 0) (pv 1) (nomark _))))))) (pss_nil))) (pss_cons ((ps_if (pt_val (pe_callB (call_isG (T := "int")) (by rfl) T.isinst PyProof.Rows.boot_isinstance (pa_cons (pv 1) (pa_cons (pe_bltn (v := .ty "int") (by rfl) T.int PyProof.Rows.boot_int rfl) pa_nil)))) ((pss_one (ps_ret (pe_and (pe_callB (call_isG (T := "int")) (by rfl) T.isinst PyProof.Rows.boot_isinstance (pa_cons (pv 0) (pa_cons (pe_bltn (v := .ty "int") (by rfl) T.int PyProof.Rows.boot_int rfl) pa_nil))) (pe_and (pe_not (pe_callB (call_isG (T := "bool")) (by rfl) T.isinst PyProof.Rows.boot_isinstance (pa_cons (pv 0) (pa_cons (pe_bltn (v := .ty "bool") (by rfl) T.bool PyProof.Rows.boot_bool rfl) pa_nil)))) (pe_one (pe_cmpR op_eq (pv 0) (pv 1) (nomark _)))))))) (pss_nil))) (pss_cons ((ps_if (pt_val (pe_callB (call_isG (T := "str")) (by rfl) T.isinst PyProof.Rows.boot_isinstance (pa_cons (pv 1) (pa_cons (pe_bltn (v := .ty "str") (by rfl) T.str PyProof.Rows.boot_str rfl) pa_nil)))) ((pss_one (ps_ret (pe_and (pe_callB (call_isG (T := "str")) (by rfl) T.isinst PyProof.Rows.boot_isinstance (pa_cons (pv 0) (pa_cons (pe_bltn (v := .ty "str") (by rfl) T.str PyProof.Rows.boot_str rfl) pa_nil))) (pe_one (pe_cmpR op_eq (pv 0) (pv 1) (nomark _))))))) (pss_nil))) (pss_one (ps_never)))))), ?_⟩
      have hcase : (x = y ∧ flat3 x = true) ∨ ∃ d' p q xs ys, d = d' + 1 ∧ x = .ref p ∧ y = .ref q ∧ ((H p = some (.tup xs) ∧ H q = some (.tup ys)) ∨ (H p = some (.lst xs) ∧ H q = some (.lst ys))) ∧ xs.length = ys.length ∧ xs.length ≤ 1000 ∧ ∀ (i : Nat) (x y : V), xs[i]? = some x → ys[i]? = some y → Like H d' x y := by
        cases d with
        | zero => exact .inl hlike
        | succ d' => exact hlike.elim .inl fun ⟨p, q, xs, ys, h⟩ => .inr ⟨d', p, q, xs, ys, rfl, h⟩
      rcases hcase with ⟨rfl, hf⟩ | ⟨d', p, p2, xs, ys, hd, rfl, rfl, hpq, hlen, h1000, hall⟩
      · cases x with
        | bl b =>
          refine ⟨_, rfl, _, _, _, rfl, TyOf.bl _, kit_bt K, _, rfl, iteF ⟨_, rfl, _, _, _, rfl, TyOf.bl _, kit_bl K, _, rfl, iteF ?_⟩⟩
          refine ⟨_, rfl, _, _, _, rfl, TyOf.bl _, kit_bb K, _, rfl, iteT ⟨_, rfl, _, _, _, rfl, TyOf.bl _, kit_bb K, _, rfl, iteT ⟨_, rfl, _, rfl, rfl, ?_⟩⟩⟩
          show Q (.bl (decide (V.bl b = V.bl b))) H
          rw [decide_eq_true rfl]
          exact q
        | int b =>
          refine ⟨_, rfl, _, _, _, rfl, TyOf.int _, kit_it K, _, rfl, iteF ⟨_, rfl, _, _, _, rfl, TyOf.int _, kit_il K, _, rfl, iteF ?_⟩⟩
          refine ⟨_, rfl, _, _, _, rfl, TyOf.int _, kit_ib K, _, rfl, iteF ?_⟩
          refine ⟨_, rfl, _, _, _, rfl, TyOf.int _, kit_ii K, _, rfl, iteT ⟨_, rfl, _, _, _, rfl, TyOf.int _, kit_ii K, _, rfl, iteT ⟨_, rfl, _, _, _, rfl, TyOf.int _, kit_ib K, _, rfl, _, rfl, iteT ⟨_, rfl, _, rfl, rfl, ?_⟩⟩⟩⟩
          show Q (.bl (decide (V.int b = V.int b))) H
          rw [decide_eq_true rfl]
          exact q
        | str b =>
          refine ⟨_, rfl, _, _, _, rfl, TyOf.str _, kit_st K, _, rfl, iteF ⟨_, rfl, _, _, _, rfl, TyOf.str _, kit_sl K, _, rfl, iteF ?_⟩⟩
          refine ⟨_, rfl, _, _, _, rfl, TyOf.str _, kit_sb K, _, rfl, iteF ?_⟩
          refine ⟨_, rfl, _, _, _, rfl, TyOf.str _, kit_si K, _, rfl, iteF ?_⟩
          refine ⟨_, rfl, _, _, _, rfl, TyOf.str _, kit_ss K, _, rfl, iteT ⟨_, rfl, _, _, _, rfl, TyOf.str _, kit_ss K, _, rfl, iteT ⟨_, rfl, _, rfl, rfl, ?_⟩⟩⟩
          show Q (.bl (decide (V.str b = V.str b))) H
          rw [decide_eq_true rfl]
          exact q
        | _ => exact absurd (show false = true from hf) Bool.false_ne_true
      · have hseq1 : SqL K H p xs ∨ SqT K H p xs := hpq.elim (fun z => .inr (SqT.of z.1)) (fun z => .inl (SqL.of z.1))
        have hseq2 : SqL K H p2 ys ∨ SqT K H p2 ys := hpq.elim (fun z => .inr (SqT.of z.2)) (fun z => .inl (SqL.of z.2))
        rcases hpq with ⟨hp, hq⟩ | ⟨hp, hq⟩
        · refine ⟨_, rfl, _, _, _, rfl, TyOf.tup hq, (kit_any K).1, _, rfl, iteT (iteT ?_)⟩
          refine ⟨_, rfl, _, _, _, rfl, TyOf.tup hp, (kit_any K).1, _, rfl, _, _, _, rfl, TyOf.tup hq, (kit_any K).1, rfl, _, rfl, iteNS rfl ⟨_, rfl, _, _, _, rfl, TyOf.tup hp, kit_tl K, _, rfl, _, _, _, rfl, TyOf.tup hq, kit_tl K, rfl, _, rfl, iteNS rfl ?_⟩⟩
          refine ⟨_, rfl, p, xs, rfl, hseq1, _, rfl, p2, ys, rfl, hseq2, rfl, _, rfl, iteNS (by rw [hlen]) ?_⟩
          refine ⟨_, rfl, p2, ys, rfl, hseq2, _, rfl, by omega, by omega, ?_⟩
          refine for_range (n := ys.length) (fun i σ H' => ∃ s0, σ = [some (.ref p), some (.ref p2), s0] ∧ H' = H) ⟨none, rfl, rfl⟩ ?_ ?_
          · rintro i σ H1 hi ⟨s0, rfl, rfl⟩
            have hx := List.getElem?_eq_getElem (l := xs) (i := i) (by omega)
            have hy := List.getElem?_eq_getElem (l := ys) (i := i) (by omega)
            have hat1 : atI xs (0 + (i : Int)) = some xs[i] := by rw [Int.zero_add]; exact atI_nat hx
            have hat2 : atI ys (0 + (i : Int)) = some ys[i] := by rw [Int.zero_add]; exact atI_nat hy
            exact ⟨_, rfl, _, rfl, .inr (.inl ⟨p, xs, _, _, rfl, rfl, SqT.of hp, hat1, _, rfl, _, rfl, .inr (.inl ⟨p2, ys, _, _, rfl, rfl, SqT.of hq, hat2, hsp d' _ _ _ _ _ hd (hall i _ _ hx hy) ⟨_, rfl, iteF ⟨_, rfl, rfl⟩⟩⟩)⟩)⟩
          · rintro σ H1 ⟨s0, rfl, rfl⟩
            exact q
        · refine ⟨_, rfl, _, _, _, rfl, TyOf.lst hq, kit_lt K, _, rfl, iteF ⟨_, rfl, _, _, _, rfl, TyOf.lst hq, (kit_any K).2.1, _, rfl, iteT ?_⟩⟩
          refine ⟨_, rfl, _, _, _, rfl, TyOf.lst hp, kit_lt K, _, rfl, _, _, _, rfl, TyOf.lst hq, kit_lt K, rfl, _, rfl, iteNS rfl ⟨_, rfl, _, _, _, rfl, TyOf.lst hp, (kit_any K).2.1, _, rfl, _, _, _, rfl, TyOf.lst hq, (kit_any K).2.1, rfl, _, rfl, iteNS rfl ?_⟩⟩
          refine ⟨_, rfl, p, xs, rfl, hseq1, _, rfl, p2, ys, rfl, hseq2, rfl, _, rfl, iteNS (by rw [hlen]) ?_⟩
          refine ⟨_, rfl, p2, ys, rfl, hseq2, _, rfl, by omega, by omega, ?_⟩
          refine for_range (n := ys.length) (fun i σ H' => ∃ s0, σ = [some (.ref p), some (.ref p2), s0] ∧ H' = H) ⟨none, rfl, rfl⟩ ?_ ?_
          · rintro i σ H1 hi ⟨s0, rfl, rfl⟩
            have hx := List.getElem?_eq_getElem (l := xs) (i := i) (by omega)
            have hy := List.getElem?_eq_getElem (l := ys) (i := i) (by omega)
            have hat1 : atI xs (0 + (i : Int)) = some xs[i] := by rw [Int.zero_add]; exact atI_nat hx
            have hat2 : atI ys (0 + (i : Int)) = some ys[i] := by rw [Int.zero_add]; exact atI_nat hy
            exact ⟨_, rfl, _, rfl, .inl ⟨p, xs, _, _, rfl, rfl, SqL.of hp, hat1, _, rfl, _, rfl, .inl ⟨p2, ys, _, _, rfl, rfl, SqL.of hq, hat2, hsp d' _ _ _ _ _ hd (hall i _ _ hx hy) ⟨_, rfl, iteF ⟨_, rfl, rfl⟩⟩⟩⟩⟩
          · rintro σ H1 ⟨s0, rfl, rfl⟩
            exact q
  have all : ∀ d : Nat, FnOk P w K mg base CX0 (d + 1) f fd ["_law_found", "_law_due"] (sp_same d) := by
    intro d
    induction d with
    | zero => exact step 0 (fun _ _ _ _ => False) ⟨f, fd, hm, F.kp, hbi, ⟨fun _ _ _ _ h => h.elim, fun _ _ _ _ _ _ _ _ _ _ _ _ _ h => h.elim⟩⟩ (fun d' _ _ _ _ _ h => by cases h)
    | succ d ih => exact step (d + 1) (sp_same d) ⟨f, fd, hm, F.kp, hbi, ih⟩ (fun d' x y H Q E h hl q => by cases h; exact ⟨x, y, rfl, hl, q⟩)
  exact all 3
theorem sc__law_kinds : FnScope ["_law_e", "_law_found"] ["_law_e"] (defScope s__law_kinds) := ⟨rfl, rfl, rfl, by decide +kernel, rfl, by decide +kernel, by decide +kernel⟩
set_option maxHeartbeats 4000000 in
theorem ok__law_kinds {f : Addr} {fd : FuncData} (F : Fun K "_law_kinds" "_law_kinds" s__law_kinds f fd) (T : Txt K mg c_RoomError c_NoLetters c_NoWord c_NoNumber c_NoRoom c_NoMachine c_OtherLetters c_TooMany c_NoPattern c_TooGreat c_NoKind) : FnOk P w K mg base CX0 1 f fd ["_law_e"] (sp_kinds41 c_NoWord) := by
  refine F.ok sc__law_kinds (fun vs H Q E h => ?_) (fun cdv A outer s H vs Q E hr h => ?_)
  · obtain ⟨e, rfl, _⟩ := h
    rfl
  · obtain ⟨e, rfl, he, q⟩ := h
    refine ⟨_, (pss_cons ((ps_set (i := 1) sc__law_kinds.nd rfl (Or.inl rfl) (pe_lst pa_nil))) (pss_cons ((ps_if ((pt_val (pe_callB (call_isexc (D := .ref c_NoLetters) (d := .ref c_NoLetters) rfl (fun _ h => h)) (by rfl) T.isinst PyProof.Rows.boot_isinstance (pa_cons (pv 0) (pa_cons (pe_glob (v := .ref c_NoLetters) (by rfl) T.k_NoLetters rfl) pa_nil))))) ((pss_one (ps_expr (pe_bm PySem.F.plainAttrs_list PySem.F.slot_list_append PySem.F.type_list_append mt_append (pv 1) (pa_cons (pe_str) pa_nil))))) (pss_nil))) (pss_cons ((ps_if ((pt_val (pe_callB (call_isexc (D := .ref c_NoWord) (d := .ref c_NoWord) rfl (fun _ h => h)) (by rfl) T.isinst PyProof.Rows.boot_isinstance (pa_cons (pv 0) (pa_cons (pe_glob (v := .ref c_NoWord) (by rfl) T.k_NoWord rfl) pa_nil))))) ((pss_one (ps_expr (pe_bm PySem.F.plainAttrs_list PySem.F.slot_list_append PySem.F.type_list_append mt_append (pv 1) (pa_cons (pe_str) pa_nil))))) (pss_nil))) (pss_cons ((ps_if ((pt_val (pe_callB (call_isexc (D := .ref c_NoNumber) (d := .ref c_NoNumber) rfl (fun _ h => h)) (by rfl) T.isinst PyProof.Rows.boot_isinstance (pa_cons (pv 0) (pa_cons (pe_glob (v := .ref c_NoNumber) (by rfl) T.k_NoNumber rfl) pa_nil))))) ((pss_one (ps_expr (pe_bm PySem.F.plainAttrs_list PySem.F.slot_list_append PySem.F.type_list_append mt_append (pv 1) (pa_cons (pe_str) pa_nil))))) (pss_nil))) (pss_cons ((ps_if ((pt_val (pe_callB (call_isexc (D := .ref c_NoRoom) (d := .ref c_NoRoom) rfl (fun _ h => h)) (by rfl) T.isinst PyProof.Rows.boot_isinstance (pa_cons (pv 0) (pa_cons (pe_glob (v := .ref c_NoRoom) (by rfl) T.k_NoRoom rfl) pa_nil))))) ((pss_one (ps_expr (pe_bm PySem.F.plainAttrs_list PySem.F.slot_list_append PySem.F.type_list_append mt_append (pv 1) (pa_cons (pe_str) pa_nil))))) (pss_nil))) (pss_cons ((ps_if ((pt_val (pe_callB (call_isexc (D := .ref c_NoMachine) (d := .ref c_NoMachine) rfl (fun _ h => h)) (by rfl) T.isinst PyProof.Rows.boot_isinstance (pa_cons (pv 0) (pa_cons (pe_glob (v := .ref c_NoMachine) (by rfl) T.k_NoMachine rfl) pa_nil))))) ((pss_one (ps_expr (pe_bm PySem.F.plainAttrs_list PySem.F.slot_list_append PySem.F.type_list_append mt_append (pv 1) (pa_cons (pe_str) pa_nil))))) (pss_nil))) (pss_cons ((ps_if ((pt_val (pe_callB (call_isexc (D := .ref c_OtherLetters) (d := .ref c_OtherLetters) rfl (fun _ h => h)) (by rfl) T.isinst PyProof.Rows.boot_isinstance (pa_cons (pv 0) (pa_cons (pe_glob (v := .ref c_OtherLetters) (by rfl) T.k_OtherLetters rfl) pa_nil))))) ((pss_one (ps_expr (pe_bm PySem.F.plainAttrs_list PySem.F.slot_list_append PySem.F.type_list_append mt_append (pv 1) (pa_cons (pe_str) pa_nil))))) (pss_nil))) (pss_cons ((ps_if ((pt_val (pe_callB (call_isexc (D := .ref c_TooMany) (d := .ref c_TooMany) rfl (fun _ h => h)) (by rfl) T.isinst PyProof.Rows.boot_isinstance (pa_cons (pv 0) (pa_cons (pe_glob (v := .ref c_TooMany) (by rfl) T.k_TooMany rfl) pa_nil))))) ((pss_one (ps_expr (pe_bm PySem.F.plainAttrs_list PySem.F.slot_list_append PySem.F.type_list_append mt_append (pv 1) (pa_cons (pe_str) pa_nil))))) (pss_nil))) (pss_cons ((ps_if ((pt_val (pe_callB (call_isexc (D := .ref c_NoPattern) (d := .ref c_NoPattern) rfl (fun _ h => h)) (by rfl) T.isinst PyProof.Rows.boot_isinstance (pa_cons (pv 0) (pa_cons (pe_glob (v := .ref c_NoPattern) (by rfl) T.k_NoPattern rfl) pa_nil))))) ((pss_one (ps_expr (pe_bm PySem.F.plainAttrs_list PySem.F.slot_list_append PySem.F.type_list_append mt_append (pv 1) (pa_cons (pe_str) pa_nil))))) (pss_nil))) (pss_cons ((ps_if ((pt_val (pe_callB (call_isexc (D := .ref c_TooGreat) (d := .ref c_TooGreat) rfl (fun _ h => h)) (by rfl) T.isinst PyProof.Rows.boot_isinstance (pa_cons (pv 0) (pa_cons (pe_glob (v := .ref c_TooGreat) (by rfl) T.k_TooGreat rfl) pa_nil))))) ((pss_one (ps_expr (pe_bm PySem.F.plainAttrs_list PySem.F.slot_list_append PySem.F.type_list_append mt_append (pv 1) (pa_cons (pe_str) pa_nil))))) (pss_nil))) (pss_cons ((ps_if ((pt_val (pe_callB (call_isexc (D := .ref c_NoKind) (d := .ref c_NoKind) rfl (fun _ h => h)) (by rfl) T.isinst PyProof.Rows.boot_isinstance (pa_cons (pv 0) (pa_cons (pe_glob (v := .ref c_NoKind) (by rfl) T.k_NoKind rfl) pa_nil))))) ((pss_one (ps_expr (pe_bm PySem.F.plainAttrs_list PySem.F.slot_list_append PySem.F.type_list_append mt_append (pv 1) (pa_cons (pe_str) pa_nil))))) (pss_nil))) (pss_cons ((ps_if (pt_not (pt_val (pe_callB (call_isexc (D := .type "ValueError") (d := .ty "ValueError") rfl (fun _ h => h)) (by rfl) T.isinst PyProof.Rows.boot_isinstance (pa_cons (pv 0) (pa_cons (pe_bltn (v := .ty "ValueError") (by rfl) T.verr boot_verr rfl) pa_nil))))) ((pss_one (ps_expr (pe_bm PySem.F.plainAttrs_list PySem.F.slot_list_append PySem.F.type_list_append mt_append (pv 1) (pa_cons (pe_str) pa_nil))))) (pss_nil))) (pss_one (ps_ret (pv 1))))))))))))))), ?_⟩
    refine ⟨Nat.zero_le _, fun p hp => ?_⟩
    refine ⟨_, rfl, e, _, _, rfl, upd_keep he hp, T.e_NoWord, T.i_NoWord_NoLetters, _, rfl, iteF ?_⟩
    refine ⟨_, rfl, e, _, _, rfl, upd_keep he hp, T.e_NoWord, T.i_NoWord_NoWord, _, rfl, iteT ⟨_, rfl, .inl ⟨rfl, _, SqL.of upd_same⟩, p, _, _, rfl, rfl, upd_same, small1000 (by decide), ?_⟩⟩
    rw [upd_upd]
    refine ⟨_, rfl, e, _, _, rfl, upd_keep he hp, T.e_NoWord, T.i_NoWord_NoNumber, _, rfl, iteF ?_⟩
    refine ⟨_, rfl, e, _, _, rfl, upd_keep he hp, T.e_NoWord, T.i_NoWord_NoRoom, _, rfl, iteF ?_⟩
    refine ⟨_, rfl, e, _, _, rfl, upd_keep he hp, T.e_NoWord, T.i_NoWord_NoMachine, _, rfl, iteF ?_⟩
    refine ⟨_, rfl, e, _, _, rfl, upd_keep he hp, T.e_NoWord, T.i_NoWord_OtherLetters, _, rfl, iteF ?_⟩
    refine ⟨_, rfl, e, _, _, rfl, upd_keep he hp, T.e_NoWord, T.i_NoWord_TooMany, _, rfl, iteF ?_⟩
    refine ⟨_, rfl, e, _, _, rfl, upd_keep he hp, T.e_NoWord, T.i_NoWord_NoPattern, _, rfl, iteF ?_⟩
    refine ⟨_, rfl, e, _, _, rfl, upd_keep he hp, T.e_NoWord, T.i_NoWord_TooGreat, _, rfl, iteF ?_⟩
    refine ⟨_, rfl, e, _, _, rfl, upd_keep he hp, T.e_NoWord, T.i_NoWord_NoKind, _, rfl, iteF ?_⟩
    exact ⟨_, rfl, e, _, _, rfl, upd_keep he hp, T.e_NoWord, T.v_NoWord, _, rfl, iteF ⟨_, rfl, q p _ (Same.upd hp) upd_same⟩⟩
theorem sc__law_foreign : FnScope ["_law_cell", "_law_some"] ["_law_cell"] (defScope s__law_foreign) := ⟨rfl, rfl, rfl, by decide +kernel, rfl, by decide +kernel, by decide +kernel⟩
set_option maxHeartbeats 4000000 in
theorem ok__law_foreign {f : Addr} {fd : FuncData} (F : Fun K "_law_foreign" "_law_foreign" s__law_foreign f fd) (T : Txt K mg c_RoomError c_NoLetters c_NoWord c_NoNumber c_NoRoom c_NoMachine c_OtherLetters c_TooMany c_NoPattern c_TooGreat c_NoKind) : FnOk P w K mg base CX0 1 f fd ["_law_cell"] sp_foreign := by
  refine F.ok sc__law_foreign (fun vs H Q E h => ?_) (fun cdv A outer s H vs Q E hr h => ?_)
  · obtain ⟨z, rfl, _⟩ := h
    rfl
  · obtain ⟨z, rfl, q⟩ := h
    refine ⟨_, (pss_cons ((ps_set (i := 1) sc__law_foreign.nd rfl (Or.inl rfl) (pe_str))) (pss_one (ps_ret (pe_ix ix_str (pv 1) (pe_op op_modG (pv 0) (pe_callB call_len_str (by rfl) T.len PySem.boot_len (pa_cons (pv 1) pa_nil))) (fun _ _ => rfl))))), ?_⟩
    have hl : (tx forL).length = 68 := by rw [tx_len, for_len]
    have hz : (tx forL).length ≤ sizeLine := line_ge (by omega)
    rw [← for_eq] at hz hl
    refine ⟨_, rfl, _, rfl, _, rfl, _, rfl, hz, _, _, rfl, rfl, by rw [hl]; decide, fun r hr0 hr1 => ?_⟩
    rw [hl] at hr1
    obtain ⟨v, hv, hv2⟩ := atI_in (xs := forL) hr0 (by rw [for_len]; exact hr1)
    have hn := for_no v (List.mem_of_getElem? hv2)
    exact ⟨_, _, _, rfl, rfl, hz, by rw [for_eq, tx_cps]; exact hv, q v hn.1 hn.2⟩
theorem sc__law_others : FnScope ["_law_letters_here"] ["_law_letters_here"] (defScope s__law_others) := ⟨rfl, rfl, rfl, by decide +kernel, rfl, by decide +kernel, by decide +kernel⟩
set_option maxHeartbeats 4000000 in
theorem ok__law_others {f : Addr} {fd : FuncData} (F : Fun K "_law_others" "_law_others" s__law_others f fd) (T : Txt K mg c_RoomError c_NoLetters c_NoWord c_NoNumber c_NoRoom c_NoMachine c_OtherLetters c_TooMany c_NoPattern c_TooGreat c_NoKind) : FnOk P w K mg base CX0 1 f fd ["_law_letters_here"] sp_others := by
  refine F.ok sc__law_others (fun vs H Q E h => ?_) (fun cdv A outer s H vs Q E hr h => ?_)
  · obtain ⟨L, rfl, _⟩ := h
    rfl
  · obtain ⟨L, rfl, q⟩ := h
    refine ⟨_, (pss_one (ps_ret (pe_bm PySem.F.plainAttrs_str PySem.F.slot_str_join PySem.F.type_str_join mt_join (pe_str) (pa_cons (pe_comp rfl sc__law_others.nd (pi_str pe_str) (fun cl C fp s' H' => ⟨pts_one (pt_cmpR op_notin_str (pv 0) (pv 1) (by with_unfolding_all rfl)), pv 0⟩)) pa_nil)))), ?_⟩
    have hz : (tx abcL).length ≤ sizeLine := line_ge (by rw [tx_len]; decide)
    have ea : (Str.ofString "abcdefghijklmnopqrstuvwxyz") = tx abcL := abc_eq
    rw [← ea] at hz
    refine ⟨rfl, comp_signsC (fun c => !decide (c ∈ L)) hz ?_ ?_⟩
    · intro i c H' R hc hR
      refine ⟨_, rfl, _, rfl, _, _, rfl, rfl, _, rfl, ?_⟩
      have e := contains_one L c
      unfold Txt.contains at e
      rw [e]
      exact hR
    · intro D hD
      refine ⟨_, D, (othL L).map fun c => (⟨#[c]⟩ : Str), rfl, rfl, SqL.of ?_, ?_, ?_⟩
      · rw [upd_same, ea, tx_cps, List.map_map]
        rfl
      · exact join_size _ (by have := List.length_filter_le (fun c => !decide (c ∈ L)) abcL; have h26 : abcL.length = 26 := by decide
                              unfold othL; omega)
      · rw [empty_eq', join_signs]
        exact q _ (Same.upd hD)
theorem sc__law_no_word : FnScope ["_law_letters_here", "_law_word_here", "_law_script", "_law_k", "_law_at", "_law_cell", "_law_sign", "_law_others_here"] ["_law_letters_here", "_law_word_here", "_law_script", "_law_k"] (defScope s__law_no_word) := ⟨rfl, rfl, rfl, by decide +kernel, rfl, by decide +kernel, by decide +kernel⟩
set_option maxHeartbeats 4000000 in
theorem ok__law_no_word {f : Addr} {fd : FuncData} (F : Fun K "_law_no_word" "_law_no_word" s__law_no_word f fd) (T : Txt K mg c_RoomError c_NoLetters c_NoWord c_NoNumber c_NoRoom c_NoMachine c_OtherLetters c_TooMany c_NoPattern c_TooGreat c_NoKind) (d__law_cell_at : Df P w K mg base "_law_cell_at" 1 ["_law_script", "_law_k"] (sp_cell K)) (d__law_foreign : Df P w K mg base "_law_foreign" 1 ["_law_cell"] sp_foreign) (d__law_others : Df P w K mg base "_law_others" 1 ["_law_letters_here"] sp_others) : FnOk P w K mg base CX0 2 f fd ["_law_letters_here", "_law_word_here", "_law_script", "_law_k"] (sp_noword K) := by
  refine F.ok sc__law_no_word (fun vs H Q E h => ?_) (fun cdv A outer s H vs Q E hr h => ?_)
  · obtain ⟨L, w, a, ns, k, rfl, _⟩ := h
    rfl
  · obtain ⟨L, w, a, ns, k, rfl, hL, hw, hwl, hS, hk, q⟩ := h
    have hr1 := hr.mono (j := 1) (by decide)
    refine ⟨_, (pss_cons ((ps_set (i := 4) sc__law_no_word.nd rfl (Or.inl rfl) (pe_op op_modG (pe_df d__law_cell_at hr1 (pa_cons (pv 2) (pa_cons (pv 3) pa_nil))) (pe_op op_a (pe_callB call_len_str (by rfl) T.len PySem.boot_len (pa_cons (pv 1) pa_nil)) pe_int)))) (pss_cons ((ps_set (i := 5) sc__law_no_word.nd rfl (Or.inl rfl) ((pe_df d__law_cell_at hr1 (pa_cons (pv 2) (pa_cons (pe_op op_a (pv 3) pe_int) pa_nil)))))) (pss_cons ((ps_set (i := 6) sc__law_no_word.nd rfl (Or.inl rfl) ((pe_df d__law_foreign hr1 (pa_cons (pe_op op_f (pv 5) pe_int) pa_nil))))) (pss_cut ((ps_if (pt_cmpR op_eq (pe_op op_m (pv 5) pe_int) pe_int (nomark _)) ((pss_cons ((ps_set (i := 7) sc__law_no_word.nd rfl (Or.inl rfl) ((pe_df d__law_others hr1 (pa_cons (pv 0) pa_nil))))) (pss_one ((ps_set (i := 6) sc__law_no_word.nd rfl (Or.inl rfl) (pe_ix ix_str (pv 7) (pe_op op_modG (pe_op op_f (pv 5) pe_int) (pe_callB call_len_str (by rfl) T.len PySem.boot_len (pa_cons (pv 7) pa_nil))) (fun _ _ => rfl))))))) (pss_nil))) (pss_one (ps_ret (pe_op op_add_str (pe_op op_add_str (pe_slice sl_str (pv 1) po_none (po_some (pv 4))) (pv 6)) (pe_slice sl_str (pv 1) (po_some (pv 4)) po_none)))))))), ?_⟩
    have hsm := sm_in hL hw (by omega)
    have hzw : (tx w).length ≤ sizeLine := line_ge (by rw [tx_len]; omega)
    refine ⟨_, rfl, _, rfl, a, ns, k, rfl, hS, hk, fun z1 => ⟨_, rfl, _, rfl, hzw, _, _, rfl, rfl, _, _, rfl, rfl, by omega, fun at0 ha0 ha1 => ?_⟩⟩
    rw [tx_len] at ha1
    refine ⟨_, rfl, _, rfl, _, _, rfl, rfl, a, ns, _, rfl, hS, by omega, fun z2 => ?_⟩
    refine ⟨_, rfl, _, _, rfl, rfl, ⟨by decide, by decide⟩, _, rfl, fun v0 hv1 hv2 => ?_⟩
    have hv0 : v0 ∉ L := fun h => by have := hL.az v0 h; omega
    refine ⟨fun σ' H' => ∃ v s7, σ' = [some (.str (tx L)), some (.str (tx w)), some (.ref a), some (.int k), some (.int at0), some (.int z2), some (.str ⟨#[v]⟩), s7] ∧ Same H H' ∧ v ∉ L ∧ v < 127, ?_, ?_⟩
    · refine ⟨_, rfl, _, _, rfl, rfl, by decide, rfl, _, rfl, ite3 (fun _ => ?_) (fun _ => ⟨v0, none, rfl, Same.refl H, hv0, hv2⟩)⟩
      have hol := oth_len L
      have hhi := hL.hi
      have hol2 : (othL L).length ≤ 26 := by
        have := List.length_filter_le (fun c => !decide (c ∈ L)) abcL
        have h26 : abcL.length = 26 := by decide
        unfold othL; omega
      have hzo : (tx (othL L)).length ≤ sizeLine := line_ge (by rw [tx_len]; omega)
      refine ⟨_, rfl, L, rfl, fun H1 s1 => ⟨_, rfl, _, rfl, _, _, rfl, rfl, ⟨by decide, by decide⟩, _, rfl, _, rfl, hzo, _, _, rfl, rfl, by rw [tx_len]; omega, fun r h0 h1 => ?_⟩⟩
      obtain ⟨v, hv, hv3⟩ := atI_in (xs := (tx (othL L)).cps.toList) h0 (by rw [tx_cps, ← tx_len]; exact h1)
      rw [tx_cps] at hv3
      have hm := oth_mem (List.mem_of_getElem? hv3)
      exact ⟨_, _, _, rfl, rfl, hzo, hv, v, _, rfl, s1, hm.2, by omega⟩
    rintro σ1 H1 ⟨v, s7, rfl, s1, hvL, hv127⟩
    have et : Txt.slice (tx w) none (some at0) = tx (w.take at0.toNat) := by
      have e := slice_to (tx w) ha0
      rw [tx_cps] at e
      exact e
    have ed : Txt.slice (tx w) (some at0) none = tx (w.drop at0.toNat) := by
      have e := slice_from (tx w) ha0 (by rw [tx_cps]; omega)
      rw [tx_cps] at e
      exact e
    have hlt : (w.take at0.toNat).length ≤ 1000 := by rw [List.length_take]; omega
    have hld : (w.drop at0.toNat).length ≤ 1000 := by rw [List.length_drop]; omega
    refine ⟨_, rfl, _, rfl, _, rfl, _, rfl, hzw, _, rfl, _, _, rfl, rfl, ?_, _, rfl, _, rfl, _, rfl, _, rfl, hzw, _, _, rfl, rfl, ?_, ?_⟩
    · rw [et, tx_len]
      exact line_ge (by show (w.take at0.toNat).length + 1 ≤ _; omega)
    · rw [et, ed, tx_len, show (⟨#[v]⟩ : Str) = tx [v] from rfl, tx_app, tx_len]
      exact line_ge (by rw [List.length_append]; show _ + 1 + _ ≤ _; omega)
    · rw [et, ed, show (⟨#[v]⟩ : Str) = tx [v] from rfl, tx_app, tx_app]
      exact q _ H1 ⟨v, by simp, hvL⟩ (hsm.mid (sm_one (by omega)) (by simp; omega)) s1
theorem sc__law_refusal : FnScope ["_law_machine_here", "_law_word_here", "_law_caught", "_law_e"] ["_law_machine_here", "_law_word_here"] (defScope s__law_refusal) := ⟨rfl, rfl, rfl, by decide +kernel, rfl, by decide +kernel, by decide +kernel⟩
set_option maxHeartbeats 4000000 in
theorem ok__law_refusal {f : Addr} {fd : FuncData} (F : Fun K "_law_refusal" "_law_refusal" s__law_refusal f fd) (T : Txt K mg c_RoomError c_NoLetters c_NoWord c_NoNumber c_NoRoom c_NoMachine c_OtherLetters c_TooMany c_NoPattern c_TooGreat c_NoKind) (d_act_of : DfX P w K mg base "act_of" 5 ["machine", "word"] (sp_actof c_NoWord)) (d__law_kinds : Df P w K mg base "_law_kinds" 1 ["_law_e"] (sp_kinds41 c_NoWord)) : FnOk P w K mg base CX0 6 f fd ["_law_machine_here", "_law_word_here"] sp_refusal41 := by
  refine F.ok sc__law_refusal (fun vs H Q E h => ?_) (fun cdv A outer s H vs Q E hr h => ?_)
  · obtain ⟨m, L, W, B, w, rfl, _⟩ := h
    rfl
  · obtain ⟨m, L, W, B, w, rfl, hM, hMa, hsw, hb, q⟩ := h
    have hr1 := hr.mono (j := 1) (by decide)
    refine ⟨_, (pss_cons ((ps_set (i := 2) sc__law_refusal.nd rfl (Or.inl rfl) (pe_non))) (pss_cut ((ps_tryExp (i := 3) (R := c_RoomError) ⟨rfl, rfl, rfl, sc__law_refusal.nd, rfl, rfl, Or.inl rfl, Or.inl rfl, by rfl, T.k_RoomError, fun v => (pss_one ((ps_set (i := 2) sc__law_refusal.nd rfl (Or.inl rfl) (pv 3)))), by decide⟩ d_act_of hr (pa_cons (pv 0) (pa_cons (pv 1) pa_nil)))) (pss_cons ((ps_if (pt_cmpR op_isN (pv 2) pe_non (nomark _)) ((pss_one (ps_ret (pe_lst pa_nil)))) (pss_nil))) (pss_one (ps_ret (pe_df d__law_kinds hr1 (pa_cons (pv 2) pa_nil))))))), ?_⟩
    refine ⟨fun σ' H' => ∃ e, σ' = [some (.ref m), some (.str (tx w)), some (.ref e), none] ∧ Same H H' ∧ H' e = some (excAt e (.ref c_NoWord)), ?_, ?_⟩
    · refine ⟨_, rfl, _, rfl, m, L, W, B, w, rfl, hM, hMa, hsw, ?_, ?_⟩
      · exact fun _ H1 s1 => ⟨T.m_NoWord, fun e he => ⟨_, rfl, e, rfl, s1.trans (Same.upd he), upd_same⟩⟩
      · exact fun hw => by
          obtain ⟨c, hc, hn⟩ := hb
          exact (hn (hw c hc)).elim
    rintro σ1 H1 ⟨e, rfl, sm, he⟩
    exact ⟨_, rfl, rfl, _, rfl, iteN (fun h => nomatch h) ⟨_, rfl, e, rfl, he, fun p H2 s2 hp => q p H2 (sm.trans s2) hp⟩⟩
theorem sc_law : FnScope ["_law_script", "_law_letters_here", "_law_rooms", "_law_machine_here", "_law_word_here", "_law_times", "_law_cut", "_law_piece"] ["_law_script"] (defScope s_law) := ⟨rfl, rfl, rfl, by decide +kernel, rfl, by decide +kernel, by decide +kernel⟩
set_option maxHeartbeats 4000000 in
theorem ok_law {f : Addr} {fd : FuncData} (F : Fun K "law" "law" s_law f fd) (T : Txt K mg c_RoomError c_NoLetters c_NoWord c_NoNumber c_NoRoom c_NoMachine c_OtherLetters c_TooMany c_NoPattern c_TooGreat c_NoKind) (d__law_cell_at : Df P w K mg base "_law_cell_at" 1 ["_law_script", "_law_k"] (sp_cell K)) (d__law_letters : Df P w K mg base "_law_letters" 1 ["_law_cell"] sp_letters) (d__law_word : Df P w K mg base "_law_word" 1 ["_law_letters_here", "_law_cells"] (sp_word K)) (d__law_machine : Df P w K mg base "_law_machine" 2 ["_law_script", "_law_at", "_law_rooms", "_law_letters_here"] (sp_machine K)) (d__law_same : Df P w K mg base "_law_same" 4 ["_law_found", "_law_due"] (sp_same 3)) (d_act_of : DfX P w K mg base "act_of" 5 ["machine", "word"] (sp_actof c_NoWord)) (d__law_act : Df P w K mg base "_law_act" 2 ["_law_machine_here", "_law_word_here"] sp_lawact) (d__law_refusal : Df P w K mg base "_law_refusal" 6 ["_law_machine_here", "_law_word_here"] sp_refusal41) (d__law_no_word : Df P w K mg base "_law_no_word" 2 ["_law_letters_here", "_law_word_here", "_law_script", "_law_k"] (sp_noword K)) : FnOk P w K mg base CX0 7 f fd ["_law_script"] (spLaw K) := by
  refine F.ok sc_law (fun vs H Q E h => ?_) (fun cdv A outer s H vs Q E hr h => ?_)
  · obtain ⟨a, ns, rfl, _⟩ := h
    rfl
  · obtain ⟨a, ns, rfl, hS, hlen, k⟩ := h
    have hr1 := hr.mono (j := 1) (by decide)
    have hr2 := hr.mono (j := 2) (by decide)
    have hr4 := hr.mono (j := 4) (by decide)
    have hr5 := hr.mono (j := 5) (by decide)
    refine ⟨_, (pss_cons ((ps_set (i := 1) sc_law.nd rfl (Or.inl rfl) ((pe_df d__law_letters hr1 (pa_cons ((pe_df d__law_cell_at hr1 (pa_cons (pv 0) (pa_cons (pe_int) pa_nil)))) pa_nil))))) (pss_cons ((ps_set (i := 2) sc_law.nd rfl (Or.inl rfl) (pe_op op_a pe_int (pe_op op_m (pe_df d__law_cell_at hr1 (pa_cons (pv 0) (pa_cons (pe_int) pa_nil))) pe_int)))) (pss_cons ((ps_set (i := 3) sc_law.nd rfl (Or.inl rfl) ((pe_df d__law_machine hr2 (pa_cons (pe_slice sl_list (pv 0) (po_some pe_int) (po_some pe_int)) (pa_cons (pe_int) (pa_cons (pv 2) (pa_cons (pv 1) pa_nil)))))))) (pss_cons ((ps_set (i := 4) sc_law.nd rfl (Or.inl rfl) ((pe_df d__law_word hr1 (pa_cons (pv 1) (pa_cons (pe_slice sl_list (pv 0) (po_some pe_int) (po_some pe_int)) pa_nil)))))) (pss_cons ((ps_set (i := 5) sc_law.nd rfl (Or.inl rfl) ((pe_df d__law_cell_at hr1 (pa_cons (pv 0) (pa_cons (pe_int) pa_nil)))))) (pss_cut ((ps_if (pt_cmpR op_eq (pe_op op_m (pv 5) pe_int) pe_int (nomark _)) ((pss_one ((ps_set (i := 4) sc_law.nd rfl (Or.inl rfl) (pe_op op_mul_str (pv 4) (pe_op op_a pe_int (pe_op op_m (pe_op op_f (pv 5) pe_int) pe_int))))))) (pss_nil))) (pss_cons ((ps_set (i := 6) sc_law.nd rfl (Or.inl rfl) (pe_op op_modG (pe_df d__law_cell_at hr1 (pa_cons (pv 0) (pa_cons (pe_int) pa_nil))) (pe_op op_a (pe_callB call_len_str (by rfl) T.len PySem.boot_len (pa_cons (pv 4) pa_nil)) pe_int)))) (pss_cons ((ps_for PassesOwn.never rfl (pi_list (pe_lst (pa_cons (pv 4) (pa_cons (pe_slice sl_str (pv 4) po_none (po_some (pv 6))) (pa_cons (pe_slice sl_str (pv 4) (po_some (pv 6)) po_none) pa_nil))))) (pg_name (i := 7) sc_law.nd rfl (Or.inl rfl)) ((pss_one ((ps_if (pt_not (pt_val (pe_df d__law_same hr4 (pa_cons ((pe_dfX d_act_of hr5 passes_no (pa_cons (pv 3) (pa_cons (pv 7) pa_nil)))) (pa_cons ((pe_df d__law_act hr2 (pa_cons (pv 3) (pa_cons (pv 7) pa_nil)))) pa_nil))))) ((pss_one (ps_ret pe_bl))) (pss_nil))))))) (pss_cons ((ps_if (pt_cmpR op_ne (pe_op op_m (pe_op op_f (pv 5) pe_int) pe_int) pe_int (nomark _)) ((pss_one (ps_ret pe_bl))) (pss_nil))) (pss_one (ps_ret (pe_cmpR (op_eqL hr.units0) (pe_df d__law_refusal hr (pa_cons (pv 3) (pa_cons ((pe_df d__law_no_word hr2 (pa_cons (pv 1) (pa_cons (pv 4) (pa_cons (pv 0) (pa_cons (pe_int) pa_nil)))))) pa_nil))) (pe_lst (pa_cons pe_str pa_nil)) (nomark _))))))))))))), ?_⟩
    refine ⟨_, rfl, a, ns, 0, rfl, hS, by decide, fun z0 => ⟨z0, rfl, fun L hL => ?_⟩⟩
    refine ⟨_, rfl, a, ns, 1, rfl, hS, by decide, fun z1 => ⟨_, _, rfl, rfl, by decide, _, _, rfl, rfl, ?_⟩⟩
    obtain ⟨n, en, n1, n2⟩ := ar_room z1 1 8 (by decide)
    have en : (n : Int) = 1 + z1 % 8 := en
    rw [← en]
    have hn60 : n ≤ 60 := Nat.le_trans (Nat.le_of_lt n2) (by decide)
    refine ⟨_, rfl, _, rfl, _, rfl, a, _, rfl, hS, fun p1 hp1 => ⟨_, rfl, _, rfl, p1, cutI ns (some 3) (some 11), 2, n, L, rfl, SqL.of (by rw [upd_same, cutV_ints]), by decide, n1, hn60, hL, fun m W B H1 s1 hM1 hMa hWn => ?_⟩⟩
    have sm1 : Same H H1 := (Same.upd hp1).trans s1
    have hS1 := sm1.seq hS
    refine ⟨_, rfl, _, rfl, _, rfl, _, rfl, a, _, rfl, hS1, fun p2 hp2 => ⟨L, p2, cutI ns (some 11) (some 63), rfl, hL, SqL.of (by rw [upd_same, cutV_ints]), Nat.le_trans (cutI_length _ _ _) hlen, fun w0 H2 hwl0 hwL0 s2 => ?_⟩⟩
    have sm2 : Same H1 H2 := (Same.upd hp2).trans s2
    have hS2 := sm2.seq hS1
    have hM2 := hM1.same sm2
    have hw063 : w0.length ≤ 63 := by rw [hwl0]; exact Nat.le_trans (cutI_length _ _ _) hlen
    refine ⟨_, rfl, a, ns, 2, rfl, hS2, by decide, fun z4 => ?_⟩
    refine ⟨fun σ' H' => ∃ w, σ' = [some (.ref a), some (.str (tx L)), some (.int (n : Int)), some (.ref m), some (.str (tx w)), some (.int z4), none, none] ∧ H' = H2 ∧ (∀ c ∈ w, c ∈ L) ∧ w.length ≤ 1000, ?_, ?_⟩
    · refine ⟨_, rfl, _, _, rfl, rfl, by decide, rfl, _, rfl, ite3 (fun _ => ?_) (fun _ => ?_)⟩
      · have hb : 0 ≤ z4 / 3 % 8 ∧ z4 / 3 % 8 < 8 := by omega
        have hmul : w0.length * (1 + z4 / 3 % 8).toNat ≤ 63 * 8 := Nat.mul_le_mul hw063 (by omega)
        refine ⟨_, rfl, _, rfl, _, _, rfl, rfl, ⟨by decide, by decide⟩, _, _, rfl, rfl, by decide, _, _, rfl, rfl, _, _, rfl, rfl, mulOk (by omega) (by omega) (by rw [tx_len]; omega) (by rw [tx_len]; omega), (List.replicate (1 + z4 / 3 % 8).toNat w0).flatten, ?_, rfl, fun c hc => ?_, ?_⟩
        · rw [← mul_tx w0 (by omega)]
          rfl
        · obtain ⟨l, hl, hcl⟩ := List.mem_flatten.mp hc
          rw [(List.mem_replicate.mp hl).2] at hcl
          exact hwL0 c hcl
        · rw [flat_len]
          rw [Nat.mul_comm]
          omega
      · exact ⟨w0, rfl, rfl, hwL0, Nat.le_trans hw063 (by decide)⟩
    rintro σ2 H3 ⟨w, rfl, rfl, hwL, hwl⟩
    have hzw : (tx w).length ≤ sizeLine := line_ge (by rw [tx_len]; omega)
    refine ⟨_, rfl, a, ns, 3, rfl, hS2, by decide, fun z3 => ⟨_, rfl, _, rfl, hzw, _, _, rfl, rfl, _, _, rfl, rfl, by omega, fun ct hct0 hct1 => ?_⟩⟩
    have ct1 : ct ≤ (w.length : Int) := by rw [tx_len] at hct1; omega
    have et : Txt.slice (tx w) none (some ct) = tx (w.take ct.toNat) := by
      have e := slice_to (tx w) hct0
      rw [tx_cps] at e
      exact e
    have ed : Txt.slice (tx w) (some ct) none = tx (w.drop ct.toNat) := by
      have e := slice_from (tx w) hct0 (by rw [tx_cps]; exact ct1)
      rw [tx_cps] at e
      exact e
    refine ⟨_, rfl, _, rfl, _, rfl, _, rfl, _, rfl, hzw, _, rfl, _, rfl, _, rfl, _, rfl, hzw, line_ge (by show 3 ≤ 16777216; decide), fun ls hls => ?_⟩
    rw [et, ed]
    refine ⟨ls, rfl, ⟨_, SqL.of upd_same⟩, ?_⟩
    refine for_list (K := K) (a := ls) (xs := [.str (tx w), .str (tx (w.take ct.toNat)), .str (tx (w.drop ct.toNat))]) (fun i σ' H' => ∃ s7, σ' = [some (.ref a), some (.str (tx L)), some (.int (n : Int)), some (.ref m), some (.str (tx w)), some (.int z4), some (.int ct), s7] ∧ Same (L2.upd H3 ls (.lst [.str (tx w), .str (tx (w.take ct.toNat)), .str (tx (w.drop ct.toNat))])) H') ⟨none, rfl, Same.refl _⟩ ?_ ?_ ?_
    · rintro i σ' H' hi ⟨s7, rfl, hsm⟩
      exact SqL.of (hsm _ _ upd_same)
    · rintro i x σ' H' hx ⟨s7, rfl, hsm⟩
      obtain ⟨v, rfl, hv, hvl⟩ : ∃ v : List Nat, x = .str (tx v) ∧ (∀ c ∈ v, c ∈ L) ∧ v.length ≤ 1000 := by
        match i, hx with
        | 0, hx => cases hx; exact ⟨w, rfl, hwL, hwl⟩
        | 1, hx => cases hx; exact ⟨_, rfl, fun c hc => hwL c (List.mem_of_mem_take hc), by rw [List.length_take]; omega⟩
        | 2, hx => cases hx; exact ⟨_, rfl, fun c hc => hwL c (List.mem_of_mem_drop hc), by rw [List.length_drop]; omega⟩
        | j + 3, hx => simp at hx
      have hM4 := hM2.same ((Same.upd hls).trans hsm)
      refine ⟨_, rfl, _, rfl, m, L, W, B, v, rfl, hM4, hMa, sm_in hL hv (by omega), fun hb => ?_, fun _ t1 H5 s5 ht1 => ?_⟩
      · obtain ⟨c, hc, hcn⟩ := hb
        exact (hcn (hv c hc)).elim
      refine ⟨_, rfl, _, rfl, m, L, W, B, v, rfl, hM4.same s5, hMa, hv, fun t2 H6 s6 ht2 => ?_⟩
      refine ⟨_, _, rfl, .inr ⟨t1, t2, _, _, rfl, rfl, .inl ⟨s6 _ _ ht1, ht2⟩, rfl, ?_, like_flats (flats_ints _)⟩, _, rfl, iteF ⟨_, rfl, hsm.trans (s5.trans s6)⟩⟩
      rw [intsV_len, actN, List.length_map, List.length_range]
      exact (Nat.le_trans hMa.n60 (by decide))
    · rintro σ' H' ⟨s7, rfl, hsm⟩
      have sm5 := (Same.upd hls).trans hsm
      refine ⟨_, rfl, _, _, rfl, rfl, ⟨by decide, by decide⟩, _, _, rfl, rfl, by decide, rfl, _, rfl, iteB (fun _ => k _) (fun _ => ?_)⟩
      refine ⟨_, rfl, _, rfl, _, rfl, _, rfl, L, w, a, ns, 3, rfl, hL, hwL, hwl, sm5.seq hS2, by decide, fun v H6 hv hsv s6 => ?_⟩
      refine ⟨m, L, W, B, v, rfl, hM2.same (sm5.trans s6), hMa, hsv, hv, fun p H7 s7 hp => ⟨line_ge (by show 1 ≤ 16777216; decide), fun p2 hp2 => ?_⟩⟩
      exact ⟨p, p2, _, rfl, rfl, SqL.of (upd_keep hp hp2), SqL.of upd_same, rfl, k _⟩
end
theorem all_mk {l : PySem.W.OpenLaw} {w : World} {K : PySem.W.Frag} {h : Heap} {mg : Str → Option Value} {fa : Addr} (X : K.In h) (G : h.Ns mainGlobals mg) (hfa : mg "law" = some (.ref fa))
    {f0 : Addr} {od0 an0 : Option Addr} {sl0 : Array (Option Value)} {oc0 kV0 dc0 pm0 cd0 ct0 : Value}
    {f1 : Addr} {od1 an1 : Option Addr} {sl1 : Array (Option Value)} {oc1 kV1 dc1 pm1 cd1 ct1 : Value}
    {f2 : Addr} {od2 an2 : Option Addr} {sl2 : Array (Option Value)} {oc2 kV2 dc2 pm2 cd2 ct2 : Value}
    {f3 : Addr} {od3 an3 : Option Addr} {sl3 : Array (Option Value)} {oc3 kV3 dc3 pm3 cd3 ct3 : Value}
    {f4 : Addr} {od4 an4 : Option Addr} {sl4 : Array (Option Value)} {oc4 kV4 dc4 pm4 cd4 ct4 : Value}
    {f5 : Addr} {od5 an5 : Option Addr} {sl5 : Array (Option Value)} {oc5 kV5 dc5 pm5 cd5 ct5 : Value}
    {f6 : Addr} {od6 an6 : Option Addr} {sl6 : Array (Option Value)} {oc6 kV6 dc6 pm6 cd6 ct6 : Value}
    {f7 : Addr} {od7 an7 : Option Addr} {sl7 : Array (Option Value)} {oc7 kV7 dc7 pm7 cd7 ct7 : Value}
    {f8 : Addr} {od8 an8 : Option Addr} {sl8 : Array (Option Value)} {oc8 kV8 dc8 pm8 cd8 ct8 : Value}
    {f9 : Addr} {od9 an9 : Option Addr} {sl9 : Array (Option Value)} {oc9 kV9 dc9 pm9 cd9 ct9 : Value}
    {f10 : Addr} {od10 an10 : Option Addr} {sl10 : Array (Option Value)} {oc10 kV10 dc10 pm10 cd10 ct10 : Value}
    {f11 : Addr} {od11 an11 : Option Addr} {sl11 : Array (Option Value)} {oc11 kV11 dc11 pm11 cd11 ct11 : Value}
    {f12 : Addr} {od12 an12 : Option Addr} {sl12 : Array (Option Value)} {oc12 kV12 dc12 pm12 cd12 ct12 : Value}
    {f13 : Addr} {od13 an13 : Option Addr} {sl13 : Array (Option Value)} {oc13 kV13 dc13 pm13 cd13 ct13 : Value}
    {f14 : Addr} {od14 an14 : Option Addr} {sl14 : Array (Option Value)} {oc14 kV14 dc14 pm14 cd14 ct14 : Value}
    {f15 : Addr} {od15 an15 : Option Addr} {sl15 : Array (Option Value)} {oc15 kV15 dc15 pm15 cd15 ct15 : Value}
    {f16 : Addr} {od16 an16 : Option Addr} {sl16 : Array (Option Value)} {oc16 kV16 dc16 pm16 cd16 ct16 : Value}
    {f17 : Addr} {od17 an17 : Option Addr} {sl17 : Array (Option Value)} {oc17 kV17 dc17 pm17 cd17 ct17 : Value}
    {f18 : Addr} {od18 an18 : Option Addr} {sl18 : Array (Option Value)} {oc18 kV18 dc18 pm18 cd18 ct18 : Value}
    (a0 : PySem.W.nsIn K mainGlobals "is_whole" = some (some (.ref f0))) (l0 : K.lookup f0 = some ⟨oc0, od0, .func (PySem.W.fnOf "is_whole" "is_whole" (defArgs s_is_whole) (defBody s_is_whole) (defScope s_is_whole) .none kV0 dc0 pm0 an0 cd0 ct0), sl0⟩) (c0 : PySem.W.codeIn K cd0 "is_whole" = true) (k0 : PySem.W.keepIn K (.ref f0) = true)
    (a1 : PySem.W.nsIn K mainGlobals "need_word" = some (some (.ref f1))) (l1 : K.lookup f1 = some ⟨oc1, od1, .func (PySem.W.fnOf "need_word" "need_word" (defArgs s_need_word) (defBody s_need_word) (defScope s_need_word) .none kV1 dc1 pm1 an1 cd1 ct1), sl1⟩) (c1 : PySem.W.codeIn K cd1 "need_word" = true) (k1 : PySem.W.keepIn K (.ref f1) = true)
    (a2 : PySem.W.nsIn K mainGlobals "is_room" = some (some (.ref f2))) (l2 : K.lookup f2 = some ⟨oc2, od2, .func (PySem.W.fnOf "is_room" "is_room" (defArgs s_is_room) (defBody s_is_room) (defScope s_is_room) .none kV2 dc2 pm2 an2 cd2 ct2), sl2⟩) (c2 : PySem.W.codeIn K cd2 "is_room" = true) (k2 : PySem.W.keepIn K (.ref f2) = true)
    (a3 : PySem.W.nsIn K mainGlobals "need_room" = some (some (.ref f3))) (l3 : K.lookup f3 = some ⟨oc3, od3, .func (PySem.W.fnOf "need_room" "need_room" (defArgs s_need_room) (defBody s_need_room) (defScope s_need_room) .none kV3 dc3 pm3 an3 cd3 ct3), sl3⟩) (c3 : PySem.W.codeIn K cd3 "need_room" = true) (k3 : PySem.W.keepIn K (.ref f3) = true)
    (a4 : PySem.W.nsIn K mainGlobals "room_after" = some (some (.ref f4))) (l4 : K.lookup f4 = some ⟨oc4, od4, .func (PySem.W.fnOf "room_after" "room_after" (defArgs s_room_after) (defBody s_room_after) (defScope s_room_after) .none kV4 dc4 pm4 an4 cd4 ct4), sl4⟩) (c4 : PySem.W.codeIn K cd4 "room_after" = true) (k4 : PySem.W.keepIn K (.ref f4) = true)
    (a5 : PySem.W.nsIn K mainGlobals "act_of" = some (some (.ref f5))) (l5 : K.lookup f5 = some ⟨oc5, od5, .func (PySem.W.fnOf "act_of" "act_of" (defArgs s_act_of) (defBody s_act_of) (defScope s_act_of) .none kV5 dc5 pm5 an5 cd5 ct5), sl5⟩) (c5 : PySem.W.codeIn K cd5 "act_of" = true) (k5 : PySem.W.keepIn K (.ref f5) = true)
    (a6 : PySem.W.nsIn K mainGlobals "_law_cell_at" = some (some (.ref f6))) (l6 : K.lookup f6 = some ⟨oc6, od6, .func (PySem.W.fnOf "_law_cell_at" "_law_cell_at" (defArgs s__law_cell_at) (defBody s__law_cell_at) (defScope s__law_cell_at) .none kV6 dc6 pm6 an6 cd6 ct6), sl6⟩) (c6 : PySem.W.codeIn K cd6 "_law_cell_at" = true) (k6 : PySem.W.keepIn K (.ref f6) = true)
    (a7 : PySem.W.nsIn K mainGlobals "_law_letters" = some (some (.ref f7))) (l7 : K.lookup f7 = some ⟨oc7, od7, .func (PySem.W.fnOf "_law_letters" "_law_letters" (defArgs s__law_letters) (defBody s__law_letters) (defScope s__law_letters) .none kV7 dc7 pm7 an7 cd7 ct7), sl7⟩) (c7 : PySem.W.codeIn K cd7 "_law_letters" = true) (k7 : PySem.W.keepIn K (.ref f7) = true)
    (a8 : PySem.W.nsIn K mainGlobals "_law_word" = some (some (.ref f8))) (l8 : K.lookup f8 = some ⟨oc8, od8, .func (PySem.W.fnOf "_law_word" "_law_word" (defArgs s__law_word) (defBody s__law_word) (defScope s__law_word) .none kV8 dc8 pm8 an8 cd8 ct8), sl8⟩) (c8 : PySem.W.codeIn K cd8 "_law_word" = true) (k8 : PySem.W.keepIn K (.ref f8) = true)
    (a9 : PySem.W.nsIn K mainGlobals "_law_machine" = some (some (.ref f9))) (l9 : K.lookup f9 = some ⟨oc9, od9, .func (PySem.W.fnOf "_law_machine" "_law_machine" (defArgs s__law_machine) (defBody s__law_machine) (defScope s__law_machine) .none kV9 dc9 pm9 an9 cd9 ct9), sl9⟩) (c9 : PySem.W.codeIn K cd9 "_law_machine" = true) (k9 : PySem.W.keepIn K (.ref f9) = true)
    (a10 : PySem.W.nsIn K mainGlobals "_law_after" = some (some (.ref f10))) (l10 : K.lookup f10 = some ⟨oc10, od10, .func (PySem.W.fnOf "_law_after" "_law_after" (defArgs s__law_after) (defBody s__law_after) (defScope s__law_after) .none kV10 dc10 pm10 an10 cd10 ct10), sl10⟩) (c10 : PySem.W.codeIn K cd10 "_law_after" = true) (k10 : PySem.W.keepIn K (.ref f10) = true)
    (a11 : PySem.W.nsIn K mainGlobals "_law_act" = some (some (.ref f11))) (l11 : K.lookup f11 = some ⟨oc11, od11, .func (PySem.W.fnOf "_law_act" "_law_act" (defArgs s__law_act) (defBody s__law_act) (defScope s__law_act) .none kV11 dc11 pm11 an11 cd11 ct11), sl11⟩) (c11 : PySem.W.codeIn K cd11 "_law_act" = true) (k11 : PySem.W.keepIn K (.ref f11) = true)
    (a12 : PySem.W.nsIn K mainGlobals "_law_same" = some (some (.ref f12))) (l12 : K.lookup f12 = some ⟨oc12, od12, .func (PySem.W.fnOf "_law_same" "_law_same" (defArgs s__law_same) (defBody s__law_same) (defScope s__law_same) .none kV12 dc12 pm12 an12 cd12 ct12), sl12⟩) (c12 : PySem.W.codeIn K cd12 "_law_same" = true) (k12 : PySem.W.keepIn K (.ref f12) = true)
    (a13 : PySem.W.nsIn K mainGlobals "_law_kinds" = some (some (.ref f13))) (l13 : K.lookup f13 = some ⟨oc13, od13, .func (PySem.W.fnOf "_law_kinds" "_law_kinds" (defArgs s__law_kinds) (defBody s__law_kinds) (defScope s__law_kinds) .none kV13 dc13 pm13 an13 cd13 ct13), sl13⟩) (c13 : PySem.W.codeIn K cd13 "_law_kinds" = true) (k13 : PySem.W.keepIn K (.ref f13) = true)
    (a14 : PySem.W.nsIn K mainGlobals "_law_foreign" = some (some (.ref f14))) (l14 : K.lookup f14 = some ⟨oc14, od14, .func (PySem.W.fnOf "_law_foreign" "_law_foreign" (defArgs s__law_foreign) (defBody s__law_foreign) (defScope s__law_foreign) .none kV14 dc14 pm14 an14 cd14 ct14), sl14⟩) (c14 : PySem.W.codeIn K cd14 "_law_foreign" = true) (k14 : PySem.W.keepIn K (.ref f14) = true)
    (a15 : PySem.W.nsIn K mainGlobals "_law_others" = some (some (.ref f15))) (l15 : K.lookup f15 = some ⟨oc15, od15, .func (PySem.W.fnOf "_law_others" "_law_others" (defArgs s__law_others) (defBody s__law_others) (defScope s__law_others) .none kV15 dc15 pm15 an15 cd15 ct15), sl15⟩) (c15 : PySem.W.codeIn K cd15 "_law_others" = true) (k15 : PySem.W.keepIn K (.ref f15) = true)
    (a16 : PySem.W.nsIn K mainGlobals "_law_no_word" = some (some (.ref f16))) (l16 : K.lookup f16 = some ⟨oc16, od16, .func (PySem.W.fnOf "_law_no_word" "_law_no_word" (defArgs s__law_no_word) (defBody s__law_no_word) (defScope s__law_no_word) .none kV16 dc16 pm16 an16 cd16 ct16), sl16⟩) (c16 : PySem.W.codeIn K cd16 "_law_no_word" = true) (k16 : PySem.W.keepIn K (.ref f16) = true)
    (a17 : PySem.W.nsIn K mainGlobals "_law_refusal" = some (some (.ref f17))) (l17 : K.lookup f17 = some ⟨oc17, od17, .func (PySem.W.fnOf "_law_refusal" "_law_refusal" (defArgs s__law_refusal) (defBody s__law_refusal) (defScope s__law_refusal) .none kV17 dc17 pm17 an17 cd17 ct17), sl17⟩) (c17 : PySem.W.codeIn K cd17 "_law_refusal" = true) (k17 : PySem.W.keepIn K (.ref f17) = true)
    (a18 : PySem.W.nsIn K mainGlobals "law" = some (some (.ref f18))) (l18 : K.lookup f18 = some ⟨oc18, od18, .func (PySem.W.fnOf "law" "law" (defArgs s_law) (defBody s_law) (defScope s_law) .none kV18 dc18 pm18 an18 cd18 ct18), sl18⟩) (c18 : PySem.W.codeIn K cd18 "law" = true) (k18 : PySem.W.keepIn K (.ref f18) = true)
    (z_len : PySem.W.nsIn K mainGlobals "len" = some none)
    (z_range : PySem.W.nsIn K mainGlobals "range" = some none)
    (z_isinst : PySem.W.nsIn K mainGlobals "isinstance" = some none)
    (z_int : PySem.W.nsIn K mainGlobals "int" = some none)
    (z_bool : PySem.W.nsIn K mainGlobals "bool" = some none)
    (z_tuple : PySem.W.nsIn K mainGlobals "tuple" = some none)
    (z_list : PySem.W.nsIn K mainGlobals "list" = some none)
    (z_str : PySem.W.nsIn K mainGlobals "str" = some none)
    (z_verr : PySem.W.nsIn K mainGlobals "ValueError" = some none)
    {c_RoomError : Addr} (n_RoomError : PySem.W.nsIn K mainGlobals "RoomError" = some (some (.ref c_RoomError)))
    {c_NoLetters : Addr} (n_NoLetters : PySem.W.nsIn K mainGlobals "NoLetters" = some (some (.ref c_NoLetters)))
    {c_NoWord : Addr} (n_NoWord : PySem.W.nsIn K mainGlobals "NoWord" = some (some (.ref c_NoWord)))
    {c_NoNumber : Addr} (n_NoNumber : PySem.W.nsIn K mainGlobals "NoNumber" = some (some (.ref c_NoNumber)))
    {c_NoRoom : Addr} (n_NoRoom : PySem.W.nsIn K mainGlobals "NoRoom" = some (some (.ref c_NoRoom)))
    {c_NoMachine : Addr} (n_NoMachine : PySem.W.nsIn K mainGlobals "NoMachine" = some (some (.ref c_NoMachine)))
    {c_OtherLetters : Addr} (n_OtherLetters : PySem.W.nsIn K mainGlobals "OtherLetters" = some (some (.ref c_OtherLetters)))
    {c_TooMany : Addr} (n_TooMany : PySem.W.nsIn K mainGlobals "TooMany" = some (some (.ref c_TooMany)))
    {c_NoPattern : Addr} (n_NoPattern : PySem.W.nsIn K mainGlobals "NoPattern" = some (some (.ref c_NoPattern)))
    {c_TooGreat : Addr} (n_TooGreat : PySem.W.nsIn K mainGlobals "TooGreat" = some (some (.ref c_TooGreat)))
    {c_NoKind : Addr} (n_NoKind : PySem.W.nsIn K mainGlobals "NoKind" = some (some (.ref c_NoKind)))
    (o_NoRoom : OwnX K c_NoRoom) (e_NoRoom : ExcCls K c_NoRoom) (m_NoRoom : PySem.W.exmOne K (.ref c_NoRoom) (.ref c_RoomError) = some true)
    (i_NoRoom_NoLetters : PySem.W.kitOne K (.ref c_NoRoom) (.ref c_NoLetters) = some false)
    (i_NoRoom_NoWord : PySem.W.kitOne K (.ref c_NoRoom) (.ref c_NoWord) = some false)
    (i_NoRoom_NoNumber : PySem.W.kitOne K (.ref c_NoRoom) (.ref c_NoNumber) = some false)
    (i_NoRoom_NoRoom : PySem.W.kitOne K (.ref c_NoRoom) (.ref c_NoRoom) = some true)
    (i_NoRoom_NoMachine : PySem.W.kitOne K (.ref c_NoRoom) (.ref c_NoMachine) = some false)
    (i_NoRoom_OtherLetters : PySem.W.kitOne K (.ref c_NoRoom) (.ref c_OtherLetters) = some false)
    (i_NoRoom_TooMany : PySem.W.kitOne K (.ref c_NoRoom) (.ref c_TooMany) = some false)
    (i_NoRoom_NoPattern : PySem.W.kitOne K (.ref c_NoRoom) (.ref c_NoPattern) = some false)
    (i_NoRoom_TooGreat : PySem.W.kitOne K (.ref c_NoRoom) (.ref c_TooGreat) = some false)
    (i_NoRoom_NoKind : PySem.W.kitOne K (.ref c_NoRoom) (.ref c_NoKind) = some false)
    (v_NoRoom : PySem.W.kitOne K (.ref c_NoRoom) (.type "ValueError") = some true)
    (o_NoWord : OwnX K c_NoWord) (e_NoWord : ExcCls K c_NoWord) (m_NoWord : PySem.W.exmOne K (.ref c_NoWord) (.ref c_RoomError) = some true)
    (i_NoWord_NoLetters : PySem.W.kitOne K (.ref c_NoWord) (.ref c_NoLetters) = some false)
    (i_NoWord_NoWord : PySem.W.kitOne K (.ref c_NoWord) (.ref c_NoWord) = some true)
    (i_NoWord_NoNumber : PySem.W.kitOne K (.ref c_NoWord) (.ref c_NoNumber) = some false)
    (i_NoWord_NoRoom : PySem.W.kitOne K (.ref c_NoWord) (.ref c_NoRoom) = some false)
    (i_NoWord_NoMachine : PySem.W.kitOne K (.ref c_NoWord) (.ref c_NoMachine) = some false)
    (i_NoWord_OtherLetters : PySem.W.kitOne K (.ref c_NoWord) (.ref c_OtherLetters) = some false)
    (i_NoWord_TooMany : PySem.W.kitOne K (.ref c_NoWord) (.ref c_TooMany) = some false)
    (i_NoWord_NoPattern : PySem.W.kitOne K (.ref c_NoWord) (.ref c_NoPattern) = some false)
    (i_NoWord_TooGreat : PySem.W.kitOne K (.ref c_NoWord) (.ref c_TooGreat) = some false)
    (i_NoWord_NoKind : PySem.W.kitOne K (.ref c_NoWord) (.ref c_NoKind) = some false)
    (v_NoWord : PySem.W.kitOne K (.ref c_NoWord) (.type "ValueError") = some true)
    : ∃ fd : FuncData, (∀ (s : Shared) (v : Value), BindsTo s fd ⟨[v], []⟩ [("_law_script", v)]) ∧ ∀ base : Heap, K.In base → base.Ns mainGlobals mg → FnOk l.prog w K mg base CX0 7 fa fd ["_law_script"] (spLaw K) := by
  have e := hfa.symm.trans (PySem.W.mg_of X G a18)
  cases e
  have T : Txt K mg c_RoomError c_NoLetters c_NoWord c_NoNumber c_NoRoom c_NoMachine c_OtherLetters c_TooMany c_NoPattern c_TooGreat c_NoKind := ⟨PySem.W.mg_of X G n_RoomError, PySem.W.mg_of X G n_NoLetters, PySem.W.mg_of X G n_NoWord, PySem.W.mg_of X G n_NoNumber, PySem.W.mg_of X G n_NoRoom, PySem.W.mg_of X G n_NoMachine, PySem.W.mg_of X G n_OtherLetters, PySem.W.mg_of X G n_TooMany, PySem.W.mg_of X G n_NoPattern, PySem.W.mg_of X G n_TooGreat, PySem.W.mg_of X G n_NoKind, o_NoRoom, e_NoRoom, m_NoRoom, i_NoRoom_NoLetters, i_NoRoom_NoWord, i_NoRoom_NoNumber, i_NoRoom_NoRoom, i_NoRoom_NoMachine, i_NoRoom_OtherLetters, i_NoRoom_TooMany, i_NoRoom_NoPattern, i_NoRoom_TooGreat, i_NoRoom_NoKind, v_NoRoom, o_NoWord, e_NoWord, m_NoWord, i_NoWord_NoLetters, i_NoWord_NoWord, i_NoWord_NoNumber, i_NoWord_NoRoom, i_NoWord_NoMachine, i_NoWord_OtherLetters, i_NoWord_TooMany, i_NoWord_NoPattern, i_NoWord_TooGreat, i_NoWord_NoKind, v_NoWord, PySem.W.mg_none_of X G z_len, PySem.W.mg_none_of X G z_range, PySem.W.mg_none_of X G z_isinst, PySem.W.mg_none_of X G z_int, PySem.W.mg_none_of X G z_bool, PySem.W.mg_none_of X G z_tuple, PySem.W.mg_none_of X G z_list, PySem.W.mg_none_of X G z_str, PySem.W.mg_none_of X G z_verr⟩
  have F0 := fun_mk (st := s_is_whole) l0 c0 k0
  have F1 := fun_mk (st := s_need_word) l1 c1 k1
  have F2 := fun_mk (st := s_is_room) l2 c2 k2
  have F3 := fun_mk (st := s_need_room) l3 c3 k3
  have F4 := fun_mk (st := s_room_after) l4 c4 k4
  have F5 := fun_mk (st := s_act_of) l5 c5 k5
  have F6 := fun_mk (st := s__law_cell_at) l6 c6 k6
  have F7 := fun_mk (st := s__law_letters) l7 c7 k7
  have F8 := fun_mk (st := s__law_word) l8 c8 k8
  have F9 := fun_mk (st := s__law_machine) l9 c9 k9
  have F10 := fun_mk (st := s__law_after) l10 c10 k10
  have F11 := fun_mk (st := s__law_act) l11 c11 k11
  have F12 := fun_mk (st := s__law_same) l12 c12 k12
  have F13 := fun_mk (st := s__law_kinds) l13 c13 k13
  have F14 := fun_mk (st := s__law_foreign) l14 c14 k14
  have F15 := fun_mk (st := s__law_others) l15 c15 k15
  have F16 := fun_mk (st := s__law_no_word) l16 c16 k16
  have F17 := fun_mk (st := s__law_refusal) l17 c17 k17
  have F18 := fun_mk (st := s_law) l18 c18 k18
  refine ⟨PySem.W.fnOf "law" "law" (defArgs s_law) (defBody s_law) (defScope s_law) .none kV18 dc18 pm18 an18 cd18 ct18, fun s v => .of_eq rfl, fun base _ _ => ?_⟩
  have d_is_whole : Df l.prog w K mg base "is_whole" 1 ["value"] sp_is_whole := ⟨f0, _, PySem.W.mg_of X G a0, k0, F0.binds (ps := ["value"]) (fun _ _ _ _ _ _ us hl => by obtain ⟨_, rfl⟩ := len1 hl; rfl), ok_is_whole F0 T ⟩
  have d_need_word : DfX l.prog w K mg base "need_word" 1 ["letters", "word"] (sp_needwordX c_NoWord) := ⟨f1, _, PySem.W.mg_of X G a1, k1, F1.binds (ps := ["letters", "word"]) (fun _ _ _ _ _ _ us hl => by obtain ⟨_, _, rfl⟩ := len2 hl; rfl), ok_need_word F1 T ⟩
  have d_is_room : Df l.prog w K mg base "is_room" 2 ["number", "many"] sp_isroom2 := ⟨f2, _, PySem.W.mg_of X G a2, k2, F2.binds (ps := ["number", "many"]) (fun _ _ _ _ _ _ us hl => by obtain ⟨_, _, rfl⟩ := len2 hl; rfl), ok_is_room F2 T d_is_whole⟩
  have d_need_room : DfX l.prog w K mg base "need_room" 3 ["machine", "number"] (sp_needroomX c_NoRoom) := ⟨f3, _, PySem.W.mg_of X G a3, k3, F3.binds (ps := ["machine", "number"]) (fun _ _ _ _ _ _ us hl => by obtain ⟨_, _, rfl⟩ := len2 hl; rfl), ok_need_room F3 T d_is_room⟩
  have d_room_after : DfX l.prog w K mg base "room_after" 4 ["machine", "room", "word"] (sp_roomafterX c_NoRoom c_NoWord) := ⟨f4, _, PySem.W.mg_of X G a4, k4, F4.binds (ps := ["machine", "room", "word"]) (fun _ _ _ _ _ _ us hl => by obtain ⟨_, _, _, rfl⟩ := len3 hl; rfl), ok_room_after F4 T d_need_room d_need_word⟩
  have d_act_of : DfX l.prog w K mg base "act_of" 5 ["machine", "word"] (sp_actof c_NoWord) := ⟨f5, _, PySem.W.mg_of X G a5, k5, F5.binds (ps := ["machine", "word"]) (fun _ _ _ _ _ _ us hl => by obtain ⟨_, _, rfl⟩ := len2 hl; rfl), ok_act_of F5 T d_room_after⟩
  have d__law_cell_at : Df l.prog w K mg base "_law_cell_at" 1 ["_law_script", "_law_k"] (sp_cell K) := ⟨f6, _, PySem.W.mg_of X G a6, k6, F6.binds (ps := ["_law_script", "_law_k"]) (fun _ _ _ _ _ _ us hl => by obtain ⟨_, _, rfl⟩ := len2 hl; rfl), ok__law_cell_at F6 T ⟩
  have d__law_letters : Df l.prog w K mg base "_law_letters" 1 ["_law_cell"] sp_letters := ⟨f7, _, PySem.W.mg_of X G a7, k7, F7.binds (ps := ["_law_cell"]) (fun _ _ _ _ _ _ us hl => by obtain ⟨_, rfl⟩ := len1 hl; rfl), ok__law_letters F7 T ⟩
  have d__law_word : Df l.prog w K mg base "_law_word" 1 ["_law_letters_here", "_law_cells"] (sp_word K) := ⟨f8, _, PySem.W.mg_of X G a8, k8, F8.binds (ps := ["_law_letters_here", "_law_cells"]) (fun _ _ _ _ _ _ us hl => by obtain ⟨_, _, rfl⟩ := len2 hl; rfl), ok__law_word F8 T ⟩
  have d__law_machine : Df l.prog w K mg base "_law_machine" 2 ["_law_script", "_law_at", "_law_rooms", "_law_letters_here"] (sp_machine K) := ⟨f9, _, PySem.W.mg_of X G a9, k9, F9.binds (ps := ["_law_script", "_law_at", "_law_rooms", "_law_letters_here"]) (fun _ _ _ _ _ _ us hl => by obtain ⟨_, _, _, _, rfl⟩ := len4 hl; rfl), ok__law_machine F9 T d__law_cell_at⟩
  have d__law_after : Df l.prog w K mg base "_law_after" 1 ["_law_machine_here", "_law_room", "_law_word_here"] sp_after := ⟨f10, _, PySem.W.mg_of X G a10, k10, F10.binds (ps := ["_law_machine_here", "_law_room", "_law_word_here"]) (fun _ _ _ _ _ _ us hl => by obtain ⟨_, _, _, rfl⟩ := len3 hl; rfl), ok__law_after F10 T ⟩
  have d__law_act : Df l.prog w K mg base "_law_act" 2 ["_law_machine_here", "_law_word_here"] sp_lawact := ⟨f11, _, PySem.W.mg_of X G a11, k11, F11.binds (ps := ["_law_machine_here", "_law_word_here"]) (fun _ _ _ _ _ _ us hl => by obtain ⟨_, _, rfl⟩ := len2 hl; rfl), ok__law_act F11 T d__law_after⟩
  have d__law_same : Df l.prog w K mg base "_law_same" 4 ["_law_found", "_law_due"] (sp_same 3) := ⟨f12, _, PySem.W.mg_of X G a12, k12, F12.binds (ps := ["_law_found", "_law_due"]) (fun _ _ _ _ _ _ us hl => by obtain ⟨_, _, rfl⟩ := len2 hl; rfl), ok__law_same F12 T  (PySem.W.mg_of X G a12) (F12.binds (ps := ["_law_found", "_law_due"]) (fun _ _ _ _ _ _ us hl => match us, hl with | [_, _], _ => rfl))⟩
  have d__law_kinds : Df l.prog w K mg base "_law_kinds" 1 ["_law_e"] (sp_kinds41 c_NoWord) := ⟨f13, _, PySem.W.mg_of X G a13, k13, F13.binds (ps := ["_law_e"]) (fun _ _ _ _ _ _ us hl => by obtain ⟨_, rfl⟩ := len1 hl; rfl), ok__law_kinds F13 T ⟩
  have d__law_foreign : Df l.prog w K mg base "_law_foreign" 1 ["_law_cell"] sp_foreign := ⟨f14, _, PySem.W.mg_of X G a14, k14, F14.binds (ps := ["_law_cell"]) (fun _ _ _ _ _ _ us hl => by obtain ⟨_, rfl⟩ := len1 hl; rfl), ok__law_foreign F14 T ⟩
  have d__law_others : Df l.prog w K mg base "_law_others" 1 ["_law_letters_here"] sp_others := ⟨f15, _, PySem.W.mg_of X G a15, k15, F15.binds (ps := ["_law_letters_here"]) (fun _ _ _ _ _ _ us hl => by obtain ⟨_, rfl⟩ := len1 hl; rfl), ok__law_others F15 T ⟩
  have d__law_no_word : Df l.prog w K mg base "_law_no_word" 2 ["_law_letters_here", "_law_word_here", "_law_script", "_law_k"] (sp_noword K) := ⟨f16, _, PySem.W.mg_of X G a16, k16, F16.binds (ps := ["_law_letters_here", "_law_word_here", "_law_script", "_law_k"]) (fun _ _ _ _ _ _ us hl => by obtain ⟨_, _, _, _, rfl⟩ := len4 hl; rfl), ok__law_no_word F16 T d__law_cell_at d__law_foreign d__law_others⟩
  have d__law_refusal : Df l.prog w K mg base "_law_refusal" 6 ["_law_machine_here", "_law_word_here"] sp_refusal41 := ⟨f17, _, PySem.W.mg_of X G a17, k17, F17.binds (ps := ["_law_machine_here", "_law_word_here"]) (fun _ _ _ _ _ _ us hl => by obtain ⟨_, _, rfl⟩ := len2 hl; rfl), ok__law_refusal F17 T d_act_of d__law_kinds⟩
  exact ok_law F18 T d__law_cell_at d__law_letters d__law_word d__law_machine d__law_same d_act_of d__law_act d__law_refusal d__law_no_word
end K41
open PySem PySem.W PyProof.Rows
set_option maxRecDepth 100000 in
set_option maxHeartbeats 0 in
theorem PySem.Challenge.cw_roomalgebra_k41_what_a_word_does_holds : PySem.Challenge.rw_roomalgebra_k41_what_a_word_does.Holds := by
  w_on; o_law; z_head; (case hw => w_witness2)
  k_fill
  intro w sa sb mg mb G ye fa ob pm cd dc dv kv e1 e2 e3 e4 e5 e6 gs vs bs La c1 c2 c3 c4 c5
  z_open ye La KX ZH ZN ZT
  clear ye La ZH ZN ZT
  refine L2.walk63z (k := 7) (x := "_law_script") (l := PySem.Challenge.rw_roomalgebra_k41_what_a_word_does) rfl rfl ⟨rfl, by decide, by decide⟩ ?F w sa sb mg mb G KX fa ob pm cd dc dv kv e1 e2 e3 e4 e5 e6 gs vs bs c1 c2 c3 c4 c5
  case F =>
    intro w mg fa h KX G hmg
    refine' K41.all_mk KX G hmg ?a0 ?l0 ?c0 ?k0 ?a1 ?l1 ?c1 ?k1 ?a2 ?l2 ?c2 ?k2 ?a3 ?l3 ?c3 ?k3 ?a4 ?l4 ?c4 ?k4 ?a5 ?l5 ?c5 ?k5 ?a6 ?l6 ?c6 ?k6 ?a7 ?l7 ?c7 ?k7 ?a8 ?l8 ?c8 ?k8 ?a9 ?l9 ?c9 ?k9 ?a10 ?l10 ?c10 ?k10 ?a11 ?l11 ?c11 ?k11 ?a12 ?l12 ?c12 ?k12 ?a13 ?l13 ?c13 ?k13 ?a14 ?l14 ?c14 ?k14 ?a15 ?l15 ?c15 ?k15 ?a16 ?l16 ?c16 ?k16 ?a17 ?l17 ?c17 ?k17 ?a18 ?l18 ?c18 ?k18 ?z_len ?z_range ?z_isinst ?z_int ?z_bool ?z_tuple ?z_list ?z_str ?z_verr ?n_RoomError ?n_NoLetters ?n_NoWord ?n_NoNumber ?n_NoRoom ?n_NoMachine ?n_OtherLetters ?n_TooMany ?n_NoPattern ?n_TooGreat ?n_NoKind ?o_NoRoom ?e_NoRoom ?m_NoRoom ?i_NoRoom_NoLetters ?i_NoRoom_NoWord ?i_NoRoom_NoNumber ?i_NoRoom_NoRoom ?i_NoRoom_NoMachine ?i_NoRoom_OtherLetters ?i_NoRoom_TooMany ?i_NoRoom_NoPattern ?i_NoRoom_TooGreat ?i_NoRoom_NoKind ?v_NoRoom ?o_NoWord ?e_NoWord ?m_NoWord ?i_NoWord_NoLetters ?i_NoWord_NoWord ?i_NoWord_NoNumber ?i_NoWord_NoRoom ?i_NoWord_NoMachine ?i_NoWord_OtherLetters ?i_NoWord_TooMany ?i_NoWord_NoPattern ?i_NoWord_TooGreat ?i_NoWord_NoKind ?v_NoWord
    (case a0 => k_is); (case l0 => k_is); (case c0 => k_is); (case k0 => k_is)
    (case a1 => k_is); (case l1 => k_is); (case c1 => k_is); (case k1 => k_is)
    (case a2 => k_is); (case l2 => k_is); (case c2 => k_is); (case k2 => k_is)
    (case a3 => k_is); (case l3 => k_is); (case c3 => k_is); (case k3 => k_is)
    (case a4 => k_is); (case l4 => k_is); (case c4 => k_is); (case k4 => k_is)
    (case a5 => k_is); (case l5 => k_is); (case c5 => k_is); (case k5 => k_is)
    (case a6 => k_is); (case l6 => k_is); (case c6 => k_is); (case k6 => k_is)
    (case a7 => k_is); (case l7 => k_is); (case c7 => k_is); (case k7 => k_is)
    (case a8 => k_is); (case l8 => k_is); (case c8 => k_is); (case k8 => k_is)
    (case a9 => k_is); (case l9 => k_is); (case c9 => k_is); (case k9 => k_is)
    (case a10 => k_is); (case l10 => k_is); (case c10 => k_is); (case k10 => k_is)
    (case a11 => k_is); (case l11 => k_is); (case c11 => k_is); (case k11 => k_is)
    (case a12 => k_is); (case l12 => k_is); (case c12 => k_is); (case k12 => k_is)
    (case a13 => k_is); (case l13 => k_is); (case c13 => k_is); (case k13 => k_is)
    (case a14 => k_is); (case l14 => k_is); (case c14 => k_is); (case k14 => k_is)
    (case a15 => k_is); (case l15 => k_is); (case c15 => k_is); (case k15 => k_is)
    (case a16 => k_is); (case l16 => k_is); (case c16 => k_is); (case k16 => k_is)
    (case a17 => k_is); (case l17 => k_is); (case c17 => k_is); (case k17 => k_is)
    (case a18 => k_is); (case l18 => k_is); (case c18 => k_is); (case k18 => k_is)
    (case z_len => k_is)
    (case z_range => k_is)
    (case z_isinst => k_is)
    (case z_int => k_is)
    (case z_bool => k_is)
    (case z_tuple => k_is)
    (case z_list => k_is)
    (case z_str => k_is)
    (case z_verr => k_is)
    (case n_RoomError => k_is)
    (case n_NoLetters => k_is)
    (case n_NoWord => k_is)
    (case n_NoNumber => k_is)
    (case n_NoRoom => k_is)
    (case n_NoMachine => k_is)
    (case n_OtherLetters => k_is)
    (case n_TooMany => k_is)
    (case n_NoPattern => k_is)
    (case n_TooGreat => k_is)
    (case n_NoKind => k_is)
    (case o_NoRoom => unfold L2.OwnX; k_exc)
    (case e_NoRoom => exact ⟨by k_is, by k_is, by k_is, by k_is, by k_is, by k_is, by k_is, by k_is⟩)
    (case m_NoRoom => kts_exm)
    (case i_NoRoom_NoLetters => kit_is)
    (case i_NoRoom_NoWord => kit_is)
    (case i_NoRoom_NoNumber => kit_is)
    (case i_NoRoom_NoRoom => kit_is)
    (case i_NoRoom_NoMachine => kit_is)
    (case i_NoRoom_OtherLetters => kit_is)
    (case i_NoRoom_TooMany => kit_is)
    (case i_NoRoom_NoPattern => kit_is)
    (case i_NoRoom_TooGreat => kit_is)
    (case i_NoRoom_NoKind => kit_is)
    (case v_NoRoom => kit_is)
    (case o_NoWord => unfold L2.OwnX; k_exc)
    (case e_NoWord => exact ⟨by k_is, by k_is, by k_is, by k_is, by k_is, by k_is, by k_is, by k_is⟩)
    (case m_NoWord => kts_exm)
    (case i_NoWord_NoLetters => kit_is)
    (case i_NoWord_NoWord => kit_is)
    (case i_NoWord_NoNumber => kit_is)
    (case i_NoWord_NoRoom => kit_is)
    (case i_NoWord_NoMachine => kit_is)
    (case i_NoWord_OtherLetters => kit_is)
    (case i_NoWord_TooMany => kit_is)
    (case i_NoWord_NoPattern => kit_is)
    (case i_NoWord_TooGreat => kit_is)
    (case i_NoWord_NoKind => kit_is)
    (case v_NoWord => kit_is)
#print axioms PySem.Challenge.cw_roomalgebra_k41_what_a_word_does_holds
