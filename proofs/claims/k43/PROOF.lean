import PyProof.Rows.All
import Wide.All
import OpenK.AllK
import Wide.FinOn
import Lean
import PyProof.EqAt
import PyProof.EqKinds
import PyProof.TupleCall
import PyProof.Draws
import PyProof.ZipIter
import PySem.Challenge.RW_roomalgebra_k43_the_table_of_acts
set_option Elab.async false
set_option linter.all false
set_option maxRecDepth 100000
namespace L2
open PySem PySem.Spec PyProof.Rows
abbrev Key := Sum Int Str
def keyIs : Key → Value → Bool
  | .inl k, v => Value.isInt k v
  | .inr x, v => Value.isStrOf x v
def keyH (w : World) : Key → Int
  | .inl k => hashInt k
  | .inr x => hashStr w x
theorem keyIs_shape : ∀ {k : Key} {v : Value}, keyIs k v = true → (∃ i t, k = Sum.inl i ∧ v = Value.int i t) ∨ (∃ x t, k = Sum.inr x ∧ v = Value.str x t)
  | .inl i, v, h => by
    obtain ⟨t, e⟩ := Value.isInt_shape (k := i) (v := v) h
    exact .inl ⟨i, t, rfl, e⟩
  | .inr x, v, h => by
    obtain ⟨t, e⟩ := Value.isStrOf_shape (x := x) (v := v) h
    exact .inr ⟨x, t, rfl, e⟩
theorem key_ll (a b : Int) : decide ((Sum.inl a : Key) = Sum.inl b) = (a == b) := by
  by_cases e : a = b
  · subst e; simp
  · have h : ¬ (Sum.inl a : Key) = Sum.inl b := fun q => e (Sum.inl.inj q)
    rw [decide_eq_false h]
    exact (beq_eq_false_iff_ne.mpr e).symm
theorem key_rr (a b : Str) : decide ((Sum.inr a : Key) = Sum.inr b) = decide (a = b) := by
  by_cases e : a = b
  · subst e; simp
  · have h : ¬ (Sum.inr a : Key) = Sum.inr b := fun q => e (Sum.inr.inj q)
    rw [decide_eq_false h, decide_eq_false e]
theorem key_lr (a : Int) (b : Str) : decide ((Sum.inl a : Key) = Sum.inr b) = false := decide_eq_false (fun q => nomatch q)
theorem key_rl (a : Str) (b : Int) : decide ((Sum.inr a : Key) = Sum.inl b) = false := decide_eq_false (fun q => nomatch q)
def mixKind (prog : Program) (w : World) : PySem.KeyKind prog w Key where
  is := keyIs
  hash := keyH w
  inj := fun v a b ha hb => by
    rcases keyIs_shape ha with ⟨i, t, rfl, rfl⟩ | ⟨x, t, rfl, rfl⟩
    · rcases keyIs_shape hb with ⟨j, u, rfl, e⟩ | ⟨y, u, rfl, e⟩
      · injection e with e1 _; rw [e1]
      · exact nomatch e
    · rcases keyIs_shape hb with ⟨j, u, rfl, e⟩ | ⟨y, u, rfl, e⟩
      · exact nomatch e
      · injection e with e1 _; rw [e1]
  byValue := fun k v h => by
    rcases keyIs_shape h with ⟨i, t, rfl, rfl⟩ | ⟨x, t, rfl, rfl⟩ <;> rfl
  pyHash := fun hv h => by
    rcases keyIs_shape hv with ⟨i, t, rfl, rfl⟩ | ⟨x, t, rfl, rfl⟩
    · exact wpAny_pyHash_int h
    · exact wpAny_pyHash_str h
  eqBool := fun hu hv h => by
    rcases keyIs_shape hu with ⟨i, t, rfl, rfl⟩ | ⟨x, t, rfl, rfl⟩
    · rcases keyIs_shape hv with ⟨j, u, rfl, rfl⟩ | ⟨y, u, rfl, rfl⟩
      · rw [key_ll] at h; exact wpAny_eqBool_int h
      · rw [key_lr] at h; exact SeqAt.EqAt.int_str i t y u _ _ _ _ h
    · rcases keyIs_shape hv with ⟨j, u, rfl, rfl⟩ | ⟨y, u, rfl, rfl⟩
      · rw [key_rl] at h; exact SeqAt.EqAt.str_int x t j u _ _ _ _ h
      · rw [key_rr] at h; exact wpAny_eqBool_str h
  «strs» := fun k x t v h => by
    rcases keyIs_shape h with ⟨i, u, rfl, e⟩ | ⟨y, u, rfl, e⟩
    · exact nomatch e
    · injection e with e1 _
      subst e1
      cases v <;> rfl
end L2
namespace L2
open PySem PySem.Spec PyProof.Rows
inductive V where
  | non | bl (b : Bool) | int (i : Int) | str (x : Str) | byt (b : Array UInt8) | flt (b : UInt64) | ref (a : Addr) | ty (n : String)
  deriving DecidableEq
def RelV : V → Value → Prop
  | .non, u => u = Value.none
  | .bl b, u => u = Value.bool b
  | .int i, u => ∃ t, u = Value.int i t
  | .str x, u => ∃ t, u = Value.str x t
  | .byt b, u => ∃ t, u = Value.bytes b t
  | .flt b, u => ∃ t, u = Value.float b t
  | .ref a, u => u = Value.ref a
  | .ty n, u => u = Value.type n
abbrev Vals : List V → List Value → Prop := Paired RelV
theorem Vals.length {xs : List V} {us : List Value} (r : Vals xs us) : xs.length = us.length := Paired.length r
theorem Vals.get : ∀ {xs : List V} {us : List Value} {i : Nat} {x : V}, Vals xs us → xs[i]? = some x → ∃ u, us[i]? = some u ∧ RelV x u
  | _, _, _, _, .nil, e => by simp at e
  | _, _, 0, _, .cons r _, e => by simp at e; subst e; exact ⟨_, rfl, r⟩
  | _, _, i + 1, x, .cons _ t, e => by
    obtain ⟨u, h1, h2⟩ := Vals.get (i := i) (x := x) t (by simpa using e)
    exact ⟨u, by simpa using h1, h2⟩
theorem Vals.append : ∀ {xs ys : List V} {us ws : List Value}, Vals xs us → Vals ys ws → Vals (xs ++ ys) (us ++ ws)
  | _, _, _, _, .nil, s => s
  | _, _, _, _, .cons r t, s => .cons r (Vals.append t s)
theorem Vals.take : ∀ {xs : List V} {us : List Value} (n : Nat), Vals xs us → Vals (xs.take n) (us.take n)
  | _, _, 0, _ => .nil
  | _, _, _ + 1, .nil => .nil
  | _, _, n + 1, .cons r t => .cons r (Vals.take n t)
theorem Vals.drop : ∀ {xs : List V} {us : List Value} (n : Nat), Vals xs us → Vals (xs.drop n) (us.drop n)
  | _, _, 0, r => r
  | _, _, _ + 1, .nil => .nil
  | _, _, n + 1, .cons _ t => Vals.drop n t
def RelO : Option V → Option Value → Prop
  | some v, some u => RelV v u
  | none, none => True
  | _, _ => False
def KV {κ : Type} : List (κ × V) → List (κ × Value) → Prop := Paired fun (p : κ × V) (q : κ × Value) => p.1 = q.1 ∧ RelV p.2 q.2
def kV : Key → V
  | .inl i => .int i
  | .inr x => .str x
inductive HO where
    | lst (xs : List V)
    | tup (xs : List V)
    | dK (kvs : List (Key × V)) | dT (kvs : List (List Key × V))
    | set (S : Int → Bool) (n : Nat)
    | ins (C dx : Addr) (fs : List (Str × V))
    | own (x : Addr)
    | xd (fs : List (Str × V))
    | met (f x : Addr)
    | rng (lo hi : Int)
    | frz (o : Obj) (u : HO)
    | tbl (ps : Array Value)
    | ext (φ : Heap → Prop)
abbrev Hp := Addr → Option HO
def upd (H : Hp) (a : Addr) (o : HO) : Hp := fun b => if b = a then some o else H b
theorem upd_same {H : Hp} {a : Addr} {o : HO} : upd H a o a = some o := by unfold upd; rw [if_pos rfl]
theorem upd_ne {H : Hp} {a b : Addr} {o : HO} (h : b ≠ a) : upd H a o b = H b := by unfold upd; rw [if_neg h]
theorem upd_upd {H : Hp} {a : Addr} {o u : HO} : upd (upd H a o) a u = upd H a u := by
  funext b; unfold upd; split <;> rfl
theorem ne_of {H : Hp} {a b : Addr} {o u : HO} (h : H a = some o) (h' : H b = some u) (d : o ≠ u) : a ≠ b := by
  intro e; subst e; rw [h] at h'; exact d (Option.some.inj h')
theorem ne_of_none {H : Hp} {a b : Addr} {o : HO} (h : H a = some o) (h' : H b = none) : a ≠ b := by
  intro e; subst e; rw [h] at h'; cases h'
section
variable (P : Program) (w : World)
def ObjOk (H : Hp) (h : Heap) (a : Addr) : HO → Prop
  | .lst xs => xs.length ≤ sizeLine ∧ ∃ (its : List Value) (n : Nat), Vals xs its ∧ h.get? a = some { cls := .type "list", data := .seq its.toArray n }
  | .tup xs => xs.length ≤ sizeLine ∧ ∃ its : List Value, Vals xs its ∧ IsTup h a its.toArray
  | .dK kvs => kvs.length ≤ sizeLine ∧ (a == sysModules) = false ∧ ∃ vs, KV kvs vs ∧ h.DictOf (mixKind P w) a vs
  | .dT kvs => kvs.length ≤ sizeLine ∧ (a == sysModules) = false ∧ ∃ xs : List (List Key × Addr × Value),
      Paired (fun (p : List Key × V) (q : List Key × Addr × Value) => p.1 = q.1 ∧ H q.2.1 = some (.tup (p.1.map kV)) ∧ RelV p.2 q.2.2) kvs xs ∧
      ∃ o es ep, h.get? a = some o ∧ o.ExactDict ∧ o.data = .dict es ep ∧ es.toList = xs.map (entryOfKey (tupleKind (mixKind P w))) ∧ (xs.map (·.1)).Nodup
  | .set S n => h.SetOf (intKind P w) a S n
  | .ins C dx fs => H dx = some (.own a) ∧ fs.length ≤ 1000 ∧ dx ≠ a ∧ h.get? a = some (PySem.W.instObj C dx) ∧
      ∃ mA, h.Ns1 dx mA ∧ (∀ f, RelO (fs.lookup f) (mA f)) ∧ PySem.Within mA (fs.map (·.1))
  | .own _ => ∃ o, h.get? a = some o
  | .xd fs => ∃ mA, h.Ns1 a mA ∧ ∀ f, RelO (fs.lookup f) (mA f)
  | .rng lo hi => ∃ t u v, h.get? a = some { cls := .type "range", data := .fields #[.int lo t, .int hi u, .int 1 v] }
  | .frz o u => h.get? a = some o ∧ ObjOk H h a u
  | .tbl ps => h.get? a = some { cls := .none, data := .fields ps }
  | .met f x => h.get? a = some (PySem.W.methodObj (.ref f) (.ref x))
  | .ext φ => φ h ∧ (∃ o, h.get? a = some o) ∧ ∀ h1 h2 : Heap, φ h1 → (∀ o, h1.get? a = some o → h2.get? a = some o) → φ h2
def HOk (H : Hp) (h : Heap) : Prop := ∀ a o, H a = some o → ObjOk P w H h a o
end
section
variable {P : Program} {w : World} {H H' : Hp} {h h' : Heap} {a : Addr} {o : HO}
theorem ObjOk.lt (x : ObjOk P w H h a o) : a < h.objs.size := by
  cases o with
  | lst xs => obtain ⟨_, _, _, _, e⟩ := x; exact Heap.lt_size e
  | tup xs => obtain ⟨_, _, _, p⟩ := x; exact p.lt
  | dK kvs => obtain ⟨_, _, _, _, o, _, _, e, _⟩ := x; exact Heap.lt_size e
  | dT kvs => obtain ⟨_, _, _, _, o, _, _, e, _⟩ := x; exact Heap.lt_size e
  | set S n => obtain ⟨o, _, _, _, e, _⟩ := x; exact Heap.lt_size e
  | ins C dx fs => obtain ⟨_, _, _, e, _⟩ := x; exact Heap.lt_size e
  | own y => obtain ⟨_, e⟩ := x; exact Heap.lt_size e
  | xd fs => obtain ⟨_, ⟨_, _, _, e, _⟩, _⟩ := x; exact Heap.lt_size e
  | rng lo hi => obtain ⟨_, _, _, e⟩ := x; exact Heap.lt_size e
  | frz ob u => obtain ⟨e, _⟩ := x; exact Heap.lt_size e
  | tbl ps => exact Heap.lt_size (show h.get? a = some _ from x)
  | met f y => exact Heap.lt_size (show h.get? a = some _ from x)
  | ext φ => obtain ⟨_, ⟨_, e⟩, _⟩ := x; exact Heap.lt_size e
theorem Paired.mapP {α β : Type} {F G : α → β → Prop} : ∀ {l₁ : List α} {l₂ : List β}, Paired F l₁ l₂ → (∀ a b, F a b → G a b) → Paired G l₁ l₂
  | _, _, .nil, _ => .nil
  | _, _, .cons r t, f => .cons (f _ _ r) (Paired.mapP t f)
theorem ObjOk.stay (x : ObjOk P w H h a o) (k : ∀ b u, (b = a ∨ H b = some (.own a)) → h.get? b = some u → h'.get? b = some u)
    (ho : ∀ b, H b = some (.own a) → H' b = some (.own a)) (ht : ∀ b xs, H b = some (.tup xs) → H' b = some (.tup xs)) : ObjOk P w H' h' a o := by
  induction o with
  | lst xs => obtain ⟨z, its, n, r, e⟩ := x; exact ⟨z, its, n, r, k _ _ (.inl rfl) e⟩
  | tup xs => obtain ⟨z, its, r, ob, e, c⟩ := x; exact ⟨z, its, r, ob, k _ _ (.inl rfl) e, c⟩
  | dK kvs => obtain ⟨z, y, vs, r, ob, es, ep, e, c⟩ := x; exact ⟨z, y, vs, r, ob, es, ep, k _ _ (.inl rfl) e, c⟩
  | dT kvs =>
    obtain ⟨z, y, xs, r, ob, es, ep, e, c⟩ := x
    exact ⟨z, y, xs, Paired.mapP r fun p q z => ⟨z.1, ht _ _ z.2.1, z.2.2⟩, ob, es, ep, k _ _ (.inl rfl) e, c⟩
  | set S n => obtain ⟨ob, es, ep, t, e, c⟩ := x; exact ⟨ob, es, ep, t, k _ _ (.inl rfl) e, c⟩
  | ins C dx fs =>
    obtain ⟨d, z, ne, e, mA, ⟨od, es, ep, e2, c⟩, r⟩ := x
    exact ⟨ho _ d, z, ne, k _ _ (.inl rfl) e, mA, ⟨od, es, ep, k _ _ (.inr d) e2, c⟩, r⟩
  | own y => obtain ⟨ob, e⟩ := x; exact ⟨ob, k _ _ (.inl rfl) e⟩
  | xd fs => obtain ⟨mA, ⟨od, es, ep, e, c⟩, r⟩ := x; exact ⟨mA, ⟨od, es, ep, k _ _ (.inl rfl) e, c⟩, r⟩
  | rng lo hi => obtain ⟨t, u, v, e⟩ := x; exact ⟨t, u, v, k _ _ (.inl rfl) e⟩
  | frz ob u ih => obtain ⟨e, q⟩ := x; exact ⟨k _ _ (.inl rfl) e, ih q⟩
  | tbl ps =>
    have e : h.get? a = some { cls := .none, data := .fields ps } := x
    show h'.get? a = some { cls := .none, data := .fields ps }
    exact k a _ (.inl rfl) e
  | met f y =>
    have e : h.get? a = some (PySem.W.methodObj (.ref f) (.ref y)) := x
    show h'.get? a = some (PySem.W.methodObj (.ref f) (.ref y))
    exact k a _ (.inl rfl) e
  | ext φ => obtain ⟨p, ⟨o, e⟩, st⟩ := x; exact ⟨st _ _ p fun o q => k _ _ (.inl rfl) q, ⟨o, k _ _ (.inl rfl) e⟩, st⟩
theorem HOk.lt (x : HOk P w H h) (e : H a = some o) : a < h.objs.size := (x a o e).lt
theorem HOk.fresh (x : HOk P w H h) (e : h.objs.size ≤ a) : H a = none := by
  cases q : H a with
  | none => rfl
  | some u => exact absurd (Nat.lt_of_lt_of_le (x.lt q) e) (Nat.lt_irrefl _)
theorem HOk.kept (x : HOk P w H h) (k : ∀ b u, h.get? b = some u → h'.get? b = some u) : HOk P w H h' := fun a o e =>
  (x a o e).stay (fun b u _ q => k b u q) (fun _ q => q) fun _ _ q => q
theorem HOk.laid (x : HOk P w H h) (k : ∀ b u, h.get? b = some u → h'.get? b = some u) (hp : h.objs.size ≤ a) (new : ObjOk P w (upd H a o) h' a o) : HOk P w (upd H a o) h' := fun b u e => by
  have hn := x.fresh hp
  by_cases hb : b = a
  · subst hb; rw [upd_same] at e; cases e; exact new
  · rw [upd_ne hb] at e
    exact (x b u e).stay (fun c v _ q => k c v q) (fun c q => by rw [upd_ne (ne_of_none q hn)]; exact q) fun c xs q => by rw [upd_ne (ne_of_none q hn)]; exact q
end
def Rd (H : Hp) (a : Addr) (u : HO) : Prop := H a = some u ∨ ∃ o, H a = some (.frz o u)
theorem Rd.ok {P : Program} {w : World} {H : Hp} {h : Heap} {a : Addr} {u : HO} (r : Rd H a u) (x : HOk P w H h) : ObjOk P w H h a u := by
  rcases r with r | ⟨o, r⟩
  · exact x a u r
  · obtain ⟨_, q⟩ := x a _ r
    exact q
def Mut : Option HO → Prop
  | some (.lst _) => True
  | some (.dK _) => True
  | some (.dT _) => True
  | some (.set _ _) => True
  | some (.ins _ _ _) => True
  | some (.ext _) => True
  | _ => False
section
variable {P : Program} {w : World} {H : Hp} {h h' : Heap} {x e : Addr} {o' : HO}
theorem HOk.write (ok : HOk P w H h) (mu : Mut (H x)) (he : e = x ∨ H e = some (.own x)) (k : ∀ b u, b ≠ e → h.get? b = some u → h'.get? b = some u) (heo : ∃ u, h'.get? e = some u)
    (new : ObjOk P w (upd H x o') h' x o') : HOk P w (upd H x o') h' := fun b u q => by
  have nown : ∀ c y, H c = some (.own y) → c ≠ x := fun c y r z => by subst z; rw [r] at mu; exact mu
  have ntup : ∀ c xs, H c = some (.tup xs) → c ≠ x := fun c xs r z => by subst z; rw [r] at mu; exact mu
  by_cases hb : b = x
  · subst hb; rw [upd_same] at q; cases q; exact new
  · rw [upd_ne hb] at q
    by_cases hbe : b = e
    · have q' : H b = some (.own x) := by
        rcases he with z | z
        · exact absurd (hbe.trans z) hb
        · rw [hbe]; exact z
      rw [q] at q'; cases q'
      obtain ⟨v, hv⟩ := heo
      exact ⟨v, by rw [hbe]; exact hv⟩
    · refine (ok b u q).stay (fun c v hc r => k c v ?_ r) (fun c r => by rw [upd_ne (nown c b r)]; exact r) fun c xs r => by rw [upd_ne (ntup c xs r)]; exact r
      rcases hc with rfl | hc
      · exact hbe
      · rintro rfl
        rcases he with z | z
        · exact nown c b hc z
        · rw [hc] at z; cases z; exact hb rfl
end
structure Un (fs ex : List Addr) (H H' : Hp) (h h' : Heap) : Prop where
  keep : ∀ b o, h.get? b = some o → H b = none → b ∉ fs → b ∉ ex → h'.get? b = some o
  slot : ∀ b o, h.get? b = some o → H b = none → b ∈ fs → b ∉ ex → ∃ sl, h'.get? b = some { o with slots := sl }
  free : ∀ b o, h.get? b = some o → H b = none → b ∉ ex → H' b = none
  there : ∀ b o, h.get? b = some o → b ∉ ex → ∃ o', h'.get? b = some o'
  tups : ∀ b xs, H b = some (.tup xs) → H' b = some (.tup xs)
  frzs : ∀ b o u, H b = some (.frz o u) → H' b = some (.frz o u)
  tbls : ∀ b ps, H b = some (.tbl ps) → ∃ more, H' b = some (.tbl (ps ++ more))
section
variable {fs fs' ex ex' : List Addr} {H H1 H2 : Hp} {h h1 h2 h' : Heap} {a x e : Addr} {o : HO}
theorem Un.any (u : Un fs ex H H1 h h1) {b : Addr} {ob : Obj} (q : h.get? b = some ob) (n : H b = none) (hx : b ∉ ex) : ∃ sl, h1.get? b = some { ob with slots := sl } := by
  by_cases hb : b ∈ fs
  · exact u.slot b ob q n hb hx
  · exact ⟨ob.slots, u.keep b ob q n hb hx⟩
theorem Un.kept (k : ∀ b u, h.get? b = some u → h'.get? b = some u) : Un fs ex H H h h' :=
  ⟨fun b ob q _ _ _ => k b ob q, fun b ob q _ _ _ => ⟨ob.slots, k b ob q⟩, fun _ _ _ n _ => n, fun b ob q _ => ⟨ob, k b ob q⟩, fun _ _ q => q, fun _ _ _ q => q, fun _ ps q => ⟨#[], by rw [q]; simp⟩⟩
theorem Un.refl : Un fs ex H H h h := Un.kept fun _ _ q => q
theorem Un.laid (k : ∀ b u, h.get? b = some u → h'.get? b = some u) (hp : h.objs.size ≤ a) (hn : H a = none) : Un fs ex H (upd H a o) h h' where
  keep := fun b u q _ _ _ => k b u q
  slot := fun b u q _ _ _ => ⟨u.slots, k b u q⟩
  free := fun b u q n _ => by rw [upd_ne (Nat.ne_of_lt (Nat.lt_of_lt_of_le (Heap.lt_size q) hp))]; exact n
  there := fun b u q _ => ⟨u, k b u q⟩
  tups := fun b xs q => by rw [upd_ne (ne_of_none q hn)]; exact q
  frzs := fun b u xs q => by rw [upd_ne (ne_of_none q hn)]; exact q
  tbls := fun b ps q => ⟨#[], by rw [upd_ne (ne_of_none q hn), q]; simp⟩
theorem Un.write (mu : Mut (H x)) (he : e = x ∨ H e = some (.own x)) (k : ∀ b u, b ≠ e → h.get? b = some u → h'.get? b = some u) (heo : ∃ u, h'.get? e = some u) : Un fs ex H (upd H x o) h h' := by
  have hx : ∀ b, H b = none → b ≠ x := fun b n z => by subst z; rw [n] at mu; exact mu
  have hb : ∀ b, H b = none → b ≠ e := fun b n z => by
    subst z
    rcases he with r | r
    · exact hx b n r
    · rw [n] at r; cases r
  have hm : ∀ b u, H b = some u → ¬ Mut (some u) → b ≠ x := fun b u q nm z => by subst z; rw [q] at mu; exact nm mu
  refine ⟨fun b u q n _ _ => k b u (hb b n) q, fun b u q n _ _ => ⟨u.slots, k b u (hb b n) q⟩, fun b u q n _ => by rw [upd_ne (hx b n)]; exact n, fun b u q _ => ?_,
    fun b xs q => by rw [upd_ne (hm b _ q fun z => z)]; exact q, fun b u xs q => by rw [upd_ne (hm b _ q fun z => z)]; exact q, fun b ps q => ⟨#[], by rw [upd_ne (hm b _ q fun z => z), q]; simp⟩⟩
  by_cases hbe : b = e
  · subst hbe; exact heo
  · exact ⟨u, k b u hbe q⟩
end
def trk (h : Heap) (H : Hp) : List Addr := (List.range h.objs.size).filter fun a => (H a).isSome
def hidT (h : Heap) (H : Hp) : Heap := PySem.W.hideAll h (trk h H)
theorem hidT_size (h : Heap) (H : Hp) : (hidT h H).objs.size = h.objs.size := PySem.W.hideAll_size _ _
theorem hidT_get {h : Heap} {H : Hp} {b : Addr} {o : Obj} (e : h.get? b = some o) (n : H b = none) : (hidT h H).get? b = some o :=
  PySem.W.hideAll_get _ e fun hm => by
    have q : (H b).isSome = true := (List.mem_filter.mp hm).2
    rw [n] at q; simp at q
theorem of_hidT {h : Heap} {H : Hp} {b : Addr} {o : Obj} (e : (hidT h H).get? b = some o) : h.get? b = some o ∧ H b = none := by
  have e' : h.get? b = some o := PySem.W.of_hideAll (trk h H) e
  refine ⟨e', ?_⟩
  cases q : H b with
  | none => rfl
  | some x =>
    have hm : b ∈ trk h H := List.mem_filter.mpr ⟨List.mem_range.mpr (Heap.lt_size e'), by simp [q]⟩
    have z : (hidT h H).get? b = none := PySem.W.hideAll_none (trk h H) hm
    rw [z] at e; cases e
def allNews (g h : Heap) (L : Addr) : List (Addr × Obj) := (List.range h.objs.size).filterMap fun a => if a = L ∨ (g.get? a).isSome = true then none else (h.get? a).map fun o => (a, o)
def rest (g h : Heap) (L d : Addr) : List (Addr × Obj) := (allNews g h L).filter fun p => decide (p.1 ≠ d)
end L2
namespace L2
open PySem PySem.Spec PyProof.Rows
structure Mod (K : PySem.W.Frag) (mg : Str → Option Value) (base : Heap) : Prop where
  kin : K.In base
  glob : base.Ns mainGlobals mg
  blt : ∃ mb, base.Ns builtinsNs mb ∧ ∀ x : Str, x ≠ "__name__" → mb x = bootBuiltins x
  nolimit : base.NoLimit
structure Cx where
  prog : Program
  w : World
  K : PySem.W.Frag
  mg : Str → Option Value
  base : Heap
  A : Around
  N : List Str
  s₀ : Shared
  H₀ : Hp
  env : Env
  outer : List Env
  stack : List Env
  ex : List Addr
  fn : Str → Bool
  calm : Bool
  pn : List (Addr × Obj)
  xe : Value → Shared → Prop
def frs (l : List Env) : List Addr := l.filterMap (·.frame)
abbrev Cx.fs (X : Cx) : List Addr := frs X.outer
def Vis (sc : Scope) (x : Str) : Prop := sc.names.lookup x = some .local ∨ sc.names.lookup x = some .cell ∨ sc.names.lookup x = some .free
def Loc (sc : Scope) (x : Str) : Prop := sc.names.lookup x = some .local ∨ sc.names.lookup x = some .cell
def Look (env : Env) (h : Heap) (m : Str → Option Value) (x : Str) (u : Value) : Prop :=
  (env.kindOf x = some .local ∧ m x = some u) ∨ ((env.kindOf x = some .cell ∨ env.kindOf x = some .free) ∧ ∃ c, env.cells.lookup x = some c ∧ h.IsCell c (some u))
structure Cx.Ok (X : Cx) : Prop where
  mod : Mod X.K X.mg X.base
  kind : X.env.scope.kind = .function
  glob : X.env.globals = mainGlobals
  blt : X.env.builtins = builtinsNs
  above : X.s₀.heap.objs.size ≤ X.env.locals
  inj : ∀ x y c, X.env.cells.lookup x = some c → X.env.cells.lookup y = some c → x = y
  has : ∀ x, (X.env.kindOf x = some .cell ∨ X.env.kindOf x = some .free) → ∃ c, X.env.cells.lookup x = some c
  cab : ∀ x c, X.fn x = true → X.env.cells.lookup x = some c → X.s₀.heap.objs.size ≤ c
  hd : X.calm = true → X.A.handled = none
  frames : X.A.frames = some X.stack
  stk : X.stack = X.outer ∨ (X.stack = X.env :: X.outer ∧ X.env.frame = some X.env.locals)
  exf : ∀ b ∈ X.ex, b ≠ X.env.locals ∧ ∀ x c, X.env.cells.lookup x = some c → c ≠ b
  bs : ∀ b o, X.base.get? b = some o → X.s₀.heap.get? b = some o ∧ X.H₀ b = none
  bsz : X.base.objs.size ≤ X.s₀.heap.objs.size
  noex : ∀ b o, X.base.get? b = some o → b ∉ X.ex
  exfs : ∀ b ∈ X.ex, b ∉ X.fs
  funs : X.s₀.heap.FunFrames X.base X.outer
  frf : ∀ b ∈ X.fs, X.H₀ b = none
structure Inv (X : Cx) (pins : List (Addr × Obj)) (σ : List (Option V)) (H : Hp) (s : Shared) : Prop where
  ok : X.Ok
  os : s.os = X.s₀.os
  bare : AllBare s.gens
  base : Un X.fs X.ex X.H₀ H X.s₀.heap s.heap
  loc : ∃ m, s.heap.Ns X.env.locals m ∧ ∀ (i : Nat) (x : Str) (v : V), X.N[i]? = some x → σ[i]? = some (some v) → Vis X.env.scope x → ∃ u, RelV v u ∧ Look X.env s.heap m x u
  cell : ∀ x c, X.env.cells.lookup x = some c → ∃ v, s.heap.IsCell c v
  free : H X.env.locals = none
  freeC : ∀ x c, X.env.cells.lookup x = some c → H c = none
  pin : ∀ p ∈ X.pn ++ pins, s.heap.get? p.1 = some p.2 ∧ H p.1 = none ∧ p.1 ≠ X.env.locals ∧ p.1 ∉ X.fs ∧ ∀ v, p.2.data ≠ .cell v
  hok : HOk X.prog X.w H s.heap
  len : σ.length = X.N.length
section
variable {X : Cx} {pins : List (Addr × Obj)} {σ : List (Option V)} {H H' : Hp} {s : Shared} {h' : Heap}
theorem Cx.Ok.nofr (ok : X.Ok) {b : Addr} {o : Obj} (e : X.base.get? b = some o) : b ∉ X.fs := fun hb => by
  have := (ok.funs.mem hb).1
  rw [e] at this; cases this
theorem Inv.bs (I : Inv X pins σ H s) : ∀ b o, X.base.get? b = some o → s.heap.get? b = some o ∧ H b = none := fun b o e =>
  ⟨I.base.keep b o (I.ok.bs b o e).1 (I.ok.bs b o e).2 (I.ok.nofr e) (I.ok.noex b o e), I.base.free b o (I.ok.bs b o e).1 (I.ok.bs b o e).2 (I.ok.noex b o e)⟩
theorem Inv.bk (I : Inv X pins σ H s) : ∀ b o, X.base.get? b = some o → s.heap.get? b = some o := fun b o e => (I.bs b o e).1
theorem Inv.mod (I : Inv X pins σ H s) : Mod X.K X.mg X.base := I.ok.mod
theorem Inv.kIn (I : Inv X pins σ H s) : X.K.In s.heap := I.ok.mod.kin.keeps I.bk
theorem Inv.lt (I : Inv X pins σ H s) : X.env.locals < s.heap.objs.size := let ⟨_, hn, _⟩ := I.loc; hn.lt
theorem Inv.sz (I : Inv X pins σ H s) : X.s₀.heap.objs.size ≤ s.heap.objs.size := Nat.le_trans I.ok.above (Nat.le_of_lt I.lt)
theorem Inv.nofs (I : Inv X pins σ H s) {a : Addr} (h : s.heap.objs.size ≤ a) : a ∉ X.fs := fun hb => by
  obtain ⟨_, o, ho, _⟩ := I.ok.funs.mem hb
  exact absurd (Nat.lt_of_lt_of_le (Heap.lt_size ho) (Nat.le_trans I.sz h)) (Nat.lt_irrefl _)
theorem Inv.cne (I : Inv X pins σ H s) : ∀ x c, X.env.cells.lookup x = some c → c ≠ X.env.locals := fun x c e z => by
  obtain ⟨v, o, ho, hd⟩ := I.cell x c e
  obtain ⟨m, ⟨o', es, ep, ho', hd', _⟩, _⟩ := I.loc
  rw [z, ho'] at ho; cases ho; rw [hd'] at hd; cases hd
theorem Inv.funs (I : Inv X pins σ H s) : s.heap.FunFrames X.base X.outer := by
  have all : ∀ (l : List Env), (∀ b ∈ frs l, b ∈ X.fs) → X.s₀.heap.FunFrames X.base l → s.heap.FunFrames X.base l := by
    intro l
    induction l with
    | nil => intro _ _; trivial
    | cons env r ih =>
      intro hs hl
      obtain ⟨hk, ⟨L, o, hf, hn, ho, hd⟩, hr⟩ := hl
      have hL : L ∈ X.fs := hs L (by unfold frs; rw [List.filterMap_cons, hf]; exact List.mem_cons_self)
      obtain ⟨sl, e⟩ := I.base.slot L o ho (I.ok.frf L hL) hL fun z => I.ok.exfs L z hL
      exact ⟨hk, ⟨L, _, hf, hn, e, hd⟩, ih (fun b hb => hs b (by unfold frs; rw [List.filterMap_cons, hf]; exact List.mem_cons_of_mem _ hb)) hr⟩
  exact all X.outer (fun _ hb => hb) I.ok.funs
theorem Inv.stack (I : Inv X pins σ H s) : s.heap.FunFrames X.base X.stack := by
  rcases I.ok.stk with e | ⟨e, hf⟩
  · rw [e]; exact I.funs
  · rw [e]
    obtain ⟨m, hn, _⟩ := I.loc
    refine .cons (by rw [I.ok.kind]; decide) hf hn ?_ I.funs
    exact Heap.get?_none_of_le (Nat.le_trans I.ok.bsz I.ok.above)
theorem Inv.stkSub (I : Inv X pins σ H s) : ∀ b ∈ frs X.stack, b ∈ X.env.locals :: X.fs := fun b hb => by
  rcases I.ok.stk with e | ⟨e, hf⟩
  · rw [e] at hb; exact List.mem_cons_of_mem _ hb
  · rw [e] at hb
    unfold frs at hb
    rw [List.filterMap_cons, hf] at hb
    exact hb
theorem Inv.stkFree (I : Inv X pins σ H s) : ∀ b ∈ frs X.stack, H b = none := fun b hb => by
  rcases List.mem_cons.mp (I.stkSub b hb) with e | hb
  · rw [e]; exact I.free
  · obtain ⟨_, o, ho, _⟩ := I.ok.funs.mem hb
    exact I.base.free b o ho (I.ok.frf b hb) fun z => I.ok.exfs b z hb
theorem Inv.step {g' : Array GenState} {t' : Nat} {d' : Drawn} {ch : List Addr} (I : Inv X pins σ H s)
    (hch : ∀ b ∈ ch, (b ∈ X.ex ∨ X.s₀.heap.objs.size ≤ b) ∧ b ≠ X.env.locals ∧ (∀ x c, X.env.cells.lookup x = some c → c ≠ b) ∧ ∀ p ∈ X.pn ++ pins, p.1 ≠ b)
    (keep : ∀ b o, b ≠ X.env.locals → b ∉ X.fs → b ∉ ch → s.heap.get? b = some o → H b = none → h'.get? b = some o)
    (slot : ∀ b o, b ≠ X.env.locals → b ∈ X.fs → b ∉ ch → s.heap.get? b = some o → H b = none → ∃ sl, h'.get? b = some { o with slots := sl }) (free : ∀ b o, b ∉ ch → s.heap.get? b = some o → H b = none → H' b = none)
    (there : ∀ b o, b ∉ ch → s.heap.get? b = some o → ∃ o', h'.get? b = some o')
    (tups : ∀ b xs, H b = some (.tup xs) → H' b = some (.tup xs)) (frzs : ∀ b o u, H b = some (.frz o u) → H' b = some (.frz o u)) (tbls : ∀ b ps, H b = some (.tbl ps) → ∃ more, H' b = some (.tbl (ps ++ more)))
    (ns : ∀ m, s.heap.Ns X.env.locals m → h'.Ns X.env.locals m) (hok : HOk X.prog X.w H' h') (hg : AllBare g') :
    Inv X pins σ H' { s with heap := h', gens := g', drawn := d', toks := t' } := by
  have neL : ∀ b o, X.s₀.heap.get? b = some o → b ≠ X.env.locals := fun b o e => Nat.ne_of_lt (Nat.lt_of_lt_of_le (Heap.lt_size e) I.ok.above)
  have neC : ∀ b o, X.s₀.heap.get? b = some o → b ∉ X.ex → b ∉ ch := fun b o e hx hb => by
    rcases (hch b hb).1 with z | z
    · exact hx z
    · exact absurd (Nat.lt_of_lt_of_le (Heap.lt_size e) z) (Nat.lt_irrefl _)
  have cellK : ∀ x c, X.env.cells.lookup x = some c → ∀ v, s.heap.IsCell c v → h'.IsCell c v := fun x c e v ⟨o, ho, hd⟩ => by
    have nch : c ∉ ch := fun z => (hch c z).2.2.1 x c e rfl
    by_cases hc : c ∈ X.fs
    · obtain ⟨sl, q⟩ := slot c o (I.cne x c e) hc nch ho (I.freeC x c e)
      exact ⟨_, q, hd⟩
    · exact ⟨o, keep c o (I.cne x c e) hc nch ho (I.freeC x c e), hd⟩
  refine ⟨I.ok, I.os, hg, ⟨fun b o e n hb hx => ?_, fun b o e n hb hx => ?_, fun b o e n hx => ?_, fun b o e hx => ?_, fun b xs e => tups b xs (I.base.tups b xs e), fun b o xs e => frzs b o xs (I.base.frzs b o xs e), fun b ps e => ?_⟩, ?_, fun x c e => ?_, ?_, fun x c e => ?_, fun p hp => ?_, hok, I.len⟩
  · exact keep b o (neL b o e) hb (neC b o e hx) (I.base.keep b o e n hb hx) (I.base.free b o e n hx)
  · obtain ⟨sl, e1⟩ := I.base.slot b o e n hb hx
    obtain ⟨sl', e2⟩ := slot b _ (neL b o e) hb (neC b o e hx) e1 (I.base.free b o e n hx)
    exact ⟨sl', e2⟩
  · obtain ⟨o', e1⟩ := I.base.there b o e hx
    exact free b o' (neC b o e hx) e1 (I.base.free b o e n hx)
  · obtain ⟨o', e1⟩ := I.base.there b o e hx
    exact there b o' (neC b o e hx) e1
  · obtain ⟨m1, e1⟩ := I.base.tbls b ps e
    obtain ⟨m2, e2⟩ := tbls b _ e1
    exact ⟨m1 ++ m2, by rw [e2, Array.append_assoc]⟩
  · obtain ⟨m, hn, hl⟩ := I.loc
    refine ⟨m, ns m hn, fun i x v e1 e2 e3 => ?_⟩
    obtain ⟨u, r, l⟩ := hl i x v e1 e2 e3
    refine ⟨u, r, ?_⟩
    rcases l with l | ⟨k, c, e, z⟩
    · exact .inl l
    · exact .inr ⟨k, c, e, cellK x c e _ z⟩
  · obtain ⟨v, z⟩ := I.cell x c e
    exact ⟨v, cellK x c e v z⟩
  · obtain ⟨m, ⟨o, _, _, ho, _⟩, _⟩ := I.loc
    exact free _ o (fun z => (hch _ z).2.1 rfl) ho I.free
  · obtain ⟨v, o, ho, hd⟩ := I.cell x c e
    exact free c o (fun z => (hch c z).2.2.1 x c e rfl) ho (I.freeC x c e)
  · obtain ⟨e, n, ne, nf, d⟩ := I.pin p hp
    have nch : p.1 ∉ ch := fun z => (hch p.1 z).2.2.2 p hp rfl
    exact ⟨keep p.1 p.2 ne nf nch e n, free p.1 p.2 nch e n, ne, nf, d⟩
theorem Inv.un {t' : Nat} (I : Inv X pins σ H s) (u : Un X.fs [] H H' s.heap h') (hok : HOk X.prog X.w H' h') : Inv X pins σ H' { s with heap := h', toks := t' } := by
  obtain ⟨m, ⟨o, es, ep, ho, r⟩, _⟩ := id I.loc
  obtain ⟨sl, hL⟩ := u.any ho I.free (by simp)
  exact I.step (g' := s.gens) (d' := s.drawn) (ch := []) (fun _ z => nomatch z) (fun b o _ hb _ e n => u.keep b o e n hb (by simp)) (fun b o _ hb _ e n => u.slot b o e n hb (by simp)) (fun b o _ e n => u.free b o e n (by simp)) (fun b o _ e => u.there b o e (by simp)) u.tups u.frzs u.tbls (fun m' hm => by
    obtain ⟨o', es', ep', ho', r'⟩ := hm
    rw [ho] at ho'; cases ho'
    exact ⟨_, es', ep', hL, r'⟩) hok I.bare
theorem Inv.call {g' : Array GenState} {t' : Nat} {d' : Drawn} {ch : List Addr} (I : Inv X pins σ H s) (u : Un (frs X.stack) ch H H' s.heap h') (hok : HOk X.prog X.w H' h') (hg : AllBare g')
    (hch : ∀ b ∈ ch, (b ∈ X.ex ∨ X.s₀.heap.objs.size ≤ b) ∧ b ≠ X.env.locals ∧ (∀ x c, X.env.cells.lookup x = some c → c ≠ b) ∧ ∀ p ∈ X.pn ++ pins, p.1 ≠ b) :
    Inv X pins σ H' { s with heap := h', gens := g', drawn := d', toks := t' } := by
  obtain ⟨m, ⟨o, es, ep, ho, r⟩, _⟩ := id I.loc
  obtain ⟨sl, hL⟩ := u.any ho I.free fun z => (hch _ z).2.1 rfl
  exact I.step (ch := ch) hch (fun b o hL hb hc e n => u.keep b o e n (fun z => (List.mem_cons.mp (I.stkSub b z)).elim hL hb) hc) (fun b o _ _ hc e n => u.any e n hc) (fun b o hc e n => u.free b o e n hc) (fun b o hc e => u.there b o e hc) u.tups u.frzs u.tbls (fun m' hm => by
    obtain ⟨o', es', ep', ho', r'⟩ := hm
    rw [ho] at ho'; cases ho'
    exact ⟨_, es', ep', hL, r'⟩) hok hg
theorem Inv.turned {t' : Nat} {it : Addr} (I : Inv X pins σ H s) (k : ∀ b o, b ≠ it → s.heap.get? b = some o → h'.get? b = some o) (hn : H it = none) (hL : it ≠ X.env.locals)
    (h1 : it ∈ X.ex ∨ X.s₀.heap.objs.size ≤ it) (h2 : ∀ x c, X.env.cells.lookup x = some c → c ≠ it) (h3 : ∀ p ∈ X.pn ++ pins, p.1 ≠ it) : Inv X pins σ H { s with heap := h', toks := t' } := by
  have nit : ∀ b u, H b = some u → b ≠ it := fun b u e z => by rw [z, hn] at e; cases e
  refine I.step (g' := s.gens) (d' := s.drawn) (ch := [it]) (fun b hb => ?_) (fun b o _ _ hc e _ => k b o (fun z => hc (by simp [z])) e) (fun b o _ _ hc e _ => ⟨o.slots, k b o (fun z => hc (by simp [z])) e⟩) (fun _ _ _ _ n => n)
    (fun b o hc e => ⟨o, k b o (fun z => hc (by simp [z])) e⟩) (fun _ _ e => e) (fun _ _ _ e => e) (fun b ps e => ⟨#[], by rw [e]; simp⟩) (fun m hm => ?_) (fun b u e => ?_) I.bare
  · have e : b = it := by simpa using hb
    subst e
    exact ⟨h1, hL, h2, h3⟩
  · obtain ⟨o, es, ep, ho, r⟩ := hm
    exact ⟨o, es, ep, k _ o (Ne.symm hL) ho, r⟩
  · refine (I.hok b u e).stay (fun c v hc q => k c v ?_ q) (fun _ q => q) fun _ _ q => q
    rcases hc with z | z
    · rw [z]; exact nit b u e
    · exact nit c _ z
theorem Inv.tok (I : Inv X pins σ H s) (t : Nat) : Inv X pins σ H { s with toks := t } := I.un (h' := s.heap) (t' := t) Un.refl I.hok
theorem Inv.kept {t' : Nat} (I : Inv X pins σ H s) (k : ∀ b u, s.heap.get? b = some u → h'.get? b = some u) : Inv X pins σ H { s with heap := h', toks := t' } := I.un (Un.kept k) (I.hok.kept k)
theorem Inv.laid {a : Addr} {o : HO} {t' : Nat} (I : Inv X pins σ H s) (k : ∀ b u, s.heap.get? b = some u → h'.get? b = some u) (hp : s.heap.objs.size ≤ a) (new : ObjOk X.prog X.w (upd H a o) h' a o) :
    Inv X pins σ (upd H a o) { s with heap := h', toks := t' } := I.un (Un.laid k hp (I.hok.fresh hp)) (I.hok.laid k hp new)
theorem Inv.write {x e : Addr} {o : HO} {t' : Nat} (I : Inv X pins σ H s) (mu : Mut (H x)) (he : e = x ∨ H e = some (.own x)) (k : ∀ b u, b ≠ e → s.heap.get? b = some u → h'.get? b = some u) (heo : ∃ u, h'.get? e = some u)
    (new : ObjOk X.prog X.w (upd H x o) h' x o) : Inv X pins σ (upd H x o) { s with heap := h', toks := t' } := I.un (Un.write mu he k heo) (I.hok.write mu he k heo new)
theorem Inv.pins_of {pins' : List (Addr × Obj)} (I : Inv X pins σ H s) (h : ∀ p ∈ pins', s.heap.get? p.1 = some p.2 ∧ H p.1 = none ∧ p.1 ≠ X.env.locals ∧ p.1 ∉ X.fs ∧ ∀ v, p.2.data ≠ .cell v) : Inv X pins' σ H s :=
  ⟨I.ok, I.os, I.bare, I.base, I.loc, I.cell, I.free, I.freeC, fun p hp => (List.mem_append.mp hp).elim (fun z => I.pin p (List.mem_append_left _ z)) (h p), I.hok, I.len⟩
theorem nodup_ix {N : List Str} (hN : N.Nodup) {i j : Nat} {x : Str} (a : N[i]? = some x) (b : N[j]? = some x) : i = j := by
  obtain ⟨h1, e1⟩ := List.getElem?_eq_some_iff.mp a
  obtain ⟨h2, e2⟩ := List.getElem?_eq_some_iff.mp b
  exact (List.getElem_inj hN).mp (e1.trans e2.symm)
theorem store_ok2 {M : Model} {A : Around} {E : Value → Shared → Prop} {i : Nat} {x : Str} {v : V} {u : Value} {Q : Unit → Shared → Prop} (I : Inv X pins σ H s) (hN : X.N.Nodup) (hi : X.N[i]? = some x) (hx : Loc X.env.scope x) (r : RelV v u)
    (h : ∀ s', Inv X pins (σ.set i (some v)) H s' → (∃ a, Heap.SameBut a s.heap s'.heap ∧ (a = X.env.locals ∨ X.env.cells.lookup x = some a)) → Q () s') (hf : X.fn x = true ∨ X.env.scope.names.lookup x = some .local := by first | exact .inl rfl | exact .inr rfl | assumption) : wpAny M A (storeName X.env x u) Q E s := by
  obtain ⟨m, hn, hl⟩ := id I.loc
  have hcls : (X.env.scope.kind == .class || (X.env.scope.kind == .module && X.env.locals != X.env.globals)) = false := by rw [I.ok.kind]; rfl
  have hiσ : i < σ.length := by rw [I.len]; exact (List.getElem?_eq_some_iff.mp hi).1
  have cne := I.cne
  have tracked : ∀ {a : Addr} {h' : Heap}, (∃ o, s.heap.get? a = some o ∧ H a = none) → Heap.SameBut a s.heap h' → HOk X.prog X.w H h' := fun {a h'} ha hs b ob e => by
    obtain ⟨_, _, hfree⟩ := ha
    refine (I.hok b ob e).stay (fun c w' hc q => (hs.2 c ?_).trans q) (fun _ q => q) fun _ _ q => q
    rintro rfl
    rcases hc with rfl | hc
    · rw [hfree] at e; cases e
    · rw [hfree] at hc; cases hc
  rcases hx with hk | hk
  · refine wpAny_storeName_local hk hn (fun h' hn' hs => ?_) hcls
    obtain ⟨oL, _, _, hoL, _⟩ := id hn
    refine h _ ⟨I.ok, I.os, I.bare, ⟨fun b o e n hb hx => ?_, fun b o e n hb hx => ?_, I.base.free, fun b o e hx => ?_, I.base.tups, I.base.frzs, I.base.tbls⟩, ⟨_, hn', fun j y v' e1 e2 e3 => ?_⟩, fun y c e => ?_, I.free, I.freeC, fun p hp => ?_, tracked ⟨oL, hoL, I.free⟩ hs, by simpa using I.len⟩ ⟨_, hs, .inl rfl⟩
    · exact (hs.2 b (Nat.ne_of_lt (Nat.lt_of_lt_of_le (Heap.lt_size e) I.ok.above))).trans (I.base.keep b o e n hb hx)
    · obtain ⟨sl, e1⟩ := I.base.slot b o e n hb hx
      exact ⟨sl, (hs.2 b (Nat.ne_of_lt (Nat.lt_of_lt_of_le (Heap.lt_size e) I.ok.above))).trans e1⟩
    · obtain ⟨o', e1⟩ := I.base.there b o e hx
      exact ⟨o', (hs.2 b (Nat.ne_of_lt (Nat.lt_of_lt_of_le (Heap.lt_size e) I.ok.above))).trans e1⟩
    · by_cases hj : j = i
      · subst hj
        rw [hi] at e1; cases e1
        rw [List.getElem?_set_self hiσ] at e2
        cases e2
        exact ⟨u, r, .inl ⟨hk, by simp⟩⟩
      · rw [List.getElem?_set_ne (Ne.symm hj)] at e2
        obtain ⟨u', r', q⟩ := hl j y v' e1 e2 e3
        refine ⟨u', r', ?_⟩
        rcases q with ⟨k, e⟩ | ⟨k, c, e, z⟩
        · refine .inl ⟨k, ?_⟩
          have : y ≠ x := fun e => hj (nodup_ix hN e1 (e ▸ hi))
          simp [this, e]
        · exact .inr ⟨k, c, e, z.sameBut hs (cne y c e)⟩
    · obtain ⟨w', z⟩ := I.cell y c e
      exact ⟨w', z.sameBut hs (cne y c e)⟩
    · obtain ⟨e, n, ne, nf, d⟩ := I.pin p hp
      exact ⟨(hs.2 p.1 ne).trans e, n, ne, nf, d⟩
  · have hfn : X.fn x = true := by
      rcases hf with z | z
      · exact z
      · rw [z] at hk; cases hk
    obtain ⟨c, hc⟩ := I.ok.has x (.inl hk)
    obtain ⟨w', z⟩ := I.cell x c hc
    refine wpAny_storeName_cell I.ok.kind hk hc z (fun h' hc' hs => ?_)
    obtain ⟨oc, hoc, hocd⟩ := id z
    refine h { s with heap := h' } ⟨I.ok, I.os, I.bare, ⟨fun b o e n hb hx => ?_, fun b o e n hb hx => ?_, I.base.free, fun b o e hx => ?_, I.base.tups, I.base.frzs, I.base.tbls⟩, ⟨m, hn.sameBut hs (Ne.symm (cne x c hc)), fun j y v' e1 e2 e3 => ?_⟩, fun y c' e => ?_, I.free, I.freeC, fun p hp => ?_, tracked ⟨oc, hoc, I.freeC x c hc⟩ hs, by simpa using I.len⟩ ⟨c, hs, .inr hc⟩
    · exact (hs.2 b (Nat.ne_of_lt (Nat.lt_of_lt_of_le (Heap.lt_size e) (I.ok.cab x c hfn hc)))).trans (I.base.keep b o e n hb hx)
    · obtain ⟨sl, e1⟩ := I.base.slot b o e n hb hx
      exact ⟨sl, (hs.2 b (Nat.ne_of_lt (Nat.lt_of_lt_of_le (Heap.lt_size e) (I.ok.cab x c hfn hc)))).trans e1⟩
    · obtain ⟨o', e1⟩ := I.base.there b o e hx
      exact ⟨o', (hs.2 b (Nat.ne_of_lt (Nat.lt_of_lt_of_le (Heap.lt_size e) (I.ok.cab x c hfn hc)))).trans e1⟩
    · by_cases hj : j = i
      · subst hj
        rw [hi] at e1; cases e1
        rw [List.getElem?_set_self hiσ] at e2
        cases e2
        exact ⟨u, r, .inr ⟨.inl hk, c, hc, hc'⟩⟩
      · rw [List.getElem?_set_ne (Ne.symm hj)] at e2
        obtain ⟨u', r', q⟩ := hl j y v' e1 e2 e3
        refine ⟨u', r', ?_⟩
        rcases q with q | ⟨k, c', e, z'⟩
        · exact .inl q
        · refine .inr ⟨k, c', e, z'.sameBut hs ?_⟩
          rintro rfl
          exact hj (nodup_ix hN e1 (I.ok.inj _ _ _ e hc ▸ hi))
    · by_cases hcc : c' = c
      · subst hcc; exact ⟨_, hc'⟩
      · obtain ⟨w2, z2⟩ := I.cell y c' e
        exact ⟨w2, z2.sameBut hs hcc⟩
    · obtain ⟨e, n, ne, nf, d⟩ := I.pin p hp
      refine ⟨(hs.2 p.1 ?_).trans e, n, ne, nf, d⟩
      intro q
      rw [q, hoc] at e
      have q' : oc = p.2 := Option.some.inj e
      exact d w' (by rw [← q']; exact hocd)
theorem store_ok {M : Model} {A : Around} {E : Value → Shared → Prop} {i : Nat} {x : Str} {v : V} {u : Value} {Q : Unit → Shared → Prop} (I : Inv X pins σ H s) (hN : X.N.Nodup) (hi : X.N[i]? = some x) (hx : Loc X.env.scope x) (r : RelV v u)
    (h : ∀ s', Inv X pins (σ.set i (some v)) H s' → Q () s') (hf : X.fn x = true ∨ X.env.scope.names.lookup x = some .local := by first | exact .inl rfl | exact .inr rfl | assumption) : wpAny M A (storeName X.env x u) Q E s :=
  store_ok2 I hN hi hx r (fun s' I' _ => h s' I') hf
theorem Inv.call' {s' : Shared} {ch : List Addr} (I : Inv X pins σ H s) (ho : s'.os = s.os) (u : Un (frs X.stack) ch H H' s.heap s'.heap) (hok : HOk X.prog X.w H' s'.heap) (hg : AllBare s'.gens)
    (hch : ∀ b ∈ ch, (b ∈ X.ex ∨ X.s₀.heap.objs.size ≤ b) ∧ b ≠ X.env.locals ∧ (∀ x c, X.env.cells.lookup x = some c → c ≠ b) ∧ ∀ p ∈ X.pn ++ pins, p.1 ≠ b) : Inv X pins σ H' s' := by
  obtain ⟨h', g', d', t', o'⟩ := s'
  have e : o' = s.os := ho
  subst e
  exact I.call (g' := g') (t' := t') (d' := d') u hok hg hch
end
abbrev XK := Value → Option Addr → Hp → Prop
abbrev St := List (Option V)
abbrev VK := V → Hp → Prop
abbrev TE := St → Hp → VK → Prop
abbrev TT := St → Hp → (Bool → Hp → Prop) → Prop
abbrev TA := St → Hp → (List V → Hp → Prop) → Prop
structure Ends where
  nx : St → Hp → Prop
  rt : VK
  bk : St → Hp → Prop := fun _ _ => False
  ct : St → Hp → Prop := fun _ _ => False
abbrev TS := Ends → St → Hp → Prop
def EP (X : Cx) (pins : List (Addr × Obj)) (σ : St) (Q : VK) (u : Value) (s' : Shared) : Prop := ∃ v H', Inv X pins σ H' s' ∧ RelV v u ∧ Q v H'
def TP (X : Cx) (pins : List (Addr × Obj)) (σ : St) (Q : Bool → Hp → Prop) (b : Bool) (s' : Shared) : Prop := ∃ H', Inv X pins σ H' s' ∧ Q b H'
def AP (X : Cx) (pins : List (Addr × Obj)) (σ : St) (Q : List V → Hp → Prop) (us : List Value) (s' : Shared) : Prop := ∃ vs H', Inv X pins σ H' s' ∧ Vals vs us ∧ Q vs H'
def SP (X : Cx) (pins : List (Addr × Obj)) (D : Ends) (f : Flow) (s' : Shared) : Prop :=
  match f with
  | .next => ∃ σ' H', Inv X pins σ' H' s' ∧ D.nx σ' H'
  | .brk => ∃ σ' H', Inv X pins σ' H' s' ∧ D.bk σ' H'
  | .cont => ∃ σ' H', Inv X pins σ' H' s' ∧ D.ct σ' H'
  | .ret u => ∃ v σ' H', Inv X pins σ' H' s' ∧ RelV v u ∧ D.rt v H'
def PE (X : Cx) (e : Expr) (t : TE) : Prop :=
  ∀ (pins : List (Addr × Obj)) (s : Shared) (σ : St) (H : Hp) (Q : VK), Inv X pins σ H s → t σ H Q → wpAny (model X.prog X.w) X.A (eval e X.env) (EP X pins σ Q) X.xe s
def PT (X : Cx) (e : Expr) (t : TT) : Prop :=
  ∀ (pins : List (Addr × Obj)) (s : Shared) (σ : St) (H : Hp) (Q : Bool → Hp → Prop), Inv X pins σ H s → t σ H Q → wpAny (model X.prog X.w) X.A (isTrue e X.env (eval e X.env)) (TP X pins σ Q) X.xe s
def PW (X : Cx) (e : Expr) (t : TT) : Prop :=
  ∀ (whole : Sem Value) (pins : List (Addr × Obj)) (s : Shared) (σ : St) (H : Hp) (Q : Bool → Hp → Prop), Inv X pins σ H s → t σ H Q → wpAny (model X.prog X.w) X.A (isTrue e X.env whole) (TP X pins σ Q) X.xe s
theorem PW.pt {X : Cx} {e : Expr} {t : TT} (h : PW X e t) : PT X e t := h _
def PA (X : Cx) (es : List Expr) (t : TA) : Prop :=
  ∀ (pos : Pos) (pins : List (Addr × Obj)) (s : Shared) (σ : St) (H : Hp) (Q : List V → Hp → Prop), Inv X pins σ H s → t σ H Q → wpAny (model X.prog X.w) X.A (spliced (backTo pos (starEach es X.env))) (AP X pins σ Q) X.xe s
def PS (X : Cx) (st : Stmt) (t : TS) : Prop :=
  ∀ (pins : List (Addr × Obj)) (s : Shared) (σ : St) (H : Hp) (D : Ends), Inv X pins σ H s → t D σ H → wpAny (model X.prog X.w) X.A (exec st X.env) (SP X pins D) X.xe s
def PSs (X : Cx) (st : List Stmt) (t : TS) : Prop :=
  ∀ (pins : List (Addr × Obj)) (s : Shared) (σ : St) (H : Hp) (D : Ends), Inv X pins σ H s → t D σ H → wpAny (model X.prog X.w) X.A (execs st X.env) (SP X pins D) X.xe s
theorem thn {α : Type} {t : Sem α} {Q Q' : α → Shared → Prop} {M : Model} {A : Around} {E : Value → Shared → Prop} {s : Shared} (h : wpAny M A t Q E s) (hQ : ∀ a s, Q a s → Q' a s) : wpAny M A t Q' E s := wpAny_mono h hQ fun _ _ x => x
end L2
namespace L2
open PySem PySem.Spec PyProof.Rows
section
variable {X : Cx}
def tVar (i : Nat) : TE := fun σ H Q => ∃ v, σ[i]? = some (some v) ∧ Q v H
def tC (v : V) : TE := fun _ H Q => Q v H
theorem pe_var {i : Nat} {x : Str} {pos : Pos} (hN : X.N[i]? = some x) (hv : Vis X.env.scope x) (hd : (x == ("__debug__" : Str)) = false := by decide) (hcd : (x == ("__classdict__" : Str)) = false := by decide) : PE X (.Name x pos) (tVar i) := by
  intro pins s σ H Q I h
  obtain ⟨v, e, h⟩ := h
  obtain ⟨m, hn, hl⟩ := I.loc
  obtain ⟨u, r, l⟩ := hl i x v hN e hv
  have fin : EP X pins σ Q u s := ⟨v, H, I, r, h⟩
  rcases l with ⟨hk, hm⟩ | ⟨hk, c, hc, hcell⟩
  · exact wpAny_Name (wpAny_loadName_local I.ok.kind hk hn hm fin) hd
  · rcases hk with hk | hk
    · exact wpAny_Name (wpAny_loadName_cell I.ok.kind hk hc hcell fin) hd
    · exact wpAny_Name (wpAny_loadName_free I.ok.kind hk hc hcell fin hcd) hd
theorem pe_int {i j pos} : PE X (.Constant (.int i) j pos) (tC (.int i)) := fun _ _ _ H _ I h => wpAny_Constant_int ⟨.int i, H, I.tok _, ⟨_, rfl⟩, h⟩
theorem pe_bl {b j pos} : PE X (.Constant (.bool b) j pos) (tC (.bl b)) := fun _ _ _ H _ I h => Constant_bool ⟨.bl b, H, I, rfl, h⟩
theorem pe_non {j pos} : PE X (.Constant .none j pos) (tC .non) := fun _ _ _ H _ I h => Constant_none ⟨.non, H, I, rfl, h⟩
theorem pe_str {x j pos} : PE X (.Constant (.str x) j pos) (tC (.str x)) := fun _ _ _ H _ I h => Calls.Constant_str ⟨.str x, H, I.tok _, ⟨_, rfl⟩, h⟩
def Gl (X : Cx) (x : Str) : Prop := X.env.kindOf x = some .globalImplicit
theorem ld_glob {E : Value → Shared → Prop} {pins : List (Addr × Obj)} {s : Shared} {σ : St} {H : Hp} {x : Str} {u : Value} {pos : Pos} {Q : Value → Shared → Prop} (I : Inv X pins σ H s) (hg : Gl X x) (hm : X.mg x = some u) (h : Q u s)
    (hd : (x == ("__debug__" : Str)) = false := by decide) : wpAny (model X.prog X.w) X.A (eval (.Name x pos) X.env) Q E s :=
  Calls.Name_function_global I.ok.kind hg (Calls.loadGlobal_global (by rw [I.ok.glob]; exact I.mod.glob.keeps I.bk) hm h) hd
theorem ld_blt {E : Value → Shared → Prop} {pins : List (Addr × Obj)} {s : Shared} {σ : St} {H : Hp} {x : Str} {u : Value} {pos : Pos} {Q : Value → Shared → Prop} (I : Inv X pins σ H s) (hg : Gl X x) (hm : X.mg x = none) (hv : bootBuiltins x = some u) (h : Q u s)
    (hn : x ≠ "__name__" := by decide) (hd : (x == ("__debug__" : Str)) = false := by decide) : wpAny (model X.prog X.w) X.A (eval (.Name x pos) X.env) Q E s := by
  obtain ⟨mb, h1, h2⟩ := I.mod.blt
  exact Calls.Name_function_global I.ok.kind hg (Calls.loadGlobal_builtin (by rw [I.ok.glob]; exact I.mod.glob.keeps I.bk) hm (by rw [I.ok.blt]; exact h1.keeps I.bk) ((h2 x hn).trans hv) h) hd
theorem pe_glob {x : Str} {v : V} {u : Value} {pos : Pos} (hg : Gl X x) (hm : X.mg x = some u) (r : RelV v u) (hd : (x == ("__debug__" : Str)) = false := by decide) : PE X (.Name x pos) (tC v) :=
  fun _ _ _ H _ I h => ld_glob I hg hm ⟨v, H, I, r, h⟩ hd
theorem pe_bltn {x : Str} {v : V} {u : Value} {pos : Pos} (hg : Gl X x) (hm : X.mg x = none) (hv : bootBuiltins x = some u) (r : RelV v u) (hn : x ≠ "__name__" := by decide) (hd : (x == ("__debug__" : Str)) = false := by decide) : PE X (.Name x pos) (tC v) :=
  fun _ _ _ H _ I h => ld_blt I hg hm hv ⟨v, H, I, r, h⟩ hn hd
def t2I (ta tb : TE) (k : Int → Int → Hp → Prop) : St → Hp → Prop := fun σ H => ta σ H fun x H1 => tb σ H1 fun y H2 => ∃ i j, x = .int i ∧ y = .int j ∧ k i j H2
def tAdd (ta tb : TE) : TE := fun σ H Q => t2I ta tb (fun i j H2 => Q (.int (i + j)) H2) σ H
def tSub (ta tb : TE) : TE := fun σ H Q => t2I ta tb (fun i j H2 => Q (.int (i - j)) H2) σ H
def tMul (ta tb : TE) : TE := fun σ H Q => t2I ta tb (fun i j H2 => (-(2 ^ 64) < i ∧ i < 2 ^ 64) ∧ Q (.int (i * j)) H2) σ H
variable {a b : Expr} {ta tb : TE} {pos : Pos}
def PC (X : Cx) (op : CmpOp) (a b : Expr) (t : TE) : Prop :=
  ∀ (pins : List (Addr × Obj)) (s : Shared) (σ : St) (H : Hp) (Q : VK), Inv X pins σ H s → t σ H Q →
    wpAny (model X.prog X.w) X.A (eval a X.env) (fun v s₁ => wpAny (model X.prog X.w) X.A (eval b X.env) (fun u s₂ => wpAny (model X.prog X.w) X.A (compareOp op v u) (EP X pins σ Q) X.xe s₂) X.xe s₁) X.xe s
def tCmp (p : Int → Int → Bool) (ta tb : TE) : TE := fun σ H Q => t2I ta tb (fun i j H2 => Q (.bl (p i j)) H2) σ H
abbrev tLt : TE → TE → TE := tCmp fun i j => decide (i < j)
abbrev tLe : TE → TE → TE := tCmp fun i j => decide (i ≤ j)
abbrev tGt : TE → TE → TE := tCmp fun i j => decide (j < i)
abbrev tGe : TE → TE → TE := tCmp fun i j => decide (j ≤ i)
abbrev tEqI : TE → TE → TE := tCmp fun i j => decide (i = j)
abbrev tNeI : TE → TE → TE := tCmp fun i j => !decide (i = j)
def tIsN (ta : TE) : TE := fun σ H Q => ta σ H fun x H1 => Q (.bl (decide (x = .non))) H1
def tNotN (ta : TE) : TE := fun σ H Q => ta σ H fun x H1 => Q (.bl (!decide (x = .non))) H1
def tB (t : TE) : TT := fun σ H Q => t σ H fun x H1 => ∃ c, x = .bl c ∧ Q c H1
theorem pt_val {e : Expr} {t : TE} (h : PE X e t) (he : ∀ whole, isTrue e X.env whole = (do let v ← whole; standAt e.pos; holding [v] (truthy v)) := by intro _; rfl) : PT X e (tB t) := by
  intro pins s σ H Q I hw
  refine isTrue_plain (thn (h pins s σ H _ I hw) fun v s1 ⟨x, H1, I1, r1, q1⟩ => ?_) (he _)
  obtain ⟨d, rfl, q⟩ := q1
  cases r1
  exact wpAny_truthy_bool ⟨H1, I1, q⟩
variable {tA tB' : TT} {rest : List Expr}
def tAnd (t u : TT) : TT := fun σ H Q => t σ H fun c H1 => if c = true then u σ H1 Q else Q false H1
def tOr (t u : TT) : TT := fun σ H Q => t σ H fun c H1 => if c = true then Q true H1 else u σ H1 Q
def tNot (t : TT) : TT := fun σ H Q => t σ H fun c H1 => Q (!c) H1
theorem pw_and1 (ha : PT X a tA) : PW X (.BoolOp .And [a] pos) tA := by
  intro wh pins s σ H Q I h
  refine isTrue_and (thn (ha pins s σ H Q I h) fun c s1 e => ?_)
  cases c with
  | true => exact isTrue_and_nil e
  | false => exact e
theorem pw_or1 (ha : PT X a tA) : PW X (.BoolOp .Or [a] pos) tA := by
  intro wh pins s σ H Q I h
  refine isTrue_or (thn (ha pins s σ H Q I h) fun c s1 e => ?_)
  cases c with
  | false => exact isTrue_or_nil e
  | true => exact e
theorem pw_and (ha : PT X a tA) (hb : PW X (.BoolOp .And (b :: rest) pos) tB') : PW X (.BoolOp .And (a :: b :: rest) pos) (tAnd tA tB') := by
  intro wh pins s σ H Q I h
  refine isTrue_and (thn (ha pins s σ H _ I h) fun c s1 ⟨H1, I1, q1⟩ => ?_)
  cases c with
  | true => exact hb wh pins s1 σ H1 Q I1 q1
  | false => exact ⟨H1, I1, q1⟩
theorem pw_or (ha : PT X a tA) (hb : PW X (.BoolOp .Or (b :: rest) pos) tB') : PW X (.BoolOp .Or (a :: b :: rest) pos) (tOr tA tB') := by
  intro wh pins s σ H Q I h
  refine isTrue_or (thn (ha pins s σ H _ I h) fun c s1 ⟨H1, I1, q1⟩ => ?_)
  cases c with
  | true => exact ⟨H1, I1, q1⟩
  | false => exact hb wh pins s1 σ H1 Q I1 q1
theorem pt_not (ha : PT X a tA) : PT X (.UnaryOp .Not a pos) (tNot tA) := by
  intro pins s σ H Q I h
  exact isTrue_not (ha pins s σ H (fun c H1 => Q (!c) H1) I h)
def tAndV (ta tb : TE) : TE := fun σ H Q => ta σ H fun x H1 => ∃ c, x = .bl c ∧ if c = true then tb σ H1 Q else Q (.bl false) H1
def tOrV (ta tb : TE) : TE := fun σ H Q => ta σ H fun x H1 => ∃ c, x = .bl c ∧ if c = true then Q (.bl true) H1 else tb σ H1 Q
def tNotV (ta : TE) : TE := fun σ H Q => ta σ H fun x H1 => ∃ c, x = .bl c ∧ Q (.bl (!c)) H1
theorem pe_one {op} {t : TE} (h : PE X a t) : PE X (.BoolOp op [a] pos) t := fun pins s σ H Q I hw => BoolOp_one (h pins s σ H Q I hw)
theorem pe_and (ha : PE X a ta) (hb : PE X (.BoolOp .And (b :: rest) pos) tb) : PE X (.BoolOp .And (a :: b :: rest) pos) (tAndV ta tb) := by
  intro pins s σ H Q I h
  refine BoolOp_and (thn (ha pins s σ H _ I h) fun v s1 ⟨x, H1, I1, r1, q1⟩ => ?_)
  obtain ⟨c, rfl, q1⟩ := q1
  cases r1
  refine wpAny_truthy_bool ?_
  cases c with
  | true => exact hb pins s1 σ H1 Q I1 q1
  | false => exact ⟨.bl false, H1, I1, rfl, q1⟩
theorem pe_or (ha : PE X a ta) (hb : PE X (.BoolOp .Or (b :: rest) pos) tb) : PE X (.BoolOp .Or (a :: b :: rest) pos) (tOrV ta tb) := by
  intro pins s σ H Q I h
  refine BoolOp_or (thn (ha pins s σ H _ I h) fun v s1 ⟨x, H1, I1, r1, q1⟩ => ?_)
  obtain ⟨c, rfl, q1⟩ := q1
  cases r1
  refine wpAny_truthy_bool ?_
  cases c with
  | false => exact hb pins s1 σ H1 Q I1 q1
  | true => exact ⟨.bl true, H1, I1, rfl, q1⟩
theorem pe_not (ha : PE X a ta) : PE X (.UnaryOp .Not a pos) (tNotV ta) := by
  intro pins s σ H Q I h
  refine UnaryOp_ (thn (ha pins s σ H _ I h) fun v s1 ⟨x, H1, I1, r1, q1⟩ => ?_)
  obtain ⟨c, rfl, q1⟩ := q1
  cases r1
  exact not_of (wpAny_truthy_bool ⟨.bl (!c), H1, I1, rfl, q1⟩)
def tIf (t : TT) (ta tb : TE) : TE := fun σ H Q => t σ H fun c H1 => if c = true then ta σ H1 Q else tb σ H1 Q
end
end L2
namespace L2
open PySem PySem.Spec PyProof.Rows
def SqL (K : PySem.W.Frag) (H : Hp) (a : Addr) (xs : List V) : Prop :=
  Rd H a (.lst xs) ∨
    ∃ (o : Obj) (its : Array Value) (n : Nat), K.lookup a = some o ∧ o.cls = .type "list" ∧ o.dict = none ∧ o.data = .seq its n ∧ its.size ≤ sizeLine ∧ Vals xs its.toList
def SqT (K : PySem.W.Frag) (H : Hp) (a : Addr) (xs : List V) : Prop :=
  Rd H a (.tup xs) ∨
    ∃ (o : Obj) (its : Array Value) (n : Nat), K.lookup a = some o ∧ o.cls = .type "tuple" ∧ o.data = .seq its n ∧ its.size ≤ sizeLine ∧ Vals xs its.toList
def absV : Value → Option V
  | .none => some .non
  | .bool b => some (.bl b)
  | .int i _ => some (.int i)
  | .str x _ => some (.str x)
  | .bytes b _ => some (.byt b)
  | .float b _ => some (.flt b)
  | .ref a => some (.ref a)
  | .type n => some (.ty n)
  | _ => none
theorem RelV.abs {x : V} {u : Value} (r : RelV x u) : absV u = some x := by
  cases x with
  | non => cases r; rfl
  | bl _ => cases r; rfl
  | int _ => obtain ⟨t, rfl⟩ := r; rfl
  | str _ => obtain ⟨t, rfl⟩ := r; rfl
  | byt _ => obtain ⟨t, rfl⟩ := r; rfl
  | flt _ => obtain ⟨t, rfl⟩ := r; rfl
  | ref _ => cases r; rfl
  | ty _ => cases r; rfl
theorem RelV.inj {x y : V} {u : Value} (r : RelV x u) (q : RelV y u) : x = y := Option.some.inj (r.abs.symm.trans q.abs)
theorem Vals.inj : ∀ {xs ys : List V} {us : List Value}, Vals xs us → Vals ys us → xs = ys
  | _, _, _, .nil, .nil => rfl
  | _, _, _, .cons r t, .cons r' t' => by rw [r.inj r', Vals.inj t t']
section
variable {X : Cx} {pins : List (Addr × Obj)} {σ : St} {H : Hp} {s : Shared} {a : Addr} {xs ys : List V}
theorem SqL.of {K : PySem.W.Frag} (h : H a = some (.lst xs)) : SqL K H a xs := .inl (.inl h)
theorem SqT.of {K : PySem.W.Frag} (h : H a = some (.tup xs)) : SqT K H a xs := .inl (.inl h)
theorem Inv.list (I : Inv X pins σ H s) (h : SqL X.K H a xs) : ∃ its : List Value, Vals xs its ∧ PlainL s.heap a its.toArray ∧ xs.length ≤ sizeLine := by
  rcases h with h | ⟨o, its, n, hk, hc, hd, hs, hz, r⟩
  · obtain ⟨z, its, n, r, e⟩ := h.ok I.hok
    exact ⟨its, r, ⟨_, n, e, rfl, rfl, rfl⟩, z⟩
  · refine ⟨its.toList, r, ⟨o, n, I.kIn a o hk, hc, hd, by simpa using hs⟩, ?_⟩
    have e := r.length
    simp only [Array.length_toList] at e
    omega
theorem Inv.tuple (I : Inv X pins σ H s) (h : SqT X.K H a xs) : ∃ its : List Value, Vals xs its ∧ IsTup s.heap a its.toArray ∧ xs.length ≤ sizeLine := by
  rcases h with h | ⟨o, its, n, hk, hc, hs, hz, r⟩
  · obtain ⟨z, its, r, p⟩ := h.ok I.hok
    exact ⟨its, r, p, z⟩
  · refine ⟨its.toList, r, ⟨o, I.kIn a o hk, hc, n, by simpa using hs⟩, ?_⟩
    have e := r.length
    simp only [Array.length_toList] at e
    omega
theorem Inv.list_inj (I : Inv X pins σ H s) (h : SqL X.K H a xs) (h' : SqL X.K H a ys) : xs = ys := by
  obtain ⟨its, r, ⟨o, n, e, _, _, d⟩, _⟩ := I.list h
  obtain ⟨its', r', ⟨o', n', e', _, _, d'⟩, _⟩ := I.list h'
  rw [e] at e'; cases e'
  rw [d] at d'
  injection d' with d1 _
  have : its = its' := by simpa using congrArg Array.toList d1
  subst this
  exact r.inj r'
theorem Inv.tuple_inj (I : Inv X pins σ H s) (h : SqT X.K H a xs) (h' : SqT X.K H a ys) : xs = ys := by
  obtain ⟨its, r, ⟨o, e, _, n, d⟩, _⟩ := I.tuple h
  obtain ⟨its', r', ⟨o', e', _, n', d'⟩, _⟩ := I.tuple h'
  rw [e] at e'; cases e'
  rw [d] at d'
  injection d' with d1 _
  have : its = its' := by simpa using congrArg Array.toList d1
  subst this
  exact r.inj r'
end
abbrev Cx.wish (X : Cx) (E : Value → Shared → Prop) : Cx := { X with xe := E }
abbrev Cx.nox (X : Cx) : Cx := X.wish fun _ _ => False
theorem Cx.Ok.wish {X : Cx} (ok : X.Ok) (E : Value → Shared → Prop) : (X.wish E).Ok :=
  ⟨ok.mod, ok.kind, ok.glob, ok.blt, ok.above, ok.inj, ok.has, ok.cab, ok.hd, ok.frames, ok.stk, ok.exf, ok.bs, ok.bsz, ok.noex, ok.exfs, ok.funs, ok.frf⟩
theorem Cx.Ok.unwish {X : Cx} {E : Value → Shared → Prop} (ok : (X.wish E).Ok) : X.Ok :=
  ⟨ok.mod, ok.kind, ok.glob, ok.blt, ok.above, ok.inj, ok.has, ok.cab, ok.hd, ok.frames, ok.stk, ok.exf, ok.bs, ok.bsz, ok.noex, ok.exfs, ok.funs, ok.frf⟩
section
variable {X : Cx} {pins : List (Addr × Obj)} {σ : St} {H : Hp} {s : Shared} {E : Value → Shared → Prop}
theorem Inv.wish (I : Inv X pins σ H s) (E : Value → Shared → Prop) : Inv (X.wish E) pins σ H s := ⟨I.ok.wish E, I.os, I.bare, I.base, I.loc, I.cell, I.free, I.freeC, I.pin, I.hok, I.len⟩
theorem Inv.unwish (I : Inv (X.wish E) pins σ H s) : Inv X pins σ H s := ⟨I.ok.unwish, I.os, I.bare, I.base, I.loc, I.cell, I.free, I.freeC, I.pin, I.hok, I.len⟩
theorem SP.unwish {D : Ends} {f : Flow} {s' : Shared} (h : SP (X.wish E) pins D f s') : SP X pins D f s' := by
  cases f with
  | next => obtain ⟨σ', H', I, q⟩ := h; exact ⟨σ', H', I.unwish, q⟩
  | brk => obtain ⟨σ', H', I, q⟩ := h; exact ⟨σ', H', I.unwish, q⟩
  | cont => obtain ⟨σ', H', I, q⟩ := h; exact ⟨σ', H', I.unwish, q⟩
  | ret u => obtain ⟨v, σ', H', I, r, q⟩ := h; exact ⟨v, σ', H', I.unwish, r, q⟩
theorem PSs.nox {st : List Stmt} {t : TS} (h : PSs X.nox st t) : PSs X st t := fun pins s σ H D I hw =>
  wpAny_mono (h pins s σ H D (I.wish _) hw) (fun _ _ q => q.unwish) fun _ _ z => False.elim z
end
section
variable {X : Cx} {st : Stmt} {rest : List Stmt} {t u : TS} {e : Expr} {te : TE} {pos : Pos}
def tNext : TS := fun D σ H => D.nx σ H
def tSeq (t u : TS) : TS := fun D σ H => t { D with nx := u D } σ H
theorem pss_nil : PSs X [] tNext := fun _ _ σ H _ I h => wpAny_execs_nil ⟨σ, H, I, h⟩
theorem pss_cons (h1 : PS X st t) (h2 : PSs X rest u) : PSs X (st :: rest) (tSeq t u) := by
  intro pins s σ H D I h
  refine wpAny_execs_cons (thn (h1 pins s σ H { D with nx := u D } I h) fun f s1 q => ?_)
  cases f with
  | next =>
    obtain ⟨σ', H', I', q⟩ := q
    exact h2 pins s1 σ' H' D I' q
  | ret v => exact q
  | brk => exact q
  | cont => exact q
theorem pss_one (h1 : PS X st t) : PSs X [st] t := by
  intro pins s σ H D I h
  refine wpAny_execs_cons (thn (h1 pins s σ H D I h) fun f s1 q => ?_)
  cases f with
  | next => exact wpAny_execs_nil q
  | ret v => exact q
  | brk => exact q
  | cont => exact q
def tBreak : TS := fun D σ H => D.bk σ H
def tCont : TS := fun D σ H => D.ct σ H
theorem ps_break : PS X (.Break pos) tBreak := fun _ _ σ H _ I h => wpAny_Break ⟨σ, H, I, h⟩
theorem Inv.quiet {pins : List (Addr × Obj)} {σ : St} {H : Hp} {s : Shared} (I : Inv X pins σ H s) : interactive X.env = false := by simp [interactive, I.ok.kind]
def tDrop (te : TE) : TS := fun D σ H => te σ H fun _ H1 => D.nx σ H1
theorem ps_expr (he : PE X e te) (hs : swapsWith e none pos.line X.env = pure false := by rfl) : PS X (.Expr e pos) (tDrop te) := by
  intro pins s σ H D I h
  exact wpAny_Expr_any (thn (he pins s σ H _ I h) fun v s1 ⟨x, H1, I1, r1, q1⟩ => ⟨σ, H1, I1, q1⟩) I.quiet hs
def tRet (te : TE) : TS := fun D σ H => te σ H D.rt
theorem ps_ret (he : PE X e te) : PS X (.Return (some e) pos) (tRet te) := by
  intro pins s σ H D I h
  exact wpAny_Return_some (thn (he pins s σ H _ I h) fun v s1 ⟨x, H1, I1, r1, q1⟩ => ⟨x, σ, H1, I1, r1, q1⟩)
def tRetN : TS := fun D _ H => D.rt .non H
def tIfS (c : TT) (t u : TS) : TS := fun D σ H => c σ H fun b H1 => if b = true then t D σ H1 else u D σ H1
theorem ps_if {c : Expr} {a b : List Stmt} {tc : TT} (hc : PT X c tc) (ha : PSs X a t) (hb : PSs X b u) : PS X (.If c a b pos) (tIfS tc t u) := by
  intro pins s σ H D I h
  refine wpAny_If (thn (hc pins s σ H _ I h) fun d s1 ⟨H1, I1, q1⟩ => ?_)
  cases d with
  | true => exact ha pins s1 σ H1 D I1 q1
  | false => exact hb pins s1 σ H1 D I1 q1
def tNever : TS := fun _ _ _ => False
theorem ps_never : PS X st tNever := fun _ _ _ _ _ _ h => h.elim
end
abbrev TG := V → St → Hp → (St → Hp → Prop) → Prop
abbrev TGs := List V → St → Hp → (St → Hp → Prop) → Prop
def PG (X : Cx) (target : Expr) (t : TG) : Prop :=
  ∀ (pins : List (Addr × Obj)) (s : Shared) (σ : St) (H : Hp) (v : V) (u : Value) (Q : St → Hp → Prop), Inv X pins σ H s → RelV v u → t v σ H Q →
    wpAny (model X.prog X.w) X.A (assign target X.env u) (fun _ s' => ∃ σ' H', Inv X pins σ' H' s' ∧ Q σ' H') X.xe s
def PGs (X : Cx) (ts : List Expr) (t : TGs) : Prop :=
  ∀ (pins : List (Addr × Obj)) (s : Shared) (σ : St) (H : Hp) (vs : List V) (us : List Value) (Q : St → Hp → Prop), Inv X pins σ H s → Vals vs us → t vs σ H Q →
    wpAny (model X.prog X.w) X.A (assignInOrder ((assignEach ts X.env).map (·.2)) us) (fun _ s' => ∃ σ' H', Inv X pins σ' H' s' ∧ Q σ' H') X.xe s
abbrev TSet := V → V → V → Hp → (Hp → Prop) → Prop
def PSet (X : Cx) (t : TSet) : Prop :=
  ∀ (pins : List (Addr × Obj)) (s : Shared) (σ : St) (H : Hp) (o i v : V) (ov iv u : Value) (Q : Hp → Prop), Inv X pins σ H s → RelV o ov → RelV i iv → RelV v u → t o i v H Q →
    wpAny (model X.prog X.w) X.A (setItem ov iv u) (fun _ s' => ∃ H', Inv X pins σ H' s' ∧ Q H') X.xe s
abbrev TIp := V → V → Hp → VK → Prop
def PIp (X : Cx) (op : Operator) (t : TIp) : Prop :=
  ∀ (pins : List (Addr × Obj)) (s : Shared) (σ : St) (H : Hp) (x y : V) (v u : Value) (Q : VK), Inv X pins σ H s → RelV x v → RelV y u → t x y H Q →
    wpAny (model X.prog X.w) X.A (inplaceOp op v u) (EP X pins σ Q) X.xe s
section
variable {X : Cx} {pos : Pos}
def gName (i : Nat) : TG := fun v σ H Q => Q (σ.set i (some v)) H
theorem pg_name {i : Nat} {x : Str} (hN : X.N.Nodup) (hi : X.N[i]? = some x) (hx : Loc X.env.scope x) (hf : X.fn x = true ∨ X.env.scope.names.lookup x = some .local := by first | exact .inl rfl | exact .inr rfl | assumption) : PG X (.Name x pos) (gName i) := by
  intro pins s σ H v u Q I r h
  exact wpAny_assign_Name (store_ok I hN hi hx r (fun s' I' => ⟨_, H, I', h⟩) hf)
def gNil : TGs := fun vs σ H Q => vs = [] ∧ Q σ H
def gCons (t : TG) (u : TGs) : TGs := fun vs σ H Q => ∃ v r, vs = v :: r ∧ t v σ H fun σ' H' => u r σ' H' Q
theorem pgs_nil : PGs X [] gNil := by
  intro pins s σ H vs us Q I r h
  obtain ⟨e, h⟩ := h
  subst e
  cases r
  exact assignInOrder_nil ⟨σ, H, I, h⟩
theorem pgs_cons {e : Expr} {es : List Expr} {t : TG} {u : TGs} (h1 : PG X e t) (h2 : PGs X es u)
    (hs : (assignEach (e :: es) X.env).map (·.2) = assign e X.env :: (assignEach es X.env).map (·.2) := by rfl) : PGs X (e :: es) (gCons t u) := by
  intro pins s σ H vs us Q I r h
  obtain ⟨v, vr, e1, h⟩ := h
  subst e1
  cases r with
  | cons r rr =>
    rw [hs]
    refine assignInOrder_cons (thn (h1 pins s σ H _ _ _ I r h) fun _ s1 ⟨σ1, H1, I1, q1⟩ => ?_)
    exact h2 pins s1 σ1 H1 _ _ Q I1 rr q1
def gTup (K : PySem.W.Frag) (n : Nat) (t : TGs) : TG := fun v σ H Q => ∃ a xs, v = .ref a ∧ SqT K H a xs ∧ xs.length = n ∧ t xs σ H Q
theorem pg_tup {es : List Expr} {k : Nat} {t : TGs} {n : Nat} (hc : X.calm = true) (h : PGs X es t)
    (hn : (assignEach es X.env).length = n := by rfl) (hst : (assignEach es X.env).findIdx? (·.1) = none := by rfl) : PG X (.Tuple es k pos) (gTup X.K n t) := by
  intro pins s σ H v u Q I r hw
  obtain ⟨a, xs, e1, hq, hl, hw⟩ := hw
  subst e1
  cases r
  obtain ⟨its, rv, ht, hz⟩ := I.tuple hq
  refine assign_Tuple_tuple (I.ok.hd hc) ht (by simp [hn, ← hl, rv.length]) hst fun h' hx => ?_
  have I1 : Inv X pins σ H { s with heap := h' } := I.kept (t' := s.toks) fun b o e => hx b o (Nat.ne_of_lt (Heap.lt_size e)) e
  exact h pins _ σ H xs _ Q I1 (by simpa using rv) hw
def gSub (to ti : TE) (t : TSet) : TG := fun v σ H Q => to σ H fun o H1 => ti σ H1 fun i H2 => t o i v H2 fun H3 => Q σ H3
theorem pg_sub {o i : Expr} {to ti : TE} {t : TSet} (ho : PE X o to) (hi : PE X i ti) (hs : PSet X t)
    (ha : ∀ v, assign (.Subscript o i pos) X.env v = (do
      let ov ← holding [v] (eval o X.env)
      let iv ← holding [v, ov] (eval i X.env)
      standAt pos
      holding [v, ov, iv] (setItem ov iv v)
      release [v, ov, iv] []) := by intro _; rfl) : PG X (.Subscript o i pos) (gSub to ti t) := by
  intro pins s σ H v u Q I r h
  rw [ha]
  refine wpAny_bind (wpAny_holding (thn (ho pins s σ H _ I h) fun ov s1 ⟨x, H1, I1, r1, q1⟩ => ?_))
  refine wpAny_bind (wpAny_holding (thn (hi pins s1 σ H1 _ I1 q1) fun iv s2 ⟨y, H2, I2, r2, q2⟩ => ?_))
  refine wpAny_bind (wpAny_standAt (wpAny_bind (wpAny_holding (thn (hs pins s2 σ H2 x y v ov iv u _ I2 r1 r2 r q2) fun _ s3 ⟨H3, I3, q3⟩ => ?_))))
  exact wpAny_release ⟨σ, H3, I3, q3⟩
def tAsg (te : TE) (g : TG) : TS := fun D σ H => te σ H fun x H1 => g x σ H1 D.nx
theorem ps_asg {tg e : Expr} {te : TE} {g : TG} (he : PE X e te) (hg : PG X tg g) (hs : swapsWithSole [tg] e pos.line X.env = pure false := by rfl) (hw : swappedStores [tg] e X.env = pure none := by rfl)
    (h1 : (assignEach [tg] X.env).map (·.2) = [assign tg X.env] := by rfl) : PS X (.Assign [tg] e pos) (tAsg te g) := by
  intro pins s σ H D I h
  refine wpAny_Assign_stores (thn (he pins s σ H _ I h) fun v s1 ⟨x, H1, I1, r1, q1⟩ => ?_) hs hw
  rw [h1]
  exact thn (hg pins s1 σ H1 x v _ I1 r1 q1) fun _ s2 q => q
theorem ps_set {i : Nat} {x : Str} {e : Expr} {te : TE} {pos' : Pos} (hN : X.N.Nodup) (hi : X.N[i]? = some x) (hx : Loc X.env.scope x) (he : PE X e te) (hs : swapsWith e (some (.Name x pos')) pos.line X.env = pure false := by rfl) (hf : X.fn x = true ∨ X.env.scope.names.lookup x = some .local := by first | exact .inl rfl | exact .inr rfl | assumption) :
    PS X (.Assign [.Name x pos'] e pos) (tAsg te (gName i)) := by
  intro pins s σ H D I h
  refine wpAny_Assign_Name (thn (he pins s σ H _ I h) fun v s1 ⟨y, H1, I1, r1, q1⟩ => ?_) hs
  exact store_ok I1 hN hi hx r1 (fun s2 I2 => ⟨_, H1, I2, q1⟩) hf
def tPar (i j : Nat) (ta : TA) : TS := fun D σ H => ta σ H fun vs H1 => ∃ v w, vs = [v, w] ∧ D.nx ((σ.set i (some v)).set j (some w)) H1
def tAug (i : Nat) (te : TE) (ti : TIp) : TS := fun D σ H => ∃ x, σ[i]? = some (some x) ∧ te σ H fun y H1 => ti x y H1 fun z H2 => D.nx (σ.set i (some z)) H2
def tAugS (to ti te : TE) (tget : V → V → Hp → VK → Prop) (tip : TIp) (tset : TSet) : TS := fun D σ H => to σ H fun o H1 => ti σ H1 fun i H2 => tget o i H2 fun x H3 => te σ H3 fun y H4 => tip x y H4 fun z H5 => tset o i z H5 fun H6 => D.nx σ H6
def PGet (X : Cx) (t : V → V → Hp → VK → Prop) : Prop :=
  ∀ (pins : List (Addr × Obj)) (s : Shared) (σ : St) (H : Hp) (o i : V) (ov iv : Value) (Q : VK), Inv X pins σ H s → RelV o ov → RelV i iv → t o i H Q →
    wpAny (model X.prog X.w) X.A (getItem ov iv) (EP X pins σ Q) X.xe s
def ipI (f : Int → Int → Int) : TIp := fun x y H Q => ∃ i j, x = .int i ∧ y = .int j ∧ Q (.int (f i j)) H
end
section
variable {X : Cx} {pos : Pos}
def tWhile (c : TT) (tb : TS) : TS := fun D σ H => ∃ W : Nat → St → Hp → Prop, (∃ m, W m σ H) ∧ ∀ m σ H, W m σ H →
  c σ H fun b H1 => if b = true then ∃ N : St → Hp → Prop, (∀ σ' H', N σ' H' → ∃ m', m' < m ∧ W m' σ' H') ∧ tb { D with nx := N, ct := N, bk := D.nx } σ H1 else D.nx σ H1
theorem ps_while {c : Expr} {body : List Stmt} {tc : TT} {tb : TS} (hp : PassesOwn (model X.prog X.w) X.A X.env X.xe) (hc : PT X c tc) (hb : PSs X body tb) : PS X (.While c body [] pos) (tWhile tc tb) := by
  intro pins s σ H D I h
  obtain ⟨W, ⟨m0, w0⟩, turn⟩ := h
  refine wpAny_While (codeAny_whileLoop (fun n s' => ∃ σ' H', Inv X pins σ' H' s' ∧ W n σ' H') ?_ m0 ⟨σ, H, I, w0⟩)
  rintro n s1 ⟨σ1, H1, I1, w1⟩
  refine wpAny_passesOwn hp (thn (hc pins s1 σ1 H1 _ I1 (turn n σ1 H1 w1)) fun b s2 ⟨H2, I2, q2⟩ => ?_)
  cases b with
  | true =>
    obtain ⟨N, hN, q2⟩ := q2
    rw [if_pos rfl]
    refine wpAny_passesOwn hp (thn (hb pins s2 σ1 H2 _ I2 q2) fun f s3 q3 => ?_)
    cases f with
    | next =>
      obtain ⟨σ3, H3, I3, n3⟩ := q3
      obtain ⟨m', hm, w3⟩ := hN σ3 H3 n3
      exact ⟨m', hm, σ3, H3, I3, w3⟩
    | cont =>
      obtain ⟨σ3, H3, I3, n3⟩ := q3
      obtain ⟨m', hm, w3⟩ := hN σ3 H3 n3
      exact ⟨m', hm, σ3, H3, I3, w3⟩
    | brk => exact q3
    | ret v => exact q3
  | false =>
    rw [if_neg Bool.false_ne_true]
    exact wpAny_execs_nil ⟨σ1, H2, I2, q2⟩
end
structure It where
  go : Nat → Hp → Prop
  yld : Nat → Hp → V → Hp → Prop
  stop : Nat → Hp → Prop
def FpOk (X : Cx) (pins : List (Addr × Obj)) (H : Hp) (b : Addr) : Prop :=
  H b = none ∧ b ≠ X.env.locals ∧ b ∉ X.fs ∧ (b ∈ X.ex ∨ X.s₀.heap.objs.size ≤ b) ∧ (∀ x c, X.env.cells.lookup x = some c → c ≠ b) ∧ ∀ p ∈ X.pn ++ pins, p.1 ≠ b
theorem Inv.fpOk {X : Cx} {pins : List (Addr × Obj)} {σ : St} {H H' : Hp} {s : Shared} {b : Addr} (I : Inv X pins σ H s) (hb : s.heap.objs.size ≤ b) (hn : H' b = none) : FpOk X pins H' b := by
  refine ⟨hn, Nat.ne_of_gt (Nat.lt_of_lt_of_le I.lt hb), I.nofs hb, .inr (Nat.le_trans I.sz hb), fun x c e z => ?_, fun p hp z => ?_⟩
  · obtain ⟨v, q⟩ := I.cell x c e
    exact absurd (Nat.lt_of_lt_of_le q.lt (by rw [z]; exact hb)) (Nat.lt_irrefl _)
  · exact absurd (Nat.lt_of_lt_of_le (Heap.lt_size (I.pin p hp).1) (by rw [z]; exact hb)) (Nat.lt_irrefl _)
structure Turn (P : Program) (w : World) (K : PySem.W.Frag) (tg : Expr) (J : It) (fp : List Addr) (it : Addr) (tn : Nat → Heap → Prop) : Prop where
  mem : it ∈ fp
  obj : ∀ i h, tn i h → ∀ b ∈ fp, ∃ o, h.get? b = some o ∧ ∀ v, o.data ≠ .cell v
  keep : ∀ i h h', tn i h → (∀ b ∈ fp, ∀ o, h.get? b = some o → h'.get? b = some o) → tn i h'
  item : ∀ (X : Cx), X.prog = P → X.w = w → X.K = K → X.calm = true → ∀ (i : Nat) (pins : List (Addr × Obj)) (s : Shared) (σ : St) (H : Hp) (E : Value → Shared → Prop), Inv X pins σ H s → (∀ b ∈ fp, FpOk X pins H b) → tn i s.heap → J.go i H →
    wpAny (model P w) X.A (pyNext (.ref it)) (fun r s1 => ∃ u, r = some u ∧
      wpAny (model P w) X.A (letOwnedTupleGo tg (.ref it) u) (fun _ s2 => ∃ x H', Inv X pins σ H' s2 ∧ RelV x u ∧ J.yld i H x H' ∧ tn (i + 1) s2.heap ∧ ∀ b ∈ fp, H' b = none) E s1) E s
  done : ∀ (X : Cx), X.prog = P → X.w = w → X.K = K → X.calm = true → ∀ (i : Nat) (pins : List (Addr × Obj)) (s : Shared) (σ : St) (H : Hp) (E : Value → Shared → Prop), Inv X pins σ H s → (∀ b ∈ fp, FpOk X pins H b) → tn i s.heap → J.stop i H →
    wpAny (model P w) X.A (pyNext (.ref it)) (fun r s1 => r = none ∧ Inv X pins σ H s1) E s
  self : ∀ (A : Around) (i : Nat) (s : Shared) (Q : Value → Shared → Prop) (E : Value → Shared → Prop), tn i s.heap → Q (.ref it) s → wpAny (model P w) A (pyIter (.ref it)) Q E s
abbrev TI := St → Hp → (It → Hp → Prop) → Prop
def PIE (X : Cx) (pins : List (Addr × Obj)) (σ : St) (tg : Expr) (R : It → Hp → Prop) (itv : Value) (s2 : Shared) : Prop :=
  ∃ (it : Addr) (fp : List Addr) (tn : Nat → Heap → Prop) (J : It) (H' : Hp), itv = .ref it ∧ Inv X pins σ H' s2 ∧ Turn X.prog X.w X.K tg J fp it tn ∧ tn 0 s2.heap ∧ (∀ b ∈ fp, FpOk X pins H' b) ∧ R J H'
def PI (X : Cx) (tg iter : Expr) (wi : TI) : Prop :=
  ∀ (pins : List (Addr × Obj)) (s : Shared) (σ : St) (H : Hp) (R : It → Hp → Prop), Inv X pins σ H s → wi σ H R →
    wpAny (model X.prog X.w) X.A (eval iter X.env) (fun v s1 => wpAny (model X.prog X.w) X.A (pyIter v) (PIE X pins σ tg R) X.xe s1) X.xe s
theorem go_of {M : Model} {A : Around} {E : Value → Shared → Prop} {s : Shared} {tg : Expr} {it : Addr} {u : Value} {o : Obj} {n : String} {vs : Array Value} {Q : Unit → Shared → Prop} (ho : s.heap.get? it = some o) (hc : o.cls = .type n) (hd : o.data = .fields vs)
    (hn : ["enumerate", "zip", "dict_itemiterator", "dict_reverseitemiterator", "odict_iterator", "itertools.zip_longest", "itertools.pairwise"].contains n = false) (hQ : Q () s) : wpAny M A (letOwnedTupleGo tg (.ref it) u) Q E s := by
  unfold letOwnedTupleGo
  cases tg <;> first
    | exact wpAny_pure hQ
    | (cases u <;> first
        | exact wpAny_pure hQ
        | (refine wpAny_bind (wpAny_load ho ?_)
           rw [hc, hd]
           show wpAny M A (if (["enumerate", "zip", "dict_itemiterator", "dict_reverseitemiterator", "odict_iterator", "itertools.zip_longest", "itertools.pairwise"].contains n && vs[0]? == some (rawInt _)) = true then _ else _) Q E s
           rw [if_neg (by intro h; rw [hn, Bool.false_and] at h; cases h)]
           exact wpAny_pure hQ))
def Itl (K : PySem.W.Frag) (a : Addr) : It :=
  ⟨fun i H => ∃ xs x, SqL K H a xs ∧ xs[i]? = some x, fun i H x H' => H' = H ∧ ∀ xs, SqL K H a xs → xs[i]? = some x, fun i H => ∃ xs, SqL K H a xs ∧ xs.length ≤ i⟩
def Itt (K : PySem.W.Frag) (a : Addr) : It :=
  ⟨fun i H => ∃ xs x, SqT K H a xs ∧ xs[i]? = some x, fun i H x H' => H' = H ∧ ∀ xs, SqT K H a xs → xs[i]? = some x, fun i H => ∃ xs, SqT K H a xs ∧ xs.length ≤ i⟩
def Itr (lo : Int) (n : Nat) : It := ⟨fun i _ => i < n, fun i H x H' => H' = H ∧ x = .int (lo + i), fun i _ => n ≤ i⟩
theorem turn_list {P : Program} {w : World} {K : PySem.W.Frag} {tg : Expr} (a it : Addr) : Turn P w K tg (Itl K a) [it] it (fun i h => h.IsListIter it a i) where
  mem := by simp
  obj := fun i h st b hb => by
    have e : b = it := by simpa using hb
    subst e
    obtain ⟨o, e, c, d⟩ := st
    exact ⟨o, e, fun v z => by rw [d] at z; cases z⟩
  keep := fun i h h' st k => st.at fun o e => k it (by simp) o e
  item := by
    intro X hP hw hK hc i pins s σ H E I hf st hg
    subst hP hw hK
    obtain ⟨xs, x, hq, hx⟩ := hg
    obtain ⟨its, rv, p, hz⟩ := I.list hq
    obtain ⟨u, hu, ru⟩ := rv.get hx
    obtain ⟨f0, f1, f2, f3, f4, f5⟩ := hf it (by simp)
    refine wpAny_pyNext_list_item st p.isList (x := u) (by simpa using hu) fun h' st' sb => ?_
    have I1 : Inv X pins σ H { s with heap := h' } := I.turned (t' := s.toks) (fun b o hb e => (sb.2 b hb).trans e) f0 f1 f3 f4 f5
    obtain ⟨o, e, c, d⟩ := id st'
    exact ⟨u, rfl, go_of (s := { s with heap := h' }) e c d (by decide) ⟨x, H, I1, ru, ⟨rfl, fun ys hy => by rw [I.list_inj hy hq]; exact hx⟩, st', fun b hb => (hf b hb).1⟩⟩
  done := by
    intro X hP hw hK hc i pins s σ H E I hf st hg
    subst hP hw hK
    obtain ⟨xs, hq, hx⟩ := hg
    obtain ⟨its, rv, p, hz⟩ := I.list hq
    obtain ⟨f0, f1, f2, f3, f4, f5⟩ := hf it (by simp)
    have hl := rv.length
    exact wpAny_pyNext_list_end (I.ok.hd hc) st p.isList (by simp; omega) fun h' eb => ⟨rfl, I.turned (t' := s.toks) (fun b o hb e => eb b o hb e) f0 f1 f3 f4 f5⟩
  self := fun _ _ _ _ _ st h => wpAny_pyIter_listiter st h
theorem turn_tuple {P : Program} {w : World} {K : PySem.W.Frag} {tg : Expr} (a it : Addr) : Turn P w K tg (Itt K a) [it] it (fun i h => h.IsTupleIter it a i) where
  mem := by simp
  obj := fun i h st b hb => by
    have e : b = it := by simpa using hb
    subst e
    obtain ⟨o, e, c, d⟩ := st
    exact ⟨o, e, fun v z => by rw [d] at z; cases z⟩
  keep := fun i h h' st k => st.at fun o e => k it (by simp) o e
  item := by
    intro X hP hw hK hc i pins s σ H E I hf st hg
    subst hP hw hK
    obtain ⟨xs, x, hq, hx⟩ := hg
    obtain ⟨its, rv, p, hz⟩ := I.tuple hq
    obtain ⟨u, hu, ru⟩ := rv.get hx
    obtain ⟨f0, f1, f2, f3, f4, f5⟩ := hf it (by simp)
    refine wpAny_pyNext_tuple_item st (show s.heap.IsTuple a its.toArray from p) (x := u) (by simpa using hu) fun h' st' sb => ?_
    have I1 : Inv X pins σ H { s with heap := h' } := I.turned (t' := s.toks) (fun b o hb e => (sb.2 b hb).trans e) f0 f1 f3 f4 f5
    obtain ⟨o, e, c, d⟩ := id st'
    exact ⟨u, rfl, go_of (s := { s with heap := h' }) e c d (by decide) ⟨x, H, I1, ru, ⟨rfl, fun ys hy => by rw [I.tuple_inj hy hq]; exact hx⟩, st', fun b hb => (hf b hb).1⟩⟩
  done := by
    intro X hP hw hK hc i pins s σ H E I hf st hg
    subst hP hw hK
    obtain ⟨xs, hq, hx⟩ := hg
    obtain ⟨its, rv, p, hz⟩ := I.tuple hq
    obtain ⟨f0, f1, f2, f3, f4, f5⟩ := hf it (by simp)
    have hl := rv.length
    exact wpAny_pyNext_tuple_end (I.ok.hd hc) st (show s.heap.IsTuple a its.toArray from p) (by simp; omega) fun h' eb => ⟨rfl, I.turned (t' := s.toks) (fun b o hb e => eb b o hb e) f0 f1 f3 f4 f5⟩
  self := fun _ _ _ _ _ st h => wpAny_pyIter_tupleiter st h
theorem turn_range {P : Program} {w : World} {K : PySem.W.Frag} {tg : Expr} (it : Addr) (lo : Int) (n : Nat) : Turn P w K tg (Itr lo n) [it] it (fun i h => IsRangeIter h it (lo + (i : Nat) * 1) ((n : Int) - (i : Nat)) 1) where
  mem := by simp
  obj := fun i h st b hb => by
    have e : b = it := by simpa using hb
    subst e
    exact ⟨_, st, fun v z => by
      have z' : Data.fields _ = Data.cell v := z
      cases z'⟩
  keep := fun i h h' st k => k it (by simp) _ st
  item := by
    intro X hP hw hK hc i pins s σ H E I hf st hg
    subst hP hw hK
    obtain ⟨f0, f1, f2, f3, f4, f5⟩ := hf it (by simp)
    have W := Walks.range (prog := X.prog) (w := X.w) (I.ok.hd hc) it lo 1 n
    refine W.item i s _ _ hg st fun v h' tk hv st' kk => ?_
    obtain ⟨t, rfl⟩ := hv
    have I1 : Inv X pins σ H { s with heap := h', toks := tk } := I.turned (fun b o hb e => kk b o (by simpa using hb) e) f0 f1 f3 f4 f5
    refine ⟨_, rfl, go_of (s := { s with heap := h', toks := tk }) (n := "range_iterator") st' rfl rfl (by decide) ⟨.int (lo + i), H, I1, ⟨t, ?_⟩, ⟨rfl, rfl⟩, st', fun b hb => (hf b hb).1⟩⟩
    rw [Int.mul_one]
  done := by
    intro X hP hw hK hc i pins s σ H E I hf st hg
    subst hP hw hK
    obtain ⟨f0, f1, f2, f3, f4, f5⟩ := hf it (by simp)
    exact wpAny_pyNext_range_end (I.ok.hd hc) st (by have : n ≤ i := hg; omega) fun h' eb => ⟨rfl, I.turned (t' := s.toks) (fun b o hb e => eb b o hb e) f0 f1 f3 f4 f5⟩
  self := fun _ _ _ _ _ st h => wpAny_pyIter_rangeiter st h
end L2
namespace L2
open PySem PySem.Spec PyProof.Rows
section
variable {X : Cx} {tg : Expr}
def iList (K : PySem.W.Frag) (tl : TE) : TI := fun σ H R => tl σ H fun x H1 => ∃ a, x = .ref a ∧ (∃ xs, SqL K H1 a xs) ∧ R (Itl K a) H1
def iTup (K : PySem.W.Frag) (tl : TE) : TI := fun σ H R => tl σ H fun x H1 => ∃ a, x = .ref a ∧ (∃ xs, SqT K H1 a xs) ∧ R (Itt K a) H1
theorem pi_list {l : Expr} {tl : TE} (hl : PE X l tl) : PI X tg l (iList X.K tl) := by
  intro pins s σ H R I h
  refine thn (hl pins s σ H _ I h) fun v s1 ⟨x, H1, I1, r1, q1⟩ => ?_
  obtain ⟨a, e, ⟨xs, hq⟩, q⟩ := q1
  subst e
  cases r1
  obtain ⟨its, rv, p, hz⟩ := I1.list hq
  refine wpAny_pyIter_list p.isList ?_
  refine ⟨s1.heap.objs.size, [s1.heap.objs.size], _, _, H1, rfl, I1.kept (t' := s1.toks) fun b o e => Heap.get?_push_of_some _ e, turn_list a _, ⟨_, Heap.get?_push_size _ rfl, rfl, rfl⟩, fun b hb => ?_, q⟩
  have e : b = s1.heap.objs.size := by simpa using hb
  subst e
  exact I1.fpOk (Nat.le_refl _) (I1.hok.fresh (Nat.le_refl _))
theorem range_it {pins : List (Addr × Obj)} {σ : St} {H : Hp} {s : Shared} {R : It → Hp → Prop} {E : Value → Shared → Prop} {lo hi : Int} {t u v : Tok} {tk : Nat} (I : Inv X pins σ H s) (h1 : -(2 ^ 62) ≤ lo) (h2 : lo < 2 ^ 62) (h3 : -(2 ^ 62) ≤ hi) (h4 : hi < 2 ^ 62)
    (q : R (Itr lo (hi - lo).toNat) H) : wpAny (model X.prog X.w) X.A (pyIter (.ref s.heap.objs.size)) (PIE X pins σ tg R) E { s with heap := s.heap.push { cls := .type "range", data := .fields #[.int lo t, .int hi u, .int 1 v] }, toks := tk } := by
  refine wpAny_pyIter_range (IsRange.new ..) (small_one h1 h2 h3 h4) ?_
  have I1 : Inv X pins σ H { s with heap := s.heap.push { cls := .type "range", data := .fields #[.int lo t, .int hi u, .int 1 v] }, toks := tk } := I.kept fun b o e => Heap.get?_push_of_some _ e
  refine ⟨(s.heap.push { cls := .type "range", data := .fields #[.int lo t, .int hi u, .int 1 v] }).objs.size, [(s.heap.push { cls := .type "range", data := .fields #[.int lo t, .int hi u, .int 1 v] }).objs.size], _, _, H, rfl,
    I1.kept (t' := tk) fun b o e => Heap.get?_push_of_some _ e, turn_range _ lo (hi - lo).toNat, ?_, fun b hb => ?_, q⟩
  · have e1 : lo + ((0 : Nat) : Int) * 1 = lo := by simp
    have e2 : (((hi - lo).toNat : Nat) : Int) - ((0 : Nat) : Int) = Builtin.Range.rangeSize lo hi 1 := by rw [rangeSize_one]; split <;> omega
    show IsRangeIter _ _ (lo + ((0 : Nat) : Int) * 1) ((((hi - lo).toNat : Nat) : Int) - ((0 : Nat) : Int)) 1
    rw [e1, e2]
    exact Heap.get?_push_size _ rfl
  · have e : b = (s.heap.push { cls := .type "range", data := .fields #[.int lo t, .int hi u, .int 1 v] }).objs.size := by simpa using hb
    subst e
    exact I1.fpOk (Nat.le_refl _) (I1.hok.fresh (Nat.le_refl _))
def iRng1 (ta : TA) : TI := fun σ H R => ta σ H fun vs H1 => ∃ j : Int, vs = [.int j] ∧ -(2 ^ 62) ≤ j ∧ j < 2 ^ 62 ∧ R (Itr 0 j.toNat) H1
def iRng2 (ta : TA) : TI := fun σ H R => ta σ H fun vs H1 => ∃ i j : Int, vs = [.int i, .int j] ∧ (-(2 ^ 62) ≤ i ∧ i < 2 ^ 62 ∧ -(2 ^ 62) ≤ j ∧ j < 2 ^ 62) ∧ R (Itr i (j - i).toNat) H1
theorem pi_range1 {a : Expr} {ta : TA} {p pos : Pos} (hg : Gl X "range") (hm : X.mg "range" = none) (ha : PA X [a] ta) (hs : starEach [a] X.env = [(false, eval a X.env)] := by rfl) : PI X tg (.Call (.Name "range" p) [a] [] pos) (iRng1 ta) := by
  intro pins s σ H R I h
  refine Call_ (ld_blt I hg hm boot_range (PyProof.Rows.callWith_type1 (thn (ha pos pins s σ H _ I h) fun us s1 ⟨vs, H1, I1, r1, q1⟩ => ?_) hs rfl))
  obtain ⟨j, e, q1, q2, q⟩ := q1
  subst e
  cases r1 with
  | cons r rr =>
    cases rr
    obtain ⟨t, rfl⟩ := r
    exact call_range_1 (range_it I1 (by omega) (by omega) q1 q2 (by simpa using q))
def tFor (wi : TI) (g : TG) (tb : TS) : TS := fun D σ H => wi σ H fun J H1 => ∃ W : Nat → Nat → St → Hp → Prop, (∃ m, W 0 m σ H1) ∧ ∀ i m σ H, W i m σ H →
  (J.stop i H ∧ D.nx σ H) ∨ (J.go i H ∧ ∃ N : St → Hp → Prop, (∀ σ' H', N σ' H' → ∃ m', m' < m ∧ W (i + 1) m' σ' H') ∧ ∀ x H', J.yld i H x H' → g x σ H' fun σ2 H2 => tb { D with nx := N, ct := N, bk := D.nx } σ2 H2)
def pinsAt (fp : List Addr) (h : Heap) : List (Addr × Obj) := fp.filterMap fun b => (h.get? b).map fun o => (b, o)
theorem mem_pinsAt {fp : List Addr} {h : Heap} {b : Addr} {o : Obj} (hb : b ∈ fp) (e : h.get? b = some o) : (b, o) ∈ pinsAt fp h := List.mem_filterMap.mpr ⟨b, hb, by rw [e]; rfl⟩
theorem of_pinsAt {fp : List Addr} {h : Heap} {p : Addr × Obj} (hp : p ∈ pinsAt fp h) : p.1 ∈ fp ∧ h.get? p.1 = some p.2 := by
  obtain ⟨b, hb, e⟩ := List.mem_filterMap.mp hp
  cases q : h.get? b with
  | none => rw [q] at e; cases e
  | some o =>
    rw [q] at e
    have e' : (b, o) = p := Option.some.inj e
    subst e'
    exact ⟨hb, q⟩
theorem Inv.pinned {pins : List (Addr × Obj)} {σ : St} {H : Hp} {s : Shared} {fp : List Addr} (I : Inv X pins σ H s) (hf : ∀ b ∈ fp, FpOk X pins H b) (ho : ∀ b ∈ fp, ∃ o, s.heap.get? b = some o ∧ ∀ v, o.data ≠ .cell v) : Inv X (pins ++ pinsAt fp s.heap) σ H s :=
  I.pins_of fun p hp => (List.mem_append.mp hp).elim (fun z => I.pin p (List.mem_append_right _ z)) fun z => by
    obtain ⟨hb, e⟩ := of_pinsAt z
    obtain ⟨f0, f1, f2, _⟩ := hf p.1 hb
    obtain ⟨o, e', d⟩ := ho p.1 hb
    rw [e] at e'; cases e'
    exact ⟨e, f0, f1, f2, d⟩
theorem Inv.unpinned {pins pl : List (Addr × Obj)} {σ : St} {H : Hp} {s : Shared} (I : Inv X (pins ++ pl) σ H s) : Inv X pins σ H s := I.pins_of fun p hp => I.pin p (List.mem_append_right _ (List.mem_append_left _ hp))
theorem ps_for {iter : Expr} {body : List Stmt} {wi : TI} {g : TG} {tb : TS} {pos : Pos} (hp : PassesOwn (model X.prog X.w) X.A X.env X.xe) (hc : X.calm = true) (hi : PI X tg iter wi) (hg : PG X tg g) (hb : PSs X body tb)
    (hs : ∀ x, foldedSetIterable iter X.env x = pure x := by intro _; rfl) : PS X (.For tg iter body [] pos) (tFor wi g tb) := by
  intro pins s σ H D I h
  refine wpAny_For (thn (hi pins s σ H _ I h) fun v s1 h1 => thn h1 fun itv s2 h2 => ?_) hs
  obtain ⟨it, fp, tn, J, H2, e, I2, T, st2, f2, W, ⟨m0, w0⟩, turn⟩ := h2
  subst e
  have stat : ∀ {H' : Hp}, (∀ b ∈ fp, H' b = none) → ∀ b ∈ fp, FpOk X pins H' b := fun hn b hb => ⟨hn b hb, (f2 b hb).2⟩
  refine codeAny_forLoop_any (fun n s' => ∃ i σ' H', Inv X pins σ' H' s' ∧ tn i s'.heap ∧ (∀ b ∈ fp, H' b = none) ∧ W i n σ' H') ?_ m0 ⟨0, σ, H2, I2, st2, fun b hb => (f2 b hb).1, w0⟩
  rintro n s3 ⟨i, σ3, H3, I3, st3, fr3, w3⟩
  rcases turn i n σ3 H3 w3 with ⟨stop, qn⟩ | ⟨go, N, hN, step⟩
  · refine wpAny_passesOwn hp (thn (T.done X rfl rfl rfl hc i pins s3 σ3 H3 X.xe I3 (stat fr3) st3 stop) fun r s4 ⟨hr, I4⟩ => ?_)
    subst hr
    exact wpAny_execs_nil ⟨σ3, H3, I4, qn⟩
  · refine wpAny_passesOwn hp (thn (T.item X rfl rfl rfl hc i pins s3 σ3 H3 X.xe I3 (stat fr3) st3 go) fun r s4 ⟨u, hr, h4⟩ => ?_)
    subst hr
    refine wpAny_passesOwn hp (thn h4 fun _ s5 ⟨x, H5, I5, r5, y5, st5, fr5⟩ => ?_)
    have I5' := I5.pinned (stat fr5) (T.obj _ _ st5)
    refine wpAny_passesOwn hp (thn (hg _ s5 σ3 H5 x u _ I5' r5 (step x H5 y5)) fun _ s6 ⟨σ6, H6, I6, q6⟩ => ?_)
    refine wpAny_passesOwn hp (thn (hb _ s6 σ6 H6 _ I6 q6) fun f s7 q7 => ?_)
    have again : ∀ {σ7 : St} {H7 : Hp}, Inv X (pins ++ pinsAt fp s5.heap) σ7 H7 s7 → N σ7 H7 → ∃ m, m < n ∧ ∃ i σ' H', Inv X pins σ' H' s7 ∧ tn i s7.heap ∧ (∀ b ∈ fp, H' b = none) ∧ W i m σ' H' := fun {σ7 H7} I7 n7 => by
      obtain ⟨m', hm, w7⟩ := hN σ7 H7 n7
      refine ⟨m', hm, i + 1, σ7, H7, I7.unpinned, T.keep _ _ _ st5 fun b hb o e => (I7.pin (b, o) (List.mem_append_right _ (List.mem_append_right _ (mem_pinsAt hb e)))).1, fun b hb => ?_, w7⟩
      obtain ⟨o, e, d⟩ := T.obj _ _ st5 b hb
      exact (I7.pin (b, o) (List.mem_append_right _ (List.mem_append_right _ (mem_pinsAt hb e)))).2.1
    cases f with
    | next => obtain ⟨σ7, H7, I7, n7⟩ := q7; exact again I7 n7
    | cont => obtain ⟨σ7, H7, I7, n7⟩ := q7; exact again I7 n7
    | brk => obtain ⟨σ7, H7, I7, q7⟩ := q7; exact ⟨σ7, H7, I7.unpinned, q7⟩
    | ret v => obtain ⟨x7, σ7, H7, I7, r7, q7⟩ := q7; exact ⟨x7, σ7, H7, I7.unpinned, r7, q7⟩
end
theorem for_list {K : PySem.W.Frag} {a : Addr} {xs : List V} {g : TG} {tb : TS} {D : Ends} {σ : St} {H : Hp} (Pv : Nat → St → Hp → Prop) (h0 : Pv 0 σ H) (hl : ∀ i σ H, i ≤ xs.length → Pv i σ H → SqL K H a xs)
    (hs : ∀ i x σ H, xs[i]? = some x → Pv i σ H → g x σ H fun σ2 H2 => tb { D with nx := Pv (i + 1), ct := Pv (i + 1), bk := D.nx } σ2 H2) (hd : ∀ σ H, Pv xs.length σ H → D.nx σ H) :
    ∃ W : Nat → Nat → St → Hp → Prop, (∃ m, W 0 m σ H) ∧ ∀ i m σ H, W i m σ H →
      ((Itl K a).stop i H ∧ D.nx σ H) ∨ ((Itl K a).go i H ∧ ∃ N : St → Hp → Prop, (∀ σ' H', N σ' H' → ∃ m', m' < m ∧ W (i + 1) m' σ' H') ∧ ∀ x H', (Itl K a).yld i H x H' → g x σ H' fun σ2 H2 => tb { D with nx := N, ct := N, bk := D.nx } σ2 H2) := by
  refine ⟨fun i m σ H => m = xs.length - i ∧ i ≤ xs.length ∧ Pv i σ H, ⟨xs.length, by simp, Nat.zero_le _, h0⟩, ?_⟩
  rintro i m σ H ⟨rfl, hi, p⟩
  have q := hl i σ H hi p
  by_cases hlt : i < xs.length
  · refine .inr ⟨⟨xs, xs[i], q, by simp [hlt]⟩, Pv (i + 1), fun σ' H' p' => ⟨xs.length - (i + 1), by omega, rfl, hlt, p'⟩, fun x H' y => ?_⟩
    obtain ⟨e, y⟩ := y
    subst e
    exact hs i x σ _ (y xs q) p
  · have e : i = xs.length := by omega
    subst e
    exact .inl ⟨⟨xs, q, Nat.le_refl _⟩, hd σ H p⟩
theorem for_range {lo : Int} {n : Nat} {g : TG} {tb : TS} {D : Ends} {σ : St} {H : Hp} (Pv : Nat → St → Hp → Prop) (h0 : Pv 0 σ H)
    (hs : ∀ i σ H, i < n → Pv i σ H → g (.int (lo + i)) σ H fun σ2 H2 => tb { D with nx := Pv (i + 1), ct := Pv (i + 1), bk := D.nx } σ2 H2) (hd : ∀ σ H, Pv n σ H → D.nx σ H) :
    ∃ W : Nat → Nat → St → Hp → Prop, (∃ m, W 0 m σ H) ∧ ∀ i m σ H, W i m σ H →
      ((Itr lo n).stop i H ∧ D.nx σ H) ∨ ((Itr lo n).go i H ∧ ∃ N : St → Hp → Prop, (∀ σ' H', N σ' H' → ∃ m', m' < m ∧ W (i + 1) m' σ' H') ∧ ∀ x H', (Itr lo n).yld i H x H' → g x σ H' fun σ2 H2 => tb { D with nx := N, ct := N, bk := D.nx } σ2 H2) := by
  refine ⟨fun i m σ H => m = n - i ∧ i ≤ n ∧ Pv i σ H, ⟨n, by simp, Nat.zero_le _, h0⟩, ?_⟩
  rintro i m σ H ⟨rfl, hi, p⟩
  by_cases hlt : i < n
  · refine .inr ⟨hlt, Pv (i + 1), fun σ' H' p' => ⟨n - (i + 1), by omega, rfl, hlt, p'⟩, fun x H' y => ?_⟩
    obtain ⟨e, y⟩ := y
    subst e y
    exact hs i σ _ hlt p
  · have e : i = n := by omega
    subst e
    exact .inl ⟨Nat.le_refl _, hd σ H p⟩
end L2
namespace L2
open PySem PySem.Spec PyProof.Rows
abbrev R2 := V → V → Hp → VK → Prop
def OpR (X : Cx) (f : Value → Value → Sem Value) (r : R2) : Prop :=
  ∀ (pins : List (Addr × Obj)) (s : Shared) (σ : St) (H : Hp) (x y : V) (v u : Value) (Q : VK), Inv X pins σ H s → RelV x v → RelV y u → r x y H Q →
    wpAny (model X.prog X.w) X.A (f v u) (EP X pins σ Q) X.xe s
def UnR (X : Cx) (f : Value → Sem Value) (r : V → Hp → VK → Prop) : Prop :=
  ∀ (pins : List (Addr × Obj)) (s : Shared) (σ : St) (H : Hp) (x : V) (v : Value) (Q : VK), Inv X pins σ H s → RelV x v → r x H Q →
    wpAny (model X.prog X.w) X.A (f v) (EP X pins σ Q) X.xe s
def CallR (X : Cx) (f : Value) (r : List V → Hp → VK → Prop) : Prop :=
  ∀ (pins : List (Addr × Obj)) (s : Shared) (σ : St) (H : Hp) (xs : List V) (us : List Value) (Q : VK), Inv X pins σ H s → Vals xs us → r xs H Q →
    wpAny (model X.prog X.w) X.A (call f us) (EP X pins σ Q) X.xe s
def TruR (X : Cx) (r : V → Hp → (Bool → Hp → Prop) → Prop) : Prop :=
  ∀ (pins : List (Addr × Obj)) (s : Shared) (σ : St) (H : Hp) (x : V) (v : Value) (Q : Bool → Hp → Prop), Inv X pins σ H s → RelV x v → r x H Q →
    wpAny (model X.prog X.w) X.A (truthy v) (TP X pins σ Q) X.xe s
def tOp (r : R2) (ta tb : TE) : TE := fun σ H Q => ta σ H fun x H1 => tb σ H1 fun y H2 => r x y H2 Q
def tUn (r : V → Hp → VK → Prop) (ta : TE) : TE := fun σ H Q => ta σ H fun x H1 => r x H1 Q
def rI (C : Int → Int → Prop) (g : Int → Int → V) : R2 := fun x y H Q => ∃ i j, x = .int i ∧ y = .int j ∧ C i j ∧ Q (g i j) H
def rI0 (g : Int → Int → V) : R2 := fun x y H Q => ∃ i j, x = .int i ∧ y = .int j ∧ Q (g i j) H
def rU (g : Int → V) : V → Hp → VK → Prop := fun x H Q => ∃ i, x = .int i ∧ Q (g i) H
section
variable {X : Cx} {a b c : Expr} {ta tb tc : TE} {pos : Pos}
theorem binT (ha : PE X a ta) (hb : PE X b tb) {pins : List (Addr × Obj)} {s : Shared} {σ : St} {H : Hp} {R : V → V → Hp → Prop} (I : Inv X pins σ H s)
    (h : ta σ H fun x H1 => tb σ H1 fun y H2 => R x y H2) {Q : Value → Shared → Prop} {f : Value → Value → Sem Value}
    (hf : ∀ v u s2 x y H2, Inv X pins σ H2 s2 → RelV x v → RelV y u → R x y H2 → wpAny (model X.prog X.w) X.A (f v u) Q X.xe s2) :
    wpAny (model X.prog X.w) X.A (eval a X.env) (fun v s₁ => wpAny (model X.prog X.w) X.A (eval b X.env) (fun u s₂ => wpAny (model X.prog X.w) X.A (f v u) Q X.xe s₂) X.xe s₁) X.xe s := by
  refine thn (ha pins s σ H _ I h) fun v s1 ⟨x, H1, I1, r1, q1⟩ => ?_
  refine thn (hb pins s1 σ H1 _ I1 q1) fun u s2 ⟨y, H2, I2, r2, q2⟩ => ?_
  exact hf v u s2 x y H2 I2 r1 r2 q2
theorem pe_op {op : Operator} {r : R2} (ho : OpR X (binaryOp op) r) (ha : PE X a ta) (hb : PE X b tb) : PE X (.BinOp a op b pos) (tOp r ta tb) := by
  intro pins s σ H Q I h
  exact wpAny_BinOp (binT ha hb I h fun v u s2 x y H2 I2 rx ry q => ho pins s2 σ H2 x y v u Q I2 rx ry q)
theorem opI {f : Value → Value → Sem Value} {C : Int → Int → Prop} {g : Int → Int → Int}
    (rule : ∀ (i j : Int) (t u : Tok) (s : Shared) (Q : Value → Shared → Prop) (E : Value → Shared → Prop), C i j → Q (.int (g i j) s.toks) { s with toks := s.toks + 1 } → wpAny (model X.prog X.w) X.A (f (.int i t) (.int j u)) Q E s) :
    OpR X f (rI C fun i j => .int (g i j)) := by
  intro pins s σ H x y v u Q I rx ry h
  obtain ⟨i, j, rfl, rfl, hc, q⟩ := h
  obtain ⟨t, rfl⟩ := rx
  obtain ⟨t', rfl⟩ := ry
  exact rule i j t t' s _ _ hc ⟨.int (g i j), H, I.tok _, ⟨_, rfl⟩, q⟩
theorem opI0 {f : Value → Value → Sem Value} {g : Int → Int → Int}
    (rule : ∀ (i j : Int) (t u : Tok) (s : Shared) (Q : Value → Shared → Prop) (E : Value → Shared → Prop), Q (.int (g i j) s.toks) { s with toks := s.toks + 1 } → wpAny (model X.prog X.w) X.A (f (.int i t) (.int j u)) Q E s) :
    OpR X f (rI0 fun i j => .int (g i j)) := by
  intro pins s σ H x y v u Q I rx ry h
  obtain ⟨i, j, rfl, rfl, q⟩ := h
  obtain ⟨t, rfl⟩ := rx
  obtain ⟨t', rfl⟩ := ry
  exact rule i j t t' s _ _ ⟨.int (g i j), H, I.tok _, ⟨_, rfl⟩, q⟩
theorem opB0 {f : Value → Value → Sem Value} {g : Int → Int → Bool}
    (rule : ∀ (i j : Int) (t u : Tok) (s : Shared) (Q : Value → Shared → Prop) (E : Value → Shared → Prop), Q (.bool (g i j)) s → wpAny (model X.prog X.w) X.A (f (.int i t) (.int j u)) Q E s) :
    OpR X f (rI0 fun i j => .bl (g i j)) := by
  intro pins s σ H x y v u Q I rx ry h
  obtain ⟨i, j, rfl, rfl, q⟩ := h
  obtain ⟨t, rfl⟩ := rx
  obtain ⟨t', rfl⟩ := ry
  exact rule i j t t' s _ _ ⟨.bl (g i j), H, I, rfl, q⟩
def CDiv (i j : Int) : Prop := 0 < j ∧ j < 1073741824
def CDivN (i j : Int) : Prop := j ≠ 0 ∧ j.natAbs < 1073741824
def CPow (i j : Int) : Prop := 0 ≤ j ∧ j ≤ 1000000 ∧ i.natAbs < 2 ^ 64
def CMul (i j : Int) : Prop := (-(2 ^ 64) < i ∧ i < 2 ^ 64) ∨ (-(2 ^ 64) < j ∧ j < 2 ^ 64)
theorem CMul.ok {i j : Int} (h : CMul i j) : IntMulOk i j := by
  rcases h with ⟨h1, h2⟩ | ⟨h1, h2⟩
  · exact .of_left (intBits_le_64 h1 h2)
  · exact .of_right (intBits_le_64 h1 h2)
theorem op_add : OpR X (binaryOp .Add) (rI0 fun i j => .int (i + j)) := opI0 fun _ _ _ _ _ _ _ q => add_int q
theorem op_sub : OpR X (binaryOp .Sub) (rI0 fun i j => .int (i - j)) := opI0 fun _ _ _ _ _ _ _ q => sub_int q
theorem op_mul : OpR X (binaryOp .Mult) (rI CMul fun i j => .int (i * j)) := opI fun _ _ _ _ _ _ _ hc q => mul_int q hc.ok
theorem op_fdiv : OpR X (binaryOp .FloorDiv) (rI CDiv fun i j => .int (i / j)) := opI fun i j _ _ _ _ _ hc q => by
  have h1 : (0 : Int) < j := hc.1
  have h2 : j < 1073741824 := hc.2
  exact floordiv_int (by omega) (by rw [Int.fdiv_eq_ediv_of_nonneg i (by omega)]; exact q) (.inl (PyProof.noPylong_small (by omega)))
theorem op_mod : OpR X (binaryOp .Mod) (rI (fun _ j => 0 < j) fun i j => .int (i % j)) := opI fun i j _ _ _ _ _ hc q => by
  have h1 : (0 : Int) < j := hc
  exact mod_int' (by omega) (by rw [Int.fmod_eq_emod_of_nonneg i (by omega)]; exact q)
theorem op_pow : OpR X (binaryOp .Pow) (rI CPow fun i j => .int (i ^ j.toNat)) := opI fun _ _ _ _ _ _ _ hc q => pow_int_small hc.1 hc.2.1 hc.2.2 q
end
def scal : V → V → Bool
  | .non, .non => true | .non, .int _ => true | .int _, .non => true | .non, .bl _ => true | .bl _, .non => true | .non, .str _ => true | .str _, .non => true
  | .int _, .int _ => true | .bl _, .bl _ => true | .str _, .str _ => true | .byt _, .byt _ => true
  | .int _, .str _ => true | .str _, .int _ => true | .bl _, .str _ => true | .str _, .bl _ => true
  | _, _ => false
def rEq : R2 := fun x y H Q => scal x y = true ∧ Q (.bl (decide (x = y))) H
def rNe : R2 := fun x y H Q => scal x y = true ∧ Q (.bl (!decide (x = y))) H
theorem dec_int {i j : Int} : decide (V.int i = V.int j) = (i == j) := by
  rw [Bool.eq_iff_iff]
  simp
theorem dec_bl {i j : Bool} : decide (V.bl i = V.bl j) = (i == j) := by
  rw [Bool.eq_iff_iff]
  simp
theorem dec_str {i j : Str} : decide (V.str i = V.str j) = (i == j) := by
  rw [Bool.eq_iff_iff]
  simp
theorem dec_byt {i j : Array UInt8} : decide (V.byt i = V.byt j) = (i.toList == j.toList) := by
  rw [Bool.eq_iff_iff]
  cases i
  cases j
  simp
section
variable {X : Cx} {a b c : Expr} {ta tb tc : TE} {pos : Pos}
theorem fin_bl {pins : List (Addr × Obj)} {σ : St} {H : Hp} {s : Shared} {Q : VK} {k k' : Bool} (I : Inv X pins σ H s) (q : Q (.bl k) H) (e : k = k') : EP X pins σ Q (.bool k') s := by
  subst e
  exact ⟨.bl k, H, I, rfl, q⟩
theorem op_eq : OpR X (compareOp .Eq) rEq := by
  intro pins s σ H x y v u Q I rx ry h
  obtain ⟨hs, q⟩ := h
  cases x with
  | non =>
    cases rx
    cases y with
    | non => cases ry; exact PySem.EqNone.eq_none_none (fin_bl I q (by simp))
    | bl j => cases ry; exact PySem.EqNone.eq_none_bool (fin_bl I q (by simp))
    | int j => obtain ⟨t', rfl⟩ := ry; exact PySem.EqNone.eq_none_int (fin_bl I q (by simp))
    | str j => obtain ⟨t', rfl⟩ := ry; exact PySem.EqNone.eq_none_str (fin_bl I q (by simp))
    | _ => exact absurd (show false = true from hs) Bool.false_ne_true
  | bl i =>
    cases rx
    cases y with
    | non => cases ry; exact PySem.EqNone.eq_bool_none (fin_bl I q (by simp))
    | bl j => cases ry; exact eq_bool (fin_bl I q dec_bl)
    | str j => obtain ⟨t', rfl⟩ := ry; exact PySem.EqMixed.eq_bool_str (fin_bl I q (by simp))
    | _ => exact absurd (show false = true from hs) Bool.false_ne_true
  | int i =>
    obtain ⟨t, rfl⟩ := rx
    cases y with
    | non => cases ry; exact PySem.EqNone.eq_int_none (fin_bl I q (by simp))
    | int j => obtain ⟨t', rfl⟩ := ry; exact eq_int (fin_bl I q dec_int)
    | str j => obtain ⟨t', rfl⟩ := ry; exact PySem.EqMixed.eq_int_str (fin_bl I q (by simp))
    | _ => exact absurd (show false = true from hs) Bool.false_ne_true
  | str i =>
    obtain ⟨t, rfl⟩ := rx
    cases y with
    | non => cases ry; exact PySem.EqNone.eq_str_none (fin_bl I q (by simp))
    | bl j => cases ry; exact PySem.EqMixed.eq_str_bool (fin_bl I q (by simp))
    | int j => obtain ⟨t', rfl⟩ := ry; exact PySem.EqMixed.eq_str_int (fin_bl I q (by simp))
    | str j => obtain ⟨t', rfl⟩ := ry; exact eq_str (fin_bl I q dec_str)
    | _ => exact absurd (show false = true from hs) Bool.false_ne_true
  | byt i =>
    obtain ⟨t, rfl⟩ := rx
    cases y with
    | byt j => obtain ⟨t', rfl⟩ := ry; exact PySem.W.eq_bytes (fin_bl I q dec_byt)
    | _ => exact absurd (show false = true from hs) Bool.false_ne_true
  | _ => cases y <;> exact absurd (show false = true from hs) Bool.false_ne_true
theorem op_ne : OpR X (compareOp .NotEq) rNe := by
  intro pins s σ H x y v u Q I rx ry h
  obtain ⟨hs, q⟩ := h
  cases x with
  | non =>
    cases rx
    cases y with
    | non => cases ry; exact PySem.EqNone.ne_none_none (fin_bl I q (by simp))
    | bl j => cases ry; exact PySem.EqNone.ne_none_bool (fin_bl I q (by simp))
    | int j => obtain ⟨t', rfl⟩ := ry; exact PySem.EqNone.ne_none_int (fin_bl I q (by simp))
    | str j => obtain ⟨t', rfl⟩ := ry; exact PySem.EqNone.ne_none_str (fin_bl I q (by simp))
    | _ => exact absurd (show false = true from hs) Bool.false_ne_true
  | bl i =>
    cases rx
    cases y with
    | non => cases ry; exact PySem.EqNone.ne_bool_none (fin_bl I q (by simp))
    | bl j => cases ry; exact ne_bool (fin_bl I q (congrArg not dec_bl))
    | str j => obtain ⟨t', rfl⟩ := ry; exact PySem.EqMixed.ne_bool_str (fin_bl I q (by simp))
    | _ => exact absurd (show false = true from hs) Bool.false_ne_true
  | int i =>
    obtain ⟨t, rfl⟩ := rx
    cases y with
    | non => cases ry; exact PySem.EqNone.ne_int_none (fin_bl I q (by simp))
    | int j => obtain ⟨t', rfl⟩ := ry; exact ne_int (fin_bl I q (congrArg not dec_int))
    | str j => obtain ⟨t', rfl⟩ := ry; exact PySem.EqMixed.ne_int_str (fin_bl I q (by simp))
    | _ => exact absurd (show false = true from hs) Bool.false_ne_true
  | str i =>
    obtain ⟨t, rfl⟩ := rx
    cases y with
    | non => cases ry; exact PySem.EqNone.ne_str_none (fin_bl I q (by simp))
    | bl j => cases ry; exact PySem.EqMixed.ne_str_bool (fin_bl I q (by simp))
    | int j => obtain ⟨t', rfl⟩ := ry; exact PySem.EqMixed.ne_str_int (fin_bl I q (by simp))
    | str j => obtain ⟨t', rfl⟩ := ry; exact ne_str (fin_bl I q (congrArg not dec_str))
    | _ => exact absurd (show false = true from hs) Bool.false_ne_true
  | byt i =>
    obtain ⟨t, rfl⟩ := rx
    cases y with
    | byt j => obtain ⟨t', rfl⟩ := ry; exact PySem.W.ne_bytes (fin_bl I q (congrArg not dec_byt))
    | _ => exact absurd (show false = true from hs) Bool.false_ne_true
  | _ => cases y <;> exact absurd (show false = true from hs) Bool.false_ne_true
theorem op_lt : OpR X (compareOp .Lt) (rI0 fun i j => .bl (decide (i < j))) := opB0 fun _ _ _ _ _ _ _ q => lt_int q
theorem op_le : OpR X (compareOp .LtE) (rI0 fun i j => .bl (decide (i ≤ j))) := opB0 fun _ _ _ _ _ _ _ q => le_int q
theorem op_gt : OpR X (compareOp .Gt) (rI0 fun i j => .bl (decide (j < i))) := opB0 fun _ _ _ _ _ _ _ q => gt_int q
theorem op_notN : OpR X (compareOp .IsNot) (fun x y H Q => y = .non ∧ Q (.bl (!decide (x = .non))) H) := by
  intro pins s σ H x y v u Q I rx ry h
  obtain ⟨rfl, q⟩ := h
  cases ry
  refine isnot_none_gen (fin_bl I q ?_)
  cases x <;> first
    | (cases rx; rfl)
    | (obtain ⟨t, rfl⟩ := rx; rfl)
theorem op_notin_str : OpR X (compareOp .NotIn) (fun x y H Q => ∃ i j, x = .str i ∧ y = .str j ∧ Q (.bl (!(!(Builtin.Str.occurrences j i 0 j.length 1).isEmpty))) H) := by
  intro pins s σ H x y v u Q I rx ry h
  obtain ⟨i, j, rfl, rfl, q⟩ := h
  obtain ⟨t, rfl⟩ := rx
  obtain ⟨t', rfl⟩ := ry
  exact notIn_str (fin_bl I q rfl)
def isObj : HO → Bool
  | .lst _ => true
  | .ins _ _ _ => true
  | _ => false
theorem nomark (b : Expr) {op : CmpOp} (h : op ≠ .In := by decide) (h2 : op ≠ .NotIn := by decide) : behindInMarks op b = false := by
  have e1 : (op == CmpOp.In) = false := by cases op <;> first | rfl | exact absurd rfl h
  have e2 : (op == CmpOp.NotIn) = false := by cases op <;> first | rfl | exact absurd rfl h2
  cases b <;> simp [behindInMarks, e1, e2]
theorem pe_cmpR {op : CmpOp} {r : R2} (ho : OpR X (compareOp op) r) (ha : PE X a ta) (hb : PE X b tb) (hm : behindInMarks op b = false) : PE X (.Compare a [op] [b] pos) (tOp r ta tb) := by
  intro pins s σ H Q I h
  exact wpAny_Compare1 (binT ha hb I h fun v u s2 x y H2 I2 rx ry q => ho pins s2 σ H2 x y v u Q I2 rx ry q) hm
def tTest (t : TE) : TT := fun σ H Q => t σ H fun x H' => ∃ k, x = .bl k ∧ Q k H'
theorem pt_cmpR {op : CmpOp} {r : R2} (ho : OpR X (compareOp op) r) (ha : PE X a ta) (hb : PE X b tb) (hm : behindInMarks op b = false) : PT X (.Compare a [op] [b] pos) (tTest (tOp r ta tb)) := by
  intro pins s σ H Q I h
  refine wpAny_isTrue_Compare1 (thn (ha pins s σ H _ I h) fun v s1 ⟨x, H1, I1, r1, q1⟩ => thn (hb pins s1 σ H1 _ I1 q1) fun u s2 ⟨y, H2, I2, r2, q2⟩ =>
    thn (ho pins s2 σ H2 x y v u _ I2 r1 r2 q2) fun c s3 ⟨z, H3, I3, r3, k, e, q3⟩ => ?_) hm
  subst e
  cases r3
  exact wpAny_truthy_bool ⟨H3, I3, q3⟩
def tChain (r r' : R2) (ta tb tc : TE) : TE := fun σ H Q => ta σ H fun x H1 => tb σ H1 fun y H2 => r x y H2 fun z H3 => ∃ k, z = .bl k ∧
  (if k = true then tc σ H3 fun w' H4 => r' y w' H4 Q else Q (.bl false) H3)
theorem pe_chain {op op' : CmpOp} {r r' : R2} (ho : OpR X (compareOp op) r) (ho' : OpR X (compareOp op') r') (ha : PE X a ta) (hb : PE X b tb) (hc : PE X c tc)
    (hm : lastMarks [op, op'] [b, c] = false := by with_unfolding_all rfl) : PE X (.Compare a [op, op'] [b, c] pos) (tChain r r' ta tb tc) := by
  intro pins s σ H Q I h
  refine Compare_chain (thn (ha pins s σ H _ I h) fun v s1 ⟨x, H1, I1, r1, q1⟩ => chain_link (thn (hb pins s1 σ H1 _ I1 q1) fun u s2 ⟨y, H2, I2, r2, q2⟩ =>
    thn (ho pins s2 σ H2 x y v u _ I2 r1 r2 q2) fun d s3 ⟨z, H3, I3, r3, k, e, q3⟩ => ?_)) hm
  subst e
  cases r3
  refine wpAny_truthy_bool ?_
  cases k with
  | false => exact ite_ff ⟨.bl false, H3, I3, rfl, q3⟩
  | true => exact ite_tt (chain_last (thn (hc pins s3 σ H3 _ I3 q3) fun w' s4 ⟨z', H4, I4, r4, q4⟩ => ho' pins s4 σ H4 y z' u w' Q I4 r2 r4 q4))
def TruV (K : PySem.W.Frag) (x : V) (H : Hp) (k : Bool) : Prop :=
  match x with
  | .non => k = false
  | .bl b => k = b
  | .int i => k = (i != 0)
  | .str y => y.length ≤ sizeLine ∧ k = ((y.length : Int) != 0)
  | .byt y => y.size ≤ sizeLine ∧ k = ((y.size : Int) != 0)
  | .ref p => (∃ xs, SqL K H p xs ∧ k = !xs.isEmpty) ∨ (∃ xs, SqT K H p xs ∧ k = !xs.isEmpty) ∨ ∃ kvs, H p = some (.dK kvs) ∧ k = !kvs.isEmpty
  | _ => False
theorem line63 : (sizeLine : Nat) < 2 ^ 63 := by rw [sizeLine_eq]; decide
theorem op_add_str : OpR X (binaryOp .Add) (fun x y H Q => ∃ i j, x = .str i ∧ y = .str j ∧ i.length + j.length ≤ sizeLine ∧ Q (.str (i ++ j)) H) := by
  intro pins s σ H x y v u Q I rx ry h
  obtain ⟨i, j, rfl, rfl, hz, q⟩ := h
  obtain ⟨t, rfl⟩ := rx
  obtain ⟨t', rfl⟩ := ry
  exact add_str (fun t' tk => ⟨.str (i ++ j), H, I.tok _, ⟨_, rfl⟩, q⟩) hz
def PlainIxT (b : Expr) : Prop := ∀ o i, subscripted b false o i = operate [o, i] (getItem o i)
theorem vals1 {x : V} {us : List Value} (r : Vals [x] us) : ∃ u, us = [u] ∧ RelV x u := by
  cases r with
  | cons r1 r2 => cases r2; exact ⟨_, rfl, r1⟩
theorem vals2 {x y : V} {us : List Value} (r : Vals [x, y] us) : ∃ u w', us = [u, w'] ∧ RelV x u ∧ RelV y w' := by
  cases r with
  | cons r1 r2 =>
    cases r2 with
    | cons r3 r4 => cases r4; exact ⟨_, _, rfl, r1, r3⟩
theorem call_int1 : CallR X (.type "int") (fun xs H Q => (∃ i, xs = [.int i] ∧ Q (.int i) H) ∨ ∃ k, xs = [.bl k] ∧ Q (.int (if k then 1 else 0)) H) := by
  intro pins s σ H xs us Q I r h
  rcases h with ⟨i, rfl, q⟩ | ⟨k, rfl, q⟩
  · obtain ⟨u, rfl, t, rfl⟩ := vals1 r
    exact call_int_int ⟨.int i, H, I, ⟨_, rfl⟩, q⟩
  · obtain ⟨u, rfl, r1⟩ := vals1 r
    cases r1
    exact call_int_bool ⟨.int (if k then 1 else 0), H, I.tok _, ⟨_, rfl⟩, q⟩
def LenV (K : PySem.W.Frag) (x : V) (H : Hp) (n : Nat) : Prop :=
  match x with
  | .str y => y.length ≤ sizeLine ∧ n = y.length
  | .byt y => y.size ≤ sizeLine ∧ n = y.size
  | .ref p => (∃ xs, SqL K H p xs ∧ n = xs.length) ∨ ∃ xs, SqT K H p xs ∧ n = xs.length
  | _ => False
end
end L2
namespace L2
open PySem PySem.Spec PyProof.Rows
structure ObjM (h : Heap) (x dx C : Addr) (mA : Str → Option Value) : Prop where
  obj : h.get? x = some (PySem.W.instObj C dx)
  ns : h.Ns1 dx mA
  ne : dx ≠ x
theorem lookIn_ns {h : Heap} {dx : Addr} {mA : Str → Option Value} (n : h.Ns1 dx mA) : ∃ od, h.get? dx = some od ∧ ∀ name, PySem.W.lookIn name od = some (mA name) := by
  obtain ⟨o, es, ep, ho, hd, hk, _, hm⟩ := n
  refine ⟨o, ho, fun name => ?_⟩
  have e := hm name
  unfold nsFind findBy at e
  rw [← Array.find?_toList] at e
  unfold PySem.W.lookIn
  rw [hd]
  dsimp only
  split
  · rename_i y q
    rw [q] at e
    exact congrArg some e
  · rename_i q
    rw [q] at e
    have a : es.toList.any (·.refKey) = false := by
      rw [List.any_eq_false]
      intro y hy
      obtain ⟨z, t, hkey⟩ := hk y (Array.mem_toList_iff.mp hy)
      simp [DictEntry.refKey, hkey]
    have a' : ¬ es.toList.any (·.refKey) = true := by rw [a]; exact Bool.false_ne_true
    rw [if_neg a']
    exact congrArg some e
theorem ObjM.look {h : Heap} {x dx C : Addr} {mA : Str → Option Value} (I : ObjM h x dx C mA) : ∃ od, PySem.W.InstAt h x (PySem.W.instObj C dx) C (some od) ∧ ∀ name, PySem.W.lookIn name od = some (mA name) :=
  let ⟨od, ho, hl⟩ := lookIn_ns I.ns
  ⟨od, ⟨I.obj, rfl, rfl, ho⟩, hl⟩
section
variable {prog : Program} {w : World} {A : Around} {E : Value → Shared → Prop} {s : Shared} {K : PySem.W.Frag} {x dx C f : Addr} {mA : Str → Option Value} {name : Str} {v : Value}
theorem get_map {expr : Bool} {Q : Value → Shared → Prop} (X : K.In s.heap) (I : ObjM s.heap x dx C mA) (hg : PySem.W.plainGet K C name = true) (hh : PySem.W.hasDictIn K C = true)
    (ha : PySem.W.findIn K (.ref C) name = some none) (hv : mA name = some v) (hv' : PySem.W.handedIn v = true) (h : Q v { s with toks := s.toks + 1 }) :
    wpAny (model prog w) A (getAttr (.ref x) name expr) Q E s := by
  obtain ⟨od, J, hl⟩ := I.look
  exact PySem.W.get_value X J (PySem.W.plainGet_of hg).1 (PySem.W.findObj_own hh ha rfl (by rw [hl, hv])) hv' h
theorem set_map {ns : List Str} {Q : Unit → Shared → Prop} (X : K.In s.heap) (I : ObjM s.heap x dx C mA)
    (hs : PySem.W.findIn K (.ref C) "__setattr__" = some (some (.builtin "object.__setattr__"))) (hp : PySem.W.plainOver K C = true) (ht : PySem.W.takerIn K C name = some none) (hh : PySem.W.hasDictIn K C = true)
    (hw : PySem.Within mA ns) (hsz : ns.length ≤ sizeLine)
    (h : ∀ h', ObjM h' x dx C (fun y => if y = name then some v else mA y) → Heap.SameBut dx s.heap h' → Q () { s with heap := h', toks := s.toks + 2 }) :
    wpAny (model prog w) A (setAttr (.ref x) name v) Q E s := by
  obtain ⟨od, J, hl⟩ := I.look
  refine PySem.W.set_plain X J hs (PySem.W.osa_open (s := { s with toks := s.toks + 1 }) (r := none) X J hp ht fun b => ?_)
  obtain ⟨cd, hc, hd'⟩ := PySem.W.any_some hh
  have hx : s.heap.get? x = some ⟨.ref C, some dx, .plain, #[]⟩ := I.obj
  refine wpAny_bind (wpAny_pure (wpAny_bind (wpAny_bind (wpAny_loadPart hx (wpAny_bind (PySem.W.Looks.here (s := { s with toks := s.toks + 1 }) (PySem.W.looks_clsIn X hc) ?_))))))
  rw [hd']
  refine wpAny_pure (a := some dx) (wpAny_bind (wpAny_pure (wpAny_bind ?_)))
  refine wpAny_nsSet1 (s := { s with toks := s.toks + 1 }) I.ns fun h' hn2 hs2 => ?_
  obtain ⟨oD, esD, epD, hoD, hdD, hcD⟩ := hn2.count (PySem.Within.cons name v hw)
  refine wpAny_bind (wpAny_lookBehind hoD (by rw [hdD]; exact pastItsLine_dict (Nat.le_trans hcD (by rw [List.length_cons]; omega))) ?_)
  exact wpAny_pure (h _ ⟨(hs2.2 _ (Ne.symm I.ne)).trans I.obj, hn2, I.ne⟩ hs2)
theorem make_map {R : Result → Shared → Prop} {vs : List Value} {kw : List (Str × Value)} (X : K.In s.heap) (hm : PySem.W.makesIn K C = true)
    (hi : PySem.W.findIn K (.ref C) "__init__" = some (some (.ref f))) (hf : PySem.W.typeIn K (.ref f) = some (.type "function"))
    (h : codeAny (model prog w) (A.under (.builtin "type.__call__" ⟨.ref C :: vs, kw⟩)) (.call (.ref f) ⟨.ref (s.heap.objs.size + 1) :: vs, kw⟩) (PySem.W.InitBack (s.heap.objs.size + 1) R)
      { s with heap := (s.heap.push PySem.W.emptyDict).push (PySem.W.instObj C s.heap.objs.size) }) :
    codeAny (model prog w) A (.call (.ref C) ⟨vs, kw⟩) R s := by
  obtain ⟨hh, g, d, t, os⟩ := s
  exact PySem.W.make_core (PySem.W.makes_of X hm) (PySem.W.looks_findIn X hi) (fun self => PySem.W.bind_fn X self hf) (.inl rfl) h
end
def putF (f : Str) (v : V) : List (Str × V) → List (Str × V)
  | [] => [(f, v)]
  | (g, x) :: r => if g = f then (g, v) :: r else (g, x) :: putF f v r
theorem lookup_putF (f g : Str) (v : V) : ∀ fs : List (Str × V), (putF f v fs).lookup g = if g = f then some v else fs.lookup g
  | [] => by
    show List.lookup g [(f, v)] = _
    by_cases h : g = f
    · have hb : (g == f) = true := beq_iff_eq.mpr h
      simp only [List.lookup, hb, if_pos h]
    · have hb : (g == f) = false := beq_eq_false_iff_ne.mpr h
      simp only [List.lookup, hb, if_neg h]
  | (k, x) :: r => by
    have ih := lookup_putF f g v r
    rw [show putF f v ((k, x) :: r) = (if k = f then (k, v) :: r else (k, x) :: putF f v r) from rfl]
    by_cases hk : k = f
    · rw [if_pos hk]
      by_cases h : g = k
      · have hb : (g == k) = true := beq_iff_eq.mpr h
        simp only [List.lookup, hb, if_pos (h.trans hk)]
      · have hb : (g == k) = false := beq_eq_false_iff_ne.mpr h
        simp only [List.lookup, hb, if_neg (fun e : g = f => h (e.trans hk.symm))]
    · rw [if_neg hk]
      by_cases h : g = k
      · have hb : (g == k) = true := beq_iff_eq.mpr h
        simp only [List.lookup, hb, if_neg (fun e : g = f => hk (h.symm.trans e))]
      · have hb : (g == k) = false := beq_eq_false_iff_ne.mpr h
        simp only [List.lookup, hb]
        exact ih
theorem keys_putF (f : Str) (v : V) : ∀ fs : List (Str × V), f ∈ (putF f v fs).map (·.1) ∧ ∀ g, g ∈ fs.map (·.1) → g ∈ (putF f v fs).map (·.1)
  | [] => ⟨by simp [putF], fun g h => by simp at h⟩
  | (k, x) :: r => by
    obtain ⟨i1, i2⟩ := keys_putF f v r
    rw [show putF f v ((k, x) :: r) = (if k = f then (k, v) :: r else (k, x) :: putF f v r) from rfl]
    by_cases hk : k = f
    · rw [if_pos hk]
      subst hk
      exact ⟨by simp, fun g h => by simpa using h⟩
    · rw [if_neg hk]
      refine ⟨?_, fun g h => ?_⟩
      · rw [List.map_cons]
        exact List.mem_cons_of_mem _ i1
      · rw [List.map_cons] at h ⊢
        rcases List.mem_cons.mp h with e | e
        · exact List.mem_cons.mpr (.inl e)
        · exact List.mem_cons_of_mem _ (i2 g e)
theorem length_putF (f : Str) (v : V) : ∀ fs : List (Str × V), (putF f v fs).length ≤ fs.length + 1
  | [] => by simp [putF]
  | (k, x) :: r => by
    have ih := length_putF f v r
    rw [show putF f v ((k, x) :: r) = (if k = f then (k, v) :: r else (k, x) :: putF f v r) from rfl]
    by_cases hk : k = f
    · rw [if_pos hk, List.length_cons, List.length_cons]; omega
    · rw [if_neg hk, List.length_cons, List.length_cons]; omega
theorem RelO.some_of {v : V} {o : Option Value} (r : RelO (some v) o) : ∃ u, o = some u ∧ RelV v u := by
  cases o with
  | none => exact (show False from r).elim
  | some u => exact ⟨u, rfl, r⟩
theorem RelO.none_of {o : Option Value} (r : RelO none o) : o = none := by
  cases o with
  | none => rfl
  | some u => exact (show False from r).elim
theorem handed_of {v : V} {u : Value} (r : RelV v u) : PySem.W.handedIn u = true := by
  cases v with
  | non => cases (show u = Value.none from r); rfl
  | bl b => cases (show u = Value.bool b from r); rfl
  | int i => obtain ⟨t, e⟩ := (show ∃ t, u = Value.int i t from r); cases e; rfl
  | str x => obtain ⟨t, e⟩ := (show ∃ t, u = Value.str x t from r); cases e; rfl
  | byt b => obtain ⟨t, e⟩ := (show ∃ t, u = Value.bytes b t from r); cases e; rfl
  | flt b => obtain ⟨t, e⟩ := (show ∃ t, u = Value.float b t from r); cases e; rfl
  | ref a => cases (show u = Value.ref a from r); rfl
  | ty n => cases (show u = Value.type n from r); rfl
section
variable {P : Program} {w : World} {H H' : Hp} {h h' : Heap} {a C dx : Addr} {fs fs' : List (Str × V)}
theorem ins_get (hok : HOk P w H h) (e : H a = some (.ins C dx fs)) : ∃ mA, ObjM h a dx C mA ∧ (∀ f, RelO (fs.lookup f) (mA f)) ∧ PySem.Within mA (fs.map (·.1)) ∧ fs.length ≤ 1000 ∧ H dx = some (.own a) := by
  obtain ⟨d, z, ne, ob, mA, n, r, q⟩ := (show ObjOk P w H h a (.ins C dx fs) from hok a _ e)
  exact ⟨mA, ⟨ob, n, ne⟩, r, q, z, d⟩
end
structure Cls (K : PySem.W.Frag) (C : Addr) : Prop where
  pg : PySem.W.plainGet K C Str.empty = true
  hd : PySem.W.hasDictIn K C = true
  po : PySem.W.plainOver K C = true
  sa : PySem.W.findIn K (.ref C) "__setattr__" = some (some (.builtin "object.__setattr__"))
theorem Cls.get {K : PySem.W.Frag} {C : Addr} (c : Cls K C) (f : Str) : PySem.W.plainGet K C f = true := c.pg
def NoAttr (K : PySem.W.Frag) (C : Addr) (f : Str) : Prop := PySem.W.findIn K (.ref C) f = some none
theorem NoAttr.taker {K : PySem.W.Frag} {C : Addr} {f : Str} (n : NoAttr K C f) : PySem.W.takerIn K C f = some none := by
  unfold PySem.W.takerIn
  rw [show PySem.W.findIn K (.ref C) f = some none from n]
  rfl
structure Con (K : PySem.W.Frag) (C : Addr) (f : Str) (v : V) (u : Value) : Prop where
  at_ : PySem.W.findIn K (.ref C) f = some (some u)
  rel : RelV v u
  get : PySem.W.specialIn K u "__get__" = some none
  cp : PySem.W.copiedNames.contains f = false
structure Meth (K : PySem.W.Frag) (C : Addr) (m : Str) (f : Addr) : Prop where
  at_ : PySem.W.findIn K (.ref C) m = some (some (.ref f))
  fn : PySem.W.isFn K (.ref f) = true
  kp : PySem.W.keepIn K (.ref f) = true
section
variable {X : Cx} {pins : List (Addr × Obj)} {σ : St} {H : Hp} {s : Shared} {a C dx : Addr} {fs : List (Str × V)} {f : Str} {v : V} {A : Around} {E : Value → Shared → Prop}
theorem getattr_ok {b : Bool} {Q : Value → Shared → Prop} (I : Inv X pins σ H s) (e : H a = some (.ins C dx fs)) (c : Cls X.K C) (n : NoAttr X.K C f) (l : fs.lookup f = some v)
    (h : ∀ u s', Inv X pins σ H s' → RelV v u → Q u s') : wpAny (model X.prog X.w) A (getAttr (.ref a) f b) Q E s := by
  obtain ⟨mA, O, r, _, _, _⟩ := ins_get I.hok e
  obtain ⟨u, hu, ru⟩ := RelO.some_of (v := v) (o := mA f) (by rw [← l]; exact r f)
  exact get_map I.kIn O (c.get f) c.hd n hu (handed_of ru) (h u _ (I.tok _) ru)
theorem setattr_ok {y : V} {u : Value} {Q : Unit → Shared → Prop} (I : Inv X pins σ H s) (e : H a = some (.ins C dx fs)) (c : Cls X.K C) (n : NoAttr X.K C f) (hl : fs.length < 1000) (ry : RelV y u)
    (h : ∀ s', Inv X pins σ (upd H a (.ins C dx (putF f y fs))) s' → Q () s') : wpAny (model X.prog X.w) A (setAttr (.ref a) f u) Q E s := by
  obtain ⟨mA, O, r, wi, _, ho⟩ := ins_get I.hok e
  have hz : (fs.map (·.1)).length ≤ sizeLine := by rw [List.length_map, sizeLine_eq]; omega
  refine set_map I.kIn O c.sa c.po n.taker c.hd wi hz fun h' O' sb => h _ ?_
  have hd : ∃ o, h'.get? dx = some o := let ⟨o, _, _, e', _⟩ := O'.ns; ⟨o, e'⟩
  refine I.write (x := a) (e := dx) (by rw [e]; exact True.intro) (.inr ho) (fun b q hb z => (sb.2 b hb).trans z) hd ?_
  refine ⟨by rw [upd_ne O.ne]; exact ho, ?_, O.ne, O'.obj, _, O'.ns, fun g => ?_, fun g hg => ?_⟩
  · have := length_putF f y fs; omega
  · show RelO ((putF f y fs).lookup g) (if g = f then some u else mA g)
    rw [lookup_putF]
    by_cases q : g = f
    · rw [if_pos q, if_pos q]; exact ry
    · rw [if_neg q, if_neg q]; exact r g
  · by_cases q : g = f
    · rw [q]; exact (keys_putF f y fs).1
    · refine (keys_putF f y fs).2 g (wi g fun z => hg ?_)
      show (if g = f then some u else mA g) = none
      rw [if_neg q]; exact z
theorem Inv.made (I : Inv X pins σ H s) : Inv X pins σ (upd (upd H s.heap.objs.size (.own (s.heap.objs.size + 1))) (s.heap.objs.size + 1) (.ins C s.heap.objs.size []))
    { s with heap := (s.heap.push PySem.W.emptyDict).push (PySem.W.instObj C s.heap.objs.size) } := by
  have e1 : (s.heap.push PySem.W.emptyDict).get? s.heap.objs.size = some PySem.W.emptyDict := Heap.get?_push_size s.heap rfl
  have e2 : ((s.heap.push PySem.W.emptyDict).push (PySem.W.instObj C s.heap.objs.size)).get? (s.heap.objs.size + 1) = some (PySem.W.instObj C s.heap.objs.size) := by
    have := Heap.get?_push_size (s.heap.push PySem.W.emptyDict) (o := PySem.W.instObj C s.heap.objs.size) rfl
    rwa [Heap.size_push] at this
  have e3 : (s.heap.push PySem.W.emptyDict).Ns s.heap.objs.size (fun _ => none) := ⟨PySem.W.emptyDict, #[], _, e1, rfl, (fun e he => absurd he (by simp)), fun _ => rfl⟩
  have I1 := I.laid (a := s.heap.objs.size) (o := .own (s.heap.objs.size + 1)) (h' := s.heap.push PySem.W.emptyDict) (t' := s.toks) (fun b u q => Heap.get?_push_of_some _ q) (Nat.le_refl _) ⟨_, e1⟩
  refine I1.laid (a := s.heap.objs.size + 1) (o := .ins C s.heap.objs.size []) (t' := s.toks) (fun b u q => Heap.get?_push_of_some _ q) (Nat.le_of_eq (Heap.size_push _ _)) ?_
  have ne : s.heap.objs.size ≠ s.heap.objs.size + 1 := Nat.ne_of_lt (Nat.lt_succ_self _)
  refine ⟨by rw [upd_ne ne, upd_same], Nat.zero_le _, ne, e2, fun _ => none, (Heap.Ns1.of_empty e3).at fun o q => Heap.get?_push_of_some _ q, fun _ => True.intro, fun y hy => absurd rfl hy⟩
theorem attr_of {prog : Program} {w : World} {env : Env} {e : Expr} {f : Str} {pos : Pos} {s : Shared} {Q : Value → Shared → Prop} (hb : attributeBase e f env (eval e env) = eval e env)
    (h : wpAny (model prog w) A (eval e env) (fun o s₁ => wpAny (model prog w) A (getAttr o f true) Q E s₁) E s) : wpAny (model prog w) A (eval (.Attribute e f pos) env) Q E s :=
  Attribute_any_ h (by rw [arm_eval_Attribute, hb])
end
def tFld (K : PySem.W.Frag) (ta : TE) (f : Str) : TE := fun σ H Q => ta σ H fun x H1 => ∃ a C dx fs v, x = .ref a ∧ H1 a = some (.ins C dx fs) ∧ Cls K C ∧ NoAttr K C f ∧ fs.lookup f = some v ∧ Q v H1
def tCon (K : PySem.W.Frag) (ta : TE) (f : Str) : TE := fun σ H Q => ta σ H fun x H1 => ∃ a C dx fs v u, x = .ref a ∧ H1 a = some (.ins C dx fs) ∧ Cls K C ∧ Con K C f v u ∧ fs.lookup f = none ∧ Q v H1
def sFld (K : PySem.W.Frag) (ta tv : TE) (f : Str) : TS := fun D σ H => tv σ H fun y H1 => ta σ H1 fun x H2 => ∃ a C dx fs, x = .ref a ∧ H2 a = some (.ins C dx fs) ∧ Cls K C ∧ NoAttr K C f ∧ fs.length < 1000 ∧
  D.nx σ (upd H2 a (.ins C dx (putF f y fs)))
def InOp (X : Cx) (op : Operator) (rd : V → V → Hp → VK → Prop) : Prop :=
  ∀ (pins : List (Addr × Obj)) (s : Shared) (σ : St) (H : Hp) (x y : V) (u v : Value) (Q : VK), Inv X pins σ H s → RelV x u → RelV y v → rd x y H Q → wpAny (model X.prog X.w) X.A (inplaceOp op u v) (EP X pins σ Q) X.xe s
def sFldAug (K : PySem.W.Frag) (ta tv : TE) (rd : V → V → Hp → VK → Prop) (f : Str) : TS := fun D σ H => ta σ H fun x H1 => ∃ a C dx fs v, x = .ref a ∧ H1 a = some (.ins C dx fs) ∧ Cls K C ∧ NoAttr K C f ∧ fs.lookup f = some v ∧
  tv σ H1 fun y H2 => rd v y H2 fun z H3 => ∃ dx' fs', H3 a = some (.ins C dx' fs') ∧ fs'.length < 1000 ∧ D.nx σ (upd H3 a (.ins C dx' (putF f z fs')))
section
variable {X : Cx} {o e value : Expr} {f : Str} {pos pos' tpos : Pos} {ta tv : TE}
theorem pe_fld (he : PE X e ta) (hb : attributeBase e f X.env (eval e X.env) = eval e X.env) : PE X (.Attribute e f pos) (tFld X.K ta f) := by
  intro pins s σ H Q I h
  refine attr_of hb (thn (he pins s σ H _ I h) fun u s1 ⟨x, H1, I1, rx, a, C, dx, fs, v, ex, ea, c, n, l, q⟩ => ?_)
  subst ex
  obtain rfl : u = Value.ref a := rx
  exact getattr_ok I1 ea c n l fun u' s2 I2 ru => ⟨v, H1, I2, ru, q⟩
theorem ps_fld (ha : PE X o ta) (hv : PE X value tv) (hs : swapsWith value (some (.Attribute o f pos')) pos.line X.env = pure false) : PS X (.Assign [.Attribute o f pos'] value pos) (sFld X.K ta tv f) := by
  intro pins s σ H D I h
  refine plainObj_wpAny_Assign_Attribute (thn (hv pins s σ H _ I h) fun u s1 ⟨y, H1, I1, ry, q⟩ => thn (ha pins s1 σ H1 _ I1 q) fun ov s2 ⟨x, H2, I2, rx, a, C, dx, fs, ex, ea, c, n, l, q2⟩ => ?_) hs
  subst ex
  obtain rfl : ov = Value.ref a := rx
  exact setattr_ok I2 ea c n l ry fun s3 I3 => ⟨σ, _, I3, q2⟩
def rAdd : V → V → Hp → VK → Prop := fun x y H Q => ∃ i j, x = .int i ∧ y = .int j ∧ Q (.int (i + j)) H
def rSub : V → V → Hp → VK → Prop := fun x y H Q => ∃ i j, x = .int i ∧ y = .int j ∧ Q (.int (i - j)) H
end
section
variable {X : Cx} {pins : List (Addr × Obj)} {σ : St} {H : Hp} {s : Shared} {A : Around} {E : Value → Shared → Prop} {Q : Value → Shared → Prop} {c : Value} {b : Bool}
inductive TyOf (K : PySem.W.Frag) (H : Hp) : V → Value → Prop where
  | non : TyOf K H .non (.type "NoneType")
  | bl (x : Bool) : TyOf K H (.bl x) (.type "bool")
  | int (i : Int) : TyOf K H (.int i) (.type "int")
  | str (x : Str) : TyOf K H (.str x) (.type "str")
  | flt (x : UInt64) : TyOf K H (.flt x) (.type "float")
  | lst {a : Addr} {xs : List V} (e : H a = some (.lst xs)) : TyOf K H (.ref a) (.type "list")
  | frz {a : Addr} {o : Obj} {xs : List V} (e : H a = some (.frz o (.lst xs))) : TyOf K H (.ref a) (.type "list")
  | tup {a : Addr} {xs : List V} (e : H a = some (.tup xs)) : TyOf K H (.ref a) (.type "tuple")
  | dK {a : Addr} {kvs : List (Key × V)} (e : H a = some (.dK kvs)) : TyOf K H (.ref a) (.type "dict")
  | dT {a : Addr} {kvs : List (List Key × V)} (e : H a = some (.dT kvs)) : TyOf K H (.ref a) (.type "dict")
  | ins {a C dx : Addr} {fs : List (Str × V)} (e : H a = some (.ins C dx fs)) (cl : Cls K C) (ha : PySem.W.findIn K (.ref C) "__class__" = some (some (.builtin "object.__class__")))
      (hn : PySem.W.specialIn K (.builtin "object.__class__") "__get__" = some (some (.builtin "getset_descriptor.__get__"))) (htk : PySem.W.takesIn K (.builtin "object.__class__") = some true)
      (hm : PySem.W.mroIn K C (.type "object") = some true) : TyOf K H (.ref a) (.ref C)
theorem isinst_ok {x : V} {u t : Value} (I : Inv X pins σ H s) (rx : RelV x u) (ty : TyOf X.K H x t) (e : PySem.W.kitOne X.K t c = some b) (h : ∀ tk, Q (.bool b) { s with toks := tk }) :
    wpAny (model X.prog X.w) A (call (.builtin "isinstance") [u, c]) Q E s := by
  cases ty with
  | non => cases (show u = Value.none from rx); exact PySem.W.kia_one PySem.W.kitx_none I.kIn True.intro e (fun z => nomatch z) h
  | bl y => cases (show u = Value.bool y from rx); exact PySem.W.kia_one PySem.W.kitx_bool I.kIn True.intro e (fun z => nomatch z) h
  | int i => obtain ⟨t, q⟩ := (show ∃ t, u = Value.int i t from rx); cases q; exact PySem.W.kia_one PySem.W.kitx_int I.kIn True.intro e (fun z => nomatch z) h
  | str y => obtain ⟨t, q⟩ := (show ∃ t, u = Value.str y t from rx); cases q; exact PySem.W.kia_one PySem.W.kitx_str I.kIn True.intro e (fun z => nomatch z) h
  | flt y => obtain ⟨t, q⟩ := (show ∃ t, u = Value.float y t from rx); cases q; exact PySem.W.kia_one PySem.W.kitx_float I.kIn True.intro e (fun z => nomatch z) h
  | @lst a xs ea =>
    cases (show u = Value.ref a from rx)
    obtain ⟨_, _, n, _, h1⟩ := (show ObjOk X.prog X.w H s.heap a (.lst xs) from I.hok a _ ea)
    exact PySem.W.kia_one PySem.W.kitx_list I.kIn ⟨_, h1, rfl⟩ e (fun z => nomatch z) h
  | @frz a ob xs ea =>
    cases (show u = Value.ref a from rx)
    obtain ⟨_, _, _, n, _, h1⟩ := (show ObjOk X.prog X.w H s.heap a (.frz ob (.lst xs)) from I.hok a _ ea)
    exact PySem.W.kia_one PySem.W.kitx_list I.kIn ⟨_, h1, rfl⟩ e (fun z => nomatch z) h
  | @tup a xs ea =>
    cases (show u = Value.ref a from rx)
    obtain ⟨_, _, _, p⟩ := (show ObjOk X.prog X.w H s.heap a (.tup xs) from I.hok a _ ea)
    obtain ⟨o, h1, h2, _⟩ := p
    exact PySem.W.kia_one PySem.W.kitx_tuple I.kIn ⟨o, h1, h2⟩ e (fun z => nomatch z) h
  | @dK a kvs ea =>
    cases (show u = Value.ref a from rx)
    obtain ⟨_, _, vs, _, p⟩ := (show ObjOk X.prog X.w H s.heap a (.dK kvs) from I.hok a _ ea)
    obtain ⟨o, es, ep, h1, h2, _⟩ := p
    exact PySem.W.kia_one PySem.W.kitx_dict I.kIn ⟨o, h1, h2.1⟩ e (fun z => nomatch z) h
  | @dT a kvs ea =>
    cases (show u = Value.ref a from rx)
    obtain ⟨_, _, xs, _, o, es, ep, h1, h2, _⟩ := (show ObjOk X.prog X.w H s.heap a (.dT kvs) from I.hok a _ ea)
    exact PySem.W.kia_one PySem.W.kitx_dict I.kIn ⟨o, h1, h2.1⟩ e (fun z => nomatch z) h
  | @ins a C dx fs ea cl ha hn htk hm =>
    cases (show u = Value.ref a from rx)
    obtain ⟨mA, O, _⟩ := ins_get I.hok ea
    obtain ⟨od, J, _⟩ := O.look
    exact PySem.W.kia_one (PySem.W.kitx_own (cl.get _) cl.hd ha hn htk hm) I.kIn J e (fun z => nomatch z) h
end
end L2
namespace L2
open PySem PySem.Spec PyProof.Rows
structure Room (k : Nat) (A : Around) : Prop where
  hd : A.handled = none
  dp : A.depth + 3 * k + 5 < recursionLimit
  un : A.units + 16 * k + 200 < cLine
theorem Room.mono {j k : Nat} {A : Around} (r : Room k A) (h : j ≤ k) : Room j A := ⟨r.hd, by have := r.dp; omega, by have := r.un; omega⟩
theorem Room.deeper {k : Nat} {A : Around} (r : Room (k + 1) A) (env : Env) : Room k (A.deeper env) :=
  ⟨r.hd, by have := r.dp; show A.depth + 1 + 3 * k + 5 < _; omega, by have := r.un; show A.units + 3 + 16 * k + 200 < _; omega⟩
theorem make_depth {A : Around} {C : Addr} {us : List Value} {kw : List (Str × Value)} : (A.under (.builtin "type.__call__" ⟨.ref C :: us, kw⟩)).depth = A.depth + 1 := by
  first | rfl | simp [Around.under, Code.weight, Code.isCreation, Code.isGuard, Code.isCaller, Code.frames, Code.isFrame, guardIds]
theorem make_units {A : Around} {C : Addr} {us : List Value} {kw : List (Str × Value)} : (A.under (.builtin "type.__call__" ⟨.ref C :: us, kw⟩)).units = A.units + 1 := by
  first | rfl | simp [Around.under, Code.cUnits, Code.frames, Code.isFrame]
theorem Room.make {k : Nat} {A : Around} (r : Room (k + 1) A) (C : Addr) (us : List Value) (kw : List (Str × Value)) : Room k (A.under (.builtin "type.__call__" ⟨.ref C :: us, kw⟩)) :=
  ⟨r.hd, by have := r.dp; rw [make_depth]; omega, by have := r.un; rw [make_units]; omega⟩
theorem Room.depth {k : Nat} {A : Around} (r : Room k A) : A.depth < recursionLimit := by have := r.dp; omega
theorem Room.units {k : Nat} {A : Around} (r : Room k A) : A.units + 64 < cLine := by have := r.un; omega
theorem Room.units0 {k : Nat} {A : Around} (r : Room k A) : A.units < cLine := by have := r.un; omega
def tNil : TA := fun _ H Q => Q [] H
def tCons (ta : TE) (tr : TA) : TA := fun σ H Q => ta σ H fun x H1 => tr σ H1 fun xs H2 => Q (x :: xs) H2
section
variable {X : Cx} {e : Expr} {es : List Expr} {te : TE} {t : TA} {pos : Pos}
theorem pa_nil : PA X [] tNil := fun _ _ _ _ H Q I h => Calls.spliced_nil ⟨[], H, I, .nil, h⟩
theorem pa_cons (ha : PE X e te) (hr : PA X es t) (hs : starEach (e :: es) X.env = (false, eval e X.env) :: starEach es X.env := by rfl) : PA X (e :: es) (tCons te t) := by
  intro pos pins s σ H Q I h
  rw [hs]
  show wpAny _ _ (spliced ((false, eval e X.env) :: backTo pos (starEach es X.env))) _ _ s
  refine Calls.spliced_cons (thn (ha pins s σ H _ I h) fun u s1 ⟨x, H1, I1, r1, q1⟩ => ?_)
  exact thn (hr pos pins s1 σ H1 _ I1 q1) fun us s2 ⟨xs, H2, I2, r2, q2⟩ => ⟨x :: xs, H2, I2, .cons r1 r2, q2⟩
def tTup (t : TA) : TE := fun σ H Q => t σ H fun xs H1 => xs.length ≤ sizeLine ∧ ∀ p, H1 p = none → Q (.ref p) (upd H1 p (.tup xs))
def tLst (t : TA) : TE := fun σ H Q => t σ H fun xs H1 => xs.length ≤ sizeLine ∧ ∀ p, H1 p = none → Q (.ref p) (upd H1 p (.lst xs))
theorem pe_tup {x1} (h : PA X es t) : PE X (.Tuple es x1 pos) (tTup t) := by
  intro pins s σ H Q I hq
  refine wpAny_Tuple_spliced (thn (h pos pins s σ H _ I hq) fun us s1 ⟨xs, H1, I1, r, z, q⟩ => ⟨by rw [← r.length]; exact z, ?_⟩)
  have hf : H1 s1.heap.objs.size = none := I1.hok.fresh (Nat.le_refl _)
  refine ⟨.ref s1.heap.objs.size, upd H1 s1.heap.objs.size (.tup xs), I1.laid (t' := s1.toks) (fun b u e => Heap.get?_push_of_some _ e) (Nat.le_refl _) ?_, rfl, q _ hf⟩
  exact ⟨z, us, r, ⟨_, Heap.get?_push_size _ rfl, rfl, _, rfl⟩⟩
theorem pe_lst (h : PA X es t) : PE X (.List es pos) (tLst t) := by
  intro pins s σ H Q I hq
  refine wpAny_List_spliced (thn (h pos pins s σ H _ I hq) fun us s1 ⟨xs, H1, I1, r, z, q⟩ => ⟨by rw [← r.length]; exact z, ?_⟩)
  have hf : H1 s1.heap.objs.size = none := I1.hok.fresh (Nat.le_refl _)
  refine ⟨.ref s1.heap.objs.size, upd H1 s1.heap.objs.size (.lst xs), I1.laid (t' := s1.toks) (fun b u e => Heap.get?_push_of_some _ e) (Nat.le_refl _) ?_, rfl, q _ hf⟩
  exact ⟨z, us, 0, r, Heap.get?_push_size _ rfl⟩
end
abbrev Sp := List V → Hp → VK → XK → Prop
abbrev CXT := List Env → Hp → Shared → XK → Value → Shared → Prop
structure Env0 (P : Program) (w : World) (K : PySem.W.Frag) (mg : Str → Option Value) (base : Heap) (A : Around) (outer : List Env) (s : Shared) (H : Hp) : Prop where
  frames : A.frames = some outer
  mod : Mod K mg base
  bs : ∀ b o, base.get? b = some o → s.heap.get? b = some o ∧ H b = none
  bsz : base.objs.size ≤ s.heap.objs.size
  funs : s.heap.FunFrames base outer
  frf : ∀ b ∈ frs outer, H b = none
  hok : HOk P w H s.heap
  bare : AllBare s.gens
def CE (outer : List Env) (P : Program) (w : World) (H : Hp) (s : Shared) (Q : VK) (u : Value) (s' : Shared) : Prop :=
  ∃ v H', s'.os = s.os ∧ AllBare s'.gens ∧ Un (frs outer) [] H H' s.heap s'.heap ∧ HOk P w H' s'.heap ∧ RelV v u ∧ Q v H'
def CR (CX : CXT) (outer : List Env) (P : Program) (w : World) (H : Hp) (s : Shared) (Q : VK) (E : XK) (r : Result) (s' : Shared) : Prop :=
  match r with
  | .ok (.ret u) => CE outer P w H s Q u s'
  | .ok _ => False
  | .error e => CX outer H s E e s'
structure FnOk (P : Program) (w : World) (K : PySem.W.Frag) (mg : Str → Option Value) (base : Heap) (CX : CXT) (k : Nat) (f : Addr) (fd : FuncData) (ps : List Str) (sp : Sp) : Prop where
  len : ∀ vs H Q E, sp vs H Q E → vs.length = ps.length
  run : ∀ (A : Around) (outer : List Env) (s : Shared) (H : Hp) (args : Args) (us : List Value) (vs : List V) (Q : VK) (E : XK), Room k A → Env0 P w K mg base A outer s H → BindsTo s fd args (ps.zip us) → Vals vs us → sp vs H Q E →
    codeAny (model P w) A (.call (.ref f) args) (CR CX outer P w H s Q E) s
theorem FnOk.mono {P : Program} {w : World} {K : PySem.W.Frag} {mg : Str → Option Value} {base : Heap} {CX : CXT} {j k : Nat} {f : Addr} {fd : FuncData} {ps : List Str} {sp : Sp} (F : FnOk P w K mg base CX j f fd ps sp) (h : j ≤ k) :
    FnOk P w K mg base CX k f fd ps sp := ⟨F.len, fun A outer s H args us vs Q E hr => F.run A outer s H args us vs Q E (hr.mono h)⟩
theorem Env0.make {P : Program} {w : World} {K : PySem.W.Frag} {mg : Str → Option Value} {base : Heap} {A : Around} {outer : List Env} {s : Shared} {H : Hp} (e : Env0 P w K mg base A outer s H) (C : Addr) (us : List Value) (kw : List (Str × Value)) :
    Env0 P w K mg base (A.under (.builtin "type.__call__" ⟨.ref C :: us, kw⟩)) outer s H := ⟨by first | exact e.frames | (simpa [Around.under, Code.envs, Code.isFrame, pushEnvs] using e.frames), e.mod, e.bs, e.bsz, e.funs, e.frf, e.hok, e.bare⟩
section
variable {X : Cx} {pins : List (Addr × Obj)} {σ : St} {H : Hp} {s s' : Shared}
theorem Inv.env0 (I : Inv X pins σ H s) : Env0 X.prog X.w X.K X.mg X.base X.A X.stack s H :=
  ⟨I.ok.frames, I.ok.mod, I.bs, Nat.le_trans I.ok.bsz I.sz, I.stack, I.stkFree, I.hok, I.bare⟩
theorem Inv.after {Q : VK} {u : Value} (I : Inv X pins σ H s) (h : CE X.stack X.prog X.w H s Q u s') : EP X pins σ Q u s' := by
  obtain ⟨v, H', os, bare, un, hok, r, q⟩ := h
  obtain ⟨hh, g, d, t, os'⟩ := s'
  obtain rfl : os' = s.os := os
  exact ⟨v, H', I.call (h' := hh) (g' := g) (d' := d) (t' := t) (ch := []) un hok bare (fun b z => absurd z (by simp)), r, q⟩
end
def tCall (sp : Sp) (dvs : List V) (E : XK) (t : TA) : TE := fun σ H Q => t σ H fun vs H1 => sp (vs ++ dvs) H1 Q E
def tMeth (C : Addr) (m : Str) (sp : Sp) (dvs : List V) (E : XK) (ta : TE) (t : TA) : TE := fun σ H Q => ta σ H fun x H1 => ∃ a dx fs, x = .ref a ∧ H1 a = some (.ins C dx fs) ∧ fs.lookup m = none ∧
  t σ H1 fun vs H2 => sp (x :: (vs ++ dvs)) H2 Q E
def tMake (C : Addr) (sp : Sp) (dvs : List V) (E : XK) (t : TA) : TE := fun σ H Q => t σ H fun vs H1 => ∀ x dx, H1 x = none → H1 dx = none → dx ≠ x →
  sp (.ref x :: (vs ++ dvs)) (upd (upd H1 dx (.own x)) x (.ins C dx [])) (fun v H2 => v = .non ∧ Q (.ref x) H2) E
def Binds (K : PySem.W.Frag) (fd : FuncData) (ps : List Str) (ds : List Value) : Prop :=
  ∀ (s : Shared) (us : List Value), K.In s.heap → (us ++ ds).length = ps.length → BindsTo s fd ⟨us, []⟩ (ps.zip (us ++ ds))
theorem Binds.all {K : PySem.W.Frag} {fd : FuncData} {ps : List Str} (h : ∀ us : List Value, us.length = ps.length → bindArgs fd ⟨us, []⟩ = pure (ps.zip us)) : Binds K fd ps [] := fun s us _ hl => by
  rw [List.append_nil] at hl ⊢
  exact .of_eq (h us hl)
def Passes (CX : CXT) (X : Cx) (E : XK) : Prop := ∀ (pins : List (Addr × Obj)) (σ : St) (H : Hp) (s : Shared) (e : Value) (s' : Shared), Inv X pins σ H s → CX X.stack H s E e s' → X.xe e s'
section
variable {X : Cx} {CX : CXT} {k : Nat} {f C : Addr} {fd : FuncData} {ps : List Str} {sp : Sp} {dvs : List V} {ds : List Value} {E : XK} {x m : Str} {p pos apos : Pos} {e o : Expr} {es : List Expr} {ta : TE} {t : TA}
theorem run_fn {pins : List (Addr × Obj)} {σ : St} {H : Hp} {s : Shared} {Q : VK} {us : List Value} {vs : List V} (F : FnOk X.prog X.w X.K X.mg X.base CX k f fd ps sp) (hr : Room k X.A) (hb : Binds X.K fd ps ds) (hd : Vals dvs ds) (hx : Passes CX X E)
    (I : Inv X pins σ H s) (r : Vals vs us) (h : sp (vs ++ dvs) H Q E) : wpAny (model X.prog X.w) X.A (call (.ref f) us) (EP X pins σ Q) X.xe s := by
  have r2 : Vals (vs ++ dvs) (us ++ ds) := r.append hd
  have hl : (us ++ ds).length = ps.length := by rw [← r2.length]; exact F.len _ _ _ _ h
  refine wpAny_call (codeAny_mono (F.run X.A X.stack s H ⟨us, []⟩ (us ++ ds) (vs ++ dvs) Q E hr I.env0 (hb s us I.kIn hl) r2 h) fun r s' hq => ?_)
  cases r with
  | error e => exact hx pins σ H s e s' I hq
  | ok fl =>
    cases fl with
    | ret u => exact I.after hq
    | next => exact False.elim hq
    | brk => exact False.elim hq
    | cont => exact False.elim hq
theorem pe_call (F : FnOk X.prog X.w X.K X.mg X.base CX k f fd ps sp) (hr : Room k X.A) (hg : Gl X x) (hm : X.mg x = some (.ref f)) (hk : PySem.W.keepIn X.K (.ref f) = true) (hb : Binds X.K fd ps ds) (hd : Vals dvs ds) (hx : Passes CX X E)
    (ha : PA X (e :: es) t) (hdb : (x == ("__debug__" : Str)) = false := by decide) (he : starEach (e :: es) X.env = (false, eval e X.env) :: starEach es X.env := by rfl) (hpl : (backTo pos (starEach es X.env)).any (·.1) = false := by rfl) :
    PE X (.Call (.Name x p) (e :: es) [] pos) (tCall sp dvs E t) := by
  intro pins s σ H Q I h
  refine wpAny_Call_Name_kw (ld_glob I hg hm ?_ hdb)
  refine PySem.W.callWith_K (h₀ := X.base) I.ok.mod.kin hk (thn (ha pos pins s σ H _ I h) fun us s1 ⟨vs, H1, I1, r, q⟩ => ⟨I1.kIn, ?_⟩) he hpl
  exact run_fn F hr hb hd hx I1 r q
structure Mk (K : PySem.W.Frag) (C f : Addr) : Prop where
  makes : PySem.W.makesIn K C = true
  init : PySem.W.findIn K (.ref C) "__init__" = some (some (.ref f))
  fn : PySem.W.isFn K (.ref f) = true
  kp : PySem.W.keepIn K (.ref C) = true
theorem run_make {pins : List (Addr × Obj)} {σ : St} {H : Hp} {s : Shared} {Q : VK} {us : List Value} {vs : List V} (M : Mk X.K C f) (F : FnOk X.prog X.w X.K X.mg X.base CX k f fd ps sp) (hr : Room (k + 1) X.A) (hb : Binds X.K fd ps ds) (hd : Vals dvs ds)
    (hx : Passes CX X E) (I : Inv X pins σ H s) (r : Vals vs us)
    (h : ∀ x dx, H x = none → H dx = none → dx ≠ x → sp (.ref x :: (vs ++ dvs)) (upd (upd H dx (.own x)) x (.ins C dx [])) (fun v H2 => v = .non ∧ Q (.ref x) H2) E) :
    wpAny (model X.prog X.w) X.A (call (.ref C) us) (EP X pins σ Q) X.xe s := by
  have hq := h (s.heap.objs.size + 1) s.heap.objs.size (I.hok.fresh (Nat.le_succ _)) (I.hok.fresh (Nat.le_refl _)) (Nat.ne_of_lt (Nat.lt_succ_self _))
  have I2 := Inv.made (C := C) I
  have r2 : Vals (V.ref (s.heap.objs.size + 1) :: (vs ++ dvs)) (Value.ref (s.heap.objs.size + 1) :: (us ++ ds)) := .cons rfl (r.append hd)
  have hl : (Value.ref (s.heap.objs.size + 1) :: us ++ ds).length = ps.length := by
    have e := r2.length
    rw [F.len _ _ _ _ hq] at e
    exact e.symm
  refine wpAny_call (make_map (f := f) I.kIn M.makes M.init (beq_iff_eq.mp M.fn) (codeAny_mono (F.run _ X.stack _ _ ⟨Value.ref (s.heap.objs.size + 1) :: us, []⟩ (Value.ref (s.heap.objs.size + 1) :: (us ++ ds)) _ _ E (hr.make C us [])
    (I2.env0.make C us []) (hb _ (Value.ref (s.heap.objs.size + 1) :: us) I2.kIn hl) r2 hq) fun r s' hq' => ?_))
  cases r with
  | error e => exact hx pins σ _ _ e s' I2 hq'
  | ok fl =>
    cases fl with
    | ret u =>
      obtain ⟨v, H', I3, rv, ev, q3⟩ := I2.after hq'
      subst ev
      exact ⟨rv, ⟨V.ref (s.heap.objs.size + 1), H', I3, rfl, q3⟩⟩
    | next => exact False.elim hq'
    | brk => exact False.elim hq'
    | cont => exact False.elim hq'
theorem pe_make (M : Mk X.K C f) (F : FnOk X.prog X.w X.K X.mg X.base CX k f fd ps sp) (hr : Room (k + 1) X.A) (hg : Gl X x) (hm : X.mg x = some (.ref C)) (hb : Binds X.K fd ps ds) (hd : Vals dvs ds) (hx : Passes CX X E)
    (ha : PA X (e :: es) t) (hdb : (x == ("__debug__" : Str)) = false := by decide) (he : starEach (e :: es) X.env = (false, eval e X.env) :: starEach es X.env := by rfl) (hpl : (backTo pos (starEach es X.env)).any (·.1) = false := by rfl) :
    PE X (.Call (.Name x p) (e :: es) [] pos) (tMake C sp dvs E t) := by
  intro pins s σ H Q I h
  refine wpAny_Call_Name_kw (ld_glob I hg hm ?_ hdb)
  refine PySem.W.callWith_K (h₀ := X.base) I.ok.mod.kin M.kp (thn (ha pos pins s σ H _ I h) fun us s1 ⟨vs, H1, I1, r, q⟩ => ⟨I1.kIn, ?_⟩) he hpl
  exact run_make M F hr hb hd hx I1 r q
end
def PK (X : Cx) (kws : List Keyword) (t : TA) : Prop :=
  ∀ (pos : Pos) (pins : List (Addr × Obj)) (s : Shared) (σ : St) (H : Hp) (Q : List V → Hp → Prop), Inv X pins σ H s → t σ H Q → wpAny (model X.prog X.w) X.A (evalAll ((backToKw pos (keywordEach kws X.env)).map (·.2))) (AP X pins σ Q) X.xe s
section
variable {X : Cx} {CX : CXT} {k : Nat} {f C : Addr} {fd : FuncData} {ps ks : List Str} {sp : Sp} {E : XK} {x m : Str} {p pos apos kpos : Pos} {e o : Expr} {es : List Expr} {kws : List Keyword} {te ta : TE} {t tk : TA} {nm : Option Str}
structure KBinds (K : PySem.W.Frag) (fd : FuncData) (ps ks : List Str) (g : List Value → List Value → List Value) (gV : List V → List V → List V) : Prop where
  to : ∀ (s : Shared) (us ws : List Value), K.In s.heap → (g us ws).length = ps.length → BindsTo s fd ⟨us, ks.zip ws⟩ (ps.zip (g us ws))
  rel : ∀ {vs : List V} {us : List Value} {zs : List V} {ws : List Value}, Vals vs us → Vals zs ws → Vals (gV vs zs) (g us ws)
def tCallK (sp : Sp) (gV : List V → List V → List V) (E : XK) (t tk : TA) : TE := fun σ H Q => t σ H fun vs H1 => tk σ H1 fun zs H2 => sp (gV vs zs) H2 Q E
variable {g : List Value → List Value → List Value} {gV : List V → List V → List V}
end
structure FnScope (N P : List Str) (sc : Scope) : Prop where
  kind : sc.kind = .function
  co : sc.isCoroutine = false
  gen : sc.isGenerator = false
  nd : N.Nodup
  pre : N.take P.length = P
  par : ∀ x ∈ P, sc.names.lookup x = some .local ∨ sc.names.lookup x = some .cell
  nofree : ∀ y ∈ sc.names, y.2 ≠ .free
theorem bindL_out {kindOf : Str → Option NameKind} {x : Str} : ∀ {binds : List (Str × Value)} {m : Str → Option Value}, (∀ v, (x, v) ∉ binds) → bindL kindOf binds m x = m x
  | [], _, _ => rfl
  | (n, v) :: r, m, h => by
    unfold bindL
    rw [bindL_out fun w hw => h w (List.mem_cons_of_mem _ hw)]
    split
    · have : x ≠ n := by rintro rfl; exact h v List.mem_cons_self
      simp [this]
    · rfl
theorem bindC_out {kindOf : Str → Option NameKind} {x : Str} : ∀ {binds : List (Str × Value)} {m : Str → Option Value}, (∀ v, (x, v) ∉ binds) → bindC kindOf binds m x = m x
  | [], _, _ => rfl
  | (n, v) :: r, m, h => by
    unfold bindC
    rw [bindC_out fun w hw => h w (List.mem_cons_of_mem _ hw)]
    split
    · rfl
    · have : x ≠ n := by rintro rfl; exact h v List.mem_cons_self
      simp [this]
theorem bindL_get {kindOf : Str → Option NameKind} {x : Str} {v : Value} : ∀ {P : List Str} {vs : List Value} {i : Nat} {m : Str → Option Value}, P.Nodup → P[i]? = some x → vs[i]? = some v → kindOf x = some .local →
    bindL kindOf (P.zip vs) m x = some v
  | [], _, _, _, _, h, _, _ => by simp at h
  | _ :: _, [], _, _, _, _, h, _ => by simp at h
  | p :: P, w :: vs, 0, m, nd, h1, h2, hk => by
    simp at h1 h2; subst h1; subst h2
    show bindL kindOf ((p, w) :: P.zip vs) m p = _
    unfold bindL
    rw [bindL_out fun v hv => (List.nodup_cons.mp nd).1 (List.of_mem_zip hv).1, if_pos hk]
    simp
  | p :: P, w :: vs, i + 1, m, nd, h1, h2, hk => by
    show bindL kindOf ((p, w) :: P.zip vs) m x = _
    unfold bindL
    exact bindL_get (i := i) (List.nodup_cons.mp nd).2 (by simpa using h1) (by simpa using h2) hk
theorem bindC_get {kindOf : Str → Option NameKind} {x : Str} {v : Value} : ∀ {P : List Str} {vs : List Value} {i : Nat} {m : Str → Option Value}, P.Nodup → P[i]? = some x → vs[i]? = some v → kindOf x ≠ some .local →
    bindC kindOf (P.zip vs) m x = some v
  | [], _, _, _, _, h, _, _ => by simp at h
  | _ :: _, [], _, _, _, _, h, _ => by simp at h
  | p :: P, w :: vs, 0, m, nd, h1, h2, hk => by
    simp at h1 h2; subst h1; subst h2
    show bindC kindOf ((p, w) :: P.zip vs) m p = _
    unfold bindC
    rw [bindC_out fun v hv => (List.nodup_cons.mp nd).1 (List.of_mem_zip hv).1, if_neg hk]
    simp
  | p :: P, w :: vs, i + 1, m, nd, h1, h2, hk => by
    show bindC kindOf ((p, w) :: P.zip vs) m x = _
    unfold bindC
    exact bindC_get (i := i) (List.nodup_cons.mp nd).2 (by simpa using h1) (by simpa using h2) hk
def start (N : List Str) (vs : List V) : St := vs.map some ++ List.replicate (N.length - vs.length) none
def cxOf (CX : CXT) (P : Program) (w : World) (K : PySem.W.Frag) (mg : Str → Option Value) (base : Heap) (N : List Str) (qual : Str) (scope : Scope) (f : Addr) (cd : Value) (A : Around) (outer : List Env) (s : Shared) (H : Hp) (E : XK) : Cx where
  prog := P
  w := w
  K := K
  mg := mg
  base := base
  A := A.deeper (envOfC qual scope s.heap.objs.size f cd)
  N := N
  s₀ := s
  H₀ := H
  env := envOfC qual scope s.heap.objs.size f cd
  outer := outer
  stack := envOfC qual scope s.heap.objs.size f cd :: outer
  ex := []
  calm := true
  fn := fun _ => true
  pn := []
  xe := fun e s' => wpAny (model P w) (A.deeper (envOfC qual scope s.heap.objs.size f cd)) (leaving (envOfC qual scope s.heap.objs.size f cd) e) (fun _ s'' => CX outer H s E e s'') (fun e' s'' => CX outer H s E e' s'') s'
theorem cell_has {sc : Scope} {n : Nat} {x : Str} (h : sc.names.lookup x = some .cell) : ∃ c, (cellsFrom n sc.names []).lookup x = some c := by
  have q := PySem.W.cellsFrom_some sc.names n [] (.inl h)
  exact Option.isSome_iff_exists.mp q
theorem inv_start {CX : CXT} {P : Program} {w : World} {K : PySem.W.Frag} {mg : Str → Option Value} {base : Heap} {N ps : List Str} {qual : Str} {scope : Scope} {f : Addr} {cd : Value} {A : Around} {outer : List Env} {s s1 : Shared} {H : Hp} {E : XK} {us : List Value} {vs : List V}
    (S : FnScope N ps scope) (hd : A.handled = none) (e0 : Env0 P w K mg base A outer s H) (hl : vs.length = ps.length) (r : Vals vs us)
    (x : InCallC s s.heap.objs.size (bindL (envOfC qual scope s.heap.objs.size f cd).kindOf (ps.zip us) fun _ => none) (cellsFrom (s.heap.objs.size + 1) scope.names []) (bindC (envOfC qual scope s.heap.objs.size f cd).kindOf (ps.zip us) fun _ => none) s1) :
    Inv (cxOf CX P w K mg base N qual scope f cd A outer s H E) [] (start N vs) H s1 := by
  have hpl : ps.length ≤ N.length := by have := congrArg List.length S.pre; rw [List.length_take] at this; omega
  obtain ⟨h1, tk, rfl, hk⟩ := x.done
  have noA : ∀ b : Addr, b ∉ (cxOf CX P w K mg base N qual scope f cd A outer s H E).ex := fun b z => absurd (show b ∈ ([] : List Addr) from z) (by simp)
  refine ⟨⟨e0.mod, S.kind, rfl, rfl, Nat.le_refl _, fun y z c h1 h2 => ?_, fun y hy => ?_, fun y c _ h => ?_, fun _ => hd, Around.frames_deeper e0.frames, .inr ⟨rfl, rfl⟩, fun b z => absurd z (noA b), e0.bs, e0.bsz, fun b _ _ => noA b, fun b z => absurd z (noA b), e0.funs, e0.frf⟩,
    rfl, e0.bare, Un.kept hk, ⟨_, x.toInCall.ns, fun i y v h1 h2 h3 => ?_⟩, fun y c h => ⟨_, x.cell y c h⟩, e0.hok.fresh (Nat.le_refl _), fun y c h => ?_, fun p hp => absurd (show p ∈ ([] : List (Addr × Obj)) from hp) (by simp), e0.hok.kept hk, ?_⟩
  · exact name_of_addr x.apart (PySem.mem_of_lookup h1) (PySem.mem_of_lookup h2)
  · have hy : scope.names.lookup y = some .cell ∨ scope.names.lookup y = some .free := hy
    rcases hy with hy | hy
    · exact cell_has hy
    · exact absurd rfl (S.nofree _ (PySem.mem_of_lookup hy))
  · exact Nat.le_of_lt (x.above y c (PySem.mem_of_lookup h))
  · have hi : i < vs.length := by
      unfold start at h2
      by_cases hi : i < vs.length
      · exact hi
      · rw [List.getElem?_append_right (by simpa using hi)] at h2
        rw [List.getElem?_replicate] at h2
        split at h2 <;> cases h2
    have ha : vs[i]? = some v := by
      unfold start at h2
      rw [List.getElem?_append_left (by simpa using hi), List.getElem?_map] at h2
      cases e : vs[i]? with
      | none => rw [e] at h2; cases h2
      | some a => rw [e] at h2; cases h2; rfl
    obtain ⟨u, hu, rv⟩ := r.get ha
    have hp : ps[i]? = some y := by
      rw [← S.pre, List.getElem?_take_of_lt (by omega)]; exact h1
    have ndP : ps.Nodup := by rw [← S.pre]; exact S.nd.sublist (List.take_sublist _ _)
    refine ⟨u, rv, ?_⟩
    rcases S.par y (List.mem_of_getElem? hp) with k | k
    · exact .inl ⟨k, bindL_get ndP hp hu k⟩
    · obtain ⟨c, e⟩ := cell_has (n := s.heap.objs.size + 1) k
      refine .inr ⟨.inl k, c, e, ?_⟩
      have q := x.cell y c e
      rw [bindC_get ndP hp hu (by show scope.names.lookup y ≠ _; rw [k]; decide)] at q
      exact q
  · exact e0.hok.fresh (Nat.le_of_lt (x.above y c (PySem.mem_of_lookup h)))
  · unfold start
    show _ = N.length
    rw [List.length_append, List.length_map, List.length_replicate]
    omega
theorem fn_of {CX : CXT} {P : Program} {w : World} {K : PySem.W.Frag} {mg : Str → Option Value} {base : Heap} {k : Nat} {f : Addr} {name qual : Str} {params : Arguments} {body : List Stmt} {scope : Scope} {dV kV doc pm cdv ct oc : Value} {an od : Option Addr}
    {osl : Array (Option Value)} {N ps : List Str} {sp : Sp} (lk : K.lookup f = some ⟨oc, od, .func (PySem.W.fnOf name qual params body scope dV kV doc pm an cdv ct), osl⟩) (hcd : PySem.W.codeIn K cdv qual = true) (S : FnScope N ps scope)
    (len : ∀ vs H Q E, sp vs H Q E → vs.length = ps.length)
    (hbody : ∀ (A : Around) (outer : List Env) (s : Shared) (H : Hp) (vs : List V) (Q : VK) (E : XK), Room k (A.deeper (envOfC qual scope s.heap.objs.size f cdv)) → sp vs H Q E →
      ∃ t, PSs (cxOf CX P w K mg base N qual scope f cdv A outer s H E) body t ∧ t { nx := fun _ H' => Q .non H', rt := Q } (start N vs) H) :
    FnOk P w K mg base CX (k + 1) f (PySem.W.fnOf name qual params body scope dV kV doc pm an cdv ct) ps sp := by
  refine ⟨len, fun A outer s H args us vs Q E hr e0 hb r hsp => ?_⟩
  have hl := len _ _ _ _ hsp
  have KX : K.In s.heap := e0.mod.kin.keeps fun b o e => (e0.bs b o e).1
  have lim : s.heap.NoLimit := e0.mod.nolimit.keeps fun b o e => (e0.bs b o e).1
  have hkind : ∀ y ∈ ps.zip us, scope.names.lookup y.1 = some .local ∨ (scope.names.lookup y.1 = some .cell ∧ ((cellsFrom (s.heap.objs.size + 1) scope.names []).lookup y.1).isSome = true) := fun ⟨n, v⟩ hy => by
    rcases S.par n (List.of_mem_zip hy).1 with q | q
    · exact .inl q
    · exact .inr ⟨q, PySem.W.cellsFrom_some _ _ _ (.inl q)⟩
  refine codeAny_call_function hr.depth (KX _ _ lk) rfl S.co S.gen rfl (PySem.W.codeRec_of KX hcd) (hb _ _ _ _ ?_)
  refine wpAny_newFunctionEnv_cells S.kind hkind fun env he s1 x => ?_
  subst he
  refine ⟨lim.keeps x.toInCall.keep, codeAny_func ?_⟩
  obtain ⟨t, ht, hq⟩ := hbody A outer s H vs Q E (hr.deeper _) hsp
  have I : Inv (cxOf CX P w K mg base N qual scope f cdv A outer s H E) [] (start N vs) H s1 := inv_start S hr.hd e0 hl r x
  refine wpAny_mono (ht [] s1 (start N vs) H _ I hq) (fun fl s' hs => ?_) fun e s' hs => hs
  have fin : ∀ {σ' : St} {H' : Hp} {v : V} {u : Value}, Inv (cxOf CX P w K mg base N qual scope f cdv A outer s H E) [] σ' H' s' → RelV v u → Q v H' → CE outer P w H s Q u s' :=
    fun {σ' H' v u} J rv q => ⟨v, H', J.os, J.bare, J.base, J.hok, rv, q⟩
  cases fl with
  | ret u =>
    obtain ⟨v, σ', H', J, rv, q⟩ := hs
    exact fin J rv q
  | next =>
    obtain ⟨σ', H', J, q⟩ := hs
    exact fin (v := V.non) (u := Value.none) J rfl q
  | brk =>
    obtain ⟨_, _, _, q⟩ := hs
    exact False.elim q
  | cont =>
    obtain ⟨_, _, _, q⟩ := hs
    exact False.elim q
end L2
namespace L2
open PySem PySem.Spec PyProof.Rows
section
variable {X : Cx} {x : Str} {p pos : Pos} {e : Expr} {es : List Expr} {t : TA} {id T : String} {r : List V → Hp → VK → Prop}
def tCB (r : List V → Hp → VK → Prop) (t : TA) : TE := fun σ H Q => t σ H fun vs H1 => r vs H1 Q
theorem pe_callB (hc : CallR X (.builtin id) r) (hg : Gl X x) (hm : X.mg x = none) (hv : bootBuiltins x = some (.builtin id)) (ha : PA X (e :: es) t) (hn : x ≠ "__name__" := by decide) (hdb : (x == ("__debug__" : Str)) = false := by decide)
    (he : starEach (e :: es) X.env = (false, eval e X.env) :: starEach es X.env := by rfl) (hpl : (backTo pos (starEach es X.env)).any (·.1) = false := by rfl) : PE X (.Call (.Name x p) (e :: es) [] pos) (tCB r t) := by
  intro pins s σ H Q I h
  refine wpAny_Call_Name_kw (ld_blt I hg hm hv ?_ hn hdb)
  exact PyProof.Rows.callWith_builtin1 (thn (ha pos pins s σ H _ I h) fun us s1 ⟨vs, H1, I1, r1, q1⟩ => hc pins s1 σ H1 vs us Q I1 r1 q1) he hpl
theorem pe_callTy (hc : CallR X (.type T) r) (hg : Gl X x) (hm : X.mg x = none) (hv : bootBuiltins x = some (.type T)) (ha : PA X (e :: es) t) (hn : x ≠ "__name__" := by decide) (hdb : (x == ("__debug__" : Str)) = false := by decide)
    (he : starEach (e :: es) X.env = (false, eval e X.env) :: starEach es X.env := by rfl) (hpl : (backTo pos (starEach es X.env)).any (·.1) = false := by rfl) : PE X (.Call (.Name x p) (e :: es) [] pos) (tCB r t) := by
  intro pins s σ H Q I h
  refine wpAny_Call_Name_kw (ld_blt I hg hm hv ?_ hn hdb)
  exact PyProof.Rows.callWith_type1 (thn (ha pos pins s σ H _ I h) fun us s1 ⟨vs, H1, I1, r1, q1⟩ => hc pins s1 σ H1 vs us Q I1 r1 q1) he hpl
end
end L2
namespace HT
open PySem PyProof.Rows
def lexLt : List Int → List Int → Bool
  | [], [] => false
  | [], _ :: _ => true
  | _ :: _, [] => false
  | x :: xs, y :: ys => if x = y then lexLt xs ys else decide (x < y)
section
open PySem.SeqAt
open PySem.AutoSeq1 (wpAny_loadPart')
open PySem.MeetsSeq PySem.MeetsSeq2 PySem.MeetsSeq3
end
section
variable {prog : Program} {w : World} {A : Around} {E : Value → Shared → Prop} {s : Shared}
def sIx (n d : Nat) : Option Int → Nat
  | none => d
  | some v => if v < 0 then (v + (n : Int)).toNat else min v.toNat n
end
end HT
namespace L2
open PySem PySem.Spec PyProof.Rows
abbrev TO := St → Hp → (Option Int → Hp → Prop) → Prop
def PO (X : Cx) (e : Option Expr) (t : TO) : Prop :=
  ∀ (pins : List (Addr × Obj)) (s : Shared) (σ : St) (H : Hp) (Q : Option Int → Hp → Prop), Inv X pins σ H s → t σ H Q →
    wpAny (model X.prog X.w) X.A (evalPart e X.env) (fun u s' => ∃ o H', Inv X pins σ H' s' ∧ IsPart u o ∧ Q o H') X.xe s
def tNoPart : TO := fun _ H Q => Q none H
def tPart (t : TE) : TO := fun σ H Q => t σ H fun x H1 => ∃ i, x = .int i ∧ Q (some i) H1
section
variable {X : Cx} {e : Expr} {te : TE} {lo hi : Option Expr} {tl th : TO} {pos p2 : Pos}
theorem po_none : PO X none tNoPart := by
  intro pins s σ H Q I h
  rw [evalPart_none]
  exact wpAny_pure ⟨none, H, I, .none, h⟩
theorem po_some (h : PE X e te) : PO X (some e) (tPart te) := by
  intro pins s σ H Q I hw
  rw [evalPart_some]
  refine thn (h pins s σ H _ I hw) fun u s1 ⟨x, H1, I1, r1, q1⟩ => ?_
  obtain ⟨i, rfl, q⟩ := q1
  obtain ⟨t, rfl⟩ := r1
  exact ⟨some i, H1, I1, .int i t, q⟩
def SlR (X : Cx) (r : V → Option Int → Option Int → Hp → VK → Prop) : Prop :=
  ∀ (pins : List (Addr × Obj)) (s : Shared) (σ : St) (H : Hp) (x : V) (v vl vu : Value) (lo hi : Option Int) (sl : Addr) (Q : VK), Inv X pins σ H s → RelV x v → s.heap.IsSliceOf sl vl vu .none → IsPart vl lo → IsPart vu hi → r x lo hi H Q →
    ∃ T id, typeLookup (.type T) "__getitem__" = pure (some (.builtin id)) ∧ s.TypeIs v T ∧ wpAny (model X.prog X.w) X.A (getItem v (.ref sl)) (EP X pins σ Q) X.xe s
def tSl (r : V → Option Int → Option Int → Hp → VK → Prop) (te : TE) (tl th : TO) : TE := fun σ H Q => te σ H fun x H1 => tl σ H1 fun l H2 => th σ H2 fun u H3 => r x l u H3 Q
theorem pe_slice {r : V → Option Int → Option Int → Hp → VK → Prop} (hr : SlR X r) (he : PE X e te) (hl : PO X lo tl) (hu : PO X hi th) : PE X (.Subscript e (.Slice lo hi none p2) pos) (tSl r te tl th) := by
  intro pins s σ H Q I h
  refine Subscript_ (thn (he pins s σ H _ I h) fun v s1 ⟨x, H1, I1, r1, q1⟩ => ?_)
  refine wpAny_Slice (thn (hl pins s1 σ H1 _ I1 q1) fun vl s2 ⟨l, H2, I2, pl, q2⟩ => thn (hu pins s2 σ H2 _ I2 q2) fun vu s3 ⟨u, H3, I3, pu, q3⟩ => ?_)
  rw [evalPart_none]
  refine wpAny_pure ?_
  have I4 : Inv X pins σ H3 { s3 with heap := s3.heap.push { cls := .type "slice", data := .fields #[vl, vu, .none] } } := I3.kept (t' := s3.toks) fun b ob q => Heap.get?_push_of_some _ q
  obtain ⟨T, id, hT, ht, hg⟩ := hr pins { s3 with heap := s3.heap.push { cls := .type "slice", data := .fields #[vl, vu, .none] } } σ H3 x v vl vu l u s3.heap.objs.size Q I4 r1 (Heap.IsSliceOf.new ..) pl pu q3
  show wpAny (model X.prog X.w) X.A (subscriptTail e (.Slice lo hi none p2) v (.ref s3.heap.objs.size)) (EP X pins σ Q) X.xe { s3 with heap := s3.heap.push { cls := .type "slice", data := .fields #[vl, vu, .none] } }
  exact tail_any (ops := [.ref s3.heap.objs.size, v]) ht hT hg (by with_unfolding_all rfl)
def cutV (xs : List V) (lo hi : Option Int) : List V := (xs.drop (HT.sIx xs.length 0 lo)).take (HT.sIx xs.length xs.length hi - HT.sIx xs.length 0 lo)
theorem cutV_length (xs : List V) (lo hi : Option Int) : (cutV xs lo hi).length ≤ xs.length := by
  unfold cutV
  rw [List.length_take, List.length_drop]
  omega
def rSlT (K : PySem.W.Frag) : V → Option Int → Option Int → Hp → VK → Prop := fun x lo hi H Q => ∃ a xs, x = .ref a ∧ SqT K H a xs ∧
  ¬ (HT.sIx xs.length 0 lo = 0 ∧ HT.sIx xs.length xs.length hi = xs.length) ∧ ∀ p, H p = none → Q (.ref p) (upd H p (.tup (cutV xs lo hi)))
def rLtT (K : PySem.W.Frag) : R2 := fun x y H Q => ∃ a b ns ms, x = .ref a ∧ y = .ref b ∧ SqT K H a (ns.map V.int) ∧ SqT K H b (ms.map V.int) ∧ Q (.bl (HT.lexLt ns ms)) H
def rCatT (K : PySem.W.Frag) : R2 := fun x y H Q => ∃ a b xs ys, x = .ref a ∧ y = .ref b ∧ SqT K H a xs ∧ SqT K H b ys ∧ xs ≠ [] ∧ xs.length + ys.length ≤ sizeLine ∧
  (ys = [] → Q (.ref a) H) ∧ (ys ≠ [] → ∀ p, H p = none → Q (.ref p) (upd H p (.tup (xs ++ ys))))
end
end L2
namespace L2
open PySem PySem.Spec PyProof.Rows
def ixN (n : Nat) (i : Int) : Option Nat := if 0 ≤ i then (if i < n then some i.toNat else none) else if -(n : Int) ≤ i then some (i + n).toNat else none
def atI {α : Type} (xs : List α) (i : Int) : Option α := (ixN xs.length i).bind fun j => xs[j]?
theorem ixN_seq {n : Nat} {i : Int} {j : Nat} (h : ixN n i = some j) : seqIndex? i n = some j ∧ j < n ∧ -(n : Int) ≤ i ∧ i < n := by
  unfold ixN at h
  by_cases h0 : 0 ≤ i
  · rw [if_pos h0] at h
    by_cases h1 : i < n
    · rw [if_pos h1] at h
      have e : i.toNat = j := Option.some.inj h
      exact ⟨by rw [seqIndex_of h0 h1, e], by omega, by omega, h1⟩
    · rw [if_neg h1] at h; cases h
  · rw [if_neg h0] at h
    by_cases h1 : -(n : Int) ≤ i
    · rw [if_pos h1] at h
      have e : (i + n).toNat = j := Option.some.inj h
      exact ⟨by rw [seqIndex_neg (by omega) h1, e], by omega, h1, by omega⟩
    · rw [if_neg h1] at h; cases h
theorem atI_get {α : Type} {xs : List α} {i : Int} {v : α} (h : atI xs i = some v) : ∃ j, seqIndex? i xs.length = some j ∧ xs[j]? = some v ∧ j < xs.length ∧ -(xs.length : Int) ≤ i ∧ i < xs.length := by
  unfold atI at h
  cases e : ixN xs.length i with
  | none => rw [e] at h; cases h
  | some j =>
    rw [e] at h
    obtain ⟨h1, h2, h3, h4⟩ := ixN_seq e
    exact ⟨j, h1, h, h2, h3, h4⟩
theorem atI_nat {α : Type} {xs : List α} {j : Nat} {v : α} (h : xs[j]? = some v) : atI xs (j : Int) = some v := by
  have hj : j < xs.length := (List.getElem?_eq_some_iff.mp h).1
  have e : ixN xs.length (j : Int) = some j := by
    unfold ixN
    rw [if_pos (by omega), if_pos (by omega)]; simp
  unfold atI; rw [e]; exact h
def PlainIx (b : Expr) : Prop := ∀ o i, subscripted b false o i = operate [o, i] (getItem o i)
def IxR (X : Cx) (r : R2) : Prop :=
  ∀ (value slice : Expr) (pins : List (Addr × Obj)) (s : Shared) (σ : St) (H : Hp) (x y : V) (v u : Value) (Q : VK), Inv X pins σ H s → RelV x v → RelV y u → r x y H Q →
    subscripted slice false v u = operate [v, u] (getItem v u) → wpAny (model X.prog X.w) X.A (subscriptTail value slice v u) (EP X pins σ Q) X.xe s
def MtR (X : Cx) (id : String) (r : V → List V → Hp → VK → Prop) : Prop :=
  ∀ (pins : List (Addr × Obj)) (s : Shared) (σ : St) (H : Hp) (x : V) (xs : List V) (v : Value) (us : List Value) (Q : VK), Inv X pins σ H s → RelV x v → Vals xs us → r x xs H Q →
    wpAny (model X.prog X.w) X.A (call (.builtin id) (v :: us)) (EP X pins σ Q) X.xe s
section
variable {X : Cx} {a b : Expr} {ta tb : TE} {pos : Pos}
theorem IxR.or {r r' : R2} (h : IxR X r) (h' : IxR X r') : IxR X (fun x y H Q => r x y H Q ∨ r' x y H Q) := by
  intro value slice pins s σ H x y v u Q I rx ry q hs
  rcases q with q | q
  · exact h value slice pins s σ H x y v u Q I rx ry q hs
  · exact h' value slice pins s σ H x y v u Q I rx ry q hs
theorem pe_ix {r : R2} (hr : IxR X r) (ha : PE X a ta) (hb : PE X b tb) (hs : PlainIx b) : PE X (.Subscript a b pos) (tOp r ta tb) := by
  intro pins s σ H Q I h
  exact Subscript_ (binT ha hb I h fun v u s2 x y H2 I2 rx ry q => hr a b pins s2 σ H2 x y v u Q I2 rx ry q (hs _ _))
def rIxL (K : PySem.W.Frag) : R2 := fun x y H Q => ∃ p xs i v, x = .ref p ∧ y = .int i ∧ SqL K H p xs ∧ atI xs i = some v ∧ Q v H
def rIxT (K : PySem.W.Frag) : R2 := fun x y H Q => ∃ p xs i v, x = .ref p ∧ y = .int i ∧ SqT K H p xs ∧ atI xs i = some v ∧ Q v H
def rIxS : R2 := fun x y H Q => ∃ z i c, x = .str z ∧ y = .int i ∧ z.length ≤ sizeLine ∧ atI z.cps.toList i = some c ∧ Q (.str ⟨#[c]⟩) H
theorem ix_list : IxR X (rIxL X.K) := by
  intro value slice pins s σ H x y v u Q I rx ry h hs
  obtain ⟨p, xs, i, z, rfl, rfl, hq, he, q⟩ := h
  cases rx
  obtain ⟨t, rfl⟩ := ry
  obtain ⟨its, r, pl, hz⟩ := I.list hq
  obtain ⟨j, h1, h2, h3, h4, h5⟩ := atI_get he
  obtain ⟨w, ew, rw'⟩ := r.get h2
  have hl := r.length
  have hn := line63
  have fin : EP X pins σ Q w s := ⟨z, H, I, rw', q⟩
  by_cases h0 : 0 ≤ i
  · have hj : i.toNat = j := by
      rw [seqIndex_of h0 h5] at h1
      exact Option.some.inj h1
    exact item_listR pl.isList h0 (by omega) (by rw [hj]; simpa using ew) fin hs
  · have hj : (i + (its.toArray.size : Int)).toNat = j := by
      rw [seqIndex_neg (by omega) h4] at h1
      rw [List.size_toArray, ← hl]
      exact Option.some.inj h1
    exact subscriptTail_builtinR (x := w) pl.isList.typeIs slot_list_getitem.lookup
      (wpAny_getItem_list_neg (Q := fun r s' => r = w ∧ EP X pins σ Q r s') pl.isList (by omega) (by rw [List.size_toArray] <;> omega) (by omega) (by rw [hj]; simpa using ew) ⟨rfl, fin⟩) hs
theorem ix_tup : IxR X (rIxT X.K) := by
  intro value slice pins s σ H x y v u Q I rx ry h hs
  obtain ⟨p, xs, i, z, rfl, rfl, hq, he, q⟩ := h
  cases rx
  obtain ⟨t, rfl⟩ := ry
  obtain ⟨its, r, pl, hz⟩ := I.tuple hq
  obtain ⟨j, h1, h2, h3, h4, h5⟩ := atI_get he
  obtain ⟨w, ew, rw'⟩ := r.get h2
  have hl := r.length
  have hn := line63
  have fin : EP X pins σ Q w s := ⟨z, H, I, rw', q⟩
  exact subscriptTail_builtinR (x := w) pl.typeIs slot_tuple_getitem.lookup
    (getItem_tuple (j := j) (Q := fun r s' => r = w ∧ EP X pins σ Q r s') pl (by omega) (by omega) (by rw [List.size_toArray, ← hl]; exact h1) (by simpa using ew) ⟨rfl, fin⟩) hs
theorem ix_str : IxR X rIxS := by
  intro value slice pins s σ H x y v u Q I rx ry h hs
  obtain ⟨z, i, c, rfl, rfl, hz, he, q⟩ := h
  obtain ⟨t, rfl⟩ := rx
  obtain ⟨t', rfl⟩ := ry
  obtain ⟨j, h1, h2, h3, h4, h5⟩ := atI_get he
  have hl : z.cps.toList.length = z.length := by simp [Str.length]
  rw [hl] at h1 h4 h5
  have hn := line63
  exact tail_any (typeIs_str s z t) slot_str_getitem.lookup (getItem_str (c := c) (by
    have e1 : decide (i < -(2 ^ 63 : Int)) = false := decide_eq_false (by omega)
    have e2 : decide (i ≥ 2 ^ 63) = false := decide_eq_false (by omega)
    rw [e1, e2, Bool.or_false]) (by rw [h1]; simpa using h2) ⟨.str ⟨#[c]⟩, H, I.tok _, ⟨_, rfl⟩, q⟩) hs
def rIx (K : PySem.W.Frag) : R2 := fun x y H Q => rIxL K x y H Q ∨ rIxT K x y H Q ∨ rIxS x y H Q
theorem ix_seq : IxR X (rIx X.K) := ix_list.or (ix_tup.or ix_str)
theorem Inv.lst {pins : List (Addr × Obj)} {σ : St} {H : Hp} {s : Shared} {p : Addr} {xs : List V} (I : Inv X pins σ H s) (h : H p = some (.lst xs)) :
    ∃ (its : List Value) (n : Nat), Vals xs its ∧ s.heap.get? p = some { cls := .type "list", data := .seq its.toArray n } ∧ xs.length ≤ sizeLine := by
  obtain ⟨z, its, n, r, e⟩ := I.hok p _ h
  exact ⟨its, n, r, e, z⟩
def rSetL : V → V → V → Hp → (Hp → Prop) → Prop := fun o i v H Q => ∃ p xs k j, o = .ref p ∧ i = .int k ∧ H p = some (.lst xs) ∧ ixN xs.length k = some j ∧ Q (upd H p (.lst (xs.set j v)))
theorem slice_bounds (lo hi : Option Int) (n : Nat) : (sliceBounds lo hi none n).1 = ((HT.sIx n 0 lo : Nat) : Int) ∧ (sliceBounds lo hi none n).2.1 = ((HT.sIx n n hi : Nat) : Int) ∧ (sliceBounds lo hi none n).2.2 = 1 := by
  refine ⟨?_, ?_, rfl⟩
  · cases lo with
    | none => simp [sliceBounds, HT.sIx]
    | some i =>
      simp only [sliceBounds, HT.sIx, Option.getD_none, show (1 : Int) > 0 by decide, if_true]
      by_cases h : i < 0
      · simp only [h, if_true] <;> omega
      · simp only [h, if_false] <;> omega
  · cases hi with
    | none => simp [sliceBounds, HT.sIx]
    | some i =>
      simp only [sliceBounds, HT.sIx, Option.getD_none, show (1 : Int) > 0 by decide, if_true]
      by_cases h : i < 0
      · simp only [h, if_true] <;> omega
      · simp only [h, if_false] <;> omega
theorem slicePick_cut (its : List Value) (lo hi : Option Int) : slicePick its.toArray lo hi none = ((its.drop (HT.sIx its.length 0 lo)).take (HT.sIx its.length its.length hi - HT.sIx its.length 0 lo)).toArray := by
  obtain ⟨h1, h2, h3⟩ := slice_bounds lo hi its.toArray.size
  unfold slicePick
  rw [h1, h2, h3]
  simp only [sliceRange_one, pick_run, List.size_toArray] <;> rfl
def rSlL (K : PySem.W.Frag) : V → Option Int → Option Int → Hp → VK → Prop := fun x lo hi H Q => ∃ a xs, x = .ref a ∧ SqL K H a xs ∧ ∀ p, H p = none → Q (.ref p) (upd H p (.lst (cutV xs lo hi)))
theorem sl_list : SlR X (rSlL X.K) := by
  intro pins s σ H x v vl vu lo hi sl Q I rx hs pl pu h
  obtain ⟨a, xs, rfl, hx, q⟩ := h
  cases rx
  obtain ⟨its, r, ht, hz⟩ := I.list hx
  have hlen := r.length
  refine ⟨"list", _, slot_list_getitem.lookup, ht.isList.typeIs, ?_⟩
  refine wpAny_getItem_list_slice ht.isList hs pl pu .none (by simp) ?_ (by rw [List.size_toArray] <;> omega)
  rw [slicePick_cut, ← hlen]
  refine ⟨.ref s.heap.objs.size, _, I.laid (t' := s.toks) (o := .lst (cutV xs lo hi)) (fun b ob q => Heap.get?_push_of_some _ q) (Nat.le_refl _) ?_, rfl, q _ (I.hok.fresh (Nat.le_refl _))⟩
  exact ⟨Nat.le_trans (cutV_length xs lo hi) hz, _, 0, (r.drop (HT.sIx xs.length 0 lo)).take (HT.sIx xs.length xs.length hi - HT.sIx xs.length 0 lo), Heap.get?_push_size _ rfl⟩
def flatV : V → Bool
  | .non => true
  | .bl _ => true
  | .int _ => true
  | .str _ => true
  | _ => false
def eqV : V → V → Bool
  | .non, .non => true
  | .bl a, .bl b => a == b
  | .bl a, .int b => (if a then 1 else 0) == b
  | .int a, .bl b => a == (if b then 1 else 0)
  | .int a, .int b => a == b
  | .str a, .str b => a == b
  | _, _ => false
theorem eqAt_V {A : Around} {s : Shared} {y x : V} {u v : Value} (ry : RelV y u) (rx : RelV x v) (fy : flatV y = true) (fx : flatV x = true) : SeqAt.EqAt A s u v (eqV y x) := by
  cases y with
  | non =>
    cases ry
    cases x with
    | non => cases rx; exact SeqAt.EqAt.same _
    | bl b => cases rx; exact SeqAt.EqAt.none_bool b
    | int b => obtain ⟨t, rfl⟩ := rx; exact SeqAt.EqAt.none_int b t
    | str b => obtain ⟨t, rfl⟩ := rx; exact SeqAt.EqAt.none_str b t
    | _ => exact absurd (show false = true from fx) Bool.false_ne_true
  | bl a =>
    cases ry
    cases x with
    | non => cases rx; exact SeqAt.EqAt.bool_none a
    | bl b => cases rx; exact SeqAt.EqAt.bool_bool a b
    | int b => obtain ⟨t, rfl⟩ := rx; exact SeqAt.EqAt.bool_int a b t
    | str b => obtain ⟨t, rfl⟩ := rx; exact SeqAt.EqAt.bool_str a b t
    | _ => exact absurd (show false = true from fx) Bool.false_ne_true
  | int a =>
    obtain ⟨t', rfl⟩ := ry
    cases x with
    | non => cases rx; exact SeqAt.EqAt.int_none a t'
    | bl b => cases rx; exact SeqAt.EqAt.int_bool a t' b
    | int b => obtain ⟨t, rfl⟩ := rx; exact SeqAt.EqAt.int_int a t' b t
    | str b => obtain ⟨t, rfl⟩ := rx; exact SeqAt.EqAt.int_str a t' b t
    | _ => exact absurd (show false = true from fx) Bool.false_ne_true
  | str a =>
    obtain ⟨t', rfl⟩ := ry
    cases x with
    | non => cases rx; exact SeqAt.EqAt.str_none a t'
    | bl b => cases rx; exact SeqAt.EqAt.str_bool a t' b
    | int b => obtain ⟨t, rfl⟩ := rx; exact SeqAt.EqAt.str_int a t' b t
    | str b => obtain ⟨t, rfl⟩ := rx; exact SeqAt.EqAt.str_str a t' b t
    | _ => exact absurd (show false = true from fx) Bool.false_ne_true
  | _ => exact absurd (show false = true from fy) Bool.false_ne_true
def eqU (x : V) (u : Value) : Bool := match u with
  | .none => eqV .non x
  | .bool b => eqV (.bl b) x
  | .int i _ => eqV (.int i) x
  | .str z _ => eqV (.str z) x
  | _ => false
def inV (x : V) (xs : List V) : Bool := xs.any fun y => eqV y x
def rIn (K : PySem.W.Frag) (neg : Bool) : R2 := fun x y H Q => ∃ p xs, y = .ref p ∧ (SqL K H p xs ∨ SqT K H p xs) ∧ flatV x = true ∧ xs.all flatV = true ∧ Q (.bl (if neg then !inV x xs else inV x xs)) H
theorem call_len_seq : CallR X (.builtin "len") (fun xs H Q => ∃ p ys, xs = [.ref p] ∧ (SqL X.K H p ys ∨ SqT X.K H p ys) ∧ Q (.int ys.length) H) := by
  intro pins s σ H xs us Q I r h
  obtain ⟨p, ys, rfl, hq, q⟩ := h
  obtain ⟨u, rfl, rx⟩ := vals1 r
  cases rx
  have hn := line63
  rcases hq with hq | hq
  · obtain ⟨its, r', pl, hz⟩ := I.list hq
    have hlen := r'.length
    exact Calls.call_len_list pl.isList (by simp only [List.size_toArray] <;> omega) ⟨.int ys.length, H, I.tok _, ⟨s.toks + 1, by rw [List.size_toArray, hlen]⟩, q⟩
  · obtain ⟨its, r', pl, hz⟩ := I.tuple hq
    have hlen := r'.length
    exact len_tuple pl (by simp only [List.size_toArray] <;> omega) ⟨.int ys.length, H, I.tok _, ⟨s.toks + 1, by rw [List.size_toArray, hlen]⟩, q⟩
theorem call_len_str : CallR X (.builtin "len") (fun xs H Q => ∃ z, xs = [.str z] ∧ z.length ≤ sizeLine ∧ Q (.int z.length) H) := by
  intro pins s σ H xs us Q I r h
  obtain ⟨z, rfl, hz, q⟩ := h
  obtain ⟨u, rfl, t, rfl⟩ := vals1 r
  have hn := line63
  exact len_str (by omega) ⟨.int z.length, H, I.tok _, ⟨_, rfl⟩, q⟩
theorem call_tuple_of : CallR X (.type "tuple") (fun xs H Q => ∃ p ys, xs = [.ref p] ∧ ((SqL X.K H p ys ∧ ∀ l, H l = none → Q (.ref l) (upd H l (.tup ys))) ∨ (SqT X.K H p ys ∧ Q (.ref p) H))) := by
  intro pins s σ H xs us Q I r h
  obtain ⟨p, ys, rfl, h⟩ := h
  obtain ⟨u, rfl, rx⟩ := vals1 r
  cases rx
  rcases h with ⟨hq, q⟩ | ⟨hq, q⟩
  · obtain ⟨its, r', pl, hz⟩ := I.list hq
    have hlen := r'.length
    refine call_tuple_list pl.isList (fun h' kp => ?_) (by simp only [List.size_toArray] <;> omega)
    have I1 : Inv X pins σ H { s with heap := h' } := I.kept (t' := s.toks) kp
    have I2 : Inv X pins σ (upd H h'.objs.size (.tup ys)) { s with heap := h'.push { cls := .type "tuple", data := .seq its.toArray } } :=
      I1.laid (t' := s.toks) (fun b o e => Heap.get?_push_of_some _ e) (Nat.le_refl _) (show ObjOk X.prog X.w _ _ _ (.tup ys) from ⟨hz, its, r', IsTup.new _ _⟩)
    exact ⟨.ref h'.objs.size, _, I2, rfl, q _ (I1.hok.fresh (Nat.le_refl _))⟩
  · obtain ⟨its, r', pl, hz⟩ := I.tuple hq
    exact call_tuple_same pl ⟨.ref p, H, I, rfl, q⟩
def tyV (K : PySem.W.Frag) (T : String) (x : V) (H : Hp) : Prop := match x with
  | .str _ => T = "str"
  | .int _ => T = "int"
  | .ref p => (T = "list" ∧ ∃ xs, SqL K H p xs) ∨ (T = "tuple" ∧ ∃ o, K.lookup p = some o ∧ o.cls = .type "tuple" ∧ o.dict = none) ∨
      (T = "dict" ∧ ((∃ kvs, H p = some (.dK kvs)) ∨ ∃ kvs, H p = some (.dT kvs))) ∨ (T = "set" ∧ ∃ S n, H p = some (.set S n))
  | _ => False
theorem tyV_is {pins : List (Addr × Obj)} {σ : St} {H : Hp} {s : Shared} {T : String} {x : V} {v : Value} (I : Inv X pins σ H s) (r : RelV x v) (ty : tyV X.K T x H) :
    s.TypeIs v T ∧ ∀ a, v = .ref a → ∃ ob, s.heap.get? a = some ob ∧ ob.dict = none := by
  cases x with
  | str z =>
    obtain ⟨t, rfl⟩ := r
    cases (show T = "str" from ty)
    exact ⟨typeIs_str s z t, fun _ e => nomatch e⟩
  | int i =>
    obtain ⟨t, rfl⟩ := r
    cases (show T = "int" from ty)
    exact ⟨typeIs_int s i t, fun _ e => nomatch e⟩
  | ref p =>
    cases r
    rcases ty with ⟨rfl, xs, hq⟩ | ⟨rfl, o, hk, hc, hd⟩ | ⟨rfl, hk⟩ | ⟨rfl, S, n, hk⟩
    · obtain ⟨its, _, pl, _⟩ := I.list hq
      refine ⟨pl.isList.typeIs, fun a e => ?_⟩
      cases e
      obtain ⟨o, n, e, c, hd, _⟩ := pl
      exact ⟨o, e, hd⟩
    · refine ⟨⟨o, I.kIn p o hk, hc⟩, fun a e => ?_⟩
      cases e
      exact ⟨o, I.kIn _ o hk, hd⟩
    · have z : ∃ o, s.heap.get? p = some o ∧ o.ExactDict := by
        rcases hk with ⟨kvs, hk⟩ | ⟨kvs, hk⟩
        · obtain ⟨_, _, _, _, o, _, _, e, ex, _⟩ := I.hok p _ hk
          exact ⟨o, e, ex⟩
        · obtain ⟨_, _, _, _, o, _, _, e, ex, _⟩ := I.hok p _ hk
          exact ⟨o, e, ex⟩
      obtain ⟨o, e, ex⟩ := z
      refine ⟨⟨o, e, ex.1⟩, fun a e2 => ?_⟩
      cases e2
      exact ⟨o, e, ex.2.1⟩
    · obtain ⟨o, _, _, _, e, ex, _⟩ := I.hok p _ hk
      refine ⟨⟨o, e, ex.1⟩, fun a e2 => ?_⟩
      cases e2
      exact ⟨o, e, ex.2.1⟩
  | _ => exact False.elim ty
def tBM0 (K : PySem.W.Frag) (T : String) (r : V → List V → Hp → VK → Prop) (to : TE) : TE := fun σ H Q => to σ H fun x H1 => tyV K T x H1 ∧ r x [] H1 Q
def tBM (K : PySem.W.Frag) (T : String) (r : V → List V → Hp → VK → Prop) (to : TE) (t : TA) : TE := fun σ H Q => to σ H fun x H1 => tyV K T x H1 ∧ t σ H1 fun xs H2 => r x xs H2 Q
variable {o e : Expr} {es : List Expr} {to : TE} {t : TA} {name : Str} {apos cpos : Pos} {T id : String} {r : V → List V → Hp → VK → Prop}
theorem pe_bm (pa : PlainAttrs T) (slot : Slot T name id) (hty : typeOf (.builtin id) = pure (.type "method_descriptor")) (hm : MtR X id r) (ho : PE X o to) (ha : PA X (e :: es) t)
    (hbase : attributeBase o name X.env (eval o X.env) = eval o X.env := by rfl)
    (hfew : ((backTo cpos (starEach (e :: es) X.env)).all (fun x => !x.1) && (backToKw cpos (keywordEach [] X.env)).all (fun x => x.1.isSome)
      && decide ((e :: es).length + ([] : List Keyword).length + (if ([] : List Keyword).isEmpty then 0 else 1) < 30)) = true := by rfl)
    (hline : (apos.endLine == cpos.line) = true := by rfl) (hs : starEach (e :: es) X.env = (false, eval e X.env) :: starEach es X.env := by rfl) (hplain : (backTo cpos (starEach es X.env)).any (·.1) = false := by rfl) :
    PE X (.Call (.Attribute o name apos) (e :: es) [] cpos) (tBM X.K T r to t) := by
  intro pins s σ H Q I h
  refine wpAny_Call_method_late hbase hfew hline rfl (thn (ho pins s σ H _ I h) fun v s1 ⟨x, H1, I1, r1, ty, q1⟩ => ?_)
  obtain ⟨h1, h2⟩ := tyV_is I1 r1 ty
  refine ⟨T, id, pa, slot, hty, h1, h2, ?_⟩
  have hA := ha cpos pins s1 σ H1 _ I1 q1
  rw [hs] at hA ⊢
  refine Calls.callWith_builtin (by show (false || (backTo cpos (starEach es X.env)).any (·.1)) = false; rw [hplain] <;> rfl) (Calls.evalArgs_plain ?_)
  exact thn hA fun us s2 ⟨vs, H2, I2, r2, q2⟩ => hm pins s2 σ H2 x vs v us Q I2 r1 r2 q2
/- xs.append(e), list.index on a module's tuple .. are MtR facts of 06m -/
end
end L2
namespace L2
open PySem PySem.Spec PyProof.Rows
def MtM (X : Cx) (id : String) (r : V → List V → Hp → VK → Prop) : Prop :=
  ∀ (pins : List (Addr × Obj)) (s : Shared) (σ : St) (H : Hp) (x : V) (xs : List V) (v : Value) (us : List Value) (Q : VK), Inv X pins σ H s → RelV x v → Vals xs us → r x xs H Q →
    wpAny (model X.prog X.w) X.A (call (.builtin id) (v :: us)) (EP X pins σ Q) X.xe s
theorem Vals.one : ∀ {x : V} {us : List Value}, Vals [x] us → ∃ u, us = [u] ∧ RelV x u
  | _, _, .cons r .nil => ⟨_, rfl, r⟩
section
variable {X : Cx} {pins : List (Addr × Obj)} {σ : St} {H : Hp} {s : Shared} {l b : Addr} {xs ys zs : List V}
theorem Inv.lset {its its' : List Value} {n : Nat} {f : Array Value → Array Value} {t' : Nat} (I : Inv X pins σ H s) (hH : H l = some (.lst xs))
    (e : s.heap.get? l = some { cls := .type "list", data := .seq its.toArray n }) (hf : f its.toArray = its'.toArray) (hv : Vals ys its') (hz : ys.length ≤ sizeLine) :
    Inv X pins σ (upd H l (.lst ys)) { s with heap := s.heap.update l (Obj.mapSeq f), toks := t' } := by
  have q := PySem.IsL.update e f
  rw [hf] at q
  refine I.write (x := l) (e := l) (by rw [hH]; exact trivial) (.inl rfl) (fun b' u hb hu => (Heap.get?_update_other s.heap (Obj.mapSeq f) (Ne.symm hb)).trans hu) ⟨_, q⟩ ?_
  exact ⟨hz, its', _, hv, q⟩
theorem Inv.lstM (I : Inv X pins σ H s) (hH : H l = some (.lst xs)) : xs.length ≤ sizeLine ∧ ∃ (its : List Value) (n : Nat), Vals xs its ∧ xs.length = its.length ∧ s.heap.get? l = some { cls := .type "list", data := .seq its.toArray n } := by
  obtain ⟨z, its, n, r, e⟩ := I.hok l _ hH
  exact ⟨z, its, n, r, r.length, e⟩
end
section
variable {X : Cx}
def rAppend : V → List V → Hp → VK → Prop := fun x vs H Q => ∃ l xs y, x = .ref l ∧ vs = [y] ∧ H l = some (.lst xs) ∧ xs.length < sizeLine ∧ Q .non (upd H l (.lst (xs ++ [y])))
theorem mt_append : MtM X "list.append" rAppend := by
  intro pins s σ H x vs v us Q I rx rv h
  obtain ⟨l, xs, y, rfl, rfl, hH, hz, q⟩ := h
  cases rx
  obtain ⟨u, rfl, ru⟩ := rv.one
  obtain ⟨z, its, n, r, hl, e⟩ := I.lstM hH
  refine call_meets F.slot_list_append ⟨_, e, rfl⟩ F.entry_list_append (F.args_list_append_2 _ _) (PySem.list_append l its.toArray n u (by rw [List.size_toArray]; omega)) ⟨e, ?_⟩
  refine ⟨.non, _, I.lset (its' := its ++ [u]) hH e (by simp) (r.append (.cons ru .nil)) ?_, rfl, q⟩
  rw [List.length_append, List.length_singleton]
  omega
def rExtend : V → List V → Hp → VK → Prop := fun x vs H Q => ∃ l b xs zs, x = .ref l ∧ vs = [.ref b] ∧ H l = some (.lst xs) ∧ H b = some (.lst zs) ∧ xs.length + zs.length ≤ sizeLine ∧ Q .non (upd H l (.lst (xs ++ zs)))
def rPop : V → List V → Hp → VK → Prop := fun x vs H Q => ∃ l xs y, x = .ref l ∧ vs = [] ∧ H l = some (.lst xs) ∧ xs[xs.length - 1]? = some y ∧ Q y (upd H l (.lst xs.dropLast))
def rPopAt : V → List V → Hp → VK → Prop := fun x vs H Q => ∃ l xs i k y, x = .ref l ∧ vs = [.int i] ∧ H l = some (.lst xs) ∧ -(2 ^ 63) ≤ i ∧ i < 2 ^ 63 ∧ seqIndex? i xs.length = some k ∧ xs[k]? = some y ∧ Q y (upd H l (.lst (xs.eraseIdx k)))
def rReverse : V → List V → Hp → VK → Prop := fun x vs H Q => ∃ l xs, x = .ref l ∧ vs = [] ∧ H l = some (.lst xs) ∧ Q .non (upd H l (.lst xs.reverse))
def rClear : V → List V → Hp → VK → Prop := fun x vs H Q => ∃ l xs, x = .ref l ∧ vs = [] ∧ H l = some (.lst xs) ∧ Q .non (upd H l (.lst []))
def rCat : R2 := fun x y H Q => ∃ l b xs zs, x = .ref l ∧ y = .ref b ∧ H l = some (.lst xs) ∧ H b = some (.lst zs) ∧ xs.length + zs.length ≤ sizeLine ∧ ∀ p, H p = none → Q (.ref p) (upd H p (.lst (xs ++ zs)))
def rRep : R2 := fun x y H Q => ∃ l k xs, x = .ref l ∧ y = .int k ∧ H l = some (.lst xs) ∧ -(2 ^ 63) ≤ k ∧ k < 2 ^ 63 ∧ xs.length * k.toNat ≤ sizeLine ∧
  ∀ p, H p = none → Q (.ref p) (upd H p (.lst (List.replicate k.toNat xs).flatten))
end
section
variable {prog : Program} {w : World} {A : Around} {E : Value → Shared → Prop} {s : Shared}
end
section
variable {X : Cx}
end
end L2
namespace Att
open PySem PySem.W PySem.Calls PyProof.Rows
theorem ints_of_wellAll {P : Params} {h : Heap} : ∀ (ns : List Int) (vs : List Value), WellAll P h vs (ns.map WData.int) → IntsAre vs ns := by
  intro ns
  induction ns with
  | nil =>
    intro vs w
    rw [List.map_nil] at w
    cases w
    exact .nil
  | cons n ns ih =>
    intro vs w
    rw [List.map_cons] at w
    cases w with
    | cons a b =>
      cases a
      exact .cons _ _ (ih _ b)
theorem script_of {l : OpenLaw} {n : Nat} (hn : l.most = some n) {P : Params} {h : Heap} {args : List WData} {vals : List Value}
    (hpre : l.row.toRowW.claim.pre args = true) (hwl : WellAll P h vals args) :
    ∃ a vs ns, vals = [Value.ref a] ∧ args = [WData.list (ns.map WData.int)] ∧ h.get? a = some { cls := .type "list", data := .seq vs.toArray } ∧ IntsAre vs ns ∧ ns.length ≤ n := by
  have hsh : WShape.hasAll [] args [.list .int] = true := (pre_splitW hpre).1
  have hc : l.pre.holds [] { args := args } = true := (pre_splitW hpre).2
  obtain ⟨d, r, rfl, h1, h2⟩ := hasAllW_cons hsh
  obtain rfl := hasAllW_nil h2
  obtain ⟨xs, rfl, h3⟩ := hasW_list h1
  obtain ⟨ns, rfl⟩ := items_int h3
  have hlen : ns.length ≤ n := by
    unfold OpenLaw.pre at hc
    have h4 : (WTm.not (.lt (.lit (.int (n : Int))) (.len (.arg 0)))).holds [] { args := [.list (ns.map .int)] } = true := by
      have h4 := (holds_andW hc).1
      rw [hn] at h4
      exact h4
    have h5 := condW_of h4 (w_not (w_lt w_lit (w_len_list (w_arg rfl))))
    rw [List.length_map] at h5
    refine Nat.le_of_not_lt fun q => ?_
    have q' : (n : Int) < ((ns.length : Nat) : Int) := by omega
    first
      | (rw [decide_eq_true q'] at h5; exact absurd h5 (by decide))
      | (simp at h5; omega)
  cases hwl with
  | cons w1 w2 =>
    cases w2
    cases w1 with
    | list ho hall => exact ⟨_, _, ns, rfl, rfl, ho, ints_of_wellAll ns _ hall, hlen⟩
theorem post_true (l : OpenLaw) (args : List WData) : l.row.toRowW.claim.post args (.bool true) args = true :=
  postW_of (r := l.row.toRowW) (X := (true == true))
    (show WShape.has [] (.bool true) .bool = true by first | rfl | decide | simp [WShape.has, WShape.arms, WShape.armsAll])
    (show (WTm.eq .res (.lit (.bool true))).value [] { args := args, res := some (.bool true), after := args } = some (.bool (true == true)) from w_eq_bool (w_res rfl) w_lit) rfl
theorem attach_call {l : OpenLaw} {n : Nat} {q : Program} {loose : List Str} {XP : (Str → Option Value) → Heap → Prop} {YP : World → Heap → Prop} {d : DefRec}
    (hn : l.most = some n) (hdf : d.params.defaults = [])
    (call : ∀ (w : World) (s₀ s₁ : Shared) (mg mb : Str → Option Value) (fa : Addr) (o : Obj) (pm cd doc : Value) (a : Addr) (vs : List Value) (ns : List Int),
      Ground q loose [] XP w s₀ mg mb s₁.heap → YP w s₁.heap →
      s₁.heap.get? fa = some o → o.data = .func (docDef d.name d.params d.body d.scope pm cd doc) → s₁.heap.CodeRec cd d.name → mg d.name = some (.ref fa) →
      s₁.heap.get? a = some { cls := .type "list", data := .seq vs.toArray } → IntsAre vs ns → ns.length ≤ n → s₁.gens = #[] →
      codeAny (model l.prog w) callerA (.call (.ref fa) ⟨[.ref a], []⟩) (fun r s' => r = .ok (.ret (.bool true)) ∧ OldK s₁.heap s'.heap ∧ s'.os = s₁.os ∧ AllBare s'.gens) s₁) :
    WalkO q loose XP YP l.row.toRowW d [] (fun f vs => PySem.call f vs) := by
  intro w s₀ s₁ mg mb G Y fa o pm cd doc dV kV ho hd hcd hD hmg hg args vals as hpre hlay hrd hwl hlo
  obtain rfl : dV = .none := Dflts.none hD hdf
  obtain rfl : kV = .none := Dflts.noKw hD
  obtain ⟨a, vs, ns, rfl, rfl, hobj, hints, hlen⟩ := script_of hn hpre hwl
  refine enter_call (codeAny_mono (call w s₀ s₁ mg mb fa o pm cd doc a vs ns G Y ho (fd_plain hd) hcd hmg hobj hints hlen hg) fun r s' hq => ?_)
  obtain ⟨rfl, h2, h3, h4⟩ := hq
  exact ⟨.inl ⟨.bool true, .bool true, [], rfl, fun _ => rfl, .bool true, post_true l _, fun _ => ⟨List.Pairwise.nil, fun _ hm => (nomatch hm)⟩⟩, h2, h3, h4⟩
section
variable {prog : Program} {w : World} {A : Around} {E : Value → Shared → Prop} {s : Shared} {K : Frag}
def noObjs (h : Heap) : Heap := { h with objs := #[] }
def ledger (h : Heap) (L d : Addr) : List (Addr × Obj) := (List.range h.objs.size).filterMap fun a => if a = L ∨ a = d then none else (h.get? a).map fun o => (a, o)
end
end Att
namespace L2
open PySem PySem.Spec PyProof.Rows
theorem vals_ints : ∀ {vs : List Value} {ns : List Int}, IntsAre vs ns → Vals (ns.map V.int) vs
  | _, _, .nil => .nil
  | _, _, .cons n t h => .cons ⟨t, rfl⟩ (vals_ints h)
def Only (H : Hp) : Prop := ∀ b, H b = none ∨ ∃ o xs, H b = some (.frz o (.lst xs))
theorem law_call {P : Program} {w : World} {K : PySem.W.Frag} {mg mb : Str → Option Value} {CX : CXT} {k : Nat} {fa a : Addr} {fd : FuncData} {x : Str} {sp : Sp} {s₁ : Shared} {vs : List Value} {ns : List Int}
    (KX : K.In s₁.heap) (hns : s₁.heap.Ns mainGlobals mg) (hb : s₁.heap.Ns builtinsNs mb) (hbb : ∀ x : Str, x ≠ "__name__" → mb x = bootBuiltins x) (hlim : s₁.heap.NoLimit) (hg : s₁.gens = #[])
    (ha : s₁.heap.get? a = some { cls := .type "list", data := .seq vs.toArray }) (hi : IntsAre vs ns) (hl : ns.length ≤ sizeLine) (hr : Room k callerA)
    (F : ∀ base : Heap, K.In base → base.Ns mainGlobals mg → FnOk P w K mg base CX k fa fd [x] sp) (hbind : ∀ (s : Shared) (u : Value), BindsTo s fd ⟨[u], []⟩ [(x, u)])
    (hsp : ∀ H : Hp, Only H → SqL K H a (ns.map V.int) → sp [.ref a] H (fun v _ => v = .bl true) fun _ _ _ => False)
    (hCX : ∀ H e s', CX [] H s₁ (fun _ _ _ => False) e s' → False) :
    codeAny (model P w) callerA (.call (.ref fa) ⟨[.ref a], []⟩) (fun r s' => r = .ok (.ret (.bool true)) ∧ OldK s₁.heap s'.heap ∧ s'.os = s₁.os ∧ AllBare s'.gens) s₁ := by
  have rv := vals_ints hi
  have lenV := hi.length
  have core : ∀ H : Hp, Only H → SqL K H a (ns.map V.int) → HOk P w H s₁.heap → (∀ b, H b ≠ none → b = a) → (H a ≠ none → K.lookup a = none) →
      codeAny (model P w) callerA (.call (.ref fa) ⟨[.ref a], []⟩) (fun r s' => r = .ok (.ret (.bool true)) ∧ OldK s₁.heap s'.heap ∧ s'.os = s₁.os ∧ AllBare s'.gens) s₁ := by
    intro H hO hS hok hA hK
    have base_of : ∀ {b : Addr} {o : Obj}, s₁.heap.get? b = some o → H b = none → (hidT s₁.heap H).get? b = some o := fun e n => hidT_get e n
    have noA : ∀ {b : Addr} {o : Obj} {es : Array DictEntry} {ep : Nat}, s₁.heap.get? b = some o → o.data = .dict es ep → H b = none := fun {b o es ep} e d => by
      cases q : H b with
      | none => rfl
      | some u =>
        have e' : b = a := hA b (by rw [q]; simp)
        subst e'
        rw [ha] at e; cases e
        have d' : Data.seq vs.toArray _ = Data.dict es ep := d
        cases d'
    have nsK : ∀ {b : Addr} {m : Str → Option Value}, s₁.heap.Ns b m → (hidT s₁.heap H).Ns b m := fun {b m} ⟨o, es, ep, e, d, r⟩ => ⟨o, es, ep, base_of e (noA e d), d, r⟩
    have hKb : K.In (hidT s₁.heap H) := fun b o e => base_of (KX b o e) (by
      cases q : H b with
      | none => rfl
      | some u =>
        have e' : b = a := hA b (by rw [q]; simp)
        subst e'
        rw [hK (by rw [q]; simp)] at e; cases e)
    have hM : Mod K mg (hidT s₁.heap H) := ⟨hKb, nsK hns, ⟨mb, nsK hb, hbb⟩, let ⟨mc, h1, h2⟩ := hlim; ⟨mc, nsK h1, h2⟩⟩
    have e0 : Env0 P w K mg (hidT s₁.heap H) callerA [] s₁ H := ⟨rfl, hM, fun b o e => of_hidT e, Nat.le_of_eq (hidT_size _ _), trivial, fun b hb => absurd (show b ∈ ([] : List Addr) from hb) (by simp), hok, .of_eq hg⟩
    refine codeAny_mono ((F _ hKb (nsK hns)).run callerA [] s₁ H ⟨[.ref a], []⟩ [.ref a] [.ref a] _ _ hr e0 (hbind s₁ (.ref a)) (.cons rfl .nil) (hsp H hO hS)) fun r s' h => ?_
    cases r with
    | error e => exact (hCX H e s' h).elim
    | ok fl =>
      cases fl with
      | next => exact False.elim h
      | brk => exact False.elim h
      | cont => exact False.elim h
      | ret u =>
        obtain ⟨v, H', os, bare, un, hok', r', q⟩ := h
        have q' : v = .bl true := q
        subst q'
        obtain rfl : u = Value.bool true := r'
        refine ⟨rfl, OldK.of_keep fun b o e => ?_, os, bare⟩
        cases q : H b with
        | none => exact un.keep b o e q (by intro z; exact absurd (show b ∈ ([] : List Addr) from z) (by simp)) (by simp)
        | some u =>
          rcases hO b with z | ⟨ob, xs, z⟩
          · rw [q] at z; cases z
          · have z2 := un.frzs b ob _ z
            obtain ⟨e1, _⟩ := hok b _ z
            obtain ⟨e2, _⟩ := hok' b _ z2
            rw [e] at e1; cases e1
            exact e2
  cases hk : K.lookup a with
  | some o =>
    have e := KX a o hk
    rw [ha] at e
    cases e
    refine core (fun _ => none) (fun _ => .inl rfl) (.inr ⟨_, vs.toArray, _, hk, rfl, rfl, rfl, by rw [List.size_toArray, lenV]; exact hl, by simpa using rv⟩) (fun b u z => by have z' : (none : Option HO) = some u := z; cases z') (fun b z => absurd rfl z) fun z => absurd rfl z
  | none =>
    refine core (fun b => if b = a then some (.frz { cls := .type "list", data := .seq vs.toArray } (.lst (ns.map V.int))) else none) (fun b => ?_) (.inl (.inr ⟨{ cls := .type "list", data := .seq vs.toArray }, if_pos rfl⟩)) (fun b u z => ?_) (fun b z => ?_) fun _ => hk
    · by_cases hb : b = a
      · exact .inr ⟨_, _, if_pos hb⟩
      · exact .inl (if_neg hb)
    · by_cases hb : b = a
      · have z' := (if_pos hb).symm.trans z
        cases z'
        subst hb
        exact ⟨ha, by rw [List.length_map]; exact hl, vs, _, rv, ha⟩
      · have z' := (if_neg hb).symm.trans z
        cases z'
    · by_cases hb : b = a
      · exact hb
      · exact absurd (if_neg hb) z
end L2
namespace L2
open PySem PySem.Spec PyProof.Rows
abbrev KOf {K : PySem.W.Frag} {h : Heap} (_ : K.In h) : PySem.W.Frag := K
theorem walk_of {l : PySem.W.OpenLaw} {n k : Nat} {q : Program} {loose : List Str} {XP : (Str → Option Value) → Heap → Prop} {YP : World → Heap → Prop} {d : DefRec} {K : Params → PySem.W.Frag} {CX : World → CXT} {sp : World → Sp} {x : Str}
    (hn : l.most = some n) (hn2 : n ≤ sizeLine) (hdf : d.params.defaults = []) (hr : Room k callerA)
    (hY : ∀ (w : World) (h : Heap), YP w h → (K w.params).In h)
    (F : ∀ (w : World) (mg : Str → Option Value) (fa : Addr) (h : Heap), (K w.params).In h → h.Ns mainGlobals mg → mg d.name = some (.ref fa) →
      ∃ fd : FuncData, (∀ (s : Shared) (u : Value), BindsTo s fd ⟨[u], []⟩ [(x, u)]) ∧
        ∀ base : Heap, (K w.params).In base → base.Ns mainGlobals mg → FnOk l.prog w (K w.params) mg base (CX w) k fa fd [x] (sp w))
    (hsp : ∀ (w : World) (H : Hp) (a : Addr) (ns : List Int), ns.length ≤ n → Only H → SqL (K w.params) H a (ns.map V.int) → sp w [.ref a] H (fun v _ => v = .bl true) fun _ _ _ => False)
    (hCX : ∀ (w : World) (H : Hp) (s : Shared) (e : Value) (s' : Shared), CX w [] H s (fun _ _ _ => False) e s' → False) :
    PySem.W.WalkO q loose XP YP l.row.toRowW d [] (fun f vs => PySem.call f vs) := by
  refine Att.attach_call hn hdf fun w s₀ s₁ mg mb fa o pm cd doc a vs ns G Y ho hd hcd hmg hobj hints hlen hg => ?_
  have KX := hY w _ Y
  obtain ⟨fd, hb, hF⟩ := F w mg fa _ KX G.T.g hmg
  exact law_call KX G.T.g G.T.b G.T.builtins G.T.nolimit hg hobj hints (Nat.le_trans hlen hn2) hr hF hb (fun H hO hS => hsp w H a ns hlen hO hS) fun H e s' => hCX w H s₁ e s'
end L2
/- THE LAST THEOREM (shape; LID, My.* are yours):
   My.Adr: a structure of the addresses that your layer names (classes, functions); My.Txt K t: a structure (Prop) of the equations over K;
   My.txt_mk : {K} {implicit addresses ..} (e1 : nsIn K mainGlobals "law" = some (some (.ref f))) (e2 : K.lookup f = some ⟨oc, od, .func (fnOf "law" "law" params body scope dV kV doc pm an cdv ct), sl⟩) (e3 : codeIn K cdv "law" = true) .. : ∃ t, My.Txt K t
set_option maxRecDepth 100000 in
set_option maxHeartbeats 0 in
theorem PySem.Challenge.cw_LID_holds : PySem.Challenge.rw_LID.Holds := by
  w_on; o_law; k_head; (case hw => w_witness2)
  k_fill
  refine L2.walk_of (l := PySem.Challenge.rw_LID) (n := 63) (k := 40) (x := "script") (CX := fun w => ..) (sp := fun _ => My.sp_law) rfl (by decide) rfl ⟨rfl, by decide, by decide⟩ (fun w h Y => PySem.W.kIn_of Y) ?F ?S ?C
  case F =>
    intro w mg fa h KX G hmg
    have T : ∃ t, My.Txt (L2.KOf KX) t := by
      dsimp only [L2.KOf]                          -- K must stand as «<heap const> w.params» for k_is
      refine' My.txt_mk ?e1 ?e2 ?e3 ..
      (case e1 => PySem.W.k_is)                    -- in the order: a name -> its address -> its object -> its parts
      (case e2 => PySem.W.k_is)
      ..
    obtain ⟨t, T⟩ := T
    have e0 := hmg.symm.trans (PySem.W.mg_of KX G T.law)
    cases e0                                       -- fa is the law's own address
    exact ⟨_, fun s u => .of_eq rfl, fun base kb nb => My.law_fn T kb nb⟩     -- if «.of_eq rfl» comes too early: refine' ⟨_, ?b, fun base kb nb => My.law_fn T kb nb⟩; exact fun s u => .of_eq rfl
  case S => exact fun w H a ns hl hO hS => ..
  case C => exact ..
(the tactic k_is has no namespace: write k_is) -/
namespace L2
open PySem PySem.Spec PyProof.Rows
def inClass (s : Stmt) (j : Nat) : Stmt := match s with
  | .ClassDef _ _ _ body _ _ _ _ _ _ _ => body.getD j (.Pass ⟨0, 0, 0, 0⟩)
  | _ => .Pass ⟨0, 0, 0, 0⟩
def defArgs (s : Stmt) : Arguments := match s with
  | .FunctionDef _ a _ _ _ _ _ _ _ _ => a
  | _ => { posonlyargs := [], args := [], vararg := none, kwonlyargs := [], kw_defaults := [], kwarg := none, defaults := [] }
def defBody (s : Stmt) : List Stmt := match s with
  | .FunctionDef _ _ b _ _ _ _ _ _ _ => b
  | _ => []
def defScope (s : Stmt) : Scope := match s with
  | .FunctionDef _ _ _ _ _ _ sc _ _ _ => sc
  | _ => { kind := .function, names := [], isGenerator := false, isCoroutine := false }
abbrev CX0 : CXT := fun _ _ _ _ _ _ => False
abbrev E0 : XK := fun _ _ _ => False
theorem pass0 {X : Cx} : Passes CX0 X E0 := fun _ _ _ _ _ _ _ h => h.elim
structure Fun (K : PySem.W.Frag) (x qual : Str) (st : Stmt) (f : Addr) (fd : FuncData) : Prop where
  ex : ∃ (oc : Value) (od : Option Addr) (kV doc pm : Value) (an : Option Addr) (cdv ct : Value) (osl : Array (Option Value)),
    fd = PySem.W.fnOf x qual (defArgs st) (defBody st) (defScope st) .none kV doc pm an cdv ct ∧ K.lookup f = some ⟨oc, od, .func fd, osl⟩ ∧ PySem.W.codeIn K cdv qual = true
  kp : PySem.W.keepIn K (.ref f) = true
section
variable {P : Program} {w : World} {K : PySem.W.Frag} {mg : Str → Option Value} {base : Heap}
theorem Fun.ok {x qual : Str} {st : Stmt} {f : Addr} {fd : FuncData} {N ps : List Str} {k : Nat} {sp : Sp} (F : Fun K x qual st f fd) (S : FnScope N ps (defScope st)) (len : ∀ vs H Q E, sp vs H Q E → vs.length = ps.length)
    (hbody : ∀ (cdv : Value) (A : Around) (outer : List Env) (s : Shared) (H : Hp) (vs : List V) (Q : VK) (E : XK), Room k (A.deeper (envOfC qual (defScope st) s.heap.objs.size f cdv)) → sp vs H Q E →
      ∃ t, PSs (cxOf CX0 P w K mg base N qual (defScope st) f cdv A outer s H E).nox (defBody st) t ∧ t { nx := fun _ H' => Q .non H', rt := Q } (start N vs) H) : FnOk P w K mg base CX0 (k + 1) f fd ps sp := by
  obtain ⟨oc, od, kV, doc, pm, an, cdv, ct, osl, rfl, lk, hcd⟩ := F.ex
  refine fn_of lk hcd S len fun A outer s H vs Q E hr hsp => ?_
  obtain ⟨t, h, q⟩ := hbody cdv A outer s H vs Q E hr hsp
  exact ⟨t, h.nox, q⟩
theorem Fun.binds {x qual : Str} {st : Stmt} {f : Addr} {fd : FuncData} {ps : List Str} (F : Fun K x qual st f fd)
    (h : ∀ (kV doc pm : Value) (an : Option Addr) (cdv ct : Value) (us : List Value), us.length = ps.length → bindArgs (PySem.W.fnOf x qual (defArgs st) (defBody st) (defScope st) .none kV doc pm an cdv ct) ⟨us, []⟩ = pure (ps.zip us)) : Binds K fd ps [] := by
  obtain ⟨oc, od, kV, doc, pm, an, cdv, ct, osl, rfl, lk, hcd⟩ := F.ex
  exact .all (h kV doc pm an cdv ct)
theorem fun_mk {x qual : Str} {st : Stmt} {f : Addr} {oc : Value} {od an : Option Addr} {osl : Array (Option Value)} {kV doc pm cdv ct : Value} (l : K.lookup f = some ⟨oc, od, .func (PySem.W.fnOf x qual (defArgs st) (defBody st) (defScope st) .none kV doc pm an cdv ct), osl⟩)
    (c : PySem.W.codeIn K cdv qual = true) (k : PySem.W.keepIn K (.ref f) = true) : Fun K x qual st f (PySem.W.fnOf x qual (defArgs st) (defBody st) (defScope st) .none kV doc pm an cdv ct) := ⟨⟨oc, od, kV, doc, pm, an, cdv, ct, osl, rfl, l, c⟩, k⟩
end
theorem small1000 {n : Nat} (h : n ≤ 1000) : n < sizeLine := Nat.lt_of_le_of_lt h (by decide)
section
variable {X : Cx}
theorem pv (i : Nat) {x : Str} {pos : Pos} (hN : X.N[i]? = some x := by rfl) (hv : Vis X.env.scope x := by first | exact Or.inl rfl | exact Or.inr (Or.inl rfl) | exact Or.inr (Or.inr rfl)) (hd : (x == ("__debug__" : Str)) = false := by decide)
    (hcd : (x == ("__classdict__" : Str)) = false := by decide) : PE X (.Name x pos) (tVar i) := pe_var hN hv hd hcd
end
theorem iteF {A B : Prop} (h : B) : if false = true then A else B := by
  rw [if_neg Bool.false_ne_true]
  exact h
theorem iteT {A B : Prop} (h : A) : if true = true then A else B := by
  rw [if_pos rfl]
  exact h
theorem iteNS {c A B : Prop} [Decidable c] (hc : c) (h : B) : if (!decide c) = true then A else B := by
  rw [decide_eq_true hc]
  exact iteF h
def Same (H H' : Hp) : Prop := ∀ b o, H b = some o → H' b = some o
theorem Same.refl (H : Hp) : Same H H := fun _ _ h => h
theorem Same.trans {H H1 H2 : Hp} (a : Same H H1) (b : Same H1 H2) : Same H H2 := fun c o h => b c o (a c o h)
theorem Same.seq {K : PySem.W.Frag} {H H' : Hp} {a : Addr} {xs : List V} (e : Same H H') (h : SqL K H a xs) : SqL K H' a xs := by
  rcases h with (h | ⟨o, h⟩) | h
  · exact .inl (.inl (e _ _ h))
  · exact .inl (.inr ⟨o, e _ _ h⟩)
  · exact .inr h
end L2
set_option Elab.async false
set_option maxRecDepth 100000
set_option maxHeartbeats 4000000
namespace L2
open PySem PySem.Spec PyProof.Rows
def Its (x : Str) : It := ⟨fun i _ => i < x.length, fun i H v H' => H' = H ∧ ∃ c, x.cps[i]? = some c ∧ v = .str ⟨#[c]⟩, fun i _ => x.length ≤ i⟩
theorem turn_strA {P : Program} {w : World} {K : PySem.W.Frag} {tg : Expr} (x : Str) (t : Tok) (it : Addr) : Turn P w K tg (Its x) [it] it (fun i h => h.IsStrIter it "str_ascii_iterator" x t i) where
  mem := by simp
  obj := fun i h st b hb => by
    have e : b = it := by simpa using hb
    subst e
    obtain ⟨o, e, c, d⟩ := st
    exact ⟨o, e, fun v z => by rw [d] at z; cases z⟩
  keep := fun i h h' st k => by
    obtain ⟨o, e, r⟩ := st
    exact ⟨o, k it (by simp) o e, r⟩
  item := by
    intro X hP hw hK hc i pins s σ H E I hf st hg
    subst hP hw hK
    have hg : i < x.cps.size := hg
    obtain ⟨f0, f1, f2, f3, f4, f5⟩ := hf it (by simp)
    refine wpAny_pyNext_ascii_item st (c := x.cps[i]) (by simp [hg]) fun h' st' sb => ?_
    have I1 : Inv X pins σ H { s with heap := h', toks := s.toks + 1 } := I.turned (t' := s.toks + 1) (fun b o hb e => (sb.2 b hb).trans e) f0 f1 f3 f4 f5
    obtain ⟨o, e, c, d⟩ := id st'
    exact ⟨_, rfl, go_of (s := { s with heap := h', toks := s.toks + 1 }) e c d (by decide) ⟨.str ⟨#[x.cps[i]]⟩, H, I1, ⟨_, rfl⟩, ⟨rfl, _, by simp [hg], rfl⟩, st', fun b hb => (hf b hb).1⟩⟩
  done := by
    intro X hP hw hK hc i pins s σ H E I hf st hg
    subst hP hw hK
    have hg : x.cps.size ≤ i := hg
    obtain ⟨f0, f1, f2, f3, f4, f5⟩ := hf it (by simp)
    exact wpAny_pyNext_ascii_end (I.ok.hd hc) st (by simp [hg]) fun h' eb => ⟨rfl, I.turned (t' := s.toks) (fun b o hb e => eb b o hb e) f0 f1 f3 f4 f5⟩
  self := fun _ _ _ _ _ st h => wpAny_pyIter_striter_ascii st h
theorem turn_strW {P : Program} {w : World} {K : PySem.W.Frag} {tg : Expr} (x : Str) (t : Tok) (it : Addr) : Turn P w K tg (Its x) [it] it (fun i h => h.IsStrIter it "str_iterator" x t i) where
  mem := by simp
  obj := fun i h st b hb => by
    have e : b = it := by simpa using hb
    subst e
    obtain ⟨o, e, c, d⟩ := st
    exact ⟨o, e, fun v z => by rw [d] at z; cases z⟩
  keep := fun i h h' st k => by
    obtain ⟨o, e, r⟩ := st
    exact ⟨o, k it (by simp) o e, r⟩
  item := by
    intro X hP hw hK hc i pins s σ H E I hf st hg
    subst hP hw hK
    have hg : i < x.cps.size := hg
    obtain ⟨f0, f1, f2, f3, f4, f5⟩ := hf it (by simp)
    refine wpAny_pyNext_wide_item st (c := x.cps[i]) (by simp [hg]) fun h' st' sb => ?_
    have I1 : Inv X pins σ H { s with heap := h', toks := s.toks + 1 } := I.turned (t' := s.toks + 1) (fun b o hb e => (sb.2 b hb).trans e) f0 f1 f3 f4 f5
    obtain ⟨o, e, c, d⟩ := id st'
    exact ⟨_, rfl, go_of (s := { s with heap := h', toks := s.toks + 1 }) e c d (by decide) ⟨.str ⟨#[x.cps[i]]⟩, H, I1, ⟨_, rfl⟩, ⟨rfl, _, by simp [hg], rfl⟩, st', fun b hb => (hf b hb).1⟩⟩
  done := by
    intro X hP hw hK hc i pins s σ H E I hf st hg
    subst hP hw hK
    have hg : x.cps.size ≤ i := hg
    obtain ⟨f0, f1, f2, f3, f4, f5⟩ := hf it (by simp)
    exact wpAny_pyNext_wide_end (I.ok.hd hc) st (by simp [hg]) fun h' eb => ⟨rfl, I.turned (t' := s.toks) (fun b o hb e => eb b o hb e) f0 f1 f3 f4 f5⟩
  self := fun _ _ _ _ _ st h => wpAny_pyIter_striter_wide st h
def iStr (tl : TE) : TI := fun σ H R => tl σ H fun v H1 => ∃ x, v = .str x ∧ R (Its x) H1
theorem pi_str {X : Cx} {tg l : Expr} {tl : TE} (hl : PE X l tl) : PI X tg l (iStr tl) := by
  intro pins s σ H R I h
  refine thn (hl pins s σ H _ I h) fun v s1 ⟨y, H1, I1, r1, q1⟩ => ?_
  obtain ⟨x, rfl, q⟩ := q1
  obtain ⟨t, rfl⟩ := r1
  cases ha : x.cps.all (· < 128)
  · refine wpAny_pyIter_wide ha ?_
    refine ⟨s1.heap.objs.size, [s1.heap.objs.size], _, _, H1, rfl, I1.kept (t' := s1.toks) fun b o e => Heap.get?_push_of_some _ e, turn_strW x t _, ⟨_, Heap.get?_push_size _ rfl, rfl, rfl⟩, fun b hb => ?_, q⟩
    have e : b = s1.heap.objs.size := by simpa using hb
    subst e
    exact I1.fpOk (Nat.le_refl _) (I1.hok.fresh (Nat.le_refl _))
  · refine wpAny_pyIter_ascii ha ?_
    refine ⟨s1.heap.objs.size, [s1.heap.objs.size], _, _, H1, rfl, I1.kept (t' := s1.toks) fun b o e => Heap.get?_push_of_some _ e, turn_strA x t _, ⟨_, Heap.get?_push_size _ rfl, rfl, rfl⟩, fun b hb => ?_, q⟩
    have e : b = s1.heap.objs.size := by simpa using hb
    subst e
    exact I1.fpOk (Nat.le_refl _) (I1.hok.fresh (Nat.le_refl _))
theorem for_str {x : Str} {g : TG} {tb : TS} {D : Ends} {σ : St} {H : Hp} (Pv : Nat → St → Hp → Prop) (h0 : Pv 0 σ H)
    (hs : ∀ i c σ H, x.cps[i]? = some c → Pv i σ H → g (.str ⟨#[c]⟩) σ H fun σ2 H2 => tb { D with nx := Pv (i + 1), ct := Pv (i + 1), bk := D.nx } σ2 H2) (hd : ∀ σ H, Pv x.length σ H → D.nx σ H) :
    ∃ W : Nat → Nat → St → Hp → Prop, (∃ m, W 0 m σ H) ∧ ∀ i m σ H, W i m σ H →
      ((Its x).stop i H ∧ D.nx σ H) ∨ ((Its x).go i H ∧ ∃ N : St → Hp → Prop, (∀ σ' H', N σ' H' → ∃ m', m' < m ∧ W (i + 1) m' σ' H') ∧ ∀ y H', (Its x).yld i H y H' → g y σ H' fun σ2 H2 => tb { D with nx := N, ct := N, bk := D.nx } σ2 H2) := by
  refine ⟨fun i m σ H => m = x.length - i ∧ i ≤ x.length ∧ Pv i σ H, ⟨x.length, by simp, Nat.zero_le _, h0⟩, ?_⟩
  rintro i m σ H ⟨rfl, hi, p⟩
  by_cases hlt : i < x.length
  · refine .inr ⟨hlt, Pv (i + 1), fun σ' H' p' => ⟨x.length - (i + 1), by omega, rfl, hlt, p'⟩, fun y H' q => ?_⟩
    obtain ⟨e, c, hc, e2⟩ := q
    subst e e2
    exact hs i c σ _ hc p
  · have e : i = x.length := by omega
    subst e
    exact .inl ⟨Nat.le_refl _, hd σ H p⟩
section
variable {X : Cx}
def rSlS : V → Option Int → Option Int → Hp → VK → Prop := fun x lo hi H Q => ∃ z, x = .str z ∧ z.length ≤ sizeLine ∧ Q (.str (Txt.slice z lo hi)) H
theorem sl_str : SlR X rSlS := by
  intro pins s σ H x v vl vu lo hi sl Q I rx hs pl pu h
  obtain ⟨z, rfl, hz, q⟩ := h
  obtain ⟨t, rfl⟩ := rx
  refine ⟨"str", _, PySem.F.slot_str_getitem.lookup, typeIs_str _ _ _, ?_⟩
  have fin : ∀ t' k, EP X pins σ Q (.str (Txt.slice z lo hi) t') { s with toks := k } := fun t' k => ⟨.str _, H, I.tok k, ⟨t', rfl⟩, q⟩
  obtain ⟨o, ho, hc, hd⟩ := hs
  cases pl with
  | none =>
    cases pu with
    | none => exact wpAny_getItem_str_slice (l := none) (u := none) (st := none) ⟨o, ho, hc, hd⟩ rfl (post_val_or_str ⟨Nat.le_trans (Txt.slice_le z _ _) hz, fun t' k => fin t' k⟩)
    | int j uj => exact wpAny_getItem_str_slice (l := none) (u := some (j, uj)) (st := none) ⟨o, ho, hc, hd⟩ rfl (post_val_or_str ⟨Nat.le_trans (Txt.slice_le z _ _) hz, fun t' k => fin t' k⟩)
  | int i ui =>
    cases pu with
    | none => exact wpAny_getItem_str_slice (l := some (i, ui)) (u := none) (st := none) ⟨o, ho, hc, hd⟩ rfl (post_val_or_str ⟨Nat.le_trans (Txt.slice_le z _ _) hz, fun t' k => fin t' k⟩)
    | int j uj => exact wpAny_getItem_str_slice (l := some (i, ui)) (u := some (j, uj)) (st := none) ⟨o, ho, hc, hd⟩ rfl (post_val_or_str ⟨Nat.le_trans (Txt.slice_le z _ _) hz, fun t' k => fin t' k⟩)
def rMt1 (g : Str → Str → V) : V → List V → Hp → VK → Prop := fun x xs H Q => ∃ z y, x = .str z ∧ xs = [.str y] ∧ Q (g z y) H
theorem mt_find : MtR X "str.find" (fun x xs H Q => ∃ z y, x = .str z ∧ xs = [.str y] ∧ Q (.int (Txt.find z y)) H) := by
  intro pins s σ H x xs v us Q I rx rs h
  obtain ⟨z, y, rfl, rfl, q⟩ := h
  obtain ⟨t, rfl⟩ := rx
  obtain ⟨u, rfl, t', rfl⟩ := vals1 rs
  exact SC.find ⟨.int _, H, I.tok _, ⟨_, rfl⟩, q⟩
def rIndex : V → List V → Hp → VK → Prop := fun x xs H Q => ∃ z y, x = .str z ∧ xs = [.str y] ∧ Txt.contains z y = true ∧ Q (.int (Txt.find z y)) H
theorem mt_index : MtR X "str.index" rIndex := by
  intro pins s σ H x xs v us Q I rx rs h
  obtain ⟨z, y, rfl, rfl, hc, q⟩ := h
  obtain ⟨t, rfl⟩ := rx
  obtain ⟨u, rfl, t', rfl⟩ := vals1 rs
  unfold Txt.contains at hc
  unfold Txt.find at q
  cases ho : Builtin.Str.occurrences z y 0 z.length 1 with
  | nil => rw [ho] at hc; exact absurd hc (by decide)
  | cons i rest =>
    rw [ho] at q
    exact SC.index ho ⟨.int _, H, I.tok _, ⟨_, rfl⟩, q⟩
def rRstrip : V → List V → Hp → VK → Prop := fun x xs H Q => ∃ z y, x = .str z ∧ xs = [.str y] ∧ z.length ≤ sizeLine ∧ Q (.str (Txt.rstripChars z y)) H
theorem strsAre_of : ∀ {ys : List Str} {us : List Value}, Vals (ys.map V.str) us → StrsAre us ys
  | [], _, r => by cases r; exact .nil
  | y :: ys, _, r => by
    cases r with
    | cons a b =>
      obtain ⟨t, rfl⟩ := a
      exact .cons y t (strsAre_of b)
def rJoin (K : PySem.W.Frag) : V → List V → Hp → VK → Prop := fun x xs H Q => ∃ z p ys, x = .str z ∧ xs = [.ref p] ∧ SqL K H p (ys.map V.str) ∧ (ys.map (·.length)).sum + ys.length * z.length ≤ 16777216 ∧ Q (.str (Txt.join z ys)) H
theorem mt_join : MtR X "str.join" (rJoin X.K) := by
  intro pins s σ H x xs v us Q I rx rs h
  obtain ⟨z, p, ys, rfl, rfl, hp, hz, q⟩ := h
  obtain ⟨t, rfl⟩ := rx
  obtain ⟨u, rfl, e⟩ := vals1 rs
  cases e
  obtain ⟨its, rv, pl, _⟩ := I.list hp
  exact join_list pl.isList (by simpa using strsAre_of rv) hz fun t' k => ⟨.str _, H, I.tok k, ⟨t', rfl⟩, q⟩
theorem call_isinst {T : String} {b : Bool} : CallR X (.builtin "isinstance") (fun xs H Q => ∃ x t, xs = [x, .ty T] ∧ TyOf X.K H x t ∧ PySem.W.kitOne X.K t (.type T) = some b ∧ Q (.bl b) H) := by
  intro pins s σ H xs us Q I r h
  obtain ⟨x, t, rfl, ty, e, q⟩ := h
  obtain ⟨u, w', rfl, rx, ry⟩ := vals2 r
  cases ry
  exact isinst_ok I rx ty e fun tk => ⟨.bl b, H, I.tok tk, rfl, q⟩
end
end L2
namespace L2
open PySem PySem.Spec PyProof.Rows
def cxComp (X : Cx) (x : Str) (sc : Scope) (cl : List (Str × Addr)) (C : Addr) (fp : List Addr) (s : Shared) (H : Hp) : Cx where
  prog := X.prog
  w := X.w
  K := X.K
  mg := X.mg
  base := X.base
  A := X.A
  N := x :: X.N
  s₀ := s
  H₀ := H
  env := compEnvC sc cl C X.env
  outer := X.stack
  stack := X.stack
  ex := fp
  fn := fun _ => false
  calm := X.calm
  pn := []
  xe := fun _ _ => False
def PTs (X : Cx) (ifs : List Expr) (t : TT) : Prop :=
  ∀ (pins : List (Addr × Obj)) (s : Shared) (σ : St) (H : Hp) (Q : Bool → Hp → Prop), Inv X pins σ H s → t σ H Q →
    wpAny (model X.prog X.w) X.A (forIn ifs true fun c r => if r = true then do let ok ← isTrue c X.env (eval c X.env); pure (ForInStep.yield ok) else pure (ForInStep.yield r)) (TP X pins σ Q) X.xe s
def tAlways : TT := fun _ H Q => Q true H
theorem tAlways_if {σ : St} {H : Hp} {A B : Hp → Prop} (h : A H) : tAlways σ H (fun b H4 => if b = true then A H4 else B H4) := iteT (A := A H) (B := B H) h
theorem pts_nil {X : Cx} : PTs X [] tAlways := fun _ _ _ H _ I h => wpAny_tests_nil ⟨H, I, h⟩
def tComp (wi : TI) (tt : TT) (te : TE) : TE := fun σ H Q => wi σ H fun J H1 => ∀ D, H1 D = none → ∃ W : Nat → Nat → List V → Hp → Prop,
  (∃ m, W 0 m [] (upd H1 D (.lst []))) ∧ ∀ i m ys H2, W i m ys H2 → H2 D = some (.lst ys) ∧ ((J.stop i H2 ∧ Q (.ref D) H2) ∨ (J.go i H2 ∧ ys.length < sizeLine ∧ ∀ x H3, J.yld i H2 x H3 →
    tt (some x :: σ) H3 fun b H4 => if b = true then te (some x :: σ) H4 fun y H5 => H5 D = some (.lst ys) ∧ ∃ m', m' < m ∧ W (i + 1) m' (ys ++ [y]) (upd H5 D (.lst (ys ++ [y])))
      else ∃ m', m' < m ∧ W (i + 1) m' ys H4))
theorem neA {a b : Nat} (h : a ≠ b) : (show Addr from a) ≠ (show Addr from b) := h
theorem closure_of {sc : Scope} {env : Env} (hf : ∀ y ∈ sc.names, y.2 = .free → ∃ c, env.cells.lookup y.1 = some c) :
    ∃ cl, closureFor sc env = pure cl ∧ (∀ y c, cl.lookup y = some c → env.cells.lookup y = some c) ∧ ∀ y ∈ sc.names, y.2 = .free → ∃ c, cl.lookup y.1 = some c := by
  have go : ∀ (l : List (Str × NameKind)) (acc : List (Str × Addr)), (∀ y ∈ l, y.2 = .free → ∃ c, env.cells.lookup y.1 = some c) → (∀ y c, acc.lookup y = some c → env.cells.lookup y = some c) →
      ∃ cl, (forIn l acc fun (p : Str × NameKind) r => if (p.2 == .free) = true then do let a ← cellOf env p.1; pure (ForInStep.yield ((p.1, a) :: r)) else pure (ForInStep.yield r) : Sem (List (Str × Addr))) = pure cl ∧
        (∀ y c, cl.lookup y = some c → env.cells.lookup y = some c) ∧ (∀ y c, acc.lookup y = some c → ∃ c', cl.lookup y = some c') ∧ ∀ y ∈ l, y.2 = .free → ∃ c, cl.lookup y.1 = some c := by
    intro l
    induction l with
    | nil => intro acc _ ha; exact ⟨acc, rfl, ha, fun y c e => ⟨c, e⟩, fun y hy => by simp at hy⟩
    | cons p r ih =>
      intro acc hl ha
      obtain ⟨n, k⟩ := p
      by_cases hk : k = .free
      · subst hk
        obtain ⟨c, hc⟩ := hl (n, .free) List.mem_cons_self rfl
        have e1 : cellOf env n = pure c := by unfold cellOf; rw [hc]
        have ha' : ∀ y c', ((n, c) :: acc).lookup y = some c' → env.cells.lookup y = some c' := fun y c' e => by
          by_cases hy : (y == n) = true
          · rw [List.lookup_cons, hy] at e
            cases e
            rw [eq_of_beq hy]
            exact hc
          · rw [List.lookup_cons, Bool.eq_false_iff.mpr hy] at e
            exact ha y c' e
        obtain ⟨cl, h1, h2, h3, h4⟩ := ih ((n, c) :: acc) (fun y hy => hl y (List.mem_cons_of_mem _ hy)) ha'
        have kept : ∀ y c', acc.lookup y = some c' → ∃ c'', ((n, c) :: acc).lookup y = some c'' := fun y c' e => by
          by_cases hy : (y == n) = true
          · exact ⟨c, by rw [List.lookup_cons, hy]⟩
          · exact ⟨c', by rw [List.lookup_cons, Bool.eq_false_iff.mpr hy]; exact e⟩
        refine ⟨cl, ?_, h2, fun y c' e => ?_, fun y hy hyf => ?_⟩
        · rw [List.forIn_cons]
          simp only [beq_self_eq_true, if_true, e1, pure_bind]
          exact h1
        · obtain ⟨c'', e'⟩ := kept y c' e
          exact h3 y c'' e'
        · rcases List.mem_cons.mp hy with rfl | hy
          · exact h3 n c (by rw [List.lookup_cons, beq_self_eq_true])
          · exact h4 y hy hyf
      · have hb : (k == NameKind.free) = false := by simpa using hk
        obtain ⟨cl, h1, h2, h3, h4⟩ := ih acc (fun y hy => hl y (List.mem_cons_of_mem _ hy)) ha
        refine ⟨cl, ?_, h2, h3, fun y hy hyf => ?_⟩
        · rw [List.forIn_cons]
          simp only [hb, Bool.false_eq_true, if_false, pure_bind]
          exact h1
        · rcases List.mem_cons.mp hy with rfl | hy
          · exact absurd hyf hk
          · exact h4 y hy hyf
  obtain ⟨cl, h1, h2, _, h4⟩ := go sc.names [] hf (fun y c e => by simp at e)
  refine ⟨cl, ?_, h2, h4⟩
  show ((forIn sc.names [] fun (p : Str × NameKind) r => if (p.2 == .free) = true then do let a ← cellOf env p.1; pure (ForInStep.yield ((p.1, a) :: r)) else pure (ForInStep.yield r) : Sem (List (Str × Addr))) >>= fun s => pure s) = pure cl
  rw [bind_pure, h1]
theorem relabel_lookup {sc : Scope} {env : Env} {y : Str} {k : NameKind} (h : (relabel sc env).names.lookup y = some k) : sc.names.lookup y = some k ∨ (k = .cell ∧ sc.names.lookup y = some .free ∧ env.kindOf y = some .cell) := by
  have go : ∀ (l : List (Str × NameKind)), (l.map fun (n, k) => if (k == .free && env.scope.kind == .function && env.kindOf n == some .cell) then (n, NameKind.cell) else (n, k)).lookup y = some k →
      l.lookup y = some k ∨ (k = .cell ∧ l.lookup y = some .free ∧ env.kindOf y = some .cell) := by
    intro l
    induction l with
    | nil => intro h; simp at h
    | cons p r ih =>
      obtain ⟨n, kk⟩ := p
      intro h
      simp only [List.map_cons] at h
      by_cases hc : (kk == NameKind.free && env.scope.kind == .function && env.kindOf n == some .cell) = true
      · rw [if_pos hc] at h
        rw [List.lookup_cons] at h ⊢
        cases hy : y == n with
        | true =>
          rw [hy] at h
          have e : k = .cell := (Option.some.inj h).symm
          have e1 : kk = .free := by
            have := (Bool.and_eq_true_iff.mp (Bool.and_eq_true_iff.mp hc).1).1
            simpa using this
          have e2 : env.kindOf n = some .cell := by
            have := (Bool.and_eq_true_iff.mp hc).2
            simpa using this
          rw [eq_of_beq hy]
          exact .inr ⟨e, by rw [e1], e2⟩
        | false =>
          rw [hy] at h
          exact ih h
      · rw [if_neg hc] at h
        rw [List.lookup_cons] at h ⊢
        cases hy : y == n with
        | true => rw [hy] at h; exact .inl h
        | false => rw [hy] at h; exact ih h
  exact go sc.names h
section
variable {X : Cx} {elt iter : Expr} {x : Str} {px pos : Pos} {ifs : List Expr} {sc : Scope} {wi : TI} {tt : TT} {te : TE}
theorem pe_comp (hc : X.calm = true) (hN : X.N.Nodup) (hi : PI X (.Name x px) iter wi)
    (hb : ∀ (cl : List (Str × Addr)) (C : Addr) (fp : List Addr) (s : Shared) (H : Hp), PTs (cxComp X x sc cl C fp s H) ifs tt ∧ PE (cxComp X x sc cl C fp s H) elt te)
    (hx : sc.names.lookup x = some .local := by rfl) (hkind : sc.kind = .function := by rfl)
    (hnames : ∀ y ∈ sc.names, y.2 = .local → sc.names.lookup y.1 = some .local := by decide +kernel) (hcell : ∀ y ∈ sc.names, y.2 ≠ .cell := by decide +kernel)
    (hfree : (sc.names.all fun y => y.2 != .free || X.env.scope.names.lookup y.1 == some .cell) = true := by rfl)
    (hlo : (X.N.all fun y => sc.names.lookup y != some .local) = true := by rfl)
    (hs : ∀ x, foldedSetIterable iter X.env x = pure x := by intro _; rfl) :
    PE X (.ListComp elt [⟨.Name x px, iter, ifs, 0⟩] sc pos) (tComp wi tt te) := by
  intro pins s σ H Q I h
  have hfr : ∀ y ∈ sc.names, y.2 = .free → X.env.kindOf y.1 = some .cell := fun y hy e => by
    have q := List.all_eq_true.mp hfree y hy
    rw [e] at q
    simpa [Env.kindOf] using q
  have hlo' : ∀ y ∈ X.N, sc.names.lookup y ≠ some .local := fun y hy e => by
    have q := List.all_eq_true.mp hlo y hy
    rw [e] at q
    simp at q
  obtain ⟨cl, hclos, hsub, hhas⟩ := closure_of (env := X.env) (sc := sc) fun y hy e => I.ok.has y.1 (.inl (hfr y hy e))
  rw [eval_ListComp]
  refine wpAny_comprehension_free (use := none) rfl hs hclos hkind hnames (thn (hi pins s σ H _ I h) fun v s1 h1 => thn h1 fun itv s2 h2 => ?_)
  obtain ⟨it, fp, tn, J, H2, e, I2, T, st2, f2, hW⟩ := h2
  subst e
  have nobinds : ∀ y ∈ ([] : List (Str × Value)), sc.names.lookup y.1 = some .local := fun y hy => absurd hy (by simp)
  refine wpAny_newObj_type ?_
  refine wpAny_newFunctionEnv hcell nobinds (fun h₁ hns₁ hsb₁ => ?_) hkind
  dsimp only at hns₁ hsb₁ ⊢
  generalize hHa : s2.heap.push { cls := .type "list", dict := none, data := .seq ([] : List Value).toArray } = Ha at hns₁ hsb₁ ⊢
  have hC : Ha.objs.size = s2.heap.objs.size + 1 := by rw [← hHa, Heap.size_push]
  have hDC : s2.heap.objs.size ≠ Ha.objs.size := by rw [hC]; exact Nat.ne_of_lt (Nat.lt_succ_self _)
  have hCle : s2.heap.objs.size ≤ Ha.objs.size := by rw [hC]; exact Nat.le_succ _
  have neC : ∀ b o, s2.heap.get? b = some o → b ≠ Ha.objs.size := fun b o e => Nat.ne_of_lt (Nat.lt_of_lt_of_le (Heap.lt_size e) hCle)
  have old : ∀ b o, s2.heap.get? b = some o → h₁.get? b = some o := fun b o e => hsb₁.extBut b o (neC b o e) (Heap.get?_push_of_some _ (hHa ▸ Heap.get?_push_of_some _ e))
  have hacc : h₁.get? s2.heap.objs.size = some { cls := .type "list", dict := none, data := .seq ([] : List Value).toArray } := hsb₁.extBut _ _ hDC (Heap.get?_push_of_some _ (hHa ▸ Heap.get?_push_size _ rfl))
  generalize hDe : s2.heap.objs.size = D at *
  generalize hCe : Ha.objs.size = C at *
  have hHD : H2 D = none := I2.hok.fresh (Nat.le_of_eq hDe)
  have hHC : H2 C = none := I2.hok.fresh (by omega)
  obtain ⟨W, ⟨m0, w0⟩, turn⟩ := hW D hHD
  have fplt : ∀ b ∈ fp, b < D := fun b hb => by
    obtain ⟨o, e, _⟩ := T.obj _ _ st2 b hb
    rw [← hDe]
    exact Heap.lt_size e
  let X' : Cx := cxComp X x sc cl C fp s2 H2
  have nofs : ∀ b ∈ fp, b ∉ frs X.stack := fun b hb z => by
    rcases List.mem_cons.mp (I2.stkSub b z) with e | e
    · exact (f2 b hb).2.1 e
    · exact (f2 b hb).2.2.1 e
  have ok' : X'.Ok := by
    refine ⟨I2.ok.mod, hkind, I2.ok.glob, I2.ok.blt, ?_, fun y z c e1 e2 => I2.ok.inj y z c (hsub y c e1) (hsub z c e2), fun y hy => ?_, fun y c e => absurd (show false = true from e) Bool.false_ne_true, I2.ok.hd, I2.ok.frames, .inl rfl, fun b hb => ⟨?_, fun y c e => ?_⟩, I2.bs,
      Nat.le_trans I2.ok.bsz I2.sz, fun b o e hb => ?_, nofs, I2.stack, I2.stkFree⟩
    · show s2.heap.objs.size ≤ C
      omega
    · rcases hy with hy | hy
      · rcases relabel_lookup (show (relabel sc X.env).names.lookup y = some .cell from hy) with e | ⟨_, e, _⟩
        · exact absurd rfl (hcell _ (PySem.mem_of_lookup e))
        · exact hhas _ (PySem.mem_of_lookup e) rfl
      · rcases relabel_lookup (show (relabel sc X.env).names.lookup y = some .free from hy) with e | ⟨e, _⟩
        · exact hhas _ (PySem.mem_of_lookup e) rfl
        · cases e
    · exact Nat.ne_of_lt (Nat.lt_of_lt_of_le (fplt b hb) (by omega : D ≤ C))
    · exact (f2 b hb).2.2.2.2.1 y c (hsub y c e)
    · rcases (f2 b hb).2.2.2.1 with z | z
      · exact I2.ok.noex b o e z
      · exact absurd (Nat.lt_of_lt_of_le (Nat.lt_of_lt_of_le (Heap.lt_size e) I2.ok.bsz) z) (Nat.lt_irrefl _)
  have I4 : ∀ tk, Inv X' [] (none :: σ) (upd H2 D (.lst [])) { s2 with heap := h₁, toks := tk } := fun tk => by
    refine ⟨ok', rfl, I2.bare, Un.laid old (Nat.le_of_eq hDe) hHD, ⟨_, hns₁, fun i y v e1 e2 e3 => ?_⟩, fun y c e => ?_, ?_, fun y c e => ?_, fun p hp => ?_, I2.hok.laid old (Nat.le_of_eq hDe) ?_, ?_⟩
    · cases i with
      | zero => simp at e2
      | succ i =>
        have e1 : X.N[i]? = some y := by simpa [X', cxComp] using e1
        have e2 : σ[i]? = some (some v) := by simpa using e2
        have e3 : Vis (relabel sc X.env) y := e3
        have hyN : y ∈ X.N := List.mem_of_getElem? e1
        have free : sc.names.lookup y = some .free ∧ (relabel sc X.env).names.lookup y ≠ some .local := by
          rcases e3 with e | e | e
          · rcases relabel_lookup e with q | ⟨q, _⟩
            · exact absurd q (hlo' y hyN)
            · cases q
          · rcases relabel_lookup e with q | ⟨_, q, _⟩
            · exact absurd rfl (hcell _ (PySem.mem_of_lookup q))
            · exact ⟨q, by rw [e]; decide⟩
          · rcases relabel_lookup e with q | ⟨q, _⟩
            · exact ⟨q, by rw [e]; decide⟩
            · cases q
        have kc : X.env.kindOf y = some .cell := hfr _ (PySem.mem_of_lookup free.1) rfl
        obtain ⟨m, hn, hl⟩ := I2.loc
        obtain ⟨u, ru, lk⟩ := hl i y v e1 e2 (.inr (.inl kc))
        rcases lk with ⟨q, _⟩ | ⟨_, c, hcc, ⟨o, ho, hd⟩⟩
        · rw [kc] at q; cases q
        · obtain ⟨c', hc'⟩ := hhas _ (PySem.mem_of_lookup free.1) rfl
          have e4 := hsub _ _ hc'
          rw [hcc] at e4
          cases e4
          refine ⟨u, ru, .inr ⟨?_, c, hc', ⟨o, old c o ho, hd⟩⟩⟩
          rcases e3 with e | e | e
          · exact absurd e free.2
          · exact .inl e
          · exact .inr e
    · obtain ⟨v, o, ho, hd⟩ := I2.cell y c (hsub y c e)
      exact ⟨v, o, old c o ho, hd⟩
    · show upd H2 D (.lst []) C = none
      rw [upd_ne (neA (by omega))]
      exact hHC
    · obtain ⟨v, o, ho, hd⟩ := I2.cell y c (hsub y c e)
      have hlt := Heap.lt_size ho
      rw [hDe] at hlt
      show upd H2 D (.lst []) c = none
      rw [upd_ne (Nat.ne_of_lt hlt)]
      exact I2.freeC y c (hsub y c e)
    · exact absurd (show p ∈ ([] : List (Addr × Obj)) from hp) (by simp)
    · exact ⟨Nat.zero_le _, [], 0, .nil, hacc⟩
    · show (none :: σ).length = (x :: X.N).length
      rw [List.length_cons, List.length_cons, I2.len]
  have hN' : X'.N.Nodup := by
    show (x :: X.N).Nodup
    exact List.nodup_cons.mpr ⟨fun z => hlo' x z hx, hN⟩
  have hx' : X'.env.scope.names.lookup x = some .local := lookup_relabel_local hx
  obtain ⟨PT', PE'⟩ := hb cl C fp s2 H2
  have fpX : ∀ {pins' : List (Addr × Obj)} {H' : Hp}, (∀ b ∈ fp, H' b = none) → (∀ p ∈ pins', p.1 ∉ fp) → ∀ b ∈ fp, FpOk X' pins' H' b := fun hn hp b hb => by
    refine ⟨hn b hb, ?_, nofs b hb, .inl hb, fun y c e => (f2 b hb).2.2.2.2.1 y c (hsub y c e), fun p q z => ?_⟩
    · exact Nat.ne_of_lt (Nat.lt_of_lt_of_le (fplt b hb) (by omega : D ≤ C))
    · rcases List.mem_append.mp q with q | q
      · exact absurd (show p ∈ ([] : List (Addr × Obj)) from q) (by simp)
      · exact hp p q (by rw [z]; exact hb)
  have loop : ∀ tk, codeAny (model X.prog X.w) X.A (.compLoop (.ListComp elt [⟨.Name x px, iter, ifs, 0⟩] sc pos) 0 (.ref it) (.ref D) (compEnvC sc cl C X.env)) (compPost (model X.prog X.w) X.A X.xe none (EP X pins σ Q) (.ref D) C) { s2 with heap := h₁, toks := tk } := fun tk => by
    refine codeAny_compLoop_tests (fun n s' => ∃ i ys o H', Inv X' [] (o :: σ) H' s' ∧ tn i s'.heap ∧ (∀ b ∈ fp, H' b = none) ∧ W i n ys H') ?_ m0 ⟨0, [], none, _, I4 tk, T.keep _ _ _ st2 fun b hb o e => old b o e, fun b hb => ?_, w0⟩
    · rintro n s3 ⟨i, ys, o3, H3, I3, st3, fr3, w3⟩
      obtain ⟨hD3, alt⟩ := turn i n ys H3 w3
      rcases alt with ⟨stop, qn⟩ | ⟨go, hlen, step⟩
      · refine wpAny_mono (T.done X' rfl rfl rfl hc i [] s3 _ H3 (fun _ _ => False) I3 (fpX fr3 (by simp)) st3 stop) (fun r s4 ⟨hr, I4'⟩ => ?_) fun _ _ f => f.elim
        subst hr
        obtain ⟨mC, hnC, _⟩ := I4'.loc
        refine ⟨mC, hnC, fun h' hs' => ?_⟩
        have nC : ∀ b u, H3 b = some u → b ≠ C := fun b u e z => by rw [z] at e; rw [show H3 C = none from I4'.free] at e; cases e
        have hok' : HOk X.prog X.w H3 h' := fun b u e => (I4'.hok b u e).stay (fun c v hcc q => hs'.extBut c v (by
          rcases hcc with z | z
          · rw [z]; exact nC b u e
          · exact nC c _ z) q) (fun _ q => q) fun _ _ q => q
        have un : Un (frs X.stack) fp H2 H3 s2.heap h' :=
          ⟨fun b o e n1 n2 n3 => hs'.extBut b o (neC b o e) (I4'.base.keep b o e n1 n2 n3), fun b o e n1 n2 n3 => by
              obtain ⟨sl, q⟩ := I4'.base.slot b o e n1 n2 n3
              exact ⟨sl, hs'.extBut b _ (neC b o e) q⟩, I4'.base.free, fun b o e n1 => by
              obtain ⟨o', q⟩ := I4'.base.there b o e n1
              exact ⟨o', hs'.extBut b _ (neC b o e) q⟩, I4'.base.tups, I4'.base.frzs, I4'.base.tbls⟩
        exact ⟨.ref D, H3, I2.call' (s' := { s4 with heap := h' }) I4'.os un hok' I4'.bare fun b hb => ⟨(f2 b hb).2.2.2.1, (f2 b hb).2.1, (f2 b hb).2.2.2.2.1, (f2 b hb).2.2.2.2.2⟩, rfl, qn⟩
      · refine wpAny_mono (T.item X' rfl rfl rfl hc i [] s3 _ H3 (fun _ _ => False) I3 (fpX fr3 (by simp)) st3 go) (fun r s4 ⟨u, hr, h4⟩ => ?_) fun _ _ f => f.elim
        subst hr
        have eg : (letOwnedTupleGo (.Name x px) (.ref it) u >>= fun _ => assign (.Name x px) (compEnvC sc cl C X.env) u) = assign (.Name x px) (compEnvC sc cl C X.env) u := pure_bind () _
        show wpAny _ _ (assign (.Name x px) (compEnvC sc cl C X.env) u) _ _ s4
        rw [← eg]
        refine wpAny_bind (wpAny_mono h4 (fun _ s5 ⟨y, H5, I5, r5, y5, st5, fr5⟩ => ?_) fun _ _ f => f.elim)
        have I5' := I5.pinned (fpX fr5 (by simp)) (T.obj _ _ st5)
        refine wpAny_mono (pg_name (X := X') (i := 0) (pos := px) hN' rfl (.inl hx') (.inr hx') _ s5 _ H5 y u (fun σ' H' => σ' = some y :: σ ∧ H' = H5) I5' r5 ⟨rfl, rfl⟩) (fun _ s6 ⟨σ6, H6, I6, e1, e2⟩ => ?_) fun _ _ f => f.elim
        subst e1 e2
        refine wpAny_mono (PT' _ s6 _ _ _ I6 (step y _ y5)) (fun ok s7 ⟨H7, I7, q7⟩ => ?_) fun _ _ f => f.elim
        have again : ∀ {s8 : Shared} {H8 : Hp} {ys' : List V}, Inv X' ([] ++ pinsAt fp s5.heap) (some y :: σ) H8 s8 → (∃ m', m' < n ∧ W (i + 1) m' ys' H8) → ∃ m, m < n ∧ ∃ i ys o H', Inv X' [] (o :: σ) H' s8 ∧ tn i s8.heap ∧ (∀ b ∈ fp, H' b = none) ∧ W i m ys H' := fun {s8 H8 ys'} I8 ⟨m', hm, w8⟩ => by
          refine ⟨m', hm, i + 1, ys', some y, H8, I8.unpinned, T.keep _ _ _ st5 fun b hb o e => (I8.pin (b, o) (List.mem_append_right _ (List.mem_append_right _ (mem_pinsAt hb e)))).1, fun b hb => ?_, w8⟩
          obtain ⟨o, e, d⟩ := T.obj _ _ st5 b hb
          exact (I8.pin (b, o) (List.mem_append_right _ (List.mem_append_right _ (mem_pinsAt hb e)))).2.1
        cases ok with
        | false => exact again I7 q7
        | true =>
          have q7 : te (some y :: σ) H7 _ := q7
          refine wpAny_mono (PE' _ s7 _ _ _ I7 q7) (fun z s8 ⟨yv, H8, I8, r8, hD8, q8⟩ => ?_) fun _ _ f => f.elim
          refine wpAny_mono (mt_append (X := X') _ s8 _ H8 (.ref D) [yv] (.ref D) [z] (fun _ H9 => H9 = upd H8 D (.lst (ys ++ [yv]))) I8 rfl (.cons r8 .nil) ⟨D, ys, yv, rfl, rfl, hD8, hlen, rfl⟩) (fun _ s9 ⟨_, H9, I9, _, e9⟩ => ?_) fun _ _ f => f.elim
          subst e9
          exact again I9 q8
    · show upd H2 D (.lst []) b = none
      rw [upd_ne (Nat.ne_of_lt (fplt b hb))]
      exact (f2 b hb).1
  exact codeAny_compStart_list (loop _) (T.self _ _ _ _ _ (T.keep _ _ _ st2 fun b hb o e => old b o e) (loop _))
end
theorem SqL.new {K : PySem.W.Frag} {H : Hp} {a D : Addr} {xs : List V} {o : HO} (h : SqL K H a xs) (n : H D = none) : SqL K (upd H D o) a xs := by
  rcases h with (h | ⟨u, h⟩) | h
  · exact .inl (.inl (by rw [upd_ne (ne_of_none h n)]; exact h))
  · exact .inl (.inr ⟨u, by rw [upd_ne (ne_of_none h n)]; exact h⟩)
  · exact .inr h
theorem comp_list {K : PySem.W.Frag} {a : Addr} {xs : List V} {te : TE} {σ : St} {H : Hp} {Q : VK} (f : V → V) (hl : SqL K H a xs) (hz : xs.length ≤ sizeLine)
    (he : ∀ (i : Nat) (x : V) (H' : Hp) (R : VK), xs[i]? = some x → Same H H' → R (f x) H' → te (some x :: σ) H' R) (hq : ∀ D, H D = none → Q (.ref D) (upd H D (.lst (xs.map f)))) :
    ∀ D, H D = none → ∃ W : Nat → Nat → List V → Hp → Prop,
  (∃ m, W 0 m [] (upd H D (.lst []))) ∧ ∀ i m ys H2, W i m ys H2 → H2 D = some (.lst ys) ∧ (((Itl K a).stop i H2 ∧ Q (.ref D) H2) ∨ ((Itl K a).go i H2 ∧ ys.length < sizeLine ∧ ∀ x H3, (Itl K a).yld i H2 x H3 →
    tAlways (some x :: σ) H3 fun b H4 => if b = true then te (some x :: σ) H4 fun y H5 => H5 D = some (.lst ys) ∧ ∃ m', m' < m ∧ W (i + 1) m' (ys ++ [y]) (upd H5 D (.lst (ys ++ [y])))
      else ∃ m', m' < m ∧ W (i + 1) m' ys H4)) := by
  intro D hD
  refine ⟨fun i m ys H2 => m = xs.length - i ∧ i ≤ xs.length ∧ ys = (xs.take i).map f ∧ H2 = upd H D (.lst ys), ⟨xs.length, by simp, Nat.zero_le _, by simp, rfl⟩, ?_⟩
  rintro i m ys H2 ⟨rfl, hi, rfl, rfl⟩
  have q : SqL K (upd H D (.lst ((xs.take i).map f))) a xs := hl.new hD
  refine ⟨upd_same, ?_⟩
  by_cases hlt : i < xs.length
  · refine .inr ⟨⟨xs, xs[i], q, by simp [hlt]⟩, by rw [List.length_map, List.length_take]; omega, fun x H3 y => ?_⟩
    obtain ⟨e, y⟩ := y
    subst e
    have hx := y xs q
    refine tAlways_if (he i x _ _ hx (fun b o e => by rw [upd_ne (ne_of_none e hD)]; exact e) ⟨upd_same, xs.length - (i + 1), by omega, rfl, hlt, ?_, ?_⟩)
    · rw [List.take_add_one, hx, List.map_append]
      rfl
    · rw [upd_upd]
  · have e : i = xs.length := by omega
    subst e
    refine .inl ⟨⟨xs, q, Nat.le_refl _⟩, ?_⟩
    rw [List.take_length]
    exact hq D hD
theorem comp_listT {K : PySem.W.Frag} {j : Nat} {a : Addr} {xs : List V} {te : TE} {σ : St} {H : Hp} {Q : VK} (f : V → V) (hv : σ[j]? = some (some (.ref a))) (hl : SqL K H a xs) (hz : xs.length ≤ sizeLine)
    (he : ∀ (i : Nat) (x : V) (H' : Hp) (R : VK), xs[i]? = some x → Same H H' → R (f x) H' → te (some x :: σ) H' R) (hq : ∀ D, H D = none → Q (.ref D) (upd H D (.lst (xs.map f)))) : tComp (iList K (tVar j)) tAlways te σ H Q :=
  ⟨_, hv, a, rfl, ⟨_, hl⟩, comp_list f hl hz he hq⟩
end L2
namespace L2
open PySem PySem.Spec PyProof.Rows
def Df (P : Program) (w : World) (K : PySem.W.Frag) (mg : Str → Option Value) (base : Heap) (x : Str) (k : Nat) (ps : List Str) (sp : Sp) : Prop :=
  ∃ (f : Addr) (fd : FuncData), mg x = some (.ref f) ∧ PySem.W.keepIn K (.ref f) = true ∧ Binds K fd ps [] ∧ FnOk P w K mg base CX0 k f fd ps sp
theorem pe_df {X : Cx} {x : Str} {k : Nat} {ps : List Str} {sp : Sp} {e : Expr} {es : List Expr} {p pos : Pos} {t : TA} (D : Df X.prog X.w X.K X.mg X.base x k ps sp) (hr : Room k X.A) (ha : PA X (e :: es) t)
    (hg : Gl X x := by rfl) (hdb : (x == ("__debug__" : Str)) = false := by decide) (he : starEach (e :: es) X.env = (false, eval e X.env) :: starEach es X.env := by rfl) (hpl : (backTo pos (starEach es X.env)).any (·.1) = false := by rfl) :
    PE X (.Call (.Name x p) (e :: es) [] pos) (tCall sp [] E0 t) := by
  obtain ⟨f, fd, h1, h2, h3, F⟩ := D
  exact pe_call F hr hg h1 h2 h3 .nil pass0 ha hdb he hpl
theorem iteD {c A B : Prop} [Decidable c] (hc : c) (h : A) : if decide c = true then A else B := by
  rw [decide_eq_true hc]
  exact iteT h
theorem iteN {c A B : Prop} [Decidable c] (hc : ¬ c) (h : B) : if decide c = true then A else B := by
  rw [decide_eq_false hc]
  exact iteF h
theorem ite3 {c A B : Prop} [Decidable c] (h1 : c → A) (h2 : ¬ c → B) : if decide c = true then A else B := by
  by_cases h : c
  · exact iteD h (h1 h)
  · exact iteN h (h2 h)
theorem Same.upd {H : Hp} {D : Addr} {o : HO} (n : H D = none) : Same H (upd H D o) := fun b u e => by rw [upd_ne (ne_of_none e n)]; exact e
theorem line_ge {n : Nat} (h : n ≤ 16777216) : n ≤ sizeLine := by rw [sizeLine_eq]; exact h
theorem atI_in {α : Type} {xs : List α} {i : Int} (h0 : 0 ≤ i) (h1 : i < xs.length) : ∃ v, atI xs i = some v ∧ xs[i.toNat]? = some v := by
  obtain ⟨j, rfl⟩ := Int.eq_ofNat_of_zero_le h0
  have hj : j < xs.length := by omega
  exact ⟨xs[j], atI_nat (by simp [hj]), by simp [hj]⟩
end L2
namespace L2
open PySem PySem.Spec PyProof.Rows
def tCut (t u : TS) : TS := fun D σ H => ∃ M : St → Hp → Prop, t { D with nx := M } σ H ∧ ∀ σ' H', M σ' H' → u D σ' H'
theorem pss_cut {X : Cx} {st : Stmt} {rest : List Stmt} {t u : TS} (h1 : PS X st t) (h2 : PSs X rest u) : PSs X (st :: rest) (tCut t u) := by
  intro pins s σ H D I h
  obtain ⟨M, h, hM⟩ := h
  refine wpAny_execs_cons (thn (h1 pins s σ H { D with nx := M } I h) fun f s1 q => ?_)
  cases f with
  | next =>
    obtain ⟨σ', H', I', q⟩ := q
    exact h2 pins s1 σ' H' D I' (hM σ' H' q)
  | ret v => exact q
  | brk => exact q
  | cont => exact q
def cutI (ns : List Int) (lo hi : Option Int) : List Int := (ns.drop (HT.sIx ns.length 0 lo)).take (HT.sIx ns.length ns.length hi - HT.sIx ns.length 0 lo)
theorem cutV_ints (ns : List Int) (lo hi : Option Int) : cutV (ns.map V.int) lo hi = (cutI ns lo hi).map V.int := by
  unfold cutV cutI
  rw [List.length_map, List.map_take, List.map_drop]
theorem cutI_length (ns : List Int) (lo hi : Option Int) : (cutI ns lo hi).length ≤ ns.length := by
  unfold cutI
  rw [List.length_take, List.length_drop]
  omega
def spLaw (K : PySem.W.Frag) : Sp := fun vs H Q _ => ∃ (a : Addr) (ns : List Int), vs = [.ref a] ∧ SqL K H a (ns.map V.int) ∧ ns.length ≤ 63 ∧ ∀ H', Q (.bl true) H'
theorem walk63 {l : PySem.W.OpenLaw} {k : Nat} {x : Str} {q : Program} {loose : List Str} {XP : (Str → Option Value) → Heap → Prop} {YP : World → Heap → Prop} {d : DefRec} {K : Params → PySem.W.Frag} (hn : l.most = some 63) (hdf : d.params.defaults = []) (hr : Room k callerA)
    (hY : ∀ (w : World) (h : Heap), YP w h → (K w.params).In h)
    (F : ∀ (w : World) (mg : Str → Option Value) (fa : Addr) (h : Heap), (K w.params).In h → h.Ns mainGlobals mg → mg d.name = some (.ref fa) →
      ∃ fd : FuncData, (∀ (s : Shared) (u : Value), BindsTo s fd ⟨[u], []⟩ [(x, u)]) ∧ ∀ base : Heap, (K w.params).In base → base.Ns mainGlobals mg → FnOk l.prog w (K w.params) mg base CX0 k fa fd [x] (spLaw (K w.params))) :
    PySem.W.WalkO q loose XP YP l.row.toRowW d [] (fun f vs => PySem.call f vs) :=
  L2.walk_of (n := 63) (k := k) (x := x) (CX := fun _ => CX0) (sp := fun w => spLaw (K w.params)) hn (by decide) hdf hr hY F (fun _ _ a ns hl _ hS => ⟨a, ns, rfl, hS, hl, fun _ => rfl⟩) fun _ _ _ _ _ z => z
end L2
namespace L2
open PySem PySem.Spec PyProof.Rows
section
variable {X : Cx}
theorem op_m : OpR X (binaryOp .Mod) (fun x y H Q => ∃ i j, x = .int i ∧ y = .int j ∧ 0 < j ∧ Q (.int (i % j)) H) := op_mod
theorem op_a : OpR X (binaryOp .Add) (fun x y H Q => ∃ i j, x = .int i ∧ y = .int j ∧ Q (.int (i + j)) H) := op_add
theorem op_s : OpR X (binaryOp .Sub) (fun x y H Q => ∃ i j, x = .int i ∧ y = .int j ∧ Q (.int (i - j)) H) := op_sub
theorem op_p : OpR X (binaryOp .Mult) (fun x y H Q => ∃ i j, x = .int i ∧ y = .int j ∧ ((-(2 ^ 64) < i ∧ i < 2 ^ 64) ∨ (-(2 ^ 64) < j ∧ j < 2 ^ 64)) ∧ Q (.int (i * j)) H) := op_mul
end
end L2
namespace RA
open PySem PySem.StrLaws Builtin Builtin.Str
def tx (l : List Nat) : Str := ⟨l.toArray⟩
theorem tx_cps (l : List Nat) : (tx l).cps.toList = l := by simp [tx]
theorem tx_len (l : List Nat) : (tx l).length = l.length := by simp [tx, Str.length]
theorem tx_app (a b : List Nat) : tx a ++ tx b = tx (a ++ b) := by
  apply Str.ext'
  show a.toArray ++ b.toArray = (a ++ b).toArray
  simp
theorem tx_get (l : List Nat) (i : Nat) : (tx l).cps[i]? = l[i]? := by simp [tx]
theorem at_one (l : List Nat) (c i : Nat) : At (tx l) ⟨#[c]⟩ (tx l).length i ↔ l[i]? = some c := by
  have h := subAt_one (tx l) c i
  rw [tx_cps] at h
  exact h
theorem contains_one (l : List Nat) (c : Nat) : Txt.contains (tx l) ⟨#[c]⟩ = decide (c ∈ l) := by
  have h := found_one (tx l) c
  rw [tx_cps] at h
  exact h
theorem idxOf_le : ∀ {l : List Nat} {c i : Nat}, l[i]? = some c → l.idxOf c ≤ i
  | [], _, _, h => by simp at h
  | a :: l, c, 0, h => by
    have e : a = c := by simpa using h
    subst e
    simp
  | a :: l, c, i + 1, h => by
    rw [List.idxOf_cons]
    cases e : a == c with
    | true => simp
    | false =>
      have := idxOf_le (l := l) (c := c) (i := i) (by simpa using h)
      simp
      omega
theorem find_one {l : List Nat} {c : Nat} (h : c ∈ l) : Txt.find (tx l) ⟨#[c]⟩ = (l.idxOf c : Nat) := by
  unfold Txt.find
  rcases occ_head (tx l) ⟨#[c]⟩ 1 (Nat.le_refl _) with ⟨_, hn⟩ | ⟨i, r, e, ha, hn⟩
  · obtain ⟨i, hi⟩ := List.mem_iff_getElem?.mp h
    exact absurd ((at_one l c i).mpr hi) (hn i)
  · rw [e]
    have hi := (at_one l c i).mp ha
    have hlt : l.idxOf c < l.length := List.idxOf_lt_length_of_mem h
    have e1 : l[l.idxOf c]? = some c := by
      rw [List.getElem?_eq_getElem hlt, List.getElem_idxOf hlt]
    have h1 : ¬ l.idxOf c < i := fun z => hn _ z ((at_one l c _).mpr e1)
    have h2 : l.idxOf c ≤ i := by
      exact idxOf_le hi
    have : i = l.idxOf c := by omega
    rw [this]
theorem slice_to (x : Str) {j : Int} (h : 0 ≤ j) : Txt.slice x none (some j) = tx (x.cps.toList.take j.toNat) := by
  have go : ∀ j : Int, 0 ≤ j → j ≤ x.cps.toList.length → Txt.slice x none (some j) = tx (x.cps.toList.take j.toNat) := fun j h0 h1 => by
    have e : Txt.slice x none (some j) = sliceText x none (some j) := rfl
    rw [e, sliceText_to ⟨h0, h1⟩]
    simp [tx]
  by_cases hj : j ≤ x.cps.toList.length
  · exact go j h hj
  · have e : Txt.slice x none (some j) = Txt.slice x none (some (x.length : Int)) := by
      have hl : x.length = x.cps.toList.length := by simp [Str.length]
      have e1 : strSliceIndices none (some j) 1 x.length = strSliceIndices none (some (x.length : Int)) 1 x.length := by
        have a : ¬ (j < 0) := by omega
        have b : ¬ ((x.length : Int) < 0) := by omega
        have m : min j (x.length : Int) = (x.length : Int) := by omega
        simp [strSliceIndices, a, b, m]
      unfold Txt.slice
      rw [e1]
    rw [e, go _ (by omega) (by simp [Str.length])]
    have hl : x.length = x.cps.toList.length := by simp [Str.length]
    rw [List.take_of_length_le (i := j.toNat) (by omega), List.take_of_length_le (by omega)]
theorem slice_from (x : Str) {i : Int} (h : 0 ≤ i) (h1 : i ≤ x.cps.toList.length) : Txt.slice x (some i) none = tx (x.cps.toList.drop i.toNat) := by
  have e : Txt.slice x (some i) none = sliceText x (some i) none := rfl
  rw [e, sliceText_from ⟨h, h1⟩]
  have e2 : ((x.cps.toList.length : Int) - i).toNat = (x.cps.toList.drop i.toNat).length := by rw [List.length_drop]; omega
  rw [e2, List.take_length]
  rfl
theorem join_signs : ∀ cs : List Nat, Txt.join Str.empty (cs.map fun c => (⟨#[c]⟩ : Str)) = tx cs := by
  intro cs
  unfold Txt.join
  rw [glued_eq_join]
  have go : ∀ (cs : List Nat), Str.join Str.empty (cs.map fun c => (⟨#[c]⟩ : Str)) = tx cs := by
    intro cs
    induction cs with
    | nil => rfl
    | cons a r ih =>
      cases r with
      | nil => rfl
      | cons b r =>
        show (⟨#[a]⟩ : Str) ++ Str.empty ++ Str.join Str.empty ((b :: r).map fun c => (⟨#[c]⟩ : Str)) = tx (a :: b :: r)
        rw [ih, Str.append_empty]
        exact tx_app [a] (b :: r)
  exact go cs
end RA
namespace RA
open PySem PySem.StrLaws Builtin Builtin.Str
structure Let (L : List Nat) : Prop where
  lo : 1 ≤ L.length
  hi : L.length ≤ 3
  nd : L.Nodup
  az : ∀ c ∈ L, 97 ≤ c ∧ c ≤ 122
def val (L : List Nat) : Int → List Nat → Int
  | v, [] => v
  | v, c :: w => val L (v * (L.length : Int) + (L.idxOf c : Nat) + 1) w
theorem val_app (L : List Nat) : ∀ (a b : List Nat) (v : Int), val L v (a ++ b) = val L (val L v a) b
  | [], _, _ => rfl
  | _ :: a, b, _ => val_app L a b _
theorem val_snoc (L w : List Nat) (c : Nat) (v : Int) : val L v (w ++ [c]) = val L v w * (L.length : Int) + (L.idxOf c : Nat) + 1 := by
  rw [val_app]
  rfl
theorem Let.three {L : List Nat} (h : Let L) : (L.length : Int) = 1 ∨ (L.length : Int) = 2 ∨ (L.length : Int) = 3 := by
  have := h.lo
  have := h.hi
  omega
theorem idx_get {L : List Nat} (nd : L.Nodup) {i : Nat} (h : i < L.length) : L.idxOf L[i] = i := by
  have h1 := idxOf_le (l := L) (c := L[i]) (i := i) (by simp [h])
  have hlt : L.idxOf L[i] < L.length := by omega
  have e := List.getElem_idxOf hlt
  by_cases hh : L.idxOf L[i] < i
  · exact absurd e (List.pairwise_iff_getElem.mp nd _ _ hlt h hh)
  · omega
theorem draw_one {f l : List Nat} {i : Nat} (hi : i < l.length) (nd : (f ++ l).Nodup) : ((f ++ [l[i]]) ++ (l.take i ++ l.drop (i + 1))).Nodup ∧ ∀ c, c ∈ (f ++ [l[i]]) ++ (l.take i ++ l.drop (i + 1)) → c ∈ f ++ l := by
  have e : l = l.take i ++ l[i] :: l.drop (i + 1) := by
    conv => lhs; rw [← List.take_append_drop i l, List.drop_eq_getElem_cons hi]
  have p : (f ++ l).Perm ((f ++ [l[i]]) ++ (l.take i ++ l.drop (i + 1))) := by
    conv => lhs; rw [e]
    rw [List.append_assoc]
    refine List.Perm.append_left f ?_
    show (l.take i ++ l[i] :: l.drop (i + 1)).Perm (l[i] :: (l.take i ++ l.drop (i + 1)))
    exact List.perm_middle
  exact ⟨p.nodup_iff.mp nd, fun c hc => p.mem_iff.mpr hc⟩
end RA
namespace RA
open PySem L2
theorem abc_eq : (Str.ofString "abcdefghijklmnopqrstuvwxyz") = tx (List.range' 97 26) := by decide +kernel
theorem empty_eq : (Str.ofString "") = tx [] := by decide +kernel
theorem empty_eq' : (Str.ofString "") = Str.empty := by decide +kernel
def signAt (L : List Nat) (z : Int) : Nat := L.getD (z % (L.length : Int)).toNat 0
def signV (L : List Nat) : V → V
  | .int z => .str ⟨#[signAt L z]⟩
  | v => v
theorem signAt_eq (L : List Nat) (z : Int) : signAt L z = (L[(z % (L.length : Int)).toNat]?).getD 0 := by
  unfold signAt
  rw [List.getD_eq_getElem?_getD]
theorem signs_in {L : List Nat} (h : Let L) {ns : List Int} {c : Nat} (hc : c ∈ ns.map (signAt L)) : c ∈ L := by
  obtain ⟨z, _, rfl⟩ := List.mem_map.mp hc
  have hp : (0 : Int) < (L.length : Int) := by have := h.lo; omega
  have h0 := Int.emod_nonneg z (show (L.length : Int) ≠ 0 by omega)
  have h1 := Int.emod_lt_of_pos z hp
  have hlt : (z % (L.length : Int)).toNat < L.length := by omega
  rw [signAt_eq, List.getElem?_eq_getElem hlt]
  exact List.getElem_mem hlt
end RA
namespace RA
open PySem L2 Builtin Builtin.Str
theorem sum_ones : ∀ cs : List Nat, ((cs.map fun c => (⟨#[c]⟩ : Str)).map (·.length)).sum = cs.length
  | [] => rfl
  | _ :: cs => by
    rw [List.map_cons, List.map_cons, List.sum_cons, sum_ones cs, List.length_cons]
    show 1 + _ = _
    omega
theorem join_size (cs : List Nat) (h : cs.length ≤ 16777216) : ((cs.map fun c => (⟨#[c]⟩ : Str)).map (·.length)).sum + (cs.map fun c => (⟨#[c]⟩ : Str)).length * (Str.ofString "").length ≤ 16777216 := by
  rw [sum_ones, show (Str.ofString "").length = 0 by rw [empty_eq']; rfl]
  omega
end RA
namespace L2
open PySem PySem.Spec PyProof.Rows
section
variable {X : Cx}
theorem op_modG : OpR X (binaryOp .Mod) (fun x y H Q => ∃ i j, x = .int i ∧ y = .int j ∧ 0 < j ∧ ∀ r, 0 ≤ r → r < j → Q (.int r) H) := by
  intro pins s σ H x y v u Q I rx ry h
  obtain ⟨i, j, e1, e2, hj, q⟩ := h
  exact op_mod pins s σ H x y v u Q I rx ry ⟨i, j, e1, e2, hj, q _ (Int.emod_nonneg _ (by omega)) (Int.emod_lt_of_pos _ hj)⟩
theorem op_fdivG : OpR X (binaryOp .FloorDiv) (fun x y H Q => ∃ i j, x = .int i ∧ y = .int j ∧ CDiv i j ∧ 0 ≤ i ∧ ∀ r, 0 ≤ r → Q (.int r) H) := by
  intro pins s σ H x y v u Q I rx ry h
  obtain ⟨i, j, e1, e2, hj, hi, q⟩ := h
  exact op_fdiv pins s σ H x y v u Q I rx ry ⟨i, j, e1, e2, hj, q _ (Int.ediv_nonneg hi (by have := hj.1; omega))⟩
end
theorem upd_keep {H : Hp} {a b : Addr} {o u : HO} (h : H a = some o) (n : H b = none) : upd H b u a = some o := by
  rw [upd_ne (ne_of_none h n)]
  exact h
theorem upd_keep2 {H : Hp} {a b : Addr} {o u v : HO} (h : H a = some o) (n : H b = some v) (d : o ≠ v) : upd H b u a = some o := by
  rw [upd_ne (ne_of h n d)]
  exact h
theorem kit_ib (K : PySem.W.Frag) : PySem.W.kitOne K (.type "int") (.type "bool") = some false := by kernel_rfl
theorem kit_ii (K : PySem.W.Frag) : PySem.W.kitOne K (.type "int") (.type "int") = some true := by with_unfolding_all rfl
theorem kit_bb (K : PySem.W.Frag) : PySem.W.kitOne K (.type "bool") (.type "bool") = some true := by with_unfolding_all rfl
theorem kit_ss (K : PySem.W.Frag) : PySem.W.kitOne K (.type "str") (.type "str") = some true := by with_unfolding_all rfl
end L2
namespace RA
open PySem L2
structure Mach (L : List Nat) (W : List (List Nat)) (B : List Bool) : Prop where
  lt : Let L
  n1 : 1 ≤ W.length
  n60 : W.length ≤ 60
  bl : B.length = W.length
  row : ∀ ws ∈ W, ws.length = L.length ∧ ∀ x ∈ ws, x < W.length
def nxt (L : List Nat) (W : List (List Nat)) (r c : Nat) : Nat := (W.getD r []).getD (L.idxOf c) 0
def run (L : List Nat) (W : List (List Nat)) (r : Nat) (w : List Nat) : Nat := w.foldl (nxt L W) r
theorem Mach.at {L : List Nat} {W : List (List Nat)} {B : List Bool} (h : Mach L W B) {r c : Nat} (hr : r < W.length) (hc : c ∈ L) :
    ∃ ws x, W[r]? = some ws ∧ ws[L.idxOf c]? = some x ∧ nxt L W r c = x ∧ x < W.length := by
  have hw : W[r]? = some W[r] := by simp [hr]
  obtain ⟨h1, h2⟩ := h.row W[r] (List.getElem_mem hr)
  have hi : L.idxOf c < W[r].length := by rw [h1]; exact List.idxOf_lt_length_of_mem hc
  have hx : W[r][L.idxOf c]? = some W[r][L.idxOf c] := by simp [hi]
  refine ⟨W[r], W[r][L.idxOf c], hw, hx, ?_, h2 _ (List.getElem_mem hi)⟩
  unfold nxt
  have e1 : W.getD r [] = W[r] := by
    rw [List.getD_eq_getElem?_getD, hw]
    rfl
  rw [e1, List.getD_eq_getElem?_getD, hx]
  rfl
theorem run_snoc (L : List Nat) (W : List (List Nat)) (r : Nat) (w : List Nat) (c : Nat) : run L W r (w ++ [c]) = nxt L W (run L W r w) c := by
  unfold run
  rw [List.foldl_append]
  rfl
theorem run_lt {L : List Nat} {W : List (List Nat)} {B : List Bool} (h : Mach L W B) : ∀ {w : List Nat} {r : Nat}, r < W.length → (∀ c ∈ w, c ∈ L) → run L W r w < W.length
  | [], _, hr, _ => hr
  | c :: w, r, hr, hw => by
    obtain ⟨ws, x, _, _, e, hx⟩ := h.at hr (hw c (by simp))
    exact run_lt h (w := w) (r := nxt L W r c) (by rw [e]; exact hx) fun d hd => hw d (by simp [hd])
def intsV (ws : List Nat) : List V := ws.map fun (n : Nat) => V.int (n : Int)
def RowsAt (H : Hp) (rows : List Addr) (W : List (List Nat)) : Prop := ∀ (i : Nat) (r : Addr), rows[i]? = some r → ∃ ws, W[i]? = some ws ∧ H r = some (.tup (intsV ws))
def MachAt (H : Hp) (m : Addr) (L : List Nat) (W : List (List Nat)) (B : List Bool) : Prop :=
  ∃ (wy mk : Addr) (rows : List Addr), H m = some (.tup [.str (tx L), .ref wy, .ref mk]) ∧ H wy = some (.tup (rows.map V.ref)) ∧ H mk = some (.tup (B.map V.bl)) ∧ rows.length = W.length ∧ RowsAt H rows W
theorem RowsAt.same {H H' : Hp} {rows : List Addr} {W : List (List Nat)} (h : RowsAt H rows W) (s : Same H H') : RowsAt H' rows W := fun i r e => by
  obtain ⟨ws, h1, h2⟩ := h i r e
  exact ⟨ws, h1, s _ _ h2⟩
theorem MachAt.same {H H' : Hp} {m : Addr} {L : List Nat} {W : List (List Nat)} {B : List Bool} (h : MachAt H m L W B) (s : Same H H') : MachAt H' m L W B := by
  obtain ⟨wy, mk, rows, h1, h2, h3, h4, h5⟩ := h
  exact ⟨wy, mk, rows, s _ _ h1, s _ _ h2, s _ _ h3, h4, h5.same s⟩
theorem atI_map {α β : Type} {xs : List α} (f : α → β) {i : Nat} {x : α} (h : xs[i]? = some x) : atI (xs.map f) ((i : Nat) : Int) = some (f x) := atI_nat (by rw [List.getElem?_map, h]; rfl)
end RA
namespace RA
end RA
namespace L2
open PySem
namespace RV
section
variable {prog : Program} {w : World} {A : Around} {E : Value → Shared → Prop} {s : Shared}
end
end RV
end L2
namespace L2
open PySem PySem.Spec PyProof.Rows
section
variable {X : Cx}
def tJoinRev (K : PySem.W.Frag) (to : TE) (t : TA) : TE := fun σ H Q => to σ H fun x H1 => ∃ z, x = .str z ∧ t σ H1 fun vs H2 => ∃ (p : Addr) (ys : List Str), vs = [.ref p] ∧ SqL K H2 p (ys.map V.str) ∧ (ys.map (·.length)).sum + ys.length * z.length ≤ 16777216 ∧ Q (.str (Txt.join z ys.reverse)) H2
end
end L2
namespace L2
open PySem
namespace ZP
def Keep (S : List Addr) (h h' : Heap) : Prop := h'.objs.size = h.objs.size ∧ ∀ c o, c ∉ S → h.get? c = some o → h'.get? c = some o
theorem Keep.one {a : Addr} {S : List Addr} {h h' : Heap} (x : Heap.SameBut a h h') (m : a ∈ S) : Keep S h h' := ⟨x.1, fun c o hc e => (x.2 c fun q => hc (q ▸ m)).trans e⟩
theorem Keep.trans {S : List Addr} {h h1 h2 : Heap} (x : Keep S h h1) (y : Keep S h1 h2) : Keep S h h2 := ⟨y.1.trans x.1, fun c o hc e => y.2 c o hc (x.2 c o hc e)⟩
section
variable {prog : Program} {w : World} {A : Around} {E : Value → Shared → Prop} {s : Shared} {z TI TO i1 i2 : Addr} {f1 f2 : List Addr} {n1 n2 k : Nat} {P1 P2 : Nat → Value → Prop} {S1 S2 : Nat → Heap → Prop} {a b : Value}
theorem toldL {Q : Value → Shared → Prop} (D1 : Draws prog w A i1 f1 n1 P1 S1) (D2 : Draws prog w A i2 f2 n2 P2 S2) (m1 : ∀ c ∈ f1, c = i1 ∨ c ∉ [z, TO, i1, i2]) (m2 : ∀ c ∈ f2, c = i2 ∨ c ∉ [z, TO, i1, i2]) (ap : ZipApart z TI TO i1 i2 TI TI) (hz : IsZip s.heap z TI TO .none) (hTI : IsPair s.heap TI (.ref i1) (.ref i2)) (hTO : IsPair s.heap TO a b)
    (h1 : S1 k s.heap) (h2 : S2 k s.heap) (l1 : k < n1) (l2 : k < n2)
    (hQ : ∀ x y h' tk, P1 k x → P2 k y → IsZip h' z TI TO (rawInt s.heap.objs.size) → IsPair h' TI (.ref i1) (.ref i2) → IsPair h' TO x y → S1 (k + 1) h' → S2 (k + 1) h' → IsPair h' s.heap.objs.size x y →
      (∀ c o, c ∉ [z, TO, i1, i2] → s.heap.get? c = some o → h'.get? c = some o) → Q (.ref s.heap.objs.size) { s with heap := h', toks := tk }) :
    wpAny (model prog w) A (Builtin.«zip.__next__» ⟨[.ref z], []⟩) (fun fin s' => ∃ v, fin = .done (.ret v) ∧ Q v s') E s := by
  unfold Builtin.«zip.__next__»
  refine wpAny_bind (wpAny_of_eq (a := (Value.ref z, [])) rfl (wpAny_bind (wpAny_field hz rfl (x := .bool false) rfl (wpAny_bind (wpAny_field hz rfl (x := .ref TI) rfl (wpAny_bind (wpAny_seqItems hTI rfl ?_)))))))
  refine wpAny_ite_false (by simp) (wpAny_bind ?_)
  unfold Builtin.SmallTypes.ownedTupleIsFree
  refine wpAny_bind (wpAny_field hz rfl (x := .none) rfl (wpAny_pure (wpAny_ite_true (by decide) (wpAny_bind (wpAny_rule (wpAny_bind (wpAny_field hz rfl (x := .ref TO) rfl (wpAny_bind (wpAny_setField_rec hz (by simp) fun g1 z1 c1 => ?_)))))))))
  have k1 : Keep [z, TO, i1, i2] s.heap g1 := .one c1 (by simp)
  have S1f : ∀ {j : Nat} {g g' : Heap}, (∀ c o, c ∉ [z, TO, i1, i2] → g.get? c = some o → g'.get? c = some o) → S1 j g → (∀ o, g.get? i1 = some o → g'.get? i1 = some o) → S1 j g' := fun k st e => D1.frame _ _ _ st fun c hc => by
    rcases m1 c hc with rfl | hn
    · exact e
    · exact fun o q => k c o hn q
  have S2f : ∀ {j : Nat} {g g' : Heap}, (∀ c o, c ∉ [z, TO, i1, i2] → g.get? c = some o → g'.get? c = some o) → S2 j g → (∀ o, g.get? i2 = some o → g'.get? i2 = some o) → S2 j g' := fun k st e => D2.frame _ _ _ st fun c hc => by
    rcases m2 c hc with rfl | hn
    · exact e
    · exact fun o q => k c o hn q
  simp only [List.zipIdx_cons, List.zipIdx_nil, List.forIn_cons, List.forIn_nil]
  refine wpAny_bind (wpAny_bind (wpAny_bind (wpAny_onRaise (wpAny_bind (m := Builtin.SmallTypes.nextOf (.ref i1)) (D1.item k _ _ _ l1 (S1f k1.2 h1 fun o e => (c1.2 i1 ap.i1z).trans e) fun x g2 t2 p1 d1 c2 => wpAny_pure ?_)))))
  have o2 : IsPair g2 TO a b := (c2.2 TO ap.TOi1).trans ((c1.2 TO ap.TOz).trans hTO)
  refine wpAny_bind (wpAny_seqItems o2 rfl (wpAny_bind (wpAny_updateSeq_pair o2 fun g3 o3 c3 => wpAny_bind (wpAny_letGo (wpAny_pure (wpAny_bind (wpAny_bind (wpAny_onRaise (wpAny_bind (m := Builtin.SmallTypes.nextOf (.ref i2)) (D2.item k _ _ _ l2 (S2f ((k1.trans (.one c2 (by simp))).trans (.one c3 (by simp))).2 h2 fun o e => ?_) fun y g4 t4 p2 d2 c4 => wpAny_pure ?_))))))))))
  · exact (c3.2 i2 ap.TOi2.symm).trans ((c2.2 i2 ap.i12.symm).trans ((c1.2 i2 ap.i2z).trans e))
  have o4 : IsPair g4 TO x b := (c4.2 TO ap.TOi2).trans o3
  refine wpAny_bind (wpAny_seqItems o4 rfl (wpAny_bind (wpAny_updateSeq_pair o4 fun g5 o5 c5 => wpAny_bind (wpAny_letGo (wpAny_pure (wpAny_pure ?_))))))
  replace o5 : IsPair g5 TO x y := o5
  have k5 : Keep [z, TO, i1, i2] s.heap g5 := (((k1.trans (.one c2 (by simp))).trans (.one c3 (by simp))).trans (.one c4 (by simp))).trans (.one c5 (by simp))
  have z5 : IsZip g5 z TI TO .ellipsis := (c5.2 z ap.TOz.symm).trans ((c4.2 z ap.i2z.symm).trans ((c3.2 z ap.TOz.symm).trans ((c2.2 z ap.i1z.symm).trans z1)))
  have st1 : S1 (k + 1) g5 := S1f (((Keep.one (S := [z, TO, i1, i2]) c3 (by simp)).trans (.one c4 (by simp))).trans (.one c5 (by simp))).2 d1 fun o e => (c5.2 i1 ap.TOi1.symm).trans ((c4.2 i1 ap.i12).trans ((c3.2 i1 ap.TOi1.symm).trans e))
  have st2 : S2 (k + 1) g5 := S2f (Keep.one (S := [z, TO, i1, i2]) c5 (by simp)).2 d2 fun o e => (c5.2 i2 ap.TOi2.symm).trans e
  refine wpAny_bind (wpAny_seqItems o5 rfl (wpAny_bind (wpAny_newTuple ?_)))
  unfold Builtin.SmallTypes.ownedTupleHandOut
  have z6 : IsZip (g5.push { cls := .type "tuple", data := .seq #[x, y] }) z TI TO .ellipsis := Heap.get?_push_of_some _ z5
  refine wpAny_bind (wpAny_bind (wpAny_setField_rec z6 (by simp) fun g7 z7 c7 => ?_))
  replace z7 : IsZip g7 z TI TO (rawInt g5.objs.size) := z7
  refine wpAny_setField_rec z7 (by simp) fun g8 z8 c8 => wpAny_pure ⟨_, rfl, ?_⟩
  replace z8 : IsZip g8 z TI TO (rawInt g5.objs.size) := z8
  have up : ∀ c o, c ≠ z → g5.get? c = some o → g8.get? c = some o := fun c o hc e => (c8.2 c hc).trans ((c7.2 c hc).trans (Heap.get?_push_of_some _ e))
  have zlt : g5.objs.size ≠ z := Nat.ne_of_gt (Heap.lt_size z5)
  have new : IsPair g8 g5.objs.size x y := (c8.2 _ zlt).trans ((c7.2 _ zlt).trans (Heap.get?_push_size _ rfl))
  have sz : g5.objs.size = s.heap.objs.size := k5.1
  have ti5 : IsPair g5 TI (.ref i1) (.ref i2) := k5.2 TI _ (by simp [ap.TIz, ap.TITO, ap.TIi1, ap.TIi2]) hTI
  show Q (.ref g5.objs.size) _
  rw [sz] at z8 new ⊢
  exact hQ x y g8 t4 p1 p2 z8 (up _ _ ap.TIz ti5) (up _ _ ap.TOz o5) (S1f (fun c o hc e => up c o (fun q => hc (by simp [q])) e) st1 fun o e => up _ o ap.i1z e) (S2f (fun c o hc e => up c o (fun q => hc (by simp [q])) e) st2 fun o e => up _ o ap.i2z e) new fun c o hc e => up c o (fun q => hc (by simp [q])) (k5.2 c o hc e)
theorem endedL {Q : Fin → Shared → Prop} (D1 : Draws prog w A i1 f1 n1 P1 S1) (D2 : Draws prog w A i2 f2 n2 P2 S2) (m1 : ∀ c ∈ f1, c = i1 ∨ c ∉ [z, TO, i1, i2]) (m2 : ∀ c ∈ f2, c = i2 ∨ c ∉ [z, TO, i1, i2]) (ap : ZipApart z TI TO i1 i2 TI TI) (hz : IsZip s.heap z TI TO .none) (hTI : IsPair s.heap TI (.ref i1) (.ref i2)) (hTO : IsPair s.heap TO a b)
    (h1 : S1 k s.heap) (h2 : S2 k s.heap) (hend : k = n1 ∨ (k < n1 ∧ k = n2))
    (hE : ∀ h' e tk, (∀ c o, c ∉ [z, TO, i1, i2] → s.heap.get? c = some o → h'.get? c = some o) → (∃ o, h'.get? e = some o ∧ o.cls = .type "StopIteration") → E (.ref e) { s with heap := h', toks := tk }) :
    wpAny (model prog w) A (Builtin.«zip.__next__» ⟨[.ref z], []⟩) Q E s := by
  unfold Builtin.«zip.__next__»
  refine wpAny_bind (wpAny_of_eq (a := (Value.ref z, [])) rfl (wpAny_bind (wpAny_field hz rfl (x := .bool false) rfl (wpAny_bind (wpAny_field hz rfl (x := .ref TI) rfl (wpAny_bind (wpAny_seqItems hTI rfl (wpAny_ite_false (by simp) (wpAny_bind ?_)))))))))
  unfold Builtin.SmallTypes.ownedTupleIsFree
  refine wpAny_bind (wpAny_field hz rfl (x := .none) rfl (wpAny_pure (wpAny_ite_true (by decide) (wpAny_bind (wpAny_rule (wpAny_bind (wpAny_field hz rfl (x := .ref TO) rfl (wpAny_bind (wpAny_setField_rec hz (by simp) fun g1 z1 c1 => ?_)))))))))
  have k1 : Keep [z, TO, i1, i2] s.heap g1 := .one c1 (by simp)
  have S1f : ∀ {j : Nat} {g g' : Heap}, (∀ c o, c ∉ [z, TO, i1, i2] → g.get? c = some o → g'.get? c = some o) → S1 j g → (∀ o, g.get? i1 = some o → g'.get? i1 = some o) → S1 j g' := fun k st e => D1.frame _ _ _ st fun c hc => by
    rcases m1 c hc with rfl | hn
    · exact e
    · exact fun o q => k c o hn q
  have S2f : ∀ {j : Nat} {g g' : Heap}, (∀ c o, c ∉ [z, TO, i1, i2] → g.get? c = some o → g'.get? c = some o) → S2 j g → (∀ o, g.get? i2 = some o → g'.get? i2 = some o) → S2 j g' := fun k st e => D2.frame _ _ _ st fun c hc => by
    rcases m2 c hc with rfl | hn
    · exact e
    · exact fun o q => k c o hn q
  have s1 : S1 k g1 := S1f k1.2 h1 fun o e => (c1.2 i1 ap.i1z).trans e
  have out : ∀ (it : Addr) (g g' : Heap) (e : Addr) (tk : Nat), it = i1 ∨ it = i2 → Keep [z, TO, i1, i2] s.heap g → IsZip g z TI TO .ellipsis → Heap.ExtBut it g g' → (∃ o, g'.get? e = some o ∧ o.cls = .type "StopIteration") →
      wpAny (model prog w) A (setField (.ref z) 0 .none) (fun _ s' => E (.ref e) s') E { s with heap := g', toks := tk } := fun it g g' e tk hit hk hg hx he => by
    obtain ⟨oe, he, ce⟩ := he
    have zit : z ≠ it := by rcases hit with q | q <;> rw [q]; exact ap.i1z.symm; exact ap.i2z.symm
    have zg : IsZip g' z TI TO .ellipsis := hx z _ zit hg
    have ez : e ≠ z := fun q => by
      rw [q] at he
      have := congrArg (Option.map Obj.cls) (he.symm.trans zg)
      rw [Option.map_some, Option.map_some, ce] at this
      exact absurd (show Value.type "StopIteration" = Value.type "zip" from Option.some.inj this) (by decide)
    refine wpAny_setField_rec (s := { s with heap := g', toks := tk }) zg (by simp) fun g2 _ c2 => hE g2 e tk (fun c o hc q => ?_) ⟨oe, (c2.2 e ez).trans he, ce⟩
    refine (c2.2 c fun r => hc (by simp [r])).trans (hx c o (fun r => hc ?_) (hk.2 c o hc q))
    rcases hit with q | q <;> rw [r, q] <;> simp
  simp only [List.zipIdx_cons, List.zipIdx_nil, List.forIn_cons, List.forIn_nil]
  rcases hend with rfl | ⟨hlt, rfl⟩
  · refine wpAny_bind (wpAny_bind (wpAny_bind (wpAny_onRaise (wpAny_bind (m := Builtin.SmallTypes.nextOf (.ref i1)) (D1.done _ _ _ s1 fun g2 e x2 he => ?_)))))
    exact out i1 g1 g2 e s.toks (.inl rfl) k1 z1 x2 he
  · refine wpAny_bind (wpAny_bind (wpAny_bind (wpAny_onRaise (wpAny_bind (m := Builtin.SmallTypes.nextOf (.ref i1)) (D1.item k _ _ _ hlt s1 fun x g2 t2 p1 d1 c2 => wpAny_pure ?_)))))
    have o2 : IsPair g2 TO a b := (c2.2 TO ap.TOi1).trans ((c1.2 TO ap.TOz).trans hTO)
    refine wpAny_bind (wpAny_seqItems o2 rfl (wpAny_bind (wpAny_updateSeq_pair o2 fun g3 o3 c3 => wpAny_bind (wpAny_letGo (wpAny_pure (wpAny_bind (wpAny_bind (wpAny_onRaise (wpAny_bind (m := Builtin.SmallTypes.nextOf (.ref i2)) (D2.done _ _ _ (S2f ((k1.trans (.one c2 (by simp))).trans (.one c3 (by simp))).2 h2 fun o e => ?_) fun g4 e x4 he => ?_))))))))))
    · exact (c3.2 i2 ap.TOi2.symm).trans ((c2.2 i2 ap.i12.symm).trans ((c1.2 i2 ap.i2z).trans e))
    · exact out i2 g3 g4 e t2 (.inr rfl) ((k1.trans (.one c2 (by simp))).trans (.one c3 (by simp))) ((c3.2 z ap.TOz.symm).trans ((c2.2 z ap.i1z.symm).trans z1)) x4 he
end
section
variable {prog : Program} {w : World} {A : Around} {E : Value → Shared → Prop} {s : Shared} {z TI TO i1 i2 : Addr} {n1 n2 k : Nat} {P1 P2 : Nat → Value → Prop} {S1 S2 : Nat → Heap → Prop} {a b : Value}
def strIt (x : Str) (t : Tok) : Obj := { cls := .type (if x.cps.all (· < 128) then "str_ascii_iterator" else "str_iterator"), data := .fields #[.str x t, .int 0 0] }
theorem iter_text {x : Str} {t : Tok} {Q : Value → Shared → Prop} (h : Q (.ref s.heap.objs.size) { s with heap := s.heap.push (strIt x t) }) : wpAny (model prog w) A (pyIter (.str x t)) Q E s := by
  unfold strIt at h
  cases e : x.cps.all (· < 128) <;> rw [e] at h
  · exact wpAny_pyIter_wide e h
  · exact wpAny_pyIter_ascii e h
def made (h : Heap) (x y : Str) (t u : Tok) : Heap :=
  ((((h.push (strIt x t)).push (strIt y u)).push { cls := .type "tuple", data := .seq #[.ref h.objs.size, .ref (h.objs.size + 1)] }).push { cls := .type "tuple", data := .seq #[.none, .none] }).push
    { cls := .type "zip", data := .fields #[.none, .bool false, .bool false, .ref (h.objs.size + 2), .ref (h.objs.size + 3)] }
def strAt (x : Str) (t : Tok) (it : Addr) (i : Nat) (h : Heap) : Prop := h.IsStrIter it (if x.cps.all (· < 128) then "str_ascii_iterator" else "str_iterator") x t i
theorem draws (hh : A.handled = none) (it : Addr) (x : Str) (t : Tok) : Draws prog w A it [it] x.cps.size (fun i v => ∃ c u, x.cps[i]? = some c ∧ v = .str ⟨#[c]⟩ u) (strAt x t it) := by
  unfold strAt
  cases x.cps.all (· < 128)
  · exact Draws.strWide hh it x t
  · exact Draws.strAscii hh it x t
end
end ZP
end L2
namespace L2
open PySem PySem.Spec PyProof.Rows
section
variable {X : Cx} {pins : List (Addr × Obj)} {σ : St} {H : Hp} {s : Shared} {h' : Heap}
theorem tracked_off {S : List Addr} (f : ∀ b ∈ S, H b = none) {b : Addr} {u : HO} (e : H b = some u) : b ∉ S := fun hb => by rw [f b hb] at e; cases e
theorem Inv.turnedL {S : List Addr} {t' : Nat} (I : Inv X pins σ H s) (k : ∀ b o, b ∉ S → s.heap.get? b = some o → h'.get? b = some o) (f : ∀ b ∈ S, FpOk X pins H b) : Inv X pins σ H { s with heap := h', toks := t' } := by
  refine I.call (g' := s.gens) (d' := s.drawn) (ch := S) ⟨fun b o e _ _ hc => k b o hc e, fun b o e _ _ hc => ⟨o.slots, k b o hc e⟩, fun _ _ _ n _ => n, fun b o e hc => ⟨o, k b o hc e⟩, fun _ _ e => e, fun _ _ _ e => e, fun _ ps e => ⟨#[], by rw [e]; simp⟩⟩
    (fun b u e => (I.hok b u e).stay (fun c v hc q => k c v ?_ q) (fun _ q => q) fun _ _ q => q) I.bare fun b hb => ⟨(f b hb).2.2.2.1, (f b hb).2.1, (f b hb).2.2.2.2.1, (f b hb).2.2.2.2.2⟩
  rcases hc with z | z
  · rw [z]; exact tracked_off (fun b hb => (f b hb).1) e
  · exact tracked_off (fun b hb => (f b hb).1) z
theorem Inv.turnedNew {S : List Addr} {t' : Nat} {o : HO} (I : Inv X pins σ H s) (k : ∀ b o, b ∉ S → s.heap.get? b = some o → h'.get? b = some o) (f : ∀ b ∈ S, FpOk X pins H b)
    (new : ObjOk X.prog X.w (upd H s.heap.objs.size o) h' s.heap.objs.size o) : Inv X pins σ (upd H s.heap.objs.size o) { s with heap := h', toks := t' } := by
  have fr : H s.heap.objs.size = none := I.hok.fresh (Nat.le_refl _)
  have ne : ∀ b u, H b = some u → b ≠ s.heap.objs.size := fun b u e => ne_of_none e fr
  refine I.call (g' := s.gens) (d' := s.drawn) (ch := S) ⟨fun b o e _ _ hc => k b o hc e, fun b o e _ _ hc => ⟨o.slots, k b o hc e⟩, fun b o e n _ => ?_, fun b o e hc => ⟨o, k b o hc e⟩, fun b xs e => by rw [upd_ne (ne b _ e)]; exact e, fun b o u e => by rw [upd_ne (ne b _ e)]; exact e, fun b ps e => ⟨#[], by rw [upd_ne (ne b _ e), e]; simp⟩⟩
    (fun b u e => ?_) I.bare fun b hb => ⟨(f b hb).2.2.2.1, (f b hb).2.1, (f b hb).2.2.2.2.1, (f b hb).2.2.2.2.2⟩
  · rw [upd_ne (Nat.ne_of_lt (Heap.lt_size e))]
    exact n
  · by_cases hb : b = s.heap.objs.size
    · subst hb
      rw [upd_same] at e
      cases e
      exact new
    · rw [upd_ne hb] at e
      refine (I.hok b u e).stay (fun c v hc q => k c v ?_ q) (fun c q => by rw [upd_ne (ne c _ q)]; exact q) fun c xs q => by rw [upd_ne (ne c _ q)]; exact q
      rcases hc with z | z
      · rw [z]; exact tracked_off (fun b hb => (f b hb).1) e
      · exact tracked_off (fun b hb => (f b hb).1) z
end
def Itz (x y : Str) : It := ⟨fun i _ => i < x.length ∧ i < y.length, fun i H v H' => ∃ p c d, x.cps[i]? = some c ∧ y.cps[i]? = some d ∧ v = .ref p ∧ H p = none ∧ H' = upd H p (.tup [.str ⟨#[c]⟩, .str ⟨#[d]⟩]), fun i _ => x.length ≤ i ∨ y.length ≤ i⟩
def iZip (t : TA) : TI := fun σ H R => t σ H fun vs H1 => ∃ x y, vs = [.str x, .str y] ∧ R (Itz x y) H1
end L2
namespace L2
open PySem PySem.Spec PyProof.Rows
def Fly (h : Heap) (e T : Addr) (cls a0 : Value) : Prop :=
  ∃ oe vs oT ts, h.get? e = some oe ∧ (oe.cls = cls ∧ vs[0]? = some a0) ∧ oe.data = .fields vs ∧ vs[1]? = some (.ref T) ∧ T ≠ e ∧ h.get? T = some oT ∧ oT.data = .fields ts ∧ ts[3]? = some .none
def CXE (P : Program) (w : World) : CXT := fun outer H s E ev s' => ∃ (e T : Addr) (C a0 : Value) (H' : Hp), ev = .ref e ∧ s'.os = s.os ∧ AllBare s'.gens ∧ Un (frs outer) [] H H' s.heap s'.heap ∧ HOk P w H' s'.heap ∧
  s.heap.get? e = none ∧ s.heap.get? T = none ∧ H' e = none ∧ H' T = none ∧ Fly s'.heap e T C a0 ∧ E C none H'
theorem frames_hid {h base : Heap} {hid : List Addr} : ∀ {l : List Env}, h.FunFrames base l → (∀ b ∈ frs l, b ∈ hid) → h.FunFrames (PySem.W.hideAll h hid) l
  | [], _, _ => trivial
  | env :: r, hl, hs => by
    obtain ⟨hk, ⟨L, o, hf, hn, ho, hd⟩, hr⟩ := hl
    have e : frs (env :: r) = L :: frs r := by unfold frs; rw [List.filterMap_cons, hf]
    exact ⟨hk, ⟨L, o, hf, PySem.W.hideAll_none _ (hs L (by rw [e]; exact List.mem_cons_self)), ho, hd⟩, frames_hid hr fun b hb => hs b (by rw [e]; exact List.mem_cons_of_mem _ hb)⟩
section
variable {X : Cx} {pins : List (Addr × Obj)} {σ : St} {H H' : Hp} {s : Shared} {h1 h2 : Heap}
end
section
variable {X : Cx} {E : XK}
end
end L2
namespace L2
open PySem PySem.Spec PyProof.Rows
section
variable {X : Cx}
def FPart (X : Cx) (e : Expr) (c : St → Prop) : Prop := ∀ (pins : List (Addr × Obj)) (s : Shared) (σ : St) (H : Hp) (Q : Value → Shared → Prop), Inv X pins σ H s → c σ → (∀ y t s', Inv X pins σ H s' → y.length ≤ 100000 → Q (.str y t) s') →
  wpAny (model X.prog X.w) X.A (eval e X.env) Q X.xe s
def FParts (X : Cx) : List Expr → (St → Prop) → Prop
  | [], _ => True
  | e :: es, c => FPart X e c ∧ FParts X es c
def Txt5 (i : Nat) (σ : St) : Prop := ∃ x : Str, σ[i]? = some (some (.str x)) ∧ x.length ≤ 5000 ∧ ∀ c ∈ x.cps.toList, c < 1000000
def tMsg (c : St → Prop) : TE := fun σ H Q => c σ ∧ ∀ x, Q (.str x) H
end
def OwnX (K : PySem.W.Frag) (C : Addr) : Prop := PySem.W.excIn K C [.type "ValueError", .type "Exception", .type "BaseException", .type "object"] "ValueError.__new__" = true
end L2
namespace L2
open PySem PySem.Spec PyProof.Rows
def Throws (X : Cx) (E : XK) : Prop := ∀ (pins : List (Addr × Obj)) (σ : St) (H : Hp) (s : Shared) (h1 : Heap) (e : Addr) (C : Value) (vs : List Value), Inv X pins σ H s → Heap.MadeExcOf s.heap h1 e C vs → E C none H → X.xe (.ref e) { s with heap := h1 }
def tRaise (C : Addr) (E : XK) (t : TA) : TS := fun _ σ H => t σ H fun vs H1 => vs.length ≤ sizeLine ∧ E (.ref C) none H1
section
variable {P : Program} {w : World} {K : PySem.W.Frag} {mg : Str → Option Value} {base : Heap} {N : List Str} {qual : Str} {scope : Scope} {f : Addr} {cd : Value} {A : Around} {outer : List Env} {s : Shared} {H : Hp} {E : XK}
end
def DfX (P : Program) (w : World) (K : PySem.W.Frag) (mg : Str → Option Value) (base : Heap) (x : Str) (k : Nat) (ps : List Str) (sp : Sp) : Prop :=
  ∃ (f : Addr) (fd : FuncData), mg x = some (.ref f) ∧ PySem.W.keepIn K (.ref f) = true ∧ Binds K fd ps [] ∧ FnOk P w K mg base (CXE P w) k f fd ps sp
end L2
namespace L2
open PySem PySem.Spec PyProof.Rows
def excAt (e : Addr) (C : Value) : HO := .ext fun h => ∃ o, h.get? e = some o ∧ o.cls = C
abbrev Cx.held (X : Cx) (v : Value) : Cx := { X with A := X.A.mark (some v), calm := false, xe := fun _ _ => False }
section
variable {X : Cx} {pins : List (Addr × Obj)} {σ : St} {H : Hp} {s : Shared}
end
def heldEnds (i : Nat) (D : Ends) : Ends := { nx := fun σ' H' => D.nx (σ'.set i none) H', rt := fun _ _ => False }
def Caught (K : PySem.W.Frag) (R : Addr) (i : Nat) (ts : TS) (D : Ends) (σ : St) : XK := fun C _ H' => PySem.W.exmOne K C (.ref R) = some true ∧ ∀ e, H' e = none → ts (heldEnds i D) (σ.set i (some (.ref e))) (upd H' e (excAt e C))
end L2
namespace L2
open PySem PySem.Spec PyProof.Rows
section
variable {X : Cx} {pins : List (Addr × Obj)} {σ : St} {H : Hp} {s : Shared} {x n y fx : Str} {R : Addr} {i j k : Nat} {np hpos pos p cp yp ap : Pos} {b0 : Stmt} {suite : List Stmt} {ts : TS} {D : Ends} {ps : List Str} {sp : Sp} {e : Expr} {es : List Expr} {t : TA}
structure TryOk (X : Cx) (x n : Str) (R : Addr) (i : Nat) (b0 : Stmt) (suite : List Stmt) (ts : TS) : Prop where
  hex : X.ex = []
  hst : X.stack = X.env :: X.outer
  hfr : X.env.frame = some X.env.locals
  nd : X.N.Nodup
  hi : X.N[i]? = some n
  hk : X.env.kindOf n = some .local
  hl : Loc X.env.scope n
  hf : X.fn n = true ∨ X.env.scope.names.lookup n = some .local
  hg : Gl X x
  hm : X.mg x = some (.ref R)
  hs : ∀ v, PSs (X.held v) (b0 :: suite) ts
  hd : (x == ("__debug__" : Str)) = false
abbrev onCatch (X : Cx) (pins : List (Addr × Obj)) (D : Ends) (hs : List ExceptHandler) : Value → Shared → Prop := fun ev s' =>
  wpAny (model X.prog X.w) X.A (noteFrame ev X.env) (fun _ s2 => wpAny (model X.prog X.w) X.A (setFlight ev none) (fun _ s3 => wpAny (model X.prog X.w) X.A (handleBy ev X.env hs) (SP X pins D) X.xe s3) X.xe s2) X.xe s'
def tTryAsg (K : PySem.W.Frag) (R : Addr) (i j : Nat) (sp : Sp) (t : TA) (ts : TS) : TS := fun D σ H => t σ H fun vs H1 => sp vs H1 (fun v H2 => D.nx (σ.set j (some v)) H2) (Caught K R i ts D σ)
def tTryExp (K : PySem.W.Frag) (R : Addr) (i : Nat) (sp : Sp) (t : TA) (ts : TS) : TS := fun D σ H => t σ H fun vs H1 => sp vs H1 (fun _ H2 => D.nx σ H2) (Caught K R i ts D σ)
end
end L2
namespace L2
open PySem PySem.Spec PySem.W PyProof.Rows Builtin Builtin.ObjectAttr Builtin.Getset_descriptor
structure ExcCls (K : Frag) (C : Addr) : Prop where
  ga : findIn K (.ref C) "__getattribute__" = some (some (.builtin "BaseException.__getattribute__"))
  noHook : findIn K (.ref C) "__getattr__" = some none
  cls : findIn K (.ref C) "__class__" = some (some (.builtin "object.__class__"))
  get : specialIn K (.builtin "object.__class__") "__get__" = some (some (.builtin "getset_descriptor.__get__"))
  tk : takesIn K (.builtin "object.__class__") = some true
  obj : mroIn K C (.type "object") = some true
  exc : mroIn K C (.type "BaseException") = some true
  isC : isClsIn K C = true
def ExcIs (e C : Addr) (h : Heap) : Prop := ∃ o, h.get? e = some o ∧ o.cls = .ref C
section
variable {prog : Program} {w : World} {A : Around} {E : Value → Shared → Prop} {s : Shared} {K : Frag} {e C : Addr}
end
def rIsExc (K : Frag) (D : Value) (d : V) : List V → Hp → VK → Prop := fun xs H Q => ∃ e C b, xs = [.ref e, d] ∧ H e = some (excAt e (.ref C)) ∧ ExcCls K C ∧ kitOne K (.ref C) D = some b ∧ Q (.bl b) H
end L2
namespace RA
def geo (k : Int) : Nat → Int
  | 0 => 0
  | n + 1 => geo k n * k + 1
theorem geo_pos {k : Int} (hk : 0 ≤ k) : ∀ n, 1 ≤ geo k (n + 1)
  | 0 => by show (1 : Int) ≤ 0 * k + 1; omega
  | n + 1 => by
    have h := geo_pos hk n
    have h1 : 0 ≤ geo k (n + 1) * k := Int.mul_nonneg (by omega) hk
    show 1 ≤ geo k (n + 1) * k + 1
    omega
theorem geo_nn {k : Int} (hk : 0 ≤ k) : ∀ n, 0 ≤ geo k n
  | 0 => Int.le_refl _
  | n + 1 => by have := geo_pos hk n; omega
end RA
namespace RA
open PySem L2
structure Sm (w : List Nat) : Prop where
  len : w.length ≤ 4000
  cod : ∀ c ∈ w, c < 1000000
def forL : List Nat := List.range' 32 5 ++ List.range' 38 59 ++ List.range' 123 4
def abcL : List Nat := List.range' 97 26
def othL (L : List Nat) : List Nat := abcL.filter fun c => !decide (c ∈ L)
end RA
namespace RA
def lexd (L : List Nat) : List Nat → List Nat → Bool
  | c :: a, d :: b => if c = d then lexd L a b else decide (L.idxOf c < L.idxOf d)
  | _, _ => false
def ear (L a b : List Nat) : Bool := if a.length ≠ b.length then decide (a.length < b.length) else lexd L a b
end RA
namespace L2
open PySem PySem.Spec PyProof.Rows
theorem eqV_same : ∀ {x : V}, flatV x = true → eqV x x = true := by
  intro x h
  cases x with
  | non => rfl
  | bl a => simp [eqV]
  | int a => simp [eqV]
  | str a => simp [eqV]
  | _ => exact absurd (show false = true from h) Bool.false_ne_true
def rEqL (K : PySem.W.Frag) : R2 := fun x y H Q => ∃ p q xs, x = .ref p ∧ y = .ref q ∧ SqL K H p xs ∧ SqL K H q xs ∧ xs.all flatV = true ∧ Q (.bl true) H
theorem Same.set {H H' : Hp} {a : Addr} {o : HO} (s : Same H H') (n : H a = none) : Same H (L2.upd H' a o) := fun b u e => by
  rw [upd_ne (ne_of_none e n)]
  exact s b u e
end L2
namespace RA
open PySem L2
def dueN (y : Int) (f s t : Bool) : Nat := if y < 4 ∧ f = true then 1 else if y = 2 ∧ s = true then 2 else if y = 4 ∧ f = true then 3 else if (y ≠ 2 ∧ s = true) ∨ (y = 0 ∧ t = true) then 4 else 0
def nmN : Nat → List V
  | 1 => [.str "NoLetters"]
  | 2 => [.str "NoNumber"]
  | 3 => [.str "NoRoom"]
  | 4 => [.str "NoWord"]
  | _ => []
end RA
namespace L2
end L2
namespace L2
open PySem PySem.Spec PyProof.Rows
def rInsert : V → List V → Hp → VK → Prop := fun x vs H Q => ∃ l xs i y, x = .ref l ∧ vs = [.int i, y] ∧ H l = some (.lst xs) ∧ 0 ≤ i ∧ i ≤ 1000 ∧ i ≤ xs.length ∧ xs.length < sizeLine ∧ Q .non (upd H l (.lst (xs.take i.toNat ++ y :: xs.drop i.toNat)))
theorem mt_insert {X : Cx} : MtM X "list.insert" rInsert := by
  intro pins s σ H x vs v us Q I rx rv h
  obtain ⟨l, xs, i, y, rfl, rfl, hH, h0, h1, h2, hz, q⟩ := h
  cases rx
  obtain ⟨u, w', rfl, ru, rw'⟩ := vals2 rv
  obtain ⟨t, rfl⟩ := ru
  obtain ⟨z, its, n, r, hl, e⟩ := I.lstM hH
  have hf : Builtin.List.listFitsIndex i = true := fitsIndex_both (by omega) (by omega)
  refine call_meets F.slot_list_insert ⟨_, e, rfl⟩ F.entry_list_insert (F.args_list_insert_3 _ _ _) (PySem.AutoSeq1.list_insert_list_int_val_1 l its.toArray n i t w' (by simp [hf]) (by rw [List.size_toArray]; omega)) ⟨e, ?_⟩
  refine ⟨.non, _, I.lset (its' := its.take i.toNat ++ w' :: its.drop i.toNat) hH e ?_ ((r.take i.toNat).append (.cons rw' (r.drop i.toNat))) ?_, rfl, q⟩
  · have hk : (if i < 0 then (i + ((its.toArray.size : Nat) : Int)).toNat else min i.toNat its.toArray.size) = i.toNat := by
      rw [if_neg (by omega), List.size_toArray]
      omega
    show (its.toArray.extract 0 (if i < 0 then (i + ((its.toArray.size : Nat) : Int)).toNat else min i.toNat its.toArray.size)).push w' ++ its.toArray.extract (if i < 0 then (i + ((its.toArray.size : Nat) : Int)).toNat else min i.toNat its.toArray.size) = _
    rw [hk]
    simp
    exact List.take_of_length_le (by rw [List.length_drop]; omega)
  · rw [List.length_append, List.length_cons, List.length_take, List.length_drop]
    omega
section
variable {K : PySem.W.Frag} {tl : TE} {a : Addr} {xs : List V} {tt : TT} {te : TE} {σ : St} {H : Hp} {Q : VK}
end
theorem kit_any (K : PySem.W.Frag) : PySem.W.kitOne K (.type "tuple") (.type "tuple") = some true ∧ PySem.W.kitOne K (.type "list") (.type "list") = some true ∧ PySem.W.kitOne K (.type "str") (.type "str") = some true :=
  ⟨by with_unfolding_all rfl, by with_unfolding_all rfl, by with_unfolding_all rfl⟩
theorem kit_tl (K : PySem.W.Frag) : PySem.W.kitOne K (.type "tuple") (.type "list") = some false := by kernel_rfl
theorem kit_lt (K : PySem.W.Frag) : PySem.W.kitOne K (.type "list") (.type "tuple") = some false := by kernel_rfl
theorem kit_it (K : PySem.W.Frag) : PySem.W.kitOne K (.type "int") (.type "tuple") = some false := by kernel_rfl
theorem kit_il (K : PySem.W.Frag) : PySem.W.kitOne K (.type "int") (.type "list") = some false := by kernel_rfl
theorem kit_bt (K : PySem.W.Frag) : PySem.W.kitOne K (.type "bool") (.type "tuple") = some false := by kernel_rfl
theorem kit_bl (K : PySem.W.Frag) : PySem.W.kitOne K (.type "bool") (.type "list") = some false := by kernel_rfl
theorem kit_st (K : PySem.W.Frag) : PySem.W.kitOne K (.type "str") (.type "tuple") = some false := by kernel_rfl
theorem kit_sl (K : PySem.W.Frag) : PySem.W.kitOne K (.type "str") (.type "list") = some false := by kernel_rfl
theorem kit_sb (K : PySem.W.Frag) : PySem.W.kitOne K (.type "str") (.type "bool") = some false := by kernel_rfl
theorem kit_si (K : PySem.W.Frag) : PySem.W.kitOne K (.type "str") (.type "int") = some false := by kernel_rfl
end L2
namespace L2
open PySem PySem.Spec PyProof.Rows
theorem call_isG {X : Cx} {T : String} : CallR X (.builtin "isinstance") (fun xs H Q => ∃ x t b, xs = [x, .ty T] ∧ TyOf X.K H x t ∧ PySem.W.kitOne X.K t (.type T) = some b ∧ Q (.bl b) H) := by
  intro pins s σ H xs us Q I r h
  obtain ⟨x, t, b, h1, h2, h3, q⟩ := h
  exact call_isinst (b := b) pins s σ H xs us Q I r ⟨x, t, h1, h2, h3, q⟩
end L2
namespace L2
open PySem PySem.Spec PyProof.Rows
section
variable {X : Cx} {elt iter : Expr} {x : Str} {px pos : Pos} {ifs : List Expr} {sc : Scope} {wi : TI} {tt : TT} {te : TE}
end
theorem call_tupleK {X : Cx} (K : PySem.W.Frag) (hK : X.K = K := by rfl) : CallR X (.type "tuple") (fun xs H Q => ∃ p ys, xs = [.ref p] ∧ ((SqL K H p ys ∧ ∀ l, H l = none → Q (.ref l) (upd H l (.tup ys))) ∨ (SqT K H p ys ∧ Q (.ref p) H))) := by
  subst hK
  exact call_tuple_of
end L2
namespace L2
open PySem PySem.Spec PyProof.Rows
section
variable {X : Cx} {elt iter : Expr} {x : Str} {px pos : Pos} {ifs : List Expr} {sc : Scope} {wi : TI} {tt : TT} {te : TE}
theorem pe_compS (N2 : List Str) (hc : X.calm = true) (hN2 : (x :: N2).Nodup) (hi : PI X (.Name x px) iter wi)
    (hb : ∀ (cl : List (Str × Addr)) (C : Addr) (fp : List Addr) (s : Shared) (H : Hp), PTs { cxComp X x sc cl C fp s H with N := x :: N2 } ifs tt ∧ PE { cxComp X x sc cl C fp s H with N := x :: N2 } elt te)
    (hx : sc.names.lookup x = some .local := by rfl) (hkind : sc.kind = .function := by rfl)
    (hnames : ∀ y ∈ sc.names, y.2 = .local → sc.names.lookup y.1 = some .local := by decide +kernel) (hcell : ∀ y ∈ sc.names, y.2 ≠ .cell := by decide +kernel)
    (hfree : (sc.names.all fun y => y.2 != .free || X.env.scope.names.lookup y.1 == some .cell) = true := by rfl)
    (hlo : (N2.all fun y => sc.names.lookup y != some .local) = true := by rfl) (hl2 : N2.length = X.N.length := by rfl) (hz2 : ((N2.zip X.N).all fun y => y.1 == y.2 || sc.names.lookup y.1 == none) = true := by rfl)
    (hs : ∀ x, foldedSetIterable iter X.env x = pure x := by intro _; rfl) :
    PE X (.ListComp elt [⟨.Name x px, iter, ifs, 0⟩] sc pos) (tComp wi tt te) := by
  intro pins s σ H Q I h
  have hfr : ∀ y ∈ sc.names, y.2 = .free → X.env.kindOf y.1 = some .cell := fun y hy e => by
    have q := List.all_eq_true.mp hfree y hy
    rw [e] at q
    simpa [Env.kindOf] using q
  have hlo' : ∀ y ∈ N2, sc.names.lookup y ≠ some .local := fun y hy e => by
    have q := List.all_eq_true.mp hlo y hy
    rw [e] at q
    simp at q
  obtain ⟨cl, hclos, hsub, hhas⟩ := closure_of (env := X.env) (sc := sc) fun y hy e => I.ok.has y.1 (.inl (hfr y hy e))
  rw [eval_ListComp]
  refine wpAny_comprehension_free (use := none) rfl hs hclos hkind hnames (thn (hi pins s σ H _ I h) fun v s1 h1 => thn h1 fun itv s2 h2 => ?_)
  obtain ⟨it, fp, tn, J, H2, e, I2, T, st2, f2, hW⟩ := h2
  subst e
  have nobinds : ∀ y ∈ ([] : List (Str × Value)), sc.names.lookup y.1 = some .local := fun y hy => absurd hy (by simp)
  refine wpAny_newObj_type ?_
  refine wpAny_newFunctionEnv hcell nobinds (fun h₁ hns₁ hsb₁ => ?_) hkind
  dsimp only at hns₁ hsb₁ ⊢
  generalize hHa : s2.heap.push { cls := .type "list", dict := none, data := .seq ([] : List Value).toArray } = Ha at hns₁ hsb₁ ⊢
  have hC : Ha.objs.size = s2.heap.objs.size + 1 := by rw [← hHa, Heap.size_push]
  have hDC : s2.heap.objs.size ≠ Ha.objs.size := by rw [hC]; exact Nat.ne_of_lt (Nat.lt_succ_self _)
  have hCle : s2.heap.objs.size ≤ Ha.objs.size := by rw [hC]; exact Nat.le_succ _
  have neC : ∀ b o, s2.heap.get? b = some o → b ≠ Ha.objs.size := fun b o e => Nat.ne_of_lt (Nat.lt_of_lt_of_le (Heap.lt_size e) hCle)
  have old : ∀ b o, s2.heap.get? b = some o → h₁.get? b = some o := fun b o e => hsb₁.extBut b o (neC b o e) (Heap.get?_push_of_some _ (hHa ▸ Heap.get?_push_of_some _ e))
  have hacc : h₁.get? s2.heap.objs.size = some { cls := .type "list", dict := none, data := .seq ([] : List Value).toArray } := hsb₁.extBut _ _ hDC (Heap.get?_push_of_some _ (hHa ▸ Heap.get?_push_size _ rfl))
  generalize hDe : s2.heap.objs.size = D at *
  generalize hCe : Ha.objs.size = C at *
  have hHD : H2 D = none := I2.hok.fresh (Nat.le_of_eq hDe)
  have hHC : H2 C = none := I2.hok.fresh (by omega)
  obtain ⟨W, ⟨m0, w0⟩, turn⟩ := hW D hHD
  have fplt : ∀ b ∈ fp, b < D := fun b hb => by
    obtain ⟨o, e, _⟩ := T.obj _ _ st2 b hb
    rw [← hDe]
    exact Heap.lt_size e
  let X' : Cx := { cxComp X x sc cl C fp s2 H2 with N := x :: N2 }
  have nofs : ∀ b ∈ fp, b ∉ frs X.stack := fun b hb z => by
    rcases List.mem_cons.mp (I2.stkSub b z) with e | e
    · exact (f2 b hb).2.1 e
    · exact (f2 b hb).2.2.1 e
  have ok' : X'.Ok := by
    refine ⟨I2.ok.mod, hkind, I2.ok.glob, I2.ok.blt, ?_, fun y z c e1 e2 => I2.ok.inj y z c (hsub y c e1) (hsub z c e2), fun y hy => ?_, fun y c e => absurd (show false = true from e) Bool.false_ne_true, I2.ok.hd, I2.ok.frames, .inl rfl, fun b hb => ⟨?_, fun y c e => ?_⟩, I2.bs,
      Nat.le_trans I2.ok.bsz I2.sz, fun b o e hb => ?_, nofs, I2.stack, I2.stkFree⟩
    · show s2.heap.objs.size ≤ C
      omega
    · rcases hy with hy | hy
      · rcases relabel_lookup (show (relabel sc X.env).names.lookup y = some .cell from hy) with e | ⟨_, e, _⟩
        · exact absurd rfl (hcell _ (PySem.mem_of_lookup e))
        · exact hhas _ (PySem.mem_of_lookup e) rfl
      · rcases relabel_lookup (show (relabel sc X.env).names.lookup y = some .free from hy) with e | ⟨e, _⟩
        · exact hhas _ (PySem.mem_of_lookup e) rfl
        · cases e
    · exact Nat.ne_of_lt (Nat.lt_of_lt_of_le (fplt b hb) (by omega : D ≤ C))
    · exact (f2 b hb).2.2.2.2.1 y c (hsub y c e)
    · rcases (f2 b hb).2.2.2.1 with z | z
      · exact I2.ok.noex b o e z
      · exact absurd (Nat.lt_of_lt_of_le (Nat.lt_of_lt_of_le (Heap.lt_size e) I2.ok.bsz) z) (Nat.lt_irrefl _)
  have I4 : ∀ tk, Inv X' [] (none :: σ) (upd H2 D (.lst [])) { s2 with heap := h₁, toks := tk } := fun tk => by
    refine ⟨ok', rfl, I2.bare, Un.laid old (Nat.le_of_eq hDe) hHD, ⟨_, hns₁, fun i y v e1 e2 e3 => ?_⟩, fun y c e => ?_, ?_, fun y c e => ?_, fun p hp => ?_, I2.hok.laid old (Nat.le_of_eq hDe) ?_, ?_⟩
    · cases i with
      | zero => simp at e2
      | succ i =>
        have e0 : N2[i]? = some y := by simpa [X', cxComp] using e1
        have e2 : σ[i]? = some (some v) := by simpa using e2
        have e3 : Vis (relabel sc X.env) y := e3
        have hyN : y ∈ N2 := List.mem_of_getElem? e0
        have free : sc.names.lookup y = some .free ∧ (relabel sc X.env).names.lookup y ≠ some .local := by
          rcases e3 with e | e | e
          · rcases relabel_lookup e with q | ⟨q, _⟩
            · exact absurd q (hlo' y hyN)
            · cases q
          · rcases relabel_lookup e with q | ⟨_, q, _⟩
            · exact absurd rfl (hcell _ (PySem.mem_of_lookup q))
            · exact ⟨q, by rw [e]; decide⟩
          · rcases relabel_lookup e with q | ⟨q, _⟩
            · exact ⟨q, by rw [e]; decide⟩
            · cases q
        have e1 : X.N[i]? = some y := by
          have hi : i < N2.length := (List.getElem?_eq_some_iff.mp e0).1
          have hi2 : i < X.N.length := by omega
          have hm : (y, X.N[i]) ∈ N2.zip X.N := by
            have hz : (N2.zip X.N)[i]? = some (y, X.N[i]) := by
              rw [List.getElem?_zip_eq_some]
              exact ⟨e0, List.getElem?_eq_getElem hi2⟩
            exact List.mem_of_getElem? hz
          have q := List.all_eq_true.mp hz2 _ hm
          rcases Bool.or_eq_true_iff.mp q with q | q
          · have : y = X.N[i] := eq_of_beq q
            rw [List.getElem?_eq_getElem hi2, ← this]
          · have q2 : sc.names.lookup y = none := by simpa using q
            rw [free.1] at q2
            cases q2
        have kc : X.env.kindOf y = some .cell := hfr _ (PySem.mem_of_lookup free.1) rfl
        obtain ⟨m, hn, hl⟩ := I2.loc
        obtain ⟨u, ru, lk⟩ := hl i y v e1 e2 (.inr (.inl kc))
        rcases lk with ⟨q, _⟩ | ⟨_, c, hcc, ⟨o, ho, hd⟩⟩
        · rw [kc] at q; cases q
        · obtain ⟨c', hc'⟩ := hhas _ (PySem.mem_of_lookup free.1) rfl
          have e4 := hsub _ _ hc'
          rw [hcc] at e4
          cases e4
          refine ⟨u, ru, .inr ⟨?_, c, hc', ⟨o, old c o ho, hd⟩⟩⟩
          rcases e3 with e | e | e
          · exact absurd e free.2
          · exact .inl e
          · exact .inr e
    · obtain ⟨v, o, ho, hd⟩ := I2.cell y c (hsub y c e)
      exact ⟨v, o, old c o ho, hd⟩
    · show upd H2 D (.lst []) C = none
      rw [upd_ne (neA (by omega))]
      exact hHC
    · obtain ⟨v, o, ho, hd⟩ := I2.cell y c (hsub y c e)
      have hlt := Heap.lt_size ho
      rw [hDe] at hlt
      show upd H2 D (.lst []) c = none
      rw [upd_ne (Nat.ne_of_lt hlt)]
      exact I2.freeC y c (hsub y c e)
    · exact absurd (show p ∈ ([] : List (Addr × Obj)) from hp) (by simp)
    · exact ⟨Nat.zero_le _, [], 0, .nil, hacc⟩
    · show (none :: σ).length = (x :: N2).length
      rw [List.length_cons, List.length_cons, I2.len, hl2]
  have hN' : X'.N.Nodup := hN2
  have hx' : X'.env.scope.names.lookup x = some .local := lookup_relabel_local hx
  obtain ⟨PT', PE'⟩ := hb cl C fp s2 H2
  have fpX : ∀ {pins' : List (Addr × Obj)} {H' : Hp}, (∀ b ∈ fp, H' b = none) → (∀ p ∈ pins', p.1 ∉ fp) → ∀ b ∈ fp, FpOk X' pins' H' b := fun hn hp b hb => by
    refine ⟨hn b hb, ?_, nofs b hb, .inl hb, fun y c e => (f2 b hb).2.2.2.2.1 y c (hsub y c e), fun p q z => ?_⟩
    · exact Nat.ne_of_lt (Nat.lt_of_lt_of_le (fplt b hb) (by omega : D ≤ C))
    · rcases List.mem_append.mp q with q | q
      · exact absurd (show p ∈ ([] : List (Addr × Obj)) from q) (by simp)
      · exact hp p q (by rw [z]; exact hb)
  have loop : ∀ tk, codeAny (model X.prog X.w) X.A (.compLoop (.ListComp elt [⟨.Name x px, iter, ifs, 0⟩] sc pos) 0 (.ref it) (.ref D) (compEnvC sc cl C X.env)) (compPost (model X.prog X.w) X.A X.xe none (EP X pins σ Q) (.ref D) C) { s2 with heap := h₁, toks := tk } := fun tk => by
    refine codeAny_compLoop_tests (fun n s' => ∃ i ys o H', Inv X' [] (o :: σ) H' s' ∧ tn i s'.heap ∧ (∀ b ∈ fp, H' b = none) ∧ W i n ys H') ?_ m0 ⟨0, [], none, _, I4 tk, T.keep _ _ _ st2 fun b hb o e => old b o e, fun b hb => ?_, w0⟩
    · rintro n s3 ⟨i, ys, o3, H3, I3, st3, fr3, w3⟩
      obtain ⟨hD3, alt⟩ := turn i n ys H3 w3
      rcases alt with ⟨stop, qn⟩ | ⟨go, hlen, step⟩
      · refine wpAny_mono (T.done X' rfl rfl rfl hc i [] s3 _ H3 (fun _ _ => False) I3 (fpX fr3 (by simp)) st3 stop) (fun r s4 hpq => ?_) fun _ _ f => f.elim
        obtain ⟨hr, I4'⟩ := hpq
        subst hr
        obtain ⟨mC, hnC, _⟩ := I4'.loc
        refine ⟨mC, hnC, fun h' hs' => ?_⟩
        have nC : ∀ b u, H3 b = some u → b ≠ C := fun b u e z => by rw [z] at e; rw [show H3 C = none from I4'.free] at e; cases e
        have hok' : HOk X.prog X.w H3 h' := fun b u e => (I4'.hok b u e).stay (fun c v hcc q => hs'.extBut c v (by
          rcases hcc with z | z
          · rw [z]; exact nC b u e
          · exact nC c _ z) q) (fun _ q => q) fun _ _ q => q
        have un : Un (frs X.stack) fp H2 H3 s2.heap h' :=
          ⟨fun b o e n1 n2 n3 => hs'.extBut b o (neC b o e) (I4'.base.keep b o e n1 n2 n3), fun b o e n1 n2 n3 => by
              obtain ⟨sl, q⟩ := I4'.base.slot b o e n1 n2 n3
              exact ⟨sl, hs'.extBut b _ (neC b o e) q⟩, I4'.base.free, fun b o e n1 => by
              obtain ⟨o', q⟩ := I4'.base.there b o e n1
              exact ⟨o', hs'.extBut b _ (neC b o e) q⟩, I4'.base.tups, I4'.base.frzs, I4'.base.tbls⟩
        exact ⟨.ref D, H3, I2.call' (s' := { s4 with heap := h' }) I4'.os un hok' I4'.bare fun b hb => ⟨(f2 b hb).2.2.2.1, (f2 b hb).2.1, (f2 b hb).2.2.2.2.1, (f2 b hb).2.2.2.2.2⟩, rfl, qn⟩
      · refine wpAny_mono (T.item X' rfl rfl rfl hc i [] s3 _ H3 (fun _ _ => False) I3 (fpX fr3 (by simp)) st3 go) (fun r s4 hpq => ?_) fun _ _ f => f.elim
        obtain ⟨u, hr, h4⟩ := hpq
        subst hr
        have eg : (letOwnedTupleGo (.Name x px) (.ref it) u >>= fun _ => assign (.Name x px) (compEnvC sc cl C X.env) u) = assign (.Name x px) (compEnvC sc cl C X.env) u := pure_bind () _
        show wpAny _ _ (assign (.Name x px) (compEnvC sc cl C X.env) u) _ _ s4
        rw [← eg]
        refine wpAny_bind (wpAny_mono h4 (fun _ s5 hpq => ?_) fun _ _ f => f.elim)
        obtain ⟨y, H5, I5, r5, y5, st5, fr5⟩ := hpq
        have I5' := I5.pinned (fpX fr5 (by simp)) (T.obj _ _ st5)
        refine wpAny_mono (pg_name (X := X') (i := 0) (pos := px) hN' rfl (.inl hx') (.inr hx') _ s5 _ H5 y u (fun σ' H' => σ' = some y :: σ ∧ H' = H5) I5' r5 ⟨rfl, rfl⟩) (fun _ s6 hpq => ?_) fun _ _ f => f.elim
        obtain ⟨σ6, H6, I6, e1, e2⟩ := hpq
        subst e1 e2
        refine wpAny_mono (PT' _ s6 _ _ _ I6 (step y _ y5)) (fun ok s7 hpq => ?_) fun _ _ f => f.elim
        obtain ⟨H7, I7, q7⟩ := hpq
        have again : ∀ {s8 : Shared} {H8 : Hp} {ys' : List V}, Inv X' ([] ++ pinsAt fp s5.heap) (some y :: σ) H8 s8 → (∃ m', m' < n ∧ W (i + 1) m' ys' H8) → ∃ m, m < n ∧ ∃ i ys o H', Inv X' [] (o :: σ) H' s8 ∧ tn i s8.heap ∧ (∀ b ∈ fp, H' b = none) ∧ W i m ys H' := fun {s8 H8 ys'} I8 ⟨m', hm, w8⟩ => by
          refine ⟨m', hm, i + 1, ys', some y, H8, I8.unpinned, T.keep _ _ _ st5 fun b hb o e => (I8.pin (b, o) (List.mem_append_right _ (List.mem_append_right _ (mem_pinsAt hb e)))).1, fun b hb => ?_, w8⟩
          obtain ⟨o, e, d⟩ := T.obj _ _ st5 b hb
          exact (I8.pin (b, o) (List.mem_append_right _ (List.mem_append_right _ (mem_pinsAt hb e)))).2.1
        cases ok with
        | false => exact again I7 q7
        | true =>
          have q7 : te (some y :: σ) H7 _ := q7
          refine wpAny_mono (PE' _ s7 _ _ _ I7 q7) (fun z s8 hpq => ?_) fun _ _ f => f.elim
          obtain ⟨yv, H8, I8, r8, hD8, q8⟩ := hpq
          refine wpAny_mono (mt_append (X := X') _ s8 _ H8 (.ref D) [yv] (.ref D) [z] (fun _ H9 => H9 = upd H8 D (.lst (ys ++ [yv]))) I8 rfl (.cons r8 .nil) ⟨D, ys, yv, rfl, rfl, hD8, hlen, rfl⟩) (fun _ s9 hpq => ?_) fun _ _ f => f.elim
          obtain ⟨_, H9, I9, _, e9⟩ := hpq
          subst e9
          exact again I9 q8
    · show upd H2 D (.lst []) b = none
      rw [upd_ne (Nat.ne_of_lt (fplt b hb))]
      exact (f2 b hb).1
  exact codeAny_compStart_list (loop _) (T.self _ _ _ _ _ (T.keep _ _ _ st2 fun b hb o e => old b o e) (loop _))
end
end L2
namespace RA
open PySem L2
def RowsL (H : Hp) (rows : List Addr) (Rs : List (List Int)) : Prop := rows.length = Rs.length ∧ ∀ (i : Nat) (r : Addr), rows[i]? = some r → ∃ R, Rs[i]? = some R ∧ H r = some (.lst (R.map V.int))
def RowsT (H : Hp) (rows : List Addr) (Rs : List (List Int)) : Prop := rows.length = Rs.length ∧ ∀ (i : Nat) (r : Addr), rows[i]? = some r → ∃ R, Rs[i]? = some R ∧ H r = some (.tup (R.map V.int))
def BadM (L : List Nat) (Rs : List (List Int)) (Bs : List Bool) : Prop := Rs.length = 0 ∨ Bs.length ≠ Rs.length ∨ ∃ R ∈ Rs, R.length ≠ L.length ∨ ∃ x ∈ R, ¬ (0 ≤ x ∧ x < (Rs.length : Int))
def MachI (H : Hp) (m : Addr) (L : List Nat) (Rs : List (List Int)) (Bs : List Bool) : Prop :=
  ∃ (wy mk : Addr) (rows : List Addr), H m = some (.tup [.str (tx L), .ref wy, .ref mk]) ∧ H wy = some (.tup (rows.map V.ref)) ∧ H mk = some (.tup (Bs.map V.bl)) ∧ RowsT H rows Rs
def flat3 : V → Bool
  | .bl _ => true
  | .int _ => true
  | .str _ => true
  | _ => false
def Like (H : Hp) : Nat → V → V → Prop
  | 0, x, y => x = y ∧ flat3 x = true
  | d + 1, x, y => (x = y ∧ flat3 x = true) ∨ ∃ p q xs ys, x = .ref p ∧ y = .ref q ∧ ((H p = some (.tup xs) ∧ H q = some (.tup ys)) ∨ (H p = some (.lst xs) ∧ H q = some (.lst ys))) ∧ xs.length = ys.length ∧ xs.length ≤ 1000 ∧
      ∀ (i : Nat) (x y : V), xs[i]? = some x → ys[i]? = some y → Like H d x y
theorem like_flat {H : Hp} {d : Nat} {x : V} (h : flat3 x = true) : Like H d x x := by
  cases d with
  | zero => exact ⟨rfl, h⟩
  | succ d => exact Or.inl ⟨rfl, h⟩
theorem like_flats {H : Hp} {d : Nat} {xs : List V} (h : xs.all flat3 = true) : ∀ (i : Nat) (x y : V), xs[i]? = some x → xs[i]? = some y → Like H d x y := fun i x y hx hy => by
  rw [hx] at hy
  cases hy
  exact like_flat (List.all_eq_true.mp h x (List.mem_of_getElem? hx))
def natR (W : List (List Nat)) : List (List Int) := W.map fun ws => ws.map fun (n : Nat) => (n : Int)
end RA
namespace RA
open PySem L2
end RA
namespace L2
end L2
namespace RA
open PySem L2
end RA
namespace L2
open PySem PySem.Spec PyProof.Rows
section
variable {κ : Type} [DecidableEq κ]
def valV (kvs : List (κ × V)) (k : κ) : Option V := (kvs.find? fun kv => decide (kv.1 = k)).map (·.2)
theorem valV_pos {p : κ × V} {r : List (κ × V)} {k : κ} (e : p.1 = k) : valV (p :: r) k = some p.2 := by simp [valV, List.find?_cons, e]
theorem valV_neg {p : κ × V} {r : List (κ × V)} {k : κ} (e : ¬ p.1 = k) : valV (p :: r) k = valV r k := by simp [valV, List.find?_cons, e]
theorem KV.val {kvs : List (κ × V)} {vs : List (κ × Value)} (r : KV kvs vs) (k : κ) : RelO (valV kvs k) (valueAt vs k) := by
  unfold KV at r
  induction r with
  | nil => exact True.intro
  | @cons p q ps qs h t ih =>
    obtain ⟨h1, h2⟩ := h
    by_cases e : p.1 = k
    · have e' : q.1 = k := h1.symm.trans e
      have b : valueAt (q :: qs) k = some q.2 := by simp [valueAt, List.find?_cons, e']
      rw [valV_pos e, b]; exact h2
    · have e' : ¬ q.1 = k := fun z => e (h1.trans z)
      have b : valueAt (q :: qs) k = valueAt qs k := by simp [valueAt, List.find?_cons, e']
      rw [valV_neg e, b]; exact ih
end
structure DictK (P : Program) (w : World) (K : PySem.W.Frag) (d : Addr) (kvs : List (Key × V)) : Prop where
  at_ : ∀ h : Heap, K.In h → ∃ vs, KV kvs vs ∧ h.DictOf (mixKind P w) d vs
  ns : (d == sysModules) = false
section
variable {X : Cx} {d : Addr} {kvs : List (Key × V)}
def rIxD (d : Addr) (kvs : List (Key × V)) : R2 := fun x y H Q => ∃ k v, x = .ref d ∧ y = kV k ∧ valV kvs k = some v ∧ Q v H
def tGetK (d : Addr) (kvs : List (Key × V)) (to : TE) (t : TA) : TE := fun σ H Q => to σ H fun x H1 => x = .ref d ∧ t σ H1 fun xs H2 => ∃ k z, xs = [kV k, z] ∧ Q ((valV kvs k).getD z) H2
end
end L2
namespace RA
section
variable {κ : Type} [DecidableEq κ]
def disA (acc : List κ) : List κ → List κ
  | [] => acc
  | k :: ks => disA (if k ∈ acc then acc else acc ++ [k]) ks
def dis (ks : List κ) : List κ := disA [] ks
def numF (ks : List κ) : List Nat := ks.map fun k => (dis ks).idxOf k
theorem disA_snoc (k : κ) : ∀ (ks acc : List κ), disA acc (ks ++ [k]) = if k ∈ disA acc ks then disA acc ks else disA acc ks ++ [k]
  | [], _ => rfl
  | _ :: ks, _ => disA_snoc k ks _
theorem disA_sub : ∀ (ks acc : List κ) (k : κ), k ∈ acc ∨ k ∈ ks ↔ k ∈ disA acc ks
  | [], acc, k => by simp [disA]
  | a :: ks, acc, k => by
    show _ ↔ k ∈ disA (if a ∈ acc then acc else acc ++ [a]) ks
    rw [← disA_sub ks]
    by_cases h : a ∈ acc
    · rw [if_pos h, List.mem_cons]
      constructor
      · rintro (x | rfl | x)
        · exact .inl x
        · exact .inl h
        · exact .inr x
      · rintro (x | x)
        · exact .inl x
        · exact .inr (.inr x)
    · rw [if_neg h, List.mem_cons, List.mem_append, List.mem_singleton]
      constructor
      · rintro (x | x | x)
        · exact .inl (.inl x)
        · exact .inl (.inr x)
        · exact .inr x
      · rintro ((x | x) | x)
        · exact .inl x
        · exact .inr (.inl x)
        · exact .inr (.inr x)
theorem mem_dis {ks : List κ} {k : κ} : k ∈ dis ks ↔ k ∈ ks := by
  rw [dis, ← disA_sub]
  simp
theorem dis_snoc (ks : List κ) (k : κ) : dis (ks ++ [k]) = if k ∈ dis ks then dis ks else dis ks ++ [k] := disA_snoc k ks []
theorem idx_inj {l : List κ} {a b : κ} (ha : a ∈ l) (h : l.idxOf a = l.idxOf b) : a = b := by
  have h1 : l.idxOf a < l.length := List.idxOf_lt_length_of_mem ha
  have h2 : l.idxOf b < l.length := by omega
  have e1 := List.getElem_idxOf h1
  have e2 := List.getElem_idxOf h2
  rw [← e1, ← e2]
  congr 1
theorem idxOf_leG {l : List κ} {c : κ} : ∀ {i : Nat}, l[i]? = some c → l.idxOf c ≤ i := by
  induction l with
  | nil => intro i e; simp at e
  | cons a l ih =>
    intro i e
    by_cases hac : a = c
    · subst hac
      rw [List.idxOf_cons_self]
      exact Nat.zero_le _
    · cases i with
      | zero => simp at e; exact absurd e hac
      | succ i =>
        have h1 := ih (i := i) (by simpa using e)
        have h2 : (a :: l).idxOf c = l.idxOf c + 1 := by
          rw [List.idxOf_cons, beq_eq_false_iff_ne.mpr hac]
          rfl
        omega
theorem numF_len (ks : List κ) : (numF ks).length = ks.length := by simp [numF]
theorem numF_get {ks : List κ} {i : Nat} {k : κ} (h : ks[i]? = some k) : (numF ks).getD i 0 = (dis ks).idxOf k := by
  rw [List.getD_eq_getElem?_getD, numF, List.getElem?_map, h]
  rfl
theorem numF_eq {ks : List κ} {i j : Nat} {a b : κ} (ha : ks[i]? = some a) (hb : ks[j]? = some b) : (numF ks).getD i 0 = (numF ks).getD j 0 ↔ a = b := by
  rw [numF_get ha, numF_get hb]
  constructor
  · exact idx_inj (mem_dis.mpr (List.mem_of_getElem? ha))
  · rintro rfl
    rfl
theorem idx_app {l m : List κ} {a : κ} (h : a ∈ l) : (l ++ m).idxOf a = l.idxOf a := by
  rw [List.idxOf_append, if_pos h]
theorem idx_new {l : List κ} {a : κ} (h : a ∉ l) : (l ++ [a]).idxOf a = l.length := by
  rw [List.idxOf_append, if_neg h]
  simp
theorem numF_same {κ' : Type} [DecidableEq κ'] : ∀ (n : Nat) (ks : List κ) (ks' : List κ'), ks.length = n → ks'.length = n →
    (∀ (i j : Nat) (a b : κ) (a' b' : κ'), ks[i]? = some a → ks[j]? = some b → ks'[i]? = some a' → ks'[j]? = some b' → (a = b ↔ a' = b')) →
    (dis ks).length = (dis ks').length ∧ ∀ (i : Nat) (a : κ) (a' : κ'), ks[i]? = some a → ks'[i]? = some a' → (dis ks).idxOf a = (dis ks').idxOf a' := by
  intro n
  induction n with
  | zero =>
    intro ks ks' h1 h2 _
    rw [List.length_eq_zero_iff] at h1 h2
    subst h1 h2
    exact ⟨rfl, fun i a a' h => by simp at h⟩
  | succ n ih =>
    intro ks ks' h1 h2 hp
    obtain ⟨k, l, rfl⟩ : ∃ k l, ks = l ++ [k] := ⟨ks.getLast (by intro z; rw [z] at h1; cases h1), ks.dropLast, (List.dropLast_concat_getLast _).symm⟩
    obtain ⟨k', l', rfl⟩ : ∃ k l, ks' = l ++ [k] := ⟨ks'.getLast (by intro z; rw [z] at h2; cases h2), ks'.dropLast, (List.dropLast_concat_getLast _).symm⟩
    have l1 : l.length = n := by simpa using h1
    have l2 : l'.length = n := by simpa using h2
    have up : ∀ {α : Type} {l : List α} {k : α} {i : Nat} {a : α}, l[i]? = some a → (l ++ [k])[i]? = some a := fun {α l k i a} e => by
      rw [List.getElem?_append_left (List.getElem?_eq_some_iff.mp e).1]
      exact e
    have last : (l ++ [k])[n]? = some k := by rw [List.getElem?_append_right (by omega), l1]; simp
    have last' : (l' ++ [k'])[n]? = some k' := by rw [List.getElem?_append_right (by omega), l2]; simp
    obtain ⟨q1, q2⟩ := ih l l' l1 l2 fun i j a b a' b' e1 e2 e3 e4 => hp i j a b a' b' (up e1) (up e2) (up e3) (up e4)
    have mm : k ∈ dis l ↔ k' ∈ dis l' := by
      rw [mem_dis, mem_dis]
      constructor
      · intro hm
        obtain ⟨i, hi⟩ := List.mem_iff_getElem?.mp hm
        have hlt : i < l'.length := by have := (List.getElem?_eq_some_iff.mp hi).1; omega
        have e := (hp i n k k l'[i] k' (up hi) last (up (List.getElem?_eq_getElem hlt)) last').mp rfl
        rw [← e]
        exact List.getElem_mem hlt
      · intro hm
        obtain ⟨i, hi⟩ := List.mem_iff_getElem?.mp hm
        have hlt : i < l.length := by have := (List.getElem?_eq_some_iff.mp hi).1; omega
        have e := (hp i n l[i] k k' k' (up (List.getElem?_eq_getElem hlt)) last (up hi) last').mpr rfl
        rw [← e]
        exact List.getElem_mem hlt
    have split : ∀ {i : Nat} {a : κ} {a' : κ'}, (l ++ [k])[i]? = some a → (l' ++ [k'])[i]? = some a' → (l[i]? = some a ∧ l'[i]? = some a') ∨ (i = n ∧ a = k ∧ a' = k') := fun {i a a'} e1 e2 => by
      by_cases hi : i < n
      · rw [List.getElem?_append_left (by omega)] at e1 e2
        exact .inl ⟨e1, e2⟩
      · have : i = n := by
          have := (List.getElem?_eq_some_iff.mp e1).1
          simp at this
          omega
        subst this
        rw [last] at e1
        rw [last'] at e2
        exact .inr ⟨rfl, (Option.some.inj e1).symm, (Option.some.inj e2).symm⟩
    rw [dis_snoc, dis_snoc]
    by_cases hm : k ∈ dis l
    · have hm' := mm.mp hm
      rw [if_pos hm, if_pos hm']
      refine ⟨q1, fun i a a' e1 e2 => ?_⟩
      rcases split e1 e2 with ⟨e1, e2⟩ | ⟨rfl, rfl, rfl⟩
      · exact q2 i a a' e1 e2
      · obtain ⟨j, hj⟩ := List.mem_iff_getElem?.mp (mem_dis.mp hm)
        have hlt : j < l'.length := by have := (List.getElem?_eq_some_iff.mp hj).1; omega
        have e := (hp j i a a l'[j] a' (up hj) last (up (List.getElem?_eq_getElem hlt)) last').mp rfl
        exact q2 j a a' hj (by rw [← e]; exact List.getElem?_eq_getElem hlt)
    · have hm' : k' ∉ dis l' := fun z => hm (mm.mpr z)
      rw [if_neg hm, if_neg hm']
      refine ⟨by simp [q1], fun i a a' e1 e2 => ?_⟩
      rcases split e1 e2 with ⟨e1, e2⟩ | ⟨rfl, rfl, rfl⟩
      · rw [idx_app (mem_dis.mpr (List.mem_of_getElem? e1)), idx_app (mem_dis.mpr (List.mem_of_getElem? e2))]
        exact q2 i a a' e1 e2
      · rw [idx_new hm, idx_new hm', q1]
theorem numF_canon {κ' : Type} [DecidableEq κ'] {ks : List κ} {ks' : List κ'} (hl : ks.length = ks'.length)
    (hp : ∀ (i j : Nat) (a b : κ) (a' b' : κ'), ks[i]? = some a → ks[j]? = some b → ks'[i]? = some a' → ks'[j]? = some b' → (a = b ↔ a' = b')) : numF ks = numF ks' := by
  obtain ⟨_, h⟩ := numF_same ks'.length ks ks' hl rfl hp
  refine List.ext_getElem? fun i => ?_
  by_cases hi : i < ks.length
  · have e1 : ks[i]? = some ks[i] := List.getElem?_eq_getElem hi
    have e2 : ks'[i]? = some (ks'[i]'(by omega)) := List.getElem?_eq_getElem (by omega)
    rw [numF, numF, List.getElem?_map, List.getElem?_map, e1, e2]
    exact congrArg some (h i _ _ e1 e2)
  · rw [List.getElem?_eq_none (by rw [numF_len]; omega), List.getElem?_eq_none (by rw [numF_len]; omega)]
end
def keyAt (W : List (List Nat)) (lots : List Nat) (i : Nat) : Nat × List Nat := (lots.getD i 0, (W.getD i []).map fun g => lots.getD g 0)
def keysOf (W : List (List Nat)) (lots : List Nat) : List (Nat × List Nat) := (List.range W.length).map (keyAt W lots)
def Rd (W : List (List Nat)) (B : List Bool) : Nat → List Nat
  | 0 => numF B
  | k + 1 => numF (keysOf W (Rd W B k))
theorem keysOf_get {W : List (List Nat)} {lots : List Nat} {i : Nat} (h : i < W.length) : (keysOf W lots)[i]? = some (keyAt W lots i) := by
  rw [keysOf, List.getElem?_map, List.getElem?_range h]
  rfl
theorem keysOf_len (W : List (List Nat)) (lots : List Nat) : (keysOf W lots).length = W.length := by simp [keysOf]
theorem Rd_len {L : List Nat} {W : List (List Nat)} {B : List Bool} (h : Mach L W B) : ∀ k, (Rd W B k).length = W.length
  | 0 => by rw [Rd, numF_len, h.bl]
  | k + 1 => by rw [Rd, numF_len, keysOf_len]
def lot (W : List (List Nat)) (B : List Bool) (k r : Nat) : Nat := (Rd W B k).getD r 0
theorem lot_zero {L : List Nat} {W : List (List Nat)} {B : List Bool} (h : Mach L W B) {r s : Nat} (hr : r < W.length) (hs : s < W.length) : lot W B 0 r = lot W B 0 s ↔ B.getD r false = B.getD s false := by
  have e1 : B[r]? = some (B[r]'(by rw [h.bl]; exact hr)) := List.getElem?_eq_getElem _
  have e2 : B[s]? = some (B[s]'(by rw [h.bl]; exact hs)) := List.getElem?_eq_getElem _
  rw [lot, lot, Rd, numF_eq e1 e2, List.getD_eq_getElem?_getD, List.getD_eq_getElem?_getD, e1, e2]
  rfl
theorem row_of {L : List Nat} {W : List (List Nat)} {B : List Bool} (h : Mach L W B) {r : Nat} (hr : r < W.length) : (W.getD r []).length = L.length ∧ ∀ x ∈ W.getD r [], x < W.length := by
  have e : W.getD r [] = W[r] := by rw [List.getD_eq_getElem?_getD, List.getElem?_eq_getElem hr]; rfl
  rw [e]
  exact h.row _ (List.getElem_mem hr)
def goal (W : List (List Nat)) (r i : Nat) : Nat := (W.getD r []).getD i 0
theorem goal_lt {L : List Nat} {W : List (List Nat)} {B : List Bool} (h : Mach L W B) {r i : Nat} (hr : r < W.length) (hi : i < L.length) : goal W r i < W.length := by
  obtain ⟨h1, h2⟩ := row_of h hr
  rw [goal, List.getD_eq_getElem?_getD, List.getElem?_eq_getElem (by omega)]
  exact h2 _ (List.getElem_mem _)
theorem nxt_goal (L : List Nat) (W : List (List Nat)) (r c : Nat) : nxt L W r c = goal W r (L.idxOf c) := rfl
theorem lot_succ {L : List Nat} {W : List (List Nat)} {B : List Bool} (h : Mach L W B) {k r s : Nat} (hr : r < W.length) (hs : s < W.length) :
    lot W B (k + 1) r = lot W B (k + 1) s ↔ lot W B k r = lot W B k s ∧ ∀ i < L.length, lot W B k (goal W r i) = lot W B k (goal W s i) := by
  rw [lot, lot, Rd, numF_eq (keysOf_get hr) (keysOf_get hs), keyAt, keyAt, Prod.mk.injEq]
  obtain ⟨a1, _⟩ := row_of h hr
  obtain ⟨b1, _⟩ := row_of h hs
  refine and_congr Iff.rfl ⟨fun e i hi => ?_, fun e => List.ext_getElem? fun i => ?_⟩
  · have := congrArg (fun l => l[i]?) e
    simp only [List.getElem?_map] at this
    rw [List.getElem?_eq_getElem (by omega), List.getElem?_eq_getElem (by omega)] at this
    rw [goal, goal, List.getD_eq_getElem?_getD (l := W.getD r []), List.getD_eq_getElem?_getD (l := W.getD s []), List.getElem?_eq_getElem (by omega), List.getElem?_eq_getElem (by omega)]
    exact Option.some.inj this
  · by_cases hi : i < L.length
    · have := e i hi
      rw [goal, goal, List.getD_eq_getElem?_getD (l := W.getD r []), List.getD_eq_getElem?_getD (l := W.getD s []), List.getElem?_eq_getElem (by omega), List.getElem?_eq_getElem (by omega)] at this
      rw [List.getElem?_map, List.getElem?_map, List.getElem?_eq_getElem (by omega), List.getElem?_eq_getElem (by omega)]
      exact congrArg some this
    · rw [List.getElem?_map, List.getElem?_map, List.getElem?_eq_none (by omega), List.getElem?_eq_none (by omega)]
theorem lot_mono {L : List Nat} {W : List (List Nat)} {B : List Bool} (h : Mach L W B) {r s : Nat} (hr : r < W.length) (hs : s < W.length) {k : Nat} : ∀ {j : Nat}, j ≤ k → lot W B k r = lot W B k s → lot W B j r = lot W B j s := by
  induction k with
  | zero => intro j hj e; rw [Nat.le_zero.mp hj]; exact e
  | succ k ih =>
    intro j hj e
    by_cases hjk : j = k + 1
    · subst hjk; exact e
    · exact ih (by omega) ((lot_succ h hr hs).mp e).1
theorem lot_words {L : List Nat} {W : List (List Nat)} {B : List Bool} (h : Mach L W B) : ∀ {k : Nat} {w : List Nat} {r s : Nat}, r < W.length → s < W.length → w.length ≤ k → (∀ c ∈ w, c ∈ L) → lot W B k r = lot W B k s → B.getD (run L W r w) false = B.getD (run L W s w) false
  | k, [], r, s, hr, hs, _, _, e => (lot_zero h hr hs).mp (lot_mono h hr hs (Nat.zero_le k) e)
  | 0, c :: w, r, s, hr, hs, hl, _, e => by simp at hl
  | k + 1, c :: w, r, s, hr, hs, hl, hw, e => by
    have hi : L.idxOf c < L.length := List.idxOf_lt_length_of_mem (hw c (by simp))
    exact lot_words h (k := k) (w := w) (goal_lt h hr hi) (goal_lt h hs hi) (by simpa using hl) (fun d hd => hw d (by simp [hd])) (((lot_succ h hr hs).mp e).2 _ hi)
def twins (n : Nat) (lots : List Nat) : Nat := (List.range (n * n)).countP fun x => decide (lots.getD (x / n) 0 = lots.getD (x % n) 0)
theorem countP_lt {α : Type} {p q : α → Bool} : ∀ {l : List α}, (∀ x ∈ l, p x = true → q x = true) → (∃ x ∈ l, q x = true ∧ p x = false) → l.countP p < l.countP q
  | [], _, ⟨x, hx, _⟩ => by simp at hx
  | a :: l, hi, ⟨x, hx, hq, hp⟩ => by
    have le : l.countP p ≤ l.countP q := List.countP_mono_left fun y hy => hi y (by simp [hy])
    rw [List.countP_cons, List.countP_cons]
    rcases List.mem_cons.mp hx with rfl | hx
    · rw [hq, hp]
      simp
      omega
    · have := countP_lt (l := l) (fun y hy => hi y (by simp [hy])) ⟨x, hx, hq, hp⟩
      have h1 := hi a (by simp)
      cases hpa : p a with
      | false => simp; omega
      | true => rw [h1 hpa]; simp; omega
theorem twins_lt {L : List Nat} {W : List (List Nat)} {B : List Bool} (h : Mach L W B) {k : Nat} (e : Rd W B (k + 1) ≠ Rd W B k) : twins W.length (Rd W B (k + 1)) < twins W.length (Rd W B k) := by
  have hn := h.n1
  have cell : ∀ x ∈ List.range (W.length * W.length), x / W.length < W.length ∧ x % W.length < W.length := fun x hx => by
    have hx := List.mem_range.mp hx
    exact ⟨Nat.div_lt_of_lt_mul hx, Nat.mod_lt _ (by omega)⟩
  refine countP_lt (fun x hx hp => ?_) ?_
  · obtain ⟨c1, c2⟩ := cell x hx
    have q : lot W B (k + 1) (x / W.length) = lot W B (k + 1) (x % W.length) := of_decide_eq_true hp
    exact decide_eq_true ((lot_succ h c1 c2).mp q).1
  · refine Classical.byContradiction fun no => e ?_
    have pat : ∀ r s, r < W.length → s < W.length → (lot W B (k + 1) r = lot W B (k + 1) s ↔ lot W B k r = lot W B k s) := fun r s hr hs => by
      refine ⟨fun q => ((lot_succ h hr hs).mp q).1, fun q => Classical.byContradiction fun nq => no ⟨r * W.length + s, ?_, ?_, ?_⟩⟩
      · rw [List.mem_range]
        calc r * W.length + s < r * W.length + W.length := by omega
          _ = (r + 1) * W.length := by rw [Nat.succ_mul]
          _ ≤ W.length * W.length := Nat.mul_le_mul_right _ hr
      · have d1 : (r * W.length + s) / W.length = r := by rw [Nat.mul_comm, Nat.mul_add_div (by omega), Nat.div_eq_of_lt hs]; omega
        have d2 : (r * W.length + s) % W.length = s := by rw [Nat.mul_comm, Nat.mul_add_mod, Nat.mod_eq_of_lt hs]
        simp only [d1, d2]
        exact decide_eq_true q
      · have d1 : (r * W.length + s) / W.length = r := by rw [Nat.mul_comm, Nat.mul_add_div (by omega), Nat.div_eq_of_lt hs]; omega
        have d2 : (r * W.length + s) % W.length = s := by rw [Nat.mul_comm, Nat.mul_add_mod, Nat.mod_eq_of_lt hs]
        simp only [d1, d2]
        exact decide_eq_false nq
    cases k with
    | zero =>
      show numF (keysOf W (Rd W B 0)) = numF B
      refine numF_canon (by rw [keysOf_len, h.bl]) fun i j a b a' b' e1 e2 e3 e4 => ?_
      have hi : i < W.length := by have := (List.getElem?_eq_some_iff.mp e1).1; rwa [keysOf_len] at this
      have hj : j < W.length := by have := (List.getElem?_eq_some_iff.mp e2).1; rwa [keysOf_len] at this
      rw [← numF_eq e1 e2, ← numF_eq e3 e4]
      exact pat i j hi hj
    | succ k =>
      show numF (keysOf W (Rd W B (k + 1))) = numF (keysOf W (Rd W B k))
      refine numF_canon (by rw [keysOf_len, keysOf_len]) fun i j a b a' b' e1 e2 e3 e4 => ?_
      have hi : i < W.length := by have := (List.getElem?_eq_some_iff.mp e1).1; rwa [keysOf_len] at this
      have hj : j < W.length := by have := (List.getElem?_eq_some_iff.mp e2).1; rwa [keysOf_len] at this
      rw [← numF_eq e1 e2, ← numF_eq e3 e4]
      exact pat i j hi hj
def parts (W : List (List Nat)) (B : List Bool) (k r s : Nat) : List Bool := ((W.getD r []).zip (W.getD s [])).map fun p => decide (lot W B k p.1 = lot W B k p.2)
def place (W : List (List Nat)) (B : List Bool) (k r s : Nat) : Nat := (parts W B k r s).idxOf false
def pw (L : List Nat) (W : List (List Nat)) (B : List Bool) : Nat → Nat → Nat → List Nat
  | 0, _, _ => []
  | k + 1, r, s => L.getD (place W B k r s) 0 :: pw L W B k (goal W r (place W B k r s)) (goal W s (place W B k r s))
theorem parts_get {L : List Nat} {W : List (List Nat)} {B : List Bool} (h : Mach L W B) {k r s i : Nat} (hr : r < W.length) (hs : s < W.length) (hi : i < L.length) : (parts W B k r s)[i]? = some (decide (lot W B k (goal W r i) = lot W B k (goal W s i))) := by
  obtain ⟨a1, _⟩ := row_of h hr
  obtain ⟨b1, _⟩ := row_of h hs
  rw [parts, List.getElem?_map, goal, goal, List.getD_eq_getElem?_getD (l := W.getD r []), List.getD_eq_getElem?_getD (l := W.getD s [])]
  have e : ((W.getD r []).zip (W.getD s []))[i]? = some ((W.getD r [])[i]'(by omega), (W.getD s [])[i]'(by omega)) := by
    rw [List.getElem?_zip_eq_some]
    exact ⟨List.getElem?_eq_getElem _, List.getElem?_eq_getElem _⟩
  rw [e, List.getElem?_eq_getElem (by omega), List.getElem?_eq_getElem (by omega)]
  rfl
theorem parts_len {L : List Nat} {W : List (List Nat)} {B : List Bool} (h : Mach L W B) {k r s : Nat} (hr : r < W.length) (hs : s < W.length) : (parts W B k r s).length = L.length := by
  obtain ⟨a1, _⟩ := row_of h hr
  obtain ⟨b1, _⟩ := row_of h hs
  rw [parts, List.length_map, List.length_zip]
  omega
theorem place_of {L : List Nat} {W : List (List Nat)} {B : List Bool} (h : Mach L W B) {k r s : Nat} (hr : r < W.length) (hs : s < W.length) (ne : lot W B (k + 1) r ≠ lot W B (k + 1) s) (eq : lot W B k r = lot W B k s) :
    place W B k r s < L.length ∧ lot W B k (goal W r (place W B k r s)) ≠ lot W B k (goal W s (place W B k r s)) ∧ ∀ i < place W B k r s, lot W B k (goal W r i) = lot W B k (goal W s i) := by
  have hm : false ∈ parts W B k r s := by
    refine Classical.byContradiction fun no => ne ((lot_succ h hr hs).mpr ⟨eq, fun i hi => Classical.byContradiction fun q => no ?_⟩)
    have := parts_get h (k := k) hr hs hi
    rw [decide_eq_false q] at this
    exact List.mem_of_getElem? this
  have hlt : place W B k r s < (parts W B k r s).length := List.idxOf_lt_length_of_mem hm
  have hL : place W B k r s < L.length := by rw [parts_len h hr hs] at hlt; exact hlt
  refine ⟨hL, ?_, fun i hi => ?_⟩
  · have e1 := List.getElem_idxOf hlt
    have e2 := parts_get h (k := k) hr hs hL
    rw [List.getElem?_eq_getElem hlt] at e2
    have e3 : decide (lot W B k (goal W r (place W B k r s)) = lot W B k (goal W s (place W B k r s))) = false := by
      rw [← Option.some.inj e2]
      exact e1
    exact of_decide_eq_false e3
  · have e2 := parts_get h (k := k) hr hs (i := i) (by omega)
    refine Classical.byContradiction fun q => ?_
    rw [decide_eq_false q] at e2
    have : (parts W B k r s).idxOf false ≤ i := by
      have hi2 := (List.getElem?_eq_some_iff.mp e2)
      obtain ⟨h1, h2⟩ := hi2
      exact idxOf_leG e2
    have h9 : place W B k r s ≤ i := this
    omega
theorem zip_turn {f g : Nat × Nat → Bool} (h : ∀ a b, f (a, b) = g (b, a)) : ∀ (l m : List Nat), (l.zip m).map f = (m.zip l).map g
  | [], [] => rfl
  | [], _ :: _ => rfl
  | _ :: _, [] => rfl
  | a :: l, b :: m => by
    rw [List.zip_cons_cons, List.zip_cons_cons, List.map_cons, List.map_cons, h, zip_turn h l m]
def PartOf (L : List Nat) (W : List (List Nat)) (B : List Bool) (r s : Nat) (o : Option (List Nat)) : Prop :=
  (o = none ∧ ∀ k, lot W B k r = lot W B k s) ∨ ∃ k, o = some (pw L W B k r s) ∧ lot W B k r ≠ lot W B k s ∧ ∀ j < k, lot W B j r = lot W B j s
end RA
namespace L2
open PySem PySem.Spec PyProof.Rows
def isBl (b : Bool) : Value → Bool
  | .bool c => c == b
  | _ => false
theorem isBl_shape {b : Bool} {v : Value} (h : isBl b v = true) : v = .bool b := by
  cases v with
  | bool c => rw [eq_of_beq (show (c == b) = true from h)]
  | _ => exact absurd (show false = true from h) Bool.false_ne_true
def boolKind (P : Program) (w : World) : PySem.KeyKind P w Bool where
  is := isBl
  hash := fun b => reduceHash (if b then 1 else 0)
  inj := fun v a b ha hb => by
    have e := (isBl_shape ha).symm.trans (isBl_shape hb)
    cases e
    rfl
  byValue := fun k v h => by rw [isBl_shape h]; rfl
  pyHash := fun {A E s k v Q} h q => by
    cases isBl_shape h
    refine PySem.W.pyHash_slot (T := "bool") rfl F.slot_bool_hash entry_int_hash (args_int_hash _) (beq_builtin_none _) (.inl rfl) ?_
    cases k
    · exact (show wpAny _ _ (do ret (← mkInt 0)) _ _ s from wpAny_bind (wpAny_mkInt (wpAny_pure ⟨_, _, rfl, q⟩)))
    · exact (show wpAny _ _ (do ret (← mkInt 1)) _ _ s from wpAny_bind (wpAny_mkInt (wpAny_pure ⟨_, _, rfl, q⟩)))
  eqBool := fun {A E s a b u v Q} ha hb q => by
    cases isBl_shape ha
    cases isBl_shape hb
    have e : (a == b) = decide (a = b) := by cases a <;> cases b <;> rfl
    exact SeqAt.EqAt.bool_bool a b _ _ _ _ (by rw [e]; exact q)
  «strs» := fun k x t v h => absurd (show false = true from h) Bool.false_ne_true
abbrev NK := Nat × List Nat
def zs (ks : List Nat) : List Int := ks.map fun (n : Nat) => (n : Int)
theorem zs_inj {a b : List Nat} (h : zs a = zs b) : a = b := by
  induction a generalizing b with
  | nil => cases b with
    | nil => rfl
    | cons y b => cases h
  | cons x a ih => cases b with
    | nil => cases h
    | cons y b =>
      have h : ((x : Int) :: zs a) = ((y : Int) :: zs b) := h
      injection h with h1 h2
      rw [ih h2, Int.ofNat.inj h1]
section
variable (P : Program) (w : World)
def NestAt (h : Heap) (k : NK) (a : Addr) : Prop := ∃ (o : Obj) (n : Nat) (t : Tok) (b : Addr), h.get? a = some o ∧ o.cls = .type "tuple" ∧ o.data = .seq #[.int (k.1 : Int) t, .ref b] n ∧ IsTupleKey (intKind P w) h (zs k.2) b
def nestHash (k : NK) : Int := reduceHash (Builtin.Tuple.tupleHashOf [hashInt (k.1 : Int), tupleKeyHash (intKind P w) (zs k.2)])
end
section
variable {P : Program} {w : World}
theorem NestAt.inj {h : Heap} {a : Addr} {x y : NK} (hx : NestAt P w h x a) (hy : NestAt P w h y a) : x = y := by
  obtain ⟨o, n, t, b, h1, _, h3, h4⟩ := hx
  obtain ⟨o', n', t', b', g1, _, g3, g4⟩ := hy
  rw [h1] at g1
  cases g1
  rw [h3] at g3
  injection g3 with e1 _
  have e2 : [Value.int (x.1 : Int) t, .ref b] = [Value.int (y.1 : Int) t', .ref b'] := congrArg Array.toList e1
  injection e2 with e3 e4
  injection e3 with e5 _
  injection e4 with e6 _
  injection e6 with e7
  subst e7
  have e8 := zs_inj (h4.inj g4)
  have e9 : x.1 = y.1 := Int.ofNat.inj e5
  obtain ⟨x1, x2⟩ := x
  obtain ⟨y1, y2⟩ := y
  simp only at e8 e9
  rw [e8, e9]
theorem NestAt.keeps {h h' : Heap} {k : NK} {a d : Addr} {o : Obj} {es ep} (x : NestAt P w h k a) (ho : h.get? d = some o) (hd : o.data = .dict es ep) (hs : Heap.SameBut d h h') : NestAt P w h' k a := by
  obtain ⟨o', n, t, b, h1, h2, h3, h4⟩ := x
  refine ⟨o', n, t, b, (hs.2 a ?_).trans h1, h2, h3, h4.keeps ho hd hs⟩
  rintro rfl
  rw [h1] at ho
  cases ho
  rw [h3] at hd
  cases hd
theorem NestAt.tup {h : Heap} {k : NK} {a : Addr} (x : NestAt P w h k a) : ∃ t b, h.IsTuple a #[.int (k.1 : Int) t, .ref b] ∧ IsTupleKey (intKind P w) h (zs k.2) b := by
  obtain ⟨o, n, t, b, h1, h2, h3, h4⟩ := x
  exact ⟨t, b, ⟨o, h1, h2, n, h3⟩, h4⟩
theorem nest_hash {A : Around} {E : Value → Shared → Prop} {s : Shared} {k : NK} {a : Addr} {Q : Int → Shared → Prop} (hu : A.units + 1 < cLine) (x : NestAt P w s.heap k a) (q : Q (nestHash P w k) { s with toks := s.toks + (k.2.length + 3) }) :
    wpAny (model P w) A (pyHash (.ref a)) Q E s := by
  obtain ⟨o, n, t, b, h1, h2, h3, h4⟩ := x
  refine PySem.W.pyHash_slot (T := "tuple") ⟨o, h1, h2⟩ F.slot_tuple_hash F.entry_tuple_hash (F.args_tuple_hash_1 _) (beq_builtin_none _) (.inr (by omega)) ?_
  refine wpAny_bind (m := Builtin.Tuple.tupleItemsOf (.ref a)) (wpAny_tupleItemsOf h1 h3 (wpAny_bind ?_))
  rw [← Array.forIn_toList]
  show wpAny _ _ (forIn [Value.int (k.1 : Int) t, .ref b] _ _) _ _ _
  rw [List.forIn_cons]
  refine wpAny_bind (wpAny_bind (wpAny_pyHash_int (wpAny_bind (wpAny_pure (wpAny_pure ?_)))))
  dsimp only
  rw [List.forIn_cons]
  refine wpAny_bind (wpAny_bind (wpAny_pyHash_tuple (knd := intKind P w) (by show A.in1.units < cLine; rw [Around.in1_units]; exact hu) h4 (wpAny_bind (wpAny_pure (wpAny_pure ?_)))))
  dsimp only
  rw [List.forIn_nil]
  refine wpAny_pure ?_
  refine wpAny_bind (wpAny_mkInt (wpAny_pure ⟨_, _, rfl, ?_⟩))
  have e : s.toks + 1 + ((zs k.2).length + 1) + 1 = s.toks + (k.2.length + 3) := by
    have : (zs k.2).length = k.2.length := by simp [zs]
    omega
  simpa [e, nestHash] using q
theorem tk_any {P' : Program} {w' : World} {h : Heap} {ks : List Int} {b : Addr} (x : IsTupleKey (intKind P w) h ks b) : IsTupleKey (intKind P' w') h ks b := by
  obtain ⟨o, its, n, h1, h2, h3, h4⟩ := x
  refine ⟨o, its, n, h1, h2, h3, ?_⟩
  generalize its.toList = l at h4 ⊢
  induction h4 with
  | nil => exact .nil
  | cons a _ ih => exact .cons a ih
theorem nest_eq {A : Around} {s : Shared} {x y : NK} {a b : Addr} (hu : A.units + 1 < cLine) (hx : NestAt P w s.heap x a) (hy : NestAt P w s.heap y b) (E : Value → Shared → Prop) (Q : Bool → Shared → Prop) (q : Q (decide (x = y)) s) :
    wpAny (model P w) A (eqBool (.ref a) (.ref b)) Q E s := by
  by_cases hab : a = b
  · subst hab
    have e := hx.inj hy
    rw [decide_eq_true e] at q
    exact SeqAt.EqAt.same (.ref a) P w E Q q
  · obtain ⟨t, c, h1, h2⟩ := hx.tup
    obtain ⟨u, d, g1, g2⟩ := hy.tup
    have hu1 : A.in1.units < cLine := by rw [Around.in1_units]; exact hu
    have inner : SeqAt.EqAt A.in1 s (.ref c) (.ref d) (decide (zs x.2 = zs y.2)) := fun P' w' E' Q' q' => wpAny_eqBool_tuple (knd := intKind P' w') hu1 (tk_any h2) (tk_any g2) q'
    have all := SeqAt.EqAt.of_refs (A := A) hab (SeqAt.RcAt.tuples (s := s) (e := fun j => if j = 0 then ((x.1 : Int) == (y.1 : Int)) else decide (zs x.2 = zs y.2)) h1 g1 (by omega) (fun j l1 l2 => by
      match j, l1, l2 with
      | 0, _, _ => exact SeqAt.EqAt.int_int _ t _ u
      | 1, _, _ => exact inner
      | n + 2, l1, _ => exact absurd l1 (by show ¬ (n + 2 < 2); omega)))
    refine all P w E Q ?_
    have e : ((List.range (min (#[Value.int (x.1 : Int) t, .ref c] : Array Value).size (#[Value.int (y.1 : Int) u, .ref d] : Array Value).size)).all (fun j => if j = 0 then ((x.1 : Int) == (y.1 : Int)) else decide (zs x.2 = zs y.2)) && (#[Value.int (x.1 : Int) t, .ref c] : Array Value).size == (#[Value.int (y.1 : Int) u, .ref d] : Array Value).size) = decide (x = y) := by
      show (((x.1 : Int) == (y.1 : Int)) && (decide (zs x.2 = zs y.2) && true) && true) = _
      obtain ⟨x1, x2⟩ := x
      obtain ⟨y1, y2⟩ := y
      by_cases e1 : x1 = y1
      · by_cases e2 : x2 = y2
        · subst e1 e2
          simp
        · have : zs x2 ≠ zs y2 := fun z => e2 (zs_inj z)
          simp [e1, e2, this]
      · have : ¬ ((x1 : Int) = (y1 : Int)) := fun z => e1 (Int.ofNat.inj z)
        simp [e1, this]
    rw [e]
    exact q
theorem quiet_in {A : Around} {E : Value → Shared → Prop} {s : Shared} {n : Nat} {a : Addr} {items : Array Value} {Q : Bool → Shared → Prop} (x : s.heap.IsTuple a items) (hi : ∀ v ∈ items.toList, ∀ (R : Bool → Shared → Prop), R true s → wpAny (model P w) A (eqIsQuiet n v) R E s) (q : Q true s) :
    wpAny (model P w) A (eqIsQuiet (n + 1) (.ref a)) Q E s := by
  obtain ⟨o, h1, h2, m, h3⟩ := x
  have hT : s.TypeIs (.ref a) "tuple" := ⟨o, h1, h2⟩
  unfold eqIsQuiet
  refine wpAny_bind (wpAny_specialOf hT F.slot_tuple_eq.lookup (wpAny_bind (m := isInstance (.ref a) (.type "tuple")) (wpAny_isInstance hT isSubtype_tuple_tuple ?_)))
  simp only [Bool.not_true, Bool.false_eq_true, if_false]
  refine wpAny_bind (wpAny_seqItems h1 h3 (wpAny_bind ?_))
  show wpAny _ _ (forIn items _ _) _ _ _
  rw [← Array.forIn_toList]
  refine wpAny_forIn_list _ (fun rest r s' => r.1 = none ∧ s' = s ∧ ∀ v ∈ rest, v ∈ items.toList) _ ?_ ?_ _ _ ⟨rfl, rfl, fun v hv => hv⟩
  · rintro v rest r s' ⟨hr, rfl, all⟩
    refine wpAny_bind (hi v (all v List.mem_cons_self) _ ?_)
    simp only [Bool.not_true, Bool.false_eq_true, if_false]
    exact wpAny_pure ⟨rfl, rfl, fun u hu => all u (List.mem_cons_of_mem _ hu)⟩
  · rintro ⟨r1, r2⟩ s' ⟨hr, rfl, _⟩
    simp only at hr
    subst hr
    exact wpAny_pure q
theorem nest_quiet {A : Around} {E : Value → Shared → Prop} {s : Shared} {k : NK} {a : Addr} {Q : Bool → Shared → Prop} (x : NestAt P w s.heap k a) (q : Q true s) : wpAny (model P w) A (eqIsQuiet 8 (.ref a)) Q E s := by
  obtain ⟨t, b, h1, h2⟩ := x.tup
  refine quiet_in (n := 7) h1 (fun v hv R r => ?_) q
  have hv : v ∈ [Value.int (k.1 : Int) t, .ref b] := hv
  rcases List.mem_cons.mp hv with rfl | hv
  · rw [eqIsQuiet_byValue _ rfl]
    exact wpAny_pure r
  · rw [List.mem_singleton.mp hv]
    obtain ⟨o, its, n, g1, g2, g3, g4⟩ := h2
    refine quiet_in (n := 6) ⟨o, g1, g2, n, g3⟩ (fun v hv R r => ?_) r
    rw [eqIsQuiet_byValue _ (g4.byValue v hv)]
    exact wpAny_pure r
end
def nestKind (P : Program) (w : World) : HeapKind P w NK where
  is := NestAt P w
  hash := nestHash P w
  draws := fun k => k.2.length + 3
  room := fun A => A.units + 1 < cLine
  inj := fun a b => a.inj b
  keeps := fun x ho hd hs => x.keeps ho hd hs
  pyHash := fun hu hk h => nest_hash hu hk h
  eqBool := fun hu hx hy h => nest_eq hu hx hy _ _ h
  quiet := fun hk h => nest_quiet hk h
end L2
namespace L2
open PySem PySem.Spec PyProof.Rows
structure HKd (P : Program) (w : World) (κ : Type) [DecidableEq κ] where
  knd : HeapKind P w κ
  kin : Hp → κ → Addr → Prop
  ok : ∀ {H : Hp} {h : Heap} {k : κ} {a : Addr}, kin H k a → HOk P w H h → knd.is h k a
  room : ∀ {A : Around}, A.units + 64 < cLine → knd.room A.in1 ∧ knd.room A
  stay : ∀ {H H' : Hp} {k : κ} {a : Addr}, (∀ b xs, H b = some (.tup xs) → H' b = some (.tup xs)) → kin H k a → kin H' k a
def TIn (H : Hp) (k : List Int) (a : Addr) : Prop := H a = some (.tup (k.map V.int))
def NIn (H : Hp) (k : NK) (a : Addr) : Prop := ∃ b, H a = some (.tup [.int (k.1 : Int), .ref b]) ∧ H b = some (.tup ((zs k.2).map V.int))
theorem items_int {P : Program} {w : World} : ∀ {ks : List Int} {us : List Value}, Vals (ks.map V.int) us → ItemsAre (intKind P w) ks us
  | [], _, r => by rw [List.map_nil] at r; cases r; exact .nil
  | k :: ks, _, r => by
    rw [List.map_cons] at r
    cases r with
    | cons h t =>
      obtain ⟨u, rfl⟩ := (show ∃ t, _ = Value.int k t from h)
      exact .cons (by show Value.isInt k (.int k u) = true; simp [Value.isInt]) (items_int t)
theorem tin_ok {P : Program} {w : World} {H : Hp} {h : Heap} {k : List Int} {a : Addr} (e : TIn H k a) (ok : HOk P w H h) : IsTupleKey (intKind P w) h k a := by
  obtain ⟨_, its, r, o, h1, h2, n, h3⟩ := (show ObjOk P w H h a (.tup (k.map V.int)) from ok a _ e)
  exact ⟨o, its.toArray, n, h1, h2, h3, by simpa using items_int r⟩
def pairD (P : Program) (w : World) : HKd P w (List Int) where
  knd := tupleKind (intKind P w)
  kin := TIn
  ok := fun e ok => tin_ok e ok
  room := fun {A} hu => ⟨by show A.in1.units < cLine; rw [Around.in1_units]; omega, by show A.units < cLine; omega⟩
  stay := fun s e => s _ _ e
def nestD (P : Program) (w : World) : HKd P w NK where
  knd := nestKind P w
  kin := NIn
  ok := fun {H h k a} e ok => by
    obtain ⟨b, e1, e2⟩ := e
    obtain ⟨_, its, r, o, h1, h2, n, h3⟩ := (show ObjOk P w H h a (.tup [.int (k.1 : Int), .ref b]) from ok a _ e1)
    obtain ⟨u1, u2, rfl, r1, r2⟩ := vals2 r
    obtain ⟨t, rfl⟩ := (show ∃ t, u1 = Value.int (k.1 : Int) t from r1)
    cases (show u2 = Value.ref b from r2)
    exact ⟨o, n, t, b, h1, h2, h3, tin_ok e2 ok⟩
  room := fun {A} hu => ⟨by show A.in1.units + 1 < cLine; rw [Around.in1_units]; omega, by show A.units + 1 < cLine; omega⟩
  stay := fun s ⟨b, e1, e2⟩ => ⟨b, s _ _ e1, s _ _ e2⟩
def kdO {P : Program} {w : World} {κ : Type} [DecidableEq κ] (knd : PySem.KeyKind P w κ) (d : Addr) (kvs : List (κ × V)) : HO := .ext fun h => (d == sysModules) = false ∧ kvs.length ≤ sizeLine ∧ ∃ vs, KV kvs vs ∧ h.DictOf knd d vs
abbrev KHr (κ : Type) : (κ × Addr × V) → (κ × Addr × Value) → Prop := fun p q => p.1 = q.1 ∧ p.2.1 = q.2.1 ∧ RelV p.2.2 q.2.2
def hdO {P : Program} {w : World} {κ : Type} [DecidableEq κ] (D : HKd P w κ) (d : Addr) (kvs : List (κ × Addr × V)) : HO := .ext fun h => (d == sysModules) = false ∧ kvs.length ≤ sizeLine ∧ ∃ xs, Paired (KHr κ) kvs xs ∧
  ∃ o es ep, h.get? d = some o ∧ o.ExactDict ∧ o.data = .dict es ep ∧ es.toList = xs.map (entryOfKey D.knd) ∧ (xs.map (·.1)).Nodup
section
variable {P : Program} {w : World} {κ : Type} [DecidableEq κ]
theorem kd_ok {knd : PySem.KeyKind P w κ} {H : Hp} {h : Heap} {d : Addr} {kvs : List (κ × V)} {vs : List (κ × Value)} (ns : (d == sysModules) = false) (hl : kvs.length ≤ sizeLine) (r : KV kvs vs) (dd : h.DictOf knd d vs) : ObjOk P w H h d (kdO knd d kvs) := by
  refine ⟨⟨ns, hl, vs, r, dd⟩, let ⟨o, _, _, e, _⟩ := dd; ⟨o, e⟩, fun h1 h2 a b => ?_⟩
  obtain ⟨a1, a2, vs, r, o, es, ep, e, q⟩ := a
  exact ⟨a1, a2, vs, r, o, es, ep, b o e, q⟩
theorem hd_ok {D : HKd P w κ} {H : Hp} {h : Heap} {d : Addr} {kvs : List (κ × Addr × V)} {xs : List (κ × Addr × Value)} (ns : (d == sysModules) = false) (hl : kvs.length ≤ sizeLine) (r : Paired (KHr κ) kvs xs) (dd : h.DictOfH D.knd d xs) : ObjOk P w H h d (hdO D d kvs) := by
  obtain ⟨o, es, ep, e, q1, q2, q3, _, q5⟩ := dd
  refine ⟨⟨ns, hl, xs, r, o, es, ep, e, q1, q2, q3, q5⟩, ⟨o, e⟩, fun h1 h2 a b => ?_⟩
  obtain ⟨a1, a2, vs, r, o, es, ep, e, q⟩ := a
  exact ⟨a1, a2, vs, r, o, es, ep, b o e, q⟩
theorem kd_of {knd : PySem.KeyKind P w κ} {H : Hp} {h : Heap} {d : Addr} {kvs : List (κ × V)} (ok : HOk P w H h) (e : H d = some (kdO knd d kvs)) : (d == sysModules) = false ∧ kvs.length ≤ sizeLine ∧ ∃ vs, KV kvs vs ∧ h.DictOf knd d vs := (ok d _ e).1
theorem hd_of {D : HKd P w κ} {H : Hp} {h : Heap} {d : Addr} {kvs : List (κ × Addr × V)} (ok : HOk P w H h) (e : H d = some (hdO D d kvs)) (hk : ∀ x ∈ kvs, D.kin H x.1 x.2.1) : (d == sysModules) = false ∧ kvs.length ≤ sizeLine ∧ ∃ xs, Paired (KHr κ) kvs xs ∧ h.DictOfH D.knd d xs := by
  obtain ⟨a1, a2, xs, r, o, es, ep, e1, q1, q2, q3, q5⟩ := (ok d _ e).1
  refine ⟨a1, a2, xs, r, o, es, ep, e1, q1, q2, q3, ?_, q5⟩
  clear q3 q5 e a2
  induction r with
  | nil => intro x hx; simp at hx
  | @cons p q ps qs h t ih =>
    intro x hx
    rcases List.mem_cons.mp hx with rfl | hx
    · have := D.ok (hk p (by simp)) ok
      rw [← h.1, ← h.2.1]
      exact this
    · exact ih (fun y hy => hk y (by simp [hy])) x hx
def valH (kvs : List (κ × Addr × V)) (k : κ) : Option V := (kvs.find? fun x => decide (x.1 = k)).map (·.2.2)
theorem kh_val {kvs : List (κ × Addr × V)} {xs : List (κ × Addr × Value)} (r : Paired (KHr κ) kvs xs) (k : κ) : RelO (valH kvs k) ((atKey xs k).map (·.2)) := by
  induction r with
  | nil => exact True.intro
  | @cons p q ps qs h t ih =>
    by_cases e : p.1 = k
    · have e' : q.1 = k := h.1.symm.trans e
      have a1 : valH (p :: ps) k = some p.2.2 := by simp [valH, List.find?_cons, e]
      have b : atKey (q :: qs) k = some q.2 := by simp [atKey, List.find?_cons, e']
      rw [a1, b]
      exact h.2.2
    · have e' : ¬ q.1 = k := fun z => e (h.1.trans z)
      have a1 : valH (p :: ps) k = valH ps k := by simp [valH, List.find?_cons, e]
      have b : atKey (q :: qs) k = atKey qs k := by simp [atKey, List.find?_cons, e']
      rw [a1, b]
      exact ih
theorem pd_snoc {α β : Type} {F : α → β → Prop} {a : α} {b : β} (h : F a b) : ∀ {l : List α} {m : List β}, Paired F l m → Paired F (l ++ [a]) (m ++ [b])
  | _, _, .nil => .cons h .nil
  | _, _, .cons r t => .cons r (pd_snoc h t)
theorem relO_isSome {o : Option V} {u : Option Value} (r : RelO o u) : o.isSome = u.isSome := by
  cases o <;> cases u <;> first | rfl | exact (show False from r).elim
end
section
variable {X : Cx} {pins : List (Addr × Obj)} {σ : St} {H : Hp} {s : Shared} {d : Addr}
theorem Inv.bigS (I : Inv X pins σ H s) : sysModules < s.heap.objs.size := by
  have h : mainGlobals < s.heap.objs.size := (I.mod.glob.keeps I.bk).lt
  exact Nat.lt_trans (by decide) h
def DGet (P : Program) (w : World) (H : Hp) (d : Addr) (y : V) (r : Option V) : Prop :=
  (∃ kvs k, H d = some (kdO (boolKind P w) d kvs) ∧ y = .bl k ∧ r = valV kvs k) ∨
  (∃ kvs k b, H d = some (hdO (nestD P w) d kvs) ∧ (∀ x ∈ kvs, NIn H x.1 x.2.1) ∧ y = .ref b ∧ NIn H k b ∧ r = valH kvs k) ∨
  ∃ kvs k b, H d = some (hdO (pairD P w) d kvs) ∧ (∀ x ∈ kvs, TIn H x.1 x.2.1) ∧ y = .ref b ∧ TIn H k b ∧ r = valH kvs k
def DPut (P : Program) (w : World) (H : Hp) (d : Addr) (y v : V) (H' : Hp) : Prop :=
  (∃ kvs k, H d = some (kdO (boolKind P w) d kvs) ∧ y = .bl k ∧ valV kvs k = none ∧ kvs.length < sizeLine ∧ H' = upd H d (kdO (boolKind P w) d (kvs ++ [(k, v)]))) ∨
  (∃ kvs k b, H d = some (hdO (nestD P w) d kvs) ∧ (∀ x ∈ kvs, NIn H x.1 x.2.1) ∧ y = .ref b ∧ NIn H k b ∧ valH kvs k = none ∧ kvs.length < sizeLine ∧ H' = upd H d (hdO (nestD P w) d (kvs ++ [(k, b, v)]))) ∨
  ∃ kvs k b, H d = some (hdO (pairD P w) d kvs) ∧ (∀ x ∈ kvs, TIn H x.1 x.2.1) ∧ y = .ref b ∧ TIn H k b ∧ valH kvs k = none ∧ kvs.length < sizeLine ∧ H' = upd H d (hdO (pairD P w) d (kvs ++ [(k, b, v)]))
def DLen (P : Program) (w : World) (H : Hp) (d : Addr) (n : Nat) : Prop :=
  (∃ kvs, H d = some (kdO (boolKind P w) d kvs) ∧ n = kvs.length) ∨ ∃ kvs, H d = some (hdO (nestD P w) d kvs) ∧ n = kvs.length
theorem h_get {κ : Type} [DecidableEq κ] {D : HKd X.prog X.w κ} {kvs : List (κ × Addr × V)} {k : κ} {b : Addr} {v : V} {A : Around} {E : Value → Shared → Prop} {Q : Value → Shared → Prop} (hu : A.units + 64 < cLine) (I : Inv X pins σ H s) (e : H d = some (hdO D d kvs)) (hk : ∀ x ∈ kvs, D.kin H x.1 x.2.1) (kb : D.kin H k b)
    (l : some v = valH kvs k) (h : ∀ w' s', Inv X pins σ H s' → RelV v w' → Q w' s') : wpAny (model X.prog X.w) A (getItem (.ref d) (.ref b)) Q E s := by
  obtain ⟨_, _, xs, rel, dd⟩ := hd_of I.hok e hk
  obtain ⟨w', hw, rw'⟩ := RelO.some_of (v := v) (o := (atKey xs k).map (·.2)) (by rw [l]; exact kh_val rel k)
  obtain ⟨p, hp, hp2⟩ := Option.map_eq_some_iff.mp hw
  refine wpAny_getItem_heap (D.room hu).1 (D.ok kb I.hok) dd hp ?_
  rw [hp2]
  exact h w' _ (I.tok _) rw'
theorem h_notIn {κ : Type} [DecidableEq κ] {D : HKd X.prog X.w κ} {kvs : List (κ × Addr × V)} {k : κ} {b : Addr} {A : Around} {E : Value → Shared → Prop} {Q : Value → Shared → Prop} (hu : A.units + 64 < cLine) (I : Inv X pins σ H s) (e : H d = some (hdO D d kvs)) (hk : ∀ x ∈ kvs, D.kin H x.1 x.2.1) (kb : D.kin H k b)
    (h : ∀ s', Inv X pins σ H s' → Q (.bool (!(valH kvs k).isSome)) s') : wpAny (model X.prog X.w) A (compareOp .NotIn (.ref b) (.ref d)) Q E s := by
  obtain ⟨ns, _, xs, rel, dd⟩ := hd_of I.hok e hk
  refine wpAny_notIn_heap (D.room hu).1 (D.ok kb I.hok) ns dd ?_
  have q := relO_isSome (kh_val rel k)
  rw [Option.isSome_map] at q
  rw [← q]
  exact h _ (I.tok _)
theorem ext_write {h' : Heap} {t' : Nat} {ob : HO} (I : Inv X pins σ H s) (mu : Mut (H d)) (hs : Heap.SameBut d s.heap h') (he : ∃ q, h'.get? d = some q) (new : ObjOk X.prog X.w (upd H d ob) h' d ob) : Inv X pins σ (upd H d ob) { s with heap := h', toks := t' } :=
  I.write (x := d) (e := d) mu (.inl rfl) (fun b q hb z => (hs.2 b hb).trans z) he new
theorem h_new {κ : Type} [DecidableEq κ] {D : HKd X.prog X.w κ} {kvs : List (κ × Addr × V)} {xs : List (κ × Addr × Value)} {k : κ} {b : Addr} {v : V} {r : Value} {h' : Heap} {t' : Nat} (I : Inv X pins σ H s) (e : H d = some (hdO D d kvs)) (ns : (d == sysModules) = false) (hl : kvs.length < sizeLine) (rel : Paired (KHr κ) kvs xs)
    (hn : valH kvs k = none) (rv : RelV v r) (dd : h'.DictOfH D.knd d (storedH xs k b r)) (hs : Heap.SameBut d s.heap h') : Inv X pins σ (upd H d (hdO D d (kvs ++ [(k, b, v)]))) { s with heap := h', toks := t' } := by
  have q := RelO.none_of (show RelO none ((atKey xs k).map (·.2)) by rw [← hn]; exact kh_val rel k)
  rw [storedH_new (Option.map_eq_none_iff.mp q)] at dd
  exact ext_write I (by rw [e]; exact True.intro) hs (let ⟨o, _, _, q, _⟩ := dd; ⟨o, q⟩) (hd_ok ns (by rw [List.length_append]; exact hl) (pd_snoc (F := KHr κ) ⟨rfl, rfl, rv⟩ rel) dd)
theorem h_set {κ : Type} [DecidableEq κ] {D : HKd X.prog X.w κ} {kvs : List (κ × Addr × V)} {k : κ} {b : Addr} {v : V} {r : Value} {A : Around} {E : Value → Shared → Prop} {Q : Unit → Shared → Prop} (hu : A.units + 64 < cLine) (I : Inv X pins σ H s) (e : H d = some (hdO D d kvs)) (hk : ∀ x ∈ kvs, D.kin H x.1 x.2.1) (kb : D.kin H k b)
    (hn : valH kvs k = none) (hl : kvs.length < sizeLine) (rv : RelV v r) (h : ∀ s', Inv X pins σ (upd H d (hdO D d (kvs ++ [(k, b, v)]))) s' → Q () s') : wpAny (model X.prog X.w) A (setItem (.ref d) (.ref b) r) Q E s := by
  obtain ⟨ns, hz, xs, rel, dd⟩ := hd_of I.hok e hk
  exact wpAny_setItem_heap (hsz := by rw [← Paired.length rel]; exact hz) (D.room hu).1 (D.ok kb I.hok) dd fun h' dd' hs => h _ (h_new I e ns hl rel hn rv dd' hs)
theorem kv_snoc {κ : Type} {kvs : List (κ × V)} {vs : List (κ × Value)} {k : κ} {v : V} {r : Value} (rel : KV kvs vs) (rv : RelV v r) : KV (kvs ++ [(k, v)]) (vs ++ [(k, r)]) := pd_snoc (F := fun (p : κ × V) (q : κ × Value) => p.1 = q.1 ∧ RelV p.2 q.2) ⟨rfl, rv⟩ rel
theorem stored_new {κ : Type} [DecidableEq κ] {vs : List (κ × Value)} {k : κ} {r : Value} (h : valueAt vs k = none) : stored vs k r = vs ++ [(k, r)] := by
  unfold stored
  rw [if_neg]
  intro q
  rw [List.any_eq_true] at q
  obtain ⟨x, hx, e⟩ := q
  unfold valueAt at h
  rw [Option.map_eq_none_iff, List.find?_eq_none] at h
  exact h x hx e
end
end L2
namespace L2
open PySem PySem.Spec PyProof.Rows
section
variable {X : Cx}
def rNotInD (P : Program) (w : World) : R2 := fun x y H Q => ∃ d o, y = .ref d ∧ DGet P w H d x o ∧ Q (.bl (!o.isSome)) H
def rIxG (P : Program) (w : World) : R2 := fun x y H Q => ∃ d v, x = .ref d ∧ DGet P w H d y (some v) ∧ Q v H
def rSetD (P : Program) (w : World) : TSet := fun o i v H Q => ∃ d H', o = .ref d ∧ DPut P w H d i v H' ∧ Q H'
inductive DKd where
  | bl | nest | pair
def newO (P : Program) (w : World) (d : Addr) : DKd → HO
  | .bl => kdO (boolKind P w) d []
  | .nest => hdO (nestD P w) d []
  | .pair => hdO (pairD P w) d []
def tDNew (P : Program) (w : World) : TE := fun _ H Q => ∃ k, ∀ p, H p = none → Q (.ref p) (upd H p (newO P w p k))
def tDOne (P : Program) (w : World) (tk tv : TE) : TE := fun σ H Q => ∀ p, H p = none → tk σ (upd H p (newO P w p .pair)) fun x H1 => tv σ H1 fun y H2 => ∃ b k, x = .ref b ∧ TIn H2 k b ∧ H2 p = some (newO P w p .pair) ∧ Q (.ref p) (upd H2 p (hdO (pairD P w) p [(k, b, y)]))
end
end L2
namespace L2
open PySem PySem.Spec PyProof.Rows
section
variable {X : Cx} {elt iter : Expr} {x y : Str} {px py pt pos : Pos} {kt : Nat} {sc : Scope} {wi : TI} {te : TE}
def tComp2 (K : PySem.W.Frag) (wi : TI) (te : TE) : TE := fun σ H Q => wi σ H fun J H1 => ∀ D, H1 D = none → ∃ W : Nat → Nat → List V → Hp → Prop,
  (∃ m, W 0 m [] (upd H1 D (.lst []))) ∧ ∀ i m ys H2, W i m ys H2 → H2 D = some (.lst ys) ∧ ((J.stop i H2 ∧ Q (.ref D) H2) ∨ (J.go i H2 ∧ ys.length < sizeLine ∧ ∀ x H3, J.yld i H2 x H3 →
    ∃ p a b, x = .ref p ∧ SqT K H3 p [a, b] ∧ te (some a :: some b :: σ) H3 fun y H5 => H5 D = some (.lst ys) ∧ ∃ m', m' < m ∧ W (i + 1) m' (ys ++ [y]) (upd H5 D (.lst (ys ++ [y])))))
end
end L2
namespace L2
open PySem PySem.Spec PyProof.Rows
section
variable {prog : Program} {w : World} {A : Around} {E : Value → Shared → Prop} {s : Shared} {it t : Addr} {i : Nat} {items : Array Value}
theorem nextT_item {x : Value} {Q : Value → Shared → Prop} (hit : s.heap.IsTupleIter it t i) (ht : s.heap.IsTuple t items) (hx : items[i]? = some x) (hQ : ∀ h', h'.IsTupleIter it t (i + 1) → Heap.SameBut it s.heap h' → Q x { s with heap := h' }) :
    wpAny (model prog w) A (Builtin.SmallTypes.nextOf (.ref it)) Q E s := by
  obtain ⟨o, ho, hc, hd⟩ := id hit
  obtain ⟨ol, hol, _, nl, hdl⟩ := ht
  unfold Builtin.SmallTypes.nextOf
  refine wpAny_bind (wpAny_callSpecial?_slot (name := Str.ofString "__next__") hit.typeIs F.slot_tuple_iterator_next (wpAny_call_entry F.slot_tuple_iterator_next hit.typeIs F.entry_tuple_iterator_next ?_ (F.args_tuple_iterator_next_1 _)))
  refine wpAny_bind (m := field (.ref it) 0) (wpAny_field ho hd (x := .ref t) rfl (wpAny_ite_false rfl (wpAny_bind (m := field (.ref it) 1) (wpAny_field ho hd (x := .int i 0) rfl (wpAny_bind (m := seqItems? (.ref t)) (wpAny_seqItems hol hdl ?_))))))
  simp only [Int.toNat_natCast, hx]
  refine wpAny_bind (wpAny_setField ho hd (by simp) (wpAny_pure ⟨x, rfl, wpAny_pure (hQ _ ⟨_, Heap.get?_update_self _ ho (Obj.isFreed_of_fields (Obj.data_mapFields hd _)), (Obj.cls_mapFields ..).trans hc, ?_⟩ (Heap.SameBut.update ..))⟩))
  rw [Obj.data_mapFields hd]
  simp [rawInt]
theorem nextT_end {Q : Value → Shared → Prop} (hh : A.handled = none) (hit : s.heap.IsTupleIter it t i) (ht : s.heap.IsTuple t items) (hx : items[i]? = none)
    (hE : ∀ h' e, Heap.ExtBut it s.heap h' → (∃ o, h'.get? e = some o ∧ o.cls = .type "StopIteration") → E (.ref e) { s with heap := h' }) : wpAny (model prog w) A (Builtin.SmallTypes.nextOf (.ref it)) Q E s := by
  obtain ⟨o, ho, hc, hd⟩ := id hit
  obtain ⟨ol, hol, _, nl, hdl⟩ := ht
  unfold Builtin.SmallTypes.nextOf
  refine wpAny_bind (wpAny_callSpecial?_slot (name := Str.ofString "__next__") hit.typeIs F.slot_tuple_iterator_next (wpAny_call_entry F.slot_tuple_iterator_next hit.typeIs F.entry_tuple_iterator_next ?_ (F.args_tuple_iterator_next_1 _)))
  refine wpAny_bind (m := field (.ref it) 0) (wpAny_field ho hd (x := .ref t) rfl (wpAny_ite_false rfl (wpAny_bind (m := field (.ref it) 1) (wpAny_field ho hd (x := .int i 0) rfl (wpAny_bind (m := seqItems? (.ref t)) (wpAny_seqItems hol hdl ?_))))))
  simp only [Int.toNat_natCast, hx]
  refine wpAny_bind (wpAny_rule (wpAny_bind (wpAny_setField ho hd (by simp) (wpAny_bind (m := newExc (.type "StopIteration") []) ?_))))
  simp only [newExc, newTuple]
  refine wpAny_bind (wpAny_newObj_type (wpAny_bind (m := firstArgMember _ _) (wpAny_of_eq (a := Value.none) (by first | rfl | (simp only [firstArgMember]; rfl)) (wpAny_newObj_type ?_ (by size_fits)))) (by size_fits))
  simp only [raiseNew]
  refine wpAny_bind (wpAny_handled ?_)
  first | rw [show A.in1.handled = none from hh] | rw [hh]
  exact wpAny_bind (wpAny_pure (wpAny_throw (hE _ _ (((Heap.SameBut.update ..).extBut.push _).push _) ⟨_, Heap.get?_push_size _ rfl, rfl⟩)))
end
theorem IsTup.keeps {h h' : Heap} {t : Addr} {items : Array Value} (x : h.IsTuple t items) (k : ∀ o, h.get? t = some o → h'.get? t = some o) : h'.IsTuple t items := let ⟨o, e, r⟩ := x; ⟨o, k o e, r⟩
theorem drawsT {prog : Program} {w : World} {A : Around} (hh : A.handled = none) (it t : Addr) (hne : t ≠ it) (items : Array Value) :
    Draws prog w A it [it, t] items.size (fun i v => items[i]? = some v) (fun i h => h.IsTupleIter it t i ∧ h.IsTuple t items) where
  live := fun _ _ st => let ⟨o, ho, _⟩ := st.1; ⟨o, ho⟩
  frame := fun _ _ _ st hk => ⟨st.1.at fun o e => hk it (by simp) o e, IsTup.keeps st.2 fun o e => hk t (by simp) o e⟩
  item := fun i s Q E hi st hQ => nextT_item st.1 st.2 (x := items[i]) (by simp [hi]) fun h' hit' hs' => hQ _ h' s.toks (by simp [hi]) ⟨hit', IsTup.keeps st.2 fun o e => (hs'.2 t hne).trans e⟩ hs'
  done := fun s Q E st hE => nextT_end hh st.1 st.2 (by simp) hE
def IteT (a : Addr) : It := ⟨fun i H => ∃ xs x, H a = some (.tup xs) ∧ xs[i]? = some x, fun i H v H' => ∃ p x xs, H a = some (.tup xs) ∧ xs[i]? = some x ∧ v = .ref p ∧ H p = none ∧ H' = upd H p (.tup [.int (i : Int), x]), fun i H => ∃ xs, H a = some (.tup xs) ∧ i = xs.length⟩
def iEnumT (t : TA) : TI := fun σ H R => t σ H fun vs H1 => ∃ a xs, vs = [.ref a] ∧ H1 a = some (.tup xs) ∧ R (IteT a) H1
end L2
namespace L2
open PySem PySem.Spec PyProof.Rows
namespace ZP
section
variable {prog : Program} {w : World} {A : Around} {E : Value → Shared → Prop} {s : Shared} {z TI TO i1 i2 : Addr} {f1 f2 : List Addr} {n1 n2 k : Nat} {P1 P2 : Nat → Value → Prop} {S1 S2 : Nat → Heap → Prop} {a b : Value}
def tupIt (a : Addr) : Obj := { cls := .type "tuple_iterator", data := .fields #[.ref a, .int 0 0] }
theorem iter_tup {a : Addr} {items : Array Value} {Q : Value → Shared → Prop} (ht : s.heap.IsTuple a items) (h : Q (.ref s.heap.objs.size) { s with heap := s.heap.push (tupIt a) }) : wpAny (model prog w) A (pyIter (.ref a)) Q E s := wpAny_pyIter_tuple ht h
def madeT (h : Heap) (x y : Addr) : Heap :=
  ((((h.push (tupIt x)).push (tupIt y)).push { cls := .type "tuple", data := .seq #[.ref h.objs.size, .ref (h.objs.size + 1)] }).push { cls := .type "tuple", data := .seq #[.none, .none] }).push
    { cls := .type "zip", data := .fields #[.none, .bool false, .bool false, .ref (h.objs.size + 2), .ref (h.objs.size + 3)] }
end
end ZP
def Itzt (x y : Addr) : It := ⟨fun i H => ∃ xs ys a b, H x = some (.tup xs) ∧ H y = some (.tup ys) ∧ xs[i]? = some a ∧ ys[i]? = some b, fun i H v H' => ∃ p xs ys a b, H x = some (.tup xs) ∧ H y = some (.tup ys) ∧ xs[i]? = some a ∧ ys[i]? = some b ∧ v = .ref p ∧ H p = none ∧ H' = upd H p (.tup [a, b]),
  fun i H => ∃ xs ys, H x = some (.tup xs) ∧ H y = some (.tup ys) ∧ xs.length = ys.length ∧ i = xs.length⟩
def iZipT (t : TA) : TI := fun σ H R => t σ H fun vs H1 => ∃ x y xs ys, vs = [.ref x, .ref y] ∧ H1 x = some (.tup xs) ∧ H1 y = some (.tup ys) ∧ R (Itzt x y) H1
end L2
namespace L2
open PySem PySem.Spec PyProof.Rows
section
variable {X : Cx}
def rIndexB : V → List V → Hp → VK → Prop := fun x vs H Q => ∃ (l : Addr) (bs : List Bool), x = .ref l ∧ vs = [.bl false] ∧ H l = some (.lst (bs.map V.bl)) ∧ false ∈ bs ∧ Q (.int (bs.idxOf false : Nat)) H
def rEqI (K : PySem.W.Frag) : R2 := fun x y H Q => ∃ (p q : Addr) (xs ys : List Int), x = .ref p ∧ y = .ref q ∧ H p = some (.lst (xs.map V.int)) ∧ H q = some (.lst (ys.map V.int)) ∧ xs.length = ys.length ∧ Q (.bl (decide (xs = ys))) H
end
def Itv (a : Addr) (n : Nat) : It := ⟨fun i H => ∃ xs, H a = some (.lst xs) ∧ xs.length = n ∧ i < n, fun i H v H' => H' = H ∧ ∃ xs, H a = some (.lst xs) ∧ xs[n - 1 - i]? = some v, fun i _ => i = n⟩
def iRev (t : TA) : TI := fun σ H R => t σ H fun vs H1 => ∃ a xs, vs = [.ref a] ∧ H1 a = some (.lst xs) ∧ R (Itv a xs.length) H1
end L2
namespace L2
open PySem PySem.Spec PyProof.Rows
def Over (J : It) (a : Addr) (o : HO) (xs : List V) : Prop := ∀ H2 : Hp, H2 a = some o → (∀ i, i < xs.length → J.go i H2) ∧ (∀ i x H3, i < xs.length → J.yld i H2 x H3 → H3 = H2 ∧ xs[i]? = some x) ∧ J.stop xs.length H2
theorem over_l {K : PySem.W.Frag} {a : Addr} {xs : List V} : Over (Itl K a) a (.lst xs) xs := fun H2 e =>
  ⟨fun i h => ⟨xs, xs[i], SqL.of e, List.getElem?_eq_getElem h⟩, fun i x H3 _ ⟨e1, h⟩ => ⟨e1, h xs (SqL.of e)⟩, ⟨xs, SqL.of e, Nat.le_refl _⟩⟩
theorem over_t {K : PySem.W.Frag} {a : Addr} {xs : List V} : Over (Itt K a) a (.tup xs) xs := fun H2 e =>
  ⟨fun i h => ⟨xs, xs[i], SqT.of e, List.getElem?_eq_getElem h⟩, fun i x H3 _ ⟨e1, h⟩ => ⟨e1, h xs (SqT.of e)⟩, ⟨xs, SqT.of e, Nat.le_refl _⟩⟩
def iSq (tl : TE) : TI := fun σ H R => tl σ H fun x H1 => ∃ a o xs, x = .ref a ∧ (o = .lst xs ∨ o = .tup xs) ∧ H1 a = some o ∧ ∀ J, Over J a o xs → R J H1
theorem pi_sq {X : Cx} {tg l : Expr} {tl : TE} (hl : PE X l tl) : PI X tg l (iSq tl) := by
  intro pins s σ H R I h
  refine thn (hl pins s σ H _ I h) fun v s1 ⟨x, H1, I1, r1, q1⟩ => ?_
  obtain ⟨a, o, xs, e, ho, hq, q⟩ := q1
  subst e
  cases r1
  have tail : ∀ b ∈ [s1.heap.objs.size], FpOk X pins H1 b := fun b hb => by
    have e : b = s1.heap.objs.size := by simpa using hb
    subst e
    exact I1.fpOk (Nat.le_refl _) (I1.hok.fresh (Nat.le_refl _))
  rcases ho with rfl | rfl
  · obtain ⟨its, rv, p, hz⟩ := I1.list (SqL.of hq)
    refine wpAny_pyIter_list p.isList ?_
    exact ⟨s1.heap.objs.size, [s1.heap.objs.size], _, _, H1, rfl, I1.kept (t' := s1.toks) fun b o e => Heap.get?_push_of_some _ e, turn_list a _, ⟨_, Heap.get?_push_size _ rfl, rfl, rfl⟩, tail, q _ over_l⟩
  · obtain ⟨its, rv, p, hz⟩ := I1.tuple (SqT.of hq)
    refine wpAny_pyIter_tuple (show s1.heap.IsTuple a its.toArray from p) ?_
    exact ⟨s1.heap.objs.size, [s1.heap.objs.size], _, _, H1, rfl, I1.kept (t' := s1.toks) fun b o e => Heap.get?_push_of_some _ e, turn_tuple a _, ⟨_, Heap.get?_push_size _ rfl, rfl, rfl⟩, tail, q _ over_t⟩
theorem comp_over {J : It} {a : Addr} {o : HO} {xs : List V} {tt : TT} {te : TE} {σ : St} {H : Hp} {Q : VK} (ov : Over J a o xs) (hH : H a = some o) (Pv : Addr → Nat → List V → Hp → Prop) (hz : xs.length ≤ sizeLine)
    (h0 : ∀ D, H D = none → Pv D 0 [] (upd H D (.lst [])))
    (hs : ∀ (D : Addr) (i : Nat) (x : V) (ys : List V) (H' : Hp) (R1 : VK) (R2 : Hp → Prop), H D = none → xs[i]? = some x → Same H H' → H' D = some (.lst ys) → Pv D i ys H' →
      (∀ y H5, H5 D = some (.lst ys) → Same H (upd H5 D (.lst (ys ++ [y]))) → Pv D (i + 1) (ys ++ [y]) (upd H5 D (.lst (ys ++ [y]))) → R1 y H5) → (∀ H4, Same H H4 → H4 D = some (.lst ys) → Pv D (i + 1) ys H4 → R2 H4) →
      tt (some x :: σ) H' fun b H4 => if b = true then te (some x :: σ) H4 R1 else R2 H4)
    (hq : ∀ D ys H', H D = none → Same H H' → H' D = some (.lst ys) → Pv D xs.length ys H' → Q (.ref D) H') : ∀ D, H D = none → ∃ W : Nat → Nat → List V → Hp → Prop,
  (∃ m, W 0 m [] (upd H D (.lst []))) ∧ ∀ i m ys H2, W i m ys H2 → H2 D = some (.lst ys) ∧ ((J.stop i H2 ∧ Q (.ref D) H2) ∨ (J.go i H2 ∧ ys.length < sizeLine ∧ ∀ x H3, J.yld i H2 x H3 →
    tt (some x :: σ) H3 fun b H4 => if b = true then te (some x :: σ) H4 fun y H5 => H5 D = some (.lst ys) ∧ ∃ m', m' < m ∧ W (i + 1) m' (ys ++ [y]) (upd H5 D (.lst (ys ++ [y])))
      else ∃ m', m' < m ∧ W (i + 1) m' ys H4)) := by
  intro D hD
  refine ⟨fun i m ys H2 => m = xs.length - i ∧ i ≤ xs.length ∧ ys.length ≤ i ∧ Same H H2 ∧ H2 D = some (.lst ys) ∧ Pv D i ys H2, ⟨xs.length, by simp, Nat.zero_le _, by simp, Same.upd hD, upd_same, h0 D hD⟩, ?_⟩
  rintro i m ys H2 ⟨rfl, hi, hy, hsm, hDl, hp⟩
  refine ⟨hDl, ?_⟩
  obtain ⟨q1, q2, q3⟩ := ov H2 (hsm _ _ hH)
  by_cases hlt : i < xs.length
  · refine .inr ⟨q1 i hlt, Nat.lt_of_le_of_lt hy (Nat.lt_of_lt_of_le hlt hz), fun x H3 hyl => ?_⟩
    obtain ⟨e, hx⟩ := q2 i x H3 hlt hyl
    subst e
    exact hs D i x ys H3 _ _ hD hx hsm hDl hp (fun y H5 a b c => ⟨a, xs.length - (i + 1), Nat.sub_succ_lt_self _ _ hlt, rfl, hlt, by rw [List.length_append]; exact Nat.succ_le_succ hy, b, upd_same, c⟩) (fun H4 a b c => ⟨xs.length - (i + 1), Nat.sub_succ_lt_self _ _ hlt, rfl, hlt, Nat.le_succ_of_le hy, a, b, c⟩)
  · have e : i = xs.length := Nat.le_antisymm hi (Nat.le_of_not_lt hlt)
    subst e
    exact .inl ⟨q3, hq D ys H2 hD hsm hDl hp⟩
def C2Goal (K : PySem.W.Frag) (J : It) (te : TE) (σ : St) (H1 : Hp) (Q : VK) : Prop := ∀ D, H1 D = none → ∃ W : Nat → Nat → List V → Hp → Prop,
  (∃ m, W 0 m [] (upd H1 D (.lst []))) ∧ ∀ i m ys H2, W i m ys H2 → H2 D = some (.lst ys) ∧ ((J.stop i H2 ∧ Q (.ref D) H2) ∨ (J.go i H2 ∧ ys.length < sizeLine ∧ ∀ x H3, J.yld i H2 x H3 →
    ∃ p a b, x = .ref p ∧ SqT K H3 p [a, b] ∧ te (some a :: some b :: σ) H3 fun y H5 => H5 D = some (.lst ys) ∧ ∃ m', m' < m ∧ W (i + 1) m' (ys ++ [y]) (upd H5 D (.lst (ys ++ [y])))))
end L2
namespace RA
open PySem L2
inductive KS where
  | inl (b : Bool)
  | inr (k : NK)
instance : DecidableEq KS := fun a b => match a, b with
  | .inl a, .inl b => if h : a = b then isTrue (by rw [h]) else isFalse fun z => h (KS.inl.inj z)
  | .inr a, .inr b => if h : a = b then isTrue (by rw [h]) else isFalse fun z => h (KS.inr.inj z)
  | .inl _, .inr _ => isFalse fun z => by cases z
  | .inr _, .inl _ => isFalse fun z => by cases z
def isN : KS → Bool
  | .inl _ => false
  | .inr _ => true
def KeyV (H : Hp) : KS → V → Prop
  | .inl b, x => x = .bl b
  | .inr k, x => ∃ p, x = .ref p ∧ NIn H k p
def NumAt (P : Program) (w : World) (H : Hp) (d : Addr) (nest : Bool) (ks : List KS) : Prop :=
  (nest = false ∧ ∃ kvs : List (Bool × V), H d = some (kdO (boolKind P w) d kvs) ∧ (kvs.map fun x => (KS.inl x.1 : KS)) = dis ks ∧ ∀ (i : Nat) (x : Bool × V), kvs[i]? = some x → x.2 = V.int (i : Int)) ∨
  (nest = true ∧ ∃ kvs : List (NK × Addr × V), H d = some (hdO (nestD P w) d kvs) ∧ (∀ x ∈ kvs, NIn H x.1 x.2.1) ∧ (kvs.map fun x => (KS.inr x.1 : KS)) = dis ks ∧ ∀ (i : Nat) (x : NK × Addr × V), kvs[i]? = some x → x.2.2 = V.int (i : Int))
section
variable {P : Program} {w : World} {H : Hp} {d : Addr} {nest : Bool} {ks : List KS}
def numO (ks : List KS) (k : KS) : Option V := if k ∈ dis ks then some (.int ((dis ks).idxOf k : Nat)) else none
end
end RA
namespace L2
open PySem PySem.Spec PyProof.Rows
section
variable {X : Cx} {elt iter : Expr} {x : Str} {px pos : Pos} {ifs : List Expr} {sc : Scope} {wi : TI} {tt : TT} {te : TE}
end
end L2
namespace L2
open PySem PySem.Spec PyProof.Rows
theorem ix_tupK {X : Cx} (K : PySem.W.Frag) (hK : X.K = K := by rfl) : IxR X (rIxT K) := by
  subst hK
  exact ix_tup
theorem walk63z {l : PySem.W.OpenLaw} {k : Nat} {x : Str} {q : Program} {loose : List Str} {XP : (Str → Option Value) → Heap → Prop} {d : DefRec} {K : Params → PySem.W.Frag} (hn : l.most = some 63) (hdf : d.params.defaults = []) (hr : Room k callerA)
    (F : ∀ (w : World) (mg : Str → Option Value) (fa : Addr) (h : Heap), (K w.params).In h → h.Ns mainGlobals mg → mg d.name = some (.ref fa) →
      ∃ fd : FuncData, (∀ (s : Shared) (u : Value), BindsTo s fd ⟨[u], []⟩ [(x, u)]) ∧ ∀ base : Heap, (K w.params).In base → base.Ns mainGlobals mg → FnOk l.prog w (K w.params) mg base CX0 k fa fd [x] (spLaw (K w.params))) :
    PySem.W.WalkO q loose XP (fun w h => (K w.params).In h) l.row.toRowW d [] (fun f vs => PySem.call f vs) := walk63 hn hdf hr (fun _ _ Y => Y) F
end L2
namespace RA
open PySem L2
theorem ar_64 {n : Int} (h0 : 0 ≤ n) (h1 : n < 2147483647) : -(2 ^ 64) < n ∧ n < 2 ^ 64 := by omega
theorem ar_pos1 {n : Nat} (h : 1 ≤ n) : (0 : Int) < (n : Int) := Int.ofNat_lt.mpr h
theorem ar_room (z : Int) (b m : Nat) (hm : 0 < m) : ∃ n : Nat, (n : Int) = (b : Int) + z % (m : Int) ∧ b ≤ n ∧ n < b + m := by
  have h0 := Int.emod_nonneg z (show (m : Int) ≠ 0 by omega)
  have h1 := Int.emod_lt_of_pos z (show (0 : Int) < (m : Int) by omega)
  exact ⟨b + (z % (m : Int)).toNat, by omega, by omega, by omega⟩
theorem intsV_zs (ws : List Nat) : intsV ws = (zs ws).map V.int := by
  unfold intsV zs
  rw [List.map_map]
  rfl
theorem intsV_len (ws : List Nat) : (intsV ws).length = ws.length := by simp [intsV]
theorem intsV_get {ws : List Nat} {i : Nat} (h : i < ws.length) : (intsV ws)[i]? = some (.int ((ws.getD i 0 : Nat) : Int)) := by
  unfold intsV
  rw [List.getElem?_map, List.getD_eq_getElem?_getD, List.getElem?_eq_getElem h]
  rfl
theorem atI_ints {ns : List Nat} {r : Nat} (h : r < ns.length) : atI (intsV ns) (r : Int) = some (.int ((ns.getD r 0 : Nat) : Int)) := atI_nat (intsV_get h)
theorem take_snoc {α : Type} {l : List α} {i : Nat} {x : α} (h : l[i]? = some x) : l.take (i + 1) = l.take i ++ [x] := by
  rw [List.take_add_one, h]
  rfl
def oV : Option (List Nat) → V
  | none => .non
  | some w => .str (tx w)
def LotsAt (H : Hp) (lots : List Addr) (W : List (List Nat)) (B : List Bool) : Prop := ∀ (i : Nat) (r : Addr), lots[i]? = some r → H r = some (.lst (intsV (Rd W B i)))
theorem MachAt.row {H : Hp} {rows : List Addr} {W : List (List Nat)} (hl : rows.length = W.length) (h : RowsAt H rows W) {r : Nat} (hr : r < W.length) : ∃ ra, rows[r]? = some ra ∧ H ra = some (.tup (intsV (W.getD r []))) := by
  have e : rows[r]? = some (rows[r]'(by omega)) := List.getElem?_eq_getElem _
  obtain ⟨ws, h1, h2⟩ := h r _ e
  refine ⟨_, e, ?_⟩
  rw [h2, List.getD_eq_getElem?_getD, h1]
  rfl
theorem same_none {H H' : Hp} {p : Addr} (s : Same H H') (h : H' p = none) : H p = none := by
  cases e : H p with
  | none => rfl
  | some o => rw [s _ _ e] at h; cases h
theorem comp_range {lo : Int} {n : Nat} {tt : TT} {te : TE} {σ : St} {H : Hp} {Q : VK} (Pv : Addr → Nat → List V → Hp → Prop) (hz : n ≤ sizeLine)
    (h0 : ∀ D, H D = none → Pv D 0 [] (L2.upd H D (.lst [])))
    (hs : ∀ (D : Addr) (i : Nat) (ys : List V) (H' : Hp) (R1 : VK) (R2 : Hp → Prop), H D = none → i < n → Same H H' → H' D = some (.lst ys) → Pv D i ys H' →
      (∀ y H5, H5 D = some (.lst ys) → Same H (L2.upd H5 D (.lst (ys ++ [y]))) → Pv D (i + 1) (ys ++ [y]) (L2.upd H5 D (.lst (ys ++ [y]))) → R1 y H5) → (∀ H4, Same H H4 → H4 D = some (.lst ys) → Pv D (i + 1) ys H4 → R2 H4) →
      tt (some (.int (lo + (i : Int))) :: σ) H' fun b H4 => if b = true then te (some (.int (lo + (i : Int))) :: σ) H4 R1 else R2 H4)
    (hq : ∀ D ys H', H D = none → Same H H' → H' D = some (.lst ys) → Pv D n ys H' → Q (.ref D) H') : ∀ D, H D = none → ∃ W : Nat → Nat → List V → Hp → Prop,
  (∃ m, W 0 m [] (L2.upd H D (.lst []))) ∧ ∀ i m ys H2, W i m ys H2 → H2 D = some (.lst ys) ∧ (((Itr lo n).stop i H2 ∧ Q (.ref D) H2) ∨ ((Itr lo n).go i H2 ∧ ys.length < sizeLine ∧ ∀ x H3, (Itr lo n).yld i H2 x H3 →
    tt (some x :: σ) H3 fun b H4 => if b = true then te (some x :: σ) H4 fun y H5 => H5 D = some (.lst ys) ∧ ∃ m', m' < m ∧ W (i + 1) m' (ys ++ [y]) (L2.upd H5 D (.lst (ys ++ [y])))
      else ∃ m', m' < m ∧ W (i + 1) m' ys H4)) := by
  intro D hD
  refine ⟨fun i m ys H2 => m = n - i ∧ i ≤ n ∧ ys.length ≤ i ∧ Same H H2 ∧ H2 D = some (.lst ys) ∧ Pv D i ys H2, ⟨n, by simp, Nat.zero_le _, by simp, Same.upd hD, upd_same, h0 D hD⟩, ?_⟩
  rintro i m ys H2 ⟨rfl, hi, hy, hsm, hDl, hp⟩
  refine ⟨hDl, ?_⟩
  by_cases hlt : i < n
  · refine .inr ⟨hlt, Nat.lt_of_le_of_lt hy (Nat.lt_of_lt_of_le hlt hz), fun x H3 hyl => ?_⟩
    obtain ⟨e, hx⟩ := hyl
    subst e hx
    exact hs D i ys H3 _ _ hD hlt hsm hDl hp (fun y H5 a b c => ⟨a, n - (i + 1), Nat.sub_succ_lt_self _ _ hlt, rfl, hlt, by rw [List.length_append]; exact Nat.succ_le_succ hy, b, upd_same, c⟩) (fun H4 a b c => ⟨n - (i + 1), Nat.sub_succ_lt_self _ _ hlt, rfl, hlt, Nat.le_succ_of_le hy, a, b, c⟩)
  · have e : i = n := Nat.le_antisymm hi (Nat.le_of_not_lt hlt)
    subst e
    exact .inl ⟨Nat.le_refl _, hq D ys H2 hD hsm hDl hp⟩
theorem map_getD {f : Nat → Nat} {ws : List Nat} {j : Nat} (h : j < ws.length) : (ws.map f).getD j 0 = f (ws.getD j 0) := by
  rw [List.getD_eq_getElem?_getD, List.getD_eq_getElem?_getD, List.getElem?_map, List.getElem?_eq_getElem h]
  rfl
theorem getD_in {ws : List Nat} {j : Nat} (h : j < ws.length) : ws.getD j 0 ∈ ws := by
  rw [List.getD_eq_getElem?_getD, List.getElem?_eq_getElem h]
  exact List.getElem_mem h
def RInv (H : Hp) (wy mk p : Addr) (W : List (List Nat)) (B : List Bool) (m : Nat) (σ : St) (H' : Hp) : Prop := ∃ (k : Nat) (lots : List Addr) (s4 s5 : Option V), m = twins W.length (Rd W B k) ∧ σ = [some (.ref wy), some (.ref mk), some (.int ((W.length : Nat) : Int)), some (.ref p), s4, s5] ∧ Same H H' ∧ H' p = some (.lst (lots.map V.ref)) ∧ lots.length = k + 1 ∧ LotsAt H' lots W B ∧ ∀ i < k, Rd W B (i + 1) ≠ Rd W B i
section
variable {K : PySem.W.Frag} {te : TE} {tt : TT} {σ : St} {H : Hp} {Q : VK} {a c d : Addr} {o : HO} {xs zs : List V}
theorem comp_sq {tl : TE} (htl : ∀ R : VK, R (.ref a) H → tl σ H R) (ho : o = .lst xs ∨ o = .tup xs) (hH : H a = some o) (Pv : Addr → Nat → List V → Hp → Prop) (hz : xs.length ≤ sizeLine)
    (h0 : ∀ D, H D = none → Pv D 0 [] (L2.upd H D (.lst [])))
    (hs : ∀ (D : Addr) (i : Nat) (x : V) (ys : List V) (H' : Hp) (R1 : VK) (R2 : Hp → Prop), H D = none → xs[i]? = some x → Same H H' → H' D = some (.lst ys) → Pv D i ys H' →
      (∀ y H5, H5 D = some (.lst ys) → Same H (L2.upd H5 D (.lst (ys ++ [y]))) → Pv D (i + 1) (ys ++ [y]) (L2.upd H5 D (.lst (ys ++ [y]))) → R1 y H5) → (∀ H4, Same H H4 → H4 D = some (.lst ys) → Pv D (i + 1) ys H4 → R2 H4) →
      tt (some x :: σ) H' fun b H4 => if b = true then te (some x :: σ) H4 R1 else R2 H4)
    (hq : ∀ D ys H', H D = none → Same H H' → H' D = some (.lst ys) → Pv D xs.length ys H' → Q (.ref D) H') : tComp (iSq tl) tt te σ H Q :=
  htl _ ⟨a, o, xs, rfl, ho, hH, fun J ov => comp_over ov hH Pv hz h0 hs hq⟩
theorem comp_rngG {t : TA} {n : Nat} (ht : ∀ R : List V → Hp → Prop, R [.int (n : Int)] H → t σ H R) (hn : n ≤ 1000) (Pv : Addr → Nat → List V → Hp → Prop)
    (h0 : ∀ D, H D = none → Pv D 0 [] (L2.upd H D (.lst [])))
    (hs : ∀ (D : Addr) (i : Nat) (ys : List V) (H' : Hp) (R1 : VK) (R2 : Hp → Prop), H D = none → i < n → Same H H' → H' D = some (.lst ys) → Pv D i ys H' →
      (∀ y H5, H5 D = some (.lst ys) → Same H (L2.upd H5 D (.lst (ys ++ [y]))) → Pv D (i + 1) (ys ++ [y]) (L2.upd H5 D (.lst (ys ++ [y]))) → R1 y H5) → (∀ H4, Same H H4 → H4 D = some (.lst ys) → Pv D (i + 1) ys H4 → R2 H4) →
      tt (some (.int (0 + (i : Int))) :: σ) H' fun b H4 => if b = true then te (some (.int (0 + (i : Int))) :: σ) H4 R1 else R2 H4)
    (hq : ∀ D ys H', H D = none → Same H H' → H' D = some (.lst ys) → Pv D n ys H' → Q (.ref D) H') : tComp (iRng1 t) tt te σ H Q :=
  ht _ ⟨(n : Int), rfl, by omega, by omega, comp_range (n := n) Pv (line_ge (by omega)) h0 hs hq⟩
end
end RA
namespace RA
open PySem L2
def unseen (n : Nat) (ps : List (Nat × Nat)) : Nat := (List.range (n * n)).countP fun x => !decide ((x / n, x % n) ∈ ps)
theorem run_cons (L : List Nat) (W : List (List Nat)) (r c : Nat) (u : List Nat) : run L W r (c :: u) = run L W (nxt L W r c) u := rfl
def kI (p : Nat × Nat) : List Int := [(p.1 : Int), (p.2 : Int)]
def PairsAt (P : Program) (w : World) (H : Hp) (d q : Addr) (ps : List (Nat × Nat)) : Prop := ∃ (kvs : List (List Int × Addr × V)) (ts : List Addr), H d = some (hdO (pairD P w) d kvs) ∧ (∀ x ∈ kvs, TIn H x.1 x.2.1) ∧ kvs.map (·.1) = ps.map kI ∧
  H q = some (.lst (ts.map V.ref)) ∧ ts.length = ps.length ∧ ∀ (i : Nat) (t : Addr) (p : Nat × Nat), ts[i]? = some t → ps[i]? = some p → TIn H (kI p) t
section
variable {P : Program} {w : World} {H : Hp} {d q : Addr} {ps : List (Nat × Nat)}
end
structure Told (L : List Nat) (W : List (List Nat)) (B : List Bool) (l r : Nat) (ps : List (Nat × Nat)) : Prop where
  has : (l, r) ∈ ps
  got : ∀ p ∈ ps, p.1 < W.length ∧ p.2 < W.length ∧ ∃ u, (∀ c ∈ u, c ∈ L) ∧ p.1 = run L W l u ∧ p.2 = run L W r u
  few : unseen W.length ps + ps.length ≤ W.length * W.length + 1
def Done (L : List Nat) (W : List (List Nat)) (B : List Bool) (ps : List (Nat × Nat)) (n : Nat) : Prop := ∀ (i : Nat) (p : Nat × Nat), i < n → ps[i]? = some p → B.getD p.1 false = B.getD p.2 false ∧ ∀ j < L.length, (goal W p.1 j, goal W p.2 j) ∈ ps
def AInv (P : Program) (w : World) (H : Hp) (m d q : Addr) (L : List Nat) (W : List (List Nat)) (B : List Bool) (l r : Nat) (ms : Nat) (σ : St) (H' : Hp) : Prop := ∃ (ps : List (Nat × Nat)) (n : Nat) (s7 s8 : Option V), ms = unseen W.length ps + (ps.length - n) ∧
  σ = [some (.ref m), some (.int (l : Int)), some (.ref m), some (.int (r : Int)), some (.ref d), some (.ref q), some (.int (n : Int)), s7, s8] ∧ Same H H' ∧ PairsAt P w H' d q ps ∧ Told L W B l r ps ∧ n ≤ ps.length ∧ Done L W B ps n
theorem len1 {α : Type} {l : List α} (h : l.length = 1) : ∃ a, l = [a] := match l, h with | [a], _ => ⟨a, rfl⟩
theorem len2 {α : Type} {l : List α} (h : l.length = 2) : ∃ a b, l = [a, b] := match l, h with | [a, b], _ => ⟨a, b, rfl⟩
theorem len3 {α : Type} {l : List α} (h : l.length = 3) : ∃ a b c, l = [a, b, c] := match l, h with | [a, b, c], _ => ⟨a, b, c, rfl⟩
theorem len4 {α : Type} {l : List α} (h : l.length = 4) : ∃ a b c d, l = [a, b, c, d] := match l, h with | [a, b, c, d], _ => ⟨a, b, c, d, rfl⟩
theorem len5 {α : Type} {l : List α} (h : l.length = 5) : ∃ a b c d e, l = [a, b, c, d, e] := match l, h with | [a, b, c, d, e], _ => ⟨a, b, c, d, e, rfl⟩
end RA
namespace RA
theorem lexd_snoc (L : List Nat) (c d : Nat) : ∀ {a b : List Nat}, lexd L a b = true → lexd L (a ++ [c]) (b ++ [d]) = true
  | [], _, h => by simp [lexd] at h
  | _ :: _, [], h => by simp [lexd] at h
  | x :: a, y :: b, h => by
    rw [List.cons_append, List.cons_append, lexd]
    rw [lexd] at h
    by_cases e : x = y
    · rw [if_pos e] at h ⊢
      exact lexd_snoc L c d h
    · rw [if_neg e] at h ⊢
      exact h
theorem lexd_unsnoc (L : List Nat) (c : Nat) : ∀ {a b : List Nat}, a.length = b.length → lexd L (a ++ [c]) (b ++ [c]) = true → lexd L a b = true
  | [], [], _, h => by simp [lexd] at h
  | [], _ :: _, e, _ => by simp at e
  | _ :: _, [], e, _ => by simp at e
  | x :: a, y :: b, e, h => by
    rw [List.cons_append, List.cons_append, lexd] at h
    rw [lexd]
    by_cases q : x = y
    · rw [if_pos q] at h ⊢
      exact lexd_unsnoc L c (by simpa using e) h
    · rw [if_neg q] at h ⊢
      exact h
theorem lexd_same (L : List Nat) {c d : Nat} (hcd : L.idxOf c < L.idxOf d) : ∀ a : List Nat, lexd L (a ++ [c]) (a ++ [d]) = true
  | [] => by
    rw [List.nil_append, List.nil_append, lexd, if_neg (fun e => by rw [e] at hcd; omega)]
    exact decide_eq_true hcd
  | x :: a => by
    rw [List.cons_append, List.cons_append, lexd, if_pos rfl]
    exact lexd_same L hcd a
theorem lexd_asymm (L : List Nat) : ∀ {a b : List Nat}, lexd L a b = true → lexd L b a = false
  | [], _, h => by simp [lexd] at h
  | _ :: _, [], h => by simp [lexd] at h
  | x :: a, y :: b, h => by
    rw [lexd] at h ⊢
    by_cases e : x = y
    · rw [if_pos e] at h
      rw [if_pos e.symm]
      exact lexd_asymm L h
    · rw [if_neg e] at h
      rw [if_neg (Ne.symm e)]
      have := of_decide_eq_true h
      exact decide_eq_false (by omega)
theorem lexd_trans (L : List Nat) : ∀ {a b c : List Nat}, lexd L a b = true → lexd L b c = true → lexd L a c = true
  | [], _, _, h, _ => by simp [lexd] at h
  | _ :: _, [], _, h, _ => by simp [lexd] at h
  | _ :: _, _ :: _, [], _, h => by simp [lexd] at h
  | x :: a, y :: b, z :: c, h, k => by
    rw [lexd] at h k ⊢
    by_cases e : x = y
    · subst e
      rw [if_pos rfl] at h
      by_cases f : x = z
      · rw [if_pos f] at k ⊢
        exact lexd_trans L h k
      · rw [if_neg f] at k ⊢
        exact k
    · rw [if_neg e] at h
      have h1 := of_decide_eq_true h
      by_cases f : y = z
      · subst f
        rw [if_neg e]
        exact h
      · rw [if_neg f] at k
        have k1 := of_decide_eq_true k
        rw [if_neg (fun g => by rw [g] at h1; omega)]
        exact decide_eq_true (by omega)
theorem lexd_total {L : List Nat} : ∀ {a b : List Nat}, a.length = b.length → (∀ c ∈ a, c ∈ L) → (∀ c ∈ b, c ∈ L) → lexd L a b = true ∨ a = b ∨ lexd L b a = true
  | [], [], _, _, _ => .inr (.inl rfl)
  | [], _ :: _, e, _, _ => by simp at e
  | _ :: _, [], e, _, _ => by simp at e
  | x :: a, y :: b, e, ha, hb => by
    rw [lexd, lexd]
    by_cases q : x = y
    · subst q
      rw [if_pos rfl, if_pos rfl]
      rcases lexd_total (a := a) (b := b) (by simpa using e) (fun c hc => ha c (by simp [hc])) (fun c hc => hb c (by simp [hc])) with h | h | h
      · exact .inl h
      · exact .inr (.inl (by rw [h]))
      · exact .inr (.inr h)
    · rw [if_neg q, if_neg (Ne.symm q)]
      rcases Nat.lt_trichotomy (L.idxOf x) (L.idxOf y) with h | h | h
      · exact .inl (decide_eq_true h)
      · exact absurd (idx_inj (ha x (by simp)) h) q
      · exact .inr (.inr (decide_eq_true h))
section
variable {L a b c : List Nat}
theorem ear_len (h : a.length < b.length) : ear L a b = true := by
  unfold ear
  rw [if_pos (by omega)]
  exact decide_eq_true h
theorem ear_eq (h : a.length = b.length) : ear L a b = lexd L a b := by
  unfold ear
  rw [if_neg (by simpa using h)]
theorem ear_le (h : ear L a b = true) : a.length ≤ b.length := by
  by_cases e : a.length = b.length
  · omega
  · unfold ear at h
    rw [if_pos e] at h
    have := of_decide_eq_true h
    omega
theorem ear_snoc (x y : Nat) (h : ear L a b = true) : ear L (a ++ [x]) (b ++ [y]) = true := by
  have hl := ear_le h
  by_cases e : a.length = b.length
  · rw [ear_eq (by simp [e])]
    rw [ear_eq e] at h
    exact lexd_snoc L x y h
  · exact ear_len (by simp; omega)
theorem ear_same {x y : Nat} (h : L.idxOf x < L.idxOf y) : ear L (a ++ [x]) (a ++ [y]) = true := by
  rw [ear_eq (by simp)]
  exact lexd_same L h a
theorem ear_asymm (h : ear L a b = true) : ear L b a = false := by
  have hl := ear_le h
  by_cases e : a.length = b.length
  · rw [ear_eq e] at h
    rw [ear_eq e.symm]
    exact lexd_asymm L h
  · unfold ear
    rw [if_pos (Ne.symm e)]
    exact decide_eq_false (by omega)
theorem ear_trans (h : ear L a b = true) (k : ear L b c = true) : ear L a c = true := by
  have h1 := ear_le h
  have h2 := ear_le k
  by_cases e : a.length = c.length
  · rw [ear_eq (by omega)] at h k
    rw [ear_eq e]
    exact lexd_trans L h k
  · exact ear_len (by omega)
theorem ear_nil : ear L a [] = false := by
  unfold ear
  by_cases e : a.length = ([] : List Nat).length
  · rw [if_neg (by simpa using e)]
    cases a <;> simp [lexd]
  · rw [if_pos e]
    simp
theorem ear_total (ha : ∀ x ∈ a, x ∈ L) (hb : ∀ x ∈ b, x ∈ L) : ear L a b = true ∨ a = b ∨ ear L b a = true := by
  by_cases e : a.length = b.length
  · rw [ear_eq e, ear_eq e.symm]
    exact lexd_total e ha hb
  · by_cases h : a.length < b.length
    · exact .inl (ear_len h)
    · exact .inr (.inr (ear_len (by omega)))
theorem ear_le_trans (ha : ∀ x ∈ a, x ∈ L) (hb : ∀ x ∈ b, x ∈ L) (h : ear L b a = false) (k : ear L c b = false) : ear L c a = false := by
  cases q : ear L c a with
  | false => rfl
  | true =>
    rcases ear_total ha hb with t | t | t
    · rw [ear_trans q t] at k
      cases k
    · rw [← t, q] at k
      cases k
    · rw [t] at h
      cases h
theorem ear_le_snoc (x : Nat) (h : ear L b a = false) : ear L (b ++ [x]) (a ++ [x]) = false := by
  cases q : ear L (b ++ [x]) (a ++ [x]) with
  | false => rfl
  | true =>
    have hl := ear_le q
    by_cases e : b.length = a.length
    · rw [ear_eq (by simp [e])] at q
      rw [ear_eq e, lexd_unsnoc L x e q] at h
      cases h
    · rw [ear_len (by simp at hl; omega)] at h
      cases h
end
section
variable {κ : Type} [DecidableEq κ]
def runG (g : κ → Nat → κ) (L : List Nat) (s : κ) (w : List Nat) : κ := w.foldl (fun t c => g t (L.idxOf c)) s
theorem runG_snoc (g : κ → Nat → κ) (L : List Nat) (s : κ) (w : List Nat) (c : Nat) : runG g L s (w ++ [c]) = g (runG g L s w) (L.idxOf c) := by
  unfold runG
  rw [List.foldl_append]
  rfl
structure Bf (g : κ → Nat → κ) (L : List Nat) (s : κ) (ts : List κ) (ws : List (List Nat)) (n k : Nat) : Prop where
  len : ts.length = ws.length
  nd : ts.Nodup
  t0 : ts[0]? = some s
  w0 : ws[0]? = some []
  srt : ∀ (i j : Nat) (a b : List Nat), i < j → ws[i]? = some a → ws[j]? = some b → ear L a b = true
  lead : ∀ (i : Nat) (t : κ) (a : List Nat), ts[i]? = some t → ws[i]? = some a → (∀ c ∈ a, c ∈ L) ∧ runG g L s a = t
  par : ∀ (j : Nat) (b : List Nat), ws[j]? = some b → b = [] ∨ ∃ (p q : Nat) (a : List Nat), ws[p]? = some a ∧ q < L.length ∧ b = a ++ [L.getD q 0] ∧ (p < n ∨ (p = n ∧ q < k))
  fin : ∀ (r q : Nat) (t : κ) (a : List Nat), (r < n ∨ (r = n ∧ q < k)) → q < L.length → ts[r]? = some t → ws[r]? = some a → ∃ (j : Nat) (b : List Nat), ts[j]? = some (g t q) ∧ ws[j]? = some b ∧ ear L (a ++ [L.getD q 0]) b = false
variable {g : κ → Nat → κ} {L : List Nat} {s : κ} {ts : List κ} {ws : List (List Nat)} {n k : Nat}
theorem Bf.start (g : κ → Nat → κ) (L : List Nat) (s : κ) : Bf g L s [s] [[]] 0 0 where
  len := rfl
  nd := by simp
  t0 := rfl
  w0 := rfl
  srt := fun i j a b hij ha hb => by
    have := (List.getElem?_eq_some_iff.mp hb).1
    simp at this
    omega
  lead := fun i t a ht ha => by
    match i, ht, ha with
    | 0, ht, ha => cases ht; cases ha; exact ⟨fun c hc => by simp at hc, rfl⟩
    | i + 1, ht, _ => simp at ht
  par := fun j b hb => by
    match j, hb with
    | 0, hb => cases hb; exact .inl rfl
    | j + 1, hb => simp at hb
  fin := fun r q t a h => by omega
theorem Bf.behind (h : Bf g L s ts ws n k) (nd : L.Nodup) {a : List Nat} (ha : ws[n]? = some a) (hk : k < L.length) {j : Nat} {b : List Nat} (hb : ws[j]? = some b) : ear L b (a ++ [L.getD k 0]) = true := by
  rcases h.par j b hb with rfl | ⟨p, q, a', hp, hq, rfl, lt⟩
  · exact ear_len (by simp)
  · rcases lt with lt | ⟨rfl, lt⟩
    · exact ear_snoc _ _ (h.srt p n a' a lt hp ha)
    · rw [ha] at hp
      cases hp
      refine ear_same ?_
      have e1 : L.idxOf (L.getD q 0) = q := by rw [List.getD_eq_getElem?_getD, List.getElem?_eq_getElem hq]; exact idx_get nd hq
      have e2 : L.idxOf (L.getD k 0) = k := by rw [List.getD_eq_getElem?_getD, List.getElem?_eq_getElem hk]; exact idx_get nd hk
      rw [e1, e2]
      exact lt
theorem lt_step {r q n k : Nat} (h : r < n ∨ (r = n ∧ q < k + 1)) : (r < n ∨ (r = n ∧ q < k)) ∨ (r = n ∧ q = k) := by omega
theorem Bf.old (h : Bf g L s ts ws n k) (nd : L.Nodup) {t : κ} {a : List Nat} (ht : ts[n]? = some t) (ha : ws[n]? = some a) (hk : k < L.length) (hm : g t k ∈ ts) : Bf g L s ts ws n (k + 1) :=
  { h with
    par := fun j b hb => by
      rcases h.par j b hb with e | ⟨p, q, a', h1, h2, h3, h4⟩
      · exact .inl e
      · exact .inr ⟨p, q, a', h1, h2, h3, by omega⟩
    fin := fun r q t' a' hr hq ht' ha' => by
      rcases lt_step hr with hr | ⟨rfl, rfl⟩
      · exact h.fin r q t' a' hr hq ht' ha'
      · rw [ht] at ht'
        rw [ha] at ha'
        cases ht'
        cases ha'
        obtain ⟨j, hj⟩ := List.mem_iff_getElem?.mp hm
        have hl : j < ws.length := by rw [← h.len]; exact (List.getElem?_eq_some_iff.mp hj).1
        exact ⟨j, ws[j], hj, List.getElem?_eq_getElem hl, ear_asymm (h.behind nd ha hk (List.getElem?_eq_getElem hl))⟩ }
theorem Bf.new (h : Bf g L s ts ws n k) (nd : L.Nodup) {t : κ} {a : List Nat} (ht : ts[n]? = some t) (ha : ws[n]? = some a) (hk : k < L.length) (hm : g t k ∉ ts) : Bf g L s (ts ++ [g t k]) (ws ++ [a ++ [L.getD k 0]]) n (k + 1) := by
  have gk : L.getD k 0 = L[k] := by rw [List.getD_eq_getElem?_getD, List.getElem?_eq_getElem hk]; rfl
  have up : ∀ {α : Type} {l : List α} {x y : α} {i : Nat}, l[i]? = some y → (l ++ [x])[i]? = some y := fun {α l x y i} e => by
    rw [List.getElem?_append_left (List.getElem?_eq_some_iff.mp e).1]
    exact e
  have split : ∀ {α : Type} {l : List α} {x y : α} {i : Nat}, (l ++ [x])[i]? = some y → l[i]? = some y ∨ (i = l.length ∧ y = x) := fun {α l x y i} e => by
    by_cases hi : i < l.length
    · rw [List.getElem?_append_left hi] at e
      exact .inl e
    · rw [List.getElem?_append_right (by omega)] at e
      have : i - l.length = 0 := by
        have := (List.getElem?_eq_some_iff.mp e).1
        simp at this
        omega
      rw [this] at e
      exact .inr ⟨by omega, (Option.some.inj e).symm⟩
  have last : (ts ++ [g t k])[ts.length]? = some (g t k) := by rw [List.getElem?_append_right (Nat.le_refl _), Nat.sub_self]; rfl
  have lastw : (ws ++ [a ++ [L.getD k 0]])[ws.length]? = some (a ++ [L.getD k 0]) := by rw [List.getElem?_append_right (Nat.le_refl _), Nat.sub_self]; rfl
  obtain ⟨hin, hrun⟩ := h.lead n t a ht ha
  refine ⟨by simp [h.len], ?_, up h.t0, up h.w0, fun i j x y hij hx hy => ?_, fun i t' x ht' hx => ?_, fun j b hb => ?_, fun r q t' x hr hq ht' hx => ?_⟩
  · rw [List.nodup_append]
    exact ⟨h.nd, by simp, fun x hx y hy e => hm (by rw [List.mem_singleton.mp hy] at e; rw [← e]; exact hx)⟩
  · rcases split hy with hy | ⟨rfl, rfl⟩
    · rcases split hx with hx | ⟨rfl, rfl⟩
      · exact h.srt i j x y hij hx hy
      · have := (List.getElem?_eq_some_iff.mp hy).1
        omega
    · rcases split hx with hx | ⟨rfl, rfl⟩
      · exact h.behind nd ha hk hx
      · omega
  · rcases split ht' with ht' | ⟨rfl, rfl⟩
    · rcases split hx with hx | ⟨rfl, rfl⟩
      · exact h.lead i t' x ht' hx
      · have := (List.getElem?_eq_some_iff.mp ht').1
        rw [h.len] at this
        omega
    · rcases split hx with hx | ⟨_, rfl⟩
      · have := (List.getElem?_eq_some_iff.mp hx).1
        rw [h.len] at this
        omega
      · refine ⟨fun c hc => ?_, ?_⟩
        · rcases List.mem_append.mp hc with hc | hc
          · exact hin c hc
          · rw [List.mem_singleton.mp hc, gk]
            exact List.getElem_mem hk
        · rw [runG_snoc, hrun, gk, idx_get nd hk]
  · rcases split hb with hb | ⟨rfl, rfl⟩
    · rcases h.par j b hb with e | ⟨p, q, a', h1, h2, h3, h4⟩
      · exact .inl e
      · exact .inr ⟨p, q, a', up h1, h2, h3, by omega⟩
    · exact .inr ⟨n, k, a, up ha, hk, rfl, .inr ⟨rfl, Nat.lt_succ_self k⟩⟩
  · have hrn : r ≤ n := by omega
    have hn := (List.getElem?_eq_some_iff.mp ht).1
    have ht'' : ts[r]? = some t' := by rw [List.getElem?_append_left (by omega)] at ht'; exact ht'
    have hx' : ws[r]? = some x := by rw [List.getElem?_append_left (by rw [← h.len]; omega)] at hx; exact hx
    rcases lt_step hr with hr | ⟨rfl, rfl⟩
    · obtain ⟨j, b, e1, e2, e3⟩ := h.fin r q t' x hr hq ht'' hx'
      exact ⟨j, b, up e1, up e2, e3⟩
    · rw [ht] at ht''
      rw [ha] at hx'
      cases ht''
      cases hx'
      refine ⟨ts.length, _, last, by rw [h.len]; exact lastw, ?_⟩
      cases q' : ear L (a ++ [L.getD q 0]) (a ++ [L.getD q 0]) with
      | false => rfl
      | true => exact q'.symm.trans (ear_asymm q')
theorem Bf.next (h : Bf g L s ts ws n L.length) : Bf g L s ts ws (n + 1) 0 :=
  { h with
    par := fun j b hb => by
      rcases h.par j b hb with e | ⟨p, q, a', h1, h2, h3, h4⟩
      · exact .inl e
      · exact .inr ⟨p, q, a', h1, h2, h3, by omega⟩
    fin := fun r q t a hr hq ht ha => h.fin r q t a (by omega) hq ht ha }
theorem Bf.told (h : Bf g L s ts ws ts.length 0) (nd : L.Nodup) : ∀ (w : List Nat) (m : Nat), w.length = m → (∀ c ∈ w, c ∈ L) → ∃ (j : Nat) (b : List Nat), ts[j]? = some (runG g L s w) ∧ ws[j]? = some b ∧ ear L w b = false := by
  intro w m
  induction m generalizing w with
  | zero =>
    intro hm _
    rw [List.length_eq_zero_iff.mp hm]
    exact ⟨0, [], h.t0, h.w0, ear_nil⟩
  | succ m ih =>
    intro hm hw
    obtain ⟨c, v, rfl⟩ : ∃ c v, w = v ++ [c] := ⟨w.getLast (by intro z; rw [z] at hm; cases hm), w.dropLast, (List.dropLast_concat_getLast _).symm⟩
    have hv : ∀ x ∈ v, x ∈ L := fun x hx => hw x (by simp [hx])
    have hc : c ∈ L := hw c (by simp)
    obtain ⟨r, a, e1, e2, e3⟩ := ih v (by simpa using hm) hv
    have hr := (List.getElem?_eq_some_iff.mp e1).1
    have hi : L.idxOf c < L.length := List.idxOf_lt_length_of_mem hc
    obtain ⟨j, b, f1, f2, f3⟩ := h.fin r (L.idxOf c) _ a (.inl hr) hi e1 e2
    have gc : L.getD (L.idxOf c) 0 = c := by rw [List.getD_eq_getElem?_getD, List.getElem?_eq_getElem hi]; exact List.getElem_idxOf hi
    rw [gc] at f3
    obtain ⟨ha, _⟩ := h.lead r _ a e1 e2
    refine ⟨j, b, by rw [runG_snoc]; exact f1, f2, ?_⟩
    obtain ⟨hb, _⟩ := h.lead j _ b f1 f2
    refine ear_le_trans (b := a ++ [c]) hb (fun x hx => ?_) f3 (ear_le_snoc c e3)
    rcases List.mem_append.mp hx with hx | hx
    · exact ha x hx
    · rw [List.mem_singleton.mp hx]
      exact hc
def leftOf (U ts : List κ) : Nat := U.countP fun x => !decide (x ∈ ts)
theorem leftOf_lt {U ts : List κ} {x : κ} (hU : x ∈ U) (hx : x ∉ ts) : leftOf U (ts ++ [x]) < leftOf U ts := by
  refine countP_lt (fun z hz h => ?_) ⟨x, hU, ?_, ?_⟩
  · simp only [Bool.not_eq_true', decide_eq_false_iff_not] at h ⊢
    exact fun q => h (List.mem_append_left _ q)
  · simp only [Bool.not_eq_true', decide_eq_false_iff_not]
    exact hx
  · simp only [Bool.not_eq_false', decide_eq_true_eq]
    exact List.mem_append_right _ (List.mem_singleton.mpr rfl)
end
end RA
namespace L2
open PySem PySem.Spec PyProof.Rows
structure FnScopeC (N ps fr : List Str) (sc : Scope) : Prop where
  kind : sc.kind = .function
  co : sc.isCoroutine = false
  gen : sc.isGenerator = false
  nd : N.Nodup
  pre : N.take ps.length = ps
  suf : N.drop (N.length - fr.length) = fr
  fit : ps.length + fr.length ≤ N.length
  par : ∀ x ∈ ps, sc.names.lookup x = some .local
  nocell : ∀ y ∈ sc.names, y.2 ≠ .cell
structure ClosAt (h : Heap) (clos : List (Str × Addr)) (sc : Scope) (fr : List Str) (fvs : List V) : Prop where
  inj : ∀ y z c, clos.lookup y = some c → clos.lookup z = some c → y = z
  has : ∀ y ∈ sc.names, y.2 = .free → ∃ c, clos.lookup y.1 = some c
  cell : ∀ y c, clos.lookup y = some c → ∃ v, h.IsCell c v
  len : fvs.length = fr.length
  val : ∀ (i : Nat) (y : Str) (v : V), fr[i]? = some y → fvs[i]? = some v → (sc.names.lookup y = some .free) ∧ ∃ c u, clos.lookup y = some c ∧ h.IsCell c (some u) ∧ RelV v u
def cxOfC (CX : CXT) (P : Program) (w : World) (K : PySem.W.Frag) (mg : Str → Option Value) (base : Heap) (N : List Str) (qual : Str) (scope : Scope) (f : Addr) (cd : Value) (clos : List (Str × Addr)) (A : Around) (outer : List Env) (s : Shared) (H : Hp) (E : XK) : Cx where
  prog := P
  w := w
  K := K
  mg := mg
  base := base
  A := A.deeper (PySem.W.envX qual scope s.heap.objs.size f cd clos)
  N := N
  s₀ := s
  H₀ := H
  env := PySem.W.envX qual scope s.heap.objs.size f cd clos
  outer := outer
  stack := PySem.W.envX qual scope s.heap.objs.size f cd clos :: outer
  ex := []
  calm := true
  fn := fun _ => false
  pn := []
  xe := fun e s' => wpAny (model P w) (A.deeper (PySem.W.envX qual scope s.heap.objs.size f cd clos)) (leaving (PySem.W.envX qual scope s.heap.objs.size f cd clos) e) (fun _ s'' => CX outer H s E e s'') (fun e' s'' => CX outer H s E e' s'') s'
def startC (N : List Str) (vs fvs : List V) : St := vs.map some ++ (List.replicate (N.length - vs.length - fvs.length) none ++ fvs.map some)
theorem rev_zip {x : Str} {v : Value} : ∀ {ps : List Str} {us : List Value} {i : Nat}, ps.Nodup → ps[i]? = some x → us[i]? = some v → (ps.zip us).reverse.lookup x = some v := by
  intro ps us i nd h1 h2
  have hm : (x, v) ∈ (ps.zip us).reverse := by
    rw [List.mem_reverse]
    have hz : (ps.zip us)[i]? = some (x, v) := by rw [List.getElem?_zip_eq_some]; exact ⟨h1, h2⟩
    exact List.mem_of_getElem? hz
  have uniq : ∀ v', (x, v') ∈ (ps.zip us).reverse → v' = v := fun v' hm' => by
    rw [List.mem_reverse] at hm'
    obtain ⟨j, hj⟩ := List.mem_iff_getElem?.mp hm'
    rw [List.getElem?_zip_eq_some] at hj
    have e : j = i := nodup_ix nd hj.1 h1
    subst e
    have := hj.2
    rw [h2] at this
    exact (Option.some.inj this).symm
  cases e : (ps.zip us).reverse.lookup x with
  | none =>
    have := List.lookup_eq_none_iff.mp e _ hm
    simp at this
  | some v' => rw [uniq v' (PySem.mem_of_lookup e)]
section
variable {CX : CXT} {P : Program} {w : World} {K : PySem.W.Frag} {mg : Str → Option Value} {base : Heap} {N ps fr : List Str} {qual : Str} {scope : Scope} {f : Addr} {cd : Value} {clos : List (Str × Addr)} {A : Around} {outer : List Env} {s : Shared} {H : Hp} {E : XK} {us : List Value} {vs fvs : List V}
theorem inv_startC {h' : Heap} {tk : Nat} (S : FnScopeC N ps fr scope) (C : ClosAt base clos scope fr fvs) (hd : A.handled = none) (e0 : Env0 P w K mg base A outer s H) (hl : vs.length = ps.length) (r : Vals vs us)
    (hns : h'.Ns s.heap.objs.size (fun x => (ps.zip us).reverse.lookup x)) (hsb : Heap.SameBut s.heap.objs.size (s.heap.push { cls := .type "frame", data := .dict #[] }) h') :
    Inv (cxOfC CX P w K mg base N qual scope f cd clos A outer s H E) [] (startC N vs fvs) H { s with heap := h', toks := tk } := by
  have hk : ∀ b o, s.heap.get? b = some o → h'.get? b = some o := fun b o e => hsb.extBut b o (Nat.ne_of_lt (Heap.lt_size e)) (Heap.get?_push_of_some _ e)
  have noA : ∀ b : Addr, b ∉ (cxOfC CX P w K mg base N qual scope f cd clos A outer s H E).ex := fun b z => absurd (show b ∈ ([] : List Addr) from z) (by simp)
  have cellK : ∀ c v, base.IsCell c v → h'.IsCell c v := fun c v ⟨o, ho, hd⟩ => ⟨o, hk c o (e0.bs c o ho).1, hd⟩
  have hus : us.length = ps.length := by rw [← r.length]; exact hl
  have hfit := S.fit
  have hfl := C.len
  refine ⟨⟨e0.mod, S.kind, rfl, rfl, Nat.le_refl _, fun y z c h1 h2 => C.inj y z c h1 h2, fun y hy => ?_, fun y c h => absurd (show false = true from h) Bool.false_ne_true, fun _ => hd, Around.frames_deeper e0.frames, .inr ⟨rfl, rfl⟩, fun b z => absurd z (noA b), e0.bs, e0.bsz, fun b _ _ => noA b, fun b z => absurd z (noA b), e0.funs, e0.frf⟩,
    rfl, e0.bare, Un.kept hk, ⟨_, hns, fun i y v h1 h2 h3 => ?_⟩, fun y c h => ?_, e0.hok.fresh (Nat.le_refl _), fun y c h => ?_, fun p hp => absurd (show p ∈ ([] : List (Addr × Obj)) from hp) (by simp), e0.hok.kept hk, ?_⟩
  · have hy : scope.names.lookup y = some .cell ∨ scope.names.lookup y = some .free := hy
    rcases hy with hy | hy
    · exact absurd rfl (S.nocell _ (PySem.mem_of_lookup hy))
    · exact C.has _ (PySem.mem_of_lookup hy) rfl
  · have h1 : N[i]? = some y := h1
    have hi : i < N.length := (List.getElem?_eq_some_iff.mp h1).1
    unfold startC at h2
    by_cases hiv : i < vs.length
    · have ha : vs[i]? = some v := by
        rw [List.getElem?_append_left (by simpa using hiv), List.getElem?_map] at h2
        cases e : vs[i]? with
        | none => rw [e] at h2; cases h2
        | some a => rw [e] at h2; cases h2; rfl
      obtain ⟨u, hu, rv⟩ := r.get ha
      have hp : ps[i]? = some y := by
        rw [← S.pre, List.getElem?_take_of_lt (by omega)]; exact h1
      have ndP : ps.Nodup := by rw [← S.pre]; exact S.nd.sublist (List.take_sublist _ _)
      exact ⟨u, rv, .inl ⟨S.par y (List.mem_of_getElem? hp), rev_zip ndP hp hu⟩⟩
    · rw [List.getElem?_append_right (by simpa using hiv)] at h2
      rw [List.length_map] at h2
      by_cases hir : i - vs.length < N.length - vs.length - fvs.length
      · rw [List.getElem?_append_left (by simpa using hir), List.getElem?_replicate, if_pos hir] at h2
        cases h2
      · rw [List.getElem?_append_right (by simpa using hir), List.length_replicate, List.getElem?_map] at h2
        have ej : i - vs.length - (N.length - vs.length - fvs.length) = i - (N.length - fr.length) := by omega
        rw [ej] at h2
        cases e : fvs[i - (N.length - fr.length)]? with
        | none => rw [e] at h2; cases h2
        | some a =>
          rw [e] at h2
          cases h2
          have hf : fr[i - (N.length - fr.length)]? = some y := by
            have q : (N.drop (N.length - fr.length))[i - (N.length - fr.length)]? = some y := by
              rw [List.getElem?_drop, show N.length - fr.length + (i - (N.length - fr.length)) = i by omega]
              exact h1
            rw [S.suf] at q
            exact q
          obtain ⟨k1, c, u, k2, k3, k4⟩ := C.val _ _ _ hf e
          exact ⟨u, k4, .inr ⟨.inr k1, c, k2, cellK c _ k3⟩⟩
  · obtain ⟨v, z⟩ := C.cell y c h
    exact ⟨v, cellK c v z⟩
  · obtain ⟨v, o, ho, _⟩ := C.cell y c h
    exact (e0.bs c o ho).2
  · unfold startC
    show _ = N.length
    simp only [List.length_append, List.length_map, List.length_replicate]
    omega
theorem fn_ofC {k : Nat} {name : Str} {params : Arguments} {body : List Stmt} {doc pm ctv : Value} {c' : Addr} {sp : Sp} {o : Obj} (ho : base.get? f = some o) (hd : o.data = .func (PySem.W.fnX name qual params body scope clos .none .none doc pm none (.ref c') ctv))
    (hcd : base.CodeRec (.ref c') qual) (S : FnScopeC N ps fr scope) (C : ClosAt base clos scope fr fvs) (len : ∀ vs H Q E, sp vs H Q E → vs.length = ps.length)
    (hbody : ∀ (A : Around) (outer : List Env) (s : Shared) (H : Hp) (vs : List V) (Q : VK) (E : XK), Room k (A.deeper (PySem.W.envX qual scope s.heap.objs.size f (.ref c') clos)) → sp vs H Q E →
      ∃ t, PSs (cxOfC CX0 P w K mg base N qual scope f (.ref c') clos A outer s H E).nox body t ∧ t { nx := fun _ H' => Q .non H', rt := Q } (startC N vs fvs) H) :
    FnOk P w K mg base CX0 (k + 1) f (PySem.W.fnX name qual params body scope clos .none .none doc pm none (.ref c') ctv) ps sp := by
  refine ⟨len, fun A outer s H args us vs Q E hr e0 hb r hsp => ?_⟩
  have hl := len _ _ _ _ hsp
  have lim : s.heap.NoLimit := e0.mod.nolimit.keeps fun b o e => (e0.bs b o e).1
  have hus : us.length = ps.length := by rw [← r.length]; exact hl
  have hkind : ∀ y ∈ ps.zip us, scope.names.lookup y.1 = some .local := fun ⟨n, v⟩ hy => S.par n (List.of_mem_zip hy).1
  have hcd' : s.heap.CodeRec (.ref c') qual := by
    obtain ⟨c, oc, ws, t, e1, e2, e3, e4⟩ := hcd
    exact ⟨c, oc, ws, t, e1, (e0.bs c oc e2).1, e3, e4⟩
  refine codeAny_call_function hr.depth (e0.bs f o ho).1 hd S.co S.gen rfl hcd' (hb _ _ _ _ ?_)
  refine wpAny_newFunctionEnv (closure := clos) (around := none) S.nocell hkind (fun h' hns hsb => ?_) S.kind
  have hkp : ∀ b o, s.heap.get? b = some o → h'.get? b = some o := fun b o e => hsb.extBut b o (Nat.ne_of_lt (Heap.lt_size e)) (Heap.get?_push_of_some _ e)
  refine ⟨lim.keeps hkp, codeAny_func ?_⟩
  obtain ⟨t, ht, hq⟩ := hbody A outer s H vs Q E (hr.deeper _) hsp
  have I : Inv (cxOfC CX0 P w K mg base N qual scope f (.ref c') clos A outer s H E) [] (startC N vs fvs) H { s with heap := h', toks := s.toks + (ps.zip us).length } := inv_startC S C hr.hd e0 hl r hns hsb
  refine wpAny_mono (ht.nox [] _ (startC N vs fvs) H _ I hq) (fun fl s' hs => ?_) fun e s' hs => hs
  have fin : ∀ {σ' : St} {H' : Hp} {v : V} {u : Value}, Inv (cxOfC CX0 P w K mg base N qual scope f (.ref c') clos A outer s H E) [] σ' H' s' → RelV v u → Q v H' → CE outer P w H s Q u s' :=
    fun {σ' H' v u} J rv q => ⟨v, H', J.os, J.bare, J.base, J.hok, rv, q⟩
  cases fl with
  | ret u =>
    obtain ⟨v, σ', H', J, rv, q⟩ := hs
    exact fin J rv q
  | next =>
    obtain ⟨σ', H', J, q⟩ := hs
    exact fin (v := V.non) (u := Value.none) J rfl q
  | brk =>
    obtain ⟨_, _, _, q⟩ := hs
    exact False.elim q
  | cont =>
    obtain ⟨_, _, _, q⟩ := hs
    exact False.elim q
end
def tCallL (i : Nat) (f : Addr) (sp : Sp) (t : TA) : TE := fun σ H Q => σ[i]? = some (some (.ref f)) ∧ t σ H fun vs H1 => sp vs H1 Q E0
theorem pe_callL {X : Cx} {k i : Nat} {f : Addr} {fd fd' : FuncData} {oc : Value} {od : Option Addr} {sl : Array (Option Value)} {ps : List Str} {sp : Sp} {x : Str} {p pos : Pos} {e : Expr} {es : List Expr} {t : TA} (F : FnOk X.prog X.w X.K X.mg X.base CX0 k f fd ps sp) (hr : Room k X.A) (ho : X.base.get? f = some ⟨oc, od, .func fd', sl⟩)
    (hb : Binds X.K fd ps []) (hv : PE X (.Name x p) (tVar i)) (ha : PA X (e :: es) t) (he : starEach (e :: es) X.env = (false, eval e X.env) :: starEach es X.env := by rfl) (hpl : (backTo pos (starEach es X.env)).any (·.1) = false := by rfl) :
    PE X (.Call (.Name x p) (e :: es) [] pos) (tCallL i f sp t) := by
  intro pins s σ H Q I h
  refine wpAny_Call_Name_kw (thn (hv pins s σ H (fun v H1 => v = .ref f ∧ H1 = H) I ⟨_, h.1, rfl, rfl⟩) fun fv s1 hq => ?_)
  obtain ⟨v, H1, I1, rv, rfl, rfl⟩ := hq
  obtain rfl : fv = .ref f := rv
  refine PySem.W.callWith_F ⟨oc, od, fd', sl, (I1.bs f _ ho).1⟩ (thn (ha pos pins s1 σ H1 _ I1 h.2) fun us s2 ⟨vs, H2, I2, r, q⟩ => ⟨⟨oc, od, fd', sl, (I2.bs f _ ho).1⟩, ?_⟩) he hpl
  exact run_fn F hr hb .nil pass0 I2 r (by rw [List.append_nil]; exact q)
end L2
namespace L2
open PySem PySem.Spec PyProof.Rows
theorem among_app (q : Pos) (r : List Value) (l : List Value) (h : TriplesOk l) : codeAmong q (l ++ r) = (codeAmong q l).or (codeAmong q r) := by
  induction l using TriplesOk.induct with
  | case1 => simp [codeAmong]
  | case2 a t b u c rest ih =>
    have h : TriplesOk rest := h
    simp only [List.cons_append, codeAmong]
    split
    · rfl
    · exact ih h
  | case3 l h1 h2 =>
    exfalso
    unfold TriplesOk at h
    split at h
    · exact h1 rfl
    · exact h2 _ _ _ _ _ _ rfl
    · exact h
theorem triples_app (x y : Int) (t u : Tok) (c : Value) (l : List Value) (h : TriplesOk l) : TriplesOk (l ++ [.int x t, .int y u, c]) := by
  induction l using TriplesOk.induct with
  | case1 => exact True.intro
  | case2 a t b u c rest ih => exact ih h
  | case3 l h1 h2 =>
    exfalso
    unfold TriplesOk at h
    split at h
    · exact h1 rfl
    · exact h2 _ _ _ _ _ _ rfl
    · exact h
def codeHO (c : Addr) (q : Str) : HO := .ext fun h => h.CodeRec (.ref c) q
def fnHO (f : Addr) (name qual : Str) (params : Arguments) (body : List Stmt) (scope : Scope) (clos : List (Str × Addr)) (c : Addr) : HO := .ext fun h => ∃ doc pm ctv, h.get? f = some (PySem.W.fnMade name qual params body scope clos doc pm c ctv)
def TabSt (H : Hp) (P0 : Addr) (sites : List (Pos × Str)) : Prop :=
  ∃ ps, H P0 = some (.tbl ps) ∧ TriplesOk ps.toList ∧ ∀ q ∈ sites, codeAmong q.1 ps.toList = none ∨ ∃ c, codeAmong q.1 ps.toList = some (.ref c) ∧ H c = some (codeHO c q.2)
def SameX (P0 : Addr) (H H' : Hp) : Prop := ∀ b o, b ≠ P0 → H b = some o → H' b = some o
structure BltAt (h : Heap) (mg : Str → Option Value) : Prop where
  ex : ∃ bm o, mg "__builtins__" = some (.ref bm) ∧ bm ≠ builtinsNs ∧ bm ≠ mainGlobals ∧ h.get? bm = some o ∧ o.cls = .type "module" ∧ o.dict = some builtinsNs ∧ o.data = .plain
def tNest (X : Cx) (P0 : Addr) (sites : List (Pos × Str)) (i : Nat) (name qual : Str) (params : Arguments) (body : List Stmt) (sc : Scope) : TS := fun D σ H => TabSt H P0 sites ∧
  ∀ (clos : List (Str × Addr)) (f c : Addr) (H1 : Hp), (∀ y a, clos.lookup y = some a → X.env.cells.lookup y = some a) → (∀ y ∈ sc.names, y.2 = .free → ∃ a, clos.lookup y.1 = some a) → H f = none → f ≠ c → SameX P0 H H1 → TabSt H1 P0 sites →
    H1 c = some (codeHO c qual) → H1 f = some (fnHO f name qual params body sc clos c) → D.nx (σ.set i (some (.ref f))) H1
theorem codeHO_ok {P : Program} {w : World} {H : Hp} {h : Heap} {c : Addr} {q : Str} (x : h.CodeRec (.ref c) q) : ObjOk P w H h c (codeHO c q) := by
  obtain ⟨c2, oc, vs, t, e, e1, e2, e3⟩ := id x
  cases e
  refine ⟨x, ⟨oc, e1⟩, fun h1 h2 y k => ?_⟩
  obtain ⟨c2, oc, vs, t, e, e1, e2, e3⟩ := y
  cases e
  exact ⟨_, oc, vs, t, rfl, k _ e1, e2, e3⟩
theorem fnHO_ok {P : Program} {w : World} {H : Hp} {h : Heap} {f c : Addr} {name qual : Str} {params : Arguments} {body : List Stmt} {scope : Scope} {clos : List (Str × Addr)} {doc pm ctv : Value}
    (x : h.get? f = some (PySem.W.fnMade name qual params body scope clos doc pm c ctv)) : ObjOk P w H h f (fnHO f name qual params body scope clos c) :=
  ⟨⟨doc, pm, ctv, x⟩, ⟨_, x⟩, fun _ _ ⟨d, p, v, e⟩ k => ⟨d, p, v, k _ e⟩⟩
theorem ps_nest {X : Cx} {i : Nat} {name qual : Str} {params : Arguments} {body : List Stmt} {sc : Scope} {pos : Pos} {c P0 : Addr} {sites : List (Pos × Str)} (hN : X.N.Nodup) (hi : X.N[i]? = some name) (hx : Loc X.env.scope name) (hcode : X.env.code = .ref c) (hC : PySem.W.CodeHd X.base c P0) (hB : BltAt X.base X.mg)
    (hsite : (pos, qual) ∈ sites) (hsites : ∀ q ∈ sites, q.1.line = pos.line → q.1.col = pos.col → q.2 = qual) (hq : qualnameIn X.env name name = qual := by rfl) (hd0 : params.defaults = [] := by rfl) (hk0 : params.kw_defaults = [] := by rfl) (ha : annTrees params none X.env = [] := by rfl)
    (hfree : (sc.names.all fun y => y.2 != .free || X.env.scope.names.lookup y.1 == some .cell) = true := by rfl) (hf : X.fn name = true ∨ X.env.scope.names.lookup name = some .local := by first | exact .inl rfl | exact .inr rfl) :
    PS X (.FunctionDef name params body [] none [] sc none name pos) (tNest X P0 sites i name qual params body sc) := by
  intro pins s σ H D I h
  obtain ⟨⟨ps, hP, ht, hall⟩, h⟩ := h
  have hfr : ∀ y ∈ sc.names, y.2 = .free → X.env.kindOf y.1 = some .cell := fun y hy e => by
    have q := List.all_eq_true.mp hfree y hy
    rw [e] at q
    simpa [Env.kindOf] using q
  obtain ⟨cl, hclos, hsub, hhas⟩ := closure_of (env := X.env) (sc := sc) fun y hy e => I.ok.has y.1 (.inl (hfr y hy e))
  have hPh : s.heap.get? P0 = some (PySem.W.tabObj ps) := I.hok P0 _ hP
  have hPlt : P0 < s.heap.objs.size := I.hok.lt hP
  have hbP : s.heap.BuiltinsAt X.mg P0 := by
    obtain ⟨bm, o, e1, e2, e3, e4, e5, e6, e7⟩ := hB.ex
    refine ⟨bm, o, e1, e2, e3, fun z => ?_, (I.bs bm o e4).1, e5, e6, e7⟩
    have n := (I.bs bm o e4).2
    rw [z, hP] at n
    cases n
  have hgs : s.heap.Ns mainGlobals X.mg := I.mod.glob.keeps I.bk
  have hgP : mainGlobals ≠ P0 := fun z => by
    obtain ⟨o, es, ep, e, hd, _⟩ := hgs
    rw [z, hPh] at e
    cases e
    cases hd
  have hC' := hC.keeps I.bk
  refine PySem.W.nestDef_K hd0 hk0 ha ?_
  rw [hq]
  have fin : ∀ {f : Addr} {s1 : Shared} {H1 : Hp}, Inv X pins σ H1 s1 → D.nx (σ.set i (some (.ref f))) H1 → wpAny (model X.prog X.w) X.A (storeName X.env name (.ref f)) (fun _ s'' => SP X pins D .next s'') X.xe s1 := fun {f s1 H1} I1 q =>
    store_ok I1 hN hi hx (v := .ref f) rfl (fun s' I' => ⟨_, H1, I', q⟩) hf
  have old : ∀ {b : Addr} {u : HO}, H b = some u → b < s.heap.objs.size := fun e => I.hok.lt e
  rcases hall _ hsite with hnf | ⟨c0, hhit, hc0⟩
  · refine PySem.W.makeFunction_K (mg := X.mg) hclos I.ok.glob hgs hcode hC' hPh ht hnf hgP hbP fun c' ctv doc h' tk hxx hge hlt hrec htb => ?_
    have hPc : P0 ≠ c' := Nat.ne_of_lt (Nat.lt_of_lt_of_le hPlt hge)
    have hszh : s.heap.objs.size < h'.objs.size := Nat.lt_of_le_of_lt hge hlt
    have hPf : P0 ≠ h'.objs.size := Nat.ne_of_lt (Nat.lt_trans hPlt hszh)
    have hcf : c' ≠ h'.objs.size := Nat.ne_of_lt hlt
    generalize hfe : h'.objs.size = f at hPf hcf hszh ⊢
    have kp : ∀ b o, b ≠ P0 → s.heap.get? b = some o → (h'.push (PySem.W.fnMade name qual params body sc cl doc ((X.mg "__name__").getD .none) c' ctv)).get? b = some o := fun b o hb e => Heap.get?_push_of_some _ (hxx b o hb e)
    have hof : (h'.push (PySem.W.fnMade name qual params body sc cl doc ((X.mg "__name__").getD .none) c' ctv)).get? f = some (PySem.W.fnMade name qual params body sc cl doc ((X.mg "__name__").getD .none) c' ctv) := by rw [← hfe]; exact Heap.get?_push_size _ rfl
    have hoc : (h'.push (PySem.W.fnMade name qual params body sc cl doc ((X.mg "__name__").getD .none) c' ctv)).CodeRec (.ref c') qual := by
      obtain ⟨c2, oc, vs, t, e, e1, e2, e3⟩ := hrec
      exact ⟨c2, oc, vs, t, e, Heap.get?_push_of_some _ e1, e2, e3⟩
    have hoP : (h'.push (PySem.W.fnMade name qual params body sc cl doc ((X.mg "__name__").getD .none) c' ctv)).get? P0 = some (PySem.W.tabObj (ps ++ #[rawInt pos.line, rawInt pos.col, .ref c'])) := Heap.get?_push_of_some _ htb
    generalize h'.push (PySem.W.fnMade name qual params body sc cl doc ((X.mg "__name__").getD .none) c' ctv) = hh at kp hof hoc hoP ⊢
    generalize hps : ps ++ #[rawInt pos.line, rawInt pos.col, .ref c'] = ps' at hoP
    have nlt : ∀ {b : Addr}, b < s.heap.objs.size → b ≠ c' ∧ b ≠ f := fun hb => ⟨Nat.ne_of_lt (Nat.lt_of_lt_of_le hb hge), Nat.ne_of_lt (Nat.lt_trans hb hszh)⟩
    have get1 : ∀ {b : Addr}, b < s.heap.objs.size → b ≠ P0 → upd (upd (upd H P0 (.tbl ps')) c' (codeHO c' qual)) f (fnHO f name qual params body sc cl c') b = H b := fun hb hbP => by
      rw [upd_ne (nlt hb).2, upd_ne (nlt hb).1, upd_ne hbP]
    have getO : ∀ {b : Addr}, b ≠ P0 → b ≠ c' → b ≠ f → upd (upd (upd H P0 (.tbl ps')) c' (codeHO c' qual)) f (fnHO f name qual params body sc cl c') b = H b := fun h1 h2 h3 => by
      rw [upd_ne h3, upd_ne h2, upd_ne h1]
    have getP : upd (upd (upd H P0 (.tbl ps')) c' (codeHO c' qual)) f (fnHO f name qual params body sc cl c') P0 = some (.tbl ps') := by rw [upd_ne hPf, upd_ne hPc, upd_same]
    have getc : upd (upd (upd H P0 (.tbl ps')) c' (codeHO c' qual)) f (fnHO f name qual params body sc cl c') c' = some (codeHO c' qual) := by rw [upd_ne hcf, upd_same]
    have getf : upd (upd (upd H P0 (.tbl ps')) c' (codeHO c' qual)) f (fnHO f name qual params body sc cl c') f = some (fnHO f name qual params body sc cl c') := upd_same
    generalize upd (upd (upd H P0 (.tbl ps')) c' (codeHO c' qual)) f (fnHO f name qual params body sc cl c') = H1 at get1 getO getP getc getf
    have nP : ∀ {b : Addr}, H b = none → b ≠ P0 := fun n z => by rw [z, hP] at n; cases n
    have keepH : ∀ {b : Addr} {u : HO}, H b = some u → b ≠ P0 → H1 b = some u := fun e hb => by rw [get1 (old e) hb]; exact e
    have notT : ∀ {b : Addr} {u : HO}, H b = some u → (∀ ps, u ≠ .tbl ps) → H1 b = some u := fun e hu => keepH e fun z => by
      rw [z, hP] at e
      cases e
      exact hu _ rfl
    have un : Un X.fs [] H H1 s.heap hh := by
      refine ⟨fun b o e n _ _ => kp b o (nP n) e, fun b o e n _ _ => ⟨o.slots, kp b o (nP n) e⟩, fun b o e n _ => by rw [get1 (Heap.lt_size e) (nP n)]; exact n, fun b o e _ => ?_, fun b xs e => notT e (fun _ z => nomatch z), fun b o u e => notT e (fun _ z => nomatch z), fun b qs e => ?_⟩
      · by_cases hb : b = P0
        · rw [hb]; exact ⟨_, hoP⟩
        · exact ⟨o, kp b o hb e⟩
      · by_cases hb : b = P0
        · rw [hb, hP] at e
          cases e
          rw [hb]
          exact ⟨_, by rw [getP, hps]⟩
        · exact ⟨#[], by rw [keepH e hb]; simp⟩
    have hok1 : HOk X.prog X.w H1 hh := fun a o e => by
      by_cases haf : a = f
      · rw [haf] at e ⊢
        rw [getf] at e
        cases e
        exact fnHO_ok hof
      by_cases hac : a = c'
      · rw [hac] at e ⊢
        rw [getc] at e
        cases e
        exact codeHO_ok hoc
      by_cases haP : a = P0
      · rw [haP] at e ⊢
        rw [getP] at e
        cases e
        exact hoP
      rw [getO haP hac haf] at e
      refine (I.hok a o e).stay (fun b u hb q => kp b u (fun z => ?_) q) (fun b q => notT q (fun _ z => nomatch z)) fun b xs q => notT q (fun _ z => nomatch z)
      rcases hb with hb | hb
      · exact haP (hb ▸ z)
      · rw [z, hP] at hb; cases hb
    have I1 : Inv X pins σ H1 { s with heap := hh, toks := tk } := I.un un hok1
    refine fin I1 (h cl f c' H1 hsub hhas (I.hok.fresh (Nat.le_of_lt hszh)) (Ne.symm hcf) (fun b o hb e => keepH e hb) ⟨ps', getP, ?_, fun q hqs => ?_⟩ getc getf)
    · rw [← hps, Array.toList_append]
      exact triples_app _ _ _ _ _ _ ht
    · rw [← hps, Array.toList_append, among_app _ _ _ ht]
      rcases hall q hqs with hn | ⟨c1, h1, h2⟩
      · rw [hn, Option.none_or]
        by_cases hsame : q.1.line = pos.line ∧ q.1.col = pos.col
        · refine .inr ⟨c', ?_, ?_⟩
          · show codeAmong q.1 [rawInt pos.line, rawInt pos.col, .ref c'] = _
            simp [codeAmong, rawInt, hsame.1, hsame.2]
          · rw [hsites q hqs hsame.1 hsame.2]
            exact getc
        · refine .inl ?_
          show codeAmong q.1 [rawInt pos.line, rawInt pos.col, .ref c'] = _
          simp only [codeAmong, rawInt]
          rw [if_neg]
          intro z
          simp at z
          exact hsame ⟨by omega, by omega⟩
      · rw [h1, Option.some_or]
        exact .inr ⟨c1, rfl, notT h2 (fun _ z => nomatch z)⟩
  · refine PySem.W.makeFunction_hit (mg := X.mg) hclos I.ok.glob hgs hcode hC' hPh ht hhit hbP fun ctv doc h' tk hk hsz => ?_
    have I1 : Inv X pins σ (upd H h'.objs.size (fnHO h'.objs.size name qual params body sc cl c0)) { s with heap := h'.push (PySem.W.fnMade name qual params body sc cl doc ((X.mg "__name__").getD .none) c0 ctv), toks := tk } :=
      I.laid (fun b u e => Heap.get?_push_of_some _ (hk b u e)) hsz (fnHO_ok (Heap.get?_push_size _ rfl))
    have hfn : H h'.objs.size = none := I.hok.fresh hsz
    have kH : ∀ {b : Addr} {u : HO}, H b = some u → upd H h'.objs.size (fnHO h'.objs.size name qual params body sc cl c0) b = some u := fun e => by rw [upd_ne (ne_of_none e hfn)]; exact e
    refine fin I1 (h cl _ c0 _ hsub hhas hfn (Ne.symm (ne_of_none hc0 hfn)) (fun b o _ e => kH e) ⟨ps, kH hP, ht, fun q hqs => ?_⟩ (kH hc0) upd_same)
    rcases hall q hqs with hn | ⟨c1, h1, h2⟩
    · exact .inl hn
    · exact .inr ⟨c1, h1, kH h2⟩
end L2
namespace L2
open PySem PySem.Spec PyProof.Rows
def untr (U : List Addr) (H : Hp) : Hp := fun b => if b ∈ U then none else H b
def retr (U : List Addr) (H H' : Hp) : Hp := fun b => if b ∈ U then H b else H' b
theorem untr_in {U : List Addr} {H : Hp} {b : Addr} (h : b ∈ U) : untr U H b = none := if_pos h
theorem untr_out {U : List Addr} {H : Hp} {b : Addr} (h : b ∉ U) : untr U H b = H b := if_neg h
theorem retr_in {U : List Addr} {H H' : Hp} {b : Addr} (h : b ∈ U) : retr U H H' b = H b := if_pos h
theorem retr_out {U : List Addr} {H H' : Hp} {b : Addr} (h : b ∉ U) : retr U H H' b = H' b := if_neg h
theorem Mod.keeps {K : PySem.W.Frag} {mg : Str → Option Value} {h h' : Heap} (M : Mod K mg h) (k : ∀ b o, h.get? b = some o → h'.get? b = some o) : Mod K mg h' :=
  ⟨M.kin.keeps k, M.glob.keeps k, let ⟨mb, a, b⟩ := M.blt; ⟨mb, a.keeps k, b⟩, M.nolimit.keeps k⟩
section
variable {P : Program} {w : World} {K : PySem.W.Frag} {mg : Str → Option Value} {base : Heap} {A : Around} {outer : List Env} {s : Shared} {H : Hp} {U : List Addr}
theorem wide_env (e0 : Env0 P w K mg base A outer s H) (hU : ∀ u ∈ U, ∃ φ, H u = some (.ext φ)) :
    ∃ base', Env0 P w K mg base' A outer s (untr U H) ∧ (∀ b o, base.get? b = some o → base'.get? b = some o) ∧ ∀ b o, s.heap.get? b = some o → b ∉ frs outer → untr U H b = none → base'.get? b = some o := by
  have hget : ∀ b o, s.heap.get? b = some o → b ∉ frs outer → untr U H b = none → (PySem.W.hideAll s.heap (trk s.heap (untr U H) ++ frs outer)).get? b = some o := fun b o e hf hn => PySem.W.hideAll_get _ e fun hm => by
    rcases List.mem_append.mp hm with z | z
    · have q : ((untr U H) b).isSome = true := (List.mem_filter.mp z).2
      rw [hn] at q
      cases q
    · exact hf z
  have notU : ∀ b, H b = none → b ∉ U := fun b n z => by
    obtain ⟨φ, e⟩ := hU b z
    rw [n] at e
    cases e
  have sub : ∀ b o, base.get? b = some o → (PySem.W.hideAll s.heap (trk s.heap (untr U H) ++ frs outer)).get? b = some o := fun b o e => by
    obtain ⟨e1, n⟩ := e0.bs b o e
    refine hget b o e1 (fun z => ?_) (by rw [untr_out (notU b n)]; exact n)
    have := (e0.funs.mem z).1
    rw [e] at this
    cases this
  have keepO : ∀ {b : Addr} {u : HO}, H b = some u → (∀ φ, u ≠ .ext φ) → untr U H b = some u := fun {b u} e hu => by
    rw [untr_out fun z => ?_]
    · exact e
    · obtain ⟨φ, e'⟩ := hU b z
      rw [e] at e'
      exact hu φ (Option.some.inj e')
  refine ⟨PySem.W.hideAll s.heap (trk s.heap (untr U H) ++ frs outer), ⟨e0.frames, e0.mod.keeps sub, fun b o e => ?_, Nat.le_of_eq (PySem.W.hideAll_size _ _), frames_hid e0.funs fun b hb => List.mem_append_right _ hb, fun b hb => ?_, fun a o e => ?_, e0.bare⟩, sub, hget⟩
  · have e1 := PySem.W.of_hideAll _ e
    refine ⟨e1, ?_⟩
    cases q : untr U H b with
    | none => rfl
    | some u =>
      have hm : b ∈ trk s.heap (untr U H) ++ frs outer := List.mem_append_left _ (List.mem_filter.mpr ⟨List.mem_range.mpr (Heap.lt_size e1), by simp [q]⟩)
      rw [PySem.W.hideAll_none _ hm] at e
      cases e
  · rw [untr_out (notU b (e0.frf b hb))]
    exact e0.frf b hb
  · have ha : a ∉ U := fun z => by rw [untr_in z] at e; cases e
    rw [untr_out ha] at e
    exact (e0.hok a o e).stay (fun _ _ _ q => q) (fun b q => keepO q (fun _ z => nomatch z)) fun b xs q => keepO q (fun _ z => nomatch z)
theorem wide_back (e0 : Env0 P w K mg base A outer s H) (hU : ∀ u ∈ U, ∃ φ, H u = some (.ext φ)) {Q : VK} {u : Value} {s' : Shared} (h : CE outer P w (untr U H) s (fun v H2 => (∀ u ∈ U, H2 u = none) → Q v (retr U H H2)) u s') : CE outer P w H s Q u s' := by
  obtain ⟨v, H', os, bare, un, hok, r, q⟩ := h
  have notU : ∀ b, H b = none → b ∉ U := fun b n z => by
    obtain ⟨φ, e⟩ := hU b z
    rw [n] at e
    cases e
  have notF : ∀ b ∈ U, b ∉ frs outer := fun b hb z => notU b (e0.frf b z) hb
  have stays : ∀ b ∈ U, ∃ o, s.heap.get? b = some o ∧ s'.heap.get? b = some o ∧ H' b = none := fun b hb => by
    obtain ⟨φ, e⟩ := hU b hb
    obtain ⟨_, ⟨o, ho⟩, _⟩ := e0.hok b _ e
    exact ⟨o, ho, un.keep b o ho (untr_in hb) (notF b hb) (by simp), un.free b o ho (untr_in hb) (by simp)⟩
  have keepT : ∀ {b : Addr} {x : HO}, H b = some x → (∀ φ, x ≠ .ext φ) → b ∉ U := fun {b x} e hx z => by
    obtain ⟨φ, e'⟩ := hU b z
    rw [e] at e'
    exact hx φ (Option.some.inj e')
  have keepH : ∀ {b : Addr} {x : HO}, H' b = some x → retr U H H' b = some x := fun {b x} e => by
    rw [retr_out fun z => ?_]
    · exact e
    · obtain ⟨_, _, _, n⟩ := stays b z
      rw [e] at n
      cases n
  refine ⟨v, retr U H H', os, bare, ⟨fun b o e n hb hx => ?_, fun b o e n hb hx => ?_, fun b o e n hx => ?_, un.there, fun b xs e => ?_, fun b o x e => ?_, fun b ps e => ?_⟩, fun a o e => ?_, r, q fun b hb => (stays b hb).choose_spec.2.2⟩
  · exact un.keep b o e (by rw [untr_out (notU b n)]; exact n) hb hx
  · exact un.slot b o e (by rw [untr_out (notU b n)]; exact n) hb hx
  · rw [retr_out (notU b n)]
    exact un.free b o e (by rw [untr_out (notU b n)]; exact n) hx
  · have hb := keepT e (fun _ z => nomatch z)
    rw [retr_out hb]
    exact un.tups b xs (by rw [untr_out hb]; exact e)
  · have hb := keepT e (fun _ z => nomatch z)
    rw [retr_out hb]
    exact un.frzs b o x (by rw [untr_out hb]; exact e)
  · have hb := keepT e (fun _ z => nomatch z)
    rw [retr_out hb]
    exact un.tbls b ps (by rw [untr_out hb]; exact e)
  · by_cases ha : a ∈ U
    · rw [retr_in ha] at e
      obtain ⟨φ, e'⟩ := hU a ha
      rw [e'] at e
      cases e
      obtain ⟨o, ho, ho', _⟩ := stays a ha
      obtain ⟨p1, _, p3⟩ := e0.hok a _ e'
      exact ⟨p3 _ _ p1 (fun o2 z => by rw [ho] at z; cases z; exact ho'), ⟨o, ho'⟩, p3⟩
    · rw [retr_out ha] at e
      exact (hok a o e).stay (fun _ _ _ z => z) (fun b z => keepH z) fun b xs z => keepH z
end
structure WideAt (X : Cx) (U : List Addr) (σ : St) (H : Hp) (base' : Heap) : Prop where
  sub : ∀ b o, X.base.get? b = some o → base'.get? b = some o
  mod : Mod X.K X.mg base'
  ext : ∀ u φ, u ∈ U → H u = some (.ext φ) → φ base'
  inj : ∀ y z c, X.env.cells.lookup y = some c → X.env.cells.lookup z = some c → y = z
  cell : ∀ y c, X.env.cells.lookup y = some c → ∃ v, base'.IsCell c v
  val : ∀ (i : Nat) (y : Str) (v : V), X.N[i]? = some y → σ[i]? = some (some v) → X.env.scope.names.lookup y = some .cell → ∃ c u, X.env.cells.lookup y = some c ∧ base'.IsCell c (some u) ∧ RelV v u
def tWide (X : Cx) (f : Addr) (fd : FuncData) (ps : List Str) (dvs : List V) (t : TA) : TE := fun σ H Q => t σ H fun vs H1 => ∃ U : List Addr, (∀ u ∈ U, ∃ φ, H1 u = some (.ext φ)) ∧ ∀ base' : Heap, WideAt X U σ H1 base' →
  ∃ (k : Nat) (sp : Sp), Room k X.A ∧ FnOk X.prog X.w X.K X.mg base' CX0 k f fd ps sp ∧ sp (vs ++ dvs) (untr U H1) (fun v H2 => (∀ u ∈ U, H2 u = none) → Q v (retr U H1 H2)) E0
theorem pe_wide {X : Cx} {f : Addr} {fd : FuncData} {ps : List Str} {dvs : List V} {ds : List Value} {x : Str} {p pos : Pos} {e : Expr} {es : List Expr} {t : TA} (hg : Gl X x) (hm : X.mg x = some (.ref f)) (hk : PySem.W.keepIn X.K (.ref f) = true) (hb : Binds X.K fd ps ds) (hd : Vals dvs ds) (ha : PA X (e :: es) t)
    (hfn : ∀ y, X.fn y = true) (hdb : (x == ("__debug__" : Str)) = false := by decide) (he : starEach (e :: es) X.env = (false, eval e X.env) :: starEach es X.env := by rfl) (hpl : (backTo pos (starEach es X.env)).any (·.1) = false := by rfl) :
    PE X (.Call (.Name x p) (e :: es) [] pos) (tWide X f fd ps dvs t) := by
  intro pins s σ H Q I h
  refine wpAny_Call_Name_kw (ld_glob I hg hm ?_ hdb)
  refine PySem.W.callWith_K (h₀ := X.base) I.ok.mod.kin hk (thn (ha pos pins s σ H _ I h) fun us s1 ⟨vs, H1, I1, r, q⟩ => ⟨I1.kIn, ?_⟩) he hpl
  obtain ⟨U, hU, q⟩ := q
  obtain ⟨base', e0, hsub, hget⟩ := wide_env I1.env0 hU
  have cellB : ∀ y c v, X.env.cells.lookup y = some c → s1.heap.IsCell c v → base'.IsCell c v := fun y c v hc ⟨o, ho, hdd⟩ => by
    have hn := I1.freeC y c hc
    refine ⟨o, hget c o ho (fun z => ?_) ?_, hdd⟩
    · rcases List.mem_cons.mp (I1.stkSub c z) with z | z
      · exact I1.cne y c hc z
      · obtain ⟨_, o', ho', _⟩ := I1.ok.funs.mem z
        exact absurd (Heap.lt_size ho') (Nat.not_lt.mpr (I1.ok.cab y c (hfn y) hc))
    · unfold untr
      split
      · rfl
      · exact hn
  have W : WideAt X U σ H1 base' := by
    refine ⟨hsub, e0.mod, fun u φ hu e => ?_, I1.ok.inj, fun y c hc => ?_, fun i y v e1 e2 e3 => ?_⟩
    · obtain ⟨p1, ⟨o, ho⟩, p3⟩ := I1.hok u _ e
      refine p3 _ _ p1 fun o2 z => hget u o2 z (fun y => ?_) (untr_in hu)
      rw [I1.stkFree u y] at e
      cases e
    · obtain ⟨v, z⟩ := I1.cell y c hc
      exact ⟨v, cellB y c v hc z⟩
    · obtain ⟨m, hn, hl⟩ := I1.loc
      obtain ⟨u, ru, lk⟩ := hl i y v e1 e2 (.inr (.inl e3))
      rcases lk with ⟨k1, _⟩ | ⟨_, c, hc, z⟩
      · have : X.env.scope.names.lookup y = some .local := k1
        rw [e3] at this
        cases this
      · exact ⟨c, u, hc, cellB y c _ hc z, ru⟩
  obtain ⟨k, sp, hr, F, hsp⟩ := q base' W
  have r2 : Vals (vs ++ dvs) (us ++ ds) := r.append hd
  have hl : (us ++ ds).length = ps.length := by rw [← r2.length]; exact F.len _ _ _ _ hsp
  refine wpAny_call (codeAny_mono (F.run X.A X.stack s1 (untr U H1) ⟨us, []⟩ (us ++ ds) (vs ++ dvs) _ E0 hr e0 (hb s1 us I1.kIn hl) r2 hsp) fun r s' hq => ?_)
  cases r with
  | error e => exact False.elim hq
  | ok fl =>
    cases fl with
    | ret u => exact I1.after (wide_back I1.env0 hU hq)
    | next => exact False.elim hq
    | brk => exact False.elim hq
    | cont => exact False.elim hq
end L2
namespace L2
open PySem PySem.Spec PyProof.Rows
def dropTab (ts : List Addr) (K : PySem.W.Frag) : PySem.W.Frag := K.filter fun q => !ts.contains q.1
theorem lk_drop {ts : List Addr} {a : Addr} (hn : ts.contains a = false) : ∀ {K : PySem.W.Frag}, (dropTab ts K).lookup a = K.lookup a
  | [] => rfl
  | (b, x) :: r => by
    unfold dropTab
    rw [List.filter_cons]
    by_cases hb : a = b
    · subst hb
      rw [if_pos (by simpa using hn), List.lookup_cons, List.lookup_cons]
      simp
    · have hb' : (a == b) = false := beq_eq_false_iff_ne.mpr hb
      split
      · rw [List.lookup_cons, List.lookup_cons, hb']
        exact lk_drop (K := r) hn
      · rw [List.lookup_cons, hb']
        exact lk_drop (K := r) hn
theorem of_drop {ts : List Addr} {a : Addr} {o : Obj} : ∀ {K : PySem.W.Frag}, (dropTab ts K).lookup a = some o → ts.contains a = false
  | [], e => by cases e
  | (b, x) :: r, e => by
    unfold dropTab at e
    rw [List.filter_cons] at e
    split at e
    · rename_i hc
      rw [List.lookup_cons] at e
      by_cases hb : a = b
      · subst hb
        simpa using hc
      · rw [beq_eq_false_iff_ne.mpr hb] at e
        exact of_drop (K := r) e
    · exact of_drop (K := r) e
theorem lkD {ts : List Addr} {K : PySem.W.Frag} {a : Addr} {o : Obj} (e : K.lookup a = some o) (hn : ts.contains a = false) : (dropTab ts K).lookup a = some o := (lk_drop hn).trans e
theorem nsD {ts : List Addr} {K : PySem.W.Frag} {a : Addr} {x : Str} {r : Option (Option Value)} (e : PySem.W.nsIn K a x = r) (hn : ts.contains a = false) : PySem.W.nsIn (dropTab ts K) a x = r := by
  unfold PySem.W.nsIn at e ⊢
  rw [lk_drop hn]
  exact e
theorem cdD {ts : List Addr} {K : PySem.W.Frag} {c : Addr} {x : Str} (e : PySem.W.codeIn K (.ref c) x = true) (hn : ts.contains c = false) : PySem.W.codeIn (dropTab ts K) (.ref c) x = true := by
  unfold PySem.W.codeIn at e ⊢
  dsimp only at e ⊢
  rw [lk_drop hn]
  exact e
def codeTab (K : PySem.W.Frag) (c P : Addr) : Bool := match K.lookup c with
  | some ⟨.type n, _, .fields vs, _⟩ => n == "code" && c != P && (match (vs[11]? : Option Value), (vs[18]? : Option Value), (vs[7]? : Option Value), (vs[9]? : Option Value), (vs[10]? : Option Value) with
      | some (.ref Q), some (.str _ _), some (.int _ _), some (.bool _), some (.int _ _) => Q == P
      | _, _, _, _, _ => false)
  | _ => false
theorem codeTab_of {K : PySem.W.Frag} {h : Heap} {c P : Addr} (X : K.In h) (e : codeTab K c P = true) : PySem.W.CodeHd h c P := by
  unfold codeTab at e
  split at e
  · rename_i n dd vs sl hl
    have ho := X _ _ hl
    rw [Bool.and_eq_true, Bool.and_eq_true] at e
    obtain ⟨⟨e1, e2⟩, e3⟩ := e
    split at e3
    · rename_i Q s t i u b j v h1 h2 h3 h4 h5
      have hQ : Q = P := eq_of_beq e3
      subst hQ
      have gd : ∀ {k : Nat} {x : Value}, vs[k]? = some x → vs.getD k .none = x := fun {k x} z => by
        rw [Array.getD_eq_getD_getElem?, z]
        rfl
      exact ⟨_, vs, s, t, i, u, b, j, v, ho, by rw [eq_of_beq e1], rfl, h1, gd h1, gd h2, gd h3, gd h4, gd h5, by simpa using e2⟩
    · cases e3
  · cases e
structure TabIn (K : PySem.W.Frag) (q : Addr × Addr) : Prop where
  code : codeTab K q.1 q.2 = true
  tab : K.lookup q.2 = some (PySem.W.tabObj #[])
def spLawT (K : PySem.W.Frag) (tabs : List (Addr × Addr)) : Sp := fun vs H Q _ => ∃ (a : Addr) (ns : List Int), vs = [.ref a] ∧ SqL K H a (ns.map V.int) ∧ ns.length ≤ 63 ∧ (∀ q ∈ tabs, H q.2 = some (.tbl #[])) ∧ ∀ H', Q (.bl true) H'
theorem codeHd_same {h h' : Heap} {c P : Addr} (x : PySem.W.CodeHd h c P) (k : ∀ o, o.cls = .type "code" → h.get? c = some o → h'.get? c = some o) : PySem.W.CodeHd h' c P := by
  obtain ⟨o, vs, file, tf, flags, tg, inF, text, tt, e, r1, r⟩ := x
  exact ⟨o, vs, file, tf, flags, tg, inF, text, tt, k o r1 e, r1, r⟩
theorem law_callT {P : Program} {w : World} {K : PySem.W.Frag} {mg mb : Str → Option Value} {k : Nat} {fa a : Addr} {fd : FuncData} {x : Str} {s₁ : Shared} {vs : List Value} {ns : List Int} {tabs : List (Addr × Addr)}
    (KX : K.In s₁.heap) (hT : ∀ q ∈ tabs, TabIn K q) (hns : s₁.heap.Ns mainGlobals mg) (hB : BltAt s₁.heap mg) (hb : s₁.heap.Ns builtinsNs mb) (hbb : ∀ x : Str, x ≠ "__name__" → mb x = bootBuiltins x) (hlim : s₁.heap.NoLimit) (hg : s₁.gens = #[])
    (ha : s₁.heap.get? a = some { cls := .type "list", data := .seq vs.toArray }) (hi : IntsAre vs ns) (hl : ns.length ≤ 63) (hr : Room k callerA)
    (F : ∀ base : Heap, (dropTab (tabs.map (·.2)) K).In base → base.Ns mainGlobals mg → BltAt base mg → (∀ q ∈ tabs, PySem.W.CodeHd base q.1 q.2) → FnOk P w (dropTab (tabs.map (·.2)) K) mg base CX0 k fa fd [x] (spLawT (dropTab (tabs.map (·.2)) K) tabs)) (hbind : ∀ (s : Shared) (u : Value), BindsTo s fd ⟨[u], []⟩ [(x, u)]) :
    codeAny (model P w) callerA (.call (.ref fa) ⟨[.ref a], []⟩) (fun r s' => r = .ok (.ret (.bool true)) ∧ OldK s₁.heap s'.heap ∧ s'.os = s₁.os ∧ AllBare s'.gens) s₁ := by
  have rv := vals_ints hi
  have lenV := hi.length
  have hls : ns.length ≤ sizeLine := Nat.le_trans hl (by rw [sizeLine_eq]; decide)
  have tabH : ∀ q ∈ tabs, s₁.heap.get? q.2 = some (PySem.W.tabObj #[]) := fun q hq => KX _ _ (hT q hq).tab
  have hd : ∀ q ∈ tabs, PySem.W.CodeHd s₁.heap q.1 q.2 := fun q hq => codeTab_of KX (hT q hq).code
  have inT : ∀ {b : Addr}, (tabs.map (·.2)).contains b = true → ∃ q ∈ tabs, q.2 = b := fun {b} hb => by
    rw [List.contains_iff_mem] at hb
    obtain ⟨q, hq, e⟩ := List.mem_map.mp hb
    exact ⟨q, hq, e⟩
  have memT : ∀ {q : Addr × Addr}, q ∈ tabs → (tabs.map (·.2)).contains q.2 = true := fun {q} hq => by
    rw [List.contains_iff_mem]
    exact List.mem_map_of_mem hq
  have aT : (tabs.map (·.2)).contains a = false := by
    cases z : (tabs.map (·.2)).contains a with
    | false => rfl
    | true =>
      obtain ⟨q, hq, e⟩ := inT z
      have e1 := tabH q hq
      rw [e, ha] at e1
      cases e1
  have core : ∀ H : Hp, SqL (dropTab (tabs.map (·.2)) K) H a (ns.map V.int) → HOk P w H s₁.heap → (∀ b, H b = none ∨ (b = a ∧ K.lookup a = none ∧ H b = some (.frz { cls := .type "list", data := .seq vs.toArray } (.lst (ns.map V.int)))) ∨ ((tabs.map (·.2)).contains b = true ∧ H b = some (.tbl #[]))) →
      (∀ q ∈ tabs, H q.2 = some (.tbl #[])) →
      codeAny (model P w) callerA (.call (.ref fa) ⟨[.ref a], []⟩) (fun r s' => r = .ok (.ret (.bool true)) ∧ OldK s₁.heap s'.heap ∧ s'.os = s₁.os ∧ AllBare s'.gens) s₁ := by
    intro H hS hok hO hTH
    have base_of : ∀ {b : Addr} {o : Obj}, s₁.heap.get? b = some o → H b = none → (hidT s₁.heap H).get? b = some o := fun e n => hidT_get e n
    have freeOf : ∀ {b : Addr} {o : Obj}, s₁.heap.get? b = some o → b ≠ a → o ≠ PySem.W.tabObj #[] → H b = none := fun {b o} e hne hno => by
      rcases hO b with z | ⟨z, _⟩ | ⟨z, _⟩
      · exact z
      · exact absurd z hne
      · obtain ⟨q, hq, e2⟩ := inT z
        have e1 := tabH q hq
        rw [e2, e] at e1
        exact absurd (Option.some.inj e1) hno
    have nsK : ∀ {b : Addr} {m : Str → Option Value}, s₁.heap.Ns b m → (hidT s₁.heap H).Ns b m := fun {b m} ⟨o, es, ep, e, d, r⟩ => ⟨o, es, ep, base_of e (freeOf e (fun z => by rw [z, ha] at e; cases e; cases d) (fun z => by rw [z] at d; cases d)), d, r⟩
    have hKb : (dropTab (tabs.map (·.2)) K).In (hidT s₁.heap H) := fun b o e => by
      have hn := of_drop e
      have e1 := KX b o ((lk_drop hn).symm.trans e)
      refine base_of e1 ?_
      rcases hO b with z | ⟨z, z2, _⟩ | ⟨z, _⟩
      · exact z
      · rw [lk_drop hn, z, z2] at e
        cases e
      · rw [hn] at z
        cases z
    have hBb : BltAt (hidT s₁.heap H) mg := by
      obtain ⟨bm, o, e1, e2, e3, e4, e5, e6, e7⟩ := hB.ex
      exact ⟨bm, o, e1, e2, e3, base_of e4 (freeOf e4 (fun z => by rw [z, ha] at e4; cases e4; cases e7) (fun z => by rw [z] at e7; cases e7)), e5, e6, e7⟩
    have hCb : ∀ q ∈ tabs, PySem.W.CodeHd (hidT s₁.heap H) q.1 q.2 := fun q hq => codeHd_same (hd q hq) fun o hc e => base_of e (freeOf e (fun z => by rw [z, ha] at e; cases e; injection hc with hc; exact absurd hc (by decide)) (fun z => by rw [z] at hc; cases hc))
    have hM : Mod (dropTab (tabs.map (·.2)) K) mg (hidT s₁.heap H) := ⟨hKb, nsK hns, ⟨mb, nsK hb, hbb⟩, let ⟨mc, h1, h2⟩ := hlim; ⟨mc, nsK h1, h2⟩⟩
    have e0 : Env0 P w (dropTab (tabs.map (·.2)) K) mg (hidT s₁.heap H) callerA [] s₁ H := ⟨rfl, hM, fun b o e => of_hidT e, Nat.le_of_eq (hidT_size _ _), trivial, fun b hb => absurd (show b ∈ ([] : List Addr) from hb) (by simp), hok, .of_eq hg⟩
    refine codeAny_mono ((F _ hKb (nsK hns) hBb hCb).run callerA [] s₁ H ⟨[.ref a], []⟩ [.ref a] [.ref a] (fun v _ => v = .bl true) (fun _ _ _ => False) hr e0 (hbind s₁ (.ref a)) (.cons rfl .nil) ⟨a, ns, rfl, hS, hl, hTH, fun _ => rfl⟩) fun r s' h => ?_
    cases r with
    | error e => exact False.elim h
    | ok fl =>
      cases fl with
      | next => exact False.elim h
      | brk => exact False.elim h
      | cont => exact False.elim h
      | ret u =>
        obtain ⟨v, H', os, bare, un, hok', r', q⟩ := h
        have q' : v = .bl true := q
        subst q'
        obtain rfl : u = Value.bool true := r'
        refine ⟨rfl, ⟨fun b o e => ?_, fun b o e => un.there b o e (by simp)⟩, os, bare⟩
        rcases hO b with z | ⟨z1, _, z⟩ | ⟨z1, z⟩
        · exact .inl (un.keep b o e z (by intro y; exact absurd (show b ∈ ([] : List Addr) from y) (by simp)) (by simp))
        · obtain ⟨e1, _⟩ := hok b _ z
          obtain ⟨e2, _⟩ := hok' b _ (un.frzs b _ _ z)
          rw [e] at e1
          cases e1
          exact .inl e2
        · obtain ⟨q, hq, e2⟩ := inT z1
          obtain ⟨more, z3⟩ := un.tbls b _ z
          have e3 : s'.heap.get? b = some { cls := .none, data := .fields (#[] ++ more) } := hok' b _ z3
          have e4 := tabH q hq
          rw [e2, e] at e4
          cases e4
          refine .inr (.inl ⟨?_, rfl, #[], more, rfl, e3⟩)
          have := ((hd q hq).tab (tabH q hq)).isCodeTable
          rw [e2] at this
          exact this
  have aOk : ∀ {H : Hp} {b : Addr}, (tabs.map (·.2)).contains b = true → ObjOk P w H s₁.heap b (.tbl #[]) := fun {H b} z => by
    obtain ⟨q, hq, e⟩ := inT z
    have e1 := tabH q hq
    rw [e] at e1
    exact e1
  cases hk : K.lookup a with
  | some o =>
    have e := KX a o hk
    rw [ha] at e
    cases e
    refine core (fun b => if (tabs.map (·.2)).contains b = true then some (.tbl #[]) else none) (.inr ⟨_, vs.toArray, _, (lk_drop aT).trans hk, rfl, rfl, rfl, by rw [List.size_toArray, lenV]; exact hls, by simpa using rv⟩) (fun b u z => ?_) (fun b => ?_) (fun q hq => if_pos (memT hq))
    · by_cases hb : (tabs.map (·.2)).contains b = true
      · have z' := (if_pos hb).symm.trans z
        cases z'
        exact aOk hb
      · have z' := (if_neg hb).symm.trans z
        cases z'
    · by_cases hb : (tabs.map (·.2)).contains b = true
      · exact .inr (.inr ⟨hb, if_pos hb⟩)
      · exact .inl (if_neg hb)
  | none =>
    refine core (fun b => if b = a then some (.frz { cls := .type "list", data := .seq vs.toArray } (.lst (ns.map V.int))) else if (tabs.map (·.2)).contains b = true then some (.tbl #[]) else none) (.inl (.inr ⟨{ cls := .type "list", data := .seq vs.toArray }, if_pos rfl⟩)) (fun b u z => ?_) (fun b => ?_) (fun q hq => ?_)
    · by_cases hb : b = a
      · have z' := (if_pos hb).symm.trans z
        cases z'
        subst hb
        exact ⟨ha, by rw [List.length_map]; exact hls, vs, _, rv, ha⟩
      · have z' := (if_neg hb).symm.trans z
        by_cases hb2 : (tabs.map (·.2)).contains b = true
        · have z2 := (if_pos hb2).symm.trans z'
          cases z2
          exact aOk hb2
        · have z2 := (if_neg hb2).symm.trans z'
          cases z2
    · by_cases hb : b = a
      · exact .inr (.inl ⟨hb, hk, if_pos hb⟩)
      · by_cases hb2 : (tabs.map (·.2)).contains b = true
        · exact .inr (.inr ⟨hb2, (if_neg hb).trans (if_pos hb2)⟩)
        · exact .inl ((if_neg hb).trans (if_neg hb2))
    · have hne : q.2 ≠ a := fun z => by
        have := memT hq
        rw [z, aT] at this
        cases this
      exact (if_neg hne).trans (if_pos (memT hq))
theorem walk63t {l : PySem.W.OpenLaw} {k : Nat} {x : Str} {q : Program} {loose : List Str} {XP : (Str → Option Value) → Heap → Prop} {d : DefRec} {K : Params → PySem.W.Frag} {tabs : List (Addr × Addr)} (hn : l.most = some 63) (hdf : d.params.defaults = []) (hr : Room k callerA) (hT : ∀ p, ∀ q ∈ tabs, TabIn (K p) q)
    (F : ∀ (w : World) (mg : Str → Option Value) (fa : Addr) (h : Heap), (dropTab (tabs.map (·.2)) (K w.params)).In h → h.Ns mainGlobals mg → mg d.name = some (.ref fa) →
      ∃ fd : FuncData, (∀ (s : Shared) (u : Value), BindsTo s fd ⟨[u], []⟩ [(x, u)]) ∧ ∀ base : Heap, (dropTab (tabs.map (·.2)) (K w.params)).In base → base.Ns mainGlobals mg → BltAt base mg → (∀ q ∈ tabs, PySem.W.CodeHd base q.1 q.2) →
        FnOk l.prog w (dropTab (tabs.map (·.2)) (K w.params)) mg base CX0 k fa fd [x] (spLawT (dropTab (tabs.map (·.2)) (K w.params)) tabs)) :
    PySem.W.WalkO q loose XP (fun w h => (K w.params).In h) l.row.toRowW d [] (fun f vs => PySem.call f vs) := by
  refine Att.attach_call hn hdf fun w s₀ s₁ mg mb fa o pm cd doc a vs ns G Y ho hd hcd hmg hobj hints hlen hg => ?_
  have KX : (K w.params).In s₁.heap := Y
  have KD : (dropTab (tabs.map (·.2)) (K w.params)).In s₁.heap := fun b o e => KX b o ((lk_drop (of_drop e)).symm.trans e)
  obtain ⟨fd, hb, hF⟩ := F w mg fa _ KD G.T.g hmg
  obtain ⟨bm, ob, b1, b2, b3, b4, b5, b6⟩ := G.T.bmain
  have hbG : bm ≠ mainGlobals := fun z => by
    obtain ⟨o, es, ep, e, hd, _⟩ := G.T.g
    rw [z, e] at b3; cases b3; rw [hd] at b6; cases b6
  exact law_callT KX (hT w.params) G.T.g ⟨bm, ob, b1, b2, hbG, b3, b4, b5, b6⟩ G.T.b G.T.builtins G.T.nolimit hg hobj hints hlen hr hF hb
end L2
namespace L2
open PySem PySem.Spec PyProof.Rows
inductive Sd where
  | tx (x : Str) (k : Tok) | tp (a : Addr) | ls (a : Addr)
namespace Sd
def vl : Sd → V
  | .tx x _ => .str x
  | .tp a => .ref a
  | .ls a => .ref a
def vu : Sd → Value
  | .tx x t => .str x t
  | .tp a => .ref a
  | .ls a => .ref a
def pl : Sd → Addr → Nat → Heap → Prop
  | .tx x t, it, i, h => ZP.strAt x t it i h
  | .tp a, it, i, h => h.IsTupleIter it a i
  | .ls a, it, i, h => h.IsListIter it a i
def it0 : Sd → Obj
  | .tx x t => ZP.strIt x t
  | .tp a => ZP.tupIt a
  | .ls a => { cls := .type "list_iterator", data := .fields #[.ref a, .int 0 0] }
def hp : Sd → Array Value → Heap → Prop
  | .tx _ _, _, _ => True
  | .tp a, its, h => h.IsTuple a its
  | .ls a, its, h => h.IsList a its
def has : Sd → Hp → List V → Prop
  | .tx x _, _, xs => xs = x.cps.toList.map fun c => V.str ⟨#[c]⟩
  | .tp a, H, xs => H a = some (.tup xs)
  | .ls a, H, xs => H a = some (.lst xs)
end Sd
theorem it0_at {h : Heap} {d : Sd} {it : Addr} (e : h.get? it = some d.it0) : d.pl it 0 h := by
  cases d with
  | tx x t => exact ⟨_, e, rfl, rfl⟩
  | tp a => exact ⟨_, e, rfl, rfl⟩
  | ls a => exact ⟨_, e, rfl, rfl⟩
theorem it0_live (d : Sd) : d.it0.isFreed = false := by cases d <;> rfl
namespace ZP
def madeG (h : Heap) (o1 o2 : Obj) : Heap :=
  ((((h.push o1).push o2).push { cls := .type "tuple", data := .seq #[.ref h.objs.size, .ref (h.objs.size + 1)] }).push { cls := .type "tuple", data := .seq #[.none, .none] }).push
    { cls := .type "zip", data := .fields #[.none, .bool false, .bool false, .ref (h.objs.size + 2), .ref (h.objs.size + 3)] }
section
variable {prog : Program} {w : World} {A : Around} {E : Value → Shared → Prop} {s : Shared}
theorem iter_lst {a : Addr} {items : Array Value} {Q : Value → Shared → Prop} (ht : s.heap.IsList a items) (h : Q (.ref s.heap.objs.size) { s with heap := s.heap.push (Sd.ls a).it0 }) : wpAny (model prog w) A (pyIter (.ref a)) Q E s := wpAny_pyIter_list ht h
theorem iter_st {x : Str} {t : Tok} {Q : Value → Shared → Prop} (h : Q (.ref s.heap.objs.size) { s with heap := s.heap.push (Sd.tx x t).it0 }) : wpAny (model prog w) A (pyIter (.str x t)) Q E s := iter_text h
theorem iter_tp {a : Addr} {items : Array Value} {Q : Value → Shared → Prop} (ht : s.heap.IsTuple a items) (h : Q (.ref s.heap.objs.size) { s with heap := s.heap.push (Sd.tp a).it0 }) : wpAny (model prog w) A (pyIter (.ref a)) Q E s := iter_tup ht h
end
abbrev MeetG (d1 d2 : Sd) : Prop := ∀ xs ys : Array Value, Meets (Builtin.«zip.__new__» ⟨[.type "zip", d1.vu, d2.vu], []⟩) (fun _ R s => d1.hp xs s.heap ∧ d2.hp ys s.heap ∧ R (.ok (.ret (.ref (s.heap.objs.size + 4)))) { s with heap := madeG s.heap d1.it0 d2.it0 })
theorem meet_st (x : Str) (t : Tok) (b : Addr) : MeetG (.tx x t) (.tp b) := fun xs ys => .of_wp fun prog w A R s h => by
  obtain ⟨hp, g, d, tk, os⟩ := s
  obtain ⟨hx, hy, h⟩ := h
  have hsub := sub_zip
  have hy : (hp.push (Sd.tx x t).it0).IsTuple b ys := IsTup.keeps hy fun o e => Heap.get?_push_of_some _ e
  show wpAny _ _ (Builtin.«zip.__new__» ⟨[.type "zip", .str x t, .ref b], []⟩) _ _ _
  wp_walk using iter_st, iter_tp hy
  refine ⟨_, rfl, ?_⟩
  simp only [madeG] at h
  simpa [Heap.size_push, Builtin.SmallTypes.ownedTupleFields, Nat.add_assoc] using h
theorem meet_sl (x : Str) (t : Tok) (b : Addr) : MeetG (.tx x t) (.ls b) := fun xs ys => .of_wp fun prog w A R s h => by
  obtain ⟨hp, g, d, tk, os⟩ := s
  obtain ⟨hx, hy, h⟩ := h
  have hsub := sub_zip
  have hy : (hp.push (Sd.tx x t).it0).IsList b ys := Heap.IsList.push hy _
  show wpAny _ _ (Builtin.«zip.__new__» ⟨[.type "zip", .str x t, .ref b], []⟩) _ _ _
  wp_walk using iter_st, iter_lst hy
  refine ⟨_, rfl, ?_⟩
  simp only [madeG] at h
  simpa [Heap.size_push, Builtin.SmallTypes.ownedTupleFields, Nat.add_assoc] using h
theorem meet_ll (a b : Addr) : MeetG (.ls a) (.ls b) := fun xs ys => .of_wp fun prog w A R s h => by
  obtain ⟨hp, g, d, tk, os⟩ := s
  obtain ⟨hx, hy, h⟩ := h
  have hsub := sub_zip
  have hx : hp.IsList a xs := hx
  have hy : (hp.push (Sd.ls a).it0).IsList b ys := Heap.IsList.push hy _
  show wpAny _ _ (Builtin.«zip.__new__» ⟨[.type "zip", .ref a, .ref b], []⟩) _ _ _
  wp_walk using iter_lst hx, iter_lst hy
  refine ⟨_, rfl, ?_⟩
  simp only [madeG] at h
  simpa [Heap.size_push, Builtin.SmallTypes.ownedTupleFields, Nat.add_assoc] using h
section
variable {prog : Program} {w : World} {A : Around} {E : Value → Shared → Prop} {s : Shared}
theorem call_sd {d1 d2 : Sd} {xs ys : Array Value} {Q : Value → Shared → Prop} (M : MeetG d1 d2) (hx : d1.hp xs s.heap) (hy : d2.hp ys s.heap)
    (h : ∀ h', IsZip h' (s.heap.objs.size + 4) (s.heap.objs.size + 2) (s.heap.objs.size + 3) .none → IsPair h' (s.heap.objs.size + 2) (.ref s.heap.objs.size) (.ref (s.heap.objs.size + 1)) → IsPair h' (s.heap.objs.size + 3) .none .none →
      d1.pl s.heap.objs.size 0 h' → d2.pl (s.heap.objs.size + 1) 0 h' → (∀ c o, s.heap.get? c = some o → h'.get? c = some o) → Q (.ref (s.heap.objs.size + 4)) { s with heap := h' }) :
    wpAny (model prog w) A (call (.type "zip") [d1.vu, d2.vu]) Q E s := by
  refine callType_new F.called_zip (by decide) (F.typeCall_zip_2 _ _) (F.newCall_zip_2 _ _) (fun obj => F.args_object_init_3 obj _ _) F.entry_zip_new (M xs ys) ⟨hx, hy, ?_⟩
  have at1 : ∀ (g : Heap) (o : Obj) (n : Nat), g.objs.size = n → o.isFreed = false → (g.push o).get? n = some o := fun g o n e f => by rw [← e]; exact Heap.get?_push_size g f
  have z5 : IsZip (madeG s.heap d1.it0 d2.it0) (s.heap.objs.size + 4) (s.heap.objs.size + 2) (s.heap.objs.size + 3) .none := at1 _ _ _ (by simp [Heap.size_push]) rfl
  exact ⟨⟨_, z5, rfl⟩, h _ z5 (Heap.get?_push_of_some _ (Heap.get?_push_of_some _ (at1 _ _ _ (by simp [Heap.size_push]) rfl))) (Heap.get?_push_of_some _ (at1 _ _ _ (by simp [Heap.size_push]) rfl))
    (it0_at (Heap.get?_push_of_some _ (Heap.get?_push_of_some _ (Heap.get?_push_of_some _ (Heap.get?_push_of_some _ (at1 _ _ _ rfl (it0_live _))))))) (it0_at (Heap.get?_push_of_some _ (Heap.get?_push_of_some _ (Heap.get?_push_of_some _ (at1 _ _ _ (by simp [Heap.size_push]) (it0_live _))))))
    fun c o e => Heap.get?_push_of_some _ (Heap.get?_push_of_some _ (Heap.get?_push_of_some _ (Heap.get?_push_of_some _ (Heap.get?_push_of_some _ e))))⟩
end
end ZP
def Itg (d1 d2 : Sd) : It := ⟨fun i H => ∃ xs ys a b, d1.has H xs ∧ d2.has H ys ∧ xs[i]? = some a ∧ ys[i]? = some b, fun i H v H' => ∃ p xs ys a b, d1.has H xs ∧ d2.has H ys ∧ xs[i]? = some a ∧ ys[i]? = some b ∧ v = .ref p ∧ H p = none ∧ H' = upd H p (.tup [a, b]),
  fun i H => ∃ xs ys, d1.has H xs ∧ d2.has H ys ∧ xs.length = ys.length ∧ i = xs.length⟩
theorem pl_obj {d : Sd} {it : Addr} {i : Nat} {h : Heap} (x : d.pl it i h) : ∃ o, h.get? it = some o ∧ ∀ v, o.data ≠ .cell v := by
  cases d with
  | tx y t => obtain ⟨o, e, _, dd⟩ := x; exact ⟨o, e, fun v q => by rw [dd] at q; cases q⟩
  | tp a => obtain ⟨o, e, _, dd⟩ := x; exact ⟨o, e, fun v q => by rw [dd] at q; cases q⟩
  | ls a => obtain ⟨o, e, _, dd⟩ := x; exact ⟨o, e, fun v q => by rw [dd] at q; cases q⟩
theorem pl_keep {d : Sd} {it : Addr} {i : Nat} {h h' : Heap} (x : d.pl it i h) (k : ∀ o, h.get? it = some o → h'.get? it = some o) : d.pl it i h' := by
  cases d with
  | tx y t => obtain ⟨o, e, r⟩ := x; exact ⟨o, k o e, r⟩
  | tp a => obtain ⟨o, e, r⟩ := x; exact ⟨o, k o e, r⟩
  | ls a => obtain ⟨o, e, r⟩ := x; exact ⟨o, k o e, r⟩
theorem sd_hp {X : Cx} {pins : List (Addr × Obj)} {σ : St} {H : Hp} {s : Shared} {d : Sd} {xs : List V} (I : Inv X pins σ H s) (h : d.has H xs) : ∃ its, d.hp its s.heap := by
  cases d with
  | tx y t => exact ⟨#[], True.intro⟩
  | tp a =>
    obtain ⟨its, _, p, _⟩ := I.tuple (SqT.of (show H a = _ from h))
    exact ⟨_, p⟩
  | ls a =>
    obtain ⟨its, _, ⟨o, n, e, c, _, dd⟩, _⟩ := I.list (SqL.of (show H a = _ from h))
    exact ⟨its.toArray, o, e, c, n, dd⟩
theorem sd_draws {X : Cx} {pins : List (Addr × Obj)} {σ : St} {H : Hp} {s : Shared} {d : Sd} {it : Addr} {i : Nat} {xs : List V} {A : Around} (I : Inv X pins σ H s) (hh : A.handled = none) (h : d.has H xs) (hit : H it = none) (hp : d.pl it i s.heap) :
    ∃ f P S, Draws X.prog X.w A it f xs.length P S ∧ (∀ c ∈ f, c = it ∨ ∃ u, H c = some u) ∧ S i s.heap ∧ (∀ j g, S j g → d.pl it j g) ∧ ∀ j v x, P j v → xs[j]? = some x → RelV x v := by
  cases d with
  | tx y t =>
    have h : xs = y.cps.toList.map fun c => V.str ⟨#[c]⟩ := h
    refine ⟨[it], fun i v => ∃ c u, y.cps[i]? = some c ∧ v = .str ⟨#[c]⟩ u, ZP.strAt y t it, ?_, fun c hc => .inl (List.mem_singleton.mp hc), hp, fun j g z => z, fun j v x hP hx => ?_⟩
    · have e : xs.length = y.cps.size := by rw [h]; simp
      rw [e]
      exact ZP.draws hh it y t
    · obtain ⟨c, u, e1, rfl⟩ := hP
      rw [h, List.getElem?_map, Array.getElem?_toList, e1] at hx
      cases hx
      exact ⟨u, rfl⟩
  | tp a =>
    obtain ⟨its, r, p, _⟩ := I.tuple (SqT.of (show H a = _ from h))
    have p' : s.heap.IsTuple a its.toArray := p
    have hne : a ≠ it := fun z => by rw [← z, show H a = _ from h] at hit; cases hit
    have e : xs.length = its.toArray.size := by rw [r.length]; simp
    refine ⟨[it, a], fun i v => its.toArray[i]? = some v, fun i h => h.IsTupleIter it a i ∧ h.IsTuple a its.toArray, by rw [e]; exact drawsT hh it a hne its.toArray, fun c hc => ?_, ⟨hp, p'⟩, fun j g z => z.1, fun j v x hP hx => ?_⟩
    · rcases List.mem_cons.mp hc with z | z
      · exact .inl z
      · rw [List.mem_singleton.mp z]
        exact .inr ⟨_, h⟩
    · obtain ⟨u, hu, ru⟩ := r.get hx
      have hP : its.toArray[j]? = some v := hP
      rw [List.getElem?_toArray, hu] at hP
      cases hP
      exact ru
  | ls a =>
    obtain ⟨its, r, ⟨o, n, eo, co, _, dd⟩, _⟩ := I.list (SqL.of (show H a = _ from h))
    have p' : s.heap.IsList a its.toArray := ⟨o, eo, co, n, dd⟩
    have hne : a ≠ it := fun z => by rw [← z, show H a = _ from h] at hit; cases hit
    have e : xs.length = its.toArray.size := by rw [r.length]; simp
    refine ⟨[it, a], fun i v => its.toArray[i]? = some v, fun i h => h.IsListIter it a i ∧ h.IsList a its.toArray, by rw [e]; exact Draws.list hh it a hne its.toArray, fun c hc => ?_, ⟨hp, p'⟩, fun j g z => z.1, fun j v x hP hx => ?_⟩
    · rcases List.mem_cons.mp hc with z | z
      · exact .inl z
      · rw [List.mem_singleton.mp z]
        exact .inr ⟨_, h⟩
    · obtain ⟨u, hu, ru⟩ := r.get hx
      have hP : its.toArray[j]? = some v := hP
      rw [List.getElem?_toArray, hu] at hP
      cases hP
      exact ru
theorem turn_zipG {P : Program} {w : World} {K : PySem.W.Frag} {es : List Expr} {kt : Nat} {pt : Pos} (d1 d2 : Sd) (z TI TO i1 i2 : Addr) (ap : ZipApart z TI TO i1 i2 TI TI) :
    Turn P w K (.Tuple es kt pt) (Itg d1 d2) [z, TI, TO, i1, i2] z (fun i h => IsZip h z TI TO .none ∧ IsPair h TI (.ref i1) (.ref i2) ∧ (∃ a b, IsPair h TO a b) ∧ d1.pl i1 i h ∧ d2.pl i2 i h) where
  mem := by simp
  obj := fun i h ⟨hz, hTI, ⟨a, b, hTO⟩, s1, s2⟩ c hc => by
    simp only [List.mem_cons, List.not_mem_nil, or_false] at hc
    rcases hc with rfl | rfl | rfl | rfl | rfl
    · exact ⟨_, hz, fun v q => by cases q⟩
    · exact ⟨_, hTI, fun v q => by cases q⟩
    · exact ⟨_, hTO, fun v q => by cases q⟩
    · exact pl_obj s1
    · exact pl_obj s2
  keep := fun i h h' ⟨hz, hTI, ⟨a, b, hTO⟩, s1, s2⟩ k =>
    ⟨k z (by simp) _ hz, k TI (by simp) _ hTI, ⟨a, b, k TO (by simp) _ hTO⟩, pl_keep s1 (k i1 (by simp)), pl_keep s2 (k i2 (by simp))⟩
  item := by
    rintro X hP hw hK hc i pins s σ H E I hf ⟨hz, hTI, ⟨a, b, hTO⟩, s1, s2⟩ ⟨xs, ys, va, vb, hqx, hqy, hxa, hyb⟩
    subst hP hw hK
    have l1 : i < xs.length := (List.getElem?_eq_some_iff.mp hxa).1
    have l2 : i < ys.length := (List.getElem?_eq_some_iff.mp hyb).1
    obtain ⟨f1, P1, S1, D1, m1, st1, b1, r1⟩ := sd_draws (A := X.A.in1) I (I.ok.hd hc) hqx (hf i1 (by simp)).1 s1
    obtain ⟨f2, P2, S2, D2, m2, st2, b2, r2⟩ := sd_draws (A := X.A.in1) I (I.ok.hd hc) hqy (hf i2 (by simp)).1 s2
    have off : ∀ {c : Addr} {u : HO}, H c = some u → c ∉ [z, TO, i1, i2] := fun {c u} e hm => by
      have : c ∈ [z, TI, TO, i1, i2] := by simp at hm ⊢; rcases hm with q | q | q | q <;> simp [q]
      rw [(hf c this).1] at e
      cases e
    have hT : s.TypeIs (.ref z) "zip" := ⟨_, hz, rfl⟩
    unfold pyNext
    refine wpAny_bind (wpAny_attempt (wpAny_callSpecial?_slot (name := Str.ofString "__next__") hT F.slot_zip_next (wpAny_call_entry F.slot_zip_next hT F.entry_zip_next (ZP.toldL D1 D2
      (fun c hc => (m1 c hc).imp id fun ⟨u, e⟩ => off e) (fun c hc => (m2 c hc).imp id fun ⟨u, e⟩ => off e)
      ap hz hTI hTO st1 st2 l1 l2 fun v1 v2 g tk p1 p2 gz gTI gTO g1 g2 new gk => wpAny_pure ⟨_, rfl, ?_⟩) (F.args_zip_next_1 _))))
    have ra := r1 i v1 va p1 hxa
    have rb := r2 i v2 vb p2 hyb
    refine wpAny_letOwnedTupleGo_zip (s := { s with heap := g, toks := tk }) gz fun g' gz' gs => ?_
    have up : ∀ b o, b ≠ z → g.get? b = some o → g'.get? b = some o := fun b o hb e => (gs.2 b hb).trans e
    have nz : s.heap.objs.size ≠ z := Nat.ne_of_gt (Heap.lt_size hz)
    have tup : ObjOk X.prog X.w (upd H s.heap.objs.size (.tup [va, vb])) g' s.heap.objs.size (.tup [va, vb]) :=
      ⟨line_ge (by show 2 ≤ 16777216; decide), [v1, v2], .cons ra (.cons rb .nil), ⟨_, up _ _ nz new, rfl, 0, rfl⟩⟩
    refine ⟨.ref s.heap.objs.size, _, I.turnedNew (S := [z, TO, i1, i2]) (h' := g') (t' := tk) (fun b o hb e => up b o (fun q => hb (by simp [q])) (gk b o hb e)) (fun b hb => hf b (by simp at hb ⊢; rcases hb with q | q | q | q <;> simp [q])) tup, rfl,
      ⟨_, xs, ys, va, vb, hqx, hqy, hxa, hyb, rfl, I.hok.fresh (Nat.le_refl _), rfl⟩, ⟨gz', up _ _ ap.TIz gTI, ⟨_, _, up _ _ ap.TOz gTO⟩, pl_keep (b1 _ _ g1) fun o e => up _ o ap.i1z e, pl_keep (b2 _ _ g2) fun o e => up _ o ap.i2z e⟩, fun b hb => ?_⟩
    have lt : b < s.heap.objs.size := by
      obtain ⟨o1, e1, _⟩ := pl_obj s1
      obtain ⟨o2, e2, _⟩ := pl_obj s2
      simp only [List.mem_cons, List.not_mem_nil, or_false] at hb
      rcases hb with rfl | rfl | rfl | rfl | rfl
      · exact Heap.lt_size hz
      · exact Heap.lt_size hTI
      · exact Heap.lt_size hTO
      · exact Heap.lt_size e1
      · exact Heap.lt_size e2
    rw [upd_ne (Nat.ne_of_lt lt)]
    exact (hf b hb).1
  done := by
    rintro X hP hw hK hc i pins s σ H E I hf ⟨hz, hTI, ⟨a, b, hTO⟩, s1, s2⟩ ⟨xs, ys, hqx, hqy, hl, hi⟩
    subst hP hw hK
    obtain ⟨f1, P1, S1, D1, m1, st1, b1, r1⟩ := sd_draws (A := X.A.in1) I (I.ok.hd hc) hqx (hf i1 (by simp)).1 s1
    obtain ⟨f2, P2, S2, D2, m2, st2, b2, r2⟩ := sd_draws (A := X.A.in1) I (I.ok.hd hc) hqy (hf i2 (by simp)).1 s2
    have off : ∀ {c : Addr} {u : HO}, H c = some u → c ∉ [z, TO, i1, i2] := fun {c u} e hm => by
      have : c ∈ [z, TI, TO, i1, i2] := by simp at hm ⊢; rcases hm with q | q | q | q <;> simp [q]
      rw [(hf c this).1] at e
      cases e
    have hT : s.TypeIs (.ref z) "zip" := ⟨_, hz, rfl⟩
    unfold pyNext
    refine wpAny_bind (wpAny_attempt (wpAny_callSpecial?_slot (name := Str.ofString "__next__") hT F.slot_zip_next (wpAny_call_entry F.slot_zip_next hT F.entry_zip_next (ZP.endedL D1 D2
      (fun c hc => (m1 c hc).imp id fun ⟨u, e⟩ => off e) (fun c hc => (m2 c hc).imp id fun ⟨u, e⟩ => off e)
      ap hz hTI hTO st1 st2 (.inl hi) fun g e tk gk he => ?_) (F.args_zip_next_1 _))))
    obtain ⟨o, ho, hcl⟩ := he
    refine wpAny_bind (wpAny_isInstance (s := { s with heap := g, toks := tk }) (T := "StopIteration") (b := true) ⟨o, ho, hcl⟩ isSubtype_stop (wpAny_pure ⟨rfl, ?_⟩))
    exact I.turnedL (S := [z, TO, i1, i2]) (fun b o hb e => gk b o hb e) fun b hb => hf b (by simp at hb ⊢; rcases hb with q | q | q | q <;> simp [q])
  self := fun _ _ _ _ _ st h => wpAny_pyIter_zip st.1 h
def Zips (H : Hp) (v1 v2 : V) (R : (Tok → Sd) → Sd → Prop) : Prop :=
  (∃ x b xs, v1 = .str x ∧ v2 = .ref b ∧ H b = some (.tup xs) ∧ R (.tx x) (.tp b)) ∨ (∃ x b xs, v1 = .str x ∧ v2 = .ref b ∧ H b = some (.lst xs) ∧ R (.tx x) (.ls b)) ∨ ∃ a b xs ys, v1 = .ref a ∧ v2 = .ref b ∧ H a = some (.lst xs) ∧ H b = some (.lst ys) ∧ R (fun _ => .ls a) (.ls b)
def iZipG (t : TA) : TI := fun σ H R => t σ H fun vs H1 => ∃ v1 v2, vs = [v1, v2] ∧ Zips H1 v1 v2 fun d1 d2 => ∀ k, R (Itg (d1 k) d2) H1
theorem pi_zipG {X : Cx} {es : List Expr} {kt : Nat} {pt : Pos} {a b : Expr} {ta : TA} {p pos : Pos} (hg : Gl X "zip") (hm : X.mg "zip" = none) (ha : PA X [a, b] ta) (hs : starEach [a, b] X.env = (false, eval a X.env) :: starEach [b] X.env := by rfl)
    (hpl : (backTo pos (starEach [b] X.env)).any (·.1) = false := by rfl) : PI X (.Tuple es kt pt) (.Call (.Name "zip" p) [a, b] [] pos) (iZipG ta) := by
  intro pins s σ H R I h
  refine wpAny_Call_Name_kw (ld_blt I hg hm PyProof.Rows.boot_zip (PyProof.Rows.callWith_type1 (thn (ha pos pins s σ H _ I h) fun us s1 ⟨vs, H1, I1, r1, v1, v2, ev, hz⟩ => ?_) hs hpl))
  subst ev
  obtain ⟨u1, u2, rfl, e1, e2⟩ := vals2 r1
  have go : ∀ (d1 d2 : Sd) (xs ys : List V), ZP.MeetG d1 d2 → u1 = d1.vu → u2 = d2.vu → d1.has H1 xs → d2.has H1 ys → R (Itg d1 d2) H1 → wpAny (model X.prog X.w) X.A (call (.type "zip") [u1, u2]) (fun v s2 => wpAny (model X.prog X.w) X.A (pyIter v) (PIE X pins σ (.Tuple es kt pt) R) X.xe s2) X.xe s1 := by
    rintro d1 d2 xs ys M rfl rfl hx hy q
    obtain ⟨itx, px⟩ := sd_hp I1 hx
    obtain ⟨ity, py⟩ := sd_hp I1 hy
    refine ZP.call_sd M px py fun g gz gTI gTO g1 g2 gk => wpAny_pyIter_zip (s := { s1 with heap := g }) gz ?_
    have ap : ZipApart (s1.heap.objs.size + 4) (s1.heap.objs.size + 2) (s1.heap.objs.size + 3) s1.heap.objs.size (s1.heap.objs.size + 1) (s1.heap.objs.size + 2) (s1.heap.objs.size + 2) := by
      constructor <;> exact neA (by omega)
    refine ⟨_, [s1.heap.objs.size + 4, s1.heap.objs.size + 2, s1.heap.objs.size + 3, s1.heap.objs.size, s1.heap.objs.size + 1], _, Itg d1 d2, H1, rfl, I1.kept (t' := s1.toks) gk, turn_zipG d1 d2 _ _ _ _ _ ap,
      ⟨gz, gTI, ⟨_, _, gTO⟩, g1, g2⟩, fun c hc => ?_, q⟩
    have hge : s1.heap.objs.size ≤ c := by
      simp only [List.mem_cons, List.not_mem_nil, or_false] at hc
      rcases hc with rfl | rfl | rfl | rfl | rfl
      · exact Nat.le_add_right _ _
      · exact Nat.le_add_right _ _
      · exact Nat.le_add_right _ _
      · exact Nat.le_refl _
      · exact Nat.le_add_right _ _
    exact I1.fpOk hge (I1.hok.fresh hge)
  rcases hz with ⟨x, b, xs, rfl, rfl, hb, q⟩ | ⟨x, b, xs, rfl, rfl, hb, q⟩ | ⟨a, b, xs, ys, rfl, rfl, ha', hb, q⟩
  · obtain ⟨t, rfl⟩ := (show ∃ t, u1 = Value.str x t from e1)
    cases e2
    exact go (.tx x t) (.tp b) _ _ (ZP.meet_st x t b) rfl rfl rfl hb (q t)
  · obtain ⟨t, rfl⟩ := (show ∃ t, u1 = Value.str x t from e1)
    cases e2
    exact go (.tx x t) (.ls b) _ _ (ZP.meet_sl x t b) rfl rfl rfl hb (q t)
  · cases e1
    cases e2
    exact go (.ls a) (.ls b) _ _ (ZP.meet_ll a b) rfl rfl ha' hb (q 0)
end L2
namespace L2
open PySem PySem.Spec PyProof.Rows
theorem isInt_self (k : Int) (t : Tok) : Value.isInt k (.int k t) = true := by simp [Value.isInt]
def DGetW (P : Program) (w : World) (H : Hp) (d : Addr) (y : V) (r : Option V) : Prop :=
  (∃ kvs k, H d = some (kdO (intKind P w) d kvs) ∧ y = .int k ∧ r = valV kvs k) ∨
  ∃ kvs k b, H d = some (hdO (pairD P w) d kvs) ∧ (∀ x ∈ kvs, TIn H x.1 x.2.1) ∧ y = .ref b ∧ TIn H k b ∧ r = valH kvs k
def DPutW (P : Program) (w : World) (H : Hp) (d : Addr) (y v : V) (H' : Hp) : Prop :=
  (∃ kvs k, H d = some (kdO (intKind P w) d kvs) ∧ y = .int k ∧ valV kvs k = none ∧ kvs.length < sizeLine ∧ H' = upd H d (kdO (intKind P w) d (kvs ++ [(k, v)]))) ∨
  ∃ kvs k b, H d = some (hdO (pairD P w) d kvs) ∧ (∀ x ∈ kvs, TIn H x.1 x.2.1) ∧ y = .ref b ∧ TIn H k b ∧ valH kvs k = none ∧ kvs.length < sizeLine ∧ H' = upd H d (hdO (pairD P w) d (kvs ++ [(k, b, v)]))
section
variable {X : Cx}
def rNotInW (P : Program) (w : World) : R2 := fun x y H Q => ∃ d o, y = .ref d ∧ DGetW P w H d x o ∧ Q (.bl (!o.isSome)) H
theorem op_notinW (hu : X.A.units + 64 < cLine) : OpR X (compareOp .NotIn) (rNotInW X.prog X.w) := by
  intro pins s σ H x y v u Q I rx ry h
  obtain ⟨d, o, rfl, g, q⟩ := h
  cases ry
  rcases g with ⟨kvs, k, e, rfl, rfl⟩ | ⟨kvs, k, b, e, hk, rfl, kb, rfl⟩
  · obtain ⟨t, rfl⟩ := (show ∃ t, v = Value.int k t from rx)
    obtain ⟨ns, _, vs, rel, dd⟩ := kd_of I.hok e
    refine wpAny_notIn_of (knd := intKind X.prog X.w) (k := k) (isInt_self k t) ns dd.mapOf ?_
    rw [← relO_isSome (rel.val k)]
    exact ⟨.bl _, H, I.tok _, rfl, q⟩
  · cases rx
    exact h_notIn (D := pairD X.prog X.w) hu I e hk kb fun s' I' => ⟨.bl _, H, I', rfl, q⟩
def rInW (P : Program) (w : World) : R2 := fun x y H Q => ∃ d o, y = .ref d ∧ DGetW P w H d x o ∧ Q (.bl o.isSome) H
theorem dg_typeW {pins : List (Addr × Obj)} {σ : St} {H : Hp} {s : Shared} {d : Addr} {y : V} {o : Option V} (I : Inv X pins σ H s) (g : DGetW X.prog X.w H d y o) : s.TypeIs (.ref d) "dict" := by
  rcases g with ⟨kvs, k, e, _⟩ | ⟨kvs, k, b, e, hk, _⟩
  · obtain ⟨_, _, vs, _, dd⟩ := kd_of I.hok e
    exact dd.typeIs
  · obtain ⟨_, _, vs, _, dd⟩ := hd_of (D := pairD X.prog X.w) I.hok e hk
    exact dd.typeIs
def rIxW (P : Program) (w : World) : R2 := fun x y H Q => ∃ d v, x = .ref d ∧ DGetW P w H d y (some v) ∧ Q v H
theorem ix_dictW (hu : X.A.units + 64 < cLine) : IxR X (rIxW X.prog X.w) := by
  intro value slice pins s σ H x y v u Q I rx ry h hs
  obtain ⟨d, z, rfl, g, q⟩ := h
  cases rx
  refine tail_any (ops := [.ref d, u]) (dg_typeW I g) PySem.F.slot_dict_getitem.lookup ?_ hs
  rcases g with ⟨kvs, k, e, rfl, l⟩ | ⟨kvs, k, b, e, hk, rfl, kb, l⟩
  · obtain ⟨t, rfl⟩ := (show ∃ t, u = Value.int k t from ry)
    obtain ⟨ns, _, vs, rel, dd⟩ := kd_of I.hok e
    obtain ⟨w', hw, rw'⟩ := RelO.some_of (v := z) (o := valueAt vs k) (by rw [l]; exact rel.val k)
    exact wpAny_getItem_of (knd := intKind X.prog X.w) (k := k) (isInt_self k t) dd.mapOf hw ⟨z, H, I.tok _, rw', q⟩
  · cases ry
    exact h_get (D := pairD X.prog X.w) hu I e hk kb l fun w' s' I' rw' => ⟨z, H, I', rw', q⟩
def rSetW (P : Program) (w : World) : TSet := fun o i v H Q => ∃ d H', o = .ref d ∧ DPutW P w H d i v H' ∧ Q H'
theorem set_dictW (hu : X.A.units + 64 < cLine) : PSet X (rSetW X.prog X.w) := by
  intro pins s σ H o i v ov iv u Q I ro ri rv h
  obtain ⟨d, H', rfl, g, q⟩ := h
  cases ro
  rcases g with ⟨kvs, k, e, rfl, hn, hl, rfl⟩ | ⟨kvs, k, b, e, hk, rfl, kb, hn, hl, rfl⟩
  · obtain ⟨t, rfl⟩ := (show ∃ t, iv = Value.int k t from ri)
    obtain ⟨ns, hz, vs, rel, dd⟩ := kd_of I.hok e
    refine wpAny_setItem_pairs (knd := intKind X.prog X.w) (k := k) (hsz := by rw [← rel.length]; exact hz) (isInt_self k t) dd fun h' dd' hs => ⟨_, ?_, q⟩
    have qn := RelO.none_of (show RelO none (valueAt vs k) by rw [← hn]; exact rel.val k)
    rw [stored_new qn] at dd'
    exact ext_write I (by rw [e]; exact True.intro) hs (let ⟨o, _, _, q, _⟩ := dd'; ⟨o, q⟩) (kd_ok ns (by rw [List.length_append]; exact hl) (kv_snoc rel rv) dd')
  · cases ri
    exact h_set (D := pairD X.prog X.w) hu I e hk kb hn hl rv fun s' I' => ⟨_, I', q⟩
def newW (P : Program) (w : World) (d : Addr) : Bool → HO
  | true => kdO (intKind P w) d []
  | false => hdO (pairD P w) d []
theorem newW_ok {P : Program} {w : World} {H : Hp} (h : Heap) (hb : sysModules < h.objs.size) (k : Bool) : ObjOk P w H (h.push { cls := .type "dict", data := .dict #[] }) h.objs.size (newW P w h.objs.size k) := by
  have ns : (h.objs.size == sysModules) = false := beq_eq_false_iff_ne.mpr (Ne.symm (Nat.ne_of_lt hb))
  cases k with
  | true => exact kd_ok (knd := intKind P w) ns (Nat.zero_le _) .nil (Heap.DictOf.new h)
  | false => exact hd_ok (D := pairD P w) ns (Nat.zero_le _) .nil (Heap.DictOfH.new h)
def tWNew (P : Program) (w : World) : TE := fun _ H Q => ∃ k, ∀ p, H p = none → Q (.ref p) (upd H p (newW P w p k))
def tWOne (P : Program) (w : World) (tk tv : TE) : TE := fun σ H Q => ∃ ti : Bool, ∀ p, H p = none → tk σ (upd H p (newW P w p ti)) fun x H1 => tv σ H1 fun y H2 => H2 p = some (newW P w p ti) ∧
  ((ti = true ∧ ∃ k, x = .int k ∧ Q (.ref p) (upd H2 p (kdO (intKind P w) p [(k, y)]))) ∨ (ti = false ∧ ∃ b k, x = .ref b ∧ TIn H2 k b ∧ Q (.ref p) (upd H2 p (hdO (pairD P w) p [(k, b, y)]))))
theorem pe_wone {k v : Expr} {tk tv : TE} {pos : Pos} (hu : X.A.units + 64 < cLine) (hk : PE X k tk) (hv : PE X v tv) : PE X (.Dict [some k] [v] pos) (tWOne X.prog X.w tk tv) := by
  intro pins s σ H Q I h
  obtain ⟨ti, h⟩ := h
  have hn := I.hok.fresh (Nat.le_refl s.heap.objs.size)
  have I1 := I.laid (a := s.heap.objs.size) (o := newW X.prog X.w s.heap.objs.size ti) (t' := s.toks) (fun _ _ q => Heap.get?_push_of_some { cls := .type "dict", data := .dict #[] } q) (Nat.le_refl _) (newW_ok s.heap I.bigS ti)
  have hsh := zip_pairTrees [some k] [v] X.env pos rfl rfl
  rw [arm_eval_Dict, hsh, dictDisplay_pairs (pairTrees [some k] [v] X.env pos) (by intro z; cases z) (by show 1 < 17; decide)]
  refine wpAny_bind (wpAny_standAt (wpAny_bind ?_))
  unfold subDict
  refine wpAny_bind (wpAny_alloc (wpAny_bind (wpAny_holding ?_)))
  rw [if_pos (show (pairTrees [some k] [v] X.env pos).length ≤ 15 by show 1 ≤ 15; decide)]
  refine wpAny_bind (pairTrees_cons_walk (thn (hk pins _ σ _ _ I1 (h _ hn)) fun u s1 ⟨x, H1, I2, rx, q1⟩ => thn (hv pins s1 σ H1 _ I2 q1) fun r s2 ⟨y, H2, I3, ry, hp, q2⟩ => pairTrees_nil_walk (wpAny_holding (wpAny_bind ?_))))
  rw [List.forIn_cons]
  rcases q2 with ⟨rfl, k, rfl, q2⟩ | ⟨rfl, b, k, rfl, kb, q2⟩
  · obtain ⟨t, rfl⟩ := (show ∃ t, u = Value.int k t from rx)
    obtain ⟨ns, hz, vs, rel, dd⟩ := kd_of (knd := intKind X.prog X.w) (kvs := []) I3.hok hp
    refine wpAny_bind (wpAny_bind (wpAny_dictSet_pairs (knd := intKind X.prog X.w) (k := k) (hsz := by rw [← rel.length]; exact hz) (isInt_self k t) dd fun h' dd' hs => wpAny_pure ?_))
    dsimp only
    rw [List.forIn_nil]
    refine wpAny_pure (wpAny_pure (wpAny_pure (wpAny_pure ⟨.ref s.heap.objs.size, _, ?_, rfl, q2⟩)))
    have qn := RelO.none_of (show RelO none (valueAt vs k) from rel.val k)
    rw [stored_new qn] at dd'
    exact ext_write I3 (by rw [hp]; exact True.intro) hs (let ⟨o, _, _, q, _⟩ := dd'; ⟨o, q⟩) (kd_ok ns (line_ge (by show 1 ≤ 16777216; decide)) (kv_snoc (kvs := []) rel ry) dd')
  · cases rx
    obtain ⟨ns, hz, xs, rel, dd⟩ := hd_of (D := pairD X.prog X.w) (kvs := []) I3.hok hp (fun x hx => by simp at hx)
    refine wpAny_bind (wpAny_bind (wpAny_dictSet_heap (knd := (pairD X.prog X.w).knd) (hsz := by rw [← Paired.length rel]; exact hz) ((pairD X.prog X.w).room hu).2 ((pairD X.prog X.w).ok kb I3.hok) dd fun h' dd' hs => wpAny_pure ?_))
    dsimp only
    rw [List.forIn_nil]
    refine wpAny_pure (wpAny_pure (wpAny_pure (wpAny_pure ⟨.ref s.heap.objs.size, _, ?_, rfl, q2⟩)))
    exact h_new (D := pairD X.prog X.w) (kvs := []) I3 hp ns (line_ge (by show 1 ≤ 16777216; decide)) rel rfl ry dd' hs
end
end L2
namespace RA
open PySem L2
def ThV (ti : Bool) (H : Hp) (k : List Nat) (v : V) : Prop := if ti = true then ∃ n : Nat, k = [n] ∧ v = .int (n : Int) else ∃ b, v = .ref b ∧ H b = some (.tup (intsV k))
theorem ThV.same {ti : Bool} {H H' : Hp} {k : List Nat} {v : V} (h : ThV ti H k v) (s : ∀ b xs, H b = some (.tup xs) → H' b = some (.tup xs)) : ThV ti H' k v := by
  unfold ThV at h ⊢
  split
  · rename_i c
    rw [if_pos c] at h
    exact h
  · rename_i c
    rw [if_neg c] at h
    obtain ⟨b, e1, e2⟩ := h
    exact ⟨b, e1, s _ _ e2⟩
theorem zs_intsV (k : List Nat) : (zs k).map V.int = intsV k := by rw [zs, intsV, List.map_map]; rfl
def kvI : List (List Nat) → Nat → List (Int × V)
  | [], _ => []
  | k :: r, n => (((k.headD 0 : Nat) : Int), .int (n : Int)) :: kvI r (n + 1)
theorem kvI_len : ∀ (ts : List (List Nat)) (n : Nat), (kvI ts n).length = ts.length
  | [], _ => rfl
  | k :: r, n => by rw [kvI, List.length_cons, List.length_cons, kvI_len r]
theorem kvI_snoc (k : List Nat) : ∀ (ts : List (List Nat)) (n : Nat), kvI (ts ++ [k]) n = kvI ts n ++ [(((k.headD 0 : Nat) : Int), .int ((n + ts.length : Nat) : Int))]
  | [], n => rfl
  | t :: r, n => by
    rw [List.cons_append, kvI, kvI_snoc k r (n + 1), kvI, List.cons_append, List.length_cons, show n + 1 + r.length = n + (r.length + 1) by omega]
def ixO (ts : List (List Nat)) (k : List Nat) : Option Nat := if k ∈ ts then some (ts.idxOf k) else none
theorem ixO_cons {t k : List Nat} {r : List (List Nat)} (h : t ≠ k) : ixO (t :: r) k = (ixO r k).map (· + 1) := by
  unfold ixO
  by_cases hk : k ∈ r
  · rw [if_pos (List.mem_cons_of_mem _ hk), if_pos hk, List.idxOf_cons, show (t == k) = false from beq_eq_false_iff_ne.mpr h]
    rfl
  · rw [if_neg (fun z => (List.mem_cons.mp z).elim (fun y => h y.symm) hk), if_neg hk]
    rfl
theorem kvI_val {m : Nat} : ∀ {ts : List (List Nat)} {n : Nat}, (∀ t ∈ ts, ∃ a, t = [a]) → valV (kvI ts n) (m : Int) = (ixO ts [m]).map fun (i : Nat) => V.int ((n + i : Nat) : Int)
  | [], _, _ => rfl
  | t :: r, n, h => by
    obtain ⟨a, rfl⟩ := h t (by simp)
    by_cases e : a = m
    · subst e
      rw [kvI, valV_pos (k := (a : Int)) (show ((([a] : List Nat).headD 0 : Nat) : Int) = (a : Int) from rfl), ixO, if_pos (by simp), List.idxOf_cons_self]
      rfl
    · rw [kvI, valV_neg (fun z => e (Int.ofNat.inj z)), kvI_val (n := n + 1) (fun t ht => h t (by simp [ht])), ixO_cons (fun z => e (by injection z))]
      cases ixO r [m] with
      | none => rfl
      | some i =>
        show some (V.int ((n + 1 + i : Nat) : Int)) = some (V.int ((n + (i + 1) : Nat) : Int))
        rw [show n + 1 + i = n + (i + 1) by omega]
def RmAt (P : Program) (w : World) (H : Hp) (d : Addr) (ti : Bool) (ts : List (List Nat)) : Prop :=
  if ti = true then H d = some (kdO (intKind P w) d (kvI ts 0)) ∧ ∀ t ∈ ts, ∃ a, t = [a]
  else ∃ kvs : List (List Int × Addr × V), H d = some (hdO (pairD P w) d kvs) ∧ (∀ x ∈ kvs, TIn H x.1 x.2.1) ∧ kvs.length = ts.length ∧ ∀ (i : Nat) (k : List Nat) (x : List Int × Addr × V), ts[i]? = some k → kvs[i]? = some x → x.1 = zs k ∧ x.2.2 = .int (i : Int)
theorem valH_of {kvs : List (List Int × Addr × V)} {ts : List (List Nat)} {k : List Nat} : ∀ {n : Nat}, kvs.length = ts.length → (∀ (i : Nat) (k : List Nat) (x : List Int × Addr × V), ts[i]? = some k → kvs[i]? = some x → x.1 = zs k ∧ x.2.2 = .int ((n + i : Nat) : Int)) → valH kvs (zs k) = (ixO ts k).map fun (i : Nat) => V.int ((n + i : Nat) : Int) := by
  induction kvs generalizing ts with
  | nil =>
    intro n hl h
    cases ts with
    | nil => rfl
    | cons t r => cases hl
  | cons x xs ih =>
    intro n hl h
    cases ts with
    | nil => cases hl
    | cons t r =>
      obtain ⟨e1, e2⟩ := h 0 t x rfl rfl
      by_cases e : t = k
      · subst e
        rw [ixO, if_pos (by simp), List.idxOf_cons_self]
        simp [valH, List.find?_cons, e1, e2]
      · have e' : ¬ x.1 = zs k := fun z => e (zs_inj (e1.symm.trans z))
        have a1 : valH (x :: xs) (zs k) = valH xs (zs k) := by simp [valH, List.find?_cons, e']
        rw [a1, ih (n := n + 1) (by simpa using hl) (fun i k' x' h1 h2 => by
          obtain ⟨g1, g2⟩ := h (i + 1) k' x' h1 h2
          exact ⟨g1, by rw [g2, show n + (i + 1) = n + 1 + i by omega]⟩), ixO_cons e]
        cases ixO r k with
        | none => rfl
        | some i =>
          show some (V.int ((n + 1 + i : Nat) : Int)) = some (V.int ((n + (i + 1) : Nat) : Int))
          rw [show n + 1 + i = n + (i + 1) by omega]
section
variable {P : Program} {w : World} {H : Hp} {d : Addr} {ti : Bool} {ts : List (List Nat)} {k : List Nat} {v : V}
theorem RmAt.get (h : RmAt P w H d ti ts) (hv : ThV ti H k v) : DGetW P w H d v ((ixO ts k).map fun (i : Nat) => V.int (i : Int)) := by
  unfold RmAt at h
  unfold ThV at hv
  cases ti with
  | true =>
    rw [if_pos rfl] at h hv
    obtain ⟨n, rfl, rfl⟩ := hv
    refine .inl ⟨_, _, h.1, rfl, ?_⟩
    rw [kvI_val h.2]
    simp
  | false =>
    rw [if_neg (by decide)] at h hv
    obtain ⟨kvs, h1, h2, h3, h4⟩ := h
    obtain ⟨b, rfl, hb⟩ := hv
    refine .inr ⟨kvs, zs k, b, h1, h2, rfl, by unfold TIn; rw [zs_intsV]; exact hb, ?_⟩
    rw [valH_of (n := 0) h3 (fun i k x a b => by rw [Nat.zero_add]; exact h4 i k x a b)]
    simp
theorem RmAt.put (h : RmAt P w H d ti ts) (hv : ThV ti H k v) (hn : k ∉ ts) (hl : ts.length < sizeLine) : ∃ ob, DPutW P w H d v (.int (ts.length : Int)) (L2.upd H d ob) ∧ RmAt P w (L2.upd H d ob) d ti (ts ++ [k]) := by
  have hno : ixO ts k = none := if_neg hn
  have hd : ∀ b xs, H b = some (.tup xs) → ∀ φ, H d = some (.ext φ) → ∀ ob, L2.upd H d ob b = some (.tup xs) := fun b xs e φ e2 ob => by
    rw [upd_ne (ne_of e e2 (by intro z; cases z))]
    exact e
  unfold RmAt at h
  unfold ThV at hv
  cases ti with
  | true =>
    rw [if_pos rfl] at h hv
    obtain ⟨n, rfl, rfl⟩ := hv
    refine ⟨kdO (intKind P w) d (kvI (ts ++ [[n]]) 0), .inl ⟨_, _, h.1, rfl, ?_, by rw [kvI_len]; exact hl, ?_⟩, ?_⟩
    · rw [kvI_val h.2, hno]
      rfl
    · rw [kvI_snoc, Nat.zero_add]
      rfl
    · unfold RmAt
      rw [if_pos rfl]
      refine ⟨upd_same, fun t ht => ?_⟩
      rcases List.mem_append.mp ht with z | z
      · exact h.2 t z
      · exact ⟨n, List.mem_singleton.mp z⟩
  | false =>
    rw [if_neg (by decide)] at h hv
    obtain ⟨kvs, h1, h2, h3, h4⟩ := h
    obtain ⟨b, rfl, hb⟩ := hv
    have hb' : TIn H (zs k) b := by unfold TIn; rw [zs_intsV]; exact hb
    refine ⟨hdO (pairD P w) d (kvs ++ [(zs k, b, .int (ts.length : Int))]), .inr ⟨kvs, zs k, b, h1, h2, rfl, hb', ?_, by rw [h3]; exact hl, rfl⟩, ?_⟩
    · rw [valH_of (n := 0) h3 (fun i k x a b => by rw [Nat.zero_add]; exact h4 i k x a b), hno]
      rfl
    · unfold RmAt
      rw [if_neg (by decide)]
      refine ⟨_, upd_same, fun x hx => ?_, by rw [List.length_append, List.length_append, h3]; rfl, fun i k' x hk hx => ?_⟩
      · rcases List.mem_append.mp hx with z | z
        · exact hd _ _ (h2 x z) _ h1 _
        · rw [List.mem_singleton.mp z]
          exact hd _ _ hb' _ h1 _
      · by_cases hi : i < ts.length
        · rw [List.getElem?_append_left hi] at hk
          rw [List.getElem?_append_left (by rw [h3]; exact hi)] at hx
          exact h4 i k' x hk hx
        · rw [List.getElem?_append_right (Nat.le_of_not_lt hi)] at hk
          rw [List.getElem?_append_right (by rw [h3]; exact Nat.le_of_not_lt hi), h3] at hx
          have hz : i - ts.length = 0 := by
            have := (List.getElem?_eq_some_iff.mp hk).1
            simp at this
            omega
          rw [hz] at hk hx
          cases hk
          cases hx
          exact ⟨rfl, by rw [show i = ts.length by omega]⟩
theorem RmAt.same {H' : Hp} (h : RmAt P w H d ti ts) (s : ∀ b o, H b = some o → (b = d ∨ ∃ xs, o = .tup xs) → H' b = some o) : RmAt P w H' d ti ts := by
  unfold RmAt at h ⊢
  cases ti with
  | true =>
    rw [if_pos rfl] at h ⊢
    exact ⟨s _ _ h.1 (.inl rfl), h.2⟩
  | false =>
    rw [if_neg (by decide)] at h ⊢
    obtain ⟨kvs, h1, h2, h3, h4⟩ := h
    exact ⟨kvs, s _ _ h1 (.inl rfl), fun x hx => s _ _ (h2 x hx) (.inr ⟨_, rfl⟩), h3, h4⟩
end
end RA
namespace L2
open PySem PySem.Spec PyProof.Rows
namespace ZP
def zipO (T : Addr) (b : Bool) (TI TO : Addr) : Obj := { cls := .type "zip", dict := none, data := .fields #[rawInt T, .bool b, .bool false, .ref TI, .ref TO], slots := #[] }
section
variable {prog : Program} {w : World} {A : Around} {E : Value → Shared → Prop} {s : Shared} {z TI TO i1 i2 T : Addr} {f1 f2 : List Addr} {n1 n2 k : Nat} {P1 P2 : Nat → Value → Prop} {S1 S2 : Nat → Heap → Prop} {b1 : Bool} {oT : Obj}
end
section
variable {prog : Program} {w : World} {A : Around} {R : Result → Shared → Prop} {z TI TO i1 i2 S : Addr} {f1 f2 : List Addr} {n : Nat} {P1 P2 : Nat → Value → Prop} {S1 S2 : Nat → Heap → Prop}
structure LZ (h0 : Heap) (z TI TO i1 i2 S : Addr) (P1 P2 : Nat → Value → Prop) (S1 S2 : Nat → Heap → Prop) (k : Nat) (h : Heap) (acc : Array Value) : Prop where
  zip : (k = 0 ∧ IsZip h z TI TO .none ∧ ∃ a b, IsPair h TO a b) ∨ (0 < k ∧ ∃ b1 T oT, h.get? z = some (zipO T b1 TI TO) ∧ h.get? T = some oT ∧ h0.objs.size ≤ T)
  ti : IsPair h TI (.ref i1) (.ref i2)
  s1 : S1 k h
  s2 : S2 k h
  sz : h0.objs.size ≤ h.objs.size
  len : acc.size = k
  items : ∀ (j : Nat) (v : Value), acc[j]? = some v → ∃ t x y, v = .ref t ∧ P1 j x ∧ P2 j y ∧ IsPair h t x y ∧ h0.objs.size ≤ t
  inj : ∀ (i j : Nat) (t : Addr), acc[i]? = some (.ref t) → acc[j]? = some (.ref t) → i = j
  keep : ∀ c o, c ∉ [z, TO, i1, i2, S] → h0.get? c = some o → h.get? c = some o
end
section
variable {prog : Program} {w : World} {A : Around} {E : Value → Shared → Prop} {z TI TO i1 i2 : Addr} {f1 f2 : List Addr} {n : Nat} {P1 P2 : Nat → Value → Prop} {S1 S2 : Nat → Heap → Prop}
end
end ZP
end L2
namespace L2
open PySem PySem.Spec PyProof.Rows
section
variable {X : Cx} {pins : List (Addr × Obj)} {σ : St} {H H' : Hp} {s : Shared} {h' : Heap}
end
def newT (ts : List Addr) (xs ys : List V) (b : Addr) : Option HO := ((ts.zip (xs.zip ys)).lookup b).map fun q => HO.tup [q.1, q.2]
def tListZip (ta : TA) : TE := fun σ H Q => ta σ H fun vs H1 => ∃ a b xs ys, vs = [.ref a, .ref b] ∧ H1 a = some (.lst xs) ∧ H1 b = some (.lst ys) ∧ xs.length = ys.length ∧ xs.length ≤ 1000000 ∧
  ∀ (l : Addr) (ts : List Addr) (H2 : Hp), ts.length = xs.length → ts.Nodup → H1 l = none → Same H1 H2 → H2 l = some (.lst (ts.map V.ref)) → (∀ (i : Nat) (t : Addr) (x y : V), ts[i]? = some t → xs[i]? = some x → ys[i]? = some y → H2 t = some (.tup [x, y])) → Q (.ref l) H2
end L2
namespace L2
open PySem PySem.Spec PyProof.Rows
theorem has_uniq {d : Sd} {H : Hp} {xs ys : List V} (a : d.has H xs) (b : d.has H ys) : xs = ys := by
  cases d with
  | tx x k => exact (show xs = _ from a).trans (show ys = _ from b).symm
  | tp c =>
    have a : H c = _ := a
    have b : H c = _ := b
    rw [a] at b
    cases b
    rfl
  | ls c =>
    have a : H c = _ := a
    have b : H c = _ := b
    rw [a] at b
    cases b
    rfl
theorem for_zipG {d1 d2 : Sd} {xs ys : List V} {g : TG} {tb : TS} {D : Ends} {σ : St} {H : Hp} (hl : xs.length = ys.length) (Pv : Nat → St → Hp → Prop) (h0 : Pv 0 σ H) (hh : ∀ i σ H, Pv i σ H → d1.has H xs ∧ d2.has H ys)
    (hs : ∀ i x y p σ H, xs[i]? = some x → ys[i]? = some y → H p = none → Pv i σ H → g (.ref p) σ (upd H p (.tup [x, y])) fun σ2 H2 => tb { D with nx := Pv (i + 1), ct := Pv (i + 1), bk := D.nx } σ2 H2)
    (hd : ∀ σ H, Pv xs.length σ H → D.nx σ H) :
    ∃ W : Nat → Nat → St → Hp → Prop, (∃ m, W 0 m σ H) ∧ ∀ i m σ H, W i m σ H →
      ((Itg d1 d2).stop i H ∧ D.nx σ H) ∨ ((Itg d1 d2).go i H ∧ ∃ N : St → Hp → Prop, (∀ σ' H', N σ' H' → ∃ m', m' < m ∧ W (i + 1) m' σ' H') ∧ ∀ v H', (Itg d1 d2).yld i H v H' → g v σ H' fun σ2 H2 => tb { D with nx := N, ct := N, bk := D.nx } σ2 H2) := by
  refine ⟨fun i m σ H => m = xs.length - i ∧ i ≤ xs.length ∧ Pv i σ H, ⟨xs.length, by simp, Nat.zero_le _, h0⟩, ?_⟩
  rintro i m σ H ⟨rfl, hi, p⟩
  obtain ⟨h1, h2⟩ := hh i σ H p
  by_cases hlt : i < xs.length
  · refine .inr ⟨⟨xs, ys, xs[i], ys[i]'(by omega), h1, h2, List.getElem?_eq_getElem _, List.getElem?_eq_getElem _⟩, Pv (i + 1), fun σ' H' p' => ⟨xs.length - (i + 1), by omega, rfl, hlt, p'⟩, fun v H' q => ?_⟩
    obtain ⟨a, xs', ys', x, y, e1, e2, e3, e4, rfl, e5, rfl⟩ := q
    have := has_uniq e1 h1
    have := has_uniq e2 h2
    subst xs' ys'
    exact hs i x y a σ H e3 e4 e5 p
  · have e : i = xs.length := by omega
    subst e
    exact .inl ⟨⟨xs, ys, h1, h2, hl, rfl⟩, hd σ H p⟩
theorem zips_of {H : Hp} {gs : Addr} {xs : List V} {x : Str} {R : (Tok → Sd) → Sd → Prop} (h : H gs = some (.tup xs) ∨ H gs = some (.lst xs)) (hR : ∀ d2 : Sd, (∀ H' : Hp, H' gs = H gs → d2.has H' xs) → R (.tx x) d2) : Zips H (.str x) (.ref gs) R := by
  rcases h with h | h
  · exact .inl ⟨x, gs, xs, rfl, rfl, h, hR (.tp gs) fun H' e => show H' gs = _ from e.trans h⟩
  · exact .inr (.inl ⟨x, gs, xs, rfl, rfl, h, hR (.ls gs) fun H' e => show H' gs = _ from e.trans h⟩)
structure FunD (K : PySem.W.Frag) (x qual : Str) (st : Stmt) (f : Addr) (fd : FuncData) : Prop where
  ex : ∃ (oc : Value) (od : Option Addr) (dV kV doc pm : Value) (an : Option Addr) (cdv ct : Value) (osl : Array (Option Value)),
    fd = PySem.W.fnOf x qual (defArgs st) (defBody st) (defScope st) dV kV doc pm an cdv ct ∧ K.lookup f = some ⟨oc, od, .func fd, osl⟩ ∧ PySem.W.codeIn K cdv qual = true
  kp : PySem.W.keepIn K (.ref f) = true
theorem FunD.ok {P : Program} {w : World} {K : PySem.W.Frag} {mg : Str → Option Value} {base : Heap} {x qual : Str} {st : Stmt} {f : Addr} {fd : FuncData} {N ps : List Str} {k : Nat} {sp : Sp} (F : FunD K x qual st f fd) (S : FnScope N ps (defScope st)) (len : ∀ vs H Q E, sp vs H Q E → vs.length = ps.length)
    (hbody : ∀ (cdv : Value) (A : Around) (outer : List Env) (s : Shared) (H : Hp) (vs : List V) (Q : VK) (E : XK), Room k (A.deeper (envOfC qual (defScope st) s.heap.objs.size f cdv)) → sp vs H Q E →
      ∃ t, PSs (cxOf CX0 P w K mg base N qual (defScope st) f cdv A outer s H E).nox (defBody st) t ∧ t { nx := fun _ H' => Q .non H', rt := Q } (start N vs) H) : FnOk P w K mg base CX0 (k + 1) f fd ps sp := by
  obtain ⟨oc, od, dV, kV, doc, pm, an, cdv, ct, osl, rfl, lk, hcd⟩ := F.ex
  refine fn_of lk hcd S len fun A outer s H vs Q E hr hsp => ?_
  obtain ⟨t, h, q⟩ := hbody cdv A outer s H vs Q E hr hsp
  exact ⟨t, h.nox, q⟩
theorem fn_code {P : Program} {w : World} {K : PySem.W.Frag} {mg : Str → Option Value} {base : Heap} {x qual : Str} {st : Stmt} {f c : Addr} {oc dV kV doc pm ct : Value} {od an : Option Addr} {osl : Array (Option Value)} {N ps : List Str} {k : Nat} {sp : Sp}
    (lk : K.lookup f = some ⟨oc, od, .func (PySem.W.fnOf x qual (defArgs st) (defBody st) (defScope st) dV kV doc pm an (.ref c) ct), osl⟩) (hcd : PySem.W.codeIn K (.ref c) qual = true) (S : FnScope N ps (defScope st)) (len : ∀ vs H Q E, sp vs H Q E → vs.length = ps.length)
    (hbody : ∀ (A : Around) (outer : List Env) (s : Shared) (H : Hp) (vs : List V) (Q : VK) (E : XK), Room k (A.deeper (envOfC qual (defScope st) s.heap.objs.size f (.ref c))) → sp vs H Q E →
      ∃ t, PSs (cxOf CX0 P w K mg base N qual (defScope st) f (.ref c) A outer s H E) (defBody st) t ∧ t { nx := fun _ H' => Q .non H', rt := Q } (start N vs) H) :
    FnOk P w K mg base CX0 (k + 1) f (PySem.W.fnOf x qual (defArgs st) (defBody st) (defScope st) dV kV doc pm an (.ref c) ct) ps sp := fn_of lk hcd S len hbody
end L2
namespace RA
open PySem L2
structure WalkAt (H : Hp) (cW wk : Addr) (L : List Nat) (t wd y m : Addr) : Prop where
  ex : ∃ dx, H wk = some (.ins cW dx [("letters", .str (tx L)), ("things", .ref t), ("words", .ref wd), ("ways", .ref y), ("marks", .ref m)])
def wordsV (ws : List (List Nat)) : List V := ws.map fun w => V.str (tx w)
def ThsAt (ti : Bool) (H : Hp) (ks : List (List Nat)) (vs : List V) : Prop := vs.length = ks.length ∧ ∀ (i : Nat) (k : List Nat) (v : V), ks[i]? = some k → vs[i]? = some v → ThV ti H k v
theorem ThsAt.same {ti : Bool} {H H' : Hp} {ks : List (List Nat)} {vs : List V} (h : ThsAt ti H ks vs) (s : ∀ b xs, H b = some (.tup xs) → H' b = some (.tup xs)) : ThsAt ti H' ks vs := ⟨h.1, fun i k v a b => (h.2 i k v a b).same s⟩
theorem ThsAt.snoc {ti : Bool} {H : Hp} {ks : List (List Nat)} {vs : List V} {k : List Nat} {v : V} (h : ThsAt ti H ks vs) (hv : ThV ti H k v) : ThsAt ti H (ks ++ [k]) (vs ++ [v]) := by
  refine ⟨by rw [List.length_append, List.length_append, h.1]; rfl, fun i k' v' a b => ?_⟩
  by_cases hi : i < ks.length
  · rw [List.getElem?_append_left hi] at a
    rw [List.getElem?_append_left (by rw [h.1]; exact hi)] at b
    exact h.2 i k' v' a b
  · rw [List.getElem?_append_right (Nat.le_of_not_lt hi)] at a
    rw [List.getElem?_append_right (by rw [h.1]; exact Nat.le_of_not_lt hi), h.1] at b
    have hz : i - ks.length = 0 := by
      have := (List.getElem?_eq_some_iff.mp a).1
      simp at this
      omega
    rw [hz] at a b
    cases a
    cases b
    exact hv
def WRows (H : Hp) (rows : List Addr) (R : List (List Nat)) : Prop := rows.length = R.length ∧ ∀ (i : Nat) (a : Addr) (r : List Nat), rows[i]? = some a → R[i]? = some r → H a = some (.lst (intsV r))
structure WaysOk (g : List Nat → Nat → List Nat) (nL : Nat) (ks : List (List Nat)) (R : List (List Nat)) : Prop where
  row : ∀ (r : Nat) (row : List Nat) (k : List Nat), R[r]? = some row → ks[r]? = some k → row.length = nL ∧ ∀ (q x : Nat), row[q]? = some x → ks[x]? = some (g k q)
def spGoals (ti : Bool) (L : List Nat) (g : List Nat → Nat → List Nat) (U : List (List Nat)) (Rest : Hp → Prop) : Sp := fun vs H Q _ => ∃ k v, vs = [v] ∧ ThV ti H k v ∧ k ∈ U ∧ Rest H ∧
  ∀ gs xs H', Same H H' → (H' gs = some (.tup xs) ∨ (H gs = none ∧ H' gs = some (.lst xs))) → xs.length = L.length → (∀ (q : Nat) (x : V), xs[q]? = some x → ThV ti H' (g k q) x) → Q (.ref gs) H'
def spMark (ti : Bool) (mk : List Nat → Bool) (U : List (List Nat)) (Rest : Hp → Prop) : Sp := fun vs H Q _ => ∃ k v, vs = [v] ∧ ThV ti H k v ∧ k ∈ U ∧ Rest H ∧ Q (.bl (mk k)) H
def mostV : Option Nat → V
  | none => .non
  | some n => .int (n : Int)
def sp_winit (cW : Addr) : Sp := fun vs H Q _ => ∃ x dx L v, vs = [.ref x, .str (tx L), v] ∧ H x = some (.ins cW dx []) ∧
  ∀ t wd y m H', t ≠ wd → t ≠ y → t ≠ m → wd ≠ y → wd ≠ m → y ≠ m → H t = none → H wd = none → H y = none → H m = none → (∀ b o, b ≠ x → H b = some o → H' b = some o) → WalkAt H' cW x L t wd y m → H' t = some (.lst [v]) → H' wd = some (.lst [.str (tx [])]) → H' y = some (.lst []) → H' m = some (.lst []) → Q .non H'
def sp_walked (cW : Addr) (ti : Bool) (L : List Nat) (g : List Nat → Nat → List Nat) (mk : List Nat → Bool) (U : List (List Nat)) (Rest : Hp → Prop) (fg fm : Addr) : Sp := fun vs H Q _ => ∃ (s : List Nat) (sv : V) (most : Option Nat), vs = [.str (tx L), sv, .ref fg, .ref fm, mostV most] ∧ Let L ∧ ThV ti H s sv ∧ s ∈ U ∧ (∀ k ∈ U, ∀ q, q < L.length → g k q ∈ U) ∧ U.length ≤ 100000 ∧ Rest H ∧
  ∀ (wk t wd y m : Addr) (ks : List (List Nat)) (vks : List V) (ws : List (List Nat)) (rows : List Addr) (R : List (List Nat)) (B : List Bool) (H' : Hp), Same H H' → WalkAt H' cW wk L t wd y m → H' t = some (.lst vks) → ThsAt ti H' ks vks → H' wd = some (.lst (wordsV ws)) → H' y = some (.lst (rows.map V.ref)) → WRows H' rows R → H' m = some (.lst (B.map V.bl)) →
    Bf g L s ks ws R.length 0 → WaysOk g L.length ks R → B.length = R.length → (∀ (r : Nat) (k : List Nat) (b : Bool), ks[r]? = some k → B[r]? = some b → b = mk k) → (∀ k ∈ ks, k ∈ U) → ks.length ≤ U.length → (R.length = ks.length ∨ ∃ n, most = some n ∧ n < ks.length) → Q (.ref wk) H'
end RA
namespace RA
open PySem L2
theorem line_lt {n : Nat} (h : n ≤ 100000) : n < sizeLine := by rw [sizeLine_eq]; omega
theorem iteNI {n : Int} {A B : Prop} (h : A) : if (!decide (V.int n = V.non)) = true then A else B := by
  rw [decide_eq_false (fun z => by cases z)]
  exact iteT h
structure WI (P : Program) (w : World) (H0 H : Hp) (cW : Addr) (ti : Bool) (L : List Nat) (wk t wd y m d : Addr) (ks : List (List Nat)) (vks : List V) (ws : List (List Nat)) (rows : List Addr) (R : List (List Nat)) (B : List Bool) : Prop where
  sm : Same H0 H
  obj : WalkAt H cW wk L t wd y m
  ht : H t = some (.lst vks)
  th : ThsAt ti H ks vks
  hw : H wd = some (.lst (wordsV ws))
  hy : H y = some (.lst (rows.map V.ref))
  wr : WRows H rows R
  hm : H m = some (.lst (B.map V.bl))
  rm : RmAt P w H d ti ks
  n1 : H0 t = none
  n2 : H0 wd = none
  n3 : H0 y = none
  n4 : H0 m = none
  n5 : H0 d = none
  d1 : t ≠ wd
  d2 : t ≠ y
  d3 : t ≠ m
  d4 : wd ≠ y
  d5 : wd ≠ m
  d6 : y ≠ m
  e1 : d ≠ t
  e2 : d ≠ wd
  e3 : d ≠ y
  e4 : d ≠ m
  e5 : d ≠ wk
  nr : ∀ a ∈ rows, a ≠ t ∧ a ≠ wd ∧ a ≠ y ∧ a ≠ m ∧ a ≠ d
section
variable {P : Program} {w : World} {H0 H : Hp} {cW : Addr} {ti : Bool} {L : List Nat} {wk t wd y m d : Addr} {ks : List (List Nat)} {vks : List V} {ws : List (List Nat)} {rows : List Addr} {R : List (List Nat)} {B : List Bool}
theorem WI.any {H' : Hp} (h : WI P w H0 H cW ti L wk t wd y m d ks vks ws rows R B) (s : Same H H') : WI P w H0 H' cW ti L wk t wd y m d ks vks ws rows R B :=
  { h with
    sm := h.sm.trans s
    obj := let ⟨dx, e⟩ := h.obj.ex; ⟨dx, s _ _ e⟩
    ht := s _ _ h.ht
    th := h.th.same fun b xs e => s _ _ e
    hw := s _ _ h.hw
    hy := s _ _ h.hy
    wr := ⟨h.wr.1, fun i a r h1 h2 => s _ _ (h.wr.2 i a r h1 h2)⟩
    hm := s _ _ h.hm
    rm := h.rm.same fun b o e _ => s _ _ e }
theorem WI.beside {a : Addr} {xs : List V} {o : HO} (h : WI P w H0 H cW ti L wk t wd y m d ks vks ws rows R B) (ha : H a = some (.lst xs)) (h0 : H0 a = none) (a1 : a ≠ t) (a2 : a ≠ wd) (a3 : a ≠ y) (a4 : a ≠ m) (a5 : a ≠ d) (a6 : a ∉ rows) : WI P w H0 (upd H a o) cW ti L wk t wd y m d ks vks ws rows R B := by
  have kp : ∀ {b : Addr} {u : HO}, H b = some u → b ≠ a → upd H a o b = some u := fun e hb => by rw [upd_ne hb]; exact e
  have ktup : ∀ b zs, H b = some (.tup zs) → upd H a o b = some (.tup zs) := fun b zs e => kp e (ne_of e ha (by intro z; cases z))
  exact { h with
    sm := Same.set h.sm h0
    obj := let ⟨dx, e⟩ := h.obj.ex; ⟨dx, kp e (ne_of e ha (by intro z; cases z))⟩
    ht := kp h.ht (Ne.symm a1)
    th := h.th.same ktup
    hw := kp h.hw (Ne.symm a2)
    hy := kp h.hy (Ne.symm a3)
    wr := ⟨h.wr.1, fun i b r h1 h2 => kp (h.wr.2 i b r h1 h2) fun z => a6 (by rw [← z]; exact List.mem_of_getElem? h1)⟩
    hm := kp h.hm (Ne.symm a4)
    rm := h.rm.same fun b u e hb => by
      rcases hb with rfl | ⟨zs, rfl⟩
      · exact kp e (Ne.symm a5)
      · exact ktup b zs e }
theorem WI.new {k : List Nat} {v : V} {ob : HO} {a : List Nat} (h : WI P w H0 H cW ti L wk t wd y m d ks vks ws rows R B) (hv : ThV ti H k v) (hr : RmAt P w (upd H d ob) d ti (ks ++ [k])) :
    WI P w H0 (upd (upd (upd H d ob) t (.lst (vks ++ [v]))) wd (.lst (wordsV ws ++ [.str (tx a)]))) cW ti L wk t wd y m d (ks ++ [k]) (vks ++ [v]) (ws ++ [a]) rows R B := by
  have hd : ∃ φ, H d = some (.ext φ) := by
    have hr0 := h.rm
    unfold RmAt at hr0
    cases ti with
    | true => rw [if_pos rfl] at hr0; exact ⟨_, hr0.1⟩
    | false => rw [if_neg (by decide)] at hr0; obtain ⟨kvs, e, _⟩ := hr0; exact ⟨_, e⟩
  obtain ⟨φ, hd⟩ := hd
  have kp : ∀ {b : Addr} {u : HO}, H b = some u → b ≠ d → b ≠ t → b ≠ wd → upd (upd (upd H d ob) t (.lst (vks ++ [v]))) wd (.lst (wordsV ws ++ [.str (tx a)])) b = some u := fun e h1 h2 h3 => by rw [upd_ne h3, upd_ne h2, upd_ne h1]; exact e
  have ktup : ∀ b zs, H b = some (.tup zs) → upd (upd (upd H d ob) t (.lst (vks ++ [v]))) wd (.lst (wordsV ws ++ [.str (tx a)])) b = some (.tup zs) := fun b zs e => kp e (ne_of e hd (by intro z; cases z)) (ne_of e h.ht (by intro z; cases z)) (ne_of e h.hw (by intro z; cases z))
  have e0 := h.obj.ex
  obtain ⟨dx, ew⟩ := e0
  exact { h with
    sm := Same.set (Same.set (Same.set h.sm h.n5) h.n1) h.n2
    obj := ⟨dx, kp ew (Ne.symm h.e5) (ne_of ew h.ht (by intro z; cases z)) (ne_of ew h.hw (by intro z; cases z))⟩
    ht := by rw [upd_ne h.d1, upd_same]
    th := (h.th.same ktup).snoc (hv.same ktup)
    hw := by rw [upd_same, wordsV, wordsV, List.map_append]; rfl
    hy := kp h.hy (Ne.symm h.e3) (Ne.symm h.d2) (Ne.symm h.d4)
    wr := ⟨h.wr.1, fun i b r h1 h2 => kp (h.wr.2 i b r h1 h2) (h.nr b (List.mem_of_getElem? h1)).2.2.2.2 (h.nr b (List.mem_of_getElem? h1)).1 (h.nr b (List.mem_of_getElem? h1)).2.1⟩
    hm := kp h.hm (Ne.symm h.e4) (Ne.symm h.d3) (Ne.symm h.d5)
    rm := hr.same fun b u e hb => by
      rcases hb with rfl | ⟨zs, rfl⟩
      · rw [upd_ne h.e2, upd_ne h.e1]
        exact e
      · have hbd : b ≠ d := fun z => by
          rw [z, upd_same] at e
          have hr1 := hr
          unfold RmAt at hr1
          cases ti with
          | true => rw [if_pos rfl, upd_same] at hr1; rw [e] at hr1; cases hr1.1
          | false => rw [if_neg (by decide)] at hr1; obtain ⟨kvs, e2, _⟩ := hr1; rw [upd_same, e] at e2; cases e2
        rw [upd_ne hbd] at e
        exact ktup b zs e }
theorem WI.row {a : Addr} {r : List Nat} (h : WI P w H0 H cW ti L wk t wd y m d ks vks ws rows R B) (ha : H a = some (.lst (intsV r))) (a1 : a ≠ t) (a2 : a ≠ wd) (a3 : a ≠ y) (a4 : a ≠ m) (a5 : a ≠ d) :
    WI P w H0 (upd H y (.lst (rows.map V.ref ++ [.ref a]))) cW ti L wk t wd y m d ks vks ws (rows ++ [a]) (R ++ [r]) B := by
  have kp : ∀ {b : Addr} {u : HO}, H b = some u → b ≠ y → upd H y (.lst (rows.map V.ref ++ [.ref a])) b = some u := fun e hb => by rw [upd_ne hb]; exact e
  have ktup : ∀ b zs, H b = some (.tup zs) → upd H y (.lst (rows.map V.ref ++ [.ref a])) b = some (.tup zs) := fun b zs e => kp e (ne_of e h.hy (by intro z; cases z))
  have e0 := h.obj.ex
  obtain ⟨dx, ew⟩ := e0
  exact { h with
    sm := Same.set h.sm h.n3
    obj := ⟨dx, kp ew (ne_of ew h.hy (by intro z; cases z))⟩
    ht := kp h.ht h.d2
    th := h.th.same ktup
    hw := kp h.hw h.d4
    hy := by rw [upd_same, List.map_append]; rfl
    wr := by
      refine ⟨by rw [List.length_append, List.length_append, h.wr.1]; rfl, fun i b r' h1 h2 => ?_⟩
      by_cases hi : i < rows.length
      · rw [List.getElem?_append_left hi] at h1
        rw [List.getElem?_append_left (by rw [← h.wr.1]; exact hi)] at h2
        exact kp (h.wr.2 i b r' h1 h2) (h.nr b (List.mem_of_getElem? h1)).2.2.1
      · rw [List.getElem?_append_right (Nat.le_of_not_lt hi)] at h1
        rw [List.getElem?_append_right (by rw [← h.wr.1]; exact Nat.le_of_not_lt hi), ← h.wr.1] at h2
        have hz : i - rows.length = 0 := by
          have := (List.getElem?_eq_some_iff.mp h1).1
          simp at this
          omega
        rw [hz] at h1 h2
        cases h1
        cases h2
        exact kp ha a3
    hm := kp h.hm (Ne.symm h.d6)
    rm := h.rm.same fun b u e hb => by
      rcases hb with rfl | ⟨zs, rfl⟩
      · exact kp e h.e3
      · exact ktup b zs e
    nr := fun b hb => by
      rcases List.mem_append.mp hb with z | z
      · exact h.nr b z
      · rw [List.mem_singleton.mp z]
        exact ⟨a1, a2, a3, a4, a5⟩ }
theorem WI.mark {b : Bool} (h : WI P w H0 H cW ti L wk t wd y m d ks vks ws rows R B) : WI P w H0 (upd H m (.lst (B.map V.bl ++ [.bl b]))) cW ti L wk t wd y m d ks vks ws rows R (B ++ [b]) := by
  have kp : ∀ {c : Addr} {u : HO}, H c = some u → c ≠ m → upd H m (.lst (B.map V.bl ++ [.bl b])) c = some u := fun e hb => by rw [upd_ne hb]; exact e
  have ktup : ∀ c zs, H c = some (.tup zs) → upd H m (.lst (B.map V.bl ++ [.bl b])) c = some (.tup zs) := fun c zs e => kp e (ne_of e h.hm (by intro z; cases z))
  have e0 := h.obj.ex
  obtain ⟨dx, ew⟩ := e0
  exact { h with
    sm := Same.set h.sm h.n4
    obj := ⟨dx, kp ew (ne_of ew h.hm (by intro z; cases z))⟩
    ht := kp h.ht h.d3
    th := h.th.same ktup
    hw := kp h.hw h.d5
    hy := kp h.hy h.d6
    wr := ⟨h.wr.1, fun i c r h1 h2 => kp (h.wr.2 i c r h1 h2) (h.nr c (List.mem_of_getElem? h1)).2.2.2.1⟩
    hm := by rw [upd_same, List.map_append]; rfl
    rm := h.rm.same fun c u e hb => by
      rcases hb with rfl | ⟨zs, rfl⟩
      · exact kp e h.e4
      · exact ktup c zs e }
end
theorem ints_snocW (l : List Nat) (x : Nat) : intsV (l ++ [x]) = intsV l ++ [V.int (x : Int)] := by simp [intsV]
theorem get_app {α : Type} {l : List α} {x y : α} {i : Nat} (h : l[i]? = some y) : (l ++ [x])[i]? = some y := by
  rw [List.getElem?_append_left (List.getElem?_eq_some_iff.mp h).1]
  exact h
theorem get_unapp {α : Type} {l : List α} {x y : α} {i : Nat} (hi : i < l.length) (h : (l ++ [x])[i]? = some y) : l[i]? = some y := by
  rw [List.getElem?_append_left hi] at h
  exact h
theorem get_split {α : Type} {l : List α} {x y : α} {i : Nat} (e : (l ++ [x])[i]? = some y) : l[i]? = some y ∨ (i = l.length ∧ y = x) := by
  by_cases hi : i < l.length
  · rw [List.getElem?_append_left hi] at e
    exact .inl e
  · rw [List.getElem?_append_right (by omega)] at e
    have : i - l.length = 0 := by
      have := (List.getElem?_eq_some_iff.mp e).1
      simp at this
      omega
    rw [this] at e
    exact .inr ⟨by omega, (Option.some.inj e).symm⟩
theorem ix_get {ts : List (List Nat)} {k : List Nat} (h : k ∈ ts) : ixO ts k = some (ts.idxOf k) ∧ ts[ts.idxOf k]? = some k := ⟨if_pos h, by rw [List.getElem?_eq_getElem (List.idxOf_lt_length_of_mem h), List.getElem_idxOf]⟩
structure WPu (g : List Nat → Nat → List Nat) (L s0 : List Nat) (mk : List Nat → Bool) (U ks ws R : List (List Nat)) (B : List Bool) (q : Nat) : Prop where
  bf : Bf g L s0 ks ws R.length q
  le : R.length ≤ ks.length
  ways : WaysOk g L.length ks R
  bl : B.length = R.length
  mks : ∀ (r : Nat) (k : List Nat) (b : Bool), ks[r]? = some k → B[r]? = some b → b = mk k
  sub : ∀ k ∈ ks, k ∈ U
  left : leftOf U ks + ks.length ≤ U.length
  wl : ∀ a ∈ ws, a.length ≤ ks.length
def RowOk (g : List Nat → Nat → List Nat) (ks : List (List Nat)) (n : Nat) (r : List Nat) (q : Nat) : Prop := r.length = q ∧ ∀ (q' x : Nat) (k : List Nat), ks[n]? = some k → r[q']? = some x → ks[x]? = some (g k q')
section
variable {g : List Nat → Nat → List Nat} {L s0 : List Nat} {mk : List Nat → Bool} {U ks ws R : List (List Nat)} {B : List Bool} {q n : Nat} {r a k0 : List Nat}
theorem WPu.start (hs : s0 ∈ U) : WPu g L s0 mk U [s0] [[]] [] [] 0 where
  bf := Bf.start g L s0
  le := Nat.zero_le _
  ways := ⟨fun r row k h => by simp at h⟩
  bl := rfl
  mks := fun r k b _ h => by simp at h
  sub := fun k hk => by rw [List.mem_singleton.mp hk]; exact hs
  left := by
    have h1 := leftOf_lt (U := U) (ts := []) hs (by simp)
    have h2 : leftOf U ([] : List (List Nat)) ≤ U.length := List.countP_le_length
    simp at h1 ⊢
    omega
  wl := fun a ha => by rw [List.mem_singleton.mp ha]; exact Nat.zero_le _
theorem WPu.old (h : WPu g L s0 mk U ks ws R B q) (nd : L.Nodup) (hk : ks[R.length]? = some k0) (ha : ws[R.length]? = some a) (hq : q < L.length) (hm : g k0 q ∈ ks) : WPu g L s0 mk U ks ws R B (q + 1) :=
  { h with bf := h.bf.old nd hk ha hq hm }
theorem WPu.new (h : WPu g L s0 mk U ks ws R B q) (nd : L.Nodup) (hk : ks[R.length]? = some k0) (ha : ws[R.length]? = some a) (hq : q < L.length) (hm : g k0 q ∉ ks) (hU : g k0 q ∈ U) : WPu g L s0 mk U (ks ++ [g k0 q]) (ws ++ [a ++ [L.getD q 0]]) R B (q + 1) where
  bf := h.bf.new nd hk ha hq hm
  le := by rw [List.length_append]; exact Nat.le_trans h.le (Nat.le_add_right _ _)
  ways := ⟨fun r row k h1 h2 => by
    have hr : r < ks.length := Nat.lt_of_lt_of_le (List.getElem?_eq_some_iff.mp h1).1 h.le
    obtain ⟨e1, e2⟩ := h.ways.row r row k h1 (get_unapp hr h2)
    exact ⟨e1, fun q x hx => get_app (e2 q x hx)⟩⟩
  bl := h.bl
  mks := fun r k b h1 h2 => h.mks r k b (get_unapp (Nat.lt_of_lt_of_le (by rw [← h.bl]; exact (List.getElem?_eq_some_iff.mp h2).1) h.le) h1) h2
  sub := fun k hk => by
    rcases List.mem_append.mp hk with z | z
    · exact h.sub k z
    · rw [List.mem_singleton.mp z]; exact hU
  left := by
    have h1 := leftOf_lt (U := U) (ts := ks) hU hm
    have h2 := h.left
    rw [List.length_append]
    show leftOf U (ks ++ [g k0 q]) + (ks.length + 1) ≤ U.length
    omega
  wl := fun b hb => by
    rw [List.length_append]
    rcases List.mem_append.mp hb with z | z
    · exact Nat.le_trans (h.wl b z) (Nat.le_add_right _ _)
    · rw [List.mem_singleton.mp z, List.length_append]
      exact Nat.add_le_add_right (h.wl a (List.mem_of_getElem? ha)) 1
theorem WPu.next (h : WPu g L s0 mk U ks ws R B L.length) (hk : ks[R.length]? = some k0) (hr : RowOk g ks R.length r L.length) : WPu g L s0 mk U ks ws (R ++ [r]) (B ++ [mk k0]) 0 where
  bf := by rw [List.length_append]; exact h.bf.next
  le := by rw [List.length_append]; exact (List.getElem?_eq_some_iff.mp hk).1
  ways := ⟨fun i row k h1 h2 => by
    rcases get_split h1 with z | ⟨rfl, rfl⟩
    · exact h.ways.row i row k z h2
    · exact ⟨hr.1, fun q x hx => hr.2 q x k h2 hx⟩⟩
  bl := by rw [List.length_append, List.length_append, h.bl]; rfl
  mks := fun i k b h1 h2 => by
    rcases get_split h2 with z | ⟨rfl, rfl⟩
    · exact h.mks i k b h1 z
    · rw [h.bl, hk] at h1
      cases h1
      rfl
  sub := h.sub
  left := h.left
  wl := h.wl
theorem RowOk.nil : RowOk g ks n [] 0 := ⟨rfl, fun q x k _ h => by simp at h⟩
theorem RowOk.grow {x : List Nat} (h : RowOk g ks n r q) (hn : n < ks.length) : RowOk g (ks ++ [x]) n r q := ⟨h.1, fun q' y k h1 h2 => get_app (h.2 q' y k (get_unapp hn h1) h2)⟩
theorem RowOk.snoc (h : RowOk g ks n r q) (hk : ks[n]? = some k0) (hm : g k0 q ∈ ks) : RowOk g ks n (r ++ [ks.idxOf (g k0 q)]) (q + 1) := by
  refine ⟨by rw [List.length_append, h.1]; rfl, fun q' x k h1 h2 => ?_⟩
  rcases get_split h2 with z | ⟨rfl, rfl⟩
  · exact h.2 q' x k h1 z
  · rw [hk] at h1
    cases h1
    rw [h.1]
    exact (ix_get hm).2
end
end RA
namespace RA
open PySem L2
def gW (W : List (List Nat)) (k : List Nat) (q : Nat) : List Nat := [(W.getD (k.headD 0) []).getD q 0]
def uW (W : List (List Nat)) : List (List Nat) := (List.range W.length).map fun n => [n]
def mkW (B : List Bool) (k : List Nat) : Bool := B.getD (k.headD 0) false
theorem MachAt.tups {H H' : Hp} {m : Addr} {L : List Nat} {W : List (List Nat)} {B : List Bool} (h : MachAt H m L W B) (s : ∀ b xs, H b = some (.tup xs) → H' b = some (.tup xs)) : MachAt H' m L W B := by
  obtain ⟨wy, mk, rows, h1, h2, h3, h4, h5⟩ := h
  exact ⟨wy, mk, rows, s _ _ h1, s _ _ h2, s _ _ h3, h4, fun i r e => let ⟨ws, a, b⟩ := h5 i r e; ⟨ws, a, s _ _ b⟩⟩
theorem sameX_tup {P0 : Addr} {H H' : Hp} (s : SameX P0 H H') {sites : List (Pos × Str)} (hT : TabSt H P0 sites) : ∀ b xs, H b = some (.tup xs) → H' b = some (.tup xs) := fun b xs e => s b _ (fun z => by
  obtain ⟨ps, hP, _⟩ := hT
  rw [z, hP] at e
  cases e) e
theorem sameX_trans {P0 : Addr} {H H1 H2 : Hp} (a : SameX P0 H H1) (b : SameX P0 H1 H2) : SameX P0 H H2 := fun c o hc e => b c o hc (a c o hc e)
def sp_wmach (cW P0 : Addr) (sites : List (Pos × Str)) : Sp := fun vs H Q _ => ∃ (m : Addr) (L : List Nat) (W : List (List Nat)) (B : List Bool), vs = [.ref m] ∧ MachAt H m L W B ∧ Mach L W B ∧ TabSt H P0 sites ∧
  ∀ (wk t wd y md : Addr) (ks : List (List Nat)) (vks : List V) (ws : List (List Nat)) (rows : List Addr) (R : List (List Nat)) (Bm : List Bool) (H' : Hp), SameX P0 H H' → TabSt H' P0 sites → WalkAt H' cW wk L t wd y md → H' t = some (.lst vks) → ThsAt true H' ks vks → H' wd = some (.lst (wordsV ws)) → H' y = some (.lst (rows.map V.ref)) → WRows H' rows R → H' md = some (.lst (Bm.map V.bl)) →
    Bf (gW W) L [0] ks ws ks.length 0 → WaysOk (gW W) L.length ks R → R.length = ks.length → Bm.length = R.length → (∀ (r : Nat) (k : List Nat) (b : Bool), ks[r]? = some k → Bm[r]? = some b → b = mkW B k) → (∀ k ∈ ks, k ∈ uW W) → ks.length ≤ W.length → Q (.ref wk) H'
structure FwAt (H : Hp) (l : Addr) (rs : List Nat) (ws : List (List Nat)) : Prop where
  ex : ∃ ts : List Addr, H l = some (.lst (ts.map V.ref)) ∧ ts.length = rs.length ∧ ws.length = rs.length ∧ ∀ (i : Nat) (t : Addr) (r : Nat) (w : List Nat), ts[i]? = some t → rs[i]? = some r → ws[i]? = some w → H t = some (.tup [.int (r : Int), .str (tx w)])
def sp_fw (P0 : Addr) (sites : List (Pos × Str)) : Sp := fun vs H Q _ => ∃ (m : Addr) (L : List Nat) (W : List (List Nat)) (B : List Bool), vs = [.ref m] ∧ MachAt H m L W B ∧ Mach L W B ∧ TabSt H P0 sites ∧
  ∀ (l : Addr) (rs : List Nat) (ws : List (List Nat)) (H' : Hp), SameX P0 H H' → TabSt H' P0 sites → H l = none → FwAt H' l rs ws → Bf (gW W) L [0] (rs.map fun n => [n]) ws rs.length 0 → (∀ r ∈ rs, r < W.length) → rs.length ≤ W.length → Q (.ref l) H'
end RA
namespace L2
open PySem PySem.Spec PyProof.Rows
section
variable {X : Cx}
def rEqT (K : PySem.W.Frag) : R2 := fun x y H Q => ∃ p q xs, x = .ref p ∧ y = .ref q ∧ SqT K H p xs ∧ SqT K H q xs ∧ xs.all flatV = true ∧ Q (.bl true) H
theorem op_eqT (hu : X.A.units < cLine) : OpR X (compareOp .Eq) (rEqT X.K) := by
  intro pins s σ H x y v u Q I rx ry h
  obtain ⟨p, q, xs, rfl, rfl, hp, hq, hf, k⟩ := h
  cases rx
  cases ry
  obtain ⟨its, r1, pl1, hz1⟩ := I.tuple hp
  obtain ⟨its2, r2, pl2, hz2⟩ := I.tuple hq
  have l1 := r1.length
  have l2 := r2.length
  refine SeqAt.eq_tupleAt (e := fun _ => true) pl1 pl2 hu (fun j h1 h2 => ?_) ⟨.bl _, H, I, rfl, ?_⟩
  · have hj : j < xs.length := by simp at h1; omega
    obtain ⟨a, ea, ra⟩ := r1.get (i := j) (List.getElem?_eq_getElem hj)
    obtain ⟨b, eb, rb⟩ := r2.get (i := j) (List.getElem?_eq_getElem hj)
    have fx : flatV xs[j] = true := List.all_eq_true.mp hf _ (List.getElem_mem hj)
    have e := eqAt_V (A := X.A.in1) (s := s) ra rb fx fx
    rw [eqV_same fx] at e
    have e1 : its.toArray[j] = a := by
      obtain ⟨_, e⟩ := List.getElem?_eq_some_iff.mp ea
      simpa using e
    have e2 : its2.toArray[j] = b := by
      obtain ⟨_, e⟩ := List.getElem?_eq_some_iff.mp eb
      simpa using e
    rw [e1, e2]
    exact e
  · have e1 : ((List.range (min its.toArray.size its2.toArray.size)).all fun _ => true) = true := by simp
    have e2 : (its.toArray.size == its2.toArray.size) = true := by simp; omega
    rw [e1, e2]
    exact k
end
end L2
namespace RA
open PySem L2
def kvS (rs : List Nat) (ws : List (List Nat)) : List (Int × V) := (rs.zip ws).map fun p => ((p.1 : Int), V.str (tx p.2))
theorem triples_nil : TriplesOk (#[] : Array Value).toList := trivial
theorem tab_same {H H' : Hp} {P0 : Addr} {sites : List (Pos × Str)} (h : TabSt H P0 sites) (s : Same H H') : TabSt H' P0 sites := by
  obtain ⟨ps, hP, h2, h3⟩ := h
  exact ⟨ps, s _ _ hP, h2, fun x hx => (h3 x hx).imp id fun ⟨c', e1, e2⟩ => ⟨c', e1, s _ _ e2⟩⟩
theorem seq_X {K : PySem.W.Frag} {H H' : Hp} {P0 a : Addr} {xs : List V} {sites : List (Pos × Str)} (s : SameX P0 H H') (hT : TabSt H P0 sites) (h : SqL K H a xs) : SqL K H' a xs := by
  obtain ⟨ps, hP, _⟩ := hT
  rcases h with (h | ⟨o, h⟩) | h
  · exact .inl (.inl (s _ _ (fun z => by rw [z, hP] at h; cases h) h))
  · exact .inl (.inr ⟨o, s _ _ (fun z => by rw [z, hP] at h; cases h) h⟩)
  · exact .inr h
end RA
namespace L2
open PySem PySem.Spec PyProof.Rows
def IteL (a : Addr) : It := ⟨fun i H => ∃ xs x, H a = some (.lst xs) ∧ xs[i]? = some x, fun i H v H' => ∃ p x xs, H a = some (.lst xs) ∧ xs[i]? = some x ∧ v = .ref p ∧ H p = none ∧ H' = upd H p (.tup [.int (i : Int), x]), fun i H => ∃ xs, H a = some (.lst xs) ∧ i = xs.length⟩
def iEnumQ (t : TA) : TI := fun σ H R => t σ H fun vs H1 => ∃ a xs, vs = [.ref a] ∧ ((H1 a = some (.tup xs) ∧ R (IteT a) H1) ∨ (H1 a = some (.lst xs) ∧ R (IteL a) H1))
end L2
namespace RA
open PySem L2
end RA
namespace L2
open PySem PySem.Spec PyProof.Rows
section
variable {X : Cx}
def rIndexI : V → List V → Hp → VK → Prop := fun x vs H Q => ∃ (l : Addr) (ns : List Int) (n : Int), x = .ref l ∧ vs = [.int n] ∧ H l = some (.lst (ns.map V.int)) ∧ n ∈ ns ∧ Q (.int (ns.idxOf n : Nat)) H
theorem mt_indexI : MtM X "list.index" rIndexI := by
  intro pins s σ H x vs v us Q I rx rv h
  obtain ⟨l, bs, n0, rfl, rfl, hH, hm, q⟩ := h
  cases rx
  obtain ⟨u, rfl, ru⟩ := rv.one
  obtain ⟨t0, rfl⟩ := (show ∃ t, u = Value.int n0 t from ru)
  obtain ⟨z, its, n, r, hl, e⟩ := I.lstM hH
  have hlen : its.length = bs.length := by rw [← r.length, List.length_map]
  have hlt : bs.idxOf n0 < bs.length := List.idxOf_lt_length_of_mem hm
  have at_ : ∀ (j : Nat) (hj : j < its.toArray.size), ∃ (hb : j < bs.length) (t : Tok), its.toArray[j] = .int bs[j] t := fun j hj => by
    have hb : j < bs.length := by simpa [hlen] using hj
    refine ⟨hb, ?_⟩
    obtain ⟨a, ea, ra⟩ := r.get (i := j) (x := .int bs[j]) (by rw [List.getElem?_map, List.getElem?_eq_getElem hb]; rfl)
    obtain ⟨t, rfl⟩ := (show ∃ t, a = Value.int bs[j] t from ra)
    obtain ⟨_, q⟩ := List.getElem?_eq_some_iff.mp ea
    exact ⟨t, by simpa using q⟩
  have hsm : ((bs.idxOf n0 : Nat) : Int) < 2 ^ 63 - 1 := by
    have h9 : (bs.map V.int).length ≤ sizeLine := (I.lst hH).choose_spec.choose_spec.2.2
    rw [List.length_map, sizeLine_eq] at h9
    omega
  refine call_meets F.slot_list_index ⟨_, e, rfl⟩ F.entry_list_index (F.args_list_index_2 _ _) (SeqAt.list_indexAt l its.toArray n none #[] (.int n0 t0) (fun y => match y with | .int b _ => b == n0 | _ => false) (bs.idxOf n0) (by simpa [hlen] using hlt) hsm ?_ ?_) ⟨e, ?_, ⟨.int _, H, I.tok _, ⟨_, rfl⟩, q⟩⟩
  · obtain ⟨hb, t, e1⟩ := at_ (bs.idxOf n0) (by simpa [hlen] using hlt)
    rw [e1]
    show (bs[bs.idxOf n0] == n0) = true
    rw [List.getElem_idxOf hb]
    exact beq_self_eq_true n0
  · intro m hm2 hlt2
    obtain ⟨hb, t, e1⟩ := at_ m hm2
    rw [e1]
    show (bs[m] == n0) = false
    by_cases hbm : bs[m] = n0
    · have := RA.idxOf_leG (l := bs) (c := n0) (i := m) (by rw [List.getElem?_eq_getElem hb, hbm])
      omega
    · exact beq_eq_false_iff_ne.mpr hbm
  · intro y hy
    obtain ⟨j, hj, rfl⟩ := Array.mem_iff_getElem.mp hy
    obtain ⟨hb, t, e1⟩ := at_ j hj
    rw [e1]
    exact SeqAt.EqAt.int_int _ _ _ _
theorem pe_fldK {e : Expr} {ta : TE} {f : Str} {pos : Pos} (K : PySem.W.Frag) (he : PE X e ta) (hb : attributeBase e f X.env (eval e X.env) = eval e X.env) (hK : X.K = K := by rfl) : PE X (.Attribute e f pos) (tFld K ta f) := by
  subst hK
  exact pe_fld he hb
theorem pe_indexI {o e : Expr} {to : TE} {t : TA} {apos cpos : Pos} (K : PySem.W.Frag) (ho : PE X o to) (ha : PA X [e] t) (hK : X.K = K := by rfl)
    (hbase : attributeBase o "index" X.env (eval o X.env) = eval o X.env := by rfl)
    (hfew : ((backTo cpos (starEach [e] X.env)).all (fun x => !x.1) && (backToKw cpos (keywordEach [] X.env)).all (fun x => x.1.isSome)
      && decide ([e].length + ([] : List Keyword).length + (if ([] : List Keyword).isEmpty then 0 else 1) < 30)) = true := by rfl) (hline : (apos.endLine == cpos.line) = true := by rfl) (hs : starEach [e] X.env = (false, eval e X.env) :: starEach [] X.env := by rfl) (hplain : (backTo cpos (starEach [] X.env)).any (·.1) = false := by rfl) : PE X (.Call (.Attribute o "index" apos) [e] [] cpos) (tBM K "list" rIndexI to t) := by
  subst hK
  exact pe_bm PySem.F.plainAttrs_list PySem.F.slot_list_index PySem.F.type_list_index mt_indexI ho ha hbase hfew hline hs hplain
end
end L2
namespace RA
open PySem L2
def RowsQ (H : Hp) (rows : List Addr) (W : List (List Nat)) : Prop := ∀ (i : Nat) (r : Addr), rows[i]? = some r → ∃ ws, W[i]? = some ws ∧ ∃ o, (o = .lst (intsV ws) ∨ o = .tup (intsV ws)) ∧ H r = some o
theorem zs_idx (n : Nat) : ∀ (l : List Nat), (zs l).idxOf (n : Int) = l.idxOf n
  | [] => rfl
  | x :: l => by
    show ((x : Int) :: zs l).idxOf (n : Int) = _
    rw [List.idxOf_cons, List.idxOf_cons, zs_idx n l]
    by_cases h : x = n
    · rw [h]; simp
    · rw [beq_eq_false_iff_ne.mpr h, beq_eq_false_iff_ne.mpr (fun e => h (Int.ofNat_inj.mp e))]
end RA
namespace RA
section
variable {κ : Type} [DecidableEq κ]
end
section
variable {L : List Nat} {W : List (List Nat)} {B : List Bool} {k : Nat}
end
def foldW (R : List (List Nat)) (lots : List Nat) (m : Nat) : List (List Nat) := (List.range m).map fun j => (R.getD (lots.idxOf j) []).map fun g => lots.getD g 0
def foldB (Bm : List Bool) (lots : List Nat) (m : Nat) : List Bool := (List.range m).map fun j => Bm.getD (lots.idxOf j) false
theorem foldW_get {R : List (List Nat)} {lots : List Nat} {m j : Nat} (h : j < m) : (foldW R lots m).getD j [] = (R.getD (lots.idxOf j) []).map fun g => lots.getD g 0 := by
  rw [foldW, List.getD_eq_getElem?_getD, List.getElem?_map, List.getElem?_range h]
  rfl
structure Many (lots : List Nat) (m : Nat) : Prop where
  pos : 0 < m
  lt : ∀ x ∈ lots, x < m
  has : ∀ j < m, j ∈ lots
section
variable {L : List Nat} {R : List (List Nat)} {Bm : List Bool} {k m : Nat}
theorem getD_mem' {l : List Nat} {i : Nat} (h : i < l.length) : l.getD i 0 ∈ l := by
  rw [List.getD_eq_getElem?_getD, List.getElem?_eq_getElem h]
  exact List.getElem_mem h
theorem fr_at (hm : Many (Rd R Bm k) m) (hMa : Mach L R Bm) {j : Nat} (hj : j < m) : (Rd R Bm k).idxOf j < R.length ∧ lot R Bm k ((Rd R Bm k).idxOf j) = j := by
  have h1 := List.idxOf_lt_length_of_mem (hm.has j hj)
  refine ⟨by rw [Rd_len hMa] at h1; exact h1, ?_⟩
  rw [lot, List.getD_eq_getElem?_getD, List.getElem?_eq_getElem h1]
  exact List.getElem_idxOf h1
theorem lot_lt (hm : Many (Rd R Bm k) m) (hMa : Mach L R Bm) {r : Nat} (hr : r < R.length) : lot R Bm k r < m := hm.lt _ (getD_mem' (by rw [Rd_len hMa]; exact hr))
theorem fold_nxt (hm : Many (Rd R Bm k) m) (hMa : Mach L R Bm) (st : Rd R Bm (k + 1) = Rd R Bm k) {r c : Nat} (hr : r < R.length) (hc : c ∈ L) : nxt L (foldW R (Rd R Bm k) m) (lot R Bm k r) c = lot R Bm k (nxt L R r c) := by
  have hi : L.idxOf c < L.length := List.idxOf_lt_length_of_mem hc
  have hj := lot_lt hm hMa hr
  obtain ⟨f1, f2⟩ := fr_at hm hMa hj
  have e1 : lot R Bm (k + 1) ((Rd R Bm k).idxOf (lot R Bm k r)) = lot R Bm (k + 1) r := by
    show (Rd R Bm (k + 1)).getD _ 0 = (Rd R Bm (k + 1)).getD _ 0
    rw [st]
    exact f2
  have e2 := ((lot_succ hMa f1 hr).mp e1).2 _ hi
  unfold nxt
  rw [foldW_get hj]
  have hl : L.idxOf c < (R.getD ((Rd R Bm k).idxOf (lot R Bm k r)) []).length := by rw [(row_of hMa f1).1]; exact hi
  rw [List.getD_eq_getElem?_getD, List.getElem?_map, List.getElem?_eq_getElem hl]
  show (Rd R Bm k).getD _ 0 = _
  have e3 : goal R ((Rd R Bm k).idxOf (lot R Bm k r)) (L.idxOf c) = (R.getD ((Rd R Bm k).idxOf (lot R Bm k r)) [])[L.idxOf c] := by
    rw [goal, List.getD_eq_getElem?_getD (l := R.getD _ []), List.getElem?_eq_getElem hl]
    rfl
  rw [← e3]
  exact e2
end
section
variable {L : List Nat} {W : List (List Nat)} {B : List Bool} {ks ws R : List (List Nat)} {Bm : List Bool}
end
def LeastOf (L : List Nat) (W : List (List Nat)) (B : List Bool) (W' : List (List Nat)) (B' : List Bool) : Prop :=
  ∃ (ks ws R : List (List Nat)) (Bm : List Bool) (k m : Nat), Bf (gW W) L [0] ks ws ks.length 0 ∧ WaysOk (gW W) L.length ks R ∧ R.length = ks.length ∧ Bm.length = R.length ∧ (∀ (r : Nat) (k : List Nat) (b : Bool), ks[r]? = some k → Bm[r]? = some b → b = mkW B k) ∧ (∀ k ∈ ks, k ∈ uW W) ∧ ks.length ≤ W.length ∧
    Mach L R Bm ∧ Rd R Bm (k + 1) = Rd R Bm k ∧ Many (Rd R Bm k) m ∧ W' = foldW R (Rd R Bm k) m ∧ B' = foldB Bm (Rd R Bm k) m
end RA
namespace L2
open PySem PySem.Spec PyProof.Rows
end L2
namespace RA
open PySem L2
structure Told2 (L : List Nat) (W W2 : List (List Nat)) (l r : Nat) (ps : List (Nat × Nat)) : Prop where
  has : (l, r) ∈ ps
  got : ∀ p ∈ ps, p.1 < W.length ∧ p.2 < W2.length ∧ ∃ u, (∀ c ∈ u, c ∈ L) ∧ p.1 = run L W l u ∧ p.2 = run L W2 r u
  few : unseen 60 ps + ps.length ≤ 60 * 60 + 1
def Done2 (L : List Nat) (W : List (List Nat)) (B : List Bool) (W2 : List (List Nat)) (B2 : List Bool) (ps : List (Nat × Nat)) (n : Nat) : Prop := ∀ (i : Nat) (p : Nat × Nat), i < n → ps[i]? = some p → B.getD p.1 false = B2.getD p.2 false ∧ ∀ j < L.length, (goal W p.1 j, goal W2 p.2 j) ∈ ps
def AInv2 (P : Program) (w : World) (H : Hp) (m m2 d q : Addr) (L : List Nat) (W : List (List Nat)) (B : List Bool) (W2 : List (List Nat)) (B2 : List Bool) (l r : Nat) (ms : Nat) (σ : St) (H' : Hp) : Prop := ∃ (ps : List (Nat × Nat)) (n : Nat) (s7 s8 : Option V), ms = unseen 60 ps + (ps.length - n) ∧
  σ = [some (.ref m), some (.int (l : Int)), some (.ref m2), some (.int (r : Int)), some (.ref d), some (.ref q), some (.int (n : Int)), s7, s8] ∧ Same H H' ∧ PairsAt P w H' d q ps ∧ Told2 L W W2 l r ps ∧ n ≤ ps.length ∧ Done2 L W B W2 B2 ps n
end RA
namespace RA
section
variable {κ : Type} [DecidableEq κ]
end
section
variable {L : List Nat} {R : List (List Nat)} {Bm : List Bool} {k m : Nat}
end
section
variable {L : List Nat} {W : List (List Nat)} {B : List Bool} {ks ws R : List (List Nat)}
end
structure Firsts (L : List Nat) (W' : List (List Nat)) (v : Nat → List Nat) : Prop where
  over : ∀ j, j < W'.length → (∀ c ∈ v j, c ∈ L) ∧ run L W' 0 (v j) = j
  lt : ∀ i j, i < j → j < W'.length → ear L (v i) (v j) = true
  least : ∀ u : List Nat, (∀ c ∈ u, c ∈ L) → ear L u (v (run L W' 0 u)) = false
end RA
namespace RA
open PySem L2
end RA
namespace RA
structure Canon (L : List Nat) (W : List (List Nat)) (B : List Bool) (v : Nat → List Nat) : Prop where
  mach : Mach L W B
  fs : Firsts L W v
  un : ∀ {r s : Nat}, r < W.length → s < W.length → (∀ u : List Nat, (∀ c ∈ u, c ∈ L) → B.getD (run L W r u) false = B.getD (run L W s u) false) → r = s
section
variable {L : List Nat} {W1 W2 : List (List Nat)} {B1 B2 : List Bool} {v1 v2 : Nat → List Nat}
end
end RA
namespace L2
open PySem PySem.Spec PyProof.Rows
section
variable {X : Cx} {pins : List (Addr × Obj)} {σ : St} {H : Hp} {s : Shared}
end
end L2
namespace RA
open PySem L2
section
variable {X : Cx} {pins : List (Addr × Obj)} {σ : St} {H : Hp} {s : Shared}
def rEqM : R2 := fun x y H Q => ∃ (m1 m2 : Addr) (L : List Nat) (W1 W2 : List (List Nat)) (B1 B2 : List Bool), x = .ref m1 ∧ y = .ref m2 ∧ MachAt H m1 L W1 B1 ∧ MachAt H m2 L W2 B2 ∧ Q (.bl (decide (W1 = W2) && decide (B1 = B2))) H
end
end RA
namespace L2
open PySem PySem.Spec PyProof.Rows
theorem vals_of : ∀ {xs : List V} {us : List Value}, xs.length = us.length → (∀ (i : Nat) (x : V) (u : Value), xs[i]? = some x → us[i]? = some u → RelV x u) → Vals xs us
  | [], [], _, _ => .nil
  | [], _ :: _, h, _ => by simp at h
  | _ :: _, [], h, _ => by simp at h
  | x :: xs, u :: us, h, k => .cons (k 0 x u rfl rfl) (vals_of (by simpa using h) fun i y v a b => k (i + 1) y v (by simpa using a) (by simpa using b))
def tListRng (ta : TA) : TE := fun σ H Q => ta σ H fun vs H1 => ∃ n : Nat, vs = [.int (n : Int)] ∧ n ≤ 1000 ∧ ∀ l, H1 l = none → Q (.ref l) (upd H1 l (.lst (RA.intsV (List.range n))))
theorem pe_listrange {X : Cx} {a : Expr} {ta : TA} {p p2 pos pos2 : Pos} (hc : X.calm = true) (hgl : Gl X "list") (hml : X.mg "list" = none) (hgz : Gl X "range") (hmz : X.mg "range" = none) (ha : PA X [a] ta)
    (hs : starEach [.Call (.Name "range" p2) [a] [] pos2] X.env = [(false, eval (.Call (.Name "range" p2) [a] [] pos2) X.env)] := by rfl) (hs2 : starEach [a] X.env = [(false, eval a X.env)] := by rfl) :
    PE X (.Call (.Name "list" p) [.Call (.Name "range" p2) [a] [] pos2] [] pos) (tListRng ta) := by
  intro pins s σ H Q I h
  refine wpAny_Call_Name_kw (ld_blt I hgl hml PyProof.Rows.boot_list ?_)
  refine PyProof.Rows.callWith_type1 (e := .Call (.Name "range" p2) [a] [] pos2) (rest := []) ?_ hs rfl
  rw [hs]
  show wpAny _ _ (spliced ((false, eval (.Call (.Name "range" p2) [a] [] pos2) X.env) :: backTo pos [])) _ _ s
  refine Calls.spliced_cons (wpAny_Call_Name_kw (ld_blt I hgz hmz PyProof.Rows.boot_range (PyProof.Rows.callWith_type1 (thn (ha pos2 pins s σ H _ I h) fun us s1 ⟨vs, H1, I1, r1, n, ev, hn, q⟩ => ?_) hs2 rfl)))
  subst ev
  obtain ⟨u1, rfl, t, rfl⟩ := vals1 r1
  refine call_range_1 ?_
  refine Calls.spliced_nil ?_
  have hsz : Builtin.Range.rangeSize 0 (n : Int) 1 = (n : Int) := by rw [rangeSize_one]; split <;> omega
  refine call_list_range (I1.ok.hd hc) (IsRange.new ..) (small_one (by omega) (by omega) (by omega) (by omega)) hsz (by omega) fun h' tk acc c kp e items => ?_
  obtain ⟨l, rfl⟩ : ∃ l : List Value, acc = l.toArray := ⟨acc.toList, Array.toArray_toList.symm⟩
  have hv : Vals (RA.intsV (List.range n)) l := by
    refine vals_of (by rw [RA.intsV_len, List.length_range, ← items.1, List.size_toArray]) fun i x u hx hu => ?_
    have hi : i < n := by have := (List.getElem?_eq_some_iff.mp hx).1; rwa [RA.intsV_len, List.length_range] at this
    rw [RA.intsV, List.getElem?_map, List.getElem?_range hi] at hx
    cases hx
    obtain ⟨t2, rfl⟩ := items.2 i u (by rw [List.getElem?_toArray]; exact hu)
    exact ⟨t2, by simp⟩
  have I2 := I1.laid (t' := tk) (h' := h') (fun b o eb => kp b o (Heap.get?_push_of_some _ eb)) (by rw [Heap.size_push]; exact Nat.le_succ _) (show ObjOk X.prog X.w _ h' _ (.lst (RA.intsV (List.range n))) from ⟨by rw [RA.intsV_len, List.length_range]; exact line_ge (Nat.le_trans hn (by decide)), l, c, hv, e⟩)
  exact ⟨.ref _, _, I2, rfl, q _ (I1.hok.fresh (by rw [Heap.size_push]; exact Nat.le_succ _))⟩
end L2
namespace RA
open PySem L2
structure LabOk (n : Nat) (ls : List Nat) : Prop where
  z : ls[0]? = some 0
  lt : ∀ x ∈ ls, x < n
  has : ∀ j < n, j ∈ ls
  len : ls.length ≤ n + 4
end RA
namespace RA
structure Wid (L : List Nat) (W : List (List Nat)) (B : List Bool) (ls : List Nat) (W2 : List (List Nat)) (B2 : List Bool) : Prop where
  len : W2.length = ls.length
  row : ∀ (i : Nat) (ws : List Nat), W2[i]? = some ws → ws.length = L.length ∧ ∀ (q x : Nat), ws[q]? = some x → x < ls.length ∧ ls.getD x 0 = goal W (ls.getD i 0) q
  marks : B2 = ls.map fun j => B.getD j false
section
variable {L : List Nat} {W : List (List Nat)} {B : List Bool} {ls : List Nat} {W2 : List (List Nat)} {B2 : List Bool}
def copies (ls : List Nat) (g : Nat) : List Nat := (List.range ls.length).filter fun k => decide (ls.getD k 0 = g)
end
end RA
namespace RA
open PySem L2
end RA
namespace RA
section
variable {κ : Type} [DecidableEq κ] {g : κ → Nat → κ} {L : List Nat} {s : κ} {ts ts' : List κ} {ws ws' : List (List Nat)}
theorem pw_eq {L : List Nat} : ∀ {l l' : List (List Nat)}, l.Pairwise (fun a b => ear L a b = true) → l'.Pairwise (fun a b => ear L a b = true) → (∀ a, a ∈ l ↔ a ∈ l') → l = l'
  | [], [], _, _, _ => rfl
  | [], b :: l', _, _, m => absurd ((m b).mpr List.mem_cons_self) (by simp)
  | a :: l, [], _, _, m => absurd ((m a).mp List.mem_cons_self) (by simp)
  | a :: l, b :: l', h, h', m => by
    rw [List.pairwise_cons] at h h'
    have e : a = b := by
      rcases List.mem_cons.mp ((m a).mp List.mem_cons_self) with z | z
      · exact z
      rcases List.mem_cons.mp ((m b).mpr List.mem_cons_self) with y | y
      · exact y.symm
      · have h1 := h'.1 a z
        have h2 := h.1 b y
        rw [ear_asymm h1] at h2
        cases h2
    subst e
    have ir : ∀ {l : List (List Nat)}, (∀ x ∈ l, ear L a x = true) → a ∉ l := fun k z => by
      have q := k a z
      have q2 := ear_asymm q
      rw [q] at q2
      cases q2
    rw [pw_eq h.2 h'.2 fun x => ⟨fun z => ?_, fun z => ?_⟩]
    · rcases List.mem_cons.mp ((m x).mp (List.mem_cons_of_mem _ z)) with y | y
      · rw [y] at z; exact absurd z (ir h.1)
      · exact y
    · rcases List.mem_cons.mp ((m x).mpr (List.mem_cons_of_mem _ z)) with y | y
      · rw [y] at z; exact absurd z (ir h'.1)
      · exact y
theorem Bf.pw (h : Bf g L s ts ws n k) : ws.Pairwise (fun a b => ear L a b = true) := by
  rw [List.pairwise_iff_getElem]
  exact fun i j hi hj hij => h.srt i j _ _ hij (List.getElem?_eq_getElem hi) (List.getElem?_eq_getElem hj)
theorem Bf.sub (h : Bf g L s ts ws ts.length 0) (h' : Bf g L s ts' ws' ts'.length 0) (nd : L.Nodup) {b : List Nat} (hb : b ∈ ws) : b ∈ ws' := by
  obtain ⟨j, hj⟩ := List.mem_iff_getElem?.mp hb
  have hjl : j < ts.length := by rw [h.len]; exact (List.getElem?_eq_some_iff.mp hj).1
  obtain ⟨l1, l2⟩ := h.lead j _ b (List.getElem?_eq_getElem hjl) hj
  obtain ⟨j', b', e1, e2, e3⟩ := h'.told nd b _ rfl l1
  obtain ⟨l3, l4⟩ := h'.lead j' _ b' e1 e2
  obtain ⟨i, c, f1, f2, f3⟩ := h.told nd b' _ rfl l3
  rw [l4, l2] at f1
  have hij : i = j := by
    have hi := (List.getElem?_eq_some_iff.mp f1)
    obtain ⟨hi1, hi2⟩ := hi
    exact (List.getElem_inj h.nd).mp hi2
  subst hij
  rw [hj] at f2
  cases f2
  rcases ear_total l1 l3 with z | z | z
  · rw [z] at e3; cases e3
  · rw [z]; exact List.mem_of_getElem? e2
  · rw [z] at f3; cases f3
theorem Bf.uniq (h : Bf g L s ts ws ts.length 0) (h' : Bf g L s ts' ws' ts'.length 0) (nd : L.Nodup) : ts = ts' ∧ ws = ws' := by
  have e : ws = ws' := pw_eq h.pw h'.pw fun a => ⟨fun z => h.sub h' nd z, fun z => h'.sub h nd z⟩
  refine ⟨?_, e⟩
  subst e
  have tm : ∀ {ts : List κ}, Bf g L s ts ws ts.length 0 → ts = ws.map (runG g L s) := fun {ts} h => by
    refine List.ext_getElem? fun i => ?_
    rw [List.getElem?_map]
    by_cases hi : i < ts.length
    · have hw : i < ws.length := by rw [← h.len]; exact hi
      rw [List.getElem?_eq_getElem hi, List.getElem?_eq_getElem hw]
      exact congrArg some (h.lead i _ _ (List.getElem?_eq_getElem hi) (List.getElem?_eq_getElem hw)).2.symm
    · rw [List.getElem?_eq_none (Nat.le_of_not_lt hi), List.getElem?_eq_none (by rw [← h.len]; exact Nat.le_of_not_lt hi)]
      rfl
  rw [tm h, tm h']
end
def gA (W : List (List Nat)) (k : List Nat) (q : Nat) : List Nat := k.map fun r => (W.getD r []).getD q 0
def tups (n : Nat) : Nat → List (List Nat)
  | 0 => [[]]
  | k + 1 => (tups n k).flatMap fun t => (List.range n).map fun x => x :: t
theorem mem_tups {n : Nat} : ∀ {k : Nat} {t : List Nat}, t ∈ tups n k ↔ t.length = k ∧ ∀ x ∈ t, x < n
  | 0, t => by
    rw [tups, List.mem_singleton]
    constructor
    · rintro rfl
      exact ⟨rfl, fun x hx => by simp at hx⟩
    · exact fun h => List.length_eq_zero_iff.mp h.1
  | k + 1, t => by
    rw [tups, List.mem_flatMap]
    constructor
    · rintro ⟨u, hu, ht⟩
      obtain ⟨x, hx, rfl⟩ := List.mem_map.mp ht
      obtain ⟨h1, h2⟩ := mem_tups.mp hu
      refine ⟨by rw [List.length_cons, h1], fun y hy => ?_⟩
      rcases List.mem_cons.mp hy with z | z
      · rw [z]; exact List.mem_range.mp hx
      · exact h2 y z
    · rintro ⟨h1, h2⟩
      cases t with
      | nil => simp at h1
      | cons x u => exact ⟨u, mem_tups.mpr ⟨by simpa using h1, fun y hy => h2 y (List.mem_cons_of_mem _ hy)⟩, List.mem_map.mpr ⟨x, List.mem_range.mpr (h2 x List.mem_cons_self), rfl⟩⟩
theorem sum_same (n : Nat) : ∀ l : List (List Nat), (l.map fun _ => n).sum = l.length * n
  | [] => by simp
  | x :: l => by rw [List.map_cons, List.sum_cons, sum_same n l, List.length_cons, Nat.succ_mul, Nat.add_comm]
theorem tups_len (n : Nat) : ∀ k : Nat, (tups n k).length = n ^ k
  | 0 => rfl
  | k + 1 => by
    rw [tups, List.length_flatMap]
    simp only [List.length_map, List.length_range]
    rw [sum_same, tups_len n k, Nat.pow_succ]
def actN (L : List Nat) (W : List (List Nat)) (w : List Nat) : List Nat := (List.range W.length).map fun r => run L W r w
theorem actN_len (L : List Nat) (W : List (List Nat)) (w : List Nat) : (actN L W w).length = W.length := by rw [actN, List.length_map, List.length_range]
theorem act_run {L : List Nat} {W : List (List Nat)} : ∀ (m : Nat) (w : List Nat), w.length = m → runG (gA W) L (List.range W.length) w = actN L W w := by
  intro m
  induction m with
  | zero =>
    intro w hw
    rw [List.length_eq_zero_iff.mp hw]
    exact (List.map_id _).symm
  | succ m ih =>
    intro w hw
    obtain ⟨c, v, rfl⟩ : ∃ c v, w = v ++ [c] := ⟨w.getLast (by intro z; rw [z] at hw; cases hw), w.dropLast, (List.dropLast_concat_getLast _).symm⟩
    rw [runG_snoc, ih v (by simpa using hw)]
    unfold gA actN
    rw [List.map_map]
    refine List.map_congr_left fun r _ => ?_
    show _ = run L W r (v ++ [c])
    rw [run_snoc]
    rfl
theorem gA_mem {L : List Nat} {W : List (List Nat)} {B : List Bool} (hM : Mach L W B) {n : Nat} {k : List Nat} (hk : k ∈ tups W.length n) {q : Nat} (hq : q < L.length) : gA W k q ∈ tups W.length n := by
  obtain ⟨h1, h2⟩ := mem_tups.mp hk
  refine mem_tups.mpr ⟨by rw [gA, List.length_map, h1], fun x hx => ?_⟩
  obtain ⟨r, hr, rfl⟩ := List.mem_map.mp hx
  have hrW := h2 r hr
  have e : W.getD r [] = W[r] := by rw [List.getD_eq_getElem?_getD, List.getElem?_eq_getElem hrW]; rfl
  rw [e]
  obtain ⟨g1, g2⟩ := hM.row W[r] (List.getElem_mem hrW)
  have e2 : W[r].getD q 0 = W[r][q]'(by rw [g1]; exact hq) := by rw [List.getD_eq_getElem?_getD, List.getElem?_eq_getElem (by rw [g1]; exact hq)]; rfl
  rw [e2]
  exact g2 _ (List.getElem_mem _)
theorem pow_8 {n : Nat} (h : n ≤ 8) : n ^ n ≤ 16777216 := by
  match n, h with
  | 0, _ => decide
  | 1, _ => decide
  | 2, _ => decide
  | 3, _ => decide
  | 4, _ => decide
  | 5, _ => decide
  | 6, _ => decide
  | 7, _ => decide
  | 8, _ => decide
  | n + 9, h => omega
end RA
namespace L2
open PySem PySem.Spec PyProof.Rows
section
variable {prog : Program} {w : World} {A : Around} {E : Value → Shared → Prop} {s : Shared}
def Gathered (S : Addr) (Q : List Value → Shared → Prop) (r : Result) (s' : Shared) : Prop := ∃ (acc : Array Value) (c : Nat), r = .ok (.ret (.ref S)) ∧ s'.heap.get? S = some { cls := .type "list", dict := none, data := .seq acc c, slots := #[] } ∧ Q acc.toList s'
theorem collect_by {v : Value} {Q : List Value → Shared → Prop}
    (go : wpAny (model prog w) A.in1 (Builtin.List.listExtendWith (.ref s.heap.objs.size) v (.ref s.heap.objs.size)) (fun fin s' => match fin with | .done f => Gathered s.heap.objs.size Q (.ok f) s' | .again c' => c'.quiet = true ∧ codeAny (model prog w) A c' (Gathered s.heap.objs.size Q) s')
      (fun e s' => Gathered s.heap.objs.size Q (.error e) s') { s with heap := s.heap.push { cls := .type "list", data := .seq #[] } }) : wpAny (model prog w) A (collect v) Q E s := by
  have told : ∀ {r : Result} {s' : Shared}, Gathered s.heap.objs.size Q r s' → r = .ok (.ret (.ref s.heap.objs.size)) ∧ wpAny (model prog w) A (do match (← load s.heap.objs.size).data with | .seq xs _ => pure xs.toList | _ => unsupported "internal:collect") Q E s' := fun {r s'} ⟨acc, c, e, hS, q⟩ => ⟨e, wpAny_bind (wpAny_load hS (wpAny_pure q))⟩
  unfold collect
  refine wpAny_bind (wpAny_runValue (codeAny_builtin F.entry_proto_collect (by
    rw [Around.under_plainId F.plain_proto_collect]
    refine wpAny_bind (m := newList []) (wpAny_newObj_type (wpAny_pure ⟨plainId_quiet F.plain_list_iadd _, codeAny_builtin F.entry_list_iadd (by
      rw [Around.under_plainId F.plain_list_iadd]
      refine wpAny_mono go (fun fin s' z => ?_) fun e s' z => ?_
      · cases fin with
        | done f =>
          obtain ⟨e, y⟩ := told z
          cases e
          exact y
        | again c' =>
          refine ⟨z.1, codeAny_mono z.2 fun r s2 y => ?_⟩
          obtain ⟨rfl, q⟩ := told y
          exact q
      · exact nomatch (told z).1)⟩)))))
theorem collect_rng {Q : List Value → Shared → Prop} {r : Addr} {a b c : Int} {t u v : Tok} {n : Nat} (hh : A.handled = none) (hr : IsRange s.heap r a b c t u v) (sm : Builtin.Range.small a b c = true) (hn : Builtin.Range.rangeSize a b c = n) (hl : n ≤ 2 ^ 24)
    (go : ∀ h' tk acc, (∀ b o, s.heap.get? b = some o → h'.get? b = some o) → ItemsOf (fun i v => ∃ t, v = .int (a + i * c) t) acc n → Q acc.toList { s with heap := h', toks := tk }) : wpAny (model prog w) A (collect (.ref r)) Q E s :=
  collect_by (wpAny_extend_range (A := A) hh (Heap.get?_push_of_some _ hr) sm hn hl s.heap.objs.size (.ref s.heap.objs.size) 0 (Heap.get?_push_size _ rfl) fun h' tk acc c' hk hS' hacc =>
    ⟨acc, c', rfl, hS', go h' tk acc (fun b o e => hk b o (Nat.ne_of_lt (Heap.lt_size e)) (Heap.get?_push_of_some _ e)) hacc⟩)
end
theorem tup_new_rng (r : Addr) (a b c : Int) (t u v : Tok) (n : Nat) (sm : Builtin.Range.small a b c = true) (hn : Builtin.Range.rangeSize a b c = n) (hl : n ≤ 2 ^ 24) :
    Meets (Builtin.«tuple.__new__» ⟨[.type "tuple", .ref r], []⟩)
      (fun A R s => A.handled = none ∧ IsRange s.heap r a b c t u v ∧ ∀ (h' : Heap) (tk : Nat) (acc : Array Value), (∀ b o, s.heap.get? b = some o → h'.get? b = some o) → ItemsOf (fun i v => ∃ t, v = .int (a + i * c) t) acc n →
        R (.ok (.ret (.ref h'.objs.size))) { s with heap := h'.push { cls := .type "tuple", data := .seq acc }, toks := tk }) :=
  .of_wp fun P w A R s ⟨calm, hr, go⟩ => by
    obtain ⟨hp, gg, dd, tk, os⟩ := s
    have x1 := sub_tuple_self
    have x2 := init_tuple_lookup
    have x3 := madeHere_tuple
    have x4 : A.in1.handled = none := calm
    have rO : hp.get? r = some { cls := .type "range", data := .fields #[.int a t, .int b u, .int c v] } := hr
    have x5 : Shared.TypeIs ⟨hp, gg, dd, tk, os⟩ (.ref r) "range" := ⟨_, rO, rfl⟩
    wp_walk using AutoSeq1.wpAny_loadPart' rO, wpAny_typeOf x5, collect_rng x4 hr sm hn hl
    intro h' tk' acc hk hacc
    have sz : acc.toList.toArray.size ≤ sizeLine := by rw [Array.toArray_toList, hacc.1, sizeLine_eq]; omega
    show wpAny _ A.in1 (Builtin.Tuple.tupleExact acc.toList.toArray >>= _) _ _ _
    unfold Builtin.Tuple.tupleExact; refine wpAny_bind (wpAny_newObj_type ?_ sz)
    rw [Array.toArray_toList]
    exact wpAny_pure ⟨_, rfl, go h' tk' acc hk hacc⟩
theorem call_tup_rng {prog : Program} {w : World} {A : Around} {E : Value → Shared → Prop} {s : Shared} {r : Addr} {a b c : Int} {t u v : Tok} {n : Nat} {Q : Value → Shared → Prop} (hh : A.handled = none) (hr : IsRange s.heap r a b c t u v) (sm : Builtin.Range.small a b c = true) (hn : Builtin.Range.rangeSize a b c = n) (hl : n ≤ 2 ^ 24)
    (go : ∀ (h' : Heap) (tk : Nat) (acc : Array Value), (∀ b o, s.heap.get? b = some o → h'.get? b = some o) → ItemsOf (fun i v => ∃ t, v = .int (a + i * c) t) acc n → Q (.ref h'.objs.size) { s with heap := h'.push { cls := .type "tuple", data := .seq acc }, toks := tk }) :
    wpAny (model prog w) A (call (.type "tuple") [.ref r]) Q E s :=
  callType_new F.called_tuple (by decide) (F.typeCall_tuple_1 _) (F.newCall_tuple_1 _) (fun obj => F.args_object_init_2 obj _) F.entry_tuple_new (tup_new_rng r a b c t u v n sm hn hl) ⟨hh, hr, fun h' tk acc hk hacc => ⟨⟨_, Heap.get?_push_size _ rfl, rfl⟩, go h' tk acc hk hacc⟩⟩
def tTupRng (ta : TA) : TE := fun σ H Q => ta σ H fun vs H1 => ∃ n : Nat, vs = [.int (n : Int)] ∧ n ≤ 1000 ∧ ∀ l, H1 l = none → Q (.ref l) (upd H1 l (.tup (RA.intsV (List.range n))))
theorem pe_tuprange {X : Cx} {a : Expr} {ta : TA} {p p2 pos pos2 : Pos} (hc : X.calm = true) (hgl : Gl X "tuple") (hml : X.mg "tuple" = none) (hgz : Gl X "range") (hmz : X.mg "range" = none) (ha : PA X [a] ta)
    (hs : starEach [.Call (.Name "range" p2) [a] [] pos2] X.env = [(false, eval (.Call (.Name "range" p2) [a] [] pos2) X.env)] := by rfl) (hs2 : starEach [a] X.env = [(false, eval a X.env)] := by rfl) :
    PE X (.Call (.Name "tuple" p) [.Call (.Name "range" p2) [a] [] pos2] [] pos) (tTupRng ta) := by
  intro pins s σ H Q I h
  refine wpAny_Call_Name_kw (ld_blt I hgl hml PyProof.Rows.boot_tuple ?_)
  refine PyProof.Rows.callWith_type1 (e := .Call (.Name "range" p2) [a] [] pos2) (rest := []) ?_ hs rfl
  rw [hs]
  show wpAny _ _ (spliced ((false, eval (.Call (.Name "range" p2) [a] [] pos2) X.env) :: backTo pos [])) _ _ s
  refine Calls.spliced_cons (wpAny_Call_Name_kw (ld_blt I hgz hmz PyProof.Rows.boot_range (PyProof.Rows.callWith_type1 (thn (ha pos2 pins s σ H _ I h) fun us s1 ⟨vs, H1, I1, r1, n, ev, hn, q⟩ => ?_) hs2 rfl)))
  subst ev
  obtain ⟨u1, rfl, t, rfl⟩ := vals1 r1
  refine call_range_1 ?_
  refine Calls.spliced_nil ?_
  have hsz : Builtin.Range.rangeSize 0 (n : Int) 1 = (n : Int) := by rw [rangeSize_one]; split <;> omega
  refine call_tup_rng (I1.ok.hd hc) (IsRange.new ..) (small_one (by omega) (by omega) (by omega) (by omega)) hsz (by omega) fun h' tk acc kp items => ?_
  obtain ⟨l, rfl⟩ : ∃ l : List Value, acc = l.toArray := ⟨acc.toList, Array.toArray_toList.symm⟩
  have hv : Vals (RA.intsV (List.range n)) l := by
    refine vals_of (by rw [RA.intsV_len, List.length_range, ← items.1, List.size_toArray]) fun i x u hx hu => ?_
    have hi : i < n := by have := (List.getElem?_eq_some_iff.mp hx).1; rwa [RA.intsV_len, List.length_range] at this
    rw [RA.intsV, List.getElem?_map, List.getElem?_range hi] at hx
    cases hx
    obtain ⟨t2, rfl⟩ := items.2 i u (by rw [List.getElem?_toArray]; exact hu)
    exact ⟨t2, by simp⟩
  have hle : s1.heap.objs.size ≤ h'.objs.size := Nat.le_of_lt (Heap.lt_size (kp _ _ (Heap.get?_push_size _ rfl)))
  have I2 := I1.laid (a := h'.objs.size) (o := .tup (RA.intsV (List.range n))) (t' := tk) (h' := h'.push { cls := .type "tuple", data := .seq l.toArray }) (fun b o eb => Heap.get?_push_of_some _ (kp b o (Heap.get?_push_of_some _ eb))) hle
    ⟨by rw [RA.intsV_len, List.length_range]; exact line_ge (Nat.le_trans hn (by decide)), l, hv, _, Heap.get?_push_size _ rfl, rfl, 0, rfl⟩
  exact ⟨.ref _, _, I2, rfl, q _ (I1.hok.fresh hle)⟩
end L2
namespace RA
theorem idx_of {α : Type} [BEq α] [LawfulBEq α] {l : List α} (nd : l.Nodup) {x : Nat} {t : α} (h : l[x]? = some t) : l.idxOf t = x := by
  obtain ⟨hx, e⟩ := List.getElem?_eq_some_iff.mp h
  have hm : l.idxOf t < l.length := List.idxOf_lt_length_of_mem (List.mem_of_getElem? h)
  exact (List.getElem_inj nd).mp ((List.getElem_idxOf hm).trans e.symm)
theorem runG_map {L : List Nat} {W : List (List Nat)} (k : List Nat) : ∀ (m : Nat) (w : List Nat), w.length = m → runG (gA W) L k w = k.map fun r => run L W r w := by
  intro m
  induction m with
  | zero =>
    intro w hw
    rw [List.length_eq_zero_iff.mp hw]
    exact (List.map_id _).symm
  | succ m ih =>
    intro w hw
    obtain ⟨c, v, rfl⟩ : ∃ c v, w = v ++ [c] := ⟨w.getLast (by intro z; rw [z] at hw; cases hw), w.dropLast, (List.dropLast_concat_getLast _).symm⟩
    rw [runG_snoc, ih v (by simpa using hw)]
    unfold gA
    rw [List.map_map]
    refine List.map_congr_left fun r _ => ?_
    show _ = run L W r (v ++ [c])
    rw [run_snoc]
    rfl
def tabRow (ks : List (List Nat)) (i : Nat) : List Nat := ks.map fun o => ks.idxOf ((ks.getD i []).map fun r => o.getD r 0)
section
variable {L : List Nat} {W ks ws R : List (List Nat)} {B : List Bool}
theorem acts_lt (hMa : Mach L W B) {n k : Nat} (hbf : Bf (gA W) L (List.range W.length) ks ws n k) : ∀ t ∈ ks, t.length = W.length ∧ ∀ r ∈ t, r < W.length := fun t ht => by
  obtain ⟨j, hj⟩ := List.mem_iff_getElem?.mp ht
  have hjl : j < ws.length := by rw [← hbf.len]; exact (List.getElem?_eq_some_iff.mp hj).1
  obtain ⟨l1, l2⟩ := hbf.lead j t _ hj (List.getElem?_eq_getElem hjl)
  rw [act_run _ _ rfl] at l2
  rw [← l2]
  refine ⟨actN_len _ _ _, fun r hr => ?_⟩
  obtain ⟨x, hx, rfl⟩ := List.mem_map.mp hr
  exact run_lt hMa (List.mem_range.mp hx) l1
theorem plan_mach (hMa : Mach L W B) {n k : Nat} (hbf : Bf (gA W) L (List.range W.length) ks ws n k) (ways : WaysOk (gA W) L.length ks R) (hR : R.length = ks.length) (h40 : ks.length ≤ 40) : Mach L R (List.replicate R.length false) where
  lt := hMa.lt
  n1 := by rw [hR]; exact (List.getElem?_eq_some_iff.mp hbf.t0).1
  n60 := by rw [hR]; exact Nat.le_trans h40 (by decide)
  bl := List.length_replicate
  row := fun row hrow => by
    obtain ⟨r, hr⟩ := List.mem_iff_getElem?.mp hrow
    have hrl : r < ks.length := by rw [← hR]; exact (List.getElem?_eq_some_iff.mp hr).1
    obtain ⟨e1, e2⟩ := ways.row r row _ hr (List.getElem?_eq_getElem hrl)
    refine ⟨e1, fun x hx => ?_⟩
    obtain ⟨q, hq⟩ := List.mem_iff_getElem?.mp hx
    rw [hR]
    exact (List.getElem?_eq_some_iff.mp (e2 q x hq)).1
theorem ways_run (ways : WaysOk (gA W) L.length ks R) (hR : R.length = ks.length) {i : Nat} {k : List Nat} (hk : ks[i]? = some k) : ∀ (m : Nat) (w : List Nat), w.length = m → (∀ c ∈ w, c ∈ L) → ks[run L R i w]? = some (runG (gA W) L k w) := by
  intro m
  induction m with
  | zero =>
    intro w hw _
    rw [List.length_eq_zero_iff.mp hw]
    exact hk
  | succ m ih =>
    intro w hw hL
    obtain ⟨c, v, rfl⟩ : ∃ c v, w = v ++ [c] := ⟨w.getLast (by intro z; rw [z] at hw; cases hw), w.dropLast, (List.dropLast_concat_getLast _).symm⟩
    have h1 := ih v (by simpa using hw) fun x hx => hL x (by simp [hx])
    have hc : c ∈ L := hL c (by simp)
    have hx : run L R i v < R.length := by rw [hR]; exact (List.getElem?_eq_some_iff.mp h1).1
    obtain ⟨e1, e2⟩ := ways.row _ R[run L R i v] _ (List.getElem?_eq_getElem hx) h1
    have hq : L.idxOf c < R[run L R i v].length := by rw [e1]; exact List.idxOf_lt_length_of_mem hc
    have e3 := e2 (L.idxOf c) _ (List.getElem?_eq_getElem hq)
    rw [runG_snoc, run_snoc, ← e3]
    unfold nxt
    rw [List.getD_eq_getElem?_getD (l := R), List.getElem?_eq_getElem hx, Option.getD_some, List.getD_eq_getElem?_getD, List.getElem?_eq_getElem hq, Option.getD_some]
theorem tab_at (hMa : Mach L W B) {n k : Nat} (hbf : Bf (gA W) L (List.range W.length) ks ws n k) (ways : WaysOk (gA W) L.length ks R) (hR : R.length = ks.length) {i j : Nat} {w1 : List Nat} (hj : j < ks.length) (hw1 : ws[i]? = some w1) : (tabRow ks j).getD i 0 = run L R j w1 := by
  have hi : i < ks.length := by rw [hbf.len]; exact (List.getElem?_eq_some_iff.mp hw1).1
  obtain ⟨l1, l2⟩ := hbf.lead i ks[i] w1 (List.getElem?_eq_getElem hi) hw1
  have hr := ways_run ways hR (List.getElem?_eq_getElem hj) _ w1 rfl l1
  rw [runG_map _ _ _ rfl] at hr
  rw [act_run _ _ rfl] at l2
  unfold tabRow
  rw [List.getD_eq_getElem?_getD, List.getElem?_map, List.getElem?_eq_getElem hi, Option.map_some, Option.getD_some, List.getD_eq_getElem?_getD, List.getElem?_eq_getElem hj, Option.getD_some, ← l2]
  have e : (ks[j].map fun r => (actN L W w1).getD r 0) = ks[j].map fun r => run L W r w1 := List.map_congr_left fun r hr' => by
    have hrW := (acts_lt hMa hbf ks[j] (List.getElem_mem hj)).2 r hr'
    rw [actN, List.getD_eq_getElem?_getD, List.getElem?_map, List.getElem?_range hrW]
    rfl
  rw [e]
  exact idx_of hbf.nd hr
theorem act_join (hMa : Mach L W B) (hbf : Bf (gA W) L (List.range W.length) ks ws ks.length 0) {i j : Nat} {a b : List Nat} (ha : ks[i]? = some a) (hb : ks[j]? = some b) : ∃ x : Nat, ks[x]? = some (a.map fun r => b.getD r 0) := by
  obtain ⟨u, hu⟩ : ∃ u, ws[i]? = some u := ⟨ws[i]'(by rw [← hbf.len]; exact (List.getElem?_eq_some_iff.mp ha).1), List.getElem?_eq_getElem _⟩
  obtain ⟨v, hv⟩ : ∃ v, ws[j]? = some v := ⟨ws[j]'(by rw [← hbf.len]; exact (List.getElem?_eq_some_iff.mp hb).1), List.getElem?_eq_getElem _⟩
  obtain ⟨l1, l2⟩ := hbf.lead i a u ha hu
  obtain ⟨m1, m2⟩ := hbf.lead j b v hb hv
  obtain ⟨x, c, e1, _⟩ := hbf.told hMa.lt.nd (u ++ v) _ rfl fun y hy => (List.mem_append.mp hy).elim (l1 y) (m1 y)
  refine ⟨x, ?_⟩
  rw [e1, act_run _ _ rfl]
  rw [act_run _ _ rfl] at l2 m2
  rw [← l2, ← m2]
  unfold actN
  rw [List.map_map]
  refine congrArg some (List.map_congr_left fun r hr => ?_)
  have h1 : run L W r u < W.length := run_lt hMa (List.mem_range.mp hr) l1
  show run L W r (u ++ v) = ((List.range W.length).map fun r => run L W r v).getD (run L W r u) 0
  rw [List.getD_eq_getElem?_getD, List.getElem?_map, List.getElem?_range h1]
  show run L W r (u ++ v) = run L W (run L W r u) v
  unfold run
  rw [List.foldl_append]
end
def TbAt (H : L2.Hp) (l : PySem.Addr) (ts : List PySem.Addr) (ks : List (List Nat)) : Prop := H l = some (.lst (ts.map L2.V.ref)) ∧ ts.length = ks.length ∧ ∀ (i : Nat) (a : PySem.Addr), ts[i]? = some a → H a = some (.tup (intsV (tabRow ks i)))
end RA
namespace RA
open PySem L2
theorem ints_flatV (l : List Nat) : (intsV l).all flatV = true := by
  rw [intsV, List.all_map, List.all_eq_true]
  exact fun _ _ => rfl
theorem ints_flat3 (l : List Nat) : (intsV l).all flat3 = true := by
  rw [intsV, List.all_map, List.all_eq_true]
  exact fun _ _ => rfl
theorem like_tabs {H : Hp} {l1 l2 : Addr} {ts1 ts2 : List Addr} {ks : List (List Nat)} (h1 : TbAt H l1 ts1 ks) (h2 : TbAt H l2 ts2 ks) (hk : ks.length ≤ 1000) : Like H 3 (.ref l1) (.ref l2) := by
  obtain ⟨a1, a2, a3⟩ := h1
  obtain ⟨b1, b2, b3⟩ := h2
  refine .inr ⟨l1, l2, _, _, rfl, rfl, .inr ⟨a1, b1⟩, by rw [List.length_map, List.length_map, a2, b2], by rw [List.length_map, a2]; exact hk, fun i x y hx hy => ?_⟩
  rw [List.getElem?_map] at hx hy
  obtain ⟨t1, e1, rfl⟩ := Option.map_eq_some_iff.mp hx
  obtain ⟨t2, e2, rfl⟩ := Option.map_eq_some_iff.mp hy
  have hl : (tabRow ks i).length = ks.length := by rw [tabRow, List.length_map]
  exact .inr ⟨t1, t2, _, _, rfl, rfl, .inl ⟨a3 i t1 e1, b3 i t2 e2⟩, rfl, by rw [intsV_len, hl]; exact hk, like_flats (ints_flat3 _)⟩
theorem act_snoc {L : List Nat} {W : List (List Nat)} {B : List Bool} (hMa : Mach L W B) {v : List Nat} (hv : ∀ c ∈ v, c ∈ L) (c : Nat) : actN L W (v ++ [c]) = (actN L W v).map fun r => (actN L W [c]).getD r 0 := by
  unfold actN
  rw [List.map_map]
  refine List.map_congr_left fun r hr => ?_
  have h1 : run L W r v < W.length := run_lt hMa (List.mem_range.mp hr) hv
  show run L W r (v ++ [c]) = ((List.range W.length).map fun r => run L W r [c]).getD (run L W r v) 0
  rw [List.getD_eq_getElem?_getD, List.getElem?_map, List.getElem?_range h1, run_snoc]
  rfl
end RA
namespace RA
open PySem L2
def sp_walkedL (cW : Addr) (ti : Bool) (L : List Nat) (g : List Nat → Nat → List Nat) (mk : List Nat → Bool) (U : List (List Nat)) (Rest : Hp → Prop) (fg fm : Addr) : Sp := fun vs H Q _ => ∃ (s : List Nat) (sv : V) (most : Option Nat), vs = [.str (tx L), sv, .ref fg, .ref fm, mostV most] ∧ Let L ∧ ThV ti H s sv ∧ s ∈ U ∧ (∀ k ∈ U, ∀ q, q < L.length → g k q ∈ U) ∧ U.length ≤ sizeLine ∧ Rest H ∧
  ∀ (wk t wd y m : Addr) (ks : List (List Nat)) (vks : List V) (ws : List (List Nat)) (rows : List Addr) (R : List (List Nat)) (B : List Bool) (H' : Hp), Same H H' → WalkAt H' cW wk L t wd y m → H' t = some (.lst vks) → ThsAt ti H' ks vks → H' wd = some (.lst (wordsV ws)) → H' y = some (.lst (rows.map V.ref)) → WRows H' rows R → H' m = some (.lst (B.map V.bl)) →
    Bf g L s ks ws R.length 0 → WaysOk g L.length ks R → B.length = R.length → (∀ (r : Nat) (k : List Nat) (b : Bool), ks[r]? = some k → B[r]? = some b → b = mk k) → (∀ k ∈ ks, k ∈ U) → ks.length ≤ U.length → (R.length = ks.length ∨ ∃ n, most = some n ∧ n < ks.length) → Q (.ref wk) H'
theorem WPu.room {g : List Nat → Nat → List Nat} {L s0 : List Nat} {mk : List Nat → Bool} {U ks ws R : List (List Nat)} {B : List Bool} {q : Nat} {x : List Nat} (h : WPu g L s0 mk U ks ws R B q) (hU : x ∈ U) (hm : x ∉ ks) : ks.length < U.length := by
  have h1 := leftOf_lt (U := U) (ts := ks) hU hm
  have h2 : leftOf U ks + ks.length ≤ U.length := h.left
  omega
def sp_lotsafter : Sp := fun vs H Q _ => ∃ (m : Addr) (v : Addr) (o : HO) (L : List Nat) (W : List (List Nat)) (B : List Bool) (k : List Nat), vs = [.ref m, .ref v] ∧ MachAt H m L W B ∧ Mach L W B ∧ (o = .lst (intsV k) ∨ o = .tup (intsV k)) ∧ H v = some o ∧ k.length ≤ 60 ∧ (∀ x ∈ k, x < W.length) ∧
  ∀ (l : Addr) (ls : List Addr) (H' : Hp), Same H H' → H' l = some (.lst (ls.map V.ref)) → ls.length = L.length → (∀ (q : Nat) (a : Addr), ls[q]? = some a → H' a = some (.lst (intsV (gA W k q)))) → Q (.ref l) H'
def sp_wrooms (cW P0 : Addr) (sites : List (Pos × Str)) : Sp := fun vs H Q _ => ∃ (m rl : Addr) (L : List Nat) (W : List (List Nat)) (B : List Bool) (s : List Nat) (most : Option Nat), vs = [.ref m, .ref rl, mostV most] ∧ MachAt H m L W B ∧ Mach L W B ∧ H rl = some (.lst (intsV s)) ∧ 0 < s.length ∧ s.length ≤ 60 ∧ (∀ x ∈ s, x < W.length) ∧ W.length ^ s.length ≤ sizeLine ∧ TabSt H P0 sites ∧
  ∀ (wk t wd y md : Addr) (ks : List (List Nat)) (vks : List V) (ws : List (List Nat)) (rows : List Addr) (R : List (List Nat)) (Bm : List Bool) (H' : Hp), SameX P0 H H' → TabSt H' P0 sites → WalkAt H' cW wk L t wd y md → H' t = some (.lst vks) → ThsAt false H' ks vks → H' wd = some (.lst (wordsV ws)) → H' y = some (.lst (rows.map V.ref)) → WRows H' rows R → H' md = some (.lst (Bm.map V.bl)) →
    Bf (gA W) L s ks ws R.length 0 → WaysOk (gA W) L.length ks R → Bm.length = R.length → (∀ k ∈ ks, k ∈ tups W.length s.length) → (R.length = ks.length ∨ ∃ n, most = some n ∧ n < ks.length) → Q (.ref wk) H'
def sp_wacts (cW cTG P0 : Addr) (sites : List (Pos × Str)) : Sp := fun vs H Q E => ∃ (m : Addr) (L : List Nat) (W : List (List Nat)) (B : List Bool), vs = [.ref m] ∧ MachAt H m L W B ∧ Mach L W B ∧ W.length ≤ 8 ∧ TabSt H P0 sites ∧ (∀ ks ws n H', Bf (gA W) L (List.range W.length) ks ws n 0 → 40 < ks.length → SameX P0 H H' → TabSt H' P0 sites → E (.ref cTG) none H') ∧
  ∀ (wk t wd y md : Addr) (ks : List (List Nat)) (vks : List V) (ws : List (List Nat)) (rows : List Addr) (R : List (List Nat)) (Bm : List Bool) (H' : Hp), SameX P0 H H' → TabSt H' P0 sites → WalkAt H' cW wk L t wd y md → H' t = some (.lst vks) → ThsAt false H' ks vks → H' wd = some (.lst (wordsV ws)) → H' y = some (.lst (rows.map V.ref)) → WRows H' rows R → H' md = some (.lst (Bm.map V.bl)) →
    Bf (gA W) L (List.range W.length) ks ws ks.length 0 → WaysOk (gA W) L.length ks R → R.length = ks.length → Bm.length = R.length → ks.length ≤ 40 → Q (.ref wk) H'
def AcAt (H : Hp) (l : Addr) (xs : List V) (ks ws : List (List Nat)) : Prop := H l = some (.lst xs) ∧ xs.length = ks.length ∧ ws.length = ks.length ∧
  ∀ (i : Nat) (x : V), xs[i]? = some x → ∃ (t a : Addr) (k w : List Nat), x = .ref t ∧ ks[i]? = some k ∧ ws[i]? = some w ∧ H t = some (.tup [.str (tx w), .ref a]) ∧ H a = some (.tup (intsV k))
def sp_acts (cTG P0 : Addr) (sites : List (Pos × Str)) : Sp := fun vs H Q E => ∃ (m : Addr) (L : List Nat) (W : List (List Nat)) (B : List Bool), vs = [.ref m] ∧ MachAt H m L W B ∧ Mach L W B ∧ W.length ≤ 8 ∧ TabSt H P0 sites ∧ (∀ ks ws n H', Bf (gA W) L (List.range W.length) ks ws n 0 → 40 < ks.length → SameX P0 H H' → TabSt H' P0 sites → E (.ref cTG) none H') ∧
  ∀ (l : Addr) (xs : List V) (ks ws : List (List Nat)) (H' : Hp), SameX P0 H H' → TabSt H' P0 sites → H l = none → AcAt H' l xs ks ws → Bf (gA W) L (List.range W.length) ks ws ks.length 0 → ks.length ≤ 40 → Q (.ref l) H'
theorem get_last {α : Type} (l : List α) (x : α) : (l ++ [x])[l.length]? = some x := by simp
theorem nodup_le {α : Type} [DecidableEq α] : ∀ {a b : List α}, a.Nodup → (∀ c ∈ a, c ∈ b) → a.length ≤ b.length
  | [], _, _, _ => Nat.zero_le _
  | x :: a, b, h, k => by
    rw [List.nodup_cons] at h
    have hx : x ∈ b := k x List.mem_cons_self
    have := nodup_le (a := a) (b := b.erase x) h.2 fun c hc => (List.mem_erase_of_ne (fun z : c = x => h.1 (by rw [← z]; exact hc))).mpr (k c (List.mem_cons_of_mem _ hc))
    rw [List.length_erase_of_mem hx] at this
    have := List.length_pos_of_mem hx
    rw [List.length_cons]
    omega
theorem rows_up {H1 : Hp} {wa tp : Addr} {rows : List Addr} {W : List (List Nat)} {ws : List Nat} (h1 : H1 wa = some (.lst (rows.map V.ref))) (hr : RowsAt H1 rows W) (hl : rows.length = W.length) (ht : H1 tp = none) :
    L2.upd (L2.upd H1 tp (.tup (intsV ws))) wa (.lst (rows.map V.ref ++ [.ref tp])) wa = some (.lst ((rows ++ [tp]).map V.ref)) ∧ RowsAt (L2.upd (L2.upd H1 tp (.tup (intsV ws))) wa (.lst (rows.map V.ref ++ [.ref tp]))) (rows ++ [tp]) (W ++ [ws]) ∧ ∀ b o, H1 b = some o → b ≠ wa → L2.upd (L2.upd H1 tp (.tup (intsV ws))) wa (.lst (rows.map V.ref ++ [.ref tp])) b = some o := by
  have twa : tp ≠ wa := (ne_of_none h1 ht).symm
  have k : ∀ b o, H1 b = some o → b ≠ wa → L2.upd (L2.upd H1 tp (.tup (intsV ws))) wa (.lst (rows.map V.ref ++ [.ref tp])) b = some o := fun b o e n => by
    rw [upd_ne n, upd_ne (ne_of_none e ht)]
    exact e
  refine ⟨by rw [upd_same, List.map_append]; rfl, fun i r e => ?_, k⟩
  rcases get_split e with z | ⟨rfl, rfl⟩
  · obtain ⟨v, e1, e2⟩ := hr i r z
    exact ⟨v, get_app e1, k r _ e2 (ne_of e2 h1 (by intro y; cases y))⟩
  · refine ⟨ws, by rw [hl]; exact get_last W ws, ?_⟩
    rw [upd_ne twa, upd_same]
theorem Bf.few {κ : Type} [DecidableEq κ] {g : κ → Nat → κ} {L : List Nat} {s : κ} {ts ts' : List κ} {ws ws' : List (List Nat)} {n k : Nat} (h : Bf g L s ts ws ts.length 0) (h' : Bf g L s ts' ws' n k) (nd : L.Nodup) : ts'.length ≤ ts.length := by
  refine nodup_le h'.nd fun t ht => ?_
  obtain ⟨j, hj⟩ := List.mem_iff_getElem?.mp ht
  obtain ⟨w, hw⟩ : ∃ w, ws'[j]? = some w := ⟨ws'[j]'(by rw [← h'.len]; exact (List.getElem?_eq_some_iff.mp hj).1), List.getElem?_eq_getElem _⟩
  obtain ⟨l1, l2⟩ := h'.lead j t w hj hw
  obtain ⟨i, b, e1, _⟩ := h.told nd w _ rfl l1
  rw [l2] at e1
  exact List.mem_of_getElem? e1
end RA
namespace L2
open PySem PySem.Spec PyProof.Rows
theorem ix_dictWK {X : Cx} (P : Program) (w : World) (hu : X.A.units + 64 < cLine) (hP : X.prog = P := by rfl) (hw : X.w = w := by rfl) : IxR X (rIxW P w) := by
  subst hP
  subst hw
  exact ix_dictW hu
end L2
namespace L2
open PySem PySem.Spec PyProof.Rows
theorem lookup_relabel_cell {env : Env} : ∀ {names : List (Str × NameKind)} {x : Str}, names.lookup x = some .cell →
    (names.map fun (n, k) => if (k == NameKind.free && env.scope.kind == .function && env.kindOf n == some .cell) then (n, NameKind.cell) else (n, k)).lookup x = some .cell
  | [], _, h => by simp at h
  | (n, k) :: r, x, h => by
    rw [List.map_cons]
    by_cases z : x = n
    · subst z
      rw [List.lookup_cons_self] at h
      cases h
      show List.lookup x ((x, NameKind.cell) :: _) = _
      exact List.lookup_cons_self
    · have zb : (x == n) = false := beq_eq_false_iff_ne.mpr z
      have h2 : r.lookup x = some .cell := by simpa only [List.lookup, zb] using h
      have ih := lookup_relabel_cell (env := env) h2
      dsimp only
      split
      · simp only [List.lookup, zb]
        exact ih
      · simp only [List.lookup, zb]
        exact ih
theorem ar_c1 {c C D : Nat} (h : c = C + 1) (hC : C = D + 1) : ¬ c < D := by omega
theorem ar_c2 {c C D : Nat} (h : c = C + 1) (hC : C = D + 1) : D ≤ c := by omega
theorem ar_c3 {b c C D : Nat} (h : c = C + 1) (hC : C = D + 1) (hb : b < D) : c ≠ b := by omega
theorem newEnv_cell1 {M : Model} {A : Around} {E : Value → Shared → Prop} {s : Shared} {sc : Scope} {g : Addr} {cl : List (Str × Addr)} {qual : Str} {func : Option Addr} {code : Value} {outer : Env} {bl : Addr} {Q : Env → Shared → Prop} {x : Str}
    (hcf : ∀ n cl, cellsFrom n sc.names cl = (x, n) :: cl) (hpc : ∀ h : Heap, pushCells h sc.names = h.push { cls := .type "cell", data := .cell none })
    (go : ∀ h', h'.Ns s.heap.objs.size (fun _ => none) → h'.get? (s.heap.objs.size + 1) = some { cls := .type "cell", data := .cell none } → (∀ b o, s.heap.get? b = some o → h'.get? b = some o) →
      Q (newEnv sc s.heap.objs.size g ((x, s.heap.objs.size + 1) :: cl) qual func code (some outer) bl) { s with heap := h' }) : wpAny M A (newFunctionEnv sc g cl [] qual func code (some outer) bl) Q E s := by
  unfold newFunctionEnv
  rw [show (some outer).isSome = true from rfl, if_pos rfl]
  refine wpAny_bind (wpAny_alloc (wpAny_bind (wpAny_layCells _ (fun _ k _ => by cases q : k == NameKind.cell <;> simp only [q] <;> rfl) _ _ _ _ ?_)))
  rw [hcf, hpc]
  have e : ({ s with heap := s.heap.push { cls := .type "dict", data := .dict #[] } } : Shared).heap.objs.size = s.heap.objs.size + 1 := Heap.size_push ..
  rw [e]
  refine wpAny_bind ?_
  rw [List.forIn_nil]
  refine wpAny_pure (wpAny_pure (go _ ?_ ?_ ?_))
  · exact (Heap.Ns.new s.heap (.type "dict")).keeps fun b o z => Heap.get?_push_of_some _ z
  · have := Heap.get?_push_size (s.heap.push { cls := .type "dict", data := .dict #[] }) (o := { cls := .type "cell", data := .cell none }) rfl
    rwa [Heap.size_push] at this
  · exact fun b o z => Heap.get?_push_of_some _ (Heap.get?_push_of_some _ z)
section
variable {X : Cx} {elt iter : Expr} {x : Str} {px pos : Pos} {ifs : List Expr} {sc : Scope} {wi : TI} {tt : TT} {te : TE}
theorem pe_compC (N2 : List Str) (hc : X.calm = true) (hN2 : (x :: N2).Nodup) (hi : PI X (.Name x px) iter wi)
    (hb : ∀ (cl : List (Str × Addr)) (C : Addr) (fp : List Addr) (s : Shared) (H : Hp), PTs { cxComp X x sc cl C fp s H with N := x :: N2, fn := fun y => y == x } ifs tt ∧ PE { cxComp X x sc cl C fp s H with N := x :: N2, fn := fun y => y == x } elt te)
    (hx : sc.names.lookup x = some .cell := by rfl) (hcf : ∀ n cl, cellsFrom n sc.names cl = (x, n) :: cl := by intro _ _; rfl) (hpc : ∀ h : Heap, pushCells h sc.names = h.push { cls := .type "cell", data := .cell none } := by intro _; rfl) (hkind : sc.kind = .function := by rfl)
    (hnames : ∀ y ∈ sc.names, y.2 = .local → sc.names.lookup y.1 = some .local := by decide +kernel) (hcell : ∀ y ∈ sc.names, y.2 = .cell → y.1 = x := by decide +kernel)
    (hfree : (sc.names.all fun y => y.2 != .free || X.env.scope.names.lookup y.1 == some .cell) = true := by rfl)
    (hlo : (N2.all fun y => sc.names.lookup y != some .local) = true := by rfl) (hl2 : N2.length = X.N.length := by rfl) (hz2 : ((N2.zip X.N).all fun y => y.1 == y.2 || sc.names.lookup y.1 == none) = true := by rfl)
    (hs : ∀ x, foldedSetIterable iter X.env x = pure x := by intro _; rfl) :
    PE X (.ListComp elt [⟨.Name x px, iter, ifs, 0⟩] sc pos) (tComp wi tt te) := by
  intro pins s σ H Q I h
  have hfr : ∀ y ∈ sc.names, y.2 = .free → X.env.kindOf y.1 = some .cell := fun y hy e => by
    have q := List.all_eq_true.mp hfree y hy
    rw [e] at q
    simpa [Env.kindOf] using q
  have hlo' : ∀ y ∈ N2, sc.names.lookup y ≠ some .local := fun y hy e => by
    have q := List.all_eq_true.mp hlo y hy
    rw [e] at q
    simp at q
  obtain ⟨cl, hclos, hsub, hhas⟩ := closure_of (env := X.env) (sc := sc) fun y hy e => I.ok.has y.1 (.inl (hfr y hy e))
  rw [eval_ListComp]
  refine wpAny_comprehension_free (use := none) rfl hs hclos hkind hnames (thn (hi pins s σ H _ I h) fun v s1 h1 => thn h1 fun itv s2 h2 => ?_)
  obtain ⟨it, fp, tn, J, H2, e, I2, T, st2, f2, hW⟩ := h2
  subst e
  refine wpAny_newObj_type ?_
  refine newEnv_cell1 hcf hpc fun h₁ hns₁ hcl₁ hkp₁ => ?_
  dsimp only at hns₁ hcl₁ hkp₁ ⊢
  generalize hHa : s2.heap.push { cls := .type "list", dict := none, data := .seq ([] : List Value).toArray } = Ha at hns₁ hcl₁ hkp₁ ⊢
  have hC : Ha.objs.size = s2.heap.objs.size + 1 := by rw [← hHa, Heap.size_push]
  have hDC : s2.heap.objs.size ≠ Ha.objs.size := by rw [hC]; exact Nat.ne_of_lt (Nat.lt_succ_self _)
  have hCle : s2.heap.objs.size ≤ Ha.objs.size := by rw [hC]; exact Nat.le_succ _
  have neC : ∀ b o, s2.heap.get? b = some o → b ≠ Ha.objs.size := fun b o e => Nat.ne_of_lt (Nat.lt_of_lt_of_le (Heap.lt_size e) hCle)
  have old : ∀ b o, s2.heap.get? b = some o → h₁.get? b = some o := fun b o e => hkp₁ b o (hHa ▸ Heap.get?_push_of_some _ e)
  have hacc : h₁.get? s2.heap.objs.size = some { cls := .type "list", dict := none, data := .seq ([] : List Value).toArray } := hkp₁ _ _ (hHa ▸ Heap.get?_push_size _ rfl)
  have lk : ∀ {y : Str} {c : Addr}, List.lookup y ((x, Ha.objs.size + 1) :: cl) = some c → (y = x ∧ c = Ha.objs.size + 1) ∨ (y ≠ x ∧ cl.lookup y = some c) := fun {y c} e => by
    by_cases z : y = x
    · rw [z, List.lookup_cons_self] at e
      exact .inl ⟨z, (Option.some.inj e).symm⟩
    · have zb : (y == x) = false := beq_eq_false_iff_ne.mpr z
      simp only [List.lookup, zb] at e
      exact .inr ⟨z, e⟩
  have lkn : ∀ {y : Str}, y ≠ x → List.lookup y ((x, Ha.objs.size + 1) :: cl) = cl.lookup y := fun {y} z => by
    have zb : (y == x) = false := beq_eq_false_iff_ne.mpr z
    simp only [List.lookup, zb]
  have clt : ∀ {y : Str} {c : Addr}, cl.lookup y = some c → c < s2.heap.objs.size := fun {y c} e => by
    obtain ⟨v, o, ho, _⟩ := I2.cell y c (hsub y c e)
    exact Heap.lt_size ho
  generalize hDe : s2.heap.objs.size = D at *
  generalize hCe : Ha.objs.size = C at *
  have hHD : H2 D = none := I2.hok.fresh (Nat.le_of_eq hDe)
  have hHC : H2 C = none := I2.hok.fresh (by omega)
  obtain ⟨W, ⟨m0, w0⟩, turn⟩ := hW D hHD
  have fplt : ∀ b ∈ fp, b < D := fun b hb => by
    obtain ⟨o, e, _⟩ := T.obj _ _ st2 b hb
    rw [← hDe]
    exact Heap.lt_size e
  let X' : Cx := { cxComp X x sc ((x, C + 1) :: cl) C fp s2 H2 with N := x :: N2, fn := fun y => y == x }
  have nofs : ∀ b ∈ fp, b ∉ frs X.stack := fun b hb z => by
    rcases List.mem_cons.mp (I2.stkSub b z) with e | e
    · exact (f2 b hb).2.1 e
    · exact (f2 b hb).2.2.1 e
  have ok' : X'.Ok := by
    refine ⟨I2.ok.mod, hkind, I2.ok.glob, I2.ok.blt, ?_, fun y z c e1 e2 => ?_, fun y hy => ?_, fun y c e e2 => ?_, I2.ok.hd, I2.ok.frames, .inl rfl, fun b hb => ⟨?_, fun y c e => ?_⟩, I2.bs,
      Nat.le_trans I2.ok.bsz I2.sz, fun b o e hb => ?_, nofs, I2.stack, I2.stkFree⟩
    · show s2.heap.objs.size ≤ C
      omega
    · rcases lk e1 with ⟨z1, w1⟩ | ⟨z1, w1⟩ <;> rcases lk e2 with ⟨z2, w2⟩ | ⟨z2, w2⟩
      · rw [z1, z2]
      · exact absurd (clt w2) (ar_c1 w1 hC)
      · exact absurd (clt w1) (ar_c1 w2 hC)
      · exact I2.ok.inj y z c (hsub y c w1) (hsub z c w2)
    · rcases hy with hy | hy
      · rcases relabel_lookup (show (relabel sc X.env).names.lookup y = some .cell from hy) with e | ⟨_, e, _⟩
        · have z : y = x := hcell _ (PySem.mem_of_lookup e) rfl
          exact ⟨C + 1, by rw [z]; exact List.lookup_cons_self⟩
        · have z : y ≠ x := fun z => by rw [z, hx] at e; cases e
          obtain ⟨c, hc'⟩ := hhas _ (PySem.mem_of_lookup e) rfl
          exact ⟨c, (lkn z).trans hc'⟩
      · rcases relabel_lookup (show (relabel sc X.env).names.lookup y = some .free from hy) with e | ⟨e, _⟩
        · have z : y ≠ x := fun z => by rw [z, hx] at e; cases e
          obtain ⟨c, hc'⟩ := hhas _ (PySem.mem_of_lookup e) rfl
          exact ⟨c, (lkn z).trans hc'⟩
        · cases e
    · have z : y = x := eq_of_beq e
      rcases lk e2 with ⟨_, w⟩ | ⟨z2, _⟩
      · show s2.heap.objs.size ≤ c
        rw [hDe]
        exact ar_c2 w hC
      · exact absurd z z2
    · exact Nat.ne_of_lt (Nat.lt_of_lt_of_le (fplt b hb) (by omega : D ≤ C))
    · rcases lk e with ⟨_, w⟩ | ⟨_, w⟩
      · exact ar_c3 w hC (fplt b hb)
      · exact (f2 b hb).2.2.2.2.1 y c (hsub y c w)
    · rcases (f2 b hb).2.2.2.1 with z | z
      · exact I2.ok.noex b o e z
      · exact absurd (Nat.lt_of_lt_of_le (Nat.lt_of_lt_of_le (Heap.lt_size e) I2.ok.bsz) z) (Nat.lt_irrefl _)
  have I4 : ∀ tk, Inv X' [] (none :: σ) (upd H2 D (.lst [])) { s2 with heap := h₁, toks := tk } := fun tk => by
    refine ⟨ok', rfl, I2.bare, Un.laid old (Nat.le_of_eq hDe) hHD, ⟨_, hns₁, fun i y v e1 e2 e3 => ?_⟩, fun y c e => ?_, ?_, fun y c e => ?_, fun p hp => ?_, I2.hok.laid old (Nat.le_of_eq hDe) ?_, ?_⟩
    · cases i with
      | zero => simp at e2
      | succ i =>
        have e0 : N2[i]? = some y := by simpa [X', cxComp] using e1
        have e2 : σ[i]? = some (some v) := by simpa using e2
        have e3 : Vis (relabel sc X.env) y := e3
        have hyN : y ∈ N2 := List.mem_of_getElem? e0
        have free : sc.names.lookup y = some .free ∧ (relabel sc X.env).names.lookup y ≠ some .local := by
          rcases e3 with e | e | e
          · rcases relabel_lookup e with q | ⟨q, _⟩
            · exact absurd q (hlo' y hyN)
            · cases q
          · rcases relabel_lookup e with q | ⟨_, q, _⟩
            · have z : y = x := hcell _ (PySem.mem_of_lookup q) rfl
              rw [z] at hyN
              exact absurd hyN (List.nodup_cons.mp hN2).1
            · exact ⟨q, by rw [e]; decide⟩
          · rcases relabel_lookup e with q | ⟨q, _⟩
            · exact ⟨q, by rw [e]; decide⟩
            · cases q
        have e1 : X.N[i]? = some y := by
          have hi : i < N2.length := (List.getElem?_eq_some_iff.mp e0).1
          have hi2 : i < X.N.length := by omega
          have hm : (y, X.N[i]) ∈ N2.zip X.N := by
            have hz : (N2.zip X.N)[i]? = some (y, X.N[i]) := by
              rw [List.getElem?_zip_eq_some]
              exact ⟨e0, List.getElem?_eq_getElem hi2⟩
            exact List.mem_of_getElem? hz
          have q := List.all_eq_true.mp hz2 _ hm
          rcases Bool.or_eq_true_iff.mp q with q | q
          · have : y = X.N[i] := eq_of_beq q
            rw [List.getElem?_eq_getElem hi2, ← this]
          · have q2 : sc.names.lookup y = none := by simpa using q
            rw [free.1] at q2
            cases q2
        have kc : X.env.kindOf y = some .cell := hfr _ (PySem.mem_of_lookup free.1) rfl
        obtain ⟨m, hn, hl⟩ := I2.loc
        obtain ⟨u, ru, lk⟩ := hl i y v e1 e2 (.inr (.inl kc))
        rcases lk with ⟨q, _⟩ | ⟨_, c, hcc, ⟨o, ho, hd⟩⟩
        · rw [kc] at q; cases q
        · obtain ⟨c', hc'⟩ := hhas _ (PySem.mem_of_lookup free.1) rfl
          have e4 := hsub _ _ hc'
          rw [hcc] at e4
          cases e4
          have z : y ≠ x := fun z => by rw [z] at hyN; exact (List.nodup_cons.mp hN2).1 hyN
          refine ⟨u, ru, .inr ⟨?_, c, (lkn z).trans hc', ⟨o, old c o ho, hd⟩⟩⟩
          rcases e3 with e | e | e
          · exact absurd e free.2
          · exact .inl e
          · exact .inr e
    · rcases lk e with ⟨_, w⟩ | ⟨_, w⟩
      · rw [w]
        exact ⟨none, _, hcl₁, rfl⟩
      · obtain ⟨v, o, ho, hd⟩ := I2.cell y c (hsub y c w)
        exact ⟨v, o, old c o ho, hd⟩
    · show upd H2 D (.lst []) C = none
      rw [upd_ne (neA (by omega))]
      exact hHC
    · rcases lk e with ⟨_, w⟩ | ⟨_, w⟩
      · show upd H2 D (.lst []) c = none
        rw [upd_ne (by rw [w]; intro z; exact absurd z (Nat.ne_of_gt (by omega)))]
        exact I2.hok.fresh (by rw [hDe]; exact ar_c2 w hC)
      · have hlt := clt w
        show upd H2 D (.lst []) c = none
        rw [upd_ne (Nat.ne_of_lt hlt)]
        exact I2.freeC y c (hsub y c w)
    · exact absurd (show p ∈ ([] : List (Addr × Obj)) from hp) (by simp)
    · exact ⟨Nat.zero_le _, [], 0, .nil, hacc⟩
    · show (none :: σ).length = (x :: N2).length
      rw [List.length_cons, List.length_cons, I2.len, hl2]
  have hN' : X'.N.Nodup := hN2
  have hx' : X'.env.scope.names.lookup x = some .cell := lookup_relabel_cell hx
  obtain ⟨PT', PE'⟩ := hb ((x, C + 1) :: cl) C fp s2 H2
  have fpX : ∀ {pins' : List (Addr × Obj)} {H' : Hp}, (∀ b ∈ fp, H' b = none) → (∀ p ∈ pins', p.1 ∉ fp) → ∀ b ∈ fp, FpOk X' pins' H' b := fun hn hp b hb => by
    refine ⟨hn b hb, ?_, nofs b hb, .inl hb, fun y c e => ?_, fun p q z => ?_⟩
    · exact Nat.ne_of_lt (Nat.lt_of_lt_of_le (fplt b hb) (by omega : D ≤ C))
    · rcases lk e with ⟨_, w⟩ | ⟨_, w⟩
      · exact ar_c3 w hC (fplt b hb)
      · exact (f2 b hb).2.2.2.2.1 y c (hsub y c w)
    · rcases List.mem_append.mp q with q | q
      · exact absurd (show p ∈ ([] : List (Addr × Obj)) from q) (by simp)
      · exact hp p q (by rw [z]; exact hb)
  have loop : ∀ tk, codeAny (model X.prog X.w) X.A (.compLoop (.ListComp elt [⟨.Name x px, iter, ifs, 0⟩] sc pos) 0 (.ref it) (.ref D) (compEnvC sc ((x, C + 1) :: cl) C X.env)) (compPost (model X.prog X.w) X.A X.xe none (EP X pins σ Q) (.ref D) C) { s2 with heap := h₁, toks := tk } := fun tk => by
    refine codeAny_compLoop_tests (fun n s' => ∃ i ys o H', Inv X' [] (o :: σ) H' s' ∧ tn i s'.heap ∧ (∀ b ∈ fp, H' b = none) ∧ W i n ys H') ?_ m0 ⟨0, [], none, _, I4 tk, T.keep _ _ _ st2 fun b hb o e => old b o e, fun b hb => ?_, w0⟩
    · rintro n s3 ⟨i, ys, o3, H3, I3, st3, fr3, w3⟩
      obtain ⟨hD3, alt⟩ := turn i n ys H3 w3
      rcases alt with ⟨stop, qn⟩ | ⟨go, hlen, step⟩
      · refine wpAny_mono (T.done X' rfl rfl rfl hc i [] s3 _ H3 (fun _ _ => False) I3 (fpX fr3 (by simp)) st3 stop) (fun r s4 hpq => ?_) fun _ _ f => f.elim
        obtain ⟨hr, I4'⟩ := hpq
        subst hr
        obtain ⟨mC, hnC, _⟩ := I4'.loc
        refine ⟨mC, hnC, fun h' hs' => ?_⟩
        have nC : ∀ b u, H3 b = some u → b ≠ C := fun b u e z => by rw [z] at e; rw [show H3 C = none from I4'.free] at e; cases e
        have hok' : HOk X.prog X.w H3 h' := fun b u e => (I4'.hok b u e).stay (fun c v hcc q => hs'.extBut c v (by
          rcases hcc with z | z
          · rw [z]; exact nC b u e
          · exact nC c _ z) q) (fun _ q => q) fun _ _ q => q
        have un : Un (frs X.stack) fp H2 H3 s2.heap h' :=
          ⟨fun b o e n1 n2 n3 => hs'.extBut b o (neC b o e) (I4'.base.keep b o e n1 n2 n3), fun b o e n1 n2 n3 => by
              obtain ⟨sl, q⟩ := I4'.base.slot b o e n1 n2 n3
              exact ⟨sl, hs'.extBut b _ (neC b o e) q⟩, I4'.base.free, fun b o e n1 => by
              obtain ⟨o', q⟩ := I4'.base.there b o e n1
              exact ⟨o', hs'.extBut b _ (neC b o e) q⟩, I4'.base.tups, I4'.base.frzs, I4'.base.tbls⟩
        exact ⟨.ref D, H3, I2.call' (s' := { s4 with heap := h' }) I4'.os un hok' I4'.bare fun b hb => ⟨(f2 b hb).2.2.2.1, (f2 b hb).2.1, (f2 b hb).2.2.2.2.1, (f2 b hb).2.2.2.2.2⟩, rfl, qn⟩
      · refine wpAny_mono (T.item X' rfl rfl rfl hc i [] s3 _ H3 (fun _ _ => False) I3 (fpX fr3 (by simp)) st3 go) (fun r s4 hpq => ?_) fun _ _ f => f.elim
        obtain ⟨u, hr, h4⟩ := hpq
        subst hr
        have eg : (letOwnedTupleGo (.Name x px) (.ref it) u >>= fun _ => assign (.Name x px) (compEnvC sc ((x, C + 1) :: cl) C X.env) u) = assign (.Name x px) (compEnvC sc ((x, C + 1) :: cl) C X.env) u := pure_bind () _
        show wpAny _ _ (assign (.Name x px) (compEnvC sc ((x, C + 1) :: cl) C X.env) u) _ _ s4
        rw [← eg]
        refine wpAny_bind (wpAny_mono h4 (fun _ s5 hpq => ?_) fun _ _ f => f.elim)
        obtain ⟨y, H5, I5, r5, y5, st5, fr5⟩ := hpq
        have I5' := I5.pinned (fpX fr5 (by simp)) (T.obj _ _ st5)
        refine wpAny_mono (pg_name (X := X') (i := 0) (pos := px) hN' rfl (.inr hx') (.inl (beq_self_eq_true x)) _ s5 _ H5 y u (fun σ' H' => σ' = some y :: σ ∧ H' = H5) I5' r5 ⟨rfl, rfl⟩) (fun _ s6 hpq => ?_) fun _ _ f => f.elim
        obtain ⟨σ6, H6, I6, e1, e2⟩ := hpq
        subst e1 e2
        refine wpAny_mono (PT' _ s6 _ _ _ I6 (step y _ y5)) (fun ok s7 hpq => ?_) fun _ _ f => f.elim
        obtain ⟨H7, I7, q7⟩ := hpq
        have again : ∀ {s8 : Shared} {H8 : Hp} {ys' : List V}, Inv X' ([] ++ pinsAt fp s5.heap) (some y :: σ) H8 s8 → (∃ m', m' < n ∧ W (i + 1) m' ys' H8) → ∃ m, m < n ∧ ∃ i ys o H', Inv X' [] (o :: σ) H' s8 ∧ tn i s8.heap ∧ (∀ b ∈ fp, H' b = none) ∧ W i m ys H' := fun {s8 H8 ys'} I8 ⟨m', hm, w8⟩ => by
          refine ⟨m', hm, i + 1, ys', some y, H8, I8.unpinned, T.keep _ _ _ st5 fun b hb o e => (I8.pin (b, o) (List.mem_append_right _ (List.mem_append_right _ (mem_pinsAt hb e)))).1, fun b hb => ?_, w8⟩
          obtain ⟨o, e, d⟩ := T.obj _ _ st5 b hb
          exact (I8.pin (b, o) (List.mem_append_right _ (List.mem_append_right _ (mem_pinsAt hb e)))).2.1
        cases ok with
        | false => exact again I7 q7
        | true =>
          have q7 : te (some y :: σ) H7 _ := q7
          refine wpAny_mono (PE' _ s7 _ _ _ I7 q7) (fun z s8 hpq => ?_) fun _ _ f => f.elim
          obtain ⟨yv, H8, I8, r8, hD8, q8⟩ := hpq
          refine wpAny_mono (mt_append (X := X') _ s8 _ H8 (.ref D) [yv] (.ref D) [z] (fun _ H9 => H9 = upd H8 D (.lst (ys ++ [yv]))) I8 rfl (.cons r8 .nil) ⟨D, ys, yv, rfl, rfl, hD8, hlen, rfl⟩) (fun _ s9 hpq => ?_) fun _ _ f => f.elim
          obtain ⟨_, H9, I9, _, e9⟩ := hpq
          subst e9
          exact again I9 q8
    · show upd H2 D (.lst []) b = none
      rw [upd_ne (Nat.ne_of_lt (fplt b hb))]
      exact (f2 b hb).1
  exact codeAny_compStart_list (loop _) (T.self _ _ _ _ _ (T.keep _ _ _ st2 fun b hb o e => old b o e) (loop _))
end
end L2
section
seal L2.PE L2.PT L2.PW L2.PA L2.PS L2.PSs L2.PG L2.PGs L2.PI L2.PTs
namespace K43
open PySem L2 RA
def top (i : Nat) : Stmt := PySem.Challenge.pw_roomalgebra_k43_the_table_of_acts.main.body.getD i (.Pass ⟨0, 0, 0, 0⟩)
abbrev s_walked : Stmt := top 14
abbrev s_walked_rooms : Stmt := top 17
abbrev s_Walk : Stmt := top 13
abbrev s_winit : Stmt := inClass s_Walk 0
structure WkT (K : PySem.W.Frag) (mg : Str → Option Value) (cW fI : Addr) (fdI : FuncData) : Prop where
  kW : mg "Walk" = some (.ref cW)
  cls : Cls K cW
  mkW : Mk K cW fI
  na1 : NoAttr K cW "letters"
  na2 : NoAttr K cW "things"
  na3 : NoAttr K cW "words"
  na4 : NoAttr K cW "ways"
  na5 : NoAttr K cW "marks"
  ini : Fun K "__init__" "Walk.__init__" s_winit fI fdI
theorem sc_winit : FnScope ["self", "letters", "start"] ["self", "letters", "start"] (defScope s_winit) := ⟨rfl, rfl, rfl, by decide +kernel, rfl, by decide +kernel, by decide +kernel⟩
set_option maxHeartbeats 4000000 in
theorem ok_winit {P : Program} {w : World} {K : PySem.W.Frag} {mg : Str → Option Value} {base : Heap} {cW fI : Addr} {fdI : FuncData} (WT : WkT K mg cW fI fdI) : FnOk P w K mg base CX0 1 fI fdI ["self", "letters", "start"] (sp_winit cW) := by
  refine WT.ini.ok sc_winit (fun vs H Q E h => ?_) (fun cdv A outer s H vs Q E hr h => ?_)
  · obtain ⟨x, dx, L, v, rfl, _⟩ := h
    rfl
  · obtain ⟨x, dx, L, v, rfl, hx, q⟩ := h
    refine ⟨_, (pss_cons ((ps_fld (f := "letters") (pv 0) (pv 1) rfl)) (pss_cons ((ps_fld (f := "things") (pv 0) (pe_lst (pa_cons (pv 2) pa_nil)) rfl)) (pss_cons ((ps_fld (f := "words") (pv 0) (pe_lst (pa_cons pe_str pa_nil)) rfl)) (pss_cons ((ps_fld (f := "ways") (pv 0) (pe_lst pa_nil) rfl)) (pss_one ((ps_fld (f := "marks") (pv 0) (pe_lst pa_nil) rfl))))))), ?_⟩
    refine ⟨_, rfl, _, rfl, x, cW, dx, _, rfl, hx, WT.cls, WT.na1, by decide, ?_⟩
    refine ⟨_, rfl, line_ge (by show 1 ≤ 16777216; decide), fun t ht => ⟨_, rfl, x, cW, dx, _, rfl, upd_keep upd_same ht, WT.cls, WT.na2, Nat.lt_of_le_of_lt (Nat.le_of_eq (show _ = 1 from rfl)) (by decide), ?_⟩⟩
    have tx' : t ≠ x := fun z => by rw [z, upd_same] at ht; cases ht
    refine ⟨line_ge (by show 1 ≤ 16777216; decide), fun wd hwd => ⟨_, rfl, x, cW, dx, _, rfl, upd_keep upd_same hwd, WT.cls, WT.na3, Nat.lt_of_le_of_lt (Nat.le_of_eq (show _ = 2 from rfl)) (by decide), ?_⟩⟩
    have wx : wd ≠ x := fun z => by rw [z, upd_same] at hwd; cases hwd
    refine ⟨Nat.zero_le _, fun y hy => ⟨_, rfl, x, cW, dx, _, rfl, upd_keep upd_same hy, WT.cls, WT.na4, Nat.lt_of_le_of_lt (Nat.le_of_eq (show _ = 3 from rfl)) (by decide), ?_⟩⟩
    have yx : y ≠ x := fun z => by rw [z, upd_same] at hy; cases hy
    refine ⟨Nat.zero_le _, fun m hm => ⟨_, rfl, x, cW, dx, _, rfl, upd_keep upd_same hm, WT.cls, WT.na5, Nat.lt_of_le_of_lt (Nat.le_of_eq (show _ = 4 from rfl)) (by decide), ?_⟩⟩
    have mx : m ≠ x := fun z => by rw [z, upd_same] at hm; cases hm
    have twd : t ≠ wd := fun z => by rw [← z, upd_ne tx', upd_same] at hwd; cases hwd
    have ty : t ≠ y := fun z => by rw [← z, upd_ne tx', upd_ne twd, upd_ne tx', upd_same] at hy; cases hy
    have tm : t ≠ m := fun z => by rw [← z, upd_ne tx', upd_ne ty, upd_ne tx', upd_ne twd, upd_ne tx', upd_same] at hm; cases hm
    have wy : wd ≠ y := fun z => by rw [← z, upd_ne wx, upd_same] at hy; cases hy
    have wm : wd ≠ m := fun z => by rw [← z, upd_ne wx, upd_ne wy, upd_ne wx, upd_same] at hm; cases hm
    have ym : y ≠ m := fun z => by rw [← z, upd_ne yx, upd_same] at hm; cases hm
    have fin : ∀ b, b ≠ x → b ≠ m → b ≠ y → b ≠ wd → b ≠ t → H b = upd (upd (upd (upd (upd (upd (upd (upd (upd H x (.ins cW dx (putF "letters" (.str (tx L)) []))) t (.lst [v])) x (.ins cW dx (putF "things" (.ref t) (putF "letters" (.str (tx L)) [])))) wd (.lst [.str (tx [])])) x (.ins cW dx (putF "words" (.ref wd) (putF "things" (.ref t) (putF "letters" (.str (tx L)) []))))) y (.lst [])) x (.ins cW dx (putF "ways" (.ref y) (putF "words" (.ref wd) (putF "things" (.ref t) (putF "letters" (.str (tx L)) [])))))) m (.lst [])) x (.ins cW dx (putF "marks" (.ref m) (putF "ways" (.ref y) (putF "words" (.ref wd) (putF "things" (.ref t) (putF "letters" (.str (tx L)) []))))))  b := fun b h1 h2 h3 h4 h5 => by
      rw [upd_ne h1, upd_ne h2, upd_ne h1, upd_ne h3, upd_ne h1, upd_ne h4, upd_ne h1, upd_ne h5, upd_ne h1]
    have free : ∀ {b : Addr} {o : HO}, H b = some o → ∀ {a : Addr}, H a = none → b ≠ a := fun {b o} e {a} n => ne_of_none e n
    have ft : H t = none := by rw [upd_ne tx'] at ht; exact ht
    have fw : H wd = none := by rw [upd_ne wx, upd_ne (Ne.symm twd), upd_ne wx] at hwd; exact hwd
    have fy : H y = none := by rw [upd_ne yx, upd_ne (Ne.symm wy), upd_ne yx, upd_ne (Ne.symm ty), upd_ne yx] at hy; exact hy
    have fm : H m = none := by rw [upd_ne mx, upd_ne (Ne.symm ym), upd_ne mx, upd_ne (Ne.symm wm), upd_ne mx, upd_ne (Ne.symm tm), upd_ne mx] at hm; exact hm
    refine q t wd y m _ twd ty tm wy wm ym ft fw fy fm (fun b o hb e => ?_) ⟨⟨dx, upd_same⟩⟩ ?_ ?_ ?_ ?_
    · rw [← e]
      exact (fin b hb (free e fm) (free e fy) (free e fw) (free e ft)).symm
    · rw [upd_ne tx', upd_ne tm, upd_ne tx', upd_ne ty, upd_ne tx', upd_ne twd, upd_ne tx', upd_same]
    · rw [upd_ne wx, upd_ne wm, upd_ne wx, upd_ne wy, upd_ne wx, upd_same, ← empty_eq]
    · rw [upd_ne yx, upd_ne ym, upd_ne yx, upd_same]
    · rw [upd_ne mx, upd_same]
theorem sc_walked : FnScope ["letters", "start", "goals_of", "is_marked", "most", "walk", "rooms", "room", "goals", "row", "letter", "goal"] ["letters", "start", "goals_of", "is_marked", "most"] (defScope s_walked) := ⟨rfl, rfl, rfl, by decide +kernel, rfl, by decide +kernel, by decide +kernel⟩
set_option maxHeartbeats 4000000 in
theorem ok_walked {P : Program} {w : World} {K : PySem.W.Frag} {mg : Str → Option Value} {base : Heap} {cW fI f fg fm : Addr} {fd fdI fdg fdm : FuncData} {og om : Obj} {gx mx : Str} {ti : Bool} {L : List Nat} {g : List Nat → Nat → List Nat} {mk : List Nat → Bool} {U : List (List Nat)} {Rest : Hp → Prop} (F : FunD K "walked" "walked" s_walked f fd) (WT : WkT K mg cW fI fdI) (tlen : mg "len" = none) (tzip : mg "zip" = none)
    (Fg : FnOk P w K mg base CX0 4 fg fdg [gx] (spGoals ti L g U Rest)) (Fm : FnOk P w K mg base CX0 4 fm fdm [mx] (spMark ti mk U Rest)) (og1 : base.get? fg = some og) (og2 : ∃ fd', og.data = .func fd') (om1 : base.get? fm = some om) (om2 : ∃ fd', om.data = .func fd') (bg : Binds K fdg [gx] []) (bm : Binds K fdm [mx] []) (hRest : ∀ H H' : Hp, Same H H' → Rest H → Rest H') :
    FnOk P w K mg base CX0 5 f fd ["letters", "start", "goals_of", "is_marked", "most"] (sp_walkedL cW ti L g mk U Rest fg fm) := by
  obtain ⟨oc, od, dat, sl⟩ := og
  obtain ⟨fd', rfl⟩ := og2
  obtain ⟨oc2, od2, dat2, sl2⟩ := om
  obtain ⟨fd2', rfl⟩ := om2
  refine F.ok sc_walked (fun vs H Q E h => ?_) (fun cdv A outer s H vs Q E hr h => ?_)
  · obtain ⟨s, sv, most, rfl, _⟩ := h
    rfl
  · obtain ⟨s0, sv, most, rfl, hL, hsv, hsU, hcl, hU, hR0, q⟩ := h
    have hr2 := hr.mono (j := 2) (by decide)
    refine ⟨_, (pss_cons ((ps_set (i := 5) sc_walked.nd rfl (Or.inl rfl) (pe_make WT.mkW (ok_winit WT) hr2 rfl WT.kW (WT.ini.binds (ps := ["self", "letters", "start"]) (fun _ _ _ _ _ _ us hl => match us, hl with | [_, _, _], _ => rfl)) .nil pass0 (pa_cons (pv 0) (pa_cons (pv 1) pa_nil))))) (pss_cut ((ps_set (i := 6) sc_walked.nd rfl (Or.inl rfl) (pe_wone hr.units (pv 1) pe_int))) (pss_cons ((ps_while PassesOwn.never (pt_cmpR op_lt (pe_callB call_len_seq (by rfl) tlen PySem.boot_len (pa_cons (pe_fld (f := "ways") (pv 5) rfl) pa_nil)) (pe_callB call_len_seq (by rfl) tlen PySem.boot_len (pa_cons (pe_fld (f := "things") (pv 5) rfl) pa_nil)) (nomark _)) (pss_cut ((ps_if ((pw_and (pt_cmpR op_notN (pv 4) pe_non (nomark _)) (pw_and1 (pt_cmpR op_gt (pe_callB call_len_seq (by rfl) tlen PySem.boot_len (pa_cons (pe_fld (f := "things") (pv 5) rfl) pa_nil)) (pv 4) (nomark _)))).pt) ((pss_one (ps_break))) (pss_nil))) (pss_cons ((ps_set (i := 7) sc_walked.nd rfl (Or.inl rfl) ((pe_callB call_len_seq (by rfl) tlen PySem.boot_len (pa_cons (pe_fld (f := "ways") (pv 5) rfl) pa_nil))))) (pss_cons ((ps_set (i := 8) sc_walked.nd rfl (Or.inl rfl) (pe_callL Fg hr og1 bg (pv 2) (pa_cons (pe_ix ix_list ((pe_fld (f := "things") (pv 5) rfl)) (pv 7) (fun _ _ => rfl)) pa_nil)))) (pss_cons ((ps_set (i := 9) sc_walked.nd rfl (Or.inl rfl) (pe_lst pa_nil))) (pss_cons ((ps_for PassesOwn.never rfl (pi_zipG rfl tzip (pa_cons (pv 0) (pa_cons (pv 8) pa_nil))) (pg_tup rfl (pgs_cons (pg_name (i := 10) sc_walked.nd rfl (Or.inl rfl)) (pgs_cons (pg_name (i := 11) sc_walked.nd rfl (Or.inl rfl)) pgs_nil))) (pss_cut ((ps_if (pt_cmpR (op_notinW hr.units) (pv 11) (pv 6) (by with_unfolding_all rfl)) ((pss_cons (ps_asg (pe_callB call_len_seq (by rfl) tlen PySem.boot_len (pa_cons (pe_fld (f := "things") (pv 5) rfl) pa_nil)) (pg_sub (pv 6) (pv 11) (set_dictW hr.units))) (pss_cons (ps_expr (pe_bm PySem.F.plainAttrs_list PySem.F.slot_list_append PySem.F.type_list_append mt_append ((pe_fld (f := "things") (pv 5) rfl)) (pa_cons (pv 11) pa_nil))) (pss_one (ps_expr (pe_bm PySem.F.plainAttrs_list PySem.F.slot_list_append PySem.F.type_list_append mt_append ((pe_fld (f := "words") (pv 5) rfl)) (pa_cons (pe_op op_add_str (pe_ix ix_list ((pe_fld (f := "words") (pv 5) rfl)) (pv 7) (fun _ _ => rfl)) (pv 10)) pa_nil))))))) (pss_nil))) (pss_one (ps_expr (pe_bm PySem.F.plainAttrs_list PySem.F.slot_list_append PySem.F.type_list_append mt_append (pv 9) (pa_cons (pe_ix (ix_dictW hr.units) (pv 6) (pv 11) (fun _ _ => rfl)) pa_nil))))))) (pss_cons (ps_expr (pe_bm PySem.F.plainAttrs_list PySem.F.slot_list_append PySem.F.type_list_append mt_append ((pe_fld (f := "ways") (pv 5) rfl)) (pa_cons (pv 9) pa_nil))) (pss_one (ps_expr (pe_bm PySem.F.plainAttrs_list PySem.F.slot_list_append PySem.F.type_list_append mt_append ((pe_fld (f := "marks") (pv 5) rfl)) (pa_cons (pe_callL Fm hr om1 bm (pv 3) (pa_cons (pe_ix ix_list ((pe_fld (f := "things") (pv 5) rfl)) (pv 7) (fun _ _ => rfl)) pa_nil)) pa_nil)))))))))))) (pss_one (ps_ret (pv 5)))))), ?_⟩
    have tn : ∀ {b : Addr} {o : HO}, H b = some o → ∀ {c : Addr}, H c = none → b ≠ c := fun {b o} e {c} n => ne_of_none e n
    refine ⟨_, rfl, _, rfl, fun wk dx hwk hdx hne => ⟨wk, dx, L, sv, rfl, upd_same, fun t wd y md H1 a1 a2 a3 a4 a5 a6 ft fw fy fmd kp hW ht hwd hy hmd => ⟨rfl, ?_⟩⟩⟩
    have fr : ∀ {b : Addr}, upd (upd H dx (.own wk)) wk (.ins cW dx []) b = none → H b = none := fun {b} e => by
      by_cases h1 : b = wk
      · rw [h1]; exact hwk
      · rw [upd_ne h1] at e
        by_cases h2 : b = dx
        · rw [h2]; exact hdx
        · rw [upd_ne h2] at e
          exact e
    have s1 : Same H H1 := fun b o e => kp b o (tn e hwk) (by rw [upd_ne (tn e hwk), upd_ne (tn e hdx)]; exact e)
    have hsv1 : ThV ti H1 s0 sv := hsv.same fun b xs e => s1 _ _ e
    have hdict : ∀ (d : Addr) (H2 : Hp), H1 d = none → RmAt P w H2 d ti [s0] → (∀ b o, H1 b = some o → H2 b = some o) → WI P w H H2 cW ti L wk t wd y md d [s0] [sv] [[]] [] [] [] := fun d H2 hd hrm s2 => by
      have ne : ∀ {b : Addr} {o : HO}, H1 b = some o → d ≠ b := fun {b o} e z => by rw [← z, hd] at e; cases e
      obtain ⟨dx', ew⟩ := hW.ex
      exact ⟨s1.trans s2, ⟨dx', s2 _ _ ew⟩, s2 _ _ ht, ⟨rfl, fun i k v h1 h2 => by
        match i, h1, h2 with
        | 0, h1, h2 => cases h1; cases h2; exact hsv1.same fun b xs e => s2 _ _ e
        | i + 1, h1, _ => simp at h1⟩, s2 _ _ hwd, s2 _ _ hy, ⟨rfl, fun i a r h1 => by simp at h1⟩, s2 _ _ hmd, hrm, fr ft, fr fw, fr fy, fr fmd, same_none s1 hd, a1, a2, a3, a4, a5, a6, ne ht, ne hwd, ne hy, ne hmd, ne ew, fun a ha => by simp at ha⟩
    refine ⟨fun σ' H' => ∃ d, σ' = [some (.str (tx L)), some sv, some (.ref fg), some (.ref fm), some (mostV most), some (.ref wk), some (.ref d), none, none, none, none, none] ∧ WI P w H H' cW ti L wk t wd y md d [s0] [sv] [[]] [] [] [], ?_, ?_⟩
    · refine ⟨ti, fun d hd => ⟨_, rfl, upd_same, ?_⟩⟩
      have up : ∀ {ob ob2 : HO} (b : Addr) (o : HO), H1 b = some o → upd (upd H1 d ob) d ob2 b = some o := fun {ob ob2} b o e => by
        rw [upd_upd]
        exact upd_keep e hd
      cases hti : ti with
      | true =>
        rw [hti] at hsv1 hdict
        unfold ThV at hsv1
        rw [if_pos rfl] at hsv1
        obtain ⟨n, rfl, rfl⟩ := hsv1
        refine .inl ⟨rfl, _, rfl, d, rfl, hdict d _ hd ?_ up⟩
        unfold RmAt
        rw [if_pos rfl]
        exact ⟨upd_same, fun t ht => ⟨n, List.mem_singleton.mp ht⟩⟩
      | false =>
        rw [hti] at hsv1 hdict
        have hsv2 := hsv1
        unfold ThV at hsv2
        rw [if_neg (by decide)] at hsv2
        obtain ⟨b, rfl, hb⟩ := hsv2
        have hT : ∀ {ob : HO}, TIn (upd H1 d ob) (zs s0) b := fun {ob} => by
          unfold TIn
          rw [zs_intsV]
          exact upd_keep hb hd
        refine .inr ⟨rfl, b, zs s0, rfl, hT, d, rfl, hdict d _ hd ?_ up⟩
        unfold RmAt
        rw [if_neg (by decide)]
        refine ⟨_, upd_same, fun x hx => ?_, rfl, fun i k x h1 h2 => ?_⟩
        · rw [List.mem_singleton.mp hx, upd_upd]
          exact hT
        · match i, h1, h2 with
          | 0, h1, h2 => cases h1; cases h2; exact ⟨rfl, rfl⟩
          | i + 1, h1, _ => simp at h1
    rintro σ1 H2 ⟨d, rfl, hWI⟩
    have fin : ∀ {H' : Hp} {ks : List (List Nat)} {vks : List V} {ws : List (List Nat)} {rows : List Addr} {R : List (List Nat)} {B : List Bool}, WI P w H H' cW ti L wk t wd y md d ks vks ws rows R B → WPu g L s0 mk U ks ws R B 0 → (R.length = ks.length ∨ ∃ n, most = some n ∧ n < ks.length) → Q (.ref wk) H' := fun hI hP he =>
      q wk t wd y md _ _ _ _ _ _ _ hI.sm hI.obj hI.ht hI.th hI.hw hI.hy hI.wr hI.hm hP.bf hP.ways hP.bl hP.mks hP.sub (Nat.le_trans (Nat.le_add_left _ _) hP.left) he
    refine ⟨fun n σ' H' => ∃ ks vks ws rows R B s7 s8 s9 s10 s11, n = U.length - List.length R ∧ σ' = [some (.str (tx L)), some sv, some (.ref fg), some (.ref fm), some (mostV most), some (.ref wk), some (.ref d), s7, s8, s9, s10, s11] ∧ WI P w H H' cW ti L wk t wd y md d ks vks ws rows R B ∧ WPu g L s0 mk U ks ws R B 0, ⟨_, [s0], [sv], [[]], [], [], [], none, none, none, none, none, rfl, rfl, hWI, WPu.start hsU⟩, ?_⟩
    rintro n σ' H3 ⟨ks, vks, ws, rows, R, B, s7, s8, s9, s10, s11, rfl, rfl, hI, hP⟩
    obtain ⟨dx', ew⟩ := hI.obj.ex
    have hrl : (rows.map V.ref).length = R.length := by rw [List.length_map, hI.wr.1]
    have hvl : vks.length = ks.length := hI.th.1
    have hksU : ks.length ≤ U.length := Nat.le_trans (Nat.le_add_left _ _) hP.left
    refine ⟨_, rfl, wk, cW, dx', _, _, rfl, ew, WT.cls, WT.na4, rfl, y, _, rfl, .inl (SqL.of hI.hy), _, rfl, wk, cW, dx', _, _, rfl, ew, WT.cls, WT.na2, rfl, t, _, rfl, .inl (SqL.of hI.ht), _, _, rfl, rfl, _, rfl, ite3 (fun hlt => ?_) (fun hlt => ?_)⟩
    case _ =>
      rw [hrl, hvl] at hlt
      have hlt : R.length < ks.length := Int.ofNat_lt.mp hlt
      refine ⟨fun σ2 H4 => ∃ ks vks ws rows R' B s7 s8 s9 s10 s11, R'.length = R.length + 1 ∧ σ2 = [some (.str (tx L)), some sv, some (.ref fg), some (.ref fm), some (mostV most), some (.ref wk), some (.ref d), s7, s8, s9, s10, s11] ∧ WI P w H H4 cW ti L wk t wd y md d ks vks ws rows R' B ∧ WPu g L s0 mk U ks ws R' B 0, ?_, ?_⟩
      · rintro σ2 H4 ⟨ks', vks', ws', rows', R', B', u7, u8, u9, u10, u11, hR', hσ, hI', hP'⟩
        exact ⟨U.length - R'.length, by rw [hR']; omega, ks', vks', ws', rows', R', B', u7, u8, u9, u10, u11, rfl, hσ, hI', hP'⟩
      obtain ⟨k0, hk0⟩ : ∃ k0, ks[R.length]? = some k0 := ⟨ks[R.length], List.getElem?_eq_getElem hlt⟩
      obtain ⟨v0, hv0⟩ : ∃ v0, vks[R.length]? = some v0 := ⟨vks[R.length]'(by rw [hvl]; exact hlt), List.getElem?_eq_getElem _⟩
      obtain ⟨a0, ha0⟩ : ∃ a0, ws[R.length]? = some a0 := ⟨ws[R.length]'(by rw [← hP.bf.len]; exact hlt), List.getElem?_eq_getElem _⟩
      have hk0U : k0 ∈ U := hP.sub k0 (List.mem_of_getElem? hk0)
      refine ⟨fun σ2 H4 => σ2 = [some (.str (tx L)), some sv, some (.ref fg), some (.ref fm), some (mostV most), some (.ref wk), some (.ref d), s7, s8, s9, s10, s11] ∧ H4 = H3, ?_, ?_⟩
      · cases most with
        | none => exact ⟨_, rfl, rfl, _, rfl, iteNS rfl (iteF ⟨rfl, rfl⟩)⟩
        | some M =>
          refine ⟨_, rfl, rfl, _, rfl, iteNI ⟨_, rfl, wk, cW, dx', _, _, rfl, ew, WT.cls, WT.na2, rfl, t, _, rfl, .inl (SqL.of hI.ht), _, rfl, _, _, rfl, rfl, _, rfl, ?_⟩⟩
          rw [hvl]
          exact ite3 (fun hgt => ⟨_, rfl, fin hI hP (.inr ⟨M, rfl, Int.ofNat_lt.mp hgt⟩)⟩) (fun _ => ⟨rfl, rfl⟩)
      rintro σ2 H4 ⟨rfl, rfl⟩
      refine ⟨_, rfl, wk, cW, dx', _, _, rfl, ew, WT.cls, WT.na4, rfl, y, _, rfl, .inl (SqL.of hI.hy), ?_⟩
      rw [hrl]
      have hat : atI vks ((R.length : Nat) : Int) = some v0 := atI_nat hv0
      refine ⟨rfl, _, rfl, wk, cW, dx', _, _, rfl, ew, WT.cls, WT.na2, rfl, _, rfl, t, _, _, _, rfl, rfl, SqL.of hI.ht, hat, k0, v0, rfl, hI.th.2 _ _ _ hk0 hv0, hk0U, hRest _ _ hI.sm hR0, fun gs xs H5 s5 hgs hxl hxs => ?_⟩
      have hI5 := hI.any s5
      have hgs' : H5 gs = some (.tup xs) ∨ H5 gs = some (.lst xs) := hgs.imp id fun z => z.2
      have gne : ∀ {b : Addr} {o : HO}, H4 b = some o → (∀ zs, o ≠ .tup zs) → gs ≠ b := fun {b o} e ho z => by
        rcases hgs with h1 | ⟨h1, _⟩
        · rw [z, s5 _ _ e] at h1
          cases h1
          exact ho _ rfl
        · rw [z, e] at h1
          cases h1
      obtain ⟨φd, hφ⟩ : ∃ φ, H4 d = some (.ext φ) := by
        have hr0 := hI.rm
        unfold RmAt at hr0
        cases ti with
        | true => rw [if_pos rfl] at hr0; exact ⟨_, hr0.1⟩
        | false => rw [if_neg (by decide)] at hr0; obtain ⟨kvs, e, _⟩ := hr0; exact ⟨_, e⟩
      have g1 : gs ≠ t := gne hI.ht (by intro zs z; cases z)
      have g2 : gs ≠ wd := gne hI.hw (by intro zs z; cases z)
      have g3 : gs ≠ y := gne hI.hy (by intro zs z; cases z)
      have g4 : gs ≠ md := gne hI.hm (by intro zs z; cases z)
      have g5 : gs ≠ d := gne hφ (by intro zs z; cases z)
      refine ⟨Nat.zero_le _, fun rw hrw => ?_⟩
      have r1 : rw ≠ t := Ne.symm (ne_of_none hI5.ht hrw)
      have r2 : rw ≠ wd := Ne.symm (ne_of_none hI5.hw hrw)
      have r3 : rw ≠ y := Ne.symm (ne_of_none hI5.hy hrw)
      have r4 : rw ≠ md := Ne.symm (ne_of_none hI5.hm hrw)
      have r5 : rw ≠ d := Ne.symm (ne_of_none (s5 _ _ hφ) hrw)
      have r6 : rw ∉ rows := fun hm => by
        obtain ⟨i, hi⟩ := List.mem_iff_getElem?.mp hm
        have hil : i < R.length := by rw [← hI5.wr.1]; exact (List.getElem?_eq_some_iff.mp hi).1
        rw [hI5.wr.2 i rw _ hi (List.getElem?_eq_getElem hil)] at hrw
        cases hrw
      have rg : gs ≠ rw := fun z => by
        rw [← z] at hrw
        rcases hgs' with h1 | h1 <;> rw [hrw] at h1 <;> cases h1
      have r0 : H rw = none := same_none hI5.sm hrw
      have hI6 := hI5.any (Same.upd (o := .lst []) hrw)
      have hgs6 : upd H5 rw (.lst []) gs = some (.tup xs) ∨ upd H5 rw (.lst []) gs = some (.lst xs) := by rw [upd_ne rg]; exact hgs'
      refine ⟨_, rfl, _, rfl, _, _, rfl, zips_of hgs6 fun d2 hd2 tk => ?_⟩
      have hxlen : ((tx L).cps.toList.map fun c => V.str ⟨#[c]⟩).length = xs.length := by rw [List.length_map, tx_cps, hxl]
      refine for_zipG (xs := (tx L).cps.toList.map fun c => V.str ⟨#[c]⟩) (ys := xs) hxlen (fun q σ3 H6 => ∃ ks' vks' ws' r v10 v11, σ3 = [some (.str (tx L)), some sv, some (.ref fg), some (.ref fm), some (mostV most), some (.ref wk), some (.ref d), some (.int ((R.length : Nat) : Int)), some (.ref gs), some (.ref rw), v10, v11] ∧
        WI P w H H6 cW ti L wk t wd y md d ks' vks' ws' rows R B ∧ WPu g L s0 mk U ks' ws' R B q ∧ RowOk g ks' R.length r q ∧ H6 rw = some (.lst (intsV r)) ∧ H6 gs = H5 gs ∧ (∀ (j : Nat) (x : V), xs[j]? = some x → ThV ti H6 (g k0 j) x) ∧ ks'[R.length]? = some k0 ∧ ws'[R.length]? = some a0) ?_ ?_ ?_ ?_
      · exact ⟨ks, vks, ws, [], s10, s11, rfl, hI6, hP, RowOk.nil, upd_same, upd_ne rg, fun j x hx => (hxs j x hx).same fun b zs e => upd_keep e hrw, hk0, ha0⟩
      · rintro q σ3 H6 ⟨ks', vks', ws', r, v10, v11, rfl, hI', hP', hro, hrw', hgk, hth, hk', ha'⟩
        exact ⟨rfl, hd2 H6 (by rw [hgk, upd_ne rg])⟩
      · rintro q cx gx' p σ3 H6 hc hg hp ⟨ks', vks', ws', r, v10, v11, rfl, hI', hP', hro, hrw', hgk, hth, hk', ha'⟩
        rw [tx_cps, List.getElem?_map] at hc
        cases hcq : L[q]? with
        | none => rw [hcq] at hc; cases hc
        | some c =>
        rw [hcq] at hc
        cases hc
        have hqL : q < L.length := (List.getElem?_eq_some_iff.mp hcq).1
        have hcd : L.getD q 0 = c := by rw [List.getD_eq_getElem?_getD, hcq]; rfl
        have hgU : g k0 q ∈ U := hcl k0 hk0U q hqL
        have hI7 := hI'.any (Same.upd (o := .tup [.str ⟨#[c]⟩, gx']) hp)
        have hthq : ThV ti H6 (g k0 q) gx' := hth q gx' hg
        have hth7 : ThV ti (upd H6 p (.tup [.str ⟨#[c]⟩, gx'])) (g k0 q) gx' := hthq.same fun b zs e => upd_keep e hp
        have hrp : upd H6 p (.tup [.str ⟨#[c]⟩, gx']) rw = some (.lst (intsV r)) := upd_keep hrw' hp
        have hgsp : upd H6 p (.tup [.str ⟨#[c]⟩, gx']) gs = H5 gs := by
          have : gs ≠ p := fun z => by
            rw [← z, hgk] at hp
            rcases hgs' with h1 | h1 <;> rw [hp] at h1 <;> cases h1
          rw [upd_ne this]
          exact hgk
        have hthp : ∀ (j : Nat) (x : V), xs[j]? = some x → ThV ti (upd H6 p (.tup [.str ⟨#[c]⟩, gx'])) (g k0 j) x := fun j x hx => (hth j x hx).same fun b zs e => upd_keep e hp
        have hp7 : upd H6 p (.tup [.str ⟨#[c]⟩, gx']) p = some (.tup [.str ⟨#[c]⟩, gx']) := upd_same
        generalize upd H6 p (.tup [.str ⟨#[c]⟩, gx']) = H7 at hI7 hth7 hrp hgsp hthp hp7
        have hkU : ks'.length ≤ U.length := Nat.le_trans (Nat.le_add_left _ _) hP'.left
        have hvl' : vks'.length = ks'.length := hI7.th.1
        refine ⟨p, _, rfl, SqT.of hp7, rfl, _, _, rfl, _, _, rfl, rfl, ?_⟩
        refine ⟨fun σ4 H8 => ∃ ks2 vks2 ws2, σ4 = [some (.str (tx L)), some sv, some (.ref fg), some (.ref fm), some (mostV most), some (.ref wk), some (.ref d), some (.int ((R.length : Nat) : Int)), some (.ref gs), some (.ref rw), some (.str ⟨#[c]⟩), some gx'] ∧ WI P w H H8 cW ti L wk t wd y md d ks2 vks2 ws2 rows R B ∧ WPu g L s0 mk U ks2 ws2 R B (q + 1) ∧ RowOk g ks2 R.length r q ∧
          H8 rw = some (.lst (intsV r)) ∧ H8 gs = H5 gs ∧ (∀ (j : Nat) (x : V), xs[j]? = some x → ThV ti H8 (g k0 j) x) ∧ ks2[R.length]? = some k0 ∧ ws2[R.length]? = some a0 ∧ g k0 q ∈ ks2, ?_, ?_⟩
        · refine ⟨_, rfl, _, rfl, d, _, rfl, hI7.rm.get hth7, _, rfl, ?_⟩
          by_cases hm : g k0 q ∈ ks'
          · rw [(ix_get hm).1]
            exact iteF ⟨ks', vks', ws', rfl, hI7, hP'.old hL.nd hk' ha' hqL hm, hro, hrp, hgsp, hthp, hk', ha', hm⟩
          · rw [show ixO ks' (g k0 q) = none from if_neg hm]
            have hk100 : ks'.length < sizeLine := Nat.lt_of_lt_of_le (hP'.room hgU hm) hU
            obtain ⟨ob, hput, hrm2⟩ := hI7.rm.put hth7 hm hk100
            obtain ⟨dx', ew7⟩ := hI7.obj.ex
            have ew8 : upd H7 d ob wk = _ := (upd_ne (Ne.symm hI7.e5)).trans ew7
            have ht8 : upd H7 d ob t = _ := (upd_ne (Ne.symm hI7.e1)).trans hI7.ht
            have hw8 : upd H7 d ob wd = _ := (upd_ne (Ne.symm hI7.e2)).trans hI7.hw
            have wkt : wk ≠ t := ne_of ew7 hI7.ht (by intro z; cases z)
            have ew9 : upd (upd H7 d ob) t (.lst (vks' ++ [gx'])) wk = _ := (upd_ne wkt).trans ew8
            have hw9 : upd (upd H7 d ob) t (.lst (vks' ++ [gx'])) wd = _ := (upd_ne (Ne.symm hI7.d1)).trans hw8
            have hatw : atI (wordsV ws') ((R.length : Nat) : Int) = some (.str (tx a0)) := atI_nat (by rw [wordsV, List.getElem?_map, ha']; rfl)
            have hwl : a0.length < sizeLine := Nat.lt_of_le_of_lt (hP'.wl a0 (List.mem_of_getElem? ha')) hk100
            rw [← hvl'] at hput
            refine iteT ⟨_, rfl, wk, cW, dx', _, _, rfl, ew7, WT.cls, WT.na2, rfl, t, _, rfl, .inl (SqL.of hI7.ht), _, rfl, _, rfl, d, _, rfl, hput, ?_⟩
            refine ⟨_, rfl, wk, cW, dx', _, _, rfl, ew8, WT.cls, WT.na2, rfl, .inl ⟨rfl, _, SqL.of ht8⟩, _, rfl, t, _, _, rfl, rfl, ht8, (by rw [hvl']; exact hk100), ?_⟩
            refine ⟨_, rfl, wk, cW, dx', _, _, rfl, ew9, WT.cls, WT.na3, rfl, .inl ⟨rfl, _, SqL.of hw9⟩, _, rfl, wk, cW, dx', _, _, rfl, ew9, WT.cls, WT.na3, rfl, _, rfl, wd, _, _, _, rfl, rfl, SqL.of hw9, hatw, _, rfl, _, _, rfl, rfl, ?_, wd, _, _, rfl, rfl, hw9, (by rw [wordsV, List.length_map, ← hP'.bf.len]; exact hk100), ?_⟩
            · show (tx a0).length + 1 ≤ sizeLine
              rw [tx_len]
              exact hwl
            have hch : tx a0 ++ (⟨#[c]⟩ : Str) = tx (a0 ++ [c]) := by rw [← tx_app]; rfl
            have hI10 := hI7.new (a := a0 ++ [c]) hth7 hrm2
            have hP10 := hP'.new hL.nd hk' ha' hqL hm hgU
            rw [hcd] at hP10
            have kt : ∀ b zs, H7 b = some (.tup zs) → upd (upd (upd H7 d ob) t (.lst (vks' ++ [gx']))) wd (.lst (wordsV ws' ++ [.str (tx (a0 ++ [c]))])) b = some (.tup zs) := fun b zs e => by
              obtain ⟨φ, hφ7⟩ : ∃ φ, H7 d = some (.ext φ) := by
                have hr0 := hI7.rm
                unfold RmAt at hr0
                cases ti with
                | true => rw [if_pos rfl] at hr0; exact ⟨_, hr0.1⟩
                | false => rw [if_neg (by decide)] at hr0; obtain ⟨kvs, e, _⟩ := hr0; exact ⟨_, e⟩
              rw [upd_ne (ne_of e hI7.hw (by intro z; cases z)), upd_ne (ne_of e hI7.ht (by intro z; cases z)), upd_ne (ne_of e hφ7 (by intro z; cases z))]
              exact e
            refine ⟨ks' ++ [g k0 q], vks' ++ [gx'], ws' ++ [a0 ++ [c]], rfl, ?_, hP10, hro.grow (List.getElem?_eq_some_iff.mp hk').1, ?_, ?_, fun j x hx => ?_, get_app hk', get_app ha', by simp⟩
            · rw [← hch] at hI10
              exact hI10
            · rw [upd_ne r2, upd_ne r1, upd_ne r5]
              exact hrp
            · rw [upd_ne g2, upd_ne g1, upd_ne g5]
              exact hgsp
            · refine (hthp j x hx).same fun b zs e => ?_
              have := kt b zs e
              rw [← hch] at this
              exact this
        rintro σ4 H8 ⟨ks2, vks2, ws2, rfl, hI8, hP8, hro8, hrw8, hg8, hth8, hk8, ha8, hm8⟩
        have hget := hI8.rm.get (hth8 q gx' hg)
        rw [(ix_get hm8).1] at hget
        have hq3 : r.length ≤ 100 := by rw [hro8.1]; exact Nat.le_trans (Nat.le_of_lt hqL) (Nat.le_trans hL.hi (by decide))
        refine ⟨_, rfl, .inl ⟨rfl, _, SqL.of hrw8⟩, _, rfl, _, rfl, d, _, rfl, hget, rw, _, _, rfl, rfl, hrw8, line_lt (by rw [intsV_len]; exact Nat.le_trans hq3 (by decide)), ?_⟩
        refine ⟨ks2, vks2, ws2, r ++ [ks2.idxOf (g k0 q)], _, _, rfl, hI8.beside hrw8 r0 r1 r2 r3 r4 r5 r6, hP8, hro8.snoc hk8 hm8, ?_, ?_, fun j x hx => ?_, hk8, ha8⟩
        · rw [upd_same, ints_snocW]
        · rw [upd_ne rg]
          exact hg8
        · exact (hth8 j x hx).same fun b zs e => by rw [upd_ne (ne_of e hrw8 (by intro z; cases z))]; exact e
      · rintro σ3 H6 ⟨ks', vks', ws', r, v10, v11, rfl, hI', hP', hro, hrw', hgk, hth, hk', ha'⟩
        rw [hxlen, hxl] at hP' hro
        obtain ⟨dx', ew6⟩ := hI'.obj.ex
        have hkU : ks'.length ≤ sizeLine := Nat.le_trans (Nat.le_trans (Nat.le_add_left _ _) hP'.left) hU
        have hR100 : R.length < sizeLine := Nat.lt_of_lt_of_le (List.getElem?_eq_some_iff.mp hk').1 hkU
        have hI8 := hI'.row hrw' r1 r2 r3 r4 r5
        obtain ⟨dx2, ew8⟩ := hI8.obj.ex
        obtain ⟨v1, hv1⟩ : ∃ v1, vks'[R.length]? = some v1 := ⟨vks'[R.length]'(by rw [hI'.th.1]; exact (List.getElem?_eq_some_iff.mp hk').1), List.getElem?_eq_getElem _⟩
        refine ⟨_, rfl, wk, cW, dx', _, _, rfl, ew6, WT.cls, WT.na4, rfl, .inl ⟨rfl, _, SqL.of hI'.hy⟩, _, rfl, y, _, _, rfl, rfl, hI'.hy, (by rw [List.length_map, hI'.wr.1]; exact hR100), ?_⟩
        refine ⟨_, rfl, wk, cW, dx2, _, _, rfl, ew8, WT.cls, WT.na5, rfl, .inl ⟨rfl, _, SqL.of hI8.hm⟩, rfl, _, rfl, wk, cW, dx2, _, _, rfl, ew8, WT.cls, WT.na2, rfl, _, rfl, t, _, _, _, rfl, rfl, SqL.of hI8.ht, atI_nat hv1, k0, v1, rfl, hI8.th.2 _ _ _ hk' hv1, hk0U, hRest _ _ hI8.sm hR0, md, _, _, rfl, rfl, hI8.hm, (by rw [List.length_map, hP'.bl]; exact hR100), ?_⟩
        exact ⟨ks', vks', ws', rows ++ [rw], R ++ [r], B ++ [mk k0], _, _, _, _, _, by rw [List.length_append]; rfl, rfl, hI8.mark, hP'.next hk' hro⟩
    case _ =>
      rw [hrl, hvl] at hlt
      exact ⟨_, rfl, fin hI hP (.inl (Nat.le_antisymm hP.le (Nat.le_of_not_lt fun z => hlt (Int.ofNat_lt.mpr z))))⟩
end K43
namespace K43
open PySem L2 RA
abbrev s_g : Stmt := (defBody s_walked_rooms).getD 0 (.Pass ⟨0, 0, 0, 0⟩)
abbrev s_m : Stmt := (defBody s_walked_rooms).getD 1 (.Pass ⟨0, 0, 0, 0⟩)
abbrev q_g : Str := "walked_rooms.<locals>.goals_of"
abbrev q_m : Str := "walked_rooms.<locals>.is_marked"
def posOf (s : Stmt) : Pos := match s with
  | .FunctionDef _ _ _ _ _ _ _ _ _ p => p
  | _ => ⟨0, 0, 0, 0⟩
def sites : List (Pos × Str) := [(posOf s_g, q_g), (posOf s_m, q_m)]
theorem sc_g : FnScopeC ["state", "machine"] ["state"] ["machine"] (defScope s_g) := ⟨rfl, rfl, rfl, by decide +kernel, rfl, rfl, by decide, by decide +kernel, by decide +kernel⟩
theorem sc_m : FnScopeC ["state", "machine"] ["state"] ["machine"] (defScope s_m) := ⟨rfl, rfl, rfl, by decide +kernel, rfl, rfl, by decide, by decide +kernel, by decide +kernel⟩
section
variable {P : Program} {w : World} {K : PySem.W.Frag} {mg : Str → Option Value} {base : Heap} {f c m : Addr} {clos : List (Str × Addr)} {doc pm ctv : Value} {L : List Nat} {W : List (List Nat)} {B : List Bool} {n : Nat}
set_option maxHeartbeats 4000000 in
theorem ok_g (ho : base.get? f = some (PySem.W.fnMade "goals_of" q_g (defArgs s_g) (defBody s_g) (defScope s_g) clos doc pm c ctv)) (hcd : base.CodeRec (.ref c) q_g) (C : ClosAt base clos (defScope s_g) ["machine"] [.ref m]) (hMa : Mach L W B) (hn : n ≤ 60) (ttup : mg "tuple" = none) (d_lots_after : Df P w K mg base "lots_after" 1 ["machine", "rooms"] sp_lotsafter) :
    FnOk P w K mg base CX0 2 f (PySem.W.fnX "goals_of" q_g (defArgs s_g) (defBody s_g) (defScope s_g) clos .none .none doc pm none (.ref c) ctv) ["state"] (spGoals false L (gA W) (tups W.length n) fun H => MachAt H m L W B) := by
  refine fn_ofC (fvs := [.ref m]) ho rfl hcd sc_g C (fun vs H Q E h => ?_) (fun A outer s H vs Q E hr h => ?_)
  · obtain ⟨k, v, rfl, _⟩ := h
    rfl
  · obtain ⟨k, v, rfl, hv, hU, hM, q⟩ := h
    refine ⟨_, (pss_one (ps_ret (pe_compS ["state", "machine"] rfl (by decide) (pi_sq (pe_df d_lots_after hr (pa_cons (pv 1) (pa_cons (pv 0) pa_nil)))) (fun cl C fp s' H' => ⟨pts_nil, pe_callTy (call_tupleK K) (by rfl) ttup PyProof.Rows.boot_tuple (pa_cons (pv 0) pa_nil)⟩)))), ?_⟩
    unfold ThV at hv
    rw [if_neg (by decide)] at hv
    obtain ⟨b, rfl, hb⟩ := hv
    obtain ⟨hk1, hk2⟩ := mem_tups.mp hU
    have hL3 := hMa.lt.hi
    dsimp only [tRet]
    refine ⟨_, rfl, _, rfl, m, b, _, L, W, B, k, rfl, hM, hMa, .inr rfl, hb, by rw [hk1]; exact hn, hk2, fun l ls H1 s1 hl hll hls => ?_⟩
    refine ⟨l, _, _, rfl, .inl rfl, hl, fun J ov => comp_over ov hl (fun D j ys H' => ∃ ts : List Addr, ys = ts.map V.ref ∧ ts.length = j ∧ ∀ (i : Nat) (a : Addr), ts[i]? = some a → H' a = some (.tup (intsV (gA W k i)))) (by rw [List.length_map, hll]; exact line_ge (Nat.le_trans hL3 (by decide))) (fun D hD => ⟨[], rfl, rfl, fun i a e => by simp at e⟩) ?_ ?_⟩
    · intro D j x ys H' R1 R2 hD hx hsm hDl hp k1 k2
      obtain ⟨ts, rfl, htl, hts⟩ := hp
      rw [List.getElem?_map] at hx
      obtain ⟨a, ha, rfl⟩ := Option.map_eq_some_iff.mp hx
      refine tAlways_if ⟨_, rfl, a, _, rfl, .inl ⟨SqL.of (hsm _ _ (hls j a ha)), fun t ht => ?_⟩⟩
      have hD5 := upd_keep (u := .tup (intsV (gA W k j))) hDl ht
      refine k1 (.ref t) _ hD5 (Same.set (hsm.trans (Same.upd ht)) hD) ⟨ts ++ [t], by rw [List.map_append]; rfl, by rw [List.length_append, htl]; rfl, fun i u e => ?_⟩
      rcases get_split e with z | ⟨rfl, rfl⟩
      · exact upd_keep2 (upd_keep (hts i u z) ht) hD5 (by intro z; cases z)
      · rw [htl]
        exact upd_keep2 upd_same hD5 (by intro z; cases z)
    · intro D ys H' hD hsm hDl hp
      obtain ⟨ts, rfl, htl, hts⟩ := hp
      rw [List.length_map, hll] at htl
      refine q D (ts.map V.ref) H' (s1.trans hsm) (.inr ⟨same_none s1 hD, hDl⟩) (by rw [List.length_map, htl]) fun j x hx => ?_
      rw [List.getElem?_map] at hx
      obtain ⟨a, ha, rfl⟩ := Option.map_eq_some_iff.mp hx
      unfold ThV
      rw [if_neg (by decide)]
      exact ⟨a, rfl, hts j a ha⟩
set_option maxHeartbeats 4000000 in
theorem ok_m (ho : base.get? f = some (PySem.W.fnMade "is_marked" q_m (defArgs s_m) (defBody s_m) (defScope s_m) clos doc pm c ctv)) (hcd : base.CodeRec (.ref c) q_m) (C : ClosAt base clos (defScope s_m) ["machine"] [.ref m]) (hMa : Mach L W B) (hn : 0 < n) :
    FnOk P w K mg base CX0 1 f (PySem.W.fnX "is_marked" q_m (defArgs s_m) (defBody s_m) (defScope s_m) clos .none .none doc pm none (.ref c) ctv) ["state"] (spMark false (mkW B) (tups W.length n) fun H => MachAt H m L W B) := by
  refine fn_ofC (fvs := [.ref m]) ho rfl hcd sc_m C (fun vs H Q E h => ?_) (fun A outer s H vs Q E hr h => ?_)
  · obtain ⟨k, v, rfl, _⟩ := h
    rfl
  · obtain ⟨k, v, rfl, hv, hU, hM, q⟩ := h
    refine ⟨_, (pss_one (ps_ret (pe_ix ix_tup (pe_ix ix_tup (pv 1) pe_int (fun _ _ => rfl)) (pe_ix ix_tup (pv 0) pe_int (fun _ _ => rfl)) (fun _ _ => rfl)))), ?_⟩
    unfold ThV at hv
    rw [if_neg (by decide)] at hv
    obtain ⟨b, rfl, hb⟩ := hv
    obtain ⟨hk1, hk2⟩ := mem_tups.mp hU
    obtain ⟨x, k', rfl⟩ : ∃ x k', k = x :: k' := match k, hk1 with
      | [], h => absurd h (Nat.ne_of_lt hn)
      | x :: k', _ => ⟨x, k', rfl⟩
    have hxW := hk2 x List.mem_cons_self
    obtain ⟨wy, mk, rows, h1, h2, h3, h4, h5⟩ := hM
    have hB : B[x]? = some (B.getD x false) := by
      rw [List.getD_eq_getElem?_getD, List.getElem?_eq_getElem (by rw [hMa.bl]; exact hxW)]
      rfl
    exact ⟨_, rfl, m, _, _, _, rfl, rfl, SqT.of h1, atI_nat (j := 2) rfl, _, rfl, b, _, _, _, rfl, rfl, SqT.of hb, atI_nat (j := 0) rfl, mk, _, _, _, rfl, rfl, SqT.of h3, atI_map V.bl hB, q⟩
end
theorem sc_walked_rooms : FnScope ["machine", "rooms", "most", "goals_of", "is_marked"] ["machine", "rooms", "most"] (defScope s_walked_rooms) := ⟨rfl, rfl, rfl, by decide +kernel, rfl, by decide +kernel, by decide +kernel⟩
theorem bd_walked5 {K : PySem.W.Frag} {tD : Addr} {kV doc pm cdv ct ocD : Value} {an odD : Option Addr} {slD : Array (Option Value)} {nD : Nat} (lD : K.lookup tD = some ⟨ocD, odD, .seq #[.none] nD, slD⟩) : Binds K (PySem.W.fnOf "walked" "walked" (defArgs s_walked) (defBody s_walked) (defScope s_walked) (.ref tD) kV doc pm an cdv ct) ["letters", "start", "goals_of", "is_marked", "most"] [] := fun s us hK hl => by
  rw [List.append_nil] at hl ⊢
  obtain ⟨a, b, c, d, e, rfl⟩ : ∃ a b c d e, us = [a, b, c, d, e] := match us, hl with | [a, b, c, d, e], _ => ⟨a, b, c, d, e, rfl⟩
  exact BindsTo.of_defaults rfl (hK _ _ lD) rfl rfl rfl
theorem bd_wrooms {K : PySem.W.Frag} {tD : Addr} {kV doc pm cdv ct ocD : Value} {an odD : Option Addr} {slD : Array (Option Value)} {nD : Nat} (lD : K.lookup tD = some ⟨ocD, odD, .seq #[.none] nD, slD⟩) : Binds K (PySem.W.fnOf "walked_rooms" "walked_rooms" (defArgs s_walked_rooms) (defBody s_walked_rooms) (defScope s_walked_rooms) (.ref tD) kV doc pm an cdv ct) ["machine", "rooms", "most"] [] := fun s us hK hl => by
  rw [List.append_nil] at hl ⊢
  obtain ⟨a, b, c, rfl⟩ : ∃ a b c, us = [a, b, c] := match us, hl with | [a, b, c], _ => ⟨a, b, c, rfl⟩
  exact BindsTo.of_defaults rfl (hK _ _ lD) rfl rfl rfl
theorem clos_at {X : Cx} {U : List Addr} {σ : St} {H : Hp} {base' : Heap} {clos : List (Str × Addr)} {sc : Scope} {m : Addr} (Wd : WideAt X U σ H base') (sub : ∀ y a, clos.lookup y = some a → X.env.cells.lookup y = some a) (has : ∀ y ∈ sc.names, y.2 = .free → ∃ a, clos.lookup y.1 = some a) (hN : X.N[0]? = some (Str.ofString "machine")) (hσ : σ[0]? = some (some (.ref m))) (hc : X.env.scope.names.lookup (Str.ofString "machine") = some .cell) (hf : sc.names.lookup (Str.ofString "machine") = some .free) (hm : (("machine" : Str), NameKind.free) ∈ sc.names) :
    ClosAt base' clos sc ["machine"] [.ref m] := by
  refine ⟨fun y z c h1 h2 => Wd.inj y z c (sub y c h1) (sub z c h2), has, fun y c h => Wd.cell y c (sub y c h), rfl, fun i y v h1 h2 => ?_⟩
  match i, h1, h2 with
  | 0, h1, h2 =>
    cases h1
    cases h2
    obtain ⟨a, ha⟩ := has _ hm rfl
    obtain ⟨c, u, e1, e2, e3⟩ := Wd.val 0 "machine" (.ref m) hN hσ hc
    have e4 := sub _ _ ha
    rw [e1] at e4
    cases e4
    exact ⟨hf, _, u, ha, e2, e3⟩
  | i + 1, h1, _ => simp at h1
set_option maxHeartbeats 8000000 in
theorem ok_wrooms {P : Program} {w : World} {K : PySem.W.Frag} {mg : Str → Option Value} {base : Heap} {cW fI f fw tD tR c P0 : Addr} {fdI : FuncData} {oc kV doc pm ct oc2 kV2 doc2 pm2 cdv2 ct2 ocD : Value} {od an od2 an2 odD : Option Addr} {osl osl2 slD : Array (Option Value)} {nD : Nat} (lk : K.lookup f = some ⟨oc, od, .func (PySem.W.fnOf "walked_rooms" "walked_rooms" (defArgs s_walked_rooms) (defBody s_walked_rooms) (defScope s_walked_rooms) (.ref tR) kV doc pm an (.ref c) ct), osl⟩) (hcd : PySem.W.codeIn K (.ref c) "walked_rooms" = true)
    (lw : K.lookup fw = some ⟨oc2, od2, .func (PySem.W.fnOf "walked" "walked" (defArgs s_walked) (defBody s_walked) (defScope s_walked) (.ref tD) kV2 doc2 pm2 an2 cdv2 ct2), osl2⟩) (cw : PySem.W.codeIn K cdv2 "walked" = true) (kw : PySem.W.keepIn K (.ref fw) = true) (mw : mg "walked" = some (.ref fw)) (lD : K.lookup tD = some ⟨ocD, odD, .seq #[.none] nD, slD⟩)
    (WT : WkT K mg cW fI fdI) (tlen : mg "len" = none) (tzip : mg "zip" = none) (ttup : mg "tuple" = none) (hC : PySem.W.CodeHd base c P0) (hB : BltAt base mg) (DL : ∀ base : Heap, Df P w K mg base "lots_after" 1 ["machine", "rooms"] sp_lotsafter) :
    FnOk P w K mg base CX0 6 f (PySem.W.fnOf "walked_rooms" "walked_rooms" (defArgs s_walked_rooms) (defBody s_walked_rooms) (defScope s_walked_rooms) (.ref tR) kV doc pm an (.ref c) ct) ["machine", "rooms", "most"] (sp_wrooms cW P0 sites) := by
  refine fn_code lk hcd sc_walked_rooms (fun vs H Q E h => ?_) (fun A outer s H vs Q E hr h => ?_)
  · obtain ⟨m, rl, L, W, B, s, most, rfl, _⟩ := h
    rfl
  · obtain ⟨m, rl, L, W, B, s0, most, rfl, hM, hMa, hrl, hs1, hs60, hsW, hpow, hT, q⟩ := h
    refine ⟨_, (pss_cons ((ps_nest (i := 3) (qual := q_g) (c := c) (P0 := P0) (sites := sites) sc_walked_rooms.nd rfl (Or.inl rfl) rfl hC hB (by decide +kernel) (by decide +kernel))) (pss_cons ((ps_nest (i := 4) (qual := q_m) (c := c) (P0 := P0) (sites := sites) sc_walked_rooms.nd rfl (Or.inl rfl) rfl hC hB (by decide +kernel) (by decide +kernel))) (pss_one (ps_ret (pe_wide (dvs := []) rfl mw kw (bd_walked5 (kV := kV2) (doc := doc2) (pm := pm2) (an := an2) (cdv := cdv2) (ct := ct2) lD) .nil (pa_cons (pe_ix ix_tup (pv 0) pe_int (fun _ _ => rfl)) (pa_cons (pe_callTy call_tuple_of (by rfl) ttup PyProof.Rows.boot_tuple (pa_cons (pv 1) pa_nil)) (pa_cons (pv 3) (pa_cons (pv 4) (pa_cons (pv 2) pa_nil))))) (fun _ => rfl)))))), ?_⟩
    refine ⟨hT, fun clos1 f1 c1 H1 sub1 has1 fr1 ne1 s1 hT1 hc1 hf1 => ⟨hT1, fun clos2 f2 c2 H2 sub2 has2 fr2 ne2 s2 hT2 hc2 hf2 => ?_⟩⟩
    have s12 : SameX P0 H H2 := sameX_trans s1 s2
    have hM2 : MachAt H2 m L W B := hM.tups (sameX_tup s12 hT)
    obtain ⟨ps0, hP0, _⟩ := id hT
    have hrl2 : H2 rl = some (.lst (intsV s0)) := s12 rl _ (fun z => by rw [z, hP0] at hrl; cases hrl) hrl
    obtain ⟨ps1, hP1, _⟩ := id hT1
    obtain ⟨ps2, hP2, ht2, hall2⟩ := id hT2
    have nP : ∀ {b : Addr} {φ : Heap → Prop}, H1 b = some (.ext φ) → b ≠ P0 := fun {b φ} e z => by rw [z, hP1] at e; cases e
    have hf1' : H2 f1 = some (fnHO f1 "goals_of" q_g (defArgs s_g) (defBody s_g) (defScope s_g) clos1 c1) := s2 f1 _ (nP hf1) hf1
    have hc1' : H2 c1 = some (codeHO c1 q_g) := s2 c1 _ (nP hc1) hc1
    have hf2' : H2 f2 = some (fnHO f2 "is_marked" q_m (defArgs s_m) (defBody s_m) (defScope s_m) clos2 c2) := hf2
    have hM3 := hM2
    obtain ⟨wy, mk, rows, h1, h2, h3, h4, h5⟩ := hM2
    refine ⟨_, rfl, m, _, _, _, rfl, rfl, SqT.of h1, atI_nat (j := 0) rfl, _, rfl, rl, _, rfl, .inl ⟨SqL.of hrl2, fun tt htt => ?_⟩⟩
    have sT : Same H2 (L2.upd H2 tt (.tup (intsV s0))) := Same.upd htt
    have htT : L2.upd H2 tt (.tup (intsV s0)) tt = some (.tup (intsV s0)) := upd_same
    generalize L2.upd H2 tt (.tup (intsV s0)) = H2' at sT htT
    have hUx : ∀ u ∈ [f1, f2, c1, c2], ∃ φ, H2' u = some (.ext φ) := fun u hu => by
      simp only [List.mem_cons, List.not_mem_nil, or_false] at hu
      rcases hu with rfl | rfl | rfl | rfl
      · exact ⟨_, sT _ _ hf1'⟩
      · exact ⟨_, sT _ _ hf2'⟩
      · exact ⟨_, sT _ _ hc1'⟩
      · exact ⟨_, sT _ _ hc2⟩
    refine ⟨_, rfl, _, rfl, _, rfl, [f1, f2, c1, c2], hUx, fun base' Wd => ?_⟩
    obtain ⟨doc1, pm1, ctv1, eb1⟩ := Wd.ext f1 _ (by simp) (sT _ _ hf1')
    obtain ⟨doc3, pm3, ctv3, eb2⟩ := Wd.ext f2 _ (by simp) (sT _ _ hf2')
    have cd1 : base'.CodeRec (.ref c1) q_g := Wd.ext c1 _ (by simp) (sT _ _ hc1')
    have cd2 : base'.CodeRec (.ref c2) q_m := Wd.ext c2 _ (by simp) (sT _ _ hc2)
    have C1 := clos_at (sc := defScope s_g) (m := m) Wd sub1 has1 rfl rfl rfl rfl (by decide +kernel)
    have C2 := clos_at (sc := defScope s_m) (m := m) Wd sub2 has2 rfl rfl rfl rfl (by decide +kernel)
    have Fw : FunD K "walked" "walked" s_walked fw _ := ⟨⟨oc2, od2, .ref tD, kV2, doc2, pm2, an2, cdv2, ct2, osl2, rfl, lw, cw⟩, kw⟩
    refine ⟨5, sp_walkedL cW false L (gA W) (mkW B) (tups W.length s0.length) (fun H => MachAt H m L W B) f1 f2, hr, ok_walked Fw WT tlen tzip ((ok_g eb1 cd1 C1 hMa hs60 ttup (DL base')).mono (by decide)) ((ok_m eb2 cd2 C2 hMa hs1).mono (by decide)) eb1 ⟨_, rfl⟩ eb2 ⟨_, rfl⟩ (.all fun us hl => match us, hl with | [_], _ => rfl) (.all fun us hl => match us, hl with | [_], _ => rfl) (fun _ _ s h => h.same s), ?_⟩
    have keepT : ∀ {b : Addr} {o : HO}, H2' b = some o → (∀ φ, o ≠ .ext φ) → b ∉ [f1, f2, c1, c2] := fun {b o} e ho hb => by
      obtain ⟨φ, e2⟩ := hUx b hb
      rw [e] at e2
      exact ho φ (Option.some.inj e2)
    refine ⟨s0, .ref tt, most, rfl, hMa.lt, ?_, mem_tups.mpr ⟨rfl, hsW⟩, fun k hk q hq => gA_mem hMa hk hq, by rw [tups_len]; exact hpow, (hM3.same sT).tups fun b xs e => by rw [untr_out (keepT e (fun _ z => nomatch z))]; exact e, fun wk t wd y md ks vks ws rows' R Bm H3 sm3 hW ht hth hwd hy hwr hmd bf ways bl mks sub le he hU3 => ?_⟩
    · unfold ThV
      rw [if_neg (by decide)]
      exact ⟨tt, rfl, by rw [untr_out (keepT htT (fun _ z => nomatch z))]; exact htT⟩
    have out : ∀ {b : Addr} {o : HO}, H3 b = some o → retr [f1, f2, c1, c2] H2' H3 b = some o := fun {b o} e => by
      rw [retr_out fun hb => ?_]
      · exact e
      · rw [hU3 b hb] at e
        cases e
    have fwd : ∀ {b : Addr} {o : HO}, H2 b = some o → retr [f1, f2, c1, c2] H2' H3 b = some o := fun {b o} e0 => by
      have e := sT _ _ e0
      by_cases hb : b ∈ [f1, f2, c1, c2]
      · rw [retr_in hb]
        exact e
      · exact out (sm3 b o (by rw [untr_out hb]; exact e))
    obtain ⟨dx, ew⟩ := hW.ex
    exact q wk t wd y md ks vks ws rows' R Bm _ (fun b o hb e => fwd (s12 b o hb e)) ⟨ps2, fwd hP2, ht2, fun x hx => (hall2 x hx).imp id fun ⟨c', e1, e2⟩ => ⟨c', e1, fwd e2⟩⟩ ⟨dx, out ew⟩ (out ht) (hth.same fun b xs e => out e) (out hwd) (out hy) ⟨hwr.1, fun i a r e1 e2 => out (hwr.2 i a r e1 e2)⟩ (out hmd) bf ways bl sub he
end K43
namespace K43
open PySem L2 RA
abbrev s_is_whole : Stmt := top 6
abbrev s_need_word : Stmt := top 7
abbrev s_is_room : Stmt := top 10
abbrev s_need_room : Stmt := top 11
abbrev s_room_after : Stmt := top 9
abbrev s_lots_after : Stmt := top 16
abbrev s_walked_acts : Stmt := top 21
abbrev s_table : Stmt := top 20
abbrev s__law_cell_at : Stmt := top 23
abbrev s__law_letters : Stmt := top 24
abbrev s__law_word : Stmt := top 25
abbrev s__law_machine : Stmt := top 26
abbrev s__law_after : Stmt := top 27
abbrev s__law_act : Stmt := top 28
abbrev s__law_turns : Stmt := top 29
abbrev s__law_order : Stmt := top 30
abbrev s__law_third : Stmt := top 31
abbrev s__law_forty : Stmt := top 32
abbrev s__law_acting : Stmt := top 33
abbrev s__law_same : Stmt := top 34
abbrev s__law_acts : Stmt := top 35
abbrev s__law_table : Stmt := top 36
abbrev s_law : Stmt := top 37
structure Txt (K : PySem.W.Frag) (mg : Str → Option Value) : Prop where
  len : mg "len" = none
  range : mg "range" = none
  isinst : mg "isinstance" = none
  int : mg "int" = none
  bool : mg "bool" = none
  tuple : mg "tuple" = none
  list : mg "list" = none
  str : mg "str" = none
  zip : mg "zip" = none
  most : ∃ t, mg "MOST_ACTS" = some (.int 40 t)
def sp_is_whole : Sp := fun vs H Q _ => ∃ (i : Int), vs = [.int i] ∧ Q (.bl true) H
def sp_needword : Sp := fun vs H Q _ => ∃ (L w : List Nat), vs = [.str (tx L), .str (tx w)] ∧ (∀ c ∈ w, c ∈ L) ∧ Q .non H
def sp_isroom : Sp := fun vs H Q _ => ∃ (i n : Int), vs = [.int i, .int n] ∧ 0 ≤ i ∧ i < n ∧ Q (.bl true) H
def PlanAt (H : Hp) (p : Addr) (L : List Nat) (R : List (List Nat)) : Prop := ∃ (y md : Addr) (rows : List Addr), H p = some (.tup [.str (tx L), .ref y, .ref md]) ∧ H y = some (.lst (rows.map V.ref)) ∧ WRows H rows R
theorem PlanAt.same {H H' : Hp} {p : Addr} {L : List Nat} {R : List (List Nat)} (h : PlanAt H p L R) (s : Same H H') : PlanAt H' p L R :=
  let ⟨y, md, rows, h1, h2, h3⟩ := h; ⟨y, md, rows, s _ _ h1, s _ _ h2, h3.1, fun i a r e1 e2 => s _ _ (h3.2 i a r e1 e2)⟩
def sp_needroomP : Sp := fun vs H Q _ => ∃ (p : Addr) (L : List Nat) (R : List (List Nat)) (r : Nat), vs = [.ref p, .int (r : Int)] ∧ PlanAt H p L R ∧ r < R.length ∧ Q .non H
def sp_roomafterP : Sp := fun vs H Q _ => ∃ (p : Addr) (L : List Nat) (R : List (List Nat)) (B : List Bool) (r : Nat) (w : List Nat), vs = [.ref p, .int (r : Int), .str (tx w)] ∧ PlanAt H p L R ∧ Mach L R B ∧ r < R.length ∧ (∀ c ∈ w, c ∈ L) ∧ Q (.int (run L R r w : Nat)) H
structure WkA (K : PySem.W.Frag) (cW : Addr) : Prop where
  cls : Cls K cW
  na1 : NoAttr K cW "letters"
  na3 : NoAttr K cW "words"
  na4 : NoAttr K cW "ways"
  na5 : NoAttr K cW "marks"
def sp_wactsN (cW P0 : Addr) (sites : List (Pos × Str)) : Sp := fun vs H Q _ => ∃ (m : Addr) (L : List Nat) (W : List (List Nat)) (B : List Bool) (ks ws : List (List Nat)), vs = [.ref m] ∧ MachAt H m L W B ∧ Mach L W B ∧ W.length ≤ 8 ∧ Bf (gA W) L (List.range W.length) ks ws ks.length 0 ∧ ks.length ≤ 40 ∧ TabSt H P0 sites ∧
  ∀ (wk t wd y md : Addr) (rows : List Addr) (R : List (List Nat)) (H' : Hp), SameX P0 H H' → TabSt H' P0 sites → WalkAt H' cW wk L t wd y md → H' wd = some (.lst (wordsV ws)) → H' y = some (.lst (rows.map V.ref)) → WRows H' rows R → WaysOk (gA W) L.length ks R → R.length = ks.length → Q (.ref wk) H'
def sp_table (P0 : Addr) (sites : List (Pos × Str)) : Sp := fun vs H Q _ => ∃ (m : Addr) (L : List Nat) (W : List (List Nat)) (B : List Bool) (ks ws : List (List Nat)), vs = [.ref m] ∧ MachAt H m L W B ∧ Mach L W B ∧ W.length ≤ 8 ∧ Bf (gA W) L (List.range W.length) ks ws ks.length 0 ∧ ks.length ≤ 40 ∧ TabSt H P0 sites ∧
  ∀ (l : Addr) (ts : List Addr) (H' : Hp), SameX P0 H H' → TabSt H' P0 sites → TbAt H' l ts ks → Q (.ref l) H'
def sp_cell (K : PySem.W.Frag) : Sp := fun vs H Q _ => ∃ (a : Addr) (ns : List Int) (k : Int), vs = [.ref a, .int k] ∧ SqL K H a (ns.map V.int) ∧ 0 ≤ k ∧ ∀ z, Q (.int z) H
def sp_letters : Sp := fun vs H Q _ => ∃ (c : Int), vs = [.int c] ∧ ∀ L, Let L → Q (.str (tx L)) H
def sp_word (K : PySem.W.Frag) : Sp := fun vs H Q _ => ∃ (L : List Nat) (a : Addr) (ns : List Int), vs = [.str (tx L), .ref a] ∧ Let L ∧ SqL K H a (ns.map V.int) ∧ ns.length ≤ 63 ∧
  ∀ (w : List Nat) (H' : Hp), w.length = ns.length → (∀ c ∈ w, c ∈ L) → Same H H' → Q (.str (tx w)) H'
def sp_machine (K : PySem.W.Frag) : Sp := fun vs H Q _ => ∃ (a : Addr) (ns : List Int) (p : Int) (n : Nat) (L : List Nat), vs = [.ref a, .int p, .int (n : Int), .str (tx L)] ∧ SqL K H a (ns.map V.int) ∧ 0 ≤ p ∧ 1 ≤ n ∧ n ≤ 60 ∧ Let L ∧
  ∀ (m : Addr) (W : List (List Nat)) (B : List Bool) (H' : Hp), Same H H' → MachAt H' m L W B → Mach L W B → W.length = n → Q (.ref m) H'
def sp_after : Sp := fun vs H Q _ => ∃ (m : Addr) (L : List Nat) (W : List (List Nat)) (B : List Bool) (r : Nat) (w : List Nat), vs = [.ref m, .int (r : Int), .str (tx w)] ∧ MachAt H m L W B ∧ Mach L W B ∧ r < W.length ∧ (∀ c ∈ w, c ∈ L) ∧ Q (.int (run L W r w : Nat)) H
def sp_lawact : Sp := fun vs H Q _ => ∃ (m : Addr) (L : List Nat) (W : List (List Nat)) (B : List Bool) (w : List Nat), vs = [.ref m, .str (tx w)] ∧ MachAt H m L W B ∧ Mach L W B ∧ (∀ c ∈ w, c ∈ L) ∧ ∀ t H', Same H H' → H' t = some (.tup (intsV (actN L W w))) → Q (.ref t) H'
def sp_mk8 (K : PySem.W.Frag) : Sp := fun vs H Q _ => ∃ (a : Addr) (ns : List Int) (L : List Nat), vs = [.ref a, .str (tx L)] ∧ SqL K H a (ns.map V.int) ∧ Let L ∧
  ∀ (m : Addr) (W : List (List Nat)) (B : List Bool) (H' : Hp), Same H H' → MachAt H' m L W B → Mach L W B → W.length ≤ 8 → Q (.ref m) H'
def sp_order : Sp := fun vs H Q _ => ∃ (z : Int) (n : Nat), vs = [.int z, .int (n : Int)] ∧ n ≤ 60 ∧ ∀ (p : Addr) (ls : List Nat) (H' : Hp), Same H H' → H' p = some (.lst (intsV ls)) → ls.length = n → (∀ x ∈ ls, x < n) → (∀ x < n, x ∈ ls) → Q (.ref p) H'
def lit3 : List Nat := [1, 0, 2, 3, 4, 5, 6, 7]
def sp_third : Sp := fun vs H Q _ => ∃ (kd : Int) (r : Nat), vs = [.int kd, .int (r : Int)] ∧ r < 8 ∧ ∀ (x : Nat) (H' : Hp), Same H H' → x < 8 → (kd ≠ 1 → kd ≠ 2 → r < 7 → x < 7) → Q (.int (x : Int)) H'
def lit1 : List Nat := [1, 2, 3, 4, 0, 6, 5, 7]
def lit2 : List Nat := [0, 2, 4, 1, 3, 5, 6, 7]
theorem let1 {L : List Nat} (h : Let L) : Let (L.take 1) where
  lo := by rw [List.length_take]; have := h.lo; omega
  hi := by rw [List.length_take]; omega
  nd := h.nd.sublist (List.take_sublist _ _)
  az := fun c hc => h.az c (List.mem_of_mem_take hc)
def sp_acting (K : PySem.W.Frag) : Sp := fun vs H Q _ => ∃ (a : Addr) (ns : List Int) (L : List Nat), vs = [.ref a, .str (tx L)] ∧ SqL K H a (ns.map V.int) ∧ Let L ∧
  ∀ (m : Addr) (L2 : List Nat) (W : List (List Nat)) (B : List Bool) (H' : Hp), Same H H' → MachAt H' m L2 W B → Mach L2 W B → W.length ≤ 8 → Q (.ref m) H'
def sp_same (d : Nat) : Sp := fun vs H Q _ => ∃ x y, vs = [x, y] ∧ Like H d x y ∧ Q (.bl true) H
def sp_lawacts (P : Program) (w : World) : Sp := fun vs H Q _ => ∃ (m : Addr) (L : List Nat) (W : List (List Nat)) (B : List Bool), vs = [.ref m] ∧ MachAt H m L W B ∧ Mach L W B ∧ W.length ≤ 8 ∧
  ∀ (p fl dd : Addr) (vks : List V) (ks ws : List (List Nat)) (n : Nat) (H' : Hp), Same H H' → H' p = some (.tup [.ref fl, .ref dd]) → H' fl = some (.lst vks) → ThsAt false H' ks vks → RmAt P w H' dd false ks → Bf (gA W) L (List.range W.length) ks ws n 0 → (n = ks.length ∨ 40 < ks.length) → ks.length ≤ 43 → Q (.ref p) H'
def sp_lawtable (P : Program) (w : World) : Sp := fun vs H Q _ => ∃ (fl dd : Addr) (vks : List V) (ks : List (List Nat)), vs = [.ref fl, .ref dd] ∧ H fl = some (.lst vks) ∧ ThsAt false H ks vks ∧ RmAt P w H dd false ks ∧ ks.length ≤ 43 ∧ (∀ a ∈ ks, a.length ≤ 60) ∧ (∀ a ∈ ks, ∀ b ∈ ks, ∀ r ∈ a, r < b.length) ∧ (∀ a ∈ ks, ∀ b ∈ ks, (a.map fun r => b.getD r 0) ∈ ks) ∧
  ∀ (l : Addr) (ts : List Addr) (H' : Hp), Same H H' → TbAt H' l ts ks → Q (.ref l) H'
section
variable {P : Program} {w : World} {K : PySem.W.Frag} {mg : Str → Option Value} {base : Heap} {P0 cT cW : Addr}
theorem sc_is_whole : FnScope ["value"] ["value"] (defScope s_is_whole) := ⟨rfl, rfl, rfl, by decide +kernel, rfl, by decide +kernel, by decide +kernel⟩
set_option maxHeartbeats 4000000 in
theorem ok_is_whole {f : Addr} {fd : FuncData} (F : Fun K "is_whole" "is_whole" s_is_whole f fd) (T : Txt K mg) : FnOk P w K mg base CX0 1 f fd ["value"] sp_is_whole := by
  refine F.ok sc_is_whole (fun vs H Q E h => ?_) (fun cdv A outer s H vs Q E hr h => ?_)
  · obtain ⟨i, rfl, _⟩ := h
    rfl
  · obtain ⟨i, rfl, q⟩ := h
    refine ⟨_, (pss_one (ps_ret (pe_and (pe_callB (call_isinst (T := "int") (b := true)) (by rfl) T.isinst PyProof.Rows.boot_isinstance (pa_cons (pv 0) (pa_cons (pe_bltn (v := .ty "int") (by rfl) T.int PyProof.Rows.boot_int rfl) pa_nil)))
      (pe_one (pe_not (pe_callB (call_isinst (T := "bool") (b := false)) (by rfl) T.isinst PyProof.Rows.boot_isinstance (pa_cons (pv 0) (pa_cons (pe_bltn (v := .ty "bool") (by rfl) T.bool PyProof.Rows.boot_bool rfl) pa_nil)))))))), ?_⟩
    exact ⟨_, rfl, _, _, rfl, TyOf.int _, kit_ii K, _, rfl, iteT ⟨_, rfl, _, _, rfl, TyOf.int _, kit_ib K, _, rfl, q⟩⟩
theorem sc_need_word : FnScope ["letters", "word", "sign"] ["letters", "word"] (defScope s_need_word) := ⟨rfl, rfl, rfl, by decide +kernel, rfl, by decide +kernel, by decide +kernel⟩
set_option maxHeartbeats 4000000 in
theorem ok_need_word {f : Addr} {fd : FuncData} (F : Fun K "need_word" "need_word" s_need_word f fd) (T : Txt K mg) : FnOk P w K mg base CX0 1 f fd ["letters", "word"] sp_needword := by
  refine F.ok sc_need_word (fun vs H Q E h => ?_) (fun cdv A outer s H vs Q E hr h => ?_)
  · obtain ⟨L, w, rfl, _⟩ := h
    rfl
  · obtain ⟨L, w, rfl, hw, q⟩ := h
    refine ⟨_, (pss_one ((ps_for PassesOwn.never rfl (pi_str (pv 1)) (pg_name (i := 2) sc_need_word.nd rfl (Or.inl rfl)) ((pss_one ((ps_if (pt_cmpR op_notin_str (pv 2) (pv 0) (by with_unfolding_all rfl)) ((pss_one (ps_never))) (pss_nil)))))))), ?_⟩
    refine ⟨_, rfl, _, rfl, for_str (x := tx w) (fun i σ H' => ∃ s0, σ = [some (.str (tx L)), some (.str (tx w)), s0] ∧ H' = H) ⟨none, rfl, rfl⟩ ?_ ?_⟩
    · rintro i c σ H1 hc ⟨s0, rfl, rfl⟩
      rw [tx_get] at hc
      have hcL : c ∈ L := hw c (List.mem_of_getElem? hc)
      refine ⟨_, rfl, _, rfl, _, _, rfl, rfl, _, rfl, ?_⟩
      have e := contains_one L c
      unfold Txt.contains at e
      rw [e, decide_eq_true hcL]
      exact iteF ⟨_, rfl, rfl⟩
    · rintro σ H1 ⟨s0, rfl, rfl⟩
      exact q
theorem sc_is_room : FnScope ["number", "many"] ["number", "many"] (defScope s_is_room) := ⟨rfl, rfl, rfl, by decide +kernel, rfl, by decide +kernel, by decide +kernel⟩
set_option maxHeartbeats 4000000 in
theorem ok_is_room {f : Addr} {fd : FuncData} (F : Fun K "is_room" "is_room" s_is_room f fd) (T : Txt K mg) (d_is_whole : Df P w K mg base "is_whole" 1 ["value"] sp_is_whole) : FnOk P w K mg base CX0 2 f fd ["number", "many"] sp_isroom := by
  refine F.ok sc_is_room (fun vs H Q E h => ?_) (fun cdv A outer s H vs Q E hr h => ?_)
  · obtain ⟨i, n, rfl, _⟩ := h
    rfl
  · obtain ⟨i, n, rfl, h0, h1, q⟩ := h
    refine ⟨_, (pss_one (ps_ret (pe_and (pe_df d_is_whole hr (pa_cons (pv 0) pa_nil)) (pe_one (pe_chain op_le op_lt pe_int (pv 0) (pv 1)))))), ?_⟩
    refine ⟨_, rfl, i, rfl, _, rfl, iteT ⟨_, rfl, _, _, rfl, rfl, _, rfl, iteD h0 ⟨_, rfl, _, _, rfl, rfl, ?_⟩⟩⟩
    show Q (.bl (decide (i < n))) H
    rw [decide_eq_true h1]
    exact q
theorem sc_need_room : FnScope ["machine", "number"] ["machine", "number"] (defScope s_need_room) := ⟨rfl, rfl, rfl, by decide +kernel, rfl, by decide +kernel, by decide +kernel⟩
set_option maxHeartbeats 4000000 in
theorem ok_need_room {f : Addr} {fd : FuncData} (F : Fun K "need_room" "need_room" s_need_room f fd) (T : Txt K mg) (d_is_room : Df P w K mg base "is_room" 2 ["number", "many"] sp_isroom) : FnOk P w K mg base CX0 3 f fd ["machine", "number"] sp_needroomP := by
  refine F.ok sc_need_room (fun vs H Q E h => ?_) (fun cdv A outer s H vs Q E hr h => ?_)
  · obtain ⟨p, L, R, r, rfl, _⟩ := h
    rfl
  · obtain ⟨p, L, R, r, rfl, hP, hr0, q⟩ := h
    obtain ⟨y, md, rows, h1, h2, h3, h4⟩ := hP
    refine ⟨_, (pss_one ((ps_if (pt_not (pt_val (pe_df d_is_room hr (pa_cons (pv 1) (pa_cons ((pe_callB call_len_seq (by rfl) T.len PySem.boot_len (pa_cons (pe_ix ix_tup (pv 0) pe_int (fun _ _ => rfl)) pa_nil))) pa_nil))))) ((pss_one (ps_never))) (pss_nil)))), ?_⟩
    exact ⟨_, rfl, _, rfl, p, _, _, _, rfl, rfl, SqT.of h1, atI_nat (j := 1) rfl, y, _, rfl, .inl (SqL.of h2), (r : Int), _, rfl, Int.natCast_nonneg _, by rw [List.length_map, h3]; exact Int.ofNat_lt.mpr hr0, _, rfl, iteF q⟩
theorem sc_room_after : FnScope ["machine", "room", "word", "letters", "ways", "here", "sign"] ["machine", "room", "word"] (defScope s_room_after) := ⟨rfl, rfl, rfl, by decide +kernel, rfl, by decide +kernel, by decide +kernel⟩
set_option maxHeartbeats 4000000 in
theorem ok_room_after {f : Addr} {fd : FuncData} (F : Fun K "room_after" "room_after" s_room_after f fd) (T : Txt K mg) (d_need_room : Df P w K mg base "need_room" 3 ["machine", "number"] sp_needroomP) (d_need_word : Df P w K mg base "need_word" 1 ["letters", "word"] sp_needword) : FnOk P w K mg base CX0 4 f fd ["machine", "room", "word"] sp_roomafterP := by
  refine F.ok sc_room_after (fun vs H Q E h => ?_) (fun cdv A outer s H vs Q E hr h => ?_)
  · obtain ⟨p, L, R, B, r, w, rfl, _⟩ := h
    rfl
  · obtain ⟨p, L, R, B, r, w, rfl, hP, hMa, hr0, hw, q⟩ := h
    have hP0 := hP
    obtain ⟨y, md, rows, h1, h2, h3, h4⟩ := hP
    have hr1 := hr.mono (j := 1) (by decide)
    refine ⟨_, (pss_cons ((ps_set (i := 3) sc_room_after.nd rfl (Or.inl rfl) (pe_ix ix_tup (pv 0) pe_int (fun _ _ => rfl)))) (pss_cons ((ps_set (i := 4) sc_room_after.nd rfl (Or.inl rfl) (pe_ix ix_tup (pv 0) pe_int (fun _ _ => rfl)))) (pss_cons (ps_expr (pe_df d_need_room hr (pa_cons (pv 0) (pa_cons (pv 1) pa_nil)))) (pss_cons (ps_expr (pe_df d_need_word hr1 (pa_cons (pv 3) (pa_cons (pv 2) pa_nil)))) (pss_cons ((ps_set (i := 5) sc_room_after.nd rfl (Or.inl rfl) (pv 1))) (pss_cons ((ps_for PassesOwn.never rfl (pi_str (pv 2)) (pg_name (i := 6) sc_room_after.nd rfl (Or.inl rfl)) ((pss_one ((ps_set (i := 5) sc_room_after.nd rfl (Or.inl rfl) (pe_ix ix_list (pe_ix ix_list (pv 4) (pv 5) (fun _ _ => rfl)) (pe_bm PySem.F.plainAttrs_str PySem.F.slot_str_index PySem.F.type_str_index mt_index (pv 3) (pa_cons (pv 6) pa_nil)) (fun _ _ => rfl)))))))) (pss_one (ps_ret (pv 5))))))))), ?_⟩
    refine ⟨_, rfl, p, _, _, _, rfl, rfl, SqT.of h1, atI_nat (j := 0) rfl, _, rfl, p, _, _, _, rfl, rfl, SqT.of h1, atI_nat (j := 1) rfl, ?_⟩
    refine ⟨_, rfl, _, rfl, p, L, R, r, rfl, hP0, hr0, ?_⟩
    refine ⟨_, rfl, _, rfl, L, w, rfl, hw, _, rfl, ?_⟩
    refine ⟨_, rfl, _, rfl, for_str (x := tx w) (fun i σ H' => ∃ s0, σ = [some (.ref p), some (.int (r : Int)), some (.str (tx w)), some (.str (tx L)), some (.ref y), some (.int (run L R r (w.take i) : Nat)), s0] ∧ H' = H) ⟨none, by rw [List.take_zero]; rfl, rfl⟩ ?_ ?_⟩
    · rintro i c σ H1 hc ⟨s0, rfl, rfl⟩
      rw [tx_get] at hc
      have hcL : c ∈ L := hw c (List.mem_of_getElem? hc)
      have hlt := run_lt hMa (w := w.take i) hr0 fun d hd => hw d (List.mem_of_mem_take hd)
      obtain ⟨ws, x, e1, e2, e3, e4⟩ := hMa.at hlt hcL
      obtain ⟨rr, hrr⟩ : ∃ rr, rows[run L R r (w.take i)]? = some rr := ⟨rows[run L R r (w.take i)]'(by rw [h3]; exact hlt), List.getElem?_eq_getElem _⟩
      have e6 := h4 _ rr ws hrr e1
      refine ⟨_, rfl, _, rfl, y, _, _, _, rfl, rfl, SqL.of h2, atI_map V.ref hrr, _, rfl, rfl, _, rfl, _, _, rfl, rfl, by rw [contains_one]; exact decide_eq_true hcL, ?_⟩
      rw [find_one hcL]
      refine ⟨rr, _, _, _, rfl, rfl, SqL.of e6, atI_map _ e2, ?_⟩
      refine ⟨some (.str ⟨#[c]⟩), ?_, rfl⟩
      show [some (V.ref p), some (V.int (r : Int)), some (V.str (tx w)), some (V.str (tx L)), some (V.ref y), some (V.int ((x : Nat) : Int)), some _] = _
      rw [List.take_add_one, hc]
      show _ = [some (V.ref p), some (V.int (r : Int)), some (V.str (tx w)), some (V.str (tx L)), some (V.ref y), some (V.int ((run L R r (w.take i ++ [c]) : Nat) : Int)), some (V.str ⟨#[c]⟩)]
      rw [run_snoc, e3]
    · rintro σ H1 ⟨s0, rfl, rfl⟩
      rw [tx_len, List.take_length]
      exact ⟨_, rfl, q⟩
theorem sc_lots_after : FnScope ["machine", "rooms", "rows"] ["machine", "rooms"] (defScope s_lots_after) := ⟨rfl, rfl, rfl, by decide +kernel, rfl, by decide +kernel, by decide +kernel⟩
set_option maxHeartbeats 4000000 in
theorem ok_lots_after {f : Addr} {fd : FuncData} (F : Fun K "lots_after" "lots_after" s_lots_after f fd) (T : Txt K mg) : FnOk P w K mg base CX0 1 f fd ["machine", "rooms"] sp_lotsafter := by
  refine F.ok sc_lots_after (fun vs H Q E h => ?_) (fun cdv A outer s H vs Q E hr h => ?_)
  · obtain ⟨m, v, o, L, W, B, k, rfl, _⟩ := h
    rfl
  · obtain ⟨m, v, o, L, W, B, k, rfl, hM, hMa, ho, hv, hk60, hkW, q⟩ := h
    refine ⟨_, (pss_cons ((ps_set (i := 2) sc_lots_after.nd rfl (Or.inr rfl) (pe_compS ["machine", "rooms", "rows"] rfl (by decide) (pi_sq (pv 1)) (fun cl C fp s' H' => ⟨pts_nil, pe_ix (ix_tupK K) (pe_ix (ix_tupK K) (pv 1) pe_int (fun _ _ => rfl)) (pv 0) (fun _ _ => rfl)⟩)))) (pss_one (ps_ret (pe_compC ["machine", "rooms", "rows"] rfl (by decide) (pi_range1 rfl T.range (pa_cons (pe_callB call_len_str (by rfl) T.len PySem.boot_len (pa_cons (pe_ix ix_tup (pv 0) (pe_int) (fun _ _ => rfl)) pa_nil)) pa_nil)) (fun cl C fp s' H' => ⟨pts_nil, pe_compS ["place", "machine", "rooms", "rows"] rfl (show List.Nodup (["row", "place", "machine", "rooms", "rows"] : List Str) by decide) (pi_sq (pv 3)) (fun cl C fp s' H' => ⟨pts_nil, pe_ix (ix_tupK K) (pv 0) (pv 1) (fun _ _ => rfl)⟩)⟩))))), ?_⟩
    obtain ⟨wy, mk, rows, h1, h2, h3, h4, h5⟩ := id hM
    have hz : (tx L).length ≤ sizeLine := line_ge (by rw [tx_len]; exact Nat.le_trans hMa.lt.hi (by decide))
    have hk1 : (intsV k).length ≤ sizeLine := by rw [intsV_len]; exact line_ge (Nat.le_trans hk60 (by decide))
    have rowAt : ∀ {j : Nat} {x : V}, (intsV k)[j]? = some x → j < k.length ∧ x = .int ((k.getD j 0 : Nat) : Int) ∧ k.getD j 0 < W.length := fun {j x} e => by
      have hj : j < k.length := by have := (List.getElem?_eq_some_iff.mp e).1; rwa [intsV_len] at this
      rw [intsV_get hj] at e
      cases e
      exact ⟨hj, rfl, hkW _ (getD_in hj)⟩
    dsimp only [gName]
    dsimp only [tNext, tSeq, tAsg, tCall, tCons, tBM, tCB]
    refine comp_sq (a := v) (fun R h => ⟨_, rfl, h⟩) ho hv (fun D j ys H' => ∃ rs : List Addr, ys = rs.map V.ref ∧ rs.length = j ∧ ∀ (i : Nat) (a : Addr), rs[i]? = some a → H' a = some (.tup (intsV (W.getD (k.getD i 0) [])))) hk1 (fun D hD => ⟨[], rfl, rfl, fun i a e => by simp at e⟩) ?_ ?_
    · intro D j x ys H' R1 R2 hD hx hsm hDl hp k1 k2
      obtain ⟨rs, rfl, hrl, hrs⟩ := hp
      obtain ⟨hj, rfl, hjW⟩ := rowAt hx
      obtain ⟨ra, hra, hraH⟩ := MachAt.row h4 (h5.same hsm) hjW
      refine tAlways_if ⟨_, rfl, m, _, _, _, rfl, rfl, SqT.of (hsm _ _ h1), atI_nat (j := 1) rfl, _, rfl, wy, _, _, _, rfl, rfl, SqT.of (hsm _ _ h2), atI_map V.ref hra, k1 _ H' hDl (Same.set hsm hD) ⟨rs ++ [ra], by rw [List.map_append]; rfl, by rw [List.length_append, hrl]; rfl, fun i u e => ?_⟩⟩
      rcases get_split e with z | ⟨rfl, rfl⟩
      · exact upd_keep2 (hrs i u z) hDl (by intro z; cases z)
      · rw [hrl]
        exact upd_keep2 hraH hDl (by intro z; cases z)
    intro Dw ys H2 hDw hsm2 hDwl hpv
    obtain ⟨rs, rfl, hrl, hrs⟩ := hpv
    rw [intsV_len] at hrl
    dsimp only [tRet, gName, tNext, tSeq, tAsg, tCall, tCons, tBM, tCB]
    refine comp_rngG (n := L.length) (fun R h => ⟨_, rfl, m, _, _, _, rfl, rfl, SqT.of (hsm2 _ _ h1), atI_nat (j := 0) rfl, _, rfl, hz, by rw [tx_len]; exact h⟩) (Nat.le_trans hMa.lt.hi (by decide)) (fun D j ys H' => ∃ ls : List Addr, ys = ls.map V.ref ∧ ls.length = j ∧ ∀ (q : Nat) (a : Addr), ls[q]? = some a → a ≠ D ∧ H' a = some (.lst (intsV (gA W k q)))) (fun D hD => ⟨[], rfl, rfl, fun i a e => by simp at e⟩) ?_ ?_
    · intro D q0 ys H' R1 R2 hD hq hsm hDl hp k1 k2
      obtain ⟨ls, rfl, hll, hls⟩ := hp
      have s2 := hsm2.trans hsm
      refine tAlways_if ?_
      refine comp_sq (a := Dw) (fun R h => ⟨_, rfl, h⟩) (.inl rfl) (hsm _ _ hDwl) (fun D2 j zs2 H4 => zs2 = (intsV (gA W k q0)).take j) (by rw [List.length_map, hrl]; exact line_ge (Nat.le_trans hk60 (by decide))) (fun D2 hD2 => by simp) ?_ ?_
      · intro D2 j y zs2 H4 R3 R4 hD2 hy hsm4 hD2l hp2 k3 k4
        rw [List.getElem?_map] at hy
        obtain ⟨ra, hra, rfl⟩ := Option.map_eq_some_iff.mp hy
        have hj : j < k.length := by rw [← hrl]; exact (List.getElem?_eq_some_iff.mp hra).1
        have hjW := hkW _ (getD_in (ws := k) hj)
        have l1 := (row_of hMa hjW).1
        refine tAlways_if ⟨_, rfl, _, rfl, ra, _, _, _, rfl, rfl, SqT.of (hsm4 _ _ (hsm _ _ (hrs j ra hra))), by rw [Int.zero_add]; exact atI_ints (by rw [l1]; exact hq), k3 _ H4 hD2l (Same.set hsm4 hD2) ?_⟩
        rw [hp2]
        refine (take_snoc ?_).symm
        rw [intsV_get (by rw [gA, List.length_map]; exact hj), gA, map_getD hj]
      · intro D2 zs2 H4 hD2 hsm4 hD2l hp2
        rw [List.length_map, hrl, List.take_of_length_le (by rw [intsV_len, gA, List.length_map]; exact Nat.le_refl _)] at hp2
        subst hp2
        have hD5 := hsm4 _ _ hDl
        refine k1 (.ref D2) H4 hD5 (Same.set (hsm.trans hsm4) hD) ⟨ls ++ [D2], by rw [List.map_append]; rfl, by rw [List.length_append, hll]; rfl, fun i u e => ?_⟩
        rcases get_split e with z | ⟨rfl, rfl⟩
        · obtain ⟨z1, z2⟩ := hls i u z
          exact ⟨z1, by rw [upd_ne z1]; exact hsm4 _ _ z2⟩
        · have hne : u ≠ D := fun zz => by rw [zz, hDl] at hD2; cases hD2
          exact ⟨hne, by rw [hll, upd_ne hne]; exact hD2l⟩
    · intro D ys H' hD hsm hDl hp
      obtain ⟨ls, rfl, hll, hls⟩ := hp
      exact q D ls H' (hsm2.trans hsm) hDl hll fun q a e => (hls q a e).2
theorem sc_walked_acts : FnScope ["machine", "walk"] ["machine"] (defScope s_walked_acts) := ⟨rfl, rfl, rfl, by decide +kernel, rfl, by decide +kernel, by decide +kernel⟩
set_option maxHeartbeats 4000000 in
theorem ok_walked_acts {f : Addr} {fd : FuncData} (F : Fun K "walked_acts" "walked_acts" s_walked_acts f fd) (T : Txt K mg) (WA : WkA K cW) (d_walked_rooms : Df P w K mg base "walked_rooms" 6 ["machine", "rooms", "most"] (sp_wrooms cW P0 sites)) : FnOk P w K mg base CX0 7 f fd ["machine"] (sp_wactsN cW P0 sites) := by
  refine F.ok sc_walked_acts (fun vs H Q E h => ?_) (fun cdv A outer s H vs Q E hr h => ?_)
  · obtain ⟨m, L, W, B, ks, ws, rfl, _⟩ := h
    rfl
  · obtain ⟨m, L, W, B, ks, ws, rfl, hM, hMa, hW8, hbf, hk40, hT, q⟩ := h
    obtain ⟨tm, hmost⟩ := T.most
    refine ⟨_, (pss_cons ((ps_set (i := 1) sc_walked_acts.nd rfl (Or.inl rfl) ((pe_df d_walked_rooms hr (pa_cons (pv 0) (pa_cons (pe_listrange rfl rfl T.list rfl T.range (pa_cons (pe_callB call_len_seq (by rfl) T.len PySem.boot_len (pa_cons (pe_ix ix_tup (pv 0) pe_int (fun _ _ => rfl)) pa_nil)) pa_nil)) (pa_cons (pe_glob (v := .int 40) (by rfl) hmost ⟨_, rfl⟩) pa_nil))))))) (pss_cons ((ps_if (pt_cmpR op_gt (pe_callB call_len_seq (by rfl) T.len PySem.boot_len (pa_cons ((pe_fld (f := "words") (pv 1) rfl)) pa_nil)) (pe_glob (v := .int 40) (by rfl) hmost ⟨_, rfl⟩) (nomark _)) ((pss_one (ps_never))) (pss_nil))) (pss_one (ps_ret (pv 1))))), ?_⟩
    obtain ⟨wy, mk, rows, h1, h2, h3, h4, h5⟩ := id hM
    have hl : (rows.map V.ref).length = W.length := by rw [List.length_map, h4]
    refine ⟨_, rfl, _, rfl, m, _, _, _, rfl, rfl, SqT.of h1, atI_nat (j := 1) rfl, wy, _, rfl, .inr (SqT.of h2), ?_⟩
    rw [hl]
    refine ⟨W.length, rfl, Nat.le_trans hW8 (by decide), fun rl hrl => ?_⟩
    have s1 := Same.upd (o := .lst (intsV (List.range W.length))) hrl
    refine ⟨m, rl, L, W, B, List.range W.length, some 40, rfl, hM.same s1, hMa, upd_same, by rw [List.length_range]; exact hMa.n1, by rw [List.length_range]; exact hMa.n60, fun x hx => List.mem_range.mp hx, by rw [List.length_range]; exact line_ge (pow_8 hW8), tab_same hT s1, fun wk t wd y md ks2 vks ws2 rows2 R Bm H2 s2 hT2 hWk ht hth hwd hy hwr hmd bf2 ways bl sub he => ?_⟩
    have hfew : ks2.length ≤ 40 := Nat.le_trans (Bf.few hbf bf2 hMa.lt.nd) hk40
    have hR : R.length = ks2.length := by
      rcases he with z | ⟨n, z, hn⟩
      · exact z
      · cases z
        exact absurd hn (Nat.not_lt.mpr hfew)
    rw [hR] at bf2
    obtain ⟨e1, e2⟩ := Bf.uniq bf2 hbf hMa.lt.nd
    subst e1
    subst e2
    obtain ⟨dx, ew⟩ := hWk.ex
    refine ⟨_, rfl, wk, cW, dx, _, _, rfl, ew, WA.cls, WA.na3, rfl, wd, _, rfl, .inl (SqL.of hwd), _, _, rfl, rfl, _, rfl, ?_⟩
    rw [wordsV, List.length_map, ← bf2.len, decide_eq_false (by intro z; have := Int.ofNat_lt.mp (show ((40 : Nat) : Int) < _ from z); omega)]
    refine iteF ⟨_, rfl, q wk t wd y md rows2 R H2 (fun b o hb e => s2 b o hb (s1 b o e)) hT2 ⟨dx, ew⟩ hwd hy hwr ways hR⟩
theorem sc_table : FnScope ["machine", "walk", "plan"] ["machine"] (defScope s_table) := ⟨rfl, rfl, rfl, by decide +kernel, rfl, by decide +kernel, by decide +kernel⟩
set_option maxHeartbeats 4000000 in
theorem ok_table {f : Addr} {fd : FuncData} (F : Fun K "table" "table" s_table f fd) (T : Txt K mg) (WA : WkA K cW) (d_walked_acts : Df P w K mg base "walked_acts" 7 ["machine"] (sp_wactsN cW P0 sites)) (d_room_after : Df P w K mg base "room_after" 4 ["machine", "room", "word"] sp_roomafterP) : FnOk P w K mg base CX0 8 f fd ["machine"] (sp_table P0 sites) := by
  refine F.ok sc_table (fun vs H Q E h => ?_) (fun cdv A outer s H vs Q E hr h => ?_)
  · obtain ⟨m, L, W, B, ks, ws, rfl, _⟩ := h
    rfl
  · obtain ⟨m, L, W, B, ks, ws, rfl, hM, hMa, hW8, hbf, hk40, hT, q⟩ := h
    have hr4 := hr.mono (j := 4) (by decide)
    refine ⟨_, (pss_cons ((ps_set (i := 1) sc_table.nd rfl (Or.inr rfl) ((pe_df d_walked_acts hr (pa_cons (pv 0) pa_nil))))) (pss_cons ((ps_set (i := 2) sc_table.nd rfl (Or.inr rfl) (pe_tup (pa_cons (pe_fld (f := "letters") (pv 1) rfl) (pa_cons (pe_fld (f := "ways") (pv 1) rfl) (pa_cons (pe_fld (f := "marks") (pv 1) rfl) pa_nil)))))) (pss_one (ps_ret (pe_compC ["machine", "walk", "plan"] rfl (by decide) (pi_range1 rfl T.range (pa_cons (pe_callB call_len_seq (by rfl) T.len PySem.boot_len (pa_cons ((pe_fld (f := "words") (pv 1) rfl)) pa_nil)) pa_nil)) (fun cl C fp s' H' => ⟨pts_nil, pe_callTy (call_tupleK K) (by rfl) T.tuple PyProof.Rows.boot_tuple (pa_cons (pe_compS ["place", "machine", "walk", "plan"] rfl (show List.Nodup (["word", "place", "machine", "walk", "plan"] : List Str) by decide) (pi_sq (pe_fldK (f := "words") K (pv 2) rfl)) (fun cl C fp s' H' => ⟨pts_nil, (pe_df d_room_after hr4 (pa_cons (pv 4) (pa_cons (pv 1) (pa_cons (pv 0) pa_nil))))⟩)) pa_nil)⟩)))))), ?_⟩
    refine ⟨_, rfl, m, L, W, B, ks, ws, rfl, hM, hMa, hW8, hbf, hk40, hT, fun wk t wd y md rows R H1 s1 hT1 hWk hwd hy hwr ways hR => ?_⟩
    obtain ⟨dx, ew⟩ := hWk.ex
    refine ⟨_, rfl, wk, cW, dx, _, _, rfl, ew, WA.cls, WA.na1, rfl, _, rfl, wk, cW, dx, _, _, rfl, ew, WA.cls, WA.na4, rfl, _, rfl, wk, cW, dx, _, _, rfl, ew, WA.cls, WA.na5, rfl, line_ge (by show 3 ≤ 16777216; decide), fun pl hpl => ?_⟩
    have s2 := Same.upd (o := .tup [.str (tx L), .ref y, .ref md]) hpl
    have hP : PlanAt (L2.upd H1 pl (.tup [.str (tx L), .ref y, .ref md])) pl L R := ⟨y, md, rows, upd_same, s2 _ _ hy, hwr.1, fun i a r e1 e2 => s2 _ _ (hwr.2 i a r e1 e2)⟩
    have hwd2 := s2 _ _ hwd
    have ew2 := s2 _ _ ew
    have hT2 := tab_same hT1 s2
    have s02 : SameX P0 H (L2.upd H1 pl (.tup [.str (tx L), .ref y, .ref md])) := fun b o hb e => s2 b o (s1 b o hb e)
    generalize L2.upd H1 pl (.tup [.str (tx L), .ref y, .ref md]) = H2 at s2 hP hwd2 ew2 hT2 s02
    have hk1 : 0 < ks.length := (List.getElem?_eq_some_iff.mp hbf.t0).1
    have hRM : Mach L R (List.replicate R.length false) := plan_mach hMa hbf ways hR hk40
    have hwl : (wordsV ws).length = ks.length := by rw [wordsV, List.length_map]; exact hbf.len.symm
    dsimp only [tRet, gName, tNext, tSeq, tAsg, tCall, tCons, tBM, tCB]
    refine comp_rngG (n := ks.length) (fun R h => ⟨_, rfl, wk, cW, dx, _, _, rfl, ew2, WA.cls, WA.na3, rfl, wd, _, rfl, .inl (SqL.of hwd2), by rw [hwl]; exact h⟩) (Nat.le_trans hk40 (by decide)) (fun D j ys H' => ∃ ts : List Addr, ys = ts.map V.ref ∧ ts.length = j ∧ ∀ (i : Nat) (a : Addr), ts[i]? = some a → H' a = some (.tup (intsV (tabRow ks i)))) (fun D hD => ⟨[], rfl, rfl, fun i a e => by simp at e⟩) ?_ ?_
    · intro D j ys H' R1 R2 hD hj hsm hDl hp k1 k2
      obtain ⟨ts, rfl, htl, hts⟩ := hp
      refine tAlways_if ?_
      dsimp only [tNext, tSeq, tAsg, tCall, tCons, tBM, tCB]
      refine comp_sq (a := wd) (fun R h => ⟨_, rfl, wk, cW, dx, _, _, rfl, hsm _ _ ew2, WA.cls, WA.na3, rfl, h⟩) (.inl rfl) (hsm _ _ hwd2) (fun D2 i zs2 H4 => zs2 = (intsV (tabRow ks j)).take i) (by rw [hwl]; exact line_ge (Nat.le_trans hk40 (by decide))) (fun D2 hD2 => by simp) ?_ ?_
      · intro D2 i x zs2 H4 R3 R4 hD2 hx hsm4 hD2l hp2 k3 k4
        rw [wordsV, List.getElem?_map] at hx
        obtain ⟨w1, hw1, rfl⟩ := Option.map_eq_some_iff.mp hx
        have hi : i < ks.length := by rw [hbf.len]; exact (List.getElem?_eq_some_iff.mp hw1).1
        obtain ⟨l1, _⟩ := hbf.lead i _ w1 (List.getElem?_eq_getElem hi) hw1
        refine tAlways_if ⟨_, rfl, _, rfl, _, rfl, pl, L, R, _, j, w1, by rw [Int.zero_add]; rfl, hP.same (hsm.trans hsm4), hRM, by rw [hR]; exact hj, l1, k3 _ H4 hD2l (Same.set hsm4 hD2) ?_⟩
        rw [hp2]
        refine (take_snoc ?_).symm
        rw [intsV_get (by rw [tabRow, List.length_map]; exact hi), tab_at hMa hbf ways hR hj hw1]
      · intro D2 zs2 H4 hD2 hsm4 hD2l hp2
        rw [hwl, List.take_of_length_le (by rw [intsV_len, tabRow, List.length_map]; exact Nat.le_refl _)] at hp2
        subst hp2
        refine ⟨D2, _, rfl, .inl ⟨SqL.of hD2l, fun b hb => ?_⟩⟩
        have s5 := hsm4.trans (Same.upd (o := .tup (intsV (tabRow ks j))) hb)
        have hD5 := s5 _ _ hDl
        refine k1 (.ref b) _ hD5 (Same.set (hsm.trans s5) hD) ⟨ts ++ [b], by rw [List.map_append]; rfl, by rw [List.length_append, htl]; rfl, fun i u e => ?_⟩
        rcases get_split e with z | ⟨rfl, rfl⟩
        · exact upd_keep2 (s5 _ _ (hts i u z)) hD5 (by intro z; cases z)
        · rw [htl]
          exact upd_keep2 upd_same hD5 (by intro z; cases z)
    · intro D ys H' hD hsm hDl hp
      obtain ⟨ts, rfl, htl, hts⟩ := hp
      exact q D ts H' (fun b o hb e => hsm b o (s02 b o hb e)) (tab_same hT2 hsm) ⟨hDl, htl, hts⟩
theorem sc__law_cell_at : FnScope ["_law_script", "_law_k"] ["_law_script", "_law_k"] (defScope s__law_cell_at) := ⟨rfl, rfl, rfl, by decide +kernel, rfl, by decide +kernel, by decide +kernel⟩
set_option maxHeartbeats 4000000 in
theorem ok__law_cell_at {f : Addr} {fd : FuncData} (F : Fun K "_law_cell_at" "_law_cell_at" s__law_cell_at f fd) (T : Txt K mg) : FnOk P w K mg base CX0 1 f fd ["_law_script", "_law_k"] (sp_cell K) := by
  refine F.ok sc__law_cell_at (fun vs H Q E h => ?_) (fun cdv A outer s H vs Q E hr h => ?_)
  · obtain ⟨a, ns, k, rfl, _⟩ := h
    rfl
  · obtain ⟨a, ns, k, rfl, hS, h0, q⟩ := h
    refine ⟨_, (pss_cons ((ps_if (pt_cmpR op_lt (pv 1) (pe_callB call_len_seq (by rfl) T.len PySem.boot_len (pa_cons (pv 0) pa_nil)) (nomark _)) ((pss_one (ps_ret (pe_ix ix_list (pv 0) (pv 1) (fun _ _ => rfl))))) (pss_nil))) (pss_one (ps_ret pe_int))), ?_⟩
    refine ⟨_, rfl, _, rfl, a, _, rfl, .inl hS, _, _, rfl, rfl, _, rfl, ?_⟩
    refine ite3 (fun hlt => ?_) (fun _ => q 0)
    obtain ⟨v, hv, hv2⟩ := atI_in (xs := ns.map V.int) h0 hlt
    obtain ⟨z, rfl⟩ : ∃ z, v = V.int z := by
      rw [List.getElem?_map] at hv2
      cases e : ns[k.toNat]? with
      | none => rw [e] at hv2; cases hv2
      | some z => rw [e] at hv2; exact ⟨z, (Option.some.inj hv2).symm⟩
    exact ⟨_, rfl, _, rfl, a, _, _, _, rfl, rfl, hS, hv, q z⟩
theorem sc__law_letters : FnScope ["_law_cell", "_law_left", "_law_number", "_law_many", "_law_found", "_law_k", "_law_at"] ["_law_cell"] (defScope s__law_letters) := ⟨rfl, rfl, rfl, by decide +kernel, rfl, by decide +kernel, by decide +kernel⟩
set_option maxHeartbeats 4000000 in
theorem ok__law_letters {f : Addr} {fd : FuncData} (F : Fun K "_law_letters" "_law_letters" s__law_letters f fd) (T : Txt K mg) : FnOk P w K mg base CX0 1 f fd ["_law_cell"] sp_letters := by
  refine F.ok sc__law_letters (fun vs H Q E h => ?_) (fun cdv A outer s H vs Q E hr h => ?_)
  · obtain ⟨c, rfl, _⟩ := h
    rfl
  · obtain ⟨c, rfl, q⟩ := h
    refine ⟨_, (pss_cons ((ps_set (i := 1) sc__law_letters.nd rfl (Or.inl rfl) (pe_str))) (pss_cons ((ps_set (i := 2) sc__law_letters.nd rfl (Or.inl rfl) (pe_op op_mod (pv 0) pe_int))) (pss_cons ((ps_set (i := 3) sc__law_letters.nd rfl (Or.inl rfl) (pe_op op_add pe_int (pe_op op_mod (pv 2) pe_int)))) (pss_cons ((ps_set (i := 2) sc__law_letters.nd rfl (Or.inl rfl) (pe_op op_fdiv (pv 2) pe_int))) (pss_cons ((ps_set (i := 4) sc__law_letters.nd rfl (Or.inl rfl) (pe_str))) (pss_cons ((ps_for PassesOwn.never rfl (pi_range1 rfl T.range (pa_cons (pv 3) pa_nil)) (pg_name (i := 5) sc__law_letters.nd rfl (Or.inl rfl)) ((pss_cons ((ps_set (i := 6) sc__law_letters.nd rfl (Or.inl rfl) (pe_op op_mod (pv 2) (pe_callB call_len_str (by rfl) T.len PySem.boot_len (pa_cons (pv 1) pa_nil))))) (pss_cons ((ps_set (i := 2) sc__law_letters.nd rfl (Or.inl rfl) (pe_op op_fdiv (pv 2) (pe_callB call_len_str (by rfl) T.len PySem.boot_len (pa_cons (pv 1) pa_nil))))) (pss_cons ((ps_set (i := 4) sc__law_letters.nd rfl (Or.inl rfl) (pe_op op_add_str (pv 4) (pe_ix ix_str (pv 1) (pv 6) (fun _ _ => rfl))))) (pss_one ((ps_set (i := 1) sc__law_letters.nd rfl (Or.inl rfl) (pe_op op_add_str (pe_slice sl_str (pv 1) po_none (po_some (pv 6))) (pe_slice sl_str (pv 1) (po_some (pe_op op_add (pv 6) pe_int)) po_none))))))))))) (pss_one (ps_ret (pv 4))))))))), ?_⟩
    refine ⟨_, rfl, _, _, rfl, rfl, (by show (0 : Int) < 46800; decide), _, rfl, _, _, rfl, rfl, (by show (0 : Int) < 3; decide), _, _, rfl, rfl, _, rfl, _, _, rfl, rfl, ⟨by decide, by decide⟩, _, rfl, _, rfl, by omega, by omega, ?_⟩
    have hm : (1 : Int) + c % 46800 % 3 ≤ 3 ∧ 1 ≤ (1 : Int) + c % 46800 % 3 := by omega
    generalize hM : (1 : Int) + c % 46800 % 3 = M at hm ⊢
    refine for_range (n := M.toNat) (fun i σ H' => ∃ f l n k0 a0, σ = [some (.int c), some (.str (tx l)), some (.int n), some (.int M), some (.str (tx f)), k0, a0] ∧ H' = H ∧ 0 ≤ n ∧ f.length = i ∧ l.length + i = 26 ∧ (f ++ l).Nodup ∧ ∀ c ∈ f ++ l, 97 ≤ c ∧ c ≤ 122) ?_ ?_ ?_
    · refine ⟨[], List.range' 97 26, c % 46800 / 3, none, none, ?_, rfl, by omega, rfl, rfl, by decide, by decide⟩
      show [some (V.int c), some (V.str _), some (V.int _), some (V.int _), some (V.str _), none, none] = _
      rw [abc_eq, empty_eq, hM]
    · rintro i σ H1 hi ⟨f, l, n, k0, a0, rfl, rfl, hn, hf, hl, nd, az⟩
      have hz : (tx l).length ≤ sizeLine := line_ge (by rw [tx_len]; omega)
      have hlen : ((tx l).length : Int) = 26 - (i : Int) := by rw [tx_len]; omega
      have hlp : (0 : Int) < ((tx l).length : Int) := by omega
      have hr0 := Int.emod_nonneg n (show ((tx l).length : Int) ≠ 0 by omega)
      have hr1 := Int.emod_lt_of_pos n hlp
      have hd0 : 0 ≤ n / ((tx l).length : Int) := Int.ediv_nonneg hn (by omega)
      have hRl : (n % ((tx l).length : Int)).toNat < l.length := by omega
      obtain ⟨v, hv, hv2⟩ := atI_in (xs := (tx l).cps.toList) hr0 (by rw [tx_cps]; omega)
      rw [tx_cps] at hv2
      have ev : v = l[(n % ((tx l).length : Int)).toNat] := by
        rw [List.getElem?_eq_getElem hRl] at hv2
        exact (Option.some.inj hv2).symm
      subst ev
      refine ⟨_, rfl, _, rfl, _, rfl, hz, _, _, rfl, rfl, hlp, _, rfl, _, rfl, _, rfl, hz, _, _, rfl, rfl, ⟨hlp, by omega⟩, _, rfl, _, rfl, _, rfl, _, _, _, rfl, rfl, hz, hv, _, _, rfl, rfl, ?_, _, rfl, _, rfl, _, rfl, _, rfl, hz, _, rfl, _, rfl, _, _, rfl, rfl, _, rfl, _, rfl, hz, _, _, rfl, rfl, ?_, ?_⟩
      · refine line_ge ?_
        rw [tx_len]
        show f.length + 1 ≤ _
        omega
      · refine line_ge ?_
        have h1 := Txt.slice_le (tx l) none (some (n % ((tx l).length : Int)))
        have h2 := Txt.slice_le (tx l) (some ((n % ((tx l).length : Int)) + 1)) none
        have hll := tx_len l
        omega
      · obtain ⟨d1, d2⟩ := draw_one hRl nd
        refine ⟨f ++ [l[(n % ((tx l).length : Int)).toNat]], l.take (n % ((tx l).length : Int)).toNat ++ l.drop ((n % ((tx l).length : Int)).toNat + 1), n / ((tx l).length : Int), some (.int (0 + (i : Int))), some (.int (n % ((tx l).length : Int))), ?_, rfl, hd0, by rw [List.length_append, hf]; rfl, ?_, d1, fun c hc => az c (d2 c hc)⟩
        · have e1 := slice_to (tx l) hr0
          have e2 := slice_from (tx l) (i := (n % ((tx l).length : Int)) + 1) (by omega) (by rw [tx_cps]; omega)
          rw [tx_cps] at e1 e2
          rw [show ((n % ((tx l).length : Int)) + 1).toNat = (n % ((tx l).length : Int)).toNat + 1 by omega] at e2
          show [some (V.int c), some (V.str (Txt.slice (tx l) none (some (n % ((tx l).length : Int))) ++ Txt.slice (tx l) (some ((n % ((tx l).length : Int)) + 1)) none)), some (V.int _), some (V.int M), some (V.str (tx f ++ ⟨#[l[(n % ((tx l).length : Int)).toNat]]⟩)), some _, some _] = _
          rw [e1, e2, tx_app, show (⟨#[l[(n % ((tx l).length : Int)).toNat]]⟩ : Str) = tx [l[(n % ((tx l).length : Int)).toNat]] from rfl, tx_app]
        · rw [List.length_append, List.length_take, List.length_drop]
          omega
    · rintro σ H1 ⟨f, l, n, k0, a0, rfl, rfl, hn, hf, hl, nd, az⟩
      refine ⟨_, rfl, q f ⟨by omega, by omega, (List.nodup_append.mp nd).1, fun c hc => az c (List.mem_append_left _ hc)⟩⟩
theorem sc__law_word : FnScope ["_law_letters_here", "_law_cells"] ["_law_letters_here", "_law_cells"] (defScope s__law_word) := ⟨rfl, rfl, rfl, by decide +kernel, rfl, by decide +kernel, by decide +kernel⟩
set_option maxHeartbeats 4000000 in
theorem ok__law_word {f : Addr} {fd : FuncData} (F : Fun K "_law_word" "_law_word" s__law_word f fd) (T : Txt K mg) : FnOk P w K mg base CX0 1 f fd ["_law_letters_here", "_law_cells"] (sp_word K) := by
  refine F.ok sc__law_word (fun vs H Q E h => ?_) (fun cdv A outer s H vs Q E hr h => ?_)
  · obtain ⟨L, a, ns, rfl, _⟩ := h
    rfl
  · obtain ⟨L, a, ns, rfl, hL, hS, hl, q⟩ := h
    refine ⟨_, (pss_one (ps_ret (pe_bm PySem.F.plainAttrs_str PySem.F.slot_str_join PySem.F.type_str_join mt_join (pe_str) (pa_cons (pe_comp rfl sc__law_word.nd (pi_list (pv 1)) (fun cl C fp s' H' => ⟨pts_nil, pe_ix ix_str (pv 1) (pe_op op_mod (pv 0) (pe_callB call_len_str (by rfl) T.len PySem.boot_len (pa_cons (pv 1) pa_nil))) (fun _ _ => rfl)⟩)) pa_nil)))), ?_⟩
    have hz : (tx L).length ≤ sizeLine := line_ge (by rw [tx_len]; have := hL.hi; omega)
    have hlp : (0 : Int) < ((tx L).length : Int) := by rw [tx_len]; have := hL.lo; omega
    refine ⟨rfl, comp_listT (signV L) rfl hS (by rw [List.length_map]; exact line_ge (by omega)) (fun i x H' R hx hsame hR => ?_) (fun D hD => ?_)⟩
    · obtain ⟨z, rfl⟩ : ∃ z, x = V.int z := by
        rw [List.getElem?_map] at hx
        cases e : ns[i]? with
        | none => rw [e] at hx; cases hx
        | some z => rw [e] at hx; exact ⟨z, (Option.some.inj hx).symm⟩
      have hr0 := Int.emod_nonneg z (show ((tx L).length : Int) ≠ 0 by omega)
      have hr1 := Int.emod_lt_of_pos z hlp
      obtain ⟨v, hv, hv2⟩ := atI_in (xs := (tx L).cps.toList) hr0 (by rw [tx_cps, ← tx_len]; exact hr1)
      rw [tx_cps] at hv2
      refine ⟨_, rfl, _, rfl, _, rfl, _, rfl, hz, _, _, rfl, rfl, hlp, _, _, _, rfl, rfl, hz, hv, ?_⟩
      have e : signV L (V.int z) = .str ⟨#[v]⟩ := by
        show V.str ⟨#[signAt L z]⟩ = _
        rw [signAt_eq L z, ← tx_len, hv2]
        rfl
      rw [← e]
      exact hR
    · refine ⟨_, D, (ns.map (signAt L)).map fun c => (⟨#[c]⟩ : Str), rfl, rfl, SqL.of ?_, ?_, ?_⟩
      · rw [upd_same]
        simp [List.map_map, Function.comp_def, signV]
      · exact join_size _ (by rw [List.length_map]; omega)
      · rw [empty_eq', join_signs]
        exact q _ _ (by simp) (fun c hc => signs_in hL hc) (Same.upd hD)
theorem sc__law_machine : FnScope ["_law_script", "_law_at", "_law_rooms", "_law_letters_here", "_law_ways", "_law_marks", "_law_number", "_law_k", "_law_rest", "_law_row", "_law_sign"] ["_law_script", "_law_at", "_law_rooms", "_law_letters_here"] (defScope s__law_machine) := ⟨rfl, rfl, rfl, by decide +kernel, rfl, by decide +kernel, by decide +kernel⟩
set_option maxHeartbeats 4000000 in
theorem ok__law_machine {f : Addr} {fd : FuncData} (F : Fun K "_law_machine" "_law_machine" s__law_machine f fd) (T : Txt K mg) (d__law_cell_at : Df P w K mg base "_law_cell_at" 1 ["_law_script", "_law_k"] (sp_cell K)) : FnOk P w K mg base CX0 2 f fd ["_law_script", "_law_at", "_law_rooms", "_law_letters_here"] (sp_machine K) := by
  refine F.ok sc__law_machine (fun vs H Q E h => ?_) (fun cdv A outer s H vs Q E hr h => ?_)
  · obtain ⟨a, ns, p, n, L, rfl, _⟩ := h
    rfl
  · obtain ⟨a, ns, p, n, L, rfl, hS, hp0, hn1, hn60, hL, q⟩ := h
    refine ⟨_, (pss_cons ((ps_set (i := 4) sc__law_machine.nd rfl (Or.inl rfl) (pe_lst pa_nil))) (pss_cons ((ps_set (i := 5) sc__law_machine.nd rfl (Or.inl rfl) (pe_lst pa_nil))) (pss_cons ((ps_set (i := 6) sc__law_machine.nd rfl (Or.inl rfl) (pe_int))) (pss_cons ((ps_for PassesOwn.never rfl (pi_range1 rfl T.range (pa_cons (pv 2) pa_nil)) (pg_name (i := 7) sc__law_machine.nd rfl (Or.inl rfl)) ((pss_cons ((ps_set (i := 6) sc__law_machine.nd rfl (Or.inl rfl) (pe_op op_modG (pe_op op_a (pe_op op_a (pe_op op_p (pv 6) (pv 6)) (pe_op op_p pe_int (pe_op op_m (pe_df d__law_cell_at hr (pa_cons (pv 0) (pa_cons (pe_op op_a (pv 1) (pv 7)) pa_nil))) (pe_op op_pow pe_int pe_int)))) (pv 7)) pe_int))) (pss_cons ((ps_set (i := 8) sc__law_machine.nd rfl (Or.inl rfl) (pv 6))) (pss_cons ((ps_set (i := 9) sc__law_machine.nd rfl (Or.inl rfl) (pe_lst pa_nil))) (pss_cons ((ps_for PassesOwn.never rfl (pi_str (pv 3)) (pg_name (i := 10) sc__law_machine.nd rfl (Or.inl rfl)) ((pss_cons (ps_expr (pe_bm PySem.F.plainAttrs_list PySem.F.slot_list_append PySem.F.type_list_append mt_append (pv 9) (pa_cons (pe_op op_modG (pv 8) (pv 2)) pa_nil))) (pss_one ((ps_set (i := 8) sc__law_machine.nd rfl (Or.inl rfl) (pe_op op_fdivG (pv 8) (pv 2))))))))) (pss_cons (ps_expr (pe_bm PySem.F.plainAttrs_list PySem.F.slot_list_append PySem.F.type_list_append mt_append (pv 4) (pa_cons ((pe_callTy call_tuple_of (by rfl) T.tuple PyProof.Rows.boot_tuple (pa_cons (pv 9) pa_nil))) pa_nil))) (pss_one (ps_expr (pe_bm PySem.F.plainAttrs_list PySem.F.slot_list_append PySem.F.type_list_append mt_append (pv 5) (pa_cons (pe_cmpR op_eq (pe_op op_modG (pv 8) pe_int) pe_int (nomark _)) pa_nil)))))))))))) (pss_one (ps_ret (pe_tup (pa_cons (pv 3) (pa_cons (pe_callTy call_tuple_of (by rfl) T.tuple PyProof.Rows.boot_tuple (pa_cons (pv 4) pa_nil)) (pa_cons (pe_callTy call_tuple_of (by rfl) T.tuple PyProof.Rows.boot_tuple (pa_cons (pv 5) pa_nil)) pa_nil)))))))))), ?_⟩
    refine ⟨Nat.zero_le _, fun wa hwa => ⟨Nat.zero_le _, fun mk hmk => ?_⟩⟩
    have hwm : wa ≠ mk := ne_of_none upd_same hmk
    have hmk0 : H mk = none := by rw [upd_ne hwm.symm] at hmk; exact hmk
    refine ⟨_, rfl, _, rfl, by omega, by omega, ?_⟩
    refine for_range (n := (n : Int).toNat) (fun i σ H' => ∃ (rows : List Addr) (W : List (List Nat)) (B : List Bool) (num : Int) (k0 rest row sg : Option V), σ = [some (.ref a), some (.int p), some (.int (n : Int)), some (.str (tx L)), some (.ref wa), some (.ref mk), some (.int num), k0, rest, row, sg] ∧
      Same H H' ∧ H' wa = some (.lst (rows.map V.ref)) ∧ H' mk = some (.lst (B.map V.bl)) ∧ rows.length = i ∧ W.length = i ∧ B.length = i ∧ 0 ≤ num ∧ num < 2147483647 ∧ RowsAt H' rows W ∧ ∀ ws ∈ W, ws.length = L.length ∧ ∀ x ∈ ws, x < n) ?_ ?_ ?_
    · exact ⟨[], [], [], 0, none, none, none, none, rfl, fun b o e => upd_keep (upd_keep e hwa) hmk, upd_keep upd_same hmk, upd_same, rfl, rfl, rfl, by decide, by decide, fun i r e => by simp at e, fun ws e => by simp at e⟩
    · rintro i σ H1 hi ⟨rows, W, B, num, k0, rest0, row0, sg0, rfl, hsame, h1wa, h1mk, hrl, hWl, hBl, hn0, hn1', hrows, hW⟩
      refine ⟨_, rfl, _, rfl, _, _, rfl, rfl, .inl ⟨by omega, by omega⟩, _, rfl, _, rfl, _, rfl, _, _, rfl, rfl, a, ns, _, rfl, hsame.seq hS, by omega, fun z => ?_⟩
      refine ⟨_, _, rfl, rfl, ⟨by decide, by decide, by decide⟩, _, _, rfl, rfl, by decide, _, _, rfl, rfl, .inl ⟨by decide, by decide⟩, _, _, rfl, rfl, _, rfl, _, _, rfl, rfl, _, _, rfl, rfl, by decide, fun num2 hm0 hm1 => ?_⟩
      refine ⟨_, rfl, Nat.zero_le _, fun rw hrw => ?_⟩
      have rwa : wa ≠ rw := ne_of_none h1wa hrw
      have rmk : mk ≠ rw := ne_of_none h1mk hrw
      refine ⟨_, rfl, _, rfl, for_str (x := tx L) (fun j σ' H2 => ∃ (ws : List Nat) (rest : Int) (sg : Option V), σ' = [some (.ref a), some (.int p), some (.int (n : Int)), some (.str (tx L)), some (.ref wa), some (.ref mk), some (.int num2), some (.int (0 + (i : Int))), some (.int rest), some (.ref rw), sg] ∧
        H2 = upd H1 rw (.lst (intsV ws)) ∧ ws.length = j ∧ (∀ x ∈ ws, x < n) ∧ 0 ≤ rest) ⟨[], num2, sg0, rfl, rfl, rfl, fun x e => by simp at e, hm0⟩ ?_ ?_⟩
      · rintro j c σ2 H2 hc ⟨ws, rest, sg, rfl, rfl, hwl, hwn, hr0⟩
        have hjl : j < 4 := by
          have := (Array.getElem?_eq_some_iff.mp hc).1
          have e : (tx L).cps.size = L.length := tx_len L
          have := hL.hi
          omega
        refine ⟨_, rfl, .inl ⟨rfl, _, SqL.of upd_same⟩, _, rfl, _, rfl, _, _, rfl, rfl, by omega, fun r hr0' hr1 => ⟨rw, _, _, rfl, rfl, upd_same, ?_, _, rfl, _, rfl, _, _, rfl, rfl, ⟨by omega, by omega⟩, hr0, fun q2 hq2 => ?_⟩⟩
        · unfold intsV
          rw [List.length_map]
          exact small1000 (by omega)
        · refine ⟨ws ++ [r.toNat], q2, some (.str ⟨#[c]⟩), rfl, ?_, by rw [List.length_append, hwl]; rfl, fun x hx => ?_, hq2⟩
          · have e : ((r.toNat : Nat) : Int) = r := by omega
            rw [upd_upd]
            unfold intsV
            rw [List.map_append]
            show _ = upd H1 rw (.lst (_ ++ [V.int ((r.toNat : Nat) : Int)]))
            rw [e]
          · rcases List.mem_append.mp hx with hx | hx
            · exact hwn x hx
            · rw [List.mem_singleton.mp hx]
              omega
      · rintro σ2 H2 ⟨ws, rest, sg, rfl, rfl, hwl, hwn, hr0⟩
        rw [tx_len] at hwl
        have a1 : upd H1 rw (.lst (intsV ws)) wa = some (.lst (rows.map V.ref)) := by rw [upd_ne rwa]; exact h1wa
        have a2 : upd H1 rw (.lst (intsV ws)) mk = some (.lst (B.map V.bl)) := by rw [upd_ne rmk]; exact h1mk
        refine ⟨_, rfl, .inl ⟨rfl, _, SqL.of a1⟩, _, rfl, rw, _, rfl, .inl ⟨SqL.of upd_same, fun tp htp => ?_⟩⟩
        have twa : wa ≠ tp := ne_of_none a1 htp
        have tmk : mk ≠ tp := ne_of_none a2 htp
        refine ⟨wa, _, _, rfl, rfl, (by rw [upd_ne twa]; exact a1), (by rw [List.length_map]; exact small1000 (by omega)), ?_⟩
        refine ⟨_, rfl, .inl ⟨rfl, _, SqL.of (by rw [upd_ne hwm.symm, upd_ne tmk]; exact a2)⟩, _, rfl, _, _, rfl, rfl, by decide, fun r3 _ _ => ⟨rfl, mk, _, _, rfl, rfl, (by rw [upd_ne hwm.symm, upd_ne tmk]; exact a2), (by rw [List.length_map]; exact small1000 (by omega)), ?_⟩⟩
        have hk : ∀ b o, H1 b = some o → b ≠ wa → b ≠ mk → upd (upd (upd (upd H1 rw (.lst (intsV ws))) tp (.tup (intsV ws))) wa (.lst (rows.map V.ref ++ [.ref tp]))) mk (.lst (B.map V.bl ++ [.bl (decide (V.int r3 = V.int 1))])) b = some o := fun b o e e1 e2 => by
          rw [upd_ne e2, upd_ne e1, upd_ne (ne_of_none (upd_keep e hrw) htp), upd_ne (ne_of_none e hrw)]
          exact e
        refine ⟨rows ++ [tp], W ++ [ws], B ++ [decide (V.int r3 = V.int 1)], num2, some (.int (0 + (i : Int))), some (.int rest), some (.ref rw), sg, rfl, fun b o e => ?_, ?_, ?_, ?_, ?_, ?_, hm0, hm1, fun j r e => ?_, fun v hv => ?_⟩
        · exact hk b o (hsame b o e) (ne_of_none e hwa) (ne_of_none e hmk0)
        · rw [upd_ne hwm, upd_same, List.map_append]
          rfl
        · rw [upd_same, List.map_append]
          rfl
        · rw [List.length_append, hrl]; rfl
        · rw [List.length_append, hWl]; rfl
        · rw [List.length_append, hBl]; rfl
        · by_cases hj : j < rows.length
          · rw [List.getElem?_append_left hj] at e
            obtain ⟨v, e1, e2⟩ := hrows j r e
            refine ⟨v, by rw [List.getElem?_append_left (by omega)]; exact e1, hk r _ e2 (ne_of e2 h1wa (by intro z; cases z)) (ne_of e2 h1mk (by intro z; cases z))⟩
          · rw [List.getElem?_append_right (by omega)] at e
            have hj0 : j - rows.length = 0 := by
              have := (List.getElem?_eq_some_iff.mp e).1
              simp at this
              omega
            rw [hj0] at e
            have et : tp = r := by simpa using e
            subst et
            refine ⟨ws, by rw [List.getElem?_append_right (by omega), show j - W.length = 0 by omega]; rfl, ?_⟩
            rw [upd_ne tmk.symm, upd_ne twa.symm, upd_same]
        · rcases List.mem_append.mp hv with hv | hv
          · exact hW v hv
          · rw [List.mem_singleton.mp hv]
            exact ⟨hwl, hwn⟩
    · rintro σ H1 ⟨rows, W, B, num, k0, rest0, row0, sg0, rfl, hsame, h1wa, h1mk, hrl, hWl, hBl, hn0, hn1', hrows, hW⟩
      refine ⟨_, rfl, _, rfl, wa, _, rfl, .inl ⟨SqL.of h1wa, fun tw htw => ⟨_, rfl, mk, _, rfl, .inl ⟨SqL.of (upd_keep h1mk htw), fun tm htm => ⟨line_ge (by show 3 ≤ 16777216; decide), fun m hm => ?_⟩⟩⟩⟩⟩
      have up : ∀ b o, H1 b = some o → upd (upd (upd H1 tw (.tup (rows.map V.ref))) tm (.tup (B.map V.bl))) m (.tup [.str (tx L), .ref tw, .ref tm]) b = some o := fun b o e => upd_keep (upd_keep (upd_keep e htw) htm) hm
      have hWn : W.length = n := by omega
      exact q m W B _ (fun b o e => up b o (hsame b o e)) ⟨tw, tm, rows, upd_same, upd_keep (upd_keep upd_same htm) hm, upd_keep upd_same hm, by omega, hrows.same up⟩ ⟨hL, by omega, by omega, by omega, fun ws hws => ⟨(hW ws hws).1, fun x hx => by rw [hWn]; exact (hW ws hws).2 x hx⟩⟩ hWn
theorem sc__law_after : FnScope ["_law_machine_here", "_law_room", "_law_word_here", "_law_sign"] ["_law_machine_here", "_law_room", "_law_word_here"] (defScope s__law_after) := ⟨rfl, rfl, rfl, by decide +kernel, rfl, by decide +kernel, by decide +kernel⟩
set_option maxHeartbeats 4000000 in
theorem ok__law_after {f : Addr} {fd : FuncData} (F : Fun K "_law_after" "_law_after" s__law_after f fd) (T : Txt K mg) : FnOk P w K mg base CX0 1 f fd ["_law_machine_here", "_law_room", "_law_word_here"] sp_after := by
  refine F.ok sc__law_after (fun vs H Q E h => ?_) (fun cdv A outer s H vs Q E hr h => ?_)
  · obtain ⟨m, L, W, B, r, w, rfl, _⟩ := h
    rfl
  · obtain ⟨m, L, W, B, r, w, rfl, hM, hMa, hr0, hw, q⟩ := h
    obtain ⟨wy, mk, rows, h1, h2, h3, h4, h5⟩ := hM
    refine ⟨_, (pss_cons ((ps_for PassesOwn.never rfl (pi_str (pv 2)) (pg_name (i := 3) sc__law_after.nd rfl (Or.inl rfl)) ((pss_one ((ps_set (i := 1) sc__law_after.nd rfl (Or.inl rfl) (pe_ix ix_tup (pe_ix ix_tup (pe_ix ix_tup (pv 0) pe_int (fun _ _ => rfl)) (pv 1) (fun _ _ => rfl)) (pe_bm PySem.F.plainAttrs_str PySem.F.slot_str_find PySem.F.type_str_find mt_find (pe_ix ix_tup (pv 0) pe_int (fun _ _ => rfl)) (pa_cons (pv 3) pa_nil)) (fun _ _ => rfl)))))))) (pss_one (ps_ret (pv 1)))), ?_⟩
    refine ⟨_, rfl, _, rfl, for_str (x := tx w) (fun i σ H' => ∃ s0, σ = [some (.ref m), some (.int (run L W r (w.take i) : Nat)), some (.str (tx w)), s0] ∧ H' = H) ⟨none, rfl, rfl⟩ ?_ ?_⟩
    · rintro i c σ H1 hc ⟨s0, rfl, rfl⟩
      rw [tx_get] at hc
      have hcL : c ∈ L := hw c (List.mem_of_getElem? hc)
      have hlt := run_lt hMa (w := w.take i) hr0 fun d hd => hw d (List.mem_of_mem_take hd)
      obtain ⟨ws, x, e1, e2, e3, e4⟩ := hMa.at hlt hcL
      obtain ⟨rr, hrr⟩ : ∃ rr, rows[run L W r (w.take i)]? = some rr := ⟨rows[run L W r (w.take i)]'(by omega), by simp [h4, hlt]⟩
      obtain ⟨ws', e5, e6⟩ := h5 _ _ hrr
      rw [e1] at e5
      cases e5
      refine ⟨_, rfl, m, _, _, _, rfl, rfl, SqT.of h1, atI_nat (j := 1) rfl, _, rfl, wy, _, _, _, rfl, rfl, SqT.of h2, atI_map V.ref hrr, _, rfl, m, _, _, _, rfl, rfl, SqT.of h1, atI_nat (j := 0) rfl, rfl, _, rfl, _, _, rfl, rfl, ?_⟩
      rw [find_one hcL]
      refine ⟨rr, _, _, _, rfl, rfl, SqT.of e6, atI_map _ e2, ?_⟩
      refine ⟨some (.str ⟨#[c]⟩), ?_, rfl⟩
      show [some (V.ref m), some (V.int ((x : Nat) : Int)), some (V.str (tx w)), some _] = _
      rw [List.take_add_one, hc]
      show _ = [some (V.ref m), some (V.int ((run L W r (w.take i ++ [c]) : Nat) : Int)), some (V.str (tx w)), some (V.str ⟨#[c]⟩)]
      rw [run_snoc, e3]
    · rintro σ H1 ⟨s0, rfl, rfl⟩
      rw [tx_len, List.take_length]
      exact ⟨_, rfl, q⟩
theorem sc__law_act : FnScope ["_law_machine_here", "_law_word_here"] ["_law_machine_here", "_law_word_here"] (defScope s__law_act) := ⟨rfl, rfl, rfl, by decide +kernel, rfl, by decide +kernel, by decide +kernel⟩
set_option maxHeartbeats 4000000 in
theorem ok__law_act {f : Addr} {fd : FuncData} (F : Fun K "_law_act" "_law_act" s__law_act f fd) (T : Txt K mg) (d__law_after : Df P w K mg base "_law_after" 1 ["_law_machine_here", "_law_room", "_law_word_here"] sp_after) : FnOk P w K mg base CX0 2 f fd ["_law_machine_here", "_law_word_here"] sp_lawact := by
  refine F.ok sc__law_act (fun vs H Q E h => ?_) (fun cdv A outer s H vs Q E hr h => ?_)
  · obtain ⟨m, L, W, B, w, rfl, _⟩ := h
    rfl
  · obtain ⟨m, L, W, B, w, rfl, hM, hMa, hw, q⟩ := h
    refine ⟨_, (pss_one (ps_ret (pe_callTy call_tuple_of (by rfl) T.tuple PyProof.Rows.boot_tuple (pa_cons (pe_compS ["_law_machine_here", "_law_word_here"] rfl (by decide) (pi_range1 rfl T.range (pa_cons (pe_callB call_len_seq (by rfl) T.len PySem.boot_len (pa_cons (pe_ix ix_tup (pv 0) pe_int (fun _ _ => rfl)) pa_nil)) pa_nil)) (fun cl C fp s' H' => ⟨pts_nil, (pe_df d__law_after hr (pa_cons (pv 1) (pa_cons (pv 0) (pa_cons (pv 2) pa_nil))))⟩)) pa_nil)))), ?_⟩
    have hM0 := hM
    obtain ⟨wy, mk, rows, h1, h2, h3, h4, h5⟩ := hM0
    have hl : (rows.map V.ref).length = W.length := by rw [List.length_map, h4]
    dsimp only [tRet, gName, tNext, tSeq, tAsg, tCall, tCons, tBM, tCB]
    refine comp_rngG (n := W.length) (fun R h => ⟨_, rfl, m, _, _, _, rfl, rfl, SqT.of h1, atI_nat (j := 1) rfl, wy, _, rfl, .inr (SqT.of h2), by rw [hl]; exact h⟩) (Nat.le_trans hMa.n60 (by decide)) (fun D j ys H' => ys = intsV ((List.range j).map fun r => run L W r w) ∧ (0 < j → ∀ c ∈ w, c ∈ L)) (fun D hD => ⟨rfl, fun z => absurd z (Nat.lt_irrefl 0)⟩) ?_ ?_
    · intro D j ys H' R1 R2 hD hj hsm hDl hp k1 k2
      refine tAlways_if ⟨_, rfl, _, rfl, _, rfl, m, L, W, B, j, w, by rw [Int.zero_add]; rfl, hM.same hsm, hMa, hj, hw, k1 _ H' hDl (Same.set hsm hD) ⟨?_, fun _ => hw⟩⟩
      rw [hp.1, List.range_succ, List.map_append]
      exact (ints_snocW _ _).symm
    · intro D ys H' hD hsm hDl hp
      refine ⟨D, ys, rfl, .inl ⟨SqL.of hDl, fun t ht => q t _ (hsm.trans (Same.upd ht)) ?_⟩⟩
      rw [upd_same, hp.1]
      rfl
theorem sc__law_turns : FnScope ["_law_script", "_law_letters_here", "_law_rooms", "_law_ways", "_law_room", "_law_row", "_law_k", "_law_back"] ["_law_script", "_law_letters_here"] (defScope s__law_turns) := ⟨rfl, rfl, rfl, by decide +kernel, rfl, by decide +kernel, by decide +kernel⟩
set_option maxHeartbeats 4000000 in
theorem ok__law_turns {f : Addr} {fd : FuncData} (F : Fun K "_law_turns" "_law_turns" s__law_turns f fd) (T : Txt K mg) (d__law_cell_at : Df P w K mg base "_law_cell_at" 1 ["_law_script", "_law_k"] (sp_cell K)) : FnOk P w K mg base CX0 2 f fd ["_law_script", "_law_letters_here"] (sp_mk8 K) := by
  refine F.ok sc__law_turns (fun vs H Q E h => ?_) (fun cdv A outer s H vs Q E hr h => ?_)
  · obtain ⟨a, ns, L, rfl, _⟩ := h
    rfl
  · obtain ⟨a, ns, L, rfl, hS, hL, q⟩ := h
    refine ⟨_, (pss_cons ((ps_set (i := 2) sc__law_turns.nd rfl (Or.inl rfl) (pe_op op_a pe_int (pe_op op_m (pe_df d__law_cell_at hr (pa_cons (pv 0) (pa_cons (pe_int) pa_nil))) pe_int)))) (pss_cons ((ps_set (i := 3) sc__law_turns.nd rfl (Or.inl rfl) (pe_lst pa_nil))) (pss_cons ((ps_for PassesOwn.never rfl (pi_range1 rfl T.range (pa_cons (pv 2) pa_nil)) (pg_name (i := 4) sc__law_turns.nd rfl (Or.inl rfl)) ((pss_cons ((ps_set (i := 5) sc__law_turns.nd rfl (Or.inl rfl) (pe_lst pa_nil))) (pss_cons ((ps_for PassesOwn.never rfl (pi_range1 rfl T.range (pa_cons (pe_callB call_len_str (by rfl) T.len PySem.boot_len (pa_cons (pv 1) pa_nil)) pa_nil)) (pg_name (i := 6) sc__law_turns.nd rfl (Or.inl rfl)) ((pss_cons ((ps_set (i := 7) sc__law_turns.nd rfl (Or.inl rfl) (pe_op op_s pe_int (pe_op op_p pe_int (pe_op op_m (pe_df d__law_cell_at hr (pa_cons (pv 0) (pa_cons (pe_op op_a pe_int (pe_op op_p pe_int (pv 6))) pa_nil))) pe_int))))) (pss_one (ps_expr (pe_bm PySem.F.plainAttrs_list PySem.F.slot_list_append PySem.F.type_list_append mt_append (pv 5) (pa_cons (pe_op op_modG (pe_op op_a (pe_op op_p (pv 7) (pv 4)) (pe_df d__law_cell_at hr (pa_cons (pv 0) (pa_cons (pe_op op_a pe_int (pe_op op_p pe_int (pv 6))) pa_nil)))) (pv 2)) pa_nil)))))))) (pss_one (ps_expr (pe_bm PySem.F.plainAttrs_list PySem.F.slot_list_append PySem.F.type_list_append mt_append (pv 3) (pa_cons ((pe_callTy call_tuple_of (by rfl) T.tuple PyProof.Rows.boot_tuple (pa_cons (pv 5) pa_nil))) pa_nil))))))))) (pss_one (ps_ret (pe_tup (pa_cons (pv 1) (pa_cons (pe_callTy call_tuple_of (by rfl) T.tuple PyProof.Rows.boot_tuple (pa_cons (pv 3) pa_nil)) (pa_cons (pe_callTy call_tuple_of (by rfl) T.tuple PyProof.Rows.boot_tuple (pa_cons (pe_compS ["_law_script", "_law_letters_here", "_law_rooms", "_law_ways", "?", "_law_row", "_law_k", "_law_back"] rfl (by decide) (pi_range1 rfl T.range (pa_cons (pv 2) pa_nil)) (fun cl C fp s' H' => ⟨pts_nil, pe_cmpR op_eq (pe_op op_m (pv 0) pe_int) pe_int (nomark _)⟩)) pa_nil)) pa_nil))))))))), ?_⟩
    have hz : (tx L).length ≤ sizeLine := line_ge (by rw [tx_len]; exact Nat.le_trans hL.hi (by decide))
    refine ⟨_, rfl, a, ns, 2, rfl, hS, by decide, fun z0 => ⟨_, _, rfl, rfl, by decide, _, _, rfl, rfl, ?_⟩⟩
    obtain ⟨n, en, n1, n2⟩ := ar_room z0 1 8 (by decide)
    have en' : (1 : Int) + z0 % 8 = (n : Int) := en.symm
    rw [en']
    refine ⟨Nat.zero_le _, fun wa hwa => ?_⟩
    refine ⟨_, rfl, _, rfl, by omega, by omega, ?_⟩
    refine for_range (n := (n : Int).toNat) (fun i σ H' => ∃ (rows : List Addr) (W : List (List Nat)) (s4 s5 s6 s7 : Option V), σ = [some (.ref a), some (.str (tx L)), some (.int (n : Int)), some (.ref wa), s4, s5, s6, s7] ∧ Same H H' ∧ H' wa = some (.lst (rows.map V.ref)) ∧ rows.length = i ∧ W.length = i ∧ RowsAt H' rows W ∧ ∀ ws ∈ W, ws.length = L.length ∧ ∀ x ∈ ws, x < n) ⟨[], [], none, none, none, none, rfl, Same.upd hwa, upd_same, rfl, rfl, fun i r e => by simp at e, fun ws e => by simp at e⟩ ?_ ?_
    · rintro i σ H1 hi ⟨rows, W, s4, s5, s6, s7, rfl, sm, h1, hrl, hWl, hrows, hW⟩
      have hin : i < n := by omega
      refine ⟨Nat.zero_le _, fun rw hrw => ?_⟩
      have rwa : wa ≠ rw := ne_of_none h1 hrw
      refine ⟨_, rfl, _, rfl, hz, _, rfl, by rw [tx_len]; omega, by rw [tx_len]; have := hL.hi; omega, ?_⟩
      refine for_range (n := ((tx L).length : Int).toNat) (fun j σ' H2 => ∃ (ws : List Nat) (s6 s7 : Option V), σ' = [some (.ref a), some (.str (tx L)), some (.int (n : Int)), some (.ref wa), some (.int (0 + (i : Int))), some (.ref rw), s6, s7] ∧ H2 = L2.upd H1 rw (.lst (intsV ws)) ∧ ws.length = j ∧ ∀ x ∈ ws, x < n) ⟨[], _, _, rfl, rfl, rfl, fun x e => by simp at e⟩ ?_ ?_
      · rintro j σ2 H2 hj ⟨ws, s6, s7, rfl, rfl, hwl, hwn⟩
        have hj4 : j < 4 := by have := hL.hi; rw [tx_len] at hj; omega
        have s1 : Same H (L2.upd H1 rw (.lst (intsV ws))) := Same.set sm (same_none sm hrw)
        refine ⟨_, rfl, _, rfl, _, _, rfl, rfl, .inl ⟨by decide, by decide⟩, _, _, rfl, rfl, a, ns, _, rfl, s1.seq hS, by omega, fun z1 => ⟨_, _, rfl, rfl, by decide, _, _, rfl, rfl, .inl ⟨by decide, by decide⟩, _, _, rfl, rfl, ?_⟩⟩
        refine ⟨_, rfl, .inl ⟨rfl, _, SqL.of upd_same⟩, _, rfl, _, rfl, _, _, rfl, rfl, .inr ⟨by omega, by omega⟩, _, rfl, _, rfl, _, _, rfl, rfl, .inl ⟨by decide, by decide⟩, _, _, rfl, rfl, a, ns, _, rfl, s1.seq hS, by omega, fun z2 => ⟨_, _, rfl, rfl, _, rfl, _, _, rfl, rfl, by omega, fun r hr0 hr1 => ?_⟩⟩
        obtain ⟨x, rfl⟩ := Int.eq_ofNat_of_zero_le hr0
        refine ⟨rw, _, _, rfl, rfl, upd_same, by rw [intsV_len]; exact small1000 (by omega), ws ++ [x], _, _, rfl, by rw [upd_upd, ints_snocW], by rw [List.length_append, hwl]; rfl, fun y hy => ?_⟩
        rcases List.mem_append.mp hy with z | z
        · exact hwn y z
        · rw [List.mem_singleton.mp z]; exact Int.ofNat_lt.mp hr1
      · rintro σ2 H2 ⟨ws, s6, s7, rfl, rfl, hwl, hwn⟩
        have hwl' : ws.length = L.length := by rw [hwl, tx_len]; omega
        have a1 : L2.upd H1 rw (.lst (intsV ws)) wa = some (.lst (rows.map V.ref)) := by rw [upd_ne rwa]; exact h1
        have hr2 : RowsAt (L2.upd H1 rw (.lst (intsV ws))) rows W := hrows.same (Same.upd hrw)
        refine ⟨_, rfl, .inl ⟨rfl, _, SqL.of a1⟩, _, rfl, rw, _, rfl, .inl ⟨SqL.of upd_same, fun tp htp => ?_⟩⟩
        obtain ⟨u1, u2, u3⟩ := rows_up (ws := ws) a1 hr2 (by rw [hrl, hWl]) htp
        refine ⟨wa, _, _, rfl, rfl, upd_keep a1 htp, by rw [List.length_map]; exact small1000 (by omega), rows ++ [tp], W ++ [ws], _, _, _, _, rfl, fun b o e => ?_, u1, by rw [List.length_append, hrl]; rfl, by rw [List.length_append, hWl]; rfl, u2, fun v hv => ?_⟩
        · exact u3 b o (by rw [upd_ne (ne_of_none (sm _ _ e) hrw)]; exact sm _ _ e) (ne_of_none e hwa)
        · rcases List.mem_append.mp hv with z | z
          · exact hW v z
          · rw [List.mem_singleton.mp z]; exact ⟨hwl', hwn⟩
    · rintro σ H1 ⟨rows, W, s4, s5, s6, s7, rfl, sm, h1, hrl, hWl, hrows, hW⟩
      have hWn : W.length = n := by omega
      refine ⟨_, rfl, _, rfl, wa, _, rfl, .inl ⟨SqL.of h1, fun tw htw => ?_⟩⟩
      dsimp only [tCons, tCB, tCall]
      refine comp_rngG (n := n) (fun R h => ⟨_, rfl, h⟩) (by omega) (fun D j ys H' => ∃ B : List Bool, ys = B.map V.bl ∧ B.length = j) (fun D hD => ⟨[], rfl, rfl⟩) ?_ ?_
      · intro D j ys H' R1 R2 hD hj hsm hDl hp k1 k2
        obtain ⟨B, rfl, hB⟩ := hp
        exact tAlways_if ⟨_, rfl, _, _, rfl, rfl, by decide, rfl, k1 _ H' hDl (Same.set hsm hD) ⟨B ++ [_], by rw [List.map_append]; rfl, by rw [List.length_append, hB]; rfl⟩⟩
      · intro D ys H' hD hsm hDl hp
        obtain ⟨B, rfl, hB⟩ := hp
        refine ⟨D, _, rfl, .inl ⟨SqL.of hDl, fun tm htm => ⟨line_ge (by show 3 ≤ 16777216; decide), fun m hm => ?_⟩⟩⟩
        have htw' : H' tw = some (.tup (rows.map V.ref)) := hsm _ _ upd_same
        have up : Same H1 (L2.upd (L2.upd H' tm (.tup (B.map V.bl))) m (.tup [.str (tx L), .ref tw, .ref tm])) := ((Same.upd htw).trans hsm).trans ((Same.upd htm).trans (Same.upd hm))
        exact q m W B _ (sm.trans up) ⟨tw, tm, rows, upd_same, upd_keep (upd_keep htw' htm) hm, upd_keep upd_same hm, by omega, hrows.same up⟩ ⟨hL, by omega, by omega, by omega, fun ws hws => ⟨(hW ws hws).1, fun x hx => by rw [hWn]; exact (hW ws hws).2 x hx⟩⟩ (by omega)
theorem sc__law_order : FnScope ["_law_cell", "_law_many", "_law_found", "_law_number", "_law_k"] ["_law_cell", "_law_many"] (defScope s__law_order) := ⟨rfl, rfl, rfl, by decide +kernel, rfl, by decide +kernel, by decide +kernel⟩
set_option maxHeartbeats 4000000 in
theorem ok__law_order {f : Addr} {fd : FuncData} (F : Fun K "_law_order" "_law_order" s__law_order f fd) (T : Txt K mg) : FnOk P w K mg base CX0 1 f fd ["_law_cell", "_law_many"] sp_order := by
  refine F.ok sc__law_order (fun vs H Q E h => ?_) (fun cdv A outer s H vs Q E hr h => ?_)
  · obtain ⟨z, n, rfl, _⟩ := h
    rfl
  · obtain ⟨z, n, rfl, hn60, q⟩ := h
    refine ⟨_, (pss_cons ((ps_set (i := 2) sc__law_order.nd rfl (Or.inl rfl) (pe_lst pa_nil))) (pss_cons ((ps_set (i := 3) sc__law_order.nd rfl (Or.inl rfl) (pe_op op_modG (pv 0) pe_int))) (pss_cons ((ps_for PassesOwn.never rfl (pi_range1 rfl T.range (pa_cons (pv 1) pa_nil)) (pg_name (i := 4) sc__law_order.nd rfl (Or.inl rfl)) ((pss_cons ((ps_set (i := 3) sc__law_order.nd rfl (Or.inl rfl) (pe_op op_modG (pe_op op_a (pe_op op_a (pe_op op_p (pv 3) (pv 3)) (pe_op op_p pe_int (pv 3))) (pv 4)) pe_int))) (pss_one (ps_expr (pe_bm PySem.F.plainAttrs_list PySem.F.slot_list_insert PySem.F.type_list_insert mt_insert (pv 2) (pa_cons (pe_op op_modG (pv 3) (pe_op op_a (pv 4) pe_int)) (pa_cons (pv 4) pa_nil))))))))) (pss_one (ps_ret (pv 2)))))), ?_⟩
    refine ⟨Nat.zero_le _, fun l hl => ?_⟩
    refine ⟨_, rfl, _, _, rfl, rfl, by decide, fun num hm0 hm1 => ?_⟩
    refine ⟨_, rfl, _, rfl, by omega, by omega, ?_⟩
    refine for_range (n := (n : Int).toNat) (fun i σ' H' => ∃ (ls : List Nat) (num : Int) (s4 : Option V), σ' = [some (.int z), some (.int (n : Int)), some (.ref l), some (.int num), s4] ∧ 0 ≤ num ∧ num < 2147483647 ∧ H' = L2.upd H l (.lst (intsV ls)) ∧ ls.length = i ∧ (∀ x ∈ ls, x < i) ∧ ∀ x < i, x ∈ ls) ⟨[], num, none, rfl, hm0, hm1, rfl, rfl, fun x hx => by simp at hx, fun x hx => absurd hx (Nat.not_lt_zero _)⟩ ?_ ?_
    · rintro i σ' H' hi ⟨ls, num, s4, rfl, hq0, hq1, rfl, e1, e2, e3⟩
      refine ⟨_, rfl, _, rfl, _, _, rfl, rfl, .inl (ar_64 hq0 hq1), _, rfl, _, _, rfl, rfl, .inl ⟨by decide, by decide⟩, _, _, rfl, rfl, _, rfl, _, _, rfl, rfl, _, _, rfl, rfl, by decide, fun num2 hm0 hm1 => ?_⟩
      refine ⟨_, rfl, .inl ⟨rfl, _, SqL.of upd_same⟩, _, rfl, _, rfl, _, _, rfl, rfl, _, _, rfl, rfl, by omega, fun r hr0 hr1 => ?_⟩
      obtain ⟨r, rfl⟩ := Int.eq_ofNat_of_zero_le hr0
      have hri : r ≤ i := by omega
      refine ⟨_, rfl, l, intsV ls, _, _, rfl, rfl, upd_same, hr0, by omega, by rw [intsV_len, e1]; omega, by rw [intsV_len, e1]; exact small1000 (by omega), ls.take r ++ i :: ls.drop r, num2, _, rfl, hm0, Int.lt_trans hm1 (by decide), ?_, ?_, fun x hx => ?_, fun x hx => ?_⟩
      · rw [upd_upd, Int.toNat_natCast, Int.zero_add]
        congr 2
        unfold intsV
        rw [List.map_append, List.map_cons, List.map_take, List.map_drop]
      · rw [List.length_append, List.length_cons, List.length_take, List.length_drop, e1]
        omega
      · rcases List.mem_append.mp hx with y | y
        · exact Nat.lt_succ_of_lt (e2 x (List.mem_of_mem_take y))
        · rcases List.mem_cons.mp y with y | y
          · rw [y]; exact Nat.lt_succ_self i
          · exact Nat.lt_succ_of_lt (e2 x (List.mem_of_mem_drop y))
      · by_cases hxi : x = i
        · rw [hxi]; exact List.mem_append_right _ List.mem_cons_self
        · have := e3 x (by omega)
          rw [← List.take_append_drop r ls] at this
          rcases List.mem_append.mp this with y | y
          · exact List.mem_append_left _ y
          · exact List.mem_append_right _ (List.mem_cons_of_mem _ y)
    · rintro σ' H' ⟨ls, num, s4, rfl, hq0, hq1, rfl, e1, e2, e3⟩
      have en : (n : Int).toNat = n := Int.toNat_natCast n
      rw [en] at e1 e2 e3
      exact ⟨_, rfl, q l ls _ (Same.upd hl) upd_same e1 e2 e3⟩
theorem sc__law_third : FnScope ["_law_kind", "_law_room"] ["_law_kind", "_law_room"] (defScope s__law_third) := ⟨rfl, rfl, rfl, by decide +kernel, rfl, by decide +kernel, by decide +kernel⟩
set_option maxHeartbeats 4000000 in
theorem ok__law_third {f : Addr} {fd : FuncData} (F : Fun K "_law_third" "_law_third" s__law_third f fd) (T : Txt K mg) : FnOk P w K mg base CX0 1 f fd ["_law_kind", "_law_room"] sp_third := by
  refine F.ok sc__law_third (fun vs H Q E h => ?_) (fun cdv A outer s H vs Q E hr h => ?_)
  · obtain ⟨kd, r, rfl, _⟩ := h
    rfl
  · obtain ⟨kd, r, rfl, hr8, q⟩ := h
    refine ⟨_, (pss_cons ((ps_if (pt_cmpR op_eq (pv 0) pe_int (nomark _)) ((pss_one (ps_ret (pv 1)))) (pss_nil))) (pss_cons ((ps_if ((pw_or (pt_cmpR op_eq (pv 0) pe_int (nomark _)) (pw_or1 (pt_cmpR op_eq (pv 0) pe_int (nomark _)))).pt) ((pss_one (ps_ret pe_int))) (pss_nil))) (pss_one (ps_ret (pe_ix ix_list (pe_lst (pa_cons pe_int (pa_cons pe_int (pa_cons pe_int (pa_cons pe_int (pa_cons pe_int (pa_cons pe_int (pa_cons pe_int (pa_cons pe_int pa_nil))))))))) (pv 1) (fun _ _ => rfl)))))), ?_⟩
    refine ⟨_, rfl, rfl, _, rfl, ite3 (fun _ => ⟨_, rfl, q r H (Same.refl H) hr8 fun _ _ z => z⟩) (fun _ => ?_)⟩
    refine ⟨_, rfl, rfl, _, rfl, ite3 (fun h1 => q 7 H (Same.refl H) (by decide) fun z => ?_) (fun h1 => ⟨_, rfl, rfl, _, rfl, ite3 (fun h2 => q 7 H (Same.refl H) (by decide) fun _ z => ?_) (fun h2 => ?_)⟩)⟩
    · exact absurd (V.int.inj h1) z
    · exact absurd (V.int.inj h2) z
    refine ⟨line_ge (by show 8 ≤ 16777216; decide), fun l hl => ⟨_, rfl, l, _, _, _, rfl, rfl, SqL.of (upd_same (o := .lst (intsV lit3))), atI_ints (ns := lit3) hr8, q (lit3.getD r 0) _ (Same.upd hl) ?_ fun _ _ h7 => ?_⟩⟩
    · exact (by decide : ∀ r < 8, lit3.getD r 0 < 8) r hr8
    · exact (by decide : ∀ r < 7, lit3.getD r 0 < 7) r h7
theorem sc__law_forty : FnScope ["_law_script", "_law_letters_here", "_law_kind", "_law_rooms", "_law_order_here", "_law_turn", "_law_ways", "_law_room", "_law_goals", "_law_row", "_law_k"] ["_law_script", "_law_letters_here"] (defScope s__law_forty) := ⟨rfl, rfl, rfl, by decide +kernel, rfl, by decide +kernel, by decide +kernel⟩
set_option maxHeartbeats 4000000 in
theorem ok__law_forty {f : Addr} {fd : FuncData} (F : Fun K "_law_forty" "_law_forty" s__law_forty f fd) (T : Txt K mg) (d__law_cell_at : Df P w K mg base "_law_cell_at" 1 ["_law_script", "_law_k"] (sp_cell K)) (d__law_order : Df P w K mg base "_law_order" 1 ["_law_cell", "_law_many"] sp_order) (d__law_third : Df P w K mg base "_law_third" 1 ["_law_kind", "_law_room"] sp_third) : FnOk P w K mg base CX0 2 f fd ["_law_script", "_law_letters_here"] (sp_mk8 K) := by
  refine F.ok sc__law_forty (fun vs H Q E h => ?_) (fun cdv A outer s H vs Q E hr h => ?_)
  · obtain ⟨a, ns, L, rfl, _⟩ := h
    rfl
  · obtain ⟨a, ns, L, rfl, hS, hL, q⟩ := h
    have hr1 := hr.mono (j := 1) (by decide)
    refine ⟨_, (pss_cons ((ps_set (i := 2) sc__law_forty.nd rfl (Or.inl rfl) (pe_op op_m (pe_df d__law_cell_at hr1 (pa_cons (pv 0) (pa_cons (pe_int) pa_nil))) pe_int))) (pss_cut ((ps_set (i := 3) sc__law_forty.nd rfl (Or.inl rfl) (pe_op op_a pe_int (pe_callTy call_int1 (by rfl) T.int PyProof.Rows.boot_int (pa_cons (pe_or (pe_cmpR op_eq (pv 2) pe_int (nomark _)) (pe_one (pe_cmpR op_eq (pv 2) pe_int (nomark _)))) pa_nil))))) (pss_cons ((ps_set (i := 4) sc__law_forty.nd rfl (Or.inl rfl) ((pe_df d__law_order hr1 (pa_cons ((pe_df d__law_cell_at hr1 (pa_cons (pv 0) (pa_cons (pe_int) pa_nil)))) (pa_cons (pv 3) pa_nil)))))) (pss_cons ((ps_set (i := 5) sc__law_forty.nd rfl (Or.inl rfl) ((pe_df d__law_cell_at hr1 (pa_cons (pv 0) (pa_cons (pe_int) pa_nil)))))) (pss_cons ((ps_set (i := 6) sc__law_forty.nd rfl (Or.inl rfl) (pe_lst pa_nil))) (pss_cons ((ps_for PassesOwn.never rfl (pi_list (pv 4)) (pg_name (i := 7) sc__law_forty.nd rfl (Or.inl rfl)) ((pss_cons ((ps_set (i := 8) sc__law_forty.nd rfl (Or.inl rfl) (pe_lst (pa_cons (pe_ix ix_list (pe_lst (pa_cons pe_int (pa_cons pe_int (pa_cons pe_int (pa_cons pe_int (pa_cons pe_int (pa_cons pe_int (pa_cons pe_int (pa_cons pe_int pa_nil))))))))) (pv 7) (fun _ _ => rfl)) (pa_cons (pe_ix ix_list (pe_lst (pa_cons pe_int (pa_cons pe_int (pa_cons pe_int (pa_cons pe_int (pa_cons pe_int (pa_cons pe_int (pa_cons pe_int (pa_cons pe_int pa_nil))))))))) (pv 7) (fun _ _ => rfl)) (pa_cons (pe_df d__law_third hr1 (pa_cons (pv 2) (pa_cons (pv 7) pa_nil))) pa_nil)))))) (pss_cons ((ps_set (i := 9) sc__law_forty.nd rfl (Or.inl rfl) (pe_lst pa_nil))) (pss_cons ((ps_for PassesOwn.never rfl (pi_range1 rfl T.range (pa_cons (pe_callB call_len_str (by rfl) T.len PySem.boot_len (pa_cons (pv 1) pa_nil)) pa_nil)) (pg_name (i := 10) sc__law_forty.nd rfl (Or.inl rfl)) ((pss_one (ps_expr (pe_bm PySem.F.plainAttrs_list PySem.F.slot_list_append PySem.F.type_list_append mt_append (pv 9) (pa_cons (pe_indexI K (pv 4) (pa_cons (pe_ix ix_list (pv 8) (pe_op op_m (pe_op op_a (pv 5) (pv 10)) (pe_callB call_len_str (by rfl) T.len PySem.boot_len (pa_cons (pv 1) pa_nil))) (fun _ _ => rfl)) pa_nil)) pa_nil))))))) (pss_one (ps_expr (pe_bm PySem.F.plainAttrs_list PySem.F.slot_list_append PySem.F.type_list_append mt_append (pv 6) (pa_cons ((pe_callTy call_tuple_of (by rfl) T.tuple PyProof.Rows.boot_tuple (pa_cons (pv 9) pa_nil))) pa_nil)))))))))) (pss_one (ps_ret (pe_tup (pa_cons (pv 1) (pa_cons (pe_callTy call_tuple_of (by rfl) T.tuple PyProof.Rows.boot_tuple (pa_cons (pv 6) pa_nil)) (pa_cons (pe_callTy call_tuple_of (by rfl) T.tuple PyProof.Rows.boot_tuple (pa_cons (pe_compS ["_law_script", "_law_letters_here", "_law_kind", "_law_rooms", "_law_order_here", "_law_turn", "_law_ways", "?", "_law_goals", "_law_row", "_law_k"] rfl (by decide) (pi_range1 rfl T.range (pa_cons (pv 3) pa_nil)) (fun cl C fp s' H' => ⟨pts_nil, pe_cmpR op_eq (pe_op op_m (pv 0) pe_int) pe_int (nomark _)⟩)) pa_nil)) pa_nil)))))))))))), ?_⟩
    have hz : (tx L).length ≤ sizeLine := line_ge (by rw [tx_len]; exact Nat.le_trans hL.hi (by decide))
    have hlp : (0 : Int) < ((tx L).length : Int) := by rw [tx_len]; exact ar_pos1 hL.lo
    refine ⟨_, rfl, a, ns, 2, rfl, hS, by decide, fun z0 => ⟨_, _, rfl, rfl, by decide, ?_⟩⟩
    generalize z0 % 4 = kd
    refine ⟨fun σ' H' => ∃ n : Nat, σ' = [some (.ref a), some (.str (tx L)), some (.int kd), some (.int (n : Int)), none, none, none, none, none, none, none] ∧ H' = H ∧ (n = 8 ∨ (n = 7 ∧ kd ≠ 1 ∧ kd ≠ 2)), ?_, ?_⟩
    · refine ⟨_, rfl, rfl, _, rfl, ite3 (fun h1 => .inr ⟨true, rfl, _, _, rfl, rfl, 8, rfl, rfl, .inl rfl⟩) (fun h1 => ⟨_, rfl, rfl, ?_⟩)⟩
      by_cases h2 : kd = 2
      · rw [decide_eq_true (by rw [h2])]
        exact .inr ⟨true, rfl, _, _, rfl, rfl, 8, rfl, rfl, .inl rfl⟩
      · rw [decide_eq_false (fun z => h2 (V.int.inj z))]
        exact .inr ⟨false, rfl, _, _, rfl, rfl, 7, rfl, rfl, .inr ⟨rfl, fun z => h1 (by rw [z]), h2⟩⟩
    rintro σ0 H ⟨n, rfl, rfl, hn⟩
    have hn7 : 7 ≤ n ∧ n ≤ 8 := by omega
    refine ⟨_, rfl, a, ns, 4, rfl, hS, by decide, fun z1 => ⟨_, rfl, z1, n, rfl, by omega, fun p ls H1 s1 hp hll hlt hall => ?_⟩⟩
    refine ⟨_, rfl, a, ns, 5, rfl, s1.seq hS, by decide, fun tn => ⟨Nat.zero_le _, fun wa hwa => ?_⟩⟩
    have hp1 := upd_keep (u := .lst []) hp hwa
    refine ⟨_, rfl, p, rfl, ⟨_, SqL.of hp1⟩, ?_⟩
    have hwa0 : H wa = none := same_none s1 hwa
    refine for_list (K := K) (a := p) (xs := intsV ls) (fun i σ H' => ∃ (rows : List Addr) (W : List (List Nat)) (s7 s8 s9 s10 : Option V), σ = [some (.ref a), some (.str (tx L)), some (.int kd), some (.int (n : Int)), some (.ref p), some (.int tn), some (.ref wa), s7, s8, s9, s10] ∧ Same H H' ∧ H' p = some (.lst (intsV ls)) ∧ H' wa = some (.lst (rows.map V.ref)) ∧ rows.length = i ∧ W.length = i ∧ RowsAt H' rows W ∧ ∀ ws ∈ W, ws.length = L.length ∧ ∀ x ∈ ws, x < n) ⟨[], [], none, none, none, none, rfl, s1.trans (Same.upd hwa), hp1, upd_same, rfl, rfl, fun i r e => by simp at e, fun ws e => by simp at e⟩ ?_ ?_ ?_
    · rintro i σ' H' hi ⟨rows, W, s7, s8, s9, s10, rfl, sm, hp2, _⟩
      exact SqL.of hp2
    · rintro i x σ' H2 hx ⟨rows, W, s7, s8, s9, s10, rfl, sm, hp2, h1, hrl, hWl, hrows, hW⟩
      have hi : i < ls.length := by have := (List.getElem?_eq_some_iff.mp hx).1; rwa [intsV_len] at this
      rw [intsV_get hi] at hx
      cases hx
      have hr0 : ls.getD i 0 < n := hlt _ (getD_in hi)
      generalize ls.getD i 0 = r at hr0
      have hr8 : r < 8 := by omega
      refine ⟨line_ge (by show 8 ≤ 16777216; decide), fun l1 hl1 => ⟨_, rfl, l1, _, _, _, rfl, rfl, SqL.of (upd_same (o := .lst (intsV lit1))), atI_ints (ns := lit1) hr8, ?_⟩⟩
      refine ⟨line_ge (by show 8 ≤ 16777216; decide), fun l2 hl2 => ⟨_, rfl, l2, _, _, _, rfl, rfl, SqL.of (upd_same (o := .lst (intsV lit2))), atI_ints (ns := lit2) hr8, ?_⟩⟩
      refine ⟨_, rfl, _, rfl, kd, r, rfl, hr8, fun x3 H3 s3 hx8 hx7 => ⟨line_ge (by show 3 ≤ 16777216; decide), fun gl hgl => ⟨Nat.zero_le _, fun rw hrw => ?_⟩⟩⟩
      have s23 : Same H2 H3 := (Same.upd hl1).trans ((Same.upd hl2).trans s3)
      have g1 : lit1.getD r 0 < n := by
        rcases hn with rfl | ⟨rfl, _⟩
        · exact (by decide : ∀ r < 8, lit1.getD r 0 < 8) r hr8
        · exact (by decide : ∀ r < 7, lit1.getD r 0 < 7) r hr0
      have g2 : lit2.getD r 0 < n := by
        rcases hn with rfl | ⟨rfl, _⟩
        · exact (by decide : ∀ r < 8, lit2.getD r 0 < 8) r hr8
        · exact (by decide : ∀ r < 7, lit2.getD r 0 < 7) r hr0
      have g3 : x3 < n := by
        rcases hn with rfl | ⟨rfl, k1, k2⟩
        · exact hx8
        · exact hx7 k1 k2 hr0
      have goals : ∀ y ∈ [lit1.getD r 0, lit2.getD r 0, x3], y < n := fun y hy => by
        simp only [List.mem_cons, List.not_mem_nil, or_false] at hy
        rcases hy with rfl | rfl | rfl
        · exact g1
        · exact g2
        · exact g3
      have eg : ([V.int ((lit1.getD r 0 : Nat) : Int), V.int ((lit2.getD r 0 : Nat) : Int), V.int ((x3 : Nat) : Int)] : List V) = intsV [lit1.getD r 0, lit2.getD r 0, x3] := rfl
      rw [eg] at hrw ⊢
      generalize [lit1.getD r 0, lit2.getD r 0, x3] = gs at goals hrw eg
      have hgl3 : gs.length = 3 := by
        have := congrArg List.length eg
        rw [intsV_len] at this
        exact this.symm
      have sG : Same H2 (L2.upd (L2.upd H3 gl (.lst (intsV gs))) rw (.lst [])) := s23.trans ((Same.upd hgl).trans (Same.upd hrw))
      have hglG : L2.upd (L2.upd H3 gl (.lst (intsV gs))) rw (.lst []) gl = some (.lst (intsV gs)) := upd_keep upd_same hrw
      have rwa : wa ≠ rw := ne_of_none (upd_keep (s23 _ _ h1) hgl) hrw
      have rwp : p ≠ rw := ne_of_none (upd_keep (s23 _ _ hp2) hgl) hrw
      have rwg : gl ≠ rw := ne_of_none upd_same hrw
      have rwn : H2 rw = none := same_none (s23.trans (Same.upd hgl)) hrw
      have hrwG : L2.upd (L2.upd H3 gl (.lst (intsV gs))) rw (.lst []) rw = some (.lst (intsV [])) := upd_same
      generalize L2.upd (L2.upd H3 gl (.lst (intsV gs))) rw (.lst []) = HG at sG hglG hrwG
      refine ⟨_, rfl, _, rfl, hz, _, rfl, by rw [tx_len]; omega, by rw [tx_len]; have := hL.hi; omega, ?_⟩
      refine for_range (n := ((tx L).length : Int).toNat) (fun j σ' H4 => ∃ (ws : List Nat) (s10 : Option V), σ' = [some (.ref a), some (.str (tx L)), some (.int kd), some (.int (n : Int)), some (.ref p), some (.int tn), some (.ref wa), some (.int (r : Int)), some (.ref gl), some (.ref rw), s10] ∧ (∀ b o, b ≠ rw → HG b = some o → H4 b = some o) ∧ H4 rw = some (.lst (intsV ws)) ∧ ws.length = j ∧ ∀ x ∈ ws, x < n) ⟨[], _, rfl, fun b o _ e => e, hrwG, rfl, fun x e => by simp at e⟩ ?_ ?_
      · rintro j σ2 H4 hj ⟨ws, s10, rfl, kp, hrw4, hwl, hwn⟩
        have hj4 : j < 4 := by have := hL.hi; rw [tx_len] at hj; omega
        have hp4 := kp _ _ rwp (sG _ _ hp2)
        have q0 := Int.emod_nonneg (tn + (0 + (j : Int))) (Int.ne_of_gt hlp)
        have q1 := Int.emod_lt_of_pos (tn + (0 + (j : Int))) hlp
        obtain ⟨jj, hjj⟩ := Int.eq_ofNat_of_zero_le q0
        rw [hjj] at q1
        have hjj3 : jj < gs.length := by
          rw [hgl3]
          have := hL.hi
          rw [tx_len] at q1
          omega
        have hat : atI (intsV gs) ((tn + (0 + (j : Int))) % ((tx L).length : Int)) = some (.int ((gs.getD jj 0 : Nat) : Int)) := by
          rw [hjj]
          exact atI_ints hjj3
        have hmem := hall _ (goals _ (getD_in hjj3))
        refine ⟨_, rfl, .inl ⟨rfl, _, SqL.of hrw4⟩, _, rfl, .inl ⟨rfl, _, SqL.of hp4⟩, _, rfl, _, rfl, _, rfl, _, _, rfl, rfl, _, rfl, _, rfl, hz, _, _, rfl, rfl, hlp, gl, _, _, _, rfl, rfl, SqL.of (kp _ _ rwg hglG), hat, p, zs ls, ((gs.getD jj 0 : Nat) : Int), rfl, rfl, by rw [← intsV_zs]; exact hp4, List.mem_map.mpr ⟨_, hmem, rfl⟩, ?_⟩
        · rw [zs_idx]
          refine ⟨rw, _, _, rfl, rfl, hrw4, by rw [intsV_len]; exact small1000 (by omega), ws ++ [ls.idxOf (gs.getD jj 0)], _, rfl, fun b o hb e => by rw [upd_ne hb]; exact kp b o hb e, by rw [upd_same, ints_snocW], by rw [List.length_append, hwl]; rfl, fun y hy => ?_⟩
          rcases List.mem_append.mp hy with z | z
          · exact hwn y z
          · rw [List.mem_singleton.mp z, ← hll]
            exact List.idxOf_lt_length_of_mem (hall _ (goals _ (getD_in hjj3)))
      · rintro σ2 H4 ⟨ws, s10, rfl, kp, hrw4, hwl, hwn⟩
        have hwl' : ws.length = L.length := by rw [hwl, tx_len]; omega
        have a1 : H4 wa = some (.lst (rows.map V.ref)) := kp _ _ rwa (sG _ _ h1)
        have a2 : H4 p = some (.lst (intsV ls)) := kp _ _ rwp (sG _ _ hp2)
        have s24 : Same H2 H4 := fun b o e => kp b o (ne_of_none e rwn) (sG _ _ e)
        refine ⟨_, rfl, .inl ⟨rfl, _, SqL.of a1⟩, _, rfl, rw, _, rfl, .inl ⟨SqL.of hrw4, fun tp htp => ?_⟩⟩
        obtain ⟨u1, u2, u3⟩ := rows_up (ws := ws) a1 (hrows.same s24) (by rw [hrl, hWl]) htp
        have pwa : p ≠ wa := fun z => by rw [z, hwa] at hp; cases hp
        refine ⟨wa, _, _, rfl, rfl, upd_keep a1 htp, by rw [List.length_map, hrl]; exact small1000 (by omega), rows ++ [tp], W ++ [ws], _, _, _, _, rfl, fun b o e => ?_, u3 p _ a2 pwa, u1, by rw [List.length_append, hrl]; rfl, by rw [List.length_append, hWl]; rfl, u2, fun v hv => ?_⟩
        · exact u3 b o (s24 _ _ (sm _ _ e)) (ne_of_none e hwa0)
        · rcases List.mem_append.mp hv with z | z
          · exact hW v z
          · rw [List.mem_singleton.mp z]; exact ⟨hwl', hwn⟩
    · rintro σ H2 ⟨rows, W, s7, s8, s9, s10, rfl, sm, hp2, h1, hrl, hWl, hrows, hW⟩
      rw [intsV_len, hll] at hrl hWl
      refine ⟨_, rfl, _, rfl, wa, _, rfl, .inl ⟨SqL.of h1, fun tw htw => ?_⟩⟩
      dsimp only [tCons, tCB, tCall]
      refine comp_rngG (n := n) (fun R h => ⟨_, rfl, h⟩) (by omega) (fun D j ys H' => ∃ B : List Bool, ys = B.map V.bl ∧ B.length = j) (fun D hD => ⟨[], rfl, rfl⟩) ?_ ?_
      · intro D j ys H' R1 R2 hD hj hsm hDl hp k1 k2
        obtain ⟨B, rfl, hB⟩ := hp
        exact tAlways_if ⟨_, rfl, _, _, rfl, rfl, by decide, rfl, k1 _ H' hDl (Same.set hsm hD) ⟨B ++ [_], by rw [List.map_append]; rfl, by rw [List.length_append, hB]; rfl⟩⟩
      · intro D ys H' hD hsm hDl hp
        obtain ⟨B, rfl, hB⟩ := hp
        refine ⟨D, _, rfl, .inl ⟨SqL.of hDl, fun tm htm => ⟨line_ge (by show 3 ≤ 16777216; decide), fun m hm => ?_⟩⟩⟩
        have htw' : H' tw = some (.tup (rows.map V.ref)) := hsm _ _ upd_same
        have up : Same H2 (L2.upd (L2.upd H' tm (.tup (B.map V.bl))) m (.tup [.str (tx L), .ref tw, .ref tm])) := ((Same.upd htw).trans hsm).trans ((Same.upd htm).trans (Same.upd hm))
        exact q m W B _ (sm.trans up) ⟨tw, tm, rows, upd_same, upd_keep (upd_keep htw' htm) hm, upd_keep upd_same hm, by omega, hrows.same up⟩ ⟨hL, by omega, by omega, by omega, fun ws hws => ⟨(hW ws hws).1, fun x hx => by rw [hWl]; exact (hW ws hws).2 x hx⟩⟩ (by omega)
theorem sc__law_acting : FnScope ["_law_script", "_law_letters_here", "_law_kind", "_law_size"] ["_law_script", "_law_letters_here"] (defScope s__law_acting) := ⟨rfl, rfl, rfl, by decide +kernel, rfl, by decide +kernel, by decide +kernel⟩
set_option maxHeartbeats 4000000 in
theorem ok__law_acting {f : Addr} {fd : FuncData} (F : Fun K "_law_acting" "_law_acting" s__law_acting f fd) (T : Txt K mg) (d__law_cell_at : Df P w K mg base "_law_cell_at" 1 ["_law_script", "_law_k"] (sp_cell K)) (d__law_machine : Df P w K mg base "_law_machine" 2 ["_law_script", "_law_at", "_law_rooms", "_law_letters_here"] (sp_machine K)) (d__law_turns : Df P w K mg base "_law_turns" 2 ["_law_script", "_law_letters_here"] (sp_mk8 K)) (d__law_forty : Df P w K mg base "_law_forty" 2 ["_law_script", "_law_letters_here"] (sp_mk8 K)) : FnOk P w K mg base CX0 3 f fd ["_law_script", "_law_letters_here"] (sp_acting K) := by
  refine F.ok sc__law_acting (fun vs H Q E h => ?_) (fun cdv A outer s H vs Q E hr h => ?_)
  · obtain ⟨a, ns, L, rfl, _⟩ := h
    rfl
  · obtain ⟨a, ns, L, rfl, hS, hL, q⟩ := h
    have hr1 := hr.mono (j := 1) (by decide)
    refine ⟨_, (pss_cons ((ps_set (i := 2) sc__law_acting.nd rfl (Or.inl rfl) (pe_op op_m (pe_df d__law_cell_at hr1 (pa_cons (pv 0) (pa_cons (pe_int) pa_nil))) pe_int))) (pss_cons ((ps_set (i := 3) sc__law_acting.nd rfl (Or.inl rfl) ((pe_df d__law_cell_at hr1 (pa_cons (pv 0) (pa_cons (pe_int) pa_nil)))))) (pss_cons ((ps_if (pt_cmpR op_eq (pv 2) pe_int (nomark _)) ((pss_one (ps_ret (pe_df d__law_machine hr (pa_cons (pv 0) (pa_cons (pe_int) (pa_cons (pe_op op_a pe_int (pe_op op_m (pv 3) pe_int)) (pa_cons (pv 1) pa_nil)))))))) (pss_nil))) (pss_cons ((ps_if (pt_cmpR op_eq (pv 2) pe_int (nomark _)) ((pss_one (ps_ret (pe_df d__law_machine hr (pa_cons (pv 0) (pa_cons (pe_int) (pa_cons (pe_op op_a pe_int (pe_op op_m (pv 3) pe_int)) (pa_cons (pe_slice sl_str (pv 1) po_none (po_some pe_int)) pa_nil)))))))) (pss_nil))) (pss_cons ((ps_if (pt_cmpR op_eq (pv 2) pe_int (nomark _)) ((pss_one (ps_ret (pe_df d__law_turns hr (pa_cons (pv 0) (pa_cons (pv 1) pa_nil)))))) (pss_nil))) (pss_cons ((ps_if (pt_cmpR op_eq (pv 2) pe_int (nomark _)) ((pss_one (ps_ret (pe_df d__law_forty hr (pa_cons (pv 0) (pa_cons (pv 1) pa_nil)))))) (pss_nil))) (pss_one (ps_ret (pe_df d__law_machine hr (pa_cons (pv 0) (pa_cons (pe_int) (pa_cons (pe_op op_a pe_int (pe_op op_m (pv 3) pe_int)) (pa_cons (pv 1) pa_nil))))))))))))), ?_⟩
    have mk : ∀ (b m : Nat) (z : Int) (L2 : List Nat), 1 ≤ b → 0 < m → b + m ≤ 9 → Let L2 → sp_machine K [.ref a, .int 4, .int ((b : Int) + z % (m : Int)), .str (tx L2)] H Q E := fun b m z L2 hb hm hbm hL2 => by
      obtain ⟨n, en, n1, n2⟩ := ar_room z b m hm
      exact ⟨a, ns, 4, n, L2, by rw [en], hS, by decide, by omega, by omega, hL2, fun p W B H' s' hM hMa hW => q p L2 W B H' s' hM hMa (by omega)⟩
    refine ⟨_, rfl, a, ns, 1, rfl, hS, by decide, fun z0 => ⟨_, _, rfl, rfl, by decide, ?_⟩⟩
    refine ⟨_, rfl, a, ns, 3, rfl, hS, by decide, fun z1 => ?_⟩
    refine ⟨_, rfl, rfl, _, rfl, ite3 (fun _ => ?_) (fun _ => ⟨_, rfl, rfl, _, rfl, ite3 (fun _ => ?_) (fun _ => ⟨_, rfl, rfl, _, rfl, ite3 (fun _ => ?_) (fun _ => ⟨_, rfl, rfl, _, rfl, ite3 (fun _ => ?_) (fun _ => ?_)⟩)⟩)⟩)⟩
    · exact ⟨_, rfl, _, rfl, _, _, rfl, rfl, by decide, _, _, rfl, rfl, _, rfl, mk 1 3 z1 L (by decide) (by decide) (by decide) hL⟩
    · refine ⟨_, rfl, _, rfl, _, _, rfl, rfl, by decide, _, _, rfl, rfl, _, rfl, _, rfl, _, rfl, line_ge (by rw [tx_len]; exact Nat.le_trans hL.hi (by decide)), ?_⟩
      rw [show Txt.slice (tx L) none (some 1) = tx (L.take 1) from by
        have e := slice_to (tx L) (show (0 : Int) ≤ 1 by decide)
        rw [tx_cps] at e
        exact e]
      exact mk 1 8 z1 _ (by decide) (by decide) (by decide) (let1 hL)
    · exact ⟨_, rfl, _, rfl, a, ns, L, rfl, hS, hL, fun m W B H' s' hM hMa hW => q m L W B H' s' hM hMa hW⟩
    · exact ⟨_, rfl, _, rfl, a, ns, L, rfl, hS, hL, fun m W B H' s' hM hMa hW => q m L W B H' s' hM hMa hW⟩
    · exact ⟨_, rfl, _, rfl, _, _, rfl, rfl, by decide, _, _, rfl, rfl, _, rfl, mk 4 5 z1 L (by decide) (by decide) (by decide) hL⟩
theorem sc__law_same : FnScope ["_law_found", "_law_due", "_law_k"] ["_law_found", "_law_due"] (defScope s__law_same) := ⟨rfl, rfl, rfl, by decide +kernel, rfl, by decide +kernel, by decide +kernel⟩
set_option maxHeartbeats 4000000 in
theorem ok__law_same {f : Addr} {fd : FuncData} (F : Fun K "_law_same" "_law_same" s__law_same f fd) (T : Txt K mg) (hm : mg "_law_same" = some (.ref f)) (hbi : Binds K fd ["_law_found", "_law_due"] []) : FnOk P w K mg base CX0 4 f fd ["_law_found", "_law_due"] (sp_same 3) := by
  have step : ∀ (d : Nat) (sp' : Sp), Df P w K mg base "_law_same" d ["_law_found", "_law_due"] sp' → (∀ d' x y H Q E, d = d' + 1 → Like H d' x y → Q (.bl true) H → sp' [x, y] H Q E) → FnOk P w K mg base CX0 (d + 1) f fd ["_law_found", "_law_due"] (sp_same d) := by
    intro d sp' d__law_same hsp
    refine F.ok sc__law_same (fun vs H Q E h => ?_) (fun cdv A outer s H vs Q E hr h => ?_)
    · obtain ⟨x, y, rfl, _⟩ := h
      rfl
    · obtain ⟨x, y, rfl, hlike, q⟩ := h
      refine ⟨_, (pss_cons ((ps_if ((pw_or (pt_val (pe_callB (call_isG (T := "tuple")) (by rfl) T.isinst PyProof.Rows.boot_isinstance (pa_cons (pv 1) (pa_cons (pe_bltn (v := .ty "tuple") (by rfl) T.tuple PyProof.Rows.boot_tuple rfl) pa_nil)))) (pw_or1 (pt_val (pe_callB (call_isG (T := "list")) (by rfl) T.isinst PyProof.Rows.boot_isinstance (pa_cons (pv 1) (pa_cons (pe_bltn (v := .ty "list") (by rfl) T.list PyProof.Rows.boot_list rfl) pa_nil)))))).pt) ((pss_cons ((ps_if ((pw_or (pt_cmpR op_ne (pe_callB (call_isG (T := "tuple")) (by rfl) T.isinst PyProof.Rows.boot_isinstance (pa_cons (pv 0) (pa_cons (pe_bltn (v := .ty "tuple") (by rfl) T.tuple PyProof.Rows.boot_tuple rfl) pa_nil))) (pe_callB (call_isG (T := "tuple")) (by rfl) T.isinst PyProof.Rows.boot_isinstance (pa_cons (pv 1) (pa_cons (pe_bltn (v := .ty "tuple") (by rfl) T.tuple PyProof.Rows.boot_tuple rfl) pa_nil))) (nomark _)) (pw_or1 (pt_cmpR op_ne (pe_callB (call_isG (T := "list")) (by rfl) T.isinst PyProof.Rows.boot_isinstance (pa_cons (pv 0) (pa_cons (pe_bltn (v := .ty "list") (by rfl) T.list PyProof.Rows.boot_list rfl) pa_nil))) (pe_callB (call_isG (T := "list")) (by rfl) T.isinst PyProof.Rows.boot_isinstance (pa_cons (pv 1) (pa_cons (pe_bltn (v := .ty "list") (by rfl) T.list PyProof.Rows.boot_list rfl) pa_nil))) (nomark _)))).pt) ((pss_one (ps_ret pe_bl))) (pss_nil))) (pss_cons ((ps_if (pt_cmpR op_ne (pe_callB call_len_seq (by rfl) T.len PySem.boot_len (pa_cons (pv 0) pa_nil)) (pe_callB call_len_seq (by rfl) T.len PySem.boot_len (pa_cons (pv 1) pa_nil)) (nomark _)) ((pss_one (ps_ret pe_bl))) (pss_nil))) (pss_cons ((ps_for PassesOwn.never rfl (pi_range1 rfl T.range (pa_cons (pe_callB call_len_seq (by rfl) T.len PySem.boot_len (pa_cons (pv 1) pa_nil)) pa_nil)) (pg_name (i := 2) sc__law_same.nd rfl (Or.inl rfl)) ((pss_one ((ps_if (pt_not (pt_val (pe_df d__law_same hr (pa_cons (pe_ix ix_seq (pv 0) (pv 2) (fun _ _ => rfl)) (pa_cons (pe_ix ix_seq (pv 1) (pv 2) (fun _ _ => rfl)) pa_nil))))) ((pss_one (ps_ret pe_bl))) (pss_nil))))))) (pss_one (ps_ret pe_bl)))))) (pss_nil))) (pss_cons ((ps_if (pt_val (pe_callB (call_isG (T := "bool")) (by rfl) T.isinst PyProof.Rows.boot_isinstance (pa_cons (pv 1) (pa_cons (pe_bltn (v := .ty "bool") (by rfl) T.bool PyProof.Rows.boot_bool rfl) pa_nil)))) ((pss_one (ps_ret (pe_and (pe_callB (call_isG (T := "bool")) (by rfl) T.isinst PyProof.Rows.boot_isinstance (pa_cons (pv 0) (pa_cons (pe_bltn (v := .ty "bool") (by rfl) T.bool PyProof.Rows.boot_bool rfl) pa_nil))) (pe_one (pe_cmpR op_eq (pv 0) (pv 1) (nomark _))))))) (pss_nil))) (pss_cons ((ps_if (pt_val (pe_callB (call_isG (T := "int")) (by rfl) T.isinst PyProof.Rows.boot_isinstance (pa_cons (pv 1) (pa_cons (pe_bltn (v := .ty "int") (by rfl) T.int PyProof.Rows.boot_int rfl) pa_nil)))) ((pss_one (ps_ret (pe_and (pe_callB (call_isG (T := "int")) (by rfl) T.isinst PyProof.Rows.boot_isinstance (pa_cons (pv 0) (pa_cons (pe_bltn (v := .ty "int") (by rfl) T.int PyProof.Rows.boot_int rfl) pa_nil))) (pe_and (pe_not (pe_callB (call_isG (T := "bool")) (by rfl) T.isinst PyProof.Rows.boot_isinstance (pa_cons (pv 0) (pa_cons (pe_bltn (v := .ty "bool") (by rfl) T.bool PyProof.Rows.boot_bool rfl) pa_nil)))) (pe_one (pe_cmpR op_eq (pv 0) (pv 1) (nomark _)))))))) (pss_nil))) (pss_cons ((ps_if (pt_val (pe_callB (call_isG (T := "str")) (by rfl) T.isinst PyProof.Rows.boot_isinstance (pa_cons (pv 1) (pa_cons (pe_bltn (v := .ty "str") (by rfl) T.str PyProof.Rows.boot_str rfl) pa_nil)))) ((pss_one (ps_ret (pe_and (pe_callB (call_isG (T := "str")) (by rfl) T.isinst PyProof.Rows.boot_isinstance (pa_cons (pv 0) (pa_cons (pe_bltn (v := .ty "str") (by rfl) T.str PyProof.Rows.boot_str rfl) pa_nil))) (pe_one (pe_cmpR op_eq (pv 0) (pv 1) (nomark _))))))) (pss_nil))) (pss_one (ps_never)))))), ?_⟩
      have hcase : (x = y ∧ flat3 x = true) ∨ ∃ d' p q xs ys, d = d' + 1 ∧ x = .ref p ∧ y = .ref q ∧ ((H p = some (.tup xs) ∧ H q = some (.tup ys)) ∨ (H p = some (.lst xs) ∧ H q = some (.lst ys))) ∧ xs.length = ys.length ∧ xs.length ≤ 1000 ∧ ∀ (i : Nat) (x y : V), xs[i]? = some x → ys[i]? = some y → Like H d' x y := by
        cases d with
        | zero => exact .inl hlike
        | succ d' => exact hlike.elim .inl fun ⟨p, q, xs, ys, h⟩ => .inr ⟨d', p, q, xs, ys, rfl, h⟩
      rcases hcase with ⟨rfl, hf⟩ | ⟨d', p, p2, xs, ys, hd, rfl, rfl, hpq, hlen, h1000, hall⟩
      · cases x with
        | bl b =>
          refine ⟨_, rfl, _, _, _, rfl, TyOf.bl _, kit_bt K, _, rfl, iteF ⟨_, rfl, _, _, _, rfl, TyOf.bl _, kit_bl K, _, rfl, iteF ?_⟩⟩
          refine ⟨_, rfl, _, _, _, rfl, TyOf.bl _, kit_bb K, _, rfl, iteT ⟨_, rfl, _, _, _, rfl, TyOf.bl _, kit_bb K, _, rfl, iteT ⟨_, rfl, _, rfl, rfl, ?_⟩⟩⟩
          show Q (.bl (decide (V.bl b = V.bl b))) H
          rw [decide_eq_true rfl]
          exact q
        | int b =>
          refine ⟨_, rfl, _, _, _, rfl, TyOf.int _, kit_it K, _, rfl, iteF ⟨_, rfl, _, _, _, rfl, TyOf.int _, kit_il K, _, rfl, iteF ?_⟩⟩
          refine ⟨_, rfl, _, _, _, rfl, TyOf.int _, kit_ib K, _, rfl, iteF ?_⟩
          refine ⟨_, rfl, _, _, _, rfl, TyOf.int _, kit_ii K, _, rfl, iteT ⟨_, rfl, _, _, _, rfl, TyOf.int _, kit_ii K, _, rfl, iteT ⟨_, rfl, _, _, _, rfl, TyOf.int _, kit_ib K, _, rfl, _, rfl, iteT ⟨_, rfl, _, rfl, rfl, ?_⟩⟩⟩⟩
          show Q (.bl (decide (V.int b = V.int b))) H
          rw [decide_eq_true rfl]
          exact q
        | str b =>
          refine ⟨_, rfl, _, _, _, rfl, TyOf.str _, kit_st K, _, rfl, iteF ⟨_, rfl, _, _, _, rfl, TyOf.str _, kit_sl K, _, rfl, iteF ?_⟩⟩
          refine ⟨_, rfl, _, _, _, rfl, TyOf.str _, kit_sb K, _, rfl, iteF ?_⟩
          refine ⟨_, rfl, _, _, _, rfl, TyOf.str _, kit_si K, _, rfl, iteF ?_⟩
          refine ⟨_, rfl, _, _, _, rfl, TyOf.str _, kit_ss K, _, rfl, iteT ⟨_, rfl, _, _, _, rfl, TyOf.str _, kit_ss K, _, rfl, iteT ⟨_, rfl, _, rfl, rfl, ?_⟩⟩⟩
          show Q (.bl (decide (V.str b = V.str b))) H
          rw [decide_eq_true rfl]
          exact q
        | _ => exact absurd (show false = true from hf) Bool.false_ne_true
      · have hseq1 : SqL K H p xs ∨ SqT K H p xs := hpq.elim (fun z => .inr (SqT.of z.1)) (fun z => .inl (SqL.of z.1))
        have hseq2 : SqL K H p2 ys ∨ SqT K H p2 ys := hpq.elim (fun z => .inr (SqT.of z.2)) (fun z => .inl (SqL.of z.2))
        rcases hpq with ⟨hp, hq⟩ | ⟨hp, hq⟩
        · refine ⟨_, rfl, _, _, _, rfl, TyOf.tup hq, (kit_any K).1, _, rfl, iteT (iteT ?_)⟩
          refine ⟨_, rfl, _, _, _, rfl, TyOf.tup hp, (kit_any K).1, _, rfl, _, _, _, rfl, TyOf.tup hq, (kit_any K).1, rfl, _, rfl, iteNS rfl ⟨_, rfl, _, _, _, rfl, TyOf.tup hp, kit_tl K, _, rfl, _, _, _, rfl, TyOf.tup hq, kit_tl K, rfl, _, rfl, iteNS rfl ?_⟩⟩
          refine ⟨_, rfl, p, xs, rfl, hseq1, _, rfl, p2, ys, rfl, hseq2, rfl, _, rfl, iteNS (by rw [hlen]) ?_⟩
          refine ⟨_, rfl, p2, ys, rfl, hseq2, _, rfl, by omega, by omega, ?_⟩
          refine for_range (n := ys.length) (fun i σ H' => ∃ s0, σ = [some (.ref p), some (.ref p2), s0] ∧ H' = H) ⟨none, rfl, rfl⟩ ?_ ?_
          · rintro i σ H1 hi ⟨s0, rfl, rfl⟩
            have hx := List.getElem?_eq_getElem (l := xs) (i := i) (by omega)
            have hy := List.getElem?_eq_getElem (l := ys) (i := i) (by omega)
            have hat1 : atI xs (0 + (i : Int)) = some xs[i] := by rw [Int.zero_add]; exact atI_nat hx
            have hat2 : atI ys (0 + (i : Int)) = some ys[i] := by rw [Int.zero_add]; exact atI_nat hy
            exact ⟨_, rfl, _, rfl, .inr (.inl ⟨p, xs, _, _, rfl, rfl, SqT.of hp, hat1, _, rfl, _, rfl, .inr (.inl ⟨p2, ys, _, _, rfl, rfl, SqT.of hq, hat2, hsp d' _ _ _ _ _ hd (hall i _ _ hx hy) ⟨_, rfl, iteF ⟨_, rfl, rfl⟩⟩⟩)⟩)⟩
          · rintro σ H1 ⟨s0, rfl, rfl⟩
            exact q
        · refine ⟨_, rfl, _, _, _, rfl, TyOf.lst hq, kit_lt K, _, rfl, iteF ⟨_, rfl, _, _, _, rfl, TyOf.lst hq, (kit_any K).2.1, _, rfl, iteT ?_⟩⟩
          refine ⟨_, rfl, _, _, _, rfl, TyOf.lst hp, kit_lt K, _, rfl, _, _, _, rfl, TyOf.lst hq, kit_lt K, rfl, _, rfl, iteNS rfl ⟨_, rfl, _, _, _, rfl, TyOf.lst hp, (kit_any K).2.1, _, rfl, _, _, _, rfl, TyOf.lst hq, (kit_any K).2.1, rfl, _, rfl, iteNS rfl ?_⟩⟩
          refine ⟨_, rfl, p, xs, rfl, hseq1, _, rfl, p2, ys, rfl, hseq2, rfl, _, rfl, iteNS (by rw [hlen]) ?_⟩
          refine ⟨_, rfl, p2, ys, rfl, hseq2, _, rfl, by omega, by omega, ?_⟩
          refine for_range (n := ys.length) (fun i σ H' => ∃ s0, σ = [some (.ref p), some (.ref p2), s0] ∧ H' = H) ⟨none, rfl, rfl⟩ ?_ ?_
          · rintro i σ H1 hi ⟨s0, rfl, rfl⟩
            have hx := List.getElem?_eq_getElem (l := xs) (i := i) (by omega)
            have hy := List.getElem?_eq_getElem (l := ys) (i := i) (by omega)
            have hat1 : atI xs (0 + (i : Int)) = some xs[i] := by rw [Int.zero_add]; exact atI_nat hx
            have hat2 : atI ys (0 + (i : Int)) = some ys[i] := by rw [Int.zero_add]; exact atI_nat hy
            exact ⟨_, rfl, _, rfl, .inl ⟨p, xs, _, _, rfl, rfl, SqL.of hp, hat1, _, rfl, _, rfl, .inl ⟨p2, ys, _, _, rfl, rfl, SqL.of hq, hat2, hsp d' _ _ _ _ _ hd (hall i _ _ hx hy) ⟨_, rfl, iteF ⟨_, rfl, rfl⟩⟩⟩⟩⟩
          · rintro σ H1 ⟨s0, rfl, rfl⟩
            exact q
  have all : ∀ d : Nat, FnOk P w K mg base CX0 (d + 1) f fd ["_law_found", "_law_due"] (sp_same d) := by
    intro d
    induction d with
    | zero => exact step 0 (fun _ _ _ _ => False) ⟨f, fd, hm, F.kp, hbi, ⟨fun _ _ _ _ h => h.elim, fun _ _ _ _ _ _ _ _ _ _ _ _ _ h => h.elim⟩⟩ (fun d' _ _ _ _ _ h => by cases h)
    | succ d ih => exact step (d + 1) (sp_same d) ⟨f, fd, hm, F.kp, hbi, ih⟩ (fun d' x y H Q E h hl q => by cases h; exact ⟨x, y, rfl, hl, q⟩)
  exact all 3
theorem sc__law_acts : FnScope ["_law_machine_here", "_law_found", "_law_seen", "_law_at", "_law_k", "_law_act_here"] ["_law_machine_here"] (defScope s__law_acts) := ⟨rfl, rfl, rfl, by decide +kernel, rfl, by decide +kernel, by decide +kernel⟩
set_option maxHeartbeats 4000000 in
theorem ok__law_acts {f : Addr} {fd : FuncData} (F : Fun K "_law_acts" "_law_acts" s__law_acts f fd) (T : Txt K mg) : FnOk P w K mg base CX0 1 f fd ["_law_machine_here"] (sp_lawacts P w) := by
  refine F.ok sc__law_acts (fun vs H Q E h => ?_) (fun cdv A outer s H vs Q E hr h => ?_)
  · obtain ⟨m, L, W, B, rfl, _⟩ := h
    rfl
  · obtain ⟨m, L, W, B, rfl, hM, hMa, hW8, q⟩ := h
    refine ⟨_, (pss_cons ((ps_set (i := 1) sc__law_acts.nd rfl (Or.inl rfl) (pe_lst (pa_cons (pe_tuprange rfl rfl T.tuple rfl T.range (pa_cons (pe_callB call_len_seq (by rfl) T.len PySem.boot_len (pa_cons (pe_ix ix_tup (pv 0) pe_int (fun _ _ => rfl)) pa_nil)) pa_nil)) pa_nil)))) (pss_cut ((ps_set (i := 2) sc__law_acts.nd rfl (Or.inl rfl) (pe_wone hr.units (pe_ix ix_list (pv 1) pe_int (fun _ _ => rfl)) pe_int))) (pss_cons ((ps_set (i := 3) sc__law_acts.nd rfl (Or.inl rfl) (pe_int))) (pss_cons ((ps_while PassesOwn.never (pw_and (pt_cmpR op_lt (pv 3) (pe_callB call_len_seq (by rfl) T.len PySem.boot_len (pa_cons (pv 1) pa_nil)) (nomark _)) (pw_and1 (pt_cmpR op_le (pe_callB call_len_seq (by rfl) T.len PySem.boot_len (pa_cons (pv 1) pa_nil)) pe_int (nomark _)))).pt (pss_cons ((ps_for PassesOwn.never rfl (pi_range1 rfl T.range (pa_cons (pe_callB call_len_str (by rfl) T.len PySem.boot_len (pa_cons (pe_ix ix_tup (pv 0) pe_int (fun _ _ => rfl)) pa_nil)) pa_nil)) (pg_name (i := 4) sc__law_acts.nd rfl (Or.inr rfl)) ((pss_cons ((ps_set (i := 5) sc__law_acts.nd rfl (Or.inl rfl) ((pe_callTy call_tuple_of (by rfl) T.tuple PyProof.Rows.boot_tuple (pa_cons (pe_compS ["_law_machine_here", "_law_found", "_law_seen", "_law_at", "_law_k", "_law_act_here"] rfl (by decide) (pi_sq (pe_ix ix_list (pv 1) (pv 3) (fun _ _ => rfl))) (fun cl C fp s' H' => ⟨pts_nil, pe_ix (ix_tupK K) (pe_ix (ix_tupK K) (pe_ix (ix_tupK K) (pv 1) pe_int (fun _ _ => rfl)) (pv 0) (fun _ _ => rfl)) (pv 5) (fun _ _ => rfl)⟩)) pa_nil))))) (pss_one ((ps_if (pt_cmpR (op_notinW hr.units) (pv 5) (pv 2) (by with_unfolding_all rfl)) ((pss_cons (ps_asg (pe_callB call_len_seq (by rfl) T.len PySem.boot_len (pa_cons (pv 1) pa_nil)) (pg_sub (pv 2) (pv 5) (set_dictW hr.units))) (pss_one (ps_expr (pe_bm PySem.F.plainAttrs_list PySem.F.slot_list_append PySem.F.type_list_append mt_append (pv 1) (pa_cons (pv 5) pa_nil)))))) (pss_nil)))))))) (pss_one ((ps_set (i := 3) sc__law_acts.nd rfl (Or.inl rfl) (pe_op op_a (pv 3) pe_int))))))) (pss_one (ps_ret (pe_tup (pa_cons (pv 1) (pa_cons (pv 2) pa_nil))))))))), ?_⟩
    obtain ⟨wy, mk, rows, h1, h2, h3, h4, h5⟩ := id hM
    have hl : (rows.map V.ref).length = W.length := by rw [List.length_map, h4]
    have hz : (tx L).length ≤ sizeLine := line_ge (by rw [tx_len]; exact Nat.le_trans hMa.lt.hi (by decide))
    refine ⟨_, rfl, m, _, _, _, rfl, rfl, SqT.of h1, atI_nat (j := 1) rfl, wy, _, rfl, .inr (SqT.of h2), ?_⟩
    rw [hl]
    refine ⟨W.length, rfl, Nat.le_trans hW8 (by decide), fun t0 ht0 => ⟨line_ge (by show 1 ≤ 16777216; decide), fun fl hfl => ?_⟩⟩
    have s1 : Same H (L2.upd (L2.upd H t0 (.tup (intsV (List.range W.length)))) fl (.lst [.ref t0])) := (Same.upd ht0).trans (Same.upd hfl)
    have hfl1 : L2.upd (L2.upd H t0 (.tup (intsV (List.range W.length)))) fl (.lst [.ref t0]) fl = some (.lst [.ref t0]) := upd_same
    have ht1 : L2.upd (L2.upd H t0 (.tup (intsV (List.range W.length)))) fl (.lst [.ref t0]) t0 = some (.tup (intsV (List.range W.length))) := upd_keep upd_same hfl
    have hfl0 : H fl = none := by
      have z : fl ≠ t0 := fun z => by rw [z, upd_same] at hfl; cases hfl
      rw [upd_ne z] at hfl
      exact hfl
    generalize L2.upd (L2.upd H t0 (.tup (intsV (List.range W.length)))) fl (.lst [.ref t0]) = H1 at s1 hfl1 ht1
    have hth1 : ThV false H1 (List.range W.length) (.ref t0) := by
      unfold ThV
      rw [if_neg (by decide)]
      exact ⟨t0, rfl, ht1⟩
    refine ⟨fun σ' H' => ∃ dd, σ' = [some (.ref m), some (.ref fl), some (.ref dd), none, none, none] ∧ Same H1 H' ∧ H1 dd = none ∧ RmAt P w H' dd false [List.range W.length], ?_, ?_⟩
    · refine ⟨false, fun dd hdd => ⟨_, rfl, fl, _, _, _, rfl, rfl, SqL.of (upd_keep hfl1 hdd), atI_nat (j := 0) rfl, upd_same, .inr ⟨rfl, t0, zs (List.range W.length), rfl, ?_, dd, rfl, ?_, hdd, ?_⟩⟩⟩
      · unfold TIn
        rw [zs_intsV]
        exact upd_keep ht1 hdd
      · rw [upd_upd]
        exact Same.upd hdd
      · unfold RmAt
        rw [if_neg (by decide)]
        refine ⟨_, upd_same, fun x hx => ?_, rfl, fun i k x h1 h2 => ?_⟩
        · rw [List.mem_singleton.mp hx, upd_upd]
          unfold TIn
          rw [zs_intsV]
          exact upd_keep ht1 hdd
        · match i, h1, h2 with
          | 0, h1, h2 => cases h1; cases h2; exact ⟨rfl, rfl⟩
          | i + 1, h1, _ => simp at h1
    rintro σ1 H2 ⟨dd, rfl, s2, hdd1, hrm2⟩
    have hddfl : dd ≠ fl := fun z => by rw [z, hfl1] at hdd1; cases hdd1
    have hdd0 : H dd = none := same_none s1 hdd1
    refine ⟨fun n σ' H' => ∃ (vks : List V) (ks ws : List (List Nat)) (at0 : Nat) (s4 s5 : Option V), n = 100 - at0 ∧ σ' = [some (.ref m), some (.ref fl), some (.ref dd), some (.int (at0 : Int)), s4, s5] ∧ Same H H' ∧ H' fl = some (.lst vks) ∧ ThsAt false H' ks vks ∧ RmAt P w H' dd false ks ∧ Bf (gA W) L (List.range W.length) ks ws at0 0 ∧ at0 ≤ ks.length ∧ ks.length ≤ 43, ⟨_, [.ref t0], [List.range W.length], [[]], 0, none, none, rfl, rfl, s1.trans s2, s2 _ _ hfl1, ⟨rfl, fun i k v e1 e2 => ?_⟩, hrm2, Bf.start _ _ _, Nat.zero_le _, by show 1 ≤ 43; decide⟩, ?_⟩
    · match i, e1, e2 with
      | 0, e1, e2 => cases e1; cases e2; exact hth1.same fun b xs e => s2 _ _ e
      | i + 1, e1, _ => simp at e1
    rintro n σ' H3 ⟨vks, ks, ws, at0, s4, s5, rfl, rfl, sm, hfl3, hth, hrm, bf, hat, hk43⟩
    have hvl : vks.length = ks.length := hth.1
    have fin : (at0 = ks.length ∨ 40 < ks.length) → ∀ p, H3 p = none → Q (.ref p) (L2.upd H3 p (.tup [.ref fl, .ref dd])) := fun he p hp =>
      q p fl dd vks ks ws at0 _ (sm.trans (Same.upd hp)) upd_same (upd_keep hfl3 hp) (hth.same fun b xs e => upd_keep e hp) (hrm.same fun b o e _ => upd_keep e hp) bf he hk43
    refine ⟨_, rfl, _, rfl, fl, _, rfl, .inl (SqL.of hfl3), _, _, rfl, rfl, _, rfl, ite3 (fun hlt => ⟨_, rfl, fl, _, rfl, .inl (SqL.of hfl3), _, _, rfl, rfl, _, rfl, ite3 (fun hle => ?_) (fun hle => ?_)⟩) (fun hlt => iteF ?_)⟩
    case _ =>
      rw [hvl] at hlt hle
      have hlt' : at0 < ks.length := Int.ofNat_lt.mp hlt
      have hk40 : ks.length ≤ 40 := Int.ofNat_le.mp hle
      obtain ⟨k0, hk0⟩ : ∃ k0, ks[at0]? = some k0 := ⟨ks[at0], List.getElem?_eq_getElem hlt'⟩
      obtain ⟨a0, ha0⟩ : ∃ a0, ws[at0]? = some a0 := ⟨ws[at0]'(by rw [← bf.len]; exact hlt'), List.getElem?_eq_getElem _⟩
      refine ⟨fun σ2 H4 => ∃ (vks : List V) (ks ws : List (List Nat)) (s4 s5 : Option V), σ2 = [some (.ref m), some (.ref fl), some (.ref dd), some (.int ((at0 + 1 : Nat) : Int)), s4, s5] ∧ Same H H4 ∧ H4 fl = some (.lst vks) ∧ ThsAt false H4 ks vks ∧ RmAt P w H4 dd false ks ∧ Bf (gA W) L (List.range W.length) ks ws (at0 + 1) 0 ∧ at0 + 1 ≤ ks.length ∧ ks.length ≤ 43, ?_, ?_⟩
      · rintro σ2 H4 ⟨vks2, ks2, ws2, u4, u5, rfl, r1, r2, r3, r4, r5, r6, r7⟩
        exact ⟨100 - (at0 + 1), by omega, vks2, ks2, ws2, at0 + 1, u4, u5, rfl, rfl, r1, r2, r3, r4, r5, r6, r7⟩
      refine ⟨_, rfl, m, _, _, _, rfl, rfl, SqT.of (sm _ _ h1), atI_nat (j := 0) rfl, _, rfl, hz, _, rfl, by rw [tx_len]; omega, by rw [tx_len]; have := hMa.lt.hi; omega, ?_⟩
      have eL : ((tx L).length : Int).toNat = L.length := by rw [tx_len]; exact Int.toNat_natCast _
      refine for_range (n := ((tx L).length : Int).toNat) (fun c σ2 H4 => ∃ (vks : List V) (ks ws : List (List Nat)) (s4 s5 : Option V), σ2 = [some (.ref m), some (.ref fl), some (.ref dd), some (.int (at0 : Int)), s4, s5] ∧ Same H H4 ∧ H4 fl = some (.lst vks) ∧ ThsAt false H4 ks vks ∧ RmAt P w H4 dd false ks ∧ Bf (gA W) L (List.range W.length) ks ws at0 c ∧ ks[at0]? = some k0 ∧ ws[at0]? = some a0 ∧ ks.length ≤ 40 + c) ⟨vks, ks, ws, _, _, rfl, sm, hfl3, hth, hrm, bf, hk0, ha0, by omega⟩ ?_ ?_
      · rintro c σ2 H4 hc ⟨vks, ks, ws, u4, u5, rfl, sm4, hfl4, hth4, hrm4, bf4, hk4, ha4, hl4⟩
        rw [eL] at hc
        have hc3 : c < 3 := Nat.lt_of_lt_of_le hc hMa.lt.hi
        have hat4 : at0 < ks.length := (List.getElem?_eq_some_iff.mp hk4).1
        have hvl4 : vks.length = ks.length := hth4.1
        obtain ⟨v0, hv0⟩ : ∃ v0, vks[at0]? = some v0 := ⟨vks[at0]'(by rw [hvl4]; exact hat4), List.getElem?_eq_getElem _⟩
        have hv0t := hth4.2 at0 k0 v0 hk4 hv0
        unfold ThV at hv0t
        rw [if_neg (by decide)] at hv0t
        obtain ⟨b0, rfl, hb0⟩ := hv0t
        obtain ⟨kl, kb⟩ := acts_lt hMa bf4 k0 (List.mem_of_getElem? hk4)
        dsimp only [gName]
        dsimp only [tNext, tSeq, tAsg, tCall, tCons, tBM, tCB]
        refine comp_sq (a := b0) (fun R h => ⟨_, rfl, _, rfl, fl, _, _, _, rfl, rfl, SqL.of hfl4, atI_nat hv0, h⟩) (.inr rfl) hb0 (fun D j ys H' => ys = (intsV (gA W k0 c)).take j) (by rw [intsV_len, kl]; exact line_ge (Nat.le_trans hW8 (by decide))) (fun D hD => by simp) ?_ ?_
        · intro D j x ys H' R1 R2 hD hx hsm hDl hp k1 k2
          have hj : j < k0.length := by have := (List.getElem?_eq_some_iff.mp hx).1; rwa [intsV_len] at this
          rw [intsV_get hj] at hx
          cases hx
          have hjW := kb _ (getD_in (ws := k0) hj)
          have s5 := sm4.trans hsm
          obtain ⟨ra, hra, hraH⟩ := MachAt.row h4 (h5.same s5) hjW
          have l1 := (row_of hMa hjW).1
          refine tAlways_if ⟨_, rfl, m, _, _, _, rfl, rfl, SqT.of (s5 _ _ h1), atI_nat (j := 1) rfl, _, rfl, wy, _, _, _, rfl, rfl, SqT.of (s5 _ _ h2), atI_map V.ref hra, _, rfl, ra, _, _, _, rfl, rfl, SqT.of hraH, by rw [Int.zero_add]; exact atI_ints (by rw [l1]; exact hc), k1 _ H' hDl (Same.set hsm hD) ?_⟩
          rw [hp]
          refine (take_snoc ?_).symm
          rw [intsV_get (by rw [gA, List.length_map]; exact hj), gA, map_getD hj]
        intro D ys H5 hD hsm5 hDl hp
        rw [intsV_len, List.take_of_length_le (by rw [intsV_len, gA, List.length_map]; exact Nat.le_refl _)] at hp
        subst hp
        refine ⟨D, _, rfl, .inl ⟨SqL.of hDl, fun t ht => ?_⟩⟩
        have s6 : Same H4 (L2.upd H5 t (.tup (intsV (gA W k0 c)))) := hsm5.trans (Same.upd ht)
        have ht6 : L2.upd H5 t (.tup (intsV (gA W k0 c))) t = some (.tup (intsV (gA W k0 c))) := upd_same
        generalize L2.upd H5 t (.tup (intsV (gA W k0 c))) = H6 at s6 ht6
        have hfl6 := s6 _ _ hfl4
        have hth6 : ThsAt false H6 ks vks := hth4.same fun b xs e => s6 _ _ e
        have hrm6 : RmAt P w H6 dd false ks := hrm4.same fun b o e _ => s6 _ _ e
        have htv : ThV false H6 (gA W k0 c) (.ref t) := by
          unfold ThV
          rw [if_neg (by decide)]
          exact ⟨t, rfl, ht6⟩
        have hcl : L.getD c 0 ∈ L := getD_in hc
        refine ⟨_, rfl, _, rfl, dd, _, rfl, hrm6.get htv, _, rfl, ?_⟩
        by_cases hm : gA W k0 c ∈ ks
        · rw [(ix_get hm).1]
          exact iteF ⟨vks, ks, ws, _, _, rfl, sm4.trans s6, hfl6, hth6, hrm6, bf4.old hMa.lt.nd hk4 ha4 hc hm, hk4, ha4, by omega⟩
        · rw [show ixO ks (gA W k0 c) = none from if_neg hm]
          have hsz : ks.length < sizeLine := small1000 (by omega)
          obtain ⟨ob, hput, hrm7⟩ := hrm6.put htv hm hsz
          obtain ⟨φ, hφ⟩ : ∃ φ, H6 dd = some (.ext φ) := by
            have hr0 := hrm6
            unfold RmAt at hr0
            rw [if_neg (by decide)] at hr0
            obtain ⟨kvs, e, _⟩ := hr0
            exact ⟨_, e⟩
          rw [← hvl4] at hput
          have hfl7 : L2.upd H6 dd ob fl = some (.lst vks) := by rw [upd_ne (Ne.symm hddfl)]; exact hfl6
          refine iteT ⟨_, rfl, fl, _, rfl, .inl (SqL.of hfl6), _, rfl, _, rfl, dd, _, rfl, hput, ?_⟩
          refine ⟨_, rfl, .inl ⟨rfl, _, SqL.of hfl7⟩, _, rfl, fl, _, _, rfl, rfl, hfl7, by rw [hvl4]; exact hsz, ?_⟩
          have kt : ∀ b xs, H6 b = some (.tup xs) → L2.upd (L2.upd H6 dd ob) fl (.lst (vks ++ [.ref t])) b = some (.tup xs) := fun b xs e => by
            rw [upd_ne (ne_of e hfl6 (by intro z; cases z)), upd_ne (ne_of e hφ (by intro z; cases z))]
            exact e
          refine ⟨vks ++ [.ref t], ks ++ [gA W k0 c], ws ++ [a0 ++ [L.getD c 0]], _, _, rfl, Same.set (Same.set (sm4.trans s6) hdd0) hfl0, upd_same, ThsAt.snoc (hth6.same kt) (htv.same kt), ?_, bf4.new hMa.lt.nd hk4 ha4 hc hm, get_app hk4, get_app ha4, by rw [List.length_append]; show ks.length + 1 ≤ _; omega⟩
          refine hrm7.same fun b o e ho => ?_
          rcases ho with rfl | ⟨xs, rfl⟩
          · rw [upd_ne hddfl]; exact e
          · rw [upd_ne (ne_of e hfl7 (by intro z; cases z))]; exact e
      · rintro σ2 H4 ⟨vks2, ks2, ws2, u4, u5, rfl, sm4, hfl4, hth4, hrm4, bf4, hk4, ha4, hl4⟩
        rw [eL] at bf4 hl4
        have := hMa.lt.hi
        exact ⟨_, rfl, _, _, rfl, rfl, vks2, ks2, ws2, _, _, rfl, sm4, hfl4, hth4, hrm4, bf4.next, (List.getElem?_eq_some_iff.mp hk4).1, by omega⟩
    case _ =>
      rw [hvl] at hle
      exact ⟨_, rfl, _, rfl, line_ge (by show 2 ≤ 16777216; decide), fin (.inr (by omega))⟩
    case _ =>
      rw [hvl] at hlt
      exact ⟨_, rfl, _, rfl, line_ge (by show 2 ≤ 16777216; decide), fin (.inl (by omega))⟩
theorem sc__law_table : FnScope ["_law_found", "_law_places", "_law_rows", "_law_one"] ["_law_found", "_law_places"] (defScope s__law_table) := ⟨rfl, rfl, rfl, by decide +kernel, rfl, by decide +kernel, by decide +kernel⟩
set_option maxHeartbeats 4000000 in
theorem ok__law_table {f : Addr} {fd : FuncData} (F : Fun K "_law_table" "_law_table" s__law_table f fd) (T : Txt K mg) : FnOk P w K mg base CX0 1 f fd ["_law_found", "_law_places"] (sp_lawtable P w) := by
  refine F.ok sc__law_table (fun vs H Q E h => ?_) (fun cdv A outer s H vs Q E hr h => ?_)
  · obtain ⟨fl, dd, vks, ks, rfl, _⟩ := h
    rfl
  · obtain ⟨fl, dd, vks, ks, rfl, hfl, hth, hrm, hk43, ha60, hin, hcl, q⟩ := h
    refine ⟨_, (pss_cons ((ps_set (i := 2) sc__law_table.nd rfl (Or.inl rfl) (pe_lst pa_nil))) (pss_cons ((ps_for PassesOwn.never rfl (pi_list (pv 0)) (pg_name (i := 3) sc__law_table.nd rfl (Or.inr rfl)) ((pss_one (ps_expr (pe_bm PySem.F.plainAttrs_list PySem.F.slot_list_append PySem.F.type_list_append mt_append (pv 2) (pa_cons ((pe_callTy call_tuple_of (by rfl) T.tuple PyProof.Rows.boot_tuple (pa_cons (pe_compC ["_law_found", "_law_places", "_law_rows", "_law_one"] rfl (by decide) (pi_sq (pv 0)) (fun cl C fp s' H' => ⟨pts_nil, pe_ix (ix_dictWK P w hr.units) (pv 2) (pe_callTy (call_tupleK K) (by rfl) T.tuple PyProof.Rows.boot_tuple (pa_cons (pe_compS ["_law_other", "_law_found", "_law_places", "_law_rows", "_law_one"] rfl (show List.Nodup (["_law_room", "_law_other", "_law_found", "_law_places", "_law_rows", "_law_one"] : List Str) by decide) (pi_sq (pv 4)) (fun cl C fp s' H' => ⟨pts_nil, pe_ix (ix_tupK K) (pv 1) (pv 0) (fun _ _ => rfl)⟩)) pa_nil)) (fun _ _ => rfl)⟩)) pa_nil))) pa_nil))))))) (pss_one (ps_ret (pv 2))))), ?_⟩
    have hvl : vks.length = ks.length := hth.1
    have thing : ∀ {H' : Hp}, Same H H' → ∀ {i : Nat} {x : V}, vks[i]? = some x → ∃ (a : Addr) (k : List Nat), x = .ref a ∧ ks[i]? = some k ∧ H' a = some (.tup (intsV k)) := fun {H'} s {i x} e => by
      have hi : i < ks.length := by rw [← hvl]; exact (List.getElem?_eq_some_iff.mp e).1
      have ht := hth.2 i ks[i] x (List.getElem?_eq_getElem hi) e
      unfold ThV at ht
      rw [if_neg (by decide)] at ht
      obtain ⟨a, rfl, ha⟩ := ht
      exact ⟨a, ks[i], rfl, List.getElem?_eq_getElem hi, s _ _ ha⟩
    refine ⟨Nat.zero_le _, fun l hl => ⟨_, rfl, fl, rfl, ⟨_, SqL.of (upd_keep hfl hl)⟩, ?_⟩⟩
    have hlf : l ≠ fl := fun z => by rw [z, hfl] at hl; cases hl
    refine for_list (K := K) (a := fl) (xs := vks) (fun i σ' H' => ∃ (ts : List Addr) (s3 : Option V), σ' = [some (.ref fl), some (.ref dd), some (.ref l), s3] ∧ Same H H' ∧ H' l = some (.lst (ts.map V.ref)) ∧ ts.length = i ∧ ∀ (j : Nat) (a : Addr), ts[j]? = some a → H' a = some (.tup (intsV (tabRow ks j)))) ⟨[], none, rfl, Same.upd hl, upd_same, rfl, fun j a e => by simp at e⟩ ?_ ?_ ?_
    · rintro i σ' H' hi ⟨ts, s3, rfl, sm, _⟩
      exact SqL.of (sm _ _ hfl)
    · rintro i x σ' H1 hx ⟨ts, s3, rfl, sm, hl1, htl, hts⟩
      obtain ⟨a1, k1, rfl, hk1, ha1⟩ := thing sm hx
      have hk1m : k1 ∈ ks := List.mem_of_getElem? hk1
      have ek1 : ks.getD i [] = k1 := by rw [List.getD_eq_getElem?_getD, hk1]; rfl
      refine ⟨_, rfl, .inl ⟨rfl, _, SqL.of hl1⟩, ?_⟩
      dsimp only [tCons, tCB, tCall]
      refine comp_sq (a := fl) (fun R h => ⟨_, rfl, h⟩) (.inl rfl) (sm _ _ hfl) (fun D j ys H' => ys = (intsV (tabRow ks i)).take j) (by rw [hvl]; exact line_ge (Nat.le_trans hk43 (by decide))) (fun D hD => by simp) ?_ ?_
      · intro D j y ys H2 R1 R2 hD hy hsm hDl hp c1 c2
        obtain ⟨a2, k2, rfl, hk2, ha2⟩ := thing (sm.trans hsm) hy
        have hk2m : k2 ∈ ks := List.mem_of_getElem? hk2
        refine tAlways_if ⟨_, rfl, ?_⟩
        dsimp only [tCons, tCB, tCall]
        refine comp_sq (a := a1) (fun R h => ⟨_, rfl, h⟩) (.inr rfl) (hsm _ _ ha1) (fun D2 n zs2 H4 => zs2 = (intsV (k1.map fun r => k2.getD r 0)).take n) (by rw [intsV_len]; exact line_ge (Nat.le_trans (ha60 k1 hk1m) (by decide))) (fun D2 hD2 => by simp) ?_ ?_
        · intro D2 n z zs2 H4 R3 R4 hD2 hz hsm4 hD2l hp2 c3 c4
          have hn : n < k1.length := by have := (List.getElem?_eq_some_iff.mp hz).1; rwa [intsV_len] at this
          rw [intsV_get hn] at hz
          cases hz
          refine tAlways_if ⟨_, rfl, _, rfl, a2, _, _, _, rfl, rfl, SqT.of (hsm4 _ _ ha2), atI_ints (hin k1 hk1m k2 hk2m _ (getD_in hn)), c3 _ H4 hD2l (Same.set hsm4 hD2) ?_⟩
          rw [hp2]
          refine (take_snoc ?_).symm
          rw [intsV_get (by rw [List.length_map]; exact hn), map_getD hn]
        · intro D2 zs2 H4 hD2 hsm4 hD2l hp2
          rw [intsV_len, List.take_of_length_le (by rw [intsV_len, List.length_map]; exact Nat.le_refl _)] at hp2
          subst hp2
          refine ⟨D2, _, rfl, .inl ⟨SqL.of hD2l, fun t ht => ?_⟩⟩
          have s5 := hsm4.trans (Same.upd (o := .tup (intsV (k1.map fun r => k2.getD r 0))) ht)
          have hm := hcl k1 hk1m k2 hk2m
          have hrm5 : RmAt P w (L2.upd H4 t (.tup (intsV (k1.map fun r => k2.getD r 0)))) dd false ks := hrm.same fun b o e _ => (sm.trans (hsm.trans s5)) _ _ e
          have htv : ThV false (L2.upd H4 t (.tup (intsV (k1.map fun r => k2.getD r 0)))) (k1.map fun r => k2.getD r 0) (.ref t) := by
            unfold ThV
            rw [if_neg (by decide)]
            exact ⟨t, rfl, upd_same⟩
          have hget := hrm5.get htv
          rw [(ix_get hm).1] at hget
          have hD5 := s5 _ _ hDl
          refine ⟨dd, _, rfl, hget, c1 _ _ hD5 (Same.set (hsm.trans s5) hD) ?_⟩
          rw [hp]
          refine (take_snoc ?_).symm
          have hj : j < ks.length := (List.getElem?_eq_some_iff.mp hk2).1
          rw [intsV_get (by rw [tabRow, List.length_map]; exact hj), tabRow, List.getD_eq_getElem?_getD, List.getElem?_map, hk2, ek1]
          rfl
      · intro D ys H2 hD hsm hDl hp
        rw [hvl, List.take_of_length_le (by rw [intsV_len, tabRow, List.length_map]; exact Nat.le_refl _)] at hp
        subst hp
        refine ⟨D, _, rfl, .inl ⟨SqL.of hDl, fun t ht => ?_⟩⟩
        have s5 := hsm.trans (Same.upd (o := .tup (intsV (tabRow ks i))) ht)
        have hl5 := s5 _ _ hl1
        refine ⟨l, _, _, rfl, rfl, hl5, by rw [List.length_map, htl]; exact small1000 (by have := (List.getElem?_eq_some_iff.mp hk1).1; omega), ts ++ [t], _, rfl, Same.set (sm.trans s5) hl, by rw [upd_same, List.map_append]; rfl, by rw [List.length_append, htl]; rfl, fun j u e => ?_⟩
        rcases get_split e with z | ⟨rfl, rfl⟩
        · exact upd_keep2 (s5 _ _ (hts j u z)) hl5 (by intro z; cases z)
        · rw [htl]
          exact upd_keep2 upd_same hl5 (by intro z; cases z)
    · rintro σ' H1 ⟨ts, s3, rfl, sm, hl1, htl, hts⟩
      exact ⟨_, rfl, q l ts H1 sm ⟨hl1, by rw [htl, hvl], hts⟩⟩
theorem sc_law : FnScope ["_law_script", "_law_letters_here", "_law_machine_here", "_law_found", "_law_places", "_law_told", "_law_word_here", "_law_at", "_law_sign"] ["_law_script"] (defScope s_law) := ⟨rfl, rfl, rfl, by decide +kernel, rfl, by decide +kernel, by decide +kernel⟩
set_option maxHeartbeats 4000000 in
theorem ok_law {f : Addr} {fd : FuncData} (F : Fun K "law" "law" s_law f fd) (T : Txt K mg) (d__law_cell_at : Df P w K mg base "_law_cell_at" 1 ["_law_script", "_law_k"] (sp_cell K)) (d__law_letters : Df P w K mg base "_law_letters" 1 ["_law_cell"] sp_letters) (d__law_acting : Df P w K mg base "_law_acting" 3 ["_law_script", "_law_letters_here"] (sp_acting K)) (d__law_acts : Df P w K mg base "_law_acts" 1 ["_law_machine_here"] (sp_lawacts P w)) (d_table : Df P w K mg base "table" 8 ["machine"] (sp_table P0 sites)) (d__law_same : Df P w K mg base "_law_same" 4 ["_law_found", "_law_due"] (sp_same 3)) (d__law_table : Df P w K mg base "_law_table" 1 ["_law_found", "_law_places"] (sp_lawtable P w)) (d__law_word : Df P w K mg base "_law_word" 1 ["_law_letters_here", "_law_cells"] (sp_word K)) (d__law_act : Df P w K mg base "_law_act" 2 ["_law_machine_here", "_law_word_here"] sp_lawact) : FnOk P w K mg base CX0 9 f fd ["_law_script"] (spLawT K [(cT, P0)]) := by
  refine F.ok sc_law (fun vs H Q E h => ?_) (fun cdv A outer s H vs Q E hr h => ?_)
  · obtain ⟨a, ns, rfl, _⟩ := h
    rfl
  · obtain ⟨a, ns, rfl, hS, hlen, hT0, k⟩ := h
    have hr1 := hr.mono (j := 1) (by decide)
    have hr2 := hr.mono (j := 2) (by decide)
    have hr3 := hr.mono (j := 3) (by decide)
    have hr4 := hr.mono (j := 4) (by decide)
    refine ⟨_, (pss_cons ((ps_set (i := 1) sc_law.nd rfl (Or.inl rfl) ((pe_df d__law_letters hr1 (pa_cons ((pe_df d__law_cell_at hr1 (pa_cons (pv 0) (pa_cons (pe_int) pa_nil)))) pa_nil))))) (pss_cons ((ps_set (i := 2) sc_law.nd rfl (Or.inl rfl) ((pe_df d__law_acting hr3 (pa_cons (pv 0) (pa_cons (pv 1) pa_nil)))))) (pss_cons (ps_asg (pe_df d__law_acts hr1 (pa_cons (pv 2) pa_nil)) (pg_tup rfl (pgs_cons (pg_name (i := 3) sc_law.nd rfl (Or.inl rfl)) (pgs_cons (pg_name (i := 4) sc_law.nd rfl (Or.inl rfl)) pgs_nil)))) (pss_cons ((ps_if (pt_cmpR op_gt (pe_callB call_len_seq (by rfl) T.len PySem.boot_len (pa_cons (pv 3) pa_nil)) pe_int (nomark _)) ((pss_one (ps_ret pe_bl))) (pss_nil))) (pss_cons ((ps_set (i := 5) sc_law.nd rfl (Or.inl rfl) ((pe_df d_table hr (pa_cons (pv 2) pa_nil))))) (pss_cons ((ps_if (pt_not (pt_val (pe_df d__law_same hr4 (pa_cons (pv 5) (pa_cons ((pe_df d__law_table hr1 (pa_cons (pv 3) (pa_cons (pv 4) pa_nil)))) pa_nil))))) ((pss_one (ps_ret pe_bl))) (pss_nil))) (pss_cons ((ps_set (i := 6) sc_law.nd rfl (Or.inl rfl) ((pe_df d__law_word hr1 (pa_cons (pe_ix ix_tup (pv 2) (pe_int) (fun _ _ => rfl)) (pa_cons (pe_slice sl_list (pv 0) (po_some pe_int) (po_some pe_int)) pa_nil)))))) (pss_cons ((ps_set (i := 7) sc_law.nd rfl (Or.inl rfl) (pe_int))) (pss_cons ((ps_for PassesOwn.never rfl (pi_str (pv 6)) (pg_name (i := 8) sc_law.nd rfl (Or.inl rfl)) ((pss_one ((ps_set (i := 7) sc_law.nd rfl (Or.inl rfl) (pe_ix ix_tup (pe_ix ix_list (pv 5) (pv 7) (fun _ _ => rfl)) (pe_ix (ix_dictW hr.units) (pv 4) (pe_df d__law_act hr2 (pa_cons (pv 2) (pa_cons (pv 8) pa_nil))) (fun _ _ => rfl)) (fun _ _ => rfl)))))))) (pss_one (ps_ret (pe_cmpR (op_eqT hr.units0) (pe_ix ix_list (pv 3) (pv 7) (fun _ _ => rfl)) (pe_df d__law_act hr2 (pa_cons (pv 2) (pa_cons (pv 6) pa_nil))) (nomark _))))))))))))), ?_⟩
    have hT : TabSt H P0 sites := ⟨#[], hT0 _ (List.mem_singleton.mpr rfl), triples_nil, fun q _ => .inl rfl⟩
    refine ⟨_, rfl, a, ns, 0, rfl, hS, by decide, fun z0 => ⟨z0, rfl, fun L0 hL0 => ?_⟩⟩
    refine ⟨_, rfl, _, rfl, a, ns, L0, rfl, hS, hL0, fun m L W B H1 s1 hM1 hMa hW8 => ?_⟩
    refine ⟨_, rfl, m, L, W, B, rfl, hM1, hMa, hW8, fun p fl dd vks ks ws n H2 s2 hp hfl hth hrm bf he hk43 => ?_⟩
    refine ⟨p, _, rfl, SqT.of hp, rfl, _, _, rfl, _, _, rfl, rfl, ?_⟩
    have hvl : vks.length = ks.length := hth.1
    refine ⟨_, rfl, fl, _, rfl, .inl (SqL.of hfl), _, _, rfl, rfl, _, rfl, ite3 (fun hgt => k _) (fun hgt => ?_)⟩
    rw [hvl] at hgt
    have hk40 : ks.length ≤ 40 := by omega
    have hn : n = ks.length := he.elim id fun z => absurd z (Nat.not_lt.mpr hk40)
    rw [hn] at bf
    have hT2 : TabSt H2 P0 sites := tab_same (tab_same hT s1) s2
    refine ⟨_, rfl, m, L, W, B, ks, ws, rfl, hM1.same s2, hMa, hW8, bf, hk40, hT2, fun l ts H3 s3 hT3 hTb => ?_⟩
    obtain ⟨ps2, hP2, _⟩ := id hT2
    have noP : ∀ {b : Addr} {o : HO}, H2 b = some o → (∀ ps, o ≠ .tbl ps) → b ≠ P0 := fun {b o} e ho z => by
      rw [z, hP2] at e
      cases e
      exact ho _ rfl
    have hfl3 : H3 fl = some (.lst vks) := s3 fl _ (noP hfl (fun _ z => nomatch z)) hfl
    have hth3 : ThsAt false H3 ks vks := hth.same (sameX_tup s3 hT2)
    have hrm3 : RmAt P w H3 dd false ks := hrm.same fun b o e ho => s3 b o (noP e fun ps z => by
      rcases ho with rfl | ⟨xs, rfl⟩
      · have hr0 := hrm
        unfold RmAt at hr0
        rw [if_neg (by decide)] at hr0
        obtain ⟨kvs, e2, _⟩ := hr0
        rw [e2] at e
        cases e
        cases z
      · cases z) e
    have hM3 : MachAt H3 m L W B := (hM1.same s2).tups (sameX_tup s3 hT2)
    have hS3 : SqL K H3 a (ns.map V.int) := seq_X s3 hT2 (s2.seq (s1.seq hS))
    have hal := acts_lt hMa bf
    refine ⟨_, rfl, _, rfl, _, rfl, fl, dd, vks, ks, rfl, hfl3, hth3, hrm3, hk43, fun t ht => by rw [(hal t ht).1]; exact Nat.le_trans hW8 (by decide), fun t ht u hu r hr' => by rw [(hal u hu).1]; exact (hal t ht).2 r hr', fun t ht u hu => ?_, fun l2 ts2 H4 s4 hTb2 => ?_⟩
    · obtain ⟨i, hi⟩ := List.mem_iff_getElem?.mp ht
      obtain ⟨j, hj⟩ := List.mem_iff_getElem?.mp hu
      obtain ⟨x, hx⟩ := act_join hMa bf hi hj
      exact List.mem_of_getElem? hx
    have hTb4 : TbAt H4 l ts ks := ⟨s4 _ _ hTb.1, hTb.2.1, fun i t e => s4 _ _ (hTb.2.2 i t e)⟩
    refine ⟨_, _, rfl, like_tabs hTb4 hTb2 (Nat.le_trans hk43 (by decide)), _, rfl, iteF ?_⟩
    have hM4 := hM3.same s4
    have hS4 := s4.seq hS3
    obtain ⟨wy, mk, rows, h1, h2, h3, h4, h5⟩ := id hM4
    refine ⟨_, rfl, m, _, _, _, rfl, rfl, SqT.of h1, atI_nat (j := 0) rfl, _, rfl, _, rfl, _, rfl, a, _, rfl, hS4, fun p2 hp2 => ⟨L, p2, cutI ns (some 12) (some 63), rfl, hMa.lt, SqL.of (by rw [upd_same, cutV_ints]), Nat.le_trans (cutI_length _ _ _) hlen, fun w0 H5 hwl0 hwL0 s5 => ?_⟩⟩
    have s45 : Same H4 H5 := (Same.upd hp2).trans s5
    have inks : ∀ v : List Nat, (∀ c ∈ v, c ∈ L) → ∃ j : Nat, ks[j]? = some (actN L W v) := fun v hv => by
      obtain ⟨j, b, e1, _⟩ := bf.told hMa.lt.nd v _ rfl hv
      rw [act_run _ _ rfl] at e1
      exact ⟨j, e1⟩
    have s35 := s4.trans s45
    refine ⟨_, rfl, _, rfl, for_str (x := tx w0) (fun i σ' H' => ∃ (j : Nat) (s8 : Option V), σ' = [some (.ref a), some (.str (tx L0)), some (.ref m), some (.ref fl), some (.ref dd), some (.ref l), some (.str (tx w0)), some (.int (j : Int)), s8] ∧ Same H5 H' ∧ ks[j]? = some (actN L W (w0.take i))) ?_ ?_ ?_⟩
    · obtain ⟨j, hj⟩ := inks [] (fun c hc => by simp at hc)
      have hj0 : ks[0]? = some (actN L W []) := by
        have := bf.t0
        rw [this]
        exact congrArg some (List.map_id _).symm
      exact ⟨0, none, rfl, Same.refl _, by rw [List.take_zero]; exact hj0⟩
    · rintro i c σ' H6 hc ⟨j, s8, rfl, s6, hj⟩
      rw [tx_get] at hc
      have hcL : c ∈ L := hwL0 c (List.mem_of_getElem? hc)
      have hvL : ∀ x ∈ w0.take i, x ∈ L := fun x hx => hwL0 x (List.mem_of_mem_take hx)
      have sA := s35.trans s6
      have hjl : j < ks.length := (List.getElem?_eq_some_iff.mp hj).1
      obtain ⟨tj, htj⟩ : ∃ tj, ts[j]? = some tj := ⟨ts[j]'(by rw [hTb.2.1]; exact hjl), List.getElem?_eq_getElem _⟩
      obtain ⟨jc, hjc⟩ := inks [c] (fun x hx => by rw [List.mem_singleton.mp hx]; exact hcL)
      have hcm := List.mem_of_getElem? hjc
      refine ⟨_, rfl, _, rfl, l, _, _, _, rfl, rfl, SqL.of (sA _ _ hTb.1), atI_map V.ref htj, _, rfl, _, rfl, _, rfl, m, L, W, B, [c], rfl, hM4.same (s45.trans s6), hMa, fun x hx => by rw [List.mem_singleton.mp hx]; exact hcL, fun t H7 s7 ht => ?_⟩
      have hrm7 : RmAt P w H7 dd false ks := hrm3.same fun b o e _ => (sA.trans s7) _ _ e
      have htv : ThV false H7 (actN L W [c]) (.ref t) := by
        unfold ThV
        rw [if_neg (by decide)]
        exact ⟨t, rfl, ht⟩
      have hget := hrm7.get htv
      rw [(ix_get hcm).1] at hget
      have ejc : ks.idxOf (actN L W [c]) = jc := idx_of bf.nd hjc
      have hjcl : jc < ks.length := (List.getElem?_eq_some_iff.mp hjc).1
      obtain ⟨x, hx⟩ := act_join hMa bf hj hjc
      have ex : (tabRow ks j).getD jc 0 = x := by
        unfold tabRow
        rw [List.getD_eq_getElem?_getD, List.getElem?_map, hjc, List.getD_eq_getElem?_getD, hj]
        exact idx_of bf.nd hx
      refine ⟨dd, _, rfl, hget, tj, _, _, _, rfl, rfl, SqT.of ((sA.trans s7) _ _ (hTb.2.2 j tj htj)), ?_, x, _, rfl, s6.trans s7, ?_⟩
      · rw [ejc, ← ex]
        exact atI_ints (by rw [tabRow, List.length_map]; exact hjcl)
      · rw [List.take_add_one, hc]
        show ks[x]? = some (actN L W (w0.take i ++ [c]))
        rw [act_snoc hMa hvL]
        exact hx
    · rintro σ' H6 ⟨j, s8, rfl, s6, hj⟩
      rw [tx_len, List.take_length] at hj
      have sA := s35.trans s6
      have hjl : j < ks.length := (List.getElem?_eq_some_iff.mp hj).1
      obtain ⟨v0, hv0⟩ : ∃ v0, vks[j]? = some v0 := ⟨vks[j]'(by rw [hvl]; exact hjl), List.getElem?_eq_getElem _⟩
      have hvt := hth3.2 j _ v0 hj hv0
      unfold ThV at hvt
      rw [if_neg (by decide)] at hvt
      obtain ⟨b0, rfl, hb0⟩ := hvt
      refine ⟨_, rfl, _, rfl, fl, _, _, _, rfl, rfl, SqL.of (sA _ _ hfl3), atI_nat hv0, _, rfl, _, rfl, m, L, W, B, w0, rfl, hM4.same (s45.trans s6), hMa, hwL0, fun t H7 s7 ht => ?_⟩
      exact ⟨b0, t, _, rfl, rfl, SqT.of ((sA.trans s7) _ _ hb0), SqT.of ht, ints_flatV _, k _⟩
end
end K43
namespace K43
open PySem L2 RA
theorem keepF {K : PySem.W.Frag} {f : Addr} {oc : Value} {od : Option Addr} {fd : FuncData} {sl : Array (Option Value)} (e : K.lookup f = some ⟨oc, od, .func fd, sl⟩) : PySem.W.keepIn K (.ref f) = true := by
  unfold PySem.W.keepIn
  dsimp only
  rw [show List.lookup f K = _ from e]
theorem all_mk {l : PySem.W.OpenLaw} {w : World} {K K0 : PySem.W.Frag} {h : Heap} {mg : Str → Option Value} {fa cT P0 : Addr} (hK : K = dropTab [P0] K0) (X : K.In h) (G : h.Ns mainGlobals mg) (hfa : mg "law" = some (.ref fa))
    {fI : Addr} {odI anI : Option Addr} {slI : Array (Option Value)} {ocI kVI dcI pmI ctI : Value} {cdI : Addr}
    {cW : Addr} (nW : PySem.W.nsIn K mainGlobals "Walk" = some (some (.ref cW))) (hI0 : PySem.W.findIn K0 (.ref cW) "__init__" = some (some (.ref fI)))
    (cls : Cls K cW) (mk : Mk K cW fI) (na1 : NoAttr K cW "letters") (na2 : NoAttr K cW "things") (na3 : NoAttr K cW "words") (na4 : NoAttr K cW "ways") (na5 : NoAttr K cW "marks")
     (lI : K.lookup fI = some ⟨ocI, odI, .func (PySem.W.fnOf "__init__" "Walk.__init__" (defArgs s_winit) (defBody s_winit) (defScope s_winit) .none kVI dcI pmI anI (.ref cdI) ctI), slI⟩) (cI : PySem.W.codeIn K (.ref cdI) "Walk.__init__" = true)
    {tD tR : Addr} {ocD : Value} {odD : Option Addr} {slD : Array (Option Value)} {nD : Nat}
    {fV : Addr} {odV anV : Option Addr} {slV : Array (Option Value)} {ocV kVV dcV pmV ctV : Value} {cdV : Addr}
    (aV : PySem.W.nsIn K mainGlobals "walked" = some (some (.ref fV))) (lV : K.lookup fV = some ⟨ocV, odV, .func (PySem.W.fnOf "walked" "walked" (defArgs s_walked) (defBody s_walked) (defScope s_walked) (.ref tD) kVV dcV pmV anV (.ref cdV) ctV), slV⟩) (cV : PySem.W.codeIn K (.ref cdV) "walked" = true)
    (lD : K.lookup tD = some ⟨ocD, odD, .seq #[.none] nD, slD⟩)
    {ocR : Value} {odR : Option Addr} {slR : Array (Option Value)} {nR : Nat}
    {fM : Addr} {odM anM : Option Addr} {slM : Array (Option Value)} {ocM kVM dcM pmM ctM : Value}
    (aM : PySem.W.nsIn K mainGlobals "walked_rooms" = some (some (.ref fM))) (lM : K.lookup fM = some ⟨ocM, odM, .func (PySem.W.fnOf "walked_rooms" "walked_rooms" (defArgs s_walked_rooms) (defBody s_walked_rooms) (defScope s_walked_rooms) (.ref tR) kVM dcM pmM anM (.ref cT) ctM), slM⟩) (cM : PySem.W.codeIn K (.ref cT) "walked_rooms" = true)
    (lR : K.lookup tR = some ⟨ocR, odR, .seq #[.none] nR, slR⟩)
    {f0 : Addr} {od0 an0 : Option Addr} {sl0 : Array (Option Value)} {oc0 kV0 dc0 pm0 ct0 : Value} {cd0 : Addr}
    (a0 : PySem.W.nsIn K mainGlobals "is_whole" = some (some (.ref f0))) (l0 : K.lookup f0 = some ⟨oc0, od0, .func (PySem.W.fnOf "is_whole" "is_whole" (defArgs s_is_whole) (defBody s_is_whole) (defScope s_is_whole) .none kV0 dc0 pm0 an0 (.ref cd0) ct0), sl0⟩) (c0 : PySem.W.codeIn K (.ref cd0) "is_whole" = true)
    {f1 : Addr} {od1 an1 : Option Addr} {sl1 : Array (Option Value)} {oc1 kV1 dc1 pm1 ct1 : Value} {cd1 : Addr}
    (a1 : PySem.W.nsIn K mainGlobals "need_word" = some (some (.ref f1))) (l1 : K.lookup f1 = some ⟨oc1, od1, .func (PySem.W.fnOf "need_word" "need_word" (defArgs s_need_word) (defBody s_need_word) (defScope s_need_word) .none kV1 dc1 pm1 an1 (.ref cd1) ct1), sl1⟩) (c1 : PySem.W.codeIn K (.ref cd1) "need_word" = true)
    {f2 : Addr} {od2 an2 : Option Addr} {sl2 : Array (Option Value)} {oc2 kV2 dc2 pm2 ct2 : Value} {cd2 : Addr}
    (a2 : PySem.W.nsIn K mainGlobals "is_room" = some (some (.ref f2))) (l2 : K.lookup f2 = some ⟨oc2, od2, .func (PySem.W.fnOf "is_room" "is_room" (defArgs s_is_room) (defBody s_is_room) (defScope s_is_room) .none kV2 dc2 pm2 an2 (.ref cd2) ct2), sl2⟩) (c2 : PySem.W.codeIn K (.ref cd2) "is_room" = true)
    {f3 : Addr} {od3 an3 : Option Addr} {sl3 : Array (Option Value)} {oc3 kV3 dc3 pm3 ct3 : Value} {cd3 : Addr}
    (a3 : PySem.W.nsIn K mainGlobals "need_room" = some (some (.ref f3))) (l3 : K.lookup f3 = some ⟨oc3, od3, .func (PySem.W.fnOf "need_room" "need_room" (defArgs s_need_room) (defBody s_need_room) (defScope s_need_room) .none kV3 dc3 pm3 an3 (.ref cd3) ct3), sl3⟩) (c3 : PySem.W.codeIn K (.ref cd3) "need_room" = true)
    {f4 : Addr} {od4 an4 : Option Addr} {sl4 : Array (Option Value)} {oc4 kV4 dc4 pm4 ct4 : Value} {cd4 : Addr}
    (a4 : PySem.W.nsIn K mainGlobals "room_after" = some (some (.ref f4))) (l4 : K.lookup f4 = some ⟨oc4, od4, .func (PySem.W.fnOf "room_after" "room_after" (defArgs s_room_after) (defBody s_room_after) (defScope s_room_after) .none kV4 dc4 pm4 an4 (.ref cd4) ct4), sl4⟩) (c4 : PySem.W.codeIn K (.ref cd4) "room_after" = true)
    {f5 : Addr} {od5 an5 : Option Addr} {sl5 : Array (Option Value)} {oc5 kV5 dc5 pm5 ct5 : Value} {cd5 : Addr}
    (a5 : PySem.W.nsIn K mainGlobals "lots_after" = some (some (.ref f5))) (l5 : K.lookup f5 = some ⟨oc5, od5, .func (PySem.W.fnOf "lots_after" "lots_after" (defArgs s_lots_after) (defBody s_lots_after) (defScope s_lots_after) .none kV5 dc5 pm5 an5 (.ref cd5) ct5), sl5⟩) (c5 : PySem.W.codeIn K (.ref cd5) "lots_after" = true)
    {f6 : Addr} {od6 an6 : Option Addr} {sl6 : Array (Option Value)} {oc6 kV6 dc6 pm6 ct6 : Value} {cd6 : Addr}
    (a6 : PySem.W.nsIn K mainGlobals "walked_acts" = some (some (.ref f6))) (l6 : K.lookup f6 = some ⟨oc6, od6, .func (PySem.W.fnOf "walked_acts" "walked_acts" (defArgs s_walked_acts) (defBody s_walked_acts) (defScope s_walked_acts) .none kV6 dc6 pm6 an6 (.ref cd6) ct6), sl6⟩) (c6 : PySem.W.codeIn K (.ref cd6) "walked_acts" = true)
    {f7 : Addr} {od7 an7 : Option Addr} {sl7 : Array (Option Value)} {oc7 kV7 dc7 pm7 ct7 : Value} {cd7 : Addr}
    (a7 : PySem.W.nsIn K mainGlobals "table" = some (some (.ref f7))) (l7 : K.lookup f7 = some ⟨oc7, od7, .func (PySem.W.fnOf "table" "table" (defArgs s_table) (defBody s_table) (defScope s_table) .none kV7 dc7 pm7 an7 (.ref cd7) ct7), sl7⟩) (c7 : PySem.W.codeIn K (.ref cd7) "table" = true)
    {f8 : Addr} {od8 an8 : Option Addr} {sl8 : Array (Option Value)} {oc8 kV8 dc8 pm8 ct8 : Value} {cd8 : Addr}
    (a8 : PySem.W.nsIn K mainGlobals "_law_cell_at" = some (some (.ref f8))) (l8 : K.lookup f8 = some ⟨oc8, od8, .func (PySem.W.fnOf "_law_cell_at" "_law_cell_at" (defArgs s__law_cell_at) (defBody s__law_cell_at) (defScope s__law_cell_at) .none kV8 dc8 pm8 an8 (.ref cd8) ct8), sl8⟩) (c8 : PySem.W.codeIn K (.ref cd8) "_law_cell_at" = true)
    {f9 : Addr} {od9 an9 : Option Addr} {sl9 : Array (Option Value)} {oc9 kV9 dc9 pm9 ct9 : Value} {cd9 : Addr}
    (a9 : PySem.W.nsIn K mainGlobals "_law_letters" = some (some (.ref f9))) (l9 : K.lookup f9 = some ⟨oc9, od9, .func (PySem.W.fnOf "_law_letters" "_law_letters" (defArgs s__law_letters) (defBody s__law_letters) (defScope s__law_letters) .none kV9 dc9 pm9 an9 (.ref cd9) ct9), sl9⟩) (c9 : PySem.W.codeIn K (.ref cd9) "_law_letters" = true)
    {f10 : Addr} {od10 an10 : Option Addr} {sl10 : Array (Option Value)} {oc10 kV10 dc10 pm10 ct10 : Value} {cd10 : Addr}
    (a10 : PySem.W.nsIn K mainGlobals "_law_word" = some (some (.ref f10))) (l10 : K.lookup f10 = some ⟨oc10, od10, .func (PySem.W.fnOf "_law_word" "_law_word" (defArgs s__law_word) (defBody s__law_word) (defScope s__law_word) .none kV10 dc10 pm10 an10 (.ref cd10) ct10), sl10⟩) (c10 : PySem.W.codeIn K (.ref cd10) "_law_word" = true)
    {f11 : Addr} {od11 an11 : Option Addr} {sl11 : Array (Option Value)} {oc11 kV11 dc11 pm11 ct11 : Value} {cd11 : Addr}
    (a11 : PySem.W.nsIn K mainGlobals "_law_machine" = some (some (.ref f11))) (l11 : K.lookup f11 = some ⟨oc11, od11, .func (PySem.W.fnOf "_law_machine" "_law_machine" (defArgs s__law_machine) (defBody s__law_machine) (defScope s__law_machine) .none kV11 dc11 pm11 an11 (.ref cd11) ct11), sl11⟩) (c11 : PySem.W.codeIn K (.ref cd11) "_law_machine" = true)
    {f12 : Addr} {od12 an12 : Option Addr} {sl12 : Array (Option Value)} {oc12 kV12 dc12 pm12 ct12 : Value} {cd12 : Addr}
    (a12 : PySem.W.nsIn K mainGlobals "_law_after" = some (some (.ref f12))) (l12 : K.lookup f12 = some ⟨oc12, od12, .func (PySem.W.fnOf "_law_after" "_law_after" (defArgs s__law_after) (defBody s__law_after) (defScope s__law_after) .none kV12 dc12 pm12 an12 (.ref cd12) ct12), sl12⟩) (c12 : PySem.W.codeIn K (.ref cd12) "_law_after" = true)
    {f13 : Addr} {od13 an13 : Option Addr} {sl13 : Array (Option Value)} {oc13 kV13 dc13 pm13 ct13 : Value} {cd13 : Addr}
    (a13 : PySem.W.nsIn K mainGlobals "_law_act" = some (some (.ref f13))) (l13 : K.lookup f13 = some ⟨oc13, od13, .func (PySem.W.fnOf "_law_act" "_law_act" (defArgs s__law_act) (defBody s__law_act) (defScope s__law_act) .none kV13 dc13 pm13 an13 (.ref cd13) ct13), sl13⟩) (c13 : PySem.W.codeIn K (.ref cd13) "_law_act" = true)
    {f14 : Addr} {od14 an14 : Option Addr} {sl14 : Array (Option Value)} {oc14 kV14 dc14 pm14 ct14 : Value} {cd14 : Addr}
    (a14 : PySem.W.nsIn K mainGlobals "_law_turns" = some (some (.ref f14))) (l14 : K.lookup f14 = some ⟨oc14, od14, .func (PySem.W.fnOf "_law_turns" "_law_turns" (defArgs s__law_turns) (defBody s__law_turns) (defScope s__law_turns) .none kV14 dc14 pm14 an14 (.ref cd14) ct14), sl14⟩) (c14 : PySem.W.codeIn K (.ref cd14) "_law_turns" = true)
    {f15 : Addr} {od15 an15 : Option Addr} {sl15 : Array (Option Value)} {oc15 kV15 dc15 pm15 ct15 : Value} {cd15 : Addr}
    (a15 : PySem.W.nsIn K mainGlobals "_law_order" = some (some (.ref f15))) (l15 : K.lookup f15 = some ⟨oc15, od15, .func (PySem.W.fnOf "_law_order" "_law_order" (defArgs s__law_order) (defBody s__law_order) (defScope s__law_order) .none kV15 dc15 pm15 an15 (.ref cd15) ct15), sl15⟩) (c15 : PySem.W.codeIn K (.ref cd15) "_law_order" = true)
    {f16 : Addr} {od16 an16 : Option Addr} {sl16 : Array (Option Value)} {oc16 kV16 dc16 pm16 ct16 : Value} {cd16 : Addr}
    (a16 : PySem.W.nsIn K mainGlobals "_law_third" = some (some (.ref f16))) (l16 : K.lookup f16 = some ⟨oc16, od16, .func (PySem.W.fnOf "_law_third" "_law_third" (defArgs s__law_third) (defBody s__law_third) (defScope s__law_third) .none kV16 dc16 pm16 an16 (.ref cd16) ct16), sl16⟩) (c16 : PySem.W.codeIn K (.ref cd16) "_law_third" = true)
    {f17 : Addr} {od17 an17 : Option Addr} {sl17 : Array (Option Value)} {oc17 kV17 dc17 pm17 ct17 : Value} {cd17 : Addr}
    (a17 : PySem.W.nsIn K mainGlobals "_law_forty" = some (some (.ref f17))) (l17 : K.lookup f17 = some ⟨oc17, od17, .func (PySem.W.fnOf "_law_forty" "_law_forty" (defArgs s__law_forty) (defBody s__law_forty) (defScope s__law_forty) .none kV17 dc17 pm17 an17 (.ref cd17) ct17), sl17⟩) (c17 : PySem.W.codeIn K (.ref cd17) "_law_forty" = true)
    {f18 : Addr} {od18 an18 : Option Addr} {sl18 : Array (Option Value)} {oc18 kV18 dc18 pm18 ct18 : Value} {cd18 : Addr}
    (a18 : PySem.W.nsIn K mainGlobals "_law_acting" = some (some (.ref f18))) (l18 : K.lookup f18 = some ⟨oc18, od18, .func (PySem.W.fnOf "_law_acting" "_law_acting" (defArgs s__law_acting) (defBody s__law_acting) (defScope s__law_acting) .none kV18 dc18 pm18 an18 (.ref cd18) ct18), sl18⟩) (c18 : PySem.W.codeIn K (.ref cd18) "_law_acting" = true)
    {f19 : Addr} {od19 an19 : Option Addr} {sl19 : Array (Option Value)} {oc19 kV19 dc19 pm19 ct19 : Value} {cd19 : Addr}
    (a19 : PySem.W.nsIn K mainGlobals "_law_same" = some (some (.ref f19))) (l19 : K.lookup f19 = some ⟨oc19, od19, .func (PySem.W.fnOf "_law_same" "_law_same" (defArgs s__law_same) (defBody s__law_same) (defScope s__law_same) .none kV19 dc19 pm19 an19 (.ref cd19) ct19), sl19⟩) (c19 : PySem.W.codeIn K (.ref cd19) "_law_same" = true)
    {f20 : Addr} {od20 an20 : Option Addr} {sl20 : Array (Option Value)} {oc20 kV20 dc20 pm20 ct20 : Value} {cd20 : Addr}
    (a20 : PySem.W.nsIn K mainGlobals "_law_acts" = some (some (.ref f20))) (l20 : K.lookup f20 = some ⟨oc20, od20, .func (PySem.W.fnOf "_law_acts" "_law_acts" (defArgs s__law_acts) (defBody s__law_acts) (defScope s__law_acts) .none kV20 dc20 pm20 an20 (.ref cd20) ct20), sl20⟩) (c20 : PySem.W.codeIn K (.ref cd20) "_law_acts" = true)
    {f21 : Addr} {od21 an21 : Option Addr} {sl21 : Array (Option Value)} {oc21 kV21 dc21 pm21 ct21 : Value} {cd21 : Addr}
    (a21 : PySem.W.nsIn K mainGlobals "_law_table" = some (some (.ref f21))) (l21 : K.lookup f21 = some ⟨oc21, od21, .func (PySem.W.fnOf "_law_table" "_law_table" (defArgs s__law_table) (defBody s__law_table) (defScope s__law_table) .none kV21 dc21 pm21 an21 (.ref cd21) ct21), sl21⟩) (c21 : PySem.W.codeIn K (.ref cd21) "_law_table" = true)
    {f22 : Addr} {od22 an22 : Option Addr} {sl22 : Array (Option Value)} {oc22 kV22 dc22 pm22 ct22 : Value} {cd22 : Addr}
    (a22 : PySem.W.nsIn K mainGlobals "law" = some (some (.ref f22))) (l22 : K.lookup f22 = some ⟨oc22, od22, .func (PySem.W.fnOf "law" "law" (defArgs s_law) (defBody s_law) (defScope s_law) .none kV22 dc22 pm22 an22 (.ref cd22) ct22), sl22⟩) (c22 : PySem.W.codeIn K (.ref cd22) "law" = true)
    (z_len : PySem.W.nsIn K mainGlobals "len" = some none)
    (z_range : PySem.W.nsIn K mainGlobals "range" = some none)
    (z_isinst : PySem.W.nsIn K mainGlobals "isinstance" = some none)
    (z_int : PySem.W.nsIn K mainGlobals "int" = some none)
    (z_bool : PySem.W.nsIn K mainGlobals "bool" = some none)
    (z_tuple : PySem.W.nsIn K mainGlobals "tuple" = some none)
    (z_list : PySem.W.nsIn K mainGlobals "list" = some none)
    (z_str : PySem.W.nsIn K mainGlobals "str" = some none)
    (z_zip : PySem.W.nsIn K mainGlobals "zip" = some none)
    {t_most : Tok} (z_most : PySem.W.nsIn K mainGlobals "MOST_ACTS" = some (some (.int 40 t_most)))
    : ∃ fd : FuncData, (∀ (s : Shared) (v : Value), BindsTo s fd ⟨[v], []⟩ [("_law_script", v)]) ∧ ∀ base : Heap, K.In base → base.Ns mainGlobals mg → BltAt base mg → (∀ q ∈ [(cT, P0)], PySem.W.CodeHd base q.1 q.2) → FnOk l.prog w K mg base CX0 9 fa fd ["_law_script"] (spLawT K [(cT, P0)]) := by
  have e := hfa.symm.trans (PySem.W.mg_of X G a22)
  cases e
  have T : Txt K mg := ⟨PySem.W.mg_none_of X G z_len, PySem.W.mg_none_of X G z_range, PySem.W.mg_none_of X G z_isinst, PySem.W.mg_none_of X G z_int, PySem.W.mg_none_of X G z_bool, PySem.W.mg_none_of X G z_tuple, PySem.W.mg_none_of X G z_list, PySem.W.mg_none_of X G z_str, PySem.W.mg_none_of X G z_zip, ⟨t_most, PySem.W.mg_of X G z_most⟩⟩
  have F0 := fun_mk (st := s_is_whole) l0 c0 (keepF l0)
  have F1 := fun_mk (st := s_need_word) l1 c1 (keepF l1)
  have F2 := fun_mk (st := s_is_room) l2 c2 (keepF l2)
  have F3 := fun_mk (st := s_need_room) l3 c3 (keepF l3)
  have F4 := fun_mk (st := s_room_after) l4 c4 (keepF l4)
  have F5 := fun_mk (st := s_lots_after) l5 c5 (keepF l5)
  have F6 := fun_mk (st := s_walked_acts) l6 c6 (keepF l6)
  have F7 := fun_mk (st := s_table) l7 c7 (keepF l7)
  have F8 := fun_mk (st := s__law_cell_at) l8 c8 (keepF l8)
  have F9 := fun_mk (st := s__law_letters) l9 c9 (keepF l9)
  have F10 := fun_mk (st := s__law_word) l10 c10 (keepF l10)
  have F11 := fun_mk (st := s__law_machine) l11 c11 (keepF l11)
  have F12 := fun_mk (st := s__law_after) l12 c12 (keepF l12)
  have F13 := fun_mk (st := s__law_act) l13 c13 (keepF l13)
  have F14 := fun_mk (st := s__law_turns) l14 c14 (keepF l14)
  have F15 := fun_mk (st := s__law_order) l15 c15 (keepF l15)
  have F16 := fun_mk (st := s__law_third) l16 c16 (keepF l16)
  have F17 := fun_mk (st := s__law_forty) l17 c17 (keepF l17)
  have F18 := fun_mk (st := s__law_acting) l18 c18 (keepF l18)
  have F19 := fun_mk (st := s__law_same) l19 c19 (keepF l19)
  have F20 := fun_mk (st := s__law_acts) l20 c20 (keepF l20)
  have F21 := fun_mk (st := s__law_table) l21 c21 (keepF l21)
  have F22 := fun_mk (st := s_law) l22 c22 (keepF l22)
  have WT := WkT.mk (PySem.W.mg_of X G nW) cls mk na1 na2 na3 na4 na5 (fun_mk (st := s_winit) lI cI (keepF lI))
  have WA : WkA K cW := ⟨cls, na1, na3, na4, na5⟩
  have DL : ∀ base : Heap, Df l.prog w K mg base "lots_after" 1 ["machine", "rooms"] sp_lotsafter := fun base => ⟨f5, _, PySem.W.mg_of X G a5, keepF l5, F5.binds (ps := ["machine", "rooms"]) (fun _ _ _ _ _ _ us hl => by obtain ⟨_, _, rfl⟩ := len2 hl; rfl), ok_lots_after F5 T⟩
  refine ⟨PySem.W.fnOf "law" "law" (defArgs s_law) (defBody s_law) (defScope s_law) .none kV22 dc22 pm22 an22 (.ref cd22) ct22, fun s v => .of_eq rfl, fun base _ _ hB hC => ?_⟩
  have hC1 : PySem.W.CodeHd base cT P0 := hC (cT, P0) (List.mem_singleton.mpr rfl)
  have d_walked_rooms : Df l.prog w K mg base "walked_rooms" 6 ["machine", "rooms", "most"] (sp_wrooms cW P0 sites) := ⟨fM, _, PySem.W.mg_of X G aM, keepF lM, bd_wrooms lR, ok_wrooms lM cM lV cV (keepF lV) (PySem.W.mg_of X G aV) lD WT (PySem.W.mg_none_of X G z_len) (PySem.W.mg_none_of X G z_zip) (PySem.W.mg_none_of X G z_tuple) hC1 hB DL⟩
  have d_is_whole : Df l.prog w K mg base "is_whole" 1 ["value"] sp_is_whole := ⟨f0, _, PySem.W.mg_of X G a0, keepF l0, F0.binds (ps := ["value"]) (fun _ _ _ _ _ _ us hl => by obtain ⟨_, rfl⟩ := len1 hl; rfl), ok_is_whole F0 T ⟩
  have d_need_word : Df l.prog w K mg base "need_word" 1 ["letters", "word"] sp_needword := ⟨f1, _, PySem.W.mg_of X G a1, keepF l1, F1.binds (ps := ["letters", "word"]) (fun _ _ _ _ _ _ us hl => by obtain ⟨_, _, rfl⟩ := len2 hl; rfl), ok_need_word F1 T ⟩
  have d_is_room : Df l.prog w K mg base "is_room" 2 ["number", "many"] sp_isroom := ⟨f2, _, PySem.W.mg_of X G a2, keepF l2, F2.binds (ps := ["number", "many"]) (fun _ _ _ _ _ _ us hl => by obtain ⟨_, _, rfl⟩ := len2 hl; rfl), ok_is_room F2 T d_is_whole⟩
  have d_need_room : Df l.prog w K mg base "need_room" 3 ["machine", "number"] sp_needroomP := ⟨f3, _, PySem.W.mg_of X G a3, keepF l3, F3.binds (ps := ["machine", "number"]) (fun _ _ _ _ _ _ us hl => by obtain ⟨_, _, rfl⟩ := len2 hl; rfl), ok_need_room F3 T d_is_room⟩
  have d_room_after : Df l.prog w K mg base "room_after" 4 ["machine", "room", "word"] sp_roomafterP := ⟨f4, _, PySem.W.mg_of X G a4, keepF l4, F4.binds (ps := ["machine", "room", "word"]) (fun _ _ _ _ _ _ us hl => by obtain ⟨_, _, _, rfl⟩ := len3 hl; rfl), ok_room_after F4 T d_need_room d_need_word⟩
  have d_lots_after : Df l.prog w K mg base "lots_after" 1 ["machine", "rooms"] sp_lotsafter := ⟨f5, _, PySem.W.mg_of X G a5, keepF l5, F5.binds (ps := ["machine", "rooms"]) (fun _ _ _ _ _ _ us hl => by obtain ⟨_, _, rfl⟩ := len2 hl; rfl), ok_lots_after F5 T ⟩
  have d_walked_acts : Df l.prog w K mg base "walked_acts" 7 ["machine"] (sp_wactsN cW P0 sites) := ⟨f6, _, PySem.W.mg_of X G a6, keepF l6, F6.binds (ps := ["machine"]) (fun _ _ _ _ _ _ us hl => by obtain ⟨_, rfl⟩ := len1 hl; rfl), ok_walked_acts F6 T WA d_walked_rooms⟩
  have d_table : Df l.prog w K mg base "table" 8 ["machine"] (sp_table P0 sites) := ⟨f7, _, PySem.W.mg_of X G a7, keepF l7, F7.binds (ps := ["machine"]) (fun _ _ _ _ _ _ us hl => by obtain ⟨_, rfl⟩ := len1 hl; rfl), ok_table F7 T WA d_walked_acts d_room_after⟩
  have d__law_cell_at : Df l.prog w K mg base "_law_cell_at" 1 ["_law_script", "_law_k"] (sp_cell K) := ⟨f8, _, PySem.W.mg_of X G a8, keepF l8, F8.binds (ps := ["_law_script", "_law_k"]) (fun _ _ _ _ _ _ us hl => by obtain ⟨_, _, rfl⟩ := len2 hl; rfl), ok__law_cell_at F8 T ⟩
  have d__law_letters : Df l.prog w K mg base "_law_letters" 1 ["_law_cell"] sp_letters := ⟨f9, _, PySem.W.mg_of X G a9, keepF l9, F9.binds (ps := ["_law_cell"]) (fun _ _ _ _ _ _ us hl => by obtain ⟨_, rfl⟩ := len1 hl; rfl), ok__law_letters F9 T ⟩
  have d__law_word : Df l.prog w K mg base "_law_word" 1 ["_law_letters_here", "_law_cells"] (sp_word K) := ⟨f10, _, PySem.W.mg_of X G a10, keepF l10, F10.binds (ps := ["_law_letters_here", "_law_cells"]) (fun _ _ _ _ _ _ us hl => by obtain ⟨_, _, rfl⟩ := len2 hl; rfl), ok__law_word F10 T ⟩
  have d__law_machine : Df l.prog w K mg base "_law_machine" 2 ["_law_script", "_law_at", "_law_rooms", "_law_letters_here"] (sp_machine K) := ⟨f11, _, PySem.W.mg_of X G a11, keepF l11, F11.binds (ps := ["_law_script", "_law_at", "_law_rooms", "_law_letters_here"]) (fun _ _ _ _ _ _ us hl => by obtain ⟨_, _, _, _, rfl⟩ := len4 hl; rfl), ok__law_machine F11 T d__law_cell_at⟩
  have d__law_after : Df l.prog w K mg base "_law_after" 1 ["_law_machine_here", "_law_room", "_law_word_here"] sp_after := ⟨f12, _, PySem.W.mg_of X G a12, keepF l12, F12.binds (ps := ["_law_machine_here", "_law_room", "_law_word_here"]) (fun _ _ _ _ _ _ us hl => by obtain ⟨_, _, _, rfl⟩ := len3 hl; rfl), ok__law_after F12 T ⟩
  have d__law_act : Df l.prog w K mg base "_law_act" 2 ["_law_machine_here", "_law_word_here"] sp_lawact := ⟨f13, _, PySem.W.mg_of X G a13, keepF l13, F13.binds (ps := ["_law_machine_here", "_law_word_here"]) (fun _ _ _ _ _ _ us hl => by obtain ⟨_, _, rfl⟩ := len2 hl; rfl), ok__law_act F13 T d__law_after⟩
  have d__law_turns : Df l.prog w K mg base "_law_turns" 2 ["_law_script", "_law_letters_here"] (sp_mk8 K) := ⟨f14, _, PySem.W.mg_of X G a14, keepF l14, F14.binds (ps := ["_law_script", "_law_letters_here"]) (fun _ _ _ _ _ _ us hl => by obtain ⟨_, _, rfl⟩ := len2 hl; rfl), ok__law_turns F14 T d__law_cell_at⟩
  have d__law_order : Df l.prog w K mg base "_law_order" 1 ["_law_cell", "_law_many"] sp_order := ⟨f15, _, PySem.W.mg_of X G a15, keepF l15, F15.binds (ps := ["_law_cell", "_law_many"]) (fun _ _ _ _ _ _ us hl => by obtain ⟨_, _, rfl⟩ := len2 hl; rfl), ok__law_order F15 T ⟩
  have d__law_third : Df l.prog w K mg base "_law_third" 1 ["_law_kind", "_law_room"] sp_third := ⟨f16, _, PySem.W.mg_of X G a16, keepF l16, F16.binds (ps := ["_law_kind", "_law_room"]) (fun _ _ _ _ _ _ us hl => by obtain ⟨_, _, rfl⟩ := len2 hl; rfl), ok__law_third F16 T ⟩
  have d__law_forty : Df l.prog w K mg base "_law_forty" 2 ["_law_script", "_law_letters_here"] (sp_mk8 K) := ⟨f17, _, PySem.W.mg_of X G a17, keepF l17, F17.binds (ps := ["_law_script", "_law_letters_here"]) (fun _ _ _ _ _ _ us hl => by obtain ⟨_, _, rfl⟩ := len2 hl; rfl), ok__law_forty F17 T d__law_cell_at d__law_order d__law_third⟩
  have d__law_acting : Df l.prog w K mg base "_law_acting" 3 ["_law_script", "_law_letters_here"] (sp_acting K) := ⟨f18, _, PySem.W.mg_of X G a18, keepF l18, F18.binds (ps := ["_law_script", "_law_letters_here"]) (fun _ _ _ _ _ _ us hl => by obtain ⟨_, _, rfl⟩ := len2 hl; rfl), ok__law_acting F18 T d__law_cell_at d__law_machine d__law_turns d__law_forty⟩
  have d__law_same : Df l.prog w K mg base "_law_same" 4 ["_law_found", "_law_due"] (sp_same 3) := ⟨f19, _, PySem.W.mg_of X G a19, keepF l19, F19.binds (ps := ["_law_found", "_law_due"]) (fun _ _ _ _ _ _ us hl => by obtain ⟨_, _, rfl⟩ := len2 hl; rfl), ok__law_same F19 T  (PySem.W.mg_of X G a19) (F19.binds (ps := ["_law_found", "_law_due"]) (fun _ _ _ _ _ _ us hl => by obtain ⟨_, _, rfl⟩ := len2 hl; rfl))⟩
  have d__law_acts : Df l.prog w K mg base "_law_acts" 1 ["_law_machine_here"] (sp_lawacts l.prog w) := ⟨f20, _, PySem.W.mg_of X G a20, keepF l20, F20.binds (ps := ["_law_machine_here"]) (fun _ _ _ _ _ _ us hl => by obtain ⟨_, rfl⟩ := len1 hl; rfl), ok__law_acts F20 T ⟩
  have d__law_table : Df l.prog w K mg base "_law_table" 1 ["_law_found", "_law_places"] (sp_lawtable l.prog w) := ⟨f21, _, PySem.W.mg_of X G a21, keepF l21, F21.binds (ps := ["_law_found", "_law_places"]) (fun _ _ _ _ _ _ us hl => by obtain ⟨_, _, rfl⟩ := len2 hl; rfl), ok__law_table F21 T ⟩
  exact ok_law F22 T d__law_cell_at d__law_letters d__law_acting d__law_acts d_table d__law_same d__law_table d__law_word d__law_act
end K43
end
open PySem PySem.W PyProof.Rows
set_option maxRecDepth 100000 in
set_option maxHeartbeats 0 in
theorem PySem.Challenge.cw_roomalgebra_k43_the_table_of_acts_holds : PySem.Challenge.rw_roomalgebra_k43_the_table_of_acts.Holds := by
  w_on; o_law; z_head; (case hw => w_witness2)
  k_fill
  intro w sa sb mg mb G ye fa ob pm cd dc dv kv e1 e2 e3 e4 e5 e6 gs vs bs La c1 c2 c3 c4 c5
  z_open ye La KX ZH ZN ZT
  clear ye La ZH ZN ZT
  refine L2.walk63t (k := 9) (x := "_law_script") (l := PySem.Challenge.rw_roomalgebra_k43_the_table_of_acts) (tabs := [(146, 142)]) rfl rfl ⟨rfl, by decide, by decide⟩ ?T ?F w sa sb mg mb G KX fa ob pm cd dc dv kv e1 e2 e3 e4 e5 e6 gs vs bs c1 c2 c3 c4 c5
  case T =>
    intro p q hq
    rw [List.mem_singleton.mp hq]
    exact ⟨by kernel_rfl, by kernel_rfl⟩
  case F =>
    intro w mg fa h KX G hmg
    refine' K43.all_mk rfl KX G hmg ?nW ?hI0 ?cls ?mk ?na1 ?na2 ?na3 ?na4 ?na5 ?lI ?cI ?aV ?lV ?cV ?lD ?aM ?lM ?cM ?lR ?a0 ?l0 ?c0 ?a1 ?l1 ?c1 ?a2 ?l2 ?c2 ?a3 ?l3 ?c3 ?a4 ?l4 ?c4 ?a5 ?l5 ?c5 ?a6 ?l6 ?c6 ?a7 ?l7 ?c7 ?a8 ?l8 ?c8 ?a9 ?l9 ?c9 ?a10 ?l10 ?c10 ?a11 ?l11 ?c11 ?a12 ?l12 ?c12 ?a13 ?l13 ?c13 ?a14 ?l14 ?c14 ?a15 ?l15 ?c15 ?a16 ?l16 ?c16 ?a17 ?l17 ?c17 ?a18 ?l18 ?c18 ?a19 ?l19 ?c19 ?a20 ?l20 ?c20 ?a21 ?l21 ?c21 ?a22 ?l22 ?c22 ?z_len ?z_range ?z_isinst ?z_int ?z_bool ?z_tuple ?z_list ?z_str ?z_zip ?z_most
    (case nW => exact L2.nsD (by k_is) (by decide))
    (case hI0 => k_is)
    (case cls => exact ⟨by kernel_rfl, by kernel_rfl, by kernel_rfl, by kernel_rfl⟩)
    (case mk => exact ⟨by kernel_rfl, by kernel_rfl, by kernel_rfl, by kernel_rfl⟩)
    (case na1 => unfold L2.NoAttr; kernel_rfl)
    (case na2 => unfold L2.NoAttr; kernel_rfl)
    (case na3 => unfold L2.NoAttr; kernel_rfl)
    (case na4 => unfold L2.NoAttr; kernel_rfl)
    (case na5 => unfold L2.NoAttr; kernel_rfl)
    (case lI => exact L2.lkD (by k_is) (by decide))
    (case cI => exact L2.cdD (by k_is) (by decide))
    (case aV => exact L2.nsD (by k_is) (by decide))
    (case lV => exact L2.lkD (by k_is) (by decide))
    (case cV => exact L2.cdD (by k_is) (by decide))
    (case lD => exact L2.lkD (by k_is) (by decide))
    (case aM => exact L2.nsD (by k_is) (by decide))
    (case lM => exact L2.lkD (by k_is) (by decide))
    (case cM => exact L2.cdD (by k_is) (by decide))
    (case lR => exact L2.lkD (by k_is) (by decide))
    (case a0 => exact L2.nsD (by k_is) (by decide))
    (case l0 => exact L2.lkD (by k_is) (by decide))
    (case c0 => exact L2.cdD (by k_is) (by decide))
    (case a1 => exact L2.nsD (by k_is) (by decide))
    (case l1 => exact L2.lkD (by k_is) (by decide))
    (case c1 => exact L2.cdD (by k_is) (by decide))
    (case a2 => exact L2.nsD (by k_is) (by decide))
    (case l2 => exact L2.lkD (by k_is) (by decide))
    (case c2 => exact L2.cdD (by k_is) (by decide))
    (case a3 => exact L2.nsD (by k_is) (by decide))
    (case l3 => exact L2.lkD (by k_is) (by decide))
    (case c3 => exact L2.cdD (by k_is) (by decide))
    (case a4 => exact L2.nsD (by k_is) (by decide))
    (case l4 => exact L2.lkD (by k_is) (by decide))
    (case c4 => exact L2.cdD (by k_is) (by decide))
    (case a5 => exact L2.nsD (by k_is) (by decide))
    (case l5 => exact L2.lkD (by k_is) (by decide))
    (case c5 => exact L2.cdD (by k_is) (by decide))
    (case a6 => exact L2.nsD (by k_is) (by decide))
    (case l6 => exact L2.lkD (by k_is) (by decide))
    (case c6 => exact L2.cdD (by k_is) (by decide))
    (case a7 => exact L2.nsD (by k_is) (by decide))
    (case l7 => exact L2.lkD (by k_is) (by decide))
    (case c7 => exact L2.cdD (by k_is) (by decide))
    (case a8 => exact L2.nsD (by k_is) (by decide))
    (case l8 => exact L2.lkD (by k_is) (by decide))
    (case c8 => exact L2.cdD (by k_is) (by decide))
    (case a9 => exact L2.nsD (by k_is) (by decide))
    (case l9 => exact L2.lkD (by k_is) (by decide))
    (case c9 => exact L2.cdD (by k_is) (by decide))
    (case a10 => exact L2.nsD (by k_is) (by decide))
    (case l10 => exact L2.lkD (by k_is) (by decide))
    (case c10 => exact L2.cdD (by k_is) (by decide))
    (case a11 => exact L2.nsD (by k_is) (by decide))
    (case l11 => exact L2.lkD (by k_is) (by decide))
    (case c11 => exact L2.cdD (by k_is) (by decide))
    (case a12 => exact L2.nsD (by k_is) (by decide))
    (case l12 => exact L2.lkD (by k_is) (by decide))
    (case c12 => exact L2.cdD (by k_is) (by decide))
    (case a13 => exact L2.nsD (by k_is) (by decide))
    (case l13 => exact L2.lkD (by k_is) (by decide))
    (case c13 => exact L2.cdD (by k_is) (by decide))
    (case a14 => exact L2.nsD (by k_is) (by decide))
    (case l14 => exact L2.lkD (by k_is) (by decide))
    (case c14 => exact L2.cdD (by k_is) (by decide))
    (case a15 => exact L2.nsD (by k_is) (by decide))
    (case l15 => exact L2.lkD (by k_is) (by decide))
    (case c15 => exact L2.cdD (by k_is) (by decide))
    (case a16 => exact L2.nsD (by k_is) (by decide))
    (case l16 => exact L2.lkD (by k_is) (by decide))
    (case c16 => exact L2.cdD (by k_is) (by decide))
    (case a17 => exact L2.nsD (by k_is) (by decide))
    (case l17 => exact L2.lkD (by k_is) (by decide))
    (case c17 => exact L2.cdD (by k_is) (by decide))
    (case a18 => exact L2.nsD (by k_is) (by decide))
    (case l18 => exact L2.lkD (by k_is) (by decide))
    (case c18 => exact L2.cdD (by k_is) (by decide))
    (case a19 => exact L2.nsD (by k_is) (by decide))
    (case l19 => exact L2.lkD (by k_is) (by decide))
    (case c19 => exact L2.cdD (by k_is) (by decide))
    (case a20 => exact L2.nsD (by k_is) (by decide))
    (case l20 => exact L2.lkD (by k_is) (by decide))
    (case c20 => exact L2.cdD (by k_is) (by decide))
    (case a21 => exact L2.nsD (by k_is) (by decide))
    (case l21 => exact L2.lkD (by k_is) (by decide))
    (case c21 => exact L2.cdD (by k_is) (by decide))
    (case a22 => exact L2.nsD (by k_is) (by decide))
    (case l22 => exact L2.lkD (by k_is) (by decide))
    (case c22 => exact L2.cdD (by k_is) (by decide))
    (case z_len => exact L2.nsD (by k_is) (by decide))
    (case z_range => exact L2.nsD (by k_is) (by decide))
    (case z_isinst => exact L2.nsD (by k_is) (by decide))
    (case z_int => exact L2.nsD (by k_is) (by decide))
    (case z_bool => exact L2.nsD (by k_is) (by decide))
    (case z_tuple => exact L2.nsD (by k_is) (by decide))
    (case z_list => exact L2.nsD (by k_is) (by decide))
    (case z_str => exact L2.nsD (by k_is) (by decide))
    (case z_zip => exact L2.nsD (by k_is) (by decide))
    (case z_most => exact L2.nsD (by k_is) (by decide))
#print axioms PySem.Challenge.cw_roomalgebra_k43_the_table_of_acts_holds
