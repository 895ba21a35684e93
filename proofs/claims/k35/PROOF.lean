import PyProof.Rows.All
import Wide.All
import OpenK.AllK
import Wide.FinOn
import Lean
import PyProof.EqAt
import PyProof.EqKinds
import PyProof.TupleCall
import PyProof.Draws
import PyProof.ZipIter
import PySem.Challenge.RW_roomalgebra_k35_where_a_text_fails
set_option Elab.async false
set_option linter.all false
set_option maxRecDepth 100000
namespace L2
open PySem PySem.Spec PyProof.Rows
abbrev Key := Sum Int Str
def keyIs : Key → Value → Bool
  | .inl k, v => Value.isInt k v
  | .inr x, v => Value.isStrOf x v
def keyH (w : World) : Key → Int
  | .inl k => hashInt k
  | .inr x => hashStr w x
theorem keyIs_shape : ∀ {k : Key} {v : Value}, keyIs k v = true → (∃ i t, k = Sum.inl i ∧ v = Value.int i t) ∨ (∃ x t, k = Sum.inr x ∧ v = Value.str x t)
  | .inl i, v, h => by
    obtain ⟨t, e⟩ := Value.isInt_shape (k := i) (v := v) h
    exact .inl ⟨i, t, rfl, e⟩
  | .inr x, v, h => by
    obtain ⟨t, e⟩ := Value.isStrOf_shape (x := x) (v := v) h
    exact .inr ⟨x, t, rfl, e⟩
theorem keyIs_int (i : Int) (t : Tok) : keyIs (.inl i) (.int i t) = true := by simp [keyIs, Value.isInt]
theorem keyIs_str (x : Str) (t : Tok) : keyIs (.inr x) (.str x t) = true := by simp [keyIs, Value.isStrOf]
theorem key_ll (a b : Int) : decide ((Sum.inl a : Key) = Sum.inl b) = (a == b) := by
  by_cases e : a = b
  · subst e; simp
  · have h : ¬ (Sum.inl a : Key) = Sum.inl b := fun q => e (Sum.inl.inj q)
    rw [decide_eq_false h]
    exact (beq_eq_false_iff_ne.mpr e).symm
theorem key_rr (a b : Str) : decide ((Sum.inr a : Key) = Sum.inr b) = decide (a = b) := by
  by_cases e : a = b
  · subst e; simp
  · have h : ¬ (Sum.inr a : Key) = Sum.inr b := fun q => e (Sum.inr.inj q)
    rw [decide_eq_false h, decide_eq_false e]
theorem key_lr (a : Int) (b : Str) : decide ((Sum.inl a : Key) = Sum.inr b) = false := decide_eq_false (fun q => nomatch q)
theorem key_rl (a : Str) (b : Int) : decide ((Sum.inr a : Key) = Sum.inl b) = false := decide_eq_false (fun q => nomatch q)
def mixKind (prog : Program) (w : World) : PySem.KeyKind prog w Key where
  is := keyIs
  hash := keyH w
  inj := fun v a b ha hb => by
    rcases keyIs_shape ha with ⟨i, t, rfl, rfl⟩ | ⟨x, t, rfl, rfl⟩
    · rcases keyIs_shape hb with ⟨j, u, rfl, e⟩ | ⟨y, u, rfl, e⟩
      · injection e with e1 _; rw [e1]
      · exact nomatch e
    · rcases keyIs_shape hb with ⟨j, u, rfl, e⟩ | ⟨y, u, rfl, e⟩
      · exact nomatch e
      · injection e with e1 _; rw [e1]
  byValue := fun k v h => by
    rcases keyIs_shape h with ⟨i, t, rfl, rfl⟩ | ⟨x, t, rfl, rfl⟩ <;> rfl
  pyHash := fun hv h => by
    rcases keyIs_shape hv with ⟨i, t, rfl, rfl⟩ | ⟨x, t, rfl, rfl⟩
    · exact wpAny_pyHash_int h
    · exact wpAny_pyHash_str h
  eqBool := fun hu hv h => by
    rcases keyIs_shape hu with ⟨i, t, rfl, rfl⟩ | ⟨x, t, rfl, rfl⟩
    · rcases keyIs_shape hv with ⟨j, u, rfl, rfl⟩ | ⟨y, u, rfl, rfl⟩
      · rw [key_ll] at h; exact wpAny_eqBool_int h
      · rw [key_lr] at h; exact SeqAt.EqAt.int_str i t y u _ _ _ _ h
    · rcases keyIs_shape hv with ⟨j, u, rfl, rfl⟩ | ⟨y, u, rfl, rfl⟩
      · rw [key_rl] at h; exact SeqAt.EqAt.str_int x t j u _ _ _ _ h
      · rw [key_rr] at h; exact wpAny_eqBool_str h
  «strs» := fun k x t v h => by
    rcases keyIs_shape h with ⟨i, u, rfl, e⟩ | ⟨y, u, rfl, e⟩
    · exact nomatch e
    · injection e with e1 _
      subst e1
      cases v <;> rfl
theorem mixKind_int (prog : Program) (w : World) (i : Int) (t : Tok) : (mixKind prog w).is (.inl i) (.int i t) = true := keyIs_int i t
theorem mixKind_str (prog : Program) (w : World) (x : Str) (t : Tok) : (mixKind prog w).is (.inr x) (.str x t) = true := keyIs_str x t
end L2
namespace L2
open PySem PySem.Spec PyProof.Rows
inductive V where
  | non | bl (b : Bool) | int (i : Int) | str (x : Str) | byt (b : Array UInt8) | flt (b : UInt64) | ref (a : Addr) | ty (n : String)
  deriving DecidableEq
def RelV : V → Value → Prop
  | .non, u => u = Value.none
  | .bl b, u => u = Value.bool b
  | .int i, u => ∃ t, u = Value.int i t
  | .str x, u => ∃ t, u = Value.str x t
  | .byt b, u => ∃ t, u = Value.bytes b t
  | .flt b, u => ∃ t, u = Value.float b t
  | .ref a, u => u = Value.ref a
  | .ty n, u => u = Value.type n
abbrev Vals : List V → List Value → Prop := Paired RelV
theorem Vals.length {xs : List V} {us : List Value} (r : Vals xs us) : xs.length = us.length := Paired.length r
theorem Vals.get : ∀ {xs : List V} {us : List Value} {i : Nat} {x : V}, Vals xs us → xs[i]? = some x → ∃ u, us[i]? = some u ∧ RelV x u
  | _, _, _, _, .nil, e => by simp at e
  | _, _, 0, _, .cons r _, e => by simp at e; subst e; exact ⟨_, rfl, r⟩
  | _, _, i + 1, x, .cons _ t, e => by
    obtain ⟨u, h1, h2⟩ := Vals.get (i := i) (x := x) t (by simpa using e)
    exact ⟨u, by simpa using h1, h2⟩
theorem Vals.append : ∀ {xs ys : List V} {us ws : List Value}, Vals xs us → Vals ys ws → Vals (xs ++ ys) (us ++ ws)
  | _, _, _, _, .nil, s => s
  | _, _, _, _, .cons r t, s => .cons r (Vals.append t s)
theorem Vals.take : ∀ {xs : List V} {us : List Value} (n : Nat), Vals xs us → Vals (xs.take n) (us.take n)
  | _, _, 0, _ => .nil
  | _, _, _ + 1, .nil => .nil
  | _, _, n + 1, .cons r t => .cons r (Vals.take n t)
theorem Vals.drop : ∀ {xs : List V} {us : List Value} (n : Nat), Vals xs us → Vals (xs.drop n) (us.drop n)
  | _, _, 0, r => r
  | _, _, _ + 1, .nil => .nil
  | _, _, n + 1, .cons _ t => Vals.drop n t
def RelO : Option V → Option Value → Prop
  | some v, some u => RelV v u
  | none, none => True
  | _, _ => False
def KV {κ : Type} : List (κ × V) → List (κ × Value) → Prop := Paired fun (p : κ × V) (q : κ × Value) => p.1 = q.1 ∧ RelV p.2 q.2
def kV : Key → V
  | .inl i => .int i
  | .inr x => .str x
inductive HO where
    | lst (xs : List V)
    | tup (xs : List V)
    | dK (kvs : List (Key × V)) | dT (kvs : List (List Key × V))
    | set (S : Int → Bool) (n : Nat)
    | ins (C dx : Addr) (fs : List (Str × V))
    | own (x : Addr)
    | xd (fs : List (Str × V))
    | met (f x : Addr)
    | rng (lo hi : Int)
    | frz (o : Obj) (u : HO)
    | tbl (ps : Array Value)
    | ext (φ : Heap → Prop)
abbrev Hp := Addr → Option HO
def upd (H : Hp) (a : Addr) (o : HO) : Hp := fun b => if b = a then some o else H b
theorem upd_same {H : Hp} {a : Addr} {o : HO} : upd H a o a = some o := by unfold upd; rw [if_pos rfl]
theorem upd_ne {H : Hp} {a b : Addr} {o : HO} (h : b ≠ a) : upd H a o b = H b := by unfold upd; rw [if_neg h]
theorem upd_upd {H : Hp} {a : Addr} {o u : HO} : upd (upd H a o) a u = upd H a u := by
  funext b; unfold upd; split <;> rfl
theorem ne_of {H : Hp} {a b : Addr} {o u : HO} (h : H a = some o) (h' : H b = some u) (d : o ≠ u) : a ≠ b := by
  intro e; subst e; rw [h] at h'; exact d (Option.some.inj h')
theorem ne_of_none {H : Hp} {a b : Addr} {o : HO} (h : H a = some o) (h' : H b = none) : a ≠ b := by
  intro e; subst e; rw [h] at h'; cases h'
section
variable (P : Program) (w : World)
def ObjOk (H : Hp) (h : Heap) (a : Addr) : HO → Prop
  | .lst xs => xs.length ≤ sizeLine ∧ ∃ (its : List Value) (n : Nat), Vals xs its ∧ h.get? a = some { cls := .type "list", data := .seq its.toArray n }
  | .tup xs => xs.length ≤ sizeLine ∧ ∃ its : List Value, Vals xs its ∧ IsTup h a its.toArray
  | .dK kvs => kvs.length ≤ sizeLine ∧ (a == sysModules) = false ∧ ∃ vs, KV kvs vs ∧ h.DictOf (mixKind P w) a vs
  | .dT kvs => kvs.length ≤ sizeLine ∧ (a == sysModules) = false ∧ ∃ xs : List (List Key × Addr × Value),
      Paired (fun (p : List Key × V) (q : List Key × Addr × Value) => p.1 = q.1 ∧ H q.2.1 = some (.tup (p.1.map kV)) ∧ RelV p.2 q.2.2) kvs xs ∧
      ∃ o es ep, h.get? a = some o ∧ o.ExactDict ∧ o.data = .dict es ep ∧ es.toList = xs.map (entryOfKey (tupleKind (mixKind P w))) ∧ (xs.map (·.1)).Nodup
  | .set S n => h.SetOf (intKind P w) a S n
  | .ins C dx fs => H dx = some (.own a) ∧ fs.length ≤ 1000 ∧ dx ≠ a ∧ h.get? a = some (PySem.W.instObj C dx) ∧
      ∃ mA, h.Ns1 dx mA ∧ (∀ f, RelO (fs.lookup f) (mA f)) ∧ PySem.Within mA (fs.map (·.1))
  | .own _ => ∃ o, h.get? a = some o
  | .xd fs => ∃ mA, h.Ns1 a mA ∧ ∀ f, RelO (fs.lookup f) (mA f)
  | .rng lo hi => ∃ t u v, h.get? a = some { cls := .type "range", data := .fields #[.int lo t, .int hi u, .int 1 v] }
  | .frz o u => h.get? a = some o ∧ ObjOk H h a u
  | .tbl ps => h.get? a = some { cls := .none, data := .fields ps }
  | .met f x => h.get? a = some (PySem.W.methodObj (.ref f) (.ref x))
  | .ext φ => φ h ∧ (∃ o, h.get? a = some o) ∧ ∀ h1 h2 : Heap, φ h1 → (∀ o, h1.get? a = some o → h2.get? a = some o) → φ h2
def HOk (H : Hp) (h : Heap) : Prop := ∀ a o, H a = some o → ObjOk P w H h a o
end
section
variable {P : Program} {w : World} {H H' : Hp} {h h' : Heap} {a : Addr} {o : HO}
theorem ObjOk.lt (x : ObjOk P w H h a o) : a < h.objs.size := by
  cases o with
  | lst xs => obtain ⟨_, _, _, _, e⟩ := x; exact Heap.lt_size e
  | tup xs => obtain ⟨_, _, _, p⟩ := x; exact p.lt
  | dK kvs => obtain ⟨_, _, _, _, o, _, _, e, _⟩ := x; exact Heap.lt_size e
  | dT kvs => obtain ⟨_, _, _, _, o, _, _, e, _⟩ := x; exact Heap.lt_size e
  | set S n => obtain ⟨o, _, _, _, e, _⟩ := x; exact Heap.lt_size e
  | ins C dx fs => obtain ⟨_, _, _, e, _⟩ := x; exact Heap.lt_size e
  | own y => obtain ⟨_, e⟩ := x; exact Heap.lt_size e
  | xd fs => obtain ⟨_, ⟨_, _, _, e, _⟩, _⟩ := x; exact Heap.lt_size e
  | rng lo hi => obtain ⟨_, _, _, e⟩ := x; exact Heap.lt_size e
  | frz ob u => obtain ⟨e, _⟩ := x; exact Heap.lt_size e
  | tbl ps => exact Heap.lt_size (show h.get? a = some _ from x)
  | met f y => exact Heap.lt_size (show h.get? a = some _ from x)
  | ext φ => obtain ⟨_, ⟨_, e⟩, _⟩ := x; exact Heap.lt_size e
theorem Paired.mapP {α β : Type} {F G : α → β → Prop} : ∀ {l₁ : List α} {l₂ : List β}, Paired F l₁ l₂ → (∀ a b, F a b → G a b) → Paired G l₁ l₂
  | _, _, .nil, _ => .nil
  | _, _, .cons r t, f => .cons (f _ _ r) (Paired.mapP t f)
theorem ObjOk.stay (x : ObjOk P w H h a o) (k : ∀ b u, (b = a ∨ H b = some (.own a)) → h.get? b = some u → h'.get? b = some u)
    (ho : ∀ b, H b = some (.own a) → H' b = some (.own a)) (ht : ∀ b xs, H b = some (.tup xs) → H' b = some (.tup xs)) : ObjOk P w H' h' a o := by
  induction o with
  | lst xs => obtain ⟨z, its, n, r, e⟩ := x; exact ⟨z, its, n, r, k _ _ (.inl rfl) e⟩
  | tup xs => obtain ⟨z, its, r, ob, e, c⟩ := x; exact ⟨z, its, r, ob, k _ _ (.inl rfl) e, c⟩
  | dK kvs => obtain ⟨z, y, vs, r, ob, es, ep, e, c⟩ := x; exact ⟨z, y, vs, r, ob, es, ep, k _ _ (.inl rfl) e, c⟩
  | dT kvs =>
    obtain ⟨z, y, xs, r, ob, es, ep, e, c⟩ := x
    exact ⟨z, y, xs, Paired.mapP r fun p q z => ⟨z.1, ht _ _ z.2.1, z.2.2⟩, ob, es, ep, k _ _ (.inl rfl) e, c⟩
  | set S n => obtain ⟨ob, es, ep, t, e, c⟩ := x; exact ⟨ob, es, ep, t, k _ _ (.inl rfl) e, c⟩
  | ins C dx fs =>
    obtain ⟨d, z, ne, e, mA, ⟨od, es, ep, e2, c⟩, r⟩ := x
    exact ⟨ho _ d, z, ne, k _ _ (.inl rfl) e, mA, ⟨od, es, ep, k _ _ (.inr d) e2, c⟩, r⟩
  | own y => obtain ⟨ob, e⟩ := x; exact ⟨ob, k _ _ (.inl rfl) e⟩
  | xd fs => obtain ⟨mA, ⟨od, es, ep, e, c⟩, r⟩ := x; exact ⟨mA, ⟨od, es, ep, k _ _ (.inl rfl) e, c⟩, r⟩
  | rng lo hi => obtain ⟨t, u, v, e⟩ := x; exact ⟨t, u, v, k _ _ (.inl rfl) e⟩
  | frz ob u ih => obtain ⟨e, q⟩ := x; exact ⟨k _ _ (.inl rfl) e, ih q⟩
  | tbl ps =>
    have e : h.get? a = some { cls := .none, data := .fields ps } := x
    show h'.get? a = some { cls := .none, data := .fields ps }
    exact k a _ (.inl rfl) e
  | met f y =>
    have e : h.get? a = some (PySem.W.methodObj (.ref f) (.ref y)) := x
    show h'.get? a = some (PySem.W.methodObj (.ref f) (.ref y))
    exact k a _ (.inl rfl) e
  | ext φ => obtain ⟨p, ⟨o, e⟩, st⟩ := x; exact ⟨st _ _ p fun o q => k _ _ (.inl rfl) q, ⟨o, k _ _ (.inl rfl) e⟩, st⟩
theorem HOk.lt (x : HOk P w H h) (e : H a = some o) : a < h.objs.size := (x a o e).lt
theorem HOk.fresh (x : HOk P w H h) (e : h.objs.size ≤ a) : H a = none := by
  cases q : H a with
  | none => rfl
  | some u => exact absurd (Nat.lt_of_lt_of_le (x.lt q) e) (Nat.lt_irrefl _)
theorem HOk.kept (x : HOk P w H h) (k : ∀ b u, h.get? b = some u → h'.get? b = some u) : HOk P w H h' := fun a o e =>
  (x a o e).stay (fun b u _ q => k b u q) (fun _ q => q) fun _ _ q => q
theorem HOk.laid (x : HOk P w H h) (k : ∀ b u, h.get? b = some u → h'.get? b = some u) (hp : h.objs.size ≤ a) (new : ObjOk P w (upd H a o) h' a o) : HOk P w (upd H a o) h' := fun b u e => by
  have hn := x.fresh hp
  by_cases hb : b = a
  · subst hb; rw [upd_same] at e; cases e; exact new
  · rw [upd_ne hb] at e
    exact (x b u e).stay (fun c v _ q => k c v q) (fun c q => by rw [upd_ne (ne_of_none q hn)]; exact q) fun c xs q => by rw [upd_ne (ne_of_none q hn)]; exact q
end
def Rd (H : Hp) (a : Addr) (u : HO) : Prop := H a = some u ∨ ∃ o, H a = some (.frz o u)
theorem Rd.ok {P : Program} {w : World} {H : Hp} {h : Heap} {a : Addr} {u : HO} (r : Rd H a u) (x : HOk P w H h) : ObjOk P w H h a u := by
  rcases r with r | ⟨o, r⟩
  · exact x a u r
  · obtain ⟨_, q⟩ := x a _ r
    exact q
def Mut : Option HO → Prop
  | some (.lst _) => True
  | some (.dK _) => True
  | some (.dT _) => True
  | some (.set _ _) => True
  | some (.ins _ _ _) => True
  | some (.ext _) => True
  | _ => False
section
variable {P : Program} {w : World} {H : Hp} {h h' : Heap} {x e : Addr} {o' : HO}
theorem HOk.write (ok : HOk P w H h) (mu : Mut (H x)) (he : e = x ∨ H e = some (.own x)) (k : ∀ b u, b ≠ e → h.get? b = some u → h'.get? b = some u) (heo : ∃ u, h'.get? e = some u)
    (new : ObjOk P w (upd H x o') h' x o') : HOk P w (upd H x o') h' := fun b u q => by
  have nown : ∀ c y, H c = some (.own y) → c ≠ x := fun c y r z => by subst z; rw [r] at mu; exact mu
  have ntup : ∀ c xs, H c = some (.tup xs) → c ≠ x := fun c xs r z => by subst z; rw [r] at mu; exact mu
  by_cases hb : b = x
  · subst hb; rw [upd_same] at q; cases q; exact new
  · rw [upd_ne hb] at q
    by_cases hbe : b = e
    · have q' : H b = some (.own x) := by
        rcases he with z | z
        · exact absurd (hbe.trans z) hb
        · rw [hbe]; exact z
      rw [q] at q'; cases q'
      obtain ⟨v, hv⟩ := heo
      exact ⟨v, by rw [hbe]; exact hv⟩
    · refine (ok b u q).stay (fun c v hc r => k c v ?_ r) (fun c r => by rw [upd_ne (nown c b r)]; exact r) fun c xs r => by rw [upd_ne (ntup c xs r)]; exact r
      rcases hc with rfl | hc
      · exact hbe
      · rintro rfl
        rcases he with z | z
        · exact nown c b hc z
        · rw [hc] at z; cases z; exact hb rfl
end
structure Un (fs ex : List Addr) (H H' : Hp) (h h' : Heap) : Prop where
  keep : ∀ b o, h.get? b = some o → H b = none → b ∉ fs → b ∉ ex → h'.get? b = some o
  slot : ∀ b o, h.get? b = some o → H b = none → b ∈ fs → b ∉ ex → ∃ sl, h'.get? b = some { o with slots := sl }
  free : ∀ b o, h.get? b = some o → H b = none → b ∉ ex → H' b = none
  there : ∀ b o, h.get? b = some o → b ∉ ex → ∃ o', h'.get? b = some o'
  tups : ∀ b xs, H b = some (.tup xs) → H' b = some (.tup xs)
  frzs : ∀ b o u, H b = some (.frz o u) → H' b = some (.frz o u)
  tbls : ∀ b ps, H b = some (.tbl ps) → ∃ more, H' b = some (.tbl (ps ++ more))
section
variable {fs fs' ex ex' : List Addr} {H H1 H2 : Hp} {h h1 h2 h' : Heap} {a x e : Addr} {o : HO}
theorem Un.any (u : Un fs ex H H1 h h1) {b : Addr} {ob : Obj} (q : h.get? b = some ob) (n : H b = none) (hx : b ∉ ex) : ∃ sl, h1.get? b = some { ob with slots := sl } := by
  by_cases hb : b ∈ fs
  · exact u.slot b ob q n hb hx
  · exact ⟨ob.slots, u.keep b ob q n hb hx⟩
theorem Un.kept (k : ∀ b u, h.get? b = some u → h'.get? b = some u) : Un fs ex H H h h' :=
  ⟨fun b ob q _ _ _ => k b ob q, fun b ob q _ _ _ => ⟨ob.slots, k b ob q⟩, fun _ _ _ n _ => n, fun b ob q _ => ⟨ob, k b ob q⟩, fun _ _ q => q, fun _ _ _ q => q, fun _ ps q => ⟨#[], by rw [q]; simp⟩⟩
theorem Un.refl : Un fs ex H H h h := Un.kept fun _ _ q => q
theorem Un.laid (k : ∀ b u, h.get? b = some u → h'.get? b = some u) (hp : h.objs.size ≤ a) (hn : H a = none) : Un fs ex H (upd H a o) h h' where
  keep := fun b u q _ _ _ => k b u q
  slot := fun b u q _ _ _ => ⟨u.slots, k b u q⟩
  free := fun b u q n _ => by rw [upd_ne (Nat.ne_of_lt (Nat.lt_of_lt_of_le (Heap.lt_size q) hp))]; exact n
  there := fun b u q _ => ⟨u, k b u q⟩
  tups := fun b xs q => by rw [upd_ne (ne_of_none q hn)]; exact q
  frzs := fun b u xs q => by rw [upd_ne (ne_of_none q hn)]; exact q
  tbls := fun b ps q => ⟨#[], by rw [upd_ne (ne_of_none q hn), q]; simp⟩
theorem Un.write (mu : Mut (H x)) (he : e = x ∨ H e = some (.own x)) (k : ∀ b u, b ≠ e → h.get? b = some u → h'.get? b = some u) (heo : ∃ u, h'.get? e = some u) : Un fs ex H (upd H x o) h h' := by
  have hx : ∀ b, H b = none → b ≠ x := fun b n z => by subst z; rw [n] at mu; exact mu
  have hb : ∀ b, H b = none → b ≠ e := fun b n z => by
    subst z
    rcases he with r | r
    · exact hx b n r
    · rw [n] at r; cases r
  have hm : ∀ b u, H b = some u → ¬ Mut (some u) → b ≠ x := fun b u q nm z => by subst z; rw [q] at mu; exact nm mu
  refine ⟨fun b u q n _ _ => k b u (hb b n) q, fun b u q n _ _ => ⟨u.slots, k b u (hb b n) q⟩, fun b u q n _ => by rw [upd_ne (hx b n)]; exact n, fun b u q _ => ?_,
    fun b xs q => by rw [upd_ne (hm b _ q fun z => z)]; exact q, fun b u xs q => by rw [upd_ne (hm b _ q fun z => z)]; exact q, fun b ps q => ⟨#[], by rw [upd_ne (hm b _ q fun z => z), q]; simp⟩⟩
  by_cases hbe : b = e
  · subst hbe; exact heo
  · exact ⟨u, k b u hbe q⟩
end
def trk (h : Heap) (H : Hp) : List Addr := (List.range h.objs.size).filter fun a => (H a).isSome
def hidT (h : Heap) (H : Hp) : Heap := PySem.W.hideAll h (trk h H)
theorem hidT_size (h : Heap) (H : Hp) : (hidT h H).objs.size = h.objs.size := PySem.W.hideAll_size _ _
theorem hidT_get {h : Heap} {H : Hp} {b : Addr} {o : Obj} (e : h.get? b = some o) (n : H b = none) : (hidT h H).get? b = some o :=
  PySem.W.hideAll_get _ e fun hm => by
    have q : (H b).isSome = true := (List.mem_filter.mp hm).2
    rw [n] at q; simp at q
theorem of_hidT {h : Heap} {H : Hp} {b : Addr} {o : Obj} (e : (hidT h H).get? b = some o) : h.get? b = some o ∧ H b = none := by
  have e' : h.get? b = some o := PySem.W.of_hideAll (trk h H) e
  refine ⟨e', ?_⟩
  cases q : H b with
  | none => rfl
  | some x =>
    have hm : b ∈ trk h H := List.mem_filter.mpr ⟨List.mem_range.mpr (Heap.lt_size e'), by simp [q]⟩
    have z : (hidT h H).get? b = none := PySem.W.hideAll_none (trk h H) hm
    rw [z] at e; cases e
end L2
namespace L2
open PySem PySem.Spec PyProof.Rows
structure Mod (K : PySem.W.Frag) (mg : Str → Option Value) (base : Heap) : Prop where
  kin : K.In base
  glob : base.Ns mainGlobals mg
  blt : ∃ mb, base.Ns builtinsNs mb ∧ ∀ x : Str, x ≠ "__name__" → mb x = bootBuiltins x
  nolimit : base.NoLimit
structure Cx where
  prog : Program
  w : World
  K : PySem.W.Frag
  mg : Str → Option Value
  base : Heap
  A : Around
  N : List Str
  s₀ : Shared
  H₀ : Hp
  env : Env
  outer : List Env
  stack : List Env
  ex : List Addr
  fn : Str → Bool
  calm : Bool
  pn : List (Addr × Obj)
  xe : Value → Shared → Prop
def frs (l : List Env) : List Addr := l.filterMap (·.frame)
abbrev Cx.fs (X : Cx) : List Addr := frs X.outer
def Vis (sc : Scope) (x : Str) : Prop := sc.names.lookup x = some .local ∨ sc.names.lookup x = some .cell ∨ sc.names.lookup x = some .free
def Loc (sc : Scope) (x : Str) : Prop := sc.names.lookup x = some .local ∨ sc.names.lookup x = some .cell
def Look (env : Env) (h : Heap) (m : Str → Option Value) (x : Str) (u : Value) : Prop :=
  (env.kindOf x = some .local ∧ m x = some u) ∨ ((env.kindOf x = some .cell ∨ env.kindOf x = some .free) ∧ ∃ c, env.cells.lookup x = some c ∧ h.IsCell c (some u))
structure Cx.Ok (X : Cx) : Prop where
  mod : Mod X.K X.mg X.base
  kind : X.env.scope.kind = .function
  glob : X.env.globals = mainGlobals
  blt : X.env.builtins = builtinsNs
  above : X.s₀.heap.objs.size ≤ X.env.locals
  inj : ∀ x y c, X.env.cells.lookup x = some c → X.env.cells.lookup y = some c → x = y
  has : ∀ x, (X.env.kindOf x = some .cell ∨ X.env.kindOf x = some .free) → ∃ c, X.env.cells.lookup x = some c
  cab : ∀ x c, X.fn x = true → X.env.cells.lookup x = some c → X.s₀.heap.objs.size ≤ c
  hd : X.calm = true → X.A.handled = none
  frames : X.A.frames = some X.stack
  stk : X.stack = X.outer ∨ (X.stack = X.env :: X.outer ∧ X.env.frame = some X.env.locals)
  exf : ∀ b ∈ X.ex, b ≠ X.env.locals ∧ ∀ x c, X.env.cells.lookup x = some c → c ≠ b
  bs : ∀ b o, X.base.get? b = some o → X.s₀.heap.get? b = some o ∧ X.H₀ b = none
  bsz : X.base.objs.size ≤ X.s₀.heap.objs.size
  noex : ∀ b o, X.base.get? b = some o → b ∉ X.ex
  exfs : ∀ b ∈ X.ex, b ∉ X.fs
  funs : X.s₀.heap.FunFrames X.base X.outer
  frf : ∀ b ∈ X.fs, X.H₀ b = none
structure Inv (X : Cx) (pins : List (Addr × Obj)) (σ : List (Option V)) (H : Hp) (s : Shared) : Prop where
  ok : X.Ok
  os : s.os = X.s₀.os
  bare : AllBare s.gens
  base : Un X.fs X.ex X.H₀ H X.s₀.heap s.heap
  loc : ∃ m, s.heap.Ns X.env.locals m ∧ ∀ (i : Nat) (x : Str) (v : V), X.N[i]? = some x → σ[i]? = some (some v) → Vis X.env.scope x → ∃ u, RelV v u ∧ Look X.env s.heap m x u
  cell : ∀ x c, X.env.cells.lookup x = some c → ∃ v, s.heap.IsCell c v
  free : H X.env.locals = none
  freeC : ∀ x c, X.env.cells.lookup x = some c → H c = none
  pin : ∀ p ∈ X.pn ++ pins, s.heap.get? p.1 = some p.2 ∧ H p.1 = none ∧ p.1 ≠ X.env.locals ∧ p.1 ∉ X.fs ∧ ∀ v, p.2.data ≠ .cell v
  hok : HOk X.prog X.w H s.heap
  len : σ.length = X.N.length
section
variable {X : Cx} {pins : List (Addr × Obj)} {σ : List (Option V)} {H H' : Hp} {s : Shared} {h' : Heap}
theorem Cx.Ok.nofr (ok : X.Ok) {b : Addr} {o : Obj} (e : X.base.get? b = some o) : b ∉ X.fs := fun hb => by
  have := (ok.funs.mem hb).1
  rw [e] at this; cases this
theorem Inv.bs (I : Inv X pins σ H s) : ∀ b o, X.base.get? b = some o → s.heap.get? b = some o ∧ H b = none := fun b o e =>
  ⟨I.base.keep b o (I.ok.bs b o e).1 (I.ok.bs b o e).2 (I.ok.nofr e) (I.ok.noex b o e), I.base.free b o (I.ok.bs b o e).1 (I.ok.bs b o e).2 (I.ok.noex b o e)⟩
theorem Inv.bk (I : Inv X pins σ H s) : ∀ b o, X.base.get? b = some o → s.heap.get? b = some o := fun b o e => (I.bs b o e).1
theorem Inv.mod (I : Inv X pins σ H s) : Mod X.K X.mg X.base := I.ok.mod
theorem Inv.kIn (I : Inv X pins σ H s) : X.K.In s.heap := I.ok.mod.kin.keeps I.bk
theorem Inv.lt (I : Inv X pins σ H s) : X.env.locals < s.heap.objs.size := let ⟨_, hn, _⟩ := I.loc; hn.lt
theorem Inv.sz (I : Inv X pins σ H s) : X.s₀.heap.objs.size ≤ s.heap.objs.size := Nat.le_trans I.ok.above (Nat.le_of_lt I.lt)
theorem Inv.nofs (I : Inv X pins σ H s) {a : Addr} (h : s.heap.objs.size ≤ a) : a ∉ X.fs := fun hb => by
  obtain ⟨_, o, ho, _⟩ := I.ok.funs.mem hb
  exact absurd (Nat.lt_of_lt_of_le (Heap.lt_size ho) (Nat.le_trans I.sz h)) (Nat.lt_irrefl _)
theorem Inv.cne (I : Inv X pins σ H s) : ∀ x c, X.env.cells.lookup x = some c → c ≠ X.env.locals := fun x c e z => by
  obtain ⟨v, o, ho, hd⟩ := I.cell x c e
  obtain ⟨m, ⟨o', es, ep, ho', hd', _⟩, _⟩ := I.loc
  rw [z, ho'] at ho; cases ho; rw [hd'] at hd; cases hd
theorem Inv.funs (I : Inv X pins σ H s) : s.heap.FunFrames X.base X.outer := by
  have all : ∀ (l : List Env), (∀ b ∈ frs l, b ∈ X.fs) → X.s₀.heap.FunFrames X.base l → s.heap.FunFrames X.base l := by
    intro l
    induction l with
    | nil => intro _ _; trivial
    | cons env r ih =>
      intro hs hl
      obtain ⟨hk, ⟨L, o, hf, hn, ho, hd⟩, hr⟩ := hl
      have hL : L ∈ X.fs := hs L (by unfold frs; rw [List.filterMap_cons, hf]; exact List.mem_cons_self)
      obtain ⟨sl, e⟩ := I.base.slot L o ho (I.ok.frf L hL) hL fun z => I.ok.exfs L z hL
      exact ⟨hk, ⟨L, _, hf, hn, e, hd⟩, ih (fun b hb => hs b (by unfold frs; rw [List.filterMap_cons, hf]; exact List.mem_cons_of_mem _ hb)) hr⟩
  exact all X.outer (fun _ hb => hb) I.ok.funs
theorem Inv.stack (I : Inv X pins σ H s) : s.heap.FunFrames X.base X.stack := by
  rcases I.ok.stk with e | ⟨e, hf⟩
  · rw [e]; exact I.funs
  · rw [e]
    obtain ⟨m, hn, _⟩ := I.loc
    refine .cons (by rw [I.ok.kind]; decide) hf hn ?_ I.funs
    exact Heap.get?_none_of_le (Nat.le_trans I.ok.bsz I.ok.above)
theorem Inv.stkSub (I : Inv X pins σ H s) : ∀ b ∈ frs X.stack, b ∈ X.env.locals :: X.fs := fun b hb => by
  rcases I.ok.stk with e | ⟨e, hf⟩
  · rw [e] at hb; exact List.mem_cons_of_mem _ hb
  · rw [e] at hb
    unfold frs at hb
    rw [List.filterMap_cons, hf] at hb
    exact hb
theorem Inv.stkFree (I : Inv X pins σ H s) : ∀ b ∈ frs X.stack, H b = none := fun b hb => by
  rcases List.mem_cons.mp (I.stkSub b hb) with e | hb
  · rw [e]; exact I.free
  · obtain ⟨_, o, ho, _⟩ := I.ok.funs.mem hb
    exact I.base.free b o ho (I.ok.frf b hb) fun z => I.ok.exfs b z hb
theorem Inv.step {g' : Array GenState} {t' : Nat} {d' : Drawn} {ch : List Addr} (I : Inv X pins σ H s)
    (hch : ∀ b ∈ ch, (b ∈ X.ex ∨ X.s₀.heap.objs.size ≤ b) ∧ b ≠ X.env.locals ∧ (∀ x c, X.env.cells.lookup x = some c → c ≠ b) ∧ ∀ p ∈ X.pn ++ pins, p.1 ≠ b)
    (keep : ∀ b o, b ≠ X.env.locals → b ∉ X.fs → b ∉ ch → s.heap.get? b = some o → H b = none → h'.get? b = some o)
    (slot : ∀ b o, b ≠ X.env.locals → b ∈ X.fs → b ∉ ch → s.heap.get? b = some o → H b = none → ∃ sl, h'.get? b = some { o with slots := sl }) (free : ∀ b o, b ∉ ch → s.heap.get? b = some o → H b = none → H' b = none)
    (there : ∀ b o, b ∉ ch → s.heap.get? b = some o → ∃ o', h'.get? b = some o')
    (tups : ∀ b xs, H b = some (.tup xs) → H' b = some (.tup xs)) (frzs : ∀ b o u, H b = some (.frz o u) → H' b = some (.frz o u)) (tbls : ∀ b ps, H b = some (.tbl ps) → ∃ more, H' b = some (.tbl (ps ++ more)))
    (ns : ∀ m, s.heap.Ns X.env.locals m → h'.Ns X.env.locals m) (hok : HOk X.prog X.w H' h') (hg : AllBare g') :
    Inv X pins σ H' { s with heap := h', gens := g', drawn := d', toks := t' } := by
  have neL : ∀ b o, X.s₀.heap.get? b = some o → b ≠ X.env.locals := fun b o e => Nat.ne_of_lt (Nat.lt_of_lt_of_le (Heap.lt_size e) I.ok.above)
  have neC : ∀ b o, X.s₀.heap.get? b = some o → b ∉ X.ex → b ∉ ch := fun b o e hx hb => by
    rcases (hch b hb).1 with z | z
    · exact hx z
    · exact absurd (Nat.lt_of_lt_of_le (Heap.lt_size e) z) (Nat.lt_irrefl _)
  have cellK : ∀ x c, X.env.cells.lookup x = some c → ∀ v, s.heap.IsCell c v → h'.IsCell c v := fun x c e v ⟨o, ho, hd⟩ => by
    have nch : c ∉ ch := fun z => (hch c z).2.2.1 x c e rfl
    by_cases hc : c ∈ X.fs
    · obtain ⟨sl, q⟩ := slot c o (I.cne x c e) hc nch ho (I.freeC x c e)
      exact ⟨_, q, hd⟩
    · exact ⟨o, keep c o (I.cne x c e) hc nch ho (I.freeC x c e), hd⟩
  refine ⟨I.ok, I.os, hg, ⟨fun b o e n hb hx => ?_, fun b o e n hb hx => ?_, fun b o e n hx => ?_, fun b o e hx => ?_, fun b xs e => tups b xs (I.base.tups b xs e), fun b o xs e => frzs b o xs (I.base.frzs b o xs e), fun b ps e => ?_⟩, ?_, fun x c e => ?_, ?_, fun x c e => ?_, fun p hp => ?_, hok, I.len⟩
  · exact keep b o (neL b o e) hb (neC b o e hx) (I.base.keep b o e n hb hx) (I.base.free b o e n hx)
  · obtain ⟨sl, e1⟩ := I.base.slot b o e n hb hx
    obtain ⟨sl', e2⟩ := slot b _ (neL b o e) hb (neC b o e hx) e1 (I.base.free b o e n hx)
    exact ⟨sl', e2⟩
  · obtain ⟨o', e1⟩ := I.base.there b o e hx
    exact free b o' (neC b o e hx) e1 (I.base.free b o e n hx)
  · obtain ⟨o', e1⟩ := I.base.there b o e hx
    exact there b o' (neC b o e hx) e1
  · obtain ⟨m1, e1⟩ := I.base.tbls b ps e
    obtain ⟨m2, e2⟩ := tbls b _ e1
    exact ⟨m1 ++ m2, by rw [e2, Array.append_assoc]⟩
  · obtain ⟨m, hn, hl⟩ := I.loc
    refine ⟨m, ns m hn, fun i x v e1 e2 e3 => ?_⟩
    obtain ⟨u, r, l⟩ := hl i x v e1 e2 e3
    refine ⟨u, r, ?_⟩
    rcases l with l | ⟨k, c, e, z⟩
    · exact .inl l
    · exact .inr ⟨k, c, e, cellK x c e _ z⟩
  · obtain ⟨v, z⟩ := I.cell x c e
    exact ⟨v, cellK x c e v z⟩
  · obtain ⟨m, ⟨o, _, _, ho, _⟩, _⟩ := I.loc
    exact free _ o (fun z => (hch _ z).2.1 rfl) ho I.free
  · obtain ⟨v, o, ho, hd⟩ := I.cell x c e
    exact free c o (fun z => (hch c z).2.2.1 x c e rfl) ho (I.freeC x c e)
  · obtain ⟨e, n, ne, nf, d⟩ := I.pin p hp
    have nch : p.1 ∉ ch := fun z => (hch p.1 z).2.2.2 p hp rfl
    exact ⟨keep p.1 p.2 ne nf nch e n, free p.1 p.2 nch e n, ne, nf, d⟩
theorem Inv.un {t' : Nat} (I : Inv X pins σ H s) (u : Un X.fs [] H H' s.heap h') (hok : HOk X.prog X.w H' h') : Inv X pins σ H' { s with heap := h', toks := t' } := by
  obtain ⟨m, ⟨o, es, ep, ho, r⟩, _⟩ := id I.loc
  obtain ⟨sl, hL⟩ := u.any ho I.free (by simp)
  exact I.step (g' := s.gens) (d' := s.drawn) (ch := []) (fun _ z => nomatch z) (fun b o _ hb _ e n => u.keep b o e n hb (by simp)) (fun b o _ hb _ e n => u.slot b o e n hb (by simp)) (fun b o _ e n => u.free b o e n (by simp)) (fun b o _ e => u.there b o e (by simp)) u.tups u.frzs u.tbls (fun m' hm => by
    obtain ⟨o', es', ep', ho', r'⟩ := hm
    rw [ho] at ho'; cases ho'
    exact ⟨_, es', ep', hL, r'⟩) hok I.bare
theorem Inv.call {g' : Array GenState} {t' : Nat} {d' : Drawn} {ch : List Addr} (I : Inv X pins σ H s) (u : Un (frs X.stack) ch H H' s.heap h') (hok : HOk X.prog X.w H' h') (hg : AllBare g')
    (hch : ∀ b ∈ ch, (b ∈ X.ex ∨ X.s₀.heap.objs.size ≤ b) ∧ b ≠ X.env.locals ∧ (∀ x c, X.env.cells.lookup x = some c → c ≠ b) ∧ ∀ p ∈ X.pn ++ pins, p.1 ≠ b) :
    Inv X pins σ H' { s with heap := h', gens := g', drawn := d', toks := t' } := by
  obtain ⟨m, ⟨o, es, ep, ho, r⟩, _⟩ := id I.loc
  obtain ⟨sl, hL⟩ := u.any ho I.free fun z => (hch _ z).2.1 rfl
  exact I.step (ch := ch) hch (fun b o hL hb hc e n => u.keep b o e n (fun z => (List.mem_cons.mp (I.stkSub b z)).elim hL hb) hc) (fun b o _ _ hc e n => u.any e n hc) (fun b o hc e n => u.free b o e n hc) (fun b o hc e => u.there b o e hc) u.tups u.frzs u.tbls (fun m' hm => by
    obtain ⟨o', es', ep', ho', r'⟩ := hm
    rw [ho] at ho'; cases ho'
    exact ⟨_, es', ep', hL, r'⟩) hok hg
theorem Inv.turned {t' : Nat} {it : Addr} (I : Inv X pins σ H s) (k : ∀ b o, b ≠ it → s.heap.get? b = some o → h'.get? b = some o) (hn : H it = none) (hL : it ≠ X.env.locals)
    (h1 : it ∈ X.ex ∨ X.s₀.heap.objs.size ≤ it) (h2 : ∀ x c, X.env.cells.lookup x = some c → c ≠ it) (h3 : ∀ p ∈ X.pn ++ pins, p.1 ≠ it) : Inv X pins σ H { s with heap := h', toks := t' } := by
  have nit : ∀ b u, H b = some u → b ≠ it := fun b u e z => by rw [z, hn] at e; cases e
  refine I.step (g' := s.gens) (d' := s.drawn) (ch := [it]) (fun b hb => ?_) (fun b o _ _ hc e _ => k b o (fun z => hc (by simp [z])) e) (fun b o _ _ hc e _ => ⟨o.slots, k b o (fun z => hc (by simp [z])) e⟩) (fun _ _ _ _ n => n)
    (fun b o hc e => ⟨o, k b o (fun z => hc (by simp [z])) e⟩) (fun _ _ e => e) (fun _ _ _ e => e) (fun b ps e => ⟨#[], by rw [e]; simp⟩) (fun m hm => ?_) (fun b u e => ?_) I.bare
  · have e : b = it := by simpa using hb
    subst e
    exact ⟨h1, hL, h2, h3⟩
  · obtain ⟨o, es, ep, ho, r⟩ := hm
    exact ⟨o, es, ep, k _ o (Ne.symm hL) ho, r⟩
  · refine (I.hok b u e).stay (fun c v hc q => k c v ?_ q) (fun _ q => q) fun _ _ q => q
    rcases hc with z | z
    · rw [z]; exact nit b u e
    · exact nit c _ z
theorem Inv.tok (I : Inv X pins σ H s) (t : Nat) : Inv X pins σ H { s with toks := t } := I.un (h' := s.heap) (t' := t) Un.refl I.hok
theorem Inv.kept {t' : Nat} (I : Inv X pins σ H s) (k : ∀ b u, s.heap.get? b = some u → h'.get? b = some u) : Inv X pins σ H { s with heap := h', toks := t' } := I.un (Un.kept k) (I.hok.kept k)
theorem Inv.laid {a : Addr} {o : HO} {t' : Nat} (I : Inv X pins σ H s) (k : ∀ b u, s.heap.get? b = some u → h'.get? b = some u) (hp : s.heap.objs.size ≤ a) (new : ObjOk X.prog X.w (upd H a o) h' a o) :
    Inv X pins σ (upd H a o) { s with heap := h', toks := t' } := I.un (Un.laid k hp (I.hok.fresh hp)) (I.hok.laid k hp new)
theorem Inv.write {x e : Addr} {o : HO} {t' : Nat} (I : Inv X pins σ H s) (mu : Mut (H x)) (he : e = x ∨ H e = some (.own x)) (k : ∀ b u, b ≠ e → s.heap.get? b = some u → h'.get? b = some u) (heo : ∃ u, h'.get? e = some u)
    (new : ObjOk X.prog X.w (upd H x o) h' x o) : Inv X pins σ (upd H x o) { s with heap := h', toks := t' } := I.un (Un.write mu he k heo) (I.hok.write mu he k heo new)
theorem Inv.pins_of {pins' : List (Addr × Obj)} (I : Inv X pins σ H s) (h : ∀ p ∈ pins', s.heap.get? p.1 = some p.2 ∧ H p.1 = none ∧ p.1 ≠ X.env.locals ∧ p.1 ∉ X.fs ∧ ∀ v, p.2.data ≠ .cell v) : Inv X pins' σ H s :=
  ⟨I.ok, I.os, I.bare, I.base, I.loc, I.cell, I.free, I.freeC, fun p hp => (List.mem_append.mp hp).elim (fun z => I.pin p (List.mem_append_left _ z)) (h p), I.hok, I.len⟩
theorem nodup_ix {N : List Str} (hN : N.Nodup) {i j : Nat} {x : Str} (a : N[i]? = some x) (b : N[j]? = some x) : i = j := by
  obtain ⟨h1, e1⟩ := List.getElem?_eq_some_iff.mp a
  obtain ⟨h2, e2⟩ := List.getElem?_eq_some_iff.mp b
  exact (List.getElem_inj hN).mp (e1.trans e2.symm)
theorem store_ok2 {M : Model} {A : Around} {E : Value → Shared → Prop} {i : Nat} {x : Str} {v : V} {u : Value} {Q : Unit → Shared → Prop} (I : Inv X pins σ H s) (hN : X.N.Nodup) (hi : X.N[i]? = some x) (hx : Loc X.env.scope x) (r : RelV v u)
    (h : ∀ s', Inv X pins (σ.set i (some v)) H s' → (∃ a, Heap.SameBut a s.heap s'.heap ∧ (a = X.env.locals ∨ X.env.cells.lookup x = some a)) → Q () s') (hf : X.fn x = true ∨ X.env.scope.names.lookup x = some .local := by first | exact .inl rfl | exact .inr rfl | assumption) : wpAny M A (storeName X.env x u) Q E s := by
  obtain ⟨m, hn, hl⟩ := id I.loc
  have hcls : (X.env.scope.kind == .class || (X.env.scope.kind == .module && X.env.locals != X.env.globals)) = false := by rw [I.ok.kind]; rfl
  have hiσ : i < σ.length := by rw [I.len]; exact (List.getElem?_eq_some_iff.mp hi).1
  have cne := I.cne
  have tracked : ∀ {a : Addr} {h' : Heap}, (∃ o, s.heap.get? a = some o ∧ H a = none) → Heap.SameBut a s.heap h' → HOk X.prog X.w H h' := fun {a h'} ha hs b ob e => by
    obtain ⟨_, _, hfree⟩ := ha
    refine (I.hok b ob e).stay (fun c w' hc q => (hs.2 c ?_).trans q) (fun _ q => q) fun _ _ q => q
    rintro rfl
    rcases hc with rfl | hc
    · rw [hfree] at e; cases e
    · rw [hfree] at hc; cases hc
  rcases hx with hk | hk
  · refine wpAny_storeName_local hk hn (fun h' hn' hs => ?_) hcls
    obtain ⟨oL, _, _, hoL, _⟩ := id hn
    refine h _ ⟨I.ok, I.os, I.bare, ⟨fun b o e n hb hx => ?_, fun b o e n hb hx => ?_, I.base.free, fun b o e hx => ?_, I.base.tups, I.base.frzs, I.base.tbls⟩, ⟨_, hn', fun j y v' e1 e2 e3 => ?_⟩, fun y c e => ?_, I.free, I.freeC, fun p hp => ?_, tracked ⟨oL, hoL, I.free⟩ hs, by simpa using I.len⟩ ⟨_, hs, .inl rfl⟩
    · exact (hs.2 b (Nat.ne_of_lt (Nat.lt_of_lt_of_le (Heap.lt_size e) I.ok.above))).trans (I.base.keep b o e n hb hx)
    · obtain ⟨sl, e1⟩ := I.base.slot b o e n hb hx
      exact ⟨sl, (hs.2 b (Nat.ne_of_lt (Nat.lt_of_lt_of_le (Heap.lt_size e) I.ok.above))).trans e1⟩
    · obtain ⟨o', e1⟩ := I.base.there b o e hx
      exact ⟨o', (hs.2 b (Nat.ne_of_lt (Nat.lt_of_lt_of_le (Heap.lt_size e) I.ok.above))).trans e1⟩
    · by_cases hj : j = i
      · subst hj
        rw [hi] at e1; cases e1
        rw [List.getElem?_set_self hiσ] at e2
        cases e2
        exact ⟨u, r, .inl ⟨hk, by simp⟩⟩
      · rw [List.getElem?_set_ne (Ne.symm hj)] at e2
        obtain ⟨u', r', q⟩ := hl j y v' e1 e2 e3
        refine ⟨u', r', ?_⟩
        rcases q with ⟨k, e⟩ | ⟨k, c, e, z⟩
        · refine .inl ⟨k, ?_⟩
          have : y ≠ x := fun e => hj (nodup_ix hN e1 (e ▸ hi))
          simp [this, e]
        · exact .inr ⟨k, c, e, z.sameBut hs (cne y c e)⟩
    · obtain ⟨w', z⟩ := I.cell y c e
      exact ⟨w', z.sameBut hs (cne y c e)⟩
    · obtain ⟨e, n, ne, nf, d⟩ := I.pin p hp
      exact ⟨(hs.2 p.1 ne).trans e, n, ne, nf, d⟩
  · have hfn : X.fn x = true := by
      rcases hf with z | z
      · exact z
      · rw [z] at hk; cases hk
    obtain ⟨c, hc⟩ := I.ok.has x (.inl hk)
    obtain ⟨w', z⟩ := I.cell x c hc
    refine wpAny_storeName_cell I.ok.kind hk hc z (fun h' hc' hs => ?_)
    obtain ⟨oc, hoc, hocd⟩ := id z
    refine h { s with heap := h' } ⟨I.ok, I.os, I.bare, ⟨fun b o e n hb hx => ?_, fun b o e n hb hx => ?_, I.base.free, fun b o e hx => ?_, I.base.tups, I.base.frzs, I.base.tbls⟩, ⟨m, hn.sameBut hs (Ne.symm (cne x c hc)), fun j y v' e1 e2 e3 => ?_⟩, fun y c' e => ?_, I.free, I.freeC, fun p hp => ?_, tracked ⟨oc, hoc, I.freeC x c hc⟩ hs, by simpa using I.len⟩ ⟨c, hs, .inr hc⟩
    · exact (hs.2 b (Nat.ne_of_lt (Nat.lt_of_lt_of_le (Heap.lt_size e) (I.ok.cab x c hfn hc)))).trans (I.base.keep b o e n hb hx)
    · obtain ⟨sl, e1⟩ := I.base.slot b o e n hb hx
      exact ⟨sl, (hs.2 b (Nat.ne_of_lt (Nat.lt_of_lt_of_le (Heap.lt_size e) (I.ok.cab x c hfn hc)))).trans e1⟩
    · obtain ⟨o', e1⟩ := I.base.there b o e hx
      exact ⟨o', (hs.2 b (Nat.ne_of_lt (Nat.lt_of_lt_of_le (Heap.lt_size e) (I.ok.cab x c hfn hc)))).trans e1⟩
    · by_cases hj : j = i
      · subst hj
        rw [hi] at e1; cases e1
        rw [List.getElem?_set_self hiσ] at e2
        cases e2
        exact ⟨u, r, .inr ⟨.inl hk, c, hc, hc'⟩⟩
      · rw [List.getElem?_set_ne (Ne.symm hj)] at e2
        obtain ⟨u', r', q⟩ := hl j y v' e1 e2 e3
        refine ⟨u', r', ?_⟩
        rcases q with q | ⟨k, c', e, z'⟩
        · exact .inl q
        · refine .inr ⟨k, c', e, z'.sameBut hs ?_⟩
          rintro rfl
          exact hj (nodup_ix hN e1 (I.ok.inj _ _ _ e hc ▸ hi))
    · by_cases hcc : c' = c
      · subst hcc; exact ⟨_, hc'⟩
      · obtain ⟨w2, z2⟩ := I.cell y c' e
        exact ⟨w2, z2.sameBut hs hcc⟩
    · obtain ⟨e, n, ne, nf, d⟩ := I.pin p hp
      refine ⟨(hs.2 p.1 ?_).trans e, n, ne, nf, d⟩
      intro q
      rw [q, hoc] at e
      have q' : oc = p.2 := Option.some.inj e
      exact d w' (by rw [← q']; exact hocd)
theorem store_ok {M : Model} {A : Around} {E : Value → Shared → Prop} {i : Nat} {x : Str} {v : V} {u : Value} {Q : Unit → Shared → Prop} (I : Inv X pins σ H s) (hN : X.N.Nodup) (hi : X.N[i]? = some x) (hx : Loc X.env.scope x) (r : RelV v u)
    (h : ∀ s', Inv X pins (σ.set i (some v)) H s' → Q () s') (hf : X.fn x = true ∨ X.env.scope.names.lookup x = some .local := by first | exact .inl rfl | exact .inr rfl | assumption) : wpAny M A (storeName X.env x u) Q E s :=
  store_ok2 I hN hi hx r (fun s' I' _ => h s' I') hf
theorem Inv.call' {s' : Shared} {ch : List Addr} (I : Inv X pins σ H s) (ho : s'.os = s.os) (u : Un (frs X.stack) ch H H' s.heap s'.heap) (hok : HOk X.prog X.w H' s'.heap) (hg : AllBare s'.gens)
    (hch : ∀ b ∈ ch, (b ∈ X.ex ∨ X.s₀.heap.objs.size ≤ b) ∧ b ≠ X.env.locals ∧ (∀ x c, X.env.cells.lookup x = some c → c ≠ b) ∧ ∀ p ∈ X.pn ++ pins, p.1 ≠ b) : Inv X pins σ H' s' := by
  obtain ⟨h', g', d', t', o'⟩ := s'
  have e : o' = s.os := ho
  subst e
  exact I.call (g' := g') (t' := t') (d' := d') u hok hg hch
end
abbrev XK := Value → Option Addr → Hp → Prop
abbrev St := List (Option V)
abbrev VK := V → Hp → Prop
abbrev TE := St → Hp → VK → Prop
abbrev TT := St → Hp → (Bool → Hp → Prop) → Prop
abbrev TA := St → Hp → (List V → Hp → Prop) → Prop
structure Ends where
  nx : St → Hp → Prop
  rt : VK
  bk : St → Hp → Prop := fun _ _ => False
  ct : St → Hp → Prop := fun _ _ => False
abbrev TS := Ends → St → Hp → Prop
def EP (X : Cx) (pins : List (Addr × Obj)) (σ : St) (Q : VK) (u : Value) (s' : Shared) : Prop := ∃ v H', Inv X pins σ H' s' ∧ RelV v u ∧ Q v H'
def TP (X : Cx) (pins : List (Addr × Obj)) (σ : St) (Q : Bool → Hp → Prop) (b : Bool) (s' : Shared) : Prop := ∃ H', Inv X pins σ H' s' ∧ Q b H'
def AP (X : Cx) (pins : List (Addr × Obj)) (σ : St) (Q : List V → Hp → Prop) (us : List Value) (s' : Shared) : Prop := ∃ vs H', Inv X pins σ H' s' ∧ Vals vs us ∧ Q vs H'
def SP (X : Cx) (pins : List (Addr × Obj)) (D : Ends) (f : Flow) (s' : Shared) : Prop :=
  match f with
  | .next => ∃ σ' H', Inv X pins σ' H' s' ∧ D.nx σ' H'
  | .brk => ∃ σ' H', Inv X pins σ' H' s' ∧ D.bk σ' H'
  | .cont => ∃ σ' H', Inv X pins σ' H' s' ∧ D.ct σ' H'
  | .ret u => ∃ v σ' H', Inv X pins σ' H' s' ∧ RelV v u ∧ D.rt v H'
def PE (X : Cx) (e : Expr) (t : TE) : Prop :=
  ∀ (pins : List (Addr × Obj)) (s : Shared) (σ : St) (H : Hp) (Q : VK), Inv X pins σ H s → t σ H Q → wpAny (model X.prog X.w) X.A (eval e X.env) (EP X pins σ Q) X.xe s
def PT (X : Cx) (e : Expr) (t : TT) : Prop :=
  ∀ (pins : List (Addr × Obj)) (s : Shared) (σ : St) (H : Hp) (Q : Bool → Hp → Prop), Inv X pins σ H s → t σ H Q → wpAny (model X.prog X.w) X.A (isTrue e X.env (eval e X.env)) (TP X pins σ Q) X.xe s
def PW (X : Cx) (e : Expr) (t : TT) : Prop :=
  ∀ (whole : Sem Value) (pins : List (Addr × Obj)) (s : Shared) (σ : St) (H : Hp) (Q : Bool → Hp → Prop), Inv X pins σ H s → t σ H Q → wpAny (model X.prog X.w) X.A (isTrue e X.env whole) (TP X pins σ Q) X.xe s
theorem PW.pt {X : Cx} {e : Expr} {t : TT} (h : PW X e t) : PT X e t := h _
def PA (X : Cx) (es : List Expr) (t : TA) : Prop :=
  ∀ (pos : Pos) (pins : List (Addr × Obj)) (s : Shared) (σ : St) (H : Hp) (Q : List V → Hp → Prop), Inv X pins σ H s → t σ H Q → wpAny (model X.prog X.w) X.A (spliced (backTo pos (starEach es X.env))) (AP X pins σ Q) X.xe s
def PS (X : Cx) (st : Stmt) (t : TS) : Prop :=
  ∀ (pins : List (Addr × Obj)) (s : Shared) (σ : St) (H : Hp) (D : Ends), Inv X pins σ H s → t D σ H → wpAny (model X.prog X.w) X.A (exec st X.env) (SP X pins D) X.xe s
def PSs (X : Cx) (st : List Stmt) (t : TS) : Prop :=
  ∀ (pins : List (Addr × Obj)) (s : Shared) (σ : St) (H : Hp) (D : Ends), Inv X pins σ H s → t D σ H → wpAny (model X.prog X.w) X.A (execs st X.env) (SP X pins D) X.xe s
theorem thn {α : Type} {t : Sem α} {Q Q' : α → Shared → Prop} {M : Model} {A : Around} {E : Value → Shared → Prop} {s : Shared} (h : wpAny M A t Q E s) (hQ : ∀ a s, Q a s → Q' a s) : wpAny M A t Q' E s := wpAny_mono h hQ fun _ _ x => x
end L2
namespace L2
open PySem PySem.Spec PyProof.Rows
section
variable {X : Cx}
def tVar (i : Nat) : TE := fun σ H Q => ∃ v, σ[i]? = some (some v) ∧ Q v H
def tC (v : V) : TE := fun _ H Q => Q v H
theorem pe_var {i : Nat} {x : Str} {pos : Pos} (hN : X.N[i]? = some x) (hv : Vis X.env.scope x) (hd : (x == ("__debug__" : Str)) = false := by decide) (hcd : (x == ("__classdict__" : Str)) = false := by decide) : PE X (.Name x pos) (tVar i) := by
  intro pins s σ H Q I h
  obtain ⟨v, e, h⟩ := h
  obtain ⟨m, hn, hl⟩ := I.loc
  obtain ⟨u, r, l⟩ := hl i x v hN e hv
  have fin : EP X pins σ Q u s := ⟨v, H, I, r, h⟩
  rcases l with ⟨hk, hm⟩ | ⟨hk, c, hc, hcell⟩
  · exact wpAny_Name (wpAny_loadName_local I.ok.kind hk hn hm fin) hd
  · rcases hk with hk | hk
    · exact wpAny_Name (wpAny_loadName_cell I.ok.kind hk hc hcell fin) hd
    · exact wpAny_Name (wpAny_loadName_free I.ok.kind hk hc hcell fin hcd) hd
theorem pe_int {i j pos} : PE X (.Constant (.int i) j pos) (tC (.int i)) := fun _ _ _ H _ I h => wpAny_Constant_int ⟨.int i, H, I.tok _, ⟨_, rfl⟩, h⟩
theorem pe_bl {b j pos} : PE X (.Constant (.bool b) j pos) (tC (.bl b)) := fun _ _ _ H _ I h => Constant_bool ⟨.bl b, H, I, rfl, h⟩
theorem pe_non {j pos} : PE X (.Constant .none j pos) (tC .non) := fun _ _ _ H _ I h => Constant_none ⟨.non, H, I, rfl, h⟩
theorem pe_str {x j pos} : PE X (.Constant (.str x) j pos) (tC (.str x)) := fun _ _ _ H _ I h => Calls.Constant_str ⟨.str x, H, I.tok _, ⟨_, rfl⟩, h⟩
def Gl (X : Cx) (x : Str) : Prop := X.env.kindOf x = some .globalImplicit
theorem ld_glob {E : Value → Shared → Prop} {pins : List (Addr × Obj)} {s : Shared} {σ : St} {H : Hp} {x : Str} {u : Value} {pos : Pos} {Q : Value → Shared → Prop} (I : Inv X pins σ H s) (hg : Gl X x) (hm : X.mg x = some u) (h : Q u s)
    (hd : (x == ("__debug__" : Str)) = false := by decide) : wpAny (model X.prog X.w) X.A (eval (.Name x pos) X.env) Q E s :=
  Calls.Name_function_global I.ok.kind hg (Calls.loadGlobal_global (by rw [I.ok.glob]; exact I.mod.glob.keeps I.bk) hm h) hd
theorem ld_blt {E : Value → Shared → Prop} {pins : List (Addr × Obj)} {s : Shared} {σ : St} {H : Hp} {x : Str} {u : Value} {pos : Pos} {Q : Value → Shared → Prop} (I : Inv X pins σ H s) (hg : Gl X x) (hm : X.mg x = none) (hv : bootBuiltins x = some u) (h : Q u s)
    (hn : x ≠ "__name__" := by decide) (hd : (x == ("__debug__" : Str)) = false := by decide) : wpAny (model X.prog X.w) X.A (eval (.Name x pos) X.env) Q E s := by
  obtain ⟨mb, h1, h2⟩ := I.mod.blt
  exact Calls.Name_function_global I.ok.kind hg (Calls.loadGlobal_builtin (by rw [I.ok.glob]; exact I.mod.glob.keeps I.bk) hm (by rw [I.ok.blt]; exact h1.keeps I.bk) ((h2 x hn).trans hv) h) hd
theorem pe_glob {x : Str} {v : V} {u : Value} {pos : Pos} (hg : Gl X x) (hm : X.mg x = some u) (r : RelV v u) (hd : (x == ("__debug__" : Str)) = false := by decide) : PE X (.Name x pos) (tC v) :=
  fun _ _ _ H _ I h => ld_glob I hg hm ⟨v, H, I, r, h⟩ hd
theorem pe_bltn {x : Str} {v : V} {u : Value} {pos : Pos} (hg : Gl X x) (hm : X.mg x = none) (hv : bootBuiltins x = some u) (r : RelV v u) (hn : x ≠ "__name__" := by decide) (hd : (x == ("__debug__" : Str)) = false := by decide) : PE X (.Name x pos) (tC v) :=
  fun _ _ _ H _ I h => ld_blt I hg hm hv ⟨v, H, I, r, h⟩ hn hd
variable {a b : Expr} {ta tb : TE} {pos : Pos}
def tB (t : TE) : TT := fun σ H Q => t σ H fun x H1 => ∃ c, x = .bl c ∧ Q c H1
theorem pt_val {e : Expr} {t : TE} (h : PE X e t) (he : ∀ whole, isTrue e X.env whole = (do let v ← whole; standAt e.pos; holding [v] (truthy v)) := by intro _; rfl) : PT X e (tB t) := by
  intro pins s σ H Q I hw
  refine isTrue_plain (thn (h pins s σ H _ I hw) fun v s1 ⟨x, H1, I1, r1, q1⟩ => ?_) (he _)
  obtain ⟨d, rfl, q⟩ := q1
  cases r1
  exact wpAny_truthy_bool ⟨H1, I1, q⟩
variable {tA tB' : TT} {rest : List Expr}
def tAnd (t u : TT) : TT := fun σ H Q => t σ H fun c H1 => if c = true then u σ H1 Q else Q false H1
def tOr (t u : TT) : TT := fun σ H Q => t σ H fun c H1 => if c = true then Q true H1 else u σ H1 Q
def tNot (t : TT) : TT := fun σ H Q => t σ H fun c H1 => Q (!c) H1
theorem pw_and1 (ha : PT X a tA) : PW X (.BoolOp .And [a] pos) tA := by
  intro wh pins s σ H Q I h
  refine isTrue_and (thn (ha pins s σ H Q I h) fun c s1 e => ?_)
  cases c with
  | true => exact isTrue_and_nil e
  | false => exact e
theorem pw_or1 (ha : PT X a tA) : PW X (.BoolOp .Or [a] pos) tA := by
  intro wh pins s σ H Q I h
  refine isTrue_or (thn (ha pins s σ H Q I h) fun c s1 e => ?_)
  cases c with
  | false => exact isTrue_or_nil e
  | true => exact e
theorem pw_and (ha : PT X a tA) (hb : PW X (.BoolOp .And (b :: rest) pos) tB') : PW X (.BoolOp .And (a :: b :: rest) pos) (tAnd tA tB') := by
  intro wh pins s σ H Q I h
  refine isTrue_and (thn (ha pins s σ H _ I h) fun c s1 ⟨H1, I1, q1⟩ => ?_)
  cases c with
  | true => exact hb wh pins s1 σ H1 Q I1 q1
  | false => exact ⟨H1, I1, q1⟩
theorem pw_or (ha : PT X a tA) (hb : PW X (.BoolOp .Or (b :: rest) pos) tB') : PW X (.BoolOp .Or (a :: b :: rest) pos) (tOr tA tB') := by
  intro wh pins s σ H Q I h
  refine isTrue_or (thn (ha pins s σ H _ I h) fun c s1 ⟨H1, I1, q1⟩ => ?_)
  cases c with
  | true => exact ⟨H1, I1, q1⟩
  | false => exact hb wh pins s1 σ H1 Q I1 q1
theorem pt_not (ha : PT X a tA) : PT X (.UnaryOp .Not a pos) (tNot tA) := by
  intro pins s σ H Q I h
  exact isTrue_not (ha pins s σ H (fun c H1 => Q (!c) H1) I h)
def tAndV (ta tb : TE) : TE := fun σ H Q => ta σ H fun x H1 => ∃ c, x = .bl c ∧ if c = true then tb σ H1 Q else Q (.bl false) H1
def tOrV (ta tb : TE) : TE := fun σ H Q => ta σ H fun x H1 => ∃ c, x = .bl c ∧ if c = true then Q (.bl true) H1 else tb σ H1 Q
def tNotV (ta : TE) : TE := fun σ H Q => ta σ H fun x H1 => ∃ c, x = .bl c ∧ Q (.bl (!c)) H1
theorem pe_one {op} {t : TE} (h : PE X a t) : PE X (.BoolOp op [a] pos) t := fun pins s σ H Q I hw => BoolOp_one (h pins s σ H Q I hw)
theorem pe_and (ha : PE X a ta) (hb : PE X (.BoolOp .And (b :: rest) pos) tb) : PE X (.BoolOp .And (a :: b :: rest) pos) (tAndV ta tb) := by
  intro pins s σ H Q I h
  refine BoolOp_and (thn (ha pins s σ H _ I h) fun v s1 ⟨x, H1, I1, r1, q1⟩ => ?_)
  obtain ⟨c, rfl, q1⟩ := q1
  cases r1
  refine wpAny_truthy_bool ?_
  cases c with
  | true => exact hb pins s1 σ H1 Q I1 q1
  | false => exact ⟨.bl false, H1, I1, rfl, q1⟩
theorem pe_or (ha : PE X a ta) (hb : PE X (.BoolOp .Or (b :: rest) pos) tb) : PE X (.BoolOp .Or (a :: b :: rest) pos) (tOrV ta tb) := by
  intro pins s σ H Q I h
  refine BoolOp_or (thn (ha pins s σ H _ I h) fun v s1 ⟨x, H1, I1, r1, q1⟩ => ?_)
  obtain ⟨c, rfl, q1⟩ := q1
  cases r1
  refine wpAny_truthy_bool ?_
  cases c with
  | false => exact hb pins s1 σ H1 Q I1 q1
  | true => exact ⟨.bl true, H1, I1, rfl, q1⟩
theorem pe_not (ha : PE X a ta) : PE X (.UnaryOp .Not a pos) (tNotV ta) := by
  intro pins s σ H Q I h
  refine UnaryOp_ (thn (ha pins s σ H _ I h) fun v s1 ⟨x, H1, I1, r1, q1⟩ => ?_)
  obtain ⟨c, rfl, q1⟩ := q1
  cases r1
  exact not_of (wpAny_truthy_bool ⟨.bl (!c), H1, I1, rfl, q1⟩)
end
end L2
namespace L2
open PySem PySem.Spec PyProof.Rows
def SqL (K : PySem.W.Frag) (H : Hp) (a : Addr) (xs : List V) : Prop :=
  Rd H a (.lst xs) ∨
    ∃ (o : Obj) (its : Array Value) (n : Nat), K.lookup a = some o ∧ o.cls = .type "list" ∧ o.dict = none ∧ o.data = .seq its n ∧ its.size ≤ sizeLine ∧ Vals xs its.toList
def SqT (K : PySem.W.Frag) (H : Hp) (a : Addr) (xs : List V) : Prop :=
  Rd H a (.tup xs) ∨
    ∃ (o : Obj) (its : Array Value) (n : Nat), K.lookup a = some o ∧ o.cls = .type "tuple" ∧ o.data = .seq its n ∧ its.size ≤ sizeLine ∧ Vals xs its.toList
def absV : Value → Option V
  | .none => some .non
  | .bool b => some (.bl b)
  | .int i _ => some (.int i)
  | .str x _ => some (.str x)
  | .bytes b _ => some (.byt b)
  | .float b _ => some (.flt b)
  | .ref a => some (.ref a)
  | .type n => some (.ty n)
  | _ => none
theorem RelV.abs {x : V} {u : Value} (r : RelV x u) : absV u = some x := by
  cases x with
  | non => cases r; rfl
  | bl _ => cases r; rfl
  | int _ => obtain ⟨t, rfl⟩ := r; rfl
  | str _ => obtain ⟨t, rfl⟩ := r; rfl
  | byt _ => obtain ⟨t, rfl⟩ := r; rfl
  | flt _ => obtain ⟨t, rfl⟩ := r; rfl
  | ref _ => cases r; rfl
  | ty _ => cases r; rfl
theorem RelV.inj {x y : V} {u : Value} (r : RelV x u) (q : RelV y u) : x = y := Option.some.inj (r.abs.symm.trans q.abs)
theorem Vals.inj : ∀ {xs ys : List V} {us : List Value}, Vals xs us → Vals ys us → xs = ys
  | _, _, _, .nil, .nil => rfl
  | _, _, _, .cons r t, .cons r' t' => by rw [r.inj r', Vals.inj t t']
section
variable {X : Cx} {pins : List (Addr × Obj)} {σ : St} {H : Hp} {s : Shared} {a : Addr} {xs ys : List V}
theorem SqL.of {K : PySem.W.Frag} (h : H a = some (.lst xs)) : SqL K H a xs := .inl (.inl h)
theorem SqT.of {K : PySem.W.Frag} (h : H a = some (.tup xs)) : SqT K H a xs := .inl (.inl h)
theorem Inv.list (I : Inv X pins σ H s) (h : SqL X.K H a xs) : ∃ its : List Value, Vals xs its ∧ PlainL s.heap a its.toArray ∧ xs.length ≤ sizeLine := by
  rcases h with h | ⟨o, its, n, hk, hc, hd, hs, hz, r⟩
  · obtain ⟨z, its, n, r, e⟩ := h.ok I.hok
    exact ⟨its, r, ⟨_, n, e, rfl, rfl, rfl⟩, z⟩
  · refine ⟨its.toList, r, ⟨o, n, I.kIn a o hk, hc, hd, by simpa using hs⟩, ?_⟩
    have e := r.length
    simp only [Array.length_toList] at e
    omega
theorem Inv.tuple (I : Inv X pins σ H s) (h : SqT X.K H a xs) : ∃ its : List Value, Vals xs its ∧ IsTup s.heap a its.toArray ∧ xs.length ≤ sizeLine := by
  rcases h with h | ⟨o, its, n, hk, hc, hs, hz, r⟩
  · obtain ⟨z, its, r, p⟩ := h.ok I.hok
    exact ⟨its, r, p, z⟩
  · refine ⟨its.toList, r, ⟨o, I.kIn a o hk, hc, n, by simpa using hs⟩, ?_⟩
    have e := r.length
    simp only [Array.length_toList] at e
    omega
theorem Inv.list_inj (I : Inv X pins σ H s) (h : SqL X.K H a xs) (h' : SqL X.K H a ys) : xs = ys := by
  obtain ⟨its, r, ⟨o, n, e, _, _, d⟩, _⟩ := I.list h
  obtain ⟨its', r', ⟨o', n', e', _, _, d'⟩, _⟩ := I.list h'
  rw [e] at e'; cases e'
  rw [d] at d'
  injection d' with d1 _
  have : its = its' := by simpa using congrArg Array.toList d1
  subst this
  exact r.inj r'
end
abbrev Cx.wish (X : Cx) (E : Value → Shared → Prop) : Cx := { X with xe := E }
abbrev Cx.nox (X : Cx) : Cx := X.wish fun _ _ => False
theorem Cx.Ok.wish {X : Cx} (ok : X.Ok) (E : Value → Shared → Prop) : (X.wish E).Ok :=
  ⟨ok.mod, ok.kind, ok.glob, ok.blt, ok.above, ok.inj, ok.has, ok.cab, ok.hd, ok.frames, ok.stk, ok.exf, ok.bs, ok.bsz, ok.noex, ok.exfs, ok.funs, ok.frf⟩
theorem Cx.Ok.unwish {X : Cx} {E : Value → Shared → Prop} (ok : (X.wish E).Ok) : X.Ok :=
  ⟨ok.mod, ok.kind, ok.glob, ok.blt, ok.above, ok.inj, ok.has, ok.cab, ok.hd, ok.frames, ok.stk, ok.exf, ok.bs, ok.bsz, ok.noex, ok.exfs, ok.funs, ok.frf⟩
section
variable {X : Cx} {pins : List (Addr × Obj)} {σ : St} {H : Hp} {s : Shared} {E : Value → Shared → Prop}
theorem Inv.wish (I : Inv X pins σ H s) (E : Value → Shared → Prop) : Inv (X.wish E) pins σ H s := ⟨I.ok.wish E, I.os, I.bare, I.base, I.loc, I.cell, I.free, I.freeC, I.pin, I.hok, I.len⟩
theorem Inv.unwish (I : Inv (X.wish E) pins σ H s) : Inv X pins σ H s := ⟨I.ok.unwish, I.os, I.bare, I.base, I.loc, I.cell, I.free, I.freeC, I.pin, I.hok, I.len⟩
theorem SP.unwish {D : Ends} {f : Flow} {s' : Shared} (h : SP (X.wish E) pins D f s') : SP X pins D f s' := by
  cases f with
  | next => obtain ⟨σ', H', I, q⟩ := h; exact ⟨σ', H', I.unwish, q⟩
  | brk => obtain ⟨σ', H', I, q⟩ := h; exact ⟨σ', H', I.unwish, q⟩
  | cont => obtain ⟨σ', H', I, q⟩ := h; exact ⟨σ', H', I.unwish, q⟩
  | ret u => obtain ⟨v, σ', H', I, r, q⟩ := h; exact ⟨v, σ', H', I.unwish, r, q⟩
theorem PSs.nox {st : List Stmt} {t : TS} (h : PSs X.nox st t) : PSs X st t := fun pins s σ H D I hw =>
  wpAny_mono (h pins s σ H D (I.wish _) hw) (fun _ _ q => q.unwish) fun _ _ z => False.elim z
end
section
variable {X : Cx} {st : Stmt} {rest : List Stmt} {t u : TS} {e : Expr} {te : TE} {pos : Pos}
def tNext : TS := fun D σ H => D.nx σ H
def tSeq (t u : TS) : TS := fun D σ H => t { D with nx := u D } σ H
theorem pss_nil : PSs X [] tNext := fun _ _ σ H _ I h => wpAny_execs_nil ⟨σ, H, I, h⟩
theorem pss_cons (h1 : PS X st t) (h2 : PSs X rest u) : PSs X (st :: rest) (tSeq t u) := by
  intro pins s σ H D I h
  refine wpAny_execs_cons (thn (h1 pins s σ H { D with nx := u D } I h) fun f s1 q => ?_)
  cases f with
  | next =>
    obtain ⟨σ', H', I', q⟩ := q
    exact h2 pins s1 σ' H' D I' q
  | ret v => exact q
  | brk => exact q
  | cont => exact q
theorem pss_one (h1 : PS X st t) : PSs X [st] t := by
  intro pins s σ H D I h
  refine wpAny_execs_cons (thn (h1 pins s σ H D I h) fun f s1 q => ?_)
  cases f with
  | next => exact wpAny_execs_nil q
  | ret v => exact q
  | brk => exact q
  | cont => exact q
def tBreak : TS := fun D σ H => D.bk σ H
theorem ps_break : PS X (.Break pos) tBreak := fun _ _ σ H _ I h => wpAny_Break ⟨σ, H, I, h⟩
theorem Inv.quiet {pins : List (Addr × Obj)} {σ : St} {H : Hp} {s : Shared} (I : Inv X pins σ H s) : interactive X.env = false := by simp [interactive, I.ok.kind]
def tDrop (te : TE) : TS := fun D σ H => te σ H fun _ H1 => D.nx σ H1
theorem ps_expr (he : PE X e te) (hs : swapsWith e none pos.line X.env = pure false := by rfl) : PS X (.Expr e pos) (tDrop te) := by
  intro pins s σ H D I h
  exact wpAny_Expr_any (thn (he pins s σ H _ I h) fun v s1 ⟨x, H1, I1, r1, q1⟩ => ⟨σ, H1, I1, q1⟩) I.quiet hs
def tRet (te : TE) : TS := fun D σ H => te σ H D.rt
theorem ps_ret (he : PE X e te) : PS X (.Return (some e) pos) (tRet te) := by
  intro pins s σ H D I h
  exact wpAny_Return_some (thn (he pins s σ H _ I h) fun v s1 ⟨x, H1, I1, r1, q1⟩ => ⟨x, σ, H1, I1, r1, q1⟩)
def tIfS (c : TT) (t u : TS) : TS := fun D σ H => c σ H fun b H1 => if b = true then t D σ H1 else u D σ H1
theorem ps_if {c : Expr} {a b : List Stmt} {tc : TT} (hc : PT X c tc) (ha : PSs X a t) (hb : PSs X b u) : PS X (.If c a b pos) (tIfS tc t u) := by
  intro pins s σ H D I h
  refine wpAny_If (thn (hc pins s σ H _ I h) fun d s1 ⟨H1, I1, q1⟩ => ?_)
  cases d with
  | true => exact ha pins s1 σ H1 D I1 q1
  | false => exact hb pins s1 σ H1 D I1 q1
end
abbrev TG := V → St → Hp → (St → Hp → Prop) → Prop
abbrev TGs := List V → St → Hp → (St → Hp → Prop) → Prop
def PG (X : Cx) (target : Expr) (t : TG) : Prop :=
  ∀ (pins : List (Addr × Obj)) (s : Shared) (σ : St) (H : Hp) (v : V) (u : Value) (Q : St → Hp → Prop), Inv X pins σ H s → RelV v u → t v σ H Q →
    wpAny (model X.prog X.w) X.A (assign target X.env u) (fun _ s' => ∃ σ' H', Inv X pins σ' H' s' ∧ Q σ' H') X.xe s
def PGs (X : Cx) (ts : List Expr) (t : TGs) : Prop :=
  ∀ (pins : List (Addr × Obj)) (s : Shared) (σ : St) (H : Hp) (vs : List V) (us : List Value) (Q : St → Hp → Prop), Inv X pins σ H s → Vals vs us → t vs σ H Q →
    wpAny (model X.prog X.w) X.A (assignInOrder ((assignEach ts X.env).map (·.2)) us) (fun _ s' => ∃ σ' H', Inv X pins σ' H' s' ∧ Q σ' H') X.xe s
section
variable {X : Cx} {pos : Pos}
def gName (i : Nat) : TG := fun v σ H Q => Q (σ.set i (some v)) H
theorem pg_name {i : Nat} {x : Str} (hN : X.N.Nodup) (hi : X.N[i]? = some x) (hx : Loc X.env.scope x) (hf : X.fn x = true ∨ X.env.scope.names.lookup x = some .local := by first | exact .inl rfl | exact .inr rfl | assumption) : PG X (.Name x pos) (gName i) := by
  intro pins s σ H v u Q I r h
  exact wpAny_assign_Name (store_ok I hN hi hx r (fun s' I' => ⟨_, H, I', h⟩) hf)
def gNil : TGs := fun vs σ H Q => vs = [] ∧ Q σ H
def gCons (t : TG) (u : TGs) : TGs := fun vs σ H Q => ∃ v r, vs = v :: r ∧ t v σ H fun σ' H' => u r σ' H' Q
theorem pgs_nil : PGs X [] gNil := by
  intro pins s σ H vs us Q I r h
  obtain ⟨e, h⟩ := h
  subst e
  cases r
  exact assignInOrder_nil ⟨σ, H, I, h⟩
theorem pgs_cons {e : Expr} {es : List Expr} {t : TG} {u : TGs} (h1 : PG X e t) (h2 : PGs X es u)
    (hs : (assignEach (e :: es) X.env).map (·.2) = assign e X.env :: (assignEach es X.env).map (·.2) := by rfl) : PGs X (e :: es) (gCons t u) := by
  intro pins s σ H vs us Q I r h
  obtain ⟨v, vr, e1, h⟩ := h
  subst e1
  cases r with
  | cons r rr =>
    rw [hs]
    refine assignInOrder_cons (thn (h1 pins s σ H _ _ _ I r h) fun _ s1 ⟨σ1, H1, I1, q1⟩ => ?_)
    exact h2 pins s1 σ1 H1 _ _ Q I1 rr q1
def gTup (K : PySem.W.Frag) (n : Nat) (t : TGs) : TG := fun v σ H Q => ∃ a xs, v = .ref a ∧ SqT K H a xs ∧ xs.length = n ∧ t xs σ H Q
theorem pg_tup {es : List Expr} {k : Nat} {t : TGs} {n : Nat} (hc : X.calm = true) (h : PGs X es t)
    (hn : (assignEach es X.env).length = n := by rfl) (hst : (assignEach es X.env).findIdx? (·.1) = none := by rfl) : PG X (.Tuple es k pos) (gTup X.K n t) := by
  intro pins s σ H v u Q I r hw
  obtain ⟨a, xs, e1, hq, hl, hw⟩ := hw
  subst e1
  cases r
  obtain ⟨its, rv, ht, hz⟩ := I.tuple hq
  refine assign_Tuple_tuple (I.ok.hd hc) ht (by simp [hn, ← hl, rv.length]) hst fun h' hx => ?_
  have I1 : Inv X pins σ H { s with heap := h' } := I.kept (t' := s.toks) fun b o e => hx b o (Nat.ne_of_lt (Heap.lt_size e)) e
  exact h pins _ σ H xs _ Q I1 (by simpa using rv) hw
def tAsg (te : TE) (g : TG) : TS := fun D σ H => te σ H fun x H1 => g x σ H1 D.nx
theorem ps_asg {tg e : Expr} {te : TE} {g : TG} (he : PE X e te) (hg : PG X tg g) (hs : swapsWithSole [tg] e pos.line X.env = pure false := by rfl) (hw : swappedStores [tg] e X.env = pure none := by rfl)
    (h1 : (assignEach [tg] X.env).map (·.2) = [assign tg X.env] := by rfl) : PS X (.Assign [tg] e pos) (tAsg te g) := by
  intro pins s σ H D I h
  refine wpAny_Assign_stores (thn (he pins s σ H _ I h) fun v s1 ⟨x, H1, I1, r1, q1⟩ => ?_) hs hw
  rw [h1]
  exact thn (hg pins s1 σ H1 x v _ I1 r1 q1) fun _ s2 q => q
theorem ps_set {i : Nat} {x : Str} {e : Expr} {te : TE} {pos' : Pos} (hN : X.N.Nodup) (hi : X.N[i]? = some x) (hx : Loc X.env.scope x) (he : PE X e te) (hs : swapsWith e (some (.Name x pos')) pos.line X.env = pure false := by rfl) (hf : X.fn x = true ∨ X.env.scope.names.lookup x = some .local := by first | exact .inl rfl | exact .inr rfl | assumption) :
    PS X (.Assign [.Name x pos'] e pos) (tAsg te (gName i)) := by
  intro pins s σ H D I h
  refine wpAny_Assign_Name (thn (he pins s σ H _ I h) fun v s1 ⟨y, H1, I1, r1, q1⟩ => ?_) hs
  exact store_ok I1 hN hi hx r1 (fun s2 I2 => ⟨_, H1, I2, q1⟩) hf
end
section
variable {X : Cx} {pos : Pos}
def tWhile (c : TT) (tb : TS) : TS := fun D σ H => ∃ W : Nat → St → Hp → Prop, (∃ m, W m σ H) ∧ ∀ m σ H, W m σ H →
  c σ H fun b H1 => if b = true then ∃ N : St → Hp → Prop, (∀ σ' H', N σ' H' → ∃ m', m' < m ∧ W m' σ' H') ∧ tb { D with nx := N, ct := N, bk := D.nx } σ H1 else D.nx σ H1
theorem ps_while {c : Expr} {body : List Stmt} {tc : TT} {tb : TS} (hp : PassesOwn (model X.prog X.w) X.A X.env X.xe) (hc : PT X c tc) (hb : PSs X body tb) : PS X (.While c body [] pos) (tWhile tc tb) := by
  intro pins s σ H D I h
  obtain ⟨W, ⟨m0, w0⟩, turn⟩ := h
  refine wpAny_While (codeAny_whileLoop (fun n s' => ∃ σ' H', Inv X pins σ' H' s' ∧ W n σ' H') ?_ m0 ⟨σ, H, I, w0⟩)
  rintro n s1 ⟨σ1, H1, I1, w1⟩
  refine wpAny_passesOwn hp (thn (hc pins s1 σ1 H1 _ I1 (turn n σ1 H1 w1)) fun b s2 ⟨H2, I2, q2⟩ => ?_)
  cases b with
  | true =>
    obtain ⟨N, hN, q2⟩ := q2
    rw [if_pos rfl]
    refine wpAny_passesOwn hp (thn (hb pins s2 σ1 H2 _ I2 q2) fun f s3 q3 => ?_)
    cases f with
    | next =>
      obtain ⟨σ3, H3, I3, n3⟩ := q3
      obtain ⟨m', hm, w3⟩ := hN σ3 H3 n3
      exact ⟨m', hm, σ3, H3, I3, w3⟩
    | cont =>
      obtain ⟨σ3, H3, I3, n3⟩ := q3
      obtain ⟨m', hm, w3⟩ := hN σ3 H3 n3
      exact ⟨m', hm, σ3, H3, I3, w3⟩
    | brk => exact q3
    | ret v => exact q3
  | false =>
    rw [if_neg Bool.false_ne_true]
    exact wpAny_execs_nil ⟨σ1, H2, I2, q2⟩
end
structure It where
  go : Nat → Hp → Prop
  yld : Nat → Hp → V → Hp → Prop
  stop : Nat → Hp → Prop
def FpOk (X : Cx) (pins : List (Addr × Obj)) (H : Hp) (b : Addr) : Prop :=
  H b = none ∧ b ≠ X.env.locals ∧ b ∉ X.fs ∧ (b ∈ X.ex ∨ X.s₀.heap.objs.size ≤ b) ∧ (∀ x c, X.env.cells.lookup x = some c → c ≠ b) ∧ ∀ p ∈ X.pn ++ pins, p.1 ≠ b
theorem Inv.fpOk {X : Cx} {pins : List (Addr × Obj)} {σ : St} {H H' : Hp} {s : Shared} {b : Addr} (I : Inv X pins σ H s) (hb : s.heap.objs.size ≤ b) (hn : H' b = none) : FpOk X pins H' b := by
  refine ⟨hn, Nat.ne_of_gt (Nat.lt_of_lt_of_le I.lt hb), I.nofs hb, .inr (Nat.le_trans I.sz hb), fun x c e z => ?_, fun p hp z => ?_⟩
  · obtain ⟨v, q⟩ := I.cell x c e
    exact absurd (Nat.lt_of_lt_of_le q.lt (by rw [z]; exact hb)) (Nat.lt_irrefl _)
  · exact absurd (Nat.lt_of_lt_of_le (Heap.lt_size (I.pin p hp).1) (by rw [z]; exact hb)) (Nat.lt_irrefl _)
structure Turn (P : Program) (w : World) (K : PySem.W.Frag) (tg : Expr) (J : It) (fp : List Addr) (it : Addr) (tn : Nat → Heap → Prop) : Prop where
  mem : it ∈ fp
  obj : ∀ i h, tn i h → ∀ b ∈ fp, ∃ o, h.get? b = some o ∧ ∀ v, o.data ≠ .cell v
  keep : ∀ i h h', tn i h → (∀ b ∈ fp, ∀ o, h.get? b = some o → h'.get? b = some o) → tn i h'
  item : ∀ (X : Cx), X.prog = P → X.w = w → X.K = K → X.calm = true → ∀ (i : Nat) (pins : List (Addr × Obj)) (s : Shared) (σ : St) (H : Hp) (E : Value → Shared → Prop), Inv X pins σ H s → (∀ b ∈ fp, FpOk X pins H b) → tn i s.heap → J.go i H →
    wpAny (model P w) X.A (pyNext (.ref it)) (fun r s1 => ∃ u, r = some u ∧
      wpAny (model P w) X.A (letOwnedTupleGo tg (.ref it) u) (fun _ s2 => ∃ x H', Inv X pins σ H' s2 ∧ RelV x u ∧ J.yld i H x H' ∧ tn (i + 1) s2.heap ∧ ∀ b ∈ fp, H' b = none) E s1) E s
  done : ∀ (X : Cx), X.prog = P → X.w = w → X.K = K → X.calm = true → ∀ (i : Nat) (pins : List (Addr × Obj)) (s : Shared) (σ : St) (H : Hp) (E : Value → Shared → Prop), Inv X pins σ H s → (∀ b ∈ fp, FpOk X pins H b) → tn i s.heap → J.stop i H →
    wpAny (model P w) X.A (pyNext (.ref it)) (fun r s1 => r = none ∧ Inv X pins σ H s1) E s
  self : ∀ (A : Around) (i : Nat) (s : Shared) (Q : Value → Shared → Prop) (E : Value → Shared → Prop), tn i s.heap → Q (.ref it) s → wpAny (model P w) A (pyIter (.ref it)) Q E s
abbrev TI := St → Hp → (It → Hp → Prop) → Prop
def PIE (X : Cx) (pins : List (Addr × Obj)) (σ : St) (tg : Expr) (R : It → Hp → Prop) (itv : Value) (s2 : Shared) : Prop :=
  ∃ (it : Addr) (fp : List Addr) (tn : Nat → Heap → Prop) (J : It) (H' : Hp), itv = .ref it ∧ Inv X pins σ H' s2 ∧ Turn X.prog X.w X.K tg J fp it tn ∧ tn 0 s2.heap ∧ (∀ b ∈ fp, FpOk X pins H' b) ∧ R J H'
def PI (X : Cx) (tg iter : Expr) (wi : TI) : Prop :=
  ∀ (pins : List (Addr × Obj)) (s : Shared) (σ : St) (H : Hp) (R : It → Hp → Prop), Inv X pins σ H s → wi σ H R →
    wpAny (model X.prog X.w) X.A (eval iter X.env) (fun v s1 => wpAny (model X.prog X.w) X.A (pyIter v) (PIE X pins σ tg R) X.xe s1) X.xe s
theorem go_of {M : Model} {A : Around} {E : Value → Shared → Prop} {s : Shared} {tg : Expr} {it : Addr} {u : Value} {o : Obj} {n : String} {vs : Array Value} {Q : Unit → Shared → Prop} (ho : s.heap.get? it = some o) (hc : o.cls = .type n) (hd : o.data = .fields vs)
    (hn : ["enumerate", "zip", "dict_itemiterator", "dict_reverseitemiterator", "odict_iterator", "itertools.zip_longest", "itertools.pairwise"].contains n = false) (hQ : Q () s) : wpAny M A (letOwnedTupleGo tg (.ref it) u) Q E s := by
  unfold letOwnedTupleGo
  cases tg <;> first
    | exact wpAny_pure hQ
    | (cases u <;> first
        | exact wpAny_pure hQ
        | (refine wpAny_bind (wpAny_load ho ?_)
           rw [hc, hd]
           show wpAny M A (if (["enumerate", "zip", "dict_itemiterator", "dict_reverseitemiterator", "odict_iterator", "itertools.zip_longest", "itertools.pairwise"].contains n && vs[0]? == some (rawInt _)) = true then _ else _) Q E s
           rw [if_neg (by intro h; rw [hn, Bool.false_and] at h; cases h)]
           exact wpAny_pure hQ))
def Itl (K : PySem.W.Frag) (a : Addr) : It :=
  ⟨fun i H => ∃ xs x, SqL K H a xs ∧ xs[i]? = some x, fun i H x H' => H' = H ∧ ∀ xs, SqL K H a xs → xs[i]? = some x, fun i H => ∃ xs, SqL K H a xs ∧ xs.length ≤ i⟩
def Itr (lo : Int) (n : Nat) : It := ⟨fun i _ => i < n, fun i H x H' => H' = H ∧ x = .int (lo + i), fun i _ => n ≤ i⟩
theorem turn_list {P : Program} {w : World} {K : PySem.W.Frag} {tg : Expr} (a it : Addr) : Turn P w K tg (Itl K a) [it] it (fun i h => h.IsListIter it a i) where
  mem := by simp
  obj := fun i h st b hb => by
    have e : b = it := by simpa using hb
    subst e
    obtain ⟨o, e, c, d⟩ := st
    exact ⟨o, e, fun v z => by rw [d] at z; cases z⟩
  keep := fun i h h' st k => st.at fun o e => k it (by simp) o e
  item := by
    intro X hP hw hK hc i pins s σ H E I hf st hg
    subst hP hw hK
    obtain ⟨xs, x, hq, hx⟩ := hg
    obtain ⟨its, rv, p, hz⟩ := I.list hq
    obtain ⟨u, hu, ru⟩ := rv.get hx
    obtain ⟨f0, f1, f2, f3, f4, f5⟩ := hf it (by simp)
    refine wpAny_pyNext_list_item st p.isList (x := u) (by simpa using hu) fun h' st' sb => ?_
    have I1 : Inv X pins σ H { s with heap := h' } := I.turned (t' := s.toks) (fun b o hb e => (sb.2 b hb).trans e) f0 f1 f3 f4 f5
    obtain ⟨o, e, c, d⟩ := id st'
    exact ⟨u, rfl, go_of (s := { s with heap := h' }) e c d (by decide) ⟨x, H, I1, ru, ⟨rfl, fun ys hy => by rw [I.list_inj hy hq]; exact hx⟩, st', fun b hb => (hf b hb).1⟩⟩
  done := by
    intro X hP hw hK hc i pins s σ H E I hf st hg
    subst hP hw hK
    obtain ⟨xs, hq, hx⟩ := hg
    obtain ⟨its, rv, p, hz⟩ := I.list hq
    obtain ⟨f0, f1, f2, f3, f4, f5⟩ := hf it (by simp)
    have hl := rv.length
    exact wpAny_pyNext_list_end (I.ok.hd hc) st p.isList (by simp; omega) fun h' eb => ⟨rfl, I.turned (t' := s.toks) (fun b o hb e => eb b o hb e) f0 f1 f3 f4 f5⟩
  self := fun _ _ _ _ _ st h => wpAny_pyIter_listiter st h
theorem turn_range {P : Program} {w : World} {K : PySem.W.Frag} {tg : Expr} (it : Addr) (lo : Int) (n : Nat) : Turn P w K tg (Itr lo n) [it] it (fun i h => IsRangeIter h it (lo + (i : Nat) * 1) ((n : Int) - (i : Nat)) 1) where
  mem := by simp
  obj := fun i h st b hb => by
    have e : b = it := by simpa using hb
    subst e
    exact ⟨_, st, fun v z => by
      have z' : Data.fields _ = Data.cell v := z
      cases z'⟩
  keep := fun i h h' st k => k it (by simp) _ st
  item := by
    intro X hP hw hK hc i pins s σ H E I hf st hg
    subst hP hw hK
    obtain ⟨f0, f1, f2, f3, f4, f5⟩ := hf it (by simp)
    have W := Walks.range (prog := X.prog) (w := X.w) (I.ok.hd hc) it lo 1 n
    refine W.item i s _ _ hg st fun v h' tk hv st' kk => ?_
    obtain ⟨t, rfl⟩ := hv
    have I1 : Inv X pins σ H { s with heap := h', toks := tk } := I.turned (fun b o hb e => kk b o (by simpa using hb) e) f0 f1 f3 f4 f5
    refine ⟨_, rfl, go_of (s := { s with heap := h', toks := tk }) (n := "range_iterator") st' rfl rfl (by decide) ⟨.int (lo + i), H, I1, ⟨t, ?_⟩, ⟨rfl, rfl⟩, st', fun b hb => (hf b hb).1⟩⟩
    rw [Int.mul_one]
  done := by
    intro X hP hw hK hc i pins s σ H E I hf st hg
    subst hP hw hK
    obtain ⟨f0, f1, f2, f3, f4, f5⟩ := hf it (by simp)
    exact wpAny_pyNext_range_end (I.ok.hd hc) st (by have : n ≤ i := hg; omega) fun h' eb => ⟨rfl, I.turned (t' := s.toks) (fun b o hb e => eb b o hb e) f0 f1 f3 f4 f5⟩
  self := fun _ _ _ _ _ st h => wpAny_pyIter_rangeiter st h
end L2
namespace L2
open PySem PySem.Spec PyProof.Rows
section
variable {X : Cx} {tg : Expr}
def iList (K : PySem.W.Frag) (tl : TE) : TI := fun σ H R => tl σ H fun x H1 => ∃ a, x = .ref a ∧ (∃ xs, SqL K H1 a xs) ∧ R (Itl K a) H1
theorem pi_list {l : Expr} {tl : TE} (hl : PE X l tl) : PI X tg l (iList X.K tl) := by
  intro pins s σ H R I h
  refine thn (hl pins s σ H _ I h) fun v s1 ⟨x, H1, I1, r1, q1⟩ => ?_
  obtain ⟨a, e, ⟨xs, hq⟩, q⟩ := q1
  subst e
  cases r1
  obtain ⟨its, rv, p, hz⟩ := I1.list hq
  refine wpAny_pyIter_list p.isList ?_
  refine ⟨s1.heap.objs.size, [s1.heap.objs.size], _, _, H1, rfl, I1.kept (t' := s1.toks) fun b o e => Heap.get?_push_of_some _ e, turn_list a _, ⟨_, Heap.get?_push_size _ rfl, rfl, rfl⟩, fun b hb => ?_, q⟩
  have e : b = s1.heap.objs.size := by simpa using hb
  subst e
  exact I1.fpOk (Nat.le_refl _) (I1.hok.fresh (Nat.le_refl _))
theorem range_it {pins : List (Addr × Obj)} {σ : St} {H : Hp} {s : Shared} {R : It → Hp → Prop} {E : Value → Shared → Prop} {lo hi : Int} {t u v : Tok} {tk : Nat} (I : Inv X pins σ H s) (h1 : -(2 ^ 62) ≤ lo) (h2 : lo < 2 ^ 62) (h3 : -(2 ^ 62) ≤ hi) (h4 : hi < 2 ^ 62)
    (q : R (Itr lo (hi - lo).toNat) H) : wpAny (model X.prog X.w) X.A (pyIter (.ref s.heap.objs.size)) (PIE X pins σ tg R) E { s with heap := s.heap.push { cls := .type "range", data := .fields #[.int lo t, .int hi u, .int 1 v] }, toks := tk } := by
  refine wpAny_pyIter_range (IsRange.new ..) (small_one h1 h2 h3 h4) ?_
  have I1 : Inv X pins σ H { s with heap := s.heap.push { cls := .type "range", data := .fields #[.int lo t, .int hi u, .int 1 v] }, toks := tk } := I.kept fun b o e => Heap.get?_push_of_some _ e
  refine ⟨(s.heap.push { cls := .type "range", data := .fields #[.int lo t, .int hi u, .int 1 v] }).objs.size, [(s.heap.push { cls := .type "range", data := .fields #[.int lo t, .int hi u, .int 1 v] }).objs.size], _, _, H, rfl,
    I1.kept (t' := tk) fun b o e => Heap.get?_push_of_some _ e, turn_range _ lo (hi - lo).toNat, ?_, fun b hb => ?_, q⟩
  · have e1 : lo + ((0 : Nat) : Int) * 1 = lo := by simp
    have e2 : (((hi - lo).toNat : Nat) : Int) - ((0 : Nat) : Int) = Builtin.Range.rangeSize lo hi 1 := by rw [rangeSize_one]; split <;> omega
    show IsRangeIter _ _ (lo + ((0 : Nat) : Int) * 1) ((((hi - lo).toNat : Nat) : Int) - ((0 : Nat) : Int)) 1
    rw [e1, e2]
    exact Heap.get?_push_size _ rfl
  · have e : b = (s.heap.push { cls := .type "range", data := .fields #[.int lo t, .int hi u, .int 1 v] }).objs.size := by simpa using hb
    subst e
    exact I1.fpOk (Nat.le_refl _) (I1.hok.fresh (Nat.le_refl _))
def iRng1 (ta : TA) : TI := fun σ H R => ta σ H fun vs H1 => ∃ j : Int, vs = [.int j] ∧ -(2 ^ 62) ≤ j ∧ j < 2 ^ 62 ∧ R (Itr 0 j.toNat) H1
theorem pi_range1 {a : Expr} {ta : TA} {p pos : Pos} (hg : Gl X "range") (hm : X.mg "range" = none) (ha : PA X [a] ta) (hs : starEach [a] X.env = [(false, eval a X.env)] := by rfl) : PI X tg (.Call (.Name "range" p) [a] [] pos) (iRng1 ta) := by
  intro pins s σ H R I h
  refine Call_ (ld_blt I hg hm boot_range (PyProof.Rows.callWith_type1 (thn (ha pos pins s σ H _ I h) fun us s1 ⟨vs, H1, I1, r1, q1⟩ => ?_) hs rfl))
  obtain ⟨j, e, q1, q2, q⟩ := q1
  subst e
  cases r1 with
  | cons r rr =>
    cases rr
    obtain ⟨t, rfl⟩ := r
    exact call_range_1 (range_it I1 (by omega) (by omega) q1 q2 (by simpa using q))
def tFor (wi : TI) (g : TG) (tb : TS) : TS := fun D σ H => wi σ H fun J H1 => ∃ W : Nat → Nat → St → Hp → Prop, (∃ m, W 0 m σ H1) ∧ ∀ i m σ H, W i m σ H →
  (J.stop i H ∧ D.nx σ H) ∨ (J.go i H ∧ ∃ N : St → Hp → Prop, (∀ σ' H', N σ' H' → ∃ m', m' < m ∧ W (i + 1) m' σ' H') ∧ ∀ x H', J.yld i H x H' → g x σ H' fun σ2 H2 => tb { D with nx := N, ct := N, bk := D.nx } σ2 H2)
def pinsAt (fp : List Addr) (h : Heap) : List (Addr × Obj) := fp.filterMap fun b => (h.get? b).map fun o => (b, o)
theorem mem_pinsAt {fp : List Addr} {h : Heap} {b : Addr} {o : Obj} (hb : b ∈ fp) (e : h.get? b = some o) : (b, o) ∈ pinsAt fp h := List.mem_filterMap.mpr ⟨b, hb, by rw [e]; rfl⟩
theorem of_pinsAt {fp : List Addr} {h : Heap} {p : Addr × Obj} (hp : p ∈ pinsAt fp h) : p.1 ∈ fp ∧ h.get? p.1 = some p.2 := by
  obtain ⟨b, hb, e⟩ := List.mem_filterMap.mp hp
  cases q : h.get? b with
  | none => rw [q] at e; cases e
  | some o =>
    rw [q] at e
    have e' : (b, o) = p := Option.some.inj e
    subst e'
    exact ⟨hb, q⟩
theorem Inv.pinned {pins : List (Addr × Obj)} {σ : St} {H : Hp} {s : Shared} {fp : List Addr} (I : Inv X pins σ H s) (hf : ∀ b ∈ fp, FpOk X pins H b) (ho : ∀ b ∈ fp, ∃ o, s.heap.get? b = some o ∧ ∀ v, o.data ≠ .cell v) : Inv X (pins ++ pinsAt fp s.heap) σ H s :=
  I.pins_of fun p hp => (List.mem_append.mp hp).elim (fun z => I.pin p (List.mem_append_right _ z)) fun z => by
    obtain ⟨hb, e⟩ := of_pinsAt z
    obtain ⟨f0, f1, f2, _⟩ := hf p.1 hb
    obtain ⟨o, e', d⟩ := ho p.1 hb
    rw [e] at e'; cases e'
    exact ⟨e, f0, f1, f2, d⟩
theorem Inv.unpinned {pins pl : List (Addr × Obj)} {σ : St} {H : Hp} {s : Shared} (I : Inv X (pins ++ pl) σ H s) : Inv X pins σ H s := I.pins_of fun p hp => I.pin p (List.mem_append_right _ (List.mem_append_left _ hp))
theorem ps_for {iter : Expr} {body : List Stmt} {wi : TI} {g : TG} {tb : TS} {pos : Pos} (hp : PassesOwn (model X.prog X.w) X.A X.env X.xe) (hc : X.calm = true) (hi : PI X tg iter wi) (hg : PG X tg g) (hb : PSs X body tb)
    (hs : ∀ x, foldedSetIterable iter X.env x = pure x := by intro _; rfl) : PS X (.For tg iter body [] pos) (tFor wi g tb) := by
  intro pins s σ H D I h
  refine wpAny_For (thn (hi pins s σ H _ I h) fun v s1 h1 => thn h1 fun itv s2 h2 => ?_) hs
  obtain ⟨it, fp, tn, J, H2, e, I2, T, st2, f2, W, ⟨m0, w0⟩, turn⟩ := h2
  subst e
  have stat : ∀ {H' : Hp}, (∀ b ∈ fp, H' b = none) → ∀ b ∈ fp, FpOk X pins H' b := fun hn b hb => ⟨hn b hb, (f2 b hb).2⟩
  refine codeAny_forLoop_any (fun n s' => ∃ i σ' H', Inv X pins σ' H' s' ∧ tn i s'.heap ∧ (∀ b ∈ fp, H' b = none) ∧ W i n σ' H') ?_ m0 ⟨0, σ, H2, I2, st2, fun b hb => (f2 b hb).1, w0⟩
  rintro n s3 ⟨i, σ3, H3, I3, st3, fr3, w3⟩
  rcases turn i n σ3 H3 w3 with ⟨stop, qn⟩ | ⟨go, N, hN, step⟩
  · refine wpAny_passesOwn hp (thn (T.done X rfl rfl rfl hc i pins s3 σ3 H3 X.xe I3 (stat fr3) st3 stop) fun r s4 ⟨hr, I4⟩ => ?_)
    subst hr
    exact wpAny_execs_nil ⟨σ3, H3, I4, qn⟩
  · refine wpAny_passesOwn hp (thn (T.item X rfl rfl rfl hc i pins s3 σ3 H3 X.xe I3 (stat fr3) st3 go) fun r s4 ⟨u, hr, h4⟩ => ?_)
    subst hr
    refine wpAny_passesOwn hp (thn h4 fun _ s5 ⟨x, H5, I5, r5, y5, st5, fr5⟩ => ?_)
    have I5' := I5.pinned (stat fr5) (T.obj _ _ st5)
    refine wpAny_passesOwn hp (thn (hg _ s5 σ3 H5 x u _ I5' r5 (step x H5 y5)) fun _ s6 ⟨σ6, H6, I6, q6⟩ => ?_)
    refine wpAny_passesOwn hp (thn (hb _ s6 σ6 H6 _ I6 q6) fun f s7 q7 => ?_)
    have again : ∀ {σ7 : St} {H7 : Hp}, Inv X (pins ++ pinsAt fp s5.heap) σ7 H7 s7 → N σ7 H7 → ∃ m, m < n ∧ ∃ i σ' H', Inv X pins σ' H' s7 ∧ tn i s7.heap ∧ (∀ b ∈ fp, H' b = none) ∧ W i m σ' H' := fun {σ7 H7} I7 n7 => by
      obtain ⟨m', hm, w7⟩ := hN σ7 H7 n7
      refine ⟨m', hm, i + 1, σ7, H7, I7.unpinned, T.keep _ _ _ st5 fun b hb o e => (I7.pin (b, o) (List.mem_append_right _ (List.mem_append_right _ (mem_pinsAt hb e)))).1, fun b hb => ?_, w7⟩
      obtain ⟨o, e, d⟩ := T.obj _ _ st5 b hb
      exact (I7.pin (b, o) (List.mem_append_right _ (List.mem_append_right _ (mem_pinsAt hb e)))).2.1
    cases f with
    | next => obtain ⟨σ7, H7, I7, n7⟩ := q7; exact again I7 n7
    | cont => obtain ⟨σ7, H7, I7, n7⟩ := q7; exact again I7 n7
    | brk => obtain ⟨σ7, H7, I7, q7⟩ := q7; exact ⟨σ7, H7, I7.unpinned, q7⟩
    | ret v => obtain ⟨x7, σ7, H7, I7, r7, q7⟩ := q7; exact ⟨x7, σ7, H7, I7.unpinned, r7, q7⟩
end
theorem for_list {K : PySem.W.Frag} {a : Addr} {xs : List V} {g : TG} {tb : TS} {D : Ends} {σ : St} {H : Hp} (Pv : Nat → St → Hp → Prop) (h0 : Pv 0 σ H) (hl : ∀ i σ H, i ≤ xs.length → Pv i σ H → SqL K H a xs)
    (hs : ∀ i x σ H, xs[i]? = some x → Pv i σ H → g x σ H fun σ2 H2 => tb { D with nx := Pv (i + 1), ct := Pv (i + 1), bk := D.nx } σ2 H2) (hd : ∀ σ H, Pv xs.length σ H → D.nx σ H) :
    ∃ W : Nat → Nat → St → Hp → Prop, (∃ m, W 0 m σ H) ∧ ∀ i m σ H, W i m σ H →
      ((Itl K a).stop i H ∧ D.nx σ H) ∨ ((Itl K a).go i H ∧ ∃ N : St → Hp → Prop, (∀ σ' H', N σ' H' → ∃ m', m' < m ∧ W (i + 1) m' σ' H') ∧ ∀ x H', (Itl K a).yld i H x H' → g x σ H' fun σ2 H2 => tb { D with nx := N, ct := N, bk := D.nx } σ2 H2) := by
  refine ⟨fun i m σ H => m = xs.length - i ∧ i ≤ xs.length ∧ Pv i σ H, ⟨xs.length, by simp, Nat.zero_le _, h0⟩, ?_⟩
  rintro i m σ H ⟨rfl, hi, p⟩
  have q := hl i σ H hi p
  by_cases hlt : i < xs.length
  · refine .inr ⟨⟨xs, xs[i], q, by simp [hlt]⟩, Pv (i + 1), fun σ' H' p' => ⟨xs.length - (i + 1), by omega, rfl, hlt, p'⟩, fun x H' y => ?_⟩
    obtain ⟨e, y⟩ := y
    subst e
    exact hs i x σ _ (y xs q) p
  · have e : i = xs.length := by omega
    subst e
    exact .inl ⟨⟨xs, q, Nat.le_refl _⟩, hd σ H p⟩
theorem for_range {lo : Int} {n : Nat} {g : TG} {tb : TS} {D : Ends} {σ : St} {H : Hp} (Pv : Nat → St → Hp → Prop) (h0 : Pv 0 σ H)
    (hs : ∀ i σ H, i < n → Pv i σ H → g (.int (lo + i)) σ H fun σ2 H2 => tb { D with nx := Pv (i + 1), ct := Pv (i + 1), bk := D.nx } σ2 H2) (hd : ∀ σ H, Pv n σ H → D.nx σ H) :
    ∃ W : Nat → Nat → St → Hp → Prop, (∃ m, W 0 m σ H) ∧ ∀ i m σ H, W i m σ H →
      ((Itr lo n).stop i H ∧ D.nx σ H) ∨ ((Itr lo n).go i H ∧ ∃ N : St → Hp → Prop, (∀ σ' H', N σ' H' → ∃ m', m' < m ∧ W (i + 1) m' σ' H') ∧ ∀ x H', (Itr lo n).yld i H x H' → g x σ H' fun σ2 H2 => tb { D with nx := N, ct := N, bk := D.nx } σ2 H2) := by
  refine ⟨fun i m σ H => m = n - i ∧ i ≤ n ∧ Pv i σ H, ⟨n, by simp, Nat.zero_le _, h0⟩, ?_⟩
  rintro i m σ H ⟨rfl, hi, p⟩
  by_cases hlt : i < n
  · refine .inr ⟨hlt, Pv (i + 1), fun σ' H' p' => ⟨n - (i + 1), by omega, rfl, hlt, p'⟩, fun x H' y => ?_⟩
    obtain ⟨e, y⟩ := y
    subst e y
    exact hs i σ _ hlt p
  · have e : i = n := by omega
    subst e
    exact .inl ⟨Nat.le_refl _, hd σ H p⟩
theorem while_by {c : TT} {tb : TS} {D : Ends} {σ : St} {H : Hp} (Pv : St → Hp → Prop) (μ : St → Hp → Nat) (h0 : Pv σ H)
    (hs : ∀ σ H, Pv σ H → c σ H fun b H1 => if b = true then tb { D with nx := fun σ' H' => Pv σ' H' ∧ μ σ' H' < μ σ H, ct := fun σ' H' => Pv σ' H' ∧ μ σ' H' < μ σ H, bk := D.nx } σ H1 else D.nx σ H1)
    (mono : ∀ σ H Q Q', (∀ b H1, Q b H1 → Q' b H1) → c σ H Q → c σ H Q') : tWhile c tb D σ H := by
  refine ⟨fun m σ H => m = μ σ H ∧ Pv σ H, ⟨_, rfl, h0⟩, ?_⟩
  rintro m σ H ⟨rfl, p⟩
  refine mono σ H _ _ (fun b H1 q => ?_) (hs σ H p)
  cases b with
  | true => exact ⟨_, fun σ' H' ⟨p', l⟩ => ⟨_, l, rfl, p'⟩, q⟩
  | false => exact q
end L2
namespace L2
open PySem PySem.Spec PyProof.Rows
abbrev R2 := V → V → Hp → VK → Prop
def OpR (X : Cx) (f : Value → Value → Sem Value) (r : R2) : Prop :=
  ∀ (pins : List (Addr × Obj)) (s : Shared) (σ : St) (H : Hp) (x y : V) (v u : Value) (Q : VK), Inv X pins σ H s → RelV x v → RelV y u → r x y H Q →
    wpAny (model X.prog X.w) X.A (f v u) (EP X pins σ Q) X.xe s
def UnR (X : Cx) (f : Value → Sem Value) (r : V → Hp → VK → Prop) : Prop :=
  ∀ (pins : List (Addr × Obj)) (s : Shared) (σ : St) (H : Hp) (x : V) (v : Value) (Q : VK), Inv X pins σ H s → RelV x v → r x H Q →
    wpAny (model X.prog X.w) X.A (f v) (EP X pins σ Q) X.xe s
def CallR (X : Cx) (f : Value) (r : List V → Hp → VK → Prop) : Prop :=
  ∀ (pins : List (Addr × Obj)) (s : Shared) (σ : St) (H : Hp) (xs : List V) (us : List Value) (Q : VK), Inv X pins σ H s → Vals xs us → r xs H Q →
    wpAny (model X.prog X.w) X.A (call f us) (EP X pins σ Q) X.xe s
def tOp (r : R2) (ta tb : TE) : TE := fun σ H Q => ta σ H fun x H1 => tb σ H1 fun y H2 => r x y H2 Q
def tUn (r : V → Hp → VK → Prop) (ta : TE) : TE := fun σ H Q => ta σ H fun x H1 => r x H1 Q
def rI (C : Int → Int → Prop) (g : Int → Int → V) : R2 := fun x y H Q => ∃ i j, x = .int i ∧ y = .int j ∧ C i j ∧ Q (g i j) H
def rI0 (g : Int → Int → V) : R2 := fun x y H Q => ∃ i j, x = .int i ∧ y = .int j ∧ Q (g i j) H
def rU (g : Int → V) : V → Hp → VK → Prop := fun x H Q => ∃ i, x = .int i ∧ Q (g i) H
section
variable {X : Cx} {a b c : Expr} {ta tb tc : TE} {pos : Pos}
theorem binT (ha : PE X a ta) (hb : PE X b tb) {pins : List (Addr × Obj)} {s : Shared} {σ : St} {H : Hp} {R : V → V → Hp → Prop} (I : Inv X pins σ H s)
    (h : ta σ H fun x H1 => tb σ H1 fun y H2 => R x y H2) {Q : Value → Shared → Prop} {f : Value → Value → Sem Value}
    (hf : ∀ v u s2 x y H2, Inv X pins σ H2 s2 → RelV x v → RelV y u → R x y H2 → wpAny (model X.prog X.w) X.A (f v u) Q X.xe s2) :
    wpAny (model X.prog X.w) X.A (eval a X.env) (fun v s₁ => wpAny (model X.prog X.w) X.A (eval b X.env) (fun u s₂ => wpAny (model X.prog X.w) X.A (f v u) Q X.xe s₂) X.xe s₁) X.xe s := by
  refine thn (ha pins s σ H _ I h) fun v s1 ⟨x, H1, I1, r1, q1⟩ => ?_
  refine thn (hb pins s1 σ H1 _ I1 q1) fun u s2 ⟨y, H2, I2, r2, q2⟩ => ?_
  exact hf v u s2 x y H2 I2 r1 r2 q2
theorem pe_op {op : Operator} {r : R2} (ho : OpR X (binaryOp op) r) (ha : PE X a ta) (hb : PE X b tb) : PE X (.BinOp a op b pos) (tOp r ta tb) := by
  intro pins s σ H Q I h
  exact wpAny_BinOp (binT ha hb I h fun v u s2 x y H2 I2 rx ry q => ho pins s2 σ H2 x y v u Q I2 rx ry q)
theorem pe_un {op : UnaryOp} {r : V → Hp → VK → Prop} (ho : UnR X (unaryOp op) r) (ha : PE X a ta) : PE X (.UnaryOp op a pos) (tUn r ta) := by
  intro pins s σ H Q I h
  exact UnaryOp_ (thn (ha pins s σ H _ I h) fun v s1 ⟨x, H1, I1, r1, q1⟩ => ho pins s1 σ H1 x v Q I1 r1 q1)
theorem opI {f : Value → Value → Sem Value} {C : Int → Int → Prop} {g : Int → Int → Int}
    (rule : ∀ (i j : Int) (t u : Tok) (s : Shared) (Q : Value → Shared → Prop) (E : Value → Shared → Prop), C i j → Q (.int (g i j) s.toks) { s with toks := s.toks + 1 } → wpAny (model X.prog X.w) X.A (f (.int i t) (.int j u)) Q E s) :
    OpR X f (rI C fun i j => .int (g i j)) := by
  intro pins s σ H x y v u Q I rx ry h
  obtain ⟨i, j, rfl, rfl, hc, q⟩ := h
  obtain ⟨t, rfl⟩ := rx
  obtain ⟨t', rfl⟩ := ry
  exact rule i j t t' s _ _ hc ⟨.int (g i j), H, I.tok _, ⟨_, rfl⟩, q⟩
theorem opI0 {f : Value → Value → Sem Value} {g : Int → Int → Int}
    (rule : ∀ (i j : Int) (t u : Tok) (s : Shared) (Q : Value → Shared → Prop) (E : Value → Shared → Prop), Q (.int (g i j) s.toks) { s with toks := s.toks + 1 } → wpAny (model X.prog X.w) X.A (f (.int i t) (.int j u)) Q E s) :
    OpR X f (rI0 fun i j => .int (g i j)) := by
  intro pins s σ H x y v u Q I rx ry h
  obtain ⟨i, j, rfl, rfl, q⟩ := h
  obtain ⟨t, rfl⟩ := rx
  obtain ⟨t', rfl⟩ := ry
  exact rule i j t t' s _ _ ⟨.int (g i j), H, I.tok _, ⟨_, rfl⟩, q⟩
theorem opB0 {f : Value → Value → Sem Value} {g : Int → Int → Bool}
    (rule : ∀ (i j : Int) (t u : Tok) (s : Shared) (Q : Value → Shared → Prop) (E : Value → Shared → Prop), Q (.bool (g i j)) s → wpAny (model X.prog X.w) X.A (f (.int i t) (.int j u)) Q E s) :
    OpR X f (rI0 fun i j => .bl (g i j)) := by
  intro pins s σ H x y v u Q I rx ry h
  obtain ⟨i, j, rfl, rfl, q⟩ := h
  obtain ⟨t, rfl⟩ := rx
  obtain ⟨t', rfl⟩ := ry
  exact rule i j t t' s _ _ ⟨.bl (g i j), H, I, rfl, q⟩
def CDiv (i j : Int) : Prop := 0 < j ∧ j < 1073741824
theorem op_add : OpR X (binaryOp .Add) (rI0 fun i j => .int (i + j)) := opI0 fun _ _ _ _ _ _ _ q => add_int q
theorem op_sub : OpR X (binaryOp .Sub) (rI0 fun i j => .int (i - j)) := opI0 fun _ _ _ _ _ _ _ q => sub_int q
theorem op_fdiv : OpR X (binaryOp .FloorDiv) (rI CDiv fun i j => .int (i / j)) := opI fun i j _ _ _ _ _ hc q => by
  have h1 : (0 : Int) < j := hc.1
  have h2 : j < 1073741824 := hc.2
  exact floordiv_int (by omega) (by rw [Int.fdiv_eq_ediv_of_nonneg i (by omega)]; exact q) (.inl (PyProof.noPylong_small (by omega)))
theorem op_mod : OpR X (binaryOp .Mod) (rI (fun _ j => 0 < j) fun i j => .int (i % j)) := opI fun i j _ _ _ _ _ hc q => by
  have h1 : (0 : Int) < j := hc
  exact mod_int' (by omega) (by rw [Int.fmod_eq_emod_of_nonneg i (by omega)]; exact q)
theorem unI {f : Value → Sem Value} {g : Int → Int}
    (rule : ∀ (i : Int) (t : Tok) (s : Shared) (Q : Value → Shared → Prop) (E : Value → Shared → Prop), Q (.int (g i) s.toks) { s with toks := s.toks + 1 } → wpAny (model X.prog X.w) X.A (f (.int i t)) Q E s) :
    UnR X f (rU fun i => .int (g i)) := by
  intro pins s σ H x v Q I rx h
  obtain ⟨i, rfl, q⟩ := h
  obtain ⟨t, rfl⟩ := rx
  exact rule i t s _ _ ⟨.int (g i), H, I.tok _, ⟨_, rfl⟩, q⟩
theorem un_neg : UnR X (unaryOp .USub) (rU fun i => .int (-i)) := unI fun _ _ _ _ _ q => neg_int q
end
def scal : V → V → Bool
  | .non, .non => true | .non, .int _ => true | .int _, .non => true | .non, .bl _ => true | .bl _, .non => true | .non, .str _ => true | .str _, .non => true
  | .int _, .int _ => true | .bl _, .bl _ => true | .str _, .str _ => true | .byt _, .byt _ => true
  | .int _, .str _ => true | .str _, .int _ => true | .bl _, .str _ => true | .str _, .bl _ => true
  | _, _ => false
def rEq : R2 := fun x y H Q => scal x y = true ∧ Q (.bl (decide (x = y))) H
theorem dec_int {i j : Int} : decide (V.int i = V.int j) = (i == j) := by
  rw [Bool.eq_iff_iff]
  simp
theorem dec_bl {i j : Bool} : decide (V.bl i = V.bl j) = (i == j) := by
  rw [Bool.eq_iff_iff]
  simp
theorem dec_str {i j : Str} : decide (V.str i = V.str j) = (i == j) := by
  rw [Bool.eq_iff_iff]
  simp
theorem dec_byt {i j : Array UInt8} : decide (V.byt i = V.byt j) = (i.toList == j.toList) := by
  rw [Bool.eq_iff_iff]
  cases i
  cases j
  simp
section
variable {X : Cx} {a b c : Expr} {ta tb tc : TE} {pos : Pos}
theorem fin_bl {pins : List (Addr × Obj)} {σ : St} {H : Hp} {s : Shared} {Q : VK} {k k' : Bool} (I : Inv X pins σ H s) (q : Q (.bl k) H) (e : k = k') : EP X pins σ Q (.bool k') s := by
  subst e
  exact ⟨.bl k, H, I, rfl, q⟩
theorem op_eq : OpR X (compareOp .Eq) rEq := by
  intro pins s σ H x y v u Q I rx ry h
  obtain ⟨hs, q⟩ := h
  cases x with
  | non =>
    cases rx
    cases y with
    | non => cases ry; exact PySem.EqNone.eq_none_none (fin_bl I q (by simp))
    | bl j => cases ry; exact PySem.EqNone.eq_none_bool (fin_bl I q (by simp))
    | int j => obtain ⟨t', rfl⟩ := ry; exact PySem.EqNone.eq_none_int (fin_bl I q (by simp))
    | str j => obtain ⟨t', rfl⟩ := ry; exact PySem.EqNone.eq_none_str (fin_bl I q (by simp))
    | _ => exact absurd (show false = true from hs) Bool.false_ne_true
  | bl i =>
    cases rx
    cases y with
    | non => cases ry; exact PySem.EqNone.eq_bool_none (fin_bl I q (by simp))
    | bl j => cases ry; exact eq_bool (fin_bl I q dec_bl)
    | str j => obtain ⟨t', rfl⟩ := ry; exact PySem.EqMixed.eq_bool_str (fin_bl I q (by simp))
    | _ => exact absurd (show false = true from hs) Bool.false_ne_true
  | int i =>
    obtain ⟨t, rfl⟩ := rx
    cases y with
    | non => cases ry; exact PySem.EqNone.eq_int_none (fin_bl I q (by simp))
    | int j => obtain ⟨t', rfl⟩ := ry; exact eq_int (fin_bl I q dec_int)
    | str j => obtain ⟨t', rfl⟩ := ry; exact PySem.EqMixed.eq_int_str (fin_bl I q (by simp))
    | _ => exact absurd (show false = true from hs) Bool.false_ne_true
  | str i =>
    obtain ⟨t, rfl⟩ := rx
    cases y with
    | non => cases ry; exact PySem.EqNone.eq_str_none (fin_bl I q (by simp))
    | bl j => cases ry; exact PySem.EqMixed.eq_str_bool (fin_bl I q (by simp))
    | int j => obtain ⟨t', rfl⟩ := ry; exact PySem.EqMixed.eq_str_int (fin_bl I q (by simp))
    | str j => obtain ⟨t', rfl⟩ := ry; exact eq_str (fin_bl I q dec_str)
    | _ => exact absurd (show false = true from hs) Bool.false_ne_true
  | byt i =>
    obtain ⟨t, rfl⟩ := rx
    cases y with
    | byt j => obtain ⟨t', rfl⟩ := ry; exact PySem.W.eq_bytes (fin_bl I q dec_byt)
    | _ => exact absurd (show false = true from hs) Bool.false_ne_true
  | _ => cases y <;> exact absurd (show false = true from hs) Bool.false_ne_true
theorem op_lt : OpR X (compareOp .Lt) (rI0 fun i j => .bl (decide (i < j))) := opB0 fun _ _ _ _ _ _ _ q => lt_int q
theorem op_le : OpR X (compareOp .LtE) (rI0 fun i j => .bl (decide (i ≤ j))) := opB0 fun _ _ _ _ _ _ _ q => le_int q
theorem op_gt : OpR X (compareOp .Gt) (rI0 fun i j => .bl (decide (j < i))) := opB0 fun _ _ _ _ _ _ _ q => gt_int q
theorem op_ge : OpR X (compareOp .GtE) (rI0 fun i j => .bl (decide (j ≤ i))) := opB0 fun _ _ _ _ _ _ _ q => ge_int q
theorem op_in_str : OpR X (compareOp .In) (fun x y H Q => ∃ i j, x = .str i ∧ y = .str j ∧ Q (.bl (!(Builtin.Str.occurrences j i 0 j.length 1).isEmpty)) H) := by
  intro pins s σ H x y v u Q I rx ry h
  obtain ⟨i, j, rfl, rfl, q⟩ := h
  obtain ⟨t, rfl⟩ := rx
  obtain ⟨t', rfl⟩ := ry
  exact in_str (fin_bl I q rfl)
theorem op_isN : OpR X (compareOp .Is) (fun x y H Q => y = .non ∧ Q (.bl (decide (x = .non))) H) := by
  intro pins s σ H x y v u Q I rx ry h
  obtain ⟨rfl, q⟩ := h
  cases ry
  refine is_none_gen (fin_bl I q ?_)
  cases x <;> first
    | (cases rx; rfl)
    | (obtain ⟨t, rfl⟩ := rx; rfl)
theorem op_notN : OpR X (compareOp .IsNot) (fun x y H Q => y = .non ∧ Q (.bl (!decide (x = .non))) H) := by
  intro pins s σ H x y v u Q I rx ry h
  obtain ⟨rfl, q⟩ := h
  cases ry
  refine isnot_none_gen (fin_bl I q ?_)
  cases x <;> first
    | (cases rx; rfl)
    | (obtain ⟨t, rfl⟩ := rx; rfl)
theorem op_notin_str : OpR X (compareOp .NotIn) (fun x y H Q => ∃ i j, x = .str i ∧ y = .str j ∧ Q (.bl (!(!(Builtin.Str.occurrences j i 0 j.length 1).isEmpty))) H) := by
  intro pins s σ H x y v u Q I rx ry h
  obtain ⟨i, j, rfl, rfl, q⟩ := h
  obtain ⟨t, rfl⟩ := rx
  obtain ⟨t', rfl⟩ := ry
  exact notIn_str (fin_bl I q rfl)
theorem nomark (b : Expr) {op : CmpOp} (h : op ≠ .In := by decide) (h2 : op ≠ .NotIn := by decide) : behindInMarks op b = false := by
  have e1 : (op == CmpOp.In) = false := by cases op <;> first | rfl | exact absurd rfl h
  have e2 : (op == CmpOp.NotIn) = false := by cases op <;> first | rfl | exact absurd rfl h2
  cases b <;> simp [behindInMarks, e1, e2]
theorem pe_cmpR {op : CmpOp} {r : R2} (ho : OpR X (compareOp op) r) (ha : PE X a ta) (hb : PE X b tb) (hm : behindInMarks op b = false) : PE X (.Compare a [op] [b] pos) (tOp r ta tb) := by
  intro pins s σ H Q I h
  exact wpAny_Compare1 (binT ha hb I h fun v u s2 x y H2 I2 rx ry q => ho pins s2 σ H2 x y v u Q I2 rx ry q) hm
def tTest (t : TE) : TT := fun σ H Q => t σ H fun x H' => ∃ k, x = .bl k ∧ Q k H'
theorem pt_cmpR {op : CmpOp} {r : R2} (ho : OpR X (compareOp op) r) (ha : PE X a ta) (hb : PE X b tb) (hm : behindInMarks op b = false) : PT X (.Compare a [op] [b] pos) (tTest (tOp r ta tb)) := by
  intro pins s σ H Q I h
  refine wpAny_isTrue_Compare1 (thn (ha pins s σ H _ I h) fun v s1 ⟨x, H1, I1, r1, q1⟩ => thn (hb pins s1 σ H1 _ I1 q1) fun u s2 ⟨y, H2, I2, r2, q2⟩ =>
    thn (ho pins s2 σ H2 x y v u _ I2 r1 r2 q2) fun c s3 ⟨z, H3, I3, r3, k, e, q3⟩ => ?_) hm
  subst e
  cases r3
  exact wpAny_truthy_bool ⟨H3, I3, q3⟩
def tChain (r r' : R2) (ta tb tc : TE) : TE := fun σ H Q => ta σ H fun x H1 => tb σ H1 fun y H2 => r x y H2 fun z H3 => ∃ k, z = .bl k ∧
  (if k = true then tc σ H3 fun w' H4 => r' y w' H4 Q else Q (.bl false) H3)
theorem pt_chain {op op' : CmpOp} {r r' : R2} (ho : OpR X (compareOp op) r) (ho' : OpR X (compareOp op') r') (ha : PE X a ta) (hb : PE X b tb) (hc : PE X c tc)
    (hm : lastMarks [op, op'] [b, c] = false := by with_unfolding_all rfl) : PT X (.Compare a [op, op'] [b, c] pos) (tTest (tChain r r' ta tb tc)) := by
  intro pins s σ H Q I h
  refine isTrue_chain (thn (ha pins s σ H _ I h) fun v s1 ⟨x, H1, I1, r1, q1⟩ => test_link (thn (hb pins s1 σ H1 _ I1 q1) fun u s2 ⟨y, H2, I2, r2, q2⟩ =>
    thn (ho pins s2 σ H2 x y v u _ I2 r1 r2 q2) fun d s3 ⟨z, H3, I3, r3, k, e, q3⟩ => ?_)) hm
  subst e
  cases r3
  refine wpAny_truthy_bool ?_
  cases k with
  | false =>
    obtain ⟨k', e', q'⟩ := q3
    cases e'
    exact ite_ff ⟨H3, I3, q'⟩
  | true =>
    refine ite_tt (test_last (thn (hc pins s3 σ H3 _ I3 q3) fun w' s4 ⟨z', H4, I4, r4, q4⟩ => thn (ho' pins s4 σ H4 y z' u w' _ I4 r2 r4 q4) fun d' s5 ⟨z2, H5, I5, r5, k2, e2, q5⟩ => ?_))
    subst e2
    cases r5
    exact wpAny_truthy_bool ⟨H5, I5, q5⟩
theorem line63 : (sizeLine : Nat) < 2 ^ 63 := by rw [sizeLine_eq]; decide
theorem op_add_str : OpR X (binaryOp .Add) (fun x y H Q => ∃ i j, x = .str i ∧ y = .str j ∧ i.length + j.length ≤ sizeLine ∧ Q (.str (i ++ j)) H) := by
  intro pins s σ H x y v u Q I rx ry h
  obtain ⟨i, j, rfl, rfl, hz, q⟩ := h
  obtain ⟨t, rfl⟩ := rx
  obtain ⟨t', rfl⟩ := ry
  exact add_str (fun t' tk => ⟨.str (i ++ j), H, I.tok _, ⟨_, rfl⟩, q⟩) hz
theorem vals1 {x : V} {us : List Value} (r : Vals [x] us) : ∃ u, us = [u] ∧ RelV x u := by
  cases r with
  | cons r1 r2 => cases r2; exact ⟨_, rfl, r1⟩
theorem vals2 {x y : V} {us : List Value} (r : Vals [x, y] us) : ∃ u w', us = [u, w'] ∧ RelV x u ∧ RelV y w' := by
  cases r with
  | cons r1 r2 =>
    cases r2 with
    | cons r3 r4 => cases r4; exact ⟨_, _, rfl, r1, r3⟩
theorem call_int1 : CallR X (.type "int") (fun xs H Q => (∃ i, xs = [.int i] ∧ Q (.int i) H) ∨ ∃ k, xs = [.bl k] ∧ Q (.int (if k then 1 else 0)) H) := by
  intro pins s σ H xs us Q I r h
  rcases h with ⟨i, rfl, q⟩ | ⟨k, rfl, q⟩
  · obtain ⟨u, rfl, t, rfl⟩ := vals1 r
    exact call_int_int ⟨.int i, H, I, ⟨_, rfl⟩, q⟩
  · obtain ⟨u, rfl, r1⟩ := vals1 r
    cases r1
    exact call_int_bool ⟨.int (if k then 1 else 0), H, I.tok _, ⟨_, rfl⟩, q⟩
end
end L2
namespace L2
open PySem PySem.Spec PyProof.Rows
structure ObjM (h : Heap) (x dx C : Addr) (mA : Str → Option Value) : Prop where
  obj : h.get? x = some (PySem.W.instObj C dx)
  ns : h.Ns1 dx mA
  ne : dx ≠ x
theorem lookIn_ns {h : Heap} {dx : Addr} {mA : Str → Option Value} (n : h.Ns1 dx mA) : ∃ od, h.get? dx = some od ∧ ∀ name, PySem.W.lookIn name od = some (mA name) := by
  obtain ⟨o, es, ep, ho, hd, hk, _, hm⟩ := n
  refine ⟨o, ho, fun name => ?_⟩
  have e := hm name
  unfold nsFind findBy at e
  rw [← Array.find?_toList] at e
  unfold PySem.W.lookIn
  rw [hd]
  dsimp only
  split
  · rename_i y q
    rw [q] at e
    exact congrArg some e
  · rename_i q
    rw [q] at e
    have a : es.toList.any (·.refKey) = false := by
      rw [List.any_eq_false]
      intro y hy
      obtain ⟨z, t, hkey⟩ := hk y (Array.mem_toList_iff.mp hy)
      simp [DictEntry.refKey, hkey]
    have a' : ¬ es.toList.any (·.refKey) = true := by rw [a]; exact Bool.false_ne_true
    rw [if_neg a']
    exact congrArg some e
theorem ObjM.look {h : Heap} {x dx C : Addr} {mA : Str → Option Value} (I : ObjM h x dx C mA) : ∃ od, PySem.W.InstAt h x (PySem.W.instObj C dx) C (some od) ∧ ∀ name, PySem.W.lookIn name od = some (mA name) :=
  let ⟨od, ho, hl⟩ := lookIn_ns I.ns
  ⟨od, ⟨I.obj, rfl, rfl, ho⟩, hl⟩
section
variable {prog : Program} {w : World} {A : Around} {E : Value → Shared → Prop} {s : Shared} {K : PySem.W.Frag} {x dx C f : Addr} {mA : Str → Option Value} {name : Str} {v : Value}
theorem get_map {expr : Bool} {Q : Value → Shared → Prop} (X : K.In s.heap) (I : ObjM s.heap x dx C mA) (hg : PySem.W.plainGet K C name = true) (hh : PySem.W.hasDictIn K C = true)
    (ha : PySem.W.findIn K (.ref C) name = some none) (hv : mA name = some v) (hv' : PySem.W.handedIn v = true) (h : Q v { s with toks := s.toks + 1 }) :
    wpAny (model prog w) A (getAttr (.ref x) name expr) Q E s := by
  obtain ⟨od, J, hl⟩ := I.look
  exact PySem.W.get_value X J (PySem.W.plainGet_of hg).1 (PySem.W.findObj_own hh ha rfl (by rw [hl, hv])) hv' h
theorem get_meth {pl : Sem Bool} {Q : Value × List Value → Shared → Prop} (X : K.In s.heap) (I : ObjM s.heap x dx C mA) (hg : PySem.W.plainGet K C name = true)
    (hf : PySem.W.findIn K (.ref C) name = some (some (.ref f))) (ht : PySem.W.isFn K (.ref f) = true) (hv : mA name = none) (h : Q (.ref f, [.ref x]) s) :
    wpAny (model prog w) A (getMethod (.ref x) name pl) Q E s := by
  obtain ⟨od, J, hl⟩ := I.look
  exact PySem.W.method_fn X J (PySem.W.plainGet_of hg).1 (PySem.W.plainGet_of hg).2 hf (beq_iff_eq.mp ht) (by show (PySem.W.lookIn name od).map (·.isSome) = some false; rw [hl, hv]; rfl) h
theorem set_map {ns : List Str} {Q : Unit → Shared → Prop} (X : K.In s.heap) (I : ObjM s.heap x dx C mA)
    (hs : PySem.W.findIn K (.ref C) "__setattr__" = some (some (.builtin "object.__setattr__"))) (hp : PySem.W.plainOver K C = true) (ht : PySem.W.takerIn K C name = some none) (hh : PySem.W.hasDictIn K C = true)
    (hw : PySem.Within mA ns) (hsz : ns.length ≤ sizeLine)
    (h : ∀ h', ObjM h' x dx C (fun y => if y = name then some v else mA y) → Heap.SameBut dx s.heap h' → Q () { s with heap := h', toks := s.toks + 2 }) :
    wpAny (model prog w) A (setAttr (.ref x) name v) Q E s := by
  obtain ⟨od, J, hl⟩ := I.look
  refine PySem.W.set_plain X J hs (PySem.W.osa_open (s := { s with toks := s.toks + 1 }) (r := none) X J hp ht fun b => ?_)
  obtain ⟨cd, hc, hd'⟩ := PySem.W.any_some hh
  have hx : s.heap.get? x = some ⟨.ref C, some dx, .plain, #[]⟩ := I.obj
  refine wpAny_bind (wpAny_pure (wpAny_bind (wpAny_bind (wpAny_loadPart hx (wpAny_bind (PySem.W.Looks.here (s := { s with toks := s.toks + 1 }) (PySem.W.looks_clsIn X hc) ?_))))))
  rw [hd']
  refine wpAny_pure (a := some dx) (wpAny_bind (wpAny_pure (wpAny_bind ?_)))
  refine wpAny_nsSet1 (s := { s with toks := s.toks + 1 }) I.ns fun h' hn2 hs2 => ?_
  obtain ⟨oD, esD, epD, hoD, hdD, hcD⟩ := hn2.count (PySem.Within.cons name v hw)
  refine wpAny_bind (wpAny_lookBehind hoD (by rw [hdD]; exact pastItsLine_dict (Nat.le_trans hcD (by rw [List.length_cons]; omega))) ?_)
  exact wpAny_pure (h _ ⟨(hs2.2 _ (Ne.symm I.ne)).trans I.obj, hn2, I.ne⟩ hs2)
theorem make_map {R : Result → Shared → Prop} {vs : List Value} {kw : List (Str × Value)} (X : K.In s.heap) (hm : PySem.W.makesIn K C = true)
    (hi : PySem.W.findIn K (.ref C) "__init__" = some (some (.ref f))) (hf : PySem.W.typeIn K (.ref f) = some (.type "function"))
    (h : codeAny (model prog w) (A.under (.builtin "type.__call__" ⟨.ref C :: vs, kw⟩)) (.call (.ref f) ⟨.ref (s.heap.objs.size + 1) :: vs, kw⟩) (PySem.W.InitBack (s.heap.objs.size + 1) R)
      { s with heap := (s.heap.push PySem.W.emptyDict).push (PySem.W.instObj C s.heap.objs.size) }) :
    codeAny (model prog w) A (.call (.ref C) ⟨vs, kw⟩) R s := by
  obtain ⟨hh, g, d, t, os⟩ := s
  exact PySem.W.make_core (PySem.W.makes_of X hm) (PySem.W.looks_findIn X hi) (fun self => PySem.W.bind_fn X self hf) (.inl rfl) h
theorem make_map0 {R : Result → Shared → Prop} (X : K.In s.heap) (hm : PySem.W.makesIn K C = true)
    (hi : PySem.W.findIn K (.ref C) "__init__" = some (some (.builtin "object.__init__")))
    (hb : ∀ self, PySem.W.Looks (model prog w) s.heap (bindSpecial (.builtin "object.__init__") self) (.builtin "object.__init__", [self]))
    (h : codeAny (model prog w) (A.under (.builtin "type.__call__" ⟨[.ref C], []⟩)) (.call (.builtin "object.__init__") ⟨[.ref (s.heap.objs.size + 1)], []⟩) (PySem.W.InitBack (s.heap.objs.size + 1) R)
      { s with heap := (s.heap.push PySem.W.emptyDict).push (PySem.W.instObj C s.heap.objs.size) }) :
    codeAny (model prog w) A (.call (.ref C) ⟨[], []⟩) R s := by
  obtain ⟨hh, g, d, t, os⟩ := s
  exact PySem.W.make_core (PySem.W.makes_of X hm) (PySem.W.looks_findIn X hi) hb (.inr ⟨rfl, rfl⟩) h
end
def putF (f : Str) (v : V) : List (Str × V) → List (Str × V)
  | [] => [(f, v)]
  | (g, x) :: r => if g = f then (g, v) :: r else (g, x) :: putF f v r
theorem lookup_putF (f g : Str) (v : V) : ∀ fs : List (Str × V), (putF f v fs).lookup g = if g = f then some v else fs.lookup g
  | [] => by
    show List.lookup g [(f, v)] = _
    by_cases h : g = f
    · have hb : (g == f) = true := beq_iff_eq.mpr h
      simp only [List.lookup, hb, if_pos h]
    · have hb : (g == f) = false := beq_eq_false_iff_ne.mpr h
      simp only [List.lookup, hb, if_neg h]
  | (k, x) :: r => by
    have ih := lookup_putF f g v r
    rw [show putF f v ((k, x) :: r) = (if k = f then (k, v) :: r else (k, x) :: putF f v r) from rfl]
    by_cases hk : k = f
    · rw [if_pos hk]
      by_cases h : g = k
      · have hb : (g == k) = true := beq_iff_eq.mpr h
        simp only [List.lookup, hb, if_pos (h.trans hk)]
      · have hb : (g == k) = false := beq_eq_false_iff_ne.mpr h
        simp only [List.lookup, hb, if_neg (fun e : g = f => h (e.trans hk.symm))]
    · rw [if_neg hk]
      by_cases h : g = k
      · have hb : (g == k) = true := beq_iff_eq.mpr h
        simp only [List.lookup, hb, if_neg (fun e : g = f => hk (h.symm.trans e))]
      · have hb : (g == k) = false := beq_eq_false_iff_ne.mpr h
        simp only [List.lookup, hb]
        exact ih
theorem keys_putF (f : Str) (v : V) : ∀ fs : List (Str × V), f ∈ (putF f v fs).map (·.1) ∧ ∀ g, g ∈ fs.map (·.1) → g ∈ (putF f v fs).map (·.1)
  | [] => ⟨by simp [putF], fun g h => by simp at h⟩
  | (k, x) :: r => by
    obtain ⟨i1, i2⟩ := keys_putF f v r
    rw [show putF f v ((k, x) :: r) = (if k = f then (k, v) :: r else (k, x) :: putF f v r) from rfl]
    by_cases hk : k = f
    · rw [if_pos hk]
      subst hk
      exact ⟨by simp, fun g h => by simpa using h⟩
    · rw [if_neg hk]
      refine ⟨?_, fun g h => ?_⟩
      · rw [List.map_cons]
        exact List.mem_cons_of_mem _ i1
      · rw [List.map_cons] at h ⊢
        rcases List.mem_cons.mp h with e | e
        · exact List.mem_cons.mpr (.inl e)
        · exact List.mem_cons_of_mem _ (i2 g e)
theorem length_putF (f : Str) (v : V) : ∀ fs : List (Str × V), (putF f v fs).length ≤ fs.length + 1
  | [] => by simp [putF]
  | (k, x) :: r => by
    have ih := length_putF f v r
    rw [show putF f v ((k, x) :: r) = (if k = f then (k, v) :: r else (k, x) :: putF f v r) from rfl]
    by_cases hk : k = f
    · rw [if_pos hk, List.length_cons, List.length_cons]; omega
    · rw [if_neg hk, List.length_cons, List.length_cons]; omega
theorem RelO.some_of {v : V} {o : Option Value} (r : RelO (some v) o) : ∃ u, o = some u ∧ RelV v u := by
  cases o with
  | none => exact (show False from r).elim
  | some u => exact ⟨u, rfl, r⟩
theorem RelO.none_of {o : Option Value} (r : RelO none o) : o = none := by
  cases o with
  | none => rfl
  | some u => exact (show False from r).elim
theorem handed_of {v : V} {u : Value} (r : RelV v u) : PySem.W.handedIn u = true := by
  cases v with
  | non => cases (show u = Value.none from r); rfl
  | bl b => cases (show u = Value.bool b from r); rfl
  | int i => obtain ⟨t, e⟩ := (show ∃ t, u = Value.int i t from r); cases e; rfl
  | str x => obtain ⟨t, e⟩ := (show ∃ t, u = Value.str x t from r); cases e; rfl
  | byt b => obtain ⟨t, e⟩ := (show ∃ t, u = Value.bytes b t from r); cases e; rfl
  | flt b => obtain ⟨t, e⟩ := (show ∃ t, u = Value.float b t from r); cases e; rfl
  | ref a => cases (show u = Value.ref a from r); rfl
  | ty n => cases (show u = Value.type n from r); rfl
section
variable {P : Program} {w : World} {H H' : Hp} {h h' : Heap} {a C dx : Addr} {fs fs' : List (Str × V)}
theorem ins_get (hok : HOk P w H h) (e : H a = some (.ins C dx fs)) : ∃ mA, ObjM h a dx C mA ∧ (∀ f, RelO (fs.lookup f) (mA f)) ∧ PySem.Within mA (fs.map (·.1)) ∧ fs.length ≤ 1000 ∧ H dx = some (.own a) := by
  obtain ⟨d, z, ne, ob, mA, n, r, q⟩ := (show ObjOk P w H h a (.ins C dx fs) from hok a _ e)
  exact ⟨mA, ⟨ob, n, ne⟩, r, q, z, d⟩
end
structure Cls (K : PySem.W.Frag) (C : Addr) : Prop where
  pg : PySem.W.plainGet K C Str.empty = true
  hd : PySem.W.hasDictIn K C = true
  po : PySem.W.plainOver K C = true
  sa : PySem.W.findIn K (.ref C) "__setattr__" = some (some (.builtin "object.__setattr__"))
theorem Cls.get {K : PySem.W.Frag} {C : Addr} (c : Cls K C) (f : Str) : PySem.W.plainGet K C f = true := c.pg
def NoAttr (K : PySem.W.Frag) (C : Addr) (f : Str) : Prop := PySem.W.findIn K (.ref C) f = some none
theorem NoAttr.taker {K : PySem.W.Frag} {C : Addr} {f : Str} (n : NoAttr K C f) : PySem.W.takerIn K C f = some none := by
  unfold PySem.W.takerIn
  rw [show PySem.W.findIn K (.ref C) f = some none from n]
  rfl
structure Meth (K : PySem.W.Frag) (C : Addr) (m : Str) (f : Addr) : Prop where
  at_ : PySem.W.findIn K (.ref C) m = some (some (.ref f))
  fn : PySem.W.isFn K (.ref f) = true
  kp : PySem.W.keepIn K (.ref f) = true
section
variable {X : Cx} {pins : List (Addr × Obj)} {σ : St} {H : Hp} {s : Shared} {a C dx : Addr} {fs : List (Str × V)} {f : Str} {v : V} {A : Around} {E : Value → Shared → Prop}
theorem getattr_ok {b : Bool} {Q : Value → Shared → Prop} (I : Inv X pins σ H s) (e : H a = some (.ins C dx fs)) (c : Cls X.K C) (n : NoAttr X.K C f) (l : fs.lookup f = some v)
    (h : ∀ u s', Inv X pins σ H s' → RelV v u → Q u s') : wpAny (model X.prog X.w) A (getAttr (.ref a) f b) Q E s := by
  obtain ⟨mA, O, r, _, _, _⟩ := ins_get I.hok e
  obtain ⟨u, hu, ru⟩ := RelO.some_of (v := v) (o := mA f) (by rw [← l]; exact r f)
  exact get_map I.kIn O (c.get f) c.hd n hu (handed_of ru) (h u _ (I.tok _) ru)
theorem getmeth_ok {m : Str} {g : Addr} {pl : Sem Bool} {Q : Value × List Value → Shared → Prop} (I : Inv X pins σ H s) (e : H a = some (.ins C dx fs)) (c : Cls X.K C) (k : Meth X.K C m g) (l : fs.lookup m = none)
    (h : Q (.ref g, [.ref a]) s) : wpAny (model X.prog X.w) A (getMethod (.ref a) m pl) Q E s := by
  obtain ⟨mA, O, r, _, _, _⟩ := ins_get I.hok e
  have hn : mA m = none := RelO.none_of (by rw [← l]; exact r m)
  exact get_meth I.kIn O (c.get m) k.at_ k.fn hn h
theorem setattr_ok {y : V} {u : Value} {Q : Unit → Shared → Prop} (I : Inv X pins σ H s) (e : H a = some (.ins C dx fs)) (c : Cls X.K C) (n : NoAttr X.K C f) (hl : fs.length < 1000) (ry : RelV y u)
    (h : ∀ s', Inv X pins σ (upd H a (.ins C dx (putF f y fs))) s' → Q () s') : wpAny (model X.prog X.w) A (setAttr (.ref a) f u) Q E s := by
  obtain ⟨mA, O, r, wi, _, ho⟩ := ins_get I.hok e
  have hz : (fs.map (·.1)).length ≤ sizeLine := by rw [List.length_map, sizeLine_eq]; omega
  refine set_map I.kIn O c.sa c.po n.taker c.hd wi hz fun h' O' sb => h _ ?_
  have hd : ∃ o, h'.get? dx = some o := let ⟨o, _, _, e', _⟩ := O'.ns; ⟨o, e'⟩
  refine I.write (x := a) (e := dx) (by rw [e]; exact True.intro) (.inr ho) (fun b q hb z => (sb.2 b hb).trans z) hd ?_
  refine ⟨by rw [upd_ne O.ne]; exact ho, ?_, O.ne, O'.obj, _, O'.ns, fun g => ?_, fun g hg => ?_⟩
  · have := length_putF f y fs; omega
  · show RelO ((putF f y fs).lookup g) (if g = f then some u else mA g)
    rw [lookup_putF]
    by_cases q : g = f
    · rw [if_pos q, if_pos q]; exact ry
    · rw [if_neg q, if_neg q]; exact r g
  · by_cases q : g = f
    · rw [q]; exact (keys_putF f y fs).1
    · refine (keys_putF f y fs).2 g (wi g fun z => hg ?_)
      show (if g = f then some u else mA g) = none
      rw [if_neg q]; exact z
theorem Inv.made (I : Inv X pins σ H s) : Inv X pins σ (upd (upd H s.heap.objs.size (.own (s.heap.objs.size + 1))) (s.heap.objs.size + 1) (.ins C s.heap.objs.size []))
    { s with heap := (s.heap.push PySem.W.emptyDict).push (PySem.W.instObj C s.heap.objs.size) } := by
  have e1 : (s.heap.push PySem.W.emptyDict).get? s.heap.objs.size = some PySem.W.emptyDict := Heap.get?_push_size s.heap rfl
  have e2 : ((s.heap.push PySem.W.emptyDict).push (PySem.W.instObj C s.heap.objs.size)).get? (s.heap.objs.size + 1) = some (PySem.W.instObj C s.heap.objs.size) := by
    have := Heap.get?_push_size (s.heap.push PySem.W.emptyDict) (o := PySem.W.instObj C s.heap.objs.size) rfl
    rwa [Heap.size_push] at this
  have e3 : (s.heap.push PySem.W.emptyDict).Ns s.heap.objs.size (fun _ => none) := ⟨PySem.W.emptyDict, #[], _, e1, rfl, (fun e he => absurd he (by simp)), fun _ => rfl⟩
  have I1 := I.laid (a := s.heap.objs.size) (o := .own (s.heap.objs.size + 1)) (h' := s.heap.push PySem.W.emptyDict) (t' := s.toks) (fun b u q => Heap.get?_push_of_some _ q) (Nat.le_refl _) ⟨_, e1⟩
  refine I1.laid (a := s.heap.objs.size + 1) (o := .ins C s.heap.objs.size []) (t' := s.toks) (fun b u q => Heap.get?_push_of_some _ q) (Nat.le_of_eq (Heap.size_push _ _)) ?_
  have ne : s.heap.objs.size ≠ s.heap.objs.size + 1 := Nat.ne_of_lt (Nat.lt_succ_self _)
  refine ⟨by rw [upd_ne ne, upd_same], Nat.zero_le _, ne, e2, fun _ => none, (Heap.Ns1.of_empty e3).at fun o q => Heap.get?_push_of_some _ q, fun _ => True.intro, fun y hy => absurd rfl hy⟩
theorem attr_of {prog : Program} {w : World} {env : Env} {e : Expr} {f : Str} {pos : Pos} {s : Shared} {Q : Value → Shared → Prop} (hb : attributeBase e f env (eval e env) = eval e env)
    (h : wpAny (model prog w) A (eval e env) (fun o s₁ => wpAny (model prog w) A (getAttr o f true) Q E s₁) E s) : wpAny (model prog w) A (eval (.Attribute e f pos) env) Q E s :=
  Attribute_any_ h (by rw [arm_eval_Attribute, hb])
end
def tFld (K : PySem.W.Frag) (ta : TE) (f : Str) : TE := fun σ H Q => ta σ H fun x H1 => ∃ a C dx fs v, x = .ref a ∧ H1 a = some (.ins C dx fs) ∧ Cls K C ∧ NoAttr K C f ∧ fs.lookup f = some v ∧ Q v H1
def sFld (K : PySem.W.Frag) (ta tv : TE) (f : Str) : TS := fun D σ H => tv σ H fun y H1 => ta σ H1 fun x H2 => ∃ a C dx fs, x = .ref a ∧ H2 a = some (.ins C dx fs) ∧ Cls K C ∧ NoAttr K C f ∧ fs.length < 1000 ∧
  D.nx σ (upd H2 a (.ins C dx (putF f y fs)))
section
variable {X : Cx} {o e value : Expr} {f : Str} {pos pos' tpos : Pos} {ta tv : TE}
theorem pe_fld (he : PE X e ta) (hb : attributeBase e f X.env (eval e X.env) = eval e X.env) : PE X (.Attribute e f pos) (tFld X.K ta f) := by
  intro pins s σ H Q I h
  refine attr_of hb (thn (he pins s σ H _ I h) fun u s1 ⟨x, H1, I1, rx, a, C, dx, fs, v, ex, ea, c, n, l, q⟩ => ?_)
  subst ex
  obtain rfl : u = Value.ref a := rx
  exact getattr_ok I1 ea c n l fun u' s2 I2 ru => ⟨v, H1, I2, ru, q⟩
theorem ps_fld (ha : PE X o ta) (hv : PE X value tv) (hs : swapsWith value (some (.Attribute o f pos')) pos.line X.env = pure false) : PS X (.Assign [.Attribute o f pos'] value pos) (sFld X.K ta tv f) := by
  intro pins s σ H D I h
  refine plainObj_wpAny_Assign_Attribute (thn (hv pins s σ H _ I h) fun u s1 ⟨y, H1, I1, ry, q⟩ => thn (ha pins s1 σ H1 _ I1 q) fun ov s2 ⟨x, H2, I2, rx, a, C, dx, fs, ex, ea, c, n, l, q2⟩ => ?_) hs
  subst ex
  obtain rfl : ov = Value.ref a := rx
  exact setattr_ok I2 ea c n l ry fun s3 I3 => ⟨σ, _, I3, q2⟩
end
section
variable {X : Cx} {pins : List (Addr × Obj)} {σ : St} {H : Hp} {s : Shared} {A : Around} {E : Value → Shared → Prop} {Q : Value → Shared → Prop} {c : Value} {b : Bool}
inductive TyOf (K : PySem.W.Frag) (H : Hp) : V → Value → Prop where
  | non : TyOf K H .non (.type "NoneType")
  | bl (x : Bool) : TyOf K H (.bl x) (.type "bool")
  | int (i : Int) : TyOf K H (.int i) (.type "int")
  | str (x : Str) : TyOf K H (.str x) (.type "str")
  | flt (x : UInt64) : TyOf K H (.flt x) (.type "float")
  | lst {a : Addr} {xs : List V} (e : H a = some (.lst xs)) : TyOf K H (.ref a) (.type "list")
  | frz {a : Addr} {o : Obj} {xs : List V} (e : H a = some (.frz o (.lst xs))) : TyOf K H (.ref a) (.type "list")
  | tup {a : Addr} {xs : List V} (e : H a = some (.tup xs)) : TyOf K H (.ref a) (.type "tuple")
  | dK {a : Addr} {kvs : List (Key × V)} (e : H a = some (.dK kvs)) : TyOf K H (.ref a) (.type "dict")
  | dT {a : Addr} {kvs : List (List Key × V)} (e : H a = some (.dT kvs)) : TyOf K H (.ref a) (.type "dict")
  | ins {a C dx : Addr} {fs : List (Str × V)} (e : H a = some (.ins C dx fs)) (cl : Cls K C) (ha : PySem.W.findIn K (.ref C) "__class__" = some (some (.builtin "object.__class__")))
      (hn : PySem.W.specialIn K (.builtin "object.__class__") "__get__" = some (some (.builtin "getset_descriptor.__get__"))) (htk : PySem.W.takesIn K (.builtin "object.__class__") = some true)
      (hm : PySem.W.mroIn K C (.type "object") = some true) : TyOf K H (.ref a) (.ref C)
theorem isinst_ok {x : V} {u t : Value} (I : Inv X pins σ H s) (rx : RelV x u) (ty : TyOf X.K H x t) (e : PySem.W.kitOne X.K t c = some b) (h : ∀ tk, Q (.bool b) { s with toks := tk }) :
    wpAny (model X.prog X.w) A (call (.builtin "isinstance") [u, c]) Q E s := by
  cases ty with
  | non => cases (show u = Value.none from rx); exact PySem.W.kia_one PySem.W.kitx_none I.kIn True.intro e (fun z => nomatch z) h
  | bl y => cases (show u = Value.bool y from rx); exact PySem.W.kia_one PySem.W.kitx_bool I.kIn True.intro e (fun z => nomatch z) h
  | int i => obtain ⟨t, q⟩ := (show ∃ t, u = Value.int i t from rx); cases q; exact PySem.W.kia_one PySem.W.kitx_int I.kIn True.intro e (fun z => nomatch z) h
  | str y => obtain ⟨t, q⟩ := (show ∃ t, u = Value.str y t from rx); cases q; exact PySem.W.kia_one PySem.W.kitx_str I.kIn True.intro e (fun z => nomatch z) h
  | flt y => obtain ⟨t, q⟩ := (show ∃ t, u = Value.float y t from rx); cases q; exact PySem.W.kia_one PySem.W.kitx_float I.kIn True.intro e (fun z => nomatch z) h
  | @lst a xs ea =>
    cases (show u = Value.ref a from rx)
    obtain ⟨_, _, n, _, h1⟩ := (show ObjOk X.prog X.w H s.heap a (.lst xs) from I.hok a _ ea)
    exact PySem.W.kia_one PySem.W.kitx_list I.kIn ⟨_, h1, rfl⟩ e (fun z => nomatch z) h
  | @frz a ob xs ea =>
    cases (show u = Value.ref a from rx)
    obtain ⟨_, _, _, n, _, h1⟩ := (show ObjOk X.prog X.w H s.heap a (.frz ob (.lst xs)) from I.hok a _ ea)
    exact PySem.W.kia_one PySem.W.kitx_list I.kIn ⟨_, h1, rfl⟩ e (fun z => nomatch z) h
  | @tup a xs ea =>
    cases (show u = Value.ref a from rx)
    obtain ⟨_, _, _, p⟩ := (show ObjOk X.prog X.w H s.heap a (.tup xs) from I.hok a _ ea)
    obtain ⟨o, h1, h2, _⟩ := p
    exact PySem.W.kia_one PySem.W.kitx_tuple I.kIn ⟨o, h1, h2⟩ e (fun z => nomatch z) h
  | @dK a kvs ea =>
    cases (show u = Value.ref a from rx)
    obtain ⟨_, _, vs, _, p⟩ := (show ObjOk X.prog X.w H s.heap a (.dK kvs) from I.hok a _ ea)
    obtain ⟨o, es, ep, h1, h2, _⟩ := p
    exact PySem.W.kia_one PySem.W.kitx_dict I.kIn ⟨o, h1, h2.1⟩ e (fun z => nomatch z) h
  | @dT a kvs ea =>
    cases (show u = Value.ref a from rx)
    obtain ⟨_, _, xs, _, o, es, ep, h1, h2, _⟩ := (show ObjOk X.prog X.w H s.heap a (.dT kvs) from I.hok a _ ea)
    exact PySem.W.kia_one PySem.W.kitx_dict I.kIn ⟨o, h1, h2.1⟩ e (fun z => nomatch z) h
  | @ins a C dx fs ea cl ha hn htk hm =>
    cases (show u = Value.ref a from rx)
    obtain ⟨mA, O, _⟩ := ins_get I.hok ea
    obtain ⟨od, J, _⟩ := O.look
    exact PySem.W.kia_one (PySem.W.kitx_own (cl.get _) cl.hd ha hn htk hm) I.kIn J e (fun z => nomatch z) h
end
end L2
namespace L2
open PySem PySem.Spec PyProof.Rows
structure Room (k : Nat) (A : Around) : Prop where
  hd : A.handled = none
  dp : A.depth + 3 * k + 5 < recursionLimit
  un : A.units + 16 * k + 200 < cLine
theorem Room.mono {j k : Nat} {A : Around} (r : Room k A) (h : j ≤ k) : Room j A := ⟨r.hd, by have := r.dp; omega, by have := r.un; omega⟩
theorem Room.deeper {k : Nat} {A : Around} (r : Room (k + 1) A) (env : Env) : Room k (A.deeper env) :=
  ⟨r.hd, by have := r.dp; show A.depth + 1 + 3 * k + 5 < _; omega, by have := r.un; show A.units + 3 + 16 * k + 200 < _; omega⟩
theorem make_depth {A : Around} {C : Addr} {us : List Value} {kw : List (Str × Value)} : (A.under (.builtin "type.__call__" ⟨.ref C :: us, kw⟩)).depth = A.depth + 1 := by
  first | rfl | simp [Around.under, Code.weight, Code.isCreation, Code.isGuard, Code.isCaller, Code.frames, Code.isFrame, guardIds]
theorem make_units {A : Around} {C : Addr} {us : List Value} {kw : List (Str × Value)} : (A.under (.builtin "type.__call__" ⟨.ref C :: us, kw⟩)).units = A.units + 1 := by
  first | rfl | simp [Around.under, Code.cUnits, Code.frames, Code.isFrame]
theorem Room.make {k : Nat} {A : Around} (r : Room (k + 1) A) (C : Addr) (us : List Value) (kw : List (Str × Value)) : Room k (A.under (.builtin "type.__call__" ⟨.ref C :: us, kw⟩)) :=
  ⟨r.hd, by have := r.dp; rw [make_depth]; omega, by have := r.un; rw [make_units]; omega⟩
theorem Room.depth {k : Nat} {A : Around} (r : Room k A) : A.depth < recursionLimit := by have := r.dp; omega
theorem Room.units0 {k : Nat} {A : Around} (r : Room k A) : A.units < cLine := by have := r.un; omega
def tNil : TA := fun _ H Q => Q [] H
def tCons (ta : TE) (tr : TA) : TA := fun σ H Q => ta σ H fun x H1 => tr σ H1 fun xs H2 => Q (x :: xs) H2
section
variable {X : Cx} {e : Expr} {es : List Expr} {te : TE} {t : TA} {pos : Pos}
theorem pa_nil : PA X [] tNil := fun _ _ _ _ H Q I h => Calls.spliced_nil ⟨[], H, I, .nil, h⟩
theorem pa_cons (ha : PE X e te) (hr : PA X es t) (hs : starEach (e :: es) X.env = (false, eval e X.env) :: starEach es X.env := by rfl) : PA X (e :: es) (tCons te t) := by
  intro pos pins s σ H Q I h
  rw [hs]
  show wpAny _ _ (spliced ((false, eval e X.env) :: backTo pos (starEach es X.env))) _ _ s
  refine Calls.spliced_cons (thn (ha pins s σ H _ I h) fun u s1 ⟨x, H1, I1, r1, q1⟩ => ?_)
  exact thn (hr pos pins s1 σ H1 _ I1 q1) fun us s2 ⟨xs, H2, I2, r2, q2⟩ => ⟨x :: xs, H2, I2, .cons r1 r2, q2⟩
def tTup (t : TA) : TE := fun σ H Q => t σ H fun xs H1 => xs.length ≤ sizeLine ∧ ∀ p, H1 p = none → Q (.ref p) (upd H1 p (.tup xs))
def tLst (t : TA) : TE := fun σ H Q => t σ H fun xs H1 => xs.length ≤ sizeLine ∧ ∀ p, H1 p = none → Q (.ref p) (upd H1 p (.lst xs))
theorem pe_tup {x1} (h : PA X es t) : PE X (.Tuple es x1 pos) (tTup t) := by
  intro pins s σ H Q I hq
  refine wpAny_Tuple_spliced (thn (h pos pins s σ H _ I hq) fun us s1 ⟨xs, H1, I1, r, z, q⟩ => ⟨by rw [← r.length]; exact z, ?_⟩)
  have hf : H1 s1.heap.objs.size = none := I1.hok.fresh (Nat.le_refl _)
  refine ⟨.ref s1.heap.objs.size, upd H1 s1.heap.objs.size (.tup xs), I1.laid (t' := s1.toks) (fun b u e => Heap.get?_push_of_some _ e) (Nat.le_refl _) ?_, rfl, q _ hf⟩
  exact ⟨z, us, r, ⟨_, Heap.get?_push_size _ rfl, rfl, _, rfl⟩⟩
theorem pe_lst (h : PA X es t) : PE X (.List es pos) (tLst t) := by
  intro pins s σ H Q I hq
  refine wpAny_List_spliced (thn (h pos pins s σ H _ I hq) fun us s1 ⟨xs, H1, I1, r, z, q⟩ => ⟨by rw [← r.length]; exact z, ?_⟩)
  have hf : H1 s1.heap.objs.size = none := I1.hok.fresh (Nat.le_refl _)
  refine ⟨.ref s1.heap.objs.size, upd H1 s1.heap.objs.size (.lst xs), I1.laid (t' := s1.toks) (fun b u e => Heap.get?_push_of_some _ e) (Nat.le_refl _) ?_, rfl, q _ hf⟩
  exact ⟨z, us, 0, r, Heap.get?_push_size _ rfl⟩
end
abbrev Sp := List V → Hp → VK → XK → Prop
abbrev CXT := List Env → Hp → Shared → XK → Value → Shared → Prop
structure Env0 (P : Program) (w : World) (K : PySem.W.Frag) (mg : Str → Option Value) (base : Heap) (A : Around) (outer : List Env) (s : Shared) (H : Hp) : Prop where
  frames : A.frames = some outer
  mod : Mod K mg base
  bs : ∀ b o, base.get? b = some o → s.heap.get? b = some o ∧ H b = none
  bsz : base.objs.size ≤ s.heap.objs.size
  funs : s.heap.FunFrames base outer
  frf : ∀ b ∈ frs outer, H b = none
  hok : HOk P w H s.heap
  bare : AllBare s.gens
def CE (outer : List Env) (P : Program) (w : World) (H : Hp) (s : Shared) (Q : VK) (u : Value) (s' : Shared) : Prop :=
  ∃ v H', s'.os = s.os ∧ AllBare s'.gens ∧ Un (frs outer) [] H H' s.heap s'.heap ∧ HOk P w H' s'.heap ∧ RelV v u ∧ Q v H'
def CR (CX : CXT) (outer : List Env) (P : Program) (w : World) (H : Hp) (s : Shared) (Q : VK) (E : XK) (r : Result) (s' : Shared) : Prop :=
  match r with
  | .ok (.ret u) => CE outer P w H s Q u s'
  | .ok _ => False
  | .error e => CX outer H s E e s'
structure FnOk (P : Program) (w : World) (K : PySem.W.Frag) (mg : Str → Option Value) (base : Heap) (CX : CXT) (k : Nat) (f : Addr) (fd : FuncData) (ps : List Str) (sp : Sp) : Prop where
  len : ∀ vs H Q E, sp vs H Q E → vs.length = ps.length
  run : ∀ (A : Around) (outer : List Env) (s : Shared) (H : Hp) (args : Args) (us : List Value) (vs : List V) (Q : VK) (E : XK), Room k A → Env0 P w K mg base A outer s H → BindsTo s fd args (ps.zip us) → Vals vs us → sp vs H Q E →
    codeAny (model P w) A (.call (.ref f) args) (CR CX outer P w H s Q E) s
theorem Env0.make {P : Program} {w : World} {K : PySem.W.Frag} {mg : Str → Option Value} {base : Heap} {A : Around} {outer : List Env} {s : Shared} {H : Hp} (e : Env0 P w K mg base A outer s H) (C : Addr) (us : List Value) (kw : List (Str × Value)) :
    Env0 P w K mg base (A.under (.builtin "type.__call__" ⟨.ref C :: us, kw⟩)) outer s H := ⟨by first | exact e.frames | (simpa [Around.under, Code.envs, Code.isFrame, pushEnvs] using e.frames), e.mod, e.bs, e.bsz, e.funs, e.frf, e.hok, e.bare⟩
section
variable {X : Cx} {pins : List (Addr × Obj)} {σ : St} {H : Hp} {s s' : Shared}
theorem Inv.env0 (I : Inv X pins σ H s) : Env0 X.prog X.w X.K X.mg X.base X.A X.stack s H :=
  ⟨I.ok.frames, I.ok.mod, I.bs, Nat.le_trans I.ok.bsz I.sz, I.stack, I.stkFree, I.hok, I.bare⟩
theorem Inv.after {Q : VK} {u : Value} (I : Inv X pins σ H s) (h : CE X.stack X.prog X.w H s Q u s') : EP X pins σ Q u s' := by
  obtain ⟨v, H', os, bare, un, hok, r, q⟩ := h
  obtain ⟨hh, g, d, t, os'⟩ := s'
  obtain rfl : os' = s.os := os
  exact ⟨v, H', I.call (h' := hh) (g' := g) (d' := d) (t' := t) (ch := []) un hok bare (fun b z => absurd z (by simp)), r, q⟩
end
def tCall (sp : Sp) (dvs : List V) (E : XK) (t : TA) : TE := fun σ H Q => t σ H fun vs H1 => sp (vs ++ dvs) H1 Q E
def tMake (C : Addr) (sp : Sp) (dvs : List V) (E : XK) (t : TA) : TE := fun σ H Q => t σ H fun vs H1 => ∀ x dx, H1 x = none → H1 dx = none → dx ≠ x →
  sp (.ref x :: (vs ++ dvs)) (upd (upd H1 dx (.own x)) x (.ins C dx [])) (fun v H2 => v = .non ∧ Q (.ref x) H2) E
def Binds (K : PySem.W.Frag) (fd : FuncData) (ps : List Str) (ds : List Value) : Prop :=
  ∀ (s : Shared) (us : List Value), K.In s.heap → (us ++ ds).length = ps.length → BindsTo s fd ⟨us, []⟩ (ps.zip (us ++ ds))
theorem Binds.all {K : PySem.W.Frag} {fd : FuncData} {ps : List Str} (h : ∀ us : List Value, us.length = ps.length → bindArgs fd ⟨us, []⟩ = pure (ps.zip us)) : Binds K fd ps [] := fun s us _ hl => by
  rw [List.append_nil] at hl ⊢
  exact .of_eq (h us hl)
def Passes (CX : CXT) (X : Cx) (E : XK) : Prop := ∀ (pins : List (Addr × Obj)) (σ : St) (H : Hp) (s : Shared) (e : Value) (s' : Shared), Inv X pins σ H s → CX X.stack H s E e s' → X.xe e s'
section
variable {X : Cx} {CX : CXT} {k : Nat} {f C : Addr} {fd : FuncData} {ps : List Str} {sp : Sp} {dvs : List V} {ds : List Value} {E : XK} {x m : Str} {p pos apos : Pos} {e o : Expr} {es : List Expr} {ta : TE} {t : TA}
theorem run_fn {pins : List (Addr × Obj)} {σ : St} {H : Hp} {s : Shared} {Q : VK} {us : List Value} {vs : List V} (F : FnOk X.prog X.w X.K X.mg X.base CX k f fd ps sp) (hr : Room k X.A) (hb : Binds X.K fd ps ds) (hd : Vals dvs ds) (hx : Passes CX X E)
    (I : Inv X pins σ H s) (r : Vals vs us) (h : sp (vs ++ dvs) H Q E) : wpAny (model X.prog X.w) X.A (call (.ref f) us) (EP X pins σ Q) X.xe s := by
  have r2 : Vals (vs ++ dvs) (us ++ ds) := r.append hd
  have hl : (us ++ ds).length = ps.length := by rw [← r2.length]; exact F.len _ _ _ _ h
  refine wpAny_call (codeAny_mono (F.run X.A X.stack s H ⟨us, []⟩ (us ++ ds) (vs ++ dvs) Q E hr I.env0 (hb s us I.kIn hl) r2 h) fun r s' hq => ?_)
  cases r with
  | error e => exact hx pins σ H s e s' I hq
  | ok fl =>
    cases fl with
    | ret u => exact I.after hq
    | next => exact False.elim hq
    | brk => exact False.elim hq
    | cont => exact False.elim hq
theorem pe_call (F : FnOk X.prog X.w X.K X.mg X.base CX k f fd ps sp) (hr : Room k X.A) (hg : Gl X x) (hm : X.mg x = some (.ref f)) (hk : PySem.W.keepIn X.K (.ref f) = true) (hb : Binds X.K fd ps ds) (hd : Vals dvs ds) (hx : Passes CX X E)
    (ha : PA X (e :: es) t) (hdb : (x == ("__debug__" : Str)) = false := by decide) (he : starEach (e :: es) X.env = (false, eval e X.env) :: starEach es X.env := by rfl) (hpl : (backTo pos (starEach es X.env)).any (·.1) = false := by rfl) :
    PE X (.Call (.Name x p) (e :: es) [] pos) (tCall sp dvs E t) := by
  intro pins s σ H Q I h
  refine wpAny_Call_Name_kw (ld_glob I hg hm ?_ hdb)
  refine PySem.W.callWith_K (h₀ := X.base) I.ok.mod.kin hk (thn (ha pos pins s σ H _ I h) fun us s1 ⟨vs, H1, I1, r, q⟩ => ⟨I1.kIn, ?_⟩) he hpl
  exact run_fn F hr hb hd hx I1 r q
structure Mk (K : PySem.W.Frag) (C f : Addr) : Prop where
  makes : PySem.W.makesIn K C = true
  init : PySem.W.findIn K (.ref C) "__init__" = some (some (.ref f))
  fn : PySem.W.isFn K (.ref f) = true
  kp : PySem.W.keepIn K (.ref C) = true
theorem run_make {pins : List (Addr × Obj)} {σ : St} {H : Hp} {s : Shared} {Q : VK} {us : List Value} {vs : List V} (M : Mk X.K C f) (F : FnOk X.prog X.w X.K X.mg X.base CX k f fd ps sp) (hr : Room (k + 1) X.A) (hb : Binds X.K fd ps ds) (hd : Vals dvs ds)
    (hx : Passes CX X E) (I : Inv X pins σ H s) (r : Vals vs us)
    (h : ∀ x dx, H x = none → H dx = none → dx ≠ x → sp (.ref x :: (vs ++ dvs)) (upd (upd H dx (.own x)) x (.ins C dx [])) (fun v H2 => v = .non ∧ Q (.ref x) H2) E) :
    wpAny (model X.prog X.w) X.A (call (.ref C) us) (EP X pins σ Q) X.xe s := by
  have hq := h (s.heap.objs.size + 1) s.heap.objs.size (I.hok.fresh (Nat.le_succ _)) (I.hok.fresh (Nat.le_refl _)) (Nat.ne_of_lt (Nat.lt_succ_self _))
  have I2 := Inv.made (C := C) I
  have r2 : Vals (V.ref (s.heap.objs.size + 1) :: (vs ++ dvs)) (Value.ref (s.heap.objs.size + 1) :: (us ++ ds)) := .cons rfl (r.append hd)
  have hl : (Value.ref (s.heap.objs.size + 1) :: us ++ ds).length = ps.length := by
    have e := r2.length
    rw [F.len _ _ _ _ hq] at e
    exact e.symm
  refine wpAny_call (make_map (f := f) I.kIn M.makes M.init (beq_iff_eq.mp M.fn) (codeAny_mono (F.run _ X.stack _ _ ⟨Value.ref (s.heap.objs.size + 1) :: us, []⟩ (Value.ref (s.heap.objs.size + 1) :: (us ++ ds)) _ _ E (hr.make C us [])
    (I2.env0.make C us []) (hb _ (Value.ref (s.heap.objs.size + 1) :: us) I2.kIn hl) r2 hq) fun r s' hq' => ?_))
  cases r with
  | error e => exact hx pins σ _ _ e s' I2 hq'
  | ok fl =>
    cases fl with
    | ret u =>
      obtain ⟨v, H', I3, rv, ev, q3⟩ := I2.after hq'
      subst ev
      exact ⟨rv, ⟨V.ref (s.heap.objs.size + 1), H', I3, rfl, q3⟩⟩
    | next => exact False.elim hq'
    | brk => exact False.elim hq'
    | cont => exact False.elim hq'
theorem pe_make (M : Mk X.K C f) (F : FnOk X.prog X.w X.K X.mg X.base CX k f fd ps sp) (hr : Room (k + 1) X.A) (hg : Gl X x) (hm : X.mg x = some (.ref C)) (hb : Binds X.K fd ps ds) (hd : Vals dvs ds) (hx : Passes CX X E)
    (ha : PA X (e :: es) t) (hdb : (x == ("__debug__" : Str)) = false := by decide) (he : starEach (e :: es) X.env = (false, eval e X.env) :: starEach es X.env := by rfl) (hpl : (backTo pos (starEach es X.env)).any (·.1) = false := by rfl) :
    PE X (.Call (.Name x p) (e :: es) [] pos) (tMake C sp dvs E t) := by
  intro pins s σ H Q I h
  refine wpAny_Call_Name_kw (ld_glob I hg hm ?_ hdb)
  refine PySem.W.callWith_K (h₀ := X.base) I.ok.mod.kin M.kp (thn (ha pos pins s σ H _ I h) fun us s1 ⟨vs, H1, I1, r, q⟩ => ⟨I1.kIn, ?_⟩) he hpl
  exact run_make M F hr hb hd hx I1 r q
theorem pe_make0 (M : Mk X.K C f) (F : FnOk X.prog X.w X.K X.mg X.base CX k f fd ps sp) (hr : Room (k + 1) X.A) (hg : Gl X x) (hm : X.mg x = some (.ref C)) (hb : Binds X.K fd ps ds) (hd : Vals dvs ds) (hx : Passes CX X E)
    (hdb : (x == ("__debug__" : Str)) = false := by decide) : PE X (.Call (.Name x p) [] [] pos) (tMake C sp dvs E tNil) := by
  intro pins s σ H Q I h
  refine wpAny_Call_Name_kw (ld_glob I hg hm ?_ hdb)
  exact PySem.W.callWith_K0 I.kIn M.kp (run_make (us := []) M F hr hb hd hx I .nil h)
end
section
variable {X : Cx} {CX : CXT} {k : Nat} {f C : Addr} {fd : FuncData} {ps ks : List Str} {sp : Sp} {E : XK} {x m : Str} {p pos apos kpos : Pos} {e o : Expr} {es : List Expr} {kws : List Keyword} {te ta : TE} {t tk : TA} {nm : Option Str}
variable {g : List Value → List Value → List Value} {gV : List V → List V → List V}
end
structure FnScope (N P : List Str) (sc : Scope) : Prop where
  kind : sc.kind = .function
  co : sc.isCoroutine = false
  gen : sc.isGenerator = false
  nd : N.Nodup
  pre : N.take P.length = P
  par : ∀ x ∈ P, sc.names.lookup x = some .local ∨ sc.names.lookup x = some .cell
  nofree : ∀ y ∈ sc.names, y.2 ≠ .free
theorem bindL_out {kindOf : Str → Option NameKind} {x : Str} : ∀ {binds : List (Str × Value)} {m : Str → Option Value}, (∀ v, (x, v) ∉ binds) → bindL kindOf binds m x = m x
  | [], _, _ => rfl
  | (n, v) :: r, m, h => by
    unfold bindL
    rw [bindL_out fun w hw => h w (List.mem_cons_of_mem _ hw)]
    split
    · have : x ≠ n := by rintro rfl; exact h v List.mem_cons_self
      simp [this]
    · rfl
theorem bindC_out {kindOf : Str → Option NameKind} {x : Str} : ∀ {binds : List (Str × Value)} {m : Str → Option Value}, (∀ v, (x, v) ∉ binds) → bindC kindOf binds m x = m x
  | [], _, _ => rfl
  | (n, v) :: r, m, h => by
    unfold bindC
    rw [bindC_out fun w hw => h w (List.mem_cons_of_mem _ hw)]
    split
    · rfl
    · have : x ≠ n := by rintro rfl; exact h v List.mem_cons_self
      simp [this]
theorem bindL_get {kindOf : Str → Option NameKind} {x : Str} {v : Value} : ∀ {P : List Str} {vs : List Value} {i : Nat} {m : Str → Option Value}, P.Nodup → P[i]? = some x → vs[i]? = some v → kindOf x = some .local →
    bindL kindOf (P.zip vs) m x = some v
  | [], _, _, _, _, h, _, _ => by simp at h
  | _ :: _, [], _, _, _, _, h, _ => by simp at h
  | p :: P, w :: vs, 0, m, nd, h1, h2, hk => by
    simp at h1 h2; subst h1; subst h2
    show bindL kindOf ((p, w) :: P.zip vs) m p = _
    unfold bindL
    rw [bindL_out fun v hv => (List.nodup_cons.mp nd).1 (List.of_mem_zip hv).1, if_pos hk]
    simp
  | p :: P, w :: vs, i + 1, m, nd, h1, h2, hk => by
    show bindL kindOf ((p, w) :: P.zip vs) m x = _
    unfold bindL
    exact bindL_get (i := i) (List.nodup_cons.mp nd).2 (by simpa using h1) (by simpa using h2) hk
theorem bindC_get {kindOf : Str → Option NameKind} {x : Str} {v : Value} : ∀ {P : List Str} {vs : List Value} {i : Nat} {m : Str → Option Value}, P.Nodup → P[i]? = some x → vs[i]? = some v → kindOf x ≠ some .local →
    bindC kindOf (P.zip vs) m x = some v
  | [], _, _, _, _, h, _, _ => by simp at h
  | _ :: _, [], _, _, _, _, h, _ => by simp at h
  | p :: P, w :: vs, 0, m, nd, h1, h2, hk => by
    simp at h1 h2; subst h1; subst h2
    show bindC kindOf ((p, w) :: P.zip vs) m p = _
    unfold bindC
    rw [bindC_out fun v hv => (List.nodup_cons.mp nd).1 (List.of_mem_zip hv).1, if_neg hk]
    simp
  | p :: P, w :: vs, i + 1, m, nd, h1, h2, hk => by
    show bindC kindOf ((p, w) :: P.zip vs) m x = _
    unfold bindC
    exact bindC_get (i := i) (List.nodup_cons.mp nd).2 (by simpa using h1) (by simpa using h2) hk
def start (N : List Str) (vs : List V) : St := vs.map some ++ List.replicate (N.length - vs.length) none
def cxOf (CX : CXT) (P : Program) (w : World) (K : PySem.W.Frag) (mg : Str → Option Value) (base : Heap) (N : List Str) (qual : Str) (scope : Scope) (f : Addr) (cd : Value) (A : Around) (outer : List Env) (s : Shared) (H : Hp) (E : XK) : Cx where
  prog := P
  w := w
  K := K
  mg := mg
  base := base
  A := A.deeper (envOfC qual scope s.heap.objs.size f cd)
  N := N
  s₀ := s
  H₀ := H
  env := envOfC qual scope s.heap.objs.size f cd
  outer := outer
  stack := envOfC qual scope s.heap.objs.size f cd :: outer
  ex := []
  calm := true
  fn := fun _ => true
  pn := []
  xe := fun e s' => wpAny (model P w) (A.deeper (envOfC qual scope s.heap.objs.size f cd)) (leaving (envOfC qual scope s.heap.objs.size f cd) e) (fun _ s'' => CX outer H s E e s'') (fun e' s'' => CX outer H s E e' s'') s'
theorem cell_has {sc : Scope} {n : Nat} {x : Str} (h : sc.names.lookup x = some .cell) : ∃ c, (cellsFrom n sc.names []).lookup x = some c := by
  have q := PySem.W.cellsFrom_some sc.names n [] (.inl h)
  exact Option.isSome_iff_exists.mp q
theorem inv_start {CX : CXT} {P : Program} {w : World} {K : PySem.W.Frag} {mg : Str → Option Value} {base : Heap} {N ps : List Str} {qual : Str} {scope : Scope} {f : Addr} {cd : Value} {A : Around} {outer : List Env} {s s1 : Shared} {H : Hp} {E : XK} {us : List Value} {vs : List V}
    (S : FnScope N ps scope) (hd : A.handled = none) (e0 : Env0 P w K mg base A outer s H) (hl : vs.length = ps.length) (r : Vals vs us)
    (x : InCallC s s.heap.objs.size (bindL (envOfC qual scope s.heap.objs.size f cd).kindOf (ps.zip us) fun _ => none) (cellsFrom (s.heap.objs.size + 1) scope.names []) (bindC (envOfC qual scope s.heap.objs.size f cd).kindOf (ps.zip us) fun _ => none) s1) :
    Inv (cxOf CX P w K mg base N qual scope f cd A outer s H E) [] (start N vs) H s1 := by
  have hpl : ps.length ≤ N.length := by have := congrArg List.length S.pre; rw [List.length_take] at this; omega
  obtain ⟨h1, tk, rfl, hk⟩ := x.done
  have noA : ∀ b : Addr, b ∉ (cxOf CX P w K mg base N qual scope f cd A outer s H E).ex := fun b z => absurd (show b ∈ ([] : List Addr) from z) (by simp)
  refine ⟨⟨e0.mod, S.kind, rfl, rfl, Nat.le_refl _, fun y z c h1 h2 => ?_, fun y hy => ?_, fun y c _ h => ?_, fun _ => hd, Around.frames_deeper e0.frames, .inr ⟨rfl, rfl⟩, fun b z => absurd z (noA b), e0.bs, e0.bsz, fun b _ _ => noA b, fun b z => absurd z (noA b), e0.funs, e0.frf⟩,
    rfl, e0.bare, Un.kept hk, ⟨_, x.toInCall.ns, fun i y v h1 h2 h3 => ?_⟩, fun y c h => ⟨_, x.cell y c h⟩, e0.hok.fresh (Nat.le_refl _), fun y c h => ?_, fun p hp => absurd (show p ∈ ([] : List (Addr × Obj)) from hp) (by simp), e0.hok.kept hk, ?_⟩
  · exact name_of_addr x.apart (PySem.mem_of_lookup h1) (PySem.mem_of_lookup h2)
  · have hy : scope.names.lookup y = some .cell ∨ scope.names.lookup y = some .free := hy
    rcases hy with hy | hy
    · exact cell_has hy
    · exact absurd rfl (S.nofree _ (PySem.mem_of_lookup hy))
  · exact Nat.le_of_lt (x.above y c (PySem.mem_of_lookup h))
  · have hi : i < vs.length := by
      unfold start at h2
      by_cases hi : i < vs.length
      · exact hi
      · rw [List.getElem?_append_right (by simpa using hi)] at h2
        rw [List.getElem?_replicate] at h2
        split at h2 <;> cases h2
    have ha : vs[i]? = some v := by
      unfold start at h2
      rw [List.getElem?_append_left (by simpa using hi), List.getElem?_map] at h2
      cases e : vs[i]? with
      | none => rw [e] at h2; cases h2
      | some a => rw [e] at h2; cases h2; rfl
    obtain ⟨u, hu, rv⟩ := r.get ha
    have hp : ps[i]? = some y := by
      rw [← S.pre, List.getElem?_take_of_lt (by omega)]; exact h1
    have ndP : ps.Nodup := by rw [← S.pre]; exact S.nd.sublist (List.take_sublist _ _)
    refine ⟨u, rv, ?_⟩
    rcases S.par y (List.mem_of_getElem? hp) with k | k
    · exact .inl ⟨k, bindL_get ndP hp hu k⟩
    · obtain ⟨c, e⟩ := cell_has (n := s.heap.objs.size + 1) k
      refine .inr ⟨.inl k, c, e, ?_⟩
      have q := x.cell y c e
      rw [bindC_get ndP hp hu (by show scope.names.lookup y ≠ _; rw [k]; decide)] at q
      exact q
  · exact e0.hok.fresh (Nat.le_of_lt (x.above y c (PySem.mem_of_lookup h)))
  · unfold start
    show _ = N.length
    rw [List.length_append, List.length_map, List.length_replicate]
    omega
theorem fn_of {CX : CXT} {P : Program} {w : World} {K : PySem.W.Frag} {mg : Str → Option Value} {base : Heap} {k : Nat} {f : Addr} {name qual : Str} {params : Arguments} {body : List Stmt} {scope : Scope} {dV kV doc pm cdv ct oc : Value} {an od : Option Addr}
    {osl : Array (Option Value)} {N ps : List Str} {sp : Sp} (lk : K.lookup f = some ⟨oc, od, .func (PySem.W.fnOf name qual params body scope dV kV doc pm an cdv ct), osl⟩) (hcd : PySem.W.codeIn K cdv qual = true) (S : FnScope N ps scope)
    (len : ∀ vs H Q E, sp vs H Q E → vs.length = ps.length)
    (hbody : ∀ (A : Around) (outer : List Env) (s : Shared) (H : Hp) (vs : List V) (Q : VK) (E : XK), Room k (A.deeper (envOfC qual scope s.heap.objs.size f cdv)) → sp vs H Q E →
      ∃ t, PSs (cxOf CX P w K mg base N qual scope f cdv A outer s H E) body t ∧ t { nx := fun _ H' => Q .non H', rt := Q } (start N vs) H) :
    FnOk P w K mg base CX (k + 1) f (PySem.W.fnOf name qual params body scope dV kV doc pm an cdv ct) ps sp := by
  refine ⟨len, fun A outer s H args us vs Q E hr e0 hb r hsp => ?_⟩
  have hl := len _ _ _ _ hsp
  have KX : K.In s.heap := e0.mod.kin.keeps fun b o e => (e0.bs b o e).1
  have lim : s.heap.NoLimit := e0.mod.nolimit.keeps fun b o e => (e0.bs b o e).1
  have hkind : ∀ y ∈ ps.zip us, scope.names.lookup y.1 = some .local ∨ (scope.names.lookup y.1 = some .cell ∧ ((cellsFrom (s.heap.objs.size + 1) scope.names []).lookup y.1).isSome = true) := fun ⟨n, v⟩ hy => by
    rcases S.par n (List.of_mem_zip hy).1 with q | q
    · exact .inl q
    · exact .inr ⟨q, PySem.W.cellsFrom_some _ _ _ (.inl q)⟩
  refine codeAny_call_function hr.depth (KX _ _ lk) rfl S.co S.gen rfl (PySem.W.codeRec_of KX hcd) (hb _ _ _ _ ?_)
  refine wpAny_newFunctionEnv_cells S.kind hkind fun env he s1 x => ?_
  subst he
  refine ⟨lim.keeps x.toInCall.keep, codeAny_func ?_⟩
  obtain ⟨t, ht, hq⟩ := hbody A outer s H vs Q E (hr.deeper _) hsp
  have I : Inv (cxOf CX P w K mg base N qual scope f cdv A outer s H E) [] (start N vs) H s1 := inv_start S hr.hd e0 hl r x
  refine wpAny_mono (ht [] s1 (start N vs) H _ I hq) (fun fl s' hs => ?_) fun e s' hs => hs
  have fin : ∀ {σ' : St} {H' : Hp} {v : V} {u : Value}, Inv (cxOf CX P w K mg base N qual scope f cdv A outer s H E) [] σ' H' s' → RelV v u → Q v H' → CE outer P w H s Q u s' :=
    fun {σ' H' v u} J rv q => ⟨v, H', J.os, J.bare, J.base, J.hok, rv, q⟩
  cases fl with
  | ret u =>
    obtain ⟨v, σ', H', J, rv, q⟩ := hs
    exact fin J rv q
  | next =>
    obtain ⟨σ', H', J, q⟩ := hs
    exact fin (v := V.non) (u := Value.none) J rfl q
  | brk =>
    obtain ⟨_, _, _, q⟩ := hs
    exact False.elim q
  | cont =>
    obtain ⟨_, _, _, q⟩ := hs
    exact False.elim q
end L2
namespace L2
open PySem PySem.Spec PyProof.Rows
section
variable {X : Cx} {x : Str} {p pos : Pos} {e : Expr} {es : List Expr} {t : TA} {id T : String} {r : List V → Hp → VK → Prop}
def tCB (r : List V → Hp → VK → Prop) (t : TA) : TE := fun σ H Q => t σ H fun vs H1 => r vs H1 Q
theorem pe_callB (hc : CallR X (.builtin id) r) (hg : Gl X x) (hm : X.mg x = none) (hv : bootBuiltins x = some (.builtin id)) (ha : PA X (e :: es) t) (hn : x ≠ "__name__" := by decide) (hdb : (x == ("__debug__" : Str)) = false := by decide)
    (he : starEach (e :: es) X.env = (false, eval e X.env) :: starEach es X.env := by rfl) (hpl : (backTo pos (starEach es X.env)).any (·.1) = false := by rfl) : PE X (.Call (.Name x p) (e :: es) [] pos) (tCB r t) := by
  intro pins s σ H Q I h
  refine wpAny_Call_Name_kw (ld_blt I hg hm hv ?_ hn hdb)
  exact PyProof.Rows.callWith_builtin1 (thn (ha pos pins s σ H _ I h) fun us s1 ⟨vs, H1, I1, r1, q1⟩ => hc pins s1 σ H1 vs us Q I1 r1 q1) he hpl
theorem pe_callTy (hc : CallR X (.type T) r) (hg : Gl X x) (hm : X.mg x = none) (hv : bootBuiltins x = some (.type T)) (ha : PA X (e :: es) t) (hn : x ≠ "__name__" := by decide) (hdb : (x == ("__debug__" : Str)) = false := by decide)
    (he : starEach (e :: es) X.env = (false, eval e X.env) :: starEach es X.env := by rfl) (hpl : (backTo pos (starEach es X.env)).any (·.1) = false := by rfl) : PE X (.Call (.Name x p) (e :: es) [] pos) (tCB r t) := by
  intro pins s σ H Q I h
  refine wpAny_Call_Name_kw (ld_blt I hg hm hv ?_ hn hdb)
  exact PyProof.Rows.callWith_type1 (thn (ha pos pins s σ H _ I h) fun us s1 ⟨vs, H1, I1, r1, q1⟩ => hc pins s1 σ H1 vs us Q I1 r1 q1) he hpl
end
end L2
namespace HT
open PySem PyProof.Rows
section
open PySem.SeqAt
open PySem.AutoSeq1 (wpAny_loadPart')
open PySem.MeetsSeq PySem.MeetsSeq2 PySem.MeetsSeq3
end
section
variable {prog : Program} {w : World} {A : Around} {E : Value → Shared → Prop} {s : Shared}
def sIx (n d : Nat) : Option Int → Nat
  | none => d
  | some v => if v < 0 then (v + (n : Int)).toNat else min v.toNat n
end
end HT
namespace L2
open PySem PySem.Spec PyProof.Rows
abbrev TO := St → Hp → (Option Int → Hp → Prop) → Prop
def PO (X : Cx) (e : Option Expr) (t : TO) : Prop :=
  ∀ (pins : List (Addr × Obj)) (s : Shared) (σ : St) (H : Hp) (Q : Option Int → Hp → Prop), Inv X pins σ H s → t σ H Q →
    wpAny (model X.prog X.w) X.A (evalPart e X.env) (fun u s' => ∃ o H', Inv X pins σ H' s' ∧ IsPart u o ∧ Q o H') X.xe s
def tNoPart : TO := fun _ H Q => Q none H
def tPart (t : TE) : TO := fun σ H Q => t σ H fun x H1 => ∃ i, x = .int i ∧ Q (some i) H1
section
variable {X : Cx} {e : Expr} {te : TE} {lo hi : Option Expr} {tl th : TO} {pos p2 : Pos}
theorem po_none : PO X none tNoPart := by
  intro pins s σ H Q I h
  rw [evalPart_none]
  exact wpAny_pure ⟨none, H, I, .none, h⟩
theorem po_some (h : PE X e te) : PO X (some e) (tPart te) := by
  intro pins s σ H Q I hw
  rw [evalPart_some]
  refine thn (h pins s σ H _ I hw) fun u s1 ⟨x, H1, I1, r1, q1⟩ => ?_
  obtain ⟨i, rfl, q⟩ := q1
  obtain ⟨t, rfl⟩ := r1
  exact ⟨some i, H1, I1, .int i t, q⟩
def SlR (X : Cx) (r : V → Option Int → Option Int → Hp → VK → Prop) : Prop :=
  ∀ (pins : List (Addr × Obj)) (s : Shared) (σ : St) (H : Hp) (x : V) (v vl vu : Value) (lo hi : Option Int) (sl : Addr) (Q : VK), Inv X pins σ H s → RelV x v → s.heap.IsSliceOf sl vl vu .none → IsPart vl lo → IsPart vu hi → r x lo hi H Q →
    ∃ T id, typeLookup (.type T) "__getitem__" = pure (some (.builtin id)) ∧ s.TypeIs v T ∧ wpAny (model X.prog X.w) X.A (getItem v (.ref sl)) (EP X pins σ Q) X.xe s
def tSl (r : V → Option Int → Option Int → Hp → VK → Prop) (te : TE) (tl th : TO) : TE := fun σ H Q => te σ H fun x H1 => tl σ H1 fun l H2 => th σ H2 fun u H3 => r x l u H3 Q
theorem pe_slice {r : V → Option Int → Option Int → Hp → VK → Prop} (hr : SlR X r) (he : PE X e te) (hl : PO X lo tl) (hu : PO X hi th) : PE X (.Subscript e (.Slice lo hi none p2) pos) (tSl r te tl th) := by
  intro pins s σ H Q I h
  refine Subscript_ (thn (he pins s σ H _ I h) fun v s1 ⟨x, H1, I1, r1, q1⟩ => ?_)
  refine wpAny_Slice (thn (hl pins s1 σ H1 _ I1 q1) fun vl s2 ⟨l, H2, I2, pl, q2⟩ => thn (hu pins s2 σ H2 _ I2 q2) fun vu s3 ⟨u, H3, I3, pu, q3⟩ => ?_)
  rw [evalPart_none]
  refine wpAny_pure ?_
  have I4 : Inv X pins σ H3 { s3 with heap := s3.heap.push { cls := .type "slice", data := .fields #[vl, vu, .none] } } := I3.kept (t' := s3.toks) fun b ob q => Heap.get?_push_of_some _ q
  obtain ⟨T, id, hT, ht, hg⟩ := hr pins { s3 with heap := s3.heap.push { cls := .type "slice", data := .fields #[vl, vu, .none] } } σ H3 x v vl vu l u s3.heap.objs.size Q I4 r1 (Heap.IsSliceOf.new ..) pl pu q3
  show wpAny (model X.prog X.w) X.A (subscriptTail e (.Slice lo hi none p2) v (.ref s3.heap.objs.size)) (EP X pins σ Q) X.xe { s3 with heap := s3.heap.push { cls := .type "slice", data := .fields #[vl, vu, .none] } }
  exact tail_any (ops := [.ref s3.heap.objs.size, v]) ht hT hg (by with_unfolding_all rfl)
def cutV (xs : List V) (lo hi : Option Int) : List V := (xs.drop (HT.sIx xs.length 0 lo)).take (HT.sIx xs.length xs.length hi - HT.sIx xs.length 0 lo)
theorem cutV_length (xs : List V) (lo hi : Option Int) : (cutV xs lo hi).length ≤ xs.length := by
  unfold cutV
  rw [List.length_take, List.length_drop]
  omega
end
end L2
namespace L2
open PySem PySem.Spec PyProof.Rows
def ixN (n : Nat) (i : Int) : Option Nat := if 0 ≤ i then (if i < n then some i.toNat else none) else if -(n : Int) ≤ i then some (i + n).toNat else none
def atI {α : Type} (xs : List α) (i : Int) : Option α := (ixN xs.length i).bind fun j => xs[j]?
theorem ixN_seq {n : Nat} {i : Int} {j : Nat} (h : ixN n i = some j) : seqIndex? i n = some j ∧ j < n ∧ -(n : Int) ≤ i ∧ i < n := by
  unfold ixN at h
  by_cases h0 : 0 ≤ i
  · rw [if_pos h0] at h
    by_cases h1 : i < n
    · rw [if_pos h1] at h
      have e : i.toNat = j := Option.some.inj h
      exact ⟨by rw [seqIndex_of h0 h1, e], by omega, by omega, h1⟩
    · rw [if_neg h1] at h; cases h
  · rw [if_neg h0] at h
    by_cases h1 : -(n : Int) ≤ i
    · rw [if_pos h1] at h
      have e : (i + n).toNat = j := Option.some.inj h
      exact ⟨by rw [seqIndex_neg (by omega) h1, e], by omega, h1, by omega⟩
    · rw [if_neg h1] at h; cases h
theorem atI_get {α : Type} {xs : List α} {i : Int} {v : α} (h : atI xs i = some v) : ∃ j, seqIndex? i xs.length = some j ∧ xs[j]? = some v ∧ j < xs.length ∧ -(xs.length : Int) ≤ i ∧ i < xs.length := by
  unfold atI at h
  cases e : ixN xs.length i with
  | none => rw [e] at h; cases h
  | some j =>
    rw [e] at h
    obtain ⟨h1, h2, h3, h4⟩ := ixN_seq e
    exact ⟨j, h1, h, h2, h3, h4⟩
theorem atI_nat {α : Type} {xs : List α} {j : Nat} {v : α} (h : xs[j]? = some v) : atI xs (j : Int) = some v := by
  have hj : j < xs.length := (List.getElem?_eq_some_iff.mp h).1
  have e : ixN xs.length (j : Int) = some j := by
    unfold ixN
    rw [if_pos (by omega), if_pos (by omega)]; simp
  unfold atI; rw [e]; exact h
theorem atI_last {α : Type} (xs : List α) (v : α) : atI (xs ++ [v]) (-1) = some v := by
  have hl : (xs ++ [v]).length = xs.length + 1 := by simp
  have e : ixN (xs ++ [v]).length (-1) = some xs.length := by
    unfold ixN
    rw [hl, if_neg (by decide), if_pos (by omega)]
    congr 1
    omega
  unfold atI
  rw [e]
  show (xs ++ [v])[xs.length]? = some v
  simp
def PlainIx (b : Expr) : Prop := ∀ o i, subscripted b false o i = operate [o, i] (getItem o i)
def IxR (X : Cx) (r : R2) : Prop :=
  ∀ (value slice : Expr) (pins : List (Addr × Obj)) (s : Shared) (σ : St) (H : Hp) (x y : V) (v u : Value) (Q : VK), Inv X pins σ H s → RelV x v → RelV y u → r x y H Q →
    subscripted slice false v u = operate [v, u] (getItem v u) → wpAny (model X.prog X.w) X.A (subscriptTail value slice v u) (EP X pins σ Q) X.xe s
def MtR (X : Cx) (id : String) (r : V → List V → Hp → VK → Prop) : Prop :=
  ∀ (pins : List (Addr × Obj)) (s : Shared) (σ : St) (H : Hp) (x : V) (xs : List V) (v : Value) (us : List Value) (Q : VK), Inv X pins σ H s → RelV x v → Vals xs us → r x xs H Q →
    wpAny (model X.prog X.w) X.A (call (.builtin id) (v :: us)) (EP X pins σ Q) X.xe s
section
variable {X : Cx} {a b : Expr} {ta tb : TE} {pos : Pos}
theorem pe_ix {r : R2} (hr : IxR X r) (ha : PE X a ta) (hb : PE X b tb) (hs : PlainIx b) : PE X (.Subscript a b pos) (tOp r ta tb) := by
  intro pins s σ H Q I h
  exact Subscript_ (binT ha hb I h fun v u s2 x y H2 I2 rx ry q => hr a b pins s2 σ H2 x y v u Q I2 rx ry q (hs _ _))
def rIxL (K : PySem.W.Frag) : R2 := fun x y H Q => ∃ p xs i v, x = .ref p ∧ y = .int i ∧ SqL K H p xs ∧ atI xs i = some v ∧ Q v H
def rIxS : R2 := fun x y H Q => ∃ z i c, x = .str z ∧ y = .int i ∧ z.length ≤ sizeLine ∧ atI z.cps.toList i = some c ∧ Q (.str ⟨#[c]⟩) H
theorem ix_list : IxR X (rIxL X.K) := by
  intro value slice pins s σ H x y v u Q I rx ry h hs
  obtain ⟨p, xs, i, z, rfl, rfl, hq, he, q⟩ := h
  cases rx
  obtain ⟨t, rfl⟩ := ry
  obtain ⟨its, r, pl, hz⟩ := I.list hq
  obtain ⟨j, h1, h2, h3, h4, h5⟩ := atI_get he
  obtain ⟨w, ew, rw'⟩ := r.get h2
  have hl := r.length
  have hn := line63
  have fin : EP X pins σ Q w s := ⟨z, H, I, rw', q⟩
  by_cases h0 : 0 ≤ i
  · have hj : i.toNat = j := by
      rw [seqIndex_of h0 h5] at h1
      exact Option.some.inj h1
    exact item_listR pl.isList h0 (by omega) (by rw [hj]; simpa using ew) fin hs
  · have hj : (i + (its.toArray.size : Int)).toNat = j := by
      rw [seqIndex_neg (by omega) h4] at h1
      rw [List.size_toArray, ← hl]
      exact Option.some.inj h1
    exact subscriptTail_builtinR (x := w) pl.isList.typeIs slot_list_getitem.lookup
      (wpAny_getItem_list_neg (Q := fun r s' => r = w ∧ EP X pins σ Q r s') pl.isList (by omega) (by rw [List.size_toArray] <;> omega) (by omega) (by rw [hj]; simpa using ew) ⟨rfl, fin⟩) hs
theorem ix_str : IxR X rIxS := by
  intro value slice pins s σ H x y v u Q I rx ry h hs
  obtain ⟨z, i, c, rfl, rfl, hz, he, q⟩ := h
  obtain ⟨t, rfl⟩ := rx
  obtain ⟨t', rfl⟩ := ry
  obtain ⟨j, h1, h2, h3, h4, h5⟩ := atI_get he
  have hl : z.cps.toList.length = z.length := by simp [Str.length]
  rw [hl] at h1 h4 h5
  have hn := line63
  exact tail_any (typeIs_str s z t) slot_str_getitem.lookup (getItem_str (c := c) (by
    have e1 : decide (i < -(2 ^ 63 : Int)) = false := decide_eq_false (by omega)
    have e2 : decide (i ≥ 2 ^ 63) = false := decide_eq_false (by omega)
    rw [e1, e2, Bool.or_false]) (by rw [h1]; simpa using h2) ⟨.str ⟨#[c]⟩, H, I.tok _, ⟨_, rfl⟩, q⟩) hs
theorem slice_bounds (lo hi : Option Int) (n : Nat) : (sliceBounds lo hi none n).1 = ((HT.sIx n 0 lo : Nat) : Int) ∧ (sliceBounds lo hi none n).2.1 = ((HT.sIx n n hi : Nat) : Int) ∧ (sliceBounds lo hi none n).2.2 = 1 := by
  refine ⟨?_, ?_, rfl⟩
  · cases lo with
    | none => simp [sliceBounds, HT.sIx]
    | some i =>
      simp only [sliceBounds, HT.sIx, Option.getD_none, show (1 : Int) > 0 by decide, if_true]
      by_cases h : i < 0
      · simp only [h, if_true] <;> omega
      · simp only [h, if_false] <;> omega
  · cases hi with
    | none => simp [sliceBounds, HT.sIx]
    | some i =>
      simp only [sliceBounds, HT.sIx, Option.getD_none, show (1 : Int) > 0 by decide, if_true]
      by_cases h : i < 0
      · simp only [h, if_true] <;> omega
      · simp only [h, if_false] <;> omega
theorem slicePick_cut (its : List Value) (lo hi : Option Int) : slicePick its.toArray lo hi none = ((its.drop (HT.sIx its.length 0 lo)).take (HT.sIx its.length its.length hi - HT.sIx its.length 0 lo)).toArray := by
  obtain ⟨h1, h2, h3⟩ := slice_bounds lo hi its.toArray.size
  unfold slicePick
  rw [h1, h2, h3]
  simp only [sliceRange_one, pick_run, List.size_toArray] <;> rfl
def rSlL (K : PySem.W.Frag) : V → Option Int → Option Int → Hp → VK → Prop := fun x lo hi H Q => ∃ a xs, x = .ref a ∧ SqL K H a xs ∧ ∀ p, H p = none → Q (.ref p) (upd H p (.lst (cutV xs lo hi)))
theorem sl_list : SlR X (rSlL X.K) := by
  intro pins s σ H x v vl vu lo hi sl Q I rx hs pl pu h
  obtain ⟨a, xs, rfl, hx, q⟩ := h
  cases rx
  obtain ⟨its, r, ht, hz⟩ := I.list hx
  have hlen := r.length
  refine ⟨"list", _, slot_list_getitem.lookup, ht.isList.typeIs, ?_⟩
  refine wpAny_getItem_list_slice ht.isList hs pl pu .none (by simp) ?_ (by rw [List.size_toArray] <;> omega)
  rw [slicePick_cut, ← hlen]
  refine ⟨.ref s.heap.objs.size, _, I.laid (t' := s.toks) (o := .lst (cutV xs lo hi)) (fun b ob q => Heap.get?_push_of_some _ q) (Nat.le_refl _) ?_, rfl, q _ (I.hok.fresh (Nat.le_refl _))⟩
  exact ⟨Nat.le_trans (cutV_length xs lo hi) hz, _, 0, (r.drop (HT.sIx xs.length 0 lo)).take (HT.sIx xs.length xs.length hi - HT.sIx xs.length 0 lo), Heap.get?_push_size _ rfl⟩
def flatV : V → Bool
  | .non => true
  | .bl _ => true
  | .int _ => true
  | .str _ => true
  | _ => false
def eqV : V → V → Bool
  | .non, .non => true
  | .bl a, .bl b => a == b
  | .bl a, .int b => (if a then 1 else 0) == b
  | .int a, .bl b => a == (if b then 1 else 0)
  | .int a, .int b => a == b
  | .str a, .str b => a == b
  | _, _ => false
theorem eqAt_V {A : Around} {s : Shared} {y x : V} {u v : Value} (ry : RelV y u) (rx : RelV x v) (fy : flatV y = true) (fx : flatV x = true) : SeqAt.EqAt A s u v (eqV y x) := by
  cases y with
  | non =>
    cases ry
    cases x with
    | non => cases rx; exact SeqAt.EqAt.same _
    | bl b => cases rx; exact SeqAt.EqAt.none_bool b
    | int b => obtain ⟨t, rfl⟩ := rx; exact SeqAt.EqAt.none_int b t
    | str b => obtain ⟨t, rfl⟩ := rx; exact SeqAt.EqAt.none_str b t
    | _ => exact absurd (show false = true from fx) Bool.false_ne_true
  | bl a =>
    cases ry
    cases x with
    | non => cases rx; exact SeqAt.EqAt.bool_none a
    | bl b => cases rx; exact SeqAt.EqAt.bool_bool a b
    | int b => obtain ⟨t, rfl⟩ := rx; exact SeqAt.EqAt.bool_int a b t
    | str b => obtain ⟨t, rfl⟩ := rx; exact SeqAt.EqAt.bool_str a b t
    | _ => exact absurd (show false = true from fx) Bool.false_ne_true
  | int a =>
    obtain ⟨t', rfl⟩ := ry
    cases x with
    | non => cases rx; exact SeqAt.EqAt.int_none a t'
    | bl b => cases rx; exact SeqAt.EqAt.int_bool a t' b
    | int b => obtain ⟨t, rfl⟩ := rx; exact SeqAt.EqAt.int_int a t' b t
    | str b => obtain ⟨t, rfl⟩ := rx; exact SeqAt.EqAt.int_str a t' b t
    | _ => exact absurd (show false = true from fx) Bool.false_ne_true
  | str a =>
    obtain ⟨t', rfl⟩ := ry
    cases x with
    | non => cases rx; exact SeqAt.EqAt.str_none a t'
    | bl b => cases rx; exact SeqAt.EqAt.str_bool a t' b
    | int b => obtain ⟨t, rfl⟩ := rx; exact SeqAt.EqAt.str_int a t' b t
    | str b => obtain ⟨t, rfl⟩ := rx; exact SeqAt.EqAt.str_str a t' b t
    | _ => exact absurd (show false = true from fx) Bool.false_ne_true
  | _ => exact absurd (show false = true from fy) Bool.false_ne_true
def eqU (x : V) (u : Value) : Bool := match u with
  | .none => eqV .non x
  | .bool b => eqV (.bl b) x
  | .int i _ => eqV (.int i) x
  | .str z _ => eqV (.str z) x
  | _ => false
theorem eqU_of {x y : V} {u : Value} (r : RelV y u) (f : flatV y = true) : eqU x u = eqV y x := by
  cases y with
  | non => cases r; rfl
  | bl b => cases r; rfl
  | int i => obtain ⟨t, rfl⟩ := r; rfl
  | str z => obtain ⟨t, rfl⟩ := r; rfl
  | _ => exact absurd (show false = true from f) Bool.false_ne_true
theorem any_eqU {x : V} : ∀ {xs : List V} {us : List Value}, Vals xs us → xs.all flatV = true → us.any (eqU x) = xs.any fun y => eqV y x
  | _, _, .nil, _ => rfl
  | y :: xs, u :: us, .cons r t, f => by
    rw [List.all_cons, Bool.and_eq_true] at f
    rw [List.any_cons, List.any_cons, eqU_of r f.1, any_eqU t f.2]
theorem mem_eqAt {A : Around} {s : Shared} {x : V} {v : Value} (rx : RelV x v) (fx : flatV x = true) : ∀ {xs : List V} {us : List Value}, Vals xs us → xs.all flatV = true → ∀ u ∈ us, SeqAt.EqAt A s u v (eqU x u)
  | _, _, .nil, _ => fun u hu => by cases hu
  | y :: xs, u :: us, .cons r t, f => fun u' hu => by
    rw [List.all_cons, Bool.and_eq_true] at f
    rcases List.mem_cons.mp hu with rfl | hu
    · rw [eqU_of r f.1]; exact eqAt_V r rx f.1 fx
    · exact mem_eqAt rx fx t f.2 u' hu
def inV (x : V) (xs : List V) : Bool := xs.any fun y => eqV y x
def rIn (K : PySem.W.Frag) (neg : Bool) : R2 := fun x y H Q => ∃ p xs, y = .ref p ∧ (SqL K H p xs ∨ SqT K H p xs) ∧ flatV x = true ∧ xs.all flatV = true ∧ Q (.bl (if neg then !inV x xs else inV x xs)) H
theorem op_in_seq : OpR X (compareOp .In) (rIn X.K false) := by
  intro pins s σ H x y v u Q I rx ry h
  obtain ⟨p, xs, rfl, hq, fx, fs, q⟩ := h
  cases ry
  rcases hq with hq | hq
  · obtain ⟨its, r, pl, hz⟩ := I.list hq
    refine SeqAt.in_listAt (eqU x) pl.isList (fun w hw => mem_eqAt rx fx r fs w (by simpa using hw)) ⟨.bl _, H, I, rfl, ?_⟩
    rw [show its.toArray.any (eqU x) = its.any (eqU x) by simp, any_eqU r fs]
    exact q
  · obtain ⟨its, r, pl, hz⟩ := I.tuple hq
    refine SeqAt.in_tupleAt (eqU x) pl (fun w hw => mem_eqAt rx fx r fs w (by simpa using hw)) ⟨.bl _, H, I, rfl, ?_⟩
    rw [show its.toArray.any (eqU x) = its.any (eqU x) by simp, any_eqU r fs]
    exact q
theorem call_len_seq : CallR X (.builtin "len") (fun xs H Q => ∃ p ys, xs = [.ref p] ∧ (SqL X.K H p ys ∨ SqT X.K H p ys) ∧ Q (.int ys.length) H) := by
  intro pins s σ H xs us Q I r h
  obtain ⟨p, ys, rfl, hq, q⟩ := h
  obtain ⟨u, rfl, rx⟩ := vals1 r
  cases rx
  have hn := line63
  rcases hq with hq | hq
  · obtain ⟨its, r', pl, hz⟩ := I.list hq
    have hlen := r'.length
    exact Calls.call_len_list pl.isList (by simp only [List.size_toArray] <;> omega) ⟨.int ys.length, H, I.tok _, ⟨s.toks + 1, by rw [List.size_toArray, hlen]⟩, q⟩
  · obtain ⟨its, r', pl, hz⟩ := I.tuple hq
    have hlen := r'.length
    exact len_tuple pl (by simp only [List.size_toArray] <;> omega) ⟨.int ys.length, H, I.tok _, ⟨s.toks + 1, by rw [List.size_toArray, hlen]⟩, q⟩
theorem call_len_str : CallR X (.builtin "len") (fun xs H Q => ∃ z, xs = [.str z] ∧ z.length ≤ sizeLine ∧ Q (.int z.length) H) := by
  intro pins s σ H xs us Q I r h
  obtain ⟨z, rfl, hz, q⟩ := h
  obtain ⟨u, rfl, t, rfl⟩ := vals1 r
  have hn := line63
  exact len_str (by omega) ⟨.int z.length, H, I.tok _, ⟨_, rfl⟩, q⟩
def tyV (K : PySem.W.Frag) (T : String) (x : V) (H : Hp) : Prop := match x with
  | .str _ => T = "str"
  | .int _ => T = "int"
  | .ref p => (T = "list" ∧ ∃ xs, SqL K H p xs) ∨ (T = "tuple" ∧ ∃ o, K.lookup p = some o ∧ o.cls = .type "tuple" ∧ o.dict = none) ∨
      (T = "dict" ∧ ((∃ kvs, H p = some (.dK kvs)) ∨ ∃ kvs, H p = some (.dT kvs))) ∨ (T = "set" ∧ ∃ S n, H p = some (.set S n))
  | _ => False
theorem tyV_is {pins : List (Addr × Obj)} {σ : St} {H : Hp} {s : Shared} {T : String} {x : V} {v : Value} (I : Inv X pins σ H s) (r : RelV x v) (ty : tyV X.K T x H) :
    s.TypeIs v T ∧ ∀ a, v = .ref a → ∃ ob, s.heap.get? a = some ob ∧ ob.dict = none := by
  cases x with
  | str z =>
    obtain ⟨t, rfl⟩ := r
    cases (show T = "str" from ty)
    exact ⟨typeIs_str s z t, fun _ e => nomatch e⟩
  | int i =>
    obtain ⟨t, rfl⟩ := r
    cases (show T = "int" from ty)
    exact ⟨typeIs_int s i t, fun _ e => nomatch e⟩
  | ref p =>
    cases r
    rcases ty with ⟨rfl, xs, hq⟩ | ⟨rfl, o, hk, hc, hd⟩ | ⟨rfl, hk⟩ | ⟨rfl, S, n, hk⟩
    · obtain ⟨its, _, pl, _⟩ := I.list hq
      refine ⟨pl.isList.typeIs, fun a e => ?_⟩
      cases e
      obtain ⟨o, n, e, c, hd, _⟩ := pl
      exact ⟨o, e, hd⟩
    · refine ⟨⟨o, I.kIn p o hk, hc⟩, fun a e => ?_⟩
      cases e
      exact ⟨o, I.kIn _ o hk, hd⟩
    · have z : ∃ o, s.heap.get? p = some o ∧ o.ExactDict := by
        rcases hk with ⟨kvs, hk⟩ | ⟨kvs, hk⟩
        · obtain ⟨_, _, _, _, o, _, _, e, ex, _⟩ := I.hok p _ hk
          exact ⟨o, e, ex⟩
        · obtain ⟨_, _, _, _, o, _, _, e, ex, _⟩ := I.hok p _ hk
          exact ⟨o, e, ex⟩
      obtain ⟨o, e, ex⟩ := z
      refine ⟨⟨o, e, ex.1⟩, fun a e2 => ?_⟩
      cases e2
      exact ⟨o, e, ex.2.1⟩
    · obtain ⟨o, _, _, _, e, ex, _⟩ := I.hok p _ hk
      refine ⟨⟨o, e, ex.1⟩, fun a e2 => ?_⟩
      cases e2
      exact ⟨o, e, ex.2.1⟩
  | _ => exact False.elim ty
def tBM0 (K : PySem.W.Frag) (T : String) (r : V → List V → Hp → VK → Prop) (to : TE) : TE := fun σ H Q => to σ H fun x H1 => tyV K T x H1 ∧ r x [] H1 Q
def tBM (K : PySem.W.Frag) (T : String) (r : V → List V → Hp → VK → Prop) (to : TE) (t : TA) : TE := fun σ H Q => to σ H fun x H1 => tyV K T x H1 ∧ t σ H1 fun xs H2 => r x xs H2 Q
variable {o e : Expr} {es : List Expr} {to : TE} {t : TA} {name : Str} {apos cpos : Pos} {T id : String} {r : V → List V → Hp → VK → Prop}
theorem pe_bm0 (pa : PlainAttrs T) (slot : Slot T name id) (hty : typeOf (.builtin id) = pure (.type "method_descriptor")) (hm : MtR X id r) (ho : PE X o to)
    (hbase : attributeBase o name X.env (eval o X.env) = eval o X.env := by rfl) (hline : (apos.endLine == cpos.line) = true := by rfl) : PE X (.Call (.Attribute o name apos) [] [] cpos) (tBM0 X.K T r to) := by
  intro pins s σ H Q I h
  refine wpAny_Call_method0_late hbase hline (thn (ho pins s σ H _ I h) fun v s1 ⟨x, H1, I1, r1, ty, q1⟩ => ?_)
  obtain ⟨h1, h2⟩ := tyV_is I1 r1 ty
  exact ⟨T, id, pa, slot, hty, h1, h2, Calls.callWith_builtin rfl (PySem.evalArgs_none (hm pins s1 σ H1 x [] v [] Q I1 r1 .nil q1))⟩
theorem pe_bm (pa : PlainAttrs T) (slot : Slot T name id) (hty : typeOf (.builtin id) = pure (.type "method_descriptor")) (hm : MtR X id r) (ho : PE X o to) (ha : PA X (e :: es) t)
    (hbase : attributeBase o name X.env (eval o X.env) = eval o X.env := by rfl)
    (hfew : ((backTo cpos (starEach (e :: es) X.env)).all (fun x => !x.1) && (backToKw cpos (keywordEach [] X.env)).all (fun x => x.1.isSome)
      && decide ((e :: es).length + ([] : List Keyword).length + (if ([] : List Keyword).isEmpty then 0 else 1) < 30)) = true := by rfl)
    (hline : (apos.endLine == cpos.line) = true := by rfl) (hs : starEach (e :: es) X.env = (false, eval e X.env) :: starEach es X.env := by rfl) (hplain : (backTo cpos (starEach es X.env)).any (·.1) = false := by rfl) :
    PE X (.Call (.Attribute o name apos) (e :: es) [] cpos) (tBM X.K T r to t) := by
  intro pins s σ H Q I h
  refine wpAny_Call_method_late hbase hfew hline rfl (thn (ho pins s σ H _ I h) fun v s1 ⟨x, H1, I1, r1, ty, q1⟩ => ?_)
  obtain ⟨h1, h2⟩ := tyV_is I1 r1 ty
  refine ⟨T, id, pa, slot, hty, h1, h2, ?_⟩
  have hA := ha cpos pins s1 σ H1 _ I1 q1
  rw [hs] at hA ⊢
  refine Calls.callWith_builtin (by show (false || (backTo cpos (starEach es X.env)).any (·.1)) = false; rw [hplain] <;> rfl) (Calls.evalArgs_plain ?_)
  exact thn hA fun us s2 ⟨vs, H2, I2, r2, q2⟩ => hm pins s2 σ H2 x vs v us Q I2 r1 r2 q2
/- xs.append(e), list.index on a module's tuple .. are MtR facts of 06m -/
end
end L2
namespace L2
open PySem PySem.Spec PyProof.Rows
def MtM (X : Cx) (id : String) (r : V → List V → Hp → VK → Prop) : Prop :=
  ∀ (pins : List (Addr × Obj)) (s : Shared) (σ : St) (H : Hp) (x : V) (xs : List V) (v : Value) (us : List Value) (Q : VK), Inv X pins σ H s → RelV x v → Vals xs us → r x xs H Q →
    wpAny (model X.prog X.w) X.A (call (.builtin id) (v :: us)) (EP X pins σ Q) X.xe s
theorem Vals.one : ∀ {x : V} {us : List Value}, Vals [x] us → ∃ u, us = [u] ∧ RelV x u
  | _, _, .cons r .nil => ⟨_, rfl, r⟩
theorem Vals.zero : ∀ {us : List Value}, Vals [] us → us = []
  | _, .nil => rfl
theorem Vals.dropLast {xs : List V} {us : List Value} (h : Vals xs us) : Vals xs.dropLast us.dropLast := by
  induction h with
  | nil => exact .nil
  | cons r t ih =>
    cases t with
    | nil => exact .nil
    | cons q t' => exact .cons r ih
theorem erase_last {α : Type} (l : List α) : l.eraseIdx (l.length - 1) = l.dropLast := by
  induction l with
  | nil => rfl
  | cons a r ih =>
    cases r with
    | nil => rfl
    | cons b r =>
      have e : (a :: b :: r).length - 1 = ((b :: r).length - 1) + 1 := by
        have h1 : (a :: b :: r).length = r.length + 2 := rfl
        have h2 : (b :: r).length = r.length + 1 := rfl
        omega
      rw [e, List.eraseIdx_cons_succ, ih]
      all_goals rfl
section
variable {X : Cx} {pins : List (Addr × Obj)} {σ : St} {H : Hp} {s : Shared} {l b : Addr} {xs ys zs : List V}
theorem Inv.lset {its its' : List Value} {n : Nat} {f : Array Value → Array Value} {t' : Nat} (I : Inv X pins σ H s) (hH : H l = some (.lst xs))
    (e : s.heap.get? l = some { cls := .type "list", data := .seq its.toArray n }) (hf : f its.toArray = its'.toArray) (hv : Vals ys its') (hz : ys.length ≤ sizeLine) :
    Inv X pins σ (upd H l (.lst ys)) { s with heap := s.heap.update l (Obj.mapSeq f), toks := t' } := by
  have q := PySem.IsL.update e f
  rw [hf] at q
  refine I.write (x := l) (e := l) (by rw [hH]; exact trivial) (.inl rfl) (fun b' u hb hu => (Heap.get?_update_other s.heap (Obj.mapSeq f) (Ne.symm hb)).trans hu) ⟨_, q⟩ ?_
  exact ⟨hz, its', _, hv, q⟩
theorem Inv.lstM (I : Inv X pins σ H s) (hH : H l = some (.lst xs)) : xs.length ≤ sizeLine ∧ ∃ (its : List Value) (n : Nat), Vals xs its ∧ xs.length = its.length ∧ s.heap.get? l = some { cls := .type "list", data := .seq its.toArray n } := by
  obtain ⟨z, its, n, r, e⟩ := I.hok l _ hH
  exact ⟨z, its, n, r, r.length, e⟩
end
section
variable {X : Cx}
def rAppend : V → List V → Hp → VK → Prop := fun x vs H Q => ∃ l xs y, x = .ref l ∧ vs = [y] ∧ H l = some (.lst xs) ∧ xs.length < sizeLine ∧ Q .non (upd H l (.lst (xs ++ [y])))
theorem mt_append : MtM X "list.append" rAppend := by
  intro pins s σ H x vs v us Q I rx rv h
  obtain ⟨l, xs, y, rfl, rfl, hH, hz, q⟩ := h
  cases rx
  obtain ⟨u, rfl, ru⟩ := rv.one
  obtain ⟨z, its, n, r, hl, e⟩ := I.lstM hH
  refine call_meets F.slot_list_append ⟨_, e, rfl⟩ F.entry_list_append (F.args_list_append_2 _ _) (PySem.list_append l its.toArray n u (by rw [List.size_toArray]; omega)) ⟨e, ?_⟩
  refine ⟨.non, _, I.lset (its' := its ++ [u]) hH e (by simp) (r.append (.cons ru .nil)) ?_, rfl, q⟩
  rw [List.length_append, List.length_singleton]
  omega
def rPop : V → List V → Hp → VK → Prop := fun x vs H Q => ∃ l xs y, x = .ref l ∧ vs = [] ∧ H l = some (.lst xs) ∧ xs[xs.length - 1]? = some y ∧ Q y (upd H l (.lst xs.dropLast))
theorem mt_pop : MtM X "list.pop" rPop := by
  intro pins s σ H x vs v us Q I rx rv h
  obtain ⟨l, xs, y, rfl, rfl, hH, hy, q⟩ := h
  cases rx
  have hus := rv.zero
  subst hus
  obtain ⟨z, its, n, r, hl, e⟩ := I.lstM hH
  obtain ⟨u, hu, ru⟩ := r.get hy
  have hy' : its.toArray[its.toArray.size - 1]? = some u := by
    show its.toArray[its.length - 1]? = some u
    rw [← Array.getElem?_toList, ← hl]
    exact hu
  refine call_meets F.slot_list_pop ⟨_, e, rfl⟩ F.entry_list_pop (F.args_list_pop_1 _) (MeetsSeq.list_pop_last l its.toArray n u hy' (by rw [List.size_toArray]; omega)) ⟨e, ?_⟩
  refine ⟨y, _, I.lset (its' := its.dropLast) hH e ?_ r.dropLast ?_, ru, q⟩
  · show its.toArray.eraseIdxIfInBounds (its.toArray.size - 1) = its.dropLast.toArray
    rw [List.size_toArray, List.eraseIdxIfInBounds_toArray, erase_last]
  · rw [List.length_dropLast]
    omega
end
section
variable {prog : Program} {w : World} {A : Around} {E : Value → Shared → Prop} {s : Shared}
end
section
variable {X : Cx}
end
end L2
namespace Att
open PySem PySem.W PySem.Calls PyProof.Rows
theorem ints_of_wellAll {P : Params} {h : Heap} : ∀ (ns : List Int) (vs : List Value), WellAll P h vs (ns.map WData.int) → IntsAre vs ns := by
  intro ns
  induction ns with
  | nil =>
    intro vs w
    rw [List.map_nil] at w
    cases w
    exact .nil
  | cons n ns ih =>
    intro vs w
    rw [List.map_cons] at w
    cases w with
    | cons a b =>
      cases a
      exact .cons _ _ (ih _ b)
theorem script_of {l : OpenLaw} {n : Nat} (hn : l.most = some n) {P : Params} {h : Heap} {args : List WData} {vals : List Value}
    (hpre : l.row.toRowW.claim.pre args = true) (hwl : WellAll P h vals args) :
    ∃ a vs ns, vals = [Value.ref a] ∧ args = [WData.list (ns.map WData.int)] ∧ h.get? a = some { cls := .type "list", data := .seq vs.toArray } ∧ IntsAre vs ns ∧ ns.length ≤ n := by
  have hsh : WShape.hasAll [] args [.list .int] = true := (pre_splitW hpre).1
  have hc : l.pre.holds [] { args := args } = true := (pre_splitW hpre).2
  obtain ⟨d, r, rfl, h1, h2⟩ := hasAllW_cons hsh
  obtain rfl := hasAllW_nil h2
  obtain ⟨xs, rfl, h3⟩ := hasW_list h1
  obtain ⟨ns, rfl⟩ := items_int h3
  have hlen : ns.length ≤ n := by
    unfold OpenLaw.pre at hc
    have h4 : (WTm.not (.lt (.lit (.int (n : Int))) (.len (.arg 0)))).holds [] { args := [.list (ns.map .int)] } = true := by
      have h4 := (holds_andW hc).1
      rw [hn] at h4
      exact h4
    have h5 := condW_of h4 (w_not (w_lt w_lit (w_len_list (w_arg rfl))))
    rw [List.length_map] at h5
    refine Nat.le_of_not_lt fun q => ?_
    have q' : (n : Int) < ((ns.length : Nat) : Int) := by omega
    first
      | (rw [decide_eq_true q'] at h5; exact absurd h5 (by decide))
      | (simp at h5; omega)
  cases hwl with
  | cons w1 w2 =>
    cases w2
    cases w1 with
    | list ho hall => exact ⟨_, _, ns, rfl, rfl, ho, ints_of_wellAll ns _ hall, hlen⟩
theorem post_true (l : OpenLaw) (args : List WData) : l.row.toRowW.claim.post args (.bool true) args = true :=
  postW_of (r := l.row.toRowW) (X := (true == true))
    (show WShape.has [] (.bool true) .bool = true by first | rfl | decide | simp [WShape.has, WShape.arms, WShape.armsAll])
    (show (WTm.eq .res (.lit (.bool true))).value [] { args := args, res := some (.bool true), after := args } = some (.bool (true == true)) from w_eq_bool (w_res rfl) w_lit) rfl
theorem attach_call {l : OpenLaw} {n : Nat} {q : Program} {loose : List Str} {XP : (Str → Option Value) → Heap → Prop} {YP : World → Heap → Prop} {d : DefRec}
    (hn : l.most = some n) (hdf : d.params.defaults = [])
    (call : ∀ (w : World) (s₀ s₁ : Shared) (mg mb : Str → Option Value) (fa : Addr) (o : Obj) (pm cd doc : Value) (a : Addr) (vs : List Value) (ns : List Int),
      Ground q loose [] XP w s₀ mg mb s₁.heap → YP w s₁.heap →
      s₁.heap.get? fa = some o → o.data = .func (docDef d.name d.params d.body d.scope pm cd doc) → s₁.heap.CodeRec cd d.name → mg d.name = some (.ref fa) →
      s₁.heap.get? a = some { cls := .type "list", data := .seq vs.toArray } → IntsAre vs ns → ns.length ≤ n → s₁.gens = #[] →
      codeAny (model l.prog w) callerA (.call (.ref fa) ⟨[.ref a], []⟩) (fun r s' => r = .ok (.ret (.bool true)) ∧ OldK s₁.heap s'.heap ∧ s'.os = s₁.os ∧ AllBare s'.gens) s₁) :
    WalkO q loose XP YP l.row.toRowW d [] (fun f vs => PySem.call f vs) := by
  intro w s₀ s₁ mg mb G Y fa o pm cd doc dV kV ho hd hcd hD hmg hg args vals as hpre hlay hrd hwl hlo
  obtain rfl : dV = .none := Dflts.none hD hdf
  obtain rfl : kV = .none := Dflts.noKw hD
  obtain ⟨a, vs, ns, rfl, rfl, hobj, hints, hlen⟩ := script_of hn hpre hwl
  refine enter_call (codeAny_mono (call w s₀ s₁ mg mb fa o pm cd doc a vs ns G Y ho (fd_plain hd) hcd hmg hobj hints hlen hg) fun r s' hq => ?_)
  obtain ⟨rfl, h2, h3, h4⟩ := hq
  exact ⟨.inl ⟨.bool true, .bool true, [], rfl, fun _ => rfl, .bool true, post_true l _, fun _ => ⟨List.Pairwise.nil, fun _ hm => (nomatch hm)⟩⟩, h2, h3, h4⟩
section
variable {prog : Program} {w : World} {A : Around} {E : Value → Shared → Prop} {s : Shared} {K : Frag}
end
end Att
namespace L2
open PySem PySem.Spec PyProof.Rows
theorem vals_ints : ∀ {vs : List Value} {ns : List Int}, IntsAre vs ns → Vals (ns.map V.int) vs
  | _, _, .nil => .nil
  | _, _, .cons n t h => .cons ⟨t, rfl⟩ (vals_ints h)
def Only (H : Hp) : Prop := ∀ b, H b = none ∨ ∃ o xs, H b = some (.frz o (.lst xs))
theorem law_call {P : Program} {w : World} {K : PySem.W.Frag} {mg mb : Str → Option Value} {CX : CXT} {k : Nat} {fa a : Addr} {fd : FuncData} {x : Str} {sp : Sp} {s₁ : Shared} {vs : List Value} {ns : List Int}
    (KX : K.In s₁.heap) (hns : s₁.heap.Ns mainGlobals mg) (hb : s₁.heap.Ns builtinsNs mb) (hbb : ∀ x : Str, x ≠ "__name__" → mb x = bootBuiltins x) (hlim : s₁.heap.NoLimit) (hg : s₁.gens = #[])
    (ha : s₁.heap.get? a = some { cls := .type "list", data := .seq vs.toArray }) (hi : IntsAre vs ns) (hl : ns.length ≤ sizeLine) (hr : Room k callerA)
    (F : ∀ base : Heap, K.In base → base.Ns mainGlobals mg → FnOk P w K mg base CX k fa fd [x] sp) (hbind : ∀ (s : Shared) (u : Value), BindsTo s fd ⟨[u], []⟩ [(x, u)])
    (hsp : ∀ H : Hp, Only H → SqL K H a (ns.map V.int) → sp [.ref a] H (fun v _ => v = .bl true) fun _ _ _ => False)
    (hCX : ∀ H e s', CX [] H s₁ (fun _ _ _ => False) e s' → False) :
    codeAny (model P w) callerA (.call (.ref fa) ⟨[.ref a], []⟩) (fun r s' => r = .ok (.ret (.bool true)) ∧ OldK s₁.heap s'.heap ∧ s'.os = s₁.os ∧ AllBare s'.gens) s₁ := by
  have rv := vals_ints hi
  have lenV := hi.length
  have core : ∀ H : Hp, Only H → SqL K H a (ns.map V.int) → HOk P w H s₁.heap → (∀ b, H b ≠ none → b = a) → (H a ≠ none → K.lookup a = none) →
      codeAny (model P w) callerA (.call (.ref fa) ⟨[.ref a], []⟩) (fun r s' => r = .ok (.ret (.bool true)) ∧ OldK s₁.heap s'.heap ∧ s'.os = s₁.os ∧ AllBare s'.gens) s₁ := by
    intro H hO hS hok hA hK
    have base_of : ∀ {b : Addr} {o : Obj}, s₁.heap.get? b = some o → H b = none → (hidT s₁.heap H).get? b = some o := fun e n => hidT_get e n
    have noA : ∀ {b : Addr} {o : Obj} {es : Array DictEntry} {ep : Nat}, s₁.heap.get? b = some o → o.data = .dict es ep → H b = none := fun {b o es ep} e d => by
      cases q : H b with
      | none => rfl
      | some u =>
        have e' : b = a := hA b (by rw [q]; simp)
        subst e'
        rw [ha] at e; cases e
        have d' : Data.seq vs.toArray _ = Data.dict es ep := d
        cases d'
    have nsK : ∀ {b : Addr} {m : Str → Option Value}, s₁.heap.Ns b m → (hidT s₁.heap H).Ns b m := fun {b m} ⟨o, es, ep, e, d, r⟩ => ⟨o, es, ep, base_of e (noA e d), d, r⟩
    have hKb : K.In (hidT s₁.heap H) := fun b o e => base_of (KX b o e) (by
      cases q : H b with
      | none => rfl
      | some u =>
        have e' : b = a := hA b (by rw [q]; simp)
        subst e'
        rw [hK (by rw [q]; simp)] at e; cases e)
    have hM : Mod K mg (hidT s₁.heap H) := ⟨hKb, nsK hns, ⟨mb, nsK hb, hbb⟩, let ⟨mc, h1, h2⟩ := hlim; ⟨mc, nsK h1, h2⟩⟩
    have e0 : Env0 P w K mg (hidT s₁.heap H) callerA [] s₁ H := ⟨rfl, hM, fun b o e => of_hidT e, Nat.le_of_eq (hidT_size _ _), trivial, fun b hb => absurd (show b ∈ ([] : List Addr) from hb) (by simp), hok, .of_eq hg⟩
    refine codeAny_mono ((F _ hKb (nsK hns)).run callerA [] s₁ H ⟨[.ref a], []⟩ [.ref a] [.ref a] _ _ hr e0 (hbind s₁ (.ref a)) (.cons rfl .nil) (hsp H hO hS)) fun r s' h => ?_
    cases r with
    | error e => exact (hCX H e s' h).elim
    | ok fl =>
      cases fl with
      | next => exact False.elim h
      | brk => exact False.elim h
      | cont => exact False.elim h
      | ret u =>
        obtain ⟨v, H', os, bare, un, hok', r', q⟩ := h
        have q' : v = .bl true := q
        subst q'
        obtain rfl : u = Value.bool true := r'
        refine ⟨rfl, OldK.of_keep fun b o e => ?_, os, bare⟩
        cases q : H b with
        | none => exact un.keep b o e q (by intro z; exact absurd (show b ∈ ([] : List Addr) from z) (by simp)) (by simp)
        | some u =>
          rcases hO b with z | ⟨ob, xs, z⟩
          · rw [q] at z; cases z
          · have z2 := un.frzs b ob _ z
            obtain ⟨e1, _⟩ := hok b _ z
            obtain ⟨e2, _⟩ := hok' b _ z2
            rw [e] at e1; cases e1
            exact e2
  cases hk : K.lookup a with
  | some o =>
    have e := KX a o hk
    rw [ha] at e
    cases e
    refine core (fun _ => none) (fun _ => .inl rfl) (.inr ⟨_, vs.toArray, _, hk, rfl, rfl, rfl, by rw [List.size_toArray, lenV]; exact hl, by simpa using rv⟩) (fun b u z => by have z' : (none : Option HO) = some u := z; cases z') (fun b z => absurd rfl z) fun z => absurd rfl z
  | none =>
    refine core (fun b => if b = a then some (.frz { cls := .type "list", data := .seq vs.toArray } (.lst (ns.map V.int))) else none) (fun b => ?_) (.inl (.inr ⟨{ cls := .type "list", data := .seq vs.toArray }, if_pos rfl⟩)) (fun b u z => ?_) (fun b z => ?_) fun _ => hk
    · by_cases hb : b = a
      · exact .inr ⟨_, _, if_pos hb⟩
      · exact .inl (if_neg hb)
    · by_cases hb : b = a
      · have z' := (if_pos hb).symm.trans z
        cases z'
        subst hb
        exact ⟨ha, by rw [List.length_map]; exact hl, vs, _, rv, ha⟩
      · have z' := (if_neg hb).symm.trans z
        cases z'
    · by_cases hb : b = a
      · exact hb
      · exact absurd (if_neg hb) z
end L2
namespace L2
open PySem PySem.Spec PyProof.Rows
theorem walk_of {l : PySem.W.OpenLaw} {n k : Nat} {q : Program} {loose : List Str} {XP : (Str → Option Value) → Heap → Prop} {YP : World → Heap → Prop} {d : DefRec} {K : Params → PySem.W.Frag} {CX : World → CXT} {sp : World → Sp} {x : Str}
    (hn : l.most = some n) (hn2 : n ≤ sizeLine) (hdf : d.params.defaults = []) (hr : Room k callerA)
    (hY : ∀ (w : World) (h : Heap), YP w h → (K w.params).In h)
    (F : ∀ (w : World) (mg : Str → Option Value) (fa : Addr) (h : Heap), (K w.params).In h → h.Ns mainGlobals mg → mg d.name = some (.ref fa) →
      ∃ fd : FuncData, (∀ (s : Shared) (u : Value), BindsTo s fd ⟨[u], []⟩ [(x, u)]) ∧
        ∀ base : Heap, (K w.params).In base → base.Ns mainGlobals mg → FnOk l.prog w (K w.params) mg base (CX w) k fa fd [x] (sp w))
    (hsp : ∀ (w : World) (H : Hp) (a : Addr) (ns : List Int), ns.length ≤ n → Only H → SqL (K w.params) H a (ns.map V.int) → sp w [.ref a] H (fun v _ => v = .bl true) fun _ _ _ => False)
    (hCX : ∀ (w : World) (H : Hp) (s : Shared) (e : Value) (s' : Shared), CX w [] H s (fun _ _ _ => False) e s' → False) :
    PySem.W.WalkO q loose XP YP l.row.toRowW d [] (fun f vs => PySem.call f vs) := by
  refine Att.attach_call hn hdf fun w s₀ s₁ mg mb fa o pm cd doc a vs ns G Y ho hd hcd hmg hobj hints hlen hg => ?_
  have KX := hY w _ Y
  obtain ⟨fd, hb, hF⟩ := F w mg fa _ KX G.T.g hmg
  exact law_call KX G.T.g G.T.b G.T.builtins G.T.nolimit hg hobj hints (Nat.le_trans hlen hn2) hr hF hb (fun H hO hS => hsp w H a ns hlen hO hS) fun H e s' => hCX w H s₁ e s'
end L2
/- THE LAST THEOREM (shape; LID, My.* are yours):
   My.Adr: a structure of the addresses that your layer names (classes, functions); My.Txt K t: a structure (Prop) of the equations over K;
   My.txt_mk : {K} {implicit addresses ..} (e1 : nsIn K mainGlobals "law" = some (some (.ref f))) (e2 : K.lookup f = some ⟨oc, od, .func (fnOf "law" "law" params body scope dV kV doc pm an cdv ct), sl⟩) (e3 : codeIn K cdv "law" = true) .. : ∃ t, My.Txt K t
set_option maxRecDepth 100000 in
set_option maxHeartbeats 0 in
theorem PySem.Challenge.cw_LID_holds : PySem.Challenge.rw_LID.Holds := by
  w_on; o_law; k_head; (case hw => w_witness2)
  k_fill
  refine L2.walk_of (l := PySem.Challenge.rw_LID) (n := 63) (k := 40) (x := "script") (CX := fun w => ..) (sp := fun _ => My.sp_law) rfl (by decide) rfl ⟨rfl, by decide, by decide⟩ (fun w h Y => PySem.W.kIn_of Y) ?F ?S ?C
  case F =>
    intro w mg fa h KX G hmg
    have T : ∃ t, My.Txt (L2.KOf KX) t := by
      dsimp only [L2.KOf]                          -- K must stand as «<heap const> w.params» for k_is
      refine' My.txt_mk ?e1 ?e2 ?e3 ..
      (case e1 => PySem.W.k_is)                    -- in the order: a name -> its address -> its object -> its parts
      (case e2 => PySem.W.k_is)
      ..
    obtain ⟨t, T⟩ := T
    have e0 := hmg.symm.trans (PySem.W.mg_of KX G T.law)
    cases e0                                       -- fa is the law's own address
    exact ⟨_, fun s u => .of_eq rfl, fun base kb nb => My.law_fn T kb nb⟩     -- if «.of_eq rfl» comes too early: refine' ⟨_, ?b, fun base kb nb => My.law_fn T kb nb⟩; exact fun s u => .of_eq rfl
  case S => exact fun w H a ns hl hO hS => ..
  case C => exact ..
(the tactic k_is has no namespace: write k_is) -/
namespace L2
open PySem PySem.Spec PyProof.Rows
def inClass (s : Stmt) (j : Nat) : Stmt := match s with
  | .ClassDef _ _ _ body _ _ _ _ _ _ _ => body.getD j (.Pass ⟨0, 0, 0, 0⟩)
  | _ => .Pass ⟨0, 0, 0, 0⟩
def defArgs (s : Stmt) : Arguments := match s with
  | .FunctionDef _ a _ _ _ _ _ _ _ _ => a
  | _ => { posonlyargs := [], args := [], vararg := none, kwonlyargs := [], kw_defaults := [], kwarg := none, defaults := [] }
def defBody (s : Stmt) : List Stmt := match s with
  | .FunctionDef _ _ b _ _ _ _ _ _ _ => b
  | _ => []
def defScope (s : Stmt) : Scope := match s with
  | .FunctionDef _ _ _ _ _ _ sc _ _ _ => sc
  | _ => { kind := .function, names := [], isGenerator := false, isCoroutine := false }
abbrev CX0 : CXT := fun _ _ _ _ _ _ => False
abbrev E0 : XK := fun _ _ _ => False
theorem pass0 {X : Cx} : Passes CX0 X E0 := fun _ _ _ _ _ _ _ h => h.elim
structure Fun (K : PySem.W.Frag) (x qual : Str) (st : Stmt) (f : Addr) (fd : FuncData) : Prop where
  ex : ∃ (oc : Value) (od : Option Addr) (kV doc pm : Value) (an : Option Addr) (cdv ct : Value) (osl : Array (Option Value)),
    fd = PySem.W.fnOf x qual (defArgs st) (defBody st) (defScope st) .none kV doc pm an cdv ct ∧ K.lookup f = some ⟨oc, od, .func fd, osl⟩ ∧ PySem.W.codeIn K cdv qual = true
  kp : PySem.W.keepIn K (.ref f) = true
section
variable {P : Program} {w : World} {K : PySem.W.Frag} {mg : Str → Option Value} {base : Heap}
theorem Fun.ok {x qual : Str} {st : Stmt} {f : Addr} {fd : FuncData} {N ps : List Str} {k : Nat} {sp : Sp} (F : Fun K x qual st f fd) (S : FnScope N ps (defScope st)) (len : ∀ vs H Q E, sp vs H Q E → vs.length = ps.length)
    (hbody : ∀ (cdv : Value) (A : Around) (outer : List Env) (s : Shared) (H : Hp) (vs : List V) (Q : VK) (E : XK), Room k (A.deeper (envOfC qual (defScope st) s.heap.objs.size f cdv)) → sp vs H Q E →
      ∃ t, PSs (cxOf CX0 P w K mg base N qual (defScope st) f cdv A outer s H E).nox (defBody st) t ∧ t { nx := fun _ H' => Q .non H', rt := Q } (start N vs) H) : FnOk P w K mg base CX0 (k + 1) f fd ps sp := by
  obtain ⟨oc, od, kV, doc, pm, an, cdv, ct, osl, rfl, lk, hcd⟩ := F.ex
  refine fn_of lk hcd S len fun A outer s H vs Q E hr hsp => ?_
  obtain ⟨t, h, q⟩ := hbody cdv A outer s H vs Q E hr hsp
  exact ⟨t, h.nox, q⟩
theorem Fun.binds {x qual : Str} {st : Stmt} {f : Addr} {fd : FuncData} {ps : List Str} (F : Fun K x qual st f fd)
    (h : ∀ (kV doc pm : Value) (an : Option Addr) (cdv ct : Value) (us : List Value), us.length = ps.length → bindArgs (PySem.W.fnOf x qual (defArgs st) (defBody st) (defScope st) .none kV doc pm an cdv ct) ⟨us, []⟩ = pure (ps.zip us)) : Binds K fd ps [] := by
  obtain ⟨oc, od, kV, doc, pm, an, cdv, ct, osl, rfl, lk, hcd⟩ := F.ex
  exact .all (h kV doc pm an cdv ct)
theorem fun_mk {x qual : Str} {st : Stmt} {f : Addr} {oc : Value} {od an : Option Addr} {osl : Array (Option Value)} {kV doc pm cdv ct : Value} (l : K.lookup f = some ⟨oc, od, .func (PySem.W.fnOf x qual (defArgs st) (defBody st) (defScope st) .none kV doc pm an cdv ct), osl⟩)
    (c : PySem.W.codeIn K cdv qual = true) (k : PySem.W.keepIn K (.ref f) = true) : Fun K x qual st f (PySem.W.fnOf x qual (defArgs st) (defBody st) (defScope st) .none kV doc pm an cdv ct) := ⟨⟨oc, od, kV, doc, pm, an, cdv, ct, osl, rfl, l, c⟩, k⟩
end
theorem small1000 {n : Nat} (h : n ≤ 1000) : n < sizeLine := Nat.lt_of_le_of_lt h (by decide)
section
variable {X : Cx}
theorem pv (i : Nat) {x : Str} {pos : Pos} (hN : X.N[i]? = some x := by rfl) (hv : Vis X.env.scope x := by first | exact Or.inl rfl | exact Or.inr (Or.inl rfl) | exact Or.inr (Or.inr rfl)) (hd : (x == ("__debug__" : Str)) = false := by decide)
    (hcd : (x == ("__classdict__" : Str)) = false := by decide) : PE X (.Name x pos) (tVar i) := pe_var hN hv hd hcd
end
theorem iteF {A B : Prop} (h : B) : if false = true then A else B := by
  rw [if_neg Bool.false_ne_true]
  exact h
theorem iteT {A B : Prop} (h : A) : if true = true then A else B := by
  rw [if_pos rfl]
  exact h
theorem iteNS {c A B : Prop} [Decidable c] (hc : c) (h : B) : if (!decide c) = true then A else B := by
  rw [decide_eq_true hc]
  exact iteF h
def Same (H H' : Hp) : Prop := ∀ b o, H b = some o → H' b = some o
theorem Same.refl (H : Hp) : Same H H := fun _ _ h => h
theorem Same.trans {H H1 H2 : Hp} (a : Same H H1) (b : Same H1 H2) : Same H H2 := fun c o h => b c o (a c o h)
theorem Same.free {H H' : Hp} (e : Same H H') {l : Addr} (h : H' l = Option.none) : H l = Option.none := by
  cases q : H l with
  | none => rfl
  | some o =>
    rw [e l o q] at h
    cases h
theorem Same.seq {K : PySem.W.Frag} {H H' : Hp} {a : Addr} {xs : List V} (e : Same H H') (h : SqL K H a xs) : SqL K H' a xs := by
  rcases h with (h | ⟨o, h⟩) | h
  · exact .inl (.inl (e _ _ h))
  · exact .inl (.inr ⟨o, e _ _ h⟩)
  · exact .inr h
end L2
set_option Elab.async false
set_option maxRecDepth 100000
set_option maxHeartbeats 4000000
namespace L2
open PySem PySem.Spec PyProof.Rows
def Its (x : Str) : It := ⟨fun i _ => i < x.length, fun i H v H' => H' = H ∧ ∃ c, x.cps[i]? = some c ∧ v = .str ⟨#[c]⟩, fun i _ => x.length ≤ i⟩
theorem turn_strA {P : Program} {w : World} {K : PySem.W.Frag} {tg : Expr} (x : Str) (t : Tok) (it : Addr) : Turn P w K tg (Its x) [it] it (fun i h => h.IsStrIter it "str_ascii_iterator" x t i) where
  mem := by simp
  obj := fun i h st b hb => by
    have e : b = it := by simpa using hb
    subst e
    obtain ⟨o, e, c, d⟩ := st
    exact ⟨o, e, fun v z => by rw [d] at z; cases z⟩
  keep := fun i h h' st k => by
    obtain ⟨o, e, r⟩ := st
    exact ⟨o, k it (by simp) o e, r⟩
  item := by
    intro X hP hw hK hc i pins s σ H E I hf st hg
    subst hP hw hK
    have hg : i < x.cps.size := hg
    obtain ⟨f0, f1, f2, f3, f4, f5⟩ := hf it (by simp)
    refine wpAny_pyNext_ascii_item st (c := x.cps[i]) (by simp [hg]) fun h' st' sb => ?_
    have I1 : Inv X pins σ H { s with heap := h', toks := s.toks + 1 } := I.turned (t' := s.toks + 1) (fun b o hb e => (sb.2 b hb).trans e) f0 f1 f3 f4 f5
    obtain ⟨o, e, c, d⟩ := id st'
    exact ⟨_, rfl, go_of (s := { s with heap := h', toks := s.toks + 1 }) e c d (by decide) ⟨.str ⟨#[x.cps[i]]⟩, H, I1, ⟨_, rfl⟩, ⟨rfl, _, by simp [hg], rfl⟩, st', fun b hb => (hf b hb).1⟩⟩
  done := by
    intro X hP hw hK hc i pins s σ H E I hf st hg
    subst hP hw hK
    have hg : x.cps.size ≤ i := hg
    obtain ⟨f0, f1, f2, f3, f4, f5⟩ := hf it (by simp)
    exact wpAny_pyNext_ascii_end (I.ok.hd hc) st (by simp [hg]) fun h' eb => ⟨rfl, I.turned (t' := s.toks) (fun b o hb e => eb b o hb e) f0 f1 f3 f4 f5⟩
  self := fun _ _ _ _ _ st h => wpAny_pyIter_striter_ascii st h
theorem turn_strW {P : Program} {w : World} {K : PySem.W.Frag} {tg : Expr} (x : Str) (t : Tok) (it : Addr) : Turn P w K tg (Its x) [it] it (fun i h => h.IsStrIter it "str_iterator" x t i) where
  mem := by simp
  obj := fun i h st b hb => by
    have e : b = it := by simpa using hb
    subst e
    obtain ⟨o, e, c, d⟩ := st
    exact ⟨o, e, fun v z => by rw [d] at z; cases z⟩
  keep := fun i h h' st k => by
    obtain ⟨o, e, r⟩ := st
    exact ⟨o, k it (by simp) o e, r⟩
  item := by
    intro X hP hw hK hc i pins s σ H E I hf st hg
    subst hP hw hK
    have hg : i < x.cps.size := hg
    obtain ⟨f0, f1, f2, f3, f4, f5⟩ := hf it (by simp)
    refine wpAny_pyNext_wide_item st (c := x.cps[i]) (by simp [hg]) fun h' st' sb => ?_
    have I1 : Inv X pins σ H { s with heap := h', toks := s.toks + 1 } := I.turned (t' := s.toks + 1) (fun b o hb e => (sb.2 b hb).trans e) f0 f1 f3 f4 f5
    obtain ⟨o, e, c, d⟩ := id st'
    exact ⟨_, rfl, go_of (s := { s with heap := h', toks := s.toks + 1 }) e c d (by decide) ⟨.str ⟨#[x.cps[i]]⟩, H, I1, ⟨_, rfl⟩, ⟨rfl, _, by simp [hg], rfl⟩, st', fun b hb => (hf b hb).1⟩⟩
  done := by
    intro X hP hw hK hc i pins s σ H E I hf st hg
    subst hP hw hK
    have hg : x.cps.size ≤ i := hg
    obtain ⟨f0, f1, f2, f3, f4, f5⟩ := hf it (by simp)
    exact wpAny_pyNext_wide_end (I.ok.hd hc) st (by simp [hg]) fun h' eb => ⟨rfl, I.turned (t' := s.toks) (fun b o hb e => eb b o hb e) f0 f1 f3 f4 f5⟩
  self := fun _ _ _ _ _ st h => wpAny_pyIter_striter_wide st h
def iStr (tl : TE) : TI := fun σ H R => tl σ H fun v H1 => ∃ x, v = .str x ∧ R (Its x) H1
theorem pi_str {X : Cx} {tg l : Expr} {tl : TE} (hl : PE X l tl) : PI X tg l (iStr tl) := by
  intro pins s σ H R I h
  refine thn (hl pins s σ H _ I h) fun v s1 ⟨y, H1, I1, r1, q1⟩ => ?_
  obtain ⟨x, rfl, q⟩ := q1
  obtain ⟨t, rfl⟩ := r1
  cases ha : x.cps.all (· < 128)
  · refine wpAny_pyIter_wide ha ?_
    refine ⟨s1.heap.objs.size, [s1.heap.objs.size], _, _, H1, rfl, I1.kept (t' := s1.toks) fun b o e => Heap.get?_push_of_some _ e, turn_strW x t _, ⟨_, Heap.get?_push_size _ rfl, rfl, rfl⟩, fun b hb => ?_, q⟩
    have e : b = s1.heap.objs.size := by simpa using hb
    subst e
    exact I1.fpOk (Nat.le_refl _) (I1.hok.fresh (Nat.le_refl _))
  · refine wpAny_pyIter_ascii ha ?_
    refine ⟨s1.heap.objs.size, [s1.heap.objs.size], _, _, H1, rfl, I1.kept (t' := s1.toks) fun b o e => Heap.get?_push_of_some _ e, turn_strA x t _, ⟨_, Heap.get?_push_size _ rfl, rfl, rfl⟩, fun b hb => ?_, q⟩
    have e : b = s1.heap.objs.size := by simpa using hb
    subst e
    exact I1.fpOk (Nat.le_refl _) (I1.hok.fresh (Nat.le_refl _))
theorem for_str {x : Str} {g : TG} {tb : TS} {D : Ends} {σ : St} {H : Hp} (Pv : Nat → St → Hp → Prop) (h0 : Pv 0 σ H)
    (hs : ∀ i c σ H, x.cps[i]? = some c → Pv i σ H → g (.str ⟨#[c]⟩) σ H fun σ2 H2 => tb { D with nx := Pv (i + 1), ct := Pv (i + 1), bk := D.nx } σ2 H2) (hd : ∀ σ H, Pv x.length σ H → D.nx σ H) :
    ∃ W : Nat → Nat → St → Hp → Prop, (∃ m, W 0 m σ H) ∧ ∀ i m σ H, W i m σ H →
      ((Its x).stop i H ∧ D.nx σ H) ∨ ((Its x).go i H ∧ ∃ N : St → Hp → Prop, (∀ σ' H', N σ' H' → ∃ m', m' < m ∧ W (i + 1) m' σ' H') ∧ ∀ y H', (Its x).yld i H y H' → g y σ H' fun σ2 H2 => tb { D with nx := N, ct := N, bk := D.nx } σ2 H2) := by
  refine ⟨fun i m σ H => m = x.length - i ∧ i ≤ x.length ∧ Pv i σ H, ⟨x.length, by simp, Nat.zero_le _, h0⟩, ?_⟩
  rintro i m σ H ⟨rfl, hi, p⟩
  by_cases hlt : i < x.length
  · refine .inr ⟨hlt, Pv (i + 1), fun σ' H' p' => ⟨x.length - (i + 1), by omega, rfl, hlt, p'⟩, fun y H' q => ?_⟩
    obtain ⟨e, c, hc, e2⟩ := q
    subst e e2
    exact hs i c σ _ hc p
  · have e : i = x.length := by omega
    subst e
    exact .inl ⟨Nat.le_refl _, hd σ H p⟩
section
variable {X : Cx}
def rSlS : V → Option Int → Option Int → Hp → VK → Prop := fun x lo hi H Q => ∃ z, x = .str z ∧ z.length ≤ sizeLine ∧ Q (.str (Txt.slice z lo hi)) H
theorem sl_str : SlR X rSlS := by
  intro pins s σ H x v vl vu lo hi sl Q I rx hs pl pu h
  obtain ⟨z, rfl, hz, q⟩ := h
  obtain ⟨t, rfl⟩ := rx
  refine ⟨"str", _, PySem.F.slot_str_getitem.lookup, typeIs_str _ _ _, ?_⟩
  have fin : ∀ t' k, EP X pins σ Q (.str (Txt.slice z lo hi) t') { s with toks := k } := fun t' k => ⟨.str _, H, I.tok k, ⟨t', rfl⟩, q⟩
  obtain ⟨o, ho, hc, hd⟩ := hs
  cases pl with
  | none =>
    cases pu with
    | none => exact wpAny_getItem_str_slice (l := none) (u := none) (st := none) ⟨o, ho, hc, hd⟩ rfl (post_val_or_str ⟨Nat.le_trans (Txt.slice_le z _ _) hz, fun t' k => fin t' k⟩)
    | int j uj => exact wpAny_getItem_str_slice (l := none) (u := some (j, uj)) (st := none) ⟨o, ho, hc, hd⟩ rfl (post_val_or_str ⟨Nat.le_trans (Txt.slice_le z _ _) hz, fun t' k => fin t' k⟩)
  | int i ui =>
    cases pu with
    | none => exact wpAny_getItem_str_slice (l := some (i, ui)) (u := none) (st := none) ⟨o, ho, hc, hd⟩ rfl (post_val_or_str ⟨Nat.le_trans (Txt.slice_le z _ _) hz, fun t' k => fin t' k⟩)
    | int j uj => exact wpAny_getItem_str_slice (l := some (i, ui)) (u := some (j, uj)) (st := none) ⟨o, ho, hc, hd⟩ rfl (post_val_or_str ⟨Nat.le_trans (Txt.slice_le z _ _) hz, fun t' k => fin t' k⟩)
theorem mt_count : MtR X "str.count" (fun x xs H Q => ∃ z y, x = .str z ∧ xs = [.str y] ∧ Q (.int (Txt.count z y)) H) := by
  intro pins s σ H x xs v us Q I rx rs h
  obtain ⟨z, y, rfl, rfl, q⟩ := h
  obtain ⟨t, rfl⟩ := rx
  obtain ⟨u, rfl, t', rfl⟩ := vals1 rs
  exact SC.count ⟨.int _, H, I.tok _, ⟨_, rfl⟩, q⟩
theorem strsAre_of : ∀ {ys : List Str} {us : List Value}, Vals (ys.map V.str) us → StrsAre us ys
  | [], _, r => by cases r; exact .nil
  | y :: ys, _, r => by
    cases r with
    | cons a b =>
      obtain ⟨t, rfl⟩ := a
      exact .cons y t (strsAre_of b)
def rJoin (K : PySem.W.Frag) : V → List V → Hp → VK → Prop := fun x xs H Q => ∃ z p ys, x = .str z ∧ xs = [.ref p] ∧ SqL K H p (ys.map V.str) ∧ (ys.map (·.length)).sum + ys.length * z.length ≤ 16777216 ∧ Q (.str (Txt.join z ys)) H
theorem mt_join : MtR X "str.join" (rJoin X.K) := by
  intro pins s σ H x xs v us Q I rx rs h
  obtain ⟨z, p, ys, rfl, rfl, hp, hz, q⟩ := h
  obtain ⟨t, rfl⟩ := rx
  obtain ⟨u, rfl, e⟩ := vals1 rs
  cases e
  obtain ⟨its, rv, pl, _⟩ := I.list hp
  exact join_list pl.isList (by simpa using strsAre_of rv) hz fun t' k => ⟨.str _, H, I.tok k, ⟨t', rfl⟩, q⟩
theorem op_mul_str : OpR X (binaryOp .Mult) (fun x y H Q => ∃ z n, x = .str z ∧ y = .int n ∧ MulOk z n ∧ Q (.str (Txt.mul z n)) H) := by
  intro pins s σ H x y v u Q I rx ry h
  obtain ⟨z, n, rfl, rfl, hm, q⟩ := h
  obtain ⟨t, rfl⟩ := rx
  obtain ⟨t', rfl⟩ := ry
  exact SB.mul hm fun t' k => ⟨.str _, H, I.tok k, ⟨t', rfl⟩, q⟩
theorem op_le_str : OpR X (compareOp .LtE) (fun x y H Q => ∃ i j, x = .str i ∧ y = .str j ∧ Q (.bl (!decide (j.cps.toList < i.cps.toList))) H) := by
  intro pins s σ H x y v u Q I rx ry h
  obtain ⟨i, j, rfl, rfl, q⟩ := h
  obtain ⟨t, rfl⟩ := rx
  obtain ⟨t', rfl⟩ := ry
  exact PySem.P.le_str ⟨.bl _, H, I, rfl, q⟩
theorem call_isinst {T : String} {b : Bool} : CallR X (.builtin "isinstance") (fun xs H Q => ∃ x t, xs = [x, .ty T] ∧ TyOf X.K H x t ∧ PySem.W.kitOne X.K t (.type T) = some b ∧ Q (.bl b) H) := by
  intro pins s σ H xs us Q I r h
  obtain ⟨x, t, rfl, ty, e, q⟩ := h
  obtain ⟨u, w', rfl, rx, ry⟩ := vals2 r
  cases ry
  exact isinst_ok I rx ty e fun tk => ⟨.bl b, H, I.tok tk, rfl, q⟩
end
end L2
namespace L2
open PySem PySem.Spec PyProof.Rows
def cxComp (X : Cx) (x : Str) (sc : Scope) (cl : List (Str × Addr)) (C : Addr) (fp : List Addr) (s : Shared) (H : Hp) : Cx where
  prog := X.prog
  w := X.w
  K := X.K
  mg := X.mg
  base := X.base
  A := X.A
  N := x :: X.N
  s₀ := s
  H₀ := H
  env := compEnvC sc cl C X.env
  outer := X.stack
  stack := X.stack
  ex := fp
  fn := fun _ => false
  calm := X.calm
  pn := []
  xe := fun _ _ => False
def PTs (X : Cx) (ifs : List Expr) (t : TT) : Prop :=
  ∀ (pins : List (Addr × Obj)) (s : Shared) (σ : St) (H : Hp) (Q : Bool → Hp → Prop), Inv X pins σ H s → t σ H Q →
    wpAny (model X.prog X.w) X.A (forIn ifs true fun c r => if r = true then do let ok ← isTrue c X.env (eval c X.env); pure (ForInStep.yield ok) else pure (ForInStep.yield r)) (TP X pins σ Q) X.xe s
theorem pts_one {X : Cx} {c : Expr} {t : TT} (h : PT X c t) : PTs X [c] t := fun pins s σ H Q I hw => wpAny_tests_one (h pins s σ H Q I hw)
def tComp (wi : TI) (tt : TT) (te : TE) : TE := fun σ H Q => wi σ H fun J H1 => ∀ D, H1 D = none → ∃ W : Nat → Nat → List V → Hp → Prop,
  (∃ m, W 0 m [] (upd H1 D (.lst []))) ∧ ∀ i m ys H2, W i m ys H2 → H2 D = some (.lst ys) ∧ ((J.stop i H2 ∧ Q (.ref D) H2) ∨ (J.go i H2 ∧ ys.length < sizeLine ∧ ∀ x H3, J.yld i H2 x H3 →
    tt (some x :: σ) H3 fun b H4 => if b = true then te (some x :: σ) H4 fun y H5 => H5 D = some (.lst ys) ∧ ∃ m', m' < m ∧ W (i + 1) m' (ys ++ [y]) (upd H5 D (.lst (ys ++ [y])))
      else ∃ m', m' < m ∧ W (i + 1) m' ys H4))
theorem neA {a b : Nat} (h : a ≠ b) : (show Addr from a) ≠ (show Addr from b) := h
theorem closure_of {sc : Scope} {env : Env} (hf : ∀ y ∈ sc.names, y.2 = .free → ∃ c, env.cells.lookup y.1 = some c) :
    ∃ cl, closureFor sc env = pure cl ∧ (∀ y c, cl.lookup y = some c → env.cells.lookup y = some c) ∧ ∀ y ∈ sc.names, y.2 = .free → ∃ c, cl.lookup y.1 = some c := by
  have go : ∀ (l : List (Str × NameKind)) (acc : List (Str × Addr)), (∀ y ∈ l, y.2 = .free → ∃ c, env.cells.lookup y.1 = some c) → (∀ y c, acc.lookup y = some c → env.cells.lookup y = some c) →
      ∃ cl, (forIn l acc fun (p : Str × NameKind) r => if (p.2 == .free) = true then do let a ← cellOf env p.1; pure (ForInStep.yield ((p.1, a) :: r)) else pure (ForInStep.yield r) : Sem (List (Str × Addr))) = pure cl ∧
        (∀ y c, cl.lookup y = some c → env.cells.lookup y = some c) ∧ (∀ y c, acc.lookup y = some c → ∃ c', cl.lookup y = some c') ∧ ∀ y ∈ l, y.2 = .free → ∃ c, cl.lookup y.1 = some c := by
    intro l
    induction l with
    | nil => intro acc _ ha; exact ⟨acc, rfl, ha, fun y c e => ⟨c, e⟩, fun y hy => by simp at hy⟩
    | cons p r ih =>
      intro acc hl ha
      obtain ⟨n, k⟩ := p
      by_cases hk : k = .free
      · subst hk
        obtain ⟨c, hc⟩ := hl (n, .free) List.mem_cons_self rfl
        have e1 : cellOf env n = pure c := by unfold cellOf; rw [hc]
        have ha' : ∀ y c', ((n, c) :: acc).lookup y = some c' → env.cells.lookup y = some c' := fun y c' e => by
          by_cases hy : (y == n) = true
          · rw [List.lookup_cons, hy] at e
            cases e
            rw [eq_of_beq hy]
            exact hc
          · rw [List.lookup_cons, Bool.eq_false_iff.mpr hy] at e
            exact ha y c' e
        obtain ⟨cl, h1, h2, h3, h4⟩ := ih ((n, c) :: acc) (fun y hy => hl y (List.mem_cons_of_mem _ hy)) ha'
        have kept : ∀ y c', acc.lookup y = some c' → ∃ c'', ((n, c) :: acc).lookup y = some c'' := fun y c' e => by
          by_cases hy : (y == n) = true
          · exact ⟨c, by rw [List.lookup_cons, hy]⟩
          · exact ⟨c', by rw [List.lookup_cons, Bool.eq_false_iff.mpr hy]; exact e⟩
        refine ⟨cl, ?_, h2, fun y c' e => ?_, fun y hy hyf => ?_⟩
        · rw [List.forIn_cons]
          simp only [beq_self_eq_true, if_true, e1, pure_bind]
          exact h1
        · obtain ⟨c'', e'⟩ := kept y c' e
          exact h3 y c'' e'
        · rcases List.mem_cons.mp hy with rfl | hy
          · exact h3 n c (by rw [List.lookup_cons, beq_self_eq_true])
          · exact h4 y hy hyf
      · have hb : (k == NameKind.free) = false := by simpa using hk
        obtain ⟨cl, h1, h2, h3, h4⟩ := ih acc (fun y hy => hl y (List.mem_cons_of_mem _ hy)) ha
        refine ⟨cl, ?_, h2, h3, fun y hy hyf => ?_⟩
        · rw [List.forIn_cons]
          simp only [hb, Bool.false_eq_true, if_false, pure_bind]
          exact h1
        · rcases List.mem_cons.mp hy with rfl | hy
          · exact absurd hyf hk
          · exact h4 y hy hyf
  obtain ⟨cl, h1, h2, _, h4⟩ := go sc.names [] hf (fun y c e => by simp at e)
  refine ⟨cl, ?_, h2, h4⟩
  show ((forIn sc.names [] fun (p : Str × NameKind) r => if (p.2 == .free) = true then do let a ← cellOf env p.1; pure (ForInStep.yield ((p.1, a) :: r)) else pure (ForInStep.yield r) : Sem (List (Str × Addr))) >>= fun s => pure s) = pure cl
  rw [bind_pure, h1]
theorem relabel_lookup {sc : Scope} {env : Env} {y : Str} {k : NameKind} (h : (relabel sc env).names.lookup y = some k) : sc.names.lookup y = some k ∨ (k = .cell ∧ sc.names.lookup y = some .free ∧ env.kindOf y = some .cell) := by
  have go : ∀ (l : List (Str × NameKind)), (l.map fun (n, k) => if (k == .free && env.scope.kind == .function && env.kindOf n == some .cell) then (n, NameKind.cell) else (n, k)).lookup y = some k →
      l.lookup y = some k ∨ (k = .cell ∧ l.lookup y = some .free ∧ env.kindOf y = some .cell) := by
    intro l
    induction l with
    | nil => intro h; simp at h
    | cons p r ih =>
      obtain ⟨n, kk⟩ := p
      intro h
      simp only [List.map_cons] at h
      by_cases hc : (kk == NameKind.free && env.scope.kind == .function && env.kindOf n == some .cell) = true
      · rw [if_pos hc] at h
        rw [List.lookup_cons] at h ⊢
        cases hy : y == n with
        | true =>
          rw [hy] at h
          have e : k = .cell := (Option.some.inj h).symm
          have e1 : kk = .free := by
            have := (Bool.and_eq_true_iff.mp (Bool.and_eq_true_iff.mp hc).1).1
            simpa using this
          have e2 : env.kindOf n = some .cell := by
            have := (Bool.and_eq_true_iff.mp hc).2
            simpa using this
          rw [eq_of_beq hy]
          exact .inr ⟨e, by rw [e1], e2⟩
        | false =>
          rw [hy] at h
          exact ih h
      · rw [if_neg hc] at h
        rw [List.lookup_cons] at h ⊢
        cases hy : y == n with
        | true => rw [hy] at h; exact .inl h
        | false => rw [hy] at h; exact ih h
  exact go sc.names h
section
variable {X : Cx} {elt iter : Expr} {x : Str} {px pos : Pos} {ifs : List Expr} {sc : Scope} {wi : TI} {tt : TT} {te : TE}
theorem pe_comp (hc : X.calm = true) (hN : X.N.Nodup) (hi : PI X (.Name x px) iter wi)
    (hb : ∀ (cl : List (Str × Addr)) (C : Addr) (fp : List Addr) (s : Shared) (H : Hp), PTs (cxComp X x sc cl C fp s H) ifs tt ∧ PE (cxComp X x sc cl C fp s H) elt te)
    (hx : sc.names.lookup x = some .local := by rfl) (hkind : sc.kind = .function := by rfl)
    (hnames : ∀ y ∈ sc.names, y.2 = .local → sc.names.lookup y.1 = some .local := by decide +kernel) (hcell : ∀ y ∈ sc.names, y.2 ≠ .cell := by decide +kernel)
    (hfree : (sc.names.all fun y => y.2 != .free || X.env.scope.names.lookup y.1 == some .cell) = true := by rfl)
    (hlo : (X.N.all fun y => sc.names.lookup y != some .local) = true := by rfl)
    (hs : ∀ x, foldedSetIterable iter X.env x = pure x := by intro _; rfl) :
    PE X (.ListComp elt [⟨.Name x px, iter, ifs, 0⟩] sc pos) (tComp wi tt te) := by
  intro pins s σ H Q I h
  have hfr : ∀ y ∈ sc.names, y.2 = .free → X.env.kindOf y.1 = some .cell := fun y hy e => by
    have q := List.all_eq_true.mp hfree y hy
    rw [e] at q
    simpa [Env.kindOf] using q
  have hlo' : ∀ y ∈ X.N, sc.names.lookup y ≠ some .local := fun y hy e => by
    have q := List.all_eq_true.mp hlo y hy
    rw [e] at q
    simp at q
  obtain ⟨cl, hclos, hsub, hhas⟩ := closure_of (env := X.env) (sc := sc) fun y hy e => I.ok.has y.1 (.inl (hfr y hy e))
  rw [eval_ListComp]
  refine wpAny_comprehension_free (use := none) rfl hs hclos hkind hnames (thn (hi pins s σ H _ I h) fun v s1 h1 => thn h1 fun itv s2 h2 => ?_)
  obtain ⟨it, fp, tn, J, H2, e, I2, T, st2, f2, hW⟩ := h2
  subst e
  have nobinds : ∀ y ∈ ([] : List (Str × Value)), sc.names.lookup y.1 = some .local := fun y hy => absurd hy (by simp)
  refine wpAny_newObj_type ?_
  refine wpAny_newFunctionEnv hcell nobinds (fun h₁ hns₁ hsb₁ => ?_) hkind
  dsimp only at hns₁ hsb₁ ⊢
  generalize hHa : s2.heap.push { cls := .type "list", dict := none, data := .seq ([] : List Value).toArray } = Ha at hns₁ hsb₁ ⊢
  have hC : Ha.objs.size = s2.heap.objs.size + 1 := by rw [← hHa, Heap.size_push]
  have hDC : s2.heap.objs.size ≠ Ha.objs.size := by rw [hC]; exact Nat.ne_of_lt (Nat.lt_succ_self _)
  have hCle : s2.heap.objs.size ≤ Ha.objs.size := by rw [hC]; exact Nat.le_succ _
  have neC : ∀ b o, s2.heap.get? b = some o → b ≠ Ha.objs.size := fun b o e => Nat.ne_of_lt (Nat.lt_of_lt_of_le (Heap.lt_size e) hCle)
  have old : ∀ b o, s2.heap.get? b = some o → h₁.get? b = some o := fun b o e => hsb₁.extBut b o (neC b o e) (Heap.get?_push_of_some _ (hHa ▸ Heap.get?_push_of_some _ e))
  have hacc : h₁.get? s2.heap.objs.size = some { cls := .type "list", dict := none, data := .seq ([] : List Value).toArray } := hsb₁.extBut _ _ hDC (Heap.get?_push_of_some _ (hHa ▸ Heap.get?_push_size _ rfl))
  generalize hDe : s2.heap.objs.size = D at *
  generalize hCe : Ha.objs.size = C at *
  have hHD : H2 D = none := I2.hok.fresh (Nat.le_of_eq hDe)
  have hHC : H2 C = none := I2.hok.fresh (by omega)
  obtain ⟨W, ⟨m0, w0⟩, turn⟩ := hW D hHD
  have fplt : ∀ b ∈ fp, b < D := fun b hb => by
    obtain ⟨o, e, _⟩ := T.obj _ _ st2 b hb
    rw [← hDe]
    exact Heap.lt_size e
  let X' : Cx := cxComp X x sc cl C fp s2 H2
  have nofs : ∀ b ∈ fp, b ∉ frs X.stack := fun b hb z => by
    rcases List.mem_cons.mp (I2.stkSub b z) with e | e
    · exact (f2 b hb).2.1 e
    · exact (f2 b hb).2.2.1 e
  have ok' : X'.Ok := by
    refine ⟨I2.ok.mod, hkind, I2.ok.glob, I2.ok.blt, ?_, fun y z c e1 e2 => I2.ok.inj y z c (hsub y c e1) (hsub z c e2), fun y hy => ?_, fun y c e => absurd (show false = true from e) Bool.false_ne_true, I2.ok.hd, I2.ok.frames, .inl rfl, fun b hb => ⟨?_, fun y c e => ?_⟩, I2.bs,
      Nat.le_trans I2.ok.bsz I2.sz, fun b o e hb => ?_, nofs, I2.stack, I2.stkFree⟩
    · show s2.heap.objs.size ≤ C
      omega
    · rcases hy with hy | hy
      · rcases relabel_lookup (show (relabel sc X.env).names.lookup y = some .cell from hy) with e | ⟨_, e, _⟩
        · exact absurd rfl (hcell _ (PySem.mem_of_lookup e))
        · exact hhas _ (PySem.mem_of_lookup e) rfl
      · rcases relabel_lookup (show (relabel sc X.env).names.lookup y = some .free from hy) with e | ⟨e, _⟩
        · exact hhas _ (PySem.mem_of_lookup e) rfl
        · cases e
    · exact Nat.ne_of_lt (Nat.lt_of_lt_of_le (fplt b hb) (by omega : D ≤ C))
    · exact (f2 b hb).2.2.2.2.1 y c (hsub y c e)
    · rcases (f2 b hb).2.2.2.1 with z | z
      · exact I2.ok.noex b o e z
      · exact absurd (Nat.lt_of_lt_of_le (Nat.lt_of_lt_of_le (Heap.lt_size e) I2.ok.bsz) z) (Nat.lt_irrefl _)
  have I4 : ∀ tk, Inv X' [] (none :: σ) (upd H2 D (.lst [])) { s2 with heap := h₁, toks := tk } := fun tk => by
    refine ⟨ok', rfl, I2.bare, Un.laid old (Nat.le_of_eq hDe) hHD, ⟨_, hns₁, fun i y v e1 e2 e3 => ?_⟩, fun y c e => ?_, ?_, fun y c e => ?_, fun p hp => ?_, I2.hok.laid old (Nat.le_of_eq hDe) ?_, ?_⟩
    · cases i with
      | zero => simp at e2
      | succ i =>
        have e1 : X.N[i]? = some y := by simpa [X', cxComp] using e1
        have e2 : σ[i]? = some (some v) := by simpa using e2
        have e3 : Vis (relabel sc X.env) y := e3
        have hyN : y ∈ X.N := List.mem_of_getElem? e1
        have free : sc.names.lookup y = some .free ∧ (relabel sc X.env).names.lookup y ≠ some .local := by
          rcases e3 with e | e | e
          · rcases relabel_lookup e with q | ⟨q, _⟩
            · exact absurd q (hlo' y hyN)
            · cases q
          · rcases relabel_lookup e with q | ⟨_, q, _⟩
            · exact absurd rfl (hcell _ (PySem.mem_of_lookup q))
            · exact ⟨q, by rw [e]; decide⟩
          · rcases relabel_lookup e with q | ⟨q, _⟩
            · exact ⟨q, by rw [e]; decide⟩
            · cases q
        have kc : X.env.kindOf y = some .cell := hfr _ (PySem.mem_of_lookup free.1) rfl
        obtain ⟨m, hn, hl⟩ := I2.loc
        obtain ⟨u, ru, lk⟩ := hl i y v e1 e2 (.inr (.inl kc))
        rcases lk with ⟨q, _⟩ | ⟨_, c, hcc, ⟨o, ho, hd⟩⟩
        · rw [kc] at q; cases q
        · obtain ⟨c', hc'⟩ := hhas _ (PySem.mem_of_lookup free.1) rfl
          have e4 := hsub _ _ hc'
          rw [hcc] at e4
          cases e4
          refine ⟨u, ru, .inr ⟨?_, c, hc', ⟨o, old c o ho, hd⟩⟩⟩
          rcases e3 with e | e | e
          · exact absurd e free.2
          · exact .inl e
          · exact .inr e
    · obtain ⟨v, o, ho, hd⟩ := I2.cell y c (hsub y c e)
      exact ⟨v, o, old c o ho, hd⟩
    · show upd H2 D (.lst []) C = none
      rw [upd_ne (neA (by omega))]
      exact hHC
    · obtain ⟨v, o, ho, hd⟩ := I2.cell y c (hsub y c e)
      have hlt := Heap.lt_size ho
      rw [hDe] at hlt
      show upd H2 D (.lst []) c = none
      rw [upd_ne (Nat.ne_of_lt hlt)]
      exact I2.freeC y c (hsub y c e)
    · exact absurd (show p ∈ ([] : List (Addr × Obj)) from hp) (by simp)
    · exact ⟨Nat.zero_le _, [], 0, .nil, hacc⟩
    · show (none :: σ).length = (x :: X.N).length
      rw [List.length_cons, List.length_cons, I2.len]
  have hN' : X'.N.Nodup := by
    show (x :: X.N).Nodup
    exact List.nodup_cons.mpr ⟨fun z => hlo' x z hx, hN⟩
  have hx' : X'.env.scope.names.lookup x = some .local := lookup_relabel_local hx
  obtain ⟨PT', PE'⟩ := hb cl C fp s2 H2
  have fpX : ∀ {pins' : List (Addr × Obj)} {H' : Hp}, (∀ b ∈ fp, H' b = none) → (∀ p ∈ pins', p.1 ∉ fp) → ∀ b ∈ fp, FpOk X' pins' H' b := fun hn hp b hb => by
    refine ⟨hn b hb, ?_, nofs b hb, .inl hb, fun y c e => (f2 b hb).2.2.2.2.1 y c (hsub y c e), fun p q z => ?_⟩
    · exact Nat.ne_of_lt (Nat.lt_of_lt_of_le (fplt b hb) (by omega : D ≤ C))
    · rcases List.mem_append.mp q with q | q
      · exact absurd (show p ∈ ([] : List (Addr × Obj)) from q) (by simp)
      · exact hp p q (by rw [z]; exact hb)
  have loop : ∀ tk, codeAny (model X.prog X.w) X.A (.compLoop (.ListComp elt [⟨.Name x px, iter, ifs, 0⟩] sc pos) 0 (.ref it) (.ref D) (compEnvC sc cl C X.env)) (compPost (model X.prog X.w) X.A X.xe none (EP X pins σ Q) (.ref D) C) { s2 with heap := h₁, toks := tk } := fun tk => by
    refine codeAny_compLoop_tests (fun n s' => ∃ i ys o H', Inv X' [] (o :: σ) H' s' ∧ tn i s'.heap ∧ (∀ b ∈ fp, H' b = none) ∧ W i n ys H') ?_ m0 ⟨0, [], none, _, I4 tk, T.keep _ _ _ st2 fun b hb o e => old b o e, fun b hb => ?_, w0⟩
    · rintro n s3 ⟨i, ys, o3, H3, I3, st3, fr3, w3⟩
      obtain ⟨hD3, alt⟩ := turn i n ys H3 w3
      rcases alt with ⟨stop, qn⟩ | ⟨go, hlen, step⟩
      · refine wpAny_mono (T.done X' rfl rfl rfl hc i [] s3 _ H3 (fun _ _ => False) I3 (fpX fr3 (by simp)) st3 stop) (fun r s4 ⟨hr, I4'⟩ => ?_) fun _ _ f => f.elim
        subst hr
        obtain ⟨mC, hnC, _⟩ := I4'.loc
        refine ⟨mC, hnC, fun h' hs' => ?_⟩
        have nC : ∀ b u, H3 b = some u → b ≠ C := fun b u e z => by rw [z] at e; rw [show H3 C = none from I4'.free] at e; cases e
        have hok' : HOk X.prog X.w H3 h' := fun b u e => (I4'.hok b u e).stay (fun c v hcc q => hs'.extBut c v (by
          rcases hcc with z | z
          · rw [z]; exact nC b u e
          · exact nC c _ z) q) (fun _ q => q) fun _ _ q => q
        have un : Un (frs X.stack) fp H2 H3 s2.heap h' :=
          ⟨fun b o e n1 n2 n3 => hs'.extBut b o (neC b o e) (I4'.base.keep b o e n1 n2 n3), fun b o e n1 n2 n3 => by
              obtain ⟨sl, q⟩ := I4'.base.slot b o e n1 n2 n3
              exact ⟨sl, hs'.extBut b _ (neC b o e) q⟩, I4'.base.free, fun b o e n1 => by
              obtain ⟨o', q⟩ := I4'.base.there b o e n1
              exact ⟨o', hs'.extBut b _ (neC b o e) q⟩, I4'.base.tups, I4'.base.frzs, I4'.base.tbls⟩
        exact ⟨.ref D, H3, I2.call' (s' := { s4 with heap := h' }) I4'.os un hok' I4'.bare fun b hb => ⟨(f2 b hb).2.2.2.1, (f2 b hb).2.1, (f2 b hb).2.2.2.2.1, (f2 b hb).2.2.2.2.2⟩, rfl, qn⟩
      · refine wpAny_mono (T.item X' rfl rfl rfl hc i [] s3 _ H3 (fun _ _ => False) I3 (fpX fr3 (by simp)) st3 go) (fun r s4 ⟨u, hr, h4⟩ => ?_) fun _ _ f => f.elim
        subst hr
        have eg : (letOwnedTupleGo (.Name x px) (.ref it) u >>= fun _ => assign (.Name x px) (compEnvC sc cl C X.env) u) = assign (.Name x px) (compEnvC sc cl C X.env) u := pure_bind () _
        show wpAny _ _ (assign (.Name x px) (compEnvC sc cl C X.env) u) _ _ s4
        rw [← eg]
        refine wpAny_bind (wpAny_mono h4 (fun _ s5 ⟨y, H5, I5, r5, y5, st5, fr5⟩ => ?_) fun _ _ f => f.elim)
        have I5' := I5.pinned (fpX fr5 (by simp)) (T.obj _ _ st5)
        refine wpAny_mono (pg_name (X := X') (i := 0) (pos := px) hN' rfl (.inl hx') (.inr hx') _ s5 _ H5 y u (fun σ' H' => σ' = some y :: σ ∧ H' = H5) I5' r5 ⟨rfl, rfl⟩) (fun _ s6 ⟨σ6, H6, I6, e1, e2⟩ => ?_) fun _ _ f => f.elim
        subst e1 e2
        refine wpAny_mono (PT' _ s6 _ _ _ I6 (step y _ y5)) (fun ok s7 ⟨H7, I7, q7⟩ => ?_) fun _ _ f => f.elim
        have again : ∀ {s8 : Shared} {H8 : Hp} {ys' : List V}, Inv X' ([] ++ pinsAt fp s5.heap) (some y :: σ) H8 s8 → (∃ m', m' < n ∧ W (i + 1) m' ys' H8) → ∃ m, m < n ∧ ∃ i ys o H', Inv X' [] (o :: σ) H' s8 ∧ tn i s8.heap ∧ (∀ b ∈ fp, H' b = none) ∧ W i m ys H' := fun {s8 H8 ys'} I8 ⟨m', hm, w8⟩ => by
          refine ⟨m', hm, i + 1, ys', some y, H8, I8.unpinned, T.keep _ _ _ st5 fun b hb o e => (I8.pin (b, o) (List.mem_append_right _ (List.mem_append_right _ (mem_pinsAt hb e)))).1, fun b hb => ?_, w8⟩
          obtain ⟨o, e, d⟩ := T.obj _ _ st5 b hb
          exact (I8.pin (b, o) (List.mem_append_right _ (List.mem_append_right _ (mem_pinsAt hb e)))).2.1
        cases ok with
        | false => exact again I7 q7
        | true =>
          have q7 : te (some y :: σ) H7 _ := q7
          refine wpAny_mono (PE' _ s7 _ _ _ I7 q7) (fun z s8 ⟨yv, H8, I8, r8, hD8, q8⟩ => ?_) fun _ _ f => f.elim
          refine wpAny_mono (mt_append (X := X') _ s8 _ H8 (.ref D) [yv] (.ref D) [z] (fun _ H9 => H9 = upd H8 D (.lst (ys ++ [yv]))) I8 rfl (.cons r8 .nil) ⟨D, ys, yv, rfl, rfl, hD8, hlen, rfl⟩) (fun _ s9 ⟨_, H9, I9, _, e9⟩ => ?_) fun _ _ f => f.elim
          subst e9
          exact again I9 q8
    · show upd H2 D (.lst []) b = none
      rw [upd_ne (Nat.ne_of_lt (fplt b hb))]
      exact (f2 b hb).1
  exact codeAny_compStart_list (loop _) (T.self _ _ _ _ _ (T.keep _ _ _ st2 fun b hb o e => old b o e) (loop _))
end
theorem comp_signs {x : Str} {tt : TT} {σ : St} {H : Hp} {Q : VK} (p : Nat → Bool) (hz : x.length ≤ sizeLine)
    (ht : ∀ (i : Nat) (c : Nat) (H' : Hp) (R : Bool → Hp → Prop), x.cps[i]? = some c → R (p c) H' → tt (some (.str ⟨#[c]⟩) :: σ) H' R) (hq : ∀ D, H D = none → Q (.ref D) (upd H D (.lst ((x.cps.toList.filter p).map fun c => V.str ⟨#[c]⟩)))) :
    ∀ D, H D = none → ∃ W : Nat → Nat → List V → Hp → Prop,
  (∃ m, W 0 m [] (upd H D (.lst []))) ∧ ∀ i m ys H2, W i m ys H2 → H2 D = some (.lst ys) ∧ (((Its x).stop i H2 ∧ Q (.ref D) H2) ∨ ((Its x).go i H2 ∧ ys.length < sizeLine ∧ ∀ y H3, (Its x).yld i H2 y H3 →
    tt (some y :: σ) H3 fun b H4 => if b = true then tVar 0 (some y :: σ) H4 fun z H5 => H5 D = some (.lst ys) ∧ ∃ m', m' < m ∧ W (i + 1) m' (ys ++ [z]) (upd H5 D (.lst (ys ++ [z])))
      else ∃ m', m' < m ∧ W (i + 1) m' ys H4)) := by
  intro D hD
  refine ⟨fun i m ys H2 => m = x.length - i ∧ i ≤ x.length ∧ ys = ((x.cps.toList.take i).filter p).map (fun c => V.str ⟨#[c]⟩) ∧ H2 = upd H D (.lst ys), ⟨x.length, by simp, Nat.zero_le _, by simp, rfl⟩, ?_⟩
  rintro i m ys H2 ⟨rfl, hi, rfl, rfl⟩
  refine ⟨upd_same, ?_⟩
  by_cases hlt : i < x.length
  · refine .inr ⟨hlt, ?_, fun y H3 q => ?_⟩
    · rw [List.length_map]
      have := List.length_filter_le p (x.cps.toList.take i)
      rw [List.length_take] at this
      omega
    · obtain ⟨e, c, hx, e2⟩ := q
      subst e e2
      have hx' : x.cps.toList[i]? = some c := by simpa using hx
      refine ht i c _ _ hx ?_
      cases hp : p c with
      | true =>
        refine iteT ⟨_, rfl, upd_same, x.length - (i + 1), by omega, rfl, hlt, ?_, ?_⟩
        · rw [List.take_add_one, hx', List.filter_append, List.map_append]
          simp [hp]
        · rw [upd_upd]
      | false =>
        refine iteF ⟨x.length - (i + 1), by omega, rfl, hlt, ?_, rfl⟩
        rw [List.take_add_one, hx', List.filter_append, List.map_append]
        simp [hp]
  · have e : i = x.length := by omega
    subst e
    refine .inl ⟨Nat.le_refl _, ?_⟩
    rw [show x.length = x.cps.toList.length by simp [Str.length], List.take_length]
    exact hq D hD
end L2
namespace L2
open PySem PySem.Spec PyProof.Rows
def Df (P : Program) (w : World) (K : PySem.W.Frag) (mg : Str → Option Value) (base : Heap) (x : Str) (k : Nat) (ps : List Str) (sp : Sp) : Prop :=
  ∃ (f : Addr) (fd : FuncData), mg x = some (.ref f) ∧ PySem.W.keepIn K (.ref f) = true ∧ Binds K fd ps [] ∧ FnOk P w K mg base CX0 k f fd ps sp
theorem pe_df {X : Cx} {x : Str} {k : Nat} {ps : List Str} {sp : Sp} {e : Expr} {es : List Expr} {p pos : Pos} {t : TA} (D : Df X.prog X.w X.K X.mg X.base x k ps sp) (hr : Room k X.A) (ha : PA X (e :: es) t)
    (hg : Gl X x := by rfl) (hdb : (x == ("__debug__" : Str)) = false := by decide) (he : starEach (e :: es) X.env = (false, eval e X.env) :: starEach es X.env := by rfl) (hpl : (backTo pos (starEach es X.env)).any (·.1) = false := by rfl) :
    PE X (.Call (.Name x p) (e :: es) [] pos) (tCall sp [] E0 t) := by
  obtain ⟨f, fd, h1, h2, h3, F⟩ := D
  exact pe_call F hr hg h1 h2 h3 .nil pass0 ha hdb he hpl
theorem iteD {c A B : Prop} [Decidable c] (hc : c) (h : A) : if decide c = true then A else B := by
  rw [decide_eq_true hc]
  exact iteT h
theorem iteN {c A B : Prop} [Decidable c] (hc : ¬ c) (h : B) : if decide c = true then A else B := by
  rw [decide_eq_false hc]
  exact iteF h
theorem iteB {c : Bool} {A B : Prop} (h1 : c = true → A) (h2 : c = false → B) : if c = true then A else B := by
  cases c
  · exact iteF (h2 rfl)
  · exact iteT (h1 rfl)
theorem ite3 {c A B : Prop} [Decidable c] (h1 : c → A) (h2 : ¬ c → B) : if decide c = true then A else B := by
  by_cases h : c
  · exact iteD h (h1 h)
  · exact iteN h (h2 h)
theorem Same.upd {H : Hp} {D : Addr} {o : HO} (n : H D = none) : Same H (upd H D o) := fun b u e => by rw [upd_ne (ne_of_none e n)]; exact e
theorem line_ge {n : Nat} (h : n ≤ 16777216) : n ≤ sizeLine := by rw [sizeLine_eq]; exact h
theorem atI_in {α : Type} {xs : List α} {i : Int} (h0 : 0 ≤ i) (h1 : i < xs.length) : ∃ v, atI xs i = some v ∧ xs[i.toNat]? = some v := by
  obtain ⟨j, rfl⟩ := Int.eq_ofNat_of_zero_le h0
  have hj : j < xs.length := by omega
  exact ⟨xs[j], atI_nat (by simp [hj]), by simp [hj]⟩
end L2
namespace L2
open PySem PySem.Spec PyProof.Rows
def tCut (t u : TS) : TS := fun D σ H => ∃ M : St → Hp → Prop, t { D with nx := M } σ H ∧ ∀ σ' H', M σ' H' → u D σ' H'
theorem pss_cut {X : Cx} {st : Stmt} {rest : List Stmt} {t u : TS} (h1 : PS X st t) (h2 : PSs X rest u) : PSs X (st :: rest) (tCut t u) := by
  intro pins s σ H D I h
  obtain ⟨M, h, hM⟩ := h
  refine wpAny_execs_cons (thn (h1 pins s σ H { D with nx := M } I h) fun f s1 q => ?_)
  cases f with
  | next =>
    obtain ⟨σ', H', I', q⟩ := q
    exact h2 pins s1 σ' H' D I' (hM σ' H' q)
  | ret v => exact q
  | brk => exact q
  | cont => exact q
def cutI (ns : List Int) (lo hi : Option Int) : List Int := (ns.drop (HT.sIx ns.length 0 lo)).take (HT.sIx ns.length ns.length hi - HT.sIx ns.length 0 lo)
theorem cutV_ints (ns : List Int) (lo hi : Option Int) : cutV (ns.map V.int) lo hi = (cutI ns lo hi).map V.int := by
  unfold cutV cutI
  rw [List.length_map, List.map_take, List.map_drop]
theorem cutI_length (ns : List Int) (lo hi : Option Int) : (cutI ns lo hi).length ≤ ns.length := by
  unfold cutI
  rw [List.length_take, List.length_drop]
  omega
def spLaw (K : PySem.W.Frag) : Sp := fun vs H Q _ => ∃ (a : Addr) (ns : List Int), vs = [.ref a] ∧ SqL K H a (ns.map V.int) ∧ ns.length ≤ 63 ∧ ∀ H', Q (.bl true) H'
theorem walk63 {l : PySem.W.OpenLaw} {k : Nat} {x : Str} {q : Program} {loose : List Str} {XP : (Str → Option Value) → Heap → Prop} {YP : World → Heap → Prop} {d : DefRec} {K : Params → PySem.W.Frag} (hn : l.most = some 63) (hdf : d.params.defaults = []) (hr : Room k callerA)
    (hY : ∀ (w : World) (h : Heap), YP w h → (K w.params).In h)
    (F : ∀ (w : World) (mg : Str → Option Value) (fa : Addr) (h : Heap), (K w.params).In h → h.Ns mainGlobals mg → mg d.name = some (.ref fa) →
      ∃ fd : FuncData, (∀ (s : Shared) (u : Value), BindsTo s fd ⟨[u], []⟩ [(x, u)]) ∧ ∀ base : Heap, (K w.params).In base → base.Ns mainGlobals mg → FnOk l.prog w (K w.params) mg base CX0 k fa fd [x] (spLaw (K w.params))) :
    PySem.W.WalkO q loose XP YP l.row.toRowW d [] (fun f vs => PySem.call f vs) :=
  L2.walk_of (n := 63) (k := k) (x := x) (CX := fun _ => CX0) (sp := fun w => spLaw (K w.params)) hn (by decide) hdf hr hY F (fun _ _ a ns hl _ hS => ⟨a, ns, rfl, hS, hl, fun _ => rfl⟩) fun _ _ _ _ _ z => z
end L2
namespace L2
open PySem PySem.Spec PyProof.Rows
section
variable {X : Cx}
theorem op_m : OpR X (binaryOp .Mod) (fun x y H Q => ∃ i j, x = .int i ∧ y = .int j ∧ 0 < j ∧ Q (.int (i % j)) H) := op_mod
theorem op_f : OpR X (binaryOp .FloorDiv) (fun x y H Q => ∃ i j, x = .int i ∧ y = .int j ∧ (0 < j ∧ j < 1073741824) ∧ Q (.int (i / j)) H) := op_fdiv
theorem op_a : OpR X (binaryOp .Add) (fun x y H Q => ∃ i j, x = .int i ∧ y = .int j ∧ Q (.int (i + j)) H) := op_add
theorem op_s : OpR X (binaryOp .Sub) (fun x y H Q => ∃ i j, x = .int i ∧ y = .int j ∧ Q (.int (i - j)) H) := op_sub
end
end L2
namespace RA
open PySem PySem.StrLaws Builtin Builtin.Str
def tx (l : List Nat) : Str := ⟨l.toArray⟩
theorem tx_cps (l : List Nat) : (tx l).cps.toList = l := by simp [tx]
theorem tx_len (l : List Nat) : (tx l).length = l.length := by simp [tx, Str.length]
theorem tx_app (a b : List Nat) : tx a ++ tx b = tx (a ++ b) := by
  apply Str.ext'
  show a.toArray ++ b.toArray = (a ++ b).toArray
  simp
theorem tx_inj {a b : List Nat} (h : tx a = tx b) : a = b := by
  have := congrArg (fun s : Str => s.cps.toList) h
  simpa [tx] using this
theorem tx_get (l : List Nat) (i : Nat) : (tx l).cps[i]? = l[i]? := by simp [tx]
theorem at_one (l : List Nat) (c i : Nat) : At (tx l) ⟨#[c]⟩ (tx l).length i ↔ l[i]? = some c := by
  have h := subAt_one (tx l) c i
  rw [tx_cps] at h
  exact h
theorem contains_one (l : List Nat) (c : Nat) : Txt.contains (tx l) ⟨#[c]⟩ = decide (c ∈ l) := by
  have h := found_one (tx l) c
  rw [tx_cps] at h
  exact h
theorem slice_to (x : Str) {j : Int} (h : 0 ≤ j) : Txt.slice x none (some j) = tx (x.cps.toList.take j.toNat) := by
  have go : ∀ j : Int, 0 ≤ j → j ≤ x.cps.toList.length → Txt.slice x none (some j) = tx (x.cps.toList.take j.toNat) := fun j h0 h1 => by
    have e : Txt.slice x none (some j) = sliceText x none (some j) := rfl
    rw [e, sliceText_to ⟨h0, h1⟩]
    simp [tx]
  by_cases hj : j ≤ x.cps.toList.length
  · exact go j h hj
  · have e : Txt.slice x none (some j) = Txt.slice x none (some (x.length : Int)) := by
      have hl : x.length = x.cps.toList.length := by simp [Str.length]
      have e1 : strSliceIndices none (some j) 1 x.length = strSliceIndices none (some (x.length : Int)) 1 x.length := by
        have a : ¬ (j < 0) := by omega
        have b : ¬ ((x.length : Int) < 0) := by omega
        have m : min j (x.length : Int) = (x.length : Int) := by omega
        simp [strSliceIndices, a, b, m]
      unfold Txt.slice
      rw [e1]
    rw [e, go _ (by omega) (by simp [Str.length])]
    have hl : x.length = x.cps.toList.length := by simp [Str.length]
    rw [List.take_of_length_le (i := j.toNat) (by omega), List.take_of_length_le (by omega)]
theorem slice_from (x : Str) {i : Int} (h : 0 ≤ i) (h1 : i ≤ x.cps.toList.length) : Txt.slice x (some i) none = tx (x.cps.toList.drop i.toNat) := by
  have e : Txt.slice x (some i) none = sliceText x (some i) none := rfl
  rw [e, sliceText_from ⟨h, h1⟩]
  have e2 : ((x.cps.toList.length : Int) - i).toNat = (x.cps.toList.drop i.toNat).length := by rw [List.length_drop]; omega
  rw [e2, List.take_length]
  rfl
theorem join_signs : ∀ cs : List Nat, Txt.join Str.empty (cs.map fun c => (⟨#[c]⟩ : Str)) = tx cs := by
  intro cs
  unfold Txt.join
  rw [glued_eq_join]
  have go : ∀ (cs : List Nat), Str.join Str.empty (cs.map fun c => (⟨#[c]⟩ : Str)) = tx cs := by
    intro cs
    induction cs with
    | nil => rfl
    | cons a r ih =>
      cases r with
      | nil => rfl
      | cons b r =>
        show (⟨#[a]⟩ : Str) ++ Str.empty ++ Str.join Str.empty ((b :: r).map fun c => (⟨#[c]⟩ : Str)) = tx (a :: b :: r)
        rw [ih, Str.append_empty]
        exact tx_app [a] (b :: r)
  exact go cs
theorem le_one (a b : Nat) : (!decide ((⟨#[b]⟩ : Str).cps.toList < (⟨#[a]⟩ : Str).cps.toList)) = decide (a ≤ b) := by
  show (!decide ([b] < [a])) = decide (a ≤ b)
  rw [lt_cons_cons, lt_nil_nil, Bool.and_false, Bool.or_false]
  by_cases h : a ≤ b
  · rw [decide_eq_false (by omega), decide_eq_true h]; rfl
  · rw [decide_eq_true (by omega), decide_eq_false h]; rfl
theorem count_chain (l : List Nat) (c : Nat) : ∀ (cuts : List Nat) (a f : Nat), ChainG (tx l) ⟨#[c]⟩ (tx l).length a cuts f → (∀ k, f ≤ k → ¬ At (tx l) ⟨#[c]⟩ (tx l).length k) → (l.drop a).count c = cuts.length := by
  intro cuts
  induction cuts with
  | nil =>
    intro a f h hn
    have e : f = a := h
    subst e
    rw [List.length_nil, List.count_eq_zero]
    intro hm
    obtain ⟨i, hi⟩ := List.mem_iff_getElem?.mp hm
    rw [List.getElem?_drop] at hi
    exact hn _ (Nat.le_add_right _ _) ((at_one l c _).mpr hi)
  | cons d r ih =>
    intro a f h hn
    obtain ⟨h1, h2, h3, h4⟩ := h
    have hd := (at_one l c d).mp h2
    have q := ih (d + 1) f h4 hn
    obtain ⟨hlt, ed⟩ := List.getElem?_eq_some_iff.mp hd
    have split : l.drop a = (l.drop a).take (d - a) ++ c :: l.drop (d + 1) := by
      conv => lhs; rw [← List.take_append_drop (d - a) (l.drop a)]
      rw [List.drop_drop, show a + (d - a) = d by omega, List.drop_eq_getElem_cons hlt, ed]
    rw [split, List.count_append, List.count_cons_self, q, List.length_cons]
    have z : ((l.drop a).take (d - a)).count c = 0 := by
      rw [List.count_eq_zero]
      intro hm
      obtain ⟨i, hi⟩ := List.mem_iff_getElem?.mp hm
      rw [List.getElem?_take] at hi
      split at hi
      · rename_i hid
        rw [List.getElem?_drop] at hi
        exact h3 (a + i) (Nat.le_add_right _ _) (by omega) ((at_one l c _).mpr hi)
      · cases hi
    omega
theorem count_one (l : List Nat) (c : Nat) : Txt.count (tx l) ⟨#[c]⟩ = (l.count c : Nat) := by
  unfold Txt.count
  obtain ⟨f, h1, h2⟩ := occ_tight (tx l) ⟨#[c]⟩ (by simp [Str.length])
  have q := count_chain l c _ 0 f h1 h2
  rw [List.drop_zero] at q
  rw [q]
end RA
namespace RA
open PySem PySem.StrLaws Builtin Builtin.Str
structure Let (L : List Nat) : Prop where
  lo : 1 ≤ L.length
  hi : L.length ≤ 3
  nd : L.Nodup
  az : ∀ c ∈ L, 97 ≤ c ∧ c ≤ 122
theorem draw_one {f l : List Nat} {i : Nat} (hi : i < l.length) (nd : (f ++ l).Nodup) : ((f ++ [l[i]]) ++ (l.take i ++ l.drop (i + 1))).Nodup ∧ ∀ c, c ∈ (f ++ [l[i]]) ++ (l.take i ++ l.drop (i + 1)) → c ∈ f ++ l := by
  have e : l = l.take i ++ l[i] :: l.drop (i + 1) := by
    conv => lhs; rw [← List.take_append_drop i l, List.drop_eq_getElem_cons hi]
  have p : (f ++ l).Perm ((f ++ [l[i]]) ++ (l.take i ++ l.drop (i + 1))) := by
    conv => lhs; rw [e]
    rw [List.append_assoc]
    refine List.Perm.append_left f ?_
    show (l.take i ++ l[i] :: l.drop (i + 1)).Perm (l[i] :: (l.take i ++ l.drop (i + 1)))
    exact List.perm_middle
  exact ⟨p.nodup_iff.mp nd, fun c hc => p.mem_iff.mpr hc⟩
end RA
namespace RA
open PySem L2
theorem abc_eq : (Str.ofString "abcdefghijklmnopqrstuvwxyz") = tx (List.range' 97 26) := by decide +kernel
theorem empty_eq : (Str.ofString "") = tx [] := by decide +kernel
theorem empty_eq' : (Str.ofString "") = Str.empty := by decide +kernel
end RA
namespace RA
open PySem L2 Builtin Builtin.Str
theorem sum_ones : ∀ cs : List Nat, ((cs.map fun c => (⟨#[c]⟩ : Str)).map (·.length)).sum = cs.length
  | [] => rfl
  | _ :: cs => by
    rw [List.map_cons, List.map_cons, List.sum_cons, sum_ones cs, List.length_cons]
    show 1 + _ = _
    omega
theorem join_size (cs : List Nat) (h : cs.length ≤ 16777216) : ((cs.map fun c => (⟨#[c]⟩ : Str)).map (·.length)).sum + (cs.map fun c => (⟨#[c]⟩ : Str)).length * (Str.ofString "").length ≤ 16777216 := by
  rw [sum_ones, show (Str.ofString "").length = 0 by rw [empty_eq']; rfl]
  omega
theorem a_eq : (Str.ofString "a") = ⟨#[97]⟩ := by decide +kernel
theorem z_eq : (Str.ofString "z") = ⟨#[122]⟩ := by decide +kernel
theorem flat_any (l : List Nat) : ∀ (n : Nat) (acc : List Nat), ((List.replicate n (tx l).cps).foldl (· ++ ·) acc.toArray) = (acc ++ (List.replicate n l).flatten).toArray
  | 0, acc => by simp
  | n + 1, acc => by
    rw [List.replicate_succ, List.foldl_cons]
    have e : acc.toArray ++ (tx l).cps = (acc ++ l).toArray := by simp [tx]
    rw [e, flat_any l n (acc ++ l), List.replicate_succ, List.append_assoc]
    rfl
theorem mul_tx (l : List Nat) {n : Int} (h : 0 ≤ n) : Txt.mul (tx l) n = tx (List.replicate n.toNat l).flatten := by
  unfold Txt.mul
  by_cases h1 : n < 1
  · rw [if_pos h1, show n.toNat = 0 by omega]
    rfl
  · rw [if_neg h1]
    by_cases h2 : n = 1
    · subst h2
      rw [if_pos (by simp)]
      simp
    · by_cases h3 : l = []
      · subst h3
        rw [if_pos (by simp [tx, Str.length])]
        have z : ∀ k : Nat, (List.replicate k ([] : List Nat)).flatten = [] := fun k => by induction k with
          | zero => rfl
          | succ k ih => rw [List.replicate_succ, List.flatten_cons, ih]; rfl
        rw [z]
      · rw [if_neg (by simp [h2, Str.length, tx, h3])]
        have := flat_any l n.toNat []
        rw [List.nil_append] at this
        show (⟨_⟩ : Str) = ⟨_⟩
        rw [← this]
theorem flat_rep (c : Nat) : ∀ n : Nat, (List.replicate n [c]).flatten = List.replicate n c
  | 0 => rfl
  | n + 1 => by rw [List.replicate_succ, List.flatten_cons, flat_rep c n]; rfl
theorem mul_one (c : Nat) {n : Int} (h : 0 ≤ n) : Txt.mul ⟨#[c]⟩ n = tx (List.replicate n.toNat c) := by
  have e := mul_tx [c] h
  rw [flat_rep] at e
  exact e
theorem mulOk {x : Str} {n : Int} (h : n ≤ 1000000) (h0 : 0 ≤ n) (hx : x.length * n.toNat ≤ 16777216) (hl : x.length ≤ 16777216) : MulOk x n := by
  unfold MulOk
  refine ⟨?_, fun h1 _ => ?_, fun h1 _ => ?_⟩
  · rw [decide_eq_false (by omega), decide_eq_false (by omega)]
    rfl
  · have hp : (0 : Int) < n := by omega
    have h2 : (x.length : Int) * n ≤ 2 ^ 63 - 1 := by
      have e : (x.length : Int) * n = ((x.length * n.toNat : Nat) : Int) := by
        rw [Int.natCast_mul, Int.toNat_of_nonneg h0]
      rw [e]
      omega
    have h3 := (Int.le_ediv_iff_mul_le hp).mpr h2
    omega
  · unfold tooLong
    exact decide_eq_false (by rw [sizeLine_eq]; omega)
theorem mulOk_one (c : Nat) {n : Int} (h0 : 0 ≤ n) (h : n ≤ 1000000) : MulOk ⟨#[c]⟩ n := by
  have hl : (⟨#[c]⟩ : Str).length = 1 := rfl
  exact mulOk h h0 (by rw [hl]; omega) (by rw [hl]; omega)
end RA
namespace L2
open PySem PySem.Spec PyProof.Rows
section
variable {X : Cx}
theorem op_modG : OpR X (binaryOp .Mod) (fun x y H Q => ∃ i j, x = .int i ∧ y = .int j ∧ 0 < j ∧ ∀ r, 0 ≤ r → r < j → Q (.int r) H) := by
  intro pins s σ H x y v u Q I rx ry h
  obtain ⟨i, j, e1, e2, hj, q⟩ := h
  exact op_mod pins s σ H x y v u Q I rx ry ⟨i, j, e1, e2, hj, q _ (Int.emod_nonneg _ (by omega)) (Int.emod_lt_of_pos _ hj)⟩
end
theorem upd_keep {H : Hp} {a b : Addr} {o u : HO} (h : H a = some o) (n : H b = none) : upd H b u a = some o := by
  rw [upd_ne (ne_of_none h n)]
  exact h
theorem kit_ib (K : PySem.W.Frag) : PySem.W.kitOne K (.type "int") (.type "bool") = some false := by kernel_rfl
theorem kit_ii (K : PySem.W.Frag) : PySem.W.kitOne K (.type "int") (.type "int") = some true := by with_unfolding_all rfl
end L2
namespace RA
open PySem L2
end RA
namespace RA
end RA
namespace L2
open PySem
namespace RV
section
variable {prog : Program} {w : World} {A : Around} {E : Value → Shared → Prop} {s : Shared}
end
end RV
end L2
namespace L2
open PySem PySem.Spec PyProof.Rows
section
variable {X : Cx}
end
end L2
namespace L2
open PySem
namespace ZP
section
variable {prog : Program} {w : World} {A : Around} {E : Value → Shared → Prop} {s : Shared} {z TI TO i1 i2 : Addr} {f1 f2 : List Addr} {n1 n2 k : Nat} {P1 P2 : Nat → Value → Prop} {S1 S2 : Nat → Heap → Prop} {a b : Value}
end
section
variable {prog : Program} {w : World} {A : Around} {E : Value → Shared → Prop} {s : Shared} {z TI TO i1 i2 : Addr} {n1 n2 k : Nat} {P1 P2 : Nat → Value → Prop} {S1 S2 : Nat → Heap → Prop} {a b : Value}
def strAt (x : Str) (t : Tok) (it : Addr) (i : Nat) (h : Heap) : Prop := h.IsStrIter it (if x.cps.all (· < 128) then "str_ascii_iterator" else "str_iterator") x t i
theorem draws (hh : A.handled = none) (it : Addr) (x : Str) (t : Tok) : Draws prog w A it [it] x.cps.size (fun i v => ∃ c u, x.cps[i]? = some c ∧ v = .str ⟨#[c]⟩ u) (strAt x t it) := by
  unfold strAt
  cases x.cps.all (· < 128)
  · exact Draws.strWide hh it x t
  · exact Draws.strAscii hh it x t
end
end ZP
end L2
namespace L2
open PySem PySem.Spec PyProof.Rows
section
variable {X : Cx} {pins : List (Addr × Obj)} {σ : St} {H : Hp} {s : Shared} {h' : Heap}
theorem tracked_off {S : List Addr} (f : ∀ b ∈ S, H b = none) {b : Addr} {u : HO} (e : H b = some u) : b ∉ S := fun hb => by rw [f b hb] at e; cases e
theorem Inv.turnedL {S : List Addr} {t' : Nat} (I : Inv X pins σ H s) (k : ∀ b o, b ∉ S → s.heap.get? b = some o → h'.get? b = some o) (f : ∀ b ∈ S, FpOk X pins H b) : Inv X pins σ H { s with heap := h', toks := t' } := by
  refine I.call (g' := s.gens) (d' := s.drawn) (ch := S) ⟨fun b o e _ _ hc => k b o hc e, fun b o e _ _ hc => ⟨o.slots, k b o hc e⟩, fun _ _ _ n _ => n, fun b o e hc => ⟨o, k b o hc e⟩, fun _ _ e => e, fun _ _ _ e => e, fun _ ps e => ⟨#[], by rw [e]; simp⟩⟩
    (fun b u e => (I.hok b u e).stay (fun c v hc q => k c v ?_ q) (fun _ q => q) fun _ _ q => q) I.bare fun b hb => ⟨(f b hb).2.2.2.1, (f b hb).2.1, (f b hb).2.2.2.2.1, (f b hb).2.2.2.2.2⟩
  rcases hc with z | z
  · rw [z]; exact tracked_off (fun b hb => (f b hb).1) e
  · exact tracked_off (fun b hb => (f b hb).1) z
theorem Inv.turnedNew {S : List Addr} {t' : Nat} {o : HO} (I : Inv X pins σ H s) (k : ∀ b o, b ∉ S → s.heap.get? b = some o → h'.get? b = some o) (f : ∀ b ∈ S, FpOk X pins H b)
    (new : ObjOk X.prog X.w (upd H s.heap.objs.size o) h' s.heap.objs.size o) : Inv X pins σ (upd H s.heap.objs.size o) { s with heap := h', toks := t' } := by
  have fr : H s.heap.objs.size = none := I.hok.fresh (Nat.le_refl _)
  have ne : ∀ b u, H b = some u → b ≠ s.heap.objs.size := fun b u e => ne_of_none e fr
  refine I.call (g' := s.gens) (d' := s.drawn) (ch := S) ⟨fun b o e _ _ hc => k b o hc e, fun b o e _ _ hc => ⟨o.slots, k b o hc e⟩, fun b o e n _ => ?_, fun b o e hc => ⟨o, k b o hc e⟩, fun b xs e => by rw [upd_ne (ne b _ e)]; exact e, fun b o u e => by rw [upd_ne (ne b _ e)]; exact e, fun b ps e => ⟨#[], by rw [upd_ne (ne b _ e), e]; simp⟩⟩
    (fun b u e => ?_) I.bare fun b hb => ⟨(f b hb).2.2.2.1, (f b hb).2.1, (f b hb).2.2.2.2.1, (f b hb).2.2.2.2.2⟩
  · rw [upd_ne (Nat.ne_of_lt (Heap.lt_size e))]
    exact n
  · by_cases hb : b = s.heap.objs.size
    · subst hb
      rw [upd_same] at e
      cases e
      exact new
    · rw [upd_ne hb] at e
      refine (I.hok b u e).stay (fun c v hc q => k c v ?_ q) (fun c q => by rw [upd_ne (ne c _ q)]; exact q) fun c xs q => by rw [upd_ne (ne c _ q)]; exact q
      rcases hc with z | z
      · rw [z]; exact tracked_off (fun b hb => (f b hb).1) e
      · exact tracked_off (fun b hb => (f b hb).1) z
end
end L2
namespace L2
open PySem PySem.Spec PyProof.Rows
def Gent {α : Type} : Sem α → Prop
  | .pure _ => True
  | .raise _ => True
  | .unsupported _ => True
  | .load _ _ k => ∀ o, Gent (k o)
  | .update _ _ f k => (∀ o, (f o).dict = o.dict) ∧ Gent (k ())
  | .alloc _ k => ∀ a, Gent (k a)
  | .stack k => ∀ a, Gent (k a)
  | .ask k => ∀ a, Gent (k a)
  | .handled _ k => ∀ a, Gent (k a)
  | _ => False
def DK (h h' : Heap) : Prop := ∀ (b : Addr) (o : Obj), h.objs[b]? = some o → ∃ o', h'.objs[b]? = some o' ∧ o'.dict = o.dict
theorem DK.refl {h : Heap} : DK h h := fun _ o e => ⟨o, e, rfl⟩
theorem DK.trans {h h1 h2 : Heap} (a : DK h h1) (b : DK h1 h2) : DK h h2 := fun x o e => let ⟨_, e1, d1⟩ := a x o e; let ⟨o2, e2, d2⟩ := b x _ e1; ⟨o2, e2, d2.trans d1⟩
theorem gent_bind {α β : Type} {f : α → Sem β} (hf : ∀ a, Gent (f a)) : ∀ {t : Sem α}, Gent t → Gent (t >>= f) := by
  intro t
  show Gent t → Gent (Sem.bind t f)
  induction t with
  | pure a => exact fun _ => hf a
  | raise => exact id
  | unsupported => exact id
  | load a p k ih => exact fun h o => ih o (h o)
  | update a p g k ih => exact fun h => ⟨h.1, ih () h.2⟩
  | alloc o k ih => exact fun h a => ih a (h a)
  | stack k ih => exact fun h a => ih a (h a)
  | ask k ih => exact fun h a => ih a (h a)
  | handled o k ih => exact fun h a => ih a (h a)
  | _ => exact fun h => h.elim
theorem gent_wp {α : Type} {M : Model} {Γ : PySem.Ctx} {Q : α → Pos → Shared → Prop} {E : Value → Pos → Shared → Prop} {h0 : Heap} : ∀ (t : Sem α) (p : Pos) (s : Shared), Gent t → DK h0 s.heap → Sem.wp M Γ t (fun a p s' => DK h0 s'.heap → Q a p s') E p s → Sem.wp M Γ t Q E p s := by
  intro t
  induction t with
  | pure a => exact fun p s _ d h => h d
  | raise => exact fun p s _ d h => h
  | unsupported => exact fun p s _ d h => h
  | load a q k ih => exact fun p s g d ⟨o, e, h⟩ => ⟨o, e, ih o p s (g o) d h⟩
  | update a q f k ih =>
    refine fun p s g d ⟨e, h⟩ => ⟨e, ih () p _ g.2 (d.trans fun b o z => ?_) h⟩
    show ∃ o', (s.heap.objs.modify a f)[b]? = some o' ∧ _
    rw [Array.getElem?_modify]
    split
    · rw [z]; exact ⟨f o, rfl, g.1 o⟩
    · exact ⟨o, z, rfl⟩
  | alloc o k ih =>
    refine fun p s g d h => ih _ p _ (g _) (d.trans fun b u z => ⟨u, ?_, rfl⟩) h
    show (s.heap.objs.push o)[b]? = some u
    rw [Array.getElem?_push, if_neg (Nat.ne_of_lt (Array.getElem?_eq_some_iff.mp z).1)]
    exact z
  | stack k ih => exact fun p s g d h => ih _ p s (g _) d h
  | ask k ih => exact fun p s g d h => ih _ p s (g _) d h
  | handled o k ih => exact fun p s g d h => ih _ p s (g _) d h
  | _ => exact fun p s g => g.elim
theorem gent_use {α : Type} {M : Model} {A : Around} {t : Sem α} {Q : α → Shared → Prop} {E : Value → Shared → Prop} {s : Shared} (g : Gent t) (h : wpAny M A t (fun a s' => DK s.heap s'.heap → Q a s') E s) : wpAny M A t Q E s :=
  fun Γ p hA => gent_wp t p s g .refl (h Γ p hA)
theorem gent_update {a : Addr} {f : Obj → Obj} (h : ∀ o, (f o).dict = o.dict) : Gent (update a f) := ⟨h, True.intro⟩
theorem gent_load (a : Addr) : Gent (load a) := fun _ => True.intro
theorem gent_stack : Gent stack := fun _ => True.intro
theorem gent_field (v : Value) (i : Nat) : Gent (field v i) := by
  unfold field fieldsOf
  refine gent_bind (fun a => by split <;> exact True.intro) ?_
  split
  · refine gent_bind (fun o => by split <;> exact True.intro) (gent_load _)
  · exact True.intro
theorem gent_set (v : Value) (i : Nat) (x : Value) : Gent (setField v i x) := by
  unfold setField updateField
  split
  · refine gent_bind (fun o => ?_) (gent_load _)
    split
    · split
      · exact ⟨fun o => by unfold Obj.mapFields; split <;> rfl, True.intro⟩
      · exact True.intro
    · exact True.intro
  · exact True.intro
theorem gent_flight (e : Value) (f : Option Addr) : Gent (setFlight e f) := by
  unfold setFlight
  exact gent_bind (fun a => by split; exact gent_set _ _ _; exact True.intro) (gent_field _ _)
theorem gent_ready : ∀ l : List Env, Gent (readyFrames l)
  | [] => True.intro
  | env :: r => by
    unfold readyFrames
    split
    · refine gent_bind (fun o => ?_) (gent_load _)
      split
      · exact True.intro
      · refine gent_bind (fun b => gent_bind (fun v => gent_bind (fun _ => gent_ready r) ?_) ?_) ?_
        · exact gent_update fun _ => rfl
        · unfold keptBack
          split
          · split
            · exact True.intro
            · refine gent_bind (fun _ => ?_) ?_
              · exact True.intro
              unfold underTheClaimsCaller
              exact gent_bind (fun _ => by first | exact True.intro | (split <;> exact True.intro)) gent_stack
          · exact True.intro
        · unfold behindIsImport
          split
          · exact True.intro
          · split
            · exact True.intro
            · refine gent_bind (fun _ => ?_) (gent_field _ _)
              exact True.intro
    · exact True.intro
theorem gent_new (T : String) (vs : List Value) : Gent (newFields T vs) := by
  unfold newFields newObj newObjAsIs
  dsimp only
  split
  · exact True.intro
  · refine gent_bind (fun a => ?_) ?_
    · exact True.intro
    · exact fun _ => True.intro
theorem gent_note (e : Value) (env : Env) : Gent (noteFrame e env) := by
  unfold noteFrame
  split
  · refine gent_bind (fun h => ?_) (gent_field _ _)
    have rest : ∀ b : Bool, Gent (do setField e 1 (← EntryCells.newEntry h (← PySem.frameOf env) .none (rawInt ‹Addr›) .none (← entryPlaceOf ‹Addr› b))) := fun b => by
      refine gent_bind (fun fr => gent_bind (fun pl => gent_bind (fun x => gent_set _ _ _) ?_) ?_) ?_
      · exact gent_new _ _
      · unfold entryPlaceOf
        refine gent_bind (fun a => by split <;> exact True.intro) gent_stack
      · unfold PySem.frameOf frameEnvs
        refine gent_bind (fun fe => gent_bind (fun o => by split <;> exact True.intro) ?_) (gent_bind (fun _ => ?_) gent_stack)
        rotate_left
        · exact True.intro
        unfold frameObject
        split
        · exact True.intro
        · refine gent_bind (fun _ => ?_) (gent_ready _)
          exact True.intro
    split
    · refine gent_bind (fun x => ?_) (gent_field _ _)
      split
      · exact True.intro
      · exact gent_bind (fun _ => rest _) (gent_set _ _ _)
    · exact rest _
  · exact True.intro
theorem gent_leaving (env : Env) (e : Value) : Gent (leaving env e) := gent_bind (fun _ => gent_flight _ _) (gent_note _ _)
end L2
namespace L2
open PySem PySem.Spec PyProof.Rows
def Fly (h : Heap) (e T : Addr) (cls a0 : Value) (d : Option Addr) : Prop :=
  ∃ oe vs oT ts, h.get? e = some oe ∧ (oe.cls = cls ∧ vs[0]? = some a0) ∧ oe.data = .fields vs ∧ vs[1]? = some (.ref T) ∧ T ≠ e ∧ h.get? T = some oT ∧ oT.data = .fields ts ∧ ts[3]? = some .none ∧ ∀ x, d = some x → oe.dict = some x
theorem Fly.traced {h base : Heap} {e T : Addr} {cls a0 : Value} {d : Option Addr} (x : Fly h e T cls a0 d) (n : base.get? T = none) : h.TracedW base e cls a0 := by
  obtain ⟨oe, vs, oT, ts, h1, h2, h3, h4, h5, h6, h7, h8, _⟩ := x
  exact ⟨oe, vs, T, oT, ts, h1, h2, h3, h4, n, h5, h6, h7, h8⟩
theorem fly_of {h base : Heap} {e : Addr} {cls a0 : Value} (x : h.TracedW base e cls a0) : ∃ T, base.get? T = none ∧ Fly h e T cls a0 none := by
  obtain ⟨oe, vs, T, oT, ts, h1, h2, h3, h4, n, h5, h6, h7, h8⟩ := x
  exact ⟨T, n, oe, vs, oT, ts, h1, h2, h3, h4, h5, h6, h7, h8, fun _ z => nomatch z⟩
theorem objs_of {h : Heap} {a : Addr} {o : Obj} (e : h.get? a = some o) : h.objs[a]? = some o := by
  unfold Heap.get? at e
  split at e
  · cases e
  · exact e
theorem Fly.up {h h' : Heap} {e T : Addr} {cls a0 : Value} {d : Option Addr} {o : Obj} (f : Fly h' e T cls a0 none) (k : DK h h') (g : h.get? e = some o) (gd : ∀ x, d = some x → o.dict = some x) : Fly h' e T cls a0 d := by
  obtain ⟨oe, vs, oT, ts, h1, h2, h3, h4, h5, h6, h7, h8, _⟩ := f
  obtain ⟨o', e1, e2⟩ := k e o (objs_of g)
  rw [objs_of h1] at e1
  cases e1
  exact ⟨oe, vs, oT, ts, h1, h2, h3, h4, h5, h6, h7, h8, fun x z => e2.trans (gd x z)⟩
def CXE (P : Program) (w : World) : CXT := fun outer H s E ev s' => ∃ (e T : Addr) (C a0 : Value) (dd : Option Addr) (H' : Hp), ev = .ref e ∧ s'.os = s.os ∧ AllBare s'.gens ∧ Un (frs outer) [] H H' s.heap s'.heap ∧ HOk P w H' s'.heap ∧
  s.heap.get? e = none ∧ s.heap.get? T = none ∧ H' e = none ∧ H' T = none ∧ Fly s'.heap e T C a0 dd ∧ E C dd H'
theorem frames_hid {h base : Heap} {hid : List Addr} : ∀ {l : List Env}, h.FunFrames base l → (∀ b ∈ frs l, b ∈ hid) → h.FunFrames (PySem.W.hideAll h hid) l
  | [], _, _ => trivial
  | env :: r, hl, hs => by
    obtain ⟨hk, ⟨L, o, hf, hn, ho, hd⟩, hr⟩ := hl
    have e : frs (env :: r) = L :: frs r := by unfold frs; rw [List.filterMap_cons, hf]
    exact ⟨hk, ⟨L, o, hf, PySem.W.hideAll_none _ (hs L (by rw [e]; exact List.mem_cons_self)), ho, hd⟩, frames_hid hr fun b hb => hs b (by rw [e]; exact List.mem_cons_of_mem _ hb)⟩
theorem frame_there {h base : Heap} : ∀ {l : List Env}, h.FunFrames base l → ∀ b ∈ frs l, ∃ o, h.get? b = some o ∧ ∀ vs, o.data ≠ .fields vs
  | env :: r, hl, b, hb => by
    obtain ⟨hk, ⟨L, o, hf, hn, ho, hd⟩, hr⟩ := hl
    have e : frs (env :: r) = L :: frs r := by unfold frs; rw [List.filterMap_cons, hf]
    rw [e] at hb
    rcases List.mem_cons.mp hb with rfl | hb
    · exact ⟨o, ho, hd⟩
    · exact frame_there hr b hb
section
variable {X : Cx} {pins : List (Addr × Obj)} {σ : St} {H H' : Hp} {s : Shared} {h1 h2 : Heap}
theorem Inv.flown {g' : Array GenState} {d' : Drawn} {t' : Nat} {S : List Addr} (I : Inv X pins σ H s) (un : Un (frs X.stack) [] H H' s.heap h1) (hok : HOk X.prog X.w H' h1) (dead : ∀ b ∈ S, s.heap.get? b = none) (off : ∀ b ∈ S, H' b = none)
    (keep : ∀ b o, h1.get? b = some o → b ∉ S → b ∉ frs X.stack → h2.get? b = some o) (up : h1.UpToSlots h2) (hg : AllBare g') :
    Inv X pins σ H' { s with heap := h2, gens := g', drawn := d', toks := t' } ∧ Un (frs X.stack) [] H H' s.heap h2 ∧ HOk X.prog X.w H' h2 := by
  have live : ∀ b o, s.heap.get? b = some o → b ∉ S := fun b o e hb => by rw [dead b hb] at e; cases e
  have fr : ∀ b ∈ frs X.stack, ∃ o, s.heap.get? b = some o ∧ ∀ vs, o.data ≠ .fields vs := frame_there I.stack
  have frH : ∀ b ∈ frs X.stack, H' b = none := fun b hb => by
    obtain ⟨o, ho, _⟩ := fr b hb
    exact un.free b o ho (I.stkFree b hb) (by simp)
  have un2 : Un (frs X.stack) [] H H' s.heap h2 := by
    refine ⟨fun b o e n hb hx => keep b o (un.keep b o e n hb hx) (live b o e) hb, fun b o e n hb hx => ?_, un.free, fun b o e hx => ?_, un.tups, un.frzs, un.tbls⟩
    · obtain ⟨sl, e1⟩ := un.slot b o e n hb hx
      obtain ⟨o', ho', hd⟩ := fr b hb
      rw [e] at ho'
      cases ho'
      obtain ⟨sl', e2⟩ := up b _ e1 hd
      exact ⟨sl', e2⟩
    · obtain ⟨o1, e1⟩ := un.there b o e hx
      by_cases hb : b ∈ frs X.stack
      · obtain ⟨o', ho', hd⟩ := fr b hb
        rw [e] at ho'
        cases ho'
        obtain ⟨sl, e2⟩ := un.slot b o e (I.stkFree b hb) hb hx
        obtain ⟨sl', e3⟩ := up b _ e2 hd
        exact ⟨_, e3⟩
      · exact ⟨o1, keep b o1 e1 (live b o e) hb⟩
  have hok2 : HOk X.prog X.w H' h2 := fun b u e => (hok b u e).stay (fun c v hc q => keep c v q (fun hm => ?_) fun hm => ?_) (fun _ q => q) fun _ _ q => q
  · exact ⟨I.call (g' := g') (d' := d') (t' := t') (ch := []) un2 hok2 hg (fun _ z => nomatch z), un2, hok2⟩
  · rcases hc with rfl | hc
    · rw [off c hm] at e; cases e
    · rw [off c hm] at hc; cases hc
  · rcases hc with rfl | hc
    · rw [frH c hm] at e; cases e
    · rw [frH c hm] at hc; cases hc
theorem dead0 (I : Inv X pins σ H s) (hx : X.ex = []) {b : Addr} (d : s.heap.get? b = none) : X.s₀.heap.get? b = none := by
  cases e : X.s₀.heap.get? b with
  | none => rfl
  | some o =>
    obtain ⟨o', q⟩ := I.base.there b o e (by rw [hx]; simp)
    rw [d] at q
    cases q
theorem off_dead {P : Program} {w : World} {h : Heap} (hok : HOk P w H h) {b : Addr} (d : h.get? b = none) : H b = none := by
  cases e : H b with
  | none => rfl
  | some u =>
    obtain ⟨o, q⟩ : ∃ o, h.get? b = some o := by
      have z := hok b u e
      cases u with
      | lst => obtain ⟨_, its, n, _, q⟩ := z; exact ⟨_, q⟩
      | tup => obtain ⟨_, its, _, o, q, _⟩ := z; exact ⟨_, q⟩
      | dK => obtain ⟨_, _, vs, _, o, es, ep, q, _⟩ := z; exact ⟨_, q⟩
      | dT => obtain ⟨_, _, xs, _, o, es, ep, q, _⟩ := z; exact ⟨_, q⟩
      | set => obtain ⟨o, es, ep, t, q, _⟩ := z; exact ⟨o, q⟩
      | ins => obtain ⟨_, _, _, q, _⟩ := z; exact ⟨_, q⟩
      | own => exact z
      | xd => obtain ⟨mA, ⟨o, es, ep, q, _⟩, _⟩ := z; exact ⟨o, q⟩
      | rng => obtain ⟨t, u, v, q⟩ := z; exact ⟨_, q⟩
      | frz => exact ⟨_, z.1⟩
      | tbl => exact ⟨_, z⟩
      | met => exact ⟨_, z⟩
      | ext => exact z.2.1
    rw [d] at q
    cases q
theorem fly_noframe {base h : Heap} {l : List Env} {e T : Addr} {cls a0 : Value} {d : Option Addr} (fl : Fly h e T cls a0 d) (hl : h.FunFrames base l) : T ∉ frs l := fun hm => by
  obtain ⟨oe, vs, oT, ts, _, _, _, _, _, hT, hdT, _⟩ := fl
  obtain ⟨o, ho, hd⟩ := frame_there hl T hm
  rw [hT] at ho
  cases ho
  exact hd ts hdT
end
section
variable {X : Cx} {E : XK}
theorem leave_new (hx : X.ex = []) (hst : X.stack = X.env :: X.outer) (hfr : X.env.frame = some X.env.locals) {pins : List (Addr × Obj)} {σ : St} {H : Hp} {s : Shared} {h1 : Heap} {e : Addr} {C : Value} {vs : List Value} (I : Inv X pins σ H s)
    (mk : Heap.MadeExcOf s.heap h1 e C vs) (q : E C none H) :
    wpAny (model X.prog X.w) X.A (leaving X.env (.ref e)) (fun _ s'' => CXE X.prog X.w X.outer X.H₀ X.s₀ E (.ref e) s'') (fun e' s'' => CXE X.prog X.w X.outer X.H₀ X.s₀ E e' s'') { s with heap := h1 } := by
  have stk : s.heap.FunFrames X.base (X.env :: X.outer) := hst ▸ I.stack
  refine wpAny_leaves_madeW (s := { s with heap := h1 }) (base := PySem.W.hideAll s.heap (frs X.stack)) (h := s.heap) (by rw [← hst]; exact I.ok.frames) hfr (fun b o z => PySem.W.of_hideAll _ z) (frames_hid stk (by rw [hst]; exact fun _ z => z)) mk fun h' t fl tup nt up => ?_
  obtain ⟨I2, un2, hok2⟩ := I.flown (H' := H) (h1 := s.heap) (h2 := h') (g' := s.gens) (d' := s.drawn) (t' := s.toks) (S := []) Un.refl I.hok (fun _ z => nomatch z) (fun _ z => nomatch z) (fun b o z _ hb => fl.1 b o (PySem.W.hideAll_get _ z hb))
    (fun b o z hd => up b o (mk.keeps b o z) hd) I.bare
  obtain ⟨T, nT, fT⟩ := fly_of fl.2.2.2
  have dT : s.heap.get? T = none := by
    cases z : s.heap.get? T with
    | none => rfl
    | some o =>
      have hT := fly_noframe fT I2.stack
      rw [PySem.W.hideAll_get _ z hT] at nT
      cases nT
  have ub := I2.base
  rw [hx] at ub
  exact ⟨e, T, C, .ref t, none, H, rfl, I2.os, I.bare, ub, hok2, dead0 I hx mk.new, dead0 I hx dT, off_dead I.hok mk.new, off_dead I.hok dT, fT, q⟩
theorem leave_on (hx : X.ex = []) (hst : X.stack = X.env :: X.outer) (hfr : X.env.frame = some X.env.locals) {E' : XK} (hE : ∀ C d H, E' C d H → E C d H) {pins : List (Addr × Obj)} {σ : St} {H : Hp} {s s' : Shared} {ev : Value} (I : Inv X pins σ H s)
    (cx : CXE X.prog X.w X.stack H s E' ev s') :
    wpAny (model X.prog X.w) X.A (leaving X.env ev) (fun _ s'' => CXE X.prog X.w X.outer X.H₀ X.s₀ E ev s'') (fun e' s'' => CXE X.prog X.w X.outer X.H₀ X.s₀ E e' s'') s' := by
  obtain ⟨e, T, C, a0, dd, H', rfl, os, bare, un, hok, de, dT, he, hT, fT, q⟩ := cx
  obtain ⟨hh, g, d, tk, os'⟩ := s'
  obtain rfl : os' = s.os := os
  have I1 : Inv X pins σ H' { s with heap := hh, gens := g, drawn := d, toks := tk } := I.call (g' := g) (d' := d) (t' := tk) (ch := []) un hok bare (fun _ z => nomatch z)
  have stk : hh.FunFrames X.base (X.env :: X.outer) := hst ▸ I1.stack
  have fl : Heap.FlyingW (PySem.W.hideAll hh (e :: T :: frs X.stack)) (X.env :: X.outer) e C a0 hh :=
    ⟨fun b o z => PySem.W.of_hideAll _ z, PySem.W.hideAll_none _ (by simp), frames_hid stk (by rw [← hst]; exact fun b z => List.mem_cons_of_mem _ (List.mem_cons_of_mem _ z)), fT.traced (PySem.W.hideAll_none _ (by simp))⟩
  refine gent_use (s := ⟨hh, g, d, tk, s.os⟩) (gent_leaving _ _) (wpAny_leaves_onW (s := ⟨hh, g, d, tk, s.os⟩) (by rw [← hst]; exact I.ok.frames) hfr fl fun h' fl' up dk => ?_)
  have kept : ∀ b o, hh.get? b = some o → b ∉ [e, T] → b ∉ frs X.stack → h'.get? b = some o := fun b o z hS hb => fl'.1 b o (PySem.W.hideAll_get _ z fun hm => by
    rcases List.mem_cons.mp hm with y | hm
    · exact hS (by rw [y]; simp)
    · rcases List.mem_cons.mp hm with y | hm
      · exact hS (by rw [y]; simp)
      · exact hb hm)
  obtain ⟨I2, un2, hok2⟩ := I.flown (H' := H') (h1 := hh) (h2 := h') (g' := g) (d' := d) (t' := tk) (S := [e, T]) un hok (fun b hb => by rcases List.mem_cons.mp hb with z | z; rw [z]; exact de; rw [List.mem_singleton.mp z]; exact dT)
    (fun b hb => by rcases List.mem_cons.mp hb with z | z; rw [z]; exact he; rw [List.mem_singleton.mp z]; exact hT) kept up bare
  obtain ⟨T', nT, fT'⟩ := fly_of fl'.2.2.2
  have dT' : s.heap.get? T' = none ∧ H' T' = none := by
    cases z : hh.get? T' with
    | none =>
      refine ⟨?_, off_dead hok z⟩
      cases y : s.heap.get? T' with
      | none => rfl
      | some o =>
        obtain ⟨o', r⟩ := un.there T' o y (by simp)
        rw [z] at r
        cases r
    | some o =>
      by_cases hTT : T' = T
      · rw [hTT]; exact ⟨dT, hT⟩
      · have hTe : T' ≠ e := by obtain ⟨_, _, _, _, _, _, _, _, z, _⟩ := fT'; exact z
        have hTf := fly_noframe fT' I2.stack
        rw [PySem.W.hideAll_get _ z (by simp [hTT, hTe, hTf])] at nT
        cases nT
  have ub := I2.base
  rw [hx] at ub
  obtain ⟨oe, _, _, _, g1, _, _, _, _, _, _, _, g2⟩ := fT
  exact ⟨e, T', C, a0, dd, H', rfl, I2.os, bare, ub, hok2, dead0 I hx de, dead0 I hx dT'.1, he, dT'.2, fT'.up dk g1 g2, hE _ _ _ q⟩
end
end L2
namespace L2
open PySem PySem.Spec PyProof.Rows
section
variable {X : Cx}
def FPart (X : Cx) (e : Expr) (c : St → Prop) : Prop := ∀ (pins : List (Addr × Obj)) (s : Shared) (σ : St) (H : Hp) (Q : Value → Shared → Prop), Inv X pins σ H s → c σ → (∀ y t s', Inv X pins σ H s' → y.length ≤ 100000 → Q (.str y t) s') →
  wpAny (model X.prog X.w) X.A (eval e X.env) Q X.xe s
def FParts (X : Cx) : List Expr → (St → Prop) → Prop
  | [], _ => True
  | e :: es, c => FPart X e c ∧ FParts X es c
theorem fp_const {x : Str} {j : Nat} {pos : Pos} {c : St → Prop} (h : x.length ≤ 100000 := by decide) : FPart X (.Constant (.str x) j pos) c := fun _ _ _ _ _ I _ q => Calls.Constant_str (q x _ _ (I.tok _) h)
def Txt5 (i : Nat) (σ : St) : Prop := ∃ x : Str, σ[i]? = some (some (.str x)) ∧ x.length ≤ 5000 ∧ ∀ c ∈ x.cps.toList, c < 1000000
theorem short5 {n : Nat} (h : n ≤ 100000) : n ≤ sizeLine := by rw [sizeLine_eq]; omega
theorem fp_repr {c : St → Prop} {v : Expr} {pos : Pos} (i : Nat) (hv : PE X v (tVar i)) (k : ∀ σ, c σ → Txt5 i σ) : FPart X (.FormattedValue v 114 none pos) c := fun pins s σ H Q I hc q => by
  obtain ⟨x, e, hl, hb⟩ := k σ hc
  have hz : (reprText x).length ≤ 100000 := Nat.le_trans (StrLaws.reprText_len x fun c hc => Nat.lt_trans (hb c hc) (by decide)) (by omega)
  refine wpAny_FormattedValue_repr (thn (hv pins s σ H (fun w H1 => w = .str x ∧ H1 = H) I ⟨_, e, rfl, rfl⟩) fun u s1 ⟨w, H1, I1, r1, e1, e2⟩ => ?_)
  subst e1 e2
  obtain ⟨t, rfl⟩ := r1
  refine wpAny_pyReprObj_str ?_ (short5 hz)
  exact PyProof.Rows.formatField_str (fun t' tk => q _ t' _ ((I1.tok _).tok tk) hz) (short5 hz)
theorem joins_parts {c : St → Prop} {pins : List (Addr × Obj)} {σ : St} {H : Hp} {Q : Str → Shared → Prop} (hc : c σ) (q : ∀ out s, Inv X pins σ H s → out.length ≤ 3000000 → Q out s) : ∀ {es : List Expr} {acc : Str} {s : Shared}, FParts X es c → es.length ≤ 20 → acc.length + es.length * 100000 ≤ 3000000 → Inv X pins σ H s →
    Joins (model X.prog X.w) X.A X.xe (evalEach es X.env) acc Q s
  | [], acc, s, _, _, hz, I => by
    rw [show evalEach [] X.env = [] by rfl]
    exact q acc s I (by simpa using hz)
  | e :: es, acc, s, h, hl, hz, I => by
    rw [show evalEach (e :: es) X.env = eval e X.env :: evalEach es X.env by rfl]
    refine h.1 pins s σ H _ I hc fun y t s' I' hy => ⟨y, t, rfl, ?_, ?_⟩
    · rw [Str.length_append, sizeLine_eq]
      simp at hz
      omega
    · refine joins_parts hc q h.2 (by simp at hl; omega) ?_ I'
      rw [Str.length_append]
      simp at hz
      omega
def tMsg (c : St → Prop) : TE := fun σ H Q => c σ ∧ ∀ x, Q (.str x) H
theorem pe_msg {v1 v2 : Expr} {rest : List Expr} {pos : Pos} {c : St → Prop} (h : FParts X (v1 :: v2 :: rest) c) (hl : (v1 :: v2 :: rest).length ≤ 20 := by decide) : PE X (.JoinedStr (v1 :: v2 :: rest) pos) (tMsg c) := by
  intro pins s σ H Q I ⟨hc, q⟩
  refine wpAny_JoinedStr (joins_parts hc (fun out s' I' hz => ⟨?_, .str out, H, I'.tok _, ⟨_, rfl⟩, q out⟩) h hl ?_ I)
  · have : Str.empty.length = 0 := rfl
    simp at hl ⊢
    omega
  · rw [sizeLine_eq]; omega
end
def OwnX (K : PySem.W.Frag) (C : Addr) : Prop := PySem.W.excIn K C [.type "ValueError", .type "Exception", .type "BaseException", .type "object"] "ValueError.__new__" = true
theorem OwnX.obj {K : PySem.W.Frag} {C : Addr} {h : Heap} (q : OwnX K C) (X : K.In h) : ∃ bm N nm qn bs hdct sn sub ab col dd k0 k1 k2 k3 k5 mN, h.get? C = some (excClassObj nm qn C N bs bm hdct sn sub ab col dd k0 k1 k2 k3 k5 "ValueError.__new__") ∧ h.Ns N mN ∧ mN "__init__" = none ∧
    OwnTail h [.type "ValueError", .type "Exception", .type "BaseException", .type "object"] bm := by
  unfold OwnX PySem.W.excIn at q
  split at q
  case h_2 => cases q
  case h_1 ob dd cd sl there =>
    split at q
    case h_2 => cases q
    case h_1 D bm k0 k1 k2 k3 mk k5 hm hs =>
      obtain ⟨q, noInit⟩ := Bool.and_eq_true_iff.mp q
      obtain ⟨q, nsOk⟩ := Bool.and_eq_true_iff.mp q
      obtain ⟨q, tl⟩ := Bool.and_eq_true_iff.mp q
      obtain ⟨q, nodel⟩ := Bool.and_eq_true_iff.mp q
      obtain ⟨isC, isMk⟩ := Bool.and_eq_true_iff.mp q
      cases beq_iff_eq.mp isC
      cases beq_iff_eq.mp isMk
      obtain ⟨l⟩ := sl
      cases hs
      cases cd
      cases hm
      cases Bool.not_eq_true' _ ▸ nodel
      exact ⟨bm, _, _, _, _, _, _, _, _, _, dd, k0, k1, k2, k3, k5, _, X _ _ there, .of_isNs (PySem.W.isNs_of_in X nsOk), PySem.W.nsMap_none_of_in X nsOk (beq_iff_eq.mp noInit), PySem.W.tail_of_in X tl⟩
end L2
namespace L2
open PySem PySem.Spec PyProof.Rows
def Throws (X : Cx) (E : XK) : Prop := ∀ (pins : List (Addr × Obj)) (σ : St) (H : Hp) (s : Shared) (h1 : Heap) (e : Addr) (C : Value) (vs : List Value), Inv X pins σ H s → Heap.MadeExcOf s.heap h1 e C vs → E C none H → X.xe (.ref e) { s with heap := h1 }
def tRaise (C : Addr) (E : XK) (t : TA) : TS := fun _ σ H => t σ H fun vs H1 => vs.length ≤ sizeLine ∧ E (.ref C) none H1
theorem ps_raise {X : Cx} {E : XK} {x : Str} {C : Addr} {np cpos pos : Pos} {e0 : Expr} {rest : List Expr} {t : TA} (hc : X.calm = true) (hT : Throws X E) (hC : OwnX X.K C) (hm : X.mg x = some (.ref C)) (ha : PA X (e0 :: rest) t) (hg : Gl X x := by rfl)
    (hd : (x == ("__debug__" : Str)) = false := by decide) (he : starEach (e0 :: rest) X.env = (false, eval e0 X.env) :: starEach rest X.env := by rfl) (hpl : (backTo cpos (starEach rest X.env)).any (·.1) = false := by rfl) :
    PS X (.Raise (some (.Call (.Name x np) (e0 :: rest) [] cpos)) none pos) (tRaise C E t) := by
  intro pins s σ H D I h
  obtain ⟨bm, N, nm, qn, bs, hdct, sn, sub, ab, col, dd, k0, k1, k2, k3, k5, mN, hCo, hN, hni, TL⟩ := hC.obj I.ok.mod.kin
  refine wpAny_Raise_call_subT (C := C) (nm := nm) (q := qn) (N := N) (bs := bs) (bm := bm) (hdct := hdct) (sn := sn) (sub := sub) (ab := ab) (col := col) (dd := dd) (k0 := k0) (k1 := k1) (k2 := k2) (k3 := k3) (k5 := k5) PySem.F.excBase_ValueError (mN := mN)
    (TL.hasType PySem.F.excBase_ValueError.hasBase) (I.ok.hd hc) (by rw [he]; show (false || (backTo cpos (starEach rest X.env)).any (·.1)) = false; rw [hpl]; rfl) hni (ld_glob I hg hm ⟨rfl, ?_⟩ hd)
  have hA := ha cpos pins s σ H _ I h
  rw [he] at hA ⊢
  exact Calls.evalArgs_plain (thn hA fun us s2 ⟨vs, H2, I2, r2, hl, q⟩ => ⟨rfl, by rw [← r2.length]; exact hl, I2.bk _ _ hCo, hN.keeps I2.bk, TL.keeps I2.bk, fun h' e mk => hT pins σ H2 s2 h' e _ _ I2 mk q⟩)
section
variable {P : Program} {w : World} {K : PySem.W.Frag} {mg : Str → Option Value} {base : Heap} {N : List Str} {qual : Str} {scope : Scope} {f : Addr} {cd : Value} {A : Around} {outer : List Env} {s : Shared} {H : Hp} {E : XK}
theorem throws_def : Throws (cxOf (CXE P w) P w K mg base N qual scope f cd A outer s H E) E := fun pins σ H1 s1 h1 e C vs I mk q => leave_new (X := cxOf (CXE P w) P w K mg base N qual scope f cd A outer s H E) rfl rfl rfl I mk q
theorem passes_def {E' : XK} (hE : ∀ C d H, E' C d H → E C d H) : Passes (CXE P w) (cxOf (CXE P w) P w K mg base N qual scope f cd A outer s H E) E' := fun pins σ H1 s1 ev s' I cx => leave_on (X := cxOf (CXE P w) P w K mg base N qual scope f cd A outer s H E) rfl rfl rfl hE I cx
end
theorem Fun.okX {P : Program} {w : World} {K : PySem.W.Frag} {mg : Str → Option Value} {base : Heap} {x qual : Str} {st : Stmt} {f : Addr} {fd : FuncData} {N ps : List Str} {k : Nat} {sp : Sp} (F : Fun K x qual st f fd) (S : FnScope N ps (defScope st)) (len : ∀ vs H Q E, sp vs H Q E → vs.length = ps.length)
    (hbody : ∀ (cdv : Value) (A : Around) (outer : List Env) (s : Shared) (H : Hp) (vs : List V) (Q : VK) (E : XK), Room k (A.deeper (envOfC qual (defScope st) s.heap.objs.size f cdv)) → sp vs H Q E →
      ∃ t, PSs (cxOf (CXE P w) P w K mg base N qual (defScope st) f cdv A outer s H E) (defBody st) t ∧ t { nx := fun _ H' => Q .non H', rt := Q } (start N vs) H) : FnOk P w K mg base (CXE P w) (k + 1) f fd ps sp := by
  obtain ⟨oc, od, kV, doc, pm, an, cdv, ct, osl, rfl, lk, hcd⟩ := F.ex
  exact fn_of lk hcd S len fun A outer s H vs Q E hr hsp => hbody cdv A outer s H vs Q E hr hsp
def DfX (P : Program) (w : World) (K : PySem.W.Frag) (mg : Str → Option Value) (base : Heap) (x : Str) (k : Nat) (ps : List Str) (sp : Sp) : Prop :=
  ∃ (f : Addr) (fd : FuncData), mg x = some (.ref f) ∧ PySem.W.keepIn K (.ref f) = true ∧ Binds K fd ps [] ∧ FnOk P w K mg base (CXE P w) k f fd ps sp
theorem pe_dfX {X : Cx} {x : Str} {k : Nat} {ps : List Str} {sp : Sp} {E : XK} {e : Expr} {es : List Expr} {p pos : Pos} {t : TA} (D : DfX X.prog X.w X.K X.mg X.base x k ps sp) (hr : Room k X.A) (hp : Passes (CXE X.prog X.w) X E) (ha : PA X (e :: es) t)
    (hg : Gl X x := by rfl) (hdb : (x == ("__debug__" : Str)) = false := by decide) (he : starEach (e :: es) X.env = (false, eval e X.env) :: starEach es X.env := by rfl) (hpl : (backTo pos (starEach es X.env)).any (·.1) = false := by rfl) :
    PE X (.Call (.Name x p) (e :: es) [] pos) (tCall sp [] E t) := by
  obtain ⟨f, fd, h1, h2, h3, F⟩ := D
  exact pe_call F hr hg h1 h2 h3 .nil hp ha hdb he hpl
end L2
namespace L2
open PySem PySem.Spec PyProof.Rows
def excAt (e : Addr) (C : Value) (d : Option Addr) : HO := .ext fun h => ∃ o, h.get? e = some o ∧ o.cls = C ∧ (∃ vs, o.data = .fields vs) ∧ ∀ x, d = some x → o.dict = some x
abbrev Cx.held (X : Cx) (v : Value) : Cx := { X with A := X.A.mark (some v), calm := false, xe := fun _ _ => False }
section
variable {X : Cx} {pins : List (Addr × Obj)} {σ : St} {H : Hp} {s : Shared}
theorem Inv.held (I : Inv X pins σ H s) (v : Value) : Inv (X.held v) pins σ H s :=
  ⟨⟨I.ok.mod, I.ok.kind, I.ok.glob, I.ok.blt, I.ok.above, I.ok.inj, I.ok.has, I.ok.cab, fun z => Bool.noConfusion z, I.ok.frames, I.ok.stk, I.ok.exf, I.ok.bs, I.ok.bsz, I.ok.noex, I.ok.exfs, I.ok.funs, I.ok.frf⟩, I.os, I.bare, I.base, I.loc, I.cell, I.free, I.freeC, I.pin, I.hok, I.len⟩
theorem Inv.unheld {v : Value} (I : Inv (X.held v) pins σ H s) (ok : X.Ok) : Inv X pins σ H s := ⟨ok, I.os, I.bare, I.base, I.loc, I.cell, I.free, I.freeC, I.pin, I.hok, I.len⟩
theorem Inv.track {e : Addr} {φ : Heap → Prop} (I : Inv X pins σ H s) (hn : H e = none) (d0 : X.s₀.heap.get? e = none) (nL : X.env.locals ≠ e) (nC : ∀ x c, X.env.cells.lookup x = some c → c ≠ e) (nP : ∀ p ∈ X.pn ++ pins, p.1 ≠ e) (hx : φ s.heap)
    (there : ∃ o, s.heap.get? e = some o) (st : ∀ h1 h2 : Heap, φ h1 → (∀ o, h1.get? e = some o → h2.get? e = some o) → φ h2) : Inv X pins σ (upd H e (.ext φ)) s := by
  have ne : ∀ b u, H b = some u → b ≠ e := fun b u q => ne_of_none q hn
  have old : ∀ b o, X.s₀.heap.get? b = some o → b ≠ e := fun b o q z => by rw [z, d0] at q; cases q
  refine ⟨I.ok, I.os, I.bare, ⟨I.base.keep, I.base.slot, fun b o q n hb => ?_, I.base.there, fun b xs q => ?_, fun b o u q => ?_, fun b ps q => ?_⟩, I.loc, I.cell, ?_, fun x c q => ?_, fun p hp => ?_, fun b u q => ?_, I.len⟩
  · rw [upd_ne (old b o q)]; exact I.base.free b o q n hb
  · have z := I.base.tups b xs q
    rw [upd_ne (ne b _ z)]; exact z
  · have z := I.base.frzs b o u q
    rw [upd_ne (ne b _ z)]; exact z
  · obtain ⟨more, z⟩ := I.base.tbls b ps q
    exact ⟨more, by rw [upd_ne (ne b _ z)]; exact z⟩
  · rw [upd_ne nL]; exact I.free
  · rw [upd_ne (nC x c q)]; exact I.freeC x c q
  · obtain ⟨a1, a2, a3⟩ := I.pin p hp
    exact ⟨a1, by rw [upd_ne (nP p hp)]; exact a2, a3⟩
  · by_cases hb : b = e
    · subst hb
      rw [upd_same] at q
      cases q
      exact ⟨hx, there, st⟩
    · rw [upd_ne hb] at q
      exact (I.hok b u q).stay (fun _ _ _ r => r) (fun c r => by rw [upd_ne (ne c _ r)]; exact r) fun c xs r => by rw [upd_ne (ne c _ r)]; exact r
theorem Inv.reframed {h' : Heap} {σ' : St} {m' : Str → Option Value} {t' : Nat} (I : Inv X pins σ H s) (sb : Heap.SameBut X.env.locals s.heap h') (ns : h'.Ns X.env.locals m')
    (lk : ∀ (i : Nat) (x : Str) (v : V), X.N[i]? = some x → σ'[i]? = some (some v) → Vis X.env.scope x → ∃ u, RelV v u ∧ Look X.env h' m' x u) (ln : σ'.length = X.N.length) : Inv X pins σ' H { s with heap := h', toks := t' } := by
  have nl : ∀ b o, X.s₀.heap.get? b = some o → b ≠ X.env.locals := fun b o q => Nat.ne_of_lt (Nat.lt_of_lt_of_le (Heap.lt_size q) I.ok.above)
  have nt : ∀ b u, H b = some u → b ≠ X.env.locals := fun b u q => ne_of_none q I.free
  refine ⟨I.ok, I.os, I.bare, ⟨fun b o q n hb hc => (sb.2 b (nl b o q)).trans (I.base.keep b o q n hb hc), fun b o q n hb hc => ?_, I.base.free, fun b o q hc => ?_, I.base.tups, I.base.frzs, I.base.tbls⟩, ⟨m', ns, lk⟩, fun x c q => ?_, I.free, I.freeC, fun p hp => ?_, fun b u q => ?_, ln⟩
  · obtain ⟨sl, z⟩ := I.base.slot b o q n hb hc
    exact ⟨sl, (sb.2 b (nl b o q)).trans z⟩
  · obtain ⟨o', z⟩ := I.base.there b o q hc
    exact ⟨o', (sb.2 b (nl b o q)).trans z⟩
  · obtain ⟨v, o, z, d⟩ := I.cell x c q
    exact ⟨v, o, (sb.2 c (I.cne x c q)).trans z, d⟩
  · obtain ⟨a1, a2, a3, a4⟩ := I.pin p hp
    exact ⟨(sb.2 p.1 a3).trans a1, a2, a3, a4⟩
  · refine (I.hok b u q).stay (fun c v hc r => (sb.2 c ?_).trans r) (fun _ r => r) fun _ _ r => r
    rcases hc with rfl | hc
    · exact nt c u q
    · exact nt c _ hc
theorem Inv.goes {i : Nat} {n : Str} {pos : Pos} {A : Around} {E : Value → Shared → Prop} {Q : Unit → Shared → Prop} (I : Inv X pins σ H s) (nd : X.N.Nodup) (hi : X.N[i]? = some n) (hk : X.env.kindOf n = some .local)
    (q : ∀ s', Inv X pins (σ.set i none) H s' → Q () s') : wpAny (model X.prog X.w) A (do bindName X.env n .none; unbindBehindTheSuite X.env n pos) Q E s := by
  obtain ⟨m, hn, hl⟩ := id I.loc
  refine wpAny_nameGoes_keeps hk hn (by rw [I.ok.kind]; rfl) fun h' v ns sb => q _ (I.reframed sb ns (fun j x w hj hw hv => ?_) (by rw [List.length_set]; exact I.len))
  have hji : j ≠ i := fun z => by
    subst z
    have hlt : j < σ.length := by rw [I.len]; exact (List.getElem?_eq_some_iff.mp hj).1
    rw [List.getElem?_set_self hlt] at hw
    cases hw
  rw [List.getElem?_set_ne (Ne.symm hji)] at hw
  have hxn : x ≠ n := fun z => hji (nodup_ix nd hj (by rw [z]; exact hi))
  obtain ⟨u, r, l⟩ := hl j x w hj hw hv
  refine ⟨u, r, ?_⟩
  rcases l with ⟨k1, k2⟩ | ⟨k1, c, k2, o, k3, k4⟩
  · exact .inl ⟨k1, by show (if x = n then v else m x) = some u; rw [if_neg hxn]; exact k2⟩
  · exact .inr ⟨k1, c, k2, o, (sb.2 c (I.cne x c k2)).trans k3, k4⟩
end
def heldEnds (i : Nat) (D : Ends) : Ends := { nx := fun σ' H' => D.nx (σ'.set i none) H', rt := fun _ _ => False }
def Caught (K : PySem.W.Frag) (R : Addr) (i : Nat) (ts : TS) (D : Ends) (σ : St) : XK := fun C d H' => PySem.W.exmOne K C (.ref R) = some true ∧ ∀ e, H' e = none → ts (heldEnds i D) (σ.set i (some (.ref e))) (upd H' e (excAt e C d))
theorem catch_ok {X : Cx} {pins : List (Addr × Obj)} {σ : St} {H : Hp} {s s' : Shared} {ev : Value} {x n : Str} {R : Addr} {i : Nat} {np hpos : Pos} {b0 : Stmt} {suite : List Stmt} {ts : TS} {D : Ends} (hex : X.ex = []) (hst : X.stack = X.env :: X.outer)
    (hfr : X.env.frame = some X.env.locals) (nd : X.N.Nodup) (hi : X.N[i]? = some n) (hk : X.env.kindOf n = some .local) (hl : Loc X.env.scope n) (hf : X.fn n = true ∨ X.env.scope.names.lookup n = some .local) (hg : Gl X x) (hm : X.mg x = some (.ref R))
    (hs : ∀ v, PSs (X.held v) (b0 :: suite) ts) (I : Inv X pins σ H s) (cx : CXE X.prog X.w X.stack H s (Caught X.K R i ts D σ) ev s') (hd : (x == ("__debug__" : Str)) = false) :
    wpAny (model X.prog X.w) X.A (noteFrame ev X.env) (fun _ s2 => wpAny (model X.prog X.w) X.A (setFlight ev none) (fun _ s3 => wpAny (model X.prog X.w) X.A (handleBy ev X.env [.ExceptHandler (some (.Name x np)) (some n) (b0 :: suite) hpos]) (SP X pins D) X.xe s3) X.xe s2) X.xe s' := by
  obtain ⟨e, T, C, a0, dd, H', rfl, os, bare, un, hok, de, dT, he, hT, fT, hmatch, q⟩ := cx
  obtain ⟨hh, g, d, tk, os'⟩ := s'
  obtain rfl : os' = s.os := os
  have I1 : Inv X pins σ H' { s with heap := hh, gens := g, drawn := d, toks := tk } := I.call (g' := g) (d' := d) (t' := tk) (ch := []) un hok bare (fun _ z => nomatch z)
  have stk : hh.FunFrames X.base (X.env :: X.outer) := hst ▸ I1.stack
  have fl : Heap.FlyingW (PySem.W.hideAll hh (e :: T :: frs X.stack)) (X.env :: X.outer) e C a0 hh :=
    ⟨fun b o z => PySem.W.of_hideAll _ z, PySem.W.hideAll_none _ (by simp), frames_hid stk (by rw [← hst]; exact fun b z => List.mem_cons_of_mem _ (List.mem_cons_of_mem _ z)), fT.traced (PySem.W.hideAll_none _ (by simp))⟩
  have seen : ∀ (h' : Heap), (PySem.W.hideAll hh (e :: T :: frs X.stack)).StaysIn h' → hh.UpToSlots h' → Inv X pins σ H' { s with heap := h', gens := g, drawn := d, toks := tk } := fun h' fk up =>
    (I.flown (H' := H') (h1 := hh) (h2 := h') (g' := g) (d' := d) (t' := tk) (S := [e, T]) un hok (fun b hb => by rcases List.mem_cons.mp hb with z | z; rw [z]; exact de; rw [List.mem_singleton.mp z]; exact dT)
      (fun b hb => by rcases List.mem_cons.mp hb with z | z; rw [z]; exact he; rw [List.mem_singleton.mp z]; exact hT) (fun b o z hS hb => fk b o (PySem.W.hideAll_get _ z fun hmem => by
        rcases List.mem_cons.mp hmem with y | hmem
        · exact hS (by rw [y]; simp)
        · rcases List.mem_cons.mp hmem with y | hmem
          · exact hS (by rw [y]; simp)
          · exact hb hmem)) up bare).1
  refine gent_use (s := ⟨hh, g, d, tk, s.os⟩) (gent_note _ _) (wpAny_looks_onW (s := ⟨hh, g, d, tk, s.os⟩) (by rw [← hst]; exact I.ok.frames) hfr fl fun h2 fl2 up2 dk2 => gent_use (s := ⟨h2, g, d, tk, s.os⟩) (gent_flight _ _) (wpAny_landsW (s := ⟨h2, g, d, tk, s.os⟩) fl2 fun h3 fl3 up3 dk3 => ?_))
  have I3 := seen h3 fl3.1 (up2.trans up3)
  obtain ⟨oe, hoe, hce⟩ := fl3.there
  have ty : PySem.W.Looks (model X.prog X.w) h3 (typeOf (.ref e)) C := hce ▸ (PySem.W.Looks.ld hoe).andThen .now
  refine wpAny_handleBy_cons (codeAny_handlers_test (ld_glob (X := X.held (.ref e)) (I3.held _) hg hm ?_ hd)) (by intro z; cases z)
  refine (PySem.W.exm_one I3.kIn ty hmatch).here ?_
  refine codeAny_handlers_suite_as (gent_use (s := ⟨h3, g, d, tk, s.os⟩) (gent_flight _ _) (lands_againW (s := ⟨h3, g, d, tk, s.os⟩) fl3 fun h4 fl4 up4 dk4 => ?_))
  have I4 := seen h4 fl4.1 ((up2.trans up3).trans up4)
  obtain ⟨o4, v4, ho4, hc4, hf4, _⟩ := fl4.first
  have live : ∀ b o, s.heap.get? b = some o → b ≠ e := fun b o z y => by rw [y, de] at z; cases z
  have hd4 : ∀ x, dd = some x → o4.dict = some x := fun x z => by
    obtain ⟨oe0, _, _, _, g1, _, _, _, _, _, _, _, g2⟩ := fT
    obtain ⟨o', e1, e2⟩ := ((dk2.trans dk3).trans dk4) e oe0 (objs_of g1)
    rw [objs_of ho4] at e1
    cases e1
    exact e2.trans (g2 x z)
  have I5 := I4.track (e := e) (φ := fun h => ∃ o, h.get? e = some o ∧ o.cls = C ∧ (∃ vs, o.data = .fields vs) ∧ ∀ x, dd = some x → o.dict = some x) he (dead0 I hex de) (by obtain ⟨m, ⟨o, es, ep, z, _⟩, _⟩ := I.loc; exact live _ o z) (fun y c z => by obtain ⟨v, o, r, _⟩ := I.cell y c z; exact live c o r)
    (fun p hp => live p.1 p.2 (I.pin p hp).1) ⟨o4, ho4, hc4, ⟨v4, hf4⟩, hd4⟩ ⟨o4, ho4⟩ fun a b ⟨o, y, z⟩ k => ⟨o, k o y, z⟩
  refine store_ok I5 nd hi hl (v := .ref e) rfl (fun s5 I6 => ?_) hf
  refine wpAny_mono (hs (.ref e) pins s5 _ _ (heldEnds i D) (I6.held _) (q e he)) (fun f s6 h6 => ?_) fun _ _ z => z.elim
  cases f with
  | next =>
    obtain ⟨σ7, H7, I7, q7⟩ := h6
    exact (I7.unheld I.ok).goes nd hi hk fun s8 I8 => ⟨_, H7, I8, q7⟩
  | ret u =>
    obtain ⟨_, _, _, _, _, z⟩ := h6
    exact z.elim
  | brk =>
    obtain ⟨_, _, _, z⟩ := h6
    exact z.elim
  | cont =>
    obtain ⟨_, _, _, z⟩ := h6
    exact z.elim
end L2
namespace L2
open PySem PySem.Spec PyProof.Rows
section
variable {X : Cx} {pins : List (Addr × Obj)} {σ : St} {H : Hp} {s : Shared} {x n y fx : Str} {R : Addr} {i j k : Nat} {np hpos pos p cp yp ap : Pos} {b0 : Stmt} {suite : List Stmt} {ts : TS} {D : Ends} {ps : List Str} {sp : Sp} {e : Expr} {es : List Expr} {t : TA}
structure TryOk (X : Cx) (x n : Str) (R : Addr) (i : Nat) (b0 : Stmt) (suite : List Stmt) (ts : TS) : Prop where
  hex : X.ex = []
  hst : X.stack = X.env :: X.outer
  hfr : X.env.frame = some X.env.locals
  nd : X.N.Nodup
  hi : X.N[i]? = some n
  hk : X.env.kindOf n = some .local
  hl : Loc X.env.scope n
  hf : X.fn n = true ∨ X.env.scope.names.lookup n = some .local
  hg : Gl X x
  hm : X.mg x = some (.ref R)
  hs : ∀ v, PSs (X.held v) (b0 :: suite) ts
  hd : (x == ("__debug__" : Str)) = false
end
end L2
namespace L2
open PySem PySem.Spec PySem.W PyProof.Rows Builtin Builtin.ObjectAttr Builtin.Getset_descriptor
structure ExcCls (K : Frag) (C : Addr) : Prop where
  ga : findIn K (.ref C) "__getattribute__" = some (some (.builtin "BaseException.__getattribute__"))
  noHook : findIn K (.ref C) "__getattr__" = some none
  cls : findIn K (.ref C) "__class__" = some (some (.builtin "object.__class__"))
  get : specialIn K (.builtin "object.__class__") "__get__" = some (some (.builtin "getset_descriptor.__get__"))
  tk : takesIn K (.builtin "object.__class__") = some true
  obj : mroIn K C (.type "object") = some true
  exc : mroIn K C (.type "BaseException") = some true
  isC : isClsIn K C = true
def ExcIs (e C : Addr) (h : Heap) : Prop := ∃ o, h.get? e = some o ∧ o.cls = .ref C
theorem ExcIs.ty {e C : Addr} {h : Heap} {M : Model} (x : ExcIs e C h) : Looks M h (typeOf (.ref e)) (.ref C) := by
  obtain ⟨o, a, b⟩ := x
  exact b ▸ (Looks.ld a).andThen .now
section
variable {prog : Program} {w : World} {A : Around} {E : Value → Shared → Prop} {s : Shared} {K : Frag} {e C : Addr}
theorem own_class : (".".intercalate ("object.__class__".cutAt '.').dropLast) = "object" := by decide +kernel
theorem exc_tells {R : Result → Shared → Prop} (x : ExcIs e C s.heap) (h : R (.ok (.ret (.ref C))) s) : codeAny (model prog w) A (.builtin "object.__class__" ⟨[.ref e], []⟩) R s := by
  have isE := x.ty (M := model prog w)
  refine codeAny_builtin KF.entry_class ?_
  wp_walk using isE.here
  exact h
theorem exc_getter {R : Result → Shared → Prop} {tp : Value} (F : ExcCls K C) (X : K.In s.heap) (x : ExcIs e C s.heap) (h : R (.ok (.ret (.ref C))) s) : codeAny (model prog w) A (.call (.builtin "getset_descriptor.__get__") ⟨[.builtin "object.__class__", .ref e, tp], []⟩) R s := by
  have walked : ∀ A', wpAny (model prog w) A' (Builtin.«getset_descriptor.__get__» ⟨[.builtin "object.__class__", .ref e, tp], []⟩)
      (fun fin s' => match fin with | .done f => R (.ok f) s' | .again c' => c'.quiet = true ∧ codeAny (model prog w) A c' R s') (fun e s' => R (.error e) s') s := fun A' => by
    have isE := x.ty (M := model prog w)
    have isO := looks_mroIn (M := model prog w) X F.obj
    wp_walk using isE.here
    simp only [own_class]
    refine isO.here ?_
    wp_walk
    exact ⟨Code.quiet_builtin _ (by decide +kernel), exc_tells x h⟩
  have args := KF.args_gs (.builtin "object.__class__") (.ref e) tp
  exact codeAny_call_builtin KF.slot_gs.plain KF.entry_gs (KF.slot_gs.check _ _ _ _ _ _ _ _ KF.type_class args (walked _))
theorem exc_class {Q : Option Value → Shared → Prop} (F : ExcCls K C) (X : K.In s.heap) (x : ExcIs e C s.heap) (h : Q (some (.ref C)) { s with toks := s.toks + 1 }) : wpAny (model prog w) A (getAttr? (.ref e) "__class__") Q E s := by
  obtain ⟨hh, g, d, t, os⟩ := s
  have isE := x.ty (M := model prog w)
  have ga := looks_findIn (M := model prog w) X F.ga
  have hook := looks_findIn (M := model prog w) X F.noHook
  have at_ := looks_findIn (M := model prog w) X F.cls
  have gt := looks_specialIn (M := model prog w) X F.get
  have tks := looks_takesIn (M := model prog w) X F.tk
  have isB := looks_mroIn (M := model prog w) X F.exc
  have bnd := PySem.F.attrBase_ValueError.ga.bind (.ref e)
  unfold getAttr? getAttrBy? getAttrBy
  refine wpAny_bind (wpAny_mkText (wpAny_bind (wpAny_attempt (wpAny_holding (wpAny_bind (isE.at (wpAny_bind (ga.at ?_))))))))
  have other : (onTheHeap (.ref C) && Value.builtin "BaseException.__getattribute__" == Value.builtin "object.__getattribute__") = false := by
    rw [show (Value.builtin "BaseException.__getattribute__" == Value.builtin "object.__getattribute__") = false by decide +kernel, Bool.and_false]
  refine wpAny_ite_false (by rw [other]; decide) ?_
  unfold getAttrByItsOwn hookBefore callGetattribute boundAndCalled
  refine wpAny_bind (wpAny_ite_true (by rfl) (hook.at (wpAny_bind (wpAny_attempt (wpAny_holding (wpAny_ite_false (by rfl) (wpAny_bind (wpAny_of_eq bnd (wpAny_call ?_)))))))))
  refine codeAny_call_builtin PySem.F.attrBase_ValueError.ga.plain PySem.F.entry_bexc_ga ?_
  have kd : builtinKind "BaseException.__getattribute__" = some .slot := by decide +kernel
  have sp : splitId "BaseException.__getattribute__" = some ("BaseException", "__getattribute__") := by decide +kernel
  have ag := PySem.F.args_bexc_ga (.ref e) (.str (Str.ofString "__class__") t)
  simp only [checkBuiltinCall, kd, sp]
  refine wpAny_bind ?_
  unfold isInstance
  refine wpAny_bind (isE.at (isB.at ?_))
  refine wpAny_ite_false (by decide) (wpAny_of_eq ag ?_)
  unfold Builtin.«object.__getattribute__» find getOf
  repeat (first | with_reducible refine wpAny_call ?_ | lk)
  refine exc_getter F X x (wpAny_pure ?_)
  exact handed_on rfl (wpAny_pure h)
theorem kitx_exc (F : ExcCls K C) : KitX K (.ref e) (.ref C) (ExcIs e C) where
  ty := fun _ _ _ x => x.ty
  it := fun M h X x => by
    obtain ⟨cd, hc⟩ := Option.isSome_iff_exists.mp F.isC
    unfold clsIn at hc
    split at hc
    case h_2 => cases hc
    case h_1 ho => exact fun A' Q' E' s' k q => by unfold isType loadHead; exact wpAny_bind (wpAny_loadPart (k _ _ (X _ _ ho)) (wpAny_pure q))
  ne := fun h tp dd its n sl X htp => by
    obtain ⟨cd, hc⟩ := Option.isSome_iff_exists.mp F.isC
    unfold clsIn at hc
    split at hc
    case h_2 => cases hc
    case h_1 ho =>
      refine Bool.eq_false_iff.mpr fun q => ?_
      cases beq_iff_eq.mp q
      cases (X _ _ ho).symm.trans htp
  ca := fun X x k => exc_class F X x k
end
def rIsExc (K : Frag) (D : Value) (d : V) : List V → Hp → VK → Prop := fun xs H Q => ∃ e C b dd, xs = [.ref e, d] ∧ H e = some (excAt e (.ref C) dd) ∧ ExcCls K C ∧ kitOne K (.ref C) D = some b ∧ Q (.bl b) H
theorem call_isexc {X : Cx} {D : Value} {d : V} (hd : RelV d D) (hD : ∀ u, RelV d u → u = D) : CallR X (.builtin "isinstance") (rIsExc X.K D d) := by
  intro pins s σ H xs us Q I r h
  obtain ⟨e, C, b, dd, rfl, he, hC, hk, q⟩ := h
  obtain ⟨u, w', rfl, rx, ry⟩ := vals2 r
  cases rx
  cases hD _ ry
  obtain ⟨⟨o, g1, g2, _⟩, _⟩ := I.hok e _ he
  exact kia_one (kitx_exc hC) I.kIn ⟨o, g1, g2⟩ hk (fun z => nomatch z) fun tk => ⟨.bl b, H, I.tok tk, rfl, q⟩
end L2
namespace RA
end RA
namespace RA
open PySem L2
structure Sm (w : List Nat) : Prop where
  len : w.length ≤ 4000
  cod : ∀ c ∈ w, c < 1000000
theorem Let.sm {L : List Nat} (h : Let L) : Sm L := ⟨by have := h.hi; omega, fun c hc => by have := (h.az c hc).2; omega⟩
theorem Sm.txt {w : List Nat} (h : Sm w) {σ : St} {i : Nat} (e : σ[i]? = some (some (.str (tx w)))) : Txt5 i σ := ⟨tx w, e, by rw [tx_len]; have := h.len; omega, by rw [tx_cps]; exact h.cod⟩
theorem Sm.line {w : List Nat} (h : Sm w) : (tx w).length ≤ sizeLine := line_ge (by rw [tx_len]; have := h.len; omega)
theorem Sm.one {w : List Nat} (h : Sm w) {c : Nat} (hc : c ∈ w) : Sm [c] := ⟨by simp, fun d hd => by rw [List.mem_singleton.mp hd]; exact h.cod c hc⟩
def forL : List Nat := List.range' 32 5 ++ List.range' 38 59 ++ List.range' 123 4
theorem for_eq : (Str.ofString " !\"#$&'()*+,-./0123456789:;<=>?@ABCDEFGHIJKLMNOPQRSTUVWXYZ[\\]^_`{|}~") = tx forL := by decide +kernel
theorem for_len : forL.length = 68 := by decide
theorem for_no : ∀ c ∈ forL, (c < 97 ∨ 122 < c) ∧ c < 127 := by decide
theorem sub_len : ∀ {a b : List Nat}, a.Nodup → (∀ c ∈ a, c ∈ b) → a.length ≤ b.length
  | [], _, _, _ => Nat.zero_le _
  | c :: a, b, nd, h => by
    obtain ⟨b1, b2, e⟩ := List.append_of_mem (h c (by simp))
    obtain ⟨n1, n2⟩ := List.nodup_cons.mp nd
    have := sub_len (a := a) (b := b1 ++ b2) n2 fun d hd => by
      have hd2 := h d (by simp [hd])
      rw [e] at hd2
      have hdc : d ≠ c := fun z => n1 (z ▸ hd)
      simp [hdc] at hd2
      simpa using hd2
    rw [e]
    simp at this ⊢
    omega
def abcL : List Nat := List.range' 97 26
def othL (L : List Nat) : List Nat := abcL.filter fun c => !decide (c ∈ L)
theorem oth_mem {L : List Nat} {c : Nat} (h : c ∈ othL L) : (97 ≤ c ∧ c ≤ 122) ∧ c ∉ L := by
  obtain ⟨h1, h2⟩ := List.mem_filter.mp h
  refine ⟨?_, by simpa using h2⟩
  have := List.mem_range'.mp h1
  omega
theorem oth_len (L : List Nat) : 26 ≤ (othL L).length + L.length := by
  have h1 : (abcL.filter fun c => decide (c ∈ L)).length ≤ L.length := sub_len ((by decide : abcL.Nodup).filter _) fun c hc => by
    have := (List.mem_filter.mp hc).2
    simpa using this
  have h2 : (abcL.filter fun c => decide (c ∈ L)).length + (othL L).length = abcL.length := by
    have : ∀ l : List Nat, (l.filter fun c => decide (c ∈ L)).length + (l.filter fun c => !decide (c ∈ L)).length = l.length := fun l => by
      induction l with
      | nil => rfl
      | cons a r ih => by_cases ha : a ∈ L <;> simp [List.filter_cons, ha] at ih ⊢ <;> omega
    exact this abcL
  have h3 : abcL.length = 26 := by decide
  omega
theorem nolet_nil : ¬ Let [] := fun h => by have := h.lo; simp at this
theorem nolet_twice {L : List Nat} {m i : Nat} (hm : m ∈ L) : ¬ Let (L.take i ++ [m] ++ L.drop i) := fun h => by
  have p : (L.take i ++ [m] ++ L.drop i).Perm (m :: L) := by
    have e : L = L.take i ++ L.drop i := (List.take_append_drop i L).symm
    conv => rhs; rw [e]
    rw [List.append_assoc]
    exact List.perm_middle
  have := p.nodup_iff.mp h.nd
  exact (List.nodup_cons.mp this).1 hm
theorem nolet_four {L more : List Nat} {i : Nat} (h3 : L.length ≤ 3) (h : L.length + more.length = 4) : ¬ Let (L.take i ++ more ++ L.drop i) := fun q => by
  have e : (L.take i).length + (L.drop i).length = L.length := by rw [← List.length_append, List.take_append_drop]
  have := q.hi
  simp only [List.length_append] at this
  omega
theorem nolet_foreign {t : List Nat} {c : Nat} (hc : c ∈ t) (h : c < 97 ∨ 122 < c) : ¬ Let t := fun q => by
  have := q.az c hc
  omega
end RA
namespace RA
end RA
namespace L2
open PySem PySem.Spec PyProof.Rows
theorem eqV_same : ∀ {x : V}, flatV x = true → eqV x x = true := by
  intro x h
  cases x with
  | non => rfl
  | bl a => simp [eqV]
  | int a => simp [eqV]
  | str a => simp [eqV]
  | _ => exact absurd (show false = true from h) Bool.false_ne_true
def rEqL (K : PySem.W.Frag) : R2 := fun x y H Q => ∃ p q xs, x = .ref p ∧ y = .ref q ∧ SqL K H p xs ∧ SqL K H q xs ∧ xs.all flatV = true ∧ Q (.bl true) H
theorem op_eqL {X : Cx} (hu : X.A.units < cLine) : OpR X (compareOp .Eq) (rEqL X.K) := by
  intro pins s σ H x y v u Q I rx ry h
  obtain ⟨p, q, xs, rfl, rfl, hp, hq, hf, k⟩ := h
  cases rx
  cases ry
  obtain ⟨its, r1, pl1, hz1⟩ := I.list hp
  obtain ⟨its2, r2, pl2, hz2⟩ := I.list hq
  have l1 := r1.length
  have l2 := r2.length
  refine SeqAt.eq_listAt (e := fun _ => true) pl1.isList pl2.isList (by simp; omega) hu (fun j h1 h2 => ?_) ⟨.bl _, H, I, rfl, ?_⟩
  · have hj : j < xs.length := by simp at h1; omega
    obtain ⟨a, ea, ra⟩ := r1.get (i := j) (List.getElem?_eq_getElem hj)
    obtain ⟨b, eb, rb⟩ := r2.get (i := j) (List.getElem?_eq_getElem hj)
    have fx : flatV xs[j] = true := List.all_eq_true.mp hf _ (List.getElem_mem hj)
    have e := eqAt_V (A := X.A.in1) (s := s) ra rb fx fx
    rw [eqV_same fx] at e
    have e1 : its.toArray[j] = a := by
      have := List.getElem?_eq_some_iff.mp ea
      obtain ⟨_, e⟩ := this
      simpa using e
    have e2 : its2.toArray[j] = b := by
      have := List.getElem?_eq_some_iff.mp eb
      obtain ⟨_, e⟩ := this
      simpa using e
    rw [e1, e2]
    exact e
  · have : ((List.range its.toArray.size).all fun _ => true) = true := by simp
    rw [this]
    exact k
theorem comp_signsC {x : Str} {tt : TT} {σ : St} {H : Hp} {Q : VK} (p : Nat → Bool) (hz : x.length ≤ sizeLine)
    (ht : ∀ (i : Nat) (c : Nat) (H' : Hp) (R : Bool → Hp → Prop), x.cps[i]? = some c → R (p c) H' → tt (some (.str ⟨#[c]⟩) :: σ) H' R) (hq : ∀ D, H D = none → Q (.ref D) (L2.upd H D (.lst ((x.cps.toList.filter p).map fun c => V.str ⟨#[c]⟩)))) :
    tComp (iStr (tC (.str x))) tt (tVar 0) σ H Q := ⟨x, rfl, comp_signs p hz ht hq⟩
end L2
namespace RA
open PySem L2
theorem Sm.app {a b : List Nat} (ha : Sm a) (hb : Sm b) (h : a.length + b.length ≤ 4000) : Sm (a ++ b) := ⟨by rw [List.length_append]; exact h, fun c hc => by
  rcases List.mem_append.mp hc with hc | hc
  · exact ha.cod c hc
  · exact hb.cod c hc⟩
theorem Sm.take {a : List Nat} (h : Sm a) (n : Nat) : Sm (a.take n) := ⟨by have := h.len; rw [List.length_take]; omega, fun c hc => h.cod c (List.mem_of_mem_take hc)⟩
theorem Sm.drop {a : List Nat} (h : Sm a) (n : Nat) : Sm (a.drop n) := ⟨by have := h.len; rw [List.length_drop]; omega, fun c hc => h.cod c (List.mem_of_mem_drop hc)⟩
theorem Sm.mid {a m : List Nat} {i j : Nat} (h : Sm a) (hm : Sm m) (hl : a.length + a.length + m.length ≤ 4000) : Sm (a.take i ++ m ++ a.drop j) := by
  have h1 : (a.take i).length ≤ a.length := by rw [List.length_take]; omega
  have h2 : (a.drop j).length ≤ a.length := by rw [List.length_drop]; omega
  exact ((h.take i).app hm (by omega)).app (h.drop j) (by rw [List.length_append]; omega)
theorem sm_one {c : Nat} (h : c < 1000000) : Sm [c] := ⟨by simp, fun d hd => by rw [List.mem_singleton.mp hd]; exact h⟩
end RA
namespace L2
theorem boot_verr : PySem.bootBuiltins "ValueError" = some (.type "ValueError") := by decide +kernel
end L2
namespace L2
open PySem PySem.Spec PyProof.Rows
section
variable {K : PySem.W.Frag} {tl : TE} {a : Addr} {xs : List V} {tt : TT} {te : TE} {σ : St} {H : Hp} {Q : VK}
end
end L2
namespace L2
open PySem PySem.Spec PyProof.Rows
end L2
namespace L2
open PySem PySem.Spec PyProof.Rows
section
variable {X : Cx} {elt iter : Expr} {x : Str} {px pos : Pos} {ifs : List Expr} {sc : Scope} {wi : TI} {tt : TT} {te : TE}
end
end L2
namespace L2
open PySem PySem.Spec PyProof.Rows
section
variable {X : Cx} {elt iter : Expr} {x : Str} {px pos : Pos} {ifs : List Expr} {sc : Scope} {wi : TI} {tt : TT} {te : TE}
end
end L2
namespace RA
open PySem L2
end RA
namespace RA
open PySem L2
end RA
namespace L2
end L2
namespace RA
open PySem L2
end RA
namespace L2
open PySem PySem.Spec PyProof.Rows
section
variable {κ : Type} [DecidableEq κ]
def valV (kvs : List (κ × V)) (k : κ) : Option V := (kvs.find? fun kv => decide (kv.1 = k)).map (·.2)
theorem valV_pos {p : κ × V} {r : List (κ × V)} {k : κ} (e : p.1 = k) : valV (p :: r) k = some p.2 := by simp [valV, List.find?_cons, e]
theorem valV_neg {p : κ × V} {r : List (κ × V)} {k : κ} (e : ¬ p.1 = k) : valV (p :: r) k = valV r k := by simp [valV, List.find?_cons, e]
theorem RelO.getD {o : Option V} {u : Option Value} {d : V} {d' : Value} (r : RelO o u) (rd : RelV d d') : RelV (o.getD d) (u.getD d') := by
  cases o with
  | none => cases u with
    | none => exact rd
    | some _ => exact (show False from r).elim
  | some _ => cases u with
    | none => exact (show False from r).elim
    | some _ => exact r
theorem KV.val {kvs : List (κ × V)} {vs : List (κ × Value)} (r : KV kvs vs) (k : κ) : RelO (valV kvs k) (valueAt vs k) := by
  unfold KV at r
  induction r with
  | nil => exact True.intro
  | @cons p q ps qs h t ih =>
    obtain ⟨h1, h2⟩ := h
    by_cases e : p.1 = k
    · have e' : q.1 = k := h1.symm.trans e
      have b : valueAt (q :: qs) k = some q.2 := by simp [valueAt, List.find?_cons, e']
      rw [valV_pos e, b]; exact h2
    · have e' : ¬ q.1 = k := fun z => e (h1.trans z)
      have b : valueAt (q :: qs) k = valueAt qs k := by simp [valueAt, List.find?_cons, e']
      rw [valV_neg e, b]; exact ih
end
theorem kV_is {P : Program} {w : World} {k : Key} {u : Value} (r : RelV (kV k) u) : (mixKind P w).is k u = true := by
  cases k with
  | inl i => obtain ⟨t, e⟩ := (show ∃ t, u = Value.int i t from r); subst e; exact mixKind_int P w i t
  | inr x => obtain ⟨t, e⟩ := (show ∃ t, u = Value.str x t from r); subst e; exact mixKind_str P w x t
structure DictK (P : Program) (w : World) (K : PySem.W.Frag) (d : Addr) (kvs : List (Key × V)) : Prop where
  at_ : ∀ h : Heap, K.In h → ∃ vs, KV kvs vs ∧ h.DictOf (mixKind P w) d vs
  ns : (d == sysModules) = false
section
variable {X : Cx} {d : Addr} {kvs : List (Key × V)}
def rIxD (d : Addr) (kvs : List (Key × V)) : R2 := fun x y H Q => ∃ k v, x = .ref d ∧ y = kV k ∧ valV kvs k = some v ∧ Q v H
theorem ix_dictK (D : DictK X.prog X.w X.K d kvs) : IxR X (rIxD d kvs) := by
  intro value slice pins s σ H x y v u Q I rx ry h hs
  obtain ⟨k, z, rfl, rfl, hv, q⟩ := h
  cases rx
  obtain ⟨vs, rel, dd⟩ := D.at_ _ I.kIn
  obtain ⟨w', hw, rw'⟩ := RelO.some_of (v := z) (o := valueAt vs k) (by rw [← hv]; exact rel.val k)
  exact tail_any (ops := [.ref d, u]) dd.typeIs PySem.F.slot_dict_getitem.lookup (wpAny_getItem_of (kV_is ry) dd.mapOf hw ⟨z, H, I.tok _, rw', q⟩) hs
def tGetK (d : Addr) (kvs : List (Key × V)) (to : TE) (t : TA) : TE := fun σ H Q => to σ H fun x H1 => x = .ref d ∧ t σ H1 fun xs H2 => ∃ k z, xs = [kV k, z] ∧ Q ((valV kvs k).getD z) H2
theorem pe_getK (D : DictK X.prog X.w X.K d kvs) {o e f : Expr} {apos cpos : Pos} {to : TE} {t : TA} (ho : PE X o to) (ha : PA X [e, f] t)
    (hbase : attributeBase o "get" X.env (eval o X.env) = eval o X.env := by rfl)
    (hfew : ((backTo cpos (starEach [e, f] X.env)).all (fun x => !x.1) && (backToKw cpos (keywordEach [] X.env)).all (fun x => x.1.isSome)
      && decide (([e, f] : List Expr).length + ([] : List Keyword).length + (if ([] : List Keyword).isEmpty then 0 else 1) < 30)) = true := by rfl)
    (hline : (apos.endLine == cpos.line) = true := by rfl) (hs : starEach [e, f] X.env = (false, eval e X.env) :: starEach [f] X.env := by rfl) (hplain : (backTo cpos (starEach [f] X.env)).any (·.1) = false := by rfl) :
    PE X (.Call (.Attribute o "get" apos) [e, f] [] cpos) (tGetK d kvs to t) := by
  intro pins s σ H Q I h
  refine wpAny_Call_method_late hbase hfew hline rfl (thn (ho pins s σ H _ I h) fun v s1 ⟨x, H1, I1, r1, ex, q1⟩ => ?_)
  subst ex
  cases r1
  obtain ⟨vs, rel, dd⟩ := D.at_ _ I1.kIn
  obtain ⟨ob, es, ep, h1, h2, h3⟩ := id dd
  refine ⟨"dict", _, PySem.F.plainAttrs_dict, PySem.F.slot_dict_get, PySem.F.type_dict_get, dd.typeIs, fun a e => ?_, ?_⟩
  · cases e
    exact ⟨ob, h1, h2.2.1⟩
  · have hA := ha cpos pins s1 σ H1 _ I1 q1
    rw [hs] at hA ⊢
    refine Calls.callWith_builtin (by show (false || (backTo cpos (starEach [f] X.env)).any (·.1)) = false; rw [hplain] <;> rfl) (Calls.evalArgs_plain ?_)
    refine thn hA fun us s2 z => ?_
    obtain ⟨xs, H2, I2, r2, k, y, rfl, q2⟩ := z
    obtain ⟨u1, u2, rfl, ry, rz⟩ := vals2 r2
    obtain ⟨vs2, rel2, dd2⟩ := D.at_ _ I2.kIn
    exact call_meetsIn PySem.F.slot_dict_get dd2.typeIs PySem.F.entry_dict_get (PySem.F.args_dict_get_3 _ _ _) (meets_dict_get_default (mixKind X.prog X.w) d (kV_is ry) D.ns u2) ⟨_, dd2.mapOf, ⟨_, H2, I2.tok _, (rel2.val k).getD rz, q2⟩⟩
end
end L2
namespace RA
section
variable {κ : Type} [DecidableEq κ]
end
end RA
namespace L2
open PySem PySem.Spec PyProof.Rows
section
variable (P : Program) (w : World)
end
section
variable {P : Program} {w : World}
end
end L2
namespace L2
open PySem PySem.Spec PyProof.Rows
section
variable {P : Program} {w : World} {κ : Type} [DecidableEq κ]
end
section
variable {X : Cx} {pins : List (Addr × Obj)} {σ : St} {H : Hp} {s : Shared} {d : Addr}
end
end L2
namespace L2
open PySem PySem.Spec PyProof.Rows
section
variable {X : Cx}
end
end L2
namespace L2
open PySem PySem.Spec PyProof.Rows
section
variable {X : Cx} {elt iter : Expr} {x y : Str} {px py pt pos : Pos} {kt : Nat} {sc : Scope} {wi : TI} {te : TE}
end
end L2
namespace L2
open PySem PySem.Spec PyProof.Rows
section
variable {prog : Program} {w : World} {A : Around} {E : Value → Shared → Prop} {s : Shared} {it t : Addr} {i : Nat} {items : Array Value}
end
end L2
namespace L2
open PySem PySem.Spec PyProof.Rows
namespace ZP
section
variable {prog : Program} {w : World} {A : Around} {E : Value → Shared → Prop} {s : Shared} {z TI TO i1 i2 : Addr} {f1 f2 : List Addr} {n1 n2 k : Nat} {P1 P2 : Nat → Value → Prop} {S1 S2 : Nat → Heap → Prop} {a b : Value}
end
end ZP
end L2
namespace L2
open PySem PySem.Spec PyProof.Rows
section
variable {X : Cx}
end
end L2
namespace L2
open PySem PySem.Spec PyProof.Rows
end L2
namespace RA
open PySem L2
end RA
namespace L2
open PySem PySem.Spec PyProof.Rows
section
variable {X : Cx} {elt iter : Expr} {x : Str} {px pos : Pos} {ifs : List Expr} {sc : Scope} {wi : TI} {tt : TT} {te : TE}
end
end L2
namespace L2
open PySem PySem.Spec PyProof.Rows
theorem walk63z {l : PySem.W.OpenLaw} {k : Nat} {x : Str} {q : Program} {loose : List Str} {XP : (Str → Option Value) → Heap → Prop} {d : DefRec} {K : Params → PySem.W.Frag} (hn : l.most = some 63) (hdf : d.params.defaults = []) (hr : Room k callerA)
    (F : ∀ (w : World) (mg : Str → Option Value) (fa : Addr) (h : Heap), (K w.params).In h → h.Ns mainGlobals mg → mg d.name = some (.ref fa) →
      ∃ fd : FuncData, (∀ (s : Shared) (u : Value), BindsTo s fd ⟨[u], []⟩ [(x, u)]) ∧ ∀ base : Heap, (K w.params).In base → base.Ns mainGlobals mg → FnOk l.prog w (K w.params) mg base CX0 k fa fd [x] (spLaw (K w.params))) :
    PySem.W.WalkO q loose XP (fun w h => (K w.params).In h) l.row.toRowW d [] (fun f vs => PySem.call f vs) := walk63 hn hdf hr (fun _ _ Y => Y) F
end L2
namespace RA
open PySem L2
section
variable {K : PySem.W.Frag} {te : TE} {tt : TT} {σ : St} {H : Hp} {Q : VK} {a c d : Addr} {o : HO} {xs zs : List V}
end
end RA
namespace RA
open PySem L2
section
variable {P : Program} {w : World} {H : Hp} {d q : Addr} {ps : List (Nat × Nat)}
end
theorem len1 {α : Type} {l : List α} (h : l.length = 1) : ∃ a, l = [a] := match l, h with | [a], _ => ⟨a, rfl⟩
theorem len2 {α : Type} {l : List α} (h : l.length = 2) : ∃ a b, l = [a, b] := match l, h with | [a, b], _ => ⟨a, b, rfl⟩
theorem len3 {α : Type} {l : List α} (h : l.length = 3) : ∃ a b c, l = [a, b, c] := match l, h with | [a, b, c], _ => ⟨a, b, c, rfl⟩
theorem len4 {α : Type} {l : List α} (h : l.length = 4) : ∃ a b c d, l = [a, b, c, d] := match l, h with | [a, b, c, d], _ => ⟨a, b, c, d, rfl⟩
end RA
namespace RA
section
variable {L a b c : List Nat}
end
section
variable {κ : Type} [DecidableEq κ]
variable {g : κ → Nat → κ} {L : List Nat} {s : κ} {ts : List κ} {ws : List (List Nat)} {n k : Nat}
end
end RA
namespace L2
open PySem PySem.Spec PyProof.Rows
section
variable {CX : CXT} {P : Program} {w : World} {K : PySem.W.Frag} {mg : Str → Option Value} {base : Heap} {N ps fr : List Str} {qual : Str} {scope : Scope} {f : Addr} {cd : Value} {clos : List (Str × Addr)} {A : Around} {outer : List Env} {s : Shared} {H : Hp} {E : XK} {us : List Value} {vs fvs : List V}
end
end L2
namespace L2
open PySem PySem.Spec PyProof.Rows
end L2
namespace L2
open PySem PySem.Spec PyProof.Rows
section
variable {P : Program} {w : World} {K : PySem.W.Frag} {mg : Str → Option Value} {base : Heap} {A : Around} {outer : List Env} {s : Shared} {H : Hp} {U : List Addr}
end
end L2
namespace L2
open PySem PySem.Spec PyProof.Rows
end L2
namespace L2
open PySem PySem.Spec PyProof.Rows
namespace Sd
end Sd
namespace ZP
section
variable {prog : Program} {w : World} {A : Around} {E : Value → Shared → Prop} {s : Shared}
end
section
variable {prog : Program} {w : World} {A : Around} {E : Value → Shared → Prop} {s : Shared}
end
end ZP
end L2
namespace L2
open PySem PySem.Spec PyProof.Rows
section
variable {X : Cx}
end
end L2
namespace RA
open PySem L2
section
variable {P : Program} {w : World} {H : Hp} {d : Addr} {ti : Bool} {ts : List (List Nat)} {k : List Nat} {v : V}
end
end RA
namespace L2
open PySem PySem.Spec PyProof.Rows
namespace ZP
section
variable {prog : Program} {w : World} {A : Around} {E : Value → Shared → Prop} {s : Shared} {z TI TO i1 i2 T : Addr} {f1 f2 : List Addr} {n1 n2 k : Nat} {P1 P2 : Nat → Value → Prop} {S1 S2 : Nat → Heap → Prop} {b1 : Bool} {oT : Obj}
end
section
variable {prog : Program} {w : World} {A : Around} {R : Result → Shared → Prop} {z TI TO i1 i2 S : Addr} {f1 f2 : List Addr} {n : Nat} {P1 P2 : Nat → Value → Prop} {S1 S2 : Nat → Heap → Prop}
end
section
variable {prog : Program} {w : World} {A : Around} {E : Value → Shared → Prop} {z TI TO i1 i2 : Addr} {f1 f2 : List Addr} {n : Nat} {P1 P2 : Nat → Value → Prop} {S1 S2 : Nat → Heap → Prop}
end
end ZP
end L2
namespace L2
open PySem PySem.Spec PyProof.Rows
section
variable {X : Cx} {pins : List (Addr × Obj)} {σ : St} {H H' : Hp} {s : Shared} {h' : Heap}
end
end L2
namespace L2
open PySem PySem.Spec PyProof.Rows
end L2
namespace RA
open PySem L2
end RA
namespace RA
open PySem L2
section
variable {P : Program} {w : World} {H0 H : Hp} {cW : Addr} {ti : Bool} {L : List Nat} {wk t wd y m d : Addr} {ks : List (List Nat)} {vks : List V} {ws : List (List Nat)} {rows : List Addr} {R : List (List Nat)} {B : List Bool}
end
section
variable {g : List Nat → Nat → List Nat} {L s0 : List Nat} {mk : List Nat → Bool} {U ks ws R : List (List Nat)} {B : List Bool} {q n : Nat} {r a k0 : List Nat}
end
end RA
namespace RA
open PySem L2
end RA
namespace L2
open PySem PySem.Spec PyProof.Rows
section
variable {X : Cx}
end
end L2
namespace RA
open PySem L2
end RA
namespace L2
open PySem PySem.Spec PyProof.Rows
end L2
namespace RA
open PySem L2
end RA
namespace L2
open PySem PySem.Spec PyProof.Rows
section
variable {X : Cx}
end
end L2
namespace RA
open PySem L2
end RA
namespace RA
section
variable {κ : Type} [DecidableEq κ]
end
section
variable {L : List Nat} {W : List (List Nat)} {B : List Bool} {k : Nat}
end
section
variable {L : List Nat} {R : List (List Nat)} {Bm : List Bool} {k m : Nat}
end
section
variable {L : List Nat} {W : List (List Nat)} {B : List Bool} {ks ws R : List (List Nat)} {Bm : List Bool}
end
end RA
namespace L2
open PySem PySem.Spec PyProof.Rows
end L2
namespace RA
open PySem L2
end RA
namespace RA
section
variable {κ : Type} [DecidableEq κ]
end
section
variable {L : List Nat} {R : List (List Nat)} {Bm : List Bool} {k m : Nat}
end
section
variable {L : List Nat} {W : List (List Nat)} {B : List Bool} {ks ws R : List (List Nat)}
end
end RA
namespace RA
open PySem L2
end RA
namespace RA
section
variable {L : List Nat} {W1 W2 : List (List Nat)} {B1 B2 : List Bool} {v1 v2 : Nat → List Nat}
end
end RA
namespace L2
open PySem PySem.Spec PyProof.Rows
section
variable {X : Cx} {pins : List (Addr × Obj)} {σ : St} {H : Hp} {s : Shared}
end
end L2
namespace RA
open PySem L2
section
variable {X : Cx} {pins : List (Addr × Obj)} {σ : St} {H : Hp} {s : Shared}
end
end RA
namespace L2
open PySem PySem.Spec PyProof.Rows
end L2
namespace RA
open PySem L2
end RA
namespace RA
section
variable {L : List Nat} {W : List (List Nat)} {B : List Bool} {ls : List Nat} {W2 : List (List Nat)} {B2 : List Bool}
end
end RA
namespace RA
open PySem L2
end RA
namespace L2
open PySem PySem.Spec PyProof.Rows
abbrev vBM : List Value := [.type "ValueError", .type "Exception", .type "BaseException", .type "object"]
abbrev excOb (C : Addr) (dd : Option Addr) (a0 : Value) : Obj := { cls := .ref C, dict := dd, data := .fields #[a0, .none, .none, .none, .bool false, .none] }
section
variable {P : Program} {w : World} {A : Around} {E : Value → Shared → Prop} {h : Heap} {g : Array GenState} {d : Drawn} {t : Nat} {os : OsState}
variable {nm q : Str} {C N : Addr} {bs bm : List Value} {hdct : Bool} {sn : List Str} {sub : List Value} {ab : Bool} {col : Option Bool} {dd : Option Addr} {k0 k1 k2 k3 k5 : Option Value}
theorem exc_made {mN : Str → Option Value} {us : List Value} {fI : Addr} {oI : Obj} {Q : Fin → Shared → Prop} (tl : OwnTail h vBM bm)
    (cO : h.get? C = some (excClassObj nm q C N bs bm hdct sn sub ab col dd k0 k1 k2 k3 k5 "ValueError.__new__")) (nO : h.Ns N mN) (iO : mN "__init__" = some (.ref fI))
    (fO : h.get? fI = some oI) (fc : oI.cls = .type "function") (hu : us.length ≤ sizeLine)
    (go : ∀ h' e, h.objs.size ≤ e → Heap.MadeExcOf h h' e (.ref C) us → wpAny (model P w) A (call (.ref fI) (.ref e :: us)) (fun r s' => r = .none ∧ Q (.done (.ret (.ref e))) s') E ⟨h', g, d, t, os⟩) :
    wpAny (model P w) A (Builtin.«type.__call__» ⟨.ref C :: us, []⟩) Q E ⟨h, g, d, t, os⟩ := by
  have FV := PySem.F.excBase_ValueError
  have bV : vBM.contains (.type "ValueError") = true := rfl
  repeat (first | with_reducible refine wpAny_loadPart_at cO ?_ | with_reducible refine wpAny_madeBy_exc cO ?_ | wp_step)
  refine codeAny_call_builtin_code (Code.quiet_builtin _ FV.quiet) (wpAny_check_new_subU FV bV tl cO ?_)
  refine codeAny_exc_new_subU FV bV FV tl cO ?_ hu
  show wpAny _ _ _ _ _ _
  have up : ∀ b o, h.get? b = some o → ((h.push { cls := .type "tuple", data := .seq us.toArray }).push (excOb C none (.ref h.objs.size))).get? b = some o := fun b o z => Heap.get?_push_of_some _ (Heap.get?_push_of_some _ z)
  have c1 := up _ _ cO
  have f1 := up _ _ fO
  have n1 : ((h.push { cls := .type "tuple", data := .seq us.toArray }).push (excOb C none (.ref h.objs.size))).Ns N mN := let ⟨o, es, ep, z, r⟩ := nO; ⟨o, es, ep, up _ _ z, r⟩
  have e1 : ((h.push { cls := .type "tuple", data := .seq us.toArray }).push (excOb C none (.ref h.objs.size))).get? (h.objs.size + 1) = some (excOb C none (.ref h.objs.size)) := by heap_get
  have hcC : (Value.ref C :: bm).contains (.ref C) = true := by simp
  have t1 := tl.keeps (h' := (h.push { cls := .type "tuple", data := .seq us.toArray }).push (excOb C none (.ref h.objs.size))) up
  unfold isInstance
  repeat (first | with_reducible refine wpAny_loadPart_at e1 ?_ | (with_reducible refine wpAny_isSubtype_exc c1 ?_; rw [hcC]) | wp_step)
  show wpAny _ _ (typeLookup (.ref C) _) _ _ _
  refine wpAny_typeLookup_tail c1 n1 t1 FV.mroIs FV.init.lookup ?_
  rw [iO]
  refine wpAny_holding (wpAny_bind ?_)
  unfold bindSpecial
  refine wpAny_bind (wpAny_typeOf (T := "function") ⟨_, f1, fc⟩ ?_)
  rw [if_pos (by decide)]
  refine wpAny_pure (wpAny_bind (wpAny_mono (go _ (h.objs.size + 1) (Nat.le_succ _) ⟨up, Heap.get?_none_of_le (Nat.le_succ _), h.objs.size, e1, Heap.get?_none_of_le (Nat.le_refl _), ?_⟩) (fun r s' hr => ?_) fun _ _ z => z))
  · exact Heap.get?_push_of_some _ (Heap.get?_push_at rfl rfl)
  · obtain ⟨rfl, hQ⟩ := hr
    wp_walk
    exact hQ
theorem exc_call {mN : Str → Option Value} {us : List Value} {fI : Addr} {oI : Obj} {Q : Value → Shared → Prop} (tl : OwnTail h vBM bm)
    (cO : h.get? C = some (excClassObj nm q C N bs bm hdct sn sub ab col dd k0 k1 k2 k3 k5 "ValueError.__new__")) (nO : h.Ns N mN) (iO : mN "__init__" = some (.ref fI))
    (fO : h.get? fI = some oI) (fc : oI.cls = .type "function") (hu : us.length ≤ sizeLine)
    (go : ∀ h' e, h.objs.size ≤ e → Heap.MadeExcOf h h' e (.ref C) us → wpAny (model P w) (A.under (.builtin "type.__call__" ⟨.ref C :: us, []⟩)) (call (.ref fI) (.ref e :: us)) (fun r s' => r = .none ∧ Q (.ref e) s') E ⟨h', g, d, t, os⟩) :
    wpAny (model P w) A (call (.ref C) us) Q E ⟨h, g, d, t, os⟩ := by
  have y1 := tc_lookup
  have y2 := tc_bind (.ref C)
  have tyC : (⟨h, g, d, t, os⟩ : Shared).TypeIs (.ref C) "type" := ⟨_, cO, rfl⟩
  refine wpAny_call (codeAny_of_tree ?_)
  show wpAny _ _ (callAny (.ref C) _) _ _ _
  repeat (any_goals (first | assumption | with_reducible refine wpAny_loadPart_at cO ?_ | wp_step))
  refine ⟨rfl, ?_⟩
  refine codeAny_call_builtin_at (Code.quiet_builtin _ (by decide +kernel)) entry_typeCall (wpAny_check_type_call_sub cO (exc_made tl cO nO iO fO fc hu fun h' e le mk => ?_))
  exact go h' e le mk
theorem exc_init0 {e t0 : Addr} {u : Value} {Q : Value → Shared → Prop} (tl : OwnTail h vBM bm)
    (cO : h.get? C = some (excClassObj nm q C N bs bm hdct sn sub ab col dd k0 k1 k2 k3 k5 "ValueError.__new__")) (eO : h.get? e = some (excOb C none (.ref t0)))
    (go : ∀ h', (∀ b o, b ≠ e → h.get? b = some o → h'.get? b = some o) → h'.get? e = some (excOb C none (.ref h.objs.size)) → Q .none ⟨h', g, d, t, os⟩) :
    wpAny (model P w) A (call (.builtin "ValueError.__init__") [.ref e, u]) Q E ⟨h, g, d, t, os⟩ := by
  have FV := PySem.F.excBase_ValueError
  have hne : e ≠ h.objs.size := Nat.ne_of_lt (Heap.lt_size eO)
  refine wpAny_call (codeAny_call_builtin FV.init.plain FV.initEntry (wpAny_check_init_subU FV tl cO eO rfl ?_))
  wp_walk
  refine go _ (fun b o hb z => ?_) ?_
  · rw [Heap.get?_update_other _ _ (Ne.symm hb)]
    exact Heap.get?_push_of_some _ z
  · rw [Heap.get?_update_self _ (Heap.get?_push_of_some _ eO) rfl]
    rfl
theorem raise_made {M : Model} {env : Env} {s : Shared} {x : Sem Value} {Q : Flow → Shared → Prop} (hbase : bm.contains (.type "BaseException") = true) (hh : A.handled = none)
    (go : wpAny M A x (fun v s1 => ∃ e d2 a0, v = .ref e ∧ s1.heap.get? C = some (excClassObj nm q C N bs bm hdct sn sub ab col dd k0 k1 k2 k3 k5 "ValueError.__new__") ∧ s1.heap.get? e = some (excOb C d2 a0) ∧ E (.ref e) s1) E s) :
    wpAny M A (raiseStmt env (some x) none) Q E s := by
  have hcB : (Value.ref C :: bm).contains (.type "BaseException") = true := by rw [List.contains_cons, hbase, Bool.or_true]
  unfold raiseStmt
  refine wpAny_bind (wpAny_mono go (fun v s1 h1 => ?_) fun _ _ z => z)
  obtain ⟨e, d2, a0, rfl, cO, eO, hE⟩ := h1
  obtain ⟨hp, g, d, tk, os⟩ := s1
  repeat (first | with_reducible refine wpAny_loadPart_at eO ?_ | with_reducible refine wpAny_loadPart_at cO ?_ | (with_reducible refine wpAny_isSubtype_exc cO ?_; rw [hcB]) | wp_step)
  exact wpAny_raiseNew_none hh hE
end
end L2
namespace L2
open PySem PySem.Spec PyProof.Rows
def OwnI (K : PySem.W.Frag) (C f : Addr) : Prop := (match K.lookup C with
  | some ⟨.type "type", _, .cls c, z⟩ => (match c.mro, z.toList with
    | .ref D :: r, [_, _, _, _, some (.builtin m), _] => D == C && m == "ValueError.__new__" && !c.hasDel && PySem.W.tailIn K vBM r && PySem.W.nsOkIn K c.ns && PySem.W.nsIn K c.ns "__init__" == some (some (.ref f))
    | _, _ => false)
  | _ => false) = true
theorem ns_some {K : PySem.W.Frag} {h : Heap} {N : Addr} {m : Str → Option Value} {n : Str} {v : Value} (X : K.In h) (G : h.Ns N m) (e : PySem.W.nsIn K N n = some (some v)) : m n = some v := by
  obtain ⟨o, es, ep, ho, hd, _, hf⟩ := G
  unfold PySem.W.nsIn at e
  split at e
  · rename_i q
    have z := X _ _ q
    rw [ho] at z
    cases z
    cases hd
    split at e
    · rename_i he
      rw [← hf]
      unfold nsFind findBy
      rw [← Array.find?_toList, he]
      injection e
    · split at e <;> cases e
  · cases e
theorem OwnI.obj {K : PySem.W.Frag} {C f : Addr} {h : Heap} (q : OwnI K C f) (X : K.In h) : ∃ bm N nm qn bs hdct sn sub ab col dd k0 k1 k2 k3 k5 mN, h.get? C = some (excClassObj nm qn C N bs bm hdct sn sub ab col dd k0 k1 k2 k3 k5 "ValueError.__new__") ∧ h.Ns N mN ∧ mN "__init__" = some (.ref f) ∧ OwnTail h vBM bm := by
  unfold OwnI at q
  split at q
  case h_2 => cases q
  case h_1 ob dd cd sl there =>
    split at q
    case h_2 => cases q
    case h_1 D bm k0 k1 k2 k3 mk k5 hm hs =>
      obtain ⟨q, init⟩ := Bool.and_eq_true_iff.mp q
      obtain ⟨q, nsOk⟩ := Bool.and_eq_true_iff.mp q
      obtain ⟨q, tl⟩ := Bool.and_eq_true_iff.mp q
      obtain ⟨q, nodel⟩ := Bool.and_eq_true_iff.mp q
      obtain ⟨isC, isMk⟩ := Bool.and_eq_true_iff.mp q
      cases beq_iff_eq.mp isC
      cases beq_iff_eq.mp isMk
      obtain ⟨l⟩ := sl
      cases hs
      cases cd
      cases hm
      cases Bool.not_eq_true' _ ▸ nodel
      have G : h.Ns _ _ := .of_isNs (PySem.W.isNs_of_in X nsOk)
      exact ⟨bm, _, _, _, _, _, _, _, _, _, dd, k0, k1, k2, k3, k5, _, X _ _ there, G, ns_some X G (beq_iff_eq.mp init), PySem.W.tail_of_in X tl⟩
def overVE : List Value → Bool
  | .ref _ :: r => overVE r
  | [.type a, .type b, .type c, .type d] => a == "ValueError" && b == "Exception" && c == "BaseException" && d == "object"
  | _ => false
theorem overVE_is : ∀ {l : List Value}, overVE l = true → (∀ self, refuseLoop self "__setattr__" l = pure ()) ∧ l.contains (.type "object") = true ∧ l.isEmpty = false
  | .ref c :: r, e => by
    obtain ⟨h1, h2, _⟩ := overVE_is (l := r) (by rw [overVE] at e; exact e)
    exact ⟨fun self => (refuseLoop_ref self _ c r).trans (h1 self), by rw [List.contains_cons, h2, Bool.or_true], rfl⟩
  | [.type a, .type b, .type c, .type d], e => by
    simp only [overVE, Bool.and_eq_true, beq_iff_eq] at e
    obtain ⟨⟨⟨rfl, rfl⟩, rfl⟩, rfl⟩ := e
    exact ⟨fun self => PySem.F.store_ValueError.passes self, by decide, rfl⟩
theorem osa_exc {prog : Program} {w : World} {A : Around} {s : Shared} {K : PySem.W.Frag} {x C : Addr} {R : Result → Shared → Prop} {ox : Obj} {od : Option Obj} {name : Str} {tk : Tok} {v : Value} (X : K.In s.heap) (I : PySem.W.InstAt s.heap x ox C od) (hp : (PySem.W.clsIn K C).any (fun cd => overVE cd.mro) = true) (ht : PySem.W.takerIn K C name = some none)
    (h : ∀ b, wpAny (model prog w) A.in1 (Builtin.ObjectAttr.storeInOwnDict (.ref x) (.ref C) (.str name tk) name v b) (fun fin s' => match fin with | .done f => R (.ok f) s' | .again c' => c'.quiet = true ∧ codeAny (model prog w) A c' R s') (fun e s' => R (.error e) s') s) :
    codeAny (model prog w) A (.call (.builtin "object.__setattr__") ⟨[.ref x, .str name tk, v], []⟩) R s := by
  obtain ⟨cd, hc, ho⟩ := PySem.W.any_some hp
  obtain ⟨pass, has, ne⟩ := overVE_is ho
  have sub : PySem.W.Looks (model prog w) s.heap (isInstance (.ref x) (.type "object")) true := I.type.andThen (PySem.W.looks_mroIn X (by unfold PySem.W.mroIn; rw [hc, Option.bind_some, if_neg (by rw [ne]; decide), has]))
  obtain ⟨attr, ha, hr⟩ := Option.bind_eq_some_iff.mp ht
  have L3 : PySem.W.Looks (model prog w) s.heap (Builtin.ObjectAttr.storeTaker? attr) none := by
    cases attr with
    | none => exact .now
    | some a =>
      obtain ⟨b, hb, e⟩ := Option.map_eq_some_iff.mp hr
      cases b
      · exact (PySem.W.looks_takesIn X hb).andThen .now
      · cases e
  refine codeAny_call_builtin PySem.F.store_object.slot.plain PySem.F.store_object.entry (@PySem.W.check_slot (model prog w) _ _ s "object.__setattr__" "object" "__setattr__" (.ref x) [.str name tk, v] [] _ PySem.F.store_object.kind PySem.F.store_object.split sub (PySem.F.store_object.args (.ref x) (.str name tk) v) ?_)
  rw [PySem.W.osa_eq, refuse_eq]
  refine wpAny_bind (wpAny_bind (I.type.here (wpAny_bind (((PySem.W.looks_clsIn X hc).andThen .now : PySem.W.Looks (model prog w) s.heap (mroOf (.ref C)) cd.mro).here ?_))))
  rw [pass]
  exact wpAny_pure (wpAny_bind (I.type.here (wpAny_bind ((PySem.W.looks_findIn X ha).here (wpAny_bind (L3.here (h _)))))))
structure XCls (K : PySem.W.Frag) (C : Addr) : Prop where
  sa : PySem.W.findIn K (.ref C) "__setattr__" = some (some (.builtin "object.__setattr__"))
  po : (PySem.W.clsIn K C).any (fun cd => overVE cd.mro) = true
  hd : PySem.W.hasDictIn K C = true
structure BaseI (K : PySem.W.Frag) (R : Addr) : Prop where
  ga : PySem.W.specialIn K (.ref R) "__getattribute__" = some (some (.builtin "type.__getattribute__"))
  rd : PySem.W.readsIn K R (.type "type") = true
  fc : PySem.W.findCls K (.ref R) (.type "type") "__init__" = some (.val (.builtin "ValueError.__init__"))
section
variable {prog : Program} {w : World} {A : Around} {E : Value → Shared → Prop} {s : Shared} {K : PySem.W.Frag} {x C dx : Addr} {a0 : Value} {name : Str} {v : Value} {mA : Str → Option Value}
theorem set_exc1 {Q : Unit → Shared → Prop} (X : K.In s.heap) (eO : s.heap.get? x = some (excOb C none a0)) (c : XCls K C) (ht : PySem.W.takerIn K C name = some none)
    (go : ∀ h' d, s.heap.objs.size ≤ d → h'.get? x = some (excOb C (some d) a0) → h'.Ns1 d (fun y => if y = name then some v else none) → (∀ b o, b ≠ x → s.heap.get? b = some o → h'.get? b = some o) → Q () { s with heap := h', toks := s.toks + 2 }) :
    wpAny (model prog w) A (setAttr (.ref x) name v) Q E s := by
  have J : PySem.W.InstAt s.heap x (excOb C none a0) C none := ⟨eO, rfl, rfl, trivial⟩
  refine PySem.W.set_plain X J c.sa (osa_exc (s := { s with toks := s.toks + 1 }) X J c.po ht fun b => ?_)
  obtain ⟨cd, hc, hd'⟩ := PySem.W.any_some c.hd
  refine wpAny_bind (wpAny_pure (wpAny_bind (wpAny_bind (wpAny_loadPart eO (wpAny_bind (PySem.W.Looks.here (s := { s with toks := s.toks + 1 }) (PySem.W.looks_clsIn X hc) ?_))))))
  rw [hd']
  have e1 : (s.heap.push { cls := .type "dict", data := .dict #[] }).get? x = some (excOb C none a0) := Heap.get?_push_of_some _ eO
  have hxs : x ≠ s.heap.objs.size := Nat.ne_of_lt (Heap.lt_size eO)
  refine wpAny_bind (wpAny_alloc' (wpAny_bind (wpAny_update' e1 (wpAny_pure (wpAny_bind ?_)))))
  have hgd : ((s.heap.push { cls := .type "dict", data := .dict #[] }).update x fun o => { o with dict := some s.heap.objs.size }).get? s.heap.objs.size = some { cls := .type "dict", data := .dict #[] } :=
    (Heap.get?_update_ne _ _ _ _ hxs.symm).trans (Heap.get?_push_at rfl rfl)
  have hnd : ((s.heap.push { cls := .type "dict", data := .dict #[] }).update x fun o => { o with dict := some s.heap.objs.size }).Ns s.heap.objs.size (fun _ => none) := ⟨_, #[], _, hgd, rfl, fun e he => absurd he (by simp), fun _ => rfl⟩
  refine wpAny_pure (wpAny_bind (wpAny_nsSet1 (Heap.Ns1.of_empty hnd) fun h' hn' hs => ?_))
  have few := hn'.count (Within.cons name v Within.nil)
  obtain ⟨o9, _, _, q1, q2, q3⟩ := few
  have line9 : o9.data.pastItsLine = none := q2 ▸ pastItsLine_dict (Nat.le_trans q3 (by rw [sizeLine_eq]; show 1 ≤ _; omega))
  refine wpAny_bind (wpAny_lookBehind q1 line9 ?_)
  refine wpAny_pure (go _ _ (Nat.le_refl _) ?_ hn' fun b o hb z => ?_)
  · exact (hs.2 x hxs).trans (Heap.get?_update_self _ e1 rfl)
  · exact (hs.2 b (Nat.ne_of_lt (Heap.lt_size z))).trans ((Heap.get?_update_ne _ _ _ _ hb).trans (Heap.get?_push_of_some _ z))
theorem set_exc2 {ns : List Str} {Q : Unit → Shared → Prop} (X : K.In s.heap) (eO : s.heap.get? x = some (excOb C (some dx) a0)) (nD : s.heap.Ns1 dx mA) (c : XCls K C) (ht : PySem.W.takerIn K C name = some none) (hw : PySem.Within mA ns) (hsz : ns.length ≤ sizeLine)
    (go : ∀ h', h'.Ns1 dx (fun y => if y = name then some v else mA y) → Heap.SameBut dx s.heap h' → Q () { s with heap := h', toks := s.toks + 2 }) :
    wpAny (model prog w) A (setAttr (.ref x) name v) Q E s := by
  obtain ⟨od, ho, hl⟩ := lookIn_ns nD
  have J : PySem.W.InstAt s.heap x (excOb C (some dx) a0) C (some od) := ⟨eO, rfl, rfl, ho⟩
  refine PySem.W.set_plain X J c.sa (osa_exc (s := { s with toks := s.toks + 1 }) X J c.po ht fun b => ?_)
  obtain ⟨cd, hc, hd'⟩ := PySem.W.any_some c.hd
  refine wpAny_bind (wpAny_pure (wpAny_bind (wpAny_bind (wpAny_loadPart eO (wpAny_bind (PySem.W.Looks.here (s := { s with toks := s.toks + 1 }) (PySem.W.looks_clsIn X hc) ?_))))))
  rw [hd']
  refine wpAny_pure (a := some dx) (wpAny_bind (wpAny_pure (wpAny_bind ?_)))
  refine wpAny_nsSet1 (s := { s with toks := s.toks + 1 }) nD fun h' hn2 hs2 => ?_
  have few := hn2.count (PySem.Within.cons name v hw)
  obtain ⟨o9, _, _, q1, q2, q3⟩ := few
  refine wpAny_bind (wpAny_lookBehind q1 (q2 ▸ pastItsLine_dict (Nat.le_trans q3 (by rw [List.length_cons]; omega))) ?_)
  exact wpAny_pure (go _ hn2 hs2)
end
def excD (e C : Addr) (dd : Option Addr) : HO := .ext fun h => ∃ t0 : Addr, h.get? e = some (excOb C dd (.ref t0))
def dctD (dx : Addr) (fs : List (Str × V)) : HO := .ext fun h => ∃ mA, h.Ns1 dx mA ∧ (∀ f, RelO (fs.lookup f) (mA f)) ∧ PySem.Within mA (fs.map (·.1))
def del (H : Hp) (e : Addr) : Hp := fun b => if b = e then none else H b
theorem del_ne {H : Hp} {e b : Addr} (h : b ≠ e) : del H e b = H b := if_neg h
theorem del_self {H : Hp} {e : Addr} : del H e e = none := if_pos rfl
section
variable {X : Cx} {pins : List (Addr × Obj)} {σ : St} {H : Hp} {s : Shared} {a C dx : Addr} {fs : List (Str × V)} {f : Str} {y : V} {u : Value} {A : Around} {E : Value → Shared → Prop}
theorem setx1 {Q : Unit → Shared → Prop} (hx : X.ex = []) (I : Inv X pins σ H s) (e : H a = some (excD a C none)) (c : XCls X.K C) (n : NoAttr X.K C f) (ry : RelV y u)
    (go : ∀ d s', H d = none → d ≠ a → Inv X pins σ (upd (upd H a (excD a C (some d))) d (dctD d [(f, y)])) s' → Q () s') : wpAny (model X.prog X.w) A (setAttr (.ref a) f u) Q E s := by
  obtain ⟨⟨a0, eO⟩, _, _⟩ := I.hok a _ e
  refine set_exc1 I.kIn eO c n.taker fun h' d hd hx' ns keep => ?_
  have dn : s.heap.get? d = none := Heap.get?_none_of_le hd
  have hn : H d = none := I.hok.fresh hd
  have da : d ≠ a := (ne_of_none e hn).symm
  have I1 := I.write (x := a) (e := a) (o := excD a C (some d)) (h' := h') (t' := s.toks + 2) (by rw [e]; exact True.intro) (.inl rfl) keep ⟨_, hx'⟩ ⟨⟨a0, hx'⟩, ⟨_, hx'⟩, fun h1 h2 ⟨z, q⟩ k => ⟨z, k _ q⟩⟩
  have old : ∀ b o, s.heap.get? b = some o → b ≠ d := fun b o q z => by rw [z, dn] at q; cases q
  refine go d _ hn da (I1.track (e := d) (by rw [upd_ne da]; exact hn) (dead0 I hx dn) ?_ (fun x c q => ?_) (fun p hp => ?_) ⟨_, ns, fun g => ?_, fun g hg => ?_⟩ ?_ ?_)
  · obtain ⟨m, ⟨o, es, ep, z, _⟩, _⟩ := I.loc
    exact old _ o z
  · obtain ⟨v, o, r, _⟩ := I.cell x c q
    exact old c o r
  · exact old p.1 p.2 (I.pin p hp).1
  · show RelO (List.lookup g [(f, y)]) (if g = f then some u else none)
    by_cases q : g = f
    · have hb : (g == f) = true := beq_iff_eq.mpr q
      rw [if_pos q]
      simp only [List.lookup, hb]
      exact ry
    · have hb : (g == f) = false := beq_eq_false_iff_ne.mpr q
      rw [if_neg q]
      simp only [List.lookup, hb]
      exact True.intro
  · by_cases q : g = f
    · rw [q]; exact List.mem_singleton.mpr rfl
    · exact absurd (show (if g = f then some u else none) = none by rw [if_neg q]) hg
  · obtain ⟨o, _, _, z, _⟩ := ns
    exact ⟨o, z⟩
  · exact fun h1 h2 ⟨mA, z, r⟩ k => ⟨mA, z.at k, r⟩
theorem setx2 {Q : Unit → Shared → Prop} (I : Inv X pins σ H s) (e : H a = some (excD a C (some dx))) (ed : H dx = some (dctD dx fs)) (c : XCls X.K C) (n : NoAttr X.K C f) (hl : fs.length < 1000) (ry : RelV y u)
    (go : ∀ s', Inv X pins σ (upd H dx (dctD dx (putF f y fs))) s' → Q () s') : wpAny (model X.prog X.w) A (setAttr (.ref a) f u) Q E s := by
  obtain ⟨⟨a0, eO⟩, _, _⟩ := I.hok a _ e
  obtain ⟨⟨mA, nD, r, wi⟩, _, _⟩ := I.hok dx _ ed
  have hz : (fs.map (·.1)).length ≤ sizeLine := by rw [List.length_map, sizeLine_eq]; omega
  refine set_exc2 I.kIn eO nD c n.taker wi hz fun h' ns sb => go _ ?_
  have hd : ∃ o, h'.get? dx = some o := let ⟨o, _, _, z, _⟩ := ns; ⟨o, z⟩
  refine I.write (x := dx) (e := dx) (by rw [ed]; exact True.intro) (.inl rfl) (fun b q hb z => (sb.2 b hb).trans z) hd ⟨⟨_, ns, fun g => ?_, fun g hg => ?_⟩, hd, fun h1 h2 ⟨mA, z, r⟩ k => ⟨mA, z.at k, r⟩⟩
  · show RelO ((putF f y fs).lookup g) (if g = f then some u else mA g)
    rw [lookup_putF]
    by_cases q : g = f
    · rw [if_pos q, if_pos q]; exact ry
    · rw [if_neg q, if_neg q]; exact r g
  · by_cases q : g = f
    · rw [q]; exact (keys_putF f y fs).1
    · refine (keys_putF f y fs).2 g (wi g fun z => hg ?_)
      show (if g = f then some u else mA g) = none
      rw [if_neg q]; exact z
end
def sFldX (K : PySem.W.Frag) (ta tv : TE) (f : Str) : TS := fun D σ H => tv σ H fun y H1 => ta σ H1 fun x H2 => ∃ a C, x = .ref a ∧ XCls K C ∧ NoAttr K C f ∧
  ((H2 a = some (excD a C none) ∧ ∀ d, H2 d = none → d ≠ a → D.nx σ (upd (upd H2 a (excD a C (some d))) d (dctD d [(f, y)]))) ∨
   ∃ dx fs, H2 a = some (excD a C (some dx)) ∧ H2 dx = some (dctD dx fs) ∧ fs.length < 1000 ∧ D.nx σ (upd H2 dx (dctD dx (putF f y fs))))
theorem ps_fldX {X : Cx} {o value : Expr} {f : Str} {pos pos' : Pos} {ta tv : TE} (hx : X.ex = []) (ha : PE X o ta) (hv : PE X value tv) (hs : swapsWith value (some (.Attribute o f pos')) pos.line X.env = pure false) : PS X (.Assign [.Attribute o f pos'] value pos) (sFldX X.K ta tv f) := by
  intro pins s σ H D I h
  refine plainObj_wpAny_Assign_Attribute (thn (hv pins s σ H _ I h) fun u s1 ⟨y, H1, I1, ry, q⟩ => thn (ha pins s1 σ H1 _ I1 q) fun ov s2 ⟨x, H2, I2, rx, a, C, ex, c, n, r⟩ => ?_) hs
  subst ex
  obtain rfl : ov = Value.ref a := rx
  rcases r with ⟨e, go⟩ | ⟨dx, fs, e, ed, l, go⟩
  · exact setx1 hx I2 e c n ry fun d s3 hd da I3 => ⟨σ, _, I3, go d hd da⟩
  · exact setx2 I2 e ed c n l ry fun s3 I3 => ⟨σ, _, I3, go⟩
def tBaseI (K : PySem.W.Frag) (t : TA) : TE := fun σ H Q => t σ H fun vs H1 => ∃ e C f u, vs = [.ref e, u] ∧ H1 e = some (excD e C none) ∧ OwnI K C f ∧ Q .non H1
theorem pe_baseI {X : Cx} {x : Str} {R : Addr} {np apos pos : Pos} {e : Expr} {es : List Expr} {t : TA} {pl : Sem Bool} (B : BaseI X.K R) (hm : X.mg x = some (.ref R)) (ha : PA X (e :: es) t) (hg : Gl X x := by rfl) (hd : (x == ("__debug__" : Str)) = false := by decide)
    (he : starEach (e :: es) X.env = (false, eval e X.env) :: starEach es X.env := by rfl) (hpl : (backTo pos (starEach es X.env)).any (·.1) = false := by rfl)
    (ht : eval (.Call (.Attribute (.Name x np) "__init__" apos) (e :: es) [] pos) X.env = (do
      let ov ← eval (.Name x np) X.env
      standAt apos.atName
      let (f, first) ← holding [ov] (getMethod ov "__init__" pl)
      callWith pos f first (backTo pos (starEach (e :: es) X.env)) (backToKw pos (keywordEach [] X.env))) := by rfl) :
    PE X (.Call (.Attribute (.Name x np) "__init__" apos) (e :: es) [] pos) (tBaseI X.K t) := by
  intro pins s σ H Q I h
  refine PySem.W.methodCall_KW (pl := pl) (ld_glob I hg hm ?_ hd) ht
  refine PySem.W.method_cls I.kIn B.ga (PySem.W.cls_value I.kIn B.rd B.fc rfl ?_)
  have hA := ha pos pins { s with toks := s.toks + 1 } σ H _ (I.tok _) h
  rw [he] at hA ⊢
  have pl9 : (backTo pos ((false, eval e X.env) :: starEach es X.env)).any (·.1) = false := by
    show (false || (backTo pos (starEach es X.env)).any (·.1)) = false
    rw [hpl]
    rfl
  refine Calls.callWith_builtin pl9 (Calls.evalArgs_plain (thn hA fun us s2 ⟨vs, H2, I2, r, e2, C, f, u, ev, eH, oC, q⟩ => ?_))
  subst ev
  obtain ⟨u1, u2, rfl, rx, ru⟩ := vals2 r
  obtain rfl : u1 = Value.ref e2 := rx
  obtain ⟨⟨a0, eO⟩, _, _⟩ := I2.hok e2 _ eH
  obtain ⟨bm, N, nm, qn, bs, hdct, sn, sub, ab, col, dd, k0, k1, k2, k3, k5, mN, cO, nO, iO, tl⟩ := oC.obj I2.kIn
  obtain ⟨hh, g, d, tk, os⟩ := s2
  refine exc_init0 tl cO eO fun h' keep eO' => ⟨.non, H2, ?_, rfl, q⟩
  have I3 := I2.write (x := e2) (e := e2) (o := excD e2 C none) (h' := h') (t' := tk) (by rw [eH]; exact True.intro) (.inl rfl) keep ⟨_, eO'⟩ ⟨⟨_, eO'⟩, ⟨_, eO'⟩, fun h1 h2 ⟨z, q⟩ k => ⟨z, k _ q⟩⟩
  have eu : upd H2 e2 (excD e2 C none) = H2 := by
    funext b
    unfold upd
    split
    · rename_i z; rw [z, eH]
    · rfl
  rw [eu] at I3
  exact I3
end L2
namespace L2
open PySem PySem.Spec PyProof.Rows
section
variable {X : Cx} {CX : CXT} {k : Nat} {f C : Addr} {fd : FuncData} {ps : List Str} {sp : Sp} {E E' : XK} {x : Str} {np cpos pos : Pos} {e0 : Expr} {es : List Expr} {t : TA}
theorem run_exc {pins : List (Addr × Obj)} {σ : St} {H : Hp} {s : Shared} {Q : VK} {us : List Value} {vs : List V} (hx : X.ex = []) (M : OwnI X.K C f) (fn : PySem.W.isFn X.K (.ref f) = true) (F : FnOk X.prog X.w X.K X.mg X.base CX k f fd ps sp) (hr : Room (k + 1) X.A) (hb : Binds X.K fd ps [])
    (hp : Passes CX X E') (I : Inv X pins σ H s) (r : Vals vs us) (hu : us.length ≤ sizeLine)
    (h : ∀ e, H e = none → sp (.ref e :: vs) (upd H e (excD e C none)) (fun v H2 => v = .non ∧ Q (.ref e) H2) E') :
    wpAny (model X.prog X.w) X.A (call (.ref C) us) (fun u s' => ∃ e H', u = .ref e ∧ X.s₀.heap.get? e = none ∧ Inv X pins σ H' s' ∧ Q (.ref e) H') X.xe s := by
  obtain ⟨bm, N, nm, qn, bs, hdct, sn, sub, ab, col, dd, k0, k1, k2, k3, k5, mN, cO, nO, iO, tl⟩ := M.obj I.kIn
  obtain ⟨oI, fO, fc⟩ : ∃ oI, s.heap.get? f = some oI ∧ oI.cls = .type "function" := by
    obtain ⟨o, q, e⟩ := Option.map_eq_some_iff.mp (show Option.map (fun x : Obj => x.cls) (List.lookup f X.K) = some (.type "function") from beq_iff_eq.mp fn)
    exact ⟨o, I.kIn _ _ q, e⟩
  obtain ⟨hh, g, d, tk, os⟩ := s
  refine exc_call tl cO nO iO fO fc hu fun h' e es mk => ?_
  obtain ⟨t0, eO, tn, tO⟩ := mk.there
  have I2 : Inv X pins σ (upd H e (excD e C none)) ⟨h', g, d, tk, os⟩ := I.laid (a := e) (o := excD e C none) (h' := h') (t' := tk) mk.keeps es ⟨⟨_, eO⟩, ⟨_, eO⟩, fun h1 h2 ⟨z, q⟩ k => ⟨z, k _ q⟩⟩
  have hq := h e (I.hok.fresh es)
  have r2 : Vals (V.ref e :: vs) (Value.ref e :: us) := .cons rfl r
  have hl : (Value.ref e :: us).length = ps.length := by
    have z := r2.length
    rw [F.len _ _ _ _ hq] at z
    exact z.symm
  have hb2 := hb ⟨h', g, d, tk, os⟩ (Value.ref e :: us) I2.kIn
  rw [List.append_nil] at hb2
  refine wpAny_call (codeAny_mono (F.run _ X.stack _ _ ⟨Value.ref e :: us, []⟩ (Value.ref e :: us) _ _ E' (hr.make C us []) (I2.env0.make C us []) (hb2 hl) r2 hq) fun r s' hq' => ?_)
  cases r with
  | error ev => exact hp pins σ _ _ ev s' I2 hq'
  | ok fl =>
    cases fl with
    | ret u =>
      obtain ⟨v, H', I3, rv, ev, q3⟩ := I2.after hq'
      subst ev
      exact ⟨rv, e, H', rfl, dead0 I hx mk.new, I3, q3⟩
    | next => exact False.elim hq'
    | brk => exact False.elim hq'
    | cont => exact False.elim hq'
def QX (C : Addr) (E : XK) : VK := fun v H => match v with
  | .ref e => ∃ d, H e = some (excD e C d) ∧ E (.ref C) d (del H e)
  | _ => False
def ThrowsD (X : Cx) (E : XK) : Prop := ∀ (pins : List (Addr × Obj)) (σ : St) (H : Hp) (s : Shared) (e C : Addr) (d : Option Addr), Inv X pins σ H s → H e = some (excD e C d) → X.s₀.heap.get? e = none → E (.ref C) d (del H e) → X.xe (.ref e) s
theorem leave_D (hx : X.ex = []) (hst : X.stack = X.env :: X.outer) (hfr : X.env.frame = some X.env.locals) {pins : List (Addr × Obj)} {σ : St} {H : Hp} {s : Shared} {e C : Addr} {d : Option Addr} (I : Inv X pins σ H s) (eH : H e = some (excD e C d)) (d0 : X.s₀.heap.get? e = none) (q : E (.ref C) d (del H e)) :
    wpAny (model X.prog X.w) X.A (leaving X.env (.ref e)) (fun _ s'' => CXE X.prog X.w X.outer X.H₀ X.s₀ E (.ref e) s'') (fun e' s'' => CXE X.prog X.w X.outer X.H₀ X.s₀ E e' s'') s := by
  have stk : s.heap.FunFrames X.base (X.env :: X.outer) := hst ▸ I.stack
  obtain ⟨⟨a0, eO⟩, _, _⟩ := I.hok e _ eH
  have sub : ∀ b ∈ frs (X.env :: X.outer), b ∈ e :: frs X.stack := fun b hb => List.mem_cons_of_mem _ (hst ▸ hb)
  have bk : ∀ b u, H b = some u → b ≠ e → del H e b = some u := fun b u z n => (del_ne n).trans z
  refine gent_use (gent_leaving _ _) (wpAny_leaving_firstW (base := PySem.W.hideAll s.heap (e :: frs X.stack)) (a0 := .ref a0) (by rw [← hst]; exact I.ok.frames) (frames_hid stk sub) hfr eO (fun b o z => PySem.W.of_hideAll _ z) (PySem.W.hideAll_none _ List.mem_cons_self) rfl rfl rfl fun h' hL dk => ?_)
  obtain ⟨k1, ⟨_, _, k2⟩, k3, up⟩ := hL
  have fr : ∀ b ∈ frs X.stack, ∃ o, s.heap.get? b = some o ∧ ∀ vs, o.data ≠ .fields vs := frame_there I.stack
  have kept : ∀ b o, s.heap.get? b = some o → b ≠ e → b ∉ frs X.stack → h'.get? b = some o := fun b o z n hb => k1 b o (PySem.W.hideAll_get _ z fun hm => (List.mem_cons.mp hm).elim n hb)
  obtain ⟨T, nT, fT⟩ := fly_of k3
  have eN : ∀ b, H b = none → b ≠ e := fun b z y => by rw [y, eH] at z; cases z
  have un2 : Un (frs X.stack) [] H (del H e) s.heap h' := by
    refine ⟨fun b o z n hb _ => kept b o z (eN b n) hb, fun b o z n hb _ => ?_, fun b o z n _ => by rw [del_ne (eN b n)]; exact n, fun b o z _ => ?_, fun b xs z => bk b _ z (ne_of z eH (by intro y; cases y)), fun b o u z => bk b _ z (ne_of z eH (by intro y; cases y)), fun b ps z => ⟨#[], ?_⟩⟩
    · obtain ⟨o', ho', hd⟩ := fr b hb
      rw [z] at ho'
      cases ho'
      exact up b _ z hd
    · by_cases hb : b ∈ frs X.stack
      · obtain ⟨o', ho', hd⟩ := fr b hb
        rw [z] at ho'
        cases ho'
        obtain ⟨sl, z2⟩ := up b _ z hd
        exact ⟨_, z2⟩
      · by_cases he : b = e
        · subst he
          obtain ⟨oe, _, _, _, z2, _⟩ := fT
          exact ⟨oe, z2⟩
        · exact ⟨o, kept b o z he hb⟩
    · rw [Array.append_empty]
      exact bk b _ z (ne_of z eH (by intro y; cases y))
  have hok2 : HOk X.prog X.w (del H e) h' := fun b u z => by
    have hb : b ≠ e := fun y => by rw [y, del_self] at z; cases z
    rw [del_ne hb] at z
    refine (I.hok b u z).stay (fun c v hc y => ?_) (fun c y => bk c _ y (ne_of y eH (by intro z; cases z))) fun c xs y => bk c _ y (ne_of y eH (by intro z; cases z))
    have hH : ∃ w', H c = some w' ∧ c ≠ e := by
      rcases hc with rfl | hc
      · exact ⟨u, z, hb⟩
      · exact ⟨_, hc, ne_of hc eH (by intro z; cases z)⟩
    obtain ⟨w', hw, hce⟩ := hH
    exact kept c v y hce fun hm => by rw [I.stkFree c hm] at hw; cases hw
  have I2 : Inv X pins σ (del H e) { s with heap := h', gens := s.gens, drawn := s.drawn, toks := s.toks } := I.call (g' := s.gens) (d' := s.drawn) (t' := s.toks) (ch := []) un2 hok2 I.bare (fun _ z => nomatch z)
  have dT : s.heap.get? T = none := by
    cases z : s.heap.get? T with
    | none => rfl
    | some o =>
      have h1 := fly_noframe fT I2.stack
      have h2 : T ≠ e := by obtain ⟨_, _, _, _, _, _, _, _, y, _⟩ := fT; exact y
      rw [PySem.W.hideAll_get _ z fun hm => (List.mem_cons.mp hm).elim h2 h1] at nT
      cases nT
  have ub := I2.base
  rw [hx] at ub
  have TN := off_dead I.hok dT
  exact ⟨e, T, .ref C, .ref a0, d, del H e, rfl, I2.os, I.bare, ub, hok2, d0, dead0 I hx dT, del_self, by rw [del_ne (eN T TN)]; exact TN, fT.up dk eO (fun _ z => z), q⟩
def tRaiseI (s0 : Heap) (C : Addr) (sp : Sp) (E E' : XK) (t : TA) : TS := fun _ σ H => t σ H fun vs H1 => vs.length ≤ sizeLine ∧ ∀ e, H1 e = none → sp (.ref e :: vs) (upd H1 e (excD e C none)) (fun v H2 => v = .non ∧ ∃ d, H2 e = some (excD e C d) ∧ E (.ref C) d (del H2 e)) E'
theorem ps_raiseI (hx : X.ex = []) (hc : X.calm = true) (hT : ThrowsD X E) (M : OwnI X.K C f) (fn : PySem.W.isFn X.K (.ref f) = true) (F : FnOk X.prog X.w X.K X.mg X.base CX k f fd ps sp) (hr : Room (k + 1) X.A) (hb : Binds X.K fd ps []) (hp : Passes CX X E')
    (hm : X.mg x = some (.ref C)) (ha : PA X (e0 :: es) t) (hg : Gl X x := by rfl)
    (hd : (x == ("__debug__" : Str)) = false := by decide) (he : starEach (e0 :: es) X.env = (false, eval e0 X.env) :: starEach es X.env := by rfl) (hpl : (backTo cpos (starEach es X.env)).any (·.1) = false := by rfl) :
    PS X (.Raise (some (.Call (.Name x np) (e0 :: es) [] cpos)) none pos) (tRaiseI X.base C sp E E' t) := by
  intro pins s σ H D I h
  obtain ⟨bm, N, nm, qn, bs, hdct, sn, sub, ab, col, dd, k0, k1, k2, k3, k5, mN, cO, nO, iO, tl⟩ := M.obj I.ok.mod.kin
  rw [arm_exec_Raise]
  refine wpAny_bind (wpAny_standAt (raise_made (C := C) (nm := nm) (q := qn) (N := N) (bs := bs) (bm := bm) (hdct := hdct) (sn := sn) (sub := sub) (ab := ab) (col := col) (dd := dd) (k0 := k0) (k1 := k1) (k2 := k2) (k3 := k3) (k5 := k5) (tl.hasType PySem.F.excBase_ValueError.hasBase) (I.ok.hd hc)
    (wpAny_bind (wpAny_mono (wpAny_Call_ofName (ld_glob I hg hm ?_ hd)) (fun v s3 h3 => wpAny_bind (wpAny_standAt (wpAny_pure h3))) fun _ _ z => z))))
  have hA := ha cpos pins s σ H _ I h
  have pl0 : (backTo cpos (starEach (e0 :: es) X.env)).any (·.1) = false := by rw [he]; show (false || (backTo cpos (starEach es X.env)).any (·.1)) = false; rw [hpl]; rfl
  have cK : ∀ {σ' : St} {H' : Hp} {s' : Shared}, Inv X pins σ' H' s' → s'.heap.get? C = some (excClassObj nm qn C N bs bm hdct sn sub ab col dd k0 k1 k2 k3 k5 "ValueError.__new__") := fun I' => I'.bk _ _ cO
  unfold callWith
  refine wpAny_bind (wpAny_holding (wpAny_mono (Q := fun (a : Args) s2 => a.kw = [] ∧ ∃ vs H2, Inv X pins σ H2 s2 ∧ Vals vs a.pos ∧ vs.length ≤ sizeLine ∧ ∀ e, H2 e = none → sp (.ref e :: vs) (upd H2 e (excD e C none)) (fun v H3 => v = .non ∧ ∃ d, H3 e = some (excD e C d) ∧ E (.ref C) d (del H3 e)) E') ?_ (fun a s2 h2 => wpAny_bind (wpAny_standAt ?_)) fun _ _ z => z))
  · rw [he] at hA ⊢
    exact Calls.evalArgs_plain (thn hA fun us s2 ⟨vs, H2, I2, r2, hl, q⟩ => ⟨rfl, vs, H2, I2, r2, hl, q⟩)
  obtain ⟨apos, akw⟩ := a
  obtain ⟨hkw, vs, H2, I2, r2, hl, q⟩ := h2
  obtain rfl : akw = [] := hkw
  obtain ⟨hp2, g2, d2, tk2, os2⟩ := s2
  simp only [pl0]
  refine wpAny_bind (wpAny_keeperOf_exc (cK I2) ?_)
  refine wpAny_bind (wpAny_mono (run_exc (Q := QX C E) hx M fn F hr hb hp I2 r2 (by show apos.length ≤ sizeLine; have z : vs.length = apos.length := r2.length; rw [← z]; exact hl) fun e hn => q e hn) (fun v s3 hv => wpAny_bind (wpAny_holding (wpAny_point (wpAny_pure ?_)))) fun _ _ z => z)
  obtain ⟨e, H3, rfl, d0, I3, d, h1, h2⟩ := hv
  obtain ⟨⟨t0, eO⟩, _, _⟩ := I3.hok e _ h1
  exact ⟨e, d, .ref t0, rfl, cK I3, eO, hT pins σ H3 s3 e C d I3 h1 d0 h2⟩
theorem throwsD_def {P : Program} {w : World} {K : PySem.W.Frag} {mg : Str → Option Value} {base : Heap} {N : List Str} {qual : Str} {scope : Scope} {f : Addr} {cd : Value} {A : Around} {outer : List Env} {s : Shared} {H : Hp} {E : XK} : ThrowsD (cxOf (CXE P w) P w K mg base N qual scope f cd A outer s H E) E :=
  fun pins σ H1 s1 e C d I h1 h2 h3 => leave_D (X := cxOf (CXE P w) P w K mg base N qual scope f cd A outer s H E) rfl rfl rfl I h1 h2 h3
end
end L2
namespace L2
open PySem PySem.Spec PyProof.Rows
section
variable {X : Cx} {pins : List (Addr × Obj)} {σ : St} {H : Hp} {s : Shared} {x y fx : Str} {R : Addr} {j k : Nat} {np hpos pos p cp yp ap : Pos} {b0 : Stmt} {suite : List Stmt} {ts : TS} {D : Ends} {ps : List Str} {sp : Sp} {e : Expr} {es : List Expr} {t : TA}
end
end L2
namespace L2
open PySem PySem.Spec PyProof.Rows
def caughtIn (X : Cx) (pins : List (Addr × Obj)) (F : St → XK) : Value → Shared → Prop := fun ev s' => ∃ σ' H' s1, Inv X pins σ' H' s1 ∧ CXE X.prog X.w X.stack H' s1 (F σ') ev s'
def PX (X : Cx) (st : Stmt) (t : (St → XK) → TS) : Prop :=
  ∀ (pins : List (Addr × Obj)) (s : Shared) (σ : St) (H : Hp) (D : Ends) (F : St → XK), Inv X pins σ H s → t F D σ H → wpAny (model X.prog X.w) X.A (exec st X.env) (SP X pins D) (caughtIn X pins F) s
section
variable {X : Cx} {pins : List (Addr × Obj)} {σ : St} {H : Hp} {s : Shared} {x n y fx : Str} {R : Addr} {i j k : Nat} {np hpos pos p cp yp ap : Pos} {st a b b0 : Stmt} {suite : List Stmt} {ts : TS} {D : Ends} {ps : List Str} {sp : Sp} {e c : Expr} {es : List Expr} {t : TA} {tc : TT} {τ τ' : (St → XK) → TS}
theorem call_px (F : DfX X.prog X.w X.K X.mg X.base fx k ps sp) (hr : Room k X.A) (ha : PA X.nox (e :: es) t) (hg : Gl X fx) (hdb : (fx == ("__debug__" : Str)) = false)
    (he : starEach (e :: es) X.env = (false, eval e X.env) :: starEach es X.env) (hpl : (backTo cp (starEach es X.env)).any (·.1) = false) {Qv : VK} {G : St → XK} (I : Inv X pins σ H s) (h : t σ H fun vs H1 => sp vs H1 Qv (G σ)) :
    wpAny (model X.prog X.w) X.A (eval (.Call (.Name fx p) (e :: es) [] cp) X.env) (EP X pins σ Qv) (caughtIn X pins G) s := by
  obtain ⟨f, fd, h1, h2, h3, F⟩ := F
  refine wpAny_Call_Name_kw (ld_glob I hg h1 (PySem.W.callWith_K (h₀ := X.base) I.ok.mod.kin h2 (wpAny_mono (ha cp pins s σ H _ (I.wish _) h) (fun us s1 ⟨vs, H1, I1, r, q⟩ => ?_) fun _ _ z => z.elim) he hpl) hdb)
  have J : Inv X pins σ H1 s1 := I1.unwish
  refine ⟨J.kIn, wpAny_call (codeAny_mono (F.run X.A X.stack s1 H1 ⟨us, []⟩ us vs Qv _ hr J.env0 ?_ r q) fun r s' hq => ?_)⟩
  · have hb := h3 s1 us J.kIn
    rw [List.append_nil] at hb
    exact hb (by rw [← r.length]; exact F.len _ _ _ _ q)
  · cases r with
    | error ev => exact ⟨σ, H1, s1, J, hq⟩
    | ok fl =>
      cases fl with
      | ret u => exact J.after hq
      | next => exact False.elim hq
      | brk => exact False.elim hq
      | cont => exact False.elim hq
def tXAsg (j : Nat) (sp : Sp) (t : TA) : (St → XK) → TS := fun G D σ H => t σ H fun vs H1 => sp vs H1 (fun v H2 => D.nx (σ.set j (some v)) H2) (G σ)
theorem px_asg (nd : X.N.Nodup) (F : DfX X.prog X.w X.K X.mg X.base fx k ps sp) (hr : Room k X.A) (ha : PA X.nox (e :: es) t) (hj : X.N[j]? = some y) (hy : Loc X.env.scope y)
    (hg : Gl X fx := by rfl) (hdb : (fx == ("__debug__" : Str)) = false := by decide) (he : starEach (e :: es) X.env = (false, eval e X.env) :: starEach es X.env := by rfl) (hpl : (backTo cp (starEach es X.env)).any (·.1) = false := by rfl)
    (hs : swapsWith (.Call (.Name fx p) (e :: es) [] cp) (some (.Name y yp)) ap.line X.env = pure false := by rfl) (hf : X.fn y = true ∨ X.env.scope.names.lookup y = some .local := by first | exact .inl rfl | exact .inr rfl) :
    PX X (.Assign [.Name y yp] (.Call (.Name fx p) (e :: es) [] cp) ap) (tXAsg j sp t) := by
  intro pins s σ H D G I h
  refine wpAny_Assign_Name (wpAny_mono (call_px F hr ha hg hdb he hpl I h) (fun v s1 ⟨w, H1, I1, r1, q1⟩ => ?_) fun _ _ z => z) hs
  exact store_ok I1 nd hj hy r1 (fun s2 I2 => ⟨_, H1, I2, q1⟩) hf
theorem one_px (h : PX X st τ) {G : St → XK} (I : Inv X pins σ H s) (q : τ G D σ H) : wpAny (model X.prog X.w) X.A (execs [st] X.env) (SP X pins D) (caughtIn X pins G) s := by
  refine wpAny_execs_cons (thn (h pins s σ H D G I q) fun f s1 q => ?_)
  cases f with
  | next => exact wpAny_execs_nil q
  | ret v => exact q
  | brk => exact q
  | cont => exact q
def tTryX (K : PySem.W.Frag) (R : Addr) (i : Nat) (τ : (St → XK) → TS) (ts : TS) : TS := fun D σ H => τ (fun σ' => Caught K R i ts D σ') D σ H
theorem ps_tryX (G : TryOk X x n R i b0 suite ts) (h : PX X st τ) : PS X (.Try [st] [.ExceptHandler (some (.Name x np)) (some n) (b0 :: suite) hpos] [] [] pos) (tTryX X.K R i τ ts) := by
  intro pins s σ H D I q
  refine wpAny_Try_except (wpAny_mono (one_px h I q) (fun f s1 q => ?_) fun ev s' ⟨σ', H', s1, J, cx⟩ => catch_ok G.hex G.hst G.hfr G.nd G.hi G.hk G.hl G.hf G.hg G.hm G.hs J cx G.hd)
  cases f with
  | next => exact wpAny_execs_nil q
  | ret v => exact q
  | brk => exact q
  | cont => exact q
end
end L2
namespace L2
open PySem PySem.Spec PySem.W PyProof.Rows Builtin Builtin.ObjectAttr
theorem exc_field {prog : Program} {w : World} {A : Around} {E : Value → Shared → Prop} {s : Shared} {K : Frag} {e C : Addr} {f : Str} {v : Value} {o od : Obj} {Q : Value → Shared → Prop} {ex : Bool} (F : ExcCls K C) (X : K.In s.heap) (J : InstAt s.heap e o C (some od)) (hh : hasDictIn K C = true) (na : NoAttr K C f) (hv : lookIn f od = some (some v)) (hv' : handedIn v = true)
    (h : Q v { s with toks := s.toks + 1 }) : wpAny (model prog w) A (getAttr (.ref e) f ex) Q E s := by
  obtain ⟨hp, g, d, t, os⟩ := s
  have isE := J.type (M := model prog w)
  have ga := looks_findIn (M := model prog w) X F.ga
  have hook := looks_findIn (M := model prog w) X F.noHook
  have isB := looks_mroIn (M := model prog w) X F.exc
  have fnd := looks_find (M := model prog w) X J (findObj_own hh na rfl hv)
  have bnd := PySem.F.attrBase_ValueError.ga.bind (.ref e)
  unfold getAttr getAttrBy
  refine wpAny_bind (wpAny_mkText (wpAny_holding (wpAny_bind (isE.at (wpAny_bind (ga.at ?_))))))
  have other : (onTheHeap (.ref C) && Value.builtin "BaseException.__getattribute__" == Value.builtin "object.__getattribute__") = false := by
    rw [show (Value.builtin "BaseException.__getattribute__" == Value.builtin "object.__getattribute__") = false by decide +kernel, Bool.and_false]
  refine wpAny_ite_false (by rw [other]; decide) ?_
  unfold getAttrByItsOwn hookBefore callGetattribute boundAndCalled
  have hx0 : (ex && onTheHeap (Value.builtin "BaseException.__getattribute__")) = false := by cases ex <;> rfl
  refine wpAny_bind (wpAny_ite_true (by rfl) (hook.at (wpAny_bind (wpAny_attempt (wpAny_holding (wpAny_ite_false (by rw [hx0]; decide) (wpAny_bind (wpAny_of_eq bnd (wpAny_call ?_)))))))))
  refine codeAny_call_builtin PySem.F.attrBase_ValueError.ga.plain PySem.F.entry_bexc_ga ?_
  have kd : builtinKind "BaseException.__getattribute__" = some .slot := by decide +kernel
  have sp : splitId "BaseException.__getattribute__" = some ("BaseException", "__getattribute__") := by decide +kernel
  have ag := PySem.F.args_bexc_ga (.ref e) (.str f t)
  simp only [checkBuiltinCall, kd, sp]
  refine wpAny_bind ?_
  unfold isInstance
  refine wpAny_bind (isE.at (isB.at ?_))
  refine wpAny_ite_false (by decide) (wpAny_of_eq ag ?_)
  refine wpAny_bind (wpAny_pure (wpAny_bind (wpAny_pure (wpAny_bind (isE.at (wpAny_bind (fnd.at ?_)))))))
  refine wpAny_pure ?_
  show wpAny _ _ (handedOut v) _ _ _
  rw [handedOut_of hv']
  exact wpAny_pure h
def tFldE (K : Frag) (ta : TE) (f : Str) : TE := fun σ H Q => ta σ H fun x H1 => ∃ e C d fs v, x = .ref e ∧ H1 e = some (excAt e (.ref C) (some d)) ∧ H1 d = some (dctD d fs) ∧ ExcCls K C ∧ XCls K C ∧ NoAttr K C f ∧ fs.lookup f = some v ∧ Q v H1
theorem pe_fldE {X : Cx} {e : Expr} {ta : TE} {f : Str} {pos : Pos} (he : PE X e ta) (hb : attributeBase e f X.env (eval e X.env) = eval e X.env := by rfl) : PE X (.Attribute e f pos) (tFldE X.K ta f) := by
  intro pins s σ H Q I h
  refine attr_of hb (thn (he pins s σ H _ I h) fun u s1 ⟨x, H1, I1, rx, a, C, d, fs, v, ex, ee, ed, F, xc, n, l, q⟩ => ?_)
  subst ex
  obtain rfl : u = Value.ref a := rx
  obtain ⟨⟨o, g1, g2, ⟨vs, g3⟩, g4⟩, _⟩ := I1.hok a _ ee
  obtain ⟨⟨mA, nD, r, _⟩, _⟩ := I1.hok d _ ed
  obtain ⟨od, ho, hl⟩ := lookIn_ns nD
  obtain ⟨w', hw, rw'⟩ := RelO.some_of (v := v) (o := mA f) (by rw [← l]; exact r f)
  exact exc_field F I1.kIn ⟨g1, g2, by unfold notCls; rw [g3], by rw [g4 d rfl]; exact ho⟩ xc.hd n (by rw [hl, hw]) (handed_of rw') ⟨v, H1, I1.tok _, rw', q⟩
def rNeL (K : Frag) : R2 := fun x y H Q => ∃ p q xs, x = .ref p ∧ y = .ref q ∧ SqL K H p xs ∧ SqL K H q xs ∧ xs.all flatV = true ∧ Q (.bl false) H
theorem op_neL {X : Cx} (hu : X.A.units < cLine) : OpR X (compareOp .NotEq) (rNeL X.K) := by
  intro pins s σ H x y v u Q I rx ry h
  obtain ⟨p, q, xs, rfl, rfl, hp, hq, hf, k⟩ := h
  cases rx
  cases ry
  obtain ⟨its, r1, pl1, hz1⟩ := I.list hp
  obtain ⟨its2, r2, pl2, hz2⟩ := I.list hq
  have l1 := r1.length
  have l2 := r2.length
  refine SeqAt.RcNeAt.lists (e := fun _ => true) pl1.isList pl2.isList (by simp; omega) hu (fun j h1 h2 => ?_) _ _ _ _ ⟨.bl _, H, I, rfl, ?_⟩
  · have hj : j < xs.length := by simp at h1; omega
    obtain ⟨a, ea, ra⟩ := r1.get (i := j) (List.getElem?_eq_getElem hj)
    obtain ⟨b, eb, rb⟩ := r2.get (i := j) (List.getElem?_eq_getElem hj)
    have fx : flatV xs[j] = true := List.all_eq_true.mp hf _ (List.getElem_mem hj)
    have e := eqAt_V (A := X.A.in1) (s := s) ra rb fx fx
    rw [eqV_same fx] at e
    obtain ⟨_, e1⟩ := List.getElem?_eq_some_iff.mp ea
    obtain ⟨_, e2⟩ := List.getElem?_eq_some_iff.mp eb
    simp only [List.getElem_toArray, e1, e2]
    exact e
  · have : (!((List.range its.toArray.size).all fun _ => true)) = false := by simp
    rw [this]
    exact k
end L2
namespace L2
open PySem PySem.Spec PyProof.Rows
def tMethP {ι : Type} (C : ι → Addr) (m : Str) (sp : ι → Sp) (E : XK) (ta : TE) : TE := fun σ H Q => ta σ H fun x H1 => ∃ i a dx fs, x = .ref a ∧ H1 a = some (.ins (C i) dx fs) ∧ fs.lookup m = none ∧ sp i [x] H1 Q E
section
variable {X : Cx} {CX : CXT} {k : Nat} {ps : List Str} {E : XK} {m x : Str} {p pos apos : Pos} {o e : Expr} {ta te : TE} {ι : Type} {C f : ι → Addr} {fd : ι → FuncData} {sp : ι → Sp}
theorem pe_methP {pl : Sem Bool} (he : PE X o ta) (c : ∀ i, Cls X.K (C i)) (hm : ∀ i, Meth X.K (C i) m (f i)) (F : ∀ i, FnOk X.prog X.w X.K X.mg X.base CX k (f i) (fd i) ps (sp i)) (hr : Room k X.A) (hb : ∀ i, Binds X.K (fd i) ps []) (hx : Passes CX X E)
    (ht : eval (.Call (.Attribute o m apos) [] [] pos) X.env = (do
      let ov ← eval o X.env
      standAt apos.atName
      let (f, first) ← holding [ov] (getMethod ov m pl)
      callWith pos f first (backTo pos (starEach [] X.env)) (backToKw pos (keywordEach [] X.env))) := by rfl) :
    PE X (.Call (.Attribute o m apos) [] [] pos) (tMethP C m sp E ta) := by
  intro pins s σ H Q I h
  refine PySem.W.methodCall_KW (pl := pl) (thn (he pins s σ H _ I h) fun u s1 z => ?_) ht
  obtain ⟨y, H1, I1, ry, i, a, dx, fs, rfl, ea, l, q⟩ := z
  cases ry
  refine getmeth_ok I1 ea (c i) (hm i) l (PySem.W.callWith_K0 (first := [.ref a]) I1.kIn (hm i).kp ?_)
  exact run_fn (us := [.ref a]) (vs := [.ref a]) (F i) hr (hb i) .nil hx I1 (.cons rfl .nil) q
structure Mk0 (K : PySem.W.Frag) (C : Addr) : Prop where
  makes : PySem.W.makesIn K C = true
  init : PySem.W.findIn K (.ref C) "__init__" = some (some (.builtin "object.__init__"))
  kp : PySem.W.keepIn K (.ref C) = true
  mro : PySem.W.mroIn K C (.type "object") = some true
def tMake0 (C : Addr) : TE := fun _ H Q => ∀ x dx, H x = none → H dx = none → dx ≠ x → Q (.ref x) (upd (upd H dx (.own x)) x (.ins C dx []))
theorem pe_make00 {C : Addr} (M : Mk0 X.K C) (hg : Gl X x) (hm : X.mg x = some (.ref C)) (hdb : (x == ("__debug__" : Str)) = false := by decide) : PE X (.Call (.Name x p) [] [] pos) (tMake0 C) := by
  intro pins s σ H Q I h
  have I2 := Inv.made (C := C) I
  obtain ⟨mA, O, _⟩ := ins_get (a := s.heap.objs.size + 1) (C := C) (dx := s.heap.objs.size) (fs := []) I2.hok upd_same
  obtain ⟨od, J, _⟩ := O.look
  refine wpAny_Call_Name_kw (ld_glob I hg hm (PySem.W.callWith_K0 I.kIn M.kp (wpAny_call ?_)) hdb)
  refine make_map0 I.kIn M.makes M.init (fun self => .of_pure (PySem.W.oi_bind self)) ?_
  refine codeAny_call_builtin PySem.W.oi_plain PySem.W.entry_oi ?_
  refine PySem.W.check_slot (rest := []) (kw := []) PySem.W.oi_kind PySem.W.oi_split (J.type.andThen (PySem.W.looks_mroIn I2.kIn M.mro)) (PySem.W.oi_args _) ?_
  rw [PySem.W.oi_run]
  exact wpAny_pure ⟨rfl, V.ref _, _, I2, rfl, h _ _ (I.hok.fresh (Nat.le_succ _)) (I.hok.fresh (Nat.le_refl _)) (Nat.ne_of_lt (Nat.lt_succ_self _))⟩
theorem call_isO {D : Addr} : CallR X (.builtin "isinstance") (fun xs H Q => ∃ x t b, xs = [x, .ref D] ∧ TyOf X.K H x t ∧ PySem.W.kitOne X.K t (.ref D) = some b ∧ Q (.bl b) H) := by
  intro pins s σ H xs us Q I r h
  obtain ⟨y, t, b, rfl, h2, h3, q⟩ := h
  obtain ⟨u, w', rfl, rx, ry⟩ := vals2 r
  cases ry
  exact isinst_ok I rx h2 h3 fun tk => ⟨.bl b, H, I.tok tk, rfl, q⟩
end
end L2
namespace RA
open PySem L2
inductive K0 where
  | never | empty | any
inductive K1 where
  | outside | turned | again
inductive K2 where
  | either | less | both | then_
inductive Pt where
  | leaf (k : K0)
  | sign (c : Nat)
  | one (k : K1) (x : Pt)
  | two (k : K2) (x y : Pt)
inductive Kd where
  | leaf (k : K0)
  | sign
  | one (k : K1)
  | two (k : K2)
def Pt.kd : Pt → Kd
  | .leaf k => .leaf k
  | .sign _ => .sign
  | .one k _ => .one k
  | .two k _ _ => .two k
def Pt.dep : Pt → Nat
  | .leaf _ => 1
  | .sign _ => 1
  | .one _ x => x.dep + 1
  | .two _ x y => max x.dep y.dep + 1
theorem Pt.dep_pos (t : Pt) : 1 ≤ t.dep := by
  cases t <;> simp only [Pt.dep] <;> omega
def nm0 : K0 → Str
  | .never => "never"
  | .empty => "empty"
  | .any => "any"
def nm1 : K1 → Str
  | .outside => "outside"
  | .turned => "turned"
  | .again => "again"
def nm2 : K2 → Str
  | .either => "either"
  | .less => "less"
  | .both => "both"
  | .then_ => "then"
def cnm : Kd → Str
  | .leaf .never => "Never"
  | .leaf .empty => "Empty"
  | .leaf .any => "AnySign"
  | .sign => "Sign"
  | .one .outside => "Outside"
  | .one .turned => "Turned"
  | .one .again => "Again"
  | .two .either => "Either"
  | .two .less => "Less"
  | .two .both => "Both"
  | .two .then_ => "Then"
def cOf (a1 a2 a3 a4 a5 a6 a7 a8 a9 a10 a11 : Addr) : Kd → Addr
  | .leaf .never => a1
  | .leaf .empty => a2
  | .leaf .any => a3
  | .sign => a4
  | .one .outside => a5
  | .one .turned => a6
  | .one .again => a7
  | .two .either => a8
  | .two .less => a9
  | .two .both => a10
  | .two .then_ => a11
def PatAt (c : Kd → Addr) (H : Hp) : Pt → V → Prop
  | .leaf k, v => ∃ a dx, v = .ref a ∧ H a = some (.ins (c (.leaf k)) dx [])
  | .sign z, v => ∃ a dx, v = .ref a ∧ H a = some (.ins (c .sign) dx (putF "sign" (.str (tx [z])) []))
  | .one k x, v => ∃ a dx u, v = .ref a ∧ H a = some (.ins (c (.one k)) dx (putF "inner" u [])) ∧ PatAt c H x u
  | .two k x y, v => ∃ a dx u w, v = .ref a ∧ H a = some (.ins (c (.two k)) dx (putF "right" w (putF "left" u []))) ∧ PatAt c H x u ∧ PatAt c H y w
def ShAt (H : Hp) : Pt → V → Prop
  | .leaf k, v => ∃ a, v = .ref a ∧ H a = some (.tup [.str (nm0 k)])
  | .sign z, v => ∃ a, v = .ref a ∧ H a = some (.tup [.str "sign", .str (tx [z])])
  | .one k x, v => ∃ a u, v = .ref a ∧ H a = some (.tup [.str (nm1 k), u]) ∧ ShAt H x u
  | .two k x y, v => ∃ a u w, v = .ref a ∧ H a = some (.tup [.str (nm2 k), u, w]) ∧ ShAt H x u ∧ ShAt H y w
def Kp (H H' : Hp) : Prop := ∀ b o, H b = some o → (∀ xs, o ≠ .lst xs) → H' b = some o
theorem Same.kp {H H' : Hp} (h : Same H H') : Kp H H' := fun b o e _ => h b o e
theorem Kp.lst {H : Hp} {p : Addr} {xs : List V} {o : HO} (h : H p = some (.lst xs)) : Kp H (upd H p o) := fun b o' e n => by
  rw [upd_ne (ne_of e h (fun z => n xs z))]
  exact e
theorem PatAt.kp {c : Kd → Addr} {H H' : Hp} (h : Kp H H') : ∀ {t : Pt} {v : V}, PatAt c H t v → PatAt c H' t v
  | .leaf _, _, ⟨a, dx, e, ha⟩ => ⟨a, dx, e, h _ _ ha (fun _ z => nomatch z)⟩
  | .sign _, _, ⟨a, dx, e, ha⟩ => ⟨a, dx, e, h _ _ ha (fun _ z => nomatch z)⟩
  | .one _ x, _, ⟨a, dx, u, e, ha, hx⟩ => ⟨a, dx, u, e, h _ _ ha (fun _ z => nomatch z), PatAt.kp h (t := x) hx⟩
  | .two _ x y, _, ⟨a, dx, u, w, e, ha, hx, hy⟩ => ⟨a, dx, u, w, e, h _ _ ha (fun _ z => nomatch z), PatAt.kp h (t := x) hx, PatAt.kp h (t := y) hy⟩
theorem ShAt.kp {H H' : Hp} (h : Kp H H') : ∀ {t : Pt} {v : V}, ShAt H t v → ShAt H' t v
  | .leaf _, _, ⟨a, e, ha⟩ => ⟨a, e, h _ _ ha (fun _ z => nomatch z)⟩
  | .sign _, _, ⟨a, e, ha⟩ => ⟨a, e, h _ _ ha (fun _ z => nomatch z)⟩
  | .one _ x, _, ⟨a, u, e, ha, hx⟩ => ⟨a, u, e, h _ _ ha (fun _ z => nomatch z), ShAt.kp h (t := x) hx⟩
  | .two _ x y, _, ⟨a, u, w, e, ha, hx, hy⟩ => ⟨a, u, w, e, h _ _ ha (fun _ z => nomatch z), ShAt.kp h (t := x) hx, ShAt.kp h (t := y) hy⟩
theorem PatAt.ins {c : Kd → Addr} {H : Hp} : ∀ {t : Pt} {v : V}, PatAt c H t v → ∃ a dx fs, v = .ref a ∧ H a = some (.ins (c t.kd) dx fs) ∧ fs.lookup ("shape" : Str) = none
  | .leaf _, _, ⟨a, dx, e, ha⟩ => ⟨a, dx, _, e, ha, rfl⟩
  | .sign _, _, ⟨a, dx, e, ha⟩ => ⟨a, dx, _, e, ha, by rw [lookup_putF, if_neg (by decide +kernel)]; rfl⟩
  | .one _ x, _, ⟨a, dx, u, e, ha, hx⟩ => ⟨a, dx, _, e, ha, by rw [lookup_putF, if_neg (by decide +kernel)]; rfl⟩
  | .two _ x y, _, ⟨a, dx, u, w, e, ha, hx, hy⟩ => ⟨a, dx, _, e, ha, by rw [lookup_putF, if_neg (by decide +kernel), lookup_putF, if_neg (by decide +kernel)]; rfl⟩
theorem lk_sign (u : V) : (putF "sign" u []).lookup ("sign" : Str) = some u := by rw [lookup_putF, if_pos rfl]
theorem lk_inner (u : V) : (putF "inner" u []).lookup ("inner" : Str) = some u := by rw [lookup_putF, if_pos rfl]
theorem lk_left (u w : V) : (putF "right" w (putF "left" u [])).lookup ("left" : Str) = some u := by rw [lookup_putF, if_neg (by decide +kernel), lookup_putF, if_pos rfl]
theorem lk_right (u w : V) : (putF "right" w (putF "left" u [])).lookup ("right" : Str) = some w := by rw [lookup_putF, if_pos rfl]
structure PCls (K : PySem.W.Frag) (C cP : Addr) : Prop where
  cl : Cls K C
  ha : PySem.W.findIn K (.ref C) "__class__" = some (some (.builtin "object.__class__"))
  hn : PySem.W.specialIn K (.builtin "object.__class__") "__get__" = some (some (.builtin "getset_descriptor.__get__"))
  htk : PySem.W.takesIn K (.builtin "object.__class__") = some true
  hm : PySem.W.mroIn K C (.type "object") = some true
  ki : PySem.W.kitOne K (.ref C) (.ref cP) = some true
  nS : NoAttr K C "sign"
  nL : NoAttr K C "left"
  nR : NoAttr K C "right"
  nI : NoAttr K C "inner"
def spI1 (K : PySem.W.Frag) (x : Str) : Sp := fun vs H Q _ => ∃ p v C dx, vs = [.ref p, v] ∧ H p = some (.ins C dx []) ∧ Cls K C ∧ NoAttr K C x ∧
  ∀ H', (∀ b o, H b = some o → b ≠ p → H' b = some o) → H' p = some (.ins C dx (putF x v [])) → Q .non H'
def spI2 (K : PySem.W.Frag) (x y : Str) : Sp := fun vs H Q _ => ∃ p v u C dx, vs = [.ref p, v, u] ∧ H p = some (.ins C dx []) ∧ Cls K C ∧ NoAttr K C x ∧ NoAttr K C y ∧
  ∀ H', (∀ b o, H b = some o → b ≠ p → H' b = some o) → H' p = some (.ins C dx (putF y u (putF x v []))) → Q .non H'
theorem made_same {H H' : Hp} {x dx : Addr} {o0 : HO} (hx : H x = none) (hdx : H dx = none) (h : ∀ b o, (upd (upd H dx (.own x)) x o0) b = some o → b ≠ x → H' b = some o) : Same H H' := fun b o e =>
  h b o (by rw [upd_ne (ne_of_none e hx), upd_ne (ne_of_none e hdx)]; exact e) (ne_of_none e hx)
def spShape (c : Kd → Addr) (n : Nat) (k : Kd) : Sp := fun vs H Q _ => ∃ (a : Addr) (t : Pt), vs = [.ref a] ∧ PatAt c H t (.ref a) ∧ t.kd = k ∧ t.dep ≤ n ∧ ∀ v H', Same H H' → ShAt H' t v → Q v H'
structure PatKit (P : Program) (w : World) (K : PySem.W.Frag) (mg : Str → Option Value) (base : Heap) (c : Kd → Addr) (cP : Addr) : Prop where
  kP : mg "Pattern" = some (.ref cP)
  kc : ∀ k, mg (cnm k) = some (.ref (c k))
  pc : ∀ k, PCls K (c k) cP
  mk0 : ∀ k, Mk0 K (c (.leaf k))
  iS : ∃ f fd, Mk K (c .sign) f ∧ FnOk P w K mg base CX0 1 f fd ["self", "sign"] (spI1 K "sign") ∧ Binds K fd ["self", "sign"] []
  iU : ∃ f fd, (∀ k, Mk K (c (.one k)) f) ∧ FnOk P w K mg base CX0 1 f fd ["self", "inner"] (spI1 K "inner") ∧ Binds K fd ["self", "inner"] []
  iP : ∃ f fd, (∀ k, Mk K (c (.two k)) f) ∧ FnOk P w K mg base CX0 1 f fd ["self", "left", "right"] (spI2 K "left" "right") ∧ Binds K fd ["self", "left", "right"] []
  sh : ∃ (f : Kd → Addr) (fd : Kd → FuncData), (∀ k, Meth K (c k) "shape" (f k)) ∧ (∀ k, Binds K (fd k) ["self"] []) ∧ ∀ n k, FnOk P w K mg base CX0 n (f k) (fd k) ["self"] (spShape c n k)
theorem last_at {ys : List V} {v : V} : (ys ++ [v])[(ys ++ [v]).length - 1]? = some v := by simp
end RA
namespace RA
open PySem L2
inductive U2 where
  | outside | turned
def U2.k1 : U2 → K1
  | .outside => .outside
  | .turned => .turned
inductive Wt where
  | lp
  | un (k : U2)
  | bin (k : K2)
def lvl : K2 → Nat
  | .either => 0
  | .less => 0
  | .both => 1
  | .then_ => 2
def Wt.str : Wt → Nat
  | .lp => 0
  | .un _ => 4
  | .bin k => lvl k + 1
inductive Tk where
  | lp
  | rp
  | star
  | un (k : U2)
  | bin (k : K2)
  | piece (t : Pt)
def settleM (s : Nat) : List Pt → List Wt → Option (List Pt × List Wt)
  | _, [] => none
  | ps, w :: ws => if s ≤ w.str then
      match w, ps with
      | .un k, x :: qs => settleM s (.one k.k1 x :: qs) ws
      | .bin k, y :: x :: qs => settleM s (.two k x y :: qs) ws
      | _, _ => none
    else some (ps, w :: ws)
def popM : List Pt × List Wt → Option (List Pt × List Wt)
  | (ps, _ :: ws) => some (ps, ws)
  | (_, []) => none
def starM : List Pt → Option (List Pt)
  | x :: qs => some (.one .again x :: qs)
  | [] => none
def putM (ps : List Pt) (ws : List Wt) : Tk → Option (List Pt × List Wt)
  | .lp => some (ps, .lp :: ws)
  | .un k => some (ps, .un k :: ws)
  | .bin k => (settleM (lvl k + 1) ps ws).map fun r => (r.1, .bin k :: r.2)
  | .rp => (settleM 1 ps ws).bind popM
  | .star => (starM ps).map fun qs => (qs, ws)
  | .piece t => some (t :: ps, ws)
def putsM : List Tk → List Pt × List Wt → Option (List Pt × List Wt)
  | [], r => some r
  | t :: ts, r => (putM r.1 r.2 t).bind (putsM ts)
theorem putsM_app : ∀ (a b : List Tk) (r : List Pt × List Wt), putsM (a ++ b) r = (putsM a r).bind (putsM b)
  | [], _, _ => rfl
  | t :: a, b, r => by
    show (putM r.1 r.2 t).bind (putsM (a ++ b)) = ((putM r.1 r.2 t).bind (putsM a)).bind (putsM b)
    cases putM r.1 r.2 t with
    | none => rfl
    | some r' => exact putsM_app a b r'
def isW (c : Nat) : Bool := [33, 60, 40, 38, 124, 45].contains c
def isB (c : Nat) : Bool := [42, 38, 124, 45, 41].contains c
def tok (c : Nat) : Tk :=
  if c = 40 then .lp else if c = 41 then .rp else if c = 42 then .star else if c = 33 then .un .outside else if c = 60 then .un .turned
  else if c = 124 then .bin .either else if c = 45 then .bin .less else if c = 38 then .bin .both
  else if c = 48 then .piece (.leaf .never) else if c = 49 then .piece (.leaf .empty) else if c = 46 then .piece (.leaf .any) else .piece (.sign c)
def toks : Bool → List Nat → List Tk
  | _, [] => []
  | w, c :: cs => (if (!w && !isB c) = true then [.bin .then_] else []) ++ tok c :: toks (isW c) cs
def endW (b : Bool) : List Nat → Bool
  | [] => b
  | c :: cs => endW (isW c) cs
theorem toks_app : ∀ (u v : List Nat) (b : Bool), toks b (u ++ v) = toks b u ++ toks (endW b u) v
  | [], _, _ => rfl
  | c :: u, v, b => by
    show _ ++ tok c :: toks (isW c) (u ++ v) = (_ ++ tok c :: toks (isW c) u) ++ _
    rw [toks_app u v]
    simp [endW]
def c0 : K0 → Nat
  | .never => 48
  | .empty => 49
  | .any => 46
def m2 : K2 → List Nat
  | .either => [124]
  | .less => [45]
  | .both => [38]
  | .then_ => []
def LetS (L : List Nat) : Prop := ∀ c ∈ L, 97 ≤ c ∧ c ≤ 122
theorem sign_facts {c : Nat} (h : 97 ≤ c ∧ c ≤ 122) : isW c = false ∧ isB c = false ∧ tok c = .piece (.sign c) := by
  obtain ⟨h1, h2⟩ := h
  refine ⟨?_, ?_, ?_⟩
  · unfold isW
    simp
    omega
  · unfold isB
    simp
    omega
  · unfold tok
    repeat rw [if_neg (by omega)]
theorem settleM_stop {s : Nat} {ps : List Pt} {w : Wt} {ws : List Wt} (h : w.str < s) : settleM s ps (w :: ws) = some (ps, w :: ws) := by
  unfold settleM
  rw [if_neg (by omega)]
def canS (L : List Nat) (c : Nat) (w : Bool) (d : Nat) : Bool :=
  if L.contains c || [48, 49, 46, 33, 60, 40].contains c then true
  else if c = 41 then decide (0 < d) && !w
  else [42, 38, 124, 45].contains c && !w
def dAfter (c d : Nat) : Nat := if c = 41 then (if c = 40 then d + 1 else d) - 1 else if c = 40 then d + 1 else d
def scan (L : List Nat) : Nat → Bool → List Nat → Option (Nat × Bool)
  | d, w, [] => some (d, w)
  | d, w, c :: cs => if canS L c w d = true then scan L (dAfter c d) (isW c) cs else none
theorem dAfter_ne {c d : Nat} (h1 : c ≠ 40) (h2 : c ≠ 41) : dAfter c d = d := by
  unfold dAfter
  rw [if_neg h2, if_neg h1]
def strP : Pt → Nat
  | .leaf _ => 5
  | .sign _ => 5
  | .one .again _ => 5
  | .one _ _ => 4
  | .two k _ _ => lvl k + 1
def inM (b : Bool) (w : List Nat) : List Nat := if b = true then 40 :: (w ++ [41]) else w
def txtM : Pt → List Nat
  | .leaf k => [c0 k]
  | .sign c => [c]
  | .one .again x => inM (decide (strP x < 5)) (txtM x) ++ [42]
  | .one .outside x => 33 :: inM (decide (strP x < 4)) (txtM x)
  | .one .turned x => 60 :: inM (decide (strP x < 4)) (txtM x)
  | .two k x y => inM (decide (strP x < lvl k + 1)) (txtM x) ++ m2 k ++ inM (decide (strP y < lvl k + 2)) (txtM y)
def Pt.sz : Pt → Nat
  | .leaf _ => 1
  | .sign _ => 1
  | .one _ x => x.sz + 1
  | .two _ x y => x.sz + y.sz + 1
theorem settleM_len {s : Nat} : ∀ {ws : List Wt} {ps ps' : List Pt} {ws' : List Wt}, settleM s ps ws = some (ps', ws') → ps'.length ≤ ps.length ∧ ws'.length ≤ ws.length
  | [], ps, ps', ws', h => by simp [settleM] at h
  | w :: ws, ps, ps', ws', h => by
    unfold settleM at h
    by_cases hs : s ≤ w.str
    · rw [if_pos hs] at h
      match w, ps, h with
      | .un k, x :: qs, h =>
        have := settleM_len h
        simp only [List.length_cons] at this ⊢
        omega
      | .bin k, y :: x :: qs, h =>
        have := settleM_len h
        simp only [List.length_cons] at this ⊢
        omega
    · rw [if_neg hs] at h
      cases h
      exact ⟨Nat.le_refl _, Nat.le_refl _⟩
theorem putM_len {ps ps' : List Pt} {ws ws' : List Wt} {t : Tk} (h : putM ps ws t = some (ps', ws')) : ps'.length ≤ ps.length + 1 ∧ ws'.length ≤ ws.length + 1 := by
  cases t with
  | lp => cases h; exact ⟨Nat.le_succ _, Nat.le_refl _⟩
  | un k => cases h; exact ⟨Nat.le_succ _, Nat.le_refl _⟩
  | piece t => cases h; exact ⟨Nat.le_refl _, Nat.le_succ _⟩
  | star =>
    cases ps with
    | nil => cases h
    | cons x qs => cases h; exact ⟨Nat.le_succ _, Nat.le_succ _⟩
  | bin k =>
    obtain ⟨r, hr, e⟩ := Option.map_eq_some_iff.mp h
    cases e
    have := settleM_len (ps' := r.1) (ws' := r.2) hr
    simp only [List.length_cons]
    omega
  | rp =>
    obtain ⟨r, hr, e⟩ := Option.bind_eq_some_iff.mp h
    have h1 := settleM_len (ps' := r.1) (ws' := r.2) hr
    obtain ⟨a, b⟩ := r
    cases b with
    | nil => cases e
    | cons x b => cases e; simp only [List.length_cons] at h1; omega
theorem toks_len : ∀ (w : List Nat) (b : Bool), (toks b w).length ≤ 2 * w.length
  | [], _ => Nat.le_refl _
  | c :: cs, b => by
    have := toks_len cs (isW c)
    unfold toks
    rw [List.length_append, List.length_cons, List.length_cons]
    split
    · rw [List.length_cons, List.length_nil]; omega
    · rw [List.length_nil]; omega
theorem putsM_take {ts : List Tk} {r r' : List Pt × List Wt} (h : putsM ts r = some r') (i : Nat) : ∃ r1, putsM (ts.take i) r = some r1 ∧ putsM (ts.drop i) r1 = some r' := by
  rw [← List.take_append_drop i ts, putsM_app] at h
  exact Option.bind_eq_some_iff.mp h
end RA
namespace L2
open PySem PySem.Spec PyProof.Rows
def Ite (x : Str) : It := ⟨fun i _ => i < x.length, fun i H v H' => ∃ p c, x.cps[i]? = some c ∧ v = .ref p ∧ H p = none ∧ H' = upd H p (.tup [.int (i : Int), .str ⟨#[c]⟩]), fun i _ => x.length ≤ i⟩
theorem turn_enum {P : Program} {w : World} {K : PySem.W.Frag} {es : List Expr} {kt : Nat} {pt : Pos} (x : Str) (t : Tok) (e it : Addr) (hne : e ≠ it) :
    Turn P w K (.Tuple es kt pt) (Ite x) [e, it] e (fun i h => i ≤ x.length ∧ (∃ old, IsEnum h e it i old) ∧ ZP.strAt x t it i h) where
  mem := by simp
  obj := fun i h ⟨_, ⟨old, he⟩, ⟨o1, e1, _, d1⟩⟩ c hc => by
    simp only [List.mem_cons, List.not_mem_nil, or_false] at hc
    rcases hc with rfl | rfl
    · exact ⟨_, he, fun v q => by cases q⟩
    · exact ⟨o1, e1, fun v q => by rw [d1] at q; cases q⟩
  keep := fun i h h' ⟨b1, ⟨old, he⟩, ⟨o1, e1, r1⟩⟩ k => ⟨b1, ⟨old, k e (by simp) _ he⟩, ⟨o1, k it (by simp) _ e1, r1⟩⟩
  item := by
    intro X hP hw hK hc i pins s σ H E I hf ⟨b1, ⟨old, he⟩, s1⟩ l1
    subst hP hw hK
    refine wpAny_pyNext_enum_itemD (ZP.draws (A := X.A.in1) (I.ok.hd hc) it x t) he s1 l1 hne (by simp [hne]) fun v g tk pv ho st new hsz gk => ⟨_, rfl, ?_⟩
    obtain ⟨c, u, hc1, rfl⟩ := pv
    refine wpAny_letOwnedTupleGo_enum (s := { s with heap := g, toks := tk + 1 }) ho fun g' ge gs => ?_
    have up : ∀ b o, b ≠ e → g.get? b = some o → g'.get? b = some o := fun b o hb q => (gs.2 b hb).trans q
    have ne : s.heap.objs.size ≠ e := Nat.ne_of_gt (Heap.lt_size he)
    have tup : ObjOk X.prog X.w (upd H s.heap.objs.size (.tup [.int (i : Int), .str ⟨#[c]⟩])) g' s.heap.objs.size (.tup [.int (i : Int), .str ⟨#[c]⟩]) :=
      ⟨line_ge (by show 2 ≤ 16777216; decide), [.int i tk, .str ⟨#[c]⟩ u], .cons ⟨_, rfl⟩ (.cons ⟨_, rfl⟩ .nil), ⟨_, up _ _ ne new, rfl, 0, rfl⟩⟩
    refine ⟨.ref s.heap.objs.size, _, I.turnedNew (S := [e, it]) (h' := g') (t' := tk + 1) (fun b o hb q => up b o (fun z => hb (by simp [z])) (gk b o (fun z => hb (by simp [z])) (fun z => hb (by simp [z])) q)) hf tup, rfl,
      ⟨_, c, hc1, rfl, I.hok.fresh (Nat.le_refl _), rfl⟩, ⟨l1, ⟨_, by rw [Int.natCast_succ]; exact ge⟩, ?_⟩, fun b hb => ?_⟩
    · obtain ⟨o, q, r⟩ := st
      exact ⟨o, up _ _ (fun z => hne z.symm) q, r⟩
    · have lt : b < s.heap.objs.size := by
        obtain ⟨o1, e1, _⟩ := s1
        simp only [List.mem_cons, List.not_mem_nil, or_false] at hb
        rcases hb with rfl | rfl
        · exact Heap.lt_size he
        · exact Heap.lt_size e1
      rw [upd_ne (Nat.ne_of_lt lt)]
      exact (hf b hb).1
  done := by
    intro X hP hw hK hc i pins s σ H E I hf ⟨b1, ⟨old, he⟩, s1⟩ hstop
    subst hP hw hK
    have hi : i = x.cps.size := by
      have e1 : x.length = x.cps.size := rfl
      have q : x.length ≤ i := hstop
      omega
    subst hi
    refine wpAny_pyNext_enum_endD (ZP.draws (A := X.A.in1) (I.ok.hd hc) it x t) he s1 fun g gs => ⟨rfl, ?_⟩
    exact I.turnedL (S := [e, it]) (fun b o hb q => gs b o (fun z => hb (by simp [z])) q) hf
  self := fun _ _ _ _ _ st h => by
    obtain ⟨_, ⟨old, he⟩, _⟩ := st
    exact wpAny_pyIter_enum he h
def iEnum (t : TA) : TI := fun σ H R => t σ H fun vs H1 => ∃ x, vs = [.str x] ∧ R (Ite x) H1
theorem pi_enum {X : Cx} {es : List Expr} {kt : Nat} {pt : Pos} {a : Expr} {ta : TA} {p pos : Pos} (hg : Gl X "enumerate") (hm : X.mg "enumerate" = none) (ha : PA X [a] ta) (hs : starEach [a] X.env = (false, eval a X.env) :: starEach [] X.env := by rfl)
    (hpl : (backTo pos (starEach [] X.env)).any (·.1) = false := by rfl) : PI X (.Tuple es kt pt) (.Call (.Name "enumerate" p) [a] [] pos) (iEnum ta) := by
  intro pins s σ H R I h
  refine wpAny_Call_Name_kw (ld_blt I hg hm PyProof.Rows.boot_enumerate (PyProof.Rows.callWith_type1 (thn (ha pos pins s σ H _ I h) fun us s1 z => ?_) hs hpl))
  obtain ⟨vs, H1, I1, r1, x, rfl, q⟩ := z
  obtain ⟨u1, rfl, t, rfl⟩ := vals1 r1
  refine call_enumerate_str fun g ge gi gz gk => wpAny_pyIter_enum (s := { s1 with heap := g }) ge ?_
  refine ⟨_, [s1.heap.objs.size + 1, s1.heap.objs.size], _, Ite x, H1, rfl, I1.kept (t' := s1.toks) gk, turn_enum x t _ _ (neA (by omega)), ⟨Nat.zero_le _, ⟨_, ge⟩, gi⟩, fun c hc => ?_, q⟩
  have hge : s1.heap.objs.size ≤ c := by
    simp only [List.mem_cons, List.not_mem_nil, or_false] at hc
    rcases hc with rfl | rfl
    · exact Nat.le_add_right _ _
    · exact Nat.le_refl _
  exact I1.fpOk hge (I1.hok.fresh hge)
theorem for_enum {x : Str} {g : TG} {tb : TS} {D : Ends} {σ : St} {H : Hp} (Pv : Nat → St → Hp → Prop) (h0 : Pv 0 σ H)
    (hs : ∀ i c p σ H, x.cps[i]? = some c → H p = none → Pv i σ H → g (.ref p) σ (upd H p (.tup [.int (i : Int), .str ⟨#[c]⟩])) fun σ2 H2 => tb { D with nx := Pv (i + 1), ct := Pv (i + 1), bk := D.nx } σ2 H2)
    (hd : ∀ σ H, Pv x.length σ H → D.nx σ H) :
    ∃ W : Nat → Nat → St → Hp → Prop, (∃ m, W 0 m σ H) ∧ ∀ i m σ H, W i m σ H →
      ((Ite x).stop i H ∧ D.nx σ H) ∨ ((Ite x).go i H ∧ ∃ N : St → Hp → Prop, (∀ σ' H', N σ' H' → ∃ m', m' < m ∧ W (i + 1) m' σ' H') ∧ ∀ v H', (Ite x).yld i H v H' → g v σ H' fun σ2 H2 => tb { D with nx := N, ct := N, bk := D.nx } σ2 H2) := by
  refine ⟨fun i m σ H => m = x.length - i ∧ i ≤ x.length ∧ Pv i σ H, ⟨x.length, by simp, Nat.zero_le _, h0⟩, ?_⟩
  rintro i m σ H ⟨rfl, hi, p⟩
  by_cases hlt : i < x.length
  · refine .inr ⟨hlt, Pv (i + 1), fun σ' H' p' => ⟨x.length - (i + 1), by omega, rfl, hlt, p'⟩, fun v H' q => ?_⟩
    obtain ⟨a, c, e1, rfl, e3, rfl⟩ := q
    exact hs i c a σ H e1 e3 p
  · have e : i = x.length := by omega
    subst e
    exact .inl ⟨Nat.le_refl _, hd σ H p⟩
end L2
namespace RA
open PySem L2
def wname : Wt → Str
  | .lp => tx [40]
  | .un .outside => "outside"
  | .un .turned => "turned"
  | .bin k => nm2 k
def wv (w : Wt) : V := .str (wname w)
def tname : Tk → Str
  | .lp => tx [40]
  | .rp => tx [41]
  | .star => "again"
  | .un k => wname (.un k)
  | .bin k => nm2 k
  | .piece (.leaf k) => nm0 k
  | .piece (.sign c) => tx [c]
  | .piece _ => tx []
def tv (t : Tk) : V := .str (tname t)
def Tk.ok : Tk → Prop
  | .piece (.leaf _) => True
  | .piece (.sign c) => 97 ≤ c ∧ c ≤ 122
  | .piece _ => False
  | _ => True
def dSIGNS : List (Key × V) := [(.inr "never", .str (tx [48])), (.inr "empty", .str (tx [49])), (.inr "any", .str (tx [46])), (.inr "either", .str (tx [124])), (.inr "less", .str (tx [45])), (.inr "both", .str (tx [38])), (.inr "then", .str (tx [])), (.inr "outside", .str (tx [33])), (.inr "turned", .str (tx [60])), (.inr "again", .str (tx [42]))]
def dKINDS : List (Key × V) := [(.inr (tx [48]), .str "never"), (.inr (tx [49]), .str "empty"), (.inr (tx [46]), .str "any"), (.inr (tx [124]), .str "either"), (.inr (tx [45]), .str "less"), (.inr (tx [38]), .str "both"), (.inr (tx [33]), .str "outside"), (.inr (tx [60]), .str "turned"), (.inr (tx [42]), .str "again")]
def dSTR : List (Key × V) := [(.inr "either", .int 1), (.inr "less", .int 1), (.inr "both", .int 2), (.inr "then", .int 3), (.inr "outside", .int 4), (.inr "turned", .int 4), (.inr "again", .int 5), (.inr "never", .int 5), (.inr "empty", .int 5), (.inr "sign", .int 5), (.inr "any", .int 5)]
theorem str_w (w : Wt) : (valV dSTR (.inr (wname w))).getD (.int 0) = .int (w.str : Nat) := by
  cases w with
  | lp => decide +kernel
  | un k => cases k <;> decide +kernel
  | bin k => cases k <;> decide +kernel
theorem str_bin (k : K2) : valV dSTR (.inr (nm2 k)) = some (.int ((lvl k : Nat) + 1)) := by cases k <;> decide +kernel
def SgOk (c : Nat) : Prop := (97 ≤ c ∧ c ≤ 122) ∨ c ∈ [40, 41, 42, 33, 60, 124, 45, 38, 48, 49, 46]
theorem tok_ok {c : Nat} (h : SgOk c) : (tok c).ok := by
  rcases h with h | h
  · rw [(sign_facts h).2.2]
    exact h
  · simp only [List.mem_cons, List.not_mem_nil, or_false] at h
    rcases h with rfl | rfl | rfl | rfl | rfl | rfl | rfl | rfl | rfl | rfl | rfl <;> exact True.intro
theorem tx_ne {a b : Nat} (h : a ≠ b) : ¬ ((Sum.inr (tx [a]) : Key) = Sum.inr (tx [b])) := fun e => h (by have := tx_inj (Sum.inr.inj e); simpa using this)
theorem kinds_get {c : Nat} (h : SgOk c) : (valV dKINDS (.inr (tx [c]))).getD (.str (tx [c])) = tv (tok c) := by
  rcases h with h | h
  · rw [(sign_facts h).2.2]
    unfold dKINDS
    repeat rw [valV_neg (tx_ne (by omega))]
    rfl
  · simp only [List.mem_cons, List.not_mem_nil, or_false] at h
    rcases h with rfl | rfl | rfl | rfl | rfl | rfl | rfl | rfl | rfl | rfl | rfl <;> decide +kernel
def Pats (c : Kd → Addr) (H : Hp) : List V → List Pt → Prop
  | [], [] => True
  | v :: vs, t :: ts => PatAt c H t v ∧ Pats c H vs ts
  | _, _ => False
theorem Pats.kp {c : Kd → Addr} {H H' : Hp} (k : Kp H H') : ∀ {xs : List V} {ts : List Pt}, Pats c H xs ts → Pats c H' xs ts
  | [], [], _ => trivial
  | _ :: _, _ :: _, h => ⟨h.1.kp k, Pats.kp k h.2⟩
theorem Pats.len {c : Kd → Addr} {H : Hp} : ∀ {xs : List V} {ts : List Pt}, Pats c H xs ts → xs.length = ts.length
  | [], [], _ => rfl
  | _ :: _, _ :: _, h => by rw [List.length_cons, List.length_cons, Pats.len h.2]
def dflds (pa wa : Addr) : List (Str × V) := putF "waiting" (.ref wa) (putF "patterns" (.ref pa) [])
theorem lk_pats (pa wa : Addr) : (dflds pa wa).lookup ("patterns" : Str) = some (.ref pa) := by
  unfold dflds
  rw [lookup_putF, if_neg (by decide +kernel), lookup_putF, if_pos rfl]
theorem lk_wait (pa wa : Addr) : (dflds pa wa).lookup ("waiting" : Str) = some (.ref wa) := by
  unfold dflds
  rw [lookup_putF, if_pos rfl]
structure DeskAt (c : Kd → Addr) (cD : Addr) (H : Hp) (d dx pa wa : Addr) (us : List V) (ps : List Pt) (ws : List Wt) : Prop where
  ob : H d = some (.ins cD dx (dflds pa wa))
  pl : H pa = some (.lst us.reverse)
  pt : Pats c H us ps
  wl : H wa = some (.lst (ws.reverse.map wv))
  ne : pa ≠ wa
def Off (pa wa : Addr) (H H' : Hp) : Prop := ∀ b o, H b = some o → b ≠ pa → b ≠ wa → H' b = some o
theorem Off.refl (pa wa : Addr) (H : Hp) : Off pa wa H H := fun _ _ e _ _ => e
theorem Off.trans {pa wa : Addr} {H H1 H2 : Hp} (a : Off pa wa H H1) (b : Off pa wa H1 H2) : Off pa wa H H2 := fun c o e h1 h2 => b c o (a c o e h1 h2) h1 h2
theorem Off.p {pa wa : Addr} {H : Hp} {o : HO} : Off pa wa H (upd H pa o) := fun b o' e h1 _ => by rw [upd_ne h1]; exact e
theorem Off.w {pa wa : Addr} {H : Hp} {o : HO} : Off pa wa H (upd H wa o) := fun b o' e _ h2 => by rw [upd_ne h2]; exact e
theorem Same.off {pa wa : Addr} {H H' : Hp} (s : Same H H') : Off pa wa H H' := fun b o e _ _ => s b o e
section
variable {c : Kd → Addr} {cD : Addr} {H H' : Hp} {d dx pa wa : Addr} {us : List V} {ps : List Pt} {ws : List Wt}
theorem DeskAt.same (D : DeskAt c cD H d dx pa wa us ps ws) (s : Same H H') : DeskAt c cD H' d dx pa wa us ps ws := ⟨s _ _ D.ob, s _ _ D.pl, D.pt.kp (Same.kp s), s _ _ D.wl, D.ne⟩
theorem DeskAt.pushP (D : DeskAt c cD H d dx pa wa us ps ws) {t : Pt} {v : V} (hv : PatAt c H t v) : DeskAt c cD (upd H pa (.lst (us.reverse ++ [v]))) d dx pa wa (v :: us) (t :: ps) ws := by
  have k := Kp.lst (o := .lst (us.reverse ++ [v])) D.pl
  exact ⟨k _ _ D.ob (fun _ z => nomatch z), by rw [upd_same, List.reverse_cons], ⟨hv.kp k, D.pt.kp k⟩, by rw [upd_ne (Ne.symm D.ne)]; exact D.wl, D.ne⟩
theorem DeskAt.popP {u : V} {t : Pt} (D : DeskAt c cD H d dx pa wa (u :: us) (t :: ps) ws) : DeskAt c cD (upd H pa (.lst us.reverse)) d dx pa wa us ps ws ∧ PatAt c (upd H pa (.lst us.reverse)) t u := by
  have k := Kp.lst (o := .lst us.reverse) D.pl
  exact ⟨⟨k _ _ D.ob (fun _ z => nomatch z), upd_same, D.pt.2.kp k, by rw [upd_ne (Ne.symm D.ne)]; exact D.wl, D.ne⟩, D.pt.1.kp k⟩
theorem DeskAt.pushW (D : DeskAt c cD H d dx pa wa us ps ws) (w : Wt) : DeskAt c cD (upd H wa (.lst (ws.reverse.map wv ++ [wv w]))) d dx pa wa us ps (w :: ws) := by
  have k := Kp.lst (o := .lst (ws.reverse.map wv ++ [wv w])) D.wl
  exact ⟨k _ _ D.ob (fun _ z => nomatch z), by rw [upd_ne D.ne]; exact D.pl, D.pt.kp k, by rw [upd_same, List.reverse_cons, List.map_append]; rfl, D.ne⟩
theorem DeskAt.popW {w : Wt} (D : DeskAt c cD H d dx pa wa us ps (w :: ws)) : DeskAt c cD (upd H wa (.lst (ws.reverse.map wv))) d dx pa wa us ps ws := by
  have k := Kp.lst (o := .lst (ws.reverse.map wv)) D.wl
  exact ⟨k _ _ D.ob (fun _ z => nomatch z), by rw [upd_ne D.ne]; exact D.pl, D.pt.kp k, upd_same, D.ne⟩
theorem DeskAt.wtop {w : Wt} (D : DeskAt c cD H d dx pa wa us ps (w :: ws)) : H wa = some (.lst (ws.reverse.map wv ++ [wv w])) := by
  have := D.wl
  rw [List.reverse_cons, List.map_append] at this
  exact this
theorem DeskAt.ptop {u : V} (D : DeskAt c cD H d dx pa wa (u :: us) ps ws) : H pa = some (.lst (us.reverse ++ [u])) := by
  have := D.pl
  rw [List.reverse_cons] at this
  exact this
theorem DeskAt.one (D : DeskAt c cD H d dx pa wa us ps ws) {t : Pt} {qs : List Pt} (e : ps = t :: qs) : ∃ u vs, us = u :: vs := by
  subst e
  cases us with
  | nil => exact D.pt.elim
  | cons u vs => exact ⟨u, vs, rfl⟩
end
end RA
namespace RA
open PySem L2
theorem dec_mem (c : Nat) (l : List Nat) : decide (c ∈ l) = l.contains c := by
  by_cases h : c ∈ l
  · rw [decide_eq_true h]; simp [h]
  · rw [decide_eq_false h]; simp [h]
theorem occ_one (l : List Nat) (c : Nat) : (!(Builtin.Str.occurrences (tx l) ⟨#[c]⟩ 0 (tx l).length 1).isEmpty) = l.contains c := by
  have e := contains_one l c
  unfold Txt.contains at e
  rw [← dec_mem]
  exact e
theorem one_eq {ch x : Nat} {s : Str} (hl : s = tx [x]) : (V.str (tx [ch]) = V.str s) ↔ ch = x := by
  subst hl
  constructor
  · intro h
    have := tx_inj (V.str.inj h)
    simpa using this
  · intro h
    rw [h]
theorem sg_ne {c : Nat} {s : Str} {l : List Nat} (hl : s = tx l) (hn : l ≠ [c]) : tx [c] ≠ s := fun e => hn (tx_inj (e.trans hl)).symm
def isPre : Tk → Bool
  | .lp => true
  | .un _ => true
  | _ => false
def isBin : Tk → Bool
  | .bin _ => true
  | _ => false
def isRp : Tk → Bool
  | .rp => true
  | _ => false
def isStar : Tk → Bool
  | .star => true
  | _ => false
theorem eqV_str (a b : Str) : eqV (.str a) (.str b) = decide (a = b) := by
  show (a == b) = _
  by_cases h : a = b
  · rw [decide_eq_true h]; exact beq_iff_eq.mpr h
  · rw [decide_eq_false h]; exact beq_eq_false_iff_ne.mpr h
theorem inV_sign {c : Nat} {xs : List V} (h : ∀ x ∈ xs, ∃ s, x = .str s ∧ tx [c] ≠ s) : inV (.str (tx [c])) xs = false := by
  unfold inV
  rw [List.any_eq_false]
  intro x hx
  obtain ⟨s, rfl, hs⟩ := h x hx
  simp only [eqV_str, decide_eq_true_eq]
  first | exact hs | exact fun e => hs e.symm | (intro e; exact hs e) | (intro e; exact hs e.symm)
theorem in_pre {t : Tk} (h : t.ok) : inV (tv t) [.str (Str.ofString "("), .str (Str.ofString "outside"), .str (Str.ofString "turned")] = isPre t := by
  cases t with
  | lp => decide +kernel
  | rp => decide +kernel
  | star => decide +kernel
  | un k => cases k <;> decide +kernel
  | bin k => cases k <;> decide +kernel
  | piece p =>
    cases p with
    | leaf k => cases k <;> decide +kernel
    | sign c =>
      refine inV_sign fun x hx => ?_
      have h : 97 ≤ c ∧ c ≤ 122 := h
      simp only [List.mem_cons, List.not_mem_nil, or_false] at hx
      rcases hx with rfl | rfl | rfl
      · exact ⟨_, rfl, sg_ne (l := [40]) (by decide +kernel) (by intro e; simp at e; omega)⟩
      · exact ⟨_, rfl, sg_ne (l := [111, 117, 116, 115, 105, 100, 101]) (by decide +kernel) (by intro e; simp at e)⟩
      · exact ⟨_, rfl, sg_ne (l := [116, 117, 114, 110, 101, 100]) (by decide +kernel) (by intro e; simp at e)⟩
    | one _ _ => exact (show False from h).elim
    | two _ _ _ => exact (show False from h).elim
theorem in_bin {t : Tk} (h : t.ok) : inV (tv t) [.str (Str.ofString "either"), .str (Str.ofString "less"), .str (Str.ofString "both"), .str (Str.ofString "then")] = isBin t := by
  cases t with
  | lp => decide +kernel
  | rp => decide +kernel
  | star => decide +kernel
  | un k => cases k <;> decide +kernel
  | bin k => cases k <;> decide +kernel
  | piece p =>
    cases p with
    | leaf k => cases k <;> decide +kernel
    | sign c =>
      refine inV_sign fun x hx => ?_
      simp only [List.mem_cons, List.not_mem_nil, or_false] at hx
      rcases hx with rfl | rfl | rfl | rfl
      · exact ⟨_, rfl, sg_ne (l := [101, 105, 116, 104, 101, 114]) (by decide +kernel) (by intro e; simp at e)⟩
      · exact ⟨_, rfl, sg_ne (l := [108, 101, 115, 115]) (by decide +kernel) (by intro e; simp at e)⟩
      · exact ⟨_, rfl, sg_ne (l := [98, 111, 116, 104]) (by decide +kernel) (by intro e; simp at e)⟩
      · exact ⟨_, rfl, sg_ne (l := [116, 104, 101, 110]) (by decide +kernel) (by intro e; simp at e)⟩
    | one _ _ => exact (show False from h).elim
    | two _ _ _ => exact (show False from h).elim
theorem eq_rp {t : Tk} (h : t.ok) : decide (tv t = V.str (Str.ofString ")")) = isRp t := by
  cases t with
  | lp => decide +kernel
  | rp => decide +kernel
  | star => decide +kernel
  | un k => cases k <;> decide +kernel
  | bin k => cases k <;> decide +kernel
  | piece p =>
    cases p with
    | leaf k => cases k <;> decide +kernel
    | sign c =>
      have h : 97 ≤ c ∧ c ≤ 122 := h
      exact decide_eq_false (fun e => sg_ne (l := [41]) (by decide +kernel) (by intro e; simp at e; omega) (V.str.inj e))
    | one _ _ => exact (show False from h).elim
    | two _ _ _ => exact (show False from h).elim
theorem eq_star {t : Tk} (h : t.ok) : decide (tv t = V.str (Str.ofString "again")) = isStar t := by
  cases t with
  | lp => decide +kernel
  | rp => decide +kernel
  | star => decide +kernel
  | un k => cases k <;> decide +kernel
  | bin k => cases k <;> decide +kernel
  | piece p =>
    cases p with
    | leaf k => cases k <;> decide +kernel
    | sign c => exact decide_eq_false (fun e => sg_ne (l := [97, 103, 97, 105, 110]) (by decide +kernel) (by intro e; simp at e) (V.str.inj e))
    | one _ _ => exact (show False from h).elim
    | two _ _ _ => exact (show False from h).elim
theorem toks_ok : ∀ {w : List Nat} (b : Bool), (∀ c ∈ w, SgOk c) → ∀ t ∈ toks b w, t.ok
  | [], _, _, t, ht => by simp [toks] at ht
  | c :: cs, b, h, t, ht => by
    unfold toks at ht
    rcases List.mem_append.mp ht with ht | ht
    · split at ht
      · obtain rfl : t = .bin .then_ := by simpa using ht
        exact True.intro
      · simp at ht
    · rcases List.mem_cons.mp ht with rfl | ht
      · exact tok_ok (h c (by simp))
      · exact toks_ok _ (fun d hd => h d (by simp [hd])) t ht
end RA
namespace RA
open PySem L2
def spDesk (K : PySem.W.Frag) (c : Kd → Addr) : Sp := fun vs H Q _ => ∃ d dx C, vs = [.ref d] ∧ H d = some (.ins C dx []) ∧ Cls K C ∧ NoAttr K C "patterns" ∧ NoAttr K C "waiting" ∧
  ∀ pa wa H', (∀ b o, H b = some o → b ≠ d → H' b = some o) → DeskAt c C H' d dx pa wa [] [] [] → H pa = none → H wa = none → Q .non H'
structure RdKit (P : Program) (w : World) (K : PySem.W.Frag) (mg : Str → Option Value) (base : Heap) (c : Kd → Addr) (cD d1 d2 d3 : Addr) : Prop where
  kS : mg "SIGNS" = some (.ref d1)
  kK : mg "KINDS" = some (.ref d2)
  kT : mg "STRENGTHS" = some (.ref d3)
  dS : DictK P w K d1 dSIGNS
  dK : DictK P w K d2 dKINDS
  dT : DictK P w K d3 dSTR
  kD : mg "Desk" = some (.ref cD)
  cl : Cls K cD
  nP : NoAttr K cD "patterns"
  nW : NoAttr K cD "waiting"
  ini : ∃ f fd, Mk K cD f ∧ FnOk P w K mg base CX0 1 f fd ["self"] (spDesk K c) ∧ Binds K fd ["self"] []
def spText (c : Kd → Addr) (n : Nat) : Sp := fun vs H Q _ => ∃ (a : Addr) (t : Pt), vs = [.ref a] ∧ PatAt c H t (.ref a) ∧ t.dep ≤ n ∧ t.sz ≤ 1000 ∧ ∀ H', Same H H' → Q (.str (tx (txtM t))) H'
end RA
namespace RA
open PySem L2
def Ents (w : World) : List DictEntry → List (Key × V) → Prop
  | [], [] => True
  | e :: es, kv :: kvs => (∃ x t, e.key = .str x t ∧ kv.1 = .inr x ∧ e.hash = PyData.keyHash w.params x) ∧ RelV kv.2 e.val ∧ Ents w es kvs
  | _, _ => False
theorem Ents.all {P : Program} {w : World} : ∀ {es : List DictEntry} {kvs : List (Key × V)}, Ents w es kvs → (∀ e ∈ es, ∃ k, (mixKind P w).is k e.key = true ∧ e.hash = (mixKind P w).hash k) ∧ ∃ vs, KV kvs vs ∧ Pairs (mixKind P w) es vs
  | [], [], _ => ⟨fun e he => by simp at he, [], .nil, .nil⟩
  | e :: es, (k, v) :: kvs, ⟨⟨x, t, e1, e2, e3⟩, hv, hr⟩ => by
    obtain ⟨i1, vs, i2, i3⟩ := Ents.all (P := P) hr
    have e2 : k = .inr x := e2
    subst e2
    have hk : (mixKind P w).is (Sum.inr x) e.key = true := by rw [e1]; exact mixKind_str P w x t
    refine ⟨fun e' he => ?_, (Sum.inr x, e.val) :: vs, .cons ⟨rfl, hv⟩ i2, .cons hk rfl i3⟩
    rcases List.mem_cons.mp he with rfl | he
    · exact ⟨Sum.inr x, hk, e3⟩
    · exact i1 e' he
theorem dictK_of {P : Program} {w : World} {K : PySem.W.Frag} {d : Addr} {es : Array DictEntry} {n : Nat} {kvs : List (Key × V)} (l : K.lookup d = some { cls := .type "dict", data := .dict es n }) (h : Ents w es.toList kvs) (hn : (kvs.map (·.1)).Nodup) (hs : (d == sysModules) = false) : DictK P w K d kvs := by
  obtain ⟨i1, vs, i2, i3⟩ := h.all (P := P)
  refine ⟨fun h0 X => ⟨vs, i2, _, es, n, X _ _ l, ⟨rfl, rfl, rfl⟩, rfl, fun e he => i1 e (Array.mem_toList_iff.mpr he), i3, ?_⟩, hs⟩
  have : kvs.map (·.1) = vs.map (·.1) := by
    clear hn h l i1 i3
    induction i2 with
    | nil => rfl
    | cons h t ih => rw [List.map_cons, List.map_cons, ih, h.1]
  rw [← this]
  exact hn
structure TxKit (P : Program) (w : World) (K : PySem.W.Frag) (mg : Str → Option Value) (base : Heap) (c : Kd → Addr) : Prop where
  tx : ∃ f fd, (∀ k, Meth K (c k) "text" f) ∧ Binds K fd ["self"] [] ∧ ∀ n, FnOk P w K mg base CX0 (2 * n + 1) f fd ["self"] (spText c n)
theorem nd_SIGNS : (dSIGNS.map (·.1)).Nodup := by decide +kernel
theorem nd_KINDS : (dKINDS.map (·.1)).Nodup := by decide +kernel
theorem nd_STR : (dSTR.map (·.1)).Nodup := by decide +kernel
end RA
namespace RA
open PySem L2
section
variable {R R' : Pt → V → Prop}
end
end RA
namespace RA
open PySem L2
end RA
namespace RA
open PySem L2
theorem ents_nil {w : World} : Ents w [] [] := trivial
theorem ents_cons {w : World} {e : DictEntry} {es : List DictEntry} {kv : Key × V} {kvs : List (Key × V)} {x : Str} {t : Tok} (h1 : e.key = .str x t) (h2 : kv.1 = .inr x) (h3 : e.hash = PyData.keyHash w.params x) (h4 : RelV kv.2 e.val) (r : Ents w es kvs) : Ents w (e :: es) (kv :: kvs) := ⟨⟨x, t, h1, h2, h3⟩, h4, r⟩
theorem rvs {x y : Str} {t : Tok} (h : y = x) : RelV (.str x) (.str y t) := ⟨t, by rw [h]⟩
end RA
namespace RA
open PySem L2
end RA
namespace RA
open PySem L2
def nbW : List Wt → Nat
  | [] => 0
  | .bin _ :: ws => nbW ws + 1
  | _ :: ws => nbW ws
def nlW : List Wt → Nat
  | [] => 0
  | .lp :: ws => nlW ws + 1
  | _ :: ws => nlW ws
def Wst (d : Nat) (ws : List Wt) : Prop := (∃ w0, ws = w0 ++ [.lp]) ∧ nlW ws = d + 1
def Pst (d : Nat) (b : Bool) (r : List Pt × List Wt) : Prop := Wst d r.2 ∧ r.1.length = nbW r.2 + if b then 0 else 1
theorem Wst.tail {d : Nat} {w : Wt} {ws : List Wt} (h : Wst d (w :: ws)) (hn : w ≠ .lp) : Wst d ws := by
  obtain ⟨⟨w0, e⟩, hl⟩ := h
  cases w0 with
  | nil => exact absurd (List.cons.inj e).1 hn
  | cons a w0 =>
    refine ⟨⟨w0, (List.cons.inj e).2⟩, ?_⟩
    cases w with
    | lp => exact absurd rfl hn
    | un k => exact hl
    | bin k => exact hl
theorem Wst.push {d : Nat} {w : Wt} {ws : List Wt} (h : Wst d ws) (hn : w ≠ .lp) : Wst d (w :: ws) := by
  obtain ⟨⟨w0, rfl⟩, hl⟩ := h
  refine ⟨⟨w :: w0, rfl⟩, ?_⟩
  cases w with
  | lp => exact absurd rfl hn
  | un k => exact hl
  | bin k => exact hl
theorem settle_any {n d : Nat} (hn : 1 ≤ n) : ∀ (ws : List Wt) (ps : List Pt), Pst d false (ps, ws) → ∃ r, settleM n ps ws = some r ∧ Pst d false r ∧ ∃ a s, r.2 = a :: s ∧ a.str < n
  | [], ps, h => by
    obtain ⟨⟨⟨w0, e⟩, _⟩, _⟩ := h
    simp at e
  | w :: ws, ps, h => by
    by_cases c : n ≤ w.str
    · unfold settleM
      rw [if_pos c]
      have hw : w ≠ .lp := fun e => by rw [e] at c; exact absurd c (by show ¬ n ≤ 0; omega)
      have hl : ps.length = nbW (w :: ws) + 1 := h.2
      cases w with
      | lp => exact absurd rfl hw
      | un k =>
        cases ps with
        | nil => simp at hl
        | cons x qs => exact settle_any hn ws (.one k.k1 x :: qs) ⟨h.1.tail hw, hl⟩
      | bin k =>
        have hl : ps.length = nbW ws + 1 + 1 := hl
        match ps, hl with
        | [x], hl => simp at hl
        | y :: x :: qs, hl => exact settle_any hn ws (.two k x y :: qs) ⟨h.1.tail hw, by simpa using hl⟩
    · refine ⟨(ps, w :: ws), ?_, h, w, ws, rfl, by omega⟩
      unfold settleM
      rw [if_neg c]
theorem put_bin {d : Nat} {r : List Pt × List Wt} (k : K2) (h : Pst d false r) : ∃ r', putM r.1 r.2 (.bin k) = some r' ∧ Pst d true r' := by
  obtain ⟨r', e, p, _⟩ := settle_any (n := lvl k + 1) (Nat.succ_le_succ (Nat.zero_le _)) r.2 r.1 h
  refine ⟨(r'.1, .bin k :: r'.2), by show (settleM (lvl k + 1) r.1 r.2).map _ = _; rw [e]; rfl, p.1.push (fun z => nomatch z), ?_⟩
  exact p.2
theorem put_rp {d : Nat} {r : List Pt × List Wt} (h : Pst d false r) : ∃ ps ws, putM r.1 r.2 .rp = some (ps, ws) ∧ ps.length = nbW ws + 1 ∧ nlW ws = d ∧ ((∃ w0, ws = w0 ++ [.lp]) ∨ ws = []) := by
  obtain ⟨⟨ps, ws⟩, e, p, a, s, es, ha⟩ := settle_any (n := 1) (Nat.le_refl _) r.2 r.1 h
  obtain rfl : ws = a :: s := es
  cases a with
  | un k => exact absurd ha (by show ¬ 4 < 1; decide)
  | bin k => exact absurd ha (by show ¬ lvl k + 1 < 1; omega)
  | lp =>
    refine ⟨ps, s, by show (settleM 1 r.1 r.2).bind popM = _; rw [e]; rfl, p.2, Nat.succ.inj p.1.2, ?_⟩
    obtain ⟨⟨w0, e0⟩, _⟩ := p.1
    cases w0 with
    | nil => exact .inr (List.cons.inj e0).2
    | cons b w0 => exact .inl ⟨w0, (List.cons.inj e0).2⟩
theorem nl_app (w0 : List Wt) : 0 < nlW (w0 ++ [.lp]) := by
  induction w0 with
  | nil => exact Nat.succ_pos _
  | cons a w0 ih => cases a with
    | lp => exact Nat.succ_pos _
    | un k => exact ih
    | bin k => exact ih
theorem canS_cases {L : List Nat} {c d : Nat} {b : Bool} (hL : LetS L) (h : canS L c b d = true) :
    (97 ≤ c ∧ c ≤ 122) ∨ c ∈ [48, 49, 46] ∨ c ∈ [33, 60] ∨ c = 40 ∨ (c = 41 ∧ 0 < d ∧ b = false) ∨ (c = 42 ∧ b = false) ∨ (c ∈ [38, 124, 45] ∧ b = false) := by
  unfold canS at h
  by_cases h1 : (L.contains c || [48, 49, 46, 33, 60, 40].contains c) = true
  · rw [Bool.or_eq_true] at h1
    rcases h1 with z | z
    · exact .inl (hL c (by simpa using z))
    · simp at z
      simp
      omega
  · rw [if_neg h1] at h
    by_cases h2 : c = 41
    · rw [if_pos h2] at h
      simp at h
      exact .inr (.inr (.inr (.inr (.inl ⟨h2, h.1, h.2⟩))))
    · rw [if_neg h2] at h
      simp at h
      obtain ⟨z, rfl⟩ := h
      simp
      omega
theorem put_beg {d c : Nat} {b : Bool} {r : List Pt × List Wt} (h : Pst d b r) (hB : isB c = false) (rest : List Tk) :
    ∃ r', Pst d true r' ∧ putsM ((if (!b && !isB c) = true then [.bin .then_] else []) ++ tok c :: rest) r = (putM r'.1 r'.2 (tok c)).bind (putsM rest) := by
  cases b with
  | true => exact ⟨r, h, rfl⟩
  | false =>
    obtain ⟨r', e, p⟩ := put_bin .then_ h
    refine ⟨r', p, ?_⟩
    rw [hB]
    show (putM r.1 r.2 (.bin .then_)).bind _ = _
    rw [e]
    rfl
theorem put_sign {L : List Nat} (hL : LetS L) {d c : Nat} {b : Bool} {r : List Pt × List Wt} (h : Pst d b r) (hc : canS L c b d = true) (rest : List Tk) :
    ∃ r', Pst (dAfter c d) (isW c) r' ∧ putsM ((if (!b && !isB c) = true then [.bin .then_] else []) ++ tok c :: rest) r = putsM rest r' := by
  have pc : ∀ {t : Pt}, tok c = .piece t → isB c = false → isW c = false → dAfter c d = d → ∃ r', Pst (dAfter c d) (isW c) r' ∧ putsM ((if (!b && !isB c) = true then [.bin .then_] else []) ++ tok c :: rest) r = putsM rest r' := by
    intro t e1 e2 e3 e4
    obtain ⟨r', p, e⟩ := put_beg h e2 rest
    refine ⟨(t :: r'.1, r'.2), ?_, by rw [e, e1]; rfl⟩
    rw [e3, e4]
    exact ⟨p.1, by show r'.1.length + 1 = _; rw [p.2]; rfl⟩
  rcases canS_cases hL hc with z | z | z | rfl | ⟨rfl, hd, rfl⟩ | ⟨rfl, rfl⟩ | ⟨z, rfl⟩
  · obtain ⟨f1, f2, f3⟩ := sign_facts z
    exact pc f3 f2 f1 (dAfter_ne (by omega) (by omega))
  · simp only [List.mem_cons, List.not_mem_nil, or_false] at z
    rcases z with rfl | rfl | rfl
    · exact pc (t := .leaf .never) rfl rfl rfl rfl
    · exact pc (t := .leaf .empty) rfl rfl rfl rfl
    · exact pc (t := .leaf .any) rfl rfl rfl rfl
  · have un : ∀ k : U2, tok c = .un k → isB c = false → isW c = true → dAfter c d = d → ∃ r', Pst (dAfter c d) (isW c) r' ∧ putsM ((if (!b && !isB c) = true then [.bin .then_] else []) ++ tok c :: rest) r = putsM rest r' := by
      intro k e1 e2 e3 e4
      obtain ⟨r', p, e⟩ := put_beg h e2 rest
      refine ⟨(r'.1, .un k :: r'.2), ?_, by rw [e, e1]; rfl⟩
      rw [e3, e4]
      exact ⟨p.1.push (fun z => nomatch z), p.2⟩
    simp only [List.mem_cons, List.not_mem_nil, or_false] at z
    rcases z with rfl | rfl
    · exact un .outside rfl rfl rfl rfl
    · exact un .turned rfl rfl rfl rfl
  · obtain ⟨r', p, e⟩ := put_beg (c := 40) h rfl rest
    refine ⟨(r'.1, .lp :: r'.2), ?_, by rw [e]; rfl⟩
    obtain ⟨⟨⟨w0, e0⟩, hl⟩, hp⟩ := p
    exact ⟨⟨⟨.lp :: w0, by rw [e0]; rfl⟩, by show nlW r'.2 + 1 = d + 1 + 1; rw [hl]⟩, hp⟩
  · obtain ⟨ps, ws, e, p1, p2, p3⟩ := put_rp h
    refine ⟨(ps, ws), ?_, by show (putM r.1 r.2 .rp).bind (putsM rest) = _; rw [e]; rfl⟩
    refine ⟨⟨p3.elim id fun z => ?_, ?_⟩, p1⟩
    · rw [z] at p2
      exact absurd p2.symm (Nat.ne_of_gt hd)
    · show nlW ws = d - 1 + 1
      omega
  · obtain ⟨ps, ws⟩ := r
    have hl : ps.length = nbW ws + 1 := h.2
    cases ps with
    | nil => simp at hl
    | cons x qs => exact ⟨(.one .again x :: qs, ws), ⟨h.1, hl⟩, rfl⟩
  · simp only [List.mem_cons, List.not_mem_nil, or_false] at z
    rcases z with rfl | rfl | rfl
    · obtain ⟨r', e, p⟩ := put_bin .both h
      exact ⟨r', p, by show (putM r.1 r.2 (.bin .both)).bind (putsM rest) = _; rw [e]; rfl⟩
    · obtain ⟨r', e, p⟩ := put_bin .either h
      exact ⟨r', p, by show (putM r.1 r.2 (.bin .either)).bind (putsM rest) = _; rw [e]; rfl⟩
    · obtain ⟨r', e, p⟩ := put_bin .less h
      exact ⟨r', p, by show (putM r.1 r.2 (.bin .less)).bind (putsM rest) = _; rw [e]; rfl⟩
theorem scan_puts {L : List Nat} (hL : LetS L) : ∀ (w : List Nat) (d : Nat) (b : Bool) (d' : Nat) (b' : Bool) (r : List Pt × List Wt), scan L d b w = some (d', b') → Pst d b r → ∃ r', putsM (toks b w) r = some r' ∧ Pst d' b' r' ∧ endW b w = b'
  | [], d, b, d', b', r, h, p => by
    cases h
    exact ⟨r, rfl, p, rfl⟩
  | c :: w, d, b, d', b', r, h, p => by
    unfold scan at h
    by_cases hc : canS L c b d = true
    · rw [if_pos hc] at h
      obtain ⟨r1, p1, e1⟩ := put_sign hL p hc (toks (isW c) w)
      obtain ⟨r', e, p', e'⟩ := scan_puts hL w _ _ d' b' r1 h p1
      exact ⟨r', e1.trans e, p', e'⟩
    · rw [if_neg hc] at h
      cases h
theorem scan_read {L : List Nat} (hL : LetS L) {w : List Nat} (h : scan L 0 true w = some (0, false)) : ∃ t, putsM (toks true (40 :: (w ++ [41]))) ([], []) = some ([t], []) := by
  obtain ⟨r, e, p, el⟩ := scan_puts hL w 0 true 0 false ([], [.lp]) h ⟨⟨⟨[], rfl⟩, rfl⟩, rfl⟩
  obtain ⟨ps, ws, e2, p1, p2, p3⟩ := put_rp p
  have hws : ws = [] := p3.elim (fun ⟨w0, z⟩ => by rw [z] at p2; exact absurd p2 (Nat.ne_of_gt (nl_app w0))) id
  subst hws
  obtain ⟨t, rfl⟩ := List.length_eq_one_iff.mp p1
  refine ⟨t, ?_⟩
  show putsM (toks true (w ++ [41])) ([], [.lp]) = _
  rw [toks_app, el, putsM_app, e]
  show (putM r.1 r.2 .rp).bind (putsM []) = _
  rw [e2]
  rfl
theorem scan_sgs {L : List Nat} (hL : LetS L) : ∀ (w : List Nat) (d : Nat) (b : Bool) (r : Nat × Bool), scan L d b w = some r → ∀ c ∈ w, (97 ≤ c ∧ c ≤ 122) ∨ c ∈ [40, 41, 42, 33, 60, 124, 45, 38, 48, 49, 46]
  | [], _, _, _, _, c, hc => nomatch hc
  | x :: w, d, b, r, h, c, hc => by
    unfold scan at h
    by_cases hx : canS L x b d = true
    · rw [if_pos hx] at h
      rcases List.mem_cons.mp hc with rfl | hc
      · have z := canS_cases hL hx
        simp only [List.mem_cons, List.not_mem_nil, or_false] at z ⊢
        omega
      · exact scan_sgs hL w _ _ r h c hc
    · rw [if_neg hx] at h
      cases h
end RA
namespace L2
open PySem PySem.Spec PyProof.Rows
section
variable {X : Cx}
def Int5 (i : Nat) (σ : St) : Prop := ∃ n : Nat, σ[i]? = some (some (.int (n : Int))) ∧ n ≤ 300
theorem text300 : (List.range 301).all (fun n => decide ((toString ((n : Nat) : Int) : Str).length ≤ 100000)) = true := by decide +kernel
theorem fp_intV {c : St → Prop} {v : Expr} {pos : Pos} (i : Nat) (hv : PE X v (tVar i)) (k : ∀ σ, c σ → Int5 i σ) : FPart X (.FormattedValue v (-1) none pos) c := fun pins s σ H Q I hc q => by
  obtain ⟨n, e, hn⟩ := k σ hc
  refine PyProof.Rows.FormattedValue_plain (thn (hv pins s σ H (fun w H1 => w = .int (n : Int) ∧ H1 = H) I ⟨_, e, rfl, rfl⟩) fun u s1 ⟨w, H1, I1, r1, e1, e2⟩ => ?_)
  subst e1 e2
  obtain ⟨t, rfl⟩ := r1
  have hl : ((n : Int)).natAbs.log2 < 1920 := by
    rw [Int.natAbs_natCast]
    exact Nat.lt_of_le_of_lt (Nat.log2_le_self n) (by omega)
  have hz := of_decide_eq_true (List.all_eq_true.mp text300 n (List.mem_range.mpr (by omega)))
  exact wpAny_formatField_int hl (q _ _ _ (I1.tok _) hz)
end
end L2
namespace RA
open PySem L2
def failsAt (L : List Nat) : Nat → Bool → Nat → List Nat → Option Nat
  | d, b, i, [] => if (b || decide (0 < d)) = true then some i else none
  | d, b, i, c :: cs => if canS L c b d = true then failsAt L (dAfter c d) (isW c) (i + 1) cs else some i
theorem fails_scan (L : List Nat) : ∀ (w : List Nat) (d : Nat) (b : Bool) (i : Nat), failsAt L d b i w = none → scan L d b w = some (0, false)
  | [], d, b, i, h => by
    unfold failsAt at h
    by_cases z : (b || decide (0 < d)) = true
    · rw [if_pos z] at h; cases h
    · rw [Bool.or_eq_true, not_or] at z
      obtain ⟨z1, z2⟩ := z
      have : d = 0 := by simpa using z2
      have : b = false := by simpa using z1
      subst d b
      rfl
  | c :: w, d, b, i, h => by
    unfold failsAt at h
    by_cases z : canS L c b d = true
    · rw [if_pos z] at h
      unfold scan
      rw [if_pos z]
      exact fails_scan L w _ _ _ h
    · rw [if_neg z] at h; cases h
theorem cut_len (y : Str) {i : Int} (h0 : 0 ≤ i) (h1 : i ≤ y.length) : (Txt.slice y none (some i)).length + (Txt.slice y (some i) none).length ≤ y.length := by
  have hl : y.length = y.cps.toList.length := by rw [Array.length_toList]; rfl
  rw [slice_to y h0, slice_from y h0 (by rw [← hl]; exact h1), tx_len, tx_len, List.length_take, List.length_drop, hl]
  omega
theorem mul_len (c : Nat) {n : Int} (h : 0 ≤ n) : (Txt.mul ⟨#[c]⟩ n).length = n.toNat := by
  rw [mul_one c h, tx_len, List.length_replicate]
def FailAt (H : Hp) (d : Addr) (k : Nat) : Prop := H d = some (dctD d [("at", .int (k : Int))])
theorem FailAt.same {H H' : Hp} {d : Addr} {k : Nat} (h : FailAt H d k) (s : Same H H') : FailAt H' d k := s _ _ h
end RA
namespace K35
open PySem L2 RA
def top (i : Nat) : Stmt := PySem.Challenge.pw_roomalgebra_k35_where_a_text_fails.main.body.getD i (.Pass ⟨0, 0, 0, 0⟩)
abbrev s_is_letters : Stmt := top 13
abbrev s_need_letters : Stmt := top 14
abbrev s_is_wanting : Stmt := top 77
abbrev s_can_stand : Stmt := top 76
abbrev s_need_pattern : Stmt := top 75
abbrev s_piece_of : Stmt := top 83
abbrev s_pair_of : Stmt := top 84
abbrev s_settle : Stmt := top 82
abbrev s_put : Stmt := top 81
abbrev s_tokens_of : Stmt := top 80
abbrev s_pattern_of : Stmt := top 79
abbrev s_read : Stmt := top 74
abbrev s__law_cell_at : Stmt := top 86
abbrev s__law_letters : Stmt := top 87
abbrev s__law_whole : Stmt := top 88
abbrev s__law_kinds : Stmt := top 89
abbrev s__law_sign : Stmt := top 90
abbrev s__law_text : Stmt := top 91
abbrev s__law_foreign : Stmt := top 92
abbrev s__law_others : Stmt := top 93
abbrev s__law_no_letters : Stmt := top 94
abbrev s__law_other_sign : Stmt := top 95
abbrev s__law_spoilt : Stmt := top 96
abbrev s__law_fails : Stmt := top 97
abbrev s__law_read : Stmt := top 98
abbrev s_law : Stmt := top 99
abbrev i_Sign : Stmt := inClass (top 62) 0
abbrev i_Pair : Stmt := inClass (top 64) 0
abbrev i_Around : Stmt := inClass (top 69) 0
abbrev h_Never : Stmt := inClass (top 60) 0
abbrev h_Empty : Stmt := inClass (top 61) 0
abbrev h_AnySign : Stmt := inClass (top 63) 0
abbrev h_Sign : Stmt := inClass (top 62) 1
abbrev h_Outside : Stmt := inClass (top 70) 0
abbrev h_Turned : Stmt := inClass (top 71) 0
abbrev h_Again : Stmt := inClass (top 72) 0
abbrev h_Either : Stmt := inClass (top 65) 0
abbrev h_Less : Stmt := inClass (top 66) 0
abbrev h_Both : Stmt := inClass (top 67) 0
abbrev h_Then : Stmt := inClass (top 68) 0
abbrev i_Desk : Stmt := inClass (top 78) 0
abbrev h_text : Stmt := inClass (top 59) 1
structure Txt (K : PySem.W.Frag) (mg : Str → Option Value) (c_RoomError c_NoLetters c_NoWord c_NoNumber c_NoRoom c_NoMachine c_OtherLetters c_TooMany c_NoPattern c_TooGreat c_NoKind : Addr) : Prop where
  k_RoomError : mg "RoomError" = some (.ref c_RoomError)
  k_NoLetters : mg "NoLetters" = some (.ref c_NoLetters)
  k_NoWord : mg "NoWord" = some (.ref c_NoWord)
  k_NoNumber : mg "NoNumber" = some (.ref c_NoNumber)
  k_NoRoom : mg "NoRoom" = some (.ref c_NoRoom)
  k_NoMachine : mg "NoMachine" = some (.ref c_NoMachine)
  k_OtherLetters : mg "OtherLetters" = some (.ref c_OtherLetters)
  k_TooMany : mg "TooMany" = some (.ref c_TooMany)
  k_NoPattern : mg "NoPattern" = some (.ref c_NoPattern)
  k_TooGreat : mg "TooGreat" = some (.ref c_TooGreat)
  k_NoKind : mg "NoKind" = some (.ref c_NoKind)
  o_NoLetters : OwnX K c_NoLetters
  e_NoLetters : ExcCls K c_NoLetters
  m_NoLetters : PySem.W.exmOne K (.ref c_NoLetters) (.ref c_RoomError) = some true
  i_NoLetters_NoLetters : PySem.W.kitOne K (.ref c_NoLetters) (.ref c_NoLetters) = some true
  i_NoLetters_NoWord : PySem.W.kitOne K (.ref c_NoLetters) (.ref c_NoWord) = some false
  i_NoLetters_NoNumber : PySem.W.kitOne K (.ref c_NoLetters) (.ref c_NoNumber) = some false
  i_NoLetters_NoRoom : PySem.W.kitOne K (.ref c_NoLetters) (.ref c_NoRoom) = some false
  i_NoLetters_NoMachine : PySem.W.kitOne K (.ref c_NoLetters) (.ref c_NoMachine) = some false
  i_NoLetters_OtherLetters : PySem.W.kitOne K (.ref c_NoLetters) (.ref c_OtherLetters) = some false
  i_NoLetters_TooMany : PySem.W.kitOne K (.ref c_NoLetters) (.ref c_TooMany) = some false
  i_NoLetters_NoPattern : PySem.W.kitOne K (.ref c_NoLetters) (.ref c_NoPattern) = some false
  i_NoLetters_TooGreat : PySem.W.kitOne K (.ref c_NoLetters) (.ref c_TooGreat) = some false
  i_NoLetters_NoKind : PySem.W.kitOne K (.ref c_NoLetters) (.ref c_NoKind) = some false
  v_NoLetters : PySem.W.kitOne K (.ref c_NoLetters) (.type "ValueError") = some true
  e_NoPattern : ExcCls K c_NoPattern
  m_NoPattern : PySem.W.exmOne K (.ref c_NoPattern) (.ref c_RoomError) = some true
  i_NoPattern_NoLetters : PySem.W.kitOne K (.ref c_NoPattern) (.ref c_NoLetters) = some false
  i_NoPattern_NoWord : PySem.W.kitOne K (.ref c_NoPattern) (.ref c_NoWord) = some false
  i_NoPattern_NoNumber : PySem.W.kitOne K (.ref c_NoPattern) (.ref c_NoNumber) = some false
  i_NoPattern_NoRoom : PySem.W.kitOne K (.ref c_NoPattern) (.ref c_NoRoom) = some false
  i_NoPattern_NoMachine : PySem.W.kitOne K (.ref c_NoPattern) (.ref c_NoMachine) = some false
  i_NoPattern_OtherLetters : PySem.W.kitOne K (.ref c_NoPattern) (.ref c_OtherLetters) = some false
  i_NoPattern_TooMany : PySem.W.kitOne K (.ref c_NoPattern) (.ref c_TooMany) = some false
  i_NoPattern_NoPattern : PySem.W.kitOne K (.ref c_NoPattern) (.ref c_NoPattern) = some true
  i_NoPattern_TooGreat : PySem.W.kitOne K (.ref c_NoPattern) (.ref c_TooGreat) = some false
  i_NoPattern_NoKind : PySem.W.kitOne K (.ref c_NoPattern) (.ref c_NoKind) = some false
  v_NoPattern : PySem.W.kitOne K (.ref c_NoPattern) (.type "ValueError") = some true
  len : mg "len" = none
  range : mg "range" = none
  isinst : mg "isinstance" = none
  int : mg "int" = none
  bool : mg "bool" = none
  tuple : mg "tuple" = none
  list : mg "list" = none
  str : mg "str" = none
  enum : mg "enumerate" = none
  verr : mg "ValueError" = none
def sp_isletters2 : Sp := fun vs H Q _ => ∃ (L : List Nat), vs = [.str (tx L)] ∧ Sm L ∧ (Let L → Q (.bl true) H) ∧ (¬ Let L → Q (.bl false) H)
def sp_needlettersX (cNL : Addr) : Sp := fun vs H Q E => ∃ (L : List Nat), vs = [.str (tx L)] ∧ Sm L ∧ (Let L → Q .non H) ∧ (¬ Let L → E (.ref cNL) none H)
def sp_iswanting : Sp := fun vs H Q _ => ∃ ch : Nat, vs = [.str (tx [ch])] ∧ Q (.bl (isW ch)) H
def sp_canstand : Sp := fun vs H Q _ => ∃ (L : List Nat) (ch : Nat) (w : Bool) (dd : Nat), vs = [.str (tx L), .str (tx [ch]), .bl w, .int (dd : Int)] ∧ Q (.bl (canS L ch w dd)) H
abbrev s_xinit : Stmt := inClass (top 9) 0
structure NpK (K : PySem.W.Frag) (mg : Str → Option Value) (cNP cRE fX : Addr) (fdX : FuncData) : Prop where
  kT : mg "NoPattern" = some (.ref cNP)
  kR : mg "RoomError" = some (.ref cRE)
  own : OwnI K cNP fX
  xc : XCls K cNP
  na : NoAttr K cNP "at"
  bi : BaseI K cRE
  fn : PySem.W.isFn K (.ref fX) = true
  ini : Fun K "__init__" "NoPattern.__init__" s_xinit fX fdX
def sp_npinit (cNP : Addr) : Sp := fun vs H Q _ => ∃ (e : Addr) (k : Nat), vs = [.ref e, .int (k : Int)] ∧ k ≤ 300 ∧ H e = some (excD e cNP none) ∧
  ∀ (H' : Hp) (d : Addr), (∀ b o, b ≠ e → H b = some o → H' b = some o) → H' e = some (excD e cNP (some d)) → H d = none → FailAt H' d k → Q .non H'
theorem  sc_xinit : FnScope ["self", "at"] ["self", "at"] (defScope s_xinit) := ⟨rfl, rfl, rfl, by decide +kernel, rfl, by decide +kernel, by decide +kernel⟩
theorem ok_xinit {P : Program} {w : World} {K : PySem.W.Frag} {mg : Str → Option Value} {base : Heap} {cNP cRE fX : Addr} {fdX : FuncData} (NP : NpK K mg cNP cRE fX fdX) : FnOk P w K mg base CX0 1 fX fdX ["self", "at"] (sp_npinit cNP) := by
  refine NP.ini.ok sc_xinit (fun vs H Q E h => ?_) (fun cdv A outer s H vs Q E hr h => ?_)
  · obtain ⟨e, k, rfl, _⟩ := h
    rfl
  · obtain ⟨e, k, rfl, hk, he, q⟩ := h
    refine ⟨_, (pss_cons (ps_expr (pe_baseI NP.bi NP.kR (pa_cons (pv 0) (pa_cons (pe_msg (c := Int5 1) ⟨fp_const, fp_intV 1 (pv 1) (fun _ z => z), fp_const, trivial⟩) pa_nil)))) (pss_one ((ps_fldX (f := "at") rfl (pv 0) (pv 1) rfl)))), ?_⟩
    refine ⟨_, rfl, ⟨k, rfl, hk⟩, fun x => ⟨e, cNP, fX, _, rfl, he, NP.own, ?_⟩⟩
    refine ⟨_, rfl, _, rfl, e, cNP, rfl, NP.xc, NP.na, .inl ⟨he, fun d hd hde => ?_⟩⟩
    refine q _ d (fun b o hb z => ?_) ?_ hd upd_same
    · have h1 : b ≠ d := ne_of_none z hd
      rw [upd_ne h1, upd_ne hb]
      exact z
    · rw [upd_ne (Ne.symm hde), upd_same]
def sp_needpatternX (cNP : Addr) : Sp := fun vs H Q E => ∃ (L w : List Nat), vs = [.str (tx L), .str (tx w)] ∧ LetS L ∧ w.length ≤ 300 ∧ (failsAt L 0 true 0 w = none → ∀ H', Same H H' → Q .non H') ∧
  ∀ (k : Nat) (d : Addr) (H' : Hp), failsAt L 0 true 0 w = some k → Same H H' → FailAt H' d k → E (.ref cNP) (some d) H'
def sp_piece (c : Kd → Addr) : Sp := fun vs H Q _ => ∃ t : Pt, vs = [tv (.piece t)] ∧ (Tk.piece t).ok ∧ ∀ v H', Same H H' → PatAt c H' t v → Q v H'
def sp_pairof (c : Kd → Addr) : Sp := fun vs H Q _ => ∃ (k : K2) (u w' : V) (x y : Pt), vs = [.str (nm2 k), u, w'] ∧ PatAt c H x u ∧ PatAt c H y w' ∧ ∀ v H', Same H H' → PatAt c H' (.two k x y) v → Q v H'
def sp_settle (c : Kd → Addr) (cD : Addr) : Sp := fun vs H Q _ => ∃ (d dx pa wa : Addr) (us : List V) (ps : List Pt) (ws : List Wt) (n : Nat) (ps' : List Pt) (ws' : List Wt), vs = [.ref d, .int (n : Int)] ∧ DeskAt c cD H d dx pa wa us ps ws ∧ 1 ≤ n ∧ settleM n ps ws = some (ps', ws') ∧ ps.length ≤ 900 ∧
  ∀ us' H', Off pa wa H H' → DeskAt c cD H' d dx pa wa us' ps' ws' → Q .non H'
def sp_put (c : Kd → Addr) (cD : Addr) : Sp := fun vs H Q _ => ∃ (d dx pa wa : Addr) (us : List V) (ps : List Pt) (ws : List Wt) (tk : Tk) (ps' : List Pt) (ws' : List Wt), vs = [.ref d, tv tk] ∧ DeskAt c cD H d dx pa wa us ps ws ∧ tk.ok ∧ putM ps ws tk = some (ps', ws') ∧ ps.length ≤ 900 ∧ ws.length ≤ 900 ∧
  ∀ us' H', Off pa wa H H' → DeskAt c cD H' d dx pa wa us' ps' ws' → Q .non H'
def sp_tokens : Sp := fun vs H Q _ => ∃ w : List Nat, vs = [.str (tx w)] ∧ (∀ ch ∈ w, SgOk ch) ∧ w.length ≤ 400 ∧ ∀ p H', H p = none → Same H H' → H' p = some (.lst ((toks true w).map tv)) → Q (.ref p) H'
def sp_patternof (c : Kd → Addr) : Sp := fun vs H Q _ => ∃ (tw : List Nat) (t : Pt), vs = [.str (tx tw)] ∧ (∀ ch ∈ tw, SgOk ch) ∧ tw.length ≤ 300 ∧ putsM (toks true (40 :: (tw ++ [41]))) ([], []) = some ([t], []) ∧ ∀ v H', Same H H' → PatAt c H' t v → Q v H'
def sp_readX (c : Kd → Addr) (cNL cNP : Addr) : Sp := fun vs H Q E => ∃ (L tw : List Nat), vs = [.str (tx L), .str (tx tw)] ∧ Sm L ∧ tw.length ≤ 300 ∧ (¬ Let L → E (.ref cNL) none H) ∧
  (Let L → (∀ (k : Nat) (d : Addr) (H' : Hp), failsAt L 0 true 0 tw = some k → Same H H' → FailAt H' d k → E (.ref cNP) (some d) H') ∧ (failsAt L 0 true 0 tw = none → ∀ (t : Pt) (v : V) (H' : Hp), Same H H' → PatAt c H' t v → Q v H'))
def sp_cell (K : PySem.W.Frag) : Sp := fun vs H Q _ => ∃ (a : Addr) (ns : List Int) (k : Int), vs = [.ref a, .int k] ∧ SqL K H a (ns.map V.int) ∧ 0 ≤ k ∧ ∀ z, Q (.int z) H
def sp_letters : Sp := fun vs H Q _ => ∃ (c : Int), vs = [.int c] ∧ ∀ L, Let L → Q (.str (tx L)) H
def sp__law_whole : Sp := fun vs H Q _ => ∃ (i : Int), vs = [.int i] ∧ Q (.bl true) H
def sp_kinds35 (cNL cNP : Addr) : Sp := fun vs H Q _ => ∃ (e : Addr) (dd : Option Addr) (C : Addr) (nm : Str), vs = [.ref e] ∧ H e = some (excAt e (.ref C) dd) ∧ ((C = cNL ∧ nm = "NoLetters") ∨ (C = cNP ∧ nm = "NoPattern")) ∧ ∀ p H', Same H H' → H' p = some (.lst [.str nm]) → Q (.ref p) H'
def sp_sign35 : Sp := fun vs H Q _ => ∃ (L : List Nat) (z : Int) (b : Bool), vs = [.str (tx L), .int z, .bl b] ∧ Let L ∧ ∀ ch : Nat, Q (.str (tx [ch])) H
def sp_text35 (K : PySem.W.Frag) : Sp := fun vs H Q _ => ∃ (L : List Nat) (a : Addr) (ns : List Int), vs = [.str (tx L), .ref a] ∧ Let L ∧ SqL K H a (ns.map V.int) ∧ ns.length ≤ 63 ∧ ∀ z : Str, z.length ≤ 127 → Q (.str z) H
def sp_foreign : Sp := fun vs H Q _ => ∃ (z : Int), vs = [.int z] ∧ ∀ c : Nat, (c < 97 ∨ 122 < c) → c < 127 → Q (.str ⟨#[c]⟩) H
def sp_others : Sp := fun vs H Q _ => ∃ (L : List Nat), vs = [.str (tx L)] ∧ ∀ H', Same H H' → Q (.str (tx (othL L))) H'
def sp_noletters : Sp := fun vs H Q _ => ∃ (L : List Nat) (z p : Int), vs = [.str (tx L), .int z, .int p] ∧ Let L ∧ ∀ t H', ¬ Let t → Sm t → Same H H' → Q (.str (tx t)) H'
def sp_othersign : Sp := fun vs H Q _ => ∃ z : Int, vs = [.int z] ∧ ∀ ch : Nat, Q (.str (tx [ch])) H
def sp_spoilt35 (K : PySem.W.Frag) : Sp := fun vs H Q _ => ∃ (a : Addr) (ns : List Int) (z : Str), vs = [.ref a, .str z] ∧ SqL K H a (ns.map V.int) ∧ z.length ≤ 127 ∧ ∀ y : Str, y.length ≤ 300 → Q (.str y) H
def dueV : Option Nat → V
  | some k => .int (k : Int)
  | none => .non
def sp_fails : Sp := fun vs H Q _ => ∃ (L w : List Nat), vs = [.str (tx L), .str (tx w)] ∧ LetS L ∧ w.length ≤ 300 ∧ (∀ k : Nat, failsAt L 0 true 0 w = some k → Q (.int (k : Int)) H) ∧ (failsAt L 0 true 0 w = none → Q .non H)
def Rd35 (c : Kd → Addr) (cNL cNP : Addr) (H : Hp) (L tw : List Nat) (H' : Hp) (v2 v3 : V) : Prop := Same H H' ∧ ((¬ Let L ∧ ∃ e : Addr, v2 = .ref e ∧ H' e = some (excAt e (.ref cNL) none)) ∨
  (Let L ∧ ((∃ (k : Nat) (e d : Addr), failsAt L 0 true 0 tw = some k ∧ v2 = .ref e ∧ H' e = some (excAt e (.ref cNP) (some d)) ∧ FailAt H' d k) ∨ (failsAt L 0 true 0 tw = none ∧ v2 = .non ∧ ∃ t, PatAt c H' t v3))))
theorem Rd35.same {c : Kd → Addr} {cNL cNP : Addr} {H H' H2 : Hp} {L tw : List Nat} {v2 v3 : V} (h : Rd35 c cNL cNP H L tw H' v2 v3) (s : Same H' H2) : Rd35 c cNL cNP H L tw H2 v2 v3 := by
  obtain ⟨x, z⟩ := h
  refine ⟨x.trans s, ?_⟩
  rcases z with ⟨n, e, g1, g2⟩ | ⟨n, z⟩
  · exact .inl ⟨n, e, g1, s _ _ g2⟩
  · refine .inr ⟨n, ?_⟩
    rcases z with ⟨k, e, d, g1, g2, g3, g4⟩ | ⟨g1, g2, t, g3⟩
    · exact .inl ⟨k, e, d, g1, g2, s _ _ g3, g4.same s⟩
    · exact .inr ⟨g1, g2, t, g3.kp (Same.kp s)⟩
def sp_read35 (c : Kd → Addr) (cNL cNP : Addr) : Sp := fun vs H Q _ => ∃ (L tw : List Nat), vs = [.str (tx L), .str (tx tw)] ∧ Sm L ∧ tw.length ≤ 300 ∧ ∀ (p : Addr) (v2 v3 : V) (H' : Hp), Rd35 c cNL cNP H L tw H' v2 v3 → H' p = some (.tup [v3, v2]) → Q (.ref p) H'
section
variable {P : Program} {w : World} {K : PySem.W.Frag} {mg : Str → Option Value} {base : Heap} {c_RoomError c_NoLetters c_NoWord c_NoNumber c_NoRoom c_NoMachine c_OtherLetters c_TooMany c_NoPattern c_TooGreat c_NoKind : Addr} {c : Kd → Addr} {cP : Addr} {cD d1 d2 d3 : Addr}
theorem sci_Sign : FnScope ["self", "sign"] ["self", "sign"] (defScope i_Sign) := ⟨rfl, rfl, rfl, by decide +kernel, rfl, by decide +kernel, by decide +kernel⟩
theorem oki_Sign {f : Addr} {fd : FuncData} (F : Fun K "__init__" "Sign.__init__" i_Sign f fd) : FnOk P w K mg base CX0 1 f fd ["self", "sign"] (spI1 K "sign") := by
  refine F.ok sci_Sign (fun vs H Q E h => ?_) (fun cdv A outer s H vs Q E hr h => ?_)
  · obtain ⟨p, v, C, dx, rfl, _⟩ := h
    rfl
  · obtain ⟨p, v, C, dx, rfl, hp, cl, n1, q⟩ := h
    refine ⟨_, pss_one (ps_fld (pv 0) (pv 1) rfl), ?_⟩
    refine ⟨_, rfl, _, rfl, p, C, dx, [], rfl, hp, cl, n1, (by show 0 < 1000; decide), ?_⟩
    exact q _ (fun b o e hb => by rw [upd_ne hb]; exact e) upd_same
theorem sci_Around : FnScope ["self", "inner"] ["self", "inner"] (defScope i_Around) := ⟨rfl, rfl, rfl, by decide +kernel, rfl, by decide +kernel, by decide +kernel⟩
theorem oki_Around {f : Addr} {fd : FuncData} (F : Fun K "__init__" "Around.__init__" i_Around f fd) : FnOk P w K mg base CX0 1 f fd ["self", "inner"] (spI1 K "inner") := by
  refine F.ok sci_Around (fun vs H Q E h => ?_) (fun cdv A outer s H vs Q E hr h => ?_)
  · obtain ⟨p, v, C, dx, rfl, _⟩ := h
    rfl
  · obtain ⟨p, v, C, dx, rfl, hp, cl, n1, q⟩ := h
    refine ⟨_, pss_one (ps_fld (pv 0) (pv 1) rfl), ?_⟩
    refine ⟨_, rfl, _, rfl, p, C, dx, [], rfl, hp, cl, n1, (by show 0 < 1000; decide), ?_⟩
    exact q _ (fun b o e hb => by rw [upd_ne hb]; exact e) upd_same
theorem sci_Pair : FnScope ["self", "left", "right"] ["self", "left", "right"] (defScope i_Pair) := ⟨rfl, rfl, rfl, by decide +kernel, rfl, by decide +kernel, by decide +kernel⟩
theorem oki_Pair {f : Addr} {fd : FuncData} (F : Fun K "__init__" "Pair.__init__" i_Pair f fd) : FnOk P w K mg base CX0 1 f fd ["self", "left", "right"] (spI2 K "left" "right") := by
  refine F.ok sci_Pair (fun vs H Q E h => ?_) (fun cdv A outer s H vs Q E hr h => ?_)
  · obtain ⟨p, v, u, C, dx, rfl, _⟩ := h
    rfl
  · obtain ⟨p, v, u, C, dx, rfl, hp, cl, n1, n2, q⟩ := h
    refine ⟨_, pss_cons (ps_fld (pv 0) (pv 1) rfl) (pss_one (ps_fld (pv 0) (pv 2) rfl)), ?_⟩
    refine ⟨_, rfl, _, rfl, p, C, dx, [], rfl, hp, cl, n1, (by show 0 < 1000; decide), _, rfl, _, rfl, p, C, dx, _, rfl, upd_same, cl, n2, (by show 1 < 1000; decide), ?_⟩
    exact q _ (fun b o e hb => by rw [upd_ne hb, upd_ne hb]; exact e) upd_same
theorem sch_Never : FnScope ["self"] ["self"] (defScope h_Never) := ⟨rfl, rfl, rfl, by decide +kernel, rfl, by decide +kernel, by decide +kernel⟩
theorem okh_Never {f : Addr} {fd : FuncData} (F : Fun K "shape" "Never.shape" h_Never f fd) (PC : ∀ k, PCls K (c k) cP) {fs : Kd → Addr} {fds : Kd → FuncData} (mS : ∀ k, Meth K (c k) "shape" (fs k)) (bS : ∀ k, Binds K (fds k) ["self"] []) (n : Nat) (ih : ∀ k, FnOk P w K mg base CX0 n (fs k) (fds k) ["self"] (spShape c n k)) : FnOk P w K mg base CX0 (n + 1) f fd ["self"] (spShape c (n + 1) (.leaf .never)) := by
  refine F.ok sch_Never (fun vs H Q E h => ?_) (fun cdv A outer s H vs Q E hr h => ?_)
  · obtain ⟨a, t, rfl, _⟩ := h
    rfl
  · obtain ⟨a, t, rfl, hp, hk, hd, q⟩ := h
    cases t with
    | leaf k =>
      cases hk
      refine ⟨_, pss_one (ps_ret (pe_tup (pa_cons pe_str pa_nil))), ?_⟩
      exact ⟨line_ge (by show 1 ≤ 16777216; decide), fun p hp => q (.ref p) _ (Same.upd hp) ⟨p, rfl, upd_same⟩⟩
    | sign _ => cases hk
    | one _ _ => cases hk
    | two _ _ _ => cases hk
theorem sch_Empty : FnScope ["self"] ["self"] (defScope h_Empty) := ⟨rfl, rfl, rfl, by decide +kernel, rfl, by decide +kernel, by decide +kernel⟩
theorem okh_Empty {f : Addr} {fd : FuncData} (F : Fun K "shape" "Empty.shape" h_Empty f fd) (PC : ∀ k, PCls K (c k) cP) {fs : Kd → Addr} {fds : Kd → FuncData} (mS : ∀ k, Meth K (c k) "shape" (fs k)) (bS : ∀ k, Binds K (fds k) ["self"] []) (n : Nat) (ih : ∀ k, FnOk P w K mg base CX0 n (fs k) (fds k) ["self"] (spShape c n k)) : FnOk P w K mg base CX0 (n + 1) f fd ["self"] (spShape c (n + 1) (.leaf .empty)) := by
  refine F.ok sch_Empty (fun vs H Q E h => ?_) (fun cdv A outer s H vs Q E hr h => ?_)
  · obtain ⟨a, t, rfl, _⟩ := h
    rfl
  · obtain ⟨a, t, rfl, hp, hk, hd, q⟩ := h
    cases t with
    | leaf k =>
      cases hk
      refine ⟨_, pss_one (ps_ret (pe_tup (pa_cons pe_str pa_nil))), ?_⟩
      exact ⟨line_ge (by show 1 ≤ 16777216; decide), fun p hp => q (.ref p) _ (Same.upd hp) ⟨p, rfl, upd_same⟩⟩
    | sign _ => cases hk
    | one _ _ => cases hk
    | two _ _ _ => cases hk
theorem sch_AnySign : FnScope ["self"] ["self"] (defScope h_AnySign) := ⟨rfl, rfl, rfl, by decide +kernel, rfl, by decide +kernel, by decide +kernel⟩
theorem okh_AnySign {f : Addr} {fd : FuncData} (F : Fun K "shape" "AnySign.shape" h_AnySign f fd) (PC : ∀ k, PCls K (c k) cP) {fs : Kd → Addr} {fds : Kd → FuncData} (mS : ∀ k, Meth K (c k) "shape" (fs k)) (bS : ∀ k, Binds K (fds k) ["self"] []) (n : Nat) (ih : ∀ k, FnOk P w K mg base CX0 n (fs k) (fds k) ["self"] (spShape c n k)) : FnOk P w K mg base CX0 (n + 1) f fd ["self"] (spShape c (n + 1) (.leaf .any)) := by
  refine F.ok sch_AnySign (fun vs H Q E h => ?_) (fun cdv A outer s H vs Q E hr h => ?_)
  · obtain ⟨a, t, rfl, _⟩ := h
    rfl
  · obtain ⟨a, t, rfl, hp, hk, hd, q⟩ := h
    cases t with
    | leaf k =>
      cases hk
      refine ⟨_, pss_one (ps_ret (pe_tup (pa_cons pe_str pa_nil))), ?_⟩
      exact ⟨line_ge (by show 1 ≤ 16777216; decide), fun p hp => q (.ref p) _ (Same.upd hp) ⟨p, rfl, upd_same⟩⟩
    | sign _ => cases hk
    | one _ _ => cases hk
    | two _ _ _ => cases hk
theorem sch_Sign : FnScope ["self"] ["self"] (defScope h_Sign) := ⟨rfl, rfl, rfl, by decide +kernel, rfl, by decide +kernel, by decide +kernel⟩
theorem okh_Sign {f : Addr} {fd : FuncData} (F : Fun K "shape" "Sign.shape" h_Sign f fd) (PC : ∀ k, PCls K (c k) cP) {fs : Kd → Addr} {fds : Kd → FuncData} (mS : ∀ k, Meth K (c k) "shape" (fs k)) (bS : ∀ k, Binds K (fds k) ["self"] []) (n : Nat) (ih : ∀ k, FnOk P w K mg base CX0 n (fs k) (fds k) ["self"] (spShape c n k)) : FnOk P w K mg base CX0 (n + 1) f fd ["self"] (spShape c (n + 1) (.sign)) := by
  refine F.ok sch_Sign (fun vs H Q E h => ?_) (fun cdv A outer s H vs Q E hr h => ?_)
  · obtain ⟨a, t, rfl, _⟩ := h
    rfl
  · obtain ⟨a, t, rfl, hp, hk, hd, q⟩ := h
    cases t with
    | sign z =>
      obtain ⟨a', dx, e, ha⟩ := hp
      cases e
      refine ⟨_, pss_one (ps_ret (pe_tup (pa_cons pe_str (pa_cons (pe_fld (pv 0) rfl) pa_nil)))), ?_⟩
      exact ⟨_, rfl, a, _, dx, _, _, rfl, ha, (PC _).cl, (PC _).nS, lk_sign _, line_ge (by show 2 ≤ 16777216; decide), fun p hp => q (.ref p) _ (Same.upd hp) ⟨p, rfl, upd_same⟩⟩
    | leaf _ => cases hk
    | one _ _ => cases hk
    | two _ _ _ => cases hk
theorem sch_Outside : FnScope ["self"] ["self"] (defScope h_Outside) := ⟨rfl, rfl, rfl, by decide +kernel, rfl, by decide +kernel, by decide +kernel⟩
theorem okh_Outside {f : Addr} {fd : FuncData} (F : Fun K "shape" "Outside.shape" h_Outside f fd) (PC : ∀ k, PCls K (c k) cP) {fs : Kd → Addr} {fds : Kd → FuncData} (mS : ∀ k, Meth K (c k) "shape" (fs k)) (bS : ∀ k, Binds K (fds k) ["self"] []) (n : Nat) (ih : ∀ k, FnOk P w K mg base CX0 n (fs k) (fds k) ["self"] (spShape c n k)) : FnOk P w K mg base CX0 (n + 1) f fd ["self"] (spShape c (n + 1) (.one .outside)) := by
  refine F.ok sch_Outside (fun vs H Q E h => ?_) (fun cdv A outer s H vs Q E hr h => ?_)
  · obtain ⟨a, t, rfl, _⟩ := h
    rfl
  · obtain ⟨a, t, rfl, hp, hk, hd, q⟩ := h
    cases t with
    | one k x =>
      cases hk
      have hd : x.dep + 1 ≤ n + 1 := hd
      obtain ⟨a', dx, u, e, ha, hx⟩ := hp
      cases e
      obtain ⟨a1, dx1, fs1, rfl, h1, l1⟩ := hx.ins
      refine ⟨_, pss_one (ps_ret (pe_tup (pa_cons pe_str (pa_cons (pe_methP (pe_fld (pv 0) rfl) (fun k => (PC k).cl) mS ih hr bS pass0) pa_nil)))), ?_⟩
      refine ⟨_, rfl, a, _, dx, _, _, rfl, ha, (PC _).cl, (PC _).nI, lk_inner _, x.kd, a1, dx1, fs1, rfl, h1, l1, a1, x, rfl, hx, rfl, by omega, fun v1 H1 s1 hv1 => ?_⟩
      exact ⟨line_ge (by show 2 ≤ 16777216; decide), fun p hp => q (.ref p) _ (s1.trans (Same.upd hp)) ⟨p, v1, rfl, upd_same, hv1.kp (Same.kp (Same.upd hp))⟩⟩
    | leaf _ => cases hk
    | sign _ => cases hk
    | two _ _ _ => cases hk
theorem sch_Turned : FnScope ["self"] ["self"] (defScope h_Turned) := ⟨rfl, rfl, rfl, by decide +kernel, rfl, by decide +kernel, by decide +kernel⟩
theorem okh_Turned {f : Addr} {fd : FuncData} (F : Fun K "shape" "Turned.shape" h_Turned f fd) (PC : ∀ k, PCls K (c k) cP) {fs : Kd → Addr} {fds : Kd → FuncData} (mS : ∀ k, Meth K (c k) "shape" (fs k)) (bS : ∀ k, Binds K (fds k) ["self"] []) (n : Nat) (ih : ∀ k, FnOk P w K mg base CX0 n (fs k) (fds k) ["self"] (spShape c n k)) : FnOk P w K mg base CX0 (n + 1) f fd ["self"] (spShape c (n + 1) (.one .turned)) := by
  refine F.ok sch_Turned (fun vs H Q E h => ?_) (fun cdv A outer s H vs Q E hr h => ?_)
  · obtain ⟨a, t, rfl, _⟩ := h
    rfl
  · obtain ⟨a, t, rfl, hp, hk, hd, q⟩ := h
    cases t with
    | one k x =>
      cases hk
      have hd : x.dep + 1 ≤ n + 1 := hd
      obtain ⟨a', dx, u, e, ha, hx⟩ := hp
      cases e
      obtain ⟨a1, dx1, fs1, rfl, h1, l1⟩ := hx.ins
      refine ⟨_, pss_one (ps_ret (pe_tup (pa_cons pe_str (pa_cons (pe_methP (pe_fld (pv 0) rfl) (fun k => (PC k).cl) mS ih hr bS pass0) pa_nil)))), ?_⟩
      refine ⟨_, rfl, a, _, dx, _, _, rfl, ha, (PC _).cl, (PC _).nI, lk_inner _, x.kd, a1, dx1, fs1, rfl, h1, l1, a1, x, rfl, hx, rfl, by omega, fun v1 H1 s1 hv1 => ?_⟩
      exact ⟨line_ge (by show 2 ≤ 16777216; decide), fun p hp => q (.ref p) _ (s1.trans (Same.upd hp)) ⟨p, v1, rfl, upd_same, hv1.kp (Same.kp (Same.upd hp))⟩⟩
    | leaf _ => cases hk
    | sign _ => cases hk
    | two _ _ _ => cases hk
theorem sch_Again : FnScope ["self"] ["self"] (defScope h_Again) := ⟨rfl, rfl, rfl, by decide +kernel, rfl, by decide +kernel, by decide +kernel⟩
theorem okh_Again {f : Addr} {fd : FuncData} (F : Fun K "shape" "Again.shape" h_Again f fd) (PC : ∀ k, PCls K (c k) cP) {fs : Kd → Addr} {fds : Kd → FuncData} (mS : ∀ k, Meth K (c k) "shape" (fs k)) (bS : ∀ k, Binds K (fds k) ["self"] []) (n : Nat) (ih : ∀ k, FnOk P w K mg base CX0 n (fs k) (fds k) ["self"] (spShape c n k)) : FnOk P w K mg base CX0 (n + 1) f fd ["self"] (spShape c (n + 1) (.one .again)) := by
  refine F.ok sch_Again (fun vs H Q E h => ?_) (fun cdv A outer s H vs Q E hr h => ?_)
  · obtain ⟨a, t, rfl, _⟩ := h
    rfl
  · obtain ⟨a, t, rfl, hp, hk, hd, q⟩ := h
    cases t with
    | one k x =>
      cases hk
      have hd : x.dep + 1 ≤ n + 1 := hd
      obtain ⟨a', dx, u, e, ha, hx⟩ := hp
      cases e
      obtain ⟨a1, dx1, fs1, rfl, h1, l1⟩ := hx.ins
      refine ⟨_, pss_one (ps_ret (pe_tup (pa_cons pe_str (pa_cons (pe_methP (pe_fld (pv 0) rfl) (fun k => (PC k).cl) mS ih hr bS pass0) pa_nil)))), ?_⟩
      refine ⟨_, rfl, a, _, dx, _, _, rfl, ha, (PC _).cl, (PC _).nI, lk_inner _, x.kd, a1, dx1, fs1, rfl, h1, l1, a1, x, rfl, hx, rfl, by omega, fun v1 H1 s1 hv1 => ?_⟩
      exact ⟨line_ge (by show 2 ≤ 16777216; decide), fun p hp => q (.ref p) _ (s1.trans (Same.upd hp)) ⟨p, v1, rfl, upd_same, hv1.kp (Same.kp (Same.upd hp))⟩⟩
    | leaf _ => cases hk
    | sign _ => cases hk
    | two _ _ _ => cases hk
theorem sch_Either : FnScope ["self"] ["self"] (defScope h_Either) := ⟨rfl, rfl, rfl, by decide +kernel, rfl, by decide +kernel, by decide +kernel⟩
theorem okh_Either {f : Addr} {fd : FuncData} (F : Fun K "shape" "Either.shape" h_Either f fd) (PC : ∀ k, PCls K (c k) cP) {fs : Kd → Addr} {fds : Kd → FuncData} (mS : ∀ k, Meth K (c k) "shape" (fs k)) (bS : ∀ k, Binds K (fds k) ["self"] []) (n : Nat) (ih : ∀ k, FnOk P w K mg base CX0 n (fs k) (fds k) ["self"] (spShape c n k)) : FnOk P w K mg base CX0 (n + 1) f fd ["self"] (spShape c (n + 1) (.two .either)) := by
  refine F.ok sch_Either (fun vs H Q E h => ?_) (fun cdv A outer s H vs Q E hr h => ?_)
  · obtain ⟨a, t, rfl, _⟩ := h
    rfl
  · obtain ⟨a, t, rfl, hp, hk, hd, q⟩ := h
    cases t with
    | two k x y =>
      cases hk
      have hd : max x.dep y.dep + 1 ≤ n + 1 := hd
      obtain ⟨a', dx, u, w', e, ha, hx, hy⟩ := hp
      cases e
      obtain ⟨a1, dx1, fs1, rfl, h1, l1⟩ := hx.ins
      refine ⟨_, pss_one (ps_ret (pe_tup (pa_cons pe_str (pa_cons (pe_methP (pe_fld (pv 0) rfl) (fun k => (PC k).cl) mS ih hr bS pass0) (pa_cons (pe_methP (pe_fld (pv 0) rfl) (fun k => (PC k).cl) mS ih hr bS pass0) pa_nil))))), ?_⟩
      refine ⟨_, rfl, a, _, dx, _, _, rfl, ha, (PC _).cl, (PC _).nL, lk_left _ _, x.kd, a1, dx1, fs1, rfl, h1, l1, a1, x, rfl, hx, rfl, by omega, fun v1 H1 s1 hv1 => ?_⟩
      have hy1 := hy.kp (Same.kp s1)
      obtain ⟨a2, dx2, fs2, rfl, h2, l2⟩ := hy1.ins
      refine ⟨_, rfl, a, _, dx, _, _, rfl, s1 _ _ ha, (PC _).cl, (PC _).nR, lk_right _ _, y.kd, a2, dx2, fs2, rfl, h2, l2, a2, y, rfl, hy1, rfl, by omega, fun v2 H2 s2 hv2 => ?_⟩
      exact ⟨line_ge (by show 3 ≤ 16777216; decide), fun p hp => q (.ref p) _ (s1.trans (s2.trans (Same.upd hp))) ⟨p, v1, v2, rfl, upd_same, hv1.kp (Same.kp (s2.trans (Same.upd hp))), hv2.kp (Same.kp (Same.upd hp))⟩⟩
    | leaf _ => cases hk
    | sign _ => cases hk
    | one _ _ => cases hk
theorem sch_Less : FnScope ["self"] ["self"] (defScope h_Less) := ⟨rfl, rfl, rfl, by decide +kernel, rfl, by decide +kernel, by decide +kernel⟩
theorem okh_Less {f : Addr} {fd : FuncData} (F : Fun K "shape" "Less.shape" h_Less f fd) (PC : ∀ k, PCls K (c k) cP) {fs : Kd → Addr} {fds : Kd → FuncData} (mS : ∀ k, Meth K (c k) "shape" (fs k)) (bS : ∀ k, Binds K (fds k) ["self"] []) (n : Nat) (ih : ∀ k, FnOk P w K mg base CX0 n (fs k) (fds k) ["self"] (spShape c n k)) : FnOk P w K mg base CX0 (n + 1) f fd ["self"] (spShape c (n + 1) (.two .less)) := by
  refine F.ok sch_Less (fun vs H Q E h => ?_) (fun cdv A outer s H vs Q E hr h => ?_)
  · obtain ⟨a, t, rfl, _⟩ := h
    rfl
  · obtain ⟨a, t, rfl, hp, hk, hd, q⟩ := h
    cases t with
    | two k x y =>
      cases hk
      have hd : max x.dep y.dep + 1 ≤ n + 1 := hd
      obtain ⟨a', dx, u, w', e, ha, hx, hy⟩ := hp
      cases e
      obtain ⟨a1, dx1, fs1, rfl, h1, l1⟩ := hx.ins
      refine ⟨_, pss_one (ps_ret (pe_tup (pa_cons pe_str (pa_cons (pe_methP (pe_fld (pv 0) rfl) (fun k => (PC k).cl) mS ih hr bS pass0) (pa_cons (pe_methP (pe_fld (pv 0) rfl) (fun k => (PC k).cl) mS ih hr bS pass0) pa_nil))))), ?_⟩
      refine ⟨_, rfl, a, _, dx, _, _, rfl, ha, (PC _).cl, (PC _).nL, lk_left _ _, x.kd, a1, dx1, fs1, rfl, h1, l1, a1, x, rfl, hx, rfl, by omega, fun v1 H1 s1 hv1 => ?_⟩
      have hy1 := hy.kp (Same.kp s1)
      obtain ⟨a2, dx2, fs2, rfl, h2, l2⟩ := hy1.ins
      refine ⟨_, rfl, a, _, dx, _, _, rfl, s1 _ _ ha, (PC _).cl, (PC _).nR, lk_right _ _, y.kd, a2, dx2, fs2, rfl, h2, l2, a2, y, rfl, hy1, rfl, by omega, fun v2 H2 s2 hv2 => ?_⟩
      exact ⟨line_ge (by show 3 ≤ 16777216; decide), fun p hp => q (.ref p) _ (s1.trans (s2.trans (Same.upd hp))) ⟨p, v1, v2, rfl, upd_same, hv1.kp (Same.kp (s2.trans (Same.upd hp))), hv2.kp (Same.kp (Same.upd hp))⟩⟩
    | leaf _ => cases hk
    | sign _ => cases hk
    | one _ _ => cases hk
theorem sch_Both : FnScope ["self"] ["self"] (defScope h_Both) := ⟨rfl, rfl, rfl, by decide +kernel, rfl, by decide +kernel, by decide +kernel⟩
theorem okh_Both {f : Addr} {fd : FuncData} (F : Fun K "shape" "Both.shape" h_Both f fd) (PC : ∀ k, PCls K (c k) cP) {fs : Kd → Addr} {fds : Kd → FuncData} (mS : ∀ k, Meth K (c k) "shape" (fs k)) (bS : ∀ k, Binds K (fds k) ["self"] []) (n : Nat) (ih : ∀ k, FnOk P w K mg base CX0 n (fs k) (fds k) ["self"] (spShape c n k)) : FnOk P w K mg base CX0 (n + 1) f fd ["self"] (spShape c (n + 1) (.two .both)) := by
  refine F.ok sch_Both (fun vs H Q E h => ?_) (fun cdv A outer s H vs Q E hr h => ?_)
  · obtain ⟨a, t, rfl, _⟩ := h
    rfl
  · obtain ⟨a, t, rfl, hp, hk, hd, q⟩ := h
    cases t with
    | two k x y =>
      cases hk
      have hd : max x.dep y.dep + 1 ≤ n + 1 := hd
      obtain ⟨a', dx, u, w', e, ha, hx, hy⟩ := hp
      cases e
      obtain ⟨a1, dx1, fs1, rfl, h1, l1⟩ := hx.ins
      refine ⟨_, pss_one (ps_ret (pe_tup (pa_cons pe_str (pa_cons (pe_methP (pe_fld (pv 0) rfl) (fun k => (PC k).cl) mS ih hr bS pass0) (pa_cons (pe_methP (pe_fld (pv 0) rfl) (fun k => (PC k).cl) mS ih hr bS pass0) pa_nil))))), ?_⟩
      refine ⟨_, rfl, a, _, dx, _, _, rfl, ha, (PC _).cl, (PC _).nL, lk_left _ _, x.kd, a1, dx1, fs1, rfl, h1, l1, a1, x, rfl, hx, rfl, by omega, fun v1 H1 s1 hv1 => ?_⟩
      have hy1 := hy.kp (Same.kp s1)
      obtain ⟨a2, dx2, fs2, rfl, h2, l2⟩ := hy1.ins
      refine ⟨_, rfl, a, _, dx, _, _, rfl, s1 _ _ ha, (PC _).cl, (PC _).nR, lk_right _ _, y.kd, a2, dx2, fs2, rfl, h2, l2, a2, y, rfl, hy1, rfl, by omega, fun v2 H2 s2 hv2 => ?_⟩
      exact ⟨line_ge (by show 3 ≤ 16777216; decide), fun p hp => q (.ref p) _ (s1.trans (s2.trans (Same.upd hp))) ⟨p, v1, v2, rfl, upd_same, hv1.kp (Same.kp (s2.trans (Same.upd hp))), hv2.kp (Same.kp (Same.upd hp))⟩⟩
    | leaf _ => cases hk
    | sign _ => cases hk
    | one _ _ => cases hk
theorem sch_Then : FnScope ["self"] ["self"] (defScope h_Then) := ⟨rfl, rfl, rfl, by decide +kernel, rfl, by decide +kernel, by decide +kernel⟩
theorem okh_Then {f : Addr} {fd : FuncData} (F : Fun K "shape" "Then.shape" h_Then f fd) (PC : ∀ k, PCls K (c k) cP) {fs : Kd → Addr} {fds : Kd → FuncData} (mS : ∀ k, Meth K (c k) "shape" (fs k)) (bS : ∀ k, Binds K (fds k) ["self"] []) (n : Nat) (ih : ∀ k, FnOk P w K mg base CX0 n (fs k) (fds k) ["self"] (spShape c n k)) : FnOk P w K mg base CX0 (n + 1) f fd ["self"] (spShape c (n + 1) (.two .then_)) := by
  refine F.ok sch_Then (fun vs H Q E h => ?_) (fun cdv A outer s H vs Q E hr h => ?_)
  · obtain ⟨a, t, rfl, _⟩ := h
    rfl
  · obtain ⟨a, t, rfl, hp, hk, hd, q⟩ := h
    cases t with
    | two k x y =>
      cases hk
      have hd : max x.dep y.dep + 1 ≤ n + 1 := hd
      obtain ⟨a', dx, u, w', e, ha, hx, hy⟩ := hp
      cases e
      obtain ⟨a1, dx1, fs1, rfl, h1, l1⟩ := hx.ins
      refine ⟨_, pss_one (ps_ret (pe_tup (pa_cons pe_str (pa_cons (pe_methP (pe_fld (pv 0) rfl) (fun k => (PC k).cl) mS ih hr bS pass0) (pa_cons (pe_methP (pe_fld (pv 0) rfl) (fun k => (PC k).cl) mS ih hr bS pass0) pa_nil))))), ?_⟩
      refine ⟨_, rfl, a, _, dx, _, _, rfl, ha, (PC _).cl, (PC _).nL, lk_left _ _, x.kd, a1, dx1, fs1, rfl, h1, l1, a1, x, rfl, hx, rfl, by omega, fun v1 H1 s1 hv1 => ?_⟩
      have hy1 := hy.kp (Same.kp s1)
      obtain ⟨a2, dx2, fs2, rfl, h2, l2⟩ := hy1.ins
      refine ⟨_, rfl, a, _, dx, _, _, rfl, s1 _ _ ha, (PC _).cl, (PC _).nR, lk_right _ _, y.kd, a2, dx2, fs2, rfl, h2, l2, a2, y, rfl, hy1, rfl, by omega, fun v2 H2 s2 hv2 => ?_⟩
      exact ⟨line_ge (by show 3 ≤ 16777216; decide), fun p hp => q (.ref p) _ (s1.trans (s2.trans (Same.upd hp))) ⟨p, v1, v2, rfl, upd_same, hv1.kp (Same.kp (s2.trans (Same.upd hp))), hv2.kp (Same.kp (Same.upd hp))⟩⟩
    | leaf _ => cases hk
    | sign _ => cases hk
    | one _ _ => cases hk
theorem okh_all (PC : ∀ k, PCls K (c k) cP) {fs : Kd → Addr} {fds : Kd → FuncData} (mS : ∀ k, Meth K (c k) "shape" (fs k)) (bS : ∀ k, Binds K (fds k) ["self"] [])
    (F_Never : Fun K "shape" "Never.shape" h_Never (fs (.leaf .never)) (fds (.leaf .never)))
    (F_Empty : Fun K "shape" "Empty.shape" h_Empty (fs (.leaf .empty)) (fds (.leaf .empty)))
    (F_AnySign : Fun K "shape" "AnySign.shape" h_AnySign (fs (.leaf .any)) (fds (.leaf .any)))
    (F_Sign : Fun K "shape" "Sign.shape" h_Sign (fs (.sign)) (fds (.sign)))
    (F_Outside : Fun K "shape" "Outside.shape" h_Outside (fs (.one .outside)) (fds (.one .outside)))
    (F_Turned : Fun K "shape" "Turned.shape" h_Turned (fs (.one .turned)) (fds (.one .turned)))
    (F_Again : Fun K "shape" "Again.shape" h_Again (fs (.one .again)) (fds (.one .again)))
    (F_Either : Fun K "shape" "Either.shape" h_Either (fs (.two .either)) (fds (.two .either)))
    (F_Less : Fun K "shape" "Less.shape" h_Less (fs (.two .less)) (fds (.two .less)))
    (F_Both : Fun K "shape" "Both.shape" h_Both (fs (.two .both)) (fds (.two .both)))
    (F_Then : Fun K "shape" "Then.shape" h_Then (fs (.two .then_)) (fds (.two .then_)))
    : ∀ n k, FnOk P w K mg base CX0 n (fs k) (fds k) ["self"] (spShape c n k) := by
  intro n
  induction n with
  | zero => exact fun k => ⟨fun vs H Q E h => by obtain ⟨a, t, _, _, _, hd, _⟩ := h; have := t.dep_pos; omega, fun _ _ _ _ _ _ vs Q E _ _ _ _ h => by obtain ⟨a, t, _, _, _, hd, _⟩ := h; have := t.dep_pos; omega⟩
  | succ n ih =>
    intro k
    match k with
    | .leaf .never => exact okh_Never F_Never PC mS bS n ih
    | .leaf .empty => exact okh_Empty F_Empty PC mS bS n ih
    | .leaf .any => exact okh_AnySign F_AnySign PC mS bS n ih
    | .sign => exact okh_Sign F_Sign PC mS bS n ih
    | .one .outside => exact okh_Outside F_Outside PC mS bS n ih
    | .one .turned => exact okh_Turned F_Turned PC mS bS n ih
    | .one .again => exact okh_Again F_Again PC mS bS n ih
    | .two .either => exact okh_Either F_Either PC mS bS n ih
    | .two .less => exact okh_Less F_Less PC mS bS n ih
    | .two .both => exact okh_Both F_Both PC mS bS n ih
    | .two .then_ => exact okh_Then F_Then PC mS bS n ih
theorem sci_Desk : FnScope ["self"] ["self"] (defScope i_Desk) := ⟨rfl, rfl, rfl, by decide +kernel, rfl, by decide +kernel, by decide +kernel⟩
theorem oki_Desk {f : Addr} {fd : FuncData} (F : Fun K "__init__" "Desk.__init__" i_Desk f fd) : FnOk P w K mg base CX0 1 f fd ["self"] (spDesk K c) := by
  refine F.ok sci_Desk (fun vs H Q E h => ?_) (fun cdv A outer s H vs Q E hr h => ?_)
  · obtain ⟨d, dx, C, rfl, _⟩ := h
    rfl
  · obtain ⟨d, dx, C, rfl, hd, cl, nP, nW, q⟩ := h
    refine ⟨_, pss_cons (ps_fld (pv 0) (pe_lst pa_nil) rfl) (pss_one (ps_fld (pv 0) (pe_lst pa_nil) rfl)), ?_⟩
    refine ⟨Nat.zero_le _, fun pa hpa => ⟨_, rfl, d, C, dx, [], rfl, upd_keep hd hpa, cl, nP, (by show 0 < 1000; decide), Nat.zero_le _, fun wa hwa => ?_⟩⟩
    have ndp : d ≠ pa := ne_of_none hd hpa
    have hd1 : (upd (upd H pa (.lst [])) d (.ins C dx (putF "patterns" (.ref pa) []))) d = some (.ins C dx (putF "patterns" (.ref pa) [])) := upd_same
    have ndw : d ≠ wa := ne_of_none hd1 hwa
    have hpa1 : (upd (upd H pa (.lst [])) d (.ins C dx (putF "patterns" (.ref pa) []))) pa = some (.lst []) := by rw [upd_ne (Ne.symm ndp), upd_same]
    have npw : pa ≠ wa := ne_of_none hpa1 hwa
    refine ⟨_, rfl, d, C, dx, _, rfl, upd_keep upd_same hwa, cl, nW, (by show 1 < 1000; decide), ?_⟩
    have hwa0 : H wa = none := by
      rw [upd_ne (Ne.symm ndw), upd_ne (Ne.symm npw)] at hwa
      exact hwa
    refine q pa wa _ (fun b o e hb => ?_) ⟨upd_same, ?_, trivial, ?_, npw⟩ hpa hwa0
    · rw [upd_ne hb, upd_ne (ne_of_none e hwa0), upd_ne hb, upd_ne (ne_of_none e hpa)]
      exact e
    · rw [upd_ne (Ne.symm ndp), upd_ne npw]
      exact hpa1
    · rw [upd_ne (Ne.symm ndw)]
      exact upd_same
theorem sc_is_letters : FnScope ["text", "sign"] ["text"] (defScope s_is_letters) := ⟨rfl, rfl, rfl, by decide +kernel, rfl, by decide +kernel, by decide +kernel⟩
theorem ok_is_letters {f : Addr} {fd : FuncData} (F : Fun K "is_letters" "is_letters" s_is_letters f fd) (T : Txt K mg c_RoomError c_NoLetters c_NoWord c_NoNumber c_NoRoom c_NoMachine c_OtherLetters c_TooMany c_NoPattern c_TooGreat c_NoKind) : FnOk P w K mg base CX0 1 f fd ["text"] sp_isletters2 := by
  refine F.ok sc_is_letters (fun vs H Q E h => ?_) (fun cdv A outer s H vs Q E hr h => ?_)
  · obtain ⟨L, rfl, _⟩ := h
    rfl
  · obtain ⟨L, rfl, hs, q1, q2⟩ := h
    refine ⟨_, (pss_cons ((ps_if (pt_not (pt_chain op_le op_le pe_int (pe_callB call_len_str (by rfl) T.len PySem.boot_len (pa_cons (pv 0) pa_nil)) pe_int)) ((pss_one (ps_ret pe_bl))) (pss_nil))) (pss_cons ((ps_for PassesOwn.never rfl (pi_str (pv 0)) (pg_name (i := 1) sc_is_letters.nd rfl (Or.inl rfl)) ((pss_one ((ps_if ((pw_or (pt_not (pt_chain op_le_str op_le_str pe_str (pv 1) pe_str)) (pw_or1 (pt_cmpR op_gt (pe_bm PySem.F.plainAttrs_str PySem.F.slot_str_count PySem.F.type_str_count mt_count (pv 0) (pa_cons (pv 1) pa_nil)) pe_int (nomark _)))).pt) ((pss_one (ps_ret pe_bl))) (pss_nil))))))) (pss_one (ps_ret pe_bl)))), ?_⟩
    have hz : (tx L).length ≤ sizeLine := hs.line
    refine ⟨_, rfl, _, rfl, hz, _, _, rfl, rfl, _, rfl, ite3 (fun h1 => ?_) (fun h1 => ⟨_, rfl, iteT (q2 fun hL => h1 (by rw [tx_len]; have := hL.lo; omega))⟩)⟩
    refine ⟨_, _, rfl, rfl, _, rfl, ?_⟩
    by_cases h3 : ((tx L).length : Int) ≤ 3
    · refine iteNS h3 ?_
      rw [tx_len] at h1 h3
      refine ⟨_, rfl, _, rfl, for_str (x := tx L) (fun i σ H' => ∃ s0, σ = [some (.str (tx L)), s0] ∧ H' = H ∧ ∀ c ∈ L.take i, (97 ≤ c ∧ c ≤ 122) ∧ L.count c ≤ 1) ⟨none, rfl, rfl, fun c hc => by simp at hc⟩ ?_ ?_⟩
      · rintro i c σ H1 hc ⟨s0, rfl, rfl, hall⟩
        rw [tx_get] at hc
        have hcL : c ∈ L := List.mem_of_getElem? hc
        refine ⟨_, rfl, _, _, rfl, rfl, _, rfl, ?_⟩
        rw [a_eq, le_one]
        refine ite3 (fun a1 => ?_) (fun a1 => ⟨_, rfl, iteT (iteT (q2 fun hL => a1 (hL.az c hcL).1))⟩)
        refine ⟨_, _, rfl, rfl, _, rfl, ?_⟩
        rw [z_eq, le_one]
        by_cases a2 : c ≤ 122
        · refine iteNS a2 ⟨_, rfl, rfl, _, rfl, _, _, rfl, rfl, _, _, rfl, rfl, _, rfl, ?_⟩
          rw [count_one]
          refine ite3 (fun a3 => q2 fun hL => ?_) (fun a3 => ?_)
          · have := List.nodup_iff_count.mp hL.nd c
            omega
          · refine ⟨_, rfl, rfl, fun d hd => ?_⟩
            rw [List.take_add_one, hc] at hd
            rcases List.mem_append.mp hd with hd | hd
            · exact hall d hd
            · have e : d = c := by simpa using hd
              subst e
              exact ⟨⟨a1, a2⟩, by omega⟩
        · rw [decide_eq_false a2]
          exact iteT (iteT (q2 fun hL => a2 (hL.az c hcL).2))
      · rintro σ H1 ⟨s0, rfl, rfl, hall⟩
        rw [tx_len, List.take_length] at hall
        refine q1 ⟨by omega, by omega, List.nodup_iff_count.mpr fun c => ?_, fun c hc => (hall c hc).1⟩
        by_cases hc : c ∈ L
        · exact (hall c hc).2
        · rw [List.count_eq_zero_of_not_mem hc]
          omega
    · rw [decide_eq_false h3]
      exact iteT (q2 fun hL => h3 (by rw [tx_len]; have := hL.hi; omega))
theorem sc_need_letters : FnScope ["letters"] ["letters"] (defScope s_need_letters) := ⟨rfl, rfl, rfl, by decide +kernel, rfl, by decide +kernel, by decide +kernel⟩
theorem ok_need_letters {f : Addr} {fd : FuncData} (F : Fun K "need_letters" "need_letters" s_need_letters f fd) (T : Txt K mg c_RoomError c_NoLetters c_NoWord c_NoNumber c_NoRoom c_NoMachine c_OtherLetters c_TooMany c_NoPattern c_TooGreat c_NoKind) (d_is_letters : Df P w K mg base "is_letters" 1 ["text"] sp_isletters2) : FnOk P w K mg base (CXE P w) 2 f fd ["letters"] (sp_needlettersX c_NoLetters) := by
  refine F.okX sc_need_letters (fun vs H Q E h => ?_) (fun cdv A outer s H vs Q E hr h => ?_)
  · obtain ⟨L, rfl, _⟩ := h
    rfl
  · obtain ⟨L, rfl, hs, q1, q2⟩ := h
    refine ⟨_, (pss_one ((ps_if (pt_not (pt_val (pe_df d_is_letters hr (pa_cons (pv 0) pa_nil)))) ((pss_one ((ps_raise rfl throws_def T.o_NoLetters T.k_NoLetters (pa_cons (pe_msg (c := Txt5 0) ⟨fp_const, fp_repr 0 (pv 0) (fun _ z => z), trivial⟩) pa_nil))))) (pss_nil)))), ?_⟩
    by_cases hL : Let L
    · exact ⟨_, rfl, L, rfl, hs, fun _ => ⟨_, rfl, iteF (q1 hL)⟩, fun n => (n hL).elim⟩
    · exact ⟨_, rfl, L, rfl, hs, fun y => (hL y).elim, fun _ => ⟨_, rfl, iteT ⟨hs.txt rfl, fun x => ⟨line_ge (by show 1 ≤ 16777216; decide), q2 hL⟩⟩⟩⟩
theorem sc_is_wanting : FnScope ["sign"] ["sign"] (defScope s_is_wanting) := ⟨rfl, rfl, rfl, by decide +kernel, rfl, by decide +kernel, by decide +kernel⟩
theorem ok_is_wanting {f : Addr} {fd : FuncData} (F : Fun K "is_wanting" "is_wanting" s_is_wanting f fd) (T : Txt K mg c_RoomError c_NoLetters c_NoWord c_NoNumber c_NoRoom c_NoMachine c_OtherLetters c_TooMany c_NoPattern c_TooGreat c_NoKind) : FnOk P w K mg base CX0 1 f fd ["sign"] sp_iswanting := by
  refine F.ok sc_is_wanting (fun vs H Q E h => ?_) (fun cdv A outer s H vs Q E hr h => ?_)
  · obtain ⟨ch, rfl, _⟩ := h
    rfl
  · obtain ⟨ch, rfl, q⟩ := h
    refine ⟨_, (pss_one (ps_ret (pe_cmpR op_in_str (pv 0) pe_str (by with_unfolding_all rfl)))), ?_⟩
    refine ⟨_, rfl, _, tx [33, 60, 40, 38, 124, 45], rfl, congrArg V.str (by decide +kernel), ?_⟩
    show Q (.bl (!(Builtin.Str.occurrences (tx [33, 60, 40, 38, 124, 45]) ⟨#[ch]⟩ 0 (tx [33, 60, 40, 38, 124, 45]).length 1).isEmpty)) H
    rw [occ_one]
    exact q
theorem sc_can_stand : FnScope ["letters", "sign", "wanting", "depth"] ["letters", "sign", "wanting", "depth"] (defScope s_can_stand) := ⟨rfl, rfl, rfl, by decide +kernel, rfl, by decide +kernel, by decide +kernel⟩
theorem ok_can_stand {f : Addr} {fd : FuncData} (F : Fun K "can_stand" "can_stand" s_can_stand f fd) (T : Txt K mg c_RoomError c_NoLetters c_NoWord c_NoNumber c_NoRoom c_NoMachine c_OtherLetters c_TooMany c_NoPattern c_TooGreat c_NoKind) : FnOk P w K mg base CX0 1 f fd ["letters", "sign", "wanting", "depth"] sp_canstand := by
  refine F.ok sc_can_stand (fun vs H Q E h => ?_) (fun cdv A outer s H vs Q E hr h => ?_)
  · obtain ⟨L, ch, w, dd, rfl, _⟩ := h
    rfl
  · obtain ⟨L, ch, w, dd, rfl, q⟩ := h
    refine ⟨_, (pss_cons ((ps_if ((pw_or (pt_cmpR op_in_str (pv 1) (pv 0) (by with_unfolding_all rfl)) (pw_or1 (pt_cmpR op_in_str (pv 1) pe_str (by with_unfolding_all rfl)))).pt) ((pss_one (ps_ret pe_bl))) (pss_nil))) (pss_cons ((ps_if (pt_cmpR op_eq (pv 1) pe_str (nomark _)) ((pss_one (ps_ret (pe_and (pe_cmpR op_gt (pv 3) pe_int (nomark _)) (pe_one (pe_not (pv 2))))))) (pss_nil))) (pss_one (ps_ret (pe_and (pe_cmpR op_in_str (pv 1) pe_str (by with_unfolding_all rfl)) (pe_one (pe_not (pv 2)))))))), ?_⟩
    unfold canS at q
    refine ⟨_, rfl, _, rfl, _, _, rfl, rfl, _, rfl, ?_⟩
    have e1 := occ_one L ch
    have e2 := occ_one [48, 49, 46, 33, 60, 40] ch
    have e3 := occ_one [42, 38, 124, 45] ch
    refine iteB (fun h1 => iteT ?_) (fun h1 => ?_)
    · rw [if_pos (by rw [← e1]; rw [show (!(Builtin.Str.occurrences (tx L) ⟨#[ch]⟩ 0 (tx L).length 1).isEmpty) = true from h1]; rfl)] at q
      exact q
    have h1' : L.contains ch = false := e1.symm.trans h1
    refine ⟨_, rfl, _, tx [48, 49, 46, 33, 60, 40], rfl, congrArg V.str (by decide +kernel), _, rfl, iteB (fun h2 => ?_) (fun h2 => ?_)⟩
    · rw [if_pos (by rw [show [48, 49, 46, 33, 60, 40].contains ch = true from e2.symm.trans h2, Bool.or_true])] at q
      exact q
    have h2' : [48, 49, 46, 33, 60, 40].contains ch = false := e2.symm.trans h2
    rw [if_neg (by rw [h1', h2']; decide)] at q
    refine ⟨_, rfl, rfl, _, rfl, ite3 (fun h3 => ?_) (fun h3 => ?_)⟩
    · rw [if_pos ((one_eq (by decide +kernel)).mp h3)] at q
      refine ⟨_, rfl, _, _, rfl, rfl, _, rfl, ?_⟩
      refine ite3 (fun h4 => ⟨_, rfl, _, rfl, ?_⟩) (fun h4 => ?_)
      · rw [decide_eq_true (show 0 < dd by omega), Bool.true_and] at q
        exact q
      · rw [decide_eq_false (show ¬ 0 < dd by omega), Bool.false_and] at q
        exact q
    · rw [if_neg (fun e => h3 ((one_eq (by decide +kernel)).mpr e))] at q
      refine ⟨_, rfl, _, tx [42, 38, 124, 45], rfl, congrArg V.str (by decide +kernel), _, rfl, iteB (fun h4 => ⟨_, rfl, _, rfl, ?_⟩) (fun h4 => ?_)⟩
      · rw [show [42, 38, 124, 45].contains ch = true from e3.symm.trans h4, Bool.true_and] at q
        exact q
      · rw [show [42, 38, 124, 45].contains ch = false from e3.symm.trans h4, Bool.false_and] at q
        exact h4 ▸ q
theorem sc_need_pattern : FnScope ["letters", "text", "depth", "wanting", "at", "sign"] ["letters", "text"] (defScope s_need_pattern) := ⟨rfl, rfl, rfl, by decide +kernel, rfl, by decide +kernel, by decide +kernel⟩
theorem ok_need_pattern {f : Addr} {fd : FuncData} (F : Fun K "need_pattern" "need_pattern" s_need_pattern f fd) (T : Txt K mg c_RoomError c_NoLetters c_NoWord c_NoNumber c_NoRoom c_NoMachine c_OtherLetters c_TooMany c_NoPattern c_TooGreat c_NoKind) {fX : Addr} {fdX : FuncData} (NP : NpK K mg c_NoPattern c_RoomError fX fdX) (d_can_stand : Df P w K mg base "can_stand" 1 ["letters", "sign", "wanting", "depth"] sp_canstand) (d_is_wanting : Df P w K mg base "is_wanting" 1 ["sign"] sp_iswanting) : FnOk P w K mg base (CXE P w) 3 f fd ["letters", "text"] (sp_needpatternX c_NoPattern) := by
  refine F.okX sc_need_pattern (fun vs H Q E h => ?_) (fun cdv A outer s H vs Q E hr h => ?_)
  · obtain ⟨L, w, rfl, _⟩ := h
    rfl
  · obtain ⟨L, w, rfl, hLS, hwl, q, qE⟩ := h
    have hr1 := hr.mono (j := 1) (by decide)
    refine ⟨_, (pss_cons ((ps_set (i := 2) sc_need_pattern.nd rfl (Or.inl rfl) (pe_int))) (pss_cons ((ps_set (i := 3) sc_need_pattern.nd rfl (Or.inl rfl) (pe_bl))) (pss_cons ((ps_for PassesOwn.leaving rfl (pi_enum rfl T.enum (pa_cons (pv 1) pa_nil)) (pg_tup rfl (pgs_cons (pg_name (i := 4) sc_need_pattern.nd rfl (Or.inl rfl)) (pgs_cons (pg_name (i := 5) sc_need_pattern.nd rfl (Or.inl rfl)) pgs_nil))) (pss_cons ((ps_if (pt_not (pt_val (pe_df d_can_stand hr1 (pa_cons (pv 0) (pa_cons (pv 5) (pa_cons (pv 3) (pa_cons (pv 2) pa_nil))))))) ((pss_one ((ps_raiseI rfl rfl throwsD_def NP.own NP.fn (ok_xinit NP) (hr.mono (j := 2) (by decide)) (NP.ini.binds (ps := ["self", "at"]) (fun _ _ _ _ _ _ us hl => by obtain ⟨_, _, rfl⟩ := len2 hl; rfl)) pass0 NP.kT (pa_cons (pv 4) pa_nil))))) (pss_nil))) (pss_cons ((ps_if (pt_cmpR op_eq (pv 5) pe_str (nomark _)) ((pss_one ((ps_set (i := 2) sc_need_pattern.nd rfl (Or.inl rfl) (pe_op op_a (pv 2) pe_int))))) (pss_nil))) (pss_cons ((ps_if (pt_cmpR op_eq (pv 5) pe_str (nomark _)) ((pss_one ((ps_set (i := 2) sc_need_pattern.nd rfl (Or.inl rfl) (pe_op op_s (pv 2) pe_int))))) (pss_nil))) (pss_one ((ps_set (i := 3) sc_need_pattern.nd rfl (Or.inl rfl) ((pe_df d_is_wanting hr1 (pa_cons (pv 5) pa_nil))))))))))) (pss_one ((ps_if ((pw_or (pt_val (pv 3)) (pw_or1 (pt_cmpR op_gt (pv 2) pe_int (nomark _)))).pt) ((pss_one ((ps_raiseI rfl rfl throwsD_def NP.own NP.fn (ok_xinit NP) (hr.mono (j := 2) (by decide)) (NP.ini.binds (ps := ["self", "at"]) (fun _ _ _ _ _ _ us hl => by obtain ⟨_, _, rfl⟩ := len2 hl; rfl)) pass0 NP.kT (pa_cons ((pe_callB call_len_str (by rfl) T.len PySem.boot_len (pa_cons (pv 1) pa_nil))) pa_nil))))) (pss_nil))))))), ?_⟩
    have fly : ∀ {H1 H3 : Hp} {e d : Addr} {k : Nat}, failsAt L 0 true 0 w = some k → Same H H1 → H1 e = none → (∀ b o, b ≠ e → L2.upd H1 e (excD e c_NoPattern none) b = some o → H3 b = some o) → L2.upd H1 e (excD e c_NoPattern none) d = none → FailAt H3 d k → E (.ref c_NoPattern) (some d) (del H3 e) := by
      intro H1 H3 e d k hf sm he k3 d0 hF
      have de : d ≠ e := fun z => by rw [z, upd_same] at d0; cases d0
      refine qE k d _ hf (fun b o z => ?_) ?_
      · have n1 : b ≠ e := ne_of_none (sm b o z) he
        rw [del_ne n1]
        exact k3 b o n1 (upd_keep (sm b o z) he)
      · unfold FailAt
        rw [del_ne de]
        exact hF
    refine ⟨_, rfl, _, rfl, for_enum (x := tx w) (fun i σ H' => ∃ (dd : Nat) (b : Bool) (s4 s5 : Option V), σ = [some (.str (tx L)), some (.str (tx w)), some (.int (dd : Int)), some (.bl b), s4, s5] ∧ Same H H' ∧ failsAt L 0 true 0 w = failsAt L dd b i (w.drop i)) ⟨0, true, none, none, rfl, Same.refl H, rfl⟩ ?_ ?_⟩
    · rintro i ch p σ H1 hc hp ⟨dd, b, s4, s5, rfl, sm, hs⟩
      rw [tx_get] at hc
      have hi : i < w.length := (List.getElem?_eq_some_iff.mp hc).1
      have hch : w[i] = ch := (List.getElem?_eq_some_iff.mp hc).2
      rw [List.drop_eq_getElem_cons hi, hch] at hs
      have sm' := sm.trans (Same.upd (o := .tup [.int (i : Int), .str ⟨#[ch]⟩]) hp)
      refine ⟨p, _, rfl, SqT.of upd_same, rfl, _, _, rfl, _, _, rfl, rfl, ?_⟩
      refine ⟨_, rfl, _, rfl, _, rfl, _, rfl, L, ch, b, dd, rfl, _, rfl, ?_⟩
      by_cases hcan : canS L ch b dd = true
      case neg =>
        rw [show canS L ch b dd = false by simpa using hcan]
        have hs : failsAt L 0 true 0 w = some i := by
          rw [hs]
          show (if canS L ch b dd = true then _ else _) = _
          rw [if_neg hcan]
        exact iteT ⟨_, rfl, line_ge (by show 1 ≤ 16777216; decide), fun e he => ⟨e, i, rfl, by omega, upd_same, fun H3 d k3 hd d0 hF => ⟨rfl, some d, hd, fly hs sm' he k3 d0 hF⟩⟩⟩
      have hs' : failsAt L 0 true 0 w = failsAt L (dAfter ch dd) (isW ch) (i + 1) (w.drop (i + 1)) := by
        rw [hs]
        show (if canS L ch b dd = true then _ else _) = _
        rw [if_pos hcan]
      rw [hcan]
      refine iteF ?_
      by_cases h40 : ch = 40
      · subst h40
        refine ⟨_, rfl, rfl, _, rfl, iteD ((one_eq (by decide +kernel)).mpr rfl) ⟨_, rfl, _, _, rfl, rfl, ?_⟩⟩
        refine ⟨_, rfl, rfl, _, rfl, iteN (fun h => absurd ((one_eq (x := 41) (by decide +kernel)).mp h) (by decide)) ⟨_, rfl, 40, rfl, ?_⟩⟩
        exact ⟨dd + 1, _, _, _, rfl, sm', hs'⟩
      refine ⟨_, rfl, rfl, _, rfl, iteN (fun h => h40 ((one_eq (by decide +kernel)).mp h)) ?_⟩
      by_cases h41 : ch = 41
      · subst h41
        have hdd : 0 < dd := by
          unfold canS at hcan
          by_cases hL41 : (L.contains 41 || [48, 49, 46, 33, 60, 40].contains 41) = true
          · exfalso
            rw [Bool.or_eq_true] at hL41
            rcases hL41 with z | z
            · have := hLS 41 (by simpa using z)
              omega
            · revert z
              decide
          · rw [if_neg hL41, if_pos rfl] at hcan
            have := (Bool.and_eq_true _ _).mp hcan
            exact of_decide_eq_true this.1
        obtain ⟨d', rfl⟩ : ∃ d', dd = d' + 1 := ⟨dd - 1, by omega⟩
        refine ⟨_, rfl, rfl, _, rfl, iteD ((one_eq (by decide +kernel)).mpr rfl) ⟨_, rfl, _, _, rfl, rfl, ⟨_, rfl, 41, rfl, ?_⟩⟩⟩
        refine ⟨d', _, some (.int (i : Int)), some (.str ⟨#[41]⟩), ?_, sm', hs'⟩
        show _ = [some (V.str (tx L)), some (V.str (tx w)), some (V.int ((d' : Nat) : Int)), some (V.bl (isW 41)), some (V.int (i : Int)), some (V.str ⟨#[41]⟩)]
        rw [show ((d' : Nat) : Int) = ((d' + 1 : Nat) : Int) - 1 by omega]
        rfl
      refine ⟨_, rfl, rfl, _, rfl, iteN (fun h => h41 ((one_eq (by decide +kernel)).mp h)) ⟨_, rfl, ch, rfl, ?_⟩⟩
      rw [dAfter_ne h40 h41] at hs'
      exact ⟨dd, _, _, _, rfl, sm', hs'⟩
    · rintro σ H1 ⟨dd, b, s4, s5, rfl, sm, hs⟩
      rw [tx_len, List.drop_length] at hs
      have hz : (tx w).length ≤ sizeLine := line_ge (by rw [tx_len]; omega)
      cases b with
      | true =>
        refine ⟨_, rfl, _, rfl, iteT (iteT ⟨_, rfl, _, rfl, hz, line_ge (by show 1 ≤ 16777216; decide), fun e he => ⟨e, w.length, by rw [tx_len], hwl, upd_same, fun H3 d k3 hd d0 hF => ⟨rfl, some d, hd, fly hs sm he k3 d0 hF⟩⟩⟩)⟩
      | false =>
        refine ⟨_, rfl, _, rfl, iteF ⟨_, rfl, _, _, rfl, rfl, _, rfl, ite3 (fun hd => ?_) (fun hd => ?_)⟩⟩
        · have hd' : 0 < dd := Int.ofNat_lt.mp hd
          have hs2 : failsAt L 0 true 0 w = some w.length := by
            rw [hs]
            show (if (false || decide (0 < dd)) = true then _ else _) = _
            rw [if_pos (by rw [Bool.false_or]; exact decide_eq_true hd')]
          exact ⟨_, rfl, _, rfl, hz, line_ge (by show 1 ≤ 16777216; decide), fun e he => ⟨e, w.length, by rw [tx_len], hwl, upd_same, fun H3 d k3 hd d0 hF => ⟨rfl, some d, hd, fly hs2 sm he k3 d0 hF⟩⟩⟩
        · refine q ?_ H1 sm
          rw [hs]
          show (if (false || decide (0 < dd)) = true then _ else _) = _
          rw [if_neg (by rw [Bool.false_or]; exact fun z => hd (Int.ofNat_lt.mpr (of_decide_eq_true z)))]
theorem sc_piece_of : FnScope ["token"] ["token"] (defScope s_piece_of) := ⟨rfl, rfl, rfl, by decide +kernel, rfl, by decide +kernel, by decide +kernel⟩
theorem ok_piece_of {f : Addr} {fd : FuncData} (F : Fun K "piece_of" "piece_of" s_piece_of f fd) (T : Txt K mg c_RoomError c_NoLetters c_NoWord c_NoNumber c_NoRoom c_NoMachine c_OtherLetters c_TooMany c_NoPattern c_TooGreat c_NoKind) (PK : PatKit P w K mg base c cP) : FnOk P w K mg base CX0 3 f fd ["token"] (sp_piece c) := by
  refine F.ok sc_piece_of (fun vs H Q E h => ?_) (fun cdv A outer s H vs Q E hr h => ?_)
  · obtain ⟨t, rfl, _⟩ := h
    rfl
  · obtain ⟨t, rfl, hok, q⟩ := h
    obtain ⟨fS, fdS, MS, GS, bS⟩ := PK.iS
    refine ⟨_, (pss_cons ((ps_if (pt_cmpR op_eq (pv 0) pe_str (nomark _)) ((pss_one (ps_ret (pe_make00 (PK.mk0 .never) rfl (PK.kc (.leaf .never)))))) (pss_nil))) (pss_cons ((ps_if (pt_cmpR op_eq (pv 0) pe_str (nomark _)) ((pss_one (ps_ret (pe_make00 (PK.mk0 .empty) rfl (PK.kc (.leaf .empty)))))) (pss_nil))) (pss_cons ((ps_if (pt_cmpR op_eq (pv 0) pe_str (nomark _)) ((pss_one (ps_ret (pe_make00 (PK.mk0 .any) rfl (PK.kc (.leaf .any)))))) (pss_nil))) (pss_one (ps_ret (pe_make MS GS hr rfl (PK.kc .sign) bS .nil pass0 (pa_cons (pv 0) pa_nil))))))), ?_⟩
    have mk : ∀ (k : K0) (x dx : Addr), H x = none → H dx = none → dx ≠ x → (∀ v H', Same H H' → PatAt c H' (.leaf k) v → Q v H') → Q (.ref x) (upd (upd H dx (.own x)) x (.ins (c (.leaf k)) dx [])) := fun k x dx hx hdx hne q =>
      q _ _ (made_same (o0 := .own x) hx hdx fun b o e hb => by rw [upd_ne hb] at e ⊢; exact e) ⟨x, dx, rfl, upd_same⟩
    cases t with
    | leaf k =>
      cases k with
      | never => exact ⟨_, rfl, rfl, _, rfl, iteD (by decide +kernel) (fun x dx hx hdx hne => mk .never x dx hx hdx hne q)⟩
      | empty => exact ⟨_, rfl, rfl, _, rfl, iteN (by decide +kernel) ⟨_, rfl, rfl, _, rfl, iteD (by decide +kernel) (fun x dx hx hdx hne => mk .empty x dx hx hdx hne q)⟩⟩
      | any => exact ⟨_, rfl, rfl, _, rfl, iteN (by decide +kernel) ⟨_, rfl, rfl, _, rfl, iteN (by decide +kernel) ⟨_, rfl, rfl, _, rfl, iteD (by decide +kernel) (fun x dx hx hdx hne => mk .any x dx hx hdx hne q)⟩⟩⟩
    | sign ch =>
      refine ⟨_, rfl, rfl, _, rfl, iteN (fun e => sg_ne (l := [110, 101, 118, 101, 114]) (by decide +kernel) (by intro e; simp at e) (V.str.inj e)) ⟨_, rfl, rfl, _, rfl, iteN (fun e => sg_ne (l := [101, 109, 112, 116, 121]) (by decide +kernel) (by intro e; simp at e) (V.str.inj e)) ⟨_, rfl, rfl, _, rfl, iteN (fun e => sg_ne (l := [97, 110, 121]) (by decide +kernel) (by intro e; simp at e) (V.str.inj e)) ?_⟩⟩⟩
      exact ⟨_, rfl, fun x dx hx hdx hne => ⟨x, _, _, dx, rfl, upd_same, (PK.pc _).cl, (PK.pc _).nS, fun H1 k1 hx1 => ⟨rfl, q _ _ (made_same hx hdx k1) ⟨x, dx, rfl, hx1⟩⟩⟩⟩
    | one _ _ => exact (show False from hok).elim
    | two _ _ _ => exact (show False from hok).elim
theorem sc_pair_of : FnScope ["kind", "left", "right"] ["kind", "left", "right"] (defScope s_pair_of) := ⟨rfl, rfl, rfl, by decide +kernel, rfl, by decide +kernel, by decide +kernel⟩
theorem ok_pair_of {f : Addr} {fd : FuncData} (F : Fun K "pair_of" "pair_of" s_pair_of f fd) (T : Txt K mg c_RoomError c_NoLetters c_NoWord c_NoNumber c_NoRoom c_NoMachine c_OtherLetters c_TooMany c_NoPattern c_TooGreat c_NoKind) (PK : PatKit P w K mg base c cP) : FnOk P w K mg base CX0 3 f fd ["kind", "left", "right"] (sp_pairof c) := by
  refine F.ok sc_pair_of (fun vs H Q E h => ?_) (fun cdv A outer s H vs Q E hr h => ?_)
  · obtain ⟨k, u, w', x, y, rfl, _⟩ := h
    rfl
  · obtain ⟨k, u, w', x, y, rfl, hx, hy, q⟩ := h
    obtain ⟨fP, fdP, MP, GP, bP⟩ := PK.iP
    refine ⟨_, (pss_cons ((ps_if (pt_cmpR op_eq (pv 0) pe_str (nomark _)) ((pss_one (ps_ret (pe_make (MP .either) GP hr rfl (PK.kc (.two .either)) bP .nil pass0 (pa_cons (pv 1) (pa_cons (pv 2) pa_nil)))))) (pss_nil))) (pss_cons ((ps_if (pt_cmpR op_eq (pv 0) pe_str (nomark _)) ((pss_one (ps_ret (pe_make (MP .less) GP hr rfl (PK.kc (.two .less)) bP .nil pass0 (pa_cons (pv 1) (pa_cons (pv 2) pa_nil)))))) (pss_nil))) (pss_cons ((ps_if (pt_cmpR op_eq (pv 0) pe_str (nomark _)) ((pss_one (ps_ret (pe_make (MP .both) GP hr rfl (PK.kc (.two .both)) bP .nil pass0 (pa_cons (pv 1) (pa_cons (pv 2) pa_nil)))))) (pss_nil))) (pss_one (ps_ret (pe_make (MP .then_) GP hr rfl (PK.kc (.two .then_)) bP .nil pass0 (pa_cons (pv 1) (pa_cons (pv 2) pa_nil)))))))), ?_⟩
    cases k with
    | either => exact ⟨_, rfl, rfl, _, rfl, iteD (by decide +kernel) ⟨_, rfl, _, rfl, fun z dx hz hdx hne => ⟨z, _, _, _, dx, rfl, upd_same, (PK.pc _).cl, (PK.pc _).nL, (PK.pc _).nR, fun H1 k1 hx1 => ⟨rfl, q _ _ (made_same hz hdx k1) ⟨z, dx, u, w', rfl, hx1, hx.kp (Same.kp (made_same hz hdx k1)), hy.kp (Same.kp (made_same hz hdx k1))⟩⟩⟩⟩⟩
    | less => exact ⟨_, rfl, rfl, _, rfl, iteN (by decide +kernel) ⟨_, rfl, rfl, _, rfl, iteD (by decide +kernel) ⟨_, rfl, _, rfl, fun z dx hz hdx hne => ⟨z, _, _, _, dx, rfl, upd_same, (PK.pc _).cl, (PK.pc _).nL, (PK.pc _).nR, fun H1 k1 hx1 => ⟨rfl, q _ _ (made_same hz hdx k1) ⟨z, dx, u, w', rfl, hx1, hx.kp (Same.kp (made_same hz hdx k1)), hy.kp (Same.kp (made_same hz hdx k1))⟩⟩⟩⟩⟩⟩
    | both => exact ⟨_, rfl, rfl, _, rfl, iteN (by decide +kernel) ⟨_, rfl, rfl, _, rfl, iteN (by decide +kernel) ⟨_, rfl, rfl, _, rfl, iteD (by decide +kernel) ⟨_, rfl, _, rfl, fun z dx hz hdx hne => ⟨z, _, _, _, dx, rfl, upd_same, (PK.pc _).cl, (PK.pc _).nL, (PK.pc _).nR, fun H1 k1 hx1 => ⟨rfl, q _ _ (made_same hz hdx k1) ⟨z, dx, u, w', rfl, hx1, hx.kp (Same.kp (made_same hz hdx k1)), hy.kp (Same.kp (made_same hz hdx k1))⟩⟩⟩⟩⟩⟩⟩
    | then_ => exact ⟨_, rfl, rfl, _, rfl, iteN (by decide +kernel) ⟨_, rfl, rfl, _, rfl, iteN (by decide +kernel) ⟨_, rfl, rfl, _, rfl, iteN (by decide +kernel) ⟨_, rfl, _, rfl, fun z dx hz hdx hne => ⟨z, _, _, _, dx, rfl, upd_same, (PK.pc _).cl, (PK.pc _).nL, (PK.pc _).nR, fun H1 k1 hx1 => ⟨rfl, q _ _ (made_same hz hdx k1) ⟨z, dx, u, w', rfl, hx1, hx.kp (Same.kp (made_same hz hdx k1)), hy.kp (Same.kp (made_same hz hdx k1))⟩⟩⟩⟩⟩⟩⟩
theorem sc_settle : FnScope ["desk", "strength", "kind", "last"] ["desk", "strength"] (defScope s_settle) := ⟨rfl, rfl, rfl, by decide +kernel, rfl, by decide +kernel, by decide +kernel⟩
theorem ok_settle {f : Addr} {fd : FuncData} (F : Fun K "settle" "settle" s_settle f fd) (T : Txt K mg c_RoomError c_NoLetters c_NoWord c_NoNumber c_NoRoom c_NoMachine c_OtherLetters c_TooMany c_NoPattern c_TooGreat c_NoKind) (PK : PatKit P w K mg base c cP) (RK : RdKit P w K mg base c cD d1 d2 d3) (d_pair_of : Df P w K mg base "pair_of" 3 ["kind", "left", "right"] (sp_pairof c)) : FnOk P w K mg base CX0 4 f fd ["desk", "strength"] (sp_settle c cD) := by
  refine F.ok sc_settle (fun vs H Q E h => ?_) (fun cdv A outer s H vs Q E hr h => ?_)
  · obtain ⟨d, dx, pa, wa, us, ps, ws, n, ps', ws', rfl, _⟩ := h
    rfl
  · obtain ⟨d, dx, pa, wa, us, ps, ws, n, ps', ws', rfl, D, hn, hset, hlen, q⟩ := h
    obtain ⟨fU, fdU, MU, GU, bU⟩ := PK.iU
    have hr2 := hr.mono (j := 2) (by decide)
    refine ⟨_, (pss_one (ps_while PassesOwn.never (pt_cmpR op_ge (pe_getK RK.dT (pe_glob (v := .ref d3) (by rfl) RK.kT rfl) (pa_cons (pe_ix ix_list (pe_fld (pv 0) rfl) (pe_un un_neg pe_int) (fun _ _ => rfl)) (pa_cons pe_int pa_nil))) (pv 1) (nomark _))
      (pss_cons ((ps_set (i := 2) sc_settle.nd rfl (Or.inl rfl) ((pe_bm0 PySem.F.plainAttrs_list PySem.F.slot_list_pop PySem.F.type_list_pop mt_pop (pe_fld (pv 0) rfl))))) (pss_cons ((ps_set (i := 3) sc_settle.nd rfl (Or.inl rfl) ((pe_bm0 PySem.F.plainAttrs_list PySem.F.slot_list_pop PySem.F.type_list_pop mt_pop (pe_fld (pv 0) rfl))))) (pss_one ((ps_if (pt_cmpR op_eq (pv 2) pe_str (nomark _)) ((pss_one (ps_expr (pe_bm PySem.F.plainAttrs_list PySem.F.slot_list_append PySem.F.type_list_append mt_append (pe_fld (pv 0) rfl) (pa_cons ((pe_make (MU .outside) GU hr2 rfl (PK.kc (.one .outside)) bU .nil pass0 (pa_cons (pv 3) pa_nil))) pa_nil))))) ((pss_one ((ps_if (pt_cmpR op_eq (pv 2) pe_str (nomark _)) ((pss_one (ps_expr (pe_bm PySem.F.plainAttrs_list PySem.F.slot_list_append PySem.F.type_list_append mt_append (pe_fld (pv 0) rfl) (pa_cons ((pe_make (MU .turned) GU hr2 rfl (PK.kc (.one .turned)) bU .nil pass0 (pa_cons (pv 3) pa_nil))) pa_nil))))) ((pss_one (ps_expr (pe_bm PySem.F.plainAttrs_list PySem.F.slot_list_append PySem.F.type_list_append mt_append (pe_fld (pv 0) rfl) (pa_cons ((pe_df d_pair_of hr (pa_cons (pv 2) (pa_cons ((pe_bm0 PySem.F.plainAttrs_list PySem.F.slot_list_pop PySem.F.type_list_pop mt_pop (pe_fld (pv 0) rfl))) (pa_cons (pv 3) pa_nil))))) pa_nil)))))))))))))))), ?_⟩
    refine while_by (fun σ H' => ∃ us1 ps1 ws1 s2 s3, σ = [some (.ref d), some (.int (n : Int)), s2, s3] ∧ Off pa wa H H' ∧ DeskAt c cD H' d dx pa wa us1 ps1 ws1 ∧ settleM n ps1 ws1 = some (ps', ws') ∧ ps1.length ≤ ps.length)
      (fun σ H' => match H' wa with | some (.lst l) => l.length | _ => 0) ⟨us, ps, ws, none, none, rfl, Off.refl _ _ _, D, hset, Nat.le_refl _⟩ ?_ ?_
    · rintro σ H1 ⟨us1, ps1, ws1, s2, s3, rfl, off, D1, hs1, hl1⟩
      cases ws1 with
      | nil => simp [settleM] at hs1
      | cons wt ws1 =>
      refine ⟨rfl, _, rfl, d, _, dx, _, _, rfl, D1.ob, RK.cl, RK.nW, lk_wait _ _, _, rfl, wa, _, _, _, rfl, rfl, SqL.of D1.wtop, atI_last _ _, Sum.inr (wname wt), _, rfl, ?_⟩
      rw [str_w]
      refine ⟨_, rfl, _, _, rfl, rfl, _, rfl, ite3 (fun hge => ?_) (fun hge => ?_)⟩
      · have hge' : n ≤ wt.str := by omega
        have mu : ∀ {H2 : Hp} {l : List V}, H2 wa = some (.lst l) → l.length = ws1.length → (match H2 wa with | some (.lst l) => l.length | _ => 0) < (match H1 wa with | some (.lst l) => l.length | _ => 0) := fun h1 h2 => by
          rw [h1, D1.wtop]
          simp
          omega
        refine ⟨_, rfl, d, _, dx, _, _, rfl, D1.ob, RK.cl, RK.nW, lk_wait _ _, .inl ⟨rfl, _, SqL.of D1.wtop⟩, wa, _, _, rfl, rfl, D1.wtop, last_at, ?_⟩
        rw [List.dropLast_concat]
        have D2 := D1.popW
        have off2 := off.trans (Off.w (pa := pa) (wa := wa) (H := H1) (o := .lst (ws1.reverse.map wv)))
        unfold settleM at hs1
        rw [if_pos hge'] at hs1
        match wt, ps1, D1, D2, hs1 with
        | .un k, x :: qs, D1, D2, hs1 =>
          obtain ⟨u, vs1, rfl⟩ := D2.one rfl
          obtain ⟨D3, hu⟩ := D2.popP
          refine ⟨_, rfl, d, _, dx, _, _, rfl, D2.ob, RK.cl, RK.nP, lk_pats _ _, .inl ⟨rfl, _, SqL.of D2.ptop⟩, pa, _, _, rfl, rfl, D2.ptop, last_at, ?_⟩
          rw [List.dropLast_concat]
          have off3 := off2.trans (Off.p (pa := pa) (wa := wa) (o := .lst vs1.reverse))
          have hlv := D3.pt.len
          have mk : ∀ (z dz : Addr) (H4 : Hp), (upd (upd H1 wa (.lst (ws1.reverse.map wv))) pa (.lst vs1.reverse)) z = none → Same (upd (upd H1 wa (.lst (ws1.reverse.map wv))) pa (.lst vs1.reverse)) H4 → H4 z = some (.ins (c (.one k.k1)) dz (putF "inner" u [])) →
              ∃ l xs' y, V.ref pa = V.ref l ∧ [V.ref z] = [y] ∧ H4 l = some (.lst xs') ∧ xs'.length < sizeLine ∧ ((∃ us1 ps1 ws1_1 s2 s3, ([some (.ref d), some (.int (n : Int)), some (wv (.un k)), some u] : St) = [some (.ref d), some (.int (n : Int)), s2, s3] ∧ Off pa wa H (upd H4 l (.lst (xs' ++ [y]))) ∧ DeskAt c cD (upd H4 l (.lst (xs' ++ [y]))) d dx pa wa us1 ps1 ws1_1 ∧ settleM n ps1 ws1_1 = some (ps', ws') ∧ ps1.length ≤ ps.length) ∧
                (match (upd H4 l (.lst (xs' ++ [y]))) wa with | some (.lst l) => l.length | _ => 0) < (match H1 wa with | some (.lst l) => l.length | _ => 0)) := by
            intro z dz H4 hz s4 hz4
            have D4 := D3.same s4
            have hnew : PatAt c H4 (.one k.k1 x) (.ref z) := ⟨z, dz, u, rfl, hz4, hu.kp (Same.kp s4)⟩
            refine ⟨pa, _, _, rfl, rfl, D4.pl, small1000 (by rw [List.length_reverse]; simp at hl1; omega), ⟨_, _, _, _, _, rfl, off3.trans ((Same.off s4).trans Off.p), D4.pushP hnew, hs1, by simp at hl1 ⊢; omega⟩, mu (l := ws1.reverse.map wv) (by rw [upd_ne (Ne.symm D4.ne)]; exact D4.wl) (by simp)⟩
          cases k with
          | outside =>
            exact ⟨_, rfl, rfl, _, rfl, iteD (by decide +kernel) ⟨_, rfl, d, _, dx, _, _, rfl, D3.ob, RK.cl, RK.nP, lk_pats _ _, .inl ⟨rfl, _, SqL.of D3.pl⟩, _, rfl, fun z dz hz hdz hne => ⟨z, _, _, dz, rfl, upd_same, (PK.pc _).cl, (PK.pc _).nI, fun H4 k4 hz4 => ⟨rfl, mk z dz H4 hz (made_same hz hdz k4) hz4⟩⟩⟩⟩
          | turned =>
            exact ⟨_, rfl, rfl, _, rfl, iteN (by decide +kernel) ⟨_, rfl, rfl, _, rfl, iteD (by decide +kernel) ⟨_, rfl, d, _, dx, _, _, rfl, D3.ob, RK.cl, RK.nP, lk_pats _ _, .inl ⟨rfl, _, SqL.of D3.pl⟩, _, rfl, fun z dz hz hdz hne => ⟨z, _, _, dz, rfl, upd_same, (PK.pc _).cl, (PK.pc _).nI, fun H4 k4 hz4 => ⟨rfl, mk z dz H4 hz (made_same hz hdz k4) hz4⟩⟩⟩⟩⟩
        | .bin k, y :: x :: qs, D1, D2, hs1 =>
          obtain ⟨u, vs1, rfl⟩ := D2.one rfl
          obtain ⟨D3, hu⟩ := D2.popP
          obtain ⟨u2, vs2, rfl⟩ := D3.one rfl
          refine ⟨_, rfl, d, _, dx, _, _, rfl, D2.ob, RK.cl, RK.nP, lk_pats _ _, .inl ⟨rfl, _, SqL.of D2.ptop⟩, pa, _, _, rfl, rfl, D2.ptop, last_at, ?_⟩
          rw [List.dropLast_concat]
          obtain ⟨D4, hu2⟩ := D3.popP
          have off3 := off2.trans ((Off.p (pa := pa) (wa := wa) (o := .lst (u2 :: vs2).reverse)).trans (Off.p (pa := pa) (wa := wa) (o := .lst vs2.reverse)))
          have hlv := D4.pt.len
          have hu' := hu.kp (Kp.lst (o := .lst vs2.reverse) D3.pl)
          have fin : ∃ b, V.bl false = V.bl b ∧ True := ⟨_, rfl, trivial⟩
          have n1 : ¬ (wv (.bin k) = V.str (Str.ofString "outside")) := by cases k <;> decide +kernel
          have n2 : ¬ (wv (.bin k) = V.str (Str.ofString "turned")) := by cases k <;> decide +kernel
          refine ⟨_, rfl, rfl, _, rfl, iteN n1 ⟨_, rfl, rfl, _, rfl, iteN n2 ?_⟩⟩
          refine ⟨_, rfl, d, _, dx, _, _, rfl, D3.ob, RK.cl, RK.nP, lk_pats _ _, .inl ⟨rfl, _, SqL.of D3.pl⟩, _, rfl, _, rfl, d, _, dx, _, _, rfl, D3.ob, RK.cl, RK.nP, lk_pats _ _, .inl ⟨rfl, _, SqL.of D3.ptop⟩, pa, _, _, rfl, rfl, D3.ptop, last_at, ?_⟩
          rw [List.dropLast_concat]
          refine ⟨_, rfl, k, u2, u, x, y, rfl, hu2, hu', fun v4 H4 s4 hv4 => ?_⟩
          have D5 := D4.same s4
          exact ⟨pa, _, _, rfl, rfl, D5.pl, small1000 (by rw [List.length_reverse]; simp at hl1; omega), ⟨_, _, _, _, _, rfl, off3.trans ((Same.off s4).trans Off.p), D5.pushP hv4, hs1, by simp at hl1 ⊢; omega⟩, mu (l := ws1.reverse.map wv) (by rw [upd_ne (Ne.symm D5.ne)]; exact D5.wl) (by simp)⟩
      · have hge' : wt.str < n := by omega
        rw [settleM_stop hge'] at hs1
        cases hs1
        exact q _ _ off D1
    · rintro σ H1 Q1 Q2 hQ ⟨e0, v1, e1, p1, c1', d1', f1, w1, e2, e3, e4, e5, e6, v2, e7, p2, x2, i2, z2, e8, e9, e10, e11, k2, z3, e12, v3, e13, i3, j3, e14, e15, b3, e16, q1⟩
      exact ⟨e0, v1, e1, p1, c1', d1', f1, w1, e2, e3, e4, e5, e6, v2, e7, p2, x2, i2, z2, e8, e9, e10, e11, k2, z3, e12, v3, e13, i3, j3, e14, e15, b3, e16, hQ _ _ q1⟩
theorem sc_put : FnScope ["desk", "token"] ["desk", "token"] (defScope s_put) := ⟨rfl, rfl, rfl, by decide +kernel, rfl, by decide +kernel, by decide +kernel⟩
theorem ok_put {f : Addr} {fd : FuncData} (F : Fun K "put" "put" s_put f fd) (T : Txt K mg c_RoomError c_NoLetters c_NoWord c_NoNumber c_NoRoom c_NoMachine c_OtherLetters c_TooMany c_NoPattern c_TooGreat c_NoKind) (PK : PatKit P w K mg base c cP) (RK : RdKit P w K mg base c cD d1 d2 d3) (d_settle : Df P w K mg base "settle" 4 ["desk", "strength"] (sp_settle c cD)) (d_piece_of : Df P w K mg base "piece_of" 3 ["token"] (sp_piece c)) : FnOk P w K mg base CX0 5 f fd ["desk", "token"] (sp_put c cD) := by
  refine F.ok sc_put (fun vs H Q E h => ?_) (fun cdv A outer s H vs Q E hr h => ?_)
  · obtain ⟨d, dx, pa, wa, us, ps, ws, tk, ps', ws', rfl, _⟩ := h
    rfl
  · obtain ⟨d, dx, pa, wa, us, ps, ws, tk, ps', ws', rfl, D, hok, hput, hl1, hl2, q⟩ := h
    obtain ⟨fU, fdU, MU, GU, bU⟩ := PK.iU
    have hr2 := hr.mono (j := 2) (by decide)
    have hr3 := hr.mono (j := 3) (by decide)
    refine ⟨_, (pss_one ((ps_if (pt_cmpR op_in_seq (pv 1) (pe_tup (pa_cons pe_str (pa_cons pe_str (pa_cons pe_str pa_nil)))) (by with_unfolding_all rfl)) ((pss_one (ps_expr (pe_bm PySem.F.plainAttrs_list PySem.F.slot_list_append PySem.F.type_list_append mt_append (pe_fld (pv 0) rfl) (pa_cons (pv 1) pa_nil))))) ((pss_one ((ps_if (pt_cmpR op_in_seq (pv 1) (pe_tup (pa_cons pe_str (pa_cons pe_str (pa_cons pe_str (pa_cons pe_str pa_nil))))) (by with_unfolding_all rfl)) ((pss_cons (ps_expr (pe_df d_settle hr (pa_cons (pv 0) (pa_cons (pe_ix (ix_dictK RK.dT) (pe_glob (v := .ref d3) (by rfl) RK.kT rfl) (pv 1) (fun _ _ => rfl)) pa_nil)))) (pss_one (ps_expr (pe_bm PySem.F.plainAttrs_list PySem.F.slot_list_append PySem.F.type_list_append mt_append (pe_fld (pv 0) rfl) (pa_cons (pv 1) pa_nil)))))) ((pss_one ((ps_if (pt_cmpR op_eq (pv 1) pe_str (nomark _)) ((pss_cons (ps_expr (pe_df d_settle hr (pa_cons (pv 0) (pa_cons (pe_int) pa_nil)))) (pss_one (ps_expr (pe_bm0 PySem.F.plainAttrs_list PySem.F.slot_list_pop PySem.F.type_list_pop mt_pop (pe_fld (pv 0) rfl)))))) ((pss_one ((ps_if (pt_cmpR op_eq (pv 1) pe_str (nomark _)) ((pss_one (ps_expr (pe_bm PySem.F.plainAttrs_list PySem.F.slot_list_append PySem.F.type_list_append mt_append (pe_fld (pv 0) rfl) (pa_cons ((pe_make (MU .again) GU hr2 rfl (PK.kc (.one .again)) bU .nil pass0 (pa_cons ((pe_bm0 PySem.F.plainAttrs_list PySem.F.slot_list_pop PySem.F.type_list_pop mt_pop (pe_fld (pv 0) rfl))) pa_nil))) pa_nil))))) ((pss_one (ps_expr (pe_bm PySem.F.plainAttrs_list PySem.F.slot_list_append PySem.F.type_list_append mt_append (pe_fld (pv 0) rfl) (pa_cons ((pe_df d_piece_of hr3 (pa_cons (pv 1) pa_nil))) pa_nil)))))))))))))))))))), ?_⟩
    have l3 : 3 ≤ sizeLine := line_ge (by show 3 ≤ 16777216; decide)
    have l4 : 4 ≤ sizeLine := line_ge (by show 4 ≤ 16777216; decide)
    have hlu := D.pt.len
    refine ⟨_, rfl, l3, fun p1 hp1 => ⟨p1, _, rfl, .inr (SqT.of upd_same), rfl, rfl, _, rfl, ?_⟩⟩
    have t1 := in_pre hok
    have s1 := Same.upd (o := .tup [.str (Str.ofString "("), .str (Str.ofString "outside"), .str (Str.ofString "turned")]) hp1
    have D1 := D.same s1
    refine iteB (fun h1 => ?_) (fun h1 => ?_)
    · -- a bracket or a sign ahead waits
      have h1' : isPre tk = true := t1.symm.trans h1
      have hw : ∃ wt, wv wt = tv tk ∧ ps' = ps ∧ ws' = wt :: ws := by
        cases tk with
        | lp => cases hput; exact ⟨.lp, rfl, rfl, rfl⟩
        | un k => cases hput; exact ⟨.un k, rfl, rfl, rfl⟩
        | _ => cases h1'
      obtain ⟨wt, ew, rfl, rfl⟩ := hw
      refine ⟨_, rfl, d, _, dx, _, _, rfl, D1.ob, RK.cl, RK.nW, lk_wait _ _, .inl ⟨rfl, _, SqL.of D1.wl⟩, _, rfl, wa, _, _, rfl, rfl, D1.wl, small1000 (by rw [List.length_map, List.length_reverse]; omega), ?_⟩
      rw [← ew]
      exact q _ _ ((Same.off s1).trans Off.w) (D1.pushW wt)
    have h1' : isPre tk = false := t1.symm.trans h1
    refine ⟨_, rfl, l4, fun p2 hp2 => ⟨p2, _, rfl, .inr (SqT.of upd_same), rfl, rfl, _, rfl, ?_⟩⟩
    have t2 := in_bin hok
    have s2 := s1.trans (Same.upd (o := .tup [.str (Str.ofString "either"), .str (Str.ofString "less"), .str (Str.ofString "both"), .str (Str.ofString "then")]) hp2)
    have D2 := D.same s2
    refine iteB (fun h2 => ?_) (fun h2 => ?_)
    · have h2' : isBin tk = true := t2.symm.trans h2
      cases tk with
      | bin k =>
        obtain ⟨r, hset, e⟩ := Option.map_eq_some_iff.mp hput
        obtain ⟨rp, rw'⟩ := r
        cases e
        refine ⟨_, rfl, _, rfl, Sum.inr (nm2 k), _, rfl, rfl, str_bin k, ?_⟩
        refine ⟨d, dx, pa, wa, us, ps, ws, lvl k + 1, _, _, rfl, D2, Nat.succ_le_succ (Nat.zero_le _), hset, by omega, fun us3 H3 off3 D3 => ?_⟩
        have hl3 := settleM_len hset
        exact ⟨_, rfl, d, _, dx, _, _, rfl, D3.ob, RK.cl, RK.nW, lk_wait _ _, .inl ⟨rfl, _, SqL.of D3.wl⟩, _, rfl, wa, _, _, rfl, rfl, D3.wl, small1000 (by rw [List.length_map, List.length_reverse]; omega), q _ _ ((Same.off s2).trans (off3.trans Off.w)) (D3.pushW (.bin k))⟩
      | _ => cases h2'
    have h2' : isBin tk = false := t2.symm.trans h2
    have t3 := eq_rp hok
    have t4 := eq_star hok
    refine ⟨_, rfl, rfl, _, rfl, iteB (fun h3 => ?_) (fun h3 => ?_)⟩
    · have h3' : isRp tk = true := t3.symm.trans h3
      cases tk with
      | rp =>
        obtain ⟨r, hset, e⟩ := Option.bind_eq_some_iff.mp hput
        obtain ⟨rp, rw'⟩ := r
        cases rw' with
        | nil => cases e
        | cons wt rw' =>
          cases e
          refine ⟨_, rfl, d, dx, pa, wa, us, ps, ws, 1, _, _, rfl, D2, Nat.le_refl _, hset, by omega, fun us3 H3 off3 D3 => ?_⟩
          refine ⟨_, rfl, d, _, dx, _, _, rfl, D3.ob, RK.cl, RK.nW, lk_wait _ _, .inl ⟨rfl, _, SqL.of D3.wtop⟩, wa, _, _, rfl, rfl, D3.wtop, last_at, ?_⟩
          rw [List.dropLast_concat]
          exact q _ _ ((Same.off s2).trans (off3.trans Off.w)) D3.popW
      | _ => cases h3'
    have h3' : isRp tk = false := t3.symm.trans h3
    refine ⟨_, rfl, rfl, _, rfl, iteB (fun h4 => ?_) (fun h4 => ?_)⟩
    · have h4' : isStar tk = true := t4.symm.trans h4
      cases tk with
      | star =>
        cases ps with
        | nil => cases hput
        | cons x qs =>
          cases hput
          obtain ⟨u, vs, rfl⟩ := D2.one rfl
          obtain ⟨D3, hu⟩ := D2.popP
          refine ⟨_, rfl, d, _, dx, _, _, rfl, D2.ob, RK.cl, RK.nP, lk_pats _ _, .inl ⟨rfl, _, SqL.of D2.pl⟩, _, rfl, d, _, dx, _, _, rfl, D2.ob, RK.cl, RK.nP, lk_pats _ _, .inl ⟨rfl, _, SqL.of D2.ptop⟩, pa, _, _, rfl, rfl, D2.ptop, last_at, ?_⟩
          rw [List.dropLast_concat]
          refine fun z dz hz hdz hne => ⟨z, _, _, dz, rfl, upd_same, (PK.pc _).cl, (PK.pc _).nI, fun H4 k4 hz4 => ⟨rfl, ?_⟩⟩
          have s4 := made_same hz hdz k4
          have D4 := D3.same s4
          exact ⟨pa, _, _, rfl, rfl, D4.pl, small1000 (by rw [List.length_reverse]; simp at hlu hl1; omega), q _ _ ((Same.off s2).trans (Off.p.trans ((Same.off s4).trans Off.p))) (D4.pushP ⟨z, dz, u, rfl, hz4, hu.kp (Same.kp s4)⟩)⟩
      | _ => cases h4'
    have h4' : isStar tk = false := t4.symm.trans h4
    cases tk with
    | piece t =>
      cases hput
      refine ⟨_, rfl, d, _, dx, _, _, rfl, D2.ob, RK.cl, RK.nP, lk_pats _ _, .inl ⟨rfl, _, SqL.of D2.pl⟩, _, rfl, t, rfl, hok, fun v3 H3 s3 hv3 => ?_⟩
      have D3 := D2.same s3
      exact ⟨pa, _, _, rfl, rfl, D3.pl, small1000 (by rw [List.length_reverse]; omega), q _ _ ((Same.off s2).trans ((Same.off s3).trans Off.p)) (D3.pushP hv3)⟩
    | lp => cases h1'
    | un k => cases h1'
    | bin k => cases h2'
    | rp => cases h3'
    | star => exact absurd h4' (by decide)
theorem sc_tokens_of : FnScope ["text", "tokens", "wanting", "sign"] ["text"] (defScope s_tokens_of) := ⟨rfl, rfl, rfl, by decide +kernel, rfl, by decide +kernel, by decide +kernel⟩
theorem ok_tokens_of {f : Addr} {fd : FuncData} (F : Fun K "tokens_of" "tokens_of" s_tokens_of f fd) (T : Txt K mg c_RoomError c_NoLetters c_NoWord c_NoNumber c_NoRoom c_NoMachine c_OtherLetters c_TooMany c_NoPattern c_TooGreat c_NoKind) (RK : RdKit P w K mg base c cD d1 d2 d3) (d_is_wanting : Df P w K mg base "is_wanting" 1 ["sign"] sp_iswanting) : FnOk P w K mg base CX0 2 f fd ["text"] sp_tokens := by
  refine F.ok sc_tokens_of (fun vs H Q E h => ?_) (fun cdv A outer s H vs Q E hr h => ?_)
  · obtain ⟨w, rfl, _⟩ := h
    rfl
  · obtain ⟨w, rfl, hok, hlen, q⟩ := h
    refine ⟨_, (pss_cons ((ps_set (i := 1) sc_tokens_of.nd rfl (Or.inl rfl) (pe_lst pa_nil))) (pss_cons ((ps_set (i := 2) sc_tokens_of.nd rfl (Or.inl rfl) (pe_bl))) (pss_cons ((ps_for PassesOwn.never rfl (pi_str (pv 0)) (pg_name (i := 3) sc_tokens_of.nd rfl (Or.inl rfl)) ((pss_cut ((ps_if ((pw_and (pt_not (pt_val (pv 2))) (pw_and1 (pt_cmpR op_notin_str (pv 3) pe_str (by with_unfolding_all rfl)))).pt) ((pss_one (ps_expr (pe_bm PySem.F.plainAttrs_list PySem.F.slot_list_append PySem.F.type_list_append mt_append (pv 1) (pa_cons (pe_str) pa_nil))))) (pss_nil))) (pss_cons (ps_expr (pe_bm PySem.F.plainAttrs_list PySem.F.slot_list_append PySem.F.type_list_append mt_append (pv 1) (pa_cons (pe_getK RK.dK (pe_glob (v := .ref d2) (by rfl) RK.kK rfl) (pa_cons (pv 3) (pa_cons (pv 3) pa_nil))) pa_nil))) (pss_one ((ps_set (i := 2) sc_tokens_of.nd rfl (Or.inl rfl) ((pe_df d_is_wanting hr (pa_cons (pv 3) pa_nil))))))))))) (pss_one (ps_ret (pv 1)))))), ?_⟩
    refine ⟨Nat.zero_le _, fun p hp => ?_⟩
    refine ⟨_, rfl, _, rfl, for_str (x := tx w) (fun i σ H' => ∃ (ts : List Tk) (b : Bool) (s3 : Option V), σ = [some (.str (tx w)), some (.ref p), some (.bl b), s3] ∧ H' = upd H p (.lst (ts.map tv)) ∧ toks true w = ts ++ toks b (w.drop i) ∧ ts.length ≤ 2 * i) ⟨[], true, none, rfl, rfl, rfl, Nat.le_refl _⟩ ?_ ?_⟩
    · rintro i ch σ H1 hc ⟨ts, b, s3, rfl, rfl, ht, hl⟩
      rw [tx_get] at hc
      have hi : i < w.length := (List.getElem?_eq_some_iff.mp hc).1
      have hch : w[i] = ch := (List.getElem?_eq_some_iff.mp hc).2
      have hsg := hok ch (List.mem_of_getElem? hc)
      rw [List.drop_eq_getElem_cons hi, hch] at ht
      rw [show toks b (ch :: w.drop (i + 1)) = (if (!b && !isB ch) = true then [Tk.bin .then_] else []) ++ tok ch :: toks (isW ch) (w.drop (i + 1)) from rfl] at ht
      refine ⟨fun σ' H' => ∃ ts' : List Tk, σ' = [some (.str (tx w)), some (.ref p), some (.bl b), some (.str (tx [ch]))] ∧ H' = upd H p (.lst (ts'.map tv)) ∧ toks true w = ts' ++ tok ch :: toks (isW ch) (w.drop (i + 1)) ∧ ts'.length ≤ 2 * i + 1, ?_, ?_⟩
      · have eB := occ_one [42, 38, 124, 45, 41] ch
        refine ⟨_, rfl, _, rfl, ?_⟩
        cases b with
        | true => exact iteF (iteF ⟨ts, rfl, rfl, by rw [ht]; rfl, by omega⟩)
        | false =>
          refine iteT ⟨_, rfl, _, tx [42, 38, 124, 45, 41], rfl, congrArg V.str (by decide +kernel), _, rfl, ?_⟩
          refine iteB (fun h => ?_) (fun h => ?_)
          · have hB : isB ch = false := by
              have : (!(!(Builtin.Str.occurrences (tx [42, 38, 124, 45, 41]) ⟨#[ch]⟩ 0 (tx [42, 38, 124, 45, 41]).length 1).isEmpty)) = true := h
              rw [eB] at this
              exact (Bool.not_eq_true' _).mp this
            refine ⟨_, rfl, .inl ⟨rfl, _, SqL.of upd_same⟩, p, _, _, rfl, rfl, upd_same, small1000 (by rw [List.length_map]; omega), ?_⟩
            refine ⟨ts ++ [.bin .then_], rfl, by rw [upd_upd, List.map_append]; rfl, ?_, by rw [List.length_append]; simp; omega⟩
            rw [ht, hB]
            simp
          · have hB : isB ch = true := by
              have : (!(!(Builtin.Str.occurrences (tx [42, 38, 124, 45, 41]) ⟨#[ch]⟩ 0 (tx [42, 38, 124, 45, 41]).length 1).isEmpty)) = false := h
              rw [eB] at this
              exact (Bool.not_eq_false' _).mp this
            refine ⟨ts, rfl, rfl, ?_, by omega⟩
            rw [ht, hB]
            rfl
      rintro σ1 H2 ⟨ts', rfl, rfl, ht', hl'⟩
      refine ⟨_, rfl, .inl ⟨rfl, _, SqL.of upd_same⟩, rfl, _, rfl, _, rfl, Sum.inr (tx [ch]), _, rfl, p, _, _, rfl, rfl, upd_same, small1000 (by rw [List.length_map]; omega), ?_⟩
      refine ⟨_, rfl, ch, rfl, ts' ++ [tok ch], isW ch, _, rfl, ?_, by rw [ht']; simp, by rw [List.length_append]; simp; omega⟩
      rw [upd_upd, List.map_append, kinds_get hsg]
      rfl
    · rintro σ H1 ⟨ts, b, s3, rfl, rfl, ht, hl⟩
      rw [tx_len, List.drop_length] at ht
      refine ⟨_, rfl, q p _ hp (Same.upd hp) ?_⟩
      rw [upd_same, ht]
      simp [toks]
theorem sc_pattern_of : FnScope ["text", "desk", "token"] ["text"] (defScope s_pattern_of) := ⟨rfl, rfl, rfl, by decide +kernel, rfl, by decide +kernel, by decide +kernel⟩
theorem ok_pattern_of {f : Addr} {fd : FuncData} (F : Fun K "pattern_of" "pattern_of" s_pattern_of f fd) (T : Txt K mg c_RoomError c_NoLetters c_NoWord c_NoNumber c_NoRoom c_NoMachine c_OtherLetters c_TooMany c_NoPattern c_TooGreat c_NoKind) (PK : PatKit P w K mg base c cP) (RK : RdKit P w K mg base c cD d1 d2 d3) (d_tokens_of : Df P w K mg base "tokens_of" 2 ["text"] sp_tokens) (d_put : Df P w K mg base "put" 5 ["desk", "token"] (sp_put c cD)) : FnOk P w K mg base CX0 6 f fd ["text"] (sp_patternof c) := by
  refine F.ok sc_pattern_of (fun vs H Q E h => ?_) (fun cdv A outer s H vs Q E hr h => ?_)
  · obtain ⟨tw, t, rfl, _⟩ := h
    rfl
  · obtain ⟨tw, t, rfl, hsg, hlen, hput, q⟩ := h
    obtain ⟨fD, fdD, MD, GD, bD⟩ := RK.ini
    have hr2 := hr.mono (j := 2) (by decide)
    refine ⟨_, (pss_cons ((ps_set (i := 1) sc_pattern_of.nd rfl (Or.inl rfl) (pe_make0 MD GD hr2 rfl RK.kD bD .nil pass0))) (pss_cons ((ps_for PassesOwn.never rfl (pi_list (pe_df d_tokens_of hr2 (pa_cons (pe_op op_add_str (pe_op op_add_str pe_str (pv 0)) pe_str) pa_nil))) (pg_name (i := 2) sc_pattern_of.nd rfl (Or.inl rfl)) ((pss_one (ps_expr (pe_df d_put hr (pa_cons (pv 1) (pa_cons (pv 2) pa_nil)))))))) (pss_one (ps_ret (pe_ix ix_list (pe_fld (pv 1) rfl) pe_int (fun _ _ => rfl)))))), ?_⟩
    intro d dx hd hdx hne
    refine ⟨d, dx, _, rfl, upd_same, RK.cl, RK.nP, RK.nW, fun pa wa H1 k1 D1 hpa hwa => ⟨rfl, ?_⟩⟩
    have s1 : Same H H1 := made_same hd hdx k1
    have s0 : Same H (upd (upd H dx (.own d)) d (.ins cD dx [])) := made_same (o0 := .ins cD dx []) hd hdx fun b o e _ => e
    have etx : ∀ x : Str, x = tx [40] → x ++ tx tw = tx (40 :: tw) := fun x e => by rw [e, tx_app]; rfl
    have e40 : Str.ofString "(" = tx [40] := by decide +kernel
    have e41 : Str.ofString ")" = tx [41] := by decide +kernel
    refine ⟨_, rfl, _, _, rfl, rfl, ?_, _, _, rfl, rfl, ?_, ?_⟩
    · rw [e40, tx_len, tx_len]
      exact line_ge (by simp; omega)
    · rw [e40, e41, tx_app, tx_len, tx_len]
      exact line_ge (by simp; omega)
    rw [e40, e41, tx_app, tx_app]
    have hsg' : ∀ ch ∈ 40 :: (tw ++ [41]), SgOk ch := fun ch hc => by
      rcases List.mem_cons.mp hc with rfl | hc
      · exact .inr (by simp)
      · rcases List.mem_append.mp hc with hc | hc
        · exact hsg ch hc
        · obtain rfl : ch = 41 := by simpa using hc
          exact .inr (by simp)
    refine ⟨40 :: (tw ++ [41]), rfl, hsg', by simp; omega, fun tl H2 htl0 s2 htl => ?_⟩
    have htk := toks_ok true hsg'
    have htl2 := toks_len (40 :: (tw ++ [41])) true
    have hln : (40 :: (tw ++ [41])).length = tw.length + 2 := by simp
    generalize toks true (40 :: (tw ++ [41])) = ts at *
    have D2 := D1.same s2
    have hntl : tl ≠ pa ∧ tl ≠ wa := ⟨Ne.symm (ne_of_none D1.pl htl0), Ne.symm (ne_of_none D1.wl htl0)⟩
    refine ⟨tl, rfl, ⟨_, SqL.of htl⟩, for_list (K := K) (a := tl) (xs := ts.map tv) (fun i σ H' => ∃ us ps ws s2, σ = [some (.str (tx tw)), some (.ref d), s2] ∧ (∀ b o, H2 b = some o → b ≠ pa → b ≠ wa → H' b = some o) ∧ DeskAt c cD H' d dx pa wa us ps ws ∧ putsM (ts.take i) ([], []) = some (ps, ws) ∧ ps.length ≤ i ∧ ws.length ≤ i) ⟨[], [], [], none, rfl, fun _ _ e _ _ => e, D2, rfl, Nat.le_refl _, Nat.le_refl _⟩ ?_ ?_ ?_⟩
    · rintro i σ H' hi ⟨us, ps, ws, s2', rfl, off, _⟩
      exact SqL.of (off _ _ htl hntl.1 hntl.2)
    · rintro i x σ H' hx ⟨us, ps, ws, s2', rfl, off, D', hpt, l1, l2⟩
      rw [List.getElem?_map] at hx
      obtain ⟨tk, htk', rfl⟩ := Option.map_eq_some_iff.mp hx
      have hi : i < ts.length := (List.getElem?_eq_some_iff.mp htk').1
      obtain ⟨r1, hr1, hrest⟩ := putsM_take hput (i + 1)
      have hstep : putM ps ws tk = some r1 := by
        rw [List.take_add_one, htk', putsM_app, hpt] at hr1
        have : (putM ps ws tk).bind (putsM []) = some r1 := hr1
        cases hp : putM ps ws tk with
        | none => rw [hp] at this; cases this
        | some r => rw [hp] at this; cases this; rfl
      obtain ⟨ps1, ws1⟩ := r1
      have hl := putM_len hstep
      refine ⟨_, rfl, _, rfl, d, dx, pa, wa, us, ps, ws, tk, ps1, ws1, rfl, D', htk tk (List.mem_of_getElem? htk'), hstep, by omega, by omega, fun us1 H3 off3 D3 => ?_⟩
      exact ⟨us1, ps1, ws1, _, rfl, fun b o e n1 n2 => off3 b o (off b o e n1 n2) n1 n2, D3, hr1, by omega, by omega⟩
    · rintro σ H' ⟨us, ps, ws, s2', rfl, off, D', hpt, l1, l2⟩
      rw [List.length_map, List.take_length, hput] at hpt
      cases hpt
      obtain ⟨u, vs, rfl⟩ := D'.one rfl
      have hvs : vs = [] := by
        have := D'.pt.len
        simp at this
        exact this
      subst hvs
      refine ⟨_, rfl, d, _, dx, _, _, rfl, D'.ob, RK.cl, RK.nP, lk_pats _ _, pa, _, _, _, rfl, rfl, SqL.of D'.pl, atI_nat (j := 0) rfl, ?_⟩
      refine q u H' (fun b o e => off b o (s2 b o (s1 b o e)) ?_ ?_) D'.pt.1
      · exact ne_of_none e (s0.free hpa)
      · exact ne_of_none e (s0.free hwa)
theorem sc_read : FnScope ["letters", "text"] ["letters", "text"] (defScope s_read) := ⟨rfl, rfl, rfl, by decide +kernel, rfl, by decide +kernel, by decide +kernel⟩
theorem ok_read {f : Addr} {fd : FuncData} (F : Fun K "read" "read" s_read f fd) (T : Txt K mg c_RoomError c_NoLetters c_NoWord c_NoNumber c_NoRoom c_NoMachine c_OtherLetters c_TooMany c_NoPattern c_TooGreat c_NoKind) (PK : PatKit P w K mg base c cP) (RK : RdKit P w K mg base c cD d1 d2 d3) (d_need_letters : DfX P w K mg base "need_letters" 2 ["letters"] (sp_needlettersX c_NoLetters)) (d_need_pattern : DfX P w K mg base "need_pattern" 3 ["letters", "text"] (sp_needpatternX c_NoPattern)) (d_pattern_of : Df P w K mg base "pattern_of" 6 ["text"] (sp_patternof c)) : FnOk P w K mg base (CXE P w) 7 f fd ["letters", "text"] (sp_readX c c_NoLetters c_NoPattern) := by
  refine F.okX sc_read (fun vs H Q E h => ?_) (fun cdv A outer s H vs Q E hr h => ?_)
  · obtain ⟨L, tw, rfl, _⟩ := h
    rfl
  · obtain ⟨L, tw, rfl, hs, hlen, q1, q2⟩ := h
    have hr2 := hr.mono (j := 2) (by decide)
    have hr3 := hr.mono (j := 3) (by decide)
    refine ⟨_, (pss_cons (ps_expr (pe_dfX d_need_letters hr2 (passes_def fun _ _ _ z => z) (pa_cons (pv 0) pa_nil))) (pss_cons (ps_expr (pe_dfX d_need_pattern hr3 (passes_def fun _ _ _ z => z) (pa_cons (pv 0) (pa_cons (pv 1) pa_nil)))) (pss_one (ps_ret (pe_df d_pattern_of hr (pa_cons (pv 1) pa_nil)))))), ?_⟩
    by_cases hL : Let L
    case neg => exact ⟨_, rfl, L, rfl, hs, fun y => (hL y).elim, fun n => q1 n⟩
    obtain ⟨q2, q3⟩ := q2 hL
    have hLS : LetS L := fun c hc => hL.az c hc
    refine ⟨_, rfl, L, rfl, hs, fun _ => ?_, fun n => (n hL).elim⟩
    refine ⟨_, rfl, _, rfl, L, tw, rfl, hLS, hlen, fun hn H1 s1 => ?_, q2⟩
    have hsc := fails_scan L tw 0 true 0 hn
    obtain ⟨t, ht⟩ := scan_read hLS hsc
    exact ⟨_, rfl, tw, t, rfl, fun ch hc => scan_sgs hLS tw 0 true _ hsc ch hc, hlen, ht, fun v H2 s2 hv => q3 hn t v H2 (s1.trans s2) hv⟩
theorem sc__law_cell_at : FnScope ["_law_script", "_law_k"] ["_law_script", "_law_k"] (defScope s__law_cell_at) := ⟨rfl, rfl, rfl, by decide +kernel, rfl, by decide +kernel, by decide +kernel⟩
theorem ok__law_cell_at {f : Addr} {fd : FuncData} (F : Fun K "_law_cell_at" "_law_cell_at" s__law_cell_at f fd) (T : Txt K mg c_RoomError c_NoLetters c_NoWord c_NoNumber c_NoRoom c_NoMachine c_OtherLetters c_TooMany c_NoPattern c_TooGreat c_NoKind) : FnOk P w K mg base CX0 1 f fd ["_law_script", "_law_k"] (sp_cell K) := by
  refine F.ok sc__law_cell_at (fun vs H Q E h => ?_) (fun cdv A outer s H vs Q E hr h => ?_)
  · obtain ⟨a, ns, k, rfl, _⟩ := h
    rfl
  · obtain ⟨a, ns, k, rfl, hS, h0, q⟩ := h
    refine ⟨_, (pss_cons ((ps_if (pt_cmpR op_lt (pv 1) (pe_callB call_len_seq (by rfl) T.len PySem.boot_len (pa_cons (pv 0) pa_nil)) (nomark _)) ((pss_one (ps_ret (pe_ix ix_list (pv 0) (pv 1) (fun _ _ => rfl))))) (pss_nil))) (pss_one (ps_ret pe_int))), ?_⟩
    refine ⟨_, rfl, _, rfl, a, _, rfl, .inl hS, _, _, rfl, rfl, _, rfl, ?_⟩
    refine ite3 (fun hlt => ?_) (fun _ => q 0)
    obtain ⟨v, hv, hv2⟩ := atI_in (xs := ns.map V.int) h0 hlt
    obtain ⟨z, rfl⟩ : ∃ z, v = V.int z := by
      rw [List.getElem?_map] at hv2
      cases e : ns[k.toNat]? with
      | none => rw [e] at hv2; cases hv2
      | some z => rw [e] at hv2; exact ⟨z, (Option.some.inj hv2).symm⟩
    exact ⟨_, rfl, _, rfl, a, _, _, _, rfl, rfl, hS, hv, q z⟩
theorem sc__law_letters : FnScope ["_law_cell", "_law_left", "_law_number", "_law_many", "_law_found", "_law_k", "_law_at"] ["_law_cell"] (defScope s__law_letters) := ⟨rfl, rfl, rfl, by decide +kernel, rfl, by decide +kernel, by decide +kernel⟩
theorem ok__law_letters {f : Addr} {fd : FuncData} (F : Fun K "_law_letters" "_law_letters" s__law_letters f fd) (T : Txt K mg c_RoomError c_NoLetters c_NoWord c_NoNumber c_NoRoom c_NoMachine c_OtherLetters c_TooMany c_NoPattern c_TooGreat c_NoKind) : FnOk P w K mg base CX0 1 f fd ["_law_cell"] sp_letters := by
  refine F.ok sc__law_letters (fun vs H Q E h => ?_) (fun cdv A outer s H vs Q E hr h => ?_)
  · obtain ⟨c, rfl, _⟩ := h
    rfl
  · obtain ⟨c, rfl, q⟩ := h
    refine ⟨_, (pss_cons ((ps_set (i := 1) sc__law_letters.nd rfl (Or.inl rfl) (pe_str))) (pss_cons ((ps_set (i := 2) sc__law_letters.nd rfl (Or.inl rfl) (pe_op op_mod (pv 0) pe_int))) (pss_cons ((ps_set (i := 3) sc__law_letters.nd rfl (Or.inl rfl) (pe_op op_add pe_int (pe_op op_mod (pv 2) pe_int)))) (pss_cons ((ps_set (i := 2) sc__law_letters.nd rfl (Or.inl rfl) (pe_op op_fdiv (pv 2) pe_int))) (pss_cons ((ps_set (i := 4) sc__law_letters.nd rfl (Or.inl rfl) (pe_str))) (pss_cons ((ps_for PassesOwn.never rfl (pi_range1 rfl T.range (pa_cons (pv 3) pa_nil)) (pg_name (i := 5) sc__law_letters.nd rfl (Or.inl rfl)) ((pss_cons ((ps_set (i := 6) sc__law_letters.nd rfl (Or.inl rfl) (pe_op op_mod (pv 2) (pe_callB call_len_str (by rfl) T.len PySem.boot_len (pa_cons (pv 1) pa_nil))))) (pss_cons ((ps_set (i := 2) sc__law_letters.nd rfl (Or.inl rfl) (pe_op op_fdiv (pv 2) (pe_callB call_len_str (by rfl) T.len PySem.boot_len (pa_cons (pv 1) pa_nil))))) (pss_cons ((ps_set (i := 4) sc__law_letters.nd rfl (Or.inl rfl) (pe_op op_add_str (pv 4) (pe_ix ix_str (pv 1) (pv 6) (fun _ _ => rfl))))) (pss_one ((ps_set (i := 1) sc__law_letters.nd rfl (Or.inl rfl) (pe_op op_add_str (pe_slice sl_str (pv 1) po_none (po_some (pv 6))) (pe_slice sl_str (pv 1) (po_some (pe_op op_add (pv 6) pe_int)) po_none))))))))))) (pss_one (ps_ret (pv 4))))))))), ?_⟩
    refine ⟨_, rfl, _, _, rfl, rfl, (by show (0 : Int) < 46800; decide), _, rfl, _, _, rfl, rfl, (by show (0 : Int) < 3; decide), _, _, rfl, rfl, _, rfl, _, _, rfl, rfl, ⟨by decide, by decide⟩, _, rfl, _, rfl, by omega, by omega, ?_⟩
    have hm : (1 : Int) + c % 46800 % 3 ≤ 3 ∧ 1 ≤ (1 : Int) + c % 46800 % 3 := by omega
    generalize hM : (1 : Int) + c % 46800 % 3 = M at hm ⊢
    refine for_range (n := M.toNat) (fun i σ H' => ∃ f l n k0 a0, σ = [some (.int c), some (.str (tx l)), some (.int n), some (.int M), some (.str (tx f)), k0, a0] ∧ H' = H ∧ 0 ≤ n ∧ f.length = i ∧ l.length + i = 26 ∧ (f ++ l).Nodup ∧ ∀ c ∈ f ++ l, 97 ≤ c ∧ c ≤ 122) ?_ ?_ ?_
    · refine ⟨[], List.range' 97 26, c % 46800 / 3, none, none, ?_, rfl, by omega, rfl, rfl, by decide, by decide⟩
      show [some (V.int c), some (V.str _), some (V.int _), some (V.int _), some (V.str _), none, none] = _
      rw [abc_eq, empty_eq, hM]
    · rintro i σ H1 hi ⟨f, l, n, k0, a0, rfl, rfl, hn, hf, hl, nd, az⟩
      have hz : (tx l).length ≤ sizeLine := line_ge (by rw [tx_len]; omega)
      have hlen : ((tx l).length : Int) = 26 - (i : Int) := by rw [tx_len]; omega
      have hlp : (0 : Int) < ((tx l).length : Int) := by omega
      have hr0 := Int.emod_nonneg n (show ((tx l).length : Int) ≠ 0 by omega)
      have hr1 := Int.emod_lt_of_pos n hlp
      have hd0 : 0 ≤ n / ((tx l).length : Int) := Int.ediv_nonneg hn (by omega)
      have hRl : (n % ((tx l).length : Int)).toNat < l.length := by omega
      obtain ⟨v, hv, hv2⟩ := atI_in (xs := (tx l).cps.toList) hr0 (by rw [tx_cps]; omega)
      rw [tx_cps] at hv2
      have ev : v = l[(n % ((tx l).length : Int)).toNat] := by
        rw [List.getElem?_eq_getElem hRl] at hv2
        exact (Option.some.inj hv2).symm
      subst ev
      refine ⟨_, rfl, _, rfl, _, rfl, hz, _, _, rfl, rfl, hlp, _, rfl, _, rfl, _, rfl, hz, _, _, rfl, rfl, ⟨hlp, by omega⟩, _, rfl, _, rfl, _, rfl, _, _, _, rfl, rfl, hz, hv, _, _, rfl, rfl, ?_, _, rfl, _, rfl, _, rfl, _, rfl, hz, _, rfl, _, rfl, _, _, rfl, rfl, _, rfl, _, rfl, hz, _, _, rfl, rfl, ?_, ?_⟩
      · refine line_ge ?_
        rw [tx_len]
        show f.length + 1 ≤ _
        omega
      · refine line_ge ?_
        have h1 := Txt.slice_le (tx l) none (some (n % ((tx l).length : Int)))
        have h2 := Txt.slice_le (tx l) (some ((n % ((tx l).length : Int)) + 1)) none
        have hll := tx_len l
        omega
      · obtain ⟨d1, d2⟩ := draw_one hRl nd
        refine ⟨f ++ [l[(n % ((tx l).length : Int)).toNat]], l.take (n % ((tx l).length : Int)).toNat ++ l.drop ((n % ((tx l).length : Int)).toNat + 1), n / ((tx l).length : Int), some (.int (0 + (i : Int))), some (.int (n % ((tx l).length : Int))), ?_, rfl, hd0, by rw [List.length_append, hf]; rfl, ?_, d1, fun c hc => az c (d2 c hc)⟩
        · have e1 := slice_to (tx l) hr0
          have e2 := slice_from (tx l) (i := (n % ((tx l).length : Int)) + 1) (by omega) (by rw [tx_cps]; omega)
          rw [tx_cps] at e1 e2
          rw [show ((n % ((tx l).length : Int)) + 1).toNat = (n % ((tx l).length : Int)).toNat + 1 by omega] at e2
          show [some (V.int c), some (V.str (Txt.slice (tx l) none (some (n % ((tx l).length : Int))) ++ Txt.slice (tx l) (some ((n % ((tx l).length : Int)) + 1)) none)), some (V.int _), some (V.int M), some (V.str (tx f ++ ⟨#[l[(n % ((tx l).length : Int)).toNat]]⟩)), some _, some _] = _
          rw [e1, e2, tx_app, show (⟨#[l[(n % ((tx l).length : Int)).toNat]]⟩ : Str) = tx [l[(n % ((tx l).length : Int)).toNat]] from rfl, tx_app]
        · rw [List.length_append, List.length_take, List.length_drop]
          omega
    · rintro σ H1 ⟨f, l, n, k0, a0, rfl, rfl, hn, hf, hl, nd, az⟩
      refine ⟨_, rfl, q f ⟨by omega, by omega, (List.nodup_append.mp nd).1, fun c hc => az c (List.mem_append_left _ hc)⟩⟩
theorem sc__law_whole : FnScope ["_law_found"] ["_law_found"] (defScope s__law_whole) := ⟨rfl, rfl, rfl, by decide +kernel, rfl, by decide +kernel, by decide +kernel⟩
theorem ok__law_whole {f : Addr} {fd : FuncData} (F : Fun K "_law_whole" "_law_whole" s__law_whole f fd) (T : Txt K mg c_RoomError c_NoLetters c_NoWord c_NoNumber c_NoRoom c_NoMachine c_OtherLetters c_TooMany c_NoPattern c_TooGreat c_NoKind) : FnOk P w K mg base CX0 1 f fd ["_law_found"] sp__law_whole := by
  refine F.ok sc__law_whole (fun vs H Q E h => ?_) (fun cdv A outer s H vs Q E hr h => ?_)
  · obtain ⟨i, rfl, _⟩ := h
    rfl
  · obtain ⟨i, rfl, q⟩ := h
    refine ⟨_, (pss_one (ps_ret (pe_and (pe_callB (call_isinst (T := "int") (b := true)) (by rfl) T.isinst PyProof.Rows.boot_isinstance (pa_cons (pv 0) (pa_cons (pe_bltn (v := .ty "int") (by rfl) T.int PyProof.Rows.boot_int rfl) pa_nil)))
      (pe_one (pe_not (pe_callB (call_isinst (T := "bool") (b := false)) (by rfl) T.isinst PyProof.Rows.boot_isinstance (pa_cons (pv 0) (pa_cons (pe_bltn (v := .ty "bool") (by rfl) T.bool PyProof.Rows.boot_bool rfl) pa_nil)))))))), ?_⟩
    exact ⟨_, rfl, _, _, rfl, TyOf.int _, kit_ii K, _, rfl, iteT ⟨_, rfl, _, _, rfl, TyOf.int _, kit_ib K, _, rfl, q⟩⟩
theorem sc__law_kinds : FnScope ["_law_e", "_law_found"] ["_law_e"] (defScope s__law_kinds) := ⟨rfl, rfl, rfl, by decide +kernel, rfl, by decide +kernel, by decide +kernel⟩
theorem ok__law_kinds {f : Addr} {fd : FuncData} (F : Fun K "_law_kinds" "_law_kinds" s__law_kinds f fd) (T : Txt K mg c_RoomError c_NoLetters c_NoWord c_NoNumber c_NoRoom c_NoMachine c_OtherLetters c_TooMany c_NoPattern c_TooGreat c_NoKind) : FnOk P w K mg base CX0 1 f fd ["_law_e"] (sp_kinds35 c_NoLetters c_NoPattern) := by
  refine F.ok sc__law_kinds (fun vs H Q E h => ?_) (fun cdv A outer s H vs Q E hr h => ?_)
  · obtain ⟨e, dd, C, nm, rfl, _⟩ := h
    rfl
  · obtain ⟨e, dd, C, nm, rfl, he, hc, q⟩ := h
    refine ⟨_, (pss_cons ((ps_set (i := 1) sc__law_kinds.nd rfl (Or.inl rfl) (pe_lst pa_nil))) (pss_cons ((ps_if ((pt_val (pe_callB (call_isexc (D := .ref c_NoLetters) (d := .ref c_NoLetters) rfl (fun _ h => h)) (by rfl) T.isinst PyProof.Rows.boot_isinstance (pa_cons (pv 0) (pa_cons (pe_glob (v := .ref c_NoLetters) (by rfl) T.k_NoLetters rfl) pa_nil))))) ((pss_one (ps_expr (pe_bm PySem.F.plainAttrs_list PySem.F.slot_list_append PySem.F.type_list_append mt_append (pv 1) (pa_cons (pe_str) pa_nil))))) (pss_nil))) (pss_cons ((ps_if ((pt_val (pe_callB (call_isexc (D := .ref c_NoWord) (d := .ref c_NoWord) rfl (fun _ h => h)) (by rfl) T.isinst PyProof.Rows.boot_isinstance (pa_cons (pv 0) (pa_cons (pe_glob (v := .ref c_NoWord) (by rfl) T.k_NoWord rfl) pa_nil))))) ((pss_one (ps_expr (pe_bm PySem.F.plainAttrs_list PySem.F.slot_list_append PySem.F.type_list_append mt_append (pv 1) (pa_cons (pe_str) pa_nil))))) (pss_nil))) (pss_cons ((ps_if ((pt_val (pe_callB (call_isexc (D := .ref c_NoNumber) (d := .ref c_NoNumber) rfl (fun _ h => h)) (by rfl) T.isinst PyProof.Rows.boot_isinstance (pa_cons (pv 0) (pa_cons (pe_glob (v := .ref c_NoNumber) (by rfl) T.k_NoNumber rfl) pa_nil))))) ((pss_one (ps_expr (pe_bm PySem.F.plainAttrs_list PySem.F.slot_list_append PySem.F.type_list_append mt_append (pv 1) (pa_cons (pe_str) pa_nil))))) (pss_nil))) (pss_cons ((ps_if ((pt_val (pe_callB (call_isexc (D := .ref c_NoRoom) (d := .ref c_NoRoom) rfl (fun _ h => h)) (by rfl) T.isinst PyProof.Rows.boot_isinstance (pa_cons (pv 0) (pa_cons (pe_glob (v := .ref c_NoRoom) (by rfl) T.k_NoRoom rfl) pa_nil))))) ((pss_one (ps_expr (pe_bm PySem.F.plainAttrs_list PySem.F.slot_list_append PySem.F.type_list_append mt_append (pv 1) (pa_cons (pe_str) pa_nil))))) (pss_nil))) (pss_cons ((ps_if ((pt_val (pe_callB (call_isexc (D := .ref c_NoMachine) (d := .ref c_NoMachine) rfl (fun _ h => h)) (by rfl) T.isinst PyProof.Rows.boot_isinstance (pa_cons (pv 0) (pa_cons (pe_glob (v := .ref c_NoMachine) (by rfl) T.k_NoMachine rfl) pa_nil))))) ((pss_one (ps_expr (pe_bm PySem.F.plainAttrs_list PySem.F.slot_list_append PySem.F.type_list_append mt_append (pv 1) (pa_cons (pe_str) pa_nil))))) (pss_nil))) (pss_cons ((ps_if ((pt_val (pe_callB (call_isexc (D := .ref c_OtherLetters) (d := .ref c_OtherLetters) rfl (fun _ h => h)) (by rfl) T.isinst PyProof.Rows.boot_isinstance (pa_cons (pv 0) (pa_cons (pe_glob (v := .ref c_OtherLetters) (by rfl) T.k_OtherLetters rfl) pa_nil))))) ((pss_one (ps_expr (pe_bm PySem.F.plainAttrs_list PySem.F.slot_list_append PySem.F.type_list_append mt_append (pv 1) (pa_cons (pe_str) pa_nil))))) (pss_nil))) (pss_cons ((ps_if ((pt_val (pe_callB (call_isexc (D := .ref c_TooMany) (d := .ref c_TooMany) rfl (fun _ h => h)) (by rfl) T.isinst PyProof.Rows.boot_isinstance (pa_cons (pv 0) (pa_cons (pe_glob (v := .ref c_TooMany) (by rfl) T.k_TooMany rfl) pa_nil))))) ((pss_one (ps_expr (pe_bm PySem.F.plainAttrs_list PySem.F.slot_list_append PySem.F.type_list_append mt_append (pv 1) (pa_cons (pe_str) pa_nil))))) (pss_nil))) (pss_cons ((ps_if ((pt_val (pe_callB (call_isexc (D := .ref c_NoPattern) (d := .ref c_NoPattern) rfl (fun _ h => h)) (by rfl) T.isinst PyProof.Rows.boot_isinstance (pa_cons (pv 0) (pa_cons (pe_glob (v := .ref c_NoPattern) (by rfl) T.k_NoPattern rfl) pa_nil))))) ((pss_one (ps_expr (pe_bm PySem.F.plainAttrs_list PySem.F.slot_list_append PySem.F.type_list_append mt_append (pv 1) (pa_cons (pe_str) pa_nil))))) (pss_nil))) (pss_cons ((ps_if ((pt_val (pe_callB (call_isexc (D := .ref c_TooGreat) (d := .ref c_TooGreat) rfl (fun _ h => h)) (by rfl) T.isinst PyProof.Rows.boot_isinstance (pa_cons (pv 0) (pa_cons (pe_glob (v := .ref c_TooGreat) (by rfl) T.k_TooGreat rfl) pa_nil))))) ((pss_one (ps_expr (pe_bm PySem.F.plainAttrs_list PySem.F.slot_list_append PySem.F.type_list_append mt_append (pv 1) (pa_cons (pe_str) pa_nil))))) (pss_nil))) (pss_cons ((ps_if ((pt_val (pe_callB (call_isexc (D := .ref c_NoKind) (d := .ref c_NoKind) rfl (fun _ h => h)) (by rfl) T.isinst PyProof.Rows.boot_isinstance (pa_cons (pv 0) (pa_cons (pe_glob (v := .ref c_NoKind) (by rfl) T.k_NoKind rfl) pa_nil))))) ((pss_one (ps_expr (pe_bm PySem.F.plainAttrs_list PySem.F.slot_list_append PySem.F.type_list_append mt_append (pv 1) (pa_cons (pe_str) pa_nil))))) (pss_nil))) (pss_cons ((ps_if (pt_not (pt_val (pe_callB (call_isexc (D := .type "ValueError") (d := .ty "ValueError") rfl (fun _ h => h)) (by rfl) T.isinst PyProof.Rows.boot_isinstance (pa_cons (pv 0) (pa_cons (pe_bltn (v := .ty "ValueError") (by rfl) T.verr boot_verr rfl) pa_nil))))) ((pss_one (ps_expr (pe_bm PySem.F.plainAttrs_list PySem.F.slot_list_append PySem.F.type_list_append mt_append (pv 1) (pa_cons (pe_str) pa_nil))))) (pss_nil))) (pss_one (ps_ret (pv 1))))))))))))))), ?_⟩
    refine ⟨Nat.zero_le _, fun p hp => ?_⟩
    rcases hc with ⟨rfl, rfl⟩ | ⟨rfl, rfl⟩
    · refine ⟨_, rfl, e, _, _, _, rfl, upd_keep he hp, T.e_NoLetters, T.i_NoLetters_NoLetters, _, rfl, iteT ⟨_, rfl, .inl ⟨rfl, _, SqL.of upd_same⟩, p, _, _, rfl, rfl, upd_same, small1000 (by decide), ?_⟩⟩
      rw [upd_upd]
      refine ⟨_, rfl, e, _, _, _, rfl, upd_keep he hp, T.e_NoLetters, T.i_NoLetters_NoWord, _, rfl, iteF ?_⟩
      refine ⟨_, rfl, e, _, _, _, rfl, upd_keep he hp, T.e_NoLetters, T.i_NoLetters_NoNumber, _, rfl, iteF ?_⟩
      refine ⟨_, rfl, e, _, _, _, rfl, upd_keep he hp, T.e_NoLetters, T.i_NoLetters_NoRoom, _, rfl, iteF ?_⟩
      refine ⟨_, rfl, e, _, _, _, rfl, upd_keep he hp, T.e_NoLetters, T.i_NoLetters_NoMachine, _, rfl, iteF ?_⟩
      refine ⟨_, rfl, e, _, _, _, rfl, upd_keep he hp, T.e_NoLetters, T.i_NoLetters_OtherLetters, _, rfl, iteF ?_⟩
      refine ⟨_, rfl, e, _, _, _, rfl, upd_keep he hp, T.e_NoLetters, T.i_NoLetters_TooMany, _, rfl, iteF ?_⟩
      refine ⟨_, rfl, e, _, _, _, rfl, upd_keep he hp, T.e_NoLetters, T.i_NoLetters_NoPattern, _, rfl, iteF ?_⟩
      refine ⟨_, rfl, e, _, _, _, rfl, upd_keep he hp, T.e_NoLetters, T.i_NoLetters_TooGreat, _, rfl, iteF ?_⟩
      refine ⟨_, rfl, e, _, _, _, rfl, upd_keep he hp, T.e_NoLetters, T.i_NoLetters_NoKind, _, rfl, iteF ?_⟩
      exact ⟨_, rfl, e, _, _, _, rfl, upd_keep he hp, T.e_NoLetters, T.v_NoLetters, _, rfl, iteF ⟨_, rfl, q p _ (Same.upd hp) upd_same⟩⟩
    · refine ⟨_, rfl, e, _, _, _, rfl, upd_keep he hp, T.e_NoPattern, T.i_NoPattern_NoLetters, _, rfl, iteF ?_⟩
      refine ⟨_, rfl, e, _, _, _, rfl, upd_keep he hp, T.e_NoPattern, T.i_NoPattern_NoWord, _, rfl, iteF ?_⟩
      refine ⟨_, rfl, e, _, _, _, rfl, upd_keep he hp, T.e_NoPattern, T.i_NoPattern_NoNumber, _, rfl, iteF ?_⟩
      refine ⟨_, rfl, e, _, _, _, rfl, upd_keep he hp, T.e_NoPattern, T.i_NoPattern_NoRoom, _, rfl, iteF ?_⟩
      refine ⟨_, rfl, e, _, _, _, rfl, upd_keep he hp, T.e_NoPattern, T.i_NoPattern_NoMachine, _, rfl, iteF ?_⟩
      refine ⟨_, rfl, e, _, _, _, rfl, upd_keep he hp, T.e_NoPattern, T.i_NoPattern_OtherLetters, _, rfl, iteF ?_⟩
      refine ⟨_, rfl, e, _, _, _, rfl, upd_keep he hp, T.e_NoPattern, T.i_NoPattern_TooMany, _, rfl, iteF ?_⟩
      refine ⟨_, rfl, e, _, _, _, rfl, upd_keep he hp, T.e_NoPattern, T.i_NoPattern_NoPattern, _, rfl, iteT ⟨_, rfl, .inl ⟨rfl, _, SqL.of upd_same⟩, p, _, _, rfl, rfl, upd_same, small1000 (by decide), ?_⟩⟩
      rw [upd_upd]
      refine ⟨_, rfl, e, _, _, _, rfl, upd_keep he hp, T.e_NoPattern, T.i_NoPattern_TooGreat, _, rfl, iteF ?_⟩
      refine ⟨_, rfl, e, _, _, _, rfl, upd_keep he hp, T.e_NoPattern, T.i_NoPattern_NoKind, _, rfl, iteF ?_⟩
      exact ⟨_, rfl, e, _, _, _, rfl, upd_keep he hp, T.e_NoPattern, T.v_NoPattern, _, rfl, iteF ⟨_, rfl, q p _ (Same.upd hp) upd_same⟩⟩
theorem sc__law_sign : FnScope ["_law_letters_here", "_law_cell", "_law_wanted", "_law_menu"] ["_law_letters_here", "_law_cell", "_law_wanted"] (defScope s__law_sign) := ⟨rfl, rfl, rfl, by decide +kernel, rfl, by decide +kernel, by decide +kernel⟩
theorem ok__law_sign {f : Addr} {fd : FuncData} (F : Fun K "_law_sign" "_law_sign" s__law_sign f fd) (T : Txt K mg c_RoomError c_NoLetters c_NoWord c_NoNumber c_NoRoom c_NoMachine c_OtherLetters c_TooMany c_NoPattern c_TooGreat c_NoKind) : FnOk P w K mg base CX0 1 f fd ["_law_letters_here", "_law_cell", "_law_wanted"] sp_sign35 := by
  refine F.ok sc__law_sign (fun vs H Q E h => ?_) (fun cdv A outer s H vs Q E hr h => ?_)
  · obtain ⟨L, z, b, rfl, _⟩ := h
    rfl
  · obtain ⟨L, z, b, rfl, hL, q⟩ := h
    refine ⟨_, (pss_cons ((ps_if (pt_val (pv 2)) ((pss_cons ((ps_set (i := 3) sc__law_sign.nd rfl (Or.inl rfl) (pe_op op_add_str pe_str (pv 0)))) (pss_one (ps_ret (pe_ix ix_str (pv 3) (pe_op op_modG (pv 1) (pe_callB call_len_str (by rfl) T.len PySem.boot_len (pa_cons (pv 3) pa_nil))) (fun _ _ => rfl)))))) (pss_nil))) (pss_cons ((ps_set (i := 3) sc__law_sign.nd rfl (Or.inl rfl) (pe_op op_add_str pe_str (pv 0)))) (pss_one (ps_ret (pe_ix ix_str (pv 3) (pe_op op_modG (pv 1) (pe_callB call_len_str (by rfl) T.len PySem.boot_len (pa_cons (pv 3) pa_nil))) (fun _ _ => rfl)))))), ?_⟩
    have hhi := hL.hi
    cases b with
    | true =>
      refine ⟨_, rfl, _, rfl, iteT ⟨_, rfl, _, _, rfl, rfl, ?_, ?_⟩⟩
      · rw [show Str.ofString "!<((01." = tx [33, 60, 40, 40, 48, 49, 46] by decide +kernel, tx_len, tx_len]
        exact line_ge (by simp; omega)
      rw [show Str.ofString "!<((01." = tx [33, 60, 40, 40, 48, 49, 46] by decide +kernel, tx_app]
      have hl : ([33, 60, 40, 40, 48, 49, 46] ++ L).length ≤ 100 := by simp; omega
      have hp : 0 < ([33, 60, 40, 40, 48, 49, 46] ++ L).length := by simp
      generalize [33, 60, 40, 40, 48, 49, 46] ++ L = M at hl hp
      have hz : (tx M).length ≤ sizeLine := line_ge (by rw [tx_len]; omega)
      refine ⟨_, rfl, _, rfl, _, rfl, _, rfl, hz, _, _, rfl, rfl, by rw [tx_len]; omega, fun r h0 h1 => ?_⟩
      rw [tx_len] at h1
      obtain ⟨v, hv, _⟩ := atI_in (xs := M) h0 h1
      exact ⟨_, _, _, rfl, rfl, hz, by rw [tx_cps]; exact hv, q v⟩
    | false =>
      refine ⟨_, rfl, _, rfl, iteF ⟨_, rfl, _, _, rfl, rfl, ?_, ?_⟩⟩
      · rw [show Str.ofString "*|-&)))!(01." = tx [42, 124, 45, 38, 41, 41, 41, 33, 40, 48, 49, 46] by decide +kernel, tx_len, tx_len]
        exact line_ge (by simp; omega)
      rw [show Str.ofString "*|-&)))!(01." = tx [42, 124, 45, 38, 41, 41, 41, 33, 40, 48, 49, 46] by decide +kernel, tx_app]
      have hl : ([42, 124, 45, 38, 41, 41, 41, 33, 40, 48, 49, 46] ++ L).length ≤ 100 := by simp; omega
      have hp : 0 < ([42, 124, 45, 38, 41, 41, 41, 33, 40, 48, 49, 46] ++ L).length := by simp
      generalize [42, 124, 45, 38, 41, 41, 41, 33, 40, 48, 49, 46] ++ L = M at hl hp
      have hz : (tx M).length ≤ sizeLine := line_ge (by rw [tx_len]; omega)
      refine ⟨_, rfl, _, rfl, _, rfl, _, rfl, hz, _, _, rfl, rfl, by rw [tx_len]; omega, fun r h0 h1 => ?_⟩
      rw [tx_len] at h1
      obtain ⟨v, hv, _⟩ := atI_in (xs := M) h0 h1
      exact ⟨_, _, _, rfl, rfl, hz, by rw [tx_cps]; exact hv, q v⟩
theorem sc__law_text : FnScope ["_law_letters_here", "_law_cells", "_law_text_here", "_law_depth", "_law_wanted", "_law_cell", "_law_sign_here"] ["_law_letters_here", "_law_cells"] (defScope s__law_text) := ⟨rfl, rfl, rfl, by decide +kernel, rfl, by decide +kernel, by decide +kernel⟩
theorem ok__law_text {f : Addr} {fd : FuncData} (F : Fun K "_law_text" "_law_text" s__law_text f fd) (T : Txt K mg c_RoomError c_NoLetters c_NoWord c_NoNumber c_NoRoom c_NoMachine c_OtherLetters c_TooMany c_NoPattern c_TooGreat c_NoKind) (d__law_sign : Df P w K mg base "_law_sign" 1 ["_law_letters_here", "_law_cell", "_law_wanted"] sp_sign35) : FnOk P w K mg base CX0 2 f fd ["_law_letters_here", "_law_cells"] (sp_text35 K) := by
  refine F.ok sc__law_text (fun vs H Q E h => ?_) (fun cdv A outer s H vs Q E hr h => ?_)
  · obtain ⟨L, a, ns, rfl, _⟩ := h
    rfl
  · obtain ⟨L, a, ns, rfl, hL, hS, hlen, q⟩ := h
    have hlo := hL.lo
    have hhi := hL.hi
    refine ⟨_, (pss_cons ((ps_set (i := 2) sc__law_text.nd rfl (Or.inl rfl) (pe_str))) (pss_cons ((ps_set (i := 3) sc__law_text.nd rfl (Or.inl rfl) (pe_int))) (pss_cons ((ps_set (i := 4) sc__law_text.nd rfl (Or.inl rfl) (pe_bl))) (pss_cut ((ps_for PassesOwn.never rfl (pi_list (pv 1)) (pg_name (i := 5) sc__law_text.nd rfl (Or.inl rfl)) ((pss_cons ((ps_if (pt_cmpR op_gt (pe_op op_a (pe_callB call_len_str (by rfl) T.len PySem.boot_len (pa_cons (pv 2) pa_nil)) (pv 3)) pe_int (nomark _)) ((pss_one (ps_break))) (pss_nil))) (pss_cons ((ps_set (i := 6) sc__law_text.nd rfl (Or.inl rfl) ((pe_df d__law_sign hr (pa_cons (pv 0) (pa_cons (pv 5) (pa_cons (pv 4) pa_nil))))))) (pss_cut ((ps_if ((pw_and (pt_cmpR op_eq (pv 6) pe_str (nomark _)) (pw_and1 (pt_cmpR op_eq (pv 3) pe_int (nomark _)))).pt) ((pss_one ((ps_set (i := 6) sc__law_text.nd rfl (Or.inl rfl) (pe_str))))) (pss_nil))) (pss_cons ((ps_set (i := 2) sc__law_text.nd rfl (Or.inl rfl) (pe_op op_add_str (pv 2) (pv 6)))) (pss_cut ((ps_set (i := 3) sc__law_text.nd rfl (Or.inl rfl) (pe_op op_s (pe_op op_a (pv 3) (pe_callTy call_int1 (by rfl) T.int PyProof.Rows.boot_int (pa_cons (pe_cmpR op_eq (pv 6) pe_str (nomark _)) pa_nil))) (pe_callTy call_int1 (by rfl) T.int PyProof.Rows.boot_int (pa_cons (pe_cmpR op_eq (pv 6) pe_str (nomark _)) pa_nil))))) (pss_one ((ps_if (pt_cmpR op_notin_str (pv 6) pe_str (by with_unfolding_all rfl)) ((pss_one ((ps_set (i := 4) sc__law_text.nd rfl (Or.inl rfl) (pe_cmpR op_in_str (pv 6) pe_str (by with_unfolding_all rfl)))))) (pss_nil)))))))))))) (pss_cut ((ps_if (pt_val (pv 4)) ((pss_one ((ps_set (i := 2) sc__law_text.nd rfl (Or.inl rfl) (pe_op op_add_str (pv 2) (pe_ix ix_str (pv 0) (pe_un un_neg pe_int) (fun _ _ => rfl))))))) (pss_nil))) (pss_one (ps_ret (pe_op op_add_str (pv 2) (pe_op op_mul_str pe_str (pv 3)))))))))), ?_⟩
    have hzL : (tx L).length ≤ sizeLine := line_ge (by rw [tx_len]; omega)
    refine ⟨fun σ' H' => ∃ (z : Str) (dd : Nat) (b : Bool) (s5 s6 : Option V), σ' = [some (.str (tx L)), some (.ref a), some (.str z), some (.int (dd : Int)), some (.bl b), s5, s6] ∧ H' = H ∧ z.length ≤ 63 ∧ dd ≤ 63, ?_, ?_⟩
    · refine ⟨_, rfl, a, rfl, ⟨_, hS⟩, for_list (K := K) (a := a) (xs := ns.map V.int) (fun i σ H' => ∃ (z : Str) (dd : Nat) (b : Bool) (s5 s6 : Option V), σ = [some (.str (tx L)), some (.ref a), some (.str z), some (.int (dd : Int)), some (.bl b), s5, s6] ∧ H' = H ∧ z.length ≤ i ∧ dd ≤ i) ⟨_, 0, true, none, none, rfl, rfl, Nat.le_refl _, Nat.le_refl _⟩ ?_ ?_ ?_⟩
      · rintro i σ H' hi ⟨z, dd, b, s5, s6, rfl, rfl, _⟩
        exact hS
      · rintro i x σ H' hx ⟨z, dd, b, s5, s6, rfl, rfl, hzl, hdd⟩
        have hi : i < ns.length := by have := (List.getElem?_eq_some_iff.mp hx).1; rwa [List.length_map] at this
        rw [List.getElem?_map] at hx
        obtain ⟨n, hn, rfl⟩ := Option.map_eq_some_iff.mp hx
        have hz : z.length ≤ sizeLine := line_ge (by omega)
        refine ⟨_, rfl, _, rfl, hz, _, rfl, _, _, rfl, rfl, _, _, rfl, rfl, _, rfl, ite3 (fun _ => ⟨z, dd, b, _, _, rfl, rfl, by omega, by omega⟩) (fun _ => ?_)⟩
        refine ⟨_, rfl, _, rfl, _, rfl, L, n, b, rfl, hL, fun ch => ?_⟩
        have e41 : Str.ofString ")" = tx [41] := by decide +kernel
        have e40 : Str.ofString "(" = tx [40] := by decide +kernel
        have e42 : Str.ofString "*" = tx [42] := by decide +kernel
        refine ⟨fun σ' H2 => ∃ ch : Nat, σ' = [some (.str (tx L)), some (.ref a), some (.str z), some (.int (dd : Int)), some (.bl b), some (.int n), some (.str (tx [ch]))] ∧ H2 = H' ∧ (ch = 41 → 0 < dd), ?_, ?_⟩
        · refine ⟨_, rfl, rfl, _, rfl, ite3 (fun h1 => ⟨_, rfl, rfl, _, rfl, ite3 (fun h2 => ?_) (fun h2 => ⟨ch, rfl, rfl, fun _ => ?_⟩)⟩) (fun h1 => iteF ⟨ch, rfl, rfl, fun e => absurd ((one_eq e41).mpr e) h1⟩)⟩
          · exact ⟨42, by rw [← e42]; rfl, rfl, fun e => absurd e (by decide)⟩
          · refine Nat.pos_of_ne_zero fun e => h2 ?_
            rw [e]
            rfl
        rintro σ2 H2 ⟨ch, rfl, rfl, h41⟩
        have l1 : (tx [ch]).length = 1 := tx_len [ch]
        refine ⟨_, rfl, _, rfl, _, _, rfl, rfl, line_ge (by rw [l1]; omega), ?_⟩
        have hzl2 : (z ++ tx [ch]).length ≤ i + 1 := by rw [Str.length_append, l1]; omega
        generalize z ++ tx [ch] = z2 at hzl2
        refine ⟨fun σ' H3 => ∃ dd' : Nat, σ' = [some (.str (tx L)), some (.ref a), some (.str z2), some (.int (dd' : Int)), some (.bl b), some (.int n), some (.str (tx [ch]))] ∧ H3 = H2 ∧ dd' ≤ i + 1, ?_, ?_⟩
        · refine ⟨_, rfl, _, rfl, rfl, .inr ⟨_, rfl, _, _, rfl, rfl, _, rfl, rfl, .inr ⟨_, rfl, _, _, rfl, rfl, ?_⟩⟩⟩
          have d40 : decide (V.str (tx [ch]) = V.str (Str.ofString "(")) = decide (ch = 40) := by rw [Bool.eq_iff_iff, decide_eq_true_eq, decide_eq_true_eq]; exact one_eq e40
          have d41 : decide (V.str (tx [ch]) = V.str (Str.ofString ")")) = decide (ch = 41) := by rw [Bool.eq_iff_iff, decide_eq_true_eq, decide_eq_true_eq]; exact one_eq e41
          rw [d40, d41]
          by_cases c40 : ch = 40
          · subst c40
            exact ⟨dd + 1, rfl, rfl, by omega⟩
          · rw [decide_eq_false c40]
            by_cases c41 : ch = 41
            · obtain ⟨d1, rfl⟩ : ∃ d1, dd = d1 + 1 := ⟨dd - 1, by have := h41 c41; omega⟩
              rw [decide_eq_true c41]
              refine ⟨d1, ?_, rfl, by omega⟩
              show _ = [some (V.str (tx L)), some (V.ref a), some (V.str z2), some (V.int ((d1 : Nat) : Int)), some (V.bl b), some (V.int n), some (V.str (tx [ch]))]
              rw [show ((d1 : Nat) : Int) = ((d1 + 1 : Nat) : Int) + 0 - 1 by omega]
              rfl
            · rw [decide_eq_false c41]
              refine ⟨dd, ?_, rfl, by omega⟩
              show _ = [some (V.str (tx L)), some (V.ref a), some (V.str z2), some (V.int ((dd : Nat) : Int)), some (V.bl b), some (V.int n), some (V.str (tx [ch]))]
              rw [show ((dd : Nat) : Int) = ((dd : Nat) : Int) + 0 - 0 by omega]
              rfl
        rintro σ3 H3 ⟨dd', rfl, rfl, hd'⟩
        exact ⟨_, rfl, _, _, rfl, rfl, _, rfl, iteB (fun _ => ⟨_, rfl, _, _, rfl, rfl, _, _, _, _, _, rfl, rfl, hzl2, hd'⟩) (fun _ => ⟨_, _, _, _, _, rfl, rfl, hzl2, hd'⟩)⟩
      · rintro σ H' ⟨z, dd, b, s5, s6, rfl, rfl, h1, h2⟩
        rw [List.length_map] at h1 h2
        exact ⟨z, dd, b, s5, s6, rfl, rfl, by omega, by omega⟩
    rintro σ1 H1 ⟨z, dd, b, s5, s6, rfl, rfl, hzl, hdd⟩
    refine ⟨fun σ' H' => ∃ z : Str, σ' = [some (.str (tx L)), some (.ref a), some (.str z), some (.int (dd : Int)), some (.bl b), s5, s6] ∧ H' = H1 ∧ z.length ≤ 64, ?_, ?_⟩
    · cases b with
      | false => exact ⟨_, rfl, _, rfl, iteF ⟨z, rfl, rfl, by omega⟩⟩
      | true =>
        obtain ⟨v, hv⟩ : ∃ v, L.getLast? = some v := by
          cases e : L.getLast? with
          | some v => exact ⟨v, rfl⟩
          | none => rw [List.getLast?_eq_none_iff.mp e] at hlo; simp at hlo
        obtain ⟨ys, e0⟩ := List.getLast?_eq_some_iff.mp hv
        have hat : atI (tx L).cps.toList (-1) = some v := by rw [tx_cps, e0]; exact atI_last ys v
        refine ⟨_, rfl, _, rfl, iteT ⟨_, rfl, _, rfl, _, rfl, _, _, _, rfl, rfl, hzL, hat, _, _, rfl, rfl, line_ge (by show z.length + 1 ≤ _; omega), _, rfl, rfl, ?_⟩⟩
        rw [Str.length_append]
        show z.length + 1 ≤ _
        omega
    rintro σ2 H2 ⟨z, rfl, rfl, hzl2⟩
    have e41 : Str.ofString ")" = ⟨#[41]⟩ := by decide +kernel
    refine ⟨_, rfl, _, rfl, _, _, rfl, rfl, ?_, _, _, rfl, rfl, ?_, ?_⟩
    · rw [e41]
      exact mulOk_one 41 (by omega) (by omega)
    all_goals rw [e41]
    all_goals have hm := mul_len 41 (n := (dd : Int)) (by omega)
    · exact line_ge (by rw [hm]; omega)
    · exact q _ (by rw [Str.length_append, hm]; omega)
theorem sc__law_foreign : FnScope ["_law_cell", "_law_some"] ["_law_cell"] (defScope s__law_foreign) := ⟨rfl, rfl, rfl, by decide +kernel, rfl, by decide +kernel, by decide +kernel⟩
theorem ok__law_foreign {f : Addr} {fd : FuncData} (F : Fun K "_law_foreign" "_law_foreign" s__law_foreign f fd) (T : Txt K mg c_RoomError c_NoLetters c_NoWord c_NoNumber c_NoRoom c_NoMachine c_OtherLetters c_TooMany c_NoPattern c_TooGreat c_NoKind) : FnOk P w K mg base CX0 1 f fd ["_law_cell"] sp_foreign := by
  refine F.ok sc__law_foreign (fun vs H Q E h => ?_) (fun cdv A outer s H vs Q E hr h => ?_)
  · obtain ⟨z, rfl, _⟩ := h
    rfl
  · obtain ⟨z, rfl, q⟩ := h
    refine ⟨_, (pss_cons ((ps_set (i := 1) sc__law_foreign.nd rfl (Or.inl rfl) (pe_str))) (pss_one (ps_ret (pe_ix ix_str (pv 1) (pe_op op_modG (pv 0) (pe_callB call_len_str (by rfl) T.len PySem.boot_len (pa_cons (pv 1) pa_nil))) (fun _ _ => rfl))))), ?_⟩
    have hl : (tx forL).length = 68 := by rw [tx_len, for_len]
    have hz : (tx forL).length ≤ sizeLine := line_ge (by omega)
    rw [← for_eq] at hz hl
    refine ⟨_, rfl, _, rfl, _, rfl, _, rfl, hz, _, _, rfl, rfl, by rw [hl]; decide, fun r hr0 hr1 => ?_⟩
    rw [hl] at hr1
    obtain ⟨v, hv, hv2⟩ := atI_in (xs := forL) hr0 (by rw [for_len]; exact hr1)
    have hn := for_no v (List.mem_of_getElem? hv2)
    exact ⟨_, _, _, rfl, rfl, hz, by rw [for_eq, tx_cps]; exact hv, q v hn.1 hn.2⟩
theorem sc__law_others : FnScope ["_law_letters_here"] ["_law_letters_here"] (defScope s__law_others) := ⟨rfl, rfl, rfl, by decide +kernel, rfl, by decide +kernel, by decide +kernel⟩
theorem ok__law_others {f : Addr} {fd : FuncData} (F : Fun K "_law_others" "_law_others" s__law_others f fd) (T : Txt K mg c_RoomError c_NoLetters c_NoWord c_NoNumber c_NoRoom c_NoMachine c_OtherLetters c_TooMany c_NoPattern c_TooGreat c_NoKind) : FnOk P w K mg base CX0 1 f fd ["_law_letters_here"] sp_others := by
  refine F.ok sc__law_others (fun vs H Q E h => ?_) (fun cdv A outer s H vs Q E hr h => ?_)
  · obtain ⟨L, rfl, _⟩ := h
    rfl
  · obtain ⟨L, rfl, q⟩ := h
    refine ⟨_, (pss_one (ps_ret (pe_bm PySem.F.plainAttrs_str PySem.F.slot_str_join PySem.F.type_str_join mt_join (pe_str) (pa_cons (pe_comp rfl sc__law_others.nd (pi_str pe_str) (fun cl C fp s' H' => ⟨pts_one (pt_cmpR op_notin_str (pv 0) (pv 1) (by with_unfolding_all rfl)), pv 0⟩)) pa_nil)))), ?_⟩
    have hz : (tx abcL).length ≤ sizeLine := line_ge (by rw [tx_len]; decide)
    have ea : (Str.ofString "abcdefghijklmnopqrstuvwxyz") = tx abcL := abc_eq
    rw [← ea] at hz
    refine ⟨rfl, comp_signsC (fun c => !decide (c ∈ L)) hz ?_ ?_⟩
    · intro i c H' R hc hR
      refine ⟨_, rfl, _, rfl, _, _, rfl, rfl, _, rfl, ?_⟩
      have e := contains_one L c
      unfold Txt.contains at e
      rw [e]
      exact hR
    · intro D hD
      refine ⟨_, D, (othL L).map fun c => (⟨#[c]⟩ : Str), rfl, rfl, SqL.of ?_, ?_, ?_⟩
      · rw [upd_same, ea, tx_cps, List.map_map]
        rfl
      · exact join_size _ (by have := List.length_filter_le (fun c => !decide (c ∈ L)) abcL; have h26 : abcL.length = 26 := by decide
                              unfold othL; omega)
      · rw [empty_eq', join_signs]
        exact q _ (Same.upd hD)
theorem sc__law_no_letters : FnScope ["_law_letters_here", "_law_cell", "_law_place", "_law_at", "_law_more"] ["_law_letters_here", "_law_cell", "_law_place"] (defScope s__law_no_letters) := ⟨rfl, rfl, rfl, by decide +kernel, rfl, by decide +kernel, by decide +kernel⟩
theorem ok__law_no_letters {f : Addr} {fd : FuncData} (F : Fun K "_law_no_letters" "_law_no_letters" s__law_no_letters f fd) (T : Txt K mg c_RoomError c_NoLetters c_NoWord c_NoNumber c_NoRoom c_NoMachine c_OtherLetters c_TooMany c_NoPattern c_TooGreat c_NoKind) (d__law_others : Df P w K mg base "_law_others" 1 ["_law_letters_here"] sp_others) (d__law_foreign : Df P w K mg base "_law_foreign" 1 ["_law_cell"] sp_foreign) : FnOk P w K mg base CX0 2 f fd ["_law_letters_here", "_law_cell", "_law_place"] sp_noletters := by
  refine F.ok sc__law_no_letters (fun vs H Q E h => ?_) (fun cdv A outer s H vs Q E hr h => ?_)
  · obtain ⟨L, z, p, rfl, _⟩ := h
    rfl
  · obtain ⟨L, z, p, rfl, hL, q⟩ := h
    have hr1 := hr.mono (j := 1) (by decide)
    refine ⟨_, (pss_cons ((ps_set (i := 3) sc__law_no_letters.nd rfl (Or.inl rfl) (pe_op op_modG (pv 2) (pe_op op_a (pe_callB call_len_str (by rfl) T.len PySem.boot_len (pa_cons (pv 0) pa_nil)) pe_int)))) (pss_cons ((ps_if (pt_cmpR op_eq (pe_op op_m (pv 1) pe_int) pe_int (nomark _)) ((pss_one (ps_ret pe_str))) (pss_nil))) (pss_cons ((ps_if (pt_cmpR op_eq (pe_op op_m (pv 1) pe_int) pe_int (nomark _)) ((pss_cons ((ps_set (i := 4) sc__law_no_letters.nd rfl (Or.inl rfl) (pe_ix ix_str (pv 0) (pe_op op_modG (pe_op op_f (pv 1) pe_int) (pe_callB call_len_str (by rfl) T.len PySem.boot_len (pa_cons (pv 0) pa_nil))) (fun _ _ => rfl)))) (pss_one (ps_ret (pe_op op_add_str (pe_op op_add_str (pe_slice sl_str (pv 0) po_none (po_some (pv 3))) (pv 4)) (pe_slice sl_str (pv 0) (po_some (pv 3)) po_none)))))) (pss_nil))) (pss_cons ((ps_if (pt_cmpR op_eq (pe_op op_m (pv 1) pe_int) pe_int (nomark _)) ((pss_cons ((ps_set (i := 4) sc__law_no_letters.nd rfl (Or.inl rfl) (pe_slice sl_str (pe_df d__law_others hr1 (pa_cons (pv 0) pa_nil)) (po_some (pe_op op_modG (pe_op op_f (pv 1) pe_int) pe_int)) po_none))) (pss_one (ps_ret (pe_op op_add_str (pe_op op_add_str (pe_slice sl_str (pv 0) po_none (po_some (pv 3))) (pe_slice sl_str (pv 4) po_none (po_some (pe_op op_s pe_int (pe_callB call_len_str (by rfl) T.len PySem.boot_len (pa_cons (pv 0) pa_nil)))))) (pe_slice sl_str (pv 0) (po_some (pv 3)) po_none)))))) (pss_nil))) (pss_cut ((ps_if ((pw_and (pt_cmpR op_eq (pe_op op_m (pv 1) pe_int) pe_int (nomark _)) (pw_and1 (pt_cmpR op_lt (pv 3) (pe_callB call_len_str (by rfl) T.len PySem.boot_len (pa_cons (pv 0) pa_nil)) (nomark _)))).pt) ((pss_one (ps_ret (pe_op op_add_str (pe_op op_add_str (pe_slice sl_str (pv 0) po_none (po_some (pv 3))) ((pe_df d__law_foreign hr1 (pa_cons (pe_op op_f (pv 1) pe_int) pa_nil)))) (pe_slice sl_str (pv 0) (po_some (pe_op op_a (pv 3) pe_int)) po_none))))) (pss_nil))) (pss_one (ps_ret (pe_op op_add_str (pe_op op_add_str (pe_slice sl_str (pv 0) po_none (po_some (pv 3))) ((pe_df d__law_foreign hr1 (pa_cons (pe_op op_f (pv 1) pe_int) pa_nil)))) (pe_slice sl_str (pv 0) (po_some (pv 3)) po_none))))))))), ?_⟩
    have hlo := hL.lo
    have hhi := hL.hi
    have hsm := hL.sm
    have hz : (tx L).length ≤ sizeLine := line_ge (by rw [tx_len]; omega)
    have hlp : (0 : Int) < ((tx L).length : Int) := by rw [tx_len]; omega
    refine ⟨_, rfl, _, rfl, _, rfl, hz, _, _, rfl, rfl, _, _, rfl, rfl, by omega, fun at0 ha0 ha1 => ?_⟩
    rw [tx_len] at ha1
    have et : Txt.slice (tx L) none (some at0) = tx (L.take at0.toNat) := by
      have e := slice_to (tx L) ha0
      rw [tx_cps] at e
      exact e
    have ed : Txt.slice (tx L) (some at0) none = tx (L.drop at0.toNat) := by
      have e := slice_from (tx L) ha0 (by rw [tx_cps]; omega)
      rw [tx_cps] at e
      exact e
    have hlt : (L.take at0.toNat).length ≤ 3 := by rw [List.length_take]; omega
    have hld : (L.drop at0.toNat).length ≤ 3 := by rw [List.length_drop]; omega
    refine ⟨_, rfl, _, _, rfl, rfl, by decide, rfl, _, rfl, ite3 (fun _ => ?_) (fun _ => ?_)⟩
    · have e0 := q [] H nolet_nil ⟨by simp, fun c hc => by simp at hc⟩ (Same.refl H)
      rw [← empty_eq] at e0
      exact e0
    refine ⟨_, rfl, _, _, rfl, rfl, by decide, rfl, _, rfl, ite3 (fun _ => ?_) (fun _ => ?_)⟩
    · refine ⟨_, rfl, _, rfl, _, _, rfl, rfl, ⟨by decide, by decide⟩, _, rfl, _, rfl, hz, _, _, rfl, rfl, hlp, fun r hr0 hr1 => ?_⟩
      obtain ⟨v, hv, hv2⟩ := atI_in (xs := (tx L).cps.toList) hr0 (by rw [tx_cps, ← tx_len]; exact hr1)
      rw [tx_cps] at hv2
      have hvL : v ∈ L := List.mem_of_getElem? hv2
      refine ⟨_, _, _, rfl, rfl, hz, hv, ?_⟩
      refine ⟨_, rfl, _, rfl, _, rfl, _, rfl, hz, _, rfl, _, _, rfl, rfl, ?_, _, rfl, _, rfl, _, rfl, _, rfl, hz, _, _, rfl, rfl, ?_, ?_⟩
      · rw [et, tx_len]
        exact line_ge (by show (L.take at0.toNat).length + 1 ≤ _; omega)
      · rw [et, ed, tx_len, show (⟨#[v]⟩ : Str) = tx [v] from rfl, tx_app, tx_len]
        exact line_ge (by rw [List.length_append]; show _ + 1 + _ ≤ _; omega)
      · rw [et, ed, show (⟨#[v]⟩ : Str) = tx [v] from rfl, tx_app, tx_app]
        exact q _ H (nolet_twice hvL) (hsm.mid (hsm.one hvL) (by simp; omega)) (Same.refl H)
    refine ⟨_, rfl, _, _, rfl, rfl, by decide, rfl, _, rfl, ite3 (fun _ => ?_) (fun _ => ?_)⟩
    · have hol := oth_len L
      have hol2 : (othL L).length ≤ 26 := by
        have := List.length_filter_le (fun c => !decide (c ∈ L)) abcL
        have h26 : abcL.length = 26 := by decide
        unfold othL; omega
      refine ⟨_, rfl, L, rfl, fun H1 s1 => ⟨_, rfl, _, _, rfl, rfl, ⟨by decide, by decide⟩, _, _, rfl, rfl, by decide, fun r h0 h1 => ?_⟩⟩
      have er : Txt.slice (tx (othL L)) (some r) none = tx ((othL L).drop r.toNat) := by
        have e := slice_from (tx (othL L)) h0 (by rw [tx_cps]; omega)
        rw [tx_cps] at e
        exact e
      have hdl : ((othL L).drop r.toNat).length ≤ 26 := by rw [List.length_drop]; omega
      have em : Txt.slice (tx ((othL L).drop r.toNat)) none (some (4 - (L.length : Int))) = tx (((othL L).drop r.toNat).take (4 - (L.length : Int)).toNat) := by
        have e := slice_to (tx ((othL L).drop r.toNat)) (j := 4 - (L.length : Int)) (by omega)
        rw [tx_cps] at e
        exact e
      have eml : (((othL L).drop r.toNat).take (4 - (L.length : Int)).toNat).length = 4 - L.length := by
        rw [List.length_take, List.length_drop]
        omega
      have hso : Sm (((othL L).drop r.toNat).take (4 - (L.length : Int)).toNat) := ⟨by rw [eml]; omega, fun c hc => by
        have := (oth_mem (List.mem_of_mem_drop (List.mem_of_mem_take hc))).1
        omega⟩
      refine ⟨_, rfl, _, rfl, line_ge (by rw [tx_len]; omega), ?_⟩
      rw [er]
      refine ⟨_, rfl, _, rfl, _, rfl, _, rfl, hz, _, rfl, _, rfl, _, rfl, hz, _, _, rfl, rfl, _, rfl, _, rfl, line_ge (by rw [tx_len]; omega), ?_⟩
      rw [tx_len L, em]
      refine ⟨_, _, rfl, rfl, ?_, _, rfl, _, rfl, _, rfl, _, rfl, hz, _, _, rfl, rfl, ?_, ?_⟩
      · rw [et, tx_len, tx_len]
        exact line_ge (by omega)
      · rw [et, ed, tx_len, tx_app, tx_len, List.length_append]
        exact line_ge (by omega)
      · rw [et, ed, tx_app, tx_app]
        exact q _ H1 (nolet_four hhi (by omega)) (hsm.mid hso (by omega)) s1
    refine ⟨fun σ' H' => σ' = [some (.str (tx L)), some (.int z), some (.int p), some (.int at0), none] ∧ H' = H, ?_, ?_⟩
    · refine ⟨_, rfl, _, _, rfl, rfl, by decide, rfl, _, rfl, ite3 (fun _ => ?_) (fun _ => iteF ⟨rfl, rfl⟩)⟩
      refine ⟨_, rfl, _, rfl, _, rfl, hz, _, _, rfl, rfl, _, rfl, ite3 (fun hlt2 => ?_) (fun _ => ⟨rfl, rfl⟩)⟩
      rw [tx_len] at hlt2
      have ed1 : Txt.slice (tx L) (some (at0 + 1)) none = tx (L.drop (at0 + 1).toNat) := by
        have e := slice_from (tx L) (i := at0 + 1) (by omega) (by rw [tx_cps]; omega)
        rw [tx_cps] at e
        exact e
      have hld1 : (L.drop (at0 + 1).toNat).length ≤ 3 := by rw [List.length_drop]; omega
      refine ⟨_, rfl, _, rfl, _, rfl, _, rfl, hz, _, rfl, _, _, rfl, rfl, ⟨by decide, by decide⟩, _, rfl, fun v hv1 hv2 => ⟨_, _, rfl, rfl, ?_, _, rfl, _, rfl, _, _, rfl, rfl, _, rfl, _, rfl, hz, _, _, rfl, rfl, ?_, ?_⟩⟩
      · rw [et, tx_len]
        exact line_ge (by show (L.take at0.toNat).length + 1 ≤ _; omega)
      · rw [et, ed1, tx_len, show (⟨#[v]⟩ : Str) = tx [v] from rfl, tx_app, tx_len]
        exact line_ge (by rw [List.length_append]; show _ + 1 + _ ≤ _; omega)
      · rw [et, ed1, show (⟨#[v]⟩ : Str) = tx [v] from rfl, tx_app, tx_app]
        exact q _ H (nolet_foreign (c := v) (by simp) hv1) (hsm.mid (sm_one (by omega)) (by simp; omega)) (Same.refl H)
    rintro σ1 H1 ⟨rfl, rfl⟩
    refine ⟨_, rfl, _, rfl, _, rfl, _, rfl, hz, _, rfl, _, _, rfl, rfl, ⟨by decide, by decide⟩, _, rfl, fun v hv1 hv2 => ⟨_, _, rfl, rfl, ?_, _, rfl, _, rfl, _, rfl, _, rfl, hz, _, _, rfl, rfl, ?_, ?_⟩⟩
    · rw [et, tx_len]
      exact line_ge (by show (L.take at0.toNat).length + 1 ≤ _; omega)
    · rw [et, ed, tx_len, show (⟨#[v]⟩ : Str) = tx [v] from rfl, tx_app, tx_len]
      exact line_ge (by rw [List.length_append]; show _ + 1 + _ ≤ _; omega)
    · rw [et, ed, show (⟨#[v]⟩ : Str) = tx [v] from rfl, tx_app, tx_app]
      exact q _ H1 (nolet_foreign (c := v) (by simp) hv1) (hsm.mid (sm_one (by omega)) (by simp; omega)) (Same.refl H1)
theorem sc__law_other_sign : FnScope ["_law_cell"] ["_law_cell"] (defScope s__law_other_sign) := ⟨rfl, rfl, rfl, by decide +kernel, rfl, by decide +kernel, by decide +kernel⟩
theorem ok__law_other_sign {f : Addr} {fd : FuncData} (F : Fun K "_law_other_sign" "_law_other_sign" s__law_other_sign f fd) (T : Txt K mg c_RoomError c_NoLetters c_NoWord c_NoNumber c_NoRoom c_NoMachine c_OtherLetters c_TooMany c_NoPattern c_TooGreat c_NoKind) (d__law_foreign : Df P w K mg base "_law_foreign" 1 ["_law_cell"] sp_foreign) : FnOk P w K mg base CX0 2 f fd ["_law_cell"] sp_othersign := by
  refine F.ok sc__law_other_sign (fun vs H Q E h => ?_) (fun cdv A outer s H vs Q E hr h => ?_)
  · obtain ⟨z, rfl, _⟩ := h
    rfl
  · obtain ⟨z, rfl, q⟩ := h
    refine ⟨_, (pss_cons ((ps_if (pt_cmpR op_eq (pe_op op_m (pv 0) pe_int) pe_int (nomark _)) ((pss_one (ps_ret (pe_ix ix_str pe_str (pe_op op_modG (pe_op op_f (pv 0) pe_int) pe_int) (fun _ _ => rfl))))) (pss_nil))) (pss_cons ((ps_if (pt_cmpR op_eq (pe_op op_m (pv 0) pe_int) pe_int (nomark _)) ((pss_one (ps_ret (pe_ix ix_str pe_str (pe_op op_modG (pe_op op_f (pv 0) pe_int) pe_int) (fun _ _ => rfl))))) (pss_nil))) (pss_one (ps_ret (pe_df d__law_foreign hr (pa_cons (pe_op op_f (pv 0) pe_int) pa_nil)))))), ?_⟩
    refine ⟨_, rfl, _, _, rfl, rfl, by decide, rfl, _, rfl, ite3 (fun _ => ?_) (fun _ => ?_)⟩
    · refine ⟨_, rfl, _, _, rfl, rfl, ⟨by decide, by decide⟩, _, _, rfl, rfl, by decide, fun r h0 h1 => ?_⟩
      obtain ⟨v, hv, _⟩ := atI_in (xs := [48, 49, 46, 124, 45, 38, 40, 41, 33, 60, 42]) h0 h1
      exact ⟨_, _, _, rfl, rfl, line_ge (by decide +kernel), by rw [show Str.ofString "01.|-&()!<*" = tx [48, 49, 46, 124, 45, 38, 40, 41, 33, 60, 42] by decide +kernel, tx_cps]; exact hv, q v⟩
    refine ⟨_, rfl, _, _, rfl, rfl, by decide, rfl, _, rfl, ite3 (fun _ => ?_) (fun _ => ?_)⟩
    · refine ⟨_, rfl, _, _, rfl, rfl, ⟨by decide, by decide⟩, _, _, rfl, rfl, by decide, fun r h0 h1 => ?_⟩
      obtain ⟨v, hv, _⟩ := atI_in (xs := abcL) h0 h1
      exact ⟨_, _, _, rfl, rfl, line_ge (by decide +kernel), by rw [abc_eq, tx_cps]; exact hv, q v⟩
    exact ⟨_, rfl, _, _, rfl, rfl, ⟨by decide, by decide⟩, _, rfl, fun v _ _ => q v⟩
theorem sc__law_spoilt : FnScope ["_law_script", "_law_text_here", "_law_way", "_law_at", "_law_sign_here", "_law_place"] ["_law_script", "_law_text_here"] (defScope s__law_spoilt) := ⟨rfl, rfl, rfl, by decide +kernel, rfl, by decide +kernel, by decide +kernel⟩
theorem ok__law_spoilt {f : Addr} {fd : FuncData} (F : Fun K "_law_spoilt" "_law_spoilt" s__law_spoilt f fd) (T : Txt K mg c_RoomError c_NoLetters c_NoWord c_NoNumber c_NoRoom c_NoMachine c_OtherLetters c_TooMany c_NoPattern c_TooGreat c_NoKind) (d__law_cell_at : Df P w K mg base "_law_cell_at" 1 ["_law_script", "_law_k"] (sp_cell K)) (d__law_other_sign : Df P w K mg base "_law_other_sign" 2 ["_law_cell"] sp_othersign) : FnOk P w K mg base CX0 3 f fd ["_law_script", "_law_text_here"] (sp_spoilt35 K) := by
  refine F.ok sc__law_spoilt (fun vs H Q E h => ?_) (fun cdv A outer s H vs Q E hr h => ?_)
  · obtain ⟨a, ns, z, rfl, _⟩ := h
    rfl
  · obtain ⟨a, ns, z, rfl, hS, hzl, q⟩ := h
    have hr1 := hr.mono (j := 1) (by decide)
    refine ⟨_, (pss_cons ((ps_set (i := 2) sc__law_spoilt.nd rfl (Or.inl rfl) (pe_op op_m (pe_df d__law_cell_at hr1 (pa_cons (pv 0) (pa_cons (pe_int) pa_nil))) pe_int))) (pss_cons ((ps_set (i := 3) sc__law_spoilt.nd rfl (Or.inl rfl) (pe_op op_modG (pe_df d__law_cell_at hr1 (pa_cons (pv 0) (pa_cons (pe_int) pa_nil))) (pe_op op_a (pe_callB call_len_str (by rfl) T.len PySem.boot_len (pa_cons (pv 1) pa_nil)) pe_int)))) (pss_cons ((ps_set (i := 4) sc__law_spoilt.nd rfl (Or.inl rfl) ((pe_df d__law_other_sign hr (pa_cons ((pe_df d__law_cell_at hr1 (pa_cons (pv 0) (pa_cons (pe_int) pa_nil)))) pa_nil))))) (pss_cut ((ps_if ((pw_or (pt_cmpR op_eq (pv 2) pe_int (nomark _)) (pw_or1 (pt_cmpR op_eq (pv 2) pe_int (nomark _)))).pt) ((pss_one ((ps_set (i := 1) sc__law_spoilt.nd rfl (Or.inl rfl) (pe_op op_add_str (pe_op op_add_str (pe_slice sl_str (pv 1) po_none (po_some (pv 3))) (pv 4)) (pe_slice sl_str (pv 1) (po_some (pv 3)) po_none)))))) (pss_nil))) (pss_cut ((ps_if (pt_cmpR op_eq (pv 2) pe_int (nomark _)) ((pss_cons ((ps_set (i := 5) sc__law_spoilt.nd rfl (Or.inl rfl) (pe_op op_modG (pe_df d__law_cell_at hr1 (pa_cons (pv 0) (pa_cons (pe_int) pa_nil))) (pe_op op_a (pe_callB call_len_str (by rfl) T.len PySem.boot_len (pa_cons (pv 1) pa_nil)) pe_int)))) (pss_one ((ps_set (i := 1) sc__law_spoilt.nd rfl (Or.inl rfl) (pe_op op_add_str (pe_op op_add_str (pe_slice sl_str (pv 1) po_none (po_some (pv 5))) (pe_df d__law_other_sign hr (pa_cons ((pe_df d__law_cell_at hr1 (pa_cons (pv 0) (pa_cons (pe_int) pa_nil)))) pa_nil))) (pe_slice sl_str (pv 1) (po_some (pv 5)) po_none))))))) (pss_nil))) (pss_cut ((ps_if (pt_cmpR op_eq (pv 2) pe_int (nomark _)) ((pss_one ((ps_set (i := 1) sc__law_spoilt.nd rfl (Or.inl rfl) (pe_op op_add_str (pe_op op_add_str (pe_slice sl_str (pv 1) po_none (po_some (pv 3))) (pv 4)) (pe_slice sl_str (pv 1) (po_some (pe_op op_a (pv 3) pe_int)) po_none)))))) (pss_nil))) (pss_cut ((ps_if (pt_cmpR op_eq (pv 2) pe_int (nomark _)) ((pss_one ((ps_set (i := 1) sc__law_spoilt.nd rfl (Or.inl rfl) (pe_op op_add_str (pe_slice sl_str (pv 1) po_none (po_some (pv 3))) (pe_slice sl_str (pv 1) (po_some (pe_op op_a (pv 3) pe_int)) po_none)))))) (pss_nil))) (pss_cut ((ps_if (pt_cmpR op_eq (pv 2) pe_int (nomark _)) ((pss_one ((ps_set (i := 1) sc__law_spoilt.nd rfl (Or.inl rfl) (pe_slice sl_str (pv 1) po_none (po_some (pv 3))))))) (pss_nil))) (pss_one (ps_ret (pv 1))))))))))), ?_⟩
    have hz : z.length ≤ sizeLine := line_ge (by omega)
    refine ⟨_, rfl, a, ns, 1, rfl, hS, by decide, fun c1 => ⟨_, _, rfl, rfl, by decide, ?_⟩⟩
    generalize c1 % 6 = way
    refine ⟨_, rfl, a, ns, 2, rfl, hS, by decide, fun c2 => ⟨_, rfl, _, rfl, hz, _, _, rfl, rfl, _, _, rfl, rfl, by omega, fun at0 ha0 ha1 => ?_⟩⟩
    refine ⟨_, rfl, a, ns, 3, rfl, hS, by decide, fun c3 => ⟨c3, rfl, fun ch => ?_⟩⟩
    have l1 : ∀ c : Nat, (tx [c]).length = 1 := fun c => tx_len [c]
    have l2 : ∀ (y : Str) (c : Nat) (i j k l : Option Int), (Txt.slice y i j ++ tx [c] ++ Txt.slice y k l).length ≤ 2 * y.length + 1 := fun y c i j k l => by
      rw [Str.length_append, Str.length_append, l1]
      have := Txt.slice_le y i j
      have := Txt.slice_le y k l
      omega
    have l5 : ∀ (y : Str) (c : Nat) (i : Int), 0 ≤ i → i < (y.length : Int) + 1 → (Txt.slice y none (some i) ++ tx [c] ++ Txt.slice y (some i) none).length ≤ y.length + 1 := fun y c i h0 h1 => by
      rw [Str.length_append, Str.length_append, l1]
      have := cut_len y h0 (by omega)
      omega
    have l3 : ∀ (y : Str) (c : Nat) (i j : Option Int), y.length ≤ 5000 → (Txt.slice y i j).length + (tx [c]).length ≤ sizeLine := fun y c i j hy => by
      rw [l1]
      have := Txt.slice_le y i j
      exact line_ge (by omega)
    have l4 : ∀ (y : Str) (c : Nat) (i j k l : Option Int), y.length ≤ 5000 → (Txt.slice y i j ++ tx [c]).length + (Txt.slice y k l).length ≤ sizeLine := fun y c i j k l hy => by
      rw [Str.length_append, l1]
      have := Txt.slice_le y i j
      have := Txt.slice_le y k l
      exact line_ge (by omega)
    have inj : ∀ {x y : Int}, V.int x = V.int y → x = y := fun z => V.int.inj z
    refine ⟨fun σ' H' => ∃ (y : Str), σ' = [some (.ref a), some (.str y), some (.int way), some (.int at0), some (.str (tx [ch])), none] ∧ H' = H ∧ y.length ≤ 128 ∧ (¬ way = 1 → ¬ way = 2 → y = z), ?_, ?_⟩
    · exact ⟨_, rfl, rfl, _, rfl, ite3 (fun e => iteT ⟨_, rfl, _, rfl, _, rfl, _, rfl, hz, _, rfl, _, _, rfl, rfl, l3 _ _ _ _ (by omega), _, rfl, _, rfl, _, rfl, _, rfl, hz, _, _, rfl, rfl, l4 _ _ _ _ _ _ (by omega), _, rfl, rfl, Nat.le_trans (l5 _ _ _ ha0 ha1) (by omega), fun n _ => absurd (inj e) n⟩) (fun _ => ⟨_, rfl, rfl, _, rfl, ite3 (fun e => ⟨_, rfl, _, rfl, _, rfl, _, rfl, hz, _, rfl, _, _, rfl, rfl, l3 _ _ _ _ (by omega), _, rfl, _, rfl, _, rfl, _, rfl, hz, _, _, rfl, rfl, l4 _ _ _ _ _ _ (by omega), _, rfl, rfl, Nat.le_trans (l5 _ _ _ ha0 ha1) (by omega), fun _ n => absurd (inj e) n⟩) (fun _ => ⟨z, rfl, rfl, by omega, fun _ _ => rfl⟩)⟩)⟩
    rintro σ1 H1 ⟨y, rfl, rfl, hy, hk⟩
    have hz : y.length ≤ sizeLine := line_ge (by omega)
    refine ⟨fun σ' H' => ∃ (y : Str) (s5 : Option V), σ' = [some (.ref a), some (.str y), some (.int way), some (.int at0), some (.str (tx [ch])), s5] ∧ H' = H1 ∧ y.length ≤ 129 ∧ (¬ way = 1 → ¬ way = 2 → y = z), ?_, ?_⟩
    · exact ⟨_, rfl, rfl, _, rfl, ite3 (fun e => ⟨_, rfl, a, ns, 4, rfl, hS, by decide, fun c4 => ⟨_, rfl, _, rfl, hz, _, _, rfl, rfl, _, _, rfl, rfl, by omega, fun p0 hp0 hp1 => ⟨_, rfl, _, rfl, _, rfl, _, rfl, hz, _, rfl, a, ns, 5, rfl, hS, by decide, fun c5 => ⟨c5, rfl, fun ch2 => ⟨_, _, rfl, rfl, l3 _ _ _ _ (by omega), _, rfl, _, rfl, _, rfl, _, rfl, hz, _, _, rfl, rfl, l4 _ _ _ _ _ _ (by omega), _, _, rfl, rfl, Nat.le_trans (l5 _ _ _ hp0 hp1) (by omega), fun _ n => absurd (inj e) n⟩⟩⟩⟩⟩) (fun _ => ⟨y, _, rfl, rfl, by omega, hk⟩)⟩
    rintro σ2 H2 ⟨y, s5, rfl, rfl, hy, hk⟩
    have hz : y.length ≤ sizeLine := line_ge (by omega)
    refine ⟨fun σ' H' => ∃ (y : Str), σ' = [some (.ref a), some (.str y), some (.int way), some (.int at0), some (.str (tx [ch])), s5] ∧ H' = H2 ∧ y.length ≤ 255 ∧ (¬ way = 1 → ¬ way = 2 → ¬ way = 3 → y = z), ?_, ?_⟩
    · refine ⟨_, rfl, rfl, _, rfl, ite3 (fun e => ?_) (fun _ => ⟨y, rfl, rfl, by omega, fun n1 n2 _ => hk n1 n2⟩)⟩
      obtain rfl := hk (fun n => by rw [inj e] at n; exact absurd n (by decide)) (fun n => by rw [inj e] at n; exact absurd n (by decide))
      exact ⟨_, rfl, _, rfl, _, rfl, _, rfl, hz, _, rfl, _, _, rfl, rfl, l3 _ _ _ _ (by omega), _, rfl, _, rfl, _, _, rfl, rfl, _, rfl, _, rfl, hz, _, _, rfl, rfl, l4 _ _ _ _ _ _ (by omega), _, rfl, rfl, Nat.le_trans (l2 _ _ _ _ _ _) (by omega), fun _ _ n => absurd (inj e) n⟩
    rintro σ3 H3 ⟨y, rfl, rfl, hy, hk⟩
    have hz : y.length ≤ sizeLine := line_ge (by omega)
    refine ⟨fun σ' H' => ∃ y : Str, σ' = [some (.ref a), some (.str y), some (.int way), some (.int at0), some (.str (tx [ch])), s5] ∧ H' = H3 ∧ y.length ≤ 255, ?_, ?_⟩
    · refine ⟨_, rfl, rfl, _, rfl, ite3 (fun e => ?_) (fun _ => ⟨y, rfl, rfl, hy⟩)⟩
      obtain rfl := hk (fun n => by rw [inj e] at n; exact absurd n (by decide)) (fun n => by rw [inj e] at n; exact absurd n (by decide)) (fun n => by rw [inj e] at n; exact absurd n (by decide))
      refine ⟨_, rfl, _, rfl, _, rfl, _, rfl, hz, _, rfl, _, rfl, _, _, rfl, rfl, _, rfl, _, rfl, hz, _, _, rfl, rfl, ?_, _, rfl, rfl, ?_⟩
      · exact line_ge (Nat.le_trans (Nat.add_le_add (Txt.slice_le _ _ _) (Txt.slice_le _ _ _)) (by omega))
      · rw [Str.length_append]
        exact Nat.le_trans (Nat.add_le_add (Txt.slice_le _ _ _) (Txt.slice_le _ _ _)) (by omega)
    rintro σ4 H4 ⟨y, rfl, rfl, hy⟩
    have hz : y.length ≤ sizeLine := line_ge (by omega)
    refine ⟨fun σ' H' => ∃ y : Str, σ' = [some (.ref a), some (.str y), some (.int way), some (.int at0), some (.str (tx [ch])), s5] ∧ H' = H4 ∧ y.length ≤ 255, ?_, ?_⟩
    · exact ⟨_, rfl, rfl, _, rfl, ite3 (fun _ => ⟨_, rfl, _, rfl, _, rfl, _, rfl, hz, _, rfl, rfl, Nat.le_trans (Txt.slice_le _ _ _) hy⟩) (fun _ => ⟨y, rfl, rfl, hy⟩)⟩
    rintro σ5 H5 ⟨y, rfl, rfl, hy⟩
    exact ⟨_, rfl, q y (by omega)⟩
theorem sc__law_fails : FnScope ["_law_letters_here", "_law_text_here", "_law_depth", "_law_wanted", "_law_k", "_law_begins"] ["_law_letters_here", "_law_text_here"] (defScope s__law_fails) := ⟨rfl, rfl, rfl, by decide +kernel, rfl, by decide +kernel, by decide +kernel⟩
theorem ok__law_fails {f : Addr} {fd : FuncData} (F : Fun K "_law_fails" "_law_fails" s__law_fails f fd) (T : Txt K mg c_RoomError c_NoLetters c_NoWord c_NoNumber c_NoRoom c_NoMachine c_OtherLetters c_TooMany c_NoPattern c_TooGreat c_NoKind) : FnOk P w K mg base CX0 1 f fd ["_law_letters_here", "_law_text_here"] sp_fails := by
  refine F.ok sc__law_fails (fun vs H Q E h => ?_) (fun cdv A outer s H vs Q E hr h => ?_)
  · obtain ⟨L, w, rfl, _⟩ := h
    rfl
  · obtain ⟨L, w, rfl, hLS, hwl, q1, q2⟩ := h
    refine ⟨_, (pss_cons ((ps_set (i := 2) sc__law_fails.nd rfl (Or.inl rfl) (pe_int))) (pss_cons ((ps_set (i := 3) sc__law_fails.nd rfl (Or.inl rfl) (pe_bl))) (pss_cons ((ps_for PassesOwn.never rfl (pi_range1 rfl T.range (pa_cons (pe_callB call_len_str (by rfl) T.len PySem.boot_len (pa_cons (pv 1) pa_nil)) pa_nil)) (pg_name (i := 4) sc__law_fails.nd rfl (Or.inl rfl)) ((pss_cut ((ps_set (i := 5) sc__law_fails.nd rfl (Or.inl rfl) (pe_or (pe_cmpR op_in_str (pe_ix ix_str (pv 1) (pv 4) (fun _ _ => rfl)) pe_str (by with_unfolding_all rfl)) (pe_one (pe_cmpR op_in_str (pe_ix ix_str (pv 1) (pv 4) (fun _ _ => rfl)) (pv 0) (by with_unfolding_all rfl)))))) (pss_cut ((ps_if ((pw_or ((pw_and (pt_val (pv 3)) (pw_and1 (pt_not (pt_val (pv 5))))).pt) (pw_or1 ((pw_and (pt_not (pt_val (pv 5))) (pw_and1 (pt_cmpR op_notin_str (pe_ix ix_str (pv 1) (pv 4) (fun _ _ => rfl)) pe_str (by with_unfolding_all rfl)))).pt))).pt) ((pss_one (ps_ret (pv 4)))) (pss_nil))) (pss_cut ((ps_if ((pw_and (pt_cmpR op_eq (pe_ix ix_str (pv 1) (pv 4) (fun _ _ => rfl)) pe_str (nomark _)) (pw_and1 (pt_cmpR op_eq (pv 2) pe_int (nomark _)))).pt) ((pss_one (ps_ret (pv 4)))) (pss_nil))) (pss_cut ((ps_set (i := 2) sc__law_fails.nd rfl (Or.inl rfl) (pe_op op_s (pe_op op_a (pv 2) (pe_callTy call_int1 (by rfl) T.int PyProof.Rows.boot_int (pa_cons (pe_cmpR op_eq (pe_ix ix_str (pv 1) (pv 4) (fun _ _ => rfl)) pe_str (nomark _)) pa_nil))) (pe_callTy call_int1 (by rfl) T.int PyProof.Rows.boot_int (pa_cons (pe_cmpR op_eq (pe_ix ix_str (pv 1) (pv 4) (fun _ _ => rfl)) pe_str (nomark _)) pa_nil))))) (pss_one ((ps_if (pt_cmpR op_notin_str (pe_ix ix_str (pv 1) (pv 4) (fun _ _ => rfl)) pe_str (by with_unfolding_all rfl)) ((pss_one ((ps_set (i := 3) sc__law_fails.nd rfl (Or.inl rfl) (pe_cmpR op_in_str (pe_ix ix_str (pv 1) (pv 4) (fun _ _ => rfl)) pe_str (by with_unfolding_all rfl)))))) (pss_nil))))))))))) (pss_cons ((ps_if ((pw_or (pt_val (pv 3)) (pw_or1 (pt_cmpR op_gt (pv 2) pe_int (nomark _)))).pt) ((pss_one (ps_ret (pe_callB call_len_str (by rfl) T.len PySem.boot_len (pa_cons (pv 1) pa_nil))))) (pss_nil))) (pss_one (ps_ret pe_non)))))), ?_⟩
    have hz : (tx w).length ≤ sizeLine := line_ge (by rw [tx_len]; omega)
    refine ⟨_, rfl, _, rfl, hz, _, rfl, by omega, by rw [tx_len]; omega, for_range (n := (tx w).length) (fun i σ H' => ∃ (dd : Nat) (b : Bool) (s4 s5 : Option V), σ = [some (.str (tx L)), some (.str (tx w)), some (.int (dd : Int)), some (.bl b), s4, s5] ∧ H' = H ∧ failsAt L 0 true 0 w = failsAt L dd b i (w.drop i)) ⟨0, true, none, none, rfl, rfl, rfl⟩ ?_ ?_⟩
    · rintro i σ H1 hi ⟨dd, b, s4, s5, rfl, rfl, hs⟩
      rw [tx_len] at hi
      obtain ⟨c, hcw⟩ : ∃ c, w[i]? = some c := ⟨w[i], List.getElem?_eq_getElem hi⟩
      have hch : w[i] = c := (List.getElem?_eq_some_iff.mp hcw).2
      rw [List.drop_eq_getElem_cons hi, hch] at hs
      have hv : atI (tx w).cps.toList (0 + (i : Int)) = some c := by rw [Int.zero_add, tx_cps]; exact atI_nat hcw
      have ret : canS L c b dd = false → Q (.int (0 + (i : Int))) H1 := fun z => by
        rw [Int.zero_add]
        refine q1 i ?_
        rw [hs]
        show (if canS L c b dd = true then _ else _) = _
        rw [z]
        rfl
      have e1 := occ_one [48, 49, 46, 40, 33, 60] c
      have e2 := occ_one [42, 124, 45, 38, 41] c
      have e3 := occ_one [42, 41] c
      have e4 := occ_one [40, 33, 60, 124, 45, 38] c
      refine ⟨fun σ' H' => ∃ bg, σ' = [some (.str (tx L)), some (.str (tx w)), some (.int (dd : Int)), some (.bl b), some (.int (0 + (i : Int))), some (.bl bg)] ∧ H' = H1 ∧ bg = ([48, 49, 46, 40, 33, 60].contains c || L.contains c), ?_, ?_⟩
      · refine ⟨_, rfl, _, rfl, _, _, _, rfl, rfl, hz, hv, _, tx [48, 49, 46, 40, 33, 60], rfl, congrArg V.str (by decide +kernel), _, rfl, iteB (fun h => ⟨true, rfl, rfl, ?_⟩) (fun h => ⟨_, rfl, _, rfl, _, _, _, rfl, rfl, hz, hv, _, rfl, _, _, rfl, rfl, _, rfl, rfl, ?_⟩)⟩
        · rw [← e1, show (!(Builtin.Str.occurrences (tx [48, 49, 46, 40, 33, 60]) ⟨#[c]⟩ 0 (tx [48, 49, 46, 40, 33, 60]).length 1).isEmpty) = true from h]
          rfl
        · rw [occ_one L c, ← e1, show (!(Builtin.Str.occurrences (tx [48, 49, 46, 40, 33, 60]) ⟨#[c]⟩ 0 (tx [48, 49, 46, 40, 33, 60]).length 1).isEmpty) = false from h, Bool.false_or]
      rintro σ2 H2 ⟨bg, rfl, rfl, hbg⟩
      have hper : [48, 49, 46, 40, 33, 60].contains c = [48, 49, 46, 33, 60, 40].contains c := by
        rw [Bool.eq_iff_iff]
        simp
        omega
      rw [hper] at hbg
      have cs : canS L c b dd = if bg = true then true else if c = 41 then decide (0 < dd) && !b else [42, 38, 124, 45].contains c && !b := by
        unfold canS
        rw [hbg, Bool.or_comm]
      have n41 : bg = true → c ≠ 41 := fun e => by
        rw [e] at hbg
        intro z
        subst z
        rcases (Bool.or_eq_true _ _).mp hbg.symm with y | y
        · revert y
          decide
        · have := hLS 41 (by simpa using y)
          omega
      refine ⟨fun σ' H' => σ' = [some (.str (tx L)), some (.str (tx w)), some (.int (dd : Int)), some (.bl b), some (.int (0 + (i : Int))), some (.bl bg)] ∧ H' = H2 ∧ (bg = true ∨ (b = false ∧ c ∈ [42, 124, 45, 38, 41])), ?_, ?_⟩
      · cases bg with
        | true => cases b with
          | true => exact ⟨_, rfl, _, rfl, iteT ⟨_, rfl, _, rfl, iteF ⟨_, rfl, _, rfl, iteF (iteF ⟨rfl, rfl, .inl rfl⟩)⟩⟩⟩
          | false => exact ⟨_, rfl, _, rfl, iteF (iteF ⟨_, rfl, _, rfl, iteF (iteF ⟨rfl, rfl, .inl rfl⟩)⟩)⟩
        | false =>
          rw [if_neg Bool.false_ne_true] at cs
          cases b with
          | true =>
            refine ⟨_, rfl, _, rfl, iteT ⟨_, rfl, _, rfl, iteT (iteT ⟨_, rfl, ret ?_⟩)⟩⟩
            rw [cs]
            split
            · exact Bool.and_false _
            · exact Bool.and_false _
          | false =>
            refine ⟨_, rfl, _, rfl, iteF (iteF ⟨_, rfl, _, rfl, iteT ⟨_, rfl, _, rfl, _, _, _, rfl, rfl, hz, hv, _, tx [42, 124, 45, 38, 41], rfl, congrArg V.str (by decide +kernel), _, rfl, iteB (fun h => ⟨_, rfl, ret ?_⟩) (fun h => ⟨rfl, rfl, .inr ⟨rfl, ?_⟩⟩)⟩⟩)⟩
            · have h' : [42, 124, 45, 38, 41].contains c = false := by
                rw [← e2]
                exact (Bool.not_eq_true' _).mp h
              have : c ∉ [42, 124, 45, 38, 41] := by simpa using h'
              simp at this
              rw [cs, if_neg (by omega)]
              simp
              omega
            · have h' : [42, 124, 45, 38, 41].contains c = true := by
                rw [← e2]
                exact (Bool.not_eq_false' _).mp h
              simpa using h'
      rintro σ3 H3 ⟨rfl, rfl, hok⟩
      have e41 : Str.ofString ")" = tx [41] := by decide +kernel
      have e40 : Str.ofString "(" = tx [40] := by decide +kernel
      refine ⟨fun σ' H' => σ' = [some (.str (tx L)), some (.str (tx w)), some (.int (dd : Int)), some (.bl b), some (.int (0 + (i : Int))), some (.bl bg)] ∧ H' = H3 ∧ canS L c b dd = true, ?_, ?_⟩
      · have good : c ≠ 41 → canS L c b dd = true := fun n => by
          rw [cs]
          rcases hok with z | ⟨z, y⟩
          · rw [if_pos z]
          · by_cases g : bg = true
            · rw [if_pos g]
            · rw [if_neg g, if_neg n, z]
              simp at y
              simp
              omega
        refine ⟨_, rfl, _, rfl, _, _, _, rfl, rfl, hz, hv, rfl, _, rfl, ite3 (fun h1 => ?_) (fun h1 => iteF ⟨rfl, rfl, good fun e => h1 ((one_eq e41).mpr e)⟩)⟩
        have c41 : c = 41 := (one_eq e41).mp h1
        have hb : bg = false ∧ b = false := by
          rcases hok with z | ⟨z, _⟩
          · exact absurd c41 (n41 z)
          · refine ⟨?_, z⟩
            cases bg with
            | true => exact absurd c41 (n41 rfl)
            | false => rfl
        rw [hb.1, if_neg Bool.false_ne_true, if_pos c41, show (!b) = true by rw [hb.2]; rfl, Bool.and_true] at cs
        refine ⟨_, rfl, rfl, _, rfl, ite3 (fun h2 => ⟨_, rfl, ret ?_⟩) (fun h2 => ⟨rfl, rfl, ?_⟩)⟩
        · have h0 : (dd : Int) = 0 := V.int.inj h2
          rw [cs, decide_eq_false (by omega)]
        · have h0 : dd ≠ 0 := fun z => h2 (by rw [z]; rfl)
          rw [cs, decide_eq_true (by omega)]
      rintro σ4 H4 ⟨rfl, rfl, hcan⟩
      have hs' : failsAt L 0 true 0 w = failsAt L (dAfter c dd) (isW c) (i + 1) (w.drop (i + 1)) := by
        rw [hs]
        show (if canS L c b dd = true then _ else _) = _
        rw [if_pos hcan]
      have hdd : c = 41 → 0 < dd := fun e => by
        rw [cs] at hcan
        by_cases z : bg = true
        · exact absurd e (n41 z)
        · rw [if_neg z, if_pos e] at hcan
          exact of_decide_eq_true ((Bool.and_eq_true _ _).mp hcan).1
      refine ⟨fun σ' H' => σ' = [some (.str (tx L)), some (.str (tx w)), some (.int ((dAfter c dd : Nat) : Int)), some (.bl b), some (.int (0 + (i : Int))), some (.bl bg)] ∧ H' = H4, ?_, ?_⟩
      · refine ⟨_, rfl, _, rfl, _, rfl, _, _, _, rfl, rfl, hz, hv, rfl, .inr ⟨_, rfl, _, _, rfl, rfl, _, rfl, _, rfl, _, _, _, rfl, rfl, hz, hv, rfl, .inr ⟨_, rfl, _, _, rfl, rfl, ?_⟩⟩⟩
        have d40 : decide (V.str (tx [c]) = V.str (Str.ofString "(")) = decide (c = 40) := by rw [Bool.eq_iff_iff, decide_eq_true_eq, decide_eq_true_eq]; exact one_eq e40
        have d41 : decide (V.str (tx [c]) = V.str (Str.ofString ")")) = decide (c = 41) := by rw [Bool.eq_iff_iff, decide_eq_true_eq, decide_eq_true_eq]; exact one_eq e41
        have hsum : (dd : Int) + (if decide (V.str (tx [c]) = V.str (Str.ofString "(")) = true then 1 else 0) - (if decide (V.str (tx [c]) = V.str (Str.ofString ")")) = true then 1 else 0) = ((dAfter c dd : Nat) : Int) := by
          rw [d40, d41]
          unfold dAfter
          by_cases c40 : c = 40
          · subst c40
            simp
          · by_cases c41 : c = 41
            · have := hdd c41
              rw [if_neg (by rw [decide_eq_false c40]; decide), if_pos (decide_eq_true c41), if_pos c41, if_neg c40]
              omega
            · rw [if_neg (by rw [decide_eq_false c40]; decide), if_neg (by rw [decide_eq_false c41]; decide), if_neg c41, if_neg c40]
              omega
        exact ⟨congrArg (fun z => [some (V.str (tx L)), some (V.str (tx w)), some (V.int z), some (V.bl b), some (V.int (0 + (i : Int))), some (V.bl bg)]) hsum, rfl⟩
      rintro σ5 H5 ⟨rfl, rfl⟩
      have hW : [40, 33, 60, 124, 45, 38].contains c = isW c := by
        unfold isW
        rw [Bool.eq_iff_iff]
        simp
        omega
      refine ⟨_, rfl, _, rfl, _, _, _, rfl, rfl, hz, hv, _, tx [42, 41], rfl, congrArg V.str (by decide +kernel), _, rfl, iteB (fun h => ⟨_, rfl, _, rfl, _, _, _, rfl, rfl, hz, hv, _, tx [40, 33, 60, 124, 45, 38], rfl, congrArg V.str (by decide +kernel), dAfter c dd, _, _, _, rfl, rfl, ?_⟩) (fun h => ⟨dAfter c dd, b, _, _, rfl, rfl, ?_⟩)⟩
      · rw [show (!(Builtin.Str.occurrences (tx [40, 33, 60, 124, 45, 38]) ⟨#[c]⟩ 0 (tx [40, 33, 60, 124, 45, 38]).length 1).isEmpty) = isW c from e4.trans hW]
        exact hs'
      · have h' : [42, 41].contains c = true := by
          rw [← e3]
          exact (Bool.not_eq_false' _).mp h
        have hc : c = 42 ∨ c = 41 := by simpa using h'
        have hw0 : isW c = false := by rcases hc with rfl | rfl <;> rfl
        have hb0 : b = false := by
          rcases hok with z | ⟨z, _⟩
          · exfalso
            rw [z] at hbg
            rcases (Bool.or_eq_true _ _).mp hbg.symm with y | y
            · simp at y
              omega
            · have := hLS c (by simpa using y)
              omega
          · exact z
        rw [hb0, ← hw0]
        exact hs'
    · rintro σ H1 ⟨dd, b, s4, s5, rfl, rfl, hs⟩
      rw [tx_len, List.drop_length] at hs
      have fin : (b || decide (0 < dd)) = true → Q (.int ((tx w).length : Int)) H1 := fun z => by
        rw [tx_len]
        refine q1 _ ?_
        rw [hs]
        show (if (b || decide (0 < dd)) = true then _ else _) = _
        rw [if_pos z]
      cases b with
      | true => exact ⟨_, rfl, _, rfl, iteT (iteT ⟨_, rfl, _, rfl, hz, fin rfl⟩)⟩
      | false =>
        refine ⟨_, rfl, _, rfl, iteF ⟨_, rfl, _, _, rfl, rfl, _, rfl, ite3 (fun hd => ⟨_, rfl, _, rfl, hz, fin ?_⟩) (fun hd => q2 ?_)⟩⟩
        · rw [Bool.false_or]
          exact decide_eq_true (Int.ofNat_lt.mp hd)
        · rw [hs]
          show (if (false || decide (0 < dd)) = true then _ else _) = _
          rw [if_neg (by rw [Bool.false_or]; exact fun z => hd (Int.ofNat_lt.mpr (of_decide_eq_true z)))]
theorem sc__law_read : FnScope ["_law_letters_here", "_law_text_here", "_law_caught", "_law_told", "_law_e"] ["_law_letters_here", "_law_text_here"] (defScope s__law_read) := ⟨rfl, rfl, rfl, by decide +kernel, rfl, by decide +kernel, by decide +kernel⟩
theorem ok__law_read {f : Addr} {fd : FuncData} (F : Fun K "_law_read" "_law_read" s__law_read f fd) (T : Txt K mg c_RoomError c_NoLetters c_NoWord c_NoNumber c_NoRoom c_NoMachine c_OtherLetters c_TooMany c_NoPattern c_TooGreat c_NoKind) (d_read : DfX P w K mg base "read" 7 ["letters", "text"] (sp_readX c c_NoLetters c_NoPattern)) : FnOk P w K mg base CX0 8 f fd ["_law_letters_here", "_law_text_here"] (sp_read35 c c_NoLetters c_NoPattern) := by
  refine F.ok sc__law_read (fun vs H Q E h => ?_) (fun cdv A outer s H vs Q E hr h => ?_)
  · obtain ⟨L, tw, rfl, _⟩ := h
    rfl
  · obtain ⟨L, tw, rfl, hs, hlen, q⟩ := h
    refine ⟨_, (pss_cons ((ps_set (i := 2) sc__law_read.nd rfl (Or.inl rfl) (pe_non))) (pss_cons ((ps_set (i := 3) sc__law_read.nd rfl (Or.inl rfl) (pe_non))) (pss_cut ((ps_tryX (i := 4) (R := c_RoomError) ⟨rfl, rfl, rfl, sc__law_read.nd, rfl, rfl, Or.inl rfl, Or.inl rfl, by rfl, T.k_RoomError, fun v => (pss_one ((ps_set (i := 2) sc__law_read.nd rfl (Or.inl rfl) (pv 4)))), by decide⟩ (px_asg (j := 3) sc__law_read.nd d_read hr (pa_cons (pv 0) (pa_cons (pv 1) pa_nil)) rfl (Or.inl rfl)))) (pss_one (ps_ret (pe_tup (pa_cons (pv 3) (pa_cons (pv 2) pa_nil)))))))), ?_⟩
    refine ⟨fun σ' H' => ∃ v2 v3, σ' = [some (.str (tx L)), some (.str (tx tw)), some v2, some v3, none] ∧ Rd35 c c_NoLetters c_NoPattern H L tw H' v2 v3, ?_, ?_⟩
    · refine ⟨_, rfl, _, rfl, L, tw, rfl, hs, hlen, fun n => ⟨T.m_NoLetters, fun e he => ⟨_, rfl, _, _, rfl, Same.upd he, .inl ⟨n, e, rfl, upd_same⟩⟩⟩, fun y => ⟨fun k d H' hk sm hF => ⟨T.m_NoPattern, fun e he => ⟨_, rfl, _, _, rfl, sm.trans (Same.upd he), .inr ⟨y, .inl ⟨k, e, d, hk, rfl, upd_same, hF.same (Same.upd he)⟩⟩⟩⟩, fun hn t v H' sm hp => ⟨_, _, rfl, sm, .inr ⟨y, .inr ⟨hn, rfl, t, hp⟩⟩⟩⟩⟩
    rintro σ1 H1 ⟨v2, v3, rfl, ha⟩
    refine ⟨_, rfl, _, rfl, line_ge (by show 2 ≤ 16777216; decide), fun p hp => ?_⟩
    exact q p v2 v3 _ (ha.same (Same.upd hp)) upd_same
theorem sc_law : FnScope ["_law_script", "_law_letters_here", "_law_text_here", "_law_due", "_law_place", "_law_told", "_law_caught"] ["_law_script"] (defScope s_law) := ⟨rfl, rfl, rfl, by decide +kernel, rfl, by decide +kernel, by decide +kernel⟩
theorem ok_law {f : Addr} {fd : FuncData} (F : Fun K "law" "law" s_law f fd) (T : Txt K mg c_RoomError c_NoLetters c_NoWord c_NoNumber c_NoRoom c_NoMachine c_OtherLetters c_TooMany c_NoPattern c_TooGreat c_NoKind) {fX : Addr} {fdX : FuncData} (NP : NpK K mg c_NoPattern c_RoomError fX fdX) (PK : PatKit P w K mg base c cP) (d__law_cell_at : Df P w K mg base "_law_cell_at" 1 ["_law_script", "_law_k"] (sp_cell K)) (d__law_letters : Df P w K mg base "_law_letters" 1 ["_law_cell"] sp_letters) (d__law_spoilt : Df P w K mg base "_law_spoilt" 3 ["_law_script", "_law_text_here"] (sp_spoilt35 K)) (d__law_text : Df P w K mg base "_law_text" 2 ["_law_letters_here", "_law_cells"] (sp_text35 K)) (d__law_fails : Df P w K mg base "_law_fails" 1 ["_law_letters_here", "_law_text_here"] sp_fails) (d__law_no_letters : Df P w K mg base "_law_no_letters" 2 ["_law_letters_here", "_law_cell", "_law_place"] sp_noletters) (d__law_read : Df P w K mg base "_law_read" 8 ["_law_letters_here", "_law_text_here"] (sp_read35 c c_NoLetters c_NoPattern)) (d__law_kinds : Df P w K mg base "_law_kinds" 1 ["_law_e"] (sp_kinds35 c_NoLetters c_NoPattern)) (d__law_whole : Df P w K mg base "_law_whole" 1 ["_law_found"] sp__law_whole) : FnOk P w K mg base CX0 9 f fd ["_law_script"] (spLaw K) := by
  refine F.ok sc_law (fun vs H Q E h => ?_) (fun cdv A outer s H vs Q E hr h => ?_)
  · obtain ⟨a, ns, rfl, _⟩ := h
    rfl
  · obtain ⟨a, ns, rfl, hS, hlen, k⟩ := h
    have hr1 := hr.mono (j := 1) (by decide)
    have hr2 := hr.mono (j := 2) (by decide)
    have hr3 := hr.mono (j := 3) (by decide)
    refine ⟨_, (pss_cons ((ps_set (i := 1) sc_law.nd rfl (Or.inl rfl) ((pe_df d__law_letters hr1 (pa_cons ((pe_df d__law_cell_at hr1 (pa_cons (pv 0) (pa_cons (pe_int) pa_nil)))) pa_nil))))) (pss_cons ((ps_set (i := 2) sc_law.nd rfl (Or.inl rfl) ((pe_df d__law_spoilt hr3 (pa_cons (pv 0) (pa_cons ((pe_df d__law_text hr2 (pa_cons (pv 1) (pa_cons (pe_slice sl_list (pv 0) (po_some pe_int) (po_some pe_int)) pa_nil)))) pa_nil)))))) (pss_cut ((ps_set (i := 3) sc_law.nd rfl (Or.inl rfl) ((pe_df d__law_fails hr1 (pa_cons (pv 1) (pa_cons (pv 2) pa_nil)))))) (pss_cons ((ps_set (i := 4) sc_law.nd rfl (Or.inl rfl) ((pe_df d__law_cell_at hr1 (pa_cons (pv 0) (pa_cons (pe_int) pa_nil)))))) (pss_cut ((ps_if (pt_cmpR op_eq (pe_op op_m (pv 4) pe_int) pe_int (nomark _)) ((pss_one ((ps_set (i := 1) sc_law.nd rfl (Or.inl rfl) ((pe_df d__law_no_letters hr2 (pa_cons (pv 1) (pa_cons ((pe_df d__law_cell_at hr1 (pa_cons (pv 0) (pa_cons (pe_int) pa_nil)))) (pa_cons (pe_op op_f (pv 4) pe_int) pa_nil))))))))) (pss_nil))) (pss_cons (ps_asg (pe_df d__law_read hr (pa_cons (pv 1) (pa_cons (pv 2) pa_nil))) (pg_tup rfl (pgs_cons (pg_name (i := 5) sc_law.nd rfl (Or.inl rfl)) (pgs_cons (pg_name (i := 6) sc_law.nd rfl (Or.inl rfl)) pgs_nil)))) (pss_cons ((ps_if (pt_cmpR op_eq (pe_op op_m (pv 4) pe_int) pe_int (nomark _)) ((pss_one (ps_ret (pe_and (pe_cmpR op_notN (pv 6) pe_non (nomark _)) (pe_one (pe_cmpR (op_eqL hr.units0) (pe_df d__law_kinds hr1 (pa_cons (pv 6) pa_nil)) (pe_lst (pa_cons pe_str pa_nil)) (nomark _))))))) (pss_nil))) (pss_cons ((ps_if (pt_cmpR op_isN (pv 3) pe_non (nomark _)) ((pss_one (ps_ret (pe_and (pe_cmpR op_isN (pv 6) pe_non (nomark _)) (pe_one (pe_callB (call_isO (D := cP)) (by rfl) T.isinst PyProof.Rows.boot_isinstance (pa_cons (pv 5) (pa_cons (pe_glob (v := .ref cP) (by rfl) PK.kP rfl) pa_nil)))))))) (pss_nil))) (pss_cons ((ps_if ((pw_or (pt_cmpR op_isN (pv 6) pe_non (nomark _)) (pw_or1 (pt_cmpR (op_neL hr.units0) (pe_df d__law_kinds hr1 (pa_cons (pv 6) pa_nil)) (pe_lst (pa_cons pe_str pa_nil)) (nomark _)))).pt) ((pss_one (ps_ret pe_bl))) (pss_nil))) (pss_one (ps_ret (pe_and (pe_df d__law_whole hr1 (pa_cons ((pe_fldE (f := "at") (pv 6))) pa_nil)) (pe_one (pe_cmpR op_eq (pe_fldE (f := "at") (pv 6)) (pv 3) (nomark _))))))))))))))), ?_⟩
    have inj : ∀ {x y : Int}, V.int x = V.int y → x = y := fun z => V.int.inj z
    refine ⟨_, rfl, a, ns, 0, rfl, hS, by decide, fun z0 => ⟨z0, rfl, fun L hL => ?_⟩⟩
    refine ⟨_, rfl, _, rfl, _, rfl, _, rfl, _, rfl, a, _, rfl, hS, fun p1 hp1 => ⟨L, p1, cutI ns (some 8) (some 63), rfl, hL, SqL.of (by rw [upd_same, cutV_ints]), Nat.le_trans (cutI_length _ _ _) hlen, fun z hz => ⟨a, ns, z, rfl, (Same.upd hp1).seq hS, hz, fun y hy => ?_⟩⟩⟩
    obtain ⟨tw, rfl⟩ : ∃ tw, y = tx tw := ⟨y.cps.toList, by cases y; simp [tx]⟩
    rw [tx_len] at hy
    have hLS : LetS L := fun c hc => hL.az c hc
    have hS1 := (Same.upd (o := .lst (cutV (ns.map V.int) (some 8) (some 63))) hp1).seq hS
    generalize L2.upd H p1 (.lst (cutV (ns.map V.int) (some 8) (some 63))) = H1 at hS1
    refine ⟨fun σ' H' => σ' = [some (.ref a), some (.str (tx L)), some (.str (tx tw)), some (dueV (failsAt L 0 true 0 tw)), none, none, none] ∧ H' = H1, ?_, ?_⟩
    · exact ⟨_, rfl, _, rfl, L, tw, rfl, hLS, hy, fun k hk => by rw [hk]; exact ⟨rfl, rfl⟩, fun hn => by rw [hn]; exact ⟨rfl, rfl⟩⟩
    rintro σ1 H1' ⟨rfl, rfl⟩
    refine ⟨_, rfl, a, ns, 6, rfl, hS1, by decide, fun pl => ?_⟩
    refine ⟨fun σ' H' => ∃ L', σ' = [some (.ref a), some (.str (tx L')), some (.str (tx tw)), some (dueV (failsAt L 0 true 0 tw)), some (.int pl), none, none] ∧ Same H1' H' ∧ Sm L' ∧ (pl % 8 = 1 → ¬ Let L') ∧ (¬ pl % 8 = 1 → L' = L), ?_, ?_⟩
    · exact ⟨_, rfl, _, _, rfl, rfl, by decide, rfl, _, rfl, ite3 (fun e => ⟨_, rfl, _, rfl, a, ns, 7, rfl, hS1, by decide, fun c7 => ⟨_, rfl, _, _, rfl, rfl, ⟨by decide, by decide⟩, L, c7, _, rfl, hL, fun t H' nl sm s => ⟨t, rfl, s, sm, fun _ => nl, fun n => absurd (inj e) n⟩⟩⟩) (fun n => ⟨L, rfl, Same.refl _, hL.sm, fun e => absurd (by rw [e]) n, fun _ => rfl⟩)⟩
    rintro σ2 H2 ⟨L', rfl, s2, hsm, hb, hg⟩
    refine ⟨_, rfl, _, rfl, L', tw, rfl, hsm, hy, fun p v2 v3 H3 hA hp => ⟨p, _, rfl, SqT.of hp, rfl, _, _, rfl, _, _, rfl, rfl, ?_⟩⟩
    obtain ⟨s3, hA⟩ := hA
    refine ⟨_, rfl, _, _, rfl, rfl, by decide, rfl, _, rfl, ite3 (fun e => ?_) (fun n => ?_)⟩
    · rcases hA with ⟨_, ex, rfl, he⟩ | ⟨y, _⟩
      · exact ⟨_, rfl, rfl, _, rfl, iteT ⟨_, rfl, ex, _, _, _, rfl, he, .inl ⟨rfl, rfl⟩, fun p2 H4 s4 hp2 => ⟨line_ge (by show 1 ≤ 16777216; decide), fun p3 hp3 => ⟨p2, p3, _, rfl, rfl, SqL.of (upd_keep hp2 hp3), SqL.of upd_same, rfl, k _⟩⟩⟩⟩
      · exact absurd y (hb (inj e))
    obtain rfl := hg (fun e => n (by rw [e]))
    rcases hA with ⟨nl, _⟩ | ⟨_, hA⟩
    · exact absurd hL nl
    rcases hA with ⟨kk, ex, d, hk, rfl, he, hF⟩ | ⟨hn, rfl, t, hpt⟩
    · rw [hk]
      refine ⟨_, rfl, rfl, _, rfl, iteN (fun z => nomatch z) ⟨_, rfl, rfl, _, rfl, iteN (fun z => nomatch z) ⟨_, rfl, ex, _, _, _, rfl, he, .inr ⟨rfl, rfl⟩, fun p2 H4 s4 hp2 => ⟨line_ge (by show 1 ≤ 16777216; decide), fun p3 hp3 => ⟨p2, p3, _, rfl, rfl, SqL.of (upd_keep hp2 hp3), SqL.of upd_same, rfl, _, rfl, iteF ?_⟩⟩⟩⟩⟩
      have up4 : ∀ {b : Addr} {o : HO}, H4 b = some o → L2.upd H4 p3 (.lst [.str "NoPattern"]) b = some o := fun z => upd_keep z hp3
      have he4 := up4 (s4 _ _ he)
      have hF4 := up4 (s4 _ _ hF)
      refine ⟨_, rfl, ex, c_NoPattern, d, _, _, rfl, he4, hF4, T.e_NoPattern, NP.xc, NP.na, rfl, _, rfl, _, rfl, iteT ⟨_, rfl, ex, c_NoPattern, d, _, _, rfl, he4, hF4, T.e_NoPattern, NP.xc, NP.na, rfl, _, rfl, rfl, ?_⟩⟩
      rw [show decide (V.int (kk : Int) = dueV (some kk)) = true from decide_eq_true rfl]
      exact k _
    · rw [hn]
      obtain ⟨au, dxu, fsu, rfl, hau, hlu⟩ := hpt.ins
      exact ⟨_, rfl, rfl, _, rfl, iteD rfl ⟨_, rfl, rfl, _, rfl, iteD rfl ⟨_, rfl, _, _, _, rfl, TyOf.ins hau (PK.pc t.kd).cl (PK.pc t.kd).ha (PK.pc t.kd).hn (PK.pc t.kd).htk (PK.pc t.kd).hm, (PK.pc t.kd).ki, k _⟩⟩⟩
end
end K35
namespace K35
open PySem L2 RA
theorem all_mk {l : PySem.W.OpenLaw} {w : World} {K : PySem.W.Frag} {h : Heap} {mg : Str → Option Value} {fa : Addr} (X : K.In h) (G : h.Ns mainGlobals mg) (hfa : mg "law" = some (.ref fa))
    {f0 : Addr} {od0 an0 : Option Addr} {sl0 : Array (Option Value)} {oc0 kV0 dc0 pm0 cd0 ct0 : Value}
    {f1 : Addr} {od1 an1 : Option Addr} {sl1 : Array (Option Value)} {oc1 kV1 dc1 pm1 cd1 ct1 : Value}
    {f2 : Addr} {od2 an2 : Option Addr} {sl2 : Array (Option Value)} {oc2 kV2 dc2 pm2 cd2 ct2 : Value}
    {f3 : Addr} {od3 an3 : Option Addr} {sl3 : Array (Option Value)} {oc3 kV3 dc3 pm3 cd3 ct3 : Value}
    {f4 : Addr} {od4 an4 : Option Addr} {sl4 : Array (Option Value)} {oc4 kV4 dc4 pm4 cd4 ct4 : Value}
    {f5 : Addr} {od5 an5 : Option Addr} {sl5 : Array (Option Value)} {oc5 kV5 dc5 pm5 cd5 ct5 : Value}
    {f6 : Addr} {od6 an6 : Option Addr} {sl6 : Array (Option Value)} {oc6 kV6 dc6 pm6 cd6 ct6 : Value}
    {f7 : Addr} {od7 an7 : Option Addr} {sl7 : Array (Option Value)} {oc7 kV7 dc7 pm7 cd7 ct7 : Value}
    {f8 : Addr} {od8 an8 : Option Addr} {sl8 : Array (Option Value)} {oc8 kV8 dc8 pm8 cd8 ct8 : Value}
    {f9 : Addr} {od9 an9 : Option Addr} {sl9 : Array (Option Value)} {oc9 kV9 dc9 pm9 cd9 ct9 : Value}
    {f10 : Addr} {od10 an10 : Option Addr} {sl10 : Array (Option Value)} {oc10 kV10 dc10 pm10 cd10 ct10 : Value}
    {f11 : Addr} {od11 an11 : Option Addr} {sl11 : Array (Option Value)} {oc11 kV11 dc11 pm11 cd11 ct11 : Value}
    {f12 : Addr} {od12 an12 : Option Addr} {sl12 : Array (Option Value)} {oc12 kV12 dc12 pm12 cd12 ct12 : Value}
    {f13 : Addr} {od13 an13 : Option Addr} {sl13 : Array (Option Value)} {oc13 kV13 dc13 pm13 cd13 ct13 : Value}
    {f14 : Addr} {od14 an14 : Option Addr} {sl14 : Array (Option Value)} {oc14 kV14 dc14 pm14 cd14 ct14 : Value}
    {f15 : Addr} {od15 an15 : Option Addr} {sl15 : Array (Option Value)} {oc15 kV15 dc15 pm15 cd15 ct15 : Value}
    {f16 : Addr} {od16 an16 : Option Addr} {sl16 : Array (Option Value)} {oc16 kV16 dc16 pm16 cd16 ct16 : Value}
    {f17 : Addr} {od17 an17 : Option Addr} {sl17 : Array (Option Value)} {oc17 kV17 dc17 pm17 cd17 ct17 : Value}
    {f18 : Addr} {od18 an18 : Option Addr} {sl18 : Array (Option Value)} {oc18 kV18 dc18 pm18 cd18 ct18 : Value}
    {f19 : Addr} {od19 an19 : Option Addr} {sl19 : Array (Option Value)} {oc19 kV19 dc19 pm19 cd19 ct19 : Value}
    {f20 : Addr} {od20 an20 : Option Addr} {sl20 : Array (Option Value)} {oc20 kV20 dc20 pm20 cd20 ct20 : Value}
    {f21 : Addr} {od21 an21 : Option Addr} {sl21 : Array (Option Value)} {oc21 kV21 dc21 pm21 cd21 ct21 : Value}
    {f22 : Addr} {od22 an22 : Option Addr} {sl22 : Array (Option Value)} {oc22 kV22 dc22 pm22 cd22 ct22 : Value}
    {f23 : Addr} {od23 an23 : Option Addr} {sl23 : Array (Option Value)} {oc23 kV23 dc23 pm23 cd23 ct23 : Value}
    {f24 : Addr} {od24 an24 : Option Addr} {sl24 : Array (Option Value)} {oc24 kV24 dc24 pm24 cd24 ct24 : Value}
    {f25 : Addr} {od25 an25 : Option Addr} {sl25 : Array (Option Value)} {oc25 kV25 dc25 pm25 cd25 ct25 : Value}
    (a0 : PySem.W.nsIn K mainGlobals "is_letters" = some (some (.ref f0))) (l0 : K.lookup f0 = some ⟨oc0, od0, .func (PySem.W.fnOf "is_letters" "is_letters" (defArgs s_is_letters) (defBody s_is_letters) (defScope s_is_letters) .none kV0 dc0 pm0 an0 cd0 ct0), sl0⟩) (c0 : PySem.W.codeIn K cd0 "is_letters" = true) (k0 : PySem.W.keepIn K (.ref f0) = true)
    (a1 : PySem.W.nsIn K mainGlobals "need_letters" = some (some (.ref f1))) (l1 : K.lookup f1 = some ⟨oc1, od1, .func (PySem.W.fnOf "need_letters" "need_letters" (defArgs s_need_letters) (defBody s_need_letters) (defScope s_need_letters) .none kV1 dc1 pm1 an1 cd1 ct1), sl1⟩) (c1 : PySem.W.codeIn K cd1 "need_letters" = true) (k1 : PySem.W.keepIn K (.ref f1) = true)
    (a2 : PySem.W.nsIn K mainGlobals "is_wanting" = some (some (.ref f2))) (l2 : K.lookup f2 = some ⟨oc2, od2, .func (PySem.W.fnOf "is_wanting" "is_wanting" (defArgs s_is_wanting) (defBody s_is_wanting) (defScope s_is_wanting) .none kV2 dc2 pm2 an2 cd2 ct2), sl2⟩) (c2 : PySem.W.codeIn K cd2 "is_wanting" = true) (k2 : PySem.W.keepIn K (.ref f2) = true)
    (a3 : PySem.W.nsIn K mainGlobals "can_stand" = some (some (.ref f3))) (l3 : K.lookup f3 = some ⟨oc3, od3, .func (PySem.W.fnOf "can_stand" "can_stand" (defArgs s_can_stand) (defBody s_can_stand) (defScope s_can_stand) .none kV3 dc3 pm3 an3 cd3 ct3), sl3⟩) (c3 : PySem.W.codeIn K cd3 "can_stand" = true) (k3 : PySem.W.keepIn K (.ref f3) = true)
    (a4 : PySem.W.nsIn K mainGlobals "need_pattern" = some (some (.ref f4))) (l4 : K.lookup f4 = some ⟨oc4, od4, .func (PySem.W.fnOf "need_pattern" "need_pattern" (defArgs s_need_pattern) (defBody s_need_pattern) (defScope s_need_pattern) .none kV4 dc4 pm4 an4 cd4 ct4), sl4⟩) (c4 : PySem.W.codeIn K cd4 "need_pattern" = true) (k4 : PySem.W.keepIn K (.ref f4) = true)
    (a5 : PySem.W.nsIn K mainGlobals "piece_of" = some (some (.ref f5))) (l5 : K.lookup f5 = some ⟨oc5, od5, .func (PySem.W.fnOf "piece_of" "piece_of" (defArgs s_piece_of) (defBody s_piece_of) (defScope s_piece_of) .none kV5 dc5 pm5 an5 cd5 ct5), sl5⟩) (c5 : PySem.W.codeIn K cd5 "piece_of" = true) (k5 : PySem.W.keepIn K (.ref f5) = true)
    (a6 : PySem.W.nsIn K mainGlobals "pair_of" = some (some (.ref f6))) (l6 : K.lookup f6 = some ⟨oc6, od6, .func (PySem.W.fnOf "pair_of" "pair_of" (defArgs s_pair_of) (defBody s_pair_of) (defScope s_pair_of) .none kV6 dc6 pm6 an6 cd6 ct6), sl6⟩) (c6 : PySem.W.codeIn K cd6 "pair_of" = true) (k6 : PySem.W.keepIn K (.ref f6) = true)
    (a7 : PySem.W.nsIn K mainGlobals "settle" = some (some (.ref f7))) (l7 : K.lookup f7 = some ⟨oc7, od7, .func (PySem.W.fnOf "settle" "settle" (defArgs s_settle) (defBody s_settle) (defScope s_settle) .none kV7 dc7 pm7 an7 cd7 ct7), sl7⟩) (c7 : PySem.W.codeIn K cd7 "settle" = true) (k7 : PySem.W.keepIn K (.ref f7) = true)
    (a8 : PySem.W.nsIn K mainGlobals "put" = some (some (.ref f8))) (l8 : K.lookup f8 = some ⟨oc8, od8, .func (PySem.W.fnOf "put" "put" (defArgs s_put) (defBody s_put) (defScope s_put) .none kV8 dc8 pm8 an8 cd8 ct8), sl8⟩) (c8 : PySem.W.codeIn K cd8 "put" = true) (k8 : PySem.W.keepIn K (.ref f8) = true)
    (a9 : PySem.W.nsIn K mainGlobals "tokens_of" = some (some (.ref f9))) (l9 : K.lookup f9 = some ⟨oc9, od9, .func (PySem.W.fnOf "tokens_of" "tokens_of" (defArgs s_tokens_of) (defBody s_tokens_of) (defScope s_tokens_of) .none kV9 dc9 pm9 an9 cd9 ct9), sl9⟩) (c9 : PySem.W.codeIn K cd9 "tokens_of" = true) (k9 : PySem.W.keepIn K (.ref f9) = true)
    (a10 : PySem.W.nsIn K mainGlobals "pattern_of" = some (some (.ref f10))) (l10 : K.lookup f10 = some ⟨oc10, od10, .func (PySem.W.fnOf "pattern_of" "pattern_of" (defArgs s_pattern_of) (defBody s_pattern_of) (defScope s_pattern_of) .none kV10 dc10 pm10 an10 cd10 ct10), sl10⟩) (c10 : PySem.W.codeIn K cd10 "pattern_of" = true) (k10 : PySem.W.keepIn K (.ref f10) = true)
    (a11 : PySem.W.nsIn K mainGlobals "read" = some (some (.ref f11))) (l11 : K.lookup f11 = some ⟨oc11, od11, .func (PySem.W.fnOf "read" "read" (defArgs s_read) (defBody s_read) (defScope s_read) .none kV11 dc11 pm11 an11 cd11 ct11), sl11⟩) (c11 : PySem.W.codeIn K cd11 "read" = true) (k11 : PySem.W.keepIn K (.ref f11) = true)
    (a12 : PySem.W.nsIn K mainGlobals "_law_cell_at" = some (some (.ref f12))) (l12 : K.lookup f12 = some ⟨oc12, od12, .func (PySem.W.fnOf "_law_cell_at" "_law_cell_at" (defArgs s__law_cell_at) (defBody s__law_cell_at) (defScope s__law_cell_at) .none kV12 dc12 pm12 an12 cd12 ct12), sl12⟩) (c12 : PySem.W.codeIn K cd12 "_law_cell_at" = true) (k12 : PySem.W.keepIn K (.ref f12) = true)
    (a13 : PySem.W.nsIn K mainGlobals "_law_letters" = some (some (.ref f13))) (l13 : K.lookup f13 = some ⟨oc13, od13, .func (PySem.W.fnOf "_law_letters" "_law_letters" (defArgs s__law_letters) (defBody s__law_letters) (defScope s__law_letters) .none kV13 dc13 pm13 an13 cd13 ct13), sl13⟩) (c13 : PySem.W.codeIn K cd13 "_law_letters" = true) (k13 : PySem.W.keepIn K (.ref f13) = true)
    (a14 : PySem.W.nsIn K mainGlobals "_law_whole" = some (some (.ref f14))) (l14 : K.lookup f14 = some ⟨oc14, od14, .func (PySem.W.fnOf "_law_whole" "_law_whole" (defArgs s__law_whole) (defBody s__law_whole) (defScope s__law_whole) .none kV14 dc14 pm14 an14 cd14 ct14), sl14⟩) (c14 : PySem.W.codeIn K cd14 "_law_whole" = true) (k14 : PySem.W.keepIn K (.ref f14) = true)
    (a15 : PySem.W.nsIn K mainGlobals "_law_kinds" = some (some (.ref f15))) (l15 : K.lookup f15 = some ⟨oc15, od15, .func (PySem.W.fnOf "_law_kinds" "_law_kinds" (defArgs s__law_kinds) (defBody s__law_kinds) (defScope s__law_kinds) .none kV15 dc15 pm15 an15 cd15 ct15), sl15⟩) (c15 : PySem.W.codeIn K cd15 "_law_kinds" = true) (k15 : PySem.W.keepIn K (.ref f15) = true)
    (a16 : PySem.W.nsIn K mainGlobals "_law_sign" = some (some (.ref f16))) (l16 : K.lookup f16 = some ⟨oc16, od16, .func (PySem.W.fnOf "_law_sign" "_law_sign" (defArgs s__law_sign) (defBody s__law_sign) (defScope s__law_sign) .none kV16 dc16 pm16 an16 cd16 ct16), sl16⟩) (c16 : PySem.W.codeIn K cd16 "_law_sign" = true) (k16 : PySem.W.keepIn K (.ref f16) = true)
    (a17 : PySem.W.nsIn K mainGlobals "_law_text" = some (some (.ref f17))) (l17 : K.lookup f17 = some ⟨oc17, od17, .func (PySem.W.fnOf "_law_text" "_law_text" (defArgs s__law_text) (defBody s__law_text) (defScope s__law_text) .none kV17 dc17 pm17 an17 cd17 ct17), sl17⟩) (c17 : PySem.W.codeIn K cd17 "_law_text" = true) (k17 : PySem.W.keepIn K (.ref f17) = true)
    (a18 : PySem.W.nsIn K mainGlobals "_law_foreign" = some (some (.ref f18))) (l18 : K.lookup f18 = some ⟨oc18, od18, .func (PySem.W.fnOf "_law_foreign" "_law_foreign" (defArgs s__law_foreign) (defBody s__law_foreign) (defScope s__law_foreign) .none kV18 dc18 pm18 an18 cd18 ct18), sl18⟩) (c18 : PySem.W.codeIn K cd18 "_law_foreign" = true) (k18 : PySem.W.keepIn K (.ref f18) = true)
    (a19 : PySem.W.nsIn K mainGlobals "_law_others" = some (some (.ref f19))) (l19 : K.lookup f19 = some ⟨oc19, od19, .func (PySem.W.fnOf "_law_others" "_law_others" (defArgs s__law_others) (defBody s__law_others) (defScope s__law_others) .none kV19 dc19 pm19 an19 cd19 ct19), sl19⟩) (c19 : PySem.W.codeIn K cd19 "_law_others" = true) (k19 : PySem.W.keepIn K (.ref f19) = true)
    (a20 : PySem.W.nsIn K mainGlobals "_law_no_letters" = some (some (.ref f20))) (l20 : K.lookup f20 = some ⟨oc20, od20, .func (PySem.W.fnOf "_law_no_letters" "_law_no_letters" (defArgs s__law_no_letters) (defBody s__law_no_letters) (defScope s__law_no_letters) .none kV20 dc20 pm20 an20 cd20 ct20), sl20⟩) (c20 : PySem.W.codeIn K cd20 "_law_no_letters" = true) (k20 : PySem.W.keepIn K (.ref f20) = true)
    (a21 : PySem.W.nsIn K mainGlobals "_law_other_sign" = some (some (.ref f21))) (l21 : K.lookup f21 = some ⟨oc21, od21, .func (PySem.W.fnOf "_law_other_sign" "_law_other_sign" (defArgs s__law_other_sign) (defBody s__law_other_sign) (defScope s__law_other_sign) .none kV21 dc21 pm21 an21 cd21 ct21), sl21⟩) (c21 : PySem.W.codeIn K cd21 "_law_other_sign" = true) (k21 : PySem.W.keepIn K (.ref f21) = true)
    (a22 : PySem.W.nsIn K mainGlobals "_law_spoilt" = some (some (.ref f22))) (l22 : K.lookup f22 = some ⟨oc22, od22, .func (PySem.W.fnOf "_law_spoilt" "_law_spoilt" (defArgs s__law_spoilt) (defBody s__law_spoilt) (defScope s__law_spoilt) .none kV22 dc22 pm22 an22 cd22 ct22), sl22⟩) (c22 : PySem.W.codeIn K cd22 "_law_spoilt" = true) (k22 : PySem.W.keepIn K (.ref f22) = true)
    (a23 : PySem.W.nsIn K mainGlobals "_law_fails" = some (some (.ref f23))) (l23 : K.lookup f23 = some ⟨oc23, od23, .func (PySem.W.fnOf "_law_fails" "_law_fails" (defArgs s__law_fails) (defBody s__law_fails) (defScope s__law_fails) .none kV23 dc23 pm23 an23 cd23 ct23), sl23⟩) (c23 : PySem.W.codeIn K cd23 "_law_fails" = true) (k23 : PySem.W.keepIn K (.ref f23) = true)
    (a24 : PySem.W.nsIn K mainGlobals "_law_read" = some (some (.ref f24))) (l24 : K.lookup f24 = some ⟨oc24, od24, .func (PySem.W.fnOf "_law_read" "_law_read" (defArgs s__law_read) (defBody s__law_read) (defScope s__law_read) .none kV24 dc24 pm24 an24 cd24 ct24), sl24⟩) (c24 : PySem.W.codeIn K cd24 "_law_read" = true) (k24 : PySem.W.keepIn K (.ref f24) = true)
    (a25 : PySem.W.nsIn K mainGlobals "law" = some (some (.ref f25))) (l25 : K.lookup f25 = some ⟨oc25, od25, .func (PySem.W.fnOf "law" "law" (defArgs s_law) (defBody s_law) (defScope s_law) .none kV25 dc25 pm25 an25 cd25 ct25), sl25⟩) (c25 : PySem.W.codeIn K cd25 "law" = true) (k25 : PySem.W.keepIn K (.ref f25) = true)
    (z_len : PySem.W.nsIn K mainGlobals "len" = some none)
    (z_range : PySem.W.nsIn K mainGlobals "range" = some none)
    (z_isinst : PySem.W.nsIn K mainGlobals "isinstance" = some none)
    (z_int : PySem.W.nsIn K mainGlobals "int" = some none)
    (z_bool : PySem.W.nsIn K mainGlobals "bool" = some none)
    (z_tuple : PySem.W.nsIn K mainGlobals "tuple" = some none)
    (z_list : PySem.W.nsIn K mainGlobals "list" = some none)
    (z_str : PySem.W.nsIn K mainGlobals "str" = some none)
    (z_enum : PySem.W.nsIn K mainGlobals "enumerate" = some none)
    (z_verr : PySem.W.nsIn K mainGlobals "ValueError" = some none)
    {c_RoomError : Addr} (n_RoomError : PySem.W.nsIn K mainGlobals "RoomError" = some (some (.ref c_RoomError)))
    {c_NoLetters : Addr} (n_NoLetters : PySem.W.nsIn K mainGlobals "NoLetters" = some (some (.ref c_NoLetters)))
    {c_NoWord : Addr} (n_NoWord : PySem.W.nsIn K mainGlobals "NoWord" = some (some (.ref c_NoWord)))
    {c_NoNumber : Addr} (n_NoNumber : PySem.W.nsIn K mainGlobals "NoNumber" = some (some (.ref c_NoNumber)))
    {c_NoRoom : Addr} (n_NoRoom : PySem.W.nsIn K mainGlobals "NoRoom" = some (some (.ref c_NoRoom)))
    {c_NoMachine : Addr} (n_NoMachine : PySem.W.nsIn K mainGlobals "NoMachine" = some (some (.ref c_NoMachine)))
    {c_OtherLetters : Addr} (n_OtherLetters : PySem.W.nsIn K mainGlobals "OtherLetters" = some (some (.ref c_OtherLetters)))
    {c_TooMany : Addr} (n_TooMany : PySem.W.nsIn K mainGlobals "TooMany" = some (some (.ref c_TooMany)))
    {c_NoPattern : Addr} (n_NoPattern : PySem.W.nsIn K mainGlobals "NoPattern" = some (some (.ref c_NoPattern)))
    {c_TooGreat : Addr} (n_TooGreat : PySem.W.nsIn K mainGlobals "TooGreat" = some (some (.ref c_TooGreat)))
    {c_NoKind : Addr} (n_NoKind : PySem.W.nsIn K mainGlobals "NoKind" = some (some (.ref c_NoKind)))
    (o_NoLetters : OwnX K c_NoLetters)
    (e_NoLetters : ExcCls K c_NoLetters) (m_NoLetters : PySem.W.exmOne K (.ref c_NoLetters) (.ref c_RoomError) = some true)
    (i_NoLetters_NoLetters : PySem.W.kitOne K (.ref c_NoLetters) (.ref c_NoLetters) = some true)
    (i_NoLetters_NoWord : PySem.W.kitOne K (.ref c_NoLetters) (.ref c_NoWord) = some false)
    (i_NoLetters_NoNumber : PySem.W.kitOne K (.ref c_NoLetters) (.ref c_NoNumber) = some false)
    (i_NoLetters_NoRoom : PySem.W.kitOne K (.ref c_NoLetters) (.ref c_NoRoom) = some false)
    (i_NoLetters_NoMachine : PySem.W.kitOne K (.ref c_NoLetters) (.ref c_NoMachine) = some false)
    (i_NoLetters_OtherLetters : PySem.W.kitOne K (.ref c_NoLetters) (.ref c_OtherLetters) = some false)
    (i_NoLetters_TooMany : PySem.W.kitOne K (.ref c_NoLetters) (.ref c_TooMany) = some false)
    (i_NoLetters_NoPattern : PySem.W.kitOne K (.ref c_NoLetters) (.ref c_NoPattern) = some false)
    (i_NoLetters_TooGreat : PySem.W.kitOne K (.ref c_NoLetters) (.ref c_TooGreat) = some false)
    (i_NoLetters_NoKind : PySem.W.kitOne K (.ref c_NoLetters) (.ref c_NoKind) = some false)
    (v_NoLetters : PySem.W.kitOne K (.ref c_NoLetters) (.type "ValueError") = some true)
    (e_NoPattern : ExcCls K c_NoPattern) (m_NoPattern : PySem.W.exmOne K (.ref c_NoPattern) (.ref c_RoomError) = some true)
    (i_NoPattern_NoLetters : PySem.W.kitOne K (.ref c_NoPattern) (.ref c_NoLetters) = some false)
    (i_NoPattern_NoWord : PySem.W.kitOne K (.ref c_NoPattern) (.ref c_NoWord) = some false)
    (i_NoPattern_NoNumber : PySem.W.kitOne K (.ref c_NoPattern) (.ref c_NoNumber) = some false)
    (i_NoPattern_NoRoom : PySem.W.kitOne K (.ref c_NoPattern) (.ref c_NoRoom) = some false)
    (i_NoPattern_NoMachine : PySem.W.kitOne K (.ref c_NoPattern) (.ref c_NoMachine) = some false)
    (i_NoPattern_OtherLetters : PySem.W.kitOne K (.ref c_NoPattern) (.ref c_OtherLetters) = some false)
    (i_NoPattern_TooMany : PySem.W.kitOne K (.ref c_NoPattern) (.ref c_TooMany) = some false)
    (i_NoPattern_NoPattern : PySem.W.kitOne K (.ref c_NoPattern) (.ref c_NoPattern) = some true)
    (i_NoPattern_TooGreat : PySem.W.kitOne K (.ref c_NoPattern) (.ref c_TooGreat) = some false)
    (i_NoPattern_NoKind : PySem.W.kitOne K (.ref c_NoPattern) (.ref c_NoKind) = some false)
    (v_NoPattern : PySem.W.kitOne K (.ref c_NoPattern) (.type "ValueError") = some true)
    {c_Pattern : Addr} {c_Never fh_Never : Addr} {od_Never an_Never : Option Addr} {sl_Never_ : Array (Option Value)} {oc_Never kV_Never dc_Never pm_Never cd_Never ct_Never : Value} {c_Empty fh_Empty : Addr} {od_Empty an_Empty : Option Addr} {sl_Empty_ : Array (Option Value)} {oc_Empty kV_Empty dc_Empty pm_Empty cd_Empty ct_Empty : Value} {c_AnySign fh_AnySign : Addr} {od_AnySign an_AnySign : Option Addr} {sl_AnySign_ : Array (Option Value)} {oc_AnySign kV_AnySign dc_AnySign pm_AnySign cd_AnySign ct_AnySign : Value} {c_Sign fh_Sign : Addr} {od_Sign an_Sign : Option Addr} {sl_Sign_ : Array (Option Value)} {oc_Sign kV_Sign dc_Sign pm_Sign cd_Sign ct_Sign : Value} {c_Outside fh_Outside : Addr} {od_Outside an_Outside : Option Addr} {sl_Outside_ : Array (Option Value)} {oc_Outside kV_Outside dc_Outside pm_Outside cd_Outside ct_Outside : Value} {c_Turned fh_Turned : Addr} {od_Turned an_Turned : Option Addr} {sl_Turned_ : Array (Option Value)} {oc_Turned kV_Turned dc_Turned pm_Turned cd_Turned ct_Turned : Value} {c_Again fh_Again : Addr} {od_Again an_Again : Option Addr} {sl_Again_ : Array (Option Value)} {oc_Again kV_Again dc_Again pm_Again cd_Again ct_Again : Value} {c_Either fh_Either : Addr} {od_Either an_Either : Option Addr} {sl_Either_ : Array (Option Value)} {oc_Either kV_Either dc_Either pm_Either cd_Either ct_Either : Value} {c_Less fh_Less : Addr} {od_Less an_Less : Option Addr} {sl_Less_ : Array (Option Value)} {oc_Less kV_Less dc_Less pm_Less cd_Less ct_Less : Value} {c_Both fh_Both : Addr} {od_Both an_Both : Option Addr} {sl_Both_ : Array (Option Value)} {oc_Both kV_Both dc_Both pm_Both cd_Both ct_Both : Value} {c_Then fh_Then : Addr} {od_Then an_Then : Option Addr} {sl_Then_ : Array (Option Value)} {oc_Then kV_Then dc_Then pm_Then cd_Then ct_Then : Value} {fi_Sign : Addr} {iod_Sign ian_Sign : Option Addr} {isl_Sign : Array (Option Value)} {ioc_Sign ikV_Sign idc_Sign ipm_Sign icd_Sign ict_Sign : Value} {fi_Around : Addr} {iod_Around ian_Around : Option Addr} {isl_Around : Array (Option Value)} {ioc_Around ikV_Around idc_Around ipm_Around icd_Around ict_Around : Value} {fi_Pair : Addr} {iod_Pair ian_Pair : Option Addr} {isl_Pair : Array (Option Value)} {ioc_Pair ikV_Pair idc_Pair ipm_Pair icd_Pair ict_Pair : Value}
    (n_Pattern : PySem.W.nsIn K mainGlobals "Pattern" = some (some (.ref c_Pattern)))
    (hn : PySem.W.specialIn K (.builtin "object.__class__") "__get__" = some (some (.builtin "getset_descriptor.__get__")))
    (htk : PySem.W.takesIn K (.builtin "object.__class__") = some true)
    (n_Never : PySem.W.nsIn K mainGlobals "Never" = some (some (.ref c_Never)))
    (pg_Never : PySem.W.plainGet K c_Never Str.empty = true)
    (hd_Never : PySem.W.hasDictIn K c_Never = true)
    (po_Never : PySem.W.plainOver K c_Never = true)
    (sa_Never : PySem.W.findIn K (.ref c_Never) "__setattr__" = some (some (.builtin "object.__setattr__")))
    (ha_Never : PySem.W.findIn K (.ref c_Never) "__class__" = some (some (.builtin "object.__class__")))
    (hm_Never : PySem.W.mroIn K c_Never (.type "object") = some true)
    (ki_Never : PySem.W.kitOne K (.ref c_Never) (.ref c_Pattern) = some true)
    (at_Never_sign : PySem.W.findIn K (.ref c_Never) "sign" = some none)
    (at_Never_left : PySem.W.findIn K (.ref c_Never) "left" = some none)
    (at_Never_right : PySem.W.findIn K (.ref c_Never) "right" = some none)
    (at_Never_inner : PySem.W.findIn K (.ref c_Never) "inner" = some none)
    (mk_Never : PySem.W.makesIn K c_Never = true)
    (kc_Never : PySem.W.keepIn K (.ref c_Never) = true)
    (in_Never : PySem.W.findIn K (.ref c_Never) "__init__" = some (some (.builtin "object.__init__")))
    (sh_Never : PySem.W.findIn K (.ref c_Never) "shape" = some (some (.ref fh_Never)))
    (sf_Never : PySem.W.isFn K (.ref fh_Never) = true)
    (sl_Never : K.lookup fh_Never = some ⟨oc_Never, od_Never, .func (PySem.W.fnOf "shape" "Never.shape" (defArgs h_Never) (defBody h_Never) (defScope h_Never) .none kV_Never dc_Never pm_Never an_Never cd_Never ct_Never), sl_Never_⟩)
    (sc_Never : PySem.W.codeIn K cd_Never "Never.shape" = true)
    (sk_Never : PySem.W.keepIn K (.ref fh_Never) = true)
    (n_Empty : PySem.W.nsIn K mainGlobals "Empty" = some (some (.ref c_Empty)))
    (pg_Empty : PySem.W.plainGet K c_Empty Str.empty = true)
    (hd_Empty : PySem.W.hasDictIn K c_Empty = true)
    (po_Empty : PySem.W.plainOver K c_Empty = true)
    (sa_Empty : PySem.W.findIn K (.ref c_Empty) "__setattr__" = some (some (.builtin "object.__setattr__")))
    (ha_Empty : PySem.W.findIn K (.ref c_Empty) "__class__" = some (some (.builtin "object.__class__")))
    (hm_Empty : PySem.W.mroIn K c_Empty (.type "object") = some true)
    (ki_Empty : PySem.W.kitOne K (.ref c_Empty) (.ref c_Pattern) = some true)
    (at_Empty_sign : PySem.W.findIn K (.ref c_Empty) "sign" = some none)
    (at_Empty_left : PySem.W.findIn K (.ref c_Empty) "left" = some none)
    (at_Empty_right : PySem.W.findIn K (.ref c_Empty) "right" = some none)
    (at_Empty_inner : PySem.W.findIn K (.ref c_Empty) "inner" = some none)
    (mk_Empty : PySem.W.makesIn K c_Empty = true)
    (kc_Empty : PySem.W.keepIn K (.ref c_Empty) = true)
    (in_Empty : PySem.W.findIn K (.ref c_Empty) "__init__" = some (some (.builtin "object.__init__")))
    (sh_Empty : PySem.W.findIn K (.ref c_Empty) "shape" = some (some (.ref fh_Empty)))
    (sf_Empty : PySem.W.isFn K (.ref fh_Empty) = true)
    (sl_Empty : K.lookup fh_Empty = some ⟨oc_Empty, od_Empty, .func (PySem.W.fnOf "shape" "Empty.shape" (defArgs h_Empty) (defBody h_Empty) (defScope h_Empty) .none kV_Empty dc_Empty pm_Empty an_Empty cd_Empty ct_Empty), sl_Empty_⟩)
    (sc_Empty : PySem.W.codeIn K cd_Empty "Empty.shape" = true)
    (sk_Empty : PySem.W.keepIn K (.ref fh_Empty) = true)
    (n_AnySign : PySem.W.nsIn K mainGlobals "AnySign" = some (some (.ref c_AnySign)))
    (pg_AnySign : PySem.W.plainGet K c_AnySign Str.empty = true)
    (hd_AnySign : PySem.W.hasDictIn K c_AnySign = true)
    (po_AnySign : PySem.W.plainOver K c_AnySign = true)
    (sa_AnySign : PySem.W.findIn K (.ref c_AnySign) "__setattr__" = some (some (.builtin "object.__setattr__")))
    (ha_AnySign : PySem.W.findIn K (.ref c_AnySign) "__class__" = some (some (.builtin "object.__class__")))
    (hm_AnySign : PySem.W.mroIn K c_AnySign (.type "object") = some true)
    (ki_AnySign : PySem.W.kitOne K (.ref c_AnySign) (.ref c_Pattern) = some true)
    (at_AnySign_sign : PySem.W.findIn K (.ref c_AnySign) "sign" = some none)
    (at_AnySign_left : PySem.W.findIn K (.ref c_AnySign) "left" = some none)
    (at_AnySign_right : PySem.W.findIn K (.ref c_AnySign) "right" = some none)
    (at_AnySign_inner : PySem.W.findIn K (.ref c_AnySign) "inner" = some none)
    (mk_AnySign : PySem.W.makesIn K c_AnySign = true)
    (kc_AnySign : PySem.W.keepIn K (.ref c_AnySign) = true)
    (in_AnySign : PySem.W.findIn K (.ref c_AnySign) "__init__" = some (some (.builtin "object.__init__")))
    (sh_AnySign : PySem.W.findIn K (.ref c_AnySign) "shape" = some (some (.ref fh_AnySign)))
    (sf_AnySign : PySem.W.isFn K (.ref fh_AnySign) = true)
    (sl_AnySign : K.lookup fh_AnySign = some ⟨oc_AnySign, od_AnySign, .func (PySem.W.fnOf "shape" "AnySign.shape" (defArgs h_AnySign) (defBody h_AnySign) (defScope h_AnySign) .none kV_AnySign dc_AnySign pm_AnySign an_AnySign cd_AnySign ct_AnySign), sl_AnySign_⟩)
    (sc_AnySign : PySem.W.codeIn K cd_AnySign "AnySign.shape" = true)
    (sk_AnySign : PySem.W.keepIn K (.ref fh_AnySign) = true)
    (n_Sign : PySem.W.nsIn K mainGlobals "Sign" = some (some (.ref c_Sign)))
    (pg_Sign : PySem.W.plainGet K c_Sign Str.empty = true)
    (hd_Sign : PySem.W.hasDictIn K c_Sign = true)
    (po_Sign : PySem.W.plainOver K c_Sign = true)
    (sa_Sign : PySem.W.findIn K (.ref c_Sign) "__setattr__" = some (some (.builtin "object.__setattr__")))
    (ha_Sign : PySem.W.findIn K (.ref c_Sign) "__class__" = some (some (.builtin "object.__class__")))
    (hm_Sign : PySem.W.mroIn K c_Sign (.type "object") = some true)
    (ki_Sign : PySem.W.kitOne K (.ref c_Sign) (.ref c_Pattern) = some true)
    (at_Sign_sign : PySem.W.findIn K (.ref c_Sign) "sign" = some none)
    (at_Sign_left : PySem.W.findIn K (.ref c_Sign) "left" = some none)
    (at_Sign_right : PySem.W.findIn K (.ref c_Sign) "right" = some none)
    (at_Sign_inner : PySem.W.findIn K (.ref c_Sign) "inner" = some none)
    (mk_Sign : PySem.W.makesIn K c_Sign = true)
    (kc_Sign : PySem.W.keepIn K (.ref c_Sign) = true)
    (in_Sign : PySem.W.findIn K (.ref c_Sign) "__init__" = some (some (.ref fi_Sign)))
    (sh_Sign : PySem.W.findIn K (.ref c_Sign) "shape" = some (some (.ref fh_Sign)))
    (sf_Sign : PySem.W.isFn K (.ref fh_Sign) = true)
    (sl_Sign : K.lookup fh_Sign = some ⟨oc_Sign, od_Sign, .func (PySem.W.fnOf "shape" "Sign.shape" (defArgs h_Sign) (defBody h_Sign) (defScope h_Sign) .none kV_Sign dc_Sign pm_Sign an_Sign cd_Sign ct_Sign), sl_Sign_⟩)
    (sc_Sign : PySem.W.codeIn K cd_Sign "Sign.shape" = true)
    (sk_Sign : PySem.W.keepIn K (.ref fh_Sign) = true)
    (n_Outside : PySem.W.nsIn K mainGlobals "Outside" = some (some (.ref c_Outside)))
    (pg_Outside : PySem.W.plainGet K c_Outside Str.empty = true)
    (hd_Outside : PySem.W.hasDictIn K c_Outside = true)
    (po_Outside : PySem.W.plainOver K c_Outside = true)
    (sa_Outside : PySem.W.findIn K (.ref c_Outside) "__setattr__" = some (some (.builtin "object.__setattr__")))
    (ha_Outside : PySem.W.findIn K (.ref c_Outside) "__class__" = some (some (.builtin "object.__class__")))
    (hm_Outside : PySem.W.mroIn K c_Outside (.type "object") = some true)
    (ki_Outside : PySem.W.kitOne K (.ref c_Outside) (.ref c_Pattern) = some true)
    (at_Outside_sign : PySem.W.findIn K (.ref c_Outside) "sign" = some none)
    (at_Outside_left : PySem.W.findIn K (.ref c_Outside) "left" = some none)
    (at_Outside_right : PySem.W.findIn K (.ref c_Outside) "right" = some none)
    (at_Outside_inner : PySem.W.findIn K (.ref c_Outside) "inner" = some none)
    (mk_Outside : PySem.W.makesIn K c_Outside = true)
    (kc_Outside : PySem.W.keepIn K (.ref c_Outside) = true)
    (in_Outside : PySem.W.findIn K (.ref c_Outside) "__init__" = some (some (.ref fi_Around)))
    (sh_Outside : PySem.W.findIn K (.ref c_Outside) "shape" = some (some (.ref fh_Outside)))
    (sf_Outside : PySem.W.isFn K (.ref fh_Outside) = true)
    (sl_Outside : K.lookup fh_Outside = some ⟨oc_Outside, od_Outside, .func (PySem.W.fnOf "shape" "Outside.shape" (defArgs h_Outside) (defBody h_Outside) (defScope h_Outside) .none kV_Outside dc_Outside pm_Outside an_Outside cd_Outside ct_Outside), sl_Outside_⟩)
    (sc_Outside : PySem.W.codeIn K cd_Outside "Outside.shape" = true)
    (sk_Outside : PySem.W.keepIn K (.ref fh_Outside) = true)
    (n_Turned : PySem.W.nsIn K mainGlobals "Turned" = some (some (.ref c_Turned)))
    (pg_Turned : PySem.W.plainGet K c_Turned Str.empty = true)
    (hd_Turned : PySem.W.hasDictIn K c_Turned = true)
    (po_Turned : PySem.W.plainOver K c_Turned = true)
    (sa_Turned : PySem.W.findIn K (.ref c_Turned) "__setattr__" = some (some (.builtin "object.__setattr__")))
    (ha_Turned : PySem.W.findIn K (.ref c_Turned) "__class__" = some (some (.builtin "object.__class__")))
    (hm_Turned : PySem.W.mroIn K c_Turned (.type "object") = some true)
    (ki_Turned : PySem.W.kitOne K (.ref c_Turned) (.ref c_Pattern) = some true)
    (at_Turned_sign : PySem.W.findIn K (.ref c_Turned) "sign" = some none)
    (at_Turned_left : PySem.W.findIn K (.ref c_Turned) "left" = some none)
    (at_Turned_right : PySem.W.findIn K (.ref c_Turned) "right" = some none)
    (at_Turned_inner : PySem.W.findIn K (.ref c_Turned) "inner" = some none)
    (mk_Turned : PySem.W.makesIn K c_Turned = true)
    (kc_Turned : PySem.W.keepIn K (.ref c_Turned) = true)
    (in_Turned : PySem.W.findIn K (.ref c_Turned) "__init__" = some (some (.ref fi_Around)))
    (sh_Turned : PySem.W.findIn K (.ref c_Turned) "shape" = some (some (.ref fh_Turned)))
    (sf_Turned : PySem.W.isFn K (.ref fh_Turned) = true)
    (sl_Turned : K.lookup fh_Turned = some ⟨oc_Turned, od_Turned, .func (PySem.W.fnOf "shape" "Turned.shape" (defArgs h_Turned) (defBody h_Turned) (defScope h_Turned) .none kV_Turned dc_Turned pm_Turned an_Turned cd_Turned ct_Turned), sl_Turned_⟩)
    (sc_Turned : PySem.W.codeIn K cd_Turned "Turned.shape" = true)
    (sk_Turned : PySem.W.keepIn K (.ref fh_Turned) = true)
    (n_Again : PySem.W.nsIn K mainGlobals "Again" = some (some (.ref c_Again)))
    (pg_Again : PySem.W.plainGet K c_Again Str.empty = true)
    (hd_Again : PySem.W.hasDictIn K c_Again = true)
    (po_Again : PySem.W.plainOver K c_Again = true)
    (sa_Again : PySem.W.findIn K (.ref c_Again) "__setattr__" = some (some (.builtin "object.__setattr__")))
    (ha_Again : PySem.W.findIn K (.ref c_Again) "__class__" = some (some (.builtin "object.__class__")))
    (hm_Again : PySem.W.mroIn K c_Again (.type "object") = some true)
    (ki_Again : PySem.W.kitOne K (.ref c_Again) (.ref c_Pattern) = some true)
    (at_Again_sign : PySem.W.findIn K (.ref c_Again) "sign" = some none)
    (at_Again_left : PySem.W.findIn K (.ref c_Again) "left" = some none)
    (at_Again_right : PySem.W.findIn K (.ref c_Again) "right" = some none)
    (at_Again_inner : PySem.W.findIn K (.ref c_Again) "inner" = some none)
    (mk_Again : PySem.W.makesIn K c_Again = true)
    (kc_Again : PySem.W.keepIn K (.ref c_Again) = true)
    (in_Again : PySem.W.findIn K (.ref c_Again) "__init__" = some (some (.ref fi_Around)))
    (sh_Again : PySem.W.findIn K (.ref c_Again) "shape" = some (some (.ref fh_Again)))
    (sf_Again : PySem.W.isFn K (.ref fh_Again) = true)
    (sl_Again : K.lookup fh_Again = some ⟨oc_Again, od_Again, .func (PySem.W.fnOf "shape" "Again.shape" (defArgs h_Again) (defBody h_Again) (defScope h_Again) .none kV_Again dc_Again pm_Again an_Again cd_Again ct_Again), sl_Again_⟩)
    (sc_Again : PySem.W.codeIn K cd_Again "Again.shape" = true)
    (sk_Again : PySem.W.keepIn K (.ref fh_Again) = true)
    (n_Either : PySem.W.nsIn K mainGlobals "Either" = some (some (.ref c_Either)))
    (pg_Either : PySem.W.plainGet K c_Either Str.empty = true)
    (hd_Either : PySem.W.hasDictIn K c_Either = true)
    (po_Either : PySem.W.plainOver K c_Either = true)
    (sa_Either : PySem.W.findIn K (.ref c_Either) "__setattr__" = some (some (.builtin "object.__setattr__")))
    (ha_Either : PySem.W.findIn K (.ref c_Either) "__class__" = some (some (.builtin "object.__class__")))
    (hm_Either : PySem.W.mroIn K c_Either (.type "object") = some true)
    (ki_Either : PySem.W.kitOne K (.ref c_Either) (.ref c_Pattern) = some true)
    (at_Either_sign : PySem.W.findIn K (.ref c_Either) "sign" = some none)
    (at_Either_left : PySem.W.findIn K (.ref c_Either) "left" = some none)
    (at_Either_right : PySem.W.findIn K (.ref c_Either) "right" = some none)
    (at_Either_inner : PySem.W.findIn K (.ref c_Either) "inner" = some none)
    (mk_Either : PySem.W.makesIn K c_Either = true)
    (kc_Either : PySem.W.keepIn K (.ref c_Either) = true)
    (in_Either : PySem.W.findIn K (.ref c_Either) "__init__" = some (some (.ref fi_Pair)))
    (sh_Either : PySem.W.findIn K (.ref c_Either) "shape" = some (some (.ref fh_Either)))
    (sf_Either : PySem.W.isFn K (.ref fh_Either) = true)
    (sl_Either : K.lookup fh_Either = some ⟨oc_Either, od_Either, .func (PySem.W.fnOf "shape" "Either.shape" (defArgs h_Either) (defBody h_Either) (defScope h_Either) .none kV_Either dc_Either pm_Either an_Either cd_Either ct_Either), sl_Either_⟩)
    (sc_Either : PySem.W.codeIn K cd_Either "Either.shape" = true)
    (sk_Either : PySem.W.keepIn K (.ref fh_Either) = true)
    (n_Less : PySem.W.nsIn K mainGlobals "Less" = some (some (.ref c_Less)))
    (pg_Less : PySem.W.plainGet K c_Less Str.empty = true)
    (hd_Less : PySem.W.hasDictIn K c_Less = true)
    (po_Less : PySem.W.plainOver K c_Less = true)
    (sa_Less : PySem.W.findIn K (.ref c_Less) "__setattr__" = some (some (.builtin "object.__setattr__")))
    (ha_Less : PySem.W.findIn K (.ref c_Less) "__class__" = some (some (.builtin "object.__class__")))
    (hm_Less : PySem.W.mroIn K c_Less (.type "object") = some true)
    (ki_Less : PySem.W.kitOne K (.ref c_Less) (.ref c_Pattern) = some true)
    (at_Less_sign : PySem.W.findIn K (.ref c_Less) "sign" = some none)
    (at_Less_left : PySem.W.findIn K (.ref c_Less) "left" = some none)
    (at_Less_right : PySem.W.findIn K (.ref c_Less) "right" = some none)
    (at_Less_inner : PySem.W.findIn K (.ref c_Less) "inner" = some none)
    (mk_Less : PySem.W.makesIn K c_Less = true)
    (kc_Less : PySem.W.keepIn K (.ref c_Less) = true)
    (in_Less : PySem.W.findIn K (.ref c_Less) "__init__" = some (some (.ref fi_Pair)))
    (sh_Less : PySem.W.findIn K (.ref c_Less) "shape" = some (some (.ref fh_Less)))
    (sf_Less : PySem.W.isFn K (.ref fh_Less) = true)
    (sl_Less : K.lookup fh_Less = some ⟨oc_Less, od_Less, .func (PySem.W.fnOf "shape" "Less.shape" (defArgs h_Less) (defBody h_Less) (defScope h_Less) .none kV_Less dc_Less pm_Less an_Less cd_Less ct_Less), sl_Less_⟩)
    (sc_Less : PySem.W.codeIn K cd_Less "Less.shape" = true)
    (sk_Less : PySem.W.keepIn K (.ref fh_Less) = true)
    (n_Both : PySem.W.nsIn K mainGlobals "Both" = some (some (.ref c_Both)))
    (pg_Both : PySem.W.plainGet K c_Both Str.empty = true)
    (hd_Both : PySem.W.hasDictIn K c_Both = true)
    (po_Both : PySem.W.plainOver K c_Both = true)
    (sa_Both : PySem.W.findIn K (.ref c_Both) "__setattr__" = some (some (.builtin "object.__setattr__")))
    (ha_Both : PySem.W.findIn K (.ref c_Both) "__class__" = some (some (.builtin "object.__class__")))
    (hm_Both : PySem.W.mroIn K c_Both (.type "object") = some true)
    (ki_Both : PySem.W.kitOne K (.ref c_Both) (.ref c_Pattern) = some true)
    (at_Both_sign : PySem.W.findIn K (.ref c_Both) "sign" = some none)
    (at_Both_left : PySem.W.findIn K (.ref c_Both) "left" = some none)
    (at_Both_right : PySem.W.findIn K (.ref c_Both) "right" = some none)
    (at_Both_inner : PySem.W.findIn K (.ref c_Both) "inner" = some none)
    (mk_Both : PySem.W.makesIn K c_Both = true)
    (kc_Both : PySem.W.keepIn K (.ref c_Both) = true)
    (in_Both : PySem.W.findIn K (.ref c_Both) "__init__" = some (some (.ref fi_Pair)))
    (sh_Both : PySem.W.findIn K (.ref c_Both) "shape" = some (some (.ref fh_Both)))
    (sf_Both : PySem.W.isFn K (.ref fh_Both) = true)
    (sl_Both : K.lookup fh_Both = some ⟨oc_Both, od_Both, .func (PySem.W.fnOf "shape" "Both.shape" (defArgs h_Both) (defBody h_Both) (defScope h_Both) .none kV_Both dc_Both pm_Both an_Both cd_Both ct_Both), sl_Both_⟩)
    (sc_Both : PySem.W.codeIn K cd_Both "Both.shape" = true)
    (sk_Both : PySem.W.keepIn K (.ref fh_Both) = true)
    (n_Then : PySem.W.nsIn K mainGlobals "Then" = some (some (.ref c_Then)))
    (pg_Then : PySem.W.plainGet K c_Then Str.empty = true)
    (hd_Then : PySem.W.hasDictIn K c_Then = true)
    (po_Then : PySem.W.plainOver K c_Then = true)
    (sa_Then : PySem.W.findIn K (.ref c_Then) "__setattr__" = some (some (.builtin "object.__setattr__")))
    (ha_Then : PySem.W.findIn K (.ref c_Then) "__class__" = some (some (.builtin "object.__class__")))
    (hm_Then : PySem.W.mroIn K c_Then (.type "object") = some true)
    (ki_Then : PySem.W.kitOne K (.ref c_Then) (.ref c_Pattern) = some true)
    (at_Then_sign : PySem.W.findIn K (.ref c_Then) "sign" = some none)
    (at_Then_left : PySem.W.findIn K (.ref c_Then) "left" = some none)
    (at_Then_right : PySem.W.findIn K (.ref c_Then) "right" = some none)
    (at_Then_inner : PySem.W.findIn K (.ref c_Then) "inner" = some none)
    (mk_Then : PySem.W.makesIn K c_Then = true)
    (kc_Then : PySem.W.keepIn K (.ref c_Then) = true)
    (in_Then : PySem.W.findIn K (.ref c_Then) "__init__" = some (some (.ref fi_Pair)))
    (sh_Then : PySem.W.findIn K (.ref c_Then) "shape" = some (some (.ref fh_Then)))
    (sf_Then : PySem.W.isFn K (.ref fh_Then) = true)
    (sl_Then : K.lookup fh_Then = some ⟨oc_Then, od_Then, .func (PySem.W.fnOf "shape" "Then.shape" (defArgs h_Then) (defBody h_Then) (defScope h_Then) .none kV_Then dc_Then pm_Then an_Then cd_Then ct_Then), sl_Then_⟩)
    (sc_Then : PySem.W.codeIn K cd_Then "Then.shape" = true)
    (sk_Then : PySem.W.keepIn K (.ref fh_Then) = true)
    (if_Sign : PySem.W.isFn K (.ref fi_Sign) = true)
    (il_Sign : K.lookup fi_Sign = some ⟨ioc_Sign, iod_Sign, .func (PySem.W.fnOf "__init__" "Sign.__init__" (defArgs i_Sign) (defBody i_Sign) (defScope i_Sign) .none ikV_Sign idc_Sign ipm_Sign ian_Sign icd_Sign ict_Sign), isl_Sign⟩)
    (ic_Sign : PySem.W.codeIn K icd_Sign "Sign.__init__" = true)
    (ik_Sign : PySem.W.keepIn K (.ref fi_Sign) = true)
    (if_Around : PySem.W.isFn K (.ref fi_Around) = true)
    (il_Around : K.lookup fi_Around = some ⟨ioc_Around, iod_Around, .func (PySem.W.fnOf "__init__" "Around.__init__" (defArgs i_Around) (defBody i_Around) (defScope i_Around) .none ikV_Around idc_Around ipm_Around ian_Around icd_Around ict_Around), isl_Around⟩)
    (ic_Around : PySem.W.codeIn K icd_Around "Around.__init__" = true)
    (ik_Around : PySem.W.keepIn K (.ref fi_Around) = true)
    (if_Pair : PySem.W.isFn K (.ref fi_Pair) = true)
    (il_Pair : K.lookup fi_Pair = some ⟨ioc_Pair, iod_Pair, .func (PySem.W.fnOf "__init__" "Pair.__init__" (defArgs i_Pair) (defBody i_Pair) (defScope i_Pair) .none ikV_Pair idc_Pair ipm_Pair ian_Pair icd_Pair ict_Pair), isl_Pair⟩)
    (ic_Pair : PySem.W.codeIn K icd_Pair "Pair.__init__" = true)
    (ik_Pair : PySem.W.keepIn K (.ref fi_Pair) = true)
    {c_Desk : Addr} {d_SIGNS : Addr} {e_SIGNS : Array DictEntry} {n_SIGNS : Nat} {d_KINDS : Addr} {e_KINDS : Array DictEntry} {n_KINDS : Nat} {d_STRENGTHS : Addr} {e_STRENGTHS : Array DictEntry} {n_STRENGTHS : Nat} {fi_Desk : Addr} {iod_Desk ian_Desk : Option Addr} {isl_Desk : Array (Option Value)} {ioc_Desk ikV_Desk idc_Desk ipm_Desk icd_Desk ict_Desk : Value} {fi_text : Addr} {iod_text ian_text : Option Addr} {isl_text : Array (Option Value)} {ioc_text ikV_text idc_text ipm_text icd_text ict_text : Value}
    (rn_SIGNS : PySem.W.nsIn K mainGlobals "SIGNS" = some (some (.ref d_SIGNS)))
    (rl_SIGNS : K.lookup d_SIGNS = some { cls := .type "dict", data := .dict e_SIGNS n_SIGNS })
    (re_SIGNS : Ents w e_SIGNS.toList dSIGNS)
    (rs_SIGNS : (d_SIGNS == sysModules) = false)
    (rn_KINDS : PySem.W.nsIn K mainGlobals "KINDS" = some (some (.ref d_KINDS)))
    (rl_KINDS : K.lookup d_KINDS = some { cls := .type "dict", data := .dict e_KINDS n_KINDS })
    (re_KINDS : Ents w e_KINDS.toList dKINDS)
    (rs_KINDS : (d_KINDS == sysModules) = false)
    (rn_STRENGTHS : PySem.W.nsIn K mainGlobals "STRENGTHS" = some (some (.ref d_STRENGTHS)))
    (rl_STRENGTHS : K.lookup d_STRENGTHS = some { cls := .type "dict", data := .dict e_STRENGTHS n_STRENGTHS })
    (re_STRENGTHS : Ents w e_STRENGTHS.toList dSTR)
    (rs_STRENGTHS : (d_STRENGTHS == sysModules) = false)
    (rn_Desk : PySem.W.nsIn K mainGlobals "Desk" = some (some (.ref c_Desk)))
    (pg_Desk : PySem.W.plainGet K c_Desk Str.empty = true)
    (hd_Desk : PySem.W.hasDictIn K c_Desk = true)
    (po_Desk : PySem.W.plainOver K c_Desk = true)
    (sa_Desk : PySem.W.findIn K (.ref c_Desk) "__setattr__" = some (some (.builtin "object.__setattr__")))
    (at_Desk_patterns : PySem.W.findIn K (.ref c_Desk) "patterns" = some none)
    (at_Desk_waiting : PySem.W.findIn K (.ref c_Desk) "waiting" = some none)
    (mk_Desk : PySem.W.makesIn K c_Desk = true)
    (kc_Desk : PySem.W.keepIn K (.ref c_Desk) = true)
    (in_Desk : PySem.W.findIn K (.ref c_Desk) "__init__" = some (some (.ref fi_Desk)))
    (if_Desk : PySem.W.isFn K (.ref fi_Desk) = true)
    (il_Desk : K.lookup fi_Desk = some ⟨ioc_Desk, iod_Desk, .func (PySem.W.fnOf "__init__" "Desk.__init__" (defArgs i_Desk) (defBody i_Desk) (defScope i_Desk) .none ikV_Desk idc_Desk ipm_Desk ian_Desk icd_Desk ict_Desk), isl_Desk⟩)
    (ic_Desk : PySem.W.codeIn K icd_Desk "Desk.__init__" = true)
    (ik_Desk : PySem.W.keepIn K (.ref fi_Desk) = true)
    (tx_Never : PySem.W.findIn K (.ref c_Never) "text" = some (some (.ref fi_text)))
    (tx_Empty : PySem.W.findIn K (.ref c_Empty) "text" = some (some (.ref fi_text)))
    (tx_AnySign : PySem.W.findIn K (.ref c_AnySign) "text" = some (some (.ref fi_text)))
    (tx_Sign : PySem.W.findIn K (.ref c_Sign) "text" = some (some (.ref fi_text)))
    (tx_Outside : PySem.W.findIn K (.ref c_Outside) "text" = some (some (.ref fi_text)))
    (tx_Turned : PySem.W.findIn K (.ref c_Turned) "text" = some (some (.ref fi_text)))
    (tx_Again : PySem.W.findIn K (.ref c_Again) "text" = some (some (.ref fi_text)))
    (tx_Either : PySem.W.findIn K (.ref c_Either) "text" = some (some (.ref fi_text)))
    (tx_Less : PySem.W.findIn K (.ref c_Less) "text" = some (some (.ref fi_text)))
    (tx_Both : PySem.W.findIn K (.ref c_Both) "text" = some (some (.ref fi_text)))
    (tx_Then : PySem.W.findIn K (.ref c_Then) "text" = some (some (.ref fi_text)))
    (if_text : PySem.W.isFn K (.ref fi_text) = true)
    (il_text : K.lookup fi_text = some ⟨ioc_text, iod_text, .func (PySem.W.fnOf "text" "Pattern.text" (defArgs h_text) (defBody h_text) (defScope h_text) .none ikV_text idc_text ipm_text ian_text icd_text ict_text), isl_text⟩)
    (ic_text : PySem.W.codeIn K icd_text "Pattern.text" = true)
    (ik_text : PySem.W.keepIn K (.ref fi_text) = true)
    {fX : Addr} {odX anX : Option Addr} {slX : Array (Option Value)} {ocX kVX dcX pmX cdX ctX : Value}
    (hX0 : PySem.W.findIn K (.ref c_NoPattern) "__init__" = some (some (.ref fX)))
    (xo : OwnI K c_NoPattern fX)
    (xc : XCls K c_NoPattern)
    (xn : NoAttr K c_NoPattern "at")
    (xb : BaseI K c_RoomError)
    (xf : PySem.W.isFn K (.ref fX) = true)
    (lX : K.lookup fX = some ⟨ocX, odX, .func (PySem.W.fnOf "__init__" "NoPattern.__init__" (defArgs s_xinit) (defBody s_xinit) (defScope s_xinit) .none kVX dcX pmX anX cdX ctX), slX⟩)
    (cX : PySem.W.codeIn K cdX "NoPattern.__init__" = true)
    (kX : PySem.W.keepIn K (.ref fX) = true)
    : ∃ fd : FuncData, (∀ (s : Shared) (v : Value), BindsTo s fd ⟨[v], []⟩ [("_law_script", v)]) ∧ ∀ base : Heap, K.In base → base.Ns mainGlobals mg → FnOk l.prog w K mg base CX0 9 fa fd ["_law_script"] (spLaw K) := by
  have e := hfa.symm.trans (PySem.W.mg_of X G a25)
  cases e
  have T : Txt K mg c_RoomError c_NoLetters c_NoWord c_NoNumber c_NoRoom c_NoMachine c_OtherLetters c_TooMany c_NoPattern c_TooGreat c_NoKind := ⟨PySem.W.mg_of X G n_RoomError, PySem.W.mg_of X G n_NoLetters, PySem.W.mg_of X G n_NoWord, PySem.W.mg_of X G n_NoNumber, PySem.W.mg_of X G n_NoRoom, PySem.W.mg_of X G n_NoMachine, PySem.W.mg_of X G n_OtherLetters, PySem.W.mg_of X G n_TooMany, PySem.W.mg_of X G n_NoPattern, PySem.W.mg_of X G n_TooGreat, PySem.W.mg_of X G n_NoKind, o_NoLetters, e_NoLetters, m_NoLetters, i_NoLetters_NoLetters, i_NoLetters_NoWord, i_NoLetters_NoNumber, i_NoLetters_NoRoom, i_NoLetters_NoMachine, i_NoLetters_OtherLetters, i_NoLetters_TooMany, i_NoLetters_NoPattern, i_NoLetters_TooGreat, i_NoLetters_NoKind, v_NoLetters, e_NoPattern, m_NoPattern, i_NoPattern_NoLetters, i_NoPattern_NoWord, i_NoPattern_NoNumber, i_NoPattern_NoRoom, i_NoPattern_NoMachine, i_NoPattern_OtherLetters, i_NoPattern_TooMany, i_NoPattern_NoPattern, i_NoPattern_TooGreat, i_NoPattern_NoKind, v_NoPattern, PySem.W.mg_none_of X G z_len, PySem.W.mg_none_of X G z_range, PySem.W.mg_none_of X G z_isinst, PySem.W.mg_none_of X G z_int, PySem.W.mg_none_of X G z_bool, PySem.W.mg_none_of X G z_tuple, PySem.W.mg_none_of X G z_list, PySem.W.mg_none_of X G z_str, PySem.W.mg_none_of X G z_enum, PySem.W.mg_none_of X G z_verr⟩
  have F0 := fun_mk (st := s_is_letters) l0 c0 k0
  have F1 := fun_mk (st := s_need_letters) l1 c1 k1
  have F2 := fun_mk (st := s_is_wanting) l2 c2 k2
  have F3 := fun_mk (st := s_can_stand) l3 c3 k3
  have F4 := fun_mk (st := s_need_pattern) l4 c4 k4
  have F5 := fun_mk (st := s_piece_of) l5 c5 k5
  have F6 := fun_mk (st := s_pair_of) l6 c6 k6
  have F7 := fun_mk (st := s_settle) l7 c7 k7
  have F8 := fun_mk (st := s_put) l8 c8 k8
  have F9 := fun_mk (st := s_tokens_of) l9 c9 k9
  have F10 := fun_mk (st := s_pattern_of) l10 c10 k10
  have F11 := fun_mk (st := s_read) l11 c11 k11
  have F12 := fun_mk (st := s__law_cell_at) l12 c12 k12
  have F13 := fun_mk (st := s__law_letters) l13 c13 k13
  have F14 := fun_mk (st := s__law_whole) l14 c14 k14
  have F15 := fun_mk (st := s__law_kinds) l15 c15 k15
  have F16 := fun_mk (st := s__law_sign) l16 c16 k16
  have F17 := fun_mk (st := s__law_text) l17 c17 k17
  have F18 := fun_mk (st := s__law_foreign) l18 c18 k18
  have F19 := fun_mk (st := s__law_others) l19 c19 k19
  have F20 := fun_mk (st := s__law_no_letters) l20 c20 k20
  have F21 := fun_mk (st := s__law_other_sign) l21 c21 k21
  have F22 := fun_mk (st := s__law_spoilt) l22 c22 k22
  have F23 := fun_mk (st := s__law_fails) l23 c23 k23
  have F24 := fun_mk (st := s__law_read) l24 c24 k24
  have F25 := fun_mk (st := s_law) l25 c25 k25
  have NP : NpK K mg c_NoPattern c_RoomError fX _ := ⟨PySem.W.mg_of X G n_NoPattern, PySem.W.mg_of X G n_RoomError, xo, xc, xn, xb, xf, fun_mk (st := s_xinit) lX cX kX⟩
  refine ⟨PySem.W.fnOf "law" "law" (defArgs s_law) (defBody s_law) (defScope s_law) .none kV25 dc25 pm25 an25 cd25 ct25, fun s v => .of_eq rfl, fun base _ _ => ?_⟩
  have G_Never := fun_mk (st := h_Never) sl_Never sc_Never sk_Never
  have G_Empty := fun_mk (st := h_Empty) sl_Empty sc_Empty sk_Empty
  have G_AnySign := fun_mk (st := h_AnySign) sl_AnySign sc_AnySign sk_AnySign
  have G_Sign := fun_mk (st := h_Sign) sl_Sign sc_Sign sk_Sign
  have G_Outside := fun_mk (st := h_Outside) sl_Outside sc_Outside sk_Outside
  have G_Turned := fun_mk (st := h_Turned) sl_Turned sc_Turned sk_Turned
  have G_Again := fun_mk (st := h_Again) sl_Again sc_Again sk_Again
  have G_Either := fun_mk (st := h_Either) sl_Either sc_Either sk_Either
  have G_Less := fun_mk (st := h_Less) sl_Less sc_Less sk_Less
  have G_Both := fun_mk (st := h_Both) sl_Both sc_Both sk_Both
  have G_Then := fun_mk (st := h_Then) sl_Then sc_Then sk_Then
  have I_Sign := fun_mk (st := i_Sign) il_Sign ic_Sign ik_Sign
  have I_Around := fun_mk (st := i_Around) il_Around ic_Around ik_Around
  have I_Pair := fun_mk (st := i_Pair) il_Pair ic_Pair ik_Pair
  have PC : ∀ k, PCls K ((cOf c_Never c_Empty c_AnySign c_Sign c_Outside c_Turned c_Again c_Either c_Less c_Both c_Then) k) c_Pattern := fun k => match k with
    | .leaf .never => ⟨⟨pg_Never, hd_Never, po_Never, sa_Never⟩, ha_Never, hn, htk, hm_Never, ki_Never, at_Never_sign, at_Never_left, at_Never_right, at_Never_inner⟩
    | .leaf .empty => ⟨⟨pg_Empty, hd_Empty, po_Empty, sa_Empty⟩, ha_Empty, hn, htk, hm_Empty, ki_Empty, at_Empty_sign, at_Empty_left, at_Empty_right, at_Empty_inner⟩
    | .leaf .any => ⟨⟨pg_AnySign, hd_AnySign, po_AnySign, sa_AnySign⟩, ha_AnySign, hn, htk, hm_AnySign, ki_AnySign, at_AnySign_sign, at_AnySign_left, at_AnySign_right, at_AnySign_inner⟩
    | .sign => ⟨⟨pg_Sign, hd_Sign, po_Sign, sa_Sign⟩, ha_Sign, hn, htk, hm_Sign, ki_Sign, at_Sign_sign, at_Sign_left, at_Sign_right, at_Sign_inner⟩
    | .one .outside => ⟨⟨pg_Outside, hd_Outside, po_Outside, sa_Outside⟩, ha_Outside, hn, htk, hm_Outside, ki_Outside, at_Outside_sign, at_Outside_left, at_Outside_right, at_Outside_inner⟩
    | .one .turned => ⟨⟨pg_Turned, hd_Turned, po_Turned, sa_Turned⟩, ha_Turned, hn, htk, hm_Turned, ki_Turned, at_Turned_sign, at_Turned_left, at_Turned_right, at_Turned_inner⟩
    | .one .again => ⟨⟨pg_Again, hd_Again, po_Again, sa_Again⟩, ha_Again, hn, htk, hm_Again, ki_Again, at_Again_sign, at_Again_left, at_Again_right, at_Again_inner⟩
    | .two .either => ⟨⟨pg_Either, hd_Either, po_Either, sa_Either⟩, ha_Either, hn, htk, hm_Either, ki_Either, at_Either_sign, at_Either_left, at_Either_right, at_Either_inner⟩
    | .two .less => ⟨⟨pg_Less, hd_Less, po_Less, sa_Less⟩, ha_Less, hn, htk, hm_Less, ki_Less, at_Less_sign, at_Less_left, at_Less_right, at_Less_inner⟩
    | .two .both => ⟨⟨pg_Both, hd_Both, po_Both, sa_Both⟩, ha_Both, hn, htk, hm_Both, ki_Both, at_Both_sign, at_Both_left, at_Both_right, at_Both_inner⟩
    | .two .then_ => ⟨⟨pg_Then, hd_Then, po_Then, sa_Then⟩, ha_Then, hn, htk, hm_Then, ki_Then, at_Then_sign, at_Then_left, at_Then_right, at_Then_inner⟩
  let fs : Kd → Addr := cOf fh_Never fh_Empty fh_AnySign fh_Sign fh_Outside fh_Turned fh_Again fh_Either fh_Less fh_Both fh_Then
  let fds : Kd → FuncData := fun k => match k with
    | .leaf .never => PySem.W.fnOf "shape" "Never.shape" (defArgs h_Never) (defBody h_Never) (defScope h_Never) .none kV_Never dc_Never pm_Never an_Never cd_Never ct_Never
    | .leaf .empty => PySem.W.fnOf "shape" "Empty.shape" (defArgs h_Empty) (defBody h_Empty) (defScope h_Empty) .none kV_Empty dc_Empty pm_Empty an_Empty cd_Empty ct_Empty
    | .leaf .any => PySem.W.fnOf "shape" "AnySign.shape" (defArgs h_AnySign) (defBody h_AnySign) (defScope h_AnySign) .none kV_AnySign dc_AnySign pm_AnySign an_AnySign cd_AnySign ct_AnySign
    | .sign => PySem.W.fnOf "shape" "Sign.shape" (defArgs h_Sign) (defBody h_Sign) (defScope h_Sign) .none kV_Sign dc_Sign pm_Sign an_Sign cd_Sign ct_Sign
    | .one .outside => PySem.W.fnOf "shape" "Outside.shape" (defArgs h_Outside) (defBody h_Outside) (defScope h_Outside) .none kV_Outside dc_Outside pm_Outside an_Outside cd_Outside ct_Outside
    | .one .turned => PySem.W.fnOf "shape" "Turned.shape" (defArgs h_Turned) (defBody h_Turned) (defScope h_Turned) .none kV_Turned dc_Turned pm_Turned an_Turned cd_Turned ct_Turned
    | .one .again => PySem.W.fnOf "shape" "Again.shape" (defArgs h_Again) (defBody h_Again) (defScope h_Again) .none kV_Again dc_Again pm_Again an_Again cd_Again ct_Again
    | .two .either => PySem.W.fnOf "shape" "Either.shape" (defArgs h_Either) (defBody h_Either) (defScope h_Either) .none kV_Either dc_Either pm_Either an_Either cd_Either ct_Either
    | .two .less => PySem.W.fnOf "shape" "Less.shape" (defArgs h_Less) (defBody h_Less) (defScope h_Less) .none kV_Less dc_Less pm_Less an_Less cd_Less ct_Less
    | .two .both => PySem.W.fnOf "shape" "Both.shape" (defArgs h_Both) (defBody h_Both) (defScope h_Both) .none kV_Both dc_Both pm_Both an_Both cd_Both ct_Both
    | .two .then_ => PySem.W.fnOf "shape" "Then.shape" (defArgs h_Then) (defBody h_Then) (defScope h_Then) .none kV_Then dc_Then pm_Then an_Then cd_Then ct_Then
  have mS : ∀ k, Meth K ((cOf c_Never c_Empty c_AnySign c_Sign c_Outside c_Turned c_Again c_Either c_Less c_Both c_Then) k) "shape" (fs k) := fun k => match k with
    | .leaf .never => ⟨sh_Never, sf_Never, sk_Never⟩
    | .leaf .empty => ⟨sh_Empty, sf_Empty, sk_Empty⟩
    | .leaf .any => ⟨sh_AnySign, sf_AnySign, sk_AnySign⟩
    | .sign => ⟨sh_Sign, sf_Sign, sk_Sign⟩
    | .one .outside => ⟨sh_Outside, sf_Outside, sk_Outside⟩
    | .one .turned => ⟨sh_Turned, sf_Turned, sk_Turned⟩
    | .one .again => ⟨sh_Again, sf_Again, sk_Again⟩
    | .two .either => ⟨sh_Either, sf_Either, sk_Either⟩
    | .two .less => ⟨sh_Less, sf_Less, sk_Less⟩
    | .two .both => ⟨sh_Both, sf_Both, sk_Both⟩
    | .two .then_ => ⟨sh_Then, sf_Then, sk_Then⟩
  have bS : ∀ k, Binds K (fds k) ["self"] [] := fun k => match k with
    | .leaf .never => G_Never.binds (ps := ["self"]) (fun _ _ _ _ _ _ us hl => match us, hl with | [_], _ => rfl)
    | .leaf .empty => G_Empty.binds (ps := ["self"]) (fun _ _ _ _ _ _ us hl => match us, hl with | [_], _ => rfl)
    | .leaf .any => G_AnySign.binds (ps := ["self"]) (fun _ _ _ _ _ _ us hl => match us, hl with | [_], _ => rfl)
    | .sign => G_Sign.binds (ps := ["self"]) (fun _ _ _ _ _ _ us hl => match us, hl with | [_], _ => rfl)
    | .one .outside => G_Outside.binds (ps := ["self"]) (fun _ _ _ _ _ _ us hl => match us, hl with | [_], _ => rfl)
    | .one .turned => G_Turned.binds (ps := ["self"]) (fun _ _ _ _ _ _ us hl => match us, hl with | [_], _ => rfl)
    | .one .again => G_Again.binds (ps := ["self"]) (fun _ _ _ _ _ _ us hl => match us, hl with | [_], _ => rfl)
    | .two .either => G_Either.binds (ps := ["self"]) (fun _ _ _ _ _ _ us hl => match us, hl with | [_], _ => rfl)
    | .two .less => G_Less.binds (ps := ["self"]) (fun _ _ _ _ _ _ us hl => match us, hl with | [_], _ => rfl)
    | .two .both => G_Both.binds (ps := ["self"]) (fun _ _ _ _ _ _ us hl => match us, hl with | [_], _ => rfl)
    | .two .then_ => G_Then.binds (ps := ["self"]) (fun _ _ _ _ _ _ us hl => match us, hl with | [_], _ => rfl)
  have SH : ∀ n k, FnOk l.prog w K mg base CX0 n (fs k) (fds k) ["self"] (spShape (cOf c_Never c_Empty c_AnySign c_Sign c_Outside c_Turned c_Again c_Either c_Less c_Both c_Then) n k) := okh_all PC mS bS G_Never G_Empty G_AnySign G_Sign G_Outside G_Turned G_Again G_Either G_Less G_Both G_Then
  have PK : PatKit l.prog w K mg base (cOf c_Never c_Empty c_AnySign c_Sign c_Outside c_Turned c_Again c_Either c_Less c_Both c_Then) c_Pattern := by
    refine ⟨PySem.W.mg_of X G n_Pattern, fun k => ?_, PC, fun k => ?_, ?_, ?_, ?_, ⟨fs, fds, mS, bS, SH⟩⟩
    · match k with
      | .leaf .never => exact PySem.W.mg_of X G n_Never
      | .leaf .empty => exact PySem.W.mg_of X G n_Empty
      | .leaf .any => exact PySem.W.mg_of X G n_AnySign
      | .sign => exact PySem.W.mg_of X G n_Sign
      | .one .outside => exact PySem.W.mg_of X G n_Outside
      | .one .turned => exact PySem.W.mg_of X G n_Turned
      | .one .again => exact PySem.W.mg_of X G n_Again
      | .two .either => exact PySem.W.mg_of X G n_Either
      | .two .less => exact PySem.W.mg_of X G n_Less
      | .two .both => exact PySem.W.mg_of X G n_Both
      | .two .then_ => exact PySem.W.mg_of X G n_Then
    · match k with
      | .never => exact ⟨mk_Never, in_Never, kc_Never, hm_Never⟩
      | .empty => exact ⟨mk_Empty, in_Empty, kc_Empty, hm_Empty⟩
      | .any => exact ⟨mk_AnySign, in_AnySign, kc_AnySign, hm_AnySign⟩
    · exact ⟨_, _, ⟨mk_Sign, in_Sign, if_Sign, kc_Sign⟩, oki_Sign I_Sign, I_Sign.binds (ps := ["self", "sign"]) (fun _ _ _ _ _ _ us hl => match us, hl with | [_, _], _ => rfl)⟩
    · refine ⟨_, _, fun k => ?_, oki_Around I_Around, I_Around.binds (ps := ["self", "inner"]) (fun _ _ _ _ _ _ us hl => match us, hl with | [_, _], _ => rfl)⟩
      match k with
      | .outside => exact ⟨mk_Outside, in_Outside, if_Around, kc_Outside⟩
      | .turned => exact ⟨mk_Turned, in_Turned, if_Around, kc_Turned⟩
      | .again => exact ⟨mk_Again, in_Again, if_Around, kc_Again⟩
    · refine ⟨_, _, fun k => ?_, oki_Pair I_Pair, I_Pair.binds (ps := ["self", "left", "right"]) (fun _ _ _ _ _ _ us hl => match us, hl with | [_, _, _], _ => rfl)⟩
      match k with
      | .either => exact ⟨mk_Either, in_Either, if_Pair, kc_Either⟩
      | .less => exact ⟨mk_Less, in_Less, if_Pair, kc_Less⟩
      | .both => exact ⟨mk_Both, in_Both, if_Pair, kc_Both⟩
      | .then_ => exact ⟨mk_Then, in_Then, if_Pair, kc_Then⟩
  have I_Desk := fun_mk (st := i_Desk) il_Desk ic_Desk ik_Desk
  have RK : RdKit l.prog w K mg base (cOf c_Never c_Empty c_AnySign c_Sign c_Outside c_Turned c_Again c_Either c_Less c_Both c_Then) c_Desk d_SIGNS d_KINDS d_STRENGTHS := ⟨PySem.W.mg_of X G rn_SIGNS, PySem.W.mg_of X G rn_KINDS, PySem.W.mg_of X G rn_STRENGTHS, dictK_of rl_SIGNS re_SIGNS nd_SIGNS rs_SIGNS, dictK_of rl_KINDS re_KINDS nd_KINDS rs_KINDS, dictK_of rl_STRENGTHS re_STRENGTHS nd_STR rs_STRENGTHS, PySem.W.mg_of X G rn_Desk, ⟨pg_Desk, hd_Desk, po_Desk, sa_Desk⟩, at_Desk_patterns, at_Desk_waiting, ⟨_, _, ⟨mk_Desk, in_Desk, if_Desk, kc_Desk⟩, oki_Desk I_Desk, I_Desk.binds (ps := ["self"]) (fun _ _ _ _ _ _ us hl => match us, hl with | [_], _ => rfl)⟩⟩
  revert PK RK
  generalize (cOf c_Never c_Empty c_AnySign c_Sign c_Outside c_Turned c_Again c_Either c_Less c_Both c_Then) = c
  generalize c_Desk = cD
  intro PK RK
  have d_is_letters : Df l.prog w K mg base "is_letters" 1 ["text"] sp_isletters2 := ⟨f0, _, PySem.W.mg_of X G a0, k0, F0.binds (ps := ["text"]) (fun _ _ _ _ _ _ us hl => by obtain ⟨_, rfl⟩ := len1 hl; rfl), ok_is_letters F0 T ⟩
  have d_need_letters : DfX l.prog w K mg base "need_letters" 2 ["letters"] (sp_needlettersX c_NoLetters) := ⟨f1, _, PySem.W.mg_of X G a1, k1, F1.binds (ps := ["letters"]) (fun _ _ _ _ _ _ us hl => by obtain ⟨_, rfl⟩ := len1 hl; rfl), ok_need_letters F1 T d_is_letters⟩
  have d_is_wanting : Df l.prog w K mg base "is_wanting" 1 ["sign"] sp_iswanting := ⟨f2, _, PySem.W.mg_of X G a2, k2, F2.binds (ps := ["sign"]) (fun _ _ _ _ _ _ us hl => by obtain ⟨_, rfl⟩ := len1 hl; rfl), ok_is_wanting F2 T ⟩
  have d_can_stand : Df l.prog w K mg base "can_stand" 1 ["letters", "sign", "wanting", "depth"] sp_canstand := ⟨f3, _, PySem.W.mg_of X G a3, k3, F3.binds (ps := ["letters", "sign", "wanting", "depth"]) (fun _ _ _ _ _ _ us hl => by obtain ⟨_, _, _, _, rfl⟩ := len4 hl; rfl), ok_can_stand F3 T ⟩
  have d_need_pattern : DfX l.prog w K mg base "need_pattern" 3 ["letters", "text"] (sp_needpatternX c_NoPattern) := ⟨f4, _, PySem.W.mg_of X G a4, k4, F4.binds (ps := ["letters", "text"]) (fun _ _ _ _ _ _ us hl => by obtain ⟨_, _, rfl⟩ := len2 hl; rfl), ok_need_pattern F4 T NP d_can_stand d_is_wanting⟩
  have d_piece_of : Df l.prog w K mg base "piece_of" 3 ["token"] (sp_piece c) := ⟨f5, _, PySem.W.mg_of X G a5, k5, F5.binds (ps := ["token"]) (fun _ _ _ _ _ _ us hl => by obtain ⟨_, rfl⟩ := len1 hl; rfl), ok_piece_of F5 T PK ⟩
  have d_pair_of : Df l.prog w K mg base "pair_of" 3 ["kind", "left", "right"] (sp_pairof c) := ⟨f6, _, PySem.W.mg_of X G a6, k6, F6.binds (ps := ["kind", "left", "right"]) (fun _ _ _ _ _ _ us hl => by obtain ⟨_, _, _, rfl⟩ := len3 hl; rfl), ok_pair_of F6 T PK ⟩
  have d_settle : Df l.prog w K mg base "settle" 4 ["desk", "strength"] (sp_settle c cD) := ⟨f7, _, PySem.W.mg_of X G a7, k7, F7.binds (ps := ["desk", "strength"]) (fun _ _ _ _ _ _ us hl => by obtain ⟨_, _, rfl⟩ := len2 hl; rfl), ok_settle F7 T PK RK d_pair_of⟩
  have d_put : Df l.prog w K mg base "put" 5 ["desk", "token"] (sp_put c cD) := ⟨f8, _, PySem.W.mg_of X G a8, k8, F8.binds (ps := ["desk", "token"]) (fun _ _ _ _ _ _ us hl => by obtain ⟨_, _, rfl⟩ := len2 hl; rfl), ok_put F8 T PK RK d_settle d_piece_of⟩
  have d_tokens_of : Df l.prog w K mg base "tokens_of" 2 ["text"] sp_tokens := ⟨f9, _, PySem.W.mg_of X G a9, k9, F9.binds (ps := ["text"]) (fun _ _ _ _ _ _ us hl => by obtain ⟨_, rfl⟩ := len1 hl; rfl), ok_tokens_of F9 T RK d_is_wanting⟩
  have d_pattern_of : Df l.prog w K mg base "pattern_of" 6 ["text"] (sp_patternof c) := ⟨f10, _, PySem.W.mg_of X G a10, k10, F10.binds (ps := ["text"]) (fun _ _ _ _ _ _ us hl => by obtain ⟨_, rfl⟩ := len1 hl; rfl), ok_pattern_of F10 T PK RK d_tokens_of d_put⟩
  have d_read : DfX l.prog w K mg base "read" 7 ["letters", "text"] (sp_readX c c_NoLetters c_NoPattern) := ⟨f11, _, PySem.W.mg_of X G a11, k11, F11.binds (ps := ["letters", "text"]) (fun _ _ _ _ _ _ us hl => by obtain ⟨_, _, rfl⟩ := len2 hl; rfl), ok_read F11 T PK RK d_need_letters d_need_pattern d_pattern_of⟩
  have d__law_cell_at : Df l.prog w K mg base "_law_cell_at" 1 ["_law_script", "_law_k"] (sp_cell K) := ⟨f12, _, PySem.W.mg_of X G a12, k12, F12.binds (ps := ["_law_script", "_law_k"]) (fun _ _ _ _ _ _ us hl => by obtain ⟨_, _, rfl⟩ := len2 hl; rfl), ok__law_cell_at F12 T ⟩
  have d__law_letters : Df l.prog w K mg base "_law_letters" 1 ["_law_cell"] sp_letters := ⟨f13, _, PySem.W.mg_of X G a13, k13, F13.binds (ps := ["_law_cell"]) (fun _ _ _ _ _ _ us hl => by obtain ⟨_, rfl⟩ := len1 hl; rfl), ok__law_letters F13 T ⟩
  have d__law_whole : Df l.prog w K mg base "_law_whole" 1 ["_law_found"] sp__law_whole := ⟨f14, _, PySem.W.mg_of X G a14, k14, F14.binds (ps := ["_law_found"]) (fun _ _ _ _ _ _ us hl => by obtain ⟨_, rfl⟩ := len1 hl; rfl), ok__law_whole F14 T ⟩
  have d__law_kinds : Df l.prog w K mg base "_law_kinds" 1 ["_law_e"] (sp_kinds35 c_NoLetters c_NoPattern) := ⟨f15, _, PySem.W.mg_of X G a15, k15, F15.binds (ps := ["_law_e"]) (fun _ _ _ _ _ _ us hl => by obtain ⟨_, rfl⟩ := len1 hl; rfl), ok__law_kinds F15 T ⟩
  have d__law_sign : Df l.prog w K mg base "_law_sign" 1 ["_law_letters_here", "_law_cell", "_law_wanted"] sp_sign35 := ⟨f16, _, PySem.W.mg_of X G a16, k16, F16.binds (ps := ["_law_letters_here", "_law_cell", "_law_wanted"]) (fun _ _ _ _ _ _ us hl => by obtain ⟨_, _, _, rfl⟩ := len3 hl; rfl), ok__law_sign F16 T ⟩
  have d__law_text : Df l.prog w K mg base "_law_text" 2 ["_law_letters_here", "_law_cells"] (sp_text35 K) := ⟨f17, _, PySem.W.mg_of X G a17, k17, F17.binds (ps := ["_law_letters_here", "_law_cells"]) (fun _ _ _ _ _ _ us hl => by obtain ⟨_, _, rfl⟩ := len2 hl; rfl), ok__law_text F17 T d__law_sign⟩
  have d__law_foreign : Df l.prog w K mg base "_law_foreign" 1 ["_law_cell"] sp_foreign := ⟨f18, _, PySem.W.mg_of X G a18, k18, F18.binds (ps := ["_law_cell"]) (fun _ _ _ _ _ _ us hl => by obtain ⟨_, rfl⟩ := len1 hl; rfl), ok__law_foreign F18 T ⟩
  have d__law_others : Df l.prog w K mg base "_law_others" 1 ["_law_letters_here"] sp_others := ⟨f19, _, PySem.W.mg_of X G a19, k19, F19.binds (ps := ["_law_letters_here"]) (fun _ _ _ _ _ _ us hl => by obtain ⟨_, rfl⟩ := len1 hl; rfl), ok__law_others F19 T ⟩
  have d__law_no_letters : Df l.prog w K mg base "_law_no_letters" 2 ["_law_letters_here", "_law_cell", "_law_place"] sp_noletters := ⟨f20, _, PySem.W.mg_of X G a20, k20, F20.binds (ps := ["_law_letters_here", "_law_cell", "_law_place"]) (fun _ _ _ _ _ _ us hl => by obtain ⟨_, _, _, rfl⟩ := len3 hl; rfl), ok__law_no_letters F20 T d__law_others d__law_foreign⟩
  have d__law_other_sign : Df l.prog w K mg base "_law_other_sign" 2 ["_law_cell"] sp_othersign := ⟨f21, _, PySem.W.mg_of X G a21, k21, F21.binds (ps := ["_law_cell"]) (fun _ _ _ _ _ _ us hl => by obtain ⟨_, rfl⟩ := len1 hl; rfl), ok__law_other_sign F21 T d__law_foreign⟩
  have d__law_spoilt : Df l.prog w K mg base "_law_spoilt" 3 ["_law_script", "_law_text_here"] (sp_spoilt35 K) := ⟨f22, _, PySem.W.mg_of X G a22, k22, F22.binds (ps := ["_law_script", "_law_text_here"]) (fun _ _ _ _ _ _ us hl => by obtain ⟨_, _, rfl⟩ := len2 hl; rfl), ok__law_spoilt F22 T d__law_cell_at d__law_other_sign⟩
  have d__law_fails : Df l.prog w K mg base "_law_fails" 1 ["_law_letters_here", "_law_text_here"] sp_fails := ⟨f23, _, PySem.W.mg_of X G a23, k23, F23.binds (ps := ["_law_letters_here", "_law_text_here"]) (fun _ _ _ _ _ _ us hl => by obtain ⟨_, _, rfl⟩ := len2 hl; rfl), ok__law_fails F23 T ⟩
  have d__law_read : Df l.prog w K mg base "_law_read" 8 ["_law_letters_here", "_law_text_here"] (sp_read35 c c_NoLetters c_NoPattern) := ⟨f24, _, PySem.W.mg_of X G a24, k24, F24.binds (ps := ["_law_letters_here", "_law_text_here"]) (fun _ _ _ _ _ _ us hl => by obtain ⟨_, _, rfl⟩ := len2 hl; rfl), ok__law_read F24 T d_read⟩
  exact ok_law F25 T NP PK d__law_cell_at d__law_letters d__law_spoilt d__law_text d__law_fails d__law_no_letters d__law_read d__law_kinds d__law_whole
end K35
namespace PySem.W.Fast
def tw6784131934122181664 := ()
def tw3236844956621557824 := ()
def tw9638484805731297376 := ()
def tw11089826182066428032 := ()
def tw593752621477950592 := ()
def tw1641891674471828640 := ()
def tw9283489917466939584 := ()
def tw5345300499015288000 := ()
def tw13758590074834833632 := ()
def tw14664666283927301344 := ()
def tw14201651113050417408 := ()
def tw10656758703113068800 := ()
def tw2425606384732410144 := ()
def tw10151173734072435072 := ()
def tw6577575187698665856 := ()
def tw5885722739810035104 := ()
def tw13696334004019203552 := ()
def tw15770090426673309152 := ()
def tw16928259924756517344 := ()
def tw1084655451947071968 := ()
def tw10601155992807701984 := ()
def tw4340410530652690976 := ()
def tw2179845828529628704 := ()
def tw15448233246934281760 := ()
def tw3477552211957147232 := ()
def tw10945490045300890272 := ()
def tw9471180611927999168 := ()
def tw9618827086404974272 := ()
def tw7145361467250288384 := ()
def tw8172862254094957376 := ()
def tw7830762223925380992 := ()
def tw4842146613249595264 := ()
def tw18165183245214270368 := ()
def tw9995035927652357088 := ()
def tw15832318657107256513 := ()
def tw5258049362105551105 := ()
def tw14215986099776644353 := ()
def tw3791969944617451809 := ()
def tw3605178117834651969 := ()
def tw11373903673190755681 := ()
def tw4452944753301075393 := ()
def tw7324427169293455841 := ()
def tw6765999662836094465 := ()
def tw3190907724365998593 := ()
def tw9249645745420124705 := ()
def tw15662336276126125633 := ()
def tw16843720162485422721 := ()
def tw1688863962244351681 := ()
def tw4013254425173314241 := ()
def tw5882778188887549665 := ()
def tw9656803326142723841 := ()
def tw6210826474716872449 := ()
def tw8801509836810170177 := ()
def tw10206156173818435457 := ()
def tw9952811114030731169 := ()
def tw16769158755317781409 := ()
def tw9674547633244093345 := ()
def tw1755834504423130049 := ()
def tw1726695004822830017 := ()
def tw17939782032736375810 := ()
def tw10861690015704970242 := ()
def tw4359457110162080802 := ()
def tw1812040927180305474 := ()
def tw12015811799058783298 := ()
def tw357979222650698882 := ()
def tw14216621479337008290 := ()
def tw786658329612111042 := ()
def tw5535133978716039362 := ()
def tw9992760349076316450 := ()
def tw16130295732046930242 := ()
def tw3546577977109425570 := ()
def tw2334698597777690018 := ()
def tw409813618295195138 := ()
def tw1469693769861386754 := ()
def tw14258423564305871426 := ()
def tw12452943853792987714 := ()
def tw10292742618335205986 := ()
def tw5534075492364628610 := ()
def tw4696557436858899266 := ()
def tw11274790877756158786 := ()
def tw14975650826285317954 := ()
def tw15460046553395748706 := ()
def tw2403230681612040066 := ()
def tw1950144267381172130 := ()
def tw6405757367371510722 := ()
def tw16289797900126555139 := ()
def tw5277788522062106627 := ()
def tw10269626594570690659 := ()
def tw12307996812491927651 := ()
def tw9487080360157625475 := ()
def tw16143935798181306531 := ()
def tw15481844545805504707 := ()
def tw17790565992216471875 := ()
def tw8643958631905650019 := ()
def tw8177141940139623811 := ()
def tw3204105112057094531 := ()
def tw5947566186234980835 := ()
def tw15152623440537044483 := ()
def tw282924923001879171 := ()
def tw1307085935789150883 := ()
def tw14669095134757611203 := ()
def tw354437015577915139 := ()
def tw5940714742326009635 := ()
def tw15499424440120677187 := ()
def tw10972249390251975491 := ()
def tw15871519474029242179 := ()
def tw15425723106037360451 := ()
def tw12865441886403727203 := ()
def tw3970314526777621347 := ()
def tw16356659628242268003 := ()
def tw4959447284980285283 := ()
def tw2869524205246363523 := ()
def tw6672791764992168931 := ()
def tw8622026423329843204 := ()
def tw9402305204071840004 := ()
def tw14997621521608626436 := ()
def tw9754270743868406020 := ()
def tw7472068095529847076 := ()
def tw9771773173167690020 := ()
def tw3064074651631138116 := ()
def tw2332554031347415364 := ()
def tw15558061929225604484 := ()
def tw6093087540559139204 := ()
def tw3582507812680654212 := ()
def tw9383387874546161092 := ()
def tw6088143320084790756 := ()
def tw9099844529177311748 := ()
def tw3712046586529730052 := ()
def tw7401941339244170788 := ()
def tw3917424721660795460 := ()
def tw8987771457380162212 := ()
def tw2741691809930356388 := ()
def tw17335190677535873828 := ()
def tw15989894983224892228 := ()
def tw11862443351872140196 := ()
def tw4250876230143326148 := ()
def tw17761646349878717380 := ()
def tw8113889430339755045 := ()
def tw3727108732024192037 := ()
def tw1623951125929909317 := ()
def tw18422360097777431653 := ()
def tw7206736559118417061 := ()
def tw17334211038304598213 := ()
def tw13757588408196266181 := ()
def tw2558329349437835493 := ()
def tw339239700386340069 := ()
def tw4554700895404350757 := ()
def tw11260125952200296773 := ()
def tw1965225845818843461 := ()
def tw15986916976251494757 := ()
def tw9252884010508669317 := ()
def tw5183549714404562309 := ()
def tw14048172526578682277 := ()
def tw3428287218982395365 := ()
def tw17755851912975675877 := ()
def tw12198987555331856965 := ()
def tw13951390845089288805 := ()
def tw18126905275167723109 := ()
def tw16915303628289349285 := ()
def tw14944137098322701989 := ()
def tw4140375280608413477 := ()
def tw5047983264518903621 := ()
def tw5169331230779872133 := ()
def tw1889981947513062373 := ()
def tw15452859294737971270 := ()
def tw9440561048436028518 := ()
def tw16662712546141357158 := ()
def tw3130792449390570662 := ()
def tw1000105559607706822 := ()
def tw7523556888105007366 := ()
def tw8411108265706160422 := ()
def tw11244327551839875366 := ()
def tw9094308380398946630 := ()
def tw8330629003753563494 := ()
def tw113104077388147046 := ()
def tw8713789022277700998 := ()
def tw15271882044380393894 := ()
def tw13995653396693422566 := ()
def tw2171725252260893254 := ()
def tw15051821044243303014 := ()
def tw12813371257056265862 := ()
def tw1105951765683336838 := ()
def tw14422854383079697126 := ()
def tw8487040366367827686 := ()
def tw15472310832971836166 := ()
def tw15230346856663660326 := ()
def tw12881539620834071462 := ()
def tw13221260724537755622 := ()
def tw378181433176018918 := ()
def tw3454099049515481062 := ()
def tw15091729230593721351 := ()
def tw3395368058722164807 := ()
def tw13455227577391832199 := ()
def tw15367972980904797383 := ()
def tw17572236802963912903 := ()
def tw5885106533067897063 := ()
def tw5201741217377743079 := ()
def tw2820923011077858567 := ()
def tw2561094665204629799 := ()
def tw4556310552182064423 := ()
def tw12931228843773808007 := ()
def tw12089449654253804935 := ()
def tw10145143594180519335 := ()
def tw14633271917864603047 := ()
def tw14158342508994122247 := ()
def tw7098877437387674183 := ()
def tw12795639090844233287 := ()
def tw4991674883853343367 := ()
def tw3423269629418956423 := ()
def tw14859539506893268647 := ()
def tw12907256884078315207 := ()
def tw3069814771082255047 := ()
def tw3691514007946161927 := ()
def tw9549752294039128871 := ()
def tw14782248697724705575 := ()
def tw7396912307649519399 := ()
def tw7840629305630783271 := ()
def tw1296822351969024839 := ()
def tw17477226822471860071 := ()
def tw4972718918099399527 := ()
def tw6645585784153725895 := ()
def tw16644149215388015656 := ()
def tw13389991356550366280 := ()
def tw17382047645984490600 := ()
def tw17036380844676051080 := ()
def tw4919088254088167592 := ()
def tw12343332158957267144 := ()
def tw14562593637300844840 := ()
def tw4646003629138406792 := ()
def tw6429911184574559656 := ()
def tw16717699276096973256 := ()
def tw5930685914638464456 := ()
def tw8456777865386108392 := ()
def tw752482146083696136 := ()
def tw11475075178093845032 := ()
def tw10654380763886144040 := ()
def tw17889323325507021416 := ()
def tw6136436581348955784 := ()
def tw7131760846151591592 := ()
def tw3725185230920577704 := ()
def tw1419575374349633288 := ()
def tw5790483987241691912 := ()
def tw9681805042046235528 := ()
def tw8882911586753609608 := ()
def tw11645160460285533096 := ()
def tw9602227096245346248 := ()
def tw1977302647956976681 := ()
def tw2822977950529547305 := ()
def tw4889792375943663689 := ()
def tw9352005098157834345 := ()
def tw5005485864348753065 := ()
def tw2531314872987954345 := ()
def tw11557476286928929961 := ()
def tw5691965062544597193 := ()
def tw12253531327452114121 := ()
def tw15822980941593193705 := ()
def tw9520969103859977481 := ()
def tw11810444429127232841 := ()
def tw11565484063961450857 := ()
def tw11762794976955142505 := ()
def tw16565587530257780073 := ()
def tw5719245612089482665 := ()
def tw13967029748159744553 := ()
def tw11478801791263118953 := ()
def tw6011893500320909065 := ()
def tw7761031921019954953 := ()
def tw846740273414158217 := ()
def tw15501720889771054025 := ()
def tw16751650148347307082 := ()
def tw16813353613489367178 := ()
def tw9584314250804494570 := ()
def tw14746798168500304138 := ()
def tw5627281574903986506 := ()
def tw6849414286470786570 := ()
def tw3535867036724426250 := ()
def tw13844314729569882698 := ()
def tw12715824532663227018 := ()
def tw11522578300068091562 := ()
def tw1136483387925911210 := ()
def tw18158771586864762602 := ()
def tw3512647922142134026 := ()
def tw15793659860326041354 := ()
def tw11726318746717677322 := ()
def tw16836566545096044362 := ()
def tw2632438689957173162 := ()
def tw14898546433982056426 := ()
def tw18385987067365810187 := ()
def tw687440427619966027 := ()
def tw16952048226226521195 := ()
def tw16307912567177267339 := ()
def tw11583436784804306091 := ()
def tw16912552252359096491 := ()
def tw6098369707183339691 := ()
def tw3528768013973369035 := ()
def tw7453082566172906827 := ()
def tw9465479407988577675 := ()
def tw5554452862220466635 := ()
def tw1100526762071124587 := ()
def tw15794411521554330251 := ()
def tw12993839521069426347 := ()
def tw18009208552056591051 := ()
def tw5360204314175252267 := ()
def tw11274280769424507723 := ()
def tw5296494067431480139 := ()
def tw17553253082395610059 := ()
def tw14532173180501774283 := ()
def tw11010350608907241451 := ()
def tw9752497640548756492 := ()
def tw15173379279187549228 := ()
def tw13644141870459534412 := ()
def tw7897160525545946188 := ()
def tw4423207882810034284 := ()
def tw15070769242404054124 := ()
def tw3720449085825603724 := ()
def tw7484667762162385132 := ()
def tw9166732093878476044 := ()
def tw4028069038989143372 := ()
def tw5025147430350258540 := ()
def tw14871066289019898220 := ()
def tw1849360290282358220 := ()
def tw15506809221082698220 := ()
def tw16217802685115527660 := ()
def tw12445331877465131532 := ()
def tw3073287701989540364 := ()
def tw2769706602344248844 := ()
def tw11969735261253860876 := ()
def tw11718065660054288972 := ()
def tw16407771856743892652 := ()
def tw16804280131168247468 := ()
def tw16815398622411172524 := ()
def tw18104072176684806924 := ()
def tw13048189958116788012 := ()
def tw13983541681064028044 := ()
def tw13319593825372713932 := ()
def tw12992431833006310380 := ()
def tw6001909255879450604 := ()
def tw11671883914628172813 := ()
def tw682907234347919373 := ()
def tw9136444798119000173 := ()
def tw18187624244148360397 := ()
def tw14287735695573129453 := ()
def tw373001673545477389 := ()
def tw345911817981363501 := ()
def tw2055598183083813229 := ()
def tw2904821844362943885 := ()
def tw7498458108241208717 := ()
def tw14545271361819596269 := ()
def tw11120021418430597677 := ()
def tw13322914456703352493 := ()
def tw7797861638658194157 := ()
def tw15831372674355228525 := ()
def tw10567186982239381421 := ()
def tw9963253290799042638 := ()
def tw7291884809086422094 := ()
def tw9088007425868534894 := ()
def tw3602256342136937582 := ()
def tw7405580924337614094 := ()
def tw175394142430702894 := ()
def tw9083520597948113294 := ()
def tw661918692481957262 := ()
def tw1274100762658000302 := ()
def tw13654569402127581710 := ()
def tw11829474973356851726 := ()
def tw17034577088140229134 := ()
def tw14510623368779878958 := ()
def tw10333945943681263150 := ()
def tw6451395859826139726 := ()
def tw16312178201788248718 := ()
def tw13308425599038623470 := ()
def tw43129934261133038 := ()
def tw8456317272428549902 := ()
def tw11313471594686196494 := ()
def tw6262564411764305678 := ()
def tw8995544901311893358 := ()
def tw9798980870724588398 := ()
def tw17443207137286494126 := ()
def tw6470924486210889646 := ()
def tw16597541865977230254 := ()
def tw55298347461837774 := ()
def tw3471821317687880654 := ()
def tw11066551880841958415 := ()
def tw3769804510884798479 := ()
def tw3510193300535174159 := ()
def tw8407880530269568111 := ()
def tw17220504002096457871 := ()
def tw16033194428036751535 := ()
def tw8739176502286531759 := ()
def tw16138114972464784655 := ()
def tw3626020256656257295 := ()
def tw16989729500077186351 := ()
def tw12134240827255261551 := ()
def tw656286678126423535 := ()
def tw13793356767083591151 := ()
def tw5530684305897961999 := ()
def tw17834875556705065487 := ()
def tw3285215083942968847 := ()
def tw16956778323036759631 := ()
def tw7907818162708123311 := ()
def tw8062178658901269295 := ()
def tw6528683794581028655 := ()
def tw9214366916723798863 := ()
def tw14068983958253058927 := ()
def tw9702045396584610671 := ()
def tw15466113848679193455 := ()
def tw11723963337428548495 := ()
def tw11763899222021358672 := ()
def tw107284510332367984 := ()
def tw3394746080667947184 := ()
def tw1247512717138827440 := ()
def tw6451630604933061840 := ()
def tw3390181775945779440 := ()
def tw5080196182825274640 := ()
def tw6569043766589131056 := ()
def tw3643931686968922480 := ()
def tw8116789835311227248 := ()
def tw17875944593882806832 := ()
def tw10998843384574922448 := ()
def tw17536098263984313072 := ()
def tw4711370385974790928 := ()
def tw12879621269495506704 := ()
def tw10395472054390059792 := ()
def tw12148574443442875216 := ()
def tw15994078524803982224 := ()
def tw9881724524890802096 := ()
def tw17377480666080033744 := ()
def tw4051665834169549808 := ()
def tw14496776972322443281 := ()
def tw15381945976195400753 := ()
def tw13739693007338162225 := ()
def tw9588896127233574961 := ()
def tw12835683624881903665 := ()
def tw352798132337394769 := ()
def tw16532024711629363281 := ()
def tw16564321276314739793 := ()
def tw1782247594108342513 := ()
def tw10459207679749173521 := ()
def tw17610159294497894769 := ()
def tw17780140590749267345 := ()
def tw10066704216216793521 := ()
def tw16854984102580624881 := ()
def tw12889894252754595313 := ()
def tw6734559351006101041 := ()
def tw9098066368986027729 := ()
def tw17118116042535906001 := ()
def tw4927134597653321425 := ()
def tw1679242113004272401 := ()
def tw1848570566673802033 := ()
def tw113050815029553969 := ()
def tw6953250583279876913 := ()
def tw16988030030858499953 := ()
def tw7234635258303527857 := ()
def tw17883927817497766897 := ()
def tw63009063749651570 := ()
def tw5303018459894289554 := ()
def tw9814582547228838098 := ()
def tw12717019606000770258 := ()
def tw2736185896682837234 := ()
def tw8371610631240391954 := ()
def tw12392339484156403986 := ()
def tw2746819688836038962 := ()
def tw17318828933439031634 := ()
def tw354506097499953554 := ()
def tw1345854796632655282 := ()
def tw4341964049768166834 := ()
def tw8086633944572499410 := ()
def tw10562380695764360690 := ()
def tw16788018478382533138 := ()
def tw10605328850321230354 := ()
def tw13070412900928720434 := ()
def tw13799965666576142066 := ()
def tw12284039416344198930 := ()
def tw15742660062831619890 := ()
def tw16907398591975590770 := ()
def tw10479300539890502514 := ()
def tw2092158712807358322 := ()
def tw4493521998240109587 := ()
def tw13624917544538346675 := ()
def tw13640655647572119731 := ()
def tw16198953961522469139 := ()
def tw12030567020272920883 := ()
def tw10620543325209798963 := ()
def tw9062503298021240115 := ()
def tw5703664256630815059 := ()
def tw13928981167158426963 := ()
def tw12126371853171864947 := ()
def tw13672121975806418419 := ()
def tw13224464288040622579 := ()
def tw13814718018026431027 := ()
def tw4777136935936850483 := ()
def tw16481794461210384979 := ()
def tw1780460016119287411 := ()
def tw6433147642094711411 := ()
def tw17368834054541592243 := ()
def tw7098901758931701427 := ()
def tw8153759357689254643 := ()
def tw11658039789175759635 := ()
def tw8057038420496993075 := ()
def tw6194504605851537299 := ()
def tw18099320468441376691 := ()
def tw310251705441526771 := ()
def tw6157313113987527700 := ()
def tw5427456229689132084 := ()
def tw16420930544757747764 := ()
def tw15899612036204610612 := ()
def tw4309705540398811220 := ()
def tw16623243881444662388 := ()
def tw10712903911933806772 := ()
def tw11380753563684883636 := ()
def tw17588697786449419476 := ()
def tw1177707985418312948 := ()
def tw16835657857371258100 := ()
def tw7289448315534584084 := ()
def tw3468043428034344212 := ()
def tw15311936440170496372 := ()
def tw6768053581980478868 := ()
def tw4788502352428589460 := ()
def tw14022399889735031220 := ()
def tw3544372797044729268 := ()
def tw2969559647289374164 := ()
def tw13884739698050544276 := ()
def tw12716827391639503508 := ()
def tw3221966277154698932 := ()
def tw5923496012848513780 := ()
def tw13311691934898179828 := ()
def tw12585476958329303796 := ()
def tw1801856087977687828 := ()
def tw18217421307409444660 := ()
def tw14441057093847234420 := ()
def tw7800733560128435060 := ()
def tw6411394660706988948 := ()
def tw1671521266233903092 := ()
def tw6457448472588455957 := ()
def tw1136783177406379029 := ()
def tw18070381613597226005 := ()
def tw5230776422213182517 := ()
def tw128489456433584245 := ()
def tw1703115137186934933 := ()
def tw7277015196784266453 := ()
def tw7064998611397200245 := ()
def tw9739092494564601269 := ()
def tw5464097036239759797 := ()
def tw15363658596647605749 := ()
def tw4564172973451478613 := ()
def tw9866604351558066805 := ()
def tw2399043713641507445 := ()
def tw5190854576886276821 := ()
def tw12265572108995921653 := ()
def tw11123593865614987061 := ()
def tw12556363222640657237 := ()
def tw7029003914578414421 := ()
def tw12199476120171464565 := ()
def tw13869388461067797397 := ()
def tw7612497488681028597 := ()
def tw7344654148276205622 := ()
def tw3686140649214141494 := ()
def tw17366160205698552950 := ()
def tw11577085810076592342 := ()
def tw5562813029176020214 := ()
def tw15527724670925103382 := ()
def tw415339937681339670 := ()
def tw2797159334498424118 := ()
def tw15126442853884919126 := ()
def tw7467395637988657526 := ()
def tw16424486284895939990 := ()
def tw12247490770625457622 := ()
def tw16037337068512767446 := ()
def tw9175857532335328758 := ()
def tw6745397146384323062 := ()
def tw6929666730377048566 := ()
def tw2168325377786385974 := ()
def tw6992842231617191606 := ()
def tw15627933853334744790 := ()
def tw9858180075119002422 := ()
def tw10435841705046113078 := ()
def tw13846228829652602774 := ()
def tw380689142646676374 := ()
def tw9746025639361989558 := ()
def tw9891640019583001526 := ()
def tw15752365523265911734 := ()
def tw16451025548695086038 := ()
def tw11397006813621191670 := ()
def tw2231439925139500055 := ()
def tw9062562228028383319 := ()
def tw18202881434928233559 := ()
def tw15381049479164190071 := ()
def tw15255641055173087639 := ()
def tw13159119244593716631 := ()
def tw4009422773917745591 := ()
def tw6551476236138149303 := ()
def tw9904589088061562359 := ()
def tw2472994356963967511 := ()
def tw583608648329211415 := ()
def tw3940109499942901303 := ()
def tw8636452031819510391 := ()
def tw6972780146609335959 := ()
def tw17616830940249068215 := ()
def tw10052255405071451863 := ()
def tw14492070201539284695 := ()
def tw15032281194146528023 := ()
def tw10792047922811870007 := ()
def tw16351080555338559319 := ()
def tw12195325613435293559 := ()
def tw2435414268528245655 := ()
def tw9056106537215983575 := ()
def tw14497543570786735192 := ()
def tw10190278522863916152 := ()
def tw15757017410905556120 := ()
def tw1199762223449375928 := ()
def tw8032604849945819320 := ()
def tw9699532266085967032 := ()
def tw7641323127403141336 := ()
def tw6863099291520478488 := ()
def tw18429637299771188536 := ()
def tw8539005960612809080 := ()
def tw3912656717861491160 := ()
def tw18395317911625248248 := ()
def tw9094537975874527768 := ()
def tw16810887123350767192 := ()
def tw10340518901332684536 := ()
def tw3727212106981562104 := ()
def tw7461425718880969496 := ()
def tw10344661591661412152 := ()
def tw7092412612505468824 := ()
def tw5207754918826540984 := ()
def tw4072517154519820280 := ()
def tw8898844861681736761 := ()
def tw3911070596721618041 := ()
def tw16294884742866420889 := ()
def tw17264070659332566201 := ()
def tw17386635429865086169 := ()
def tw958678517778567577 := ()
def tw11416483665712765337 := ()
def tw3487298210192910745 := ()
def tw3593600752042675673 := ()
def tw1137668643001170425 := ()
def tw8574275001756000793 := ()
def tw7560196710700807737 := ()
def tw3590958342633141881 := ()
def tw14694487695652011641 := ()
def tw13063173001540039289 := ()
def tw513772448343589529 := ()
def tw3296467103764902553 := ()
def tw1285675533221773017 := ()
def tw3278474514489302809 := ()
def tw17919931968471074713 := ()
def tw5504449557239792569 := ()
def tw4796627773016766425 := ()
def tw13966938996543161337 := ()
def tw15330430298156793849 := ()
def tw4000266436559680602 := ()
def tw3424763433321069658 := ()
def tw6945323994190381178 := ()
def tw9715118531166996602 := ()
def tw12448589425529488570 := ()
def tw4875430248594307258 := ()
def tw10843756530401253626 := ()
def tw17578148411969949978 := ()
def tw13451592374904801594 := ()
def tw8139756462226913626 := ()
def tw9086726075083750778 := ()
def tw12726156279759151482 := ()
def tw15340545869150297690 := ()
def tw3206482662856279642 := ()
def tw15318067822353107546 := ()
def tw13215491089023466074 := ()
def tw14749556861825972858 := ()
def tw447176346352591514 := ()
def tw3713512814613533434 := ()
def tw7406171514246340378 := ()
def tw3890063471305946938 := ()
def tw17359728958607969114 := ()
def tw13880572818718682042 := ()
def tw14099136811266122714 := ()
def tw6610784779519805434 := ()
def tw475544934030715003 := ()
def tw9415565398269211771 := ()
def tw8071080152072324283 := ()
def tw495647691903371451 := ()
def tw17331404383202027707 := ()
def tw5843031518995554651 := ()
def tw2986782920049672539 := ()
def tw15012709040323186011 := ()
def tw17916183250768914811 := ()
def tw7393372942729228699 := ()
def tw10835401592742433179 := ()
def tw5099042681415894491 := ()
def tw14937877600034393563 := ()
def tw14609479916398748155 := ()
def tw12427359813839988219 := ()
def tw8934646860728242779 := ()
def tw720621750962135675 := ()
def tw3462680282475476635 := ()
def tw6986823630202991291 := ()
def tw1733439709082792635 := ()
def tw17099082882427017947 := ()
def tw11270029392408972027 := ()
def tw13040904074547992315 := ()
def tw2212735939695566587 := ()
def tw12449924899989122875 := ()
def tw5069421910536836955 := ()
def tw13516702001604414331 := ()
def tw17008921310335461243 := ()
def tw16154927802221136795 := ()
def tw10657562131433212859 := ()
def tw3802114668976617435 := ()
def tw15605548617234953211 := ()
def tw11873902908722089020 := ()
def tw14075354041130903676 := ()
def tw6672943870468109468 := ()
def tw15114113909775562908 := ()
def tw15146306643398715580 := ()
def tw4573268612901139644 := ()
def tw16902623669873613020 := ()
def tw4706699835908216028 := ()
def tw11199525281768130876 := ()
def tw14930188719538785596 := ()
def tw18041132768033299772 := ()
def tw8950810498929552700 := ()
def tw13885436802895705436 := ()
def tw6240758033854116220 := ()
def tw1411411402184066460 := ()
def tw8217081511234358684 := ()
def tw4348763282217809468 := ()
def tw2062554606261744252 := ()
def tw16108366702538372796 := ()
def tw6543483849327164092 := ()
def tw4055098894006369084 := ()
def tw4237777757269889884 := ()
def tw2583734471811256156 := ()
def tw13598522307702171516 := ()
def tw11538730732833499004 := ()
def tw12639246080537838492 := ()
def tw14571416950349167548 := ()
def tw11756137131753120732 := ()
def tw2683247271294961660 := ()
def tw7807031875643391005 := ()
def tw16475559484735039549 := ()
def tw10675172023846140989 := ()
def tw3670476140178150493 := ()
def tw15849287771290571997 := ()
def tw15267957955609811165 := ()
def tw273371577036830013 := ()
def tw11927677717825379741 := ()
def tw17192541537709937213 := ()
def tw4617316167181148861 := ()
def tw10621581184537856765 := ()
def tw11727480468269438717 := ()
def tw18135929667983497981 := ()
def tw10242758185157999421 := ()
def tw36354402437429117 := ()
def tw97143977806806941 := ()
def tw7995992734272166877 := ()
def tw6575675377582686238 := ()
def tw16745935915490958398 := ()
def tw996265019758872670 := ()
def tw8934523106711129182 := ()
def tw9292671884435321950 := ()
def tw9375384304282901694 := ()
def tw11293476641799033022 := ()
def tw11907130713104503998 := ()
def tw17066880348868445406 := ()
def tw11082088788199507262 := ()
def tw11829660691723609470 := ()
def tw5802215131590746526 := ()
def tw7879920113196183998 := ()
def tw16895185671119077854 := ()
def tw8770225391933487582 := ()
def tw11304610580524983838 := ()
def tw9418318638449137246 := ()
def tw16826858946576154206 := ()
def tw14051301378743247582 := ()
def tw17571679599795396318 := ()
def tw18091037306104183518 := ()
def tw7980269179077889790 := ()
def tw14044704641648580382 := ()
def tw1733159344385189694 := ()
def tw7783449030152573790 := ()
def tw5273491291802959742 := ()
def tw13554916116429279134 := ()
def tw5934919204561010590 := ()
def tw15173942208226033598 := ()
def tw5150131821888736287 := ()
def tw11897544510332509215 := ()
def tw5869008092650859551 := ()
def tw10741776508494027839 := ()
def tw6850747124902578239 := ()
def tw18401147236912391263 := ()
def tw244001406106211455 := ()
def tw7752621747610330303 := ()
def tw16192043784554491071 := ()
def tw3902372538376800447 := ()
def tw6527933597914194143 := ()
def tw4964023485499190687 := ()
def tw8420438814186869183 := ()
def tw15740031323209054655 := ()
def tw2530533490861458879 := ()
def tw599430657684003263 := ()
def tw16591350486103084607 := ()
def tw1804153806403397183 := ()
def tw1263430345915460223 := ()
def tw17332143527497892511 := ()
def tw6699795285086914207 := ()
def tw7608299630765043359 := ()
def tw12054363391961232031 := ()
def tw2141788873406064319 := ()
def tw16996104905772420799 := ()
def tw13636128119161001823 := ()
def tw6707374873875782495 := ()
def tw2183226376570037119 := ()
def tw12406387938153132991 := ()
def tw14165966609164644319 := ()
def tw11624043205879625727 := ()
def tw11639076246619650047 := ()
end PySem.W.Fast
open PySem PySem.W PyProof.Rows
set_option maxRecDepth 100000 in
set_option maxHeartbeats 0 in
theorem PySem.Challenge.cw_roomalgebra_k35_where_a_text_fails_holds : PySem.Challenge.rw_roomalgebra_k35_where_a_text_fails.Holds := by
  w_on; o_law; z_head; (case hw => w_witness2)
  k_fill
  intro w sa sb mg mb G ye fa ob pm cd dc dv kv e1 e2 e3 e4 e5 e6 gs vs bs La c1 c2 c3 c4 c5
  z_open ye La KX ZH ZN ZT
  clear ye La ZH ZN ZT
  refine L2.walk63z (k := 9) (x := "_law_script") (l := PySem.Challenge.rw_roomalgebra_k35_where_a_text_fails) rfl rfl ⟨rfl, by decide, by decide⟩ ?F w sa sb mg mb G KX fa ob pm cd dc dv kv e1 e2 e3 e4 e5 e6 gs vs bs c1 c2 c3 c4 c5
  case F =>
    intro w mg fa h KX G hmg
    refine' K35.all_mk KX G hmg ?a0 ?l0 ?c0 ?k0 ?a1 ?l1 ?c1 ?k1 ?a2 ?l2 ?c2 ?k2 ?a3 ?l3 ?c3 ?k3 ?a4 ?l4 ?c4 ?k4 ?a5 ?l5 ?c5 ?k5 ?a6 ?l6 ?c6 ?k6 ?a7 ?l7 ?c7 ?k7 ?a8 ?l8 ?c8 ?k8 ?a9 ?l9 ?c9 ?k9 ?a10 ?l10 ?c10 ?k10 ?a11 ?l11 ?c11 ?k11 ?a12 ?l12 ?c12 ?k12 ?a13 ?l13 ?c13 ?k13 ?a14 ?l14 ?c14 ?k14 ?a15 ?l15 ?c15 ?k15 ?a16 ?l16 ?c16 ?k16 ?a17 ?l17 ?c17 ?k17 ?a18 ?l18 ?c18 ?k18 ?a19 ?l19 ?c19 ?k19 ?a20 ?l20 ?c20 ?k20 ?a21 ?l21 ?c21 ?k21 ?a22 ?l22 ?c22 ?k22 ?a23 ?l23 ?c23 ?k23 ?a24 ?l24 ?c24 ?k24 ?a25 ?l25 ?c25 ?k25 ?z_len ?z_range ?z_isinst ?z_int ?z_bool ?z_tuple ?z_list ?z_str ?z_enum ?z_verr ?n_RoomError ?n_NoLetters ?n_NoWord ?n_NoNumber ?n_NoRoom ?n_NoMachine ?n_OtherLetters ?n_TooMany ?n_NoPattern ?n_TooGreat ?n_NoKind ?o_NoLetters ?e_NoLetters ?m_NoLetters ?i_NoLetters_NoLetters ?i_NoLetters_NoWord ?i_NoLetters_NoNumber ?i_NoLetters_NoRoom ?i_NoLetters_NoMachine ?i_NoLetters_OtherLetters ?i_NoLetters_TooMany ?i_NoLetters_NoPattern ?i_NoLetters_TooGreat ?i_NoLetters_NoKind ?v_NoLetters ?e_NoPattern ?m_NoPattern ?i_NoPattern_NoLetters ?i_NoPattern_NoWord ?i_NoPattern_NoNumber ?i_NoPattern_NoRoom ?i_NoPattern_NoMachine ?i_NoPattern_OtherLetters ?i_NoPattern_TooMany ?i_NoPattern_NoPattern ?i_NoPattern_TooGreat ?i_NoPattern_NoKind ?v_NoPattern ?n_Pattern ?hn ?htk ?n_Never ?pg_Never ?hd_Never ?po_Never ?sa_Never ?ha_Never ?hm_Never ?ki_Never ?at_Never_sign ?at_Never_left ?at_Never_right ?at_Never_inner ?mk_Never ?kc_Never ?in_Never ?sh_Never ?sf_Never ?sl_Never ?sc_Never ?sk_Never ?n_Empty ?pg_Empty ?hd_Empty ?po_Empty ?sa_Empty ?ha_Empty ?hm_Empty ?ki_Empty ?at_Empty_sign ?at_Empty_left ?at_Empty_right ?at_Empty_inner ?mk_Empty ?kc_Empty ?in_Empty ?sh_Empty ?sf_Empty ?sl_Empty ?sc_Empty ?sk_Empty ?n_AnySign ?pg_AnySign ?hd_AnySign ?po_AnySign ?sa_AnySign ?ha_AnySign ?hm_AnySign ?ki_AnySign ?at_AnySign_sign ?at_AnySign_left ?at_AnySign_right ?at_AnySign_inner ?mk_AnySign ?kc_AnySign ?in_AnySign ?sh_AnySign ?sf_AnySign ?sl_AnySign ?sc_AnySign ?sk_AnySign ?n_Sign ?pg_Sign ?hd_Sign ?po_Sign ?sa_Sign ?ha_Sign ?hm_Sign ?ki_Sign ?at_Sign_sign ?at_Sign_left ?at_Sign_right ?at_Sign_inner ?mk_Sign ?kc_Sign ?in_Sign ?sh_Sign ?sf_Sign ?sl_Sign ?sc_Sign ?sk_Sign ?n_Outside ?pg_Outside ?hd_Outside ?po_Outside ?sa_Outside ?ha_Outside ?hm_Outside ?ki_Outside ?at_Outside_sign ?at_Outside_left ?at_Outside_right ?at_Outside_inner ?mk_Outside ?kc_Outside ?in_Outside ?sh_Outside ?sf_Outside ?sl_Outside ?sc_Outside ?sk_Outside ?n_Turned ?pg_Turned ?hd_Turned ?po_Turned ?sa_Turned ?ha_Turned ?hm_Turned ?ki_Turned ?at_Turned_sign ?at_Turned_left ?at_Turned_right ?at_Turned_inner ?mk_Turned ?kc_Turned ?in_Turned ?sh_Turned ?sf_Turned ?sl_Turned ?sc_Turned ?sk_Turned ?n_Again ?pg_Again ?hd_Again ?po_Again ?sa_Again ?ha_Again ?hm_Again ?ki_Again ?at_Again_sign ?at_Again_left ?at_Again_right ?at_Again_inner ?mk_Again ?kc_Again ?in_Again ?sh_Again ?sf_Again ?sl_Again ?sc_Again ?sk_Again ?n_Either ?pg_Either ?hd_Either ?po_Either ?sa_Either ?ha_Either ?hm_Either ?ki_Either ?at_Either_sign ?at_Either_left ?at_Either_right ?at_Either_inner ?mk_Either ?kc_Either ?in_Either ?sh_Either ?sf_Either ?sl_Either ?sc_Either ?sk_Either ?n_Less ?pg_Less ?hd_Less ?po_Less ?sa_Less ?ha_Less ?hm_Less ?ki_Less ?at_Less_sign ?at_Less_left ?at_Less_right ?at_Less_inner ?mk_Less ?kc_Less ?in_Less ?sh_Less ?sf_Less ?sl_Less ?sc_Less ?sk_Less ?n_Both ?pg_Both ?hd_Both ?po_Both ?sa_Both ?ha_Both ?hm_Both ?ki_Both ?at_Both_sign ?at_Both_left ?at_Both_right ?at_Both_inner ?mk_Both ?kc_Both ?in_Both ?sh_Both ?sf_Both ?sl_Both ?sc_Both ?sk_Both ?n_Then ?pg_Then ?hd_Then ?po_Then ?sa_Then ?ha_Then ?hm_Then ?ki_Then ?at_Then_sign ?at_Then_left ?at_Then_right ?at_Then_inner ?mk_Then ?kc_Then ?in_Then ?sh_Then ?sf_Then ?sl_Then ?sc_Then ?sk_Then ?if_Sign ?il_Sign ?ic_Sign ?ik_Sign ?if_Around ?il_Around ?ic_Around ?ik_Around ?if_Pair ?il_Pair ?ic_Pair ?ik_Pair ?rn_SIGNS ?rl_SIGNS ?re_SIGNS ?rs_SIGNS ?rn_KINDS ?rl_KINDS ?re_KINDS ?rs_KINDS ?rn_STRENGTHS ?rl_STRENGTHS ?re_STRENGTHS ?rs_STRENGTHS ?rn_Desk ?pg_Desk ?hd_Desk ?po_Desk ?sa_Desk ?at_Desk_patterns ?at_Desk_waiting ?mk_Desk ?kc_Desk ?in_Desk ?if_Desk ?il_Desk ?ic_Desk ?ik_Desk ?tx_Never ?tx_Empty ?tx_AnySign ?tx_Sign ?tx_Outside ?tx_Turned ?tx_Again ?tx_Either ?tx_Less ?tx_Both ?tx_Then ?if_text ?il_text ?ic_text ?ik_text ?hX0 ?xo ?xc ?xn ?xb ?xf ?lX ?cX ?kX
    (case a0 => k_is); (case l0 => k_is); (case c0 => k_is); (case k0 => k_is)
    (case a1 => k_is); (case l1 => k_is); (case c1 => k_is); (case k1 => k_is)
    (case a2 => k_is); (case l2 => k_is); (case c2 => k_is); (case k2 => k_is)
    (case a3 => k_is); (case l3 => k_is); (case c3 => k_is); (case k3 => k_is)
    (case a4 => k_is); (case l4 => k_is); (case c4 => k_is); (case k4 => k_is)
    (case a5 => k_is); (case l5 => k_is); (case c5 => k_is); (case k5 => k_is)
    (case a6 => k_is); (case l6 => k_is); (case c6 => k_is); (case k6 => k_is)
    (case a7 => k_is); (case l7 => k_is); (case c7 => k_is); (case k7 => k_is)
    (case a8 => k_is); (case l8 => k_is); (case c8 => k_is); (case k8 => k_is)
    (case a9 => k_is); (case l9 => k_is); (case c9 => k_is); (case k9 => k_is)
    (case a10 => k_is); (case l10 => k_is); (case c10 => k_is); (case k10 => k_is)
    (case a11 => k_is); (case l11 => k_is); (case c11 => k_is); (case k11 => k_is)
    (case a12 => k_is); (case l12 => k_is); (case c12 => k_is); (case k12 => k_is)
    (case a13 => k_is); (case l13 => k_is); (case c13 => k_is); (case k13 => k_is)
    (case a14 => k_is); (case l14 => k_is); (case c14 => k_is); (case k14 => k_is)
    (case a15 => k_is); (case l15 => k_is); (case c15 => k_is); (case k15 => k_is)
    (case a16 => k_is); (case l16 => k_is); (case c16 => k_is); (case k16 => k_is)
    (case a17 => k_is); (case l17 => k_is); (case c17 => k_is); (case k17 => k_is)
    (case a18 => k_is); (case l18 => k_is); (case c18 => k_is); (case k18 => k_is)
    (case a19 => k_is); (case l19 => k_is); (case c19 => k_is); (case k19 => k_is)
    (case a20 => k_is); (case l20 => k_is); (case c20 => k_is); (case k20 => k_is)
    (case a21 => k_is); (case l21 => k_is); (case c21 => k_is); (case k21 => k_is)
    (case a22 => k_is); (case l22 => k_is); (case c22 => k_is); (case k22 => k_is)
    (case a23 => k_is); (case l23 => k_is); (case c23 => k_is); (case k23 => k_is)
    (case a24 => k_is); (case l24 => k_is); (case c24 => k_is); (case k24 => k_is)
    (case a25 => k_is); (case l25 => k_is); (case c25 => k_is); (case k25 => k_is)
    (case z_len => k_is)
    (case z_range => k_is)
    (case z_isinst => k_is)
    (case z_int => k_is)
    (case z_bool => k_is)
    (case z_tuple => k_is)
    (case z_list => k_is)
    (case z_str => k_is)
    (case z_enum => k_is)
    (case z_verr => k_is)
    (case n_RoomError => k_is)
    (case n_NoLetters => k_is)
    (case n_NoWord => k_is)
    (case n_NoNumber => k_is)
    (case n_NoRoom => k_is)
    (case n_NoMachine => k_is)
    (case n_OtherLetters => k_is)
    (case n_TooMany => k_is)
    (case n_NoPattern => k_is)
    (case n_TooGreat => k_is)
    (case n_NoKind => k_is)
    (case o_NoLetters => unfold L2.OwnX; k_exc)
    (case e_NoLetters => exact ⟨by k_is, by k_is, by k_is, by k_is, by k_is, by k_is, by k_is, by k_is⟩)
    (case m_NoLetters => kts_exm)
    (case i_NoLetters_NoLetters => kit_is)
    (case i_NoLetters_NoWord => kit_is)
    (case i_NoLetters_NoNumber => kit_is)
    (case i_NoLetters_NoRoom => kit_is)
    (case i_NoLetters_NoMachine => kit_is)
    (case i_NoLetters_OtherLetters => kit_is)
    (case i_NoLetters_TooMany => kit_is)
    (case i_NoLetters_NoPattern => kit_is)
    (case i_NoLetters_TooGreat => kit_is)
    (case i_NoLetters_NoKind => kit_is)
    (case v_NoLetters => kit_is)
    (case e_NoPattern => exact ⟨by k_is, by k_is, by k_is, by k_is, by k_is, by k_is, by k_is, by k_is⟩)
    (case m_NoPattern => kts_exm)
    (case i_NoPattern_NoLetters => kit_is)
    (case i_NoPattern_NoWord => kit_is)
    (case i_NoPattern_NoNumber => kit_is)
    (case i_NoPattern_NoRoom => kit_is)
    (case i_NoPattern_NoMachine => kit_is)
    (case i_NoPattern_OtherLetters => kit_is)
    (case i_NoPattern_TooMany => kit_is)
    (case i_NoPattern_NoPattern => kit_is)
    (case i_NoPattern_TooGreat => kit_is)
    (case i_NoPattern_NoKind => kit_is)
    (case v_NoPattern => kit_is)
    (case n_Pattern => k_is)
    (case hn => k_is)
    (case htk => k_is)
    (case n_Never => k_is)
    (case pg_Never => k_is)
    (case hd_Never => k_is)
    (case po_Never => k_is)
    (case sa_Never => k_is)
    (case ha_Never => k_is)
    (case hm_Never => k_is)
    (case ki_Never => kit_is)
    (case at_Never_sign => k_is)
    (case at_Never_left => k_is)
    (case at_Never_right => k_is)
    (case at_Never_inner => k_is)
    (case mk_Never => k_is)
    (case kc_Never => k_is)
    (case in_Never => k_is)
    (case sh_Never => k_is)
    (case sf_Never => k_is)
    (case sl_Never => k_is)
    (case sc_Never => k_is)
    (case sk_Never => k_is)
    (case n_Empty => k_is)
    (case pg_Empty => k_is)
    (case hd_Empty => k_is)
    (case po_Empty => k_is)
    (case sa_Empty => k_is)
    (case ha_Empty => k_is)
    (case hm_Empty => k_is)
    (case ki_Empty => kit_is)
    (case at_Empty_sign => k_is)
    (case at_Empty_left => k_is)
    (case at_Empty_right => k_is)
    (case at_Empty_inner => k_is)
    (case mk_Empty => k_is)
    (case kc_Empty => k_is)
    (case in_Empty => k_is)
    (case sh_Empty => k_is)
    (case sf_Empty => k_is)
    (case sl_Empty => k_is)
    (case sc_Empty => k_is)
    (case sk_Empty => k_is)
    (case n_AnySign => k_is)
    (case pg_AnySign => k_is)
    (case hd_AnySign => k_is)
    (case po_AnySign => k_is)
    (case sa_AnySign => k_is)
    (case ha_AnySign => k_is)
    (case hm_AnySign => k_is)
    (case ki_AnySign => kit_is)
    (case at_AnySign_sign => k_is)
    (case at_AnySign_left => k_is)
    (case at_AnySign_right => k_is)
    (case at_AnySign_inner => k_is)
    (case mk_AnySign => k_is)
    (case kc_AnySign => k_is)
    (case in_AnySign => k_is)
    (case sh_AnySign => k_is)
    (case sf_AnySign => k_is)
    (case sl_AnySign => k_is)
    (case sc_AnySign => k_is)
    (case sk_AnySign => k_is)
    (case n_Sign => k_is)
    (case pg_Sign => k_is)
    (case hd_Sign => k_is)
    (case po_Sign => k_is)
    (case sa_Sign => k_is)
    (case ha_Sign => k_is)
    (case hm_Sign => k_is)
    (case ki_Sign => kit_is)
    (case at_Sign_sign => k_is)
    (case at_Sign_left => k_is)
    (case at_Sign_right => k_is)
    (case at_Sign_inner => k_is)
    (case mk_Sign => k_is)
    (case kc_Sign => k_is)
    (case in_Sign => k_is)
    (case sh_Sign => k_is)
    (case sf_Sign => k_is)
    (case sl_Sign => k_is)
    (case sc_Sign => k_is)
    (case sk_Sign => k_is)
    (case n_Outside => k_is)
    (case pg_Outside => k_is)
    (case hd_Outside => k_is)
    (case po_Outside => k_is)
    (case sa_Outside => k_is)
    (case ha_Outside => k_is)
    (case hm_Outside => k_is)
    (case ki_Outside => kit_is)
    (case at_Outside_sign => k_is)
    (case at_Outside_left => k_is)
    (case at_Outside_right => k_is)
    (case at_Outside_inner => k_is)
    (case mk_Outside => k_is)
    (case kc_Outside => k_is)
    (case in_Outside => k_is)
    (case sh_Outside => k_is)
    (case sf_Outside => k_is)
    (case sl_Outside => k_is)
    (case sc_Outside => k_is)
    (case sk_Outside => k_is)
    (case n_Turned => k_is)
    (case pg_Turned => k_is)
    (case hd_Turned => k_is)
    (case po_Turned => k_is)
    (case sa_Turned => k_is)
    (case ha_Turned => k_is)
    (case hm_Turned => k_is)
    (case ki_Turned => kit_is)
    (case at_Turned_sign => k_is)
    (case at_Turned_left => k_is)
    (case at_Turned_right => k_is)
    (case at_Turned_inner => k_is)
    (case mk_Turned => k_is)
    (case kc_Turned => k_is)
    (case in_Turned => k_is)
    (case sh_Turned => k_is)
    (case sf_Turned => k_is)
    (case sl_Turned => k_is)
    (case sc_Turned => k_is)
    (case sk_Turned => k_is)
    (case n_Again => k_is)
    (case pg_Again => k_is)
    (case hd_Again => k_is)
    (case po_Again => k_is)
    (case sa_Again => k_is)
    (case ha_Again => k_is)
    (case hm_Again => k_is)
    (case ki_Again => kit_is)
    (case at_Again_sign => k_is)
    (case at_Again_left => k_is)
    (case at_Again_right => k_is)
    (case at_Again_inner => k_is)
    (case mk_Again => k_is)
    (case kc_Again => k_is)
    (case in_Again => k_is)
    (case sh_Again => k_is)
    (case sf_Again => k_is)
    (case sl_Again => k_is)
    (case sc_Again => k_is)
    (case sk_Again => k_is)
    (case n_Either => k_is)
    (case pg_Either => k_is)
    (case hd_Either => k_is)
    (case po_Either => k_is)
    (case sa_Either => k_is)
    (case ha_Either => k_is)
    (case hm_Either => k_is)
    (case ki_Either => kit_is)
    (case at_Either_sign => k_is)
    (case at_Either_left => k_is)
    (case at_Either_right => k_is)
    (case at_Either_inner => k_is)
    (case mk_Either => k_is)
    (case kc_Either => k_is)
    (case in_Either => k_is)
    (case sh_Either => k_is)
    (case sf_Either => k_is)
    (case sl_Either => k_is)
    (case sc_Either => k_is)
    (case sk_Either => k_is)
    (case n_Less => k_is)
    (case pg_Less => k_is)
    (case hd_Less => k_is)
    (case po_Less => k_is)
    (case sa_Less => k_is)
    (case ha_Less => k_is)
    (case hm_Less => k_is)
    (case ki_Less => kit_is)
    (case at_Less_sign => k_is)
    (case at_Less_left => k_is)
    (case at_Less_right => k_is)
    (case at_Less_inner => k_is)
    (case mk_Less => k_is)
    (case kc_Less => k_is)
    (case in_Less => k_is)
    (case sh_Less => k_is)
    (case sf_Less => k_is)
    (case sl_Less => k_is)
    (case sc_Less => k_is)
    (case sk_Less => k_is)
    (case n_Both => k_is)
    (case pg_Both => k_is)
    (case hd_Both => k_is)
    (case po_Both => k_is)
    (case sa_Both => k_is)
    (case ha_Both => k_is)
    (case hm_Both => k_is)
    (case ki_Both => kit_is)
    (case at_Both_sign => k_is)
    (case at_Both_left => k_is)
    (case at_Both_right => k_is)
    (case at_Both_inner => k_is)
    (case mk_Both => k_is)
    (case kc_Both => k_is)
    (case in_Both => k_is)
    (case sh_Both => k_is)
    (case sf_Both => k_is)
    (case sl_Both => k_is)
    (case sc_Both => k_is)
    (case sk_Both => k_is)
    (case n_Then => k_is)
    (case pg_Then => k_is)
    (case hd_Then => k_is)
    (case po_Then => k_is)
    (case sa_Then => k_is)
    (case ha_Then => k_is)
    (case hm_Then => k_is)
    (case ki_Then => kit_is)
    (case at_Then_sign => k_is)
    (case at_Then_left => k_is)
    (case at_Then_right => k_is)
    (case at_Then_inner => k_is)
    (case mk_Then => k_is)
    (case kc_Then => k_is)
    (case in_Then => k_is)
    (case sh_Then => k_is)
    (case sf_Then => k_is)
    (case sl_Then => k_is)
    (case sc_Then => k_is)
    (case sk_Then => k_is)
    (case if_Sign => k_is)
    (case il_Sign => k_is)
    (case ic_Sign => k_is)
    (case ik_Sign => k_is)
    (case if_Around => k_is)
    (case il_Around => k_is)
    (case ic_Around => k_is)
    (case ik_Around => k_is)
    (case if_Pair => k_is)
    (case il_Pair => k_is)
    (case ic_Pair => k_is)
    (case ik_Pair => k_is)
    (case rn_SIGNS => k_is)
    (case rl_SIGNS => k_is)
    (case re_SIGNS => ((repeat (refine RA.ents_cons rfl (congrArg Sum.inr (by decide +kernel)) rfl (by first | exact RA.rvs (by decide +kernel) | exact ⟨_, rfl⟩) ?_)); exact RA.ents_nil))
    (case rs_SIGNS => decide)
    (case rn_KINDS => k_is)
    (case rl_KINDS => k_is)
    (case re_KINDS => ((repeat (refine RA.ents_cons rfl (congrArg Sum.inr (by decide +kernel)) rfl (by first | exact RA.rvs (by decide +kernel) | exact ⟨_, rfl⟩) ?_)); exact RA.ents_nil))
    (case rs_KINDS => decide)
    (case rn_STRENGTHS => k_is)
    (case rl_STRENGTHS => k_is)
    (case re_STRENGTHS => ((repeat (refine RA.ents_cons rfl (congrArg Sum.inr (by decide +kernel)) rfl (by first | exact RA.rvs (by decide +kernel) | exact ⟨_, rfl⟩) ?_)); exact RA.ents_nil))
    (case rs_STRENGTHS => decide)
    (case rn_Desk => k_is)
    (case pg_Desk => k_is)
    (case hd_Desk => k_is)
    (case po_Desk => k_is)
    (case sa_Desk => k_is)
    (case at_Desk_patterns => k_is)
    (case at_Desk_waiting => k_is)
    (case mk_Desk => k_is)
    (case kc_Desk => k_is)
    (case in_Desk => k_is)
    (case if_Desk => k_is)
    (case il_Desk => k_is)
    (case ic_Desk => k_is)
    (case ik_Desk => k_is)
    (case tx_Never => k_is)
    (case tx_Empty => k_is)
    (case tx_AnySign => k_is)
    (case tx_Sign => k_is)
    (case tx_Outside => k_is)
    (case tx_Turned => k_is)
    (case tx_Again => k_is)
    (case tx_Either => k_is)
    (case tx_Less => k_is)
    (case tx_Both => k_is)
    (case tx_Then => k_is)
    (case if_text => k_is)
    (case il_text => k_is)
    (case ic_text => k_is)
    (case ik_text => k_is)
    (case hX0 => k_is)
    (case xo => unfold L2.OwnI; kernel_rfl)
    (case xc => exact ⟨by kernel_rfl, by kernel_rfl, by kernel_rfl⟩)
    (case xn => unfold L2.NoAttr; kernel_rfl)
    (case xb => exact ⟨by kernel_rfl, by kernel_rfl, by kernel_rfl⟩)
    (case xf => k_is)
    (case lX => k_is)
    (case cX => k_is)
    (case kX => k_is)
#print axioms PySem.Challenge.cw_roomalgebra_k35_where_a_text_fails_holds
