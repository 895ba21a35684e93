import PyProof.Rows.All
import Wide.All
import OpenK.AllK
import Wide.FinOn
import Lean
import PyProof.EqAt
import PyProof.EqKinds
import PyProof.TupleCall
import PyProof.Draws
import PyProof.ZipIter
import PySem.Challenge.RW_roomalgebra_k32_texts_with_brackets
set_option Elab.async false
set_option linter.all false
set_option maxRecDepth 100000
namespace L2
open PySem PySem.Spec PyProof.Rows
abbrev Key := Sum Int Str
def keyIs : Key → Value → Bool
  | .inl k, v => Value.isInt k v
  | .inr x, v => Value.isStrOf x v
def keyH (w : World) : Key → Int
  | .inl k => hashInt k
  | .inr x => hashStr w x
theorem keyIs_shape : ∀ {k : Key} {v : Value}, keyIs k v = true → (∃ i t, k = Sum.inl i ∧ v = Value.int i t) ∨ (∃ x t, k = Sum.inr x ∧ v = Value.str x t)
  | .inl i, v, h => by
    obtain ⟨t, e⟩ := Value.isInt_shape (k := i) (v := v) h
    exact .inl ⟨i, t, rfl, e⟩
  | .inr x, v, h => by
    obtain ⟨t, e⟩ := Value.isStrOf_shape (x := x) (v := v) h
    exact .inr ⟨x, t, rfl, e⟩
theorem keyIs_int (i : Int) (t : Tok) : keyIs (.inl i) (.int i t) = true := by simp [keyIs, Value.isInt]
theorem keyIs_str (x : Str) (t : Tok) : keyIs (.inr x) (.str x t) = true := by simp [keyIs, Value.isStrOf]
theorem key_ll (a b : Int) : decide ((Sum.inl a : Key) = Sum.inl b) = (a == b) := by
  by_cases e : a = b
  · subst e; simp
  · have h : ¬ (Sum.inl a : Key) = Sum.inl b := fun q => e (Sum.inl.inj q)
    rw [decide_eq_false h]
    exact (beq_eq_false_iff_ne.mpr e).symm
theorem key_rr (a b : Str) : decide ((Sum.inr a : Key) = Sum.inr b) = decide (a = b) := by
  by_cases e : a = b
  · subst e; simp
  · have h : ¬ (Sum.inr a : Key) = Sum.inr b := fun q => e (Sum.inr.inj q)
    rw [decide_eq_false h, decide_eq_false e]
theorem key_lr (a : Int) (b : Str) : decide ((Sum.inl a : Key) = Sum.inr b) = false := decide_eq_false (fun q => nomatch q)
theorem key_rl (a : Str) (b : Int) : decide ((Sum.inr a : Key) = Sum.inl b) = false := decide_eq_false (fun q => nomatch q)
def mixKind (prog : Program) (w : World) : PySem.KeyKind prog w Key where
  is := keyIs
  hash := keyH w
  inj := fun v a b ha hb => by
    rcases keyIs_shape ha with ⟨i, t, rfl, rfl⟩ | ⟨x, t, rfl, rfl⟩
    · rcases keyIs_shape hb with ⟨j, u, rfl, e⟩ | ⟨y, u, rfl, e⟩
      · injection e with e1 _; rw [e1]
      · exact nomatch e
    · rcases keyIs_shape hb with ⟨j, u, rfl, e⟩ | ⟨y, u, rfl, e⟩
      · exact nomatch e
      · injection e with e1 _; rw [e1]
  byValue := fun k v h => by
    rcases keyIs_shape h with ⟨i, t, rfl, rfl⟩ | ⟨x, t, rfl, rfl⟩ <;> rfl
  pyHash := fun hv h => by
    rcases keyIs_shape hv with ⟨i, t, rfl, rfl⟩ | ⟨x, t, rfl, rfl⟩
    · exact wpAny_pyHash_int h
    · exact wpAny_pyHash_str h
  eqBool := fun hu hv h => by
    rcases keyIs_shape hu with ⟨i, t, rfl, rfl⟩ | ⟨x, t, rfl, rfl⟩
    · rcases keyIs_shape hv with ⟨j, u, rfl, rfl⟩ | ⟨y, u, rfl, rfl⟩
      · rw [key_ll] at h; exact wpAny_eqBool_int h
      · rw [key_lr] at h; exact SeqAt.EqAt.int_str i t y u _ _ _ _ h
    · rcases keyIs_shape hv with ⟨j, u, rfl, rfl⟩ | ⟨y, u, rfl, rfl⟩
      · rw [key_rl] at h; exact SeqAt.EqAt.str_int x t j u _ _ _ _ h
      · rw [key_rr] at h; exact wpAny_eqBool_str h
  «strs» := fun k x t v h => by
    rcases keyIs_shape h with ⟨i, u, rfl, e⟩ | ⟨y, u, rfl, e⟩
    · exact nomatch e
    · injection e with e1 _
      subst e1
      cases v <;> rfl
theorem mixKind_int (prog : Program) (w : World) (i : Int) (t : Tok) : (mixKind prog w).is (.inl i) (.int i t) = true := keyIs_int i t
theorem mixKind_str (prog : Program) (w : World) (x : Str) (t : Tok) : (mixKind prog w).is (.inr x) (.str x t) = true := keyIs_str x t
end L2
namespace L2
open PySem PySem.Spec PyProof.Rows
inductive V where
  | non | bl (b : Bool) | int (i : Int) | str (x : Str) | byt (b : Array UInt8) | flt (b : UInt64) | ref (a : Addr) | ty (n : String)
  deriving DecidableEq
def RelV : V → Value → Prop
  | .non, u => u = Value.none
  | .bl b, u => u = Value.bool b
  | .int i, u => ∃ t, u = Value.int i t
  | .str x, u => ∃ t, u = Value.str x t
  | .byt b, u => ∃ t, u = Value.bytes b t
  | .flt b, u => ∃ t, u = Value.float b t
  | .ref a, u => u = Value.ref a
  | .ty n, u => u = Value.type n
abbrev Vals : List V → List Value → Prop := Paired RelV
theorem Vals.length {xs : List V} {us : List Value} (r : Vals xs us) : xs.length = us.length := Paired.length r
theorem Vals.get : ∀ {xs : List V} {us : List Value} {i : Nat} {x : V}, Vals xs us → xs[i]? = some x → ∃ u, us[i]? = some u ∧ RelV x u
  | _, _, _, _, .nil, e => by simp at e
  | _, _, 0, _, .cons r _, e => by simp at e; subst e; exact ⟨_, rfl, r⟩
  | _, _, i + 1, x, .cons _ t, e => by
    obtain ⟨u, h1, h2⟩ := Vals.get (i := i) (x := x) t (by simpa using e)
    exact ⟨u, by simpa using h1, h2⟩
theorem Vals.append : ∀ {xs ys : List V} {us ws : List Value}, Vals xs us → Vals ys ws → Vals (xs ++ ys) (us ++ ws)
  | _, _, _, _, .nil, s => s
  | _, _, _, _, .cons r t, s => .cons r (Vals.append t s)
def RelO : Option V → Option Value → Prop
  | some v, some u => RelV v u
  | none, none => True
  | _, _ => False
def KV {κ : Type} : List (κ × V) → List (κ × Value) → Prop := Paired fun (p : κ × V) (q : κ × Value) => p.1 = q.1 ∧ RelV p.2 q.2
def kV : Key → V
  | .inl i => .int i
  | .inr x => .str x
inductive HO where
    | lst (xs : List V)
    | tup (xs : List V)
    | dK (kvs : List (Key × V)) | dT (kvs : List (List Key × V))
    | set (S : Int → Bool) (n : Nat)
    | ins (C dx : Addr) (fs : List (Str × V))
    | own (x : Addr)
    | xd (fs : List (Str × V))
    | met (f x : Addr)
    | rng (lo hi : Int)
    | frz (o : Obj) (u : HO)
    | tbl (ps : Array Value)
    | ext (φ : Heap → Prop)
abbrev Hp := Addr → Option HO
def upd (H : Hp) (a : Addr) (o : HO) : Hp := fun b => if b = a then some o else H b
theorem upd_same {H : Hp} {a : Addr} {o : HO} : upd H a o a = some o := by unfold upd; rw [if_pos rfl]
theorem upd_ne {H : Hp} {a b : Addr} {o : HO} (h : b ≠ a) : upd H a o b = H b := by unfold upd; rw [if_neg h]
theorem upd_upd {H : Hp} {a : Addr} {o u : HO} : upd (upd H a o) a u = upd H a u := by
  funext b; unfold upd; split <;> rfl
theorem ne_of {H : Hp} {a b : Addr} {o u : HO} (h : H a = some o) (h' : H b = some u) (d : o ≠ u) : a ≠ b := by
  intro e; subst e; rw [h] at h'; exact d (Option.some.inj h')
theorem ne_of_none {H : Hp} {a b : Addr} {o : HO} (h : H a = some o) (h' : H b = none) : a ≠ b := by
  intro e; subst e; rw [h] at h'; cases h'
section
variable (P : Program) (w : World)
def ObjOk (H : Hp) (h : Heap) (a : Addr) : HO → Prop
  | .lst xs => xs.length ≤ sizeLine ∧ ∃ (its : List Value) (n : Nat), Vals xs its ∧ h.get? a = some { cls := .type "list", data := .seq its.toArray n }
  | .tup xs => xs.length ≤ sizeLine ∧ ∃ its : List Value, Vals xs its ∧ IsTup h a its.toArray
  | .dK kvs => kvs.length ≤ sizeLine ∧ (a == sysModules) = false ∧ ∃ vs, KV kvs vs ∧ h.DictOf (mixKind P w) a vs
  | .dT kvs => kvs.length ≤ sizeLine ∧ (a == sysModules) = false ∧ ∃ xs : List (List Key × Addr × Value),
      Paired (fun (p : List Key × V) (q : List Key × Addr × Value) => p.1 = q.1 ∧ H q.2.1 = some (.tup (p.1.map kV)) ∧ RelV p.2 q.2.2) kvs xs ∧
      ∃ o es ep, h.get? a = some o ∧ o.ExactDict ∧ o.data = .dict es ep ∧ es.toList = xs.map (entryOfKey (tupleKind (mixKind P w))) ∧ (xs.map (·.1)).Nodup
  | .set S n => h.SetOf (intKind P w) a S n
  | .ins C dx fs => H dx = some (.own a) ∧ fs.length ≤ 1000 ∧ dx ≠ a ∧ h.get? a = some (PySem.W.instObj C dx) ∧
      ∃ mA, h.Ns1 dx mA ∧ (∀ f, RelO (fs.lookup f) (mA f)) ∧ PySem.Within mA (fs.map (·.1))
  | .own _ => ∃ o, h.get? a = some o
  | .xd fs => ∃ mA, h.Ns1 a mA ∧ ∀ f, RelO (fs.lookup f) (mA f)
  | .rng lo hi => ∃ t u v, h.get? a = some { cls := .type "range", data := .fields #[.int lo t, .int hi u, .int 1 v] }
  | .frz o u => h.get? a = some o ∧ ObjOk H h a u
  | .tbl ps => h.get? a = some { cls := .none, data := .fields ps }
  | .met f x => h.get? a = some (PySem.W.methodObj (.ref f) (.ref x))
  | .ext φ => φ h ∧ (∃ o, h.get? a = some o) ∧ ∀ h1 h2 : Heap, φ h1 → (∀ o, h1.get? a = some o → h2.get? a = some o) → φ h2
def HOk (H : Hp) (h : Heap) : Prop := ∀ a o, H a = some o → ObjOk P w H h a o
end
section
variable {P : Program} {w : World} {H H' : Hp} {h h' : Heap} {a : Addr} {o : HO}
theorem ObjOk.lt (x : ObjOk P w H h a o) : a < h.objs.size := by
  cases o with
  | lst xs => obtain ⟨_, _, _, _, e⟩ := x; exact Heap.lt_size e
  | tup xs => obtain ⟨_, _, _, p⟩ := x; exact p.lt
  | dK kvs => obtain ⟨_, _, _, _, o, _, _, e, _⟩ := x; exact Heap.lt_size e
  | dT kvs => obtain ⟨_, _, _, _, o, _, _, e, _⟩ := x; exact Heap.lt_size e
  | set S n => obtain ⟨o, _, _, _, e, _⟩ := x; exact Heap.lt_size e
  | ins C dx fs => obtain ⟨_, _, _, e, _⟩ := x; exact Heap.lt_size e
  | own y => obtain ⟨_, e⟩ := x; exact Heap.lt_size e
  | xd fs => obtain ⟨_, ⟨_, _, _, e, _⟩, _⟩ := x; exact Heap.lt_size e
  | rng lo hi => obtain ⟨_, _, _, e⟩ := x; exact Heap.lt_size e
  | frz ob u => obtain ⟨e, _⟩ := x; exact Heap.lt_size e
  | tbl ps => exact Heap.lt_size (show h.get? a = some _ from x)
  | met f y => exact Heap.lt_size (show h.get? a = some _ from x)
  | ext φ => obtain ⟨_, ⟨_, e⟩, _⟩ := x; exact Heap.lt_size e
theorem Paired.mapP {α β : Type} {F G : α → β → Prop} : ∀ {l₁ : List α} {l₂ : List β}, Paired F l₁ l₂ → (∀ a b, F a b → G a b) → Paired G l₁ l₂
  | _, _, .nil, _ => .nil
  | _, _, .cons r t, f => .cons (f _ _ r) (Paired.mapP t f)
theorem ObjOk.stay (x : ObjOk P w H h a o) (k : ∀ b u, (b = a ∨ H b = some (.own a)) → h.get? b = some u → h'.get? b = some u)
    (ho : ∀ b, H b = some (.own a) → H' b = some (.own a)) (ht : ∀ b xs, H b = some (.tup xs) → H' b = some (.tup xs)) : ObjOk P w H' h' a o := by
  induction o with
  | lst xs => obtain ⟨z, its, n, r, e⟩ := x; exact ⟨z, its, n, r, k _ _ (.inl rfl) e⟩
  | tup xs => obtain ⟨z, its, r, ob, e, c⟩ := x; exact ⟨z, its, r, ob, k _ _ (.inl rfl) e, c⟩
  | dK kvs => obtain ⟨z, y, vs, r, ob, es, ep, e, c⟩ := x; exact ⟨z, y, vs, r, ob, es, ep, k _ _ (.inl rfl) e, c⟩
  | dT kvs =>
    obtain ⟨z, y, xs, r, ob, es, ep, e, c⟩ := x
    exact ⟨z, y, xs, Paired.mapP r fun p q z => ⟨z.1, ht _ _ z.2.1, z.2.2⟩, ob, es, ep, k _ _ (.inl rfl) e, c⟩
  | set S n => obtain ⟨ob, es, ep, t, e, c⟩ := x; exact ⟨ob, es, ep, t, k _ _ (.inl rfl) e, c⟩
  | ins C dx fs =>
    obtain ⟨d, z, ne, e, mA, ⟨od, es, ep, e2, c⟩, r⟩ := x
    exact ⟨ho _ d, z, ne, k _ _ (.inl rfl) e, mA, ⟨od, es, ep, k _ _ (.inr d) e2, c⟩, r⟩
  | own y => obtain ⟨ob, e⟩ := x; exact ⟨ob, k _ _ (.inl rfl) e⟩
  | xd fs => obtain ⟨mA, ⟨od, es, ep, e, c⟩, r⟩ := x; exact ⟨mA, ⟨od, es, ep, k _ _ (.inl rfl) e, c⟩, r⟩
  | rng lo hi => obtain ⟨t, u, v, e⟩ := x; exact ⟨t, u, v, k _ _ (.inl rfl) e⟩
  | frz ob u ih => obtain ⟨e, q⟩ := x; exact ⟨k _ _ (.inl rfl) e, ih q⟩
  | tbl ps =>
    have e : h.get? a = some { cls := .none, data := .fields ps } := x
    show h'.get? a = some { cls := .none, data := .fields ps }
    exact k a _ (.inl rfl) e
  | met f y =>
    have e : h.get? a = some (PySem.W.methodObj (.ref f) (.ref y)) := x
    show h'.get? a = some (PySem.W.methodObj (.ref f) (.ref y))
    exact k a _ (.inl rfl) e
  | ext φ => obtain ⟨p, ⟨o, e⟩, st⟩ := x; exact ⟨st _ _ p fun o q => k _ _ (.inl rfl) q, ⟨o, k _ _ (.inl rfl) e⟩, st⟩
theorem HOk.lt (x : HOk P w H h) (e : H a = some o) : a < h.objs.size := (x a o e).lt
theorem HOk.fresh (x : HOk P w H h) (e : h.objs.size ≤ a) : H a = none := by
  cases q : H a with
  | none => rfl
  | some u => exact absurd (Nat.lt_of_lt_of_le (x.lt q) e) (Nat.lt_irrefl _)
theorem HOk.kept (x : HOk P w H h) (k : ∀ b u, h.get? b = some u → h'.get? b = some u) : HOk P w H h' := fun a o e =>
  (x a o e).stay (fun b u _ q => k b u q) (fun _ q => q) fun _ _ q => q
theorem HOk.laid (x : HOk P w H h) (k : ∀ b u, h.get? b = some u → h'.get? b = some u) (hp : h.objs.size ≤ a) (new : ObjOk P w (upd H a o) h' a o) : HOk P w (upd H a o) h' := fun b u e => by
  have hn := x.fresh hp
  by_cases hb : b = a
  · subst hb; rw [upd_same] at e; cases e; exact new
  · rw [upd_ne hb] at e
    exact (x b u e).stay (fun c v _ q => k c v q) (fun c q => by rw [upd_ne (ne_of_none q hn)]; exact q) fun c xs q => by rw [upd_ne (ne_of_none q hn)]; exact q
end
def Rd (H : Hp) (a : Addr) (u : HO) : Prop := H a = some u ∨ ∃ o, H a = some (.frz o u)
theorem Rd.ok {P : Program} {w : World} {H : Hp} {h : Heap} {a : Addr} {u : HO} (r : Rd H a u) (x : HOk P w H h) : ObjOk P w H h a u := by
  rcases r with r | ⟨o, r⟩
  · exact x a u r
  · obtain ⟨_, q⟩ := x a _ r
    exact q
def Mut : Option HO → Prop
  | some (.lst _) => True
  | some (.dK _) => True
  | some (.dT _) => True
  | some (.set _ _) => True
  | some (.ins _ _ _) => True
  | some (.ext _) => True
  | _ => False
section
variable {P : Program} {w : World} {H : Hp} {h h' : Heap} {x e : Addr} {o' : HO}
theorem HOk.write (ok : HOk P w H h) (mu : Mut (H x)) (he : e = x ∨ H e = some (.own x)) (k : ∀ b u, b ≠ e → h.get? b = some u → h'.get? b = some u) (heo : ∃ u, h'.get? e = some u)
    (new : ObjOk P w (upd H x o') h' x o') : HOk P w (upd H x o') h' := fun b u q => by
  have nown : ∀ c y, H c = some (.own y) → c ≠ x := fun c y r z => by subst z; rw [r] at mu; exact mu
  have ntup : ∀ c xs, H c = some (.tup xs) → c ≠ x := fun c xs r z => by subst z; rw [r] at mu; exact mu
  by_cases hb : b = x
  · subst hb; rw [upd_same] at q; cases q; exact new
  · rw [upd_ne hb] at q
    by_cases hbe : b = e
    · have q' : H b = some (.own x) := by
        rcases he with z | z
        · exact absurd (hbe.trans z) hb
        · rw [hbe]; exact z
      rw [q] at q'; cases q'
      obtain ⟨v, hv⟩ := heo
      exact ⟨v, by rw [hbe]; exact hv⟩
    · refine (ok b u q).stay (fun c v hc r => k c v ?_ r) (fun c r => by rw [upd_ne (nown c b r)]; exact r) fun c xs r => by rw [upd_ne (ntup c xs r)]; exact r
      rcases hc with rfl | hc
      · exact hbe
      · rintro rfl
        rcases he with z | z
        · exact nown c b hc z
        · rw [hc] at z; cases z; exact hb rfl
end
structure Un (fs ex : List Addr) (H H' : Hp) (h h' : Heap) : Prop where
  keep : ∀ b o, h.get? b = some o → H b = none → b ∉ fs → b ∉ ex → h'.get? b = some o
  slot : ∀ b o, h.get? b = some o → H b = none → b ∈ fs → b ∉ ex → ∃ sl, h'.get? b = some { o with slots := sl }
  free : ∀ b o, h.get? b = some o → H b = none → b ∉ ex → H' b = none
  there : ∀ b o, h.get? b = some o → b ∉ ex → ∃ o', h'.get? b = some o'
  tups : ∀ b xs, H b = some (.tup xs) → H' b = some (.tup xs)
  frzs : ∀ b o u, H b = some (.frz o u) → H' b = some (.frz o u)
  tbls : ∀ b ps, H b = some (.tbl ps) → ∃ more, H' b = some (.tbl (ps ++ more))
section
variable {fs fs' ex ex' : List Addr} {H H1 H2 : Hp} {h h1 h2 h' : Heap} {a x e : Addr} {o : HO}
theorem Un.any (u : Un fs ex H H1 h h1) {b : Addr} {ob : Obj} (q : h.get? b = some ob) (n : H b = none) (hx : b ∉ ex) : ∃ sl, h1.get? b = some { ob with slots := sl } := by
  by_cases hb : b ∈ fs
  · exact u.slot b ob q n hb hx
  · exact ⟨ob.slots, u.keep b ob q n hb hx⟩
theorem Un.kept (k : ∀ b u, h.get? b = some u → h'.get? b = some u) : Un fs ex H H h h' :=
  ⟨fun b ob q _ _ _ => k b ob q, fun b ob q _ _ _ => ⟨ob.slots, k b ob q⟩, fun _ _ _ n _ => n, fun b ob q _ => ⟨ob, k b ob q⟩, fun _ _ q => q, fun _ _ _ q => q, fun _ ps q => ⟨#[], by rw [q]; simp⟩⟩
theorem Un.refl : Un fs ex H H h h := Un.kept fun _ _ q => q
theorem Un.laid (k : ∀ b u, h.get? b = some u → h'.get? b = some u) (hp : h.objs.size ≤ a) (hn : H a = none) : Un fs ex H (upd H a o) h h' where
  keep := fun b u q _ _ _ => k b u q
  slot := fun b u q _ _ _ => ⟨u.slots, k b u q⟩
  free := fun b u q n _ => by rw [upd_ne (Nat.ne_of_lt (Nat.lt_of_lt_of_le (Heap.lt_size q) hp))]; exact n
  there := fun b u q _ => ⟨u, k b u q⟩
  tups := fun b xs q => by rw [upd_ne (ne_of_none q hn)]; exact q
  frzs := fun b u xs q => by rw [upd_ne (ne_of_none q hn)]; exact q
  tbls := fun b ps q => ⟨#[], by rw [upd_ne (ne_of_none q hn), q]; simp⟩
theorem Un.write (mu : Mut (H x)) (he : e = x ∨ H e = some (.own x)) (k : ∀ b u, b ≠ e → h.get? b = some u → h'.get? b = some u) (heo : ∃ u, h'.get? e = some u) : Un fs ex H (upd H x o) h h' := by
  have hx : ∀ b, H b = none → b ≠ x := fun b n z => by subst z; rw [n] at mu; exact mu
  have hb : ∀ b, H b = none → b ≠ e := fun b n z => by
    subst z
    rcases he with r | r
    · exact hx b n r
    · rw [n] at r; cases r
  have hm : ∀ b u, H b = some u → ¬ Mut (some u) → b ≠ x := fun b u q nm z => by subst z; rw [q] at mu; exact nm mu
  refine ⟨fun b u q n _ _ => k b u (hb b n) q, fun b u q n _ _ => ⟨u.slots, k b u (hb b n) q⟩, fun b u q n _ => by rw [upd_ne (hx b n)]; exact n, fun b u q _ => ?_,
    fun b xs q => by rw [upd_ne (hm b _ q fun z => z)]; exact q, fun b u xs q => by rw [upd_ne (hm b _ q fun z => z)]; exact q, fun b ps q => ⟨#[], by rw [upd_ne (hm b _ q fun z => z), q]; simp⟩⟩
  by_cases hbe : b = e
  · subst hbe; exact heo
  · exact ⟨u, k b u hbe q⟩
end
def trk (h : Heap) (H : Hp) : List Addr := (List.range h.objs.size).filter fun a => (H a).isSome
def hidT (h : Heap) (H : Hp) : Heap := PySem.W.hideAll h (trk h H)
theorem hidT_size (h : Heap) (H : Hp) : (hidT h H).objs.size = h.objs.size := PySem.W.hideAll_size _ _
theorem hidT_get {h : Heap} {H : Hp} {b : Addr} {o : Obj} (e : h.get? b = some o) (n : H b = none) : (hidT h H).get? b = some o :=
  PySem.W.hideAll_get _ e fun hm => by
    have q : (H b).isSome = true := (List.mem_filter.mp hm).2
    rw [n] at q; simp at q
theorem of_hidT {h : Heap} {H : Hp} {b : Addr} {o : Obj} (e : (hidT h H).get? b = some o) : h.get? b = some o ∧ H b = none := by
  have e' : h.get? b = some o := PySem.W.of_hideAll (trk h H) e
  refine ⟨e', ?_⟩
  cases q : H b with
  | none => rfl
  | some x =>
    have hm : b ∈ trk h H := List.mem_filter.mpr ⟨List.mem_range.mpr (Heap.lt_size e'), by simp [q]⟩
    have z : (hidT h H).get? b = none := PySem.W.hideAll_none (trk h H) hm
    rw [z] at e; cases e
def allNews (g h : Heap) (L : Addr) : List (Addr × Obj) := (List.range h.objs.size).filterMap fun a => if a = L ∨ (g.get? a).isSome = true then none else (h.get? a).map fun o => (a, o)
def rest (g h : Heap) (L d : Addr) : List (Addr × Obj) := (allNews g h L).filter fun p => decide (p.1 ≠ d)
end L2
namespace L2
open PySem PySem.Spec PyProof.Rows
structure Mod (K : PySem.W.Frag) (mg : Str → Option Value) (base : Heap) : Prop where
  kin : K.In base
  glob : base.Ns mainGlobals mg
  blt : ∃ mb, base.Ns builtinsNs mb ∧ ∀ x : Str, x ≠ "__name__" → mb x = bootBuiltins x
  nolimit : base.NoLimit
structure Cx where
  prog : Program
  w : World
  K : PySem.W.Frag
  mg : Str → Option Value
  base : Heap
  A : Around
  N : List Str
  s₀ : Shared
  H₀ : Hp
  env : Env
  outer : List Env
  stack : List Env
  ex : List Addr
  fn : Str → Bool
  calm : Bool
  pn : List (Addr × Obj)
  xe : Value → Shared → Prop
def frs (l : List Env) : List Addr := l.filterMap (·.frame)
abbrev Cx.fs (X : Cx) : List Addr := frs X.outer
def Vis (sc : Scope) (x : Str) : Prop := sc.names.lookup x = some .local ∨ sc.names.lookup x = some .cell ∨ sc.names.lookup x = some .free
def Loc (sc : Scope) (x : Str) : Prop := sc.names.lookup x = some .local ∨ sc.names.lookup x = some .cell
def Look (env : Env) (h : Heap) (m : Str → Option Value) (x : Str) (u : Value) : Prop :=
  (env.kindOf x = some .local ∧ m x = some u) ∨ ((env.kindOf x = some .cell ∨ env.kindOf x = some .free) ∧ ∃ c, env.cells.lookup x = some c ∧ h.IsCell c (some u))
structure Cx.Ok (X : Cx) : Prop where
  mod : Mod X.K X.mg X.base
  kind : X.env.scope.kind = .function
  glob : X.env.globals = mainGlobals
  blt : X.env.builtins = builtinsNs
  above : X.s₀.heap.objs.size ≤ X.env.locals
  inj : ∀ x y c, X.env.cells.lookup x = some c → X.env.cells.lookup y = some c → x = y
  has : ∀ x, (X.env.kindOf x = some .cell ∨ X.env.kindOf x = some .free) → ∃ c, X.env.cells.lookup x = some c
  cab : ∀ x c, X.fn x = true → X.env.cells.lookup x = some c → X.s₀.heap.objs.size ≤ c
  hd : X.calm = true → X.A.handled = none
  frames : X.A.frames = some X.stack
  stk : X.stack = X.outer ∨ (X.stack = X.env :: X.outer ∧ X.env.frame = some X.env.locals)
  exf : ∀ b ∈ X.ex, b ≠ X.env.locals ∧ ∀ x c, X.env.cells.lookup x = some c → c ≠ b
  bs : ∀ b o, X.base.get? b = some o → X.s₀.heap.get? b = some o ∧ X.H₀ b = none
  bsz : X.base.objs.size ≤ X.s₀.heap.objs.size
  noex : ∀ b o, X.base.get? b = some o → b ∉ X.ex
  exfs : ∀ b ∈ X.ex, b ∉ X.fs
  funs : X.s₀.heap.FunFrames X.base X.outer
  frf : ∀ b ∈ X.fs, X.H₀ b = none
structure Inv (X : Cx) (pins : List (Addr × Obj)) (σ : List (Option V)) (H : Hp) (s : Shared) : Prop where
  ok : X.Ok
  os : s.os = X.s₀.os
  bare : AllBare s.gens
  base : Un X.fs X.ex X.H₀ H X.s₀.heap s.heap
  loc : ∃ m, s.heap.Ns X.env.locals m ∧ ∀ (i : Nat) (x : Str) (v : V), X.N[i]? = some x → σ[i]? = some (some v) → Vis X.env.scope x → ∃ u, RelV v u ∧ Look X.env s.heap m x u
  cell : ∀ x c, X.env.cells.lookup x = some c → ∃ v, s.heap.IsCell c v
  free : H X.env.locals = none
  freeC : ∀ x c, X.env.cells.lookup x = some c → H c = none
  pin : ∀ p ∈ X.pn ++ pins, s.heap.get? p.1 = some p.2 ∧ H p.1 = none ∧ p.1 ≠ X.env.locals ∧ p.1 ∉ X.fs ∧ ∀ v, p.2.data ≠ .cell v
  hok : HOk X.prog X.w H s.heap
  len : σ.length = X.N.length
section
variable {X : Cx} {pins : List (Addr × Obj)} {σ : List (Option V)} {H H' : Hp} {s : Shared} {h' : Heap}
theorem Cx.Ok.nofr (ok : X.Ok) {b : Addr} {o : Obj} (e : X.base.get? b = some o) : b ∉ X.fs := fun hb => by
  have := (ok.funs.mem hb).1
  rw [e] at this; cases this
theorem Inv.bs (I : Inv X pins σ H s) : ∀ b o, X.base.get? b = some o → s.heap.get? b = some o ∧ H b = none := fun b o e =>
  ⟨I.base.keep b o (I.ok.bs b o e).1 (I.ok.bs b o e).2 (I.ok.nofr e) (I.ok.noex b o e), I.base.free b o (I.ok.bs b o e).1 (I.ok.bs b o e).2 (I.ok.noex b o e)⟩
theorem Inv.bk (I : Inv X pins σ H s) : ∀ b o, X.base.get? b = some o → s.heap.get? b = some o := fun b o e => (I.bs b o e).1
theorem Inv.mod (I : Inv X pins σ H s) : Mod X.K X.mg X.base := I.ok.mod
theorem Inv.kIn (I : Inv X pins σ H s) : X.K.In s.heap := I.ok.mod.kin.keeps I.bk
theorem Inv.lt (I : Inv X pins σ H s) : X.env.locals < s.heap.objs.size := let ⟨_, hn, _⟩ := I.loc; hn.lt
theorem Inv.sz (I : Inv X pins σ H s) : X.s₀.heap.objs.size ≤ s.heap.objs.size := Nat.le_trans I.ok.above (Nat.le_of_lt I.lt)
theorem Inv.nofs (I : Inv X pins σ H s) {a : Addr} (h : s.heap.objs.size ≤ a) : a ∉ X.fs := fun hb => by
  obtain ⟨_, o, ho, _⟩ := I.ok.funs.mem hb
  exact absurd (Nat.lt_of_lt_of_le (Heap.lt_size ho) (Nat.le_trans I.sz h)) (Nat.lt_irrefl _)
theorem Inv.cne (I : Inv X pins σ H s) : ∀ x c, X.env.cells.lookup x = some c → c ≠ X.env.locals := fun x c e z => by
  obtain ⟨v, o, ho, hd⟩ := I.cell x c e
  obtain ⟨m, ⟨o', es, ep, ho', hd', _⟩, _⟩ := I.loc
  rw [z, ho'] at ho; cases ho; rw [hd'] at hd; cases hd
theorem Inv.funs (I : Inv X pins σ H s) : s.heap.FunFrames X.base X.outer := by
  have all : ∀ (l : List Env), (∀ b ∈ frs l, b ∈ X.fs) → X.s₀.heap.FunFrames X.base l → s.heap.FunFrames X.base l := by
    intro l
    induction l with
    | nil => intro _ _; trivial
    | cons env r ih =>
      intro hs hl
      obtain ⟨hk, ⟨L, o, hf, hn, ho, hd⟩, hr⟩ := hl
      have hL : L ∈ X.fs := hs L (by unfold frs; rw [List.filterMap_cons, hf]; exact List.mem_cons_self)
      obtain ⟨sl, e⟩ := I.base.slot L o ho (I.ok.frf L hL) hL fun z => I.ok.exfs L z hL
      exact ⟨hk, ⟨L, _, hf, hn, e, hd⟩, ih (fun b hb => hs b (by unfold frs; rw [List.filterMap_cons, hf]; exact List.mem_cons_of_mem _ hb)) hr⟩
  exact all X.outer (fun _ hb => hb) I.ok.funs
theorem Inv.stack (I : Inv X pins σ H s) : s.heap.FunFrames X.base X.stack := by
  rcases I.ok.stk with e | ⟨e, hf⟩
  · rw [e]; exact I.funs
  · rw [e]
    obtain ⟨m, hn, _⟩ := I.loc
    refine .cons (by rw [I.ok.kind]; decide) hf hn ?_ I.funs
    exact Heap.get?_none_of_le (Nat.le_trans I.ok.bsz I.ok.above)
theorem Inv.stkSub (I : Inv X pins σ H s) : ∀ b ∈ frs X.stack, b ∈ X.env.locals :: X.fs := fun b hb => by
  rcases I.ok.stk with e | ⟨e, hf⟩
  · rw [e] at hb; exact List.mem_cons_of_mem _ hb
  · rw [e] at hb
    unfold frs at hb
    rw [List.filterMap_cons, hf] at hb
    exact hb
theorem Inv.stkFree (I : Inv X pins σ H s) : ∀ b ∈ frs X.stack, H b = none := fun b hb => by
  rcases List.mem_cons.mp (I.stkSub b hb) with e | hb
  · rw [e]; exact I.free
  · obtain ⟨_, o, ho, _⟩ := I.ok.funs.mem hb
    exact I.base.free b o ho (I.ok.frf b hb) fun z => I.ok.exfs b z hb
theorem Inv.step {g' : Array GenState} {t' : Nat} {d' : Drawn} {ch : List Addr} (I : Inv X pins σ H s)
    (hch : ∀ b ∈ ch, (b ∈ X.ex ∨ X.s₀.heap.objs.size ≤ b) ∧ b ≠ X.env.locals ∧ (∀ x c, X.env.cells.lookup x = some c → c ≠ b) ∧ ∀ p ∈ X.pn ++ pins, p.1 ≠ b)
    (keep : ∀ b o, b ≠ X.env.locals → b ∉ X.fs → b ∉ ch → s.heap.get? b = some o → H b = none → h'.get? b = some o)
    (slot : ∀ b o, b ≠ X.env.locals → b ∈ X.fs → b ∉ ch → s.heap.get? b = some o → H b = none → ∃ sl, h'.get? b = some { o with slots := sl }) (free : ∀ b o, b ∉ ch → s.heap.get? b = some o → H b = none → H' b = none)
    (there : ∀ b o, b ∉ ch → s.heap.get? b = some o → ∃ o', h'.get? b = some o')
    (tups : ∀ b xs, H b = some (.tup xs) → H' b = some (.tup xs)) (frzs : ∀ b o u, H b = some (.frz o u) → H' b = some (.frz o u)) (tbls : ∀ b ps, H b = some (.tbl ps) → ∃ more, H' b = some (.tbl (ps ++ more)))
    (ns : ∀ m, s.heap.Ns X.env.locals m → h'.Ns X.env.locals m) (hok : HOk X.prog X.w H' h') (hg : AllBare g') :
    Inv X pins σ H' { s with heap := h', gens := g', drawn := d', toks := t' } := by
  have neL : ∀ b o, X.s₀.heap.get? b = some o → b ≠ X.env.locals := fun b o e => Nat.ne_of_lt (Nat.lt_of_lt_of_le (Heap.lt_size e) I.ok.above)
  have neC : ∀ b o, X.s₀.heap.get? b = some o → b ∉ X.ex → b ∉ ch := fun b o e hx hb => by
    rcases (hch b hb).1 with z | z
    · exact hx z
    · exact absurd (Nat.lt_of_lt_of_le (Heap.lt_size e) z) (Nat.lt_irrefl _)
  have cellK : ∀ x c, X.env.cells.lookup x = some c → ∀ v, s.heap.IsCell c v → h'.IsCell c v := fun x c e v ⟨o, ho, hd⟩ => by
    have nch : c ∉ ch := fun z => (hch c z).2.2.1 x c e rfl
    by_cases hc : c ∈ X.fs
    · obtain ⟨sl, q⟩ := slot c o (I.cne x c e) hc nch ho (I.freeC x c e)
      exact ⟨_, q, hd⟩
    · exact ⟨o, keep c o (I.cne x c e) hc nch ho (I.freeC x c e), hd⟩
  refine ⟨I.ok, I.os, hg, ⟨fun b o e n hb hx => ?_, fun b o e n hb hx => ?_, fun b o e n hx => ?_, fun b o e hx => ?_, fun b xs e => tups b xs (I.base.tups b xs e), fun b o xs e => frzs b o xs (I.base.frzs b o xs e), fun b ps e => ?_⟩, ?_, fun x c e => ?_, ?_, fun x c e => ?_, fun p hp => ?_, hok, I.len⟩
  · exact keep b o (neL b o e) hb (neC b o e hx) (I.base.keep b o e n hb hx) (I.base.free b o e n hx)
  · obtain ⟨sl, e1⟩ := I.base.slot b o e n hb hx
    obtain ⟨sl', e2⟩ := slot b _ (neL b o e) hb (neC b o e hx) e1 (I.base.free b o e n hx)
    exact ⟨sl', e2⟩
  · obtain ⟨o', e1⟩ := I.base.there b o e hx
    exact free b o' (neC b o e hx) e1 (I.base.free b o e n hx)
  · obtain ⟨o', e1⟩ := I.base.there b o e hx
    exact there b o' (neC b o e hx) e1
  · obtain ⟨m1, e1⟩ := I.base.tbls b ps e
    obtain ⟨m2, e2⟩ := tbls b _ e1
    exact ⟨m1 ++ m2, by rw [e2, Array.append_assoc]⟩
  · obtain ⟨m, hn, hl⟩ := I.loc
    refine ⟨m, ns m hn, fun i x v e1 e2 e3 => ?_⟩
    obtain ⟨u, r, l⟩ := hl i x v e1 e2 e3
    refine ⟨u, r, ?_⟩
    rcases l with l | ⟨k, c, e, z⟩
    · exact .inl l
    · exact .inr ⟨k, c, e, cellK x c e _ z⟩
  · obtain ⟨v, z⟩ := I.cell x c e
    exact ⟨v, cellK x c e v z⟩
  · obtain ⟨m, ⟨o, _, _, ho, _⟩, _⟩ := I.loc
    exact free _ o (fun z => (hch _ z).2.1 rfl) ho I.free
  · obtain ⟨v, o, ho, hd⟩ := I.cell x c e
    exact free c o (fun z => (hch c z).2.2.1 x c e rfl) ho (I.freeC x c e)
  · obtain ⟨e, n, ne, nf, d⟩ := I.pin p hp
    have nch : p.1 ∉ ch := fun z => (hch p.1 z).2.2.2 p hp rfl
    exact ⟨keep p.1 p.2 ne nf nch e n, free p.1 p.2 nch e n, ne, nf, d⟩
theorem Inv.un {t' : Nat} (I : Inv X pins σ H s) (u : Un X.fs [] H H' s.heap h') (hok : HOk X.prog X.w H' h') : Inv X pins σ H' { s with heap := h', toks := t' } := by
  obtain ⟨m, ⟨o, es, ep, ho, r⟩, _⟩ := id I.loc
  obtain ⟨sl, hL⟩ := u.any ho I.free (by simp)
  exact I.step (g' := s.gens) (d' := s.drawn) (ch := []) (fun _ z => nomatch z) (fun b o _ hb _ e n => u.keep b o e n hb (by simp)) (fun b o _ hb _ e n => u.slot b o e n hb (by simp)) (fun b o _ e n => u.free b o e n (by simp)) (fun b o _ e => u.there b o e (by simp)) u.tups u.frzs u.tbls (fun m' hm => by
    obtain ⟨o', es', ep', ho', r'⟩ := hm
    rw [ho] at ho'; cases ho'
    exact ⟨_, es', ep', hL, r'⟩) hok I.bare
theorem Inv.call {g' : Array GenState} {t' : Nat} {d' : Drawn} {ch : List Addr} (I : Inv X pins σ H s) (u : Un (frs X.stack) ch H H' s.heap h') (hok : HOk X.prog X.w H' h') (hg : AllBare g')
    (hch : ∀ b ∈ ch, (b ∈ X.ex ∨ X.s₀.heap.objs.size ≤ b) ∧ b ≠ X.env.locals ∧ (∀ x c, X.env.cells.lookup x = some c → c ≠ b) ∧ ∀ p ∈ X.pn ++ pins, p.1 ≠ b) :
    Inv X pins σ H' { s with heap := h', gens := g', drawn := d', toks := t' } := by
  obtain ⟨m, ⟨o, es, ep, ho, r⟩, _⟩ := id I.loc
  obtain ⟨sl, hL⟩ := u.any ho I.free fun z => (hch _ z).2.1 rfl
  exact I.step (ch := ch) hch (fun b o hL hb hc e n => u.keep b o e n (fun z => (List.mem_cons.mp (I.stkSub b z)).elim hL hb) hc) (fun b o _ _ hc e n => u.any e n hc) (fun b o hc e n => u.free b o e n hc) (fun b o hc e => u.there b o e hc) u.tups u.frzs u.tbls (fun m' hm => by
    obtain ⟨o', es', ep', ho', r'⟩ := hm
    rw [ho] at ho'; cases ho'
    exact ⟨_, es', ep', hL, r'⟩) hok hg
theorem Inv.turned {t' : Nat} {it : Addr} (I : Inv X pins σ H s) (k : ∀ b o, b ≠ it → s.heap.get? b = some o → h'.get? b = some o) (hn : H it = none) (hL : it ≠ X.env.locals)
    (h1 : it ∈ X.ex ∨ X.s₀.heap.objs.size ≤ it) (h2 : ∀ x c, X.env.cells.lookup x = some c → c ≠ it) (h3 : ∀ p ∈ X.pn ++ pins, p.1 ≠ it) : Inv X pins σ H { s with heap := h', toks := t' } := by
  have nit : ∀ b u, H b = some u → b ≠ it := fun b u e z => by rw [z, hn] at e; cases e
  refine I.step (g' := s.gens) (d' := s.drawn) (ch := [it]) (fun b hb => ?_) (fun b o _ _ hc e _ => k b o (fun z => hc (by simp [z])) e) (fun b o _ _ hc e _ => ⟨o.slots, k b o (fun z => hc (by simp [z])) e⟩) (fun _ _ _ _ n => n)
    (fun b o hc e => ⟨o, k b o (fun z => hc (by simp [z])) e⟩) (fun _ _ e => e) (fun _ _ _ e => e) (fun b ps e => ⟨#[], by rw [e]; simp⟩) (fun m hm => ?_) (fun b u e => ?_) I.bare
  · have e : b = it := by simpa using hb
    subst e
    exact ⟨h1, hL, h2, h3⟩
  · obtain ⟨o, es, ep, ho, r⟩ := hm
    exact ⟨o, es, ep, k _ o (Ne.symm hL) ho, r⟩
  · refine (I.hok b u e).stay (fun c v hc q => k c v ?_ q) (fun _ q => q) fun _ _ q => q
    rcases hc with z | z
    · rw [z]; exact nit b u e
    · exact nit c _ z
theorem Inv.tok (I : Inv X pins σ H s) (t : Nat) : Inv X pins σ H { s with toks := t } := I.un (h' := s.heap) (t' := t) Un.refl I.hok
theorem Inv.kept {t' : Nat} (I : Inv X pins σ H s) (k : ∀ b u, s.heap.get? b = some u → h'.get? b = some u) : Inv X pins σ H { s with heap := h', toks := t' } := I.un (Un.kept k) (I.hok.kept k)
theorem Inv.laid {a : Addr} {o : HO} {t' : Nat} (I : Inv X pins σ H s) (k : ∀ b u, s.heap.get? b = some u → h'.get? b = some u) (hp : s.heap.objs.size ≤ a) (new : ObjOk X.prog X.w (upd H a o) h' a o) :
    Inv X pins σ (upd H a o) { s with heap := h', toks := t' } := I.un (Un.laid k hp (I.hok.fresh hp)) (I.hok.laid k hp new)
theorem Inv.write {x e : Addr} {o : HO} {t' : Nat} (I : Inv X pins σ H s) (mu : Mut (H x)) (he : e = x ∨ H e = some (.own x)) (k : ∀ b u, b ≠ e → s.heap.get? b = some u → h'.get? b = some u) (heo : ∃ u, h'.get? e = some u)
    (new : ObjOk X.prog X.w (upd H x o) h' x o) : Inv X pins σ (upd H x o) { s with heap := h', toks := t' } := I.un (Un.write mu he k heo) (I.hok.write mu he k heo new)
theorem Inv.pins_of {pins' : List (Addr × Obj)} (I : Inv X pins σ H s) (h : ∀ p ∈ pins', s.heap.get? p.1 = some p.2 ∧ H p.1 = none ∧ p.1 ≠ X.env.locals ∧ p.1 ∉ X.fs ∧ ∀ v, p.2.data ≠ .cell v) : Inv X pins' σ H s :=
  ⟨I.ok, I.os, I.bare, I.base, I.loc, I.cell, I.free, I.freeC, fun p hp => (List.mem_append.mp hp).elim (fun z => I.pin p (List.mem_append_left _ z)) (h p), I.hok, I.len⟩
theorem nodup_ix {N : List Str} (hN : N.Nodup) {i j : Nat} {x : Str} (a : N[i]? = some x) (b : N[j]? = some x) : i = j := by
  obtain ⟨h1, e1⟩ := List.getElem?_eq_some_iff.mp a
  obtain ⟨h2, e2⟩ := List.getElem?_eq_some_iff.mp b
  exact (List.getElem_inj hN).mp (e1.trans e2.symm)
theorem store_ok2 {M : Model} {A : Around} {E : Value → Shared → Prop} {i : Nat} {x : Str} {v : V} {u : Value} {Q : Unit → Shared → Prop} (I : Inv X pins σ H s) (hN : X.N.Nodup) (hi : X.N[i]? = some x) (hx : Loc X.env.scope x) (r : RelV v u)
    (h : ∀ s', Inv X pins (σ.set i (some v)) H s' → (∃ a, Heap.SameBut a s.heap s'.heap ∧ (a = X.env.locals ∨ X.env.cells.lookup x = some a)) → Q () s') (hf : X.fn x = true ∨ X.env.scope.names.lookup x = some .local := by first | exact .inl rfl | exact .inr rfl | assumption) : wpAny M A (storeName X.env x u) Q E s := by
  obtain ⟨m, hn, hl⟩ := id I.loc
  have hcls : (X.env.scope.kind == .class || (X.env.scope.kind == .module && X.env.locals != X.env.globals)) = false := by rw [I.ok.kind]; rfl
  have hiσ : i < σ.length := by rw [I.len]; exact (List.getElem?_eq_some_iff.mp hi).1
  have cne := I.cne
  have tracked : ∀ {a : Addr} {h' : Heap}, (∃ o, s.heap.get? a = some o ∧ H a = none) → Heap.SameBut a s.heap h' → HOk X.prog X.w H h' := fun {a h'} ha hs b ob e => by
    obtain ⟨_, _, hfree⟩ := ha
    refine (I.hok b ob e).stay (fun c w' hc q => (hs.2 c ?_).trans q) (fun _ q => q) fun _ _ q => q
    rintro rfl
    rcases hc with rfl | hc
    · rw [hfree] at e; cases e
    · rw [hfree] at hc; cases hc
  rcases hx with hk | hk
  · refine wpAny_storeName_local hk hn (fun h' hn' hs => ?_) hcls
    obtain ⟨oL, _, _, hoL, _⟩ := id hn
    refine h _ ⟨I.ok, I.os, I.bare, ⟨fun b o e n hb hx => ?_, fun b o e n hb hx => ?_, I.base.free, fun b o e hx => ?_, I.base.tups, I.base.frzs, I.base.tbls⟩, ⟨_, hn', fun j y v' e1 e2 e3 => ?_⟩, fun y c e => ?_, I.free, I.freeC, fun p hp => ?_, tracked ⟨oL, hoL, I.free⟩ hs, by simpa using I.len⟩ ⟨_, hs, .inl rfl⟩
    · exact (hs.2 b (Nat.ne_of_lt (Nat.lt_of_lt_of_le (Heap.lt_size e) I.ok.above))).trans (I.base.keep b o e n hb hx)
    · obtain ⟨sl, e1⟩ := I.base.slot b o e n hb hx
      exact ⟨sl, (hs.2 b (Nat.ne_of_lt (Nat.lt_of_lt_of_le (Heap.lt_size e) I.ok.above))).trans e1⟩
    · obtain ⟨o', e1⟩ := I.base.there b o e hx
      exact ⟨o', (hs.2 b (Nat.ne_of_lt (Nat.lt_of_lt_of_le (Heap.lt_size e) I.ok.above))).trans e1⟩
    · by_cases hj : j = i
      · subst hj
        rw [hi] at e1; cases e1
        rw [List.getElem?_set_self hiσ] at e2
        cases e2
        exact ⟨u, r, .inl ⟨hk, by simp⟩⟩
      · rw [List.getElem?_set_ne (Ne.symm hj)] at e2
        obtain ⟨u', r', q⟩ := hl j y v' e1 e2 e3
        refine ⟨u', r', ?_⟩
        rcases q with ⟨k, e⟩ | ⟨k, c, e, z⟩
        · refine .inl ⟨k, ?_⟩
          have : y ≠ x := fun e => hj (nodup_ix hN e1 (e ▸ hi))
          simp [this, e]
        · exact .inr ⟨k, c, e, z.sameBut hs (cne y c e)⟩
    · obtain ⟨w', z⟩ := I.cell y c e
      exact ⟨w', z.sameBut hs (cne y c e)⟩
    · obtain ⟨e, n, ne, nf, d⟩ := I.pin p hp
      exact ⟨(hs.2 p.1 ne).trans e, n, ne, nf, d⟩
  · have hfn : X.fn x = true := by
      rcases hf with z | z
      · exact z
      · rw [z] at hk; cases hk
    obtain ⟨c, hc⟩ := I.ok.has x (.inl hk)
    obtain ⟨w', z⟩ := I.cell x c hc
    refine wpAny_storeName_cell I.ok.kind hk hc z (fun h' hc' hs => ?_)
    obtain ⟨oc, hoc, hocd⟩ := id z
    refine h { s with heap := h' } ⟨I.ok, I.os, I.bare, ⟨fun b o e n hb hx => ?_, fun b o e n hb hx => ?_, I.base.free, fun b o e hx => ?_, I.base.tups, I.base.frzs, I.base.tbls⟩, ⟨m, hn.sameBut hs (Ne.symm (cne x c hc)), fun j y v' e1 e2 e3 => ?_⟩, fun y c' e => ?_, I.free, I.freeC, fun p hp => ?_, tracked ⟨oc, hoc, I.freeC x c hc⟩ hs, by simpa using I.len⟩ ⟨c, hs, .inr hc⟩
    · exact (hs.2 b (Nat.ne_of_lt (Nat.lt_of_lt_of_le (Heap.lt_size e) (I.ok.cab x c hfn hc)))).trans (I.base.keep b o e n hb hx)
    · obtain ⟨sl, e1⟩ := I.base.slot b o e n hb hx
      exact ⟨sl, (hs.2 b (Nat.ne_of_lt (Nat.lt_of_lt_of_le (Heap.lt_size e) (I.ok.cab x c hfn hc)))).trans e1⟩
    · obtain ⟨o', e1⟩ := I.base.there b o e hx
      exact ⟨o', (hs.2 b (Nat.ne_of_lt (Nat.lt_of_lt_of_le (Heap.lt_size e) (I.ok.cab x c hfn hc)))).trans e1⟩
    · by_cases hj : j = i
      · subst hj
        rw [hi] at e1; cases e1
        rw [List.getElem?_set_self hiσ] at e2
        cases e2
        exact ⟨u, r, .inr ⟨.inl hk, c, hc, hc'⟩⟩
      · rw [List.getElem?_set_ne (Ne.symm hj)] at e2
        obtain ⟨u', r', q⟩ := hl j y v' e1 e2 e3
        refine ⟨u', r', ?_⟩
        rcases q with q | ⟨k, c', e, z'⟩
        · exact .inl q
        · refine .inr ⟨k, c', e, z'.sameBut hs ?_⟩
          rintro rfl
          exact hj (nodup_ix hN e1 (I.ok.inj _ _ _ e hc ▸ hi))
    · by_cases hcc : c' = c
      · subst hcc; exact ⟨_, hc'⟩
      · obtain ⟨w2, z2⟩ := I.cell y c' e
        exact ⟨w2, z2.sameBut hs hcc⟩
    · obtain ⟨e, n, ne, nf, d⟩ := I.pin p hp
      refine ⟨(hs.2 p.1 ?_).trans e, n, ne, nf, d⟩
      intro q
      rw [q, hoc] at e
      have q' : oc = p.2 := Option.some.inj e
      exact d w' (by rw [← q']; exact hocd)
theorem store_ok {M : Model} {A : Around} {E : Value → Shared → Prop} {i : Nat} {x : Str} {v : V} {u : Value} {Q : Unit → Shared → Prop} (I : Inv X pins σ H s) (hN : X.N.Nodup) (hi : X.N[i]? = some x) (hx : Loc X.env.scope x) (r : RelV v u)
    (h : ∀ s', Inv X pins (σ.set i (some v)) H s' → Q () s') (hf : X.fn x = true ∨ X.env.scope.names.lookup x = some .local := by first | exact .inl rfl | exact .inr rfl | assumption) : wpAny M A (storeName X.env x u) Q E s :=
  store_ok2 I hN hi hx r (fun s' I' _ => h s' I') hf
end
abbrev XK := Value → Option Addr → Hp → Prop
abbrev St := List (Option V)
abbrev VK := V → Hp → Prop
abbrev TE := St → Hp → VK → Prop
abbrev TT := St → Hp → (Bool → Hp → Prop) → Prop
abbrev TA := St → Hp → (List V → Hp → Prop) → Prop
structure Ends where
  nx : St → Hp → Prop
  rt : VK
  bk : St → Hp → Prop := fun _ _ => False
  ct : St → Hp → Prop := fun _ _ => False
abbrev TS := Ends → St → Hp → Prop
def EP (X : Cx) (pins : List (Addr × Obj)) (σ : St) (Q : VK) (u : Value) (s' : Shared) : Prop := ∃ v H', Inv X pins σ H' s' ∧ RelV v u ∧ Q v H'
def TP (X : Cx) (pins : List (Addr × Obj)) (σ : St) (Q : Bool → Hp → Prop) (b : Bool) (s' : Shared) : Prop := ∃ H', Inv X pins σ H' s' ∧ Q b H'
def AP (X : Cx) (pins : List (Addr × Obj)) (σ : St) (Q : List V → Hp → Prop) (us : List Value) (s' : Shared) : Prop := ∃ vs H', Inv X pins σ H' s' ∧ Vals vs us ∧ Q vs H'
def SP (X : Cx) (pins : List (Addr × Obj)) (D : Ends) (f : Flow) (s' : Shared) : Prop :=
  match f with
  | .next => ∃ σ' H', Inv X pins σ' H' s' ∧ D.nx σ' H'
  | .brk => ∃ σ' H', Inv X pins σ' H' s' ∧ D.bk σ' H'
  | .cont => ∃ σ' H', Inv X pins σ' H' s' ∧ D.ct σ' H'
  | .ret u => ∃ v σ' H', Inv X pins σ' H' s' ∧ RelV v u ∧ D.rt v H'
def PE (X : Cx) (e : Expr) (t : TE) : Prop :=
  ∀ (pins : List (Addr × Obj)) (s : Shared) (σ : St) (H : Hp) (Q : VK), Inv X pins σ H s → t σ H Q → wpAny (model X.prog X.w) X.A (eval e X.env) (EP X pins σ Q) X.xe s
def PT (X : Cx) (e : Expr) (t : TT) : Prop :=
  ∀ (pins : List (Addr × Obj)) (s : Shared) (σ : St) (H : Hp) (Q : Bool → Hp → Prop), Inv X pins σ H s → t σ H Q → wpAny (model X.prog X.w) X.A (isTrue e X.env (eval e X.env)) (TP X pins σ Q) X.xe s
def PW (X : Cx) (e : Expr) (t : TT) : Prop :=
  ∀ (whole : Sem Value) (pins : List (Addr × Obj)) (s : Shared) (σ : St) (H : Hp) (Q : Bool → Hp → Prop), Inv X pins σ H s → t σ H Q → wpAny (model X.prog X.w) X.A (isTrue e X.env whole) (TP X pins σ Q) X.xe s
theorem PW.pt {X : Cx} {e : Expr} {t : TT} (h : PW X e t) : PT X e t := h _
def PA (X : Cx) (es : List Expr) (t : TA) : Prop :=
  ∀ (pos : Pos) (pins : List (Addr × Obj)) (s : Shared) (σ : St) (H : Hp) (Q : List V → Hp → Prop), Inv X pins σ H s → t σ H Q → wpAny (model X.prog X.w) X.A (spliced (backTo pos (starEach es X.env))) (AP X pins σ Q) X.xe s
def PS (X : Cx) (st : Stmt) (t : TS) : Prop :=
  ∀ (pins : List (Addr × Obj)) (s : Shared) (σ : St) (H : Hp) (D : Ends), Inv X pins σ H s → t D σ H → wpAny (model X.prog X.w) X.A (exec st X.env) (SP X pins D) X.xe s
def PSs (X : Cx) (st : List Stmt) (t : TS) : Prop :=
  ∀ (pins : List (Addr × Obj)) (s : Shared) (σ : St) (H : Hp) (D : Ends), Inv X pins σ H s → t D σ H → wpAny (model X.prog X.w) X.A (execs st X.env) (SP X pins D) X.xe s
theorem thn {α : Type} {t : Sem α} {Q Q' : α → Shared → Prop} {M : Model} {A : Around} {E : Value → Shared → Prop} {s : Shared} (h : wpAny M A t Q E s) (hQ : ∀ a s, Q a s → Q' a s) : wpAny M A t Q' E s := wpAny_mono h hQ fun _ _ x => x
end L2
namespace L2
open PySem PySem.Spec PyProof.Rows
section
variable {X : Cx}
def tVar (i : Nat) : TE := fun σ H Q => ∃ v, σ[i]? = some (some v) ∧ Q v H
def tC (v : V) : TE := fun _ H Q => Q v H
theorem pe_var {i : Nat} {x : Str} {pos : Pos} (hN : X.N[i]? = some x) (hv : Vis X.env.scope x) (hd : (x == ("__debug__" : Str)) = false := by decide) (hcd : (x == ("__classdict__" : Str)) = false := by decide) : PE X (.Name x pos) (tVar i) := by
  intro pins s σ H Q I h
  obtain ⟨v, e, h⟩ := h
  obtain ⟨m, hn, hl⟩ := I.loc
  obtain ⟨u, r, l⟩ := hl i x v hN e hv
  have fin : EP X pins σ Q u s := ⟨v, H, I, r, h⟩
  rcases l with ⟨hk, hm⟩ | ⟨hk, c, hc, hcell⟩
  · exact wpAny_Name (wpAny_loadName_local I.ok.kind hk hn hm fin) hd
  · rcases hk with hk | hk
    · exact wpAny_Name (wpAny_loadName_cell I.ok.kind hk hc hcell fin) hd
    · exact wpAny_Name (wpAny_loadName_free I.ok.kind hk hc hcell fin hcd) hd
theorem pe_int {i j pos} : PE X (.Constant (.int i) j pos) (tC (.int i)) := fun _ _ _ H _ I h => wpAny_Constant_int ⟨.int i, H, I.tok _, ⟨_, rfl⟩, h⟩
theorem pe_bl {b j pos} : PE X (.Constant (.bool b) j pos) (tC (.bl b)) := fun _ _ _ H _ I h => Constant_bool ⟨.bl b, H, I, rfl, h⟩
theorem pe_str {x j pos} : PE X (.Constant (.str x) j pos) (tC (.str x)) := fun _ _ _ H _ I h => Calls.Constant_str ⟨.str x, H, I.tok _, ⟨_, rfl⟩, h⟩
def Gl (X : Cx) (x : Str) : Prop := X.env.kindOf x = some .globalImplicit
theorem ld_glob {E : Value → Shared → Prop} {pins : List (Addr × Obj)} {s : Shared} {σ : St} {H : Hp} {x : Str} {u : Value} {pos : Pos} {Q : Value → Shared → Prop} (I : Inv X pins σ H s) (hg : Gl X x) (hm : X.mg x = some u) (h : Q u s)
    (hd : (x == ("__debug__" : Str)) = false := by decide) : wpAny (model X.prog X.w) X.A (eval (.Name x pos) X.env) Q E s :=
  Calls.Name_function_global I.ok.kind hg (Calls.loadGlobal_global (by rw [I.ok.glob]; exact I.mod.glob.keeps I.bk) hm h) hd
theorem ld_blt {E : Value → Shared → Prop} {pins : List (Addr × Obj)} {s : Shared} {σ : St} {H : Hp} {x : Str} {u : Value} {pos : Pos} {Q : Value → Shared → Prop} (I : Inv X pins σ H s) (hg : Gl X x) (hm : X.mg x = none) (hv : bootBuiltins x = some u) (h : Q u s)
    (hn : x ≠ "__name__" := by decide) (hd : (x == ("__debug__" : Str)) = false := by decide) : wpAny (model X.prog X.w) X.A (eval (.Name x pos) X.env) Q E s := by
  obtain ⟨mb, h1, h2⟩ := I.mod.blt
  exact Calls.Name_function_global I.ok.kind hg (Calls.loadGlobal_builtin (by rw [I.ok.glob]; exact I.mod.glob.keeps I.bk) hm (by rw [I.ok.blt]; exact h1.keeps I.bk) ((h2 x hn).trans hv) h) hd
theorem pe_glob {x : Str} {v : V} {u : Value} {pos : Pos} (hg : Gl X x) (hm : X.mg x = some u) (r : RelV v u) (hd : (x == ("__debug__" : Str)) = false := by decide) : PE X (.Name x pos) (tC v) :=
  fun _ _ _ H _ I h => ld_glob I hg hm ⟨v, H, I, r, h⟩ hd
theorem pe_bltn {x : Str} {v : V} {u : Value} {pos : Pos} (hg : Gl X x) (hm : X.mg x = none) (hv : bootBuiltins x = some u) (r : RelV v u) (hn : x ≠ "__name__" := by decide) (hd : (x == ("__debug__" : Str)) = false := by decide) : PE X (.Name x pos) (tC v) :=
  fun _ _ _ H _ I h => ld_blt I hg hm hv ⟨v, H, I, r, h⟩ hn hd
def t2I (ta tb : TE) (k : Int → Int → Hp → Prop) : St → Hp → Prop := fun σ H => ta σ H fun x H1 => tb σ H1 fun y H2 => ∃ i j, x = .int i ∧ y = .int j ∧ k i j H2
def tAdd (ta tb : TE) : TE := fun σ H Q => t2I ta tb (fun i j H2 => Q (.int (i + j)) H2) σ H
def tSub (ta tb : TE) : TE := fun σ H Q => t2I ta tb (fun i j H2 => Q (.int (i - j)) H2) σ H
def tMul (ta tb : TE) : TE := fun σ H Q => t2I ta tb (fun i j H2 => (-(2 ^ 64) < i ∧ i < 2 ^ 64) ∧ Q (.int (i * j)) H2) σ H
variable {a b : Expr} {ta tb : TE} {pos : Pos}
def PC (X : Cx) (op : CmpOp) (a b : Expr) (t : TE) : Prop :=
  ∀ (pins : List (Addr × Obj)) (s : Shared) (σ : St) (H : Hp) (Q : VK), Inv X pins σ H s → t σ H Q →
    wpAny (model X.prog X.w) X.A (eval a X.env) (fun v s₁ => wpAny (model X.prog X.w) X.A (eval b X.env) (fun u s₂ => wpAny (model X.prog X.w) X.A (compareOp op v u) (EP X pins σ Q) X.xe s₂) X.xe s₁) X.xe s
def tCmp (p : Int → Int → Bool) (ta tb : TE) : TE := fun σ H Q => t2I ta tb (fun i j H2 => Q (.bl (p i j)) H2) σ H
abbrev tLt : TE → TE → TE := tCmp fun i j => decide (i < j)
abbrev tLe : TE → TE → TE := tCmp fun i j => decide (i ≤ j)
abbrev tGt : TE → TE → TE := tCmp fun i j => decide (j < i)
abbrev tGe : TE → TE → TE := tCmp fun i j => decide (j ≤ i)
abbrev tEqI : TE → TE → TE := tCmp fun i j => decide (i = j)
abbrev tNeI : TE → TE → TE := tCmp fun i j => !decide (i = j)
def tIsN (ta : TE) : TE := fun σ H Q => ta σ H fun x H1 => Q (.bl (decide (x = .non))) H1
def tNotN (ta : TE) : TE := fun σ H Q => ta σ H fun x H1 => Q (.bl (!decide (x = .non))) H1
def tB (t : TE) : TT := fun σ H Q => t σ H fun x H1 => ∃ c, x = .bl c ∧ Q c H1
theorem pt_val {e : Expr} {t : TE} (h : PE X e t) (he : ∀ whole, isTrue e X.env whole = (do let v ← whole; standAt e.pos; holding [v] (truthy v)) := by intro _; rfl) : PT X e (tB t) := by
  intro pins s σ H Q I hw
  refine isTrue_plain (thn (h pins s σ H _ I hw) fun v s1 ⟨x, H1, I1, r1, q1⟩ => ?_) (he _)
  obtain ⟨d, rfl, q⟩ := q1
  cases r1
  exact wpAny_truthy_bool ⟨H1, I1, q⟩
variable {tA tB' : TT} {rest : List Expr}
def tAnd (t u : TT) : TT := fun σ H Q => t σ H fun c H1 => if c = true then u σ H1 Q else Q false H1
def tOr (t u : TT) : TT := fun σ H Q => t σ H fun c H1 => if c = true then Q true H1 else u σ H1 Q
def tNot (t : TT) : TT := fun σ H Q => t σ H fun c H1 => Q (!c) H1
theorem pw_and1 (ha : PT X a tA) : PW X (.BoolOp .And [a] pos) tA := by
  intro wh pins s σ H Q I h
  refine isTrue_and (thn (ha pins s σ H Q I h) fun c s1 e => ?_)
  cases c with
  | true => exact isTrue_and_nil e
  | false => exact e
theorem pw_or1 (ha : PT X a tA) : PW X (.BoolOp .Or [a] pos) tA := by
  intro wh pins s σ H Q I h
  refine isTrue_or (thn (ha pins s σ H Q I h) fun c s1 e => ?_)
  cases c with
  | false => exact isTrue_or_nil e
  | true => exact e
theorem pw_and (ha : PT X a tA) (hb : PW X (.BoolOp .And (b :: rest) pos) tB') : PW X (.BoolOp .And (a :: b :: rest) pos) (tAnd tA tB') := by
  intro wh pins s σ H Q I h
  refine isTrue_and (thn (ha pins s σ H _ I h) fun c s1 ⟨H1, I1, q1⟩ => ?_)
  cases c with
  | true => exact hb wh pins s1 σ H1 Q I1 q1
  | false => exact ⟨H1, I1, q1⟩
theorem pw_or (ha : PT X a tA) (hb : PW X (.BoolOp .Or (b :: rest) pos) tB') : PW X (.BoolOp .Or (a :: b :: rest) pos) (tOr tA tB') := by
  intro wh pins s σ H Q I h
  refine isTrue_or (thn (ha pins s σ H _ I h) fun c s1 ⟨H1, I1, q1⟩ => ?_)
  cases c with
  | true => exact ⟨H1, I1, q1⟩
  | false => exact hb wh pins s1 σ H1 Q I1 q1
theorem pt_not (ha : PT X a tA) : PT X (.UnaryOp .Not a pos) (tNot tA) := by
  intro pins s σ H Q I h
  exact isTrue_not (ha pins s σ H (fun c H1 => Q (!c) H1) I h)
def tAndV (ta tb : TE) : TE := fun σ H Q => ta σ H fun x H1 => ∃ c, x = .bl c ∧ if c = true then tb σ H1 Q else Q (.bl false) H1
def tOrV (ta tb : TE) : TE := fun σ H Q => ta σ H fun x H1 => ∃ c, x = .bl c ∧ if c = true then Q (.bl true) H1 else tb σ H1 Q
def tNotV (ta : TE) : TE := fun σ H Q => ta σ H fun x H1 => ∃ c, x = .bl c ∧ Q (.bl (!c)) H1
theorem pe_one {op} {t : TE} (h : PE X a t) : PE X (.BoolOp op [a] pos) t := fun pins s σ H Q I hw => BoolOp_one (h pins s σ H Q I hw)
theorem pe_and (ha : PE X a ta) (hb : PE X (.BoolOp .And (b :: rest) pos) tb) : PE X (.BoolOp .And (a :: b :: rest) pos) (tAndV ta tb) := by
  intro pins s σ H Q I h
  refine BoolOp_and (thn (ha pins s σ H _ I h) fun v s1 ⟨x, H1, I1, r1, q1⟩ => ?_)
  obtain ⟨c, rfl, q1⟩ := q1
  cases r1
  refine wpAny_truthy_bool ?_
  cases c with
  | true => exact hb pins s1 σ H1 Q I1 q1
  | false => exact ⟨.bl false, H1, I1, rfl, q1⟩
theorem pe_not (ha : PE X a ta) : PE X (.UnaryOp .Not a pos) (tNotV ta) := by
  intro pins s σ H Q I h
  refine UnaryOp_ (thn (ha pins s σ H _ I h) fun v s1 ⟨x, H1, I1, r1, q1⟩ => ?_)
  obtain ⟨c, rfl, q1⟩ := q1
  cases r1
  exact not_of (wpAny_truthy_bool ⟨.bl (!c), H1, I1, rfl, q1⟩)
def tIf (t : TT) (ta tb : TE) : TE := fun σ H Q => t σ H fun c H1 => if c = true then ta σ H1 Q else tb σ H1 Q
end
end L2
namespace L2
open PySem PySem.Spec PyProof.Rows
def SqL (K : PySem.W.Frag) (H : Hp) (a : Addr) (xs : List V) : Prop :=
  Rd H a (.lst xs) ∨
    ∃ (o : Obj) (its : Array Value) (n : Nat), K.lookup a = some o ∧ o.cls = .type "list" ∧ o.dict = none ∧ o.data = .seq its n ∧ its.size ≤ sizeLine ∧ Vals xs its.toList
def SqT (K : PySem.W.Frag) (H : Hp) (a : Addr) (xs : List V) : Prop :=
  Rd H a (.tup xs) ∨
    ∃ (o : Obj) (its : Array Value) (n : Nat), K.lookup a = some o ∧ o.cls = .type "tuple" ∧ o.data = .seq its n ∧ its.size ≤ sizeLine ∧ Vals xs its.toList
def absV : Value → Option V
  | .none => some .non
  | .bool b => some (.bl b)
  | .int i _ => some (.int i)
  | .str x _ => some (.str x)
  | .bytes b _ => some (.byt b)
  | .float b _ => some (.flt b)
  | .ref a => some (.ref a)
  | .type n => some (.ty n)
  | _ => none
theorem RelV.abs {x : V} {u : Value} (r : RelV x u) : absV u = some x := by
  cases x with
  | non => cases r; rfl
  | bl _ => cases r; rfl
  | int _ => obtain ⟨t, rfl⟩ := r; rfl
  | str _ => obtain ⟨t, rfl⟩ := r; rfl
  | byt _ => obtain ⟨t, rfl⟩ := r; rfl
  | flt _ => obtain ⟨t, rfl⟩ := r; rfl
  | ref _ => cases r; rfl
  | ty _ => cases r; rfl
theorem RelV.inj {x y : V} {u : Value} (r : RelV x u) (q : RelV y u) : x = y := Option.some.inj (r.abs.symm.trans q.abs)
theorem Vals.inj : ∀ {xs ys : List V} {us : List Value}, Vals xs us → Vals ys us → xs = ys
  | _, _, _, .nil, .nil => rfl
  | _, _, _, .cons r t, .cons r' t' => by rw [r.inj r', Vals.inj t t']
section
variable {X : Cx} {pins : List (Addr × Obj)} {σ : St} {H : Hp} {s : Shared} {a : Addr} {xs ys : List V}
theorem SqL.of {K : PySem.W.Frag} (h : H a = some (.lst xs)) : SqL K H a xs := .inl (.inl h)
theorem SqT.of {K : PySem.W.Frag} (h : H a = some (.tup xs)) : SqT K H a xs := .inl (.inl h)
theorem Inv.list (I : Inv X pins σ H s) (h : SqL X.K H a xs) : ∃ its : List Value, Vals xs its ∧ PlainL s.heap a its.toArray ∧ xs.length ≤ sizeLine := by
  rcases h with h | ⟨o, its, n, hk, hc, hd, hs, hz, r⟩
  · obtain ⟨z, its, n, r, e⟩ := h.ok I.hok
    exact ⟨its, r, ⟨_, n, e, rfl, rfl, rfl⟩, z⟩
  · refine ⟨its.toList, r, ⟨o, n, I.kIn a o hk, hc, hd, by simpa using hs⟩, ?_⟩
    have e := r.length
    simp only [Array.length_toList] at e
    omega
theorem Inv.tuple (I : Inv X pins σ H s) (h : SqT X.K H a xs) : ∃ its : List Value, Vals xs its ∧ IsTup s.heap a its.toArray ∧ xs.length ≤ sizeLine := by
  rcases h with h | ⟨o, its, n, hk, hc, hs, hz, r⟩
  · obtain ⟨z, its, r, p⟩ := h.ok I.hok
    exact ⟨its, r, p, z⟩
  · refine ⟨its.toList, r, ⟨o, I.kIn a o hk, hc, n, by simpa using hs⟩, ?_⟩
    have e := r.length
    simp only [Array.length_toList] at e
    omega
theorem Inv.list_inj (I : Inv X pins σ H s) (h : SqL X.K H a xs) (h' : SqL X.K H a ys) : xs = ys := by
  obtain ⟨its, r, ⟨o, n, e, _, _, d⟩, _⟩ := I.list h
  obtain ⟨its', r', ⟨o', n', e', _, _, d'⟩, _⟩ := I.list h'
  rw [e] at e'; cases e'
  rw [d] at d'
  injection d' with d1 _
  have : its = its' := by simpa using congrArg Array.toList d1
  subst this
  exact r.inj r'
end
abbrev Cx.wish (X : Cx) (E : Value → Shared → Prop) : Cx := { X with xe := E }
abbrev Cx.nox (X : Cx) : Cx := X.wish fun _ _ => False
theorem Cx.Ok.wish {X : Cx} (ok : X.Ok) (E : Value → Shared → Prop) : (X.wish E).Ok :=
  ⟨ok.mod, ok.kind, ok.glob, ok.blt, ok.above, ok.inj, ok.has, ok.cab, ok.hd, ok.frames, ok.stk, ok.exf, ok.bs, ok.bsz, ok.noex, ok.exfs, ok.funs, ok.frf⟩
theorem Cx.Ok.unwish {X : Cx} {E : Value → Shared → Prop} (ok : (X.wish E).Ok) : X.Ok :=
  ⟨ok.mod, ok.kind, ok.glob, ok.blt, ok.above, ok.inj, ok.has, ok.cab, ok.hd, ok.frames, ok.stk, ok.exf, ok.bs, ok.bsz, ok.noex, ok.exfs, ok.funs, ok.frf⟩
section
variable {X : Cx} {pins : List (Addr × Obj)} {σ : St} {H : Hp} {s : Shared} {E : Value → Shared → Prop}
theorem Inv.wish (I : Inv X pins σ H s) (E : Value → Shared → Prop) : Inv (X.wish E) pins σ H s := ⟨I.ok.wish E, I.os, I.bare, I.base, I.loc, I.cell, I.free, I.freeC, I.pin, I.hok, I.len⟩
theorem Inv.unwish (I : Inv (X.wish E) pins σ H s) : Inv X pins σ H s := ⟨I.ok.unwish, I.os, I.bare, I.base, I.loc, I.cell, I.free, I.freeC, I.pin, I.hok, I.len⟩
theorem SP.unwish {D : Ends} {f : Flow} {s' : Shared} (h : SP (X.wish E) pins D f s') : SP X pins D f s' := by
  cases f with
  | next => obtain ⟨σ', H', I, q⟩ := h; exact ⟨σ', H', I.unwish, q⟩
  | brk => obtain ⟨σ', H', I, q⟩ := h; exact ⟨σ', H', I.unwish, q⟩
  | cont => obtain ⟨σ', H', I, q⟩ := h; exact ⟨σ', H', I.unwish, q⟩
  | ret u => obtain ⟨v, σ', H', I, r, q⟩ := h; exact ⟨v, σ', H', I.unwish, r, q⟩
theorem PSs.nox {st : List Stmt} {t : TS} (h : PSs X.nox st t) : PSs X st t := fun pins s σ H D I hw =>
  wpAny_mono (h pins s σ H D (I.wish _) hw) (fun _ _ q => q.unwish) fun _ _ z => False.elim z
end
section
variable {X : Cx} {st : Stmt} {rest : List Stmt} {t u : TS} {e : Expr} {te : TE} {pos : Pos}
def tNext : TS := fun D σ H => D.nx σ H
def tSeq (t u : TS) : TS := fun D σ H => t { D with nx := u D } σ H
theorem pss_nil : PSs X [] tNext := fun _ _ σ H _ I h => wpAny_execs_nil ⟨σ, H, I, h⟩
theorem pss_cons (h1 : PS X st t) (h2 : PSs X rest u) : PSs X (st :: rest) (tSeq t u) := by
  intro pins s σ H D I h
  refine wpAny_execs_cons (thn (h1 pins s σ H { D with nx := u D } I h) fun f s1 q => ?_)
  cases f with
  | next =>
    obtain ⟨σ', H', I', q⟩ := q
    exact h2 pins s1 σ' H' D I' q
  | ret v => exact q
  | brk => exact q
  | cont => exact q
theorem pss_one (h1 : PS X st t) : PSs X [st] t := by
  intro pins s σ H D I h
  refine wpAny_execs_cons (thn (h1 pins s σ H D I h) fun f s1 q => ?_)
  cases f with
  | next => exact wpAny_execs_nil q
  | ret v => exact q
  | brk => exact q
  | cont => exact q
def tBreak : TS := fun D σ H => D.bk σ H
def tCont : TS := fun D σ H => D.ct σ H
theorem Inv.quiet {pins : List (Addr × Obj)} {σ : St} {H : Hp} {s : Shared} (I : Inv X pins σ H s) : interactive X.env = false := by simp [interactive, I.ok.kind]
def tDrop (te : TE) : TS := fun D σ H => te σ H fun _ H1 => D.nx σ H1
theorem ps_expr (he : PE X e te) (hs : swapsWith e none pos.line X.env = pure false := by rfl) : PS X (.Expr e pos) (tDrop te) := by
  intro pins s σ H D I h
  exact wpAny_Expr_any (thn (he pins s σ H _ I h) fun v s1 ⟨x, H1, I1, r1, q1⟩ => ⟨σ, H1, I1, q1⟩) I.quiet hs
def tRet (te : TE) : TS := fun D σ H => te σ H D.rt
theorem ps_ret (he : PE X e te) : PS X (.Return (some e) pos) (tRet te) := by
  intro pins s σ H D I h
  exact wpAny_Return_some (thn (he pins s σ H _ I h) fun v s1 ⟨x, H1, I1, r1, q1⟩ => ⟨x, σ, H1, I1, r1, q1⟩)
def tRetN : TS := fun D _ H => D.rt .non H
theorem ps_retN : PS X (.Return none pos) tRetN := fun _ _ σ H _ I h => wpAny_Return_none ⟨.non, σ, H, I, rfl, h⟩
def tIfS (c : TT) (t u : TS) : TS := fun D σ H => c σ H fun b H1 => if b = true then t D σ H1 else u D σ H1
theorem ps_if {c : Expr} {a b : List Stmt} {tc : TT} (hc : PT X c tc) (ha : PSs X a t) (hb : PSs X b u) : PS X (.If c a b pos) (tIfS tc t u) := by
  intro pins s σ H D I h
  refine wpAny_If (thn (hc pins s σ H _ I h) fun d s1 ⟨H1, I1, q1⟩ => ?_)
  cases d with
  | true => exact ha pins s1 σ H1 D I1 q1
  | false => exact hb pins s1 σ H1 D I1 q1
def tNever : TS := fun _ _ _ => False
theorem ps_never : PS X st tNever := fun _ _ _ _ _ _ h => h.elim
end
abbrev TG := V → St → Hp → (St → Hp → Prop) → Prop
abbrev TGs := List V → St → Hp → (St → Hp → Prop) → Prop
def PG (X : Cx) (target : Expr) (t : TG) : Prop :=
  ∀ (pins : List (Addr × Obj)) (s : Shared) (σ : St) (H : Hp) (v : V) (u : Value) (Q : St → Hp → Prop), Inv X pins σ H s → RelV v u → t v σ H Q →
    wpAny (model X.prog X.w) X.A (assign target X.env u) (fun _ s' => ∃ σ' H', Inv X pins σ' H' s' ∧ Q σ' H') X.xe s
def PGs (X : Cx) (ts : List Expr) (t : TGs) : Prop :=
  ∀ (pins : List (Addr × Obj)) (s : Shared) (σ : St) (H : Hp) (vs : List V) (us : List Value) (Q : St → Hp → Prop), Inv X pins σ H s → Vals vs us → t vs σ H Q →
    wpAny (model X.prog X.w) X.A (assignInOrder ((assignEach ts X.env).map (·.2)) us) (fun _ s' => ∃ σ' H', Inv X pins σ' H' s' ∧ Q σ' H') X.xe s
abbrev TSet := V → V → V → Hp → (Hp → Prop) → Prop
def PSet (X : Cx) (t : TSet) : Prop :=
  ∀ (pins : List (Addr × Obj)) (s : Shared) (σ : St) (H : Hp) (o i v : V) (ov iv u : Value) (Q : Hp → Prop), Inv X pins σ H s → RelV o ov → RelV i iv → RelV v u → t o i v H Q →
    wpAny (model X.prog X.w) X.A (setItem ov iv u) (fun _ s' => ∃ H', Inv X pins σ H' s' ∧ Q H') X.xe s
abbrev TIp := V → V → Hp → VK → Prop
def PIp (X : Cx) (op : Operator) (t : TIp) : Prop :=
  ∀ (pins : List (Addr × Obj)) (s : Shared) (σ : St) (H : Hp) (x y : V) (v u : Value) (Q : VK), Inv X pins σ H s → RelV x v → RelV y u → t x y H Q →
    wpAny (model X.prog X.w) X.A (inplaceOp op v u) (EP X pins σ Q) X.xe s
section
variable {X : Cx} {pos : Pos}
def gName (i : Nat) : TG := fun v σ H Q => Q (σ.set i (some v)) H
theorem pg_name {i : Nat} {x : Str} (hN : X.N.Nodup) (hi : X.N[i]? = some x) (hx : Loc X.env.scope x) (hf : X.fn x = true ∨ X.env.scope.names.lookup x = some .local := by first | exact .inl rfl | exact .inr rfl | assumption) : PG X (.Name x pos) (gName i) := by
  intro pins s σ H v u Q I r h
  exact wpAny_assign_Name (store_ok I hN hi hx r (fun s' I' => ⟨_, H, I', h⟩) hf)
def gNil : TGs := fun vs σ H Q => vs = [] ∧ Q σ H
def gCons (t : TG) (u : TGs) : TGs := fun vs σ H Q => ∃ v r, vs = v :: r ∧ t v σ H fun σ' H' => u r σ' H' Q
theorem pgs_nil : PGs X [] gNil := by
  intro pins s σ H vs us Q I r h
  obtain ⟨e, h⟩ := h
  subst e
  cases r
  exact assignInOrder_nil ⟨σ, H, I, h⟩
theorem pgs_cons {e : Expr} {es : List Expr} {t : TG} {u : TGs} (h1 : PG X e t) (h2 : PGs X es u)
    (hs : (assignEach (e :: es) X.env).map (·.2) = assign e X.env :: (assignEach es X.env).map (·.2) := by rfl) : PGs X (e :: es) (gCons t u) := by
  intro pins s σ H vs us Q I r h
  obtain ⟨v, vr, e1, h⟩ := h
  subst e1
  cases r with
  | cons r rr =>
    rw [hs]
    refine assignInOrder_cons (thn (h1 pins s σ H _ _ _ I r h) fun _ s1 ⟨σ1, H1, I1, q1⟩ => ?_)
    exact h2 pins s1 σ1 H1 _ _ Q I1 rr q1
def gTup (K : PySem.W.Frag) (n : Nat) (t : TGs) : TG := fun v σ H Q => ∃ a xs, v = .ref a ∧ SqT K H a xs ∧ xs.length = n ∧ t xs σ H Q
theorem pg_tup {es : List Expr} {k : Nat} {t : TGs} {n : Nat} (hc : X.calm = true) (h : PGs X es t)
    (hn : (assignEach es X.env).length = n := by rfl) (hst : (assignEach es X.env).findIdx? (·.1) = none := by rfl) : PG X (.Tuple es k pos) (gTup X.K n t) := by
  intro pins s σ H v u Q I r hw
  obtain ⟨a, xs, e1, hq, hl, hw⟩ := hw
  subst e1
  cases r
  obtain ⟨its, rv, ht, hz⟩ := I.tuple hq
  refine assign_Tuple_tuple (I.ok.hd hc) ht (by simp [hn, ← hl, rv.length]) hst fun h' hx => ?_
  have I1 : Inv X pins σ H { s with heap := h' } := I.kept (t' := s.toks) fun b o e => hx b o (Nat.ne_of_lt (Heap.lt_size e)) e
  exact h pins _ σ H xs _ Q I1 (by simpa using rv) hw
def gSub (to ti : TE) (t : TSet) : TG := fun v σ H Q => to σ H fun o H1 => ti σ H1 fun i H2 => t o i v H2 fun H3 => Q σ H3
def tAsg (te : TE) (g : TG) : TS := fun D σ H => te σ H fun x H1 => g x σ H1 D.nx
theorem ps_set {i : Nat} {x : Str} {e : Expr} {te : TE} {pos' : Pos} (hN : X.N.Nodup) (hi : X.N[i]? = some x) (hx : Loc X.env.scope x) (he : PE X e te) (hs : swapsWith e (some (.Name x pos')) pos.line X.env = pure false := by rfl) (hf : X.fn x = true ∨ X.env.scope.names.lookup x = some .local := by first | exact .inl rfl | exact .inr rfl | assumption) :
    PS X (.Assign [.Name x pos'] e pos) (tAsg te (gName i)) := by
  intro pins s σ H D I h
  refine wpAny_Assign_Name (thn (he pins s σ H _ I h) fun v s1 ⟨y, H1, I1, r1, q1⟩ => ?_) hs
  exact store_ok I1 hN hi hx r1 (fun s2 I2 => ⟨_, H1, I2, q1⟩) hf
def tPar (i j : Nat) (ta : TA) : TS := fun D σ H => ta σ H fun vs H1 => ∃ v w, vs = [v, w] ∧ D.nx ((σ.set i (some v)).set j (some w)) H1
def tAug (i : Nat) (te : TE) (ti : TIp) : TS := fun D σ H => ∃ x, σ[i]? = some (some x) ∧ te σ H fun y H1 => ti x y H1 fun z H2 => D.nx (σ.set i (some z)) H2
def tAugS (to ti te : TE) (tget : V → V → Hp → VK → Prop) (tip : TIp) (tset : TSet) : TS := fun D σ H => to σ H fun o H1 => ti σ H1 fun i H2 => tget o i H2 fun x H3 => te σ H3 fun y H4 => tip x y H4 fun z H5 => tset o i z H5 fun H6 => D.nx σ H6
def PGet (X : Cx) (t : V → V → Hp → VK → Prop) : Prop :=
  ∀ (pins : List (Addr × Obj)) (s : Shared) (σ : St) (H : Hp) (o i : V) (ov iv : Value) (Q : VK), Inv X pins σ H s → RelV o ov → RelV i iv → t o i H Q →
    wpAny (model X.prog X.w) X.A (getItem ov iv) (EP X pins σ Q) X.xe s
def ipI (f : Int → Int → Int) : TIp := fun x y H Q => ∃ i j, x = .int i ∧ y = .int j ∧ Q (.int (f i j)) H
end
section
variable {X : Cx} {pos : Pos}
def tWhile (c : TT) (tb : TS) : TS := fun D σ H => ∃ W : Nat → St → Hp → Prop, (∃ m, W m σ H) ∧ ∀ m σ H, W m σ H →
  c σ H fun b H1 => if b = true then ∃ N : St → Hp → Prop, (∀ σ' H', N σ' H' → ∃ m', m' < m ∧ W m' σ' H') ∧ tb { D with nx := N, ct := N, bk := D.nx } σ H1 else D.nx σ H1
theorem ps_while {c : Expr} {body : List Stmt} {tc : TT} {tb : TS} (hp : PassesOwn (model X.prog X.w) X.A X.env X.xe) (hc : PT X c tc) (hb : PSs X body tb) : PS X (.While c body [] pos) (tWhile tc tb) := by
  intro pins s σ H D I h
  obtain ⟨W, ⟨m0, w0⟩, turn⟩ := h
  refine wpAny_While (codeAny_whileLoop (fun n s' => ∃ σ' H', Inv X pins σ' H' s' ∧ W n σ' H') ?_ m0 ⟨σ, H, I, w0⟩)
  rintro n s1 ⟨σ1, H1, I1, w1⟩
  refine wpAny_passesOwn hp (thn (hc pins s1 σ1 H1 _ I1 (turn n σ1 H1 w1)) fun b s2 ⟨H2, I2, q2⟩ => ?_)
  cases b with
  | true =>
    obtain ⟨N, hN, q2⟩ := q2
    rw [if_pos rfl]
    refine wpAny_passesOwn hp (thn (hb pins s2 σ1 H2 _ I2 q2) fun f s3 q3 => ?_)
    cases f with
    | next =>
      obtain ⟨σ3, H3, I3, n3⟩ := q3
      obtain ⟨m', hm, w3⟩ := hN σ3 H3 n3
      exact ⟨m', hm, σ3, H3, I3, w3⟩
    | cont =>
      obtain ⟨σ3, H3, I3, n3⟩ := q3
      obtain ⟨m', hm, w3⟩ := hN σ3 H3 n3
      exact ⟨m', hm, σ3, H3, I3, w3⟩
    | brk => exact q3
    | ret v => exact q3
  | false =>
    rw [if_neg Bool.false_ne_true]
    exact wpAny_execs_nil ⟨σ1, H2, I2, q2⟩
end
structure It where
  go : Nat → Hp → Prop
  yld : Nat → Hp → V → Hp → Prop
  stop : Nat → Hp → Prop
def FpOk (X : Cx) (pins : List (Addr × Obj)) (H : Hp) (b : Addr) : Prop :=
  H b = none ∧ b ≠ X.env.locals ∧ b ∉ X.fs ∧ (b ∈ X.ex ∨ X.s₀.heap.objs.size ≤ b) ∧ (∀ x c, X.env.cells.lookup x = some c → c ≠ b) ∧ ∀ p ∈ X.pn ++ pins, p.1 ≠ b
theorem Inv.fpOk {X : Cx} {pins : List (Addr × Obj)} {σ : St} {H H' : Hp} {s : Shared} {b : Addr} (I : Inv X pins σ H s) (hb : s.heap.objs.size ≤ b) (hn : H' b = none) : FpOk X pins H' b := by
  refine ⟨hn, Nat.ne_of_gt (Nat.lt_of_lt_of_le I.lt hb), I.nofs hb, .inr (Nat.le_trans I.sz hb), fun x c e z => ?_, fun p hp z => ?_⟩
  · obtain ⟨v, q⟩ := I.cell x c e
    exact absurd (Nat.lt_of_lt_of_le q.lt (by rw [z]; exact hb)) (Nat.lt_irrefl _)
  · exact absurd (Nat.lt_of_lt_of_le (Heap.lt_size (I.pin p hp).1) (by rw [z]; exact hb)) (Nat.lt_irrefl _)
structure Turn (P : Program) (w : World) (K : PySem.W.Frag) (tg : Expr) (J : It) (fp : List Addr) (it : Addr) (tn : Nat → Heap → Prop) : Prop where
  mem : it ∈ fp
  obj : ∀ i h, tn i h → ∀ b ∈ fp, ∃ o, h.get? b = some o ∧ ∀ v, o.data ≠ .cell v
  keep : ∀ i h h', tn i h → (∀ b ∈ fp, ∀ o, h.get? b = some o → h'.get? b = some o) → tn i h'
  item : ∀ (X : Cx), X.prog = P → X.w = w → X.K = K → X.calm = true → ∀ (i : Nat) (pins : List (Addr × Obj)) (s : Shared) (σ : St) (H : Hp) (E : Value → Shared → Prop), Inv X pins σ H s → (∀ b ∈ fp, FpOk X pins H b) → tn i s.heap → J.go i H →
    wpAny (model P w) X.A (pyNext (.ref it)) (fun r s1 => ∃ u, r = some u ∧
      wpAny (model P w) X.A (letOwnedTupleGo tg (.ref it) u) (fun _ s2 => ∃ x H', Inv X pins σ H' s2 ∧ RelV x u ∧ J.yld i H x H' ∧ tn (i + 1) s2.heap ∧ ∀ b ∈ fp, H' b = none) E s1) E s
  done : ∀ (X : Cx), X.prog = P → X.w = w → X.K = K → X.calm = true → ∀ (i : Nat) (pins : List (Addr × Obj)) (s : Shared) (σ : St) (H : Hp) (E : Value → Shared → Prop), Inv X pins σ H s → (∀ b ∈ fp, FpOk X pins H b) → tn i s.heap → J.stop i H →
    wpAny (model P w) X.A (pyNext (.ref it)) (fun r s1 => r = none ∧ Inv X pins σ H s1) E s
  self : ∀ (A : Around) (i : Nat) (s : Shared) (Q : Value → Shared → Prop) (E : Value → Shared → Prop), tn i s.heap → Q (.ref it) s → wpAny (model P w) A (pyIter (.ref it)) Q E s
abbrev TI := St → Hp → (It → Hp → Prop) → Prop
def PIE (X : Cx) (pins : List (Addr × Obj)) (σ : St) (tg : Expr) (R : It → Hp → Prop) (itv : Value) (s2 : Shared) : Prop :=
  ∃ (it : Addr) (fp : List Addr) (tn : Nat → Heap → Prop) (J : It) (H' : Hp), itv = .ref it ∧ Inv X pins σ H' s2 ∧ Turn X.prog X.w X.K tg J fp it tn ∧ tn 0 s2.heap ∧ (∀ b ∈ fp, FpOk X pins H' b) ∧ R J H'
def PI (X : Cx) (tg iter : Expr) (wi : TI) : Prop :=
  ∀ (pins : List (Addr × Obj)) (s : Shared) (σ : St) (H : Hp) (R : It → Hp → Prop), Inv X pins σ H s → wi σ H R →
    wpAny (model X.prog X.w) X.A (eval iter X.env) (fun v s1 => wpAny (model X.prog X.w) X.A (pyIter v) (PIE X pins σ tg R) X.xe s1) X.xe s
theorem go_of {M : Model} {A : Around} {E : Value → Shared → Prop} {s : Shared} {tg : Expr} {it : Addr} {u : Value} {o : Obj} {n : String} {vs : Array Value} {Q : Unit → Shared → Prop} (ho : s.heap.get? it = some o) (hc : o.cls = .type n) (hd : o.data = .fields vs)
    (hn : ["enumerate", "zip", "dict_itemiterator", "dict_reverseitemiterator", "odict_iterator", "itertools.zip_longest", "itertools.pairwise"].contains n = false) (hQ : Q () s) : wpAny M A (letOwnedTupleGo tg (.ref it) u) Q E s := by
  unfold letOwnedTupleGo
  cases tg <;> first
    | exact wpAny_pure hQ
    | (cases u <;> first
        | exact wpAny_pure hQ
        | (refine wpAny_bind (wpAny_load ho ?_)
           rw [hc, hd]
           show wpAny M A (if (["enumerate", "zip", "dict_itemiterator", "dict_reverseitemiterator", "odict_iterator", "itertools.zip_longest", "itertools.pairwise"].contains n && vs[0]? == some (rawInt _)) = true then _ else _) Q E s
           rw [if_neg (by intro h; rw [hn, Bool.false_and] at h; cases h)]
           exact wpAny_pure hQ))
def Itl (K : PySem.W.Frag) (a : Addr) : It :=
  ⟨fun i H => ∃ xs x, SqL K H a xs ∧ xs[i]? = some x, fun i H x H' => H' = H ∧ ∀ xs, SqL K H a xs → xs[i]? = some x, fun i H => ∃ xs, SqL K H a xs ∧ xs.length ≤ i⟩
def Itt (K : PySem.W.Frag) (a : Addr) : It :=
  ⟨fun i H => ∃ xs x, SqT K H a xs ∧ xs[i]? = some x, fun i H x H' => H' = H ∧ ∀ xs, SqT K H a xs → xs[i]? = some x, fun i H => ∃ xs, SqT K H a xs ∧ xs.length ≤ i⟩
def Itr (lo : Int) (n : Nat) : It := ⟨fun i _ => i < n, fun i H x H' => H' = H ∧ x = .int (lo + i), fun i _ => n ≤ i⟩
theorem turn_list {P : Program} {w : World} {K : PySem.W.Frag} {tg : Expr} (a it : Addr) : Turn P w K tg (Itl K a) [it] it (fun i h => h.IsListIter it a i) where
  mem := by simp
  obj := fun i h st b hb => by
    have e : b = it := by simpa using hb
    subst e
    obtain ⟨o, e, c, d⟩ := st
    exact ⟨o, e, fun v z => by rw [d] at z; cases z⟩
  keep := fun i h h' st k => st.at fun o e => k it (by simp) o e
  item := by
    intro X hP hw hK hc i pins s σ H E I hf st hg
    subst hP hw hK
    obtain ⟨xs, x, hq, hx⟩ := hg
    obtain ⟨its, rv, p, hz⟩ := I.list hq
    obtain ⟨u, hu, ru⟩ := rv.get hx
    obtain ⟨f0, f1, f2, f3, f4, f5⟩ := hf it (by simp)
    refine wpAny_pyNext_list_item st p.isList (x := u) (by simpa using hu) fun h' st' sb => ?_
    have I1 : Inv X pins σ H { s with heap := h' } := I.turned (t' := s.toks) (fun b o hb e => (sb.2 b hb).trans e) f0 f1 f3 f4 f5
    obtain ⟨o, e, c, d⟩ := id st'
    exact ⟨u, rfl, go_of (s := { s with heap := h' }) e c d (by decide) ⟨x, H, I1, ru, ⟨rfl, fun ys hy => by rw [I.list_inj hy hq]; exact hx⟩, st', fun b hb => (hf b hb).1⟩⟩
  done := by
    intro X hP hw hK hc i pins s σ H E I hf st hg
    subst hP hw hK
    obtain ⟨xs, hq, hx⟩ := hg
    obtain ⟨its, rv, p, hz⟩ := I.list hq
    obtain ⟨f0, f1, f2, f3, f4, f5⟩ := hf it (by simp)
    have hl := rv.length
    exact wpAny_pyNext_list_end (I.ok.hd hc) st p.isList (by simp; omega) fun h' eb => ⟨rfl, I.turned (t' := s.toks) (fun b o hb e => eb b o hb e) f0 f1 f3 f4 f5⟩
  self := fun _ _ _ _ _ st h => wpAny_pyIter_listiter st h
theorem turn_range {P : Program} {w : World} {K : PySem.W.Frag} {tg : Expr} (it : Addr) (lo : Int) (n : Nat) : Turn P w K tg (Itr lo n) [it] it (fun i h => IsRangeIter h it (lo + (i : Nat) * 1) ((n : Int) - (i : Nat)) 1) where
  mem := by simp
  obj := fun i h st b hb => by
    have e : b = it := by simpa using hb
    subst e
    exact ⟨_, st, fun v z => by
      have z' : Data.fields _ = Data.cell v := z
      cases z'⟩
  keep := fun i h h' st k => k it (by simp) _ st
  item := by
    intro X hP hw hK hc i pins s σ H E I hf st hg
    subst hP hw hK
    obtain ⟨f0, f1, f2, f3, f4, f5⟩ := hf it (by simp)
    have W := Walks.range (prog := X.prog) (w := X.w) (I.ok.hd hc) it lo 1 n
    refine W.item i s _ _ hg st fun v h' tk hv st' kk => ?_
    obtain ⟨t, rfl⟩ := hv
    have I1 : Inv X pins σ H { s with heap := h', toks := tk } := I.turned (fun b o hb e => kk b o (by simpa using hb) e) f0 f1 f3 f4 f5
    refine ⟨_, rfl, go_of (s := { s with heap := h', toks := tk }) (n := "range_iterator") st' rfl rfl (by decide) ⟨.int (lo + i), H, I1, ⟨t, ?_⟩, ⟨rfl, rfl⟩, st', fun b hb => (hf b hb).1⟩⟩
    rw [Int.mul_one]
  done := by
    intro X hP hw hK hc i pins s σ H E I hf st hg
    subst hP hw hK
    obtain ⟨f0, f1, f2, f3, f4, f5⟩ := hf it (by simp)
    exact wpAny_pyNext_range_end (I.ok.hd hc) st (by have : n ≤ i := hg; omega) fun h' eb => ⟨rfl, I.turned (t' := s.toks) (fun b o hb e => eb b o hb e) f0 f1 f3 f4 f5⟩
  self := fun _ _ _ _ _ st h => wpAny_pyIter_rangeiter st h
end L2
namespace L2
open PySem PySem.Spec PyProof.Rows
section
variable {X : Cx} {tg : Expr}
def iList (K : PySem.W.Frag) (tl : TE) : TI := fun σ H R => tl σ H fun x H1 => ∃ a, x = .ref a ∧ (∃ xs, SqL K H1 a xs) ∧ R (Itl K a) H1
def iTup (K : PySem.W.Frag) (tl : TE) : TI := fun σ H R => tl σ H fun x H1 => ∃ a, x = .ref a ∧ (∃ xs, SqT K H1 a xs) ∧ R (Itt K a) H1
theorem pi_list {l : Expr} {tl : TE} (hl : PE X l tl) : PI X tg l (iList X.K tl) := by
  intro pins s σ H R I h
  refine thn (hl pins s σ H _ I h) fun v s1 ⟨x, H1, I1, r1, q1⟩ => ?_
  obtain ⟨a, e, ⟨xs, hq⟩, q⟩ := q1
  subst e
  cases r1
  obtain ⟨its, rv, p, hz⟩ := I1.list hq
  refine wpAny_pyIter_list p.isList ?_
  refine ⟨s1.heap.objs.size, [s1.heap.objs.size], _, _, H1, rfl, I1.kept (t' := s1.toks) fun b o e => Heap.get?_push_of_some _ e, turn_list a _, ⟨_, Heap.get?_push_size _ rfl, rfl, rfl⟩, fun b hb => ?_, q⟩
  have e : b = s1.heap.objs.size := by simpa using hb
  subst e
  exact I1.fpOk (Nat.le_refl _) (I1.hok.fresh (Nat.le_refl _))
theorem range_it {pins : List (Addr × Obj)} {σ : St} {H : Hp} {s : Shared} {R : It → Hp → Prop} {E : Value → Shared → Prop} {lo hi : Int} {t u v : Tok} {tk : Nat} (I : Inv X pins σ H s) (h1 : -(2 ^ 62) ≤ lo) (h2 : lo < 2 ^ 62) (h3 : -(2 ^ 62) ≤ hi) (h4 : hi < 2 ^ 62)
    (q : R (Itr lo (hi - lo).toNat) H) : wpAny (model X.prog X.w) X.A (pyIter (.ref s.heap.objs.size)) (PIE X pins σ tg R) E { s with heap := s.heap.push { cls := .type "range", data := .fields #[.int lo t, .int hi u, .int 1 v] }, toks := tk } := by
  refine wpAny_pyIter_range (IsRange.new ..) (small_one h1 h2 h3 h4) ?_
  have I1 : Inv X pins σ H { s with heap := s.heap.push { cls := .type "range", data := .fields #[.int lo t, .int hi u, .int 1 v] }, toks := tk } := I.kept fun b o e => Heap.get?_push_of_some _ e
  refine ⟨(s.heap.push { cls := .type "range", data := .fields #[.int lo t, .int hi u, .int 1 v] }).objs.size, [(s.heap.push { cls := .type "range", data := .fields #[.int lo t, .int hi u, .int 1 v] }).objs.size], _, _, H, rfl,
    I1.kept (t' := tk) fun b o e => Heap.get?_push_of_some _ e, turn_range _ lo (hi - lo).toNat, ?_, fun b hb => ?_, q⟩
  · have e1 : lo + ((0 : Nat) : Int) * 1 = lo := by simp
    have e2 : (((hi - lo).toNat : Nat) : Int) - ((0 : Nat) : Int) = Builtin.Range.rangeSize lo hi 1 := by rw [rangeSize_one]; split <;> omega
    show IsRangeIter _ _ (lo + ((0 : Nat) : Int) * 1) ((((hi - lo).toNat : Nat) : Int) - ((0 : Nat) : Int)) 1
    rw [e1, e2]
    exact Heap.get?_push_size _ rfl
  · have e : b = (s.heap.push { cls := .type "range", data := .fields #[.int lo t, .int hi u, .int 1 v] }).objs.size := by simpa using hb
    subst e
    exact I1.fpOk (Nat.le_refl _) (I1.hok.fresh (Nat.le_refl _))
def iRng1 (ta : TA) : TI := fun σ H R => ta σ H fun vs H1 => ∃ j : Int, vs = [.int j] ∧ -(2 ^ 62) ≤ j ∧ j < 2 ^ 62 ∧ R (Itr 0 j.toNat) H1
def iRng2 (ta : TA) : TI := fun σ H R => ta σ H fun vs H1 => ∃ i j : Int, vs = [.int i, .int j] ∧ (-(2 ^ 62) ≤ i ∧ i < 2 ^ 62 ∧ -(2 ^ 62) ≤ j ∧ j < 2 ^ 62) ∧ R (Itr i (j - i).toNat) H1
theorem pi_range1 {a : Expr} {ta : TA} {p pos : Pos} (hg : Gl X "range") (hm : X.mg "range" = none) (ha : PA X [a] ta) (hs : starEach [a] X.env = [(false, eval a X.env)] := by rfl) : PI X tg (.Call (.Name "range" p) [a] [] pos) (iRng1 ta) := by
  intro pins s σ H R I h
  refine Call_ (ld_blt I hg hm boot_range (PyProof.Rows.callWith_type1 (thn (ha pos pins s σ H _ I h) fun us s1 ⟨vs, H1, I1, r1, q1⟩ => ?_) hs rfl))
  obtain ⟨j, e, q1, q2, q⟩ := q1
  subst e
  cases r1 with
  | cons r rr =>
    cases rr
    obtain ⟨t, rfl⟩ := r
    exact call_range_1 (range_it I1 (by omega) (by omega) q1 q2 (by simpa using q))
def tFor (wi : TI) (g : TG) (tb : TS) : TS := fun D σ H => wi σ H fun J H1 => ∃ W : Nat → Nat → St → Hp → Prop, (∃ m, W 0 m σ H1) ∧ ∀ i m σ H, W i m σ H →
  (J.stop i H ∧ D.nx σ H) ∨ (J.go i H ∧ ∃ N : St → Hp → Prop, (∀ σ' H', N σ' H' → ∃ m', m' < m ∧ W (i + 1) m' σ' H') ∧ ∀ x H', J.yld i H x H' → g x σ H' fun σ2 H2 => tb { D with nx := N, ct := N, bk := D.nx } σ2 H2)
def pinsAt (fp : List Addr) (h : Heap) : List (Addr × Obj) := fp.filterMap fun b => (h.get? b).map fun o => (b, o)
theorem mem_pinsAt {fp : List Addr} {h : Heap} {b : Addr} {o : Obj} (hb : b ∈ fp) (e : h.get? b = some o) : (b, o) ∈ pinsAt fp h := List.mem_filterMap.mpr ⟨b, hb, by rw [e]; rfl⟩
theorem of_pinsAt {fp : List Addr} {h : Heap} {p : Addr × Obj} (hp : p ∈ pinsAt fp h) : p.1 ∈ fp ∧ h.get? p.1 = some p.2 := by
  obtain ⟨b, hb, e⟩ := List.mem_filterMap.mp hp
  cases q : h.get? b with
  | none => rw [q] at e; cases e
  | some o =>
    rw [q] at e
    have e' : (b, o) = p := Option.some.inj e
    subst e'
    exact ⟨hb, q⟩
theorem Inv.pinned {pins : List (Addr × Obj)} {σ : St} {H : Hp} {s : Shared} {fp : List Addr} (I : Inv X pins σ H s) (hf : ∀ b ∈ fp, FpOk X pins H b) (ho : ∀ b ∈ fp, ∃ o, s.heap.get? b = some o ∧ ∀ v, o.data ≠ .cell v) : Inv X (pins ++ pinsAt fp s.heap) σ H s :=
  I.pins_of fun p hp => (List.mem_append.mp hp).elim (fun z => I.pin p (List.mem_append_right _ z)) fun z => by
    obtain ⟨hb, e⟩ := of_pinsAt z
    obtain ⟨f0, f1, f2, _⟩ := hf p.1 hb
    obtain ⟨o, e', d⟩ := ho p.1 hb
    rw [e] at e'; cases e'
    exact ⟨e, f0, f1, f2, d⟩
theorem Inv.unpinned {pins pl : List (Addr × Obj)} {σ : St} {H : Hp} {s : Shared} (I : Inv X (pins ++ pl) σ H s) : Inv X pins σ H s := I.pins_of fun p hp => I.pin p (List.mem_append_right _ (List.mem_append_left _ hp))
theorem ps_for {iter : Expr} {body : List Stmt} {wi : TI} {g : TG} {tb : TS} {pos : Pos} (hp : PassesOwn (model X.prog X.w) X.A X.env X.xe) (hc : X.calm = true) (hi : PI X tg iter wi) (hg : PG X tg g) (hb : PSs X body tb)
    (hs : ∀ x, foldedSetIterable iter X.env x = pure x := by intro _; rfl) : PS X (.For tg iter body [] pos) (tFor wi g tb) := by
  intro pins s σ H D I h
  refine wpAny_For (thn (hi pins s σ H _ I h) fun v s1 h1 => thn h1 fun itv s2 h2 => ?_) hs
  obtain ⟨it, fp, tn, J, H2, e, I2, T, st2, f2, W, ⟨m0, w0⟩, turn⟩ := h2
  subst e
  have stat : ∀ {H' : Hp}, (∀ b ∈ fp, H' b = none) → ∀ b ∈ fp, FpOk X pins H' b := fun hn b hb => ⟨hn b hb, (f2 b hb).2⟩
  refine codeAny_forLoop_any (fun n s' => ∃ i σ' H', Inv X pins σ' H' s' ∧ tn i s'.heap ∧ (∀ b ∈ fp, H' b = none) ∧ W i n σ' H') ?_ m0 ⟨0, σ, H2, I2, st2, fun b hb => (f2 b hb).1, w0⟩
  rintro n s3 ⟨i, σ3, H3, I3, st3, fr3, w3⟩
  rcases turn i n σ3 H3 w3 with ⟨stop, qn⟩ | ⟨go, N, hN, step⟩
  · refine wpAny_passesOwn hp (thn (T.done X rfl rfl rfl hc i pins s3 σ3 H3 X.xe I3 (stat fr3) st3 stop) fun r s4 ⟨hr, I4⟩ => ?_)
    subst hr
    exact wpAny_execs_nil ⟨σ3, H3, I4, qn⟩
  · refine wpAny_passesOwn hp (thn (T.item X rfl rfl rfl hc i pins s3 σ3 H3 X.xe I3 (stat fr3) st3 go) fun r s4 ⟨u, hr, h4⟩ => ?_)
    subst hr
    refine wpAny_passesOwn hp (thn h4 fun _ s5 ⟨x, H5, I5, r5, y5, st5, fr5⟩ => ?_)
    have I5' := I5.pinned (stat fr5) (T.obj _ _ st5)
    refine wpAny_passesOwn hp (thn (hg _ s5 σ3 H5 x u _ I5' r5 (step x H5 y5)) fun _ s6 ⟨σ6, H6, I6, q6⟩ => ?_)
    refine wpAny_passesOwn hp (thn (hb _ s6 σ6 H6 _ I6 q6) fun f s7 q7 => ?_)
    have again : ∀ {σ7 : St} {H7 : Hp}, Inv X (pins ++ pinsAt fp s5.heap) σ7 H7 s7 → N σ7 H7 → ∃ m, m < n ∧ ∃ i σ' H', Inv X pins σ' H' s7 ∧ tn i s7.heap ∧ (∀ b ∈ fp, H' b = none) ∧ W i m σ' H' := fun {σ7 H7} I7 n7 => by
      obtain ⟨m', hm, w7⟩ := hN σ7 H7 n7
      refine ⟨m', hm, i + 1, σ7, H7, I7.unpinned, T.keep _ _ _ st5 fun b hb o e => (I7.pin (b, o) (List.mem_append_right _ (List.mem_append_right _ (mem_pinsAt hb e)))).1, fun b hb => ?_, w7⟩
      obtain ⟨o, e, d⟩ := T.obj _ _ st5 b hb
      exact (I7.pin (b, o) (List.mem_append_right _ (List.mem_append_right _ (mem_pinsAt hb e)))).2.1
    cases f with
    | next => obtain ⟨σ7, H7, I7, n7⟩ := q7; exact again I7 n7
    | cont => obtain ⟨σ7, H7, I7, n7⟩ := q7; exact again I7 n7
    | brk => obtain ⟨σ7, H7, I7, q7⟩ := q7; exact ⟨σ7, H7, I7.unpinned, q7⟩
    | ret v => obtain ⟨x7, σ7, H7, I7, r7, q7⟩ := q7; exact ⟨x7, σ7, H7, I7.unpinned, r7, q7⟩
end
theorem for_list {K : PySem.W.Frag} {a : Addr} {xs : List V} {g : TG} {tb : TS} {D : Ends} {σ : St} {H : Hp} (Pv : Nat → St → Hp → Prop) (h0 : Pv 0 σ H) (hl : ∀ i σ H, i ≤ xs.length → Pv i σ H → SqL K H a xs)
    (hs : ∀ i x σ H, xs[i]? = some x → Pv i σ H → g x σ H fun σ2 H2 => tb { D with nx := Pv (i + 1), ct := Pv (i + 1), bk := D.nx } σ2 H2) (hd : ∀ σ H, Pv xs.length σ H → D.nx σ H) :
    ∃ W : Nat → Nat → St → Hp → Prop, (∃ m, W 0 m σ H) ∧ ∀ i m σ H, W i m σ H →
      ((Itl K a).stop i H ∧ D.nx σ H) ∨ ((Itl K a).go i H ∧ ∃ N : St → Hp → Prop, (∀ σ' H', N σ' H' → ∃ m', m' < m ∧ W (i + 1) m' σ' H') ∧ ∀ x H', (Itl K a).yld i H x H' → g x σ H' fun σ2 H2 => tb { D with nx := N, ct := N, bk := D.nx } σ2 H2) := by
  refine ⟨fun i m σ H => m = xs.length - i ∧ i ≤ xs.length ∧ Pv i σ H, ⟨xs.length, by simp, Nat.zero_le _, h0⟩, ?_⟩
  rintro i m σ H ⟨rfl, hi, p⟩
  have q := hl i σ H hi p
  by_cases hlt : i < xs.length
  · refine .inr ⟨⟨xs, xs[i], q, by simp [hlt]⟩, Pv (i + 1), fun σ' H' p' => ⟨xs.length - (i + 1), by omega, rfl, hlt, p'⟩, fun x H' y => ?_⟩
    obtain ⟨e, y⟩ := y
    subst e
    exact hs i x σ _ (y xs q) p
  · have e : i = xs.length := by omega
    subst e
    exact .inl ⟨⟨xs, q, Nat.le_refl _⟩, hd σ H p⟩
theorem for_range {lo : Int} {n : Nat} {g : TG} {tb : TS} {D : Ends} {σ : St} {H : Hp} (Pv : Nat → St → Hp → Prop) (h0 : Pv 0 σ H)
    (hs : ∀ i σ H, i < n → Pv i σ H → g (.int (lo + i)) σ H fun σ2 H2 => tb { D with nx := Pv (i + 1), ct := Pv (i + 1), bk := D.nx } σ2 H2) (hd : ∀ σ H, Pv n σ H → D.nx σ H) :
    ∃ W : Nat → Nat → St → Hp → Prop, (∃ m, W 0 m σ H) ∧ ∀ i m σ H, W i m σ H →
      ((Itr lo n).stop i H ∧ D.nx σ H) ∨ ((Itr lo n).go i H ∧ ∃ N : St → Hp → Prop, (∀ σ' H', N σ' H' → ∃ m', m' < m ∧ W (i + 1) m' σ' H') ∧ ∀ x H', (Itr lo n).yld i H x H' → g x σ H' fun σ2 H2 => tb { D with nx := N, ct := N, bk := D.nx } σ2 H2) := by
  refine ⟨fun i m σ H => m = n - i ∧ i ≤ n ∧ Pv i σ H, ⟨n, by simp, Nat.zero_le _, h0⟩, ?_⟩
  rintro i m σ H ⟨rfl, hi, p⟩
  by_cases hlt : i < n
  · refine .inr ⟨hlt, Pv (i + 1), fun σ' H' p' => ⟨n - (i + 1), by omega, rfl, hlt, p'⟩, fun x H' y => ?_⟩
    obtain ⟨e, y⟩ := y
    subst e y
    exact hs i σ _ hlt p
  · have e : i = n := by omega
    subst e
    exact .inl ⟨Nat.le_refl _, hd σ H p⟩
theorem while_by {c : TT} {tb : TS} {D : Ends} {σ : St} {H : Hp} (Pv : St → Hp → Prop) (μ : St → Hp → Nat) (h0 : Pv σ H)
    (hs : ∀ σ H, Pv σ H → c σ H fun b H1 => if b = true then tb { D with nx := fun σ' H' => Pv σ' H' ∧ μ σ' H' < μ σ H, ct := fun σ' H' => Pv σ' H' ∧ μ σ' H' < μ σ H, bk := D.nx } σ H1 else D.nx σ H1)
    (mono : ∀ σ H Q Q', (∀ b H1, Q b H1 → Q' b H1) → c σ H Q → c σ H Q') : tWhile c tb D σ H := by
  refine ⟨fun m σ H => m = μ σ H ∧ Pv σ H, ⟨_, rfl, h0⟩, ?_⟩
  rintro m σ H ⟨rfl, p⟩
  refine mono σ H _ _ (fun b H1 q => ?_) (hs σ H p)
  cases b with
  | true => exact ⟨_, fun σ' H' ⟨p', l⟩ => ⟨_, l, rfl, p'⟩, q⟩
  | false => exact q
end L2
namespace L2
open PySem PySem.Spec PyProof.Rows
abbrev R2 := V → V → Hp → VK → Prop
def OpR (X : Cx) (f : Value → Value → Sem Value) (r : R2) : Prop :=
  ∀ (pins : List (Addr × Obj)) (s : Shared) (σ : St) (H : Hp) (x y : V) (v u : Value) (Q : VK), Inv X pins σ H s → RelV x v → RelV y u → r x y H Q →
    wpAny (model X.prog X.w) X.A (f v u) (EP X pins σ Q) X.xe s
def UnR (X : Cx) (f : Value → Sem Value) (r : V → Hp → VK → Prop) : Prop :=
  ∀ (pins : List (Addr × Obj)) (s : Shared) (σ : St) (H : Hp) (x : V) (v : Value) (Q : VK), Inv X pins σ H s → RelV x v → r x H Q →
    wpAny (model X.prog X.w) X.A (f v) (EP X pins σ Q) X.xe s
def CallR (X : Cx) (f : Value) (r : List V → Hp → VK → Prop) : Prop :=
  ∀ (pins : List (Addr × Obj)) (s : Shared) (σ : St) (H : Hp) (xs : List V) (us : List Value) (Q : VK), Inv X pins σ H s → Vals xs us → r xs H Q →
    wpAny (model X.prog X.w) X.A (call f us) (EP X pins σ Q) X.xe s
def TruR (X : Cx) (r : V → Hp → (Bool → Hp → Prop) → Prop) : Prop :=
  ∀ (pins : List (Addr × Obj)) (s : Shared) (σ : St) (H : Hp) (x : V) (v : Value) (Q : Bool → Hp → Prop), Inv X pins σ H s → RelV x v → r x H Q →
    wpAny (model X.prog X.w) X.A (truthy v) (TP X pins σ Q) X.xe s
def tOp (r : R2) (ta tb : TE) : TE := fun σ H Q => ta σ H fun x H1 => tb σ H1 fun y H2 => r x y H2 Q
def tUn (r : V → Hp → VK → Prop) (ta : TE) : TE := fun σ H Q => ta σ H fun x H1 => r x H1 Q
def rI (C : Int → Int → Prop) (g : Int → Int → V) : R2 := fun x y H Q => ∃ i j, x = .int i ∧ y = .int j ∧ C i j ∧ Q (g i j) H
def rI0 (g : Int → Int → V) : R2 := fun x y H Q => ∃ i j, x = .int i ∧ y = .int j ∧ Q (g i j) H
def rU (g : Int → V) : V → Hp → VK → Prop := fun x H Q => ∃ i, x = .int i ∧ Q (g i) H
section
variable {X : Cx} {a b c : Expr} {ta tb tc : TE} {pos : Pos}
theorem binT (ha : PE X a ta) (hb : PE X b tb) {pins : List (Addr × Obj)} {s : Shared} {σ : St} {H : Hp} {R : V → V → Hp → Prop} (I : Inv X pins σ H s)
    (h : ta σ H fun x H1 => tb σ H1 fun y H2 => R x y H2) {Q : Value → Shared → Prop} {f : Value → Value → Sem Value}
    (hf : ∀ v u s2 x y H2, Inv X pins σ H2 s2 → RelV x v → RelV y u → R x y H2 → wpAny (model X.prog X.w) X.A (f v u) Q X.xe s2) :
    wpAny (model X.prog X.w) X.A (eval a X.env) (fun v s₁ => wpAny (model X.prog X.w) X.A (eval b X.env) (fun u s₂ => wpAny (model X.prog X.w) X.A (f v u) Q X.xe s₂) X.xe s₁) X.xe s := by
  refine thn (ha pins s σ H _ I h) fun v s1 ⟨x, H1, I1, r1, q1⟩ => ?_
  refine thn (hb pins s1 σ H1 _ I1 q1) fun u s2 ⟨y, H2, I2, r2, q2⟩ => ?_
  exact hf v u s2 x y H2 I2 r1 r2 q2
theorem pe_op {op : Operator} {r : R2} (ho : OpR X (binaryOp op) r) (ha : PE X a ta) (hb : PE X b tb) : PE X (.BinOp a op b pos) (tOp r ta tb) := by
  intro pins s σ H Q I h
  exact wpAny_BinOp (binT ha hb I h fun v u s2 x y H2 I2 rx ry q => ho pins s2 σ H2 x y v u Q I2 rx ry q)
theorem pe_un {op : UnaryOp} {r : V → Hp → VK → Prop} (ho : UnR X (unaryOp op) r) (ha : PE X a ta) : PE X (.UnaryOp op a pos) (tUn r ta) := by
  intro pins s σ H Q I h
  exact UnaryOp_ (thn (ha pins s σ H _ I h) fun v s1 ⟨x, H1, I1, r1, q1⟩ => ho pins s1 σ H1 x v Q I1 r1 q1)
theorem opI {f : Value → Value → Sem Value} {C : Int → Int → Prop} {g : Int → Int → Int}
    (rule : ∀ (i j : Int) (t u : Tok) (s : Shared) (Q : Value → Shared → Prop) (E : Value → Shared → Prop), C i j → Q (.int (g i j) s.toks) { s with toks := s.toks + 1 } → wpAny (model X.prog X.w) X.A (f (.int i t) (.int j u)) Q E s) :
    OpR X f (rI C fun i j => .int (g i j)) := by
  intro pins s σ H x y v u Q I rx ry h
  obtain ⟨i, j, rfl, rfl, hc, q⟩ := h
  obtain ⟨t, rfl⟩ := rx
  obtain ⟨t', rfl⟩ := ry
  exact rule i j t t' s _ _ hc ⟨.int (g i j), H, I.tok _, ⟨_, rfl⟩, q⟩
theorem opI0 {f : Value → Value → Sem Value} {g : Int → Int → Int}
    (rule : ∀ (i j : Int) (t u : Tok) (s : Shared) (Q : Value → Shared → Prop) (E : Value → Shared → Prop), Q (.int (g i j) s.toks) { s with toks := s.toks + 1 } → wpAny (model X.prog X.w) X.A (f (.int i t) (.int j u)) Q E s) :
    OpR X f (rI0 fun i j => .int (g i j)) := by
  intro pins s σ H x y v u Q I rx ry h
  obtain ⟨i, j, rfl, rfl, q⟩ := h
  obtain ⟨t, rfl⟩ := rx
  obtain ⟨t', rfl⟩ := ry
  exact rule i j t t' s _ _ ⟨.int (g i j), H, I.tok _, ⟨_, rfl⟩, q⟩
theorem opB0 {f : Value → Value → Sem Value} {g : Int → Int → Bool}
    (rule : ∀ (i j : Int) (t u : Tok) (s : Shared) (Q : Value → Shared → Prop) (E : Value → Shared → Prop), Q (.bool (g i j)) s → wpAny (model X.prog X.w) X.A (f (.int i t) (.int j u)) Q E s) :
    OpR X f (rI0 fun i j => .bl (g i j)) := by
  intro pins s σ H x y v u Q I rx ry h
  obtain ⟨i, j, rfl, rfl, q⟩ := h
  obtain ⟨t, rfl⟩ := rx
  obtain ⟨t', rfl⟩ := ry
  exact rule i j t t' s _ _ ⟨.bl (g i j), H, I, rfl, q⟩
def CDiv (i j : Int) : Prop := 0 < j ∧ j < 1073741824
def CDivN (i j : Int) : Prop := j ≠ 0 ∧ j.natAbs < 1073741824
def CPow (i j : Int) : Prop := 0 ≤ j ∧ j ≤ 1000000 ∧ i.natAbs < 2 ^ 64
def CMul (i j : Int) : Prop := (-(2 ^ 64) < i ∧ i < 2 ^ 64) ∨ (-(2 ^ 64) < j ∧ j < 2 ^ 64)
theorem op_add : OpR X (binaryOp .Add) (rI0 fun i j => .int (i + j)) := opI0 fun _ _ _ _ _ _ _ q => add_int q
theorem op_sub : OpR X (binaryOp .Sub) (rI0 fun i j => .int (i - j)) := opI0 fun _ _ _ _ _ _ _ q => sub_int q
theorem op_fdiv : OpR X (binaryOp .FloorDiv) (rI CDiv fun i j => .int (i / j)) := opI fun i j _ _ _ _ _ hc q => by
  have h1 : (0 : Int) < j := hc.1
  have h2 : j < 1073741824 := hc.2
  exact floordiv_int (by omega) (by rw [Int.fdiv_eq_ediv_of_nonneg i (by omega)]; exact q) (.inl (PyProof.noPylong_small (by omega)))
theorem op_mod : OpR X (binaryOp .Mod) (rI (fun _ j => 0 < j) fun i j => .int (i % j)) := opI fun i j _ _ _ _ _ hc q => by
  have h1 : (0 : Int) < j := hc
  exact mod_int' (by omega) (by rw [Int.fmod_eq_emod_of_nonneg i (by omega)]; exact q)
theorem unI {f : Value → Sem Value} {g : Int → Int}
    (rule : ∀ (i : Int) (t : Tok) (s : Shared) (Q : Value → Shared → Prop) (E : Value → Shared → Prop), Q (.int (g i) s.toks) { s with toks := s.toks + 1 } → wpAny (model X.prog X.w) X.A (f (.int i t)) Q E s) :
    UnR X f (rU fun i => .int (g i)) := by
  intro pins s σ H x v Q I rx h
  obtain ⟨i, rfl, q⟩ := h
  obtain ⟨t, rfl⟩ := rx
  exact rule i t s _ _ ⟨.int (g i), H, I.tok _, ⟨_, rfl⟩, q⟩
theorem un_neg : UnR X (unaryOp .USub) (rU fun i => .int (-i)) := unI fun _ _ _ _ _ q => neg_int q
end
def scal : V → V → Bool
  | .non, .non => true | .non, .int _ => true | .int _, .non => true | .non, .bl _ => true | .bl _, .non => true | .non, .str _ => true | .str _, .non => true
  | .int _, .int _ => true | .bl _, .bl _ => true | .str _, .str _ => true | .byt _, .byt _ => true
  | .int _, .str _ => true | .str _, .int _ => true | .bl _, .str _ => true | .str _, .bl _ => true
  | _, _ => false
def rEq : R2 := fun x y H Q => scal x y = true ∧ Q (.bl (decide (x = y))) H
def rNe : R2 := fun x y H Q => scal x y = true ∧ Q (.bl (!decide (x = y))) H
theorem dec_int {i j : Int} : decide (V.int i = V.int j) = (i == j) := by
  rw [Bool.eq_iff_iff]
  simp
theorem dec_bl {i j : Bool} : decide (V.bl i = V.bl j) = (i == j) := by
  rw [Bool.eq_iff_iff]
  simp
theorem dec_str {i j : Str} : decide (V.str i = V.str j) = (i == j) := by
  rw [Bool.eq_iff_iff]
  simp
theorem dec_byt {i j : Array UInt8} : decide (V.byt i = V.byt j) = (i.toList == j.toList) := by
  rw [Bool.eq_iff_iff]
  cases i
  cases j
  simp
section
variable {X : Cx} {a b c : Expr} {ta tb tc : TE} {pos : Pos}
theorem fin_bl {pins : List (Addr × Obj)} {σ : St} {H : Hp} {s : Shared} {Q : VK} {k k' : Bool} (I : Inv X pins σ H s) (q : Q (.bl k) H) (e : k = k') : EP X pins σ Q (.bool k') s := by
  subst e
  exact ⟨.bl k, H, I, rfl, q⟩
theorem op_eq : OpR X (compareOp .Eq) rEq := by
  intro pins s σ H x y v u Q I rx ry h
  obtain ⟨hs, q⟩ := h
  cases x with
  | non =>
    cases rx
    cases y with
    | non => cases ry; exact PySem.EqNone.eq_none_none (fin_bl I q (by simp))
    | bl j => cases ry; exact PySem.EqNone.eq_none_bool (fin_bl I q (by simp))
    | int j => obtain ⟨t', rfl⟩ := ry; exact PySem.EqNone.eq_none_int (fin_bl I q (by simp))
    | str j => obtain ⟨t', rfl⟩ := ry; exact PySem.EqNone.eq_none_str (fin_bl I q (by simp))
    | _ => exact absurd (show false = true from hs) Bool.false_ne_true
  | bl i =>
    cases rx
    cases y with
    | non => cases ry; exact PySem.EqNone.eq_bool_none (fin_bl I q (by simp))
    | bl j => cases ry; exact eq_bool (fin_bl I q dec_bl)
    | str j => obtain ⟨t', rfl⟩ := ry; exact PySem.EqMixed.eq_bool_str (fin_bl I q (by simp))
    | _ => exact absurd (show false = true from hs) Bool.false_ne_true
  | int i =>
    obtain ⟨t, rfl⟩ := rx
    cases y with
    | non => cases ry; exact PySem.EqNone.eq_int_none (fin_bl I q (by simp))
    | int j => obtain ⟨t', rfl⟩ := ry; exact eq_int (fin_bl I q dec_int)
    | str j => obtain ⟨t', rfl⟩ := ry; exact PySem.EqMixed.eq_int_str (fin_bl I q (by simp))
    | _ => exact absurd (show false = true from hs) Bool.false_ne_true
  | str i =>
    obtain ⟨t, rfl⟩ := rx
    cases y with
    | non => cases ry; exact PySem.EqNone.eq_str_none (fin_bl I q (by simp))
    | bl j => cases ry; exact PySem.EqMixed.eq_str_bool (fin_bl I q (by simp))
    | int j => obtain ⟨t', rfl⟩ := ry; exact PySem.EqMixed.eq_str_int (fin_bl I q (by simp))
    | str j => obtain ⟨t', rfl⟩ := ry; exact eq_str (fin_bl I q dec_str)
    | _ => exact absurd (show false = true from hs) Bool.false_ne_true
  | byt i =>
    obtain ⟨t, rfl⟩ := rx
    cases y with
    | byt j => obtain ⟨t', rfl⟩ := ry; exact PySem.W.eq_bytes (fin_bl I q dec_byt)
    | _ => exact absurd (show false = true from hs) Bool.false_ne_true
  | _ => cases y <;> exact absurd (show false = true from hs) Bool.false_ne_true
theorem op_ne : OpR X (compareOp .NotEq) rNe := by
  intro pins s σ H x y v u Q I rx ry h
  obtain ⟨hs, q⟩ := h
  cases x with
  | non =>
    cases rx
    cases y with
    | non => cases ry; exact PySem.EqNone.ne_none_none (fin_bl I q (by simp))
    | bl j => cases ry; exact PySem.EqNone.ne_none_bool (fin_bl I q (by simp))
    | int j => obtain ⟨t', rfl⟩ := ry; exact PySem.EqNone.ne_none_int (fin_bl I q (by simp))
    | str j => obtain ⟨t', rfl⟩ := ry; exact PySem.EqNone.ne_none_str (fin_bl I q (by simp))
    | _ => exact absurd (show false = true from hs) Bool.false_ne_true
  | bl i =>
    cases rx
    cases y with
    | non => cases ry; exact PySem.EqNone.ne_bool_none (fin_bl I q (by simp))
    | bl j => cases ry; exact ne_bool (fin_bl I q (congrArg not dec_bl))
    | str j => obtain ⟨t', rfl⟩ := ry; exact PySem.EqMixed.ne_bool_str (fin_bl I q (by simp))
    | _ => exact absurd (show false = true from hs) Bool.false_ne_true
  | int i =>
    obtain ⟨t, rfl⟩ := rx
    cases y with
    | non => cases ry; exact PySem.EqNone.ne_int_none (fin_bl I q (by simp))
    | int j => obtain ⟨t', rfl⟩ := ry; exact ne_int (fin_bl I q (congrArg not dec_int))
    | str j => obtain ⟨t', rfl⟩ := ry; exact PySem.EqMixed.ne_int_str (fin_bl I q (by simp))
    | _ => exact absurd (show false = true from hs) Bool.false_ne_true
  | str i =>
    obtain ⟨t, rfl⟩ := rx
    cases y with
    | non => cases ry; exact PySem.EqNone.ne_str_none (fin_bl I q (by simp))
    | bl j => cases ry; exact PySem.EqMixed.ne_str_bool (fin_bl I q (by simp))
    | int j => obtain ⟨t', rfl⟩ := ry; exact PySem.EqMixed.ne_str_int (fin_bl I q (by simp))
    | str j => obtain ⟨t', rfl⟩ := ry; exact ne_str (fin_bl I q (congrArg not dec_str))
    | _ => exact absurd (show false = true from hs) Bool.false_ne_true
  | byt i =>
    obtain ⟨t, rfl⟩ := rx
    cases y with
    | byt j => obtain ⟨t', rfl⟩ := ry; exact PySem.W.ne_bytes (fin_bl I q (congrArg not dec_byt))
    | _ => exact absurd (show false = true from hs) Bool.false_ne_true
  | _ => cases y <;> exact absurd (show false = true from hs) Bool.false_ne_true
theorem op_lt : OpR X (compareOp .Lt) (rI0 fun i j => .bl (decide (i < j))) := opB0 fun _ _ _ _ _ _ _ q => lt_int q
theorem op_le : OpR X (compareOp .LtE) (rI0 fun i j => .bl (decide (i ≤ j))) := opB0 fun _ _ _ _ _ _ _ q => le_int q
theorem op_gt : OpR X (compareOp .Gt) (rI0 fun i j => .bl (decide (j < i))) := opB0 fun _ _ _ _ _ _ _ q => gt_int q
theorem op_ge : OpR X (compareOp .GtE) (rI0 fun i j => .bl (decide (j ≤ i))) := opB0 fun _ _ _ _ _ _ _ q => ge_int q
theorem op_in_str : OpR X (compareOp .In) (fun x y H Q => ∃ i j, x = .str i ∧ y = .str j ∧ Q (.bl (!(Builtin.Str.occurrences j i 0 j.length 1).isEmpty)) H) := by
  intro pins s σ H x y v u Q I rx ry h
  obtain ⟨i, j, rfl, rfl, q⟩ := h
  obtain ⟨t, rfl⟩ := rx
  obtain ⟨t', rfl⟩ := ry
  exact in_str (fin_bl I q rfl)
theorem op_notin_str : OpR X (compareOp .NotIn) (fun x y H Q => ∃ i j, x = .str i ∧ y = .str j ∧ Q (.bl (!(!(Builtin.Str.occurrences j i 0 j.length 1).isEmpty))) H) := by
  intro pins s σ H x y v u Q I rx ry h
  obtain ⟨i, j, rfl, rfl, q⟩ := h
  obtain ⟨t, rfl⟩ := rx
  obtain ⟨t', rfl⟩ := ry
  exact notIn_str (fin_bl I q rfl)
def isObj : HO → Bool
  | .lst _ => true
  | .ins _ _ _ => true
  | _ => false
theorem nomark (b : Expr) {op : CmpOp} (h : op ≠ .In := by decide) (h2 : op ≠ .NotIn := by decide) : behindInMarks op b = false := by
  have e1 : (op == CmpOp.In) = false := by cases op <;> first | rfl | exact absurd rfl h
  have e2 : (op == CmpOp.NotIn) = false := by cases op <;> first | rfl | exact absurd rfl h2
  cases b <;> simp [behindInMarks, e1, e2]
theorem pe_cmpR {op : CmpOp} {r : R2} (ho : OpR X (compareOp op) r) (ha : PE X a ta) (hb : PE X b tb) (hm : behindInMarks op b = false) : PE X (.Compare a [op] [b] pos) (tOp r ta tb) := by
  intro pins s σ H Q I h
  exact wpAny_Compare1 (binT ha hb I h fun v u s2 x y H2 I2 rx ry q => ho pins s2 σ H2 x y v u Q I2 rx ry q) hm
def tTest (t : TE) : TT := fun σ H Q => t σ H fun x H' => ∃ k, x = .bl k ∧ Q k H'
theorem pt_cmpR {op : CmpOp} {r : R2} (ho : OpR X (compareOp op) r) (ha : PE X a ta) (hb : PE X b tb) (hm : behindInMarks op b = false) : PT X (.Compare a [op] [b] pos) (tTest (tOp r ta tb)) := by
  intro pins s σ H Q I h
  refine wpAny_isTrue_Compare1 (thn (ha pins s σ H _ I h) fun v s1 ⟨x, H1, I1, r1, q1⟩ => thn (hb pins s1 σ H1 _ I1 q1) fun u s2 ⟨y, H2, I2, r2, q2⟩ =>
    thn (ho pins s2 σ H2 x y v u _ I2 r1 r2 q2) fun c s3 ⟨z, H3, I3, r3, k, e, q3⟩ => ?_) hm
  subst e
  cases r3
  exact wpAny_truthy_bool ⟨H3, I3, q3⟩
def tChain (r r' : R2) (ta tb tc : TE) : TE := fun σ H Q => ta σ H fun x H1 => tb σ H1 fun y H2 => r x y H2 fun z H3 => ∃ k, z = .bl k ∧
  (if k = true then tc σ H3 fun w' H4 => r' y w' H4 Q else Q (.bl false) H3)
theorem pt_chain {op op' : CmpOp} {r r' : R2} (ho : OpR X (compareOp op) r) (ho' : OpR X (compareOp op') r') (ha : PE X a ta) (hb : PE X b tb) (hc : PE X c tc)
    (hm : lastMarks [op, op'] [b, c] = false := by with_unfolding_all rfl) : PT X (.Compare a [op, op'] [b, c] pos) (tTest (tChain r r' ta tb tc)) := by
  intro pins s σ H Q I h
  refine isTrue_chain (thn (ha pins s σ H _ I h) fun v s1 ⟨x, H1, I1, r1, q1⟩ => test_link (thn (hb pins s1 σ H1 _ I1 q1) fun u s2 ⟨y, H2, I2, r2, q2⟩ =>
    thn (ho pins s2 σ H2 x y v u _ I2 r1 r2 q2) fun d s3 ⟨z, H3, I3, r3, k, e, q3⟩ => ?_)) hm
  subst e
  cases r3
  refine wpAny_truthy_bool ?_
  cases k with
  | false =>
    obtain ⟨k', e', q'⟩ := q3
    cases e'
    exact ite_ff ⟨H3, I3, q'⟩
  | true =>
    refine ite_tt (test_last (thn (hc pins s3 σ H3 _ I3 q3) fun w' s4 ⟨z', H4, I4, r4, q4⟩ => thn (ho' pins s4 σ H4 y z' u w' _ I4 r2 r4 q4) fun d' s5 ⟨z2, H5, I5, r5, k2, e2, q5⟩ => ?_))
    subst e2
    cases r5
    exact wpAny_truthy_bool ⟨H5, I5, q5⟩
def TruV (K : PySem.W.Frag) (x : V) (H : Hp) (k : Bool) : Prop :=
  match x with
  | .non => k = false
  | .bl b => k = b
  | .int i => k = (i != 0)
  | .str y => y.length ≤ sizeLine ∧ k = ((y.length : Int) != 0)
  | .byt y => y.size ≤ sizeLine ∧ k = ((y.size : Int) != 0)
  | .ref p => (∃ xs, SqL K H p xs ∧ k = !xs.isEmpty) ∨ (∃ xs, SqT K H p xs ∧ k = !xs.isEmpty) ∨ ∃ kvs, H p = some (.dK kvs) ∧ k = !kvs.isEmpty
  | _ => False
theorem line63 : (sizeLine : Nat) < 2 ^ 63 := by rw [sizeLine_eq]; decide
theorem op_add_str : OpR X (binaryOp .Add) (fun x y H Q => ∃ i j, x = .str i ∧ y = .str j ∧ i.length + j.length ≤ sizeLine ∧ Q (.str (i ++ j)) H) := by
  intro pins s σ H x y v u Q I rx ry h
  obtain ⟨i, j, rfl, rfl, hz, q⟩ := h
  obtain ⟨t, rfl⟩ := rx
  obtain ⟨t', rfl⟩ := ry
  exact add_str (fun t' tk => ⟨.str (i ++ j), H, I.tok _, ⟨_, rfl⟩, q⟩) hz
def PlainIxT (b : Expr) : Prop := ∀ o i, subscripted b false o i = operate [o, i] (getItem o i)
theorem vals1 {x : V} {us : List Value} (r : Vals [x] us) : ∃ u, us = [u] ∧ RelV x u := by
  cases r with
  | cons r1 r2 => cases r2; exact ⟨_, rfl, r1⟩
theorem vals2 {x y : V} {us : List Value} (r : Vals [x, y] us) : ∃ u w', us = [u, w'] ∧ RelV x u ∧ RelV y w' := by
  cases r with
  | cons r1 r2 =>
    cases r2 with
    | cons r3 r4 => cases r4; exact ⟨_, _, rfl, r1, r3⟩
theorem call_min2 (hc : X.calm = true) : CallR X (.builtin "min") (fun xs H Q => ∃ i j, xs = [.int i, .int j] ∧ Q (.int (if j < i then j else i)) H) := by
  intro pins s σ H xs us Q I r h
  obtain ⟨i, j, rfl, q⟩ := h
  obtain ⟨u, w', rfl, ⟨t, rfl⟩, ⟨t', rfl⟩⟩ := vals2 r
  refine min_two_ints (I.ok.hd hc) fun h' tk k => ⟨_, H, I.kept k, ?_, q⟩
  by_cases hj : j < i
  · rw [if_pos hj, if_pos hj]; exact ⟨_, rfl⟩
  · rw [if_neg hj, if_neg hj]; exact ⟨_, rfl⟩
def LenV (K : PySem.W.Frag) (x : V) (H : Hp) (n : Nat) : Prop :=
  match x with
  | .str y => y.length ≤ sizeLine ∧ n = y.length
  | .byt y => y.size ≤ sizeLine ∧ n = y.size
  | .ref p => (∃ xs, SqL K H p xs ∧ n = xs.length) ∨ ∃ xs, SqT K H p xs ∧ n = xs.length
  | _ => False
end
end L2
namespace L2
open PySem PySem.Spec PyProof.Rows
structure ObjM (h : Heap) (x dx C : Addr) (mA : Str → Option Value) : Prop where
  obj : h.get? x = some (PySem.W.instObj C dx)
  ns : h.Ns1 dx mA
  ne : dx ≠ x
theorem lookIn_ns {h : Heap} {dx : Addr} {mA : Str → Option Value} (n : h.Ns1 dx mA) : ∃ od, h.get? dx = some od ∧ ∀ name, PySem.W.lookIn name od = some (mA name) := by
  obtain ⟨o, es, ep, ho, hd, hk, _, hm⟩ := n
  refine ⟨o, ho, fun name => ?_⟩
  have e := hm name
  unfold nsFind findBy at e
  rw [← Array.find?_toList] at e
  unfold PySem.W.lookIn
  rw [hd]
  dsimp only
  split
  · rename_i y q
    rw [q] at e
    exact congrArg some e
  · rename_i q
    rw [q] at e
    have a : es.toList.any (·.refKey) = false := by
      rw [List.any_eq_false]
      intro y hy
      obtain ⟨z, t, hkey⟩ := hk y (Array.mem_toList_iff.mp hy)
      simp [DictEntry.refKey, hkey]
    have a' : ¬ es.toList.any (·.refKey) = true := by rw [a]; exact Bool.false_ne_true
    rw [if_neg a']
    exact congrArg some e
theorem ObjM.look {h : Heap} {x dx C : Addr} {mA : Str → Option Value} (I : ObjM h x dx C mA) : ∃ od, PySem.W.InstAt h x (PySem.W.instObj C dx) C (some od) ∧ ∀ name, PySem.W.lookIn name od = some (mA name) :=
  let ⟨od, ho, hl⟩ := lookIn_ns I.ns
  ⟨od, ⟨I.obj, rfl, rfl, ho⟩, hl⟩
section
variable {prog : Program} {w : World} {A : Around} {E : Value → Shared → Prop} {s : Shared} {K : PySem.W.Frag} {x dx C f : Addr} {mA : Str → Option Value} {name : Str} {v : Value}
theorem get_map {expr : Bool} {Q : Value → Shared → Prop} (X : K.In s.heap) (I : ObjM s.heap x dx C mA) (hg : PySem.W.plainGet K C name = true) (hh : PySem.W.hasDictIn K C = true)
    (ha : PySem.W.findIn K (.ref C) name = some none) (hv : mA name = some v) (hv' : PySem.W.handedIn v = true) (h : Q v { s with toks := s.toks + 1 }) :
    wpAny (model prog w) A (getAttr (.ref x) name expr) Q E s := by
  obtain ⟨od, J, hl⟩ := I.look
  exact PySem.W.get_value X J (PySem.W.plainGet_of hg).1 (PySem.W.findObj_own hh ha rfl (by rw [hl, hv])) hv' h
theorem get_meth {pl : Sem Bool} {Q : Value × List Value → Shared → Prop} (X : K.In s.heap) (I : ObjM s.heap x dx C mA) (hg : PySem.W.plainGet K C name = true)
    (hf : PySem.W.findIn K (.ref C) name = some (some (.ref f))) (ht : PySem.W.isFn K (.ref f) = true) (hv : mA name = none) (h : Q (.ref f, [.ref x]) s) :
    wpAny (model prog w) A (getMethod (.ref x) name pl) Q E s := by
  obtain ⟨od, J, hl⟩ := I.look
  exact PySem.W.method_fn X J (PySem.W.plainGet_of hg).1 (PySem.W.plainGet_of hg).2 hf (beq_iff_eq.mp ht) (by show (PySem.W.lookIn name od).map (·.isSome) = some false; rw [hl, hv]; rfl) h
theorem set_map {ns : List Str} {Q : Unit → Shared → Prop} (X : K.In s.heap) (I : ObjM s.heap x dx C mA)
    (hs : PySem.W.findIn K (.ref C) "__setattr__" = some (some (.builtin "object.__setattr__"))) (hp : PySem.W.plainOver K C = true) (ht : PySem.W.takerIn K C name = some none) (hh : PySem.W.hasDictIn K C = true)
    (hw : PySem.Within mA ns) (hsz : ns.length ≤ sizeLine)
    (h : ∀ h', ObjM h' x dx C (fun y => if y = name then some v else mA y) → Heap.SameBut dx s.heap h' → Q () { s with heap := h', toks := s.toks + 2 }) :
    wpAny (model prog w) A (setAttr (.ref x) name v) Q E s := by
  obtain ⟨od, J, hl⟩ := I.look
  refine PySem.W.set_plain X J hs (PySem.W.osa_open (s := { s with toks := s.toks + 1 }) (r := none) X J hp ht fun b => ?_)
  obtain ⟨cd, hc, hd'⟩ := PySem.W.any_some hh
  have hx : s.heap.get? x = some ⟨.ref C, some dx, .plain, #[]⟩ := I.obj
  refine wpAny_bind (wpAny_pure (wpAny_bind (wpAny_bind (wpAny_loadPart hx (wpAny_bind (PySem.W.Looks.here (s := { s with toks := s.toks + 1 }) (PySem.W.looks_clsIn X hc) ?_))))))
  rw [hd']
  refine wpAny_pure (a := some dx) (wpAny_bind (wpAny_pure (wpAny_bind ?_)))
  refine wpAny_nsSet1 (s := { s with toks := s.toks + 1 }) I.ns fun h' hn2 hs2 => ?_
  obtain ⟨oD, esD, epD, hoD, hdD, hcD⟩ := hn2.count (PySem.Within.cons name v hw)
  refine wpAny_bind (wpAny_lookBehind hoD (by rw [hdD]; exact pastItsLine_dict (Nat.le_trans hcD (by rw [List.length_cons]; omega))) ?_)
  exact wpAny_pure (h _ ⟨(hs2.2 _ (Ne.symm I.ne)).trans I.obj, hn2, I.ne⟩ hs2)
theorem make_map {R : Result → Shared → Prop} {vs : List Value} {kw : List (Str × Value)} (X : K.In s.heap) (hm : PySem.W.makesIn K C = true)
    (hi : PySem.W.findIn K (.ref C) "__init__" = some (some (.ref f))) (hf : PySem.W.typeIn K (.ref f) = some (.type "function"))
    (h : codeAny (model prog w) (A.under (.builtin "type.__call__" ⟨.ref C :: vs, kw⟩)) (.call (.ref f) ⟨.ref (s.heap.objs.size + 1) :: vs, kw⟩) (PySem.W.InitBack (s.heap.objs.size + 1) R)
      { s with heap := (s.heap.push PySem.W.emptyDict).push (PySem.W.instObj C s.heap.objs.size) }) :
    codeAny (model prog w) A (.call (.ref C) ⟨vs, kw⟩) R s := by
  obtain ⟨hh, g, d, t, os⟩ := s
  exact PySem.W.make_core (PySem.W.makes_of X hm) (PySem.W.looks_findIn X hi) (fun self => PySem.W.bind_fn X self hf) (.inl rfl) h
theorem make_map0 {R : Result → Shared → Prop} (X : K.In s.heap) (hm : PySem.W.makesIn K C = true)
    (hi : PySem.W.findIn K (.ref C) "__init__" = some (some (.builtin "object.__init__")))
    (hb : ∀ self, PySem.W.Looks (model prog w) s.heap (bindSpecial (.builtin "object.__init__") self) (.builtin "object.__init__", [self]))
    (h : codeAny (model prog w) (A.under (.builtin "type.__call__" ⟨[.ref C], []⟩)) (.call (.builtin "object.__init__") ⟨[.ref (s.heap.objs.size + 1)], []⟩) (PySem.W.InitBack (s.heap.objs.size + 1) R)
      { s with heap := (s.heap.push PySem.W.emptyDict).push (PySem.W.instObj C s.heap.objs.size) }) :
    codeAny (model prog w) A (.call (.ref C) ⟨[], []⟩) R s := by
  obtain ⟨hh, g, d, t, os⟩ := s
  exact PySem.W.make_core (PySem.W.makes_of X hm) (PySem.W.looks_findIn X hi) hb (.inr ⟨rfl, rfl⟩) h
end
def putF (f : Str) (v : V) : List (Str × V) → List (Str × V)
  | [] => [(f, v)]
  | (g, x) :: r => if g = f then (g, v) :: r else (g, x) :: putF f v r
theorem lookup_putF (f g : Str) (v : V) : ∀ fs : List (Str × V), (putF f v fs).lookup g = if g = f then some v else fs.lookup g
  | [] => by
    show List.lookup g [(f, v)] = _
    by_cases h : g = f
    · have hb : (g == f) = true := beq_iff_eq.mpr h
      simp only [List.lookup, hb, if_pos h]
    · have hb : (g == f) = false := beq_eq_false_iff_ne.mpr h
      simp only [List.lookup, hb, if_neg h]
  | (k, x) :: r => by
    have ih := lookup_putF f g v r
    rw [show putF f v ((k, x) :: r) = (if k = f then (k, v) :: r else (k, x) :: putF f v r) from rfl]
    by_cases hk : k = f
    · rw [if_pos hk]
      by_cases h : g = k
      · have hb : (g == k) = true := beq_iff_eq.mpr h
        simp only [List.lookup, hb, if_pos (h.trans hk)]
      · have hb : (g == k) = false := beq_eq_false_iff_ne.mpr h
        simp only [List.lookup, hb, if_neg (fun e : g = f => h (e.trans hk.symm))]
    · rw [if_neg hk]
      by_cases h : g = k
      · have hb : (g == k) = true := beq_iff_eq.mpr h
        simp only [List.lookup, hb, if_neg (fun e : g = f => hk (h.symm.trans e))]
      · have hb : (g == k) = false := beq_eq_false_iff_ne.mpr h
        simp only [List.lookup, hb]
        exact ih
theorem keys_putF (f : Str) (v : V) : ∀ fs : List (Str × V), f ∈ (putF f v fs).map (·.1) ∧ ∀ g, g ∈ fs.map (·.1) → g ∈ (putF f v fs).map (·.1)
  | [] => ⟨by simp [putF], fun g h => by simp at h⟩
  | (k, x) :: r => by
    obtain ⟨i1, i2⟩ := keys_putF f v r
    rw [show putF f v ((k, x) :: r) = (if k = f then (k, v) :: r else (k, x) :: putF f v r) from rfl]
    by_cases hk : k = f
    · rw [if_pos hk]
      subst hk
      exact ⟨by simp, fun g h => by simpa using h⟩
    · rw [if_neg hk]
      refine ⟨?_, fun g h => ?_⟩
      · rw [List.map_cons]
        exact List.mem_cons_of_mem _ i1
      · rw [List.map_cons] at h ⊢
        rcases List.mem_cons.mp h with e | e
        · exact List.mem_cons.mpr (.inl e)
        · exact List.mem_cons_of_mem _ (i2 g e)
theorem length_putF (f : Str) (v : V) : ∀ fs : List (Str × V), (putF f v fs).length ≤ fs.length + 1
  | [] => by simp [putF]
  | (k, x) :: r => by
    have ih := length_putF f v r
    rw [show putF f v ((k, x) :: r) = (if k = f then (k, v) :: r else (k, x) :: putF f v r) from rfl]
    by_cases hk : k = f
    · rw [if_pos hk, List.length_cons, List.length_cons]; omega
    · rw [if_neg hk, List.length_cons, List.length_cons]; omega
theorem RelO.some_of {v : V} {o : Option Value} (r : RelO (some v) o) : ∃ u, o = some u ∧ RelV v u := by
  cases o with
  | none => exact (show False from r).elim
  | some u => exact ⟨u, rfl, r⟩
theorem RelO.none_of {o : Option Value} (r : RelO none o) : o = none := by
  cases o with
  | none => rfl
  | some u => exact (show False from r).elim
theorem handed_of {v : V} {u : Value} (r : RelV v u) : PySem.W.handedIn u = true := by
  cases v with
  | non => cases (show u = Value.none from r); rfl
  | bl b => cases (show u = Value.bool b from r); rfl
  | int i => obtain ⟨t, e⟩ := (show ∃ t, u = Value.int i t from r); cases e; rfl
  | str x => obtain ⟨t, e⟩ := (show ∃ t, u = Value.str x t from r); cases e; rfl
  | byt b => obtain ⟨t, e⟩ := (show ∃ t, u = Value.bytes b t from r); cases e; rfl
  | flt b => obtain ⟨t, e⟩ := (show ∃ t, u = Value.float b t from r); cases e; rfl
  | ref a => cases (show u = Value.ref a from r); rfl
  | ty n => cases (show u = Value.type n from r); rfl
section
variable {P : Program} {w : World} {H H' : Hp} {h h' : Heap} {a C dx : Addr} {fs fs' : List (Str × V)}
theorem ins_get (hok : HOk P w H h) (e : H a = some (.ins C dx fs)) : ∃ mA, ObjM h a dx C mA ∧ (∀ f, RelO (fs.lookup f) (mA f)) ∧ PySem.Within mA (fs.map (·.1)) ∧ fs.length ≤ 1000 ∧ H dx = some (.own a) := by
  obtain ⟨d, z, ne, ob, mA, n, r, q⟩ := (show ObjOk P w H h a (.ins C dx fs) from hok a _ e)
  exact ⟨mA, ⟨ob, n, ne⟩, r, q, z, d⟩
end
structure Cls (K : PySem.W.Frag) (C : Addr) : Prop where
  pg : PySem.W.plainGet K C Str.empty = true
  hd : PySem.W.hasDictIn K C = true
  po : PySem.W.plainOver K C = true
  sa : PySem.W.findIn K (.ref C) "__setattr__" = some (some (.builtin "object.__setattr__"))
theorem Cls.get {K : PySem.W.Frag} {C : Addr} (c : Cls K C) (f : Str) : PySem.W.plainGet K C f = true := c.pg
def NoAttr (K : PySem.W.Frag) (C : Addr) (f : Str) : Prop := PySem.W.findIn K (.ref C) f = some none
theorem NoAttr.taker {K : PySem.W.Frag} {C : Addr} {f : Str} (n : NoAttr K C f) : PySem.W.takerIn K C f = some none := by
  unfold PySem.W.takerIn
  rw [show PySem.W.findIn K (.ref C) f = some none from n]
  rfl
structure Con (K : PySem.W.Frag) (C : Addr) (f : Str) (v : V) (u : Value) : Prop where
  at_ : PySem.W.findIn K (.ref C) f = some (some u)
  rel : RelV v u
  get : PySem.W.specialIn K u "__get__" = some none
  cp : PySem.W.copiedNames.contains f = false
structure Meth (K : PySem.W.Frag) (C : Addr) (m : Str) (f : Addr) : Prop where
  at_ : PySem.W.findIn K (.ref C) m = some (some (.ref f))
  fn : PySem.W.isFn K (.ref f) = true
  kp : PySem.W.keepIn K (.ref f) = true
section
variable {X : Cx} {pins : List (Addr × Obj)} {σ : St} {H : Hp} {s : Shared} {a C dx : Addr} {fs : List (Str × V)} {f : Str} {v : V} {A : Around} {E : Value → Shared → Prop}
theorem getattr_ok {b : Bool} {Q : Value → Shared → Prop} (I : Inv X pins σ H s) (e : H a = some (.ins C dx fs)) (c : Cls X.K C) (n : NoAttr X.K C f) (l : fs.lookup f = some v)
    (h : ∀ u s', Inv X pins σ H s' → RelV v u → Q u s') : wpAny (model X.prog X.w) A (getAttr (.ref a) f b) Q E s := by
  obtain ⟨mA, O, r, _, _, _⟩ := ins_get I.hok e
  obtain ⟨u, hu, ru⟩ := RelO.some_of (v := v) (o := mA f) (by rw [← l]; exact r f)
  exact get_map I.kIn O (c.get f) c.hd n hu (handed_of ru) (h u _ (I.tok _) ru)
theorem getmeth_ok {m : Str} {g : Addr} {pl : Sem Bool} {Q : Value × List Value → Shared → Prop} (I : Inv X pins σ H s) (e : H a = some (.ins C dx fs)) (c : Cls X.K C) (k : Meth X.K C m g) (l : fs.lookup m = none)
    (h : Q (.ref g, [.ref a]) s) : wpAny (model X.prog X.w) A (getMethod (.ref a) m pl) Q E s := by
  obtain ⟨mA, O, r, _, _, _⟩ := ins_get I.hok e
  have hn : mA m = none := RelO.none_of (by rw [← l]; exact r m)
  exact get_meth I.kIn O (c.get m) k.at_ k.fn hn h
theorem setattr_ok {y : V} {u : Value} {Q : Unit → Shared → Prop} (I : Inv X pins σ H s) (e : H a = some (.ins C dx fs)) (c : Cls X.K C) (n : NoAttr X.K C f) (hl : fs.length < 1000) (ry : RelV y u)
    (h : ∀ s', Inv X pins σ (upd H a (.ins C dx (putF f y fs))) s' → Q () s') : wpAny (model X.prog X.w) A (setAttr (.ref a) f u) Q E s := by
  obtain ⟨mA, O, r, wi, _, ho⟩ := ins_get I.hok e
  have hz : (fs.map (·.1)).length ≤ sizeLine := by rw [List.length_map, sizeLine_eq]; omega
  refine set_map I.kIn O c.sa c.po n.taker c.hd wi hz fun h' O' sb => h _ ?_
  have hd : ∃ o, h'.get? dx = some o := let ⟨o, _, _, e', _⟩ := O'.ns; ⟨o, e'⟩
  refine I.write (x := a) (e := dx) (by rw [e]; exact True.intro) (.inr ho) (fun b q hb z => (sb.2 b hb).trans z) hd ?_
  refine ⟨by rw [upd_ne O.ne]; exact ho, ?_, O.ne, O'.obj, _, O'.ns, fun g => ?_, fun g hg => ?_⟩
  · have := length_putF f y fs; omega
  · show RelO ((putF f y fs).lookup g) (if g = f then some u else mA g)
    rw [lookup_putF]
    by_cases q : g = f
    · rw [if_pos q, if_pos q]; exact ry
    · rw [if_neg q, if_neg q]; exact r g
  · by_cases q : g = f
    · rw [q]; exact (keys_putF f y fs).1
    · refine (keys_putF f y fs).2 g (wi g fun z => hg ?_)
      show (if g = f then some u else mA g) = none
      rw [if_neg q]; exact z
theorem Inv.made (I : Inv X pins σ H s) : Inv X pins σ (upd (upd H s.heap.objs.size (.own (s.heap.objs.size + 1))) (s.heap.objs.size + 1) (.ins C s.heap.objs.size []))
    { s with heap := (s.heap.push PySem.W.emptyDict).push (PySem.W.instObj C s.heap.objs.size) } := by
  have e1 : (s.heap.push PySem.W.emptyDict).get? s.heap.objs.size = some PySem.W.emptyDict := Heap.get?_push_size s.heap rfl
  have e2 : ((s.heap.push PySem.W.emptyDict).push (PySem.W.instObj C s.heap.objs.size)).get? (s.heap.objs.size + 1) = some (PySem.W.instObj C s.heap.objs.size) := by
    have := Heap.get?_push_size (s.heap.push PySem.W.emptyDict) (o := PySem.W.instObj C s.heap.objs.size) rfl
    rwa [Heap.size_push] at this
  have e3 : (s.heap.push PySem.W.emptyDict).Ns s.heap.objs.size (fun _ => none) := ⟨PySem.W.emptyDict, #[], _, e1, rfl, (fun e he => absurd he (by simp)), fun _ => rfl⟩
  have I1 := I.laid (a := s.heap.objs.size) (o := .own (s.heap.objs.size + 1)) (h' := s.heap.push PySem.W.emptyDict) (t' := s.toks) (fun b u q => Heap.get?_push_of_some _ q) (Nat.le_refl _) ⟨_, e1⟩
  refine I1.laid (a := s.heap.objs.size + 1) (o := .ins C s.heap.objs.size []) (t' := s.toks) (fun b u q => Heap.get?_push_of_some _ q) (Nat.le_of_eq (Heap.size_push _ _)) ?_
  have ne : s.heap.objs.size ≠ s.heap.objs.size + 1 := Nat.ne_of_lt (Nat.lt_succ_self _)
  refine ⟨by rw [upd_ne ne, upd_same], Nat.zero_le _, ne, e2, fun _ => none, (Heap.Ns1.of_empty e3).at fun o q => Heap.get?_push_of_some _ q, fun _ => True.intro, fun y hy => absurd rfl hy⟩
theorem attr_of {prog : Program} {w : World} {env : Env} {e : Expr} {f : Str} {pos : Pos} {s : Shared} {Q : Value → Shared → Prop} (hb : attributeBase e f env (eval e env) = eval e env)
    (h : wpAny (model prog w) A (eval e env) (fun o s₁ => wpAny (model prog w) A (getAttr o f true) Q E s₁) E s) : wpAny (model prog w) A (eval (.Attribute e f pos) env) Q E s :=
  Attribute_any_ h (by rw [arm_eval_Attribute, hb])
end
def tFld (K : PySem.W.Frag) (ta : TE) (f : Str) : TE := fun σ H Q => ta σ H fun x H1 => ∃ a C dx fs v, x = .ref a ∧ H1 a = some (.ins C dx fs) ∧ Cls K C ∧ NoAttr K C f ∧ fs.lookup f = some v ∧ Q v H1
def tCon (K : PySem.W.Frag) (ta : TE) (f : Str) : TE := fun σ H Q => ta σ H fun x H1 => ∃ a C dx fs v u, x = .ref a ∧ H1 a = some (.ins C dx fs) ∧ Cls K C ∧ Con K C f v u ∧ fs.lookup f = none ∧ Q v H1
def sFld (K : PySem.W.Frag) (ta tv : TE) (f : Str) : TS := fun D σ H => tv σ H fun y H1 => ta σ H1 fun x H2 => ∃ a C dx fs, x = .ref a ∧ H2 a = some (.ins C dx fs) ∧ Cls K C ∧ NoAttr K C f ∧ fs.length < 1000 ∧
  D.nx σ (upd H2 a (.ins C dx (putF f y fs)))
def InOp (X : Cx) (op : Operator) (rd : V → V → Hp → VK → Prop) : Prop :=
  ∀ (pins : List (Addr × Obj)) (s : Shared) (σ : St) (H : Hp) (x y : V) (u v : Value) (Q : VK), Inv X pins σ H s → RelV x u → RelV y v → rd x y H Q → wpAny (model X.prog X.w) X.A (inplaceOp op u v) (EP X pins σ Q) X.xe s
def sFldAug (K : PySem.W.Frag) (ta tv : TE) (rd : V → V → Hp → VK → Prop) (f : Str) : TS := fun D σ H => ta σ H fun x H1 => ∃ a C dx fs v, x = .ref a ∧ H1 a = some (.ins C dx fs) ∧ Cls K C ∧ NoAttr K C f ∧ fs.lookup f = some v ∧
  tv σ H1 fun y H2 => rd v y H2 fun z H3 => ∃ dx' fs', H3 a = some (.ins C dx' fs') ∧ fs'.length < 1000 ∧ D.nx σ (upd H3 a (.ins C dx' (putF f z fs')))
section
variable {X : Cx} {o e value : Expr} {f : Str} {pos pos' tpos : Pos} {ta tv : TE}
theorem pe_fld (he : PE X e ta) (hb : attributeBase e f X.env (eval e X.env) = eval e X.env) : PE X (.Attribute e f pos) (tFld X.K ta f) := by
  intro pins s σ H Q I h
  refine attr_of hb (thn (he pins s σ H _ I h) fun u s1 ⟨x, H1, I1, rx, a, C, dx, fs, v, ex, ea, c, n, l, q⟩ => ?_)
  subst ex
  obtain rfl : u = Value.ref a := rx
  exact getattr_ok I1 ea c n l fun u' s2 I2 ru => ⟨v, H1, I2, ru, q⟩
theorem ps_fld (ha : PE X o ta) (hv : PE X value tv) (hs : swapsWith value (some (.Attribute o f pos')) pos.line X.env = pure false) : PS X (.Assign [.Attribute o f pos'] value pos) (sFld X.K ta tv f) := by
  intro pins s σ H D I h
  refine plainObj_wpAny_Assign_Attribute (thn (hv pins s σ H _ I h) fun u s1 ⟨y, H1, I1, ry, q⟩ => thn (ha pins s1 σ H1 _ I1 q) fun ov s2 ⟨x, H2, I2, rx, a, C, dx, fs, ex, ea, c, n, l, q2⟩ => ?_) hs
  subst ex
  obtain rfl : ov = Value.ref a := rx
  exact setattr_ok I2 ea c n l ry fun s3 I3 => ⟨σ, _, I3, q2⟩
def rAdd : V → V → Hp → VK → Prop := fun x y H Q => ∃ i j, x = .int i ∧ y = .int j ∧ Q (.int (i + j)) H
def rSub : V → V → Hp → VK → Prop := fun x y H Q => ∃ i j, x = .int i ∧ y = .int j ∧ Q (.int (i - j)) H
end
section
variable {X : Cx} {pins : List (Addr × Obj)} {σ : St} {H : Hp} {s : Shared} {A : Around} {E : Value → Shared → Prop} {Q : Value → Shared → Prop} {c : Value} {b : Bool}
inductive TyOf (K : PySem.W.Frag) (H : Hp) : V → Value → Prop where
  | non : TyOf K H .non (.type "NoneType")
  | bl (x : Bool) : TyOf K H (.bl x) (.type "bool")
  | int (i : Int) : TyOf K H (.int i) (.type "int")
  | str (x : Str) : TyOf K H (.str x) (.type "str")
  | flt (x : UInt64) : TyOf K H (.flt x) (.type "float")
  | lst {a : Addr} {xs : List V} (e : H a = some (.lst xs)) : TyOf K H (.ref a) (.type "list")
  | frz {a : Addr} {o : Obj} {xs : List V} (e : H a = some (.frz o (.lst xs))) : TyOf K H (.ref a) (.type "list")
  | tup {a : Addr} {xs : List V} (e : H a = some (.tup xs)) : TyOf K H (.ref a) (.type "tuple")
  | dK {a : Addr} {kvs : List (Key × V)} (e : H a = some (.dK kvs)) : TyOf K H (.ref a) (.type "dict")
  | dT {a : Addr} {kvs : List (List Key × V)} (e : H a = some (.dT kvs)) : TyOf K H (.ref a) (.type "dict")
  | ins {a C dx : Addr} {fs : List (Str × V)} (e : H a = some (.ins C dx fs)) (cl : Cls K C) (ha : PySem.W.findIn K (.ref C) "__class__" = some (some (.builtin "object.__class__")))
      (hn : PySem.W.specialIn K (.builtin "object.__class__") "__get__" = some (some (.builtin "getset_descriptor.__get__"))) (htk : PySem.W.takesIn K (.builtin "object.__class__") = some true)
      (hm : PySem.W.mroIn K C (.type "object") = some true) : TyOf K H (.ref a) (.ref C)
theorem isinst_ok {x : V} {u t : Value} (I : Inv X pins σ H s) (rx : RelV x u) (ty : TyOf X.K H x t) (e : PySem.W.kitOne X.K t c = some b) (h : ∀ tk, Q (.bool b) { s with toks := tk }) :
    wpAny (model X.prog X.w) A (call (.builtin "isinstance") [u, c]) Q E s := by
  cases ty with
  | non => cases (show u = Value.none from rx); exact PySem.W.kia_one PySem.W.kitx_none I.kIn True.intro e (fun z => nomatch z) h
  | bl y => cases (show u = Value.bool y from rx); exact PySem.W.kia_one PySem.W.kitx_bool I.kIn True.intro e (fun z => nomatch z) h
  | int i => obtain ⟨t, q⟩ := (show ∃ t, u = Value.int i t from rx); cases q; exact PySem.W.kia_one PySem.W.kitx_int I.kIn True.intro e (fun z => nomatch z) h
  | str y => obtain ⟨t, q⟩ := (show ∃ t, u = Value.str y t from rx); cases q; exact PySem.W.kia_one PySem.W.kitx_str I.kIn True.intro e (fun z => nomatch z) h
  | flt y => obtain ⟨t, q⟩ := (show ∃ t, u = Value.float y t from rx); cases q; exact PySem.W.kia_one PySem.W.kitx_float I.kIn True.intro e (fun z => nomatch z) h
  | @lst a xs ea =>
    cases (show u = Value.ref a from rx)
    obtain ⟨_, _, n, _, h1⟩ := (show ObjOk X.prog X.w H s.heap a (.lst xs) from I.hok a _ ea)
    exact PySem.W.kia_one PySem.W.kitx_list I.kIn ⟨_, h1, rfl⟩ e (fun z => nomatch z) h
  | @frz a ob xs ea =>
    cases (show u = Value.ref a from rx)
    obtain ⟨_, _, _, n, _, h1⟩ := (show ObjOk X.prog X.w H s.heap a (.frz ob (.lst xs)) from I.hok a _ ea)
    exact PySem.W.kia_one PySem.W.kitx_list I.kIn ⟨_, h1, rfl⟩ e (fun z => nomatch z) h
  | @tup a xs ea =>
    cases (show u = Value.ref a from rx)
    obtain ⟨_, _, _, p⟩ := (show ObjOk X.prog X.w H s.heap a (.tup xs) from I.hok a _ ea)
    obtain ⟨o, h1, h2, _⟩ := p
    exact PySem.W.kia_one PySem.W.kitx_tuple I.kIn ⟨o, h1, h2⟩ e (fun z => nomatch z) h
  | @dK a kvs ea =>
    cases (show u = Value.ref a from rx)
    obtain ⟨_, _, vs, _, p⟩ := (show ObjOk X.prog X.w H s.heap a (.dK kvs) from I.hok a _ ea)
    obtain ⟨o, es, ep, h1, h2, _⟩ := p
    exact PySem.W.kia_one PySem.W.kitx_dict I.kIn ⟨o, h1, h2.1⟩ e (fun z => nomatch z) h
  | @dT a kvs ea =>
    cases (show u = Value.ref a from rx)
    obtain ⟨_, _, xs, _, o, es, ep, h1, h2, _⟩ := (show ObjOk X.prog X.w H s.heap a (.dT kvs) from I.hok a _ ea)
    exact PySem.W.kia_one PySem.W.kitx_dict I.kIn ⟨o, h1, h2.1⟩ e (fun z => nomatch z) h
  | @ins a C dx fs ea cl ha hn htk hm =>
    cases (show u = Value.ref a from rx)
    obtain ⟨mA, O, _⟩ := ins_get I.hok ea
    obtain ⟨od, J, _⟩ := O.look
    exact PySem.W.kia_one (PySem.W.kitx_own (cl.get _) cl.hd ha hn htk hm) I.kIn J e (fun z => nomatch z) h
end
end L2
namespace L2
open PySem PySem.Spec PyProof.Rows
structure Room (k : Nat) (A : Around) : Prop where
  hd : A.handled = none
  dp : A.depth + 3 * k + 5 < recursionLimit
  un : A.units + 16 * k + 200 < cLine
theorem Room.mono {j k : Nat} {A : Around} (r : Room k A) (h : j ≤ k) : Room j A := ⟨r.hd, by have := r.dp; omega, by have := r.un; omega⟩
theorem Room.deeper {k : Nat} {A : Around} (r : Room (k + 1) A) (env : Env) : Room k (A.deeper env) :=
  ⟨r.hd, by have := r.dp; show A.depth + 1 + 3 * k + 5 < _; omega, by have := r.un; show A.units + 3 + 16 * k + 200 < _; omega⟩
theorem make_depth {A : Around} {C : Addr} {us : List Value} {kw : List (Str × Value)} : (A.under (.builtin "type.__call__" ⟨.ref C :: us, kw⟩)).depth = A.depth + 1 := by
  first | rfl | simp [Around.under, Code.weight, Code.isCreation, Code.isGuard, Code.isCaller, Code.frames, Code.isFrame, guardIds]
theorem make_units {A : Around} {C : Addr} {us : List Value} {kw : List (Str × Value)} : (A.under (.builtin "type.__call__" ⟨.ref C :: us, kw⟩)).units = A.units + 1 := by
  first | rfl | simp [Around.under, Code.cUnits, Code.frames, Code.isFrame]
theorem Room.make {k : Nat} {A : Around} (r : Room (k + 1) A) (C : Addr) (us : List Value) (kw : List (Str × Value)) : Room k (A.under (.builtin "type.__call__" ⟨.ref C :: us, kw⟩)) :=
  ⟨r.hd, by have := r.dp; rw [make_depth]; omega, by have := r.un; rw [make_units]; omega⟩
theorem Room.depth {k : Nat} {A : Around} (r : Room k A) : A.depth < recursionLimit := by have := r.dp; omega
def tNil : TA := fun _ H Q => Q [] H
def tCons (ta : TE) (tr : TA) : TA := fun σ H Q => ta σ H fun x H1 => tr σ H1 fun xs H2 => Q (x :: xs) H2
section
variable {X : Cx} {e : Expr} {es : List Expr} {te : TE} {t : TA} {pos : Pos}
theorem pa_nil : PA X [] tNil := fun _ _ _ _ H Q I h => Calls.spliced_nil ⟨[], H, I, .nil, h⟩
theorem pa_cons (ha : PE X e te) (hr : PA X es t) (hs : starEach (e :: es) X.env = (false, eval e X.env) :: starEach es X.env := by rfl) : PA X (e :: es) (tCons te t) := by
  intro pos pins s σ H Q I h
  rw [hs]
  show wpAny _ _ (spliced ((false, eval e X.env) :: backTo pos (starEach es X.env))) _ _ s
  refine Calls.spliced_cons (thn (ha pins s σ H _ I h) fun u s1 ⟨x, H1, I1, r1, q1⟩ => ?_)
  exact thn (hr pos pins s1 σ H1 _ I1 q1) fun us s2 ⟨xs, H2, I2, r2, q2⟩ => ⟨x :: xs, H2, I2, .cons r1 r2, q2⟩
def tTup (t : TA) : TE := fun σ H Q => t σ H fun xs H1 => xs.length ≤ sizeLine ∧ ∀ p, H1 p = none → Q (.ref p) (upd H1 p (.tup xs))
def tLst (t : TA) : TE := fun σ H Q => t σ H fun xs H1 => xs.length ≤ sizeLine ∧ ∀ p, H1 p = none → Q (.ref p) (upd H1 p (.lst xs))
theorem pe_tup {x1} (h : PA X es t) : PE X (.Tuple es x1 pos) (tTup t) := by
  intro pins s σ H Q I hq
  refine wpAny_Tuple_spliced (thn (h pos pins s σ H _ I hq) fun us s1 ⟨xs, H1, I1, r, z, q⟩ => ⟨by rw [← r.length]; exact z, ?_⟩)
  have hf : H1 s1.heap.objs.size = none := I1.hok.fresh (Nat.le_refl _)
  refine ⟨.ref s1.heap.objs.size, upd H1 s1.heap.objs.size (.tup xs), I1.laid (t' := s1.toks) (fun b u e => Heap.get?_push_of_some _ e) (Nat.le_refl _) ?_, rfl, q _ hf⟩
  exact ⟨z, us, r, ⟨_, Heap.get?_push_size _ rfl, rfl, _, rfl⟩⟩
theorem pe_lst (h : PA X es t) : PE X (.List es pos) (tLst t) := by
  intro pins s σ H Q I hq
  refine wpAny_List_spliced (thn (h pos pins s σ H _ I hq) fun us s1 ⟨xs, H1, I1, r, z, q⟩ => ⟨by rw [← r.length]; exact z, ?_⟩)
  have hf : H1 s1.heap.objs.size = none := I1.hok.fresh (Nat.le_refl _)
  refine ⟨.ref s1.heap.objs.size, upd H1 s1.heap.objs.size (.lst xs), I1.laid (t' := s1.toks) (fun b u e => Heap.get?_push_of_some _ e) (Nat.le_refl _) ?_, rfl, q _ hf⟩
  exact ⟨z, us, 0, r, Heap.get?_push_size _ rfl⟩
end
abbrev Sp := List V → Hp → VK → XK → Prop
abbrev CXT := List Env → Hp → Shared → XK → Value → Shared → Prop
structure Env0 (P : Program) (w : World) (K : PySem.W.Frag) (mg : Str → Option Value) (base : Heap) (A : Around) (outer : List Env) (s : Shared) (H : Hp) : Prop where
  frames : A.frames = some outer
  mod : Mod K mg base
  bs : ∀ b o, base.get? b = some o → s.heap.get? b = some o ∧ H b = none
  bsz : base.objs.size ≤ s.heap.objs.size
  funs : s.heap.FunFrames base outer
  frf : ∀ b ∈ frs outer, H b = none
  hok : HOk P w H s.heap
  bare : AllBare s.gens
def CE (outer : List Env) (P : Program) (w : World) (H : Hp) (s : Shared) (Q : VK) (u : Value) (s' : Shared) : Prop :=
  ∃ v H', s'.os = s.os ∧ AllBare s'.gens ∧ Un (frs outer) [] H H' s.heap s'.heap ∧ HOk P w H' s'.heap ∧ RelV v u ∧ Q v H'
def CR (CX : CXT) (outer : List Env) (P : Program) (w : World) (H : Hp) (s : Shared) (Q : VK) (E : XK) (r : Result) (s' : Shared) : Prop :=
  match r with
  | .ok (.ret u) => CE outer P w H s Q u s'
  | .ok _ => False
  | .error e => CX outer H s E e s'
structure FnOk (P : Program) (w : World) (K : PySem.W.Frag) (mg : Str → Option Value) (base : Heap) (CX : CXT) (k : Nat) (f : Addr) (fd : FuncData) (ps : List Str) (sp : Sp) : Prop where
  len : ∀ vs H Q E, sp vs H Q E → vs.length = ps.length
  run : ∀ (A : Around) (outer : List Env) (s : Shared) (H : Hp) (args : Args) (us : List Value) (vs : List V) (Q : VK) (E : XK), Room k A → Env0 P w K mg base A outer s H → BindsTo s fd args (ps.zip us) → Vals vs us → sp vs H Q E →
    codeAny (model P w) A (.call (.ref f) args) (CR CX outer P w H s Q E) s
theorem Env0.make {P : Program} {w : World} {K : PySem.W.Frag} {mg : Str → Option Value} {base : Heap} {A : Around} {outer : List Env} {s : Shared} {H : Hp} (e : Env0 P w K mg base A outer s H) (C : Addr) (us : List Value) (kw : List (Str × Value)) :
    Env0 P w K mg base (A.under (.builtin "type.__call__" ⟨.ref C :: us, kw⟩)) outer s H := ⟨by first | exact e.frames | (simpa [Around.under, Code.envs, Code.isFrame, pushEnvs] using e.frames), e.mod, e.bs, e.bsz, e.funs, e.frf, e.hok, e.bare⟩
section
variable {X : Cx} {pins : List (Addr × Obj)} {σ : St} {H : Hp} {s s' : Shared}
theorem Inv.env0 (I : Inv X pins σ H s) : Env0 X.prog X.w X.K X.mg X.base X.A X.stack s H :=
  ⟨I.ok.frames, I.ok.mod, I.bs, Nat.le_trans I.ok.bsz I.sz, I.stack, I.stkFree, I.hok, I.bare⟩
theorem Inv.after {Q : VK} {u : Value} (I : Inv X pins σ H s) (h : CE X.stack X.prog X.w H s Q u s') : EP X pins σ Q u s' := by
  obtain ⟨v, H', os, bare, un, hok, r, q⟩ := h
  obtain ⟨hh, g, d, t, os'⟩ := s'
  obtain rfl : os' = s.os := os
  exact ⟨v, H', I.call (h' := hh) (g' := g) (d' := d) (t' := t) (ch := []) un hok bare (fun b z => absurd z (by simp)), r, q⟩
end
def tCall (sp : Sp) (dvs : List V) (E : XK) (t : TA) : TE := fun σ H Q => t σ H fun vs H1 => sp (vs ++ dvs) H1 Q E
def tMeth (C : Addr) (m : Str) (sp : Sp) (dvs : List V) (E : XK) (ta : TE) (t : TA) : TE := fun σ H Q => ta σ H fun x H1 => ∃ a dx fs, x = .ref a ∧ H1 a = some (.ins C dx fs) ∧ fs.lookup m = none ∧
  t σ H1 fun vs H2 => sp (x :: (vs ++ dvs)) H2 Q E
def tMake (C : Addr) (sp : Sp) (dvs : List V) (E : XK) (t : TA) : TE := fun σ H Q => t σ H fun vs H1 => ∀ x dx, H1 x = none → H1 dx = none → dx ≠ x →
  sp (.ref x :: (vs ++ dvs)) (upd (upd H1 dx (.own x)) x (.ins C dx [])) (fun v H2 => v = .non ∧ Q (.ref x) H2) E
def Binds (K : PySem.W.Frag) (fd : FuncData) (ps : List Str) (ds : List Value) : Prop :=
  ∀ (s : Shared) (us : List Value), K.In s.heap → (us ++ ds).length = ps.length → BindsTo s fd ⟨us, []⟩ (ps.zip (us ++ ds))
theorem Binds.all {K : PySem.W.Frag} {fd : FuncData} {ps : List Str} (h : ∀ us : List Value, us.length = ps.length → bindArgs fd ⟨us, []⟩ = pure (ps.zip us)) : Binds K fd ps [] := fun s us _ hl => by
  rw [List.append_nil] at hl ⊢
  exact .of_eq (h us hl)
def Passes (CX : CXT) (X : Cx) (E : XK) : Prop := ∀ (pins : List (Addr × Obj)) (σ : St) (H : Hp) (s : Shared) (e : Value) (s' : Shared), Inv X pins σ H s → CX X.stack H s E e s' → X.xe e s'
section
variable {X : Cx} {CX : CXT} {k : Nat} {f C : Addr} {fd : FuncData} {ps : List Str} {sp : Sp} {dvs : List V} {ds : List Value} {E : XK} {x m : Str} {p pos apos : Pos} {e o : Expr} {es : List Expr} {ta : TE} {t : TA}
theorem run_fn {pins : List (Addr × Obj)} {σ : St} {H : Hp} {s : Shared} {Q : VK} {us : List Value} {vs : List V} (F : FnOk X.prog X.w X.K X.mg X.base CX k f fd ps sp) (hr : Room k X.A) (hb : Binds X.K fd ps ds) (hd : Vals dvs ds) (hx : Passes CX X E)
    (I : Inv X pins σ H s) (r : Vals vs us) (h : sp (vs ++ dvs) H Q E) : wpAny (model X.prog X.w) X.A (call (.ref f) us) (EP X pins σ Q) X.xe s := by
  have r2 : Vals (vs ++ dvs) (us ++ ds) := r.append hd
  have hl : (us ++ ds).length = ps.length := by rw [← r2.length]; exact F.len _ _ _ _ h
  refine wpAny_call (codeAny_mono (F.run X.A X.stack s H ⟨us, []⟩ (us ++ ds) (vs ++ dvs) Q E hr I.env0 (hb s us I.kIn hl) r2 h) fun r s' hq => ?_)
  cases r with
  | error e => exact hx pins σ H s e s' I hq
  | ok fl =>
    cases fl with
    | ret u => exact I.after hq
    | next => exact False.elim hq
    | brk => exact False.elim hq
    | cont => exact False.elim hq
theorem pe_call (F : FnOk X.prog X.w X.K X.mg X.base CX k f fd ps sp) (hr : Room k X.A) (hg : Gl X x) (hm : X.mg x = some (.ref f)) (hk : PySem.W.keepIn X.K (.ref f) = true) (hb : Binds X.K fd ps ds) (hd : Vals dvs ds) (hx : Passes CX X E)
    (ha : PA X (e :: es) t) (hdb : (x == ("__debug__" : Str)) = false := by decide) (he : starEach (e :: es) X.env = (false, eval e X.env) :: starEach es X.env := by rfl) (hpl : (backTo pos (starEach es X.env)).any (·.1) = false := by rfl) :
    PE X (.Call (.Name x p) (e :: es) [] pos) (tCall sp dvs E t) := by
  intro pins s σ H Q I h
  refine wpAny_Call_Name_kw (ld_glob I hg hm ?_ hdb)
  refine PySem.W.callWith_K (h₀ := X.base) I.ok.mod.kin hk (thn (ha pos pins s σ H _ I h) fun us s1 ⟨vs, H1, I1, r, q⟩ => ⟨I1.kIn, ?_⟩) he hpl
  exact run_fn F hr hb hd hx I1 r q
structure Mk (K : PySem.W.Frag) (C f : Addr) : Prop where
  makes : PySem.W.makesIn K C = true
  init : PySem.W.findIn K (.ref C) "__init__" = some (some (.ref f))
  fn : PySem.W.isFn K (.ref f) = true
  kp : PySem.W.keepIn K (.ref C) = true
theorem run_make {pins : List (Addr × Obj)} {σ : St} {H : Hp} {s : Shared} {Q : VK} {us : List Value} {vs : List V} (M : Mk X.K C f) (F : FnOk X.prog X.w X.K X.mg X.base CX k f fd ps sp) (hr : Room (k + 1) X.A) (hb : Binds X.K fd ps ds) (hd : Vals dvs ds)
    (hx : Passes CX X E) (I : Inv X pins σ H s) (r : Vals vs us)
    (h : ∀ x dx, H x = none → H dx = none → dx ≠ x → sp (.ref x :: (vs ++ dvs)) (upd (upd H dx (.own x)) x (.ins C dx [])) (fun v H2 => v = .non ∧ Q (.ref x) H2) E) :
    wpAny (model X.prog X.w) X.A (call (.ref C) us) (EP X pins σ Q) X.xe s := by
  have hq := h (s.heap.objs.size + 1) s.heap.objs.size (I.hok.fresh (Nat.le_succ _)) (I.hok.fresh (Nat.le_refl _)) (Nat.ne_of_lt (Nat.lt_succ_self _))
  have I2 := Inv.made (C := C) I
  have r2 : Vals (V.ref (s.heap.objs.size + 1) :: (vs ++ dvs)) (Value.ref (s.heap.objs.size + 1) :: (us ++ ds)) := .cons rfl (r.append hd)
  have hl : (Value.ref (s.heap.objs.size + 1) :: us ++ ds).length = ps.length := by
    have e := r2.length
    rw [F.len _ _ _ _ hq] at e
    exact e.symm
  refine wpAny_call (make_map (f := f) I.kIn M.makes M.init (beq_iff_eq.mp M.fn) (codeAny_mono (F.run _ X.stack _ _ ⟨Value.ref (s.heap.objs.size + 1) :: us, []⟩ (Value.ref (s.heap.objs.size + 1) :: (us ++ ds)) _ _ E (hr.make C us [])
    (I2.env0.make C us []) (hb _ (Value.ref (s.heap.objs.size + 1) :: us) I2.kIn hl) r2 hq) fun r s' hq' => ?_))
  cases r with
  | error e => exact hx pins σ _ _ e s' I2 hq'
  | ok fl =>
    cases fl with
    | ret u =>
      obtain ⟨v, H', I3, rv, ev, q3⟩ := I2.after hq'
      subst ev
      exact ⟨rv, ⟨V.ref (s.heap.objs.size + 1), H', I3, rfl, q3⟩⟩
    | next => exact False.elim hq'
    | brk => exact False.elim hq'
    | cont => exact False.elim hq'
theorem pe_make (M : Mk X.K C f) (F : FnOk X.prog X.w X.K X.mg X.base CX k f fd ps sp) (hr : Room (k + 1) X.A) (hg : Gl X x) (hm : X.mg x = some (.ref C)) (hb : Binds X.K fd ps ds) (hd : Vals dvs ds) (hx : Passes CX X E)
    (ha : PA X (e :: es) t) (hdb : (x == ("__debug__" : Str)) = false := by decide) (he : starEach (e :: es) X.env = (false, eval e X.env) :: starEach es X.env := by rfl) (hpl : (backTo pos (starEach es X.env)).any (·.1) = false := by rfl) :
    PE X (.Call (.Name x p) (e :: es) [] pos) (tMake C sp dvs E t) := by
  intro pins s σ H Q I h
  refine wpAny_Call_Name_kw (ld_glob I hg hm ?_ hdb)
  refine PySem.W.callWith_K (h₀ := X.base) I.ok.mod.kin M.kp (thn (ha pos pins s σ H _ I h) fun us s1 ⟨vs, H1, I1, r, q⟩ => ⟨I1.kIn, ?_⟩) he hpl
  exact run_make M F hr hb hd hx I1 r q
theorem pe_make0 (M : Mk X.K C f) (F : FnOk X.prog X.w X.K X.mg X.base CX k f fd ps sp) (hr : Room (k + 1) X.A) (hg : Gl X x) (hm : X.mg x = some (.ref C)) (hb : Binds X.K fd ps ds) (hd : Vals dvs ds) (hx : Passes CX X E)
    (hdb : (x == ("__debug__" : Str)) = false := by decide) : PE X (.Call (.Name x p) [] [] pos) (tMake C sp dvs E tNil) := by
  intro pins s σ H Q I h
  refine wpAny_Call_Name_kw (ld_glob I hg hm ?_ hdb)
  exact PySem.W.callWith_K0 I.kIn M.kp (run_make (us := []) M F hr hb hd hx I .nil h)
end
def PK (X : Cx) (kws : List Keyword) (t : TA) : Prop :=
  ∀ (pos : Pos) (pins : List (Addr × Obj)) (s : Shared) (σ : St) (H : Hp) (Q : List V → Hp → Prop), Inv X pins σ H s → t σ H Q → wpAny (model X.prog X.w) X.A (evalAll ((backToKw pos (keywordEach kws X.env)).map (·.2))) (AP X pins σ Q) X.xe s
section
variable {X : Cx} {CX : CXT} {k : Nat} {f C : Addr} {fd : FuncData} {ps ks : List Str} {sp : Sp} {E : XK} {x m : Str} {p pos apos kpos : Pos} {e o : Expr} {es : List Expr} {kws : List Keyword} {te ta : TE} {t tk : TA} {nm : Option Str}
structure KBinds (K : PySem.W.Frag) (fd : FuncData) (ps ks : List Str) (g : List Value → List Value → List Value) (gV : List V → List V → List V) : Prop where
  to : ∀ (s : Shared) (us ws : List Value), K.In s.heap → (g us ws).length = ps.length → BindsTo s fd ⟨us, ks.zip ws⟩ (ps.zip (g us ws))
  rel : ∀ {vs : List V} {us : List Value} {zs : List V} {ws : List Value}, Vals vs us → Vals zs ws → Vals (gV vs zs) (g us ws)
def tCallK (sp : Sp) (gV : List V → List V → List V) (E : XK) (t tk : TA) : TE := fun σ H Q => t σ H fun vs H1 => tk σ H1 fun zs H2 => sp (gV vs zs) H2 Q E
variable {g : List Value → List Value → List Value} {gV : List V → List V → List V}
end
structure FnScope (N P : List Str) (sc : Scope) : Prop where
  kind : sc.kind = .function
  co : sc.isCoroutine = false
  gen : sc.isGenerator = false
  nd : N.Nodup
  pre : N.take P.length = P
  par : ∀ x ∈ P, sc.names.lookup x = some .local ∨ sc.names.lookup x = some .cell
  nofree : ∀ y ∈ sc.names, y.2 ≠ .free
theorem bindL_out {kindOf : Str → Option NameKind} {x : Str} : ∀ {binds : List (Str × Value)} {m : Str → Option Value}, (∀ v, (x, v) ∉ binds) → bindL kindOf binds m x = m x
  | [], _, _ => rfl
  | (n, v) :: r, m, h => by
    unfold bindL
    rw [bindL_out fun w hw => h w (List.mem_cons_of_mem _ hw)]
    split
    · have : x ≠ n := by rintro rfl; exact h v List.mem_cons_self
      simp [this]
    · rfl
theorem bindC_out {kindOf : Str → Option NameKind} {x : Str} : ∀ {binds : List (Str × Value)} {m : Str → Option Value}, (∀ v, (x, v) ∉ binds) → bindC kindOf binds m x = m x
  | [], _, _ => rfl
  | (n, v) :: r, m, h => by
    unfold bindC
    rw [bindC_out fun w hw => h w (List.mem_cons_of_mem _ hw)]
    split
    · rfl
    · have : x ≠ n := by rintro rfl; exact h v List.mem_cons_self
      simp [this]
theorem bindL_get {kindOf : Str → Option NameKind} {x : Str} {v : Value} : ∀ {P : List Str} {vs : List Value} {i : Nat} {m : Str → Option Value}, P.Nodup → P[i]? = some x → vs[i]? = some v → kindOf x = some .local →
    bindL kindOf (P.zip vs) m x = some v
  | [], _, _, _, _, h, _, _ => by simp at h
  | _ :: _, [], _, _, _, _, h, _ => by simp at h
  | p :: P, w :: vs, 0, m, nd, h1, h2, hk => by
    simp at h1 h2; subst h1; subst h2
    show bindL kindOf ((p, w) :: P.zip vs) m p = _
    unfold bindL
    rw [bindL_out fun v hv => (List.nodup_cons.mp nd).1 (List.of_mem_zip hv).1, if_pos hk]
    simp
  | p :: P, w :: vs, i + 1, m, nd, h1, h2, hk => by
    show bindL kindOf ((p, w) :: P.zip vs) m x = _
    unfold bindL
    exact bindL_get (i := i) (List.nodup_cons.mp nd).2 (by simpa using h1) (by simpa using h2) hk
theorem bindC_get {kindOf : Str → Option NameKind} {x : Str} {v : Value} : ∀ {P : List Str} {vs : List Value} {i : Nat} {m : Str → Option Value}, P.Nodup → P[i]? = some x → vs[i]? = some v → kindOf x ≠ some .local →
    bindC kindOf (P.zip vs) m x = some v
  | [], _, _, _, _, h, _, _ => by simp at h
  | _ :: _, [], _, _, _, _, h, _ => by simp at h
  | p :: P, w :: vs, 0, m, nd, h1, h2, hk => by
    simp at h1 h2; subst h1; subst h2
    show bindC kindOf ((p, w) :: P.zip vs) m p = _
    unfold bindC
    rw [bindC_out fun v hv => (List.nodup_cons.mp nd).1 (List.of_mem_zip hv).1, if_neg hk]
    simp
  | p :: P, w :: vs, i + 1, m, nd, h1, h2, hk => by
    show bindC kindOf ((p, w) :: P.zip vs) m x = _
    unfold bindC
    exact bindC_get (i := i) (List.nodup_cons.mp nd).2 (by simpa using h1) (by simpa using h2) hk
def start (N : List Str) (vs : List V) : St := vs.map some ++ List.replicate (N.length - vs.length) none
def cxOf (CX : CXT) (P : Program) (w : World) (K : PySem.W.Frag) (mg : Str → Option Value) (base : Heap) (N : List Str) (qual : Str) (scope : Scope) (f : Addr) (cd : Value) (A : Around) (outer : List Env) (s : Shared) (H : Hp) (E : XK) : Cx where
  prog := P
  w := w
  K := K
  mg := mg
  base := base
  A := A.deeper (envOfC qual scope s.heap.objs.size f cd)
  N := N
  s₀ := s
  H₀ := H
  env := envOfC qual scope s.heap.objs.size f cd
  outer := outer
  stack := envOfC qual scope s.heap.objs.size f cd :: outer
  ex := []
  calm := true
  fn := fun _ => true
  pn := []
  xe := fun e s' => wpAny (model P w) (A.deeper (envOfC qual scope s.heap.objs.size f cd)) (leaving (envOfC qual scope s.heap.objs.size f cd) e) (fun _ s'' => CX outer H s E e s'') (fun e' s'' => CX outer H s E e' s'') s'
theorem cell_has {sc : Scope} {n : Nat} {x : Str} (h : sc.names.lookup x = some .cell) : ∃ c, (cellsFrom n sc.names []).lookup x = some c := by
  have q := PySem.W.cellsFrom_some sc.names n [] (.inl h)
  exact Option.isSome_iff_exists.mp q
theorem inv_start {CX : CXT} {P : Program} {w : World} {K : PySem.W.Frag} {mg : Str → Option Value} {base : Heap} {N ps : List Str} {qual : Str} {scope : Scope} {f : Addr} {cd : Value} {A : Around} {outer : List Env} {s s1 : Shared} {H : Hp} {E : XK} {us : List Value} {vs : List V}
    (S : FnScope N ps scope) (hd : A.handled = none) (e0 : Env0 P w K mg base A outer s H) (hl : vs.length = ps.length) (r : Vals vs us)
    (x : InCallC s s.heap.objs.size (bindL (envOfC qual scope s.heap.objs.size f cd).kindOf (ps.zip us) fun _ => none) (cellsFrom (s.heap.objs.size + 1) scope.names []) (bindC (envOfC qual scope s.heap.objs.size f cd).kindOf (ps.zip us) fun _ => none) s1) :
    Inv (cxOf CX P w K mg base N qual scope f cd A outer s H E) [] (start N vs) H s1 := by
  have hpl : ps.length ≤ N.length := by have := congrArg List.length S.pre; rw [List.length_take] at this; omega
  obtain ⟨h1, tk, rfl, hk⟩ := x.done
  have noA : ∀ b : Addr, b ∉ (cxOf CX P w K mg base N qual scope f cd A outer s H E).ex := fun b z => absurd (show b ∈ ([] : List Addr) from z) (by simp)
  refine ⟨⟨e0.mod, S.kind, rfl, rfl, Nat.le_refl _, fun y z c h1 h2 => ?_, fun y hy => ?_, fun y c _ h => ?_, fun _ => hd, Around.frames_deeper e0.frames, .inr ⟨rfl, rfl⟩, fun b z => absurd z (noA b), e0.bs, e0.bsz, fun b _ _ => noA b, fun b z => absurd z (noA b), e0.funs, e0.frf⟩,
    rfl, e0.bare, Un.kept hk, ⟨_, x.toInCall.ns, fun i y v h1 h2 h3 => ?_⟩, fun y c h => ⟨_, x.cell y c h⟩, e0.hok.fresh (Nat.le_refl _), fun y c h => ?_, fun p hp => absurd (show p ∈ ([] : List (Addr × Obj)) from hp) (by simp), e0.hok.kept hk, ?_⟩
  · exact name_of_addr x.apart (PySem.mem_of_lookup h1) (PySem.mem_of_lookup h2)
  · have hy : scope.names.lookup y = some .cell ∨ scope.names.lookup y = some .free := hy
    rcases hy with hy | hy
    · exact cell_has hy
    · exact absurd rfl (S.nofree _ (PySem.mem_of_lookup hy))
  · exact Nat.le_of_lt (x.above y c (PySem.mem_of_lookup h))
  · have hi : i < vs.length := by
      unfold start at h2
      by_cases hi : i < vs.length
      · exact hi
      · rw [List.getElem?_append_right (by simpa using hi)] at h2
        rw [List.getElem?_replicate] at h2
        split at h2 <;> cases h2
    have ha : vs[i]? = some v := by
      unfold start at h2
      rw [List.getElem?_append_left (by simpa using hi), List.getElem?_map] at h2
      cases e : vs[i]? with
      | none => rw [e] at h2; cases h2
      | some a => rw [e] at h2; cases h2; rfl
    obtain ⟨u, hu, rv⟩ := r.get ha
    have hp : ps[i]? = some y := by
      rw [← S.pre, List.getElem?_take_of_lt (by omega)]; exact h1
    have ndP : ps.Nodup := by rw [← S.pre]; exact S.nd.sublist (List.take_sublist _ _)
    refine ⟨u, rv, ?_⟩
    rcases S.par y (List.mem_of_getElem? hp) with k | k
    · exact .inl ⟨k, bindL_get ndP hp hu k⟩
    · obtain ⟨c, e⟩ := cell_has (n := s.heap.objs.size + 1) k
      refine .inr ⟨.inl k, c, e, ?_⟩
      have q := x.cell y c e
      rw [bindC_get ndP hp hu (by show scope.names.lookup y ≠ _; rw [k]; decide)] at q
      exact q
  · exact e0.hok.fresh (Nat.le_of_lt (x.above y c (PySem.mem_of_lookup h)))
  · unfold start
    show _ = N.length
    rw [List.length_append, List.length_map, List.length_replicate]
    omega
theorem fn_of {CX : CXT} {P : Program} {w : World} {K : PySem.W.Frag} {mg : Str → Option Value} {base : Heap} {k : Nat} {f : Addr} {name qual : Str} {params : Arguments} {body : List Stmt} {scope : Scope} {dV kV doc pm cdv ct oc : Value} {an od : Option Addr}
    {osl : Array (Option Value)} {N ps : List Str} {sp : Sp} (lk : K.lookup f = some ⟨oc, od, .func (PySem.W.fnOf name qual params body scope dV kV doc pm an cdv ct), osl⟩) (hcd : PySem.W.codeIn K cdv qual = true) (S : FnScope N ps scope)
    (len : ∀ vs H Q E, sp vs H Q E → vs.length = ps.length)
    (hbody : ∀ (A : Around) (outer : List Env) (s : Shared) (H : Hp) (vs : List V) (Q : VK) (E : XK), Room k (A.deeper (envOfC qual scope s.heap.objs.size f cdv)) → sp vs H Q E →
      ∃ t, PSs (cxOf CX P w K mg base N qual scope f cdv A outer s H E) body t ∧ t { nx := fun _ H' => Q .non H', rt := Q } (start N vs) H) :
    FnOk P w K mg base CX (k + 1) f (PySem.W.fnOf name qual params body scope dV kV doc pm an cdv ct) ps sp := by
  refine ⟨len, fun A outer s H args us vs Q E hr e0 hb r hsp => ?_⟩
  have hl := len _ _ _ _ hsp
  have KX : K.In s.heap := e0.mod.kin.keeps fun b o e => (e0.bs b o e).1
  have lim : s.heap.NoLimit := e0.mod.nolimit.keeps fun b o e => (e0.bs b o e).1
  have hkind : ∀ y ∈ ps.zip us, scope.names.lookup y.1 = some .local ∨ (scope.names.lookup y.1 = some .cell ∧ ((cellsFrom (s.heap.objs.size + 1) scope.names []).lookup y.1).isSome = true) := fun ⟨n, v⟩ hy => by
    rcases S.par n (List.of_mem_zip hy).1 with q | q
    · exact .inl q
    · exact .inr ⟨q, PySem.W.cellsFrom_some _ _ _ (.inl q)⟩
  refine codeAny_call_function hr.depth (KX _ _ lk) rfl S.co S.gen rfl (PySem.W.codeRec_of KX hcd) (hb _ _ _ _ ?_)
  refine wpAny_newFunctionEnv_cells S.kind hkind fun env he s1 x => ?_
  subst he
  refine ⟨lim.keeps x.toInCall.keep, codeAny_func ?_⟩
  obtain ⟨t, ht, hq⟩ := hbody A outer s H vs Q E (hr.deeper _) hsp
  have I : Inv (cxOf CX P w K mg base N qual scope f cdv A outer s H E) [] (start N vs) H s1 := inv_start S hr.hd e0 hl r x
  refine wpAny_mono (ht [] s1 (start N vs) H _ I hq) (fun fl s' hs => ?_) fun e s' hs => hs
  have fin : ∀ {σ' : St} {H' : Hp} {v : V} {u : Value}, Inv (cxOf CX P w K mg base N qual scope f cdv A outer s H E) [] σ' H' s' → RelV v u → Q v H' → CE outer P w H s Q u s' :=
    fun {σ' H' v u} J rv q => ⟨v, H', J.os, J.bare, J.base, J.hok, rv, q⟩
  cases fl with
  | ret u =>
    obtain ⟨v, σ', H', J, rv, q⟩ := hs
    exact fin J rv q
  | next =>
    obtain ⟨σ', H', J, q⟩ := hs
    exact fin (v := V.non) (u := Value.none) J rfl q
  | brk =>
    obtain ⟨_, _, _, q⟩ := hs
    exact False.elim q
  | cont =>
    obtain ⟨_, _, _, q⟩ := hs
    exact False.elim q
end L2
namespace L2
open PySem PySem.Spec PyProof.Rows
section
variable {X : Cx} {x : Str} {p pos : Pos} {e : Expr} {es : List Expr} {t : TA} {id T : String} {r : List V → Hp → VK → Prop}
def tCB (r : List V → Hp → VK → Prop) (t : TA) : TE := fun σ H Q => t σ H fun vs H1 => r vs H1 Q
theorem pe_callB (hc : CallR X (.builtin id) r) (hg : Gl X x) (hm : X.mg x = none) (hv : bootBuiltins x = some (.builtin id)) (ha : PA X (e :: es) t) (hn : x ≠ "__name__" := by decide) (hdb : (x == ("__debug__" : Str)) = false := by decide)
    (he : starEach (e :: es) X.env = (false, eval e X.env) :: starEach es X.env := by rfl) (hpl : (backTo pos (starEach es X.env)).any (·.1) = false := by rfl) : PE X (.Call (.Name x p) (e :: es) [] pos) (tCB r t) := by
  intro pins s σ H Q I h
  refine wpAny_Call_Name_kw (ld_blt I hg hm hv ?_ hn hdb)
  exact PyProof.Rows.callWith_builtin1 (thn (ha pos pins s σ H _ I h) fun us s1 ⟨vs, H1, I1, r1, q1⟩ => hc pins s1 σ H1 vs us Q I1 r1 q1) he hpl
end
end L2
namespace HT
open PySem PyProof.Rows
def lexLt : List Int → List Int → Bool
  | [], [] => false
  | [], _ :: _ => true
  | _ :: _, [] => false
  | x :: xs, y :: ys => if x = y then lexLt xs ys else decide (x < y)
section
open PySem.SeqAt
open PySem.AutoSeq1 (wpAny_loadPart')
open PySem.MeetsSeq PySem.MeetsSeq2 PySem.MeetsSeq3
end
section
variable {prog : Program} {w : World} {A : Around} {E : Value → Shared → Prop} {s : Shared}
def sIx (n d : Nat) : Option Int → Nat
  | none => d
  | some v => if v < 0 then (v + (n : Int)).toNat else min v.toNat n
end
end HT
namespace L2
open PySem PySem.Spec PyProof.Rows
abbrev TO := St → Hp → (Option Int → Hp → Prop) → Prop
def PO (X : Cx) (e : Option Expr) (t : TO) : Prop :=
  ∀ (pins : List (Addr × Obj)) (s : Shared) (σ : St) (H : Hp) (Q : Option Int → Hp → Prop), Inv X pins σ H s → t σ H Q →
    wpAny (model X.prog X.w) X.A (evalPart e X.env) (fun u s' => ∃ o H', Inv X pins σ H' s' ∧ IsPart u o ∧ Q o H') X.xe s
def tNoPart : TO := fun _ H Q => Q none H
def tPart (t : TE) : TO := fun σ H Q => t σ H fun x H1 => ∃ i, x = .int i ∧ Q (some i) H1
section
variable {X : Cx} {e : Expr} {te : TE} {lo hi : Option Expr} {tl th : TO} {pos p2 : Pos}
theorem po_none : PO X none tNoPart := by
  intro pins s σ H Q I h
  rw [evalPart_none]
  exact wpAny_pure ⟨none, H, I, .none, h⟩
theorem po_some (h : PE X e te) : PO X (some e) (tPart te) := by
  intro pins s σ H Q I hw
  rw [evalPart_some]
  refine thn (h pins s σ H _ I hw) fun u s1 ⟨x, H1, I1, r1, q1⟩ => ?_
  obtain ⟨i, rfl, q⟩ := q1
  obtain ⟨t, rfl⟩ := r1
  exact ⟨some i, H1, I1, .int i t, q⟩
def SlR (X : Cx) (r : V → Option Int → Option Int → Hp → VK → Prop) : Prop :=
  ∀ (pins : List (Addr × Obj)) (s : Shared) (σ : St) (H : Hp) (x : V) (v vl vu : Value) (lo hi : Option Int) (sl : Addr) (Q : VK), Inv X pins σ H s → RelV x v → s.heap.IsSliceOf sl vl vu .none → IsPart vl lo → IsPart vu hi → r x lo hi H Q →
    ∃ T id, typeLookup (.type T) "__getitem__" = pure (some (.builtin id)) ∧ s.TypeIs v T ∧ wpAny (model X.prog X.w) X.A (getItem v (.ref sl)) (EP X pins σ Q) X.xe s
def tSl (r : V → Option Int → Option Int → Hp → VK → Prop) (te : TE) (tl th : TO) : TE := fun σ H Q => te σ H fun x H1 => tl σ H1 fun l H2 => th σ H2 fun u H3 => r x l u H3 Q
theorem pe_slice {r : V → Option Int → Option Int → Hp → VK → Prop} (hr : SlR X r) (he : PE X e te) (hl : PO X lo tl) (hu : PO X hi th) : PE X (.Subscript e (.Slice lo hi none p2) pos) (tSl r te tl th) := by
  intro pins s σ H Q I h
  refine Subscript_ (thn (he pins s σ H _ I h) fun v s1 ⟨x, H1, I1, r1, q1⟩ => ?_)
  refine wpAny_Slice (thn (hl pins s1 σ H1 _ I1 q1) fun vl s2 ⟨l, H2, I2, pl, q2⟩ => thn (hu pins s2 σ H2 _ I2 q2) fun vu s3 ⟨u, H3, I3, pu, q3⟩ => ?_)
  rw [evalPart_none]
  refine wpAny_pure ?_
  have I4 : Inv X pins σ H3 { s3 with heap := s3.heap.push { cls := .type "slice", data := .fields #[vl, vu, .none] } } := I3.kept (t' := s3.toks) fun b ob q => Heap.get?_push_of_some _ q
  obtain ⟨T, id, hT, ht, hg⟩ := hr pins { s3 with heap := s3.heap.push { cls := .type "slice", data := .fields #[vl, vu, .none] } } σ H3 x v vl vu l u s3.heap.objs.size Q I4 r1 (Heap.IsSliceOf.new ..) pl pu q3
  show wpAny (model X.prog X.w) X.A (subscriptTail e (.Slice lo hi none p2) v (.ref s3.heap.objs.size)) (EP X pins σ Q) X.xe { s3 with heap := s3.heap.push { cls := .type "slice", data := .fields #[vl, vu, .none] } }
  exact tail_any (ops := [.ref s3.heap.objs.size, v]) ht hT hg (by with_unfolding_all rfl)
def cutV (xs : List V) (lo hi : Option Int) : List V := (xs.drop (HT.sIx xs.length 0 lo)).take (HT.sIx xs.length xs.length hi - HT.sIx xs.length 0 lo)
def rSlT (K : PySem.W.Frag) : V → Option Int → Option Int → Hp → VK → Prop := fun x lo hi H Q => ∃ a xs, x = .ref a ∧ SqT K H a xs ∧
  ¬ (HT.sIx xs.length 0 lo = 0 ∧ HT.sIx xs.length xs.length hi = xs.length) ∧ ∀ p, H p = none → Q (.ref p) (upd H p (.tup (cutV xs lo hi)))
def rLtT (K : PySem.W.Frag) : R2 := fun x y H Q => ∃ a b ns ms, x = .ref a ∧ y = .ref b ∧ SqT K H a (ns.map V.int) ∧ SqT K H b (ms.map V.int) ∧ Q (.bl (HT.lexLt ns ms)) H
def rCatT (K : PySem.W.Frag) : R2 := fun x y H Q => ∃ a b xs ys, x = .ref a ∧ y = .ref b ∧ SqT K H a xs ∧ SqT K H b ys ∧ xs ≠ [] ∧ xs.length + ys.length ≤ sizeLine ∧
  (ys = [] → Q (.ref a) H) ∧ (ys ≠ [] → ∀ p, H p = none → Q (.ref p) (upd H p (.tup (xs ++ ys))))
end
end L2
namespace L2
open PySem PySem.Spec PyProof.Rows
def ixN (n : Nat) (i : Int) : Option Nat := if 0 ≤ i then (if i < n then some i.toNat else none) else if -(n : Int) ≤ i then some (i + n).toNat else none
def atI {α : Type} (xs : List α) (i : Int) : Option α := (ixN xs.length i).bind fun j => xs[j]?
theorem ixN_seq {n : Nat} {i : Int} {j : Nat} (h : ixN n i = some j) : seqIndex? i n = some j ∧ j < n ∧ -(n : Int) ≤ i ∧ i < n := by
  unfold ixN at h
  by_cases h0 : 0 ≤ i
  · rw [if_pos h0] at h
    by_cases h1 : i < n
    · rw [if_pos h1] at h
      have e : i.toNat = j := Option.some.inj h
      exact ⟨by rw [seqIndex_of h0 h1, e], by omega, by omega, h1⟩
    · rw [if_neg h1] at h; cases h
  · rw [if_neg h0] at h
    by_cases h1 : -(n : Int) ≤ i
    · rw [if_pos h1] at h
      have e : (i + n).toNat = j := Option.some.inj h
      exact ⟨by rw [seqIndex_neg (by omega) h1, e], by omega, h1, by omega⟩
    · rw [if_neg h1] at h; cases h
theorem atI_get {α : Type} {xs : List α} {i : Int} {v : α} (h : atI xs i = some v) : ∃ j, seqIndex? i xs.length = some j ∧ xs[j]? = some v ∧ j < xs.length ∧ -(xs.length : Int) ≤ i ∧ i < xs.length := by
  unfold atI at h
  cases e : ixN xs.length i with
  | none => rw [e] at h; cases h
  | some j =>
    rw [e] at h
    obtain ⟨h1, h2, h3, h4⟩ := ixN_seq e
    exact ⟨j, h1, h, h2, h3, h4⟩
theorem atI_nat {α : Type} {xs : List α} {j : Nat} {v : α} (h : xs[j]? = some v) : atI xs (j : Int) = some v := by
  have hj : j < xs.length := (List.getElem?_eq_some_iff.mp h).1
  have e : ixN xs.length (j : Int) = some j := by
    unfold ixN
    rw [if_pos (by omega), if_pos (by omega)]; simp
  unfold atI; rw [e]; exact h
theorem atI_last {α : Type} (xs : List α) (v : α) : atI (xs ++ [v]) (-1) = some v := by
  have hl : (xs ++ [v]).length = xs.length + 1 := by simp
  have e : ixN (xs ++ [v]).length (-1) = some xs.length := by
    unfold ixN
    rw [hl, if_neg (by decide), if_pos (by omega)]
    congr 1
    omega
  unfold atI
  rw [e]
  show (xs ++ [v])[xs.length]? = some v
  simp
def PlainIx (b : Expr) : Prop := ∀ o i, subscripted b false o i = operate [o, i] (getItem o i)
def IxR (X : Cx) (r : R2) : Prop :=
  ∀ (value slice : Expr) (pins : List (Addr × Obj)) (s : Shared) (σ : St) (H : Hp) (x y : V) (v u : Value) (Q : VK), Inv X pins σ H s → RelV x v → RelV y u → r x y H Q →
    subscripted slice false v u = operate [v, u] (getItem v u) → wpAny (model X.prog X.w) X.A (subscriptTail value slice v u) (EP X pins σ Q) X.xe s
def MtR (X : Cx) (id : String) (r : V → List V → Hp → VK → Prop) : Prop :=
  ∀ (pins : List (Addr × Obj)) (s : Shared) (σ : St) (H : Hp) (x : V) (xs : List V) (v : Value) (us : List Value) (Q : VK), Inv X pins σ H s → RelV x v → Vals xs us → r x xs H Q →
    wpAny (model X.prog X.w) X.A (call (.builtin id) (v :: us)) (EP X pins σ Q) X.xe s
section
variable {X : Cx} {a b : Expr} {ta tb : TE} {pos : Pos}
theorem IxR.or {r r' : R2} (h : IxR X r) (h' : IxR X r') : IxR X (fun x y H Q => r x y H Q ∨ r' x y H Q) := by
  intro value slice pins s σ H x y v u Q I rx ry q hs
  rcases q with q | q
  · exact h value slice pins s σ H x y v u Q I rx ry q hs
  · exact h' value slice pins s σ H x y v u Q I rx ry q hs
theorem pe_ix {r : R2} (hr : IxR X r) (ha : PE X a ta) (hb : PE X b tb) (hs : PlainIx b) : PE X (.Subscript a b pos) (tOp r ta tb) := by
  intro pins s σ H Q I h
  exact Subscript_ (binT ha hb I h fun v u s2 x y H2 I2 rx ry q => hr a b pins s2 σ H2 x y v u Q I2 rx ry q (hs _ _))
def rIxL (K : PySem.W.Frag) : R2 := fun x y H Q => ∃ p xs i v, x = .ref p ∧ y = .int i ∧ SqL K H p xs ∧ atI xs i = some v ∧ Q v H
def rIxT (K : PySem.W.Frag) : R2 := fun x y H Q => ∃ p xs i v, x = .ref p ∧ y = .int i ∧ SqT K H p xs ∧ atI xs i = some v ∧ Q v H
def rIxS : R2 := fun x y H Q => ∃ z i c, x = .str z ∧ y = .int i ∧ z.length ≤ sizeLine ∧ atI z.cps.toList i = some c ∧ Q (.str ⟨#[c]⟩) H
theorem ix_list : IxR X (rIxL X.K) := by
  intro value slice pins s σ H x y v u Q I rx ry h hs
  obtain ⟨p, xs, i, z, rfl, rfl, hq, he, q⟩ := h
  cases rx
  obtain ⟨t, rfl⟩ := ry
  obtain ⟨its, r, pl, hz⟩ := I.list hq
  obtain ⟨j, h1, h2, h3, h4, h5⟩ := atI_get he
  obtain ⟨w, ew, rw'⟩ := r.get h2
  have hl := r.length
  have hn := line63
  have fin : EP X pins σ Q w s := ⟨z, H, I, rw', q⟩
  by_cases h0 : 0 ≤ i
  · have hj : i.toNat = j := by
      rw [seqIndex_of h0 h5] at h1
      exact Option.some.inj h1
    exact item_listR pl.isList h0 (by omega) (by rw [hj]; simpa using ew) fin hs
  · have hj : (i + (its.toArray.size : Int)).toNat = j := by
      rw [seqIndex_neg (by omega) h4] at h1
      rw [List.size_toArray, ← hl]
      exact Option.some.inj h1
    exact subscriptTail_builtinR (x := w) pl.isList.typeIs slot_list_getitem.lookup
      (wpAny_getItem_list_neg (Q := fun r s' => r = w ∧ EP X pins σ Q r s') pl.isList (by omega) (by rw [List.size_toArray] <;> omega) (by omega) (by rw [hj]; simpa using ew) ⟨rfl, fin⟩) hs
theorem ix_tup : IxR X (rIxT X.K) := by
  intro value slice pins s σ H x y v u Q I rx ry h hs
  obtain ⟨p, xs, i, z, rfl, rfl, hq, he, q⟩ := h
  cases rx
  obtain ⟨t, rfl⟩ := ry
  obtain ⟨its, r, pl, hz⟩ := I.tuple hq
  obtain ⟨j, h1, h2, h3, h4, h5⟩ := atI_get he
  obtain ⟨w, ew, rw'⟩ := r.get h2
  have hl := r.length
  have hn := line63
  have fin : EP X pins σ Q w s := ⟨z, H, I, rw', q⟩
  exact subscriptTail_builtinR (x := w) pl.typeIs slot_tuple_getitem.lookup
    (getItem_tuple (j := j) (Q := fun r s' => r = w ∧ EP X pins σ Q r s') pl (by omega) (by omega) (by rw [List.size_toArray, ← hl]; exact h1) (by simpa using ew) ⟨rfl, fin⟩) hs
theorem ix_str : IxR X rIxS := by
  intro value slice pins s σ H x y v u Q I rx ry h hs
  obtain ⟨z, i, c, rfl, rfl, hz, he, q⟩ := h
  obtain ⟨t, rfl⟩ := rx
  obtain ⟨t', rfl⟩ := ry
  obtain ⟨j, h1, h2, h3, h4, h5⟩ := atI_get he
  have hl : z.cps.toList.length = z.length := by simp [Str.length]
  rw [hl] at h1 h4 h5
  have hn := line63
  exact tail_any (typeIs_str s z t) slot_str_getitem.lookup (getItem_str (c := c) (by
    have e1 : decide (i < -(2 ^ 63 : Int)) = false := decide_eq_false (by omega)
    have e2 : decide (i ≥ 2 ^ 63) = false := decide_eq_false (by omega)
    rw [e1, e2, Bool.or_false]) (by rw [h1]; simpa using h2) ⟨.str ⟨#[c]⟩, H, I.tok _, ⟨_, rfl⟩, q⟩) hs
def rIx (K : PySem.W.Frag) : R2 := fun x y H Q => rIxL K x y H Q ∨ rIxT K x y H Q ∨ rIxS x y H Q
theorem ix_seq : IxR X (rIx X.K) := ix_list.or (ix_tup.or ix_str)
def rSetL : V → V → V → Hp → (Hp → Prop) → Prop := fun o i v H Q => ∃ p xs k j, o = .ref p ∧ i = .int k ∧ H p = some (.lst xs) ∧ ixN xs.length k = some j ∧ Q (upd H p (.lst (xs.set j v)))
def rSlL (K : PySem.W.Frag) : V → Option Int → Option Int → Hp → VK → Prop := fun x lo hi H Q => ∃ a xs, x = .ref a ∧ SqL K H a xs ∧ ∀ p, H p = none → Q (.ref p) (upd H p (.lst (cutV xs lo hi)))
def flatV : V → Bool
  | .non => true
  | .bl _ => true
  | .int _ => true
  | .str _ => true
  | _ => false
def eqV : V → V → Bool
  | .non, .non => true
  | .bl a, .bl b => a == b
  | .bl a, .int b => (if a then 1 else 0) == b
  | .int a, .bl b => a == (if b then 1 else 0)
  | .int a, .int b => a == b
  | .str a, .str b => a == b
  | _, _ => false
theorem eqAt_V {A : Around} {s : Shared} {y x : V} {u v : Value} (ry : RelV y u) (rx : RelV x v) (fy : flatV y = true) (fx : flatV x = true) : SeqAt.EqAt A s u v (eqV y x) := by
  cases y with
  | non =>
    cases ry
    cases x with
    | non => cases rx; exact SeqAt.EqAt.same _
    | bl b => cases rx; exact SeqAt.EqAt.none_bool b
    | int b => obtain ⟨t, rfl⟩ := rx; exact SeqAt.EqAt.none_int b t
    | str b => obtain ⟨t, rfl⟩ := rx; exact SeqAt.EqAt.none_str b t
    | _ => exact absurd (show false = true from fx) Bool.false_ne_true
  | bl a =>
    cases ry
    cases x with
    | non => cases rx; exact SeqAt.EqAt.bool_none a
    | bl b => cases rx; exact SeqAt.EqAt.bool_bool a b
    | int b => obtain ⟨t, rfl⟩ := rx; exact SeqAt.EqAt.bool_int a b t
    | str b => obtain ⟨t, rfl⟩ := rx; exact SeqAt.EqAt.bool_str a b t
    | _ => exact absurd (show false = true from fx) Bool.false_ne_true
  | int a =>
    obtain ⟨t', rfl⟩ := ry
    cases x with
    | non => cases rx; exact SeqAt.EqAt.int_none a t'
    | bl b => cases rx; exact SeqAt.EqAt.int_bool a t' b
    | int b => obtain ⟨t, rfl⟩ := rx; exact SeqAt.EqAt.int_int a t' b t
    | str b => obtain ⟨t, rfl⟩ := rx; exact SeqAt.EqAt.int_str a t' b t
    | _ => exact absurd (show false = true from fx) Bool.false_ne_true
  | str a =>
    obtain ⟨t', rfl⟩ := ry
    cases x with
    | non => cases rx; exact SeqAt.EqAt.str_none a t'
    | bl b => cases rx; exact SeqAt.EqAt.str_bool a t' b
    | int b => obtain ⟨t, rfl⟩ := rx; exact SeqAt.EqAt.str_int a t' b t
    | str b => obtain ⟨t, rfl⟩ := rx; exact SeqAt.EqAt.str_str a t' b t
    | _ => exact absurd (show false = true from fx) Bool.false_ne_true
  | _ => exact absurd (show false = true from fy) Bool.false_ne_true
def eqU (x : V) (u : Value) : Bool := match u with
  | .none => eqV .non x
  | .bool b => eqV (.bl b) x
  | .int i _ => eqV (.int i) x
  | .str z _ => eqV (.str z) x
  | _ => false
theorem eqU_of {x y : V} {u : Value} (r : RelV y u) (f : flatV y = true) : eqU x u = eqV y x := by
  cases y with
  | non => cases r; rfl
  | bl b => cases r; rfl
  | int i => obtain ⟨t, rfl⟩ := r; rfl
  | str z => obtain ⟨t, rfl⟩ := r; rfl
  | _ => exact absurd (show false = true from f) Bool.false_ne_true
theorem any_eqU {x : V} : ∀ {xs : List V} {us : List Value}, Vals xs us → xs.all flatV = true → us.any (eqU x) = xs.any fun y => eqV y x
  | _, _, .nil, _ => rfl
  | y :: xs, u :: us, .cons r t, f => by
    rw [List.all_cons, Bool.and_eq_true] at f
    rw [List.any_cons, List.any_cons, eqU_of r f.1, any_eqU t f.2]
theorem mem_eqAt {A : Around} {s : Shared} {x : V} {v : Value} (rx : RelV x v) (fx : flatV x = true) : ∀ {xs : List V} {us : List Value}, Vals xs us → xs.all flatV = true → ∀ u ∈ us, SeqAt.EqAt A s u v (eqU x u)
  | _, _, .nil, _ => fun u hu => by cases hu
  | y :: xs, u :: us, .cons r t, f => fun u' hu => by
    rw [List.all_cons, Bool.and_eq_true] at f
    rcases List.mem_cons.mp hu with rfl | hu
    · rw [eqU_of r f.1]; exact eqAt_V r rx f.1 fx
    · exact mem_eqAt rx fx t f.2 u' hu
def inV (x : V) (xs : List V) : Bool := xs.any fun y => eqV y x
def rIn (K : PySem.W.Frag) (neg : Bool) : R2 := fun x y H Q => ∃ p xs, y = .ref p ∧ (SqL K H p xs ∨ SqT K H p xs) ∧ flatV x = true ∧ xs.all flatV = true ∧ Q (.bl (if neg then !inV x xs else inV x xs)) H
theorem op_in_seq : OpR X (compareOp .In) (rIn X.K false) := by
  intro pins s σ H x y v u Q I rx ry h
  obtain ⟨p, xs, rfl, hq, fx, fs, q⟩ := h
  cases ry
  rcases hq with hq | hq
  · obtain ⟨its, r, pl, hz⟩ := I.list hq
    refine SeqAt.in_listAt (eqU x) pl.isList (fun w hw => mem_eqAt rx fx r fs w (by simpa using hw)) ⟨.bl _, H, I, rfl, ?_⟩
    rw [show its.toArray.any (eqU x) = its.any (eqU x) by simp, any_eqU r fs]
    exact q
  · obtain ⟨its, r, pl, hz⟩ := I.tuple hq
    refine SeqAt.in_tupleAt (eqU x) pl (fun w hw => mem_eqAt rx fx r fs w (by simpa using hw)) ⟨.bl _, H, I, rfl, ?_⟩
    rw [show its.toArray.any (eqU x) = its.any (eqU x) by simp, any_eqU r fs]
    exact q
theorem call_len_seq : CallR X (.builtin "len") (fun xs H Q => ∃ p ys, xs = [.ref p] ∧ (SqL X.K H p ys ∨ SqT X.K H p ys) ∧ Q (.int ys.length) H) := by
  intro pins s σ H xs us Q I r h
  obtain ⟨p, ys, rfl, hq, q⟩ := h
  obtain ⟨u, rfl, rx⟩ := vals1 r
  cases rx
  have hn := line63
  rcases hq with hq | hq
  · obtain ⟨its, r', pl, hz⟩ := I.list hq
    have hlen := r'.length
    exact Calls.call_len_list pl.isList (by simp only [List.size_toArray] <;> omega) ⟨.int ys.length, H, I.tok _, ⟨s.toks + 1, by rw [List.size_toArray, hlen]⟩, q⟩
  · obtain ⟨its, r', pl, hz⟩ := I.tuple hq
    have hlen := r'.length
    exact len_tuple pl (by simp only [List.size_toArray] <;> omega) ⟨.int ys.length, H, I.tok _, ⟨s.toks + 1, by rw [List.size_toArray, hlen]⟩, q⟩
theorem call_len_str : CallR X (.builtin "len") (fun xs H Q => ∃ z, xs = [.str z] ∧ z.length ≤ sizeLine ∧ Q (.int z.length) H) := by
  intro pins s σ H xs us Q I r h
  obtain ⟨z, rfl, hz, q⟩ := h
  obtain ⟨u, rfl, t, rfl⟩ := vals1 r
  have hn := line63
  exact len_str (by omega) ⟨.int z.length, H, I.tok _, ⟨_, rfl⟩, q⟩
def tyV (K : PySem.W.Frag) (T : String) (x : V) (H : Hp) : Prop := match x with
  | .str _ => T = "str"
  | .int _ => T = "int"
  | .ref p => (T = "list" ∧ ∃ xs, SqL K H p xs) ∨ (T = "tuple" ∧ ∃ o, K.lookup p = some o ∧ o.cls = .type "tuple" ∧ o.dict = none) ∨
      (T = "dict" ∧ ((∃ kvs, H p = some (.dK kvs)) ∨ ∃ kvs, H p = some (.dT kvs))) ∨ (T = "set" ∧ ∃ S n, H p = some (.set S n))
  | _ => False
theorem tyV_is {pins : List (Addr × Obj)} {σ : St} {H : Hp} {s : Shared} {T : String} {x : V} {v : Value} (I : Inv X pins σ H s) (r : RelV x v) (ty : tyV X.K T x H) :
    s.TypeIs v T ∧ ∀ a, v = .ref a → ∃ ob, s.heap.get? a = some ob ∧ ob.dict = none := by
  cases x with
  | str z =>
    obtain ⟨t, rfl⟩ := r
    cases (show T = "str" from ty)
    exact ⟨typeIs_str s z t, fun _ e => nomatch e⟩
  | int i =>
    obtain ⟨t, rfl⟩ := r
    cases (show T = "int" from ty)
    exact ⟨typeIs_int s i t, fun _ e => nomatch e⟩
  | ref p =>
    cases r
    rcases ty with ⟨rfl, xs, hq⟩ | ⟨rfl, o, hk, hc, hd⟩ | ⟨rfl, hk⟩ | ⟨rfl, S, n, hk⟩
    · obtain ⟨its, _, pl, _⟩ := I.list hq
      refine ⟨pl.isList.typeIs, fun a e => ?_⟩
      cases e
      obtain ⟨o, n, e, c, hd, _⟩ := pl
      exact ⟨o, e, hd⟩
    · refine ⟨⟨o, I.kIn p o hk, hc⟩, fun a e => ?_⟩
      cases e
      exact ⟨o, I.kIn _ o hk, hd⟩
    · have z : ∃ o, s.heap.get? p = some o ∧ o.ExactDict := by
        rcases hk with ⟨kvs, hk⟩ | ⟨kvs, hk⟩
        · obtain ⟨_, _, _, _, o, _, _, e, ex, _⟩ := I.hok p _ hk
          exact ⟨o, e, ex⟩
        · obtain ⟨_, _, _, _, o, _, _, e, ex, _⟩ := I.hok p _ hk
          exact ⟨o, e, ex⟩
      obtain ⟨o, e, ex⟩ := z
      refine ⟨⟨o, e, ex.1⟩, fun a e2 => ?_⟩
      cases e2
      exact ⟨o, e, ex.2.1⟩
    · obtain ⟨o, _, _, _, e, ex, _⟩ := I.hok p _ hk
      refine ⟨⟨o, e, ex.1⟩, fun a e2 => ?_⟩
      cases e2
      exact ⟨o, e, ex.2.1⟩
  | _ => exact False.elim ty
def tBM0 (K : PySem.W.Frag) (T : String) (r : V → List V → Hp → VK → Prop) (to : TE) : TE := fun σ H Q => to σ H fun x H1 => tyV K T x H1 ∧ r x [] H1 Q
def tBM (K : PySem.W.Frag) (T : String) (r : V → List V → Hp → VK → Prop) (to : TE) (t : TA) : TE := fun σ H Q => to σ H fun x H1 => tyV K T x H1 ∧ t σ H1 fun xs H2 => r x xs H2 Q
variable {o e : Expr} {es : List Expr} {to : TE} {t : TA} {name : Str} {apos cpos : Pos} {T id : String} {r : V → List V → Hp → VK → Prop}
theorem pe_bm0 (pa : PlainAttrs T) (slot : Slot T name id) (hty : typeOf (.builtin id) = pure (.type "method_descriptor")) (hm : MtR X id r) (ho : PE X o to)
    (hbase : attributeBase o name X.env (eval o X.env) = eval o X.env := by rfl) (hline : (apos.endLine == cpos.line) = true := by rfl) : PE X (.Call (.Attribute o name apos) [] [] cpos) (tBM0 X.K T r to) := by
  intro pins s σ H Q I h
  refine wpAny_Call_method0_late hbase hline (thn (ho pins s σ H _ I h) fun v s1 ⟨x, H1, I1, r1, ty, q1⟩ => ?_)
  obtain ⟨h1, h2⟩ := tyV_is I1 r1 ty
  exact ⟨T, id, pa, slot, hty, h1, h2, Calls.callWith_builtin rfl (PySem.evalArgs_none (hm pins s1 σ H1 x [] v [] Q I1 r1 .nil q1))⟩
theorem pe_bm (pa : PlainAttrs T) (slot : Slot T name id) (hty : typeOf (.builtin id) = pure (.type "method_descriptor")) (hm : MtR X id r) (ho : PE X o to) (ha : PA X (e :: es) t)
    (hbase : attributeBase o name X.env (eval o X.env) = eval o X.env := by rfl)
    (hfew : ((backTo cpos (starEach (e :: es) X.env)).all (fun x => !x.1) && (backToKw cpos (keywordEach [] X.env)).all (fun x => x.1.isSome)
      && decide ((e :: es).length + ([] : List Keyword).length + (if ([] : List Keyword).isEmpty then 0 else 1) < 30)) = true := by rfl)
    (hline : (apos.endLine == cpos.line) = true := by rfl) (hs : starEach (e :: es) X.env = (false, eval e X.env) :: starEach es X.env := by rfl) (hplain : (backTo cpos (starEach es X.env)).any (·.1) = false := by rfl) :
    PE X (.Call (.Attribute o name apos) (e :: es) [] cpos) (tBM X.K T r to t) := by
  intro pins s σ H Q I h
  refine wpAny_Call_method_late hbase hfew hline rfl (thn (ho pins s σ H _ I h) fun v s1 ⟨x, H1, I1, r1, ty, q1⟩ => ?_)
  obtain ⟨h1, h2⟩ := tyV_is I1 r1 ty
  refine ⟨T, id, pa, slot, hty, h1, h2, ?_⟩
  have hA := ha cpos pins s1 σ H1 _ I1 q1
  rw [hs] at hA ⊢
  refine Calls.callWith_builtin (by show (false || (backTo cpos (starEach es X.env)).any (·.1)) = false; rw [hplain] <;> rfl) (Calls.evalArgs_plain ?_)
  exact thn hA fun us s2 ⟨vs, H2, I2, r2, q2⟩ => hm pins s2 σ H2 x vs v us Q I2 r1 r2 q2
/- xs.append(e), list.index on a module's tuple .. are MtR facts of 06m -/
end
end L2
namespace L2
open PySem PySem.Spec PyProof.Rows
def MtM (X : Cx) (id : String) (r : V → List V → Hp → VK → Prop) : Prop :=
  ∀ (pins : List (Addr × Obj)) (s : Shared) (σ : St) (H : Hp) (x : V) (xs : List V) (v : Value) (us : List Value) (Q : VK), Inv X pins σ H s → RelV x v → Vals xs us → r x xs H Q →
    wpAny (model X.prog X.w) X.A (call (.builtin id) (v :: us)) (EP X pins σ Q) X.xe s
theorem Vals.one : ∀ {x : V} {us : List Value}, Vals [x] us → ∃ u, us = [u] ∧ RelV x u
  | _, _, .cons r .nil => ⟨_, rfl, r⟩
theorem Vals.zero : ∀ {us : List Value}, Vals [] us → us = []
  | _, .nil => rfl
theorem Vals.dropLast {xs : List V} {us : List Value} (h : Vals xs us) : Vals xs.dropLast us.dropLast := by
  induction h with
  | nil => exact .nil
  | cons r t ih =>
    cases t with
    | nil => exact .nil
    | cons q t' => exact .cons r ih
theorem erase_last {α : Type} (l : List α) : l.eraseIdx (l.length - 1) = l.dropLast := by
  induction l with
  | nil => rfl
  | cons a r ih =>
    cases r with
    | nil => rfl
    | cons b r =>
      have e : (a :: b :: r).length - 1 = ((b :: r).length - 1) + 1 := by
        have h1 : (a :: b :: r).length = r.length + 2 := rfl
        have h2 : (b :: r).length = r.length + 1 := rfl
        omega
      rw [e, List.eraseIdx_cons_succ, ih]
      all_goals rfl
section
variable {X : Cx} {pins : List (Addr × Obj)} {σ : St} {H : Hp} {s : Shared} {l b : Addr} {xs ys zs : List V}
theorem Inv.lset {its its' : List Value} {n : Nat} {f : Array Value → Array Value} {t' : Nat} (I : Inv X pins σ H s) (hH : H l = some (.lst xs))
    (e : s.heap.get? l = some { cls := .type "list", data := .seq its.toArray n }) (hf : f its.toArray = its'.toArray) (hv : Vals ys its') (hz : ys.length ≤ sizeLine) :
    Inv X pins σ (upd H l (.lst ys)) { s with heap := s.heap.update l (Obj.mapSeq f), toks := t' } := by
  have q := PySem.IsL.update e f
  rw [hf] at q
  refine I.write (x := l) (e := l) (by rw [hH]; exact trivial) (.inl rfl) (fun b' u hb hu => (Heap.get?_update_other s.heap (Obj.mapSeq f) (Ne.symm hb)).trans hu) ⟨_, q⟩ ?_
  exact ⟨hz, its', _, hv, q⟩
theorem Inv.lstM (I : Inv X pins σ H s) (hH : H l = some (.lst xs)) : xs.length ≤ sizeLine ∧ ∃ (its : List Value) (n : Nat), Vals xs its ∧ xs.length = its.length ∧ s.heap.get? l = some { cls := .type "list", data := .seq its.toArray n } := by
  obtain ⟨z, its, n, r, e⟩ := I.hok l _ hH
  exact ⟨z, its, n, r, r.length, e⟩
end
section
variable {X : Cx}
def rAppend : V → List V → Hp → VK → Prop := fun x vs H Q => ∃ l xs y, x = .ref l ∧ vs = [y] ∧ H l = some (.lst xs) ∧ xs.length < sizeLine ∧ Q .non (upd H l (.lst (xs ++ [y])))
theorem mt_append : MtM X "list.append" rAppend := by
  intro pins s σ H x vs v us Q I rx rv h
  obtain ⟨l, xs, y, rfl, rfl, hH, hz, q⟩ := h
  cases rx
  obtain ⟨u, rfl, ru⟩ := rv.one
  obtain ⟨z, its, n, r, hl, e⟩ := I.lstM hH
  refine call_meets F.slot_list_append ⟨_, e, rfl⟩ F.entry_list_append (F.args_list_append_2 _ _) (PySem.list_append l its.toArray n u (by rw [List.size_toArray]; omega)) ⟨e, ?_⟩
  refine ⟨.non, _, I.lset (its' := its ++ [u]) hH e (by simp) (r.append (.cons ru .nil)) ?_, rfl, q⟩
  rw [List.length_append, List.length_singleton]
  omega
def rExtend : V → List V → Hp → VK → Prop := fun x vs H Q => ∃ l b xs zs, x = .ref l ∧ vs = [.ref b] ∧ H l = some (.lst xs) ∧ H b = some (.lst zs) ∧ xs.length + zs.length ≤ sizeLine ∧ Q .non (upd H l (.lst (xs ++ zs)))
def rPop : V → List V → Hp → VK → Prop := fun x vs H Q => ∃ l xs y, x = .ref l ∧ vs = [] ∧ H l = some (.lst xs) ∧ xs[xs.length - 1]? = some y ∧ Q y (upd H l (.lst xs.dropLast))
theorem mt_pop : MtM X "list.pop" rPop := by
  intro pins s σ H x vs v us Q I rx rv h
  obtain ⟨l, xs, y, rfl, rfl, hH, hy, q⟩ := h
  cases rx
  have hus := rv.zero
  subst hus
  obtain ⟨z, its, n, r, hl, e⟩ := I.lstM hH
  obtain ⟨u, hu, ru⟩ := r.get hy
  have hy' : its.toArray[its.toArray.size - 1]? = some u := by
    show its.toArray[its.length - 1]? = some u
    rw [← Array.getElem?_toList, ← hl]
    exact hu
  refine call_meets F.slot_list_pop ⟨_, e, rfl⟩ F.entry_list_pop (F.args_list_pop_1 _) (MeetsSeq.list_pop_last l its.toArray n u hy' (by rw [List.size_toArray]; omega)) ⟨e, ?_⟩
  refine ⟨y, _, I.lset (its' := its.dropLast) hH e ?_ r.dropLast ?_, ru, q⟩
  · show its.toArray.eraseIdxIfInBounds (its.toArray.size - 1) = its.dropLast.toArray
    rw [List.size_toArray, List.eraseIdxIfInBounds_toArray, erase_last]
  · rw [List.length_dropLast]
    omega
def rPopAt : V → List V → Hp → VK → Prop := fun x vs H Q => ∃ l xs i k y, x = .ref l ∧ vs = [.int i] ∧ H l = some (.lst xs) ∧ -(2 ^ 63) ≤ i ∧ i < 2 ^ 63 ∧ seqIndex? i xs.length = some k ∧ xs[k]? = some y ∧ Q y (upd H l (.lst (xs.eraseIdx k)))
def rReverse : V → List V → Hp → VK → Prop := fun x vs H Q => ∃ l xs, x = .ref l ∧ vs = [] ∧ H l = some (.lst xs) ∧ Q .non (upd H l (.lst xs.reverse))
def rClear : V → List V → Hp → VK → Prop := fun x vs H Q => ∃ l xs, x = .ref l ∧ vs = [] ∧ H l = some (.lst xs) ∧ Q .non (upd H l (.lst []))
def rCat : R2 := fun x y H Q => ∃ l b xs zs, x = .ref l ∧ y = .ref b ∧ H l = some (.lst xs) ∧ H b = some (.lst zs) ∧ xs.length + zs.length ≤ sizeLine ∧ ∀ p, H p = none → Q (.ref p) (upd H p (.lst (xs ++ zs)))
def rRep : R2 := fun x y H Q => ∃ l k xs, x = .ref l ∧ y = .int k ∧ H l = some (.lst xs) ∧ -(2 ^ 63) ≤ k ∧ k < 2 ^ 63 ∧ xs.length * k.toNat ≤ sizeLine ∧
  ∀ p, H p = none → Q (.ref p) (upd H p (.lst (List.replicate k.toNat xs).flatten))
end
section
variable {prog : Program} {w : World} {A : Around} {E : Value → Shared → Prop} {s : Shared}
end
section
variable {X : Cx}
end
end L2
namespace Att
open PySem PySem.W PySem.Calls PyProof.Rows
theorem ints_of_wellAll {P : Params} {h : Heap} : ∀ (ns : List Int) (vs : List Value), WellAll P h vs (ns.map WData.int) → IntsAre vs ns := by
  intro ns
  induction ns with
  | nil =>
    intro vs w
    rw [List.map_nil] at w
    cases w
    exact .nil
  | cons n ns ih =>
    intro vs w
    rw [List.map_cons] at w
    cases w with
    | cons a b =>
      cases a
      exact .cons _ _ (ih _ b)
theorem script_of {l : OpenLaw} {n : Nat} (hn : l.most = some n) {P : Params} {h : Heap} {args : List WData} {vals : List Value}
    (hpre : l.row.toRowW.claim.pre args = true) (hwl : WellAll P h vals args) :
    ∃ a vs ns, vals = [Value.ref a] ∧ args = [WData.list (ns.map WData.int)] ∧ h.get? a = some { cls := .type "list", data := .seq vs.toArray } ∧ IntsAre vs ns ∧ ns.length ≤ n := by
  have hsh : WShape.hasAll [] args [.list .int] = true := (pre_splitW hpre).1
  have hc : l.pre.holds [] { args := args } = true := (pre_splitW hpre).2
  obtain ⟨d, r, rfl, h1, h2⟩ := hasAllW_cons hsh
  obtain rfl := hasAllW_nil h2
  obtain ⟨xs, rfl, h3⟩ := hasW_list h1
  obtain ⟨ns, rfl⟩ := items_int h3
  have hlen : ns.length ≤ n := by
    unfold OpenLaw.pre at hc
    have h4 : (WTm.not (.lt (.lit (.int (n : Int))) (.len (.arg 0)))).holds [] { args := [.list (ns.map .int)] } = true := by
      have h4 := (holds_andW hc).1
      rw [hn] at h4
      exact h4
    have h5 := condW_of h4 (w_not (w_lt w_lit (w_len_list (w_arg rfl))))
    rw [List.length_map] at h5
    refine Nat.le_of_not_lt fun q => ?_
    have q' : (n : Int) < ((ns.length : Nat) : Int) := by omega
    first
      | (rw [decide_eq_true q'] at h5; exact absurd h5 (by decide))
      | (simp at h5; omega)
  cases hwl with
  | cons w1 w2 =>
    cases w2
    cases w1 with
    | list ho hall => exact ⟨_, _, ns, rfl, rfl, ho, ints_of_wellAll ns _ hall, hlen⟩
theorem post_true (l : OpenLaw) (args : List WData) : l.row.toRowW.claim.post args (.bool true) args = true :=
  postW_of (r := l.row.toRowW) (X := (true == true))
    (show WShape.has [] (.bool true) .bool = true by first | rfl | decide | simp [WShape.has, WShape.arms, WShape.armsAll])
    (show (WTm.eq .res (.lit (.bool true))).value [] { args := args, res := some (.bool true), after := args } = some (.bool (true == true)) from w_eq_bool (w_res rfl) w_lit) rfl
theorem attach_call {l : OpenLaw} {n : Nat} {q : Program} {loose : List Str} {XP : (Str → Option Value) → Heap → Prop} {YP : World → Heap → Prop} {d : DefRec}
    (hn : l.most = some n) (hdf : d.params.defaults = [])
    (call : ∀ (w : World) (s₀ s₁ : Shared) (mg mb : Str → Option Value) (fa : Addr) (o : Obj) (pm cd doc : Value) (a : Addr) (vs : List Value) (ns : List Int),
      Ground q loose [] XP w s₀ mg mb s₁.heap → YP w s₁.heap →
      s₁.heap.get? fa = some o → o.data = .func (docDef d.name d.params d.body d.scope pm cd doc) → s₁.heap.CodeRec cd d.name → mg d.name = some (.ref fa) →
      s₁.heap.get? a = some { cls := .type "list", data := .seq vs.toArray } → IntsAre vs ns → ns.length ≤ n → s₁.gens = #[] →
      codeAny (model l.prog w) callerA (.call (.ref fa) ⟨[.ref a], []⟩) (fun r s' => r = .ok (.ret (.bool true)) ∧ OldK s₁.heap s'.heap ∧ s'.os = s₁.os ∧ AllBare s'.gens) s₁) :
    WalkO q loose XP YP l.row.toRowW d [] (fun f vs => PySem.call f vs) := by
  intro w s₀ s₁ mg mb G Y fa o pm cd doc dV kV ho hd hcd hD hmg hg args vals as hpre hlay hrd hwl hlo
  obtain rfl : dV = .none := Dflts.none hD hdf
  obtain rfl : kV = .none := Dflts.noKw hD
  obtain ⟨a, vs, ns, rfl, rfl, hobj, hints, hlen⟩ := script_of hn hpre hwl
  refine enter_call (codeAny_mono (call w s₀ s₁ mg mb fa o pm cd doc a vs ns G Y ho (fd_plain hd) hcd hmg hobj hints hlen hg) fun r s' hq => ?_)
  obtain ⟨rfl, h2, h3, h4⟩ := hq
  exact ⟨.inl ⟨.bool true, .bool true, [], rfl, fun _ => rfl, .bool true, post_true l _, fun _ => ⟨List.Pairwise.nil, fun _ hm => (nomatch hm)⟩⟩, h2, h3, h4⟩
section
variable {prog : Program} {w : World} {A : Around} {E : Value → Shared → Prop} {s : Shared} {K : Frag}
def noObjs (h : Heap) : Heap := { h with objs := #[] }
def ledger (h : Heap) (L d : Addr) : List (Addr × Obj) := (List.range h.objs.size).filterMap fun a => if a = L ∨ a = d then none else (h.get? a).map fun o => (a, o)
end
end Att
namespace L2
open PySem PySem.Spec PyProof.Rows
theorem vals_ints : ∀ {vs : List Value} {ns : List Int}, IntsAre vs ns → Vals (ns.map V.int) vs
  | _, _, .nil => .nil
  | _, _, .cons n t h => .cons ⟨t, rfl⟩ (vals_ints h)
def Only (H : Hp) : Prop := ∀ b, H b = none ∨ ∃ o xs, H b = some (.frz o (.lst xs))
theorem law_call {P : Program} {w : World} {K : PySem.W.Frag} {mg mb : Str → Option Value} {CX : CXT} {k : Nat} {fa a : Addr} {fd : FuncData} {x : Str} {sp : Sp} {s₁ : Shared} {vs : List Value} {ns : List Int}
    (KX : K.In s₁.heap) (hns : s₁.heap.Ns mainGlobals mg) (hb : s₁.heap.Ns builtinsNs mb) (hbb : ∀ x : Str, x ≠ "__name__" → mb x = bootBuiltins x) (hlim : s₁.heap.NoLimit) (hg : s₁.gens = #[])
    (ha : s₁.heap.get? a = some { cls := .type "list", data := .seq vs.toArray }) (hi : IntsAre vs ns) (hl : ns.length ≤ sizeLine) (hr : Room k callerA)
    (F : ∀ base : Heap, K.In base → base.Ns mainGlobals mg → FnOk P w K mg base CX k fa fd [x] sp) (hbind : ∀ (s : Shared) (u : Value), BindsTo s fd ⟨[u], []⟩ [(x, u)])
    (hsp : ∀ H : Hp, Only H → SqL K H a (ns.map V.int) → sp [.ref a] H (fun v _ => v = .bl true) fun _ _ _ => False)
    (hCX : ∀ H e s', CX [] H s₁ (fun _ _ _ => False) e s' → False) :
    codeAny (model P w) callerA (.call (.ref fa) ⟨[.ref a], []⟩) (fun r s' => r = .ok (.ret (.bool true)) ∧ OldK s₁.heap s'.heap ∧ s'.os = s₁.os ∧ AllBare s'.gens) s₁ := by
  have rv := vals_ints hi
  have lenV := hi.length
  have core : ∀ H : Hp, Only H → SqL K H a (ns.map V.int) → HOk P w H s₁.heap → (∀ b, H b ≠ none → b = a) → (H a ≠ none → K.lookup a = none) →
      codeAny (model P w) callerA (.call (.ref fa) ⟨[.ref a], []⟩) (fun r s' => r = .ok (.ret (.bool true)) ∧ OldK s₁.heap s'.heap ∧ s'.os = s₁.os ∧ AllBare s'.gens) s₁ := by
    intro H hO hS hok hA hK
    have base_of : ∀ {b : Addr} {o : Obj}, s₁.heap.get? b = some o → H b = none → (hidT s₁.heap H).get? b = some o := fun e n => hidT_get e n
    have noA : ∀ {b : Addr} {o : Obj} {es : Array DictEntry} {ep : Nat}, s₁.heap.get? b = some o → o.data = .dict es ep → H b = none := fun {b o es ep} e d => by
      cases q : H b with
      | none => rfl
      | some u =>
        have e' : b = a := hA b (by rw [q]; simp)
        subst e'
        rw [ha] at e; cases e
        have d' : Data.seq vs.toArray _ = Data.dict es ep := d
        cases d'
    have nsK : ∀ {b : Addr} {m : Str → Option Value}, s₁.heap.Ns b m → (hidT s₁.heap H).Ns b m := fun {b m} ⟨o, es, ep, e, d, r⟩ => ⟨o, es, ep, base_of e (noA e d), d, r⟩
    have hKb : K.In (hidT s₁.heap H) := fun b o e => base_of (KX b o e) (by
      cases q : H b with
      | none => rfl
      | some u =>
        have e' : b = a := hA b (by rw [q]; simp)
        subst e'
        rw [hK (by rw [q]; simp)] at e; cases e)
    have hM : Mod K mg (hidT s₁.heap H) := ⟨hKb, nsK hns, ⟨mb, nsK hb, hbb⟩, let ⟨mc, h1, h2⟩ := hlim; ⟨mc, nsK h1, h2⟩⟩
    have e0 : Env0 P w K mg (hidT s₁.heap H) callerA [] s₁ H := ⟨rfl, hM, fun b o e => of_hidT e, Nat.le_of_eq (hidT_size _ _), trivial, fun b hb => absurd (show b ∈ ([] : List Addr) from hb) (by simp), hok, .of_eq hg⟩
    refine codeAny_mono ((F _ hKb (nsK hns)).run callerA [] s₁ H ⟨[.ref a], []⟩ [.ref a] [.ref a] _ _ hr e0 (hbind s₁ (.ref a)) (.cons rfl .nil) (hsp H hO hS)) fun r s' h => ?_
    cases r with
    | error e => exact (hCX H e s' h).elim
    | ok fl =>
      cases fl with
      | next => exact False.elim h
      | brk => exact False.elim h
      | cont => exact False.elim h
      | ret u =>
        obtain ⟨v, H', os, bare, un, hok', r', q⟩ := h
        have q' : v = .bl true := q
        subst q'
        obtain rfl : u = Value.bool true := r'
        refine ⟨rfl, OldK.of_keep fun b o e => ?_, os, bare⟩
        cases q : H b with
        | none => exact un.keep b o e q (by intro z; exact absurd (show b ∈ ([] : List Addr) from z) (by simp)) (by simp)
        | some u =>
          rcases hO b with z | ⟨ob, xs, z⟩
          · rw [q] at z; cases z
          · have z2 := un.frzs b ob _ z
            obtain ⟨e1, _⟩ := hok b _ z
            obtain ⟨e2, _⟩ := hok' b _ z2
            rw [e] at e1; cases e1
            exact e2
  cases hk : K.lookup a with
  | some o =>
    have e := KX a o hk
    rw [ha] at e
    cases e
    refine core (fun _ => none) (fun _ => .inl rfl) (.inr ⟨_, vs.toArray, _, hk, rfl, rfl, rfl, by rw [List.size_toArray, lenV]; exact hl, by simpa using rv⟩) (fun b u z => by have z' : (none : Option HO) = some u := z; cases z') (fun b z => absurd rfl z) fun z => absurd rfl z
  | none =>
    refine core (fun b => if b = a then some (.frz { cls := .type "list", data := .seq vs.toArray } (.lst (ns.map V.int))) else none) (fun b => ?_) (.inl (.inr ⟨{ cls := .type "list", data := .seq vs.toArray }, if_pos rfl⟩)) (fun b u z => ?_) (fun b z => ?_) fun _ => hk
    · by_cases hb : b = a
      · exact .inr ⟨_, _, if_pos hb⟩
      · exact .inl (if_neg hb)
    · by_cases hb : b = a
      · have z' := (if_pos hb).symm.trans z
        cases z'
        subst hb
        exact ⟨ha, by rw [List.length_map]; exact hl, vs, _, rv, ha⟩
      · have z' := (if_neg hb).symm.trans z
        cases z'
    · by_cases hb : b = a
      · exact hb
      · exact absurd (if_neg hb) z
end L2
namespace L2
open PySem PySem.Spec PyProof.Rows
abbrev KOf {K : PySem.W.Frag} {h : Heap} (_ : K.In h) : PySem.W.Frag := K
theorem walk_of {l : PySem.W.OpenLaw} {n k : Nat} {q : Program} {loose : List Str} {XP : (Str → Option Value) → Heap → Prop} {YP : World → Heap → Prop} {d : DefRec} {K : Params → PySem.W.Frag} {CX : World → CXT} {sp : World → Sp} {x : Str}
    (hn : l.most = some n) (hn2 : n ≤ sizeLine) (hdf : d.params.defaults = []) (hr : Room k callerA)
    (hY : ∀ (w : World) (h : Heap), YP w h → (K w.params).In h)
    (F : ∀ (w : World) (mg : Str → Option Value) (fa : Addr) (h : Heap), (K w.params).In h → h.Ns mainGlobals mg → mg d.name = some (.ref fa) →
      ∃ fd : FuncData, (∀ (s : Shared) (u : Value), BindsTo s fd ⟨[u], []⟩ [(x, u)]) ∧
        ∀ base : Heap, (K w.params).In base → base.Ns mainGlobals mg → FnOk l.prog w (K w.params) mg base (CX w) k fa fd [x] (sp w))
    (hsp : ∀ (w : World) (H : Hp) (a : Addr) (ns : List Int), ns.length ≤ n → Only H → SqL (K w.params) H a (ns.map V.int) → sp w [.ref a] H (fun v _ => v = .bl true) fun _ _ _ => False)
    (hCX : ∀ (w : World) (H : Hp) (s : Shared) (e : Value) (s' : Shared), CX w [] H s (fun _ _ _ => False) e s' → False) :
    PySem.W.WalkO q loose XP YP l.row.toRowW d [] (fun f vs => PySem.call f vs) := by
  refine Att.attach_call hn hdf fun w s₀ s₁ mg mb fa o pm cd doc a vs ns G Y ho hd hcd hmg hobj hints hlen hg => ?_
  have KX := hY w _ Y
  obtain ⟨fd, hb, hF⟩ := F w mg fa _ KX G.T.g hmg
  exact law_call KX G.T.g G.T.b G.T.builtins G.T.nolimit hg hobj hints (Nat.le_trans hlen hn2) hr hF hb (fun H hO hS => hsp w H a ns hlen hO hS) fun H e s' => hCX w H s₁ e s'
end L2
/- THE LAST THEOREM (shape; LID, My.* are yours):
   My.Adr: a structure of the addresses that your layer names (classes, functions); My.Txt K t: a structure (Prop) of the equations over K;
   My.txt_mk : {K} {implicit addresses ..} (e1 : nsIn K mainGlobals "law" = some (some (.ref f))) (e2 : K.lookup f = some ⟨oc, od, .func (fnOf "law" "law" params body scope dV kV doc pm an cdv ct), sl⟩) (e3 : codeIn K cdv "law" = true) .. : ∃ t, My.Txt K t
set_option maxRecDepth 100000 in
set_option maxHeartbeats 0 in
theorem PySem.Challenge.cw_LID_holds : PySem.Challenge.rw_LID.Holds := by
  w_on; o_law; k_head; (case hw => w_witness2)
  k_fill
  refine L2.walk_of (l := PySem.Challenge.rw_LID) (n := 63) (k := 40) (x := "script") (CX := fun w => ..) (sp := fun _ => My.sp_law) rfl (by decide) rfl ⟨rfl, by decide, by decide⟩ (fun w h Y => PySem.W.kIn_of Y) ?F ?S ?C
  case F =>
    intro w mg fa h KX G hmg
    have T : ∃ t, My.Txt (L2.KOf KX) t := by
      dsimp only [L2.KOf]                          -- K must stand as «<heap const> w.params» for k_is
      refine' My.txt_mk ?e1 ?e2 ?e3 ..
      (case e1 => PySem.W.k_is)                    -- in the order: a name -> its address -> its object -> its parts
      (case e2 => PySem.W.k_is)
      ..
    obtain ⟨t, T⟩ := T
    have e0 := hmg.symm.trans (PySem.W.mg_of KX G T.law)
    cases e0                                       -- fa is the law's own address
    exact ⟨_, fun s u => .of_eq rfl, fun base kb nb => My.law_fn T kb nb⟩     -- if «.of_eq rfl» comes too early: refine' ⟨_, ?b, fun base kb nb => My.law_fn T kb nb⟩; exact fun s u => .of_eq rfl
  case S => exact fun w H a ns hl hO hS => ..
  case C => exact ..
(the tactic k_is has no namespace: write k_is) -/
namespace L2
open PySem PySem.Spec PyProof.Rows
def inClass (s : Stmt) (j : Nat) : Stmt := match s with
  | .ClassDef _ _ _ body _ _ _ _ _ _ _ => body.getD j (.Pass ⟨0, 0, 0, 0⟩)
  | _ => .Pass ⟨0, 0, 0, 0⟩
def defArgs (s : Stmt) : Arguments := match s with
  | .FunctionDef _ a _ _ _ _ _ _ _ _ => a
  | _ => { posonlyargs := [], args := [], vararg := none, kwonlyargs := [], kw_defaults := [], kwarg := none, defaults := [] }
def defBody (s : Stmt) : List Stmt := match s with
  | .FunctionDef _ _ b _ _ _ _ _ _ _ => b
  | _ => []
def defScope (s : Stmt) : Scope := match s with
  | .FunctionDef _ _ _ _ _ _ sc _ _ _ => sc
  | _ => { kind := .function, names := [], isGenerator := false, isCoroutine := false }
abbrev CX0 : CXT := fun _ _ _ _ _ _ => False
abbrev E0 : XK := fun _ _ _ => False
theorem pass0 {X : Cx} : Passes CX0 X E0 := fun _ _ _ _ _ _ _ h => h.elim
structure Fun (K : PySem.W.Frag) (x qual : Str) (st : Stmt) (f : Addr) (fd : FuncData) : Prop where
  ex : ∃ (oc : Value) (od : Option Addr) (kV doc pm : Value) (an : Option Addr) (cdv ct : Value) (osl : Array (Option Value)),
    fd = PySem.W.fnOf x qual (defArgs st) (defBody st) (defScope st) .none kV doc pm an cdv ct ∧ K.lookup f = some ⟨oc, od, .func fd, osl⟩ ∧ PySem.W.codeIn K cdv qual = true
  kp : PySem.W.keepIn K (.ref f) = true
section
variable {P : Program} {w : World} {K : PySem.W.Frag} {mg : Str → Option Value} {base : Heap}
theorem Fun.ok {x qual : Str} {st : Stmt} {f : Addr} {fd : FuncData} {N ps : List Str} {k : Nat} {sp : Sp} (F : Fun K x qual st f fd) (S : FnScope N ps (defScope st)) (len : ∀ vs H Q E, sp vs H Q E → vs.length = ps.length)
    (hbody : ∀ (cdv : Value) (A : Around) (outer : List Env) (s : Shared) (H : Hp) (vs : List V) (Q : VK) (E : XK), Room k (A.deeper (envOfC qual (defScope st) s.heap.objs.size f cdv)) → sp vs H Q E →
      ∃ t, PSs (cxOf CX0 P w K mg base N qual (defScope st) f cdv A outer s H E).nox (defBody st) t ∧ t { nx := fun _ H' => Q .non H', rt := Q } (start N vs) H) : FnOk P w K mg base CX0 (k + 1) f fd ps sp := by
  obtain ⟨oc, od, kV, doc, pm, an, cdv, ct, osl, rfl, lk, hcd⟩ := F.ex
  refine fn_of lk hcd S len fun A outer s H vs Q E hr hsp => ?_
  obtain ⟨t, h, q⟩ := hbody cdv A outer s H vs Q E hr hsp
  exact ⟨t, h.nox, q⟩
theorem Fun.binds {x qual : Str} {st : Stmt} {f : Addr} {fd : FuncData} {ps : List Str} (F : Fun K x qual st f fd)
    (h : ∀ (kV doc pm : Value) (an : Option Addr) (cdv ct : Value) (us : List Value), us.length = ps.length → bindArgs (PySem.W.fnOf x qual (defArgs st) (defBody st) (defScope st) .none kV doc pm an cdv ct) ⟨us, []⟩ = pure (ps.zip us)) : Binds K fd ps [] := by
  obtain ⟨oc, od, kV, doc, pm, an, cdv, ct, osl, rfl, lk, hcd⟩ := F.ex
  exact .all (h kV doc pm an cdv ct)
theorem fun_mk {x qual : Str} {st : Stmt} {f : Addr} {oc : Value} {od an : Option Addr} {osl : Array (Option Value)} {kV doc pm cdv ct : Value} (l : K.lookup f = some ⟨oc, od, .func (PySem.W.fnOf x qual (defArgs st) (defBody st) (defScope st) .none kV doc pm an cdv ct), osl⟩)
    (c : PySem.W.codeIn K cdv qual = true) (k : PySem.W.keepIn K (.ref f) = true) : Fun K x qual st f (PySem.W.fnOf x qual (defArgs st) (defBody st) (defScope st) .none kV doc pm an cdv ct) := ⟨⟨oc, od, kV, doc, pm, an, cdv, ct, osl, rfl, l, c⟩, k⟩
end
theorem small1000 {n : Nat} (h : n ≤ 1000) : n < sizeLine := Nat.lt_of_le_of_lt h (by decide)
section
variable {X : Cx}
theorem pv (i : Nat) {x : Str} {pos : Pos} (hN : X.N[i]? = some x := by rfl) (hv : Vis X.env.scope x := by first | exact Or.inl rfl | exact Or.inr (Or.inl rfl) | exact Or.inr (Or.inr rfl)) (hd : (x == ("__debug__" : Str)) = false := by decide)
    (hcd : (x == ("__classdict__" : Str)) = false := by decide) : PE X (.Name x pos) (tVar i) := pe_var hN hv hd hcd
end
theorem iteF {A B : Prop} (h : B) : if false = true then A else B := by
  rw [if_neg Bool.false_ne_true]
  exact h
theorem iteT {A B : Prop} (h : A) : if true = true then A else B := by
  rw [if_pos rfl]
  exact h
theorem iteNS {c A B : Prop} [Decidable c] (hc : c) (h : B) : if (!decide c) = true then A else B := by
  rw [decide_eq_true hc]
  exact iteF h
def Same (H H' : Hp) : Prop := ∀ b o, H b = some o → H' b = some o
theorem Same.refl (H : Hp) : Same H H := fun _ _ h => h
theorem Same.trans {H H1 H2 : Hp} (a : Same H H1) (b : Same H1 H2) : Same H H2 := fun c o h => b c o (a c o h)
theorem Same.free {H H' : Hp} (e : Same H H') {l : Addr} (h : H' l = Option.none) : H l = Option.none := by
  cases q : H l with
  | none => rfl
  | some o =>
    rw [e l o q] at h
    cases h
theorem Same.seq {K : PySem.W.Frag} {H H' : Hp} {a : Addr} {xs : List V} (e : Same H H') (h : SqL K H a xs) : SqL K H' a xs := by
  rcases h with (h | ⟨o, h⟩) | h
  · exact .inl (.inl (e _ _ h))
  · exact .inl (.inr ⟨o, e _ _ h⟩)
  · exact .inr h
end L2
set_option Elab.async false
set_option maxRecDepth 100000
set_option maxHeartbeats 4000000
namespace L2
open PySem PySem.Spec PyProof.Rows
def Its (x : Str) : It := ⟨fun i _ => i < x.length, fun i H v H' => H' = H ∧ ∃ c, x.cps[i]? = some c ∧ v = .str ⟨#[c]⟩, fun i _ => x.length ≤ i⟩
theorem turn_strA {P : Program} {w : World} {K : PySem.W.Frag} {tg : Expr} (x : Str) (t : Tok) (it : Addr) : Turn P w K tg (Its x) [it] it (fun i h => h.IsStrIter it "str_ascii_iterator" x t i) where
  mem := by simp
  obj := fun i h st b hb => by
    have e : b = it := by simpa using hb
    subst e
    obtain ⟨o, e, c, d⟩ := st
    exact ⟨o, e, fun v z => by rw [d] at z; cases z⟩
  keep := fun i h h' st k => by
    obtain ⟨o, e, r⟩ := st
    exact ⟨o, k it (by simp) o e, r⟩
  item := by
    intro X hP hw hK hc i pins s σ H E I hf st hg
    subst hP hw hK
    have hg : i < x.cps.size := hg
    obtain ⟨f0, f1, f2, f3, f4, f5⟩ := hf it (by simp)
    refine wpAny_pyNext_ascii_item st (c := x.cps[i]) (by simp [hg]) fun h' st' sb => ?_
    have I1 : Inv X pins σ H { s with heap := h', toks := s.toks + 1 } := I.turned (t' := s.toks + 1) (fun b o hb e => (sb.2 b hb).trans e) f0 f1 f3 f4 f5
    obtain ⟨o, e, c, d⟩ := id st'
    exact ⟨_, rfl, go_of (s := { s with heap := h', toks := s.toks + 1 }) e c d (by decide) ⟨.str ⟨#[x.cps[i]]⟩, H, I1, ⟨_, rfl⟩, ⟨rfl, _, by simp [hg], rfl⟩, st', fun b hb => (hf b hb).1⟩⟩
  done := by
    intro X hP hw hK hc i pins s σ H E I hf st hg
    subst hP hw hK
    have hg : x.cps.size ≤ i := hg
    obtain ⟨f0, f1, f2, f3, f4, f5⟩ := hf it (by simp)
    exact wpAny_pyNext_ascii_end (I.ok.hd hc) st (by simp [hg]) fun h' eb => ⟨rfl, I.turned (t' := s.toks) (fun b o hb e => eb b o hb e) f0 f1 f3 f4 f5⟩
  self := fun _ _ _ _ _ st h => wpAny_pyIter_striter_ascii st h
theorem turn_strW {P : Program} {w : World} {K : PySem.W.Frag} {tg : Expr} (x : Str) (t : Tok) (it : Addr) : Turn P w K tg (Its x) [it] it (fun i h => h.IsStrIter it "str_iterator" x t i) where
  mem := by simp
  obj := fun i h st b hb => by
    have e : b = it := by simpa using hb
    subst e
    obtain ⟨o, e, c, d⟩ := st
    exact ⟨o, e, fun v z => by rw [d] at z; cases z⟩
  keep := fun i h h' st k => by
    obtain ⟨o, e, r⟩ := st
    exact ⟨o, k it (by simp) o e, r⟩
  item := by
    intro X hP hw hK hc i pins s σ H E I hf st hg
    subst hP hw hK
    have hg : i < x.cps.size := hg
    obtain ⟨f0, f1, f2, f3, f4, f5⟩ := hf it (by simp)
    refine wpAny_pyNext_wide_item st (c := x.cps[i]) (by simp [hg]) fun h' st' sb => ?_
    have I1 : Inv X pins σ H { s with heap := h', toks := s.toks + 1 } := I.turned (t' := s.toks + 1) (fun b o hb e => (sb.2 b hb).trans e) f0 f1 f3 f4 f5
    obtain ⟨o, e, c, d⟩ := id st'
    exact ⟨_, rfl, go_of (s := { s with heap := h', toks := s.toks + 1 }) e c d (by decide) ⟨.str ⟨#[x.cps[i]]⟩, H, I1, ⟨_, rfl⟩, ⟨rfl, _, by simp [hg], rfl⟩, st', fun b hb => (hf b hb).1⟩⟩
  done := by
    intro X hP hw hK hc i pins s σ H E I hf st hg
    subst hP hw hK
    have hg : x.cps.size ≤ i := hg
    obtain ⟨f0, f1, f2, f3, f4, f5⟩ := hf it (by simp)
    exact wpAny_pyNext_wide_end (I.ok.hd hc) st (by simp [hg]) fun h' eb => ⟨rfl, I.turned (t' := s.toks) (fun b o hb e => eb b o hb e) f0 f1 f3 f4 f5⟩
  self := fun _ _ _ _ _ st h => wpAny_pyIter_striter_wide st h
def iStr (tl : TE) : TI := fun σ H R => tl σ H fun v H1 => ∃ x, v = .str x ∧ R (Its x) H1
theorem pi_str {X : Cx} {tg l : Expr} {tl : TE} (hl : PE X l tl) : PI X tg l (iStr tl) := by
  intro pins s σ H R I h
  refine thn (hl pins s σ H _ I h) fun v s1 ⟨y, H1, I1, r1, q1⟩ => ?_
  obtain ⟨x, rfl, q⟩ := q1
  obtain ⟨t, rfl⟩ := r1
  cases ha : x.cps.all (· < 128)
  · refine wpAny_pyIter_wide ha ?_
    refine ⟨s1.heap.objs.size, [s1.heap.objs.size], _, _, H1, rfl, I1.kept (t' := s1.toks) fun b o e => Heap.get?_push_of_some _ e, turn_strW x t _, ⟨_, Heap.get?_push_size _ rfl, rfl, rfl⟩, fun b hb => ?_, q⟩
    have e : b = s1.heap.objs.size := by simpa using hb
    subst e
    exact I1.fpOk (Nat.le_refl _) (I1.hok.fresh (Nat.le_refl _))
  · refine wpAny_pyIter_ascii ha ?_
    refine ⟨s1.heap.objs.size, [s1.heap.objs.size], _, _, H1, rfl, I1.kept (t' := s1.toks) fun b o e => Heap.get?_push_of_some _ e, turn_strA x t _, ⟨_, Heap.get?_push_size _ rfl, rfl, rfl⟩, fun b hb => ?_, q⟩
    have e : b = s1.heap.objs.size := by simpa using hb
    subst e
    exact I1.fpOk (Nat.le_refl _) (I1.hok.fresh (Nat.le_refl _))
theorem for_str {x : Str} {g : TG} {tb : TS} {D : Ends} {σ : St} {H : Hp} (Pv : Nat → St → Hp → Prop) (h0 : Pv 0 σ H)
    (hs : ∀ i c σ H, x.cps[i]? = some c → Pv i σ H → g (.str ⟨#[c]⟩) σ H fun σ2 H2 => tb { D with nx := Pv (i + 1), ct := Pv (i + 1), bk := D.nx } σ2 H2) (hd : ∀ σ H, Pv x.length σ H → D.nx σ H) :
    ∃ W : Nat → Nat → St → Hp → Prop, (∃ m, W 0 m σ H) ∧ ∀ i m σ H, W i m σ H →
      ((Its x).stop i H ∧ D.nx σ H) ∨ ((Its x).go i H ∧ ∃ N : St → Hp → Prop, (∀ σ' H', N σ' H' → ∃ m', m' < m ∧ W (i + 1) m' σ' H') ∧ ∀ y H', (Its x).yld i H y H' → g y σ H' fun σ2 H2 => tb { D with nx := N, ct := N, bk := D.nx } σ2 H2) := by
  refine ⟨fun i m σ H => m = x.length - i ∧ i ≤ x.length ∧ Pv i σ H, ⟨x.length, by simp, Nat.zero_le _, h0⟩, ?_⟩
  rintro i m σ H ⟨rfl, hi, p⟩
  by_cases hlt : i < x.length
  · refine .inr ⟨hlt, Pv (i + 1), fun σ' H' p' => ⟨x.length - (i + 1), by omega, rfl, hlt, p'⟩, fun y H' q => ?_⟩
    obtain ⟨e, c, hc, e2⟩ := q
    subst e e2
    exact hs i c σ _ hc p
  · have e : i = x.length := by omega
    subst e
    exact .inl ⟨Nat.le_refl _, hd σ H p⟩
section
variable {X : Cx}
def rSlS : V → Option Int → Option Int → Hp → VK → Prop := fun x lo hi H Q => ∃ z, x = .str z ∧ z.length ≤ sizeLine ∧ Q (.str (Txt.slice z lo hi)) H
theorem sl_str : SlR X rSlS := by
  intro pins s σ H x v vl vu lo hi sl Q I rx hs pl pu h
  obtain ⟨z, rfl, hz, q⟩ := h
  obtain ⟨t, rfl⟩ := rx
  refine ⟨"str", _, PySem.F.slot_str_getitem.lookup, typeIs_str _ _ _, ?_⟩
  have fin : ∀ t' k, EP X pins σ Q (.str (Txt.slice z lo hi) t') { s with toks := k } := fun t' k => ⟨.str _, H, I.tok k, ⟨t', rfl⟩, q⟩
  obtain ⟨o, ho, hc, hd⟩ := hs
  cases pl with
  | none =>
    cases pu with
    | none => exact wpAny_getItem_str_slice (l := none) (u := none) (st := none) ⟨o, ho, hc, hd⟩ rfl (post_val_or_str ⟨Nat.le_trans (Txt.slice_le z _ _) hz, fun t' k => fin t' k⟩)
    | int j uj => exact wpAny_getItem_str_slice (l := none) (u := some (j, uj)) (st := none) ⟨o, ho, hc, hd⟩ rfl (post_val_or_str ⟨Nat.le_trans (Txt.slice_le z _ _) hz, fun t' k => fin t' k⟩)
  | int i ui =>
    cases pu with
    | none => exact wpAny_getItem_str_slice (l := some (i, ui)) (u := none) (st := none) ⟨o, ho, hc, hd⟩ rfl (post_val_or_str ⟨Nat.le_trans (Txt.slice_le z _ _) hz, fun t' k => fin t' k⟩)
    | int j uj => exact wpAny_getItem_str_slice (l := some (i, ui)) (u := some (j, uj)) (st := none) ⟨o, ho, hc, hd⟩ rfl (post_val_or_str ⟨Nat.le_trans (Txt.slice_le z _ _) hz, fun t' k => fin t' k⟩)
def rMt1 (g : Str → Str → V) : V → List V → Hp → VK → Prop := fun x xs H Q => ∃ z y, x = .str z ∧ xs = [.str y] ∧ Q (g z y) H
theorem mt_count : MtR X "str.count" (fun x xs H Q => ∃ z y, x = .str z ∧ xs = [.str y] ∧ Q (.int (Txt.count z y)) H) := by
  intro pins s σ H x xs v us Q I rx rs h
  obtain ⟨z, y, rfl, rfl, q⟩ := h
  obtain ⟨t, rfl⟩ := rx
  obtain ⟨u, rfl, t', rfl⟩ := vals1 rs
  exact SC.count ⟨.int _, H, I.tok _, ⟨_, rfl⟩, q⟩
def rIndex : V → List V → Hp → VK → Prop := fun x xs H Q => ∃ z y, x = .str z ∧ xs = [.str y] ∧ Txt.contains z y = true ∧ Q (.int (Txt.find z y)) H
def rRstrip : V → List V → Hp → VK → Prop := fun x xs H Q => ∃ z y, x = .str z ∧ xs = [.str y] ∧ z.length ≤ sizeLine ∧ Q (.str (Txt.rstripChars z y)) H
def rJoin (K : PySem.W.Frag) : V → List V → Hp → VK → Prop := fun x xs H Q => ∃ z p ys, x = .str z ∧ xs = [.ref p] ∧ SqL K H p (ys.map V.str) ∧ (ys.map (·.length)).sum + ys.length * z.length ≤ 16777216 ∧ Q (.str (Txt.join z ys)) H
theorem op_le_str : OpR X (compareOp .LtE) (fun x y H Q => ∃ i j, x = .str i ∧ y = .str j ∧ Q (.bl (!decide (j.cps.toList < i.cps.toList))) H) := by
  intro pins s σ H x y v u Q I rx ry h
  obtain ⟨i, j, rfl, rfl, q⟩ := h
  obtain ⟨t, rfl⟩ := rx
  obtain ⟨t', rfl⟩ := ry
  exact PySem.P.le_str ⟨.bl _, H, I, rfl, q⟩
theorem call_isinst {T : String} {b : Bool} : CallR X (.builtin "isinstance") (fun xs H Q => ∃ x t, xs = [x, .ty T] ∧ TyOf X.K H x t ∧ PySem.W.kitOne X.K t (.type T) = some b ∧ Q (.bl b) H) := by
  intro pins s σ H xs us Q I r h
  obtain ⟨x, t, rfl, ty, e, q⟩ := h
  obtain ⟨u, w', rfl, rx, ry⟩ := vals2 r
  cases ry
  exact isinst_ok I rx ty e fun tk => ⟨.bl b, H, I.tok tk, rfl, q⟩
end
end L2
namespace L2
open PySem PySem.Spec PyProof.Rows
def cxComp (X : Cx) (x : Str) (sc : Scope) (cl : List (Str × Addr)) (C : Addr) (fp : List Addr) (s : Shared) (H : Hp) : Cx where
  prog := X.prog
  w := X.w
  K := X.K
  mg := X.mg
  base := X.base
  A := X.A
  N := x :: X.N
  s₀ := s
  H₀ := H
  env := compEnvC sc cl C X.env
  outer := X.stack
  stack := X.stack
  ex := fp
  fn := fun _ => false
  calm := X.calm
  pn := []
  xe := fun _ _ => False
def PTs (X : Cx) (ifs : List Expr) (t : TT) : Prop :=
  ∀ (pins : List (Addr × Obj)) (s : Shared) (σ : St) (H : Hp) (Q : Bool → Hp → Prop), Inv X pins σ H s → t σ H Q →
    wpAny (model X.prog X.w) X.A (forIn ifs true fun c r => if r = true then do let ok ← isTrue c X.env (eval c X.env); pure (ForInStep.yield ok) else pure (ForInStep.yield r)) (TP X pins σ Q) X.xe s
def tAlways : TT := fun _ H Q => Q true H
def tComp (wi : TI) (tt : TT) (te : TE) : TE := fun σ H Q => wi σ H fun J H1 => ∀ D, H1 D = none → ∃ W : Nat → Nat → List V → Hp → Prop,
  (∃ m, W 0 m [] (upd H1 D (.lst []))) ∧ ∀ i m ys H2, W i m ys H2 → H2 D = some (.lst ys) ∧ ((J.stop i H2 ∧ Q (.ref D) H2) ∨ (J.go i H2 ∧ ys.length < sizeLine ∧ ∀ x H3, J.yld i H2 x H3 →
    tt (some x :: σ) H3 fun b H4 => if b = true then te (some x :: σ) H4 fun y H5 => H5 D = some (.lst ys) ∧ ∃ m', m' < m ∧ W (i + 1) m' (ys ++ [y]) (upd H5 D (.lst (ys ++ [y])))
      else ∃ m', m' < m ∧ W (i + 1) m' ys H4))
theorem neA {a b : Nat} (h : a ≠ b) : (show Addr from a) ≠ (show Addr from b) := h
section
variable {X : Cx} {elt iter : Expr} {x : Str} {px pos : Pos} {ifs : List Expr} {sc : Scope} {wi : TI} {tt : TT} {te : TE}
end
end L2
namespace L2
open PySem PySem.Spec PyProof.Rows
def Df (P : Program) (w : World) (K : PySem.W.Frag) (mg : Str → Option Value) (base : Heap) (x : Str) (k : Nat) (ps : List Str) (sp : Sp) : Prop :=
  ∃ (f : Addr) (fd : FuncData), mg x = some (.ref f) ∧ PySem.W.keepIn K (.ref f) = true ∧ Binds K fd ps [] ∧ FnOk P w K mg base CX0 k f fd ps sp
theorem pe_df {X : Cx} {x : Str} {k : Nat} {ps : List Str} {sp : Sp} {e : Expr} {es : List Expr} {p pos : Pos} {t : TA} (D : Df X.prog X.w X.K X.mg X.base x k ps sp) (hr : Room k X.A) (ha : PA X (e :: es) t)
    (hg : Gl X x := by rfl) (hdb : (x == ("__debug__" : Str)) = false := by decide) (he : starEach (e :: es) X.env = (false, eval e X.env) :: starEach es X.env := by rfl) (hpl : (backTo pos (starEach es X.env)).any (·.1) = false := by rfl) :
    PE X (.Call (.Name x p) (e :: es) [] pos) (tCall sp [] E0 t) := by
  obtain ⟨f, fd, h1, h2, h3, F⟩ := D
  exact pe_call F hr hg h1 h2 h3 .nil pass0 ha hdb he hpl
theorem iteD {c A B : Prop} [Decidable c] (hc : c) (h : A) : if decide c = true then A else B := by
  rw [decide_eq_true hc]
  exact iteT h
theorem iteN {c A B : Prop} [Decidable c] (hc : ¬ c) (h : B) : if decide c = true then A else B := by
  rw [decide_eq_false hc]
  exact iteF h
theorem iteB {c : Bool} {A B : Prop} (h1 : c = true → A) (h2 : c = false → B) : if c = true then A else B := by
  cases c
  · exact iteF (h2 rfl)
  · exact iteT (h1 rfl)
theorem ite3 {c A B : Prop} [Decidable c] (h1 : c → A) (h2 : ¬ c → B) : if decide c = true then A else B := by
  by_cases h : c
  · exact iteD h (h1 h)
  · exact iteN h (h2 h)
theorem Same.upd {H : Hp} {D : Addr} {o : HO} (n : H D = none) : Same H (upd H D o) := fun b u e => by rw [upd_ne (ne_of_none e n)]; exact e
theorem line_ge {n : Nat} (h : n ≤ 16777216) : n ≤ sizeLine := by rw [sizeLine_eq]; exact h
theorem atI_in {α : Type} {xs : List α} {i : Int} (h0 : 0 ≤ i) (h1 : i < xs.length) : ∃ v, atI xs i = some v ∧ xs[i.toNat]? = some v := by
  obtain ⟨j, rfl⟩ := Int.eq_ofNat_of_zero_le h0
  have hj : j < xs.length := by omega
  exact ⟨xs[j], atI_nat (by simp [hj]), by simp [hj]⟩
end L2
namespace L2
open PySem PySem.Spec PyProof.Rows
def tCut (t u : TS) : TS := fun D σ H => ∃ M : St → Hp → Prop, t { D with nx := M } σ H ∧ ∀ σ' H', M σ' H' → u D σ' H'
theorem pss_cut {X : Cx} {st : Stmt} {rest : List Stmt} {t u : TS} (h1 : PS X st t) (h2 : PSs X rest u) : PSs X (st :: rest) (tCut t u) := by
  intro pins s σ H D I h
  obtain ⟨M, h, hM⟩ := h
  refine wpAny_execs_cons (thn (h1 pins s σ H { D with nx := M } I h) fun f s1 q => ?_)
  cases f with
  | next =>
    obtain ⟨σ', H', I', q⟩ := q
    exact h2 pins s1 σ' H' D I' (hM σ' H' q)
  | ret v => exact q
  | brk => exact q
  | cont => exact q
def cutI (ns : List Int) (lo hi : Option Int) : List Int := (ns.drop (HT.sIx ns.length 0 lo)).take (HT.sIx ns.length ns.length hi - HT.sIx ns.length 0 lo)
def spLaw (K : PySem.W.Frag) : Sp := fun vs H Q _ => ∃ (a : Addr) (ns : List Int), vs = [.ref a] ∧ SqL K H a (ns.map V.int) ∧ ns.length ≤ 63 ∧ ∀ H', Q (.bl true) H'
theorem walk63 {l : PySem.W.OpenLaw} {k : Nat} {x : Str} {q : Program} {loose : List Str} {XP : (Str → Option Value) → Heap → Prop} {YP : World → Heap → Prop} {d : DefRec} {K : Params → PySem.W.Frag} (hn : l.most = some 63) (hdf : d.params.defaults = []) (hr : Room k callerA)
    (hY : ∀ (w : World) (h : Heap), YP w h → (K w.params).In h)
    (F : ∀ (w : World) (mg : Str → Option Value) (fa : Addr) (h : Heap), (K w.params).In h → h.Ns mainGlobals mg → mg d.name = some (.ref fa) →
      ∃ fd : FuncData, (∀ (s : Shared) (u : Value), BindsTo s fd ⟨[u], []⟩ [(x, u)]) ∧ ∀ base : Heap, (K w.params).In base → base.Ns mainGlobals mg → FnOk l.prog w (K w.params) mg base CX0 k fa fd [x] (spLaw (K w.params))) :
    PySem.W.WalkO q loose XP YP l.row.toRowW d [] (fun f vs => PySem.call f vs) :=
  L2.walk_of (n := 63) (k := k) (x := x) (CX := fun _ => CX0) (sp := fun w => spLaw (K w.params)) hn (by decide) hdf hr hY F (fun _ _ a ns hl _ hS => ⟨a, ns, rfl, hS, hl, fun _ => rfl⟩) fun _ _ _ _ _ z => z
end L2
namespace L2
open PySem PySem.Spec PyProof.Rows
section
variable {X : Cx}
theorem op_m : OpR X (binaryOp .Mod) (fun x y H Q => ∃ i j, x = .int i ∧ y = .int j ∧ 0 < j ∧ Q (.int (i % j)) H) := op_mod
theorem op_f : OpR X (binaryOp .FloorDiv) (fun x y H Q => ∃ i j, x = .int i ∧ y = .int j ∧ (0 < j ∧ j < 1073741824) ∧ Q (.int (i / j)) H) := op_fdiv
theorem op_a : OpR X (binaryOp .Add) (fun x y H Q => ∃ i j, x = .int i ∧ y = .int j ∧ Q (.int (i + j)) H) := op_add
theorem op_s : OpR X (binaryOp .Sub) (fun x y H Q => ∃ i j, x = .int i ∧ y = .int j ∧ Q (.int (i - j)) H) := op_sub
end
end L2
namespace RA
open PySem PySem.StrLaws Builtin Builtin.Str
def tx (l : List Nat) : Str := ⟨l.toArray⟩
theorem tx_cps (l : List Nat) : (tx l).cps.toList = l := by simp [tx]
theorem tx_len (l : List Nat) : (tx l).length = l.length := by simp [tx, Str.length]
theorem tx_app (a b : List Nat) : tx a ++ tx b = tx (a ++ b) := by
  apply Str.ext'
  show a.toArray ++ b.toArray = (a ++ b).toArray
  simp
theorem tx_inj {a b : List Nat} (h : tx a = tx b) : a = b := by
  have := congrArg (fun s : Str => s.cps.toList) h
  simpa [tx] using this
theorem tx_get (l : List Nat) (i : Nat) : (tx l).cps[i]? = l[i]? := by simp [tx]
theorem at_one (l : List Nat) (c i : Nat) : At (tx l) ⟨#[c]⟩ (tx l).length i ↔ l[i]? = some c := by
  have h := subAt_one (tx l) c i
  rw [tx_cps] at h
  exact h
theorem contains_one (l : List Nat) (c : Nat) : Txt.contains (tx l) ⟨#[c]⟩ = decide (c ∈ l) := by
  have h := found_one (tx l) c
  rw [tx_cps] at h
  exact h
theorem idxOf_le : ∀ {l : List Nat} {c i : Nat}, l[i]? = some c → l.idxOf c ≤ i
  | [], _, _, h => by simp at h
  | a :: l, c, 0, h => by
    have e : a = c := by simpa using h
    subst e
    simp
  | a :: l, c, i + 1, h => by
    rw [List.idxOf_cons]
    cases e : a == c with
    | true => simp
    | false =>
      have := idxOf_le (l := l) (c := c) (i := i) (by simpa using h)
      simp
      omega
theorem slice_to (x : Str) {j : Int} (h : 0 ≤ j) : Txt.slice x none (some j) = tx (x.cps.toList.take j.toNat) := by
  have go : ∀ j : Int, 0 ≤ j → j ≤ x.cps.toList.length → Txt.slice x none (some j) = tx (x.cps.toList.take j.toNat) := fun j h0 h1 => by
    have e : Txt.slice x none (some j) = sliceText x none (some j) := rfl
    rw [e, sliceText_to ⟨h0, h1⟩]
    simp [tx]
  by_cases hj : j ≤ x.cps.toList.length
  · exact go j h hj
  · have e : Txt.slice x none (some j) = Txt.slice x none (some (x.length : Int)) := by
      have hl : x.length = x.cps.toList.length := by simp [Str.length]
      have e1 : strSliceIndices none (some j) 1 x.length = strSliceIndices none (some (x.length : Int)) 1 x.length := by
        have a : ¬ (j < 0) := by omega
        have b : ¬ ((x.length : Int) < 0) := by omega
        have m : min j (x.length : Int) = (x.length : Int) := by omega
        simp [strSliceIndices, a, b, m]
      unfold Txt.slice
      rw [e1]
    rw [e, go _ (by omega) (by simp [Str.length])]
    have hl : x.length = x.cps.toList.length := by simp [Str.length]
    rw [List.take_of_length_le (i := j.toNat) (by omega), List.take_of_length_le (by omega)]
theorem slice_from (x : Str) {i : Int} (h : 0 ≤ i) (h1 : i ≤ x.cps.toList.length) : Txt.slice x (some i) none = tx (x.cps.toList.drop i.toNat) := by
  have e : Txt.slice x (some i) none = sliceText x (some i) none := rfl
  rw [e, sliceText_from ⟨h, h1⟩]
  have e2 : ((x.cps.toList.length : Int) - i).toNat = (x.cps.toList.drop i.toNat).length := by rw [List.length_drop]; omega
  rw [e2, List.take_length]
  rfl
theorem le_one (a b : Nat) : (!decide ((⟨#[b]⟩ : Str).cps.toList < (⟨#[a]⟩ : Str).cps.toList)) = decide (a ≤ b) := by
  show (!decide ([b] < [a])) = decide (a ≤ b)
  rw [lt_cons_cons, lt_nil_nil, Bool.and_false, Bool.or_false]
  by_cases h : a ≤ b
  · rw [decide_eq_false (by omega), decide_eq_true h]; rfl
  · rw [decide_eq_true (by omega), decide_eq_false h]; rfl
theorem count_chain (l : List Nat) (c : Nat) : ∀ (cuts : List Nat) (a f : Nat), ChainG (tx l) ⟨#[c]⟩ (tx l).length a cuts f → (∀ k, f ≤ k → ¬ At (tx l) ⟨#[c]⟩ (tx l).length k) → (l.drop a).count c = cuts.length := by
  intro cuts
  induction cuts with
  | nil =>
    intro a f h hn
    have e : f = a := h
    subst e
    rw [List.length_nil, List.count_eq_zero]
    intro hm
    obtain ⟨i, hi⟩ := List.mem_iff_getElem?.mp hm
    rw [List.getElem?_drop] at hi
    exact hn _ (Nat.le_add_right _ _) ((at_one l c _).mpr hi)
  | cons d r ih =>
    intro a f h hn
    obtain ⟨h1, h2, h3, h4⟩ := h
    have hd := (at_one l c d).mp h2
    have q := ih (d + 1) f h4 hn
    obtain ⟨hlt, ed⟩ := List.getElem?_eq_some_iff.mp hd
    have split : l.drop a = (l.drop a).take (d - a) ++ c :: l.drop (d + 1) := by
      conv => lhs; rw [← List.take_append_drop (d - a) (l.drop a)]
      rw [List.drop_drop, show a + (d - a) = d by omega, List.drop_eq_getElem_cons hlt, ed]
    rw [split, List.count_append, List.count_cons_self, q, List.length_cons]
    have z : ((l.drop a).take (d - a)).count c = 0 := by
      rw [List.count_eq_zero]
      intro hm
      obtain ⟨i, hi⟩ := List.mem_iff_getElem?.mp hm
      rw [List.getElem?_take] at hi
      split at hi
      · rename_i hid
        rw [List.getElem?_drop] at hi
        exact h3 (a + i) (Nat.le_add_right _ _) (by omega) ((at_one l c _).mpr hi)
      · cases hi
    omega
theorem count_one (l : List Nat) (c : Nat) : Txt.count (tx l) ⟨#[c]⟩ = (l.count c : Nat) := by
  unfold Txt.count
  obtain ⟨f, h1, h2⟩ := occ_tight (tx l) ⟨#[c]⟩ (by simp [Str.length])
  have q := count_chain l c _ 0 f h1 h2
  rw [List.drop_zero] at q
  rw [q]
end RA
namespace RA
open PySem PySem.StrLaws Builtin Builtin.Str
structure Let (L : List Nat) : Prop where
  lo : 1 ≤ L.length
  hi : L.length ≤ 3
  nd : L.Nodup
  az : ∀ c ∈ L, 97 ≤ c ∧ c ≤ 122
def val (L : List Nat) : Int → List Nat → Int
  | v, [] => v
  | v, c :: w => val L (v * (L.length : Int) + (L.idxOf c : Nat) + 1) w
theorem val_app (L : List Nat) : ∀ (a b : List Nat) (v : Int), val L v (a ++ b) = val L (val L v a) b
  | [], _, _ => rfl
  | _ :: a, b, _ => val_app L a b _
theorem val_snoc (L w : List Nat) (c : Nat) (v : Int) : val L v (w ++ [c]) = val L v w * (L.length : Int) + (L.idxOf c : Nat) + 1 := by
  rw [val_app]
  rfl
theorem Let.three {L : List Nat} (h : Let L) : (L.length : Int) = 1 ∨ (L.length : Int) = 2 ∨ (L.length : Int) = 3 := by
  have := h.lo
  have := h.hi
  omega
theorem idx_get {L : List Nat} (nd : L.Nodup) {i : Nat} (h : i < L.length) : L.idxOf L[i] = i := by
  have h1 := idxOf_le (l := L) (c := L[i]) (i := i) (by simp [h])
  have hlt : L.idxOf L[i] < L.length := by omega
  have e := List.getElem_idxOf hlt
  by_cases hh : L.idxOf L[i] < i
  · exact absurd e (List.pairwise_iff_getElem.mp nd _ _ hlt h hh)
  · omega
theorem draw_one {f l : List Nat} {i : Nat} (hi : i < l.length) (nd : (f ++ l).Nodup) : ((f ++ [l[i]]) ++ (l.take i ++ l.drop (i + 1))).Nodup ∧ ∀ c, c ∈ (f ++ [l[i]]) ++ (l.take i ++ l.drop (i + 1)) → c ∈ f ++ l := by
  have e : l = l.take i ++ l[i] :: l.drop (i + 1) := by
    conv => lhs; rw [← List.take_append_drop i l, List.drop_eq_getElem_cons hi]
  have p : (f ++ l).Perm ((f ++ [l[i]]) ++ (l.take i ++ l.drop (i + 1))) := by
    conv => lhs; rw [e]
    rw [List.append_assoc]
    refine List.Perm.append_left f ?_
    show (l.take i ++ l[i] :: l.drop (i + 1)).Perm (l[i] :: (l.take i ++ l.drop (i + 1)))
    exact List.perm_middle
  exact ⟨p.nodup_iff.mp nd, fun c hc => p.mem_iff.mpr hc⟩
end RA
namespace RA
open PySem L2
theorem abc_eq : (Str.ofString "abcdefghijklmnopqrstuvwxyz") = tx (List.range' 97 26) := by decide +kernel
theorem empty_eq : (Str.ofString "") = tx [] := by decide +kernel
def signAt (L : List Nat) (z : Int) : Nat := L.getD (z % (L.length : Int)).toNat 0
def signV (L : List Nat) : V → V
  | .int z => .str ⟨#[signAt L z]⟩
  | v => v
end RA
namespace RA
open PySem L2 Builtin Builtin.Str
theorem a_eq : (Str.ofString "a") = ⟨#[97]⟩ := by decide +kernel
theorem z_eq : (Str.ofString "z") = ⟨#[122]⟩ := by decide +kernel
end RA
namespace L2
open PySem PySem.Spec PyProof.Rows
section
variable {X : Cx}
end
theorem upd_keep {H : Hp} {a b : Addr} {o u : HO} (h : H a = some o) (n : H b = none) : upd H b u a = some o := by
  rw [upd_ne (ne_of_none h n)]
  exact h
theorem kit_ib (K : PySem.W.Frag) : PySem.W.kitOne K (.type "int") (.type "bool") = some false := by kernel_rfl
theorem kit_ii (K : PySem.W.Frag) : PySem.W.kitOne K (.type "int") (.type "int") = some true := by with_unfolding_all rfl
theorem kit_bb (K : PySem.W.Frag) : PySem.W.kitOne K (.type "bool") (.type "bool") = some true := by with_unfolding_all rfl
theorem kit_ss (K : PySem.W.Frag) : PySem.W.kitOne K (.type "str") (.type "str") = some true := by with_unfolding_all rfl
end L2
namespace RA
open PySem L2
structure Mach (L : List Nat) (W : List (List Nat)) (B : List Bool) : Prop where
  lt : Let L
  n1 : 1 ≤ W.length
  n60 : W.length ≤ 60
  bl : B.length = W.length
  row : ∀ ws ∈ W, ws.length = L.length ∧ ∀ x ∈ ws, x < W.length
def nxt (L : List Nat) (W : List (List Nat)) (r c : Nat) : Nat := (W.getD r []).getD (L.idxOf c) 0
def run (L : List Nat) (W : List (List Nat)) (r : Nat) (w : List Nat) : Nat := w.foldl (nxt L W) r
theorem Mach.at {L : List Nat} {W : List (List Nat)} {B : List Bool} (h : Mach L W B) {r c : Nat} (hr : r < W.length) (hc : c ∈ L) :
    ∃ ws x, W[r]? = some ws ∧ ws[L.idxOf c]? = some x ∧ nxt L W r c = x ∧ x < W.length := by
  have hw : W[r]? = some W[r] := by simp [hr]
  obtain ⟨h1, h2⟩ := h.row W[r] (List.getElem_mem hr)
  have hi : L.idxOf c < W[r].length := by rw [h1]; exact List.idxOf_lt_length_of_mem hc
  have hx : W[r][L.idxOf c]? = some W[r][L.idxOf c] := by simp [hi]
  refine ⟨W[r], W[r][L.idxOf c], hw, hx, ?_, h2 _ (List.getElem_mem hi)⟩
  unfold nxt
  have e1 : W.getD r [] = W[r] := by
    rw [List.getD_eq_getElem?_getD, hw]
    rfl
  rw [e1, List.getD_eq_getElem?_getD, hx]
  rfl
def intsV (ws : List Nat) : List V := ws.map fun (n : Nat) => V.int (n : Int)
def RowsAt (H : Hp) (rows : List Addr) (W : List (List Nat)) : Prop := ∀ (i : Nat) (r : Addr), rows[i]? = some r → ∃ ws, W[i]? = some ws ∧ H r = some (.tup (intsV ws))
def MachAt (H : Hp) (m : Addr) (L : List Nat) (W : List (List Nat)) (B : List Bool) : Prop :=
  ∃ (wy mk : Addr) (rows : List Addr), H m = some (.tup [.str (tx L), .ref wy, .ref mk]) ∧ H wy = some (.tup (rows.map V.ref)) ∧ H mk = some (.tup (B.map V.bl)) ∧ rows.length = W.length ∧ RowsAt H rows W
end RA
namespace RA
end RA
namespace L2
open PySem
namespace RV
section
variable {prog : Program} {w : World} {A : Around} {E : Value → Shared → Prop} {s : Shared}
end
end RV
end L2
namespace L2
open PySem PySem.Spec PyProof.Rows
section
variable {X : Cx}
def tJoinRev (K : PySem.W.Frag) (to : TE) (t : TA) : TE := fun σ H Q => to σ H fun x H1 => ∃ z, x = .str z ∧ t σ H1 fun vs H2 => ∃ (p : Addr) (ys : List Str), vs = [.ref p] ∧ SqL K H2 p (ys.map V.str) ∧ (ys.map (·.length)).sum + ys.length * z.length ≤ 16777216 ∧ Q (.str (Txt.join z ys.reverse)) H2
end
end L2
namespace L2
open PySem
namespace ZP
def Keep (S : List Addr) (h h' : Heap) : Prop := h'.objs.size = h.objs.size ∧ ∀ c o, c ∉ S → h.get? c = some o → h'.get? c = some o
section
variable {prog : Program} {w : World} {A : Around} {E : Value → Shared → Prop} {s : Shared} {z TI TO i1 i2 : Addr} {f1 f2 : List Addr} {n1 n2 k : Nat} {P1 P2 : Nat → Value → Prop} {S1 S2 : Nat → Heap → Prop} {a b : Value}
end
section
variable {prog : Program} {w : World} {A : Around} {E : Value → Shared → Prop} {s : Shared} {z TI TO i1 i2 : Addr} {n1 n2 k : Nat} {P1 P2 : Nat → Value → Prop} {S1 S2 : Nat → Heap → Prop} {a b : Value}
def strIt (x : Str) (t : Tok) : Obj := { cls := .type (if x.cps.all (· < 128) then "str_ascii_iterator" else "str_iterator"), data := .fields #[.str x t, .int 0 0] }
def made (h : Heap) (x y : Str) (t u : Tok) : Heap :=
  ((((h.push (strIt x t)).push (strIt y u)).push { cls := .type "tuple", data := .seq #[.ref h.objs.size, .ref (h.objs.size + 1)] }).push { cls := .type "tuple", data := .seq #[.none, .none] }).push
    { cls := .type "zip", data := .fields #[.none, .bool false, .bool false, .ref (h.objs.size + 2), .ref (h.objs.size + 3)] }
def strAt (x : Str) (t : Tok) (it : Addr) (i : Nat) (h : Heap) : Prop := h.IsStrIter it (if x.cps.all (· < 128) then "str_ascii_iterator" else "str_iterator") x t i
theorem draws (hh : A.handled = none) (it : Addr) (x : Str) (t : Tok) : Draws prog w A it [it] x.cps.size (fun i v => ∃ c u, x.cps[i]? = some c ∧ v = .str ⟨#[c]⟩ u) (strAt x t it) := by
  unfold strAt
  cases x.cps.all (· < 128)
  · exact Draws.strWide hh it x t
  · exact Draws.strAscii hh it x t
end
end ZP
end L2
namespace L2
open PySem PySem.Spec PyProof.Rows
section
variable {X : Cx} {pins : List (Addr × Obj)} {σ : St} {H : Hp} {s : Shared} {h' : Heap}
theorem tracked_off {S : List Addr} (f : ∀ b ∈ S, H b = none) {b : Addr} {u : HO} (e : H b = some u) : b ∉ S := fun hb => by rw [f b hb] at e; cases e
theorem Inv.turnedL {S : List Addr} {t' : Nat} (I : Inv X pins σ H s) (k : ∀ b o, b ∉ S → s.heap.get? b = some o → h'.get? b = some o) (f : ∀ b ∈ S, FpOk X pins H b) : Inv X pins σ H { s with heap := h', toks := t' } := by
  refine I.call (g' := s.gens) (d' := s.drawn) (ch := S) ⟨fun b o e _ _ hc => k b o hc e, fun b o e _ _ hc => ⟨o.slots, k b o hc e⟩, fun _ _ _ n _ => n, fun b o e hc => ⟨o, k b o hc e⟩, fun _ _ e => e, fun _ _ _ e => e, fun _ ps e => ⟨#[], by rw [e]; simp⟩⟩
    (fun b u e => (I.hok b u e).stay (fun c v hc q => k c v ?_ q) (fun _ q => q) fun _ _ q => q) I.bare fun b hb => ⟨(f b hb).2.2.2.1, (f b hb).2.1, (f b hb).2.2.2.2.1, (f b hb).2.2.2.2.2⟩
  rcases hc with z | z
  · rw [z]; exact tracked_off (fun b hb => (f b hb).1) e
  · exact tracked_off (fun b hb => (f b hb).1) z
theorem Inv.turnedNew {S : List Addr} {t' : Nat} {o : HO} (I : Inv X pins σ H s) (k : ∀ b o, b ∉ S → s.heap.get? b = some o → h'.get? b = some o) (f : ∀ b ∈ S, FpOk X pins H b)
    (new : ObjOk X.prog X.w (upd H s.heap.objs.size o) h' s.heap.objs.size o) : Inv X pins σ (upd H s.heap.objs.size o) { s with heap := h', toks := t' } := by
  have fr : H s.heap.objs.size = none := I.hok.fresh (Nat.le_refl _)
  have ne : ∀ b u, H b = some u → b ≠ s.heap.objs.size := fun b u e => ne_of_none e fr
  refine I.call (g' := s.gens) (d' := s.drawn) (ch := S) ⟨fun b o e _ _ hc => k b o hc e, fun b o e _ _ hc => ⟨o.slots, k b o hc e⟩, fun b o e n _ => ?_, fun b o e hc => ⟨o, k b o hc e⟩, fun b xs e => by rw [upd_ne (ne b _ e)]; exact e, fun b o u e => by rw [upd_ne (ne b _ e)]; exact e, fun b ps e => ⟨#[], by rw [upd_ne (ne b _ e), e]; simp⟩⟩
    (fun b u e => ?_) I.bare fun b hb => ⟨(f b hb).2.2.2.1, (f b hb).2.1, (f b hb).2.2.2.2.1, (f b hb).2.2.2.2.2⟩
  · rw [upd_ne (Nat.ne_of_lt (Heap.lt_size e))]
    exact n
  · by_cases hb : b = s.heap.objs.size
    · subst hb
      rw [upd_same] at e
      cases e
      exact new
    · rw [upd_ne hb] at e
      refine (I.hok b u e).stay (fun c v hc q => k c v ?_ q) (fun c q => by rw [upd_ne (ne c _ q)]; exact q) fun c xs q => by rw [upd_ne (ne c _ q)]; exact q
      rcases hc with z | z
      · rw [z]; exact tracked_off (fun b hb => (f b hb).1) e
      · exact tracked_off (fun b hb => (f b hb).1) z
end
def Itz (x y : Str) : It := ⟨fun i _ => i < x.length ∧ i < y.length, fun i H v H' => ∃ p c d, x.cps[i]? = some c ∧ y.cps[i]? = some d ∧ v = .ref p ∧ H p = none ∧ H' = upd H p (.tup [.str ⟨#[c]⟩, .str ⟨#[d]⟩]), fun i _ => x.length ≤ i ∨ y.length ≤ i⟩
def iZip (t : TA) : TI := fun σ H R => t σ H fun vs H1 => ∃ x y, vs = [.str x, .str y] ∧ R (Itz x y) H1
end L2
namespace L2
open PySem PySem.Spec PyProof.Rows
def Fly (h : Heap) (e T : Addr) (cls a0 : Value) : Prop :=
  ∃ oe vs oT ts, h.get? e = some oe ∧ (oe.cls = cls ∧ vs[0]? = some a0) ∧ oe.data = .fields vs ∧ vs[1]? = some (.ref T) ∧ T ≠ e ∧ h.get? T = some oT ∧ oT.data = .fields ts ∧ ts[3]? = some .none
def CXE (P : Program) (w : World) : CXT := fun outer H s E ev s' => ∃ (e T : Addr) (C a0 : Value) (H' : Hp), ev = .ref e ∧ s'.os = s.os ∧ AllBare s'.gens ∧ Un (frs outer) [] H H' s.heap s'.heap ∧ HOk P w H' s'.heap ∧
  s.heap.get? e = none ∧ s.heap.get? T = none ∧ H' e = none ∧ H' T = none ∧ Fly s'.heap e T C a0 ∧ E C none H'
section
variable {X : Cx} {pins : List (Addr × Obj)} {σ : St} {H H' : Hp} {s : Shared} {h1 h2 : Heap}
end
section
variable {X : Cx} {E : XK}
end
end L2
namespace L2
open PySem PySem.Spec PyProof.Rows
section
variable {X : Cx}
def FPart (X : Cx) (e : Expr) (c : St → Prop) : Prop := ∀ (pins : List (Addr × Obj)) (s : Shared) (σ : St) (H : Hp) (Q : Value → Shared → Prop), Inv X pins σ H s → c σ → (∀ y t s', Inv X pins σ H s' → y.length ≤ 100000 → Q (.str y t) s') →
  wpAny (model X.prog X.w) X.A (eval e X.env) Q X.xe s
def FParts (X : Cx) : List Expr → (St → Prop) → Prop
  | [], _ => True
  | e :: es, c => FPart X e c ∧ FParts X es c
def Txt5 (i : Nat) (σ : St) : Prop := ∃ x : Str, σ[i]? = some (some (.str x)) ∧ x.length ≤ 5000 ∧ ∀ c ∈ x.cps.toList, c < 1000000
def tMsg (c : St → Prop) : TE := fun σ H Q => c σ ∧ ∀ x, Q (.str x) H
end
def OwnX (K : PySem.W.Frag) (C : Addr) : Prop := PySem.W.excIn K C [.type "ValueError", .type "Exception", .type "BaseException", .type "object"] "ValueError.__new__" = true
end L2
namespace L2
open PySem PySem.Spec PyProof.Rows
def Throws (X : Cx) (E : XK) : Prop := ∀ (pins : List (Addr × Obj)) (σ : St) (H : Hp) (s : Shared) (h1 : Heap) (e : Addr) (C : Value) (vs : List Value), Inv X pins σ H s → Heap.MadeExcOf s.heap h1 e C vs → E C none H → X.xe (.ref e) { s with heap := h1 }
def tRaise (C : Addr) (E : XK) (t : TA) : TS := fun _ σ H => t σ H fun vs H1 => vs.length ≤ sizeLine ∧ E (.ref C) none H1
section
variable {P : Program} {w : World} {K : PySem.W.Frag} {mg : Str → Option Value} {base : Heap} {N : List Str} {qual : Str} {scope : Scope} {f : Addr} {cd : Value} {A : Around} {outer : List Env} {s : Shared} {H : Hp} {E : XK}
end
def DfX (P : Program) (w : World) (K : PySem.W.Frag) (mg : Str → Option Value) (base : Heap) (x : Str) (k : Nat) (ps : List Str) (sp : Sp) : Prop :=
  ∃ (f : Addr) (fd : FuncData), mg x = some (.ref f) ∧ PySem.W.keepIn K (.ref f) = true ∧ Binds K fd ps [] ∧ FnOk P w K mg base (CXE P w) k f fd ps sp
end L2
namespace L2
open PySem PySem.Spec PyProof.Rows
def excAt (e : Addr) (C : Value) : HO := .ext fun h => ∃ o, h.get? e = some o ∧ o.cls = C
abbrev Cx.held (X : Cx) (v : Value) : Cx := { X with A := X.A.mark (some v), calm := false, xe := fun _ _ => False }
section
variable {X : Cx} {pins : List (Addr × Obj)} {σ : St} {H : Hp} {s : Shared}
end
def heldEnds (i : Nat) (D : Ends) : Ends := { nx := fun σ' H' => D.nx (σ'.set i none) H', rt := fun _ _ => False }
def Caught (K : PySem.W.Frag) (R : Addr) (i : Nat) (ts : TS) (D : Ends) (σ : St) : XK := fun C _ H' => PySem.W.exmOne K C (.ref R) = some true ∧ ∀ e, H' e = none → ts (heldEnds i D) (σ.set i (some (.ref e))) (upd H' e (excAt e C))
end L2
namespace L2
open PySem PySem.Spec PyProof.Rows
section
variable {X : Cx} {pins : List (Addr × Obj)} {σ : St} {H : Hp} {s : Shared} {x n y fx : Str} {R : Addr} {i j k : Nat} {np hpos pos p cp yp ap : Pos} {b0 : Stmt} {suite : List Stmt} {ts : TS} {D : Ends} {ps : List Str} {sp : Sp} {e : Expr} {es : List Expr} {t : TA}
structure TryOk (X : Cx) (x n : Str) (R : Addr) (i : Nat) (b0 : Stmt) (suite : List Stmt) (ts : TS) : Prop where
  hex : X.ex = []
  hst : X.stack = X.env :: X.outer
  hfr : X.env.frame = some X.env.locals
  nd : X.N.Nodup
  hi : X.N[i]? = some n
  hk : X.env.kindOf n = some .local
  hl : Loc X.env.scope n
  hf : X.fn n = true ∨ X.env.scope.names.lookup n = some .local
  hg : Gl X x
  hm : X.mg x = some (.ref R)
  hs : ∀ v, PSs (X.held v) (b0 :: suite) ts
  hd : (x == ("__debug__" : Str)) = false
abbrev onCatch (X : Cx) (pins : List (Addr × Obj)) (D : Ends) (hs : List ExceptHandler) : Value → Shared → Prop := fun ev s' =>
  wpAny (model X.prog X.w) X.A (noteFrame ev X.env) (fun _ s2 => wpAny (model X.prog X.w) X.A (setFlight ev none) (fun _ s3 => wpAny (model X.prog X.w) X.A (handleBy ev X.env hs) (SP X pins D) X.xe s3) X.xe s2) X.xe s'
def tTryAsg (K : PySem.W.Frag) (R : Addr) (i j : Nat) (sp : Sp) (t : TA) (ts : TS) : TS := fun D σ H => t σ H fun vs H1 => sp vs H1 (fun v H2 => D.nx (σ.set j (some v)) H2) (Caught K R i ts D σ)
def tTryExp (K : PySem.W.Frag) (R : Addr) (i : Nat) (sp : Sp) (t : TA) (ts : TS) : TS := fun D σ H => t σ H fun vs H1 => sp vs H1 (fun _ H2 => D.nx σ H2) (Caught K R i ts D σ)
end
end L2
namespace L2
open PySem PySem.Spec PySem.W PyProof.Rows Builtin Builtin.ObjectAttr Builtin.Getset_descriptor
structure ExcCls (K : Frag) (C : Addr) : Prop where
  ga : findIn K (.ref C) "__getattribute__" = some (some (.builtin "BaseException.__getattribute__"))
  noHook : findIn K (.ref C) "__getattr__" = some none
  cls : findIn K (.ref C) "__class__" = some (some (.builtin "object.__class__"))
  get : specialIn K (.builtin "object.__class__") "__get__" = some (some (.builtin "getset_descriptor.__get__"))
  tk : takesIn K (.builtin "object.__class__") = some true
  obj : mroIn K C (.type "object") = some true
  exc : mroIn K C (.type "BaseException") = some true
  isC : isClsIn K C = true
def ExcIs (e C : Addr) (h : Heap) : Prop := ∃ o, h.get? e = some o ∧ o.cls = .ref C
section
variable {prog : Program} {w : World} {A : Around} {E : Value → Shared → Prop} {s : Shared} {K : Frag} {e C : Addr}
end
def rIsExc (K : Frag) (D : Value) (d : V) : List V → Hp → VK → Prop := fun xs H Q => ∃ e C b, xs = [.ref e, d] ∧ H e = some (excAt e (.ref C)) ∧ ExcCls K C ∧ kitOne K (.ref C) D = some b ∧ Q (.bl b) H
end L2
namespace RA
def geo (k : Int) : Nat → Int
  | 0 => 0
  | n + 1 => geo k n * k + 1
theorem geo_pos {k : Int} (hk : 0 ≤ k) : ∀ n, 1 ≤ geo k (n + 1)
  | 0 => by show (1 : Int) ≤ 0 * k + 1; omega
  | n + 1 => by
    have h := geo_pos hk n
    have h1 : 0 ≤ geo k (n + 1) * k := Int.mul_nonneg (by omega) hk
    show 1 ≤ geo k (n + 1) * k + 1
    omega
theorem geo_nn {k : Int} (hk : 0 ≤ k) : ∀ n, 0 ≤ geo k n
  | 0 => Int.le_refl _
  | n + 1 => by have := geo_pos hk n; omega
end RA
namespace RA
open PySem L2
structure Sm (w : List Nat) : Prop where
  len : w.length ≤ 4000
  cod : ∀ c ∈ w, c < 1000000
def forL : List Nat := List.range' 32 5 ++ List.range' 38 59 ++ List.range' 123 4
def abcL : List Nat := List.range' 97 26
def othL (L : List Nat) : List Nat := abcL.filter fun c => !decide (c ∈ L)
end RA
namespace L2
open PySem PySem.Spec PyProof.Rows
def rEqL (K : PySem.W.Frag) : R2 := fun x y H Q => ∃ p q xs, x = .ref p ∧ y = .ref q ∧ SqL K H p xs ∧ SqL K H q xs ∧ xs.all flatV = true ∧ Q (.bl true) H
theorem Same.set {H H' : Hp} {a : Addr} {o : HO} (s : Same H H') (n : H a = none) : Same H (L2.upd H' a o) := fun b u e => by
  rw [upd_ne (ne_of_none e n)]
  exact s b u e
end L2
namespace RA
open PySem L2
def dueN (y : Int) (f s t : Bool) : Nat := if y < 4 ∧ f = true then 1 else if y = 2 ∧ s = true then 2 else if y = 4 ∧ f = true then 3 else if (y ≠ 2 ∧ s = true) ∨ (y = 0 ∧ t = true) then 4 else 0
def nmN : Nat → List V
  | 1 => [.str "NoLetters"]
  | 2 => [.str "NoNumber"]
  | 3 => [.str "NoRoom"]
  | 4 => [.str "NoWord"]
  | _ => []
end RA
namespace L2
end L2
namespace L2
open PySem PySem.Spec PyProof.Rows
def rInsert : V → List V → Hp → VK → Prop := fun x vs H Q => ∃ l xs i y, x = .ref l ∧ vs = [.int i, y] ∧ H l = some (.lst xs) ∧ 0 ≤ i ∧ i ≤ 1000 ∧ i ≤ xs.length ∧ xs.length < sizeLine ∧ Q .non (upd H l (.lst (xs.take i.toNat ++ y :: xs.drop i.toNat)))
section
variable {K : PySem.W.Frag} {tl : TE} {a : Addr} {xs : List V} {tt : TT} {te : TE} {σ : St} {H : Hp} {Q : VK}
end
theorem kit_any (K : PySem.W.Frag) : PySem.W.kitOne K (.type "tuple") (.type "tuple") = some true ∧ PySem.W.kitOne K (.type "list") (.type "list") = some true ∧ PySem.W.kitOne K (.type "str") (.type "str") = some true :=
  ⟨by with_unfolding_all rfl, by with_unfolding_all rfl, by with_unfolding_all rfl⟩
theorem kit_tl (K : PySem.W.Frag) : PySem.W.kitOne K (.type "tuple") (.type "list") = some false := by kernel_rfl
theorem kit_lt (K : PySem.W.Frag) : PySem.W.kitOne K (.type "list") (.type "tuple") = some false := by kernel_rfl
theorem kit_it (K : PySem.W.Frag) : PySem.W.kitOne K (.type "int") (.type "tuple") = some false := by kernel_rfl
theorem kit_il (K : PySem.W.Frag) : PySem.W.kitOne K (.type "int") (.type "list") = some false := by kernel_rfl
theorem kit_bt (K : PySem.W.Frag) : PySem.W.kitOne K (.type "bool") (.type "tuple") = some false := by kernel_rfl
theorem kit_bl (K : PySem.W.Frag) : PySem.W.kitOne K (.type "bool") (.type "list") = some false := by kernel_rfl
theorem kit_st (K : PySem.W.Frag) : PySem.W.kitOne K (.type "str") (.type "tuple") = some false := by kernel_rfl
theorem kit_sl (K : PySem.W.Frag) : PySem.W.kitOne K (.type "str") (.type "list") = some false := by kernel_rfl
theorem kit_sb (K : PySem.W.Frag) : PySem.W.kitOne K (.type "str") (.type "bool") = some false := by kernel_rfl
theorem kit_si (K : PySem.W.Frag) : PySem.W.kitOne K (.type "str") (.type "int") = some false := by kernel_rfl
end L2
namespace L2
open PySem PySem.Spec PyProof.Rows
theorem call_isG {X : Cx} {T : String} : CallR X (.builtin "isinstance") (fun xs H Q => ∃ x t b, xs = [x, .ty T] ∧ TyOf X.K H x t ∧ PySem.W.kitOne X.K t (.type T) = some b ∧ Q (.bl b) H) := by
  intro pins s σ H xs us Q I r h
  obtain ⟨x, t, b, h1, h2, h3, q⟩ := h
  exact call_isinst (b := b) pins s σ H xs us Q I r ⟨x, t, h1, h2, h3, q⟩
end L2
namespace L2
open PySem PySem.Spec PyProof.Rows
section
variable {X : Cx} {elt iter : Expr} {x : Str} {px pos : Pos} {ifs : List Expr} {sc : Scope} {wi : TI} {tt : TT} {te : TE}
end
end L2
namespace L2
open PySem PySem.Spec PyProof.Rows
section
variable {X : Cx} {elt iter : Expr} {x : Str} {px pos : Pos} {ifs : List Expr} {sc : Scope} {wi : TI} {tt : TT} {te : TE}
end
end L2
namespace RA
open PySem L2
def RowsL (H : Hp) (rows : List Addr) (Rs : List (List Int)) : Prop := rows.length = Rs.length ∧ ∀ (i : Nat) (r : Addr), rows[i]? = some r → ∃ R, Rs[i]? = some R ∧ H r = some (.lst (R.map V.int))
def RowsT (H : Hp) (rows : List Addr) (Rs : List (List Int)) : Prop := rows.length = Rs.length ∧ ∀ (i : Nat) (r : Addr), rows[i]? = some r → ∃ R, Rs[i]? = some R ∧ H r = some (.tup (R.map V.int))
def BadM (L : List Nat) (Rs : List (List Int)) (Bs : List Bool) : Prop := Rs.length = 0 ∨ Bs.length ≠ Rs.length ∨ ∃ R ∈ Rs, R.length ≠ L.length ∨ ∃ x ∈ R, ¬ (0 ≤ x ∧ x < (Rs.length : Int))
def MachI (H : Hp) (m : Addr) (L : List Nat) (Rs : List (List Int)) (Bs : List Bool) : Prop :=
  ∃ (wy mk : Addr) (rows : List Addr), H m = some (.tup [.str (tx L), .ref wy, .ref mk]) ∧ H wy = some (.tup (rows.map V.ref)) ∧ H mk = some (.tup (Bs.map V.bl)) ∧ RowsT H rows Rs
def flat3 : V → Bool
  | .bl _ => true
  | .int _ => true
  | .str _ => true
  | _ => false
def Like (H : Hp) : Nat → V → V → Prop
  | 0, x, y => x = y ∧ flat3 x = true
  | d + 1, x, y => (x = y ∧ flat3 x = true) ∨ ∃ p q xs ys, x = .ref p ∧ y = .ref q ∧ ((H p = some (.tup xs) ∧ H q = some (.tup ys)) ∨ (H p = some (.lst xs) ∧ H q = some (.lst ys))) ∧ xs.length = ys.length ∧ xs.length ≤ 1000 ∧
      ∀ (i : Nat) (x y : V), xs[i]? = some x → ys[i]? = some y → Like H d x y
theorem like_flat {H : Hp} {d : Nat} {x : V} (h : flat3 x = true) : Like H d x x := by
  cases d with
  | zero => exact ⟨rfl, h⟩
  | succ d => exact Or.inl ⟨rfl, h⟩
theorem like_flats {H : Hp} {d : Nat} {xs : List V} (h : xs.all flat3 = true) : ∀ (i : Nat) (x y : V), xs[i]? = some x → xs[i]? = some y → Like H d x y := fun i x y hx hy => by
  rw [hx] at hy
  cases hy
  exact like_flat (List.all_eq_true.mp h x (List.mem_of_getElem? hx))
def natR (W : List (List Nat)) : List (List Int) := W.map fun ws => ws.map fun (n : Nat) => (n : Int)
end RA
namespace RA
open PySem L2
end RA
namespace L2
end L2
namespace RA
open PySem L2
end RA
namespace L2
open PySem PySem.Spec PyProof.Rows
def tMethP {ι : Type} (C : ι → Addr) (m : Str) (sp : ι → Sp) (E : XK) (ta : TE) : TE := fun σ H Q => ta σ H fun x H1 => ∃ i a dx fs, x = .ref a ∧ H1 a = some (.ins (C i) dx fs) ∧ fs.lookup m = none ∧ sp i [x] H1 Q E
section
variable {X : Cx} {CX : CXT} {k : Nat} {ps : List Str} {E : XK} {m x : Str} {p pos apos : Pos} {o e : Expr} {ta te : TE} {ι : Type} {C f : ι → Addr} {fd : ι → FuncData} {sp : ι → Sp}
theorem pe_methP {pl : Sem Bool} (he : PE X o ta) (c : ∀ i, Cls X.K (C i)) (hm : ∀ i, Meth X.K (C i) m (f i)) (F : ∀ i, FnOk X.prog X.w X.K X.mg X.base CX k (f i) (fd i) ps (sp i)) (hr : Room k X.A) (hb : ∀ i, Binds X.K (fd i) ps []) (hx : Passes CX X E)
    (ht : eval (.Call (.Attribute o m apos) [] [] pos) X.env = (do
      let ov ← eval o X.env
      standAt apos.atName
      let (f, first) ← holding [ov] (getMethod ov m pl)
      callWith pos f first (backTo pos (starEach [] X.env)) (backToKw pos (keywordEach [] X.env))) := by rfl) :
    PE X (.Call (.Attribute o m apos) [] [] pos) (tMethP C m sp E ta) := by
  intro pins s σ H Q I h
  refine PySem.W.methodCall_KW (pl := pl) (thn (he pins s σ H _ I h) fun u s1 z => ?_) ht
  obtain ⟨y, H1, I1, ry, i, a, dx, fs, rfl, ea, l, q⟩ := z
  cases ry
  refine getmeth_ok I1 ea (c i) (hm i) l (PySem.W.callWith_K0 (first := [.ref a]) I1.kIn (hm i).kp ?_)
  exact run_fn (us := [.ref a]) (vs := [.ref a]) (F i) hr (hb i) .nil hx I1 (.cons rfl .nil) q
structure Mk0 (K : PySem.W.Frag) (C : Addr) : Prop where
  makes : PySem.W.makesIn K C = true
  init : PySem.W.findIn K (.ref C) "__init__" = some (some (.builtin "object.__init__"))
  kp : PySem.W.keepIn K (.ref C) = true
  mro : PySem.W.mroIn K C (.type "object") = some true
def tMake0 (C : Addr) : TE := fun _ H Q => ∀ x dx, H x = none → H dx = none → dx ≠ x → Q (.ref x) (upd (upd H dx (.own x)) x (.ins C dx []))
theorem pe_make00 {C : Addr} (M : Mk0 X.K C) (hg : Gl X x) (hm : X.mg x = some (.ref C)) (hdb : (x == ("__debug__" : Str)) = false := by decide) : PE X (.Call (.Name x p) [] [] pos) (tMake0 C) := by
  intro pins s σ H Q I h
  have I2 := Inv.made (C := C) I
  obtain ⟨mA, O, _⟩ := ins_get (a := s.heap.objs.size + 1) (C := C) (dx := s.heap.objs.size) (fs := []) I2.hok upd_same
  obtain ⟨od, J, _⟩ := O.look
  refine wpAny_Call_Name_kw (ld_glob I hg hm (PySem.W.callWith_K0 I.kIn M.kp (wpAny_call ?_)) hdb)
  refine make_map0 I.kIn M.makes M.init (fun self => .of_pure (PySem.W.oi_bind self)) ?_
  refine codeAny_call_builtin PySem.W.oi_plain PySem.W.entry_oi ?_
  refine PySem.W.check_slot (rest := []) (kw := []) PySem.W.oi_kind PySem.W.oi_split (J.type.andThen (PySem.W.looks_mroIn I2.kIn M.mro)) (PySem.W.oi_args _) ?_
  rw [PySem.W.oi_run]
  exact wpAny_pure ⟨rfl, V.ref _, _, I2, rfl, h _ _ (I.hok.fresh (Nat.le_succ _)) (I.hok.fresh (Nat.le_refl _)) (Nat.ne_of_lt (Nat.lt_succ_self _))⟩
theorem call_isO {D : Addr} : CallR X (.builtin "isinstance") (fun xs H Q => ∃ x t b, xs = [x, .ref D] ∧ TyOf X.K H x t ∧ PySem.W.kitOne X.K t (.ref D) = some b ∧ Q (.bl b) H) := by
  intro pins s σ H xs us Q I r h
  obtain ⟨y, t, b, rfl, h2, h3, q⟩ := h
  obtain ⟨u, w', rfl, rx, ry⟩ := vals2 r
  cases ry
  exact isinst_ok I rx h2 h3 fun tk => ⟨.bl b, H, I.tok tk, rfl, q⟩
def tRev (K : PySem.W.Frag) (te : TE) (ts : TO) : TE := fun σ H Q => te σ H fun x H1 => ts σ H1 fun st H2 => ∃ a, ∃ ns : List Int, x = .ref a ∧ SqL K H2 a (ns.map V.int) ∧ st ≠ some 0 ∧ ∀ p (ms : List Int), H2 p = none → ms.length ≤ ns.length → Q (.ref p) (upd H2 p (.lst (ms.map V.int)))
def rEqN (K : PySem.W.Frag) : R2 := fun x y H Q => ∃ p q xs, x = .ref p ∧ y = .ref q ∧ SqL K H p xs ∧ SqL K H q [] ∧ Q (.bl (decide (xs = []))) H
end
end L2
namespace RA
open PySem L2
inductive K0 where
  | never | empty | any
inductive K1 where
  | outside | turned | again
inductive K2 where
  | either | less | both | then_
inductive Pt where
  | leaf (k : K0)
  | sign (c : Nat)
  | one (k : K1) (x : Pt)
  | two (k : K2) (x y : Pt)
inductive Kd where
  | leaf (k : K0)
  | sign
  | one (k : K1)
  | two (k : K2)
def Pt.kd : Pt → Kd
  | .leaf k => .leaf k
  | .sign _ => .sign
  | .one k _ => .one k
  | .two k _ _ => .two k
def Pt.dep : Pt → Nat
  | .leaf _ => 1
  | .sign _ => 1
  | .one _ x => x.dep + 1
  | .two _ x y => max x.dep y.dep + 1
theorem Pt.dep_pos (t : Pt) : 1 ≤ t.dep := by
  cases t <;> simp only [Pt.dep] <;> omega
def nm0 : K0 → Str
  | .never => "never"
  | .empty => "empty"
  | .any => "any"
def nm1 : K1 → Str
  | .outside => "outside"
  | .turned => "turned"
  | .again => "again"
def nm2 : K2 → Str
  | .either => "either"
  | .less => "less"
  | .both => "both"
  | .then_ => "then"
def cnm : Kd → Str
  | .leaf .never => "Never"
  | .leaf .empty => "Empty"
  | .leaf .any => "AnySign"
  | .sign => "Sign"
  | .one .outside => "Outside"
  | .one .turned => "Turned"
  | .one .again => "Again"
  | .two .either => "Either"
  | .two .less => "Less"
  | .two .both => "Both"
  | .two .then_ => "Then"
def cOf (a1 a2 a3 a4 a5 a6 a7 a8 a9 a10 a11 : Addr) : Kd → Addr
  | .leaf .never => a1
  | .leaf .empty => a2
  | .leaf .any => a3
  | .sign => a4
  | .one .outside => a5
  | .one .turned => a6
  | .one .again => a7
  | .two .either => a8
  | .two .less => a9
  | .two .both => a10
  | .two .then_ => a11
def PatAt (c : Kd → Addr) (H : Hp) : Pt → V → Prop
  | .leaf k, v => ∃ a dx, v = .ref a ∧ H a = some (.ins (c (.leaf k)) dx [])
  | .sign z, v => ∃ a dx, v = .ref a ∧ H a = some (.ins (c .sign) dx (putF "sign" (.str (tx [z])) []))
  | .one k x, v => ∃ a dx u, v = .ref a ∧ H a = some (.ins (c (.one k)) dx (putF "inner" u [])) ∧ PatAt c H x u
  | .two k x y, v => ∃ a dx u w, v = .ref a ∧ H a = some (.ins (c (.two k)) dx (putF "right" w (putF "left" u []))) ∧ PatAt c H x u ∧ PatAt c H y w
def ShAt (H : Hp) : Pt → V → Prop
  | .leaf k, v => ∃ a, v = .ref a ∧ H a = some (.tup [.str (nm0 k)])
  | .sign z, v => ∃ a, v = .ref a ∧ H a = some (.tup [.str "sign", .str (tx [z])])
  | .one k x, v => ∃ a u, v = .ref a ∧ H a = some (.tup [.str (nm1 k), u]) ∧ ShAt H x u
  | .two k x y, v => ∃ a u w, v = .ref a ∧ H a = some (.tup [.str (nm2 k), u, w]) ∧ ShAt H x u ∧ ShAt H y w
def Kp (H H' : Hp) : Prop := ∀ b o, H b = some o → (∀ xs, o ≠ .lst xs) → H' b = some o
theorem Same.kp {H H' : Hp} (h : Same H H') : Kp H H' := fun b o e _ => h b o e
theorem Kp.trans {H H1 H2 : Hp} (a : Kp H H1) (b : Kp H1 H2) : Kp H H2 := fun c o e n => b c o (a c o e n) n
theorem Kp.lst {H : Hp} {p : Addr} {xs : List V} {o : HO} (h : H p = some (.lst xs)) : Kp H (upd H p o) := fun b o' e n => by
  rw [upd_ne (ne_of e h (fun z => n xs z))]
  exact e
theorem PatAt.kp {c : Kd → Addr} {H H' : Hp} (h : Kp H H') : ∀ {t : Pt} {v : V}, PatAt c H t v → PatAt c H' t v
  | .leaf _, _, ⟨a, dx, e, ha⟩ => ⟨a, dx, e, h _ _ ha (fun _ z => nomatch z)⟩
  | .sign _, _, ⟨a, dx, e, ha⟩ => ⟨a, dx, e, h _ _ ha (fun _ z => nomatch z)⟩
  | .one _ x, _, ⟨a, dx, u, e, ha, hx⟩ => ⟨a, dx, u, e, h _ _ ha (fun _ z => nomatch z), PatAt.kp h (t := x) hx⟩
  | .two _ x y, _, ⟨a, dx, u, w, e, ha, hx, hy⟩ => ⟨a, dx, u, w, e, h _ _ ha (fun _ z => nomatch z), PatAt.kp h (t := x) hx, PatAt.kp h (t := y) hy⟩
theorem ShAt.kp {H H' : Hp} (h : Kp H H') : ∀ {t : Pt} {v : V}, ShAt H t v → ShAt H' t v
  | .leaf _, _, ⟨a, e, ha⟩ => ⟨a, e, h _ _ ha (fun _ z => nomatch z)⟩
  | .sign _, _, ⟨a, e, ha⟩ => ⟨a, e, h _ _ ha (fun _ z => nomatch z)⟩
  | .one _ x, _, ⟨a, u, e, ha, hx⟩ => ⟨a, u, e, h _ _ ha (fun _ z => nomatch z), ShAt.kp h (t := x) hx⟩
  | .two _ x y, _, ⟨a, u, w, e, ha, hx, hy⟩ => ⟨a, u, w, e, h _ _ ha (fun _ z => nomatch z), ShAt.kp h (t := x) hx, ShAt.kp h (t := y) hy⟩
def PairAt (c : Kd → Addr) (H : Hp) (t : Pt) (v : V) : Prop := ∃ p u w, v = .ref p ∧ H p = some (.tup [u, w]) ∧ PatAt c H t u ∧ ShAt H t w
theorem PairAt.kp {c : Kd → Addr} {H H' : Hp} (h : Kp H H') {t : Pt} {v : V} : PairAt c H t v → PairAt c H' t v
  | ⟨p, u, w, e, hp, h1, h2⟩ => ⟨p, u, w, e, h _ _ hp (fun _ z => nomatch z), h1.kp h, h2.kp h⟩
theorem PatAt.ins {c : Kd → Addr} {H : Hp} : ∀ {t : Pt} {v : V}, PatAt c H t v → ∃ a dx fs, v = .ref a ∧ H a = some (.ins (c t.kd) dx fs) ∧ fs.lookup ("shape" : Str) = none
  | .leaf _, _, ⟨a, dx, e, ha⟩ => ⟨a, dx, _, e, ha, rfl⟩
  | .sign _, _, ⟨a, dx, e, ha⟩ => ⟨a, dx, _, e, ha, by rw [lookup_putF, if_neg (by decide +kernel)]; rfl⟩
  | .one _ x, _, ⟨a, dx, u, e, ha, hx⟩ => ⟨a, dx, _, e, ha, by rw [lookup_putF, if_neg (by decide +kernel)]; rfl⟩
  | .two _ x y, _, ⟨a, dx, u, w, e, ha, hx, hy⟩ => ⟨a, dx, _, e, ha, by rw [lookup_putF, if_neg (by decide +kernel), lookup_putF, if_neg (by decide +kernel)]; rfl⟩
theorem lk_sign (u : V) : (putF "sign" u []).lookup ("sign" : Str) = some u := by rw [lookup_putF, if_pos rfl]
theorem lk_inner (u : V) : (putF "inner" u []).lookup ("inner" : Str) = some u := by rw [lookup_putF, if_pos rfl]
theorem lk_left (u w : V) : (putF "right" w (putF "left" u [])).lookup ("left" : Str) = some u := by rw [lookup_putF, if_neg (by decide +kernel), lookup_putF, if_pos rfl]
theorem lk_right (u w : V) : (putF "right" w (putF "left" u [])).lookup ("right" : Str) = some w := by rw [lookup_putF, if_pos rfl]
theorem like_mono {H : Hp} : ∀ {d d' : Nat} {x y : V}, Like H d x y → d ≤ d' → Like H d' x y
  | 0, 0, _, _, h, _ => h
  | 0, d' + 1, _, _, h, _ => .inl h
  | d + 1, 0, _, _, _, h => absurd h (Nat.not_succ_le_zero d)
  | d + 1, d' + 1, _, _, .inl h, _ => .inl h
  | d + 1, d' + 1, _, _, .inr ⟨p, q, xs, ys, e1, e2, h, hl, h3, hall⟩, hd => .inr ⟨p, q, xs, ys, e1, e2, h, hl, h3, fun i x y hx hy => like_mono (hall i x y hx hy) (Nat.le_of_succ_le_succ hd)⟩
theorem like_tup {H : Hp} {d : Nat} {p q : Addr} {xs ys : List V} (h1 : H p = some (.tup xs)) (h2 : H q = some (.tup ys)) (hl : xs.length = ys.length) (hz : xs.length ≤ 1000) (h : ∀ (i : Nat) (x y : V), xs[i]? = some x → ys[i]? = some y → Like H d x y) : Like H (d + 1) (.ref p) (.ref q) :=
  .inr ⟨p, q, xs, ys, rfl, rfl, .inl ⟨h1, h2⟩, hl, hz, h⟩
theorem like_sh {H : Hp} : ∀ {t : Pt} {x y : V}, ShAt H t x → ShAt H t y → Like H t.dep x y
  | .leaf _, _, _, ⟨a, e1, h1⟩, ⟨b, e2, h2⟩ => by
    subst e1 e2
    exact like_tup h1 h2 rfl (by show 1 ≤ 1000; decide) (like_flats rfl)
  | .sign _, _, _, ⟨a, e1, h1⟩, ⟨b, e2, h2⟩ => by
    subst e1 e2
    exact like_tup h1 h2 rfl (by show 2 ≤ 1000; decide) (like_flats rfl)
  | .one _ x, _, _, ⟨a, u, e1, h1, k1⟩, ⟨b, u', e2, h2, k2⟩ => by
    subst e1 e2
    refine like_tup h1 h2 rfl (by show 2 ≤ 1000; decide) fun i x' y' hx hy => ?_
    match i with
    | 0 => cases hx; cases hy; exact like_flat rfl
    | 1 => cases hx; cases hy; exact like_sh k1 k2
    | n + 2 => simp at hx
  | .two _ x y, _, _, ⟨a, u, w, e1, h1, k1, l1⟩, ⟨b, u', w', e2, h2, k2, l2⟩ => by
    subst e1 e2
    refine like_tup h1 h2 rfl (by show 3 ≤ 1000; decide) fun i x' y' hx hy => ?_
    match i with
    | 0 => cases hx; cases hy; exact like_flat rfl
    | 1 => cases hx; cases hy; exact like_mono (like_sh k1 k2) (Nat.le_max_left _ _)
    | 2 => cases hx; cases hy; exact like_mono (like_sh l1 l2) (Nat.le_max_right _ _)
    | n + 3 => simp at hx
structure PCls (K : PySem.W.Frag) (C cP : Addr) : Prop where
  cl : Cls K C
  ha : PySem.W.findIn K (.ref C) "__class__" = some (some (.builtin "object.__class__"))
  hn : PySem.W.specialIn K (.builtin "object.__class__") "__get__" = some (some (.builtin "getset_descriptor.__get__"))
  htk : PySem.W.takesIn K (.builtin "object.__class__") = some true
  hm : PySem.W.mroIn K C (.type "object") = some true
  ki : PySem.W.kitOne K (.ref C) (.ref cP) = some true
  nS : NoAttr K C "sign"
  nL : NoAttr K C "left"
  nR : NoAttr K C "right"
  nI : NoAttr K C "inner"
def spI1 (K : PySem.W.Frag) (x : Str) : Sp := fun vs H Q _ => ∃ p v C dx, vs = [.ref p, v] ∧ H p = some (.ins C dx []) ∧ Cls K C ∧ NoAttr K C x ∧
  ∀ H', (∀ b o, H b = some o → b ≠ p → H' b = some o) → H' p = some (.ins C dx (putF x v [])) → Q .non H'
def spI2 (K : PySem.W.Frag) (x y : Str) : Sp := fun vs H Q _ => ∃ p v u C dx, vs = [.ref p, v, u] ∧ H p = some (.ins C dx []) ∧ Cls K C ∧ NoAttr K C x ∧ NoAttr K C y ∧
  ∀ H', (∀ b o, H b = some o → b ≠ p → H' b = some o) → H' p = some (.ins C dx (putF y u (putF x v []))) → Q .non H'
theorem made_same {H H' : Hp} {x dx : Addr} {o0 : HO} (hx : H x = none) (hdx : H dx = none) (h : ∀ b o, (upd (upd H dx (.own x)) x o0) b = some o → b ≠ x → H' b = some o) : Same H H' := fun b o e =>
  h b o (by rw [upd_ne (ne_of_none e hx), upd_ne (ne_of_none e hdx)]; exact e) (ne_of_none e hx)
def spShape (c : Kd → Addr) (n : Nat) (k : Kd) : Sp := fun vs H Q _ => ∃ (a : Addr) (t : Pt), vs = [.ref a] ∧ PatAt c H t (.ref a) ∧ t.kd = k ∧ t.dep ≤ n ∧ ∀ v H', Same H H' → ShAt H' t v → Q v H'
structure PatKit (P : Program) (w : World) (K : PySem.W.Frag) (mg : Str → Option Value) (base : Heap) (c : Kd → Addr) (cP : Addr) : Prop where
  kP : mg "Pattern" = some (.ref cP)
  kc : ∀ k, mg (cnm k) = some (.ref (c k))
  pc : ∀ k, PCls K (c k) cP
  mk0 : ∀ k, Mk0 K (c (.leaf k))
  iS : ∃ f fd, Mk K (c .sign) f ∧ FnOk P w K mg base CX0 1 f fd ["self", "sign"] (spI1 K "sign") ∧ Binds K fd ["self", "sign"] []
  iU : ∃ f fd, (∀ k, Mk K (c (.one k)) f) ∧ FnOk P w K mg base CX0 1 f fd ["self", "inner"] (spI1 K "inner") ∧ Binds K fd ["self", "inner"] []
  iP : ∃ f fd, (∀ k, Mk K (c (.two k)) f) ∧ FnOk P w K mg base CX0 1 f fd ["self", "left", "right"] (spI2 K "left" "right") ∧ Binds K fd ["self", "left", "right"] []
  sh : ∃ (f : Kd → Addr) (fd : Kd → FuncData), (∀ k, Meth K (c k) "shape" (f k)) ∧ (∀ k, Binds K (fd k) ["self"] []) ∧ ∀ n k, FnOk P w K mg base CX0 n (f k) (fd k) ["self"] (spShape c n k)
def Pile (c : Kd → Addr) (H : Hp) : List V → List Pt → Prop
  | [], [] => True
  | v :: vs, t :: ts => PairAt c H t v ∧ Pile c H vs ts
  | _, _ => False
def dsum (ts : List Pt) : Nat := (ts.map Pt.dep).sum
theorem last_at {ys : List V} {v : V} : (ys ++ [v])[(ys ++ [v]).length - 1]? = some v := by simp
end RA
namespace RA
open PySem L2
inductive U2 where
  | outside | turned
def U2.k1 : U2 → K1
  | .outside => .outside
  | .turned => .turned
inductive Wt where
  | lp
  | un (k : U2)
  | bin (k : K2)
def lvl : K2 → Nat
  | .either => 0
  | .less => 0
  | .both => 1
  | .then_ => 2
def Wt.str : Wt → Nat
  | .lp => 0
  | .un _ => 4
  | .bin k => lvl k + 1
inductive Tk where
  | lp
  | rp
  | star
  | un (k : U2)
  | bin (k : K2)
  | piece (t : Pt)
def settleM (s : Nat) : List Pt → List Wt → Option (List Pt × List Wt)
  | _, [] => none
  | ps, w :: ws => if s ≤ w.str then
      match w, ps with
      | .un k, x :: qs => settleM s (.one k.k1 x :: qs) ws
      | .bin k, y :: x :: qs => settleM s (.two k x y :: qs) ws
      | _, _ => none
    else some (ps, w :: ws)
def popM : List Pt × List Wt → Option (List Pt × List Wt)
  | (ps, _ :: ws) => some (ps, ws)
  | (_, []) => none
def starM : List Pt → Option (List Pt)
  | x :: qs => some (.one .again x :: qs)
  | [] => none
def putM (ps : List Pt) (ws : List Wt) : Tk → Option (List Pt × List Wt)
  | .lp => some (ps, .lp :: ws)
  | .un k => some (ps, .un k :: ws)
  | .bin k => (settleM (lvl k + 1) ps ws).map fun r => (r.1, .bin k :: r.2)
  | .rp => (settleM 1 ps ws).bind popM
  | .star => (starM ps).map fun qs => (qs, ws)
  | .piece t => some (t :: ps, ws)
def putsM : List Tk → List Pt × List Wt → Option (List Pt × List Wt)
  | [], r => some r
  | t :: ts, r => (putM r.1 r.2 t).bind (putsM ts)
theorem putsM_app : ∀ (a b : List Tk) (r : List Pt × List Wt), putsM (a ++ b) r = (putsM a r).bind (putsM b)
  | [], _, _ => rfl
  | t :: a, b, r => by
    show (putM r.1 r.2 t).bind (putsM (a ++ b)) = ((putM r.1 r.2 t).bind (putsM a)).bind (putsM b)
    cases putM r.1 r.2 t with
    | none => rfl
    | some r' => exact putsM_app a b r'
def isW (c : Nat) : Bool := [33, 60, 40, 38, 124, 45].contains c
def isB (c : Nat) : Bool := [42, 38, 124, 45, 41].contains c
def tok (c : Nat) : Tk :=
  if c = 40 then .lp else if c = 41 then .rp else if c = 42 then .star else if c = 33 then .un .outside else if c = 60 then .un .turned
  else if c = 124 then .bin .either else if c = 45 then .bin .less else if c = 38 then .bin .both
  else if c = 48 then .piece (.leaf .never) else if c = 49 then .piece (.leaf .empty) else if c = 46 then .piece (.leaf .any) else .piece (.sign c)
def toks : Bool → List Nat → List Tk
  | _, [] => []
  | w, c :: cs => (if (!w && !isB c) = true then [.bin .then_] else []) ++ tok c :: toks (isW c) cs
def endW (b : Bool) : List Nat → Bool
  | [] => b
  | c :: cs => endW (isW c) cs
theorem toks_app : ∀ (u v : List Nat) (b : Bool), toks b (u ++ v) = toks b u ++ toks (endW b u) v
  | [], _, _ => rfl
  | c :: u, v, b => by
    show _ ++ tok c :: toks (isW c) (u ++ v) = (_ ++ tok c :: toks (isW c) u) ++ _
    rw [toks_app u v]
    simp [endW]
theorem endW_app : ∀ (u v : List Nat) (b : Bool), endW b (u ++ v) = endW (endW b u) v
  | [], _, _ => rfl
  | c :: u, v, b => endW_app u v _
def c0 : K0 → Nat
  | .never => 48
  | .empty => 49
  | .any => 46
def c1 : U2 → Nat
  | .outside => 33
  | .turned => 60
def m2 : K2 → List Nat
  | .either => [124]
  | .less => [45]
  | .both => [38]
  | .then_ => []
inductive G (L : List Nat) : Nat → Pt → List Nat → Prop where
  | leaf (k : K0) : G L 4 (.leaf k) [c0 k]
  | sign {c : Nat} (h : c ∈ L) : G L 4 (.sign c) [c]
  | par {l : Nat} {t : Pt} {w : List Nat} (h : G L l t w) : G L 4 t (40 :: (w ++ [41]))
  | again {t : Pt} {w : List Nat} (h : G L 4 t w) : G L 4 (.one .again t) (w ++ [42])
  | pre {l : Nat} {t : Pt} {w : List Nat} (k : U2) (h : G L l t w) (hl : 3 ≤ l) : G L 3 (.one k.k1 t) (c1 k :: w)
  | bin {a b : Nat} {x y : Pt} {u v : List Nat} (k : K2) (hx : G L a x u) (hy : G L b y v) (ha : lvl k ≤ a) (hb : lvl k + 1 ≤ b) : G L (lvl k) (.two k x y) (u ++ m2 k ++ v)
def LetS (L : List Nat) : Prop := ∀ c ∈ L, 97 ≤ c ∧ c ≤ 122
theorem sign_facts {c : Nat} (h : 97 ≤ c ∧ c ≤ 122) : isW c = false ∧ isB c = false ∧ tok c = .piece (.sign c) := by
  obtain ⟨h1, h2⟩ := h
  refine ⟨?_, ?_, ?_⟩
  · unfold isW
    simp
    omega
  · unfold isB
    simp
    omega
  · unfold tok
    repeat rw [if_neg (by omega)]
theorem G.first {L : List Nat} (hL : LetS L) {l : Nat} {t : Pt} {w : List Nat} (h : G L l t w) : ∃ c r, w = c :: r ∧ isB c = false := by
  induction h with
  | leaf k => exact ⟨_, _, rfl, by cases k <;> rfl⟩
  | sign h => exact ⟨_, _, rfl, (sign_facts (hL _ h)).2.1⟩
  | par h ih => exact ⟨_, _, rfl, rfl⟩
  | again h ih => obtain ⟨c, r, rfl, e⟩ := ih; exact ⟨c, _, rfl, e⟩
  | pre k h hl ih => exact ⟨_, _, rfl, by cases k <;> rfl⟩
  | bin k hx hy ha hb ih1 ih2 => obtain ⟨c, r, rfl, e⟩ := ih1; exact ⟨c, _, rfl, e⟩
theorem G.last {L : List Nat} (hL : LetS L) {l : Nat} {t : Pt} {w : List Nat} (h : G L l t w) : ∀ b, endW b w = false := by
  induction h with
  | leaf k => intro b; cases k <;> rfl
  | sign h => exact fun b => (sign_facts (hL _ h)).1
  | par h ih => intro b; show endW _ (_ ++ [41]) = false; rw [endW_app]; rfl
  | again h ih => intro b; rw [endW_app]; rfl
  | pre k h hl ih => exact fun b => ih _
  | bin k hx hy ha hb ih1 ih2 => intro b; rw [endW_app]; exact ih2 _
theorem toks_then {c : Nat} {r : List Nat} (h : isB c = false) : toks false (c :: r) = .bin .then_ :: toks true (c :: r) := by
  unfold toks
  rw [h]
  rfl
def Folds (os : List Wt) (qs : List Pt) (t : Pt) : Prop := ∀ s ps ws, (∀ o ∈ os, s ≤ o.str) → settleM s (qs ++ ps) (os ++ ws) = settleM s (t :: ps) ws
theorem settleM_stop {s : Nat} {ps : List Pt} {w : Wt} {ws : List Wt} (h : w.str < s) : settleM s ps (w :: ws) = some (ps, w :: ws) := by
  unfold settleM
  rw [if_neg (by omega)]
theorem settleM_un {s : Nat} {ps : List Pt} {k : U2} {x : Pt} {ws : List Wt} (h : s ≤ 4) : settleM s (x :: ps) (.un k :: ws) = settleM s (.one k.k1 x :: ps) ws := by
  rw [settleM, if_pos (show s ≤ (Wt.un k).str from h)]
theorem settleM_bin {s : Nat} {ps : List Pt} {k : K2} {x y : Pt} {ws : List Wt} (h : s ≤ lvl k + 1) : settleM s (y :: x :: ps) (.bin k :: ws) = settleM s (.two k x y :: ps) ws := by
  rw [settleM, if_pos (show s ≤ (Wt.bin k).str from h)]
theorem lvl_le (k : K2) : lvl k ≤ 2 := by cases k <;> decide
theorem str_le (o : Wt) : o.str ≤ 4 := by
  cases o with
  | lp => exact Nat.zero_le _
  | un k => exact Nat.le_refl _
  | bin k => have := lvl_le k; show lvl k + 1 ≤ 4; omega
theorem tok_c0 (k : K0) : tok (c0 k) = .piece (.leaf k) := by cases k <;> rfl
theorem tok_c1 (k : U2) : tok (c1 k) = .un k ∧ isW (c1 k) = true := by
  cases k <;> exact ⟨rfl, rfl⟩
theorem none_of {os : List Wt} (h : ∀ o ∈ os, 5 ≤ o.str) : os = [] := by
  cases os with
  | nil => rfl
  | cons o r => have := h o (by simp); have := str_le o; omega
theorem one_of {qs : List Pt} {t : Pt} (f : Folds [] qs t) : qs = [t] := by
  have e := f 1 [] [.lp] (by simp)
  rw [List.append_nil] at e
  rw [show ([] : List Wt) ++ [Wt.lp] = [.lp] from rfl, settleM_stop (by decide), settleM_stop (by decide)] at e
  simpa using e
theorem G.run {L : List Nat} (hL : LetS L) {l : Nat} {t : Pt} {w : List Nat} (h : G L l t w) : ∀ ps ws, (l ≤ 2 → ∃ a r, ws = a :: r ∧ a.str < l + 1) →
    ∃ qs os, putsM (toks true w) (ps, ws) = some (qs ++ ps, os ++ ws) ∧ Folds os qs t ∧ ∀ o ∈ os, l + 1 ≤ o.str := by
  induction h with
  | leaf k =>
    intro ps ws _
    refine ⟨[.leaf k], [], ?_, fun s ps ws _ => rfl, by simp⟩
    show putsM (tok (c0 k) :: []) (ps, ws) = _
    rw [tok_c0]
    rfl
  | sign h =>
    rename_i c
    intro ps ws _
    refine ⟨[.sign c], [], ?_, fun s ps ws _ => rfl, by simp⟩
    show putsM (tok c :: []) (ps, ws) = _
    rw [(sign_facts (hL _ h)).2.2]
    rfl
  | par h ih =>
    rename_i l t w
    intro ps ws _
    obtain ⟨qs, os, e, f, hs⟩ := ih ps (.lp :: ws) (fun _ => ⟨.lp, ws, rfl, Nat.succ_pos _⟩)
    refine ⟨[t], [], ?_, fun s ps ws _ => rfl, by simp⟩
    show putsM (.lp :: toks true (w ++ [41])) (ps, ws) = _
    rw [toks_app, h.last hL]
    show putsM (toks true w ++ [.rp]) (ps, .lp :: ws) = _
    rw [putsM_app, e]
    show ((settleM 1 (qs ++ ps) (os ++ .lp :: ws)).bind popM).bind (putsM []) = _
    rw [f 1 ps _ (fun o ho => by have := hs o ho; omega), settleM_stop (by decide)]
    rfl
  | again h ih =>
    rename_i t w
    intro ps ws _
    obtain ⟨qs, os, e, f, hs⟩ := ih ps ws (fun z => absurd z (by decide))
    obtain rfl := none_of hs
    obtain rfl := one_of f
    refine ⟨[.one .again t], [], ?_, fun s ps ws _ => rfl, by simp⟩
    rw [toks_app, h.last hL, putsM_app, e]
    rfl
  | pre k h hl ih =>
    rename_i l t w
    intro ps ws _
    obtain ⟨qs, os, e, f, hs⟩ := ih ps (.un k :: ws) (fun z => absurd z (by omega))
    refine ⟨qs, os ++ [.un k], ?_, fun s ps ws hall => ?_, fun o ho => ?_⟩
    · show putsM (tok (c1 k) :: toks (isW (c1 k)) w) (ps, ws) = _
      rw [(tok_c1 k).1, (tok_c1 k).2, List.append_assoc]
      exact e
    · rw [List.append_assoc]
      rw [f s ps _ (fun o ho => hall o (by simp [ho]))]
      exact settleM_un (hall (.un k) (by simp))
    · rcases List.mem_append.mp ho with ho | ho
      · have := hs o ho; omega
      · obtain rfl : o = .un k := by simpa using ho
        exact Nat.le_refl _
  | bin k hx hy ha hb ih1 ih2 =>
    rename_i a b x y u v
    intro ps ws hws
    obtain ⟨top, r, rfl, htop⟩ := hws (lvl_le k)
    obtain ⟨q1, o1, e1, f1, h1⟩ := ih1 ps (top :: r) (fun _ => ⟨top, r, rfl, by omega⟩)
    obtain ⟨q2, o2, e2, f2, h2⟩ := ih2 (x :: ps) (.bin k :: top :: r) (fun _ => ⟨.bin k, _, rfl, by show lvl k + 1 < _; omega⟩)
    have hput : putM (q1 ++ ps) (o1 ++ top :: r) (.bin k) = some (x :: ps, .bin k :: top :: r) := by
      show (settleM (lvl k + 1) (q1 ++ ps) (o1 ++ top :: r)).map _ = _
      rw [f1 _ _ _ (fun o ho => by have := h1 o ho; omega), settleM_stop htop]
      rfl
    refine ⟨q2 ++ [x], o2 ++ [.bin k], ?_, fun s ps ws hall => ?_, fun o ho => ?_⟩
    · have hmid : putsM (toks false (m2 k ++ v)) (q1 ++ ps, o1 ++ top :: r) = putsM (toks true v) (x :: ps, .bin k :: top :: r) := by
        have hstep : putsM (.bin k :: toks true v) (q1 ++ ps, o1 ++ top :: r) = putsM (toks true v) (x :: ps, .bin k :: top :: r) := by
          show (putM (q1 ++ ps) (o1 ++ top :: r) (.bin k)).bind _ = _
          rw [hput]
          rfl
        cases k with
        | then_ =>
          obtain ⟨c, r', rfl, hc⟩ := hy.first hL
          show putsM (toks false (c :: r')) _ = _
          rw [toks_then hc]
          exact hstep
        | either => exact hstep
        | less => exact hstep
        | both => exact hstep
      rw [List.append_assoc, toks_app, hx.last hL, putsM_app, e1]
      show putsM (toks false (m2 k ++ v)) (q1 ++ ps, o1 ++ top :: r) = _
      rw [hmid, e2, List.append_assoc, List.append_assoc]
      rfl
    · rw [List.append_assoc, List.append_assoc]
      rw [show q2 ++ ([x] ++ ps) = q2 ++ (x :: ps) from rfl, f2 s (x :: ps) _ (fun o ho => hall o (by simp [ho]))]
      exact settleM_bin (hall (.bin k) (by simp))
    · rcases List.mem_append.mp ho with ho | ho
      · have := h2 o ho; omega
      · obtain rfl : o = .bin k := by simpa using ho
        exact Nat.le_refl _
theorem G.read {L : List Nat} (hL : LetS L) {l : Nat} {t : Pt} {w : List Nat} (h : G L l t w) : putsM (toks true (40 :: (w ++ [41]))) ([], []) = some ([t], []) := by
  obtain ⟨qs, os, e, f, hs⟩ := (G.par h).run hL [] [] (fun z => absurd z (by decide))
  obtain rfl := none_of hs
  obtain rfl := one_of f
  exact e
def canS (L : List Nat) (c : Nat) (w : Bool) (d : Nat) : Bool :=
  if L.contains c || [48, 49, 46, 33, 60, 40].contains c then true
  else if c = 41 then decide (0 < d) && !w
  else [42, 38, 124, 45].contains c && !w
def dAfter (c d : Nat) : Nat := if c = 41 then (if c = 40 then d + 1 else d) - 1 else if c = 40 then d + 1 else d
def scan (L : List Nat) : Nat → Bool → List Nat → Option (Nat × Bool)
  | d, w, [] => some (d, w)
  | d, w, c :: cs => if canS L c w d = true then scan L (dAfter c d) (isW c) cs else none
theorem scan_app (L : List Nat) : ∀ (u v : List Nat) (d : Nat) (w : Bool), scan L d w (u ++ v) = (scan L d w u).bind fun r => scan L r.1 r.2 v
  | [], _, _, _ => rfl
  | c :: u, v, d, w => by
    show (if canS L c w d = true then scan L (dAfter c d) (isW c) (u ++ v) else none) = (if canS L c w d = true then scan L (dAfter c d) (isW c) u else none).bind _
    by_cases h : canS L c w d = true
    · rw [if_pos h, if_pos h]
      exact scan_app L u v _ _
    · rw [if_neg h, if_neg h]
      rfl
theorem canS_in {L : List Nat} {c : Nat} {w : Bool} {d : Nat} (h : c ∈ L) : canS L c w d = true := by
  unfold canS
  rw [if_pos (by simp [h])]
theorem canS_beg {L : List Nat} {c : Nat} {w : Bool} {d : Nat} (h : [48, 49, 46, 33, 60, 40].contains c = true) : canS L c w d = true := by
  unfold canS
  rw [if_pos (by rw [h]; simp)]
theorem canS_op {L : List Nat} {c d : Nat} (h : [42, 38, 124, 45].contains c = true) (h2 : c ≠ 41) : canS L c false d = true := by
  unfold canS
  rw [if_neg h2, h]
  split <;> rfl
theorem canS_rp {L : List Nat} {d : Nat} : canS L 41 false (d + 1) = true := by
  unfold canS
  rw [if_pos rfl, decide_eq_true (Nat.succ_pos d)]
  split <;> rfl
theorem dAfter_ne {c d : Nat} (h1 : c ≠ 40) (h2 : c ≠ 41) : dAfter c d = d := by
  unfold dAfter
  rw [if_neg h2, if_neg h1]
theorem G.scan {L : List Nat} (hL : LetS L) {l : Nat} {t : Pt} {w : List Nat} (h : G L l t w) : ∀ d b, scan L d b w = some (d, false) := by
  induction h with
  | leaf k =>
    intro d b
    show (if canS L (c0 k) b d = true then some (dAfter (c0 k) d, isW (c0 k)) else none) = _
    rw [if_pos (canS_beg (by cases k <;> rfl))]
    cases k <;> rfl
  | sign h =>
    rename_i c
    intro d b
    have := hL _ h
    show (if canS L c b d = true then some (dAfter c d, isW c) else none) = _
    rw [if_pos (canS_in h), dAfter_ne (by omega) (by omega), (sign_facts (hL _ h)).1]
  | par h ih =>
    rename_i l t w
    intro d b
    show (if canS L 40 b d = true then RA.scan L (d + 1) true (w ++ [41]) else none) = _
    rw [if_pos (canS_beg rfl), scan_app, ih]
    show (if canS L 41 false (d + 1) = true then some (d + 1 - 1, false) else none) = _
    rw [if_pos canS_rp]
    rfl
  | again h ih =>
    intro d b
    rw [scan_app, ih]
    show (if canS L 42 false d = true then some (d, false) else none) = _
    rw [if_pos (canS_op rfl (by decide))]
  | pre k h hl ih =>
    rename_i l t w
    intro d b
    show (if canS L (c1 k) b d = true then RA.scan L (dAfter (c1 k) d) (isW (c1 k)) w else none) = _
    rw [if_pos (canS_beg (by cases k <;> rfl)), (tok_c1 k).2, ih, dAfter_ne (by cases k <;> decide) (by cases k <;> decide)]
  | bin k hx hy ha hb ih1 ih2 =>
    rename_i a b x y u v
    intro d b
    rw [List.append_assoc, scan_app, ih1]
    show RA.scan L d false (m2 k ++ v) = _
    cases k with
    | then_ => exact ih2 d false
    | either =>
      show (if canS L 124 false d = true then RA.scan L d true v else none) = _
      rw [if_pos (canS_op rfl (by decide))]
      exact ih2 _ _
    | less =>
      show (if canS L 45 false d = true then RA.scan L d true v else none) = _
      rw [if_pos (canS_op rfl (by decide))]
      exact ih2 _ _
    | both =>
      show (if canS L 38 false d = true then RA.scan L d true v else none) = _
      rw [if_pos (canS_op rfl (by decide))]
      exact ih2 _ _
def strP : Pt → Nat
  | .leaf _ => 5
  | .sign _ => 5
  | .one .again _ => 5
  | .one _ _ => 4
  | .two k _ _ => lvl k + 1
def inM (b : Bool) (w : List Nat) : List Nat := if b = true then 40 :: (w ++ [41]) else w
def txtM : Pt → List Nat
  | .leaf k => [c0 k]
  | .sign c => [c]
  | .one .again x => inM (decide (strP x < 5)) (txtM x) ++ [42]
  | .one .outside x => 33 :: inM (decide (strP x < 4)) (txtM x)
  | .one .turned x => 60 :: inM (decide (strP x < 4)) (txtM x)
  | .two k x y => inM (decide (strP x < lvl k + 1)) (txtM x) ++ m2 k ++ inM (decide (strP y < lvl k + 2)) (txtM y)
def Pt.sz : Pt → Nat
  | .leaf _ => 1
  | .sign _ => 1
  | .one _ x => x.sz + 1
  | .two _ x y => x.sz + y.sz + 1
theorem inM_len (b : Bool) (w : List Nat) : (inM b w).length ≤ w.length + 2 := by
  unfold inM
  split
  · simp
  · omega
theorem txtM_len : ∀ t : Pt, (txtM t).length ≤ 5 * t.sz
  | .leaf _ => by show 1 ≤ 5; decide
  | .sign _ => by show 1 ≤ 5; decide
  | .one k x => by
    have h := txtM_len x
    have h1 := inM_len (decide (strP x < 5)) (txtM x)
    have h2 := inM_len (decide (strP x < 4)) (txtM x)
    cases k <;> simp only [txtM, Pt.sz, List.length_append, List.length_cons, List.length_nil] <;> omega
  | .two k x y => by
    have h := txtM_len x
    have h' := txtM_len y
    have h1 := inM_len (decide (strP x < lvl k + 1)) (txtM x)
    have h2 := inM_len (decide (strP y < lvl k + 2)) (txtM y)
    have h3 : (m2 k).length ≤ 1 := by cases k <;> decide
    simp only [txtM, Pt.sz, List.length_append]
    omega
def Pt.over (L : List Nat) : Pt → Prop
  | .leaf _ => True
  | .sign c => c ∈ L
  | .one _ x => x.over L
  | .two _ x y => x.over L ∧ y.over L
theorem G.weak {L : List Nat} {l m : Nat} {t : Pt} {w : List Nat} (h : G L l t w) (b : Bool) (hb : b = false → m ≤ l) (hm : m ≤ 4) : ∃ l', m ≤ l' ∧ G L l' t (inM b w) := by
  cases b with
  | false => exact ⟨l, hb rfl, h⟩
  | true => exact ⟨4, hm, G.par h⟩
theorem settleM_len {s : Nat} : ∀ {ws : List Wt} {ps ps' : List Pt} {ws' : List Wt}, settleM s ps ws = some (ps', ws') → ps'.length ≤ ps.length ∧ ws'.length ≤ ws.length
  | [], ps, ps', ws', h => by simp [settleM] at h
  | w :: ws, ps, ps', ws', h => by
    unfold settleM at h
    by_cases hs : s ≤ w.str
    · rw [if_pos hs] at h
      match w, ps, h with
      | .un k, x :: qs, h =>
        have := settleM_len h
        simp only [List.length_cons] at this ⊢
        omega
      | .bin k, y :: x :: qs, h =>
        have := settleM_len h
        simp only [List.length_cons] at this ⊢
        omega
    · rw [if_neg hs] at h
      cases h
      exact ⟨Nat.le_refl _, Nat.le_refl _⟩
theorem putM_len {ps ps' : List Pt} {ws ws' : List Wt} {t : Tk} (h : putM ps ws t = some (ps', ws')) : ps'.length ≤ ps.length + 1 ∧ ws'.length ≤ ws.length + 1 := by
  cases t with
  | lp => cases h; exact ⟨Nat.le_succ _, Nat.le_refl _⟩
  | un k => cases h; exact ⟨Nat.le_succ _, Nat.le_refl _⟩
  | piece t => cases h; exact ⟨Nat.le_refl _, Nat.le_succ _⟩
  | star =>
    cases ps with
    | nil => cases h
    | cons x qs => cases h; exact ⟨Nat.le_succ _, Nat.le_succ _⟩
  | bin k =>
    obtain ⟨r, hr, e⟩ := Option.map_eq_some_iff.mp h
    cases e
    have := settleM_len (ps' := r.1) (ws' := r.2) hr
    simp only [List.length_cons]
    omega
  | rp =>
    obtain ⟨r, hr, e⟩ := Option.bind_eq_some_iff.mp h
    have h1 := settleM_len (ps' := r.1) (ws' := r.2) hr
    obtain ⟨a, b⟩ := r
    cases b with
    | nil => cases e
    | cons x b => cases e; simp only [List.length_cons] at h1; omega
theorem toks_len : ∀ (w : List Nat) (b : Bool), (toks b w).length ≤ 2 * w.length
  | [], _ => Nat.le_refl _
  | c :: cs, b => by
    have := toks_len cs (isW c)
    unfold toks
    rw [List.length_append, List.length_cons, List.length_cons]
    split
    · rw [List.length_cons, List.length_nil]; omega
    · rw [List.length_nil]; omega
theorem putsM_take {ts : List Tk} {r r' : List Pt × List Wt} (h : putsM ts r = some r') (i : Nat) : ∃ r1, putsM (ts.take i) r = some r1 ∧ putsM (ts.drop i) r1 = some r' := by
  rw [← List.take_append_drop i ts, putsM_app] at h
  exact Option.bind_eq_some_iff.mp h
end RA
namespace L2
open PySem PySem.Spec PyProof.Rows
section
variable {κ : Type} [DecidableEq κ]
def valV (kvs : List (κ × V)) (k : κ) : Option V := (kvs.find? fun kv => decide (kv.1 = k)).map (·.2)
theorem valV_pos {p : κ × V} {r : List (κ × V)} {k : κ} (e : p.1 = k) : valV (p :: r) k = some p.2 := by simp [valV, List.find?_cons, e]
theorem valV_neg {p : κ × V} {r : List (κ × V)} {k : κ} (e : ¬ p.1 = k) : valV (p :: r) k = valV r k := by simp [valV, List.find?_cons, e]
theorem RelO.getD {o : Option V} {u : Option Value} {d : V} {d' : Value} (r : RelO o u) (rd : RelV d d') : RelV (o.getD d) (u.getD d') := by
  cases o with
  | none => cases u with
    | none => exact rd
    | some _ => exact (show False from r).elim
  | some _ => cases u with
    | none => exact (show False from r).elim
    | some _ => exact r
theorem KV.val {kvs : List (κ × V)} {vs : List (κ × Value)} (r : KV kvs vs) (k : κ) : RelO (valV kvs k) (valueAt vs k) := by
  unfold KV at r
  induction r with
  | nil => exact True.intro
  | @cons p q ps qs h t ih =>
    obtain ⟨h1, h2⟩ := h
    by_cases e : p.1 = k
    · have e' : q.1 = k := h1.symm.trans e
      have b : valueAt (q :: qs) k = some q.2 := by simp [valueAt, List.find?_cons, e']
      rw [valV_pos e, b]; exact h2
    · have e' : ¬ q.1 = k := fun z => e (h1.trans z)
      have b : valueAt (q :: qs) k = valueAt qs k := by simp [valueAt, List.find?_cons, e']
      rw [valV_neg e, b]; exact ih
end
theorem kV_is {P : Program} {w : World} {k : Key} {u : Value} (r : RelV (kV k) u) : (mixKind P w).is k u = true := by
  cases k with
  | inl i => obtain ⟨t, e⟩ := (show ∃ t, u = Value.int i t from r); subst e; exact mixKind_int P w i t
  | inr x => obtain ⟨t, e⟩ := (show ∃ t, u = Value.str x t from r); subst e; exact mixKind_str P w x t
structure DictK (P : Program) (w : World) (K : PySem.W.Frag) (d : Addr) (kvs : List (Key × V)) : Prop where
  at_ : ∀ h : Heap, K.In h → ∃ vs, KV kvs vs ∧ h.DictOf (mixKind P w) d vs
  ns : (d == sysModules) = false
section
variable {X : Cx} {d : Addr} {kvs : List (Key × V)}
def rIxD (d : Addr) (kvs : List (Key × V)) : R2 := fun x y H Q => ∃ k v, x = .ref d ∧ y = kV k ∧ valV kvs k = some v ∧ Q v H
theorem ix_dictK (D : DictK X.prog X.w X.K d kvs) : IxR X (rIxD d kvs) := by
  intro value slice pins s σ H x y v u Q I rx ry h hs
  obtain ⟨k, z, rfl, rfl, hv, q⟩ := h
  cases rx
  obtain ⟨vs, rel, dd⟩ := D.at_ _ I.kIn
  obtain ⟨w', hw, rw'⟩ := RelO.some_of (v := z) (o := valueAt vs k) (by rw [← hv]; exact rel.val k)
  exact tail_any (ops := [.ref d, u]) dd.typeIs PySem.F.slot_dict_getitem.lookup (wpAny_getItem_of (kV_is ry) dd.mapOf hw ⟨z, H, I.tok _, rw', q⟩) hs
def tGetK (d : Addr) (kvs : List (Key × V)) (to : TE) (t : TA) : TE := fun σ H Q => to σ H fun x H1 => x = .ref d ∧ t σ H1 fun xs H2 => ∃ k z, xs = [kV k, z] ∧ Q ((valV kvs k).getD z) H2
theorem pe_getK (D : DictK X.prog X.w X.K d kvs) {o e f : Expr} {apos cpos : Pos} {to : TE} {t : TA} (ho : PE X o to) (ha : PA X [e, f] t)
    (hbase : attributeBase o "get" X.env (eval o X.env) = eval o X.env := by rfl)
    (hfew : ((backTo cpos (starEach [e, f] X.env)).all (fun x => !x.1) && (backToKw cpos (keywordEach [] X.env)).all (fun x => x.1.isSome)
      && decide (([e, f] : List Expr).length + ([] : List Keyword).length + (if ([] : List Keyword).isEmpty then 0 else 1) < 30)) = true := by rfl)
    (hline : (apos.endLine == cpos.line) = true := by rfl) (hs : starEach [e, f] X.env = (false, eval e X.env) :: starEach [f] X.env := by rfl) (hplain : (backTo cpos (starEach [f] X.env)).any (·.1) = false := by rfl) :
    PE X (.Call (.Attribute o "get" apos) [e, f] [] cpos) (tGetK d kvs to t) := by
  intro pins s σ H Q I h
  refine wpAny_Call_method_late hbase hfew hline rfl (thn (ho pins s σ H _ I h) fun v s1 ⟨x, H1, I1, r1, ex, q1⟩ => ?_)
  subst ex
  cases r1
  obtain ⟨vs, rel, dd⟩ := D.at_ _ I1.kIn
  obtain ⟨ob, es, ep, h1, h2, h3⟩ := id dd
  refine ⟨"dict", _, PySem.F.plainAttrs_dict, PySem.F.slot_dict_get, PySem.F.type_dict_get, dd.typeIs, fun a e => ?_, ?_⟩
  · cases e
    exact ⟨ob, h1, h2.2.1⟩
  · have hA := ha cpos pins s1 σ H1 _ I1 q1
    rw [hs] at hA ⊢
    refine Calls.callWith_builtin (by show (false || (backTo cpos (starEach [f] X.env)).any (·.1)) = false; rw [hplain] <;> rfl) (Calls.evalArgs_plain ?_)
    refine thn hA fun us s2 z => ?_
    obtain ⟨xs, H2, I2, r2, k, y, rfl, q2⟩ := z
    obtain ⟨u1, u2, rfl, ry, rz⟩ := vals2 r2
    obtain ⟨vs2, rel2, dd2⟩ := D.at_ _ I2.kIn
    exact call_meetsIn PySem.F.slot_dict_get dd2.typeIs PySem.F.entry_dict_get (PySem.F.args_dict_get_3 _ _ _) (meets_dict_get_default (mixKind X.prog X.w) d (kV_is ry) D.ns u2) ⟨_, dd2.mapOf, ⟨_, H2, I2.tok _, (rel2.val k).getD rz, q2⟩⟩
end
end L2
namespace L2
open PySem PySem.Spec PyProof.Rows
def Ite (x : Str) : It := ⟨fun i _ => i < x.length, fun i H v H' => ∃ p c, x.cps[i]? = some c ∧ v = .ref p ∧ H p = none ∧ H' = upd H p (.tup [.int (i : Int), .str ⟨#[c]⟩]), fun i _ => x.length ≤ i⟩
theorem turn_enum {P : Program} {w : World} {K : PySem.W.Frag} {es : List Expr} {kt : Nat} {pt : Pos} (x : Str) (t : Tok) (e it : Addr) (hne : e ≠ it) :
    Turn P w K (.Tuple es kt pt) (Ite x) [e, it] e (fun i h => i ≤ x.length ∧ (∃ old, IsEnum h e it i old) ∧ ZP.strAt x t it i h) where
  mem := by simp
  obj := fun i h ⟨_, ⟨old, he⟩, ⟨o1, e1, _, d1⟩⟩ c hc => by
    simp only [List.mem_cons, List.not_mem_nil, or_false] at hc
    rcases hc with rfl | rfl
    · exact ⟨_, he, fun v q => by cases q⟩
    · exact ⟨o1, e1, fun v q => by rw [d1] at q; cases q⟩
  keep := fun i h h' ⟨b1, ⟨old, he⟩, ⟨o1, e1, r1⟩⟩ k => ⟨b1, ⟨old, k e (by simp) _ he⟩, ⟨o1, k it (by simp) _ e1, r1⟩⟩
  item := by
    intro X hP hw hK hc i pins s σ H E I hf ⟨b1, ⟨old, he⟩, s1⟩ l1
    subst hP hw hK
    refine wpAny_pyNext_enum_itemD (ZP.draws (A := X.A.in1) (I.ok.hd hc) it x t) he s1 l1 hne (by simp [hne]) fun v g tk pv ho st new hsz gk => ⟨_, rfl, ?_⟩
    obtain ⟨c, u, hc1, rfl⟩ := pv
    refine wpAny_letOwnedTupleGo_enum (s := { s with heap := g, toks := tk + 1 }) ho fun g' ge gs => ?_
    have up : ∀ b o, b ≠ e → g.get? b = some o → g'.get? b = some o := fun b o hb q => (gs.2 b hb).trans q
    have ne : s.heap.objs.size ≠ e := Nat.ne_of_gt (Heap.lt_size he)
    have tup : ObjOk X.prog X.w (upd H s.heap.objs.size (.tup [.int (i : Int), .str ⟨#[c]⟩])) g' s.heap.objs.size (.tup [.int (i : Int), .str ⟨#[c]⟩]) :=
      ⟨line_ge (by show 2 ≤ 16777216; decide), [.int i tk, .str ⟨#[c]⟩ u], .cons ⟨_, rfl⟩ (.cons ⟨_, rfl⟩ .nil), ⟨_, up _ _ ne new, rfl, 0, rfl⟩⟩
    refine ⟨.ref s.heap.objs.size, _, I.turnedNew (S := [e, it]) (h' := g') (t' := tk + 1) (fun b o hb q => up b o (fun z => hb (by simp [z])) (gk b o (fun z => hb (by simp [z])) (fun z => hb (by simp [z])) q)) hf tup, rfl,
      ⟨_, c, hc1, rfl, I.hok.fresh (Nat.le_refl _), rfl⟩, ⟨l1, ⟨_, by rw [Int.natCast_succ]; exact ge⟩, ?_⟩, fun b hb => ?_⟩
    · obtain ⟨o, q, r⟩ := st
      exact ⟨o, up _ _ (fun z => hne z.symm) q, r⟩
    · have lt : b < s.heap.objs.size := by
        obtain ⟨o1, e1, _⟩ := s1
        simp only [List.mem_cons, List.not_mem_nil, or_false] at hb
        rcases hb with rfl | rfl
        · exact Heap.lt_size he
        · exact Heap.lt_size e1
      rw [upd_ne (Nat.ne_of_lt lt)]
      exact (hf b hb).1
  done := by
    intro X hP hw hK hc i pins s σ H E I hf ⟨b1, ⟨old, he⟩, s1⟩ hstop
    subst hP hw hK
    have hi : i = x.cps.size := by
      have e1 : x.length = x.cps.size := rfl
      have q : x.length ≤ i := hstop
      omega
    subst hi
    refine wpAny_pyNext_enum_endD (ZP.draws (A := X.A.in1) (I.ok.hd hc) it x t) he s1 fun g gs => ⟨rfl, ?_⟩
    exact I.turnedL (S := [e, it]) (fun b o hb q => gs b o (fun z => hb (by simp [z])) q) hf
  self := fun _ _ _ _ _ st h => by
    obtain ⟨_, ⟨old, he⟩, _⟩ := st
    exact wpAny_pyIter_enum he h
def iEnum (t : TA) : TI := fun σ H R => t σ H fun vs H1 => ∃ x, vs = [.str x] ∧ R (Ite x) H1
theorem pi_enum {X : Cx} {es : List Expr} {kt : Nat} {pt : Pos} {a : Expr} {ta : TA} {p pos : Pos} (hg : Gl X "enumerate") (hm : X.mg "enumerate" = none) (ha : PA X [a] ta) (hs : starEach [a] X.env = (false, eval a X.env) :: starEach [] X.env := by rfl)
    (hpl : (backTo pos (starEach [] X.env)).any (·.1) = false := by rfl) : PI X (.Tuple es kt pt) (.Call (.Name "enumerate" p) [a] [] pos) (iEnum ta) := by
  intro pins s σ H R I h
  refine wpAny_Call_Name_kw (ld_blt I hg hm PyProof.Rows.boot_enumerate (PyProof.Rows.callWith_type1 (thn (ha pos pins s σ H _ I h) fun us s1 z => ?_) hs hpl))
  obtain ⟨vs, H1, I1, r1, x, rfl, q⟩ := z
  obtain ⟨u1, rfl, t, rfl⟩ := vals1 r1
  refine call_enumerate_str fun g ge gi gz gk => wpAny_pyIter_enum (s := { s1 with heap := g }) ge ?_
  refine ⟨_, [s1.heap.objs.size + 1, s1.heap.objs.size], _, Ite x, H1, rfl, I1.kept (t' := s1.toks) gk, turn_enum x t _ _ (neA (by omega)), ⟨Nat.zero_le _, ⟨_, ge⟩, gi⟩, fun c hc => ?_, q⟩
  have hge : s1.heap.objs.size ≤ c := by
    simp only [List.mem_cons, List.not_mem_nil, or_false] at hc
    rcases hc with rfl | rfl
    · exact Nat.le_add_right _ _
    · exact Nat.le_refl _
  exact I1.fpOk hge (I1.hok.fresh hge)
theorem for_enum {x : Str} {g : TG} {tb : TS} {D : Ends} {σ : St} {H : Hp} (Pv : Nat → St → Hp → Prop) (h0 : Pv 0 σ H)
    (hs : ∀ i c p σ H, x.cps[i]? = some c → H p = none → Pv i σ H → g (.ref p) σ (upd H p (.tup [.int (i : Int), .str ⟨#[c]⟩])) fun σ2 H2 => tb { D with nx := Pv (i + 1), ct := Pv (i + 1), bk := D.nx } σ2 H2)
    (hd : ∀ σ H, Pv x.length σ H → D.nx σ H) :
    ∃ W : Nat → Nat → St → Hp → Prop, (∃ m, W 0 m σ H) ∧ ∀ i m σ H, W i m σ H →
      ((Ite x).stop i H ∧ D.nx σ H) ∨ ((Ite x).go i H ∧ ∃ N : St → Hp → Prop, (∀ σ' H', N σ' H' → ∃ m', m' < m ∧ W (i + 1) m' σ' H') ∧ ∀ v H', (Ite x).yld i H v H' → g v σ H' fun σ2 H2 => tb { D with nx := N, ct := N, bk := D.nx } σ2 H2) := by
  refine ⟨fun i m σ H => m = x.length - i ∧ i ≤ x.length ∧ Pv i σ H, ⟨x.length, by simp, Nat.zero_le _, h0⟩, ?_⟩
  rintro i m σ H ⟨rfl, hi, p⟩
  by_cases hlt : i < x.length
  · refine .inr ⟨hlt, Pv (i + 1), fun σ' H' p' => ⟨x.length - (i + 1), by omega, rfl, hlt, p'⟩, fun v H' q => ?_⟩
    obtain ⟨a, c, e1, rfl, e3, rfl⟩ := q
    exact hs i c a σ H e1 e3 p
  · have e : i = x.length := by omega
    subst e
    exact .inl ⟨Nat.le_refl _, hd σ H p⟩
end L2
namespace RA
open PySem L2
def wname : Wt → Str
  | .lp => tx [40]
  | .un .outside => "outside"
  | .un .turned => "turned"
  | .bin k => nm2 k
def wv (w : Wt) : V := .str (wname w)
def tname : Tk → Str
  | .lp => tx [40]
  | .rp => tx [41]
  | .star => "again"
  | .un k => wname (.un k)
  | .bin k => nm2 k
  | .piece (.leaf k) => nm0 k
  | .piece (.sign c) => tx [c]
  | .piece _ => tx []
def tv (t : Tk) : V := .str (tname t)
def Tk.ok : Tk → Prop
  | .piece (.leaf _) => True
  | .piece (.sign c) => 97 ≤ c ∧ c ≤ 122
  | .piece _ => False
  | _ => True
def dSIGNS : List (Key × V) := [(.inr "never", .str (tx [48])), (.inr "empty", .str (tx [49])), (.inr "any", .str (tx [46])), (.inr "either", .str (tx [124])), (.inr "less", .str (tx [45])), (.inr "both", .str (tx [38])), (.inr "then", .str (tx [])), (.inr "outside", .str (tx [33])), (.inr "turned", .str (tx [60])), (.inr "again", .str (tx [42]))]
def dKINDS : List (Key × V) := [(.inr (tx [48]), .str "never"), (.inr (tx [49]), .str "empty"), (.inr (tx [46]), .str "any"), (.inr (tx [124]), .str "either"), (.inr (tx [45]), .str "less"), (.inr (tx [38]), .str "both"), (.inr (tx [33]), .str "outside"), (.inr (tx [60]), .str "turned"), (.inr (tx [42]), .str "again")]
def dSTR : List (Key × V) := [(.inr "either", .int 1), (.inr "less", .int 1), (.inr "both", .int 2), (.inr "then", .int 3), (.inr "outside", .int 4), (.inr "turned", .int 4), (.inr "again", .int 5), (.inr "never", .int 5), (.inr "empty", .int 5), (.inr "sign", .int 5), (.inr "any", .int 5)]
theorem str_w (w : Wt) : (valV dSTR (.inr (wname w))).getD (.int 0) = .int (w.str : Nat) := by
  cases w with
  | lp => decide +kernel
  | un k => cases k <;> decide +kernel
  | bin k => cases k <;> decide +kernel
theorem str_bin (k : K2) : valV dSTR (.inr (nm2 k)) = some (.int ((lvl k : Nat) + 1)) := by cases k <;> decide +kernel
def knm : Pt → Str
  | .leaf k => nm0 k
  | .sign _ => "sign"
  | .one k _ => nm1 k
  | .two k _ _ => nm2 k
theorem str_t (t : Pt) : valV dSTR (.inr (knm t)) = some (.int (strP t : Nat)) := by
  cases t with
  | leaf k => cases k <;> (show valV dSTR (.inr _) = some (.int ((5 : Nat) : Int)); decide +kernel)
  | sign c => show valV dSTR (.inr "sign") = some (.int ((5 : Nat) : Int)); decide +kernel
  | one k x => cases k with
    | again => show valV dSTR (.inr "again") = some (.int ((5 : Nat) : Int)); decide +kernel
    | outside => show valV dSTR (.inr "outside") = some (.int ((4 : Nat) : Int)); decide +kernel
    | turned => show valV dSTR (.inr "turned") = some (.int ((4 : Nat) : Int)); decide +kernel
  | two k x y => show valV dSTR (.inr (nm2 k)) = some (.int ((lvl k + 1 : Nat) : Int)); cases k <;> decide +kernel
theorem sig_0 (k : K0) : valV dSIGNS (.inr (nm0 k)) = some (.str (tx [c0 k])) := by cases k <;> decide +kernel
def m1 : K1 → Nat
  | .outside => 33
  | .turned => 60
  | .again => 42
theorem sig_1 (k : K1) : valV dSIGNS (.inr (nm1 k)) = some (.str (tx [m1 k])) := by cases k <;> decide +kernel
theorem sig_2 (k : K2) : valV dSIGNS (.inr (nm2 k)) = some (.str (tx (m2 k))) := by cases k <;> decide +kernel
def SgOk (c : Nat) : Prop := (97 ≤ c ∧ c ≤ 122) ∨ c ∈ [40, 41, 42, 33, 60, 124, 45, 38, 48, 49, 46]
theorem tok_ok {c : Nat} (h : SgOk c) : (tok c).ok := by
  rcases h with h | h
  · rw [(sign_facts h).2.2]
    exact h
  · simp only [List.mem_cons, List.not_mem_nil, or_false] at h
    rcases h with rfl | rfl | rfl | rfl | rfl | rfl | rfl | rfl | rfl | rfl | rfl <;> exact True.intro
theorem tx_ne {a b : Nat} (h : a ≠ b) : ¬ ((Sum.inr (tx [a]) : Key) = Sum.inr (tx [b])) := fun e => h (by have := tx_inj (Sum.inr.inj e); simpa using this)
theorem kinds_get {c : Nat} (h : SgOk c) : (valV dKINDS (.inr (tx [c]))).getD (.str (tx [c])) = tv (tok c) := by
  rcases h with h | h
  · rw [(sign_facts h).2.2]
    unfold dKINDS
    repeat rw [valV_neg (tx_ne (by omega))]
    rfl
  · simp only [List.mem_cons, List.not_mem_nil, or_false] at h
    rcases h with rfl | rfl | rfl | rfl | rfl | rfl | rfl | rfl | rfl | rfl | rfl <;> decide +kernel
def Pats (c : Kd → Addr) (H : Hp) : List V → List Pt → Prop
  | [], [] => True
  | v :: vs, t :: ts => PatAt c H t v ∧ Pats c H vs ts
  | _, _ => False
theorem Pats.kp {c : Kd → Addr} {H H' : Hp} (k : Kp H H') : ∀ {xs : List V} {ts : List Pt}, Pats c H xs ts → Pats c H' xs ts
  | [], [], _ => trivial
  | _ :: _, _ :: _, h => ⟨h.1.kp k, Pats.kp k h.2⟩
theorem Pats.len {c : Kd → Addr} {H : Hp} : ∀ {xs : List V} {ts : List Pt}, Pats c H xs ts → xs.length = ts.length
  | [], [], _ => rfl
  | _ :: _, _ :: _, h => by rw [List.length_cons, List.length_cons, Pats.len h.2]
def dflds (pa wa : Addr) : List (Str × V) := putF "waiting" (.ref wa) (putF "patterns" (.ref pa) [])
theorem lk_pats (pa wa : Addr) : (dflds pa wa).lookup ("patterns" : Str) = some (.ref pa) := by
  unfold dflds
  rw [lookup_putF, if_neg (by decide +kernel), lookup_putF, if_pos rfl]
theorem lk_wait (pa wa : Addr) : (dflds pa wa).lookup ("waiting" : Str) = some (.ref wa) := by
  unfold dflds
  rw [lookup_putF, if_pos rfl]
structure DeskAt (c : Kd → Addr) (cD : Addr) (H : Hp) (d dx pa wa : Addr) (us : List V) (ps : List Pt) (ws : List Wt) : Prop where
  ob : H d = some (.ins cD dx (dflds pa wa))
  pl : H pa = some (.lst us.reverse)
  pt : Pats c H us ps
  wl : H wa = some (.lst (ws.reverse.map wv))
  ne : pa ≠ wa
def Off (pa wa : Addr) (H H' : Hp) : Prop := ∀ b o, H b = some o → b ≠ pa → b ≠ wa → H' b = some o
theorem Off.refl (pa wa : Addr) (H : Hp) : Off pa wa H H := fun _ _ e _ _ => e
theorem Off.trans {pa wa : Addr} {H H1 H2 : Hp} (a : Off pa wa H H1) (b : Off pa wa H1 H2) : Off pa wa H H2 := fun c o e h1 h2 => b c o (a c o e h1 h2) h1 h2
theorem Off.p {pa wa : Addr} {H : Hp} {o : HO} : Off pa wa H (upd H pa o) := fun b o' e h1 _ => by rw [upd_ne h1]; exact e
theorem Off.w {pa wa : Addr} {H : Hp} {o : HO} : Off pa wa H (upd H wa o) := fun b o' e _ h2 => by rw [upd_ne h2]; exact e
theorem Same.off {pa wa : Addr} {H H' : Hp} (s : Same H H') : Off pa wa H H' := fun b o e _ _ => s b o e
section
variable {c : Kd → Addr} {cD : Addr} {H H' : Hp} {d dx pa wa : Addr} {us : List V} {ps : List Pt} {ws : List Wt}
theorem DeskAt.same (D : DeskAt c cD H d dx pa wa us ps ws) (s : Same H H') : DeskAt c cD H' d dx pa wa us ps ws := ⟨s _ _ D.ob, s _ _ D.pl, D.pt.kp (Same.kp s), s _ _ D.wl, D.ne⟩
theorem DeskAt.pushP (D : DeskAt c cD H d dx pa wa us ps ws) {t : Pt} {v : V} (hv : PatAt c H t v) : DeskAt c cD (upd H pa (.lst (us.reverse ++ [v]))) d dx pa wa (v :: us) (t :: ps) ws := by
  have k := Kp.lst (o := .lst (us.reverse ++ [v])) D.pl
  exact ⟨k _ _ D.ob (fun _ z => nomatch z), by rw [upd_same, List.reverse_cons], ⟨hv.kp k, D.pt.kp k⟩, by rw [upd_ne (Ne.symm D.ne)]; exact D.wl, D.ne⟩
theorem DeskAt.popP {u : V} {t : Pt} (D : DeskAt c cD H d dx pa wa (u :: us) (t :: ps) ws) : DeskAt c cD (upd H pa (.lst us.reverse)) d dx pa wa us ps ws ∧ PatAt c (upd H pa (.lst us.reverse)) t u := by
  have k := Kp.lst (o := .lst us.reverse) D.pl
  exact ⟨⟨k _ _ D.ob (fun _ z => nomatch z), upd_same, D.pt.2.kp k, by rw [upd_ne (Ne.symm D.ne)]; exact D.wl, D.ne⟩, D.pt.1.kp k⟩
theorem DeskAt.pushW (D : DeskAt c cD H d dx pa wa us ps ws) (w : Wt) : DeskAt c cD (upd H wa (.lst (ws.reverse.map wv ++ [wv w]))) d dx pa wa us ps (w :: ws) := by
  have k := Kp.lst (o := .lst (ws.reverse.map wv ++ [wv w])) D.wl
  exact ⟨k _ _ D.ob (fun _ z => nomatch z), by rw [upd_ne D.ne]; exact D.pl, D.pt.kp k, by rw [upd_same, List.reverse_cons, List.map_append]; rfl, D.ne⟩
theorem DeskAt.popW {w : Wt} (D : DeskAt c cD H d dx pa wa us ps (w :: ws)) : DeskAt c cD (upd H wa (.lst (ws.reverse.map wv))) d dx pa wa us ps ws := by
  have k := Kp.lst (o := .lst (ws.reverse.map wv)) D.wl
  exact ⟨k _ _ D.ob (fun _ z => nomatch z), by rw [upd_ne D.ne]; exact D.pl, D.pt.kp k, upd_same, D.ne⟩
theorem DeskAt.wtop {w : Wt} (D : DeskAt c cD H d dx pa wa us ps (w :: ws)) : H wa = some (.lst (ws.reverse.map wv ++ [wv w])) := by
  have := D.wl
  rw [List.reverse_cons, List.map_append] at this
  exact this
theorem DeskAt.ptop {u : V} (D : DeskAt c cD H d dx pa wa (u :: us) ps ws) : H pa = some (.lst (us.reverse ++ [u])) := by
  have := D.pl
  rw [List.reverse_cons] at this
  exact this
theorem DeskAt.one (D : DeskAt c cD H d dx pa wa us ps ws) {t : Pt} {qs : List Pt} (e : ps = t :: qs) : ∃ u vs, us = u :: vs := by
  subst e
  cases us with
  | nil => exact D.pt.elim
  | cons u vs => exact ⟨u, vs, rfl⟩
end
end RA
namespace RA
open PySem L2
theorem dec_mem (c : Nat) (l : List Nat) : decide (c ∈ l) = l.contains c := by
  by_cases h : c ∈ l
  · rw [decide_eq_true h]; simp [h]
  · rw [decide_eq_false h]; simp [h]
theorem occ_one (l : List Nat) (c : Nat) : (!(Builtin.Str.occurrences (tx l) ⟨#[c]⟩ 0 (tx l).length 1).isEmpty) = l.contains c := by
  have e := contains_one l c
  unfold Txt.contains at e
  rw [← dec_mem]
  exact e
theorem one_eq {ch x : Nat} {s : Str} (hl : s = tx [x]) : (V.str (tx [ch]) = V.str s) ↔ ch = x := by
  subst hl
  constructor
  · intro h
    have := tx_inj (V.str.inj h)
    simpa using this
  · intro h
    rw [h]
theorem sg_ne {c : Nat} {s : Str} {l : List Nat} (hl : s = tx l) (hn : l ≠ [c]) : tx [c] ≠ s := fun e => hn (tx_inj (e.trans hl)).symm
def isPre : Tk → Bool
  | .lp => true
  | .un _ => true
  | _ => false
def isBin : Tk → Bool
  | .bin _ => true
  | _ => false
def isRp : Tk → Bool
  | .rp => true
  | _ => false
def isStar : Tk → Bool
  | .star => true
  | _ => false
theorem eqV_str (a b : Str) : eqV (.str a) (.str b) = decide (a = b) := by
  show (a == b) = _
  by_cases h : a = b
  · rw [decide_eq_true h]; exact beq_iff_eq.mpr h
  · rw [decide_eq_false h]; exact beq_eq_false_iff_ne.mpr h
theorem inV_sign {c : Nat} {xs : List V} (h : ∀ x ∈ xs, ∃ s, x = .str s ∧ tx [c] ≠ s) : inV (.str (tx [c])) xs = false := by
  unfold inV
  rw [List.any_eq_false]
  intro x hx
  obtain ⟨s, rfl, hs⟩ := h x hx
  simp only [eqV_str, decide_eq_true_eq]
  first | exact hs | exact fun e => hs e.symm | (intro e; exact hs e) | (intro e; exact hs e.symm)
theorem in_pre {t : Tk} (h : t.ok) : inV (tv t) [.str (Str.ofString "("), .str (Str.ofString "outside"), .str (Str.ofString "turned")] = isPre t := by
  cases t with
  | lp => decide +kernel
  | rp => decide +kernel
  | star => decide +kernel
  | un k => cases k <;> decide +kernel
  | bin k => cases k <;> decide +kernel
  | piece p =>
    cases p with
    | leaf k => cases k <;> decide +kernel
    | sign c =>
      refine inV_sign fun x hx => ?_
      have h : 97 ≤ c ∧ c ≤ 122 := h
      simp only [List.mem_cons, List.not_mem_nil, or_false] at hx
      rcases hx with rfl | rfl | rfl
      · exact ⟨_, rfl, sg_ne (l := [40]) (by decide +kernel) (by intro e; simp at e; omega)⟩
      · exact ⟨_, rfl, sg_ne (l := [111, 117, 116, 115, 105, 100, 101]) (by decide +kernel) (by intro e; simp at e)⟩
      · exact ⟨_, rfl, sg_ne (l := [116, 117, 114, 110, 101, 100]) (by decide +kernel) (by intro e; simp at e)⟩
    | one _ _ => exact (show False from h).elim
    | two _ _ _ => exact (show False from h).elim
theorem in_bin {t : Tk} (h : t.ok) : inV (tv t) [.str (Str.ofString "either"), .str (Str.ofString "less"), .str (Str.ofString "both"), .str (Str.ofString "then")] = isBin t := by
  cases t with
  | lp => decide +kernel
  | rp => decide +kernel
  | star => decide +kernel
  | un k => cases k <;> decide +kernel
  | bin k => cases k <;> decide +kernel
  | piece p =>
    cases p with
    | leaf k => cases k <;> decide +kernel
    | sign c =>
      refine inV_sign fun x hx => ?_
      simp only [List.mem_cons, List.not_mem_nil, or_false] at hx
      rcases hx with rfl | rfl | rfl | rfl
      · exact ⟨_, rfl, sg_ne (l := [101, 105, 116, 104, 101, 114]) (by decide +kernel) (by intro e; simp at e)⟩
      · exact ⟨_, rfl, sg_ne (l := [108, 101, 115, 115]) (by decide +kernel) (by intro e; simp at e)⟩
      · exact ⟨_, rfl, sg_ne (l := [98, 111, 116, 104]) (by decide +kernel) (by intro e; simp at e)⟩
      · exact ⟨_, rfl, sg_ne (l := [116, 104, 101, 110]) (by decide +kernel) (by intro e; simp at e)⟩
    | one _ _ => exact (show False from h).elim
    | two _ _ _ => exact (show False from h).elim
theorem eq_rp {t : Tk} (h : t.ok) : decide (tv t = V.str (Str.ofString ")")) = isRp t := by
  cases t with
  | lp => decide +kernel
  | rp => decide +kernel
  | star => decide +kernel
  | un k => cases k <;> decide +kernel
  | bin k => cases k <;> decide +kernel
  | piece p =>
    cases p with
    | leaf k => cases k <;> decide +kernel
    | sign c =>
      have h : 97 ≤ c ∧ c ≤ 122 := h
      exact decide_eq_false (fun e => sg_ne (l := [41]) (by decide +kernel) (by intro e; simp at e; omega) (V.str.inj e))
    | one _ _ => exact (show False from h).elim
    | two _ _ _ => exact (show False from h).elim
theorem eq_star {t : Tk} (h : t.ok) : decide (tv t = V.str (Str.ofString "again")) = isStar t := by
  cases t with
  | lp => decide +kernel
  | rp => decide +kernel
  | star => decide +kernel
  | un k => cases k <;> decide +kernel
  | bin k => cases k <;> decide +kernel
  | piece p =>
    cases p with
    | leaf k => cases k <;> decide +kernel
    | sign c => exact decide_eq_false (fun e => sg_ne (l := [97, 103, 97, 105, 110]) (by decide +kernel) (by intro e; simp at e) (V.str.inj e))
    | one _ _ => exact (show False from h).elim
    | two _ _ _ => exact (show False from h).elim
theorem toks_ok : ∀ {w : List Nat} (b : Bool), (∀ c ∈ w, SgOk c) → ∀ t ∈ toks b w, t.ok
  | [], _, _, t, ht => by simp [toks] at ht
  | c :: cs, b, h, t, ht => by
    unfold toks at ht
    rcases List.mem_append.mp ht with ht | ht
    · split at ht
      · obtain rfl : t = .bin .then_ := by simpa using ht
        exact True.intro
      · simp at ht
    · rcases List.mem_cons.mp ht with rfl | ht
      · exact tok_ok (h c (by simp))
      · exact toks_ok _ (fun d hd => h d (by simp [hd])) t ht
end RA
namespace RA
open PySem L2
theorem G.sgs {L : List Nat} (hL : LetS L) {l : Nat} {t : Pt} {w : List Nat} (h : G L l t w) : ∀ ch ∈ w, SgOk ch := by
  induction h with
  | leaf k => intro ch hc; obtain rfl : ch = c0 k := by simpa using hc
              exact .inr (by cases k <;> decide)
  | sign h => intro ch hc; rename_i c; obtain rfl : ch = c := by simpa using hc
              exact .inl (hL _ h)
  | par h ih =>
    intro ch hc
    rcases List.mem_cons.mp hc with rfl | hc
    · exact .inr (by decide)
    · rcases List.mem_append.mp hc with hc | hc
      · exact ih ch hc
      · obtain rfl : ch = 41 := by simpa using hc
        exact .inr (by decide)
  | again h ih =>
    intro ch hc
    rcases List.mem_append.mp hc with hc | hc
    · exact ih ch hc
    · obtain rfl : ch = 42 := by simpa using hc
      exact .inr (by decide)
  | pre k h hl ih =>
    intro ch hc
    rcases List.mem_cons.mp hc with rfl | hc
    · exact .inr (by cases k <;> decide)
    · exact ih ch hc
  | bin k hx hy ha hb ih1 ih2 =>
    intro ch hc
    rcases List.mem_append.mp hc with hc | hc
    · rcases List.mem_append.mp hc with hc | hc
      · exact ih1 ch hc
      · exact .inr (by cases k <;> (simp [m2] at hc) <;> (subst hc; decide))
    · exact ih2 ch hc
def spDesk (K : PySem.W.Frag) (c : Kd → Addr) : Sp := fun vs H Q _ => ∃ d dx C, vs = [.ref d] ∧ H d = some (.ins C dx []) ∧ Cls K C ∧ NoAttr K C "patterns" ∧ NoAttr K C "waiting" ∧
  ∀ pa wa H', (∀ b o, H b = some o → b ≠ d → H' b = some o) → DeskAt c C H' d dx pa wa [] [] [] → H pa = none → H wa = none → Q .non H'
structure RdKit (P : Program) (w : World) (K : PySem.W.Frag) (mg : Str → Option Value) (base : Heap) (c : Kd → Addr) (cD d1 d2 d3 : Addr) : Prop where
  kS : mg "SIGNS" = some (.ref d1)
  kK : mg "KINDS" = some (.ref d2)
  kT : mg "STRENGTHS" = some (.ref d3)
  dS : DictK P w K d1 dSIGNS
  dK : DictK P w K d2 dKINDS
  dT : DictK P w K d3 dSTR
  kD : mg "Desk" = some (.ref cD)
  cl : Cls K cD
  nP : NoAttr K cD "patterns"
  nW : NoAttr K cD "waiting"
  ini : ∃ f fd, Mk K cD f ∧ FnOk P w K mg base CX0 1 f fd ["self"] (spDesk K c) ∧ Binds K fd ["self"] []
def spTxt (n : Nat) : Sp := fun vs H Q _ => ∃ (v : V) (t : Pt), vs = [v] ∧ ShAt H t v ∧ t.dep ≤ n ∧ t.sz ≤ 1000 ∧ Q (.str (tx (txtM t))) H
def spTin (n : Nat) : Sp := fun vs H Q _ => ∃ (v : V) (t : Pt) (m : Nat), vs = [v, .int (m : Int)] ∧ ShAt H t v ∧ t.dep ≤ n ∧ t.sz ≤ 1000 ∧ Q (.str (tx (inM (decide (strP t < m)) (txtM t)))) H
def spText (c : Kd → Addr) (n : Nat) : Sp := fun vs H Q _ => ∃ (a : Addr) (t : Pt), vs = [.ref a] ∧ PatAt c H t (.ref a) ∧ t.dep ≤ n ∧ t.sz ≤ 1000 ∧ ∀ H', Same H H' → Q (.str (tx (txtM t))) H'
end RA
namespace RA
open PySem L2
def Ents (w : World) : List DictEntry → List (Key × V) → Prop
  | [], [] => True
  | e :: es, kv :: kvs => (∃ x t, e.key = .str x t ∧ kv.1 = .inr x ∧ e.hash = PyData.keyHash w.params x) ∧ RelV kv.2 e.val ∧ Ents w es kvs
  | _, _ => False
theorem Ents.all {P : Program} {w : World} : ∀ {es : List DictEntry} {kvs : List (Key × V)}, Ents w es kvs → (∀ e ∈ es, ∃ k, (mixKind P w).is k e.key = true ∧ e.hash = (mixKind P w).hash k) ∧ ∃ vs, KV kvs vs ∧ Pairs (mixKind P w) es vs
  | [], [], _ => ⟨fun e he => by simp at he, [], .nil, .nil⟩
  | e :: es, (k, v) :: kvs, ⟨⟨x, t, e1, e2, e3⟩, hv, hr⟩ => by
    obtain ⟨i1, vs, i2, i3⟩ := Ents.all (P := P) hr
    have e2 : k = .inr x := e2
    subst e2
    have hk : (mixKind P w).is (Sum.inr x) e.key = true := by rw [e1]; exact mixKind_str P w x t
    refine ⟨fun e' he => ?_, (Sum.inr x, e.val) :: vs, .cons ⟨rfl, hv⟩ i2, .cons hk rfl i3⟩
    rcases List.mem_cons.mp he with rfl | he
    · exact ⟨Sum.inr x, hk, e3⟩
    · exact i1 e' he
theorem dictK_of {P : Program} {w : World} {K : PySem.W.Frag} {d : Addr} {es : Array DictEntry} {n : Nat} {kvs : List (Key × V)} (l : K.lookup d = some { cls := .type "dict", data := .dict es n }) (h : Ents w es.toList kvs) (hn : (kvs.map (·.1)).Nodup) (hs : (d == sysModules) = false) : DictK P w K d kvs := by
  obtain ⟨i1, vs, i2, i3⟩ := h.all (P := P)
  refine ⟨fun h0 X => ⟨vs, i2, _, es, n, X _ _ l, ⟨rfl, rfl, rfl⟩, rfl, fun e he => i1 e (Array.mem_toList_iff.mpr he), i3, ?_⟩, hs⟩
  have : kvs.map (·.1) = vs.map (·.1) := by
    clear hn h l i1 i3
    induction i2 with
    | nil => rfl
    | cons h t ih => rw [List.map_cons, List.map_cons, ih, h.1]
  rw [← this]
  exact hn
structure TxKit (P : Program) (w : World) (K : PySem.W.Frag) (mg : Str → Option Value) (base : Heap) (c : Kd → Addr) : Prop where
  tx : ∃ f fd, (∀ k, Meth K (c k) "text" f) ∧ Binds K fd ["self"] [] ∧ ∀ n, FnOk P w K mg base CX0 (2 * n + 1) f fd ["self"] (spText c n)
theorem nd_SIGNS : (dSIGNS.map (·.1)).Nodup := by decide +kernel
theorem nd_KINDS : (dKINDS.map (·.1)).Nodup := by decide +kernel
theorem nd_STR : (dSTR.map (·.1)).Nodup := by decide +kernel
end RA
namespace RA
open PySem L2
def PileR (R : Pt → V → Prop) : List V → List Pt → Prop
  | [], [] => True
  | v :: vs, t :: ts => R t v ∧ PileR R vs ts
  | _, _ => False
section
variable {R R' : Pt → V → Prop}
end
def zsum (ts : List Pt) : Nat := (ts.map Pt.sz).sum
def QuadAt (c : Kd → Addr) (L : List Nat) (H : Hp) (t : Pt) (v : V) : Prop := t.over L ∧ ∃ p u w, v = .ref p ∧ H p = some (.tup [u, w, .str (tx (txtM t)), .int ((strP t - 1 : Nat) : Int)]) ∧ PatAt c H t u ∧ ShAt H t w
theorem strP_pos (t : Pt) : 1 ≤ strP t := by
  cases t with
  | one k x => cases k <;> simp [strP]
  | two k x y => exact Nat.succ_le_succ (Nat.zero_le _)
  | leaf k => simp [strP]
  | sign k => simp [strP]
end RA
namespace RA
open PySem L2
theorem PatAt.ins' {c : Kd → Addr} {H : Hp} (m : Str) (hm : m ≠ "sign" ∧ m ≠ "inner" ∧ m ≠ "left" ∧ m ≠ "right") : ∀ {t : Pt} {v : V}, PatAt c H t v → ∃ a dx fs, v = .ref a ∧ H a = some (.ins (c t.kd) dx fs) ∧ fs.lookup m = none
  | .leaf _, _, ⟨a, dx, e, ha⟩ => ⟨a, dx, _, e, ha, rfl⟩
  | .sign _, _, ⟨a, dx, e, ha⟩ => ⟨a, dx, _, e, ha, by rw [lookup_putF, if_neg hm.1]; rfl⟩
  | .one _ x, _, ⟨a, dx, u, e, ha, hx⟩ => ⟨a, dx, _, e, ha, by rw [lookup_putF, if_neg hm.2.1]; rfl⟩
  | .two _ x y, _, ⟨a, dx, u, w, e, ha, hx, hy⟩ => ⟨a, dx, _, e, ha, by rw [lookup_putF, if_neg hm.2.2.2, lookup_putF, if_neg hm.2.2.1]; rfl⟩
end RA
namespace RA
open PySem L2
theorem ents_nil {w : World} : Ents w [] [] := trivial
theorem ents_cons {w : World} {e : DictEntry} {es : List DictEntry} {kv : Key × V} {kvs : List (Key × V)} {x : Str} {t : Tok} (h1 : e.key = .str x t) (h2 : kv.1 = .inr x) (h3 : e.hash = PyData.keyHash w.params x) (h4 : RelV kv.2 e.val) (r : Ents w es kvs) : Ents w (e :: es) (kv :: kvs) := ⟨⟨x, t, h1, h2, h3⟩, h4, r⟩
theorem rvs {x y : Str} {t : Tok} (h : y = x) : RelV (.str x) (.str y t) := ⟨t, by rw [h]⟩
end RA
namespace RA
open PySem L2
theorem G.le4 {L : List Nat} {l : Nat} {t : Pt} {w : List Nat} (g : G L l t w) : l ≤ 4 := by
  cases g <;> first | exact Nat.le_refl _ | decide | exact Nat.le_trans (lvl_le _) (by decide)
end RA
namespace RA
open PySem L2
def PileG {α : Type} (R : α → V → Prop) : List V → List α → Prop
  | [], [] => True
  | v :: vs, t :: ts => R t v ∧ PileG R vs ts
  | _, _ => False
section
variable {α : Type} {R R' : α → V → Prop}
theorem PileG.len : ∀ {xs : List V} {ts : List α}, PileG R xs ts → xs.length = ts.length
  | [], [], _ => rfl
  | _ :: _, _ :: _, h => by rw [List.length_cons, List.length_cons, PileG.len h.2]
theorem PileG.imp (k : ∀ t v, R t v → R' t v) : ∀ {xs : List V} {ts : List α}, PileG R xs ts → PileG R' xs ts
  | [], [], _ => trivial
  | _ :: _, _ :: _, h => ⟨k _ _ h.1, PileG.imp k h.2⟩
theorem PileG.snoc {v : V} {t : α} (hv : R t v) : ∀ {xs : List V} {ts : List α}, PileG R xs ts → PileG R (xs ++ [v]) (ts ++ [t])
  | [], [], _ => ⟨hv, trivial⟩
  | _ :: _, _ :: _, h => ⟨h.1, PileG.snoc hv h.2⟩
theorem PileG.last : ∀ {xs : List V} {ts : List α}, PileG R xs ts → 0 < xs.length → ∃ ys v us t, xs = ys ++ [v] ∧ ts = us ++ [t] ∧ PileG R ys us ∧ R t v
  | [], [], _, h => absurd h (Nat.lt_irrefl 0)
  | [v], [t], h, _ => ⟨[], v, [], t, rfl, rfl, trivial, h.1⟩
  | [_], _ :: _ :: _, h, _ => h.2.elim
  | _ :: _ :: _, [_], h, _ => h.2.elim
  | x :: y :: xs, t :: u :: ts, h, _ => by
    obtain ⟨ys, v, us, t', e1, e2, h1, h2⟩ := PileG.last (xs := y :: xs) (ts := u :: ts) h.2 (by simp)
    exact ⟨x :: ys, v, t :: us, t', by rw [e1]; rfl, by rw [e2]; rfl, ⟨h.1, h1⟩, h2⟩
end
structure Tt where
  t : Pt
  tw : List Nat
  l : Nat
def PentAt (L : List Nat) (H : Hp) (x : Tt) (v : V) : Prop := G L x.l x.t x.tw ∧ x.t.over L ∧ ∃ p sh, v = .ref p ∧ H p = some (.tup [.str (tx x.tw), .int (x.l : Int), .str (tx (txtM x.t)), .int ((strP x.t - 1 : Nat) : Int), sh]) ∧ ShAt H x.t sh
theorem PentAt.kp {L : List Nat} {H H' : Hp} (h : Kp H H') {x : Tt} {v : V} : PentAt L H x v → PentAt L H' x v
  | ⟨g, ov, p, sh, e, hp, h2⟩ => ⟨g, ov, p, sh, e, h _ _ hp (fun _ z => nomatch z), h2.kp h⟩
def Tt.wt (x : Tt) : Nat := x.tw.length
def tsum (f : Tt → Nat) (xs : List Tt) : Nat := (xs.map f).sum
theorem tsum_snoc (f : Tt → Nat) (xs : List Tt) (x : Tt) : tsum f (xs ++ [x]) = tsum f xs + f x := by
  unfold tsum
  rw [List.map_append, List.sum_append]
  simp
theorem inM_dec {b b' : Bool} {w : List Nat} (h : b = b') : inM b w = inM b' w := by rw [h]
theorem lv_dec (t : Pt) (m : Nat) : decide (((strP t - 1 : Nat)) < m) = decide (strP t < m + 1) := decide_eq_decide.mpr (by have := strP_pos t; omega)
end RA
namespace RA
open PySem L2
def wsum (xs : List Tt) : Nat := tsum (fun x => x.tw.length) xs
def zsumT (xs : List Tt) : Nat := tsum (fun x => x.t.sz) xs
def dsumT (xs : List Tt) : Nat := tsum (fun x => x.t.dep) xs
theorem wsum_snoc (xs : List Tt) (x : Tt) : wsum (xs ++ [x]) = wsum xs + x.tw.length := tsum_snoc _ xs x
theorem zsumT_snoc (xs : List Tt) (x : Tt) : zsumT (xs ++ [x]) = zsumT xs + x.t.sz := tsum_snoc _ xs x
theorem dsumT_snoc (xs : List Tt) (x : Tt) : dsumT (xs ++ [x]) = dsumT xs + x.t.dep := tsum_snoc _ xs x
end RA
namespace L2
open PySem PySem.Spec PyProof.Rows
theorem walk63z {l : PySem.W.OpenLaw} {k : Nat} {x : Str} {q : Program} {loose : List Str} {XP : (Str → Option Value) → Heap → Prop} {d : DefRec} {K : Params → PySem.W.Frag} (hn : l.most = some 63) (hdf : d.params.defaults = []) (hr : Room k callerA)
    (F : ∀ (w : World) (mg : Str → Option Value) (fa : Addr) (h : Heap), (K w.params).In h → h.Ns mainGlobals mg → mg d.name = some (.ref fa) →
      ∃ fd : FuncData, (∀ (s : Shared) (u : Value), BindsTo s fd ⟨[u], []⟩ [(x, u)]) ∧ ∀ base : Heap, (K w.params).In base → base.Ns mainGlobals mg → FnOk l.prog w (K w.params) mg base CX0 k fa fd [x] (spLaw (K w.params))) :
    PySem.W.WalkO q loose XP (fun w h => (K w.params).In h) l.row.toRowW d [] (fun f vs => PySem.call f vs) := walk63 hn hdf hr (fun _ _ Y => Y) F
end L2
namespace RA
open PySem L2
theorem len1 {α : Type} {l : List α} (h : l.length = 1) : ∃ a, l = [a] := match l, h with | [a], _ => ⟨a, rfl⟩
theorem len2 {α : Type} {l : List α} (h : l.length = 2) : ∃ a b, l = [a, b] := match l, h with | [a, b], _ => ⟨a, b, rfl⟩
theorem len3 {α : Type} {l : List α} (h : l.length = 3) : ∃ a b c, l = [a, b, c] := match l, h with | [a, b, c], _ => ⟨a, b, c, rfl⟩
theorem len4 {α : Type} {l : List α} (h : l.length = 4) : ∃ a b c d, l = [a, b, c, d] := match l, h with | [a, b, c, d], _ => ⟨a, b, c, d, rfl⟩
theorem len5 {α : Type} {l : List α} (h : l.length = 5) : ∃ a b c d e, l = [a, b, c, d, e] := match l, h with | [a, b, c, d, e], _ => ⟨a, b, c, d, e, rfl⟩
end RA
namespace K32
open PySem L2 RA
def top (i : Nat) : Stmt := PySem.Challenge.pw_roomalgebra_k32_texts_with_brackets.main.body.getD i (.Pass ⟨0, 0, 0, 0⟩)
abbrev s_is_letters : Stmt := top 6
abbrev s_need_letters : Stmt := top 7
abbrev s_text_of : Stmt := top 12
abbrev s_text_within : Stmt := top 13
abbrev s_is_wanting : Stmt := top 33
abbrev s_can_stand : Stmt := top 32
abbrev s_need_pattern : Stmt := top 31
abbrev s_piece_of : Stmt := top 39
abbrev s_pair_of : Stmt := top 40
abbrev s_settle : Stmt := top 38
abbrev s_put : Stmt := top 37
abbrev s_tokens_of : Stmt := top 36
abbrev s_pattern_of : Stmt := top 35
abbrev s_read : Stmt := top 30
abbrev s__law_cell_at : Stmt := top 42
abbrev s__law_letters : Stmt := top 43
abbrev s__law_in : Stmt := top 44
abbrev s__law_leaf : Stmt := top 45
abbrev s__law_lone : Stmt := top 46
abbrev s__law_pair : Stmt := top 47
abbrev s__law_held : Stmt := top 48
abbrev s__law_step : Stmt := top 49
abbrev s__law_told : Stmt := top 50
abbrev s__law_same : Stmt := top 51
abbrev s_law : Stmt := top 52
abbrev i_Sign : Stmt := inClass (top 18) 0
abbrev i_Pair : Stmt := inClass (top 20) 0
abbrev i_Around : Stmt := inClass (top 25) 0
abbrev h_Never : Stmt := inClass (top 16) 0
abbrev h_Empty : Stmt := inClass (top 17) 0
abbrev h_AnySign : Stmt := inClass (top 19) 0
abbrev h_Sign : Stmt := inClass (top 18) 1
abbrev h_Outside : Stmt := inClass (top 26) 0
abbrev h_Turned : Stmt := inClass (top 27) 0
abbrev h_Again : Stmt := inClass (top 28) 0
abbrev h_Either : Stmt := inClass (top 21) 0
abbrev h_Less : Stmt := inClass (top 22) 0
abbrev h_Both : Stmt := inClass (top 23) 0
abbrev h_Then : Stmt := inClass (top 24) 0
abbrev i_Desk : Stmt := inClass (top 34) 0
abbrev h_text : Stmt := inClass (top 15) 1
structure Txt (K : PySem.W.Frag) (mg : Str → Option Value) : Prop where
  len : mg "len" = none
  range : mg "range" = none
  isinst : mg "isinstance" = none
  int : mg "int" = none
  bool : mg "bool" = none
  tuple : mg "tuple" = none
  list : mg "list" = none
  str : mg "str" = none
  enum : mg "enumerate" = none
  min : mg "min" = none
def sp_isletters : Sp := fun vs H Q _ => ∃ (L : List Nat), vs = [.str (tx L)] ∧ Let L ∧ Q (.bl true) H
def sp_needletters : Sp := fun vs H Q _ => ∃ (L : List Nat), vs = [.str (tx L)] ∧ Let L ∧ Q .non H
def sp_iswanting : Sp := fun vs H Q _ => ∃ ch : Nat, vs = [.str (tx [ch])] ∧ Q (.bl (isW ch)) H
def sp_canstand : Sp := fun vs H Q _ => ∃ (L : List Nat) (ch : Nat) (w : Bool) (dd : Nat), vs = [.str (tx L), .str (tx [ch]), .bl w, .int (dd : Int)] ∧ Q (.bl (canS L ch w dd)) H
def sp_needpattern : Sp := fun vs H Q _ => ∃ (L w : List Nat), vs = [.str (tx L), .str (tx w)] ∧ LetS L ∧ scan L 0 true w = some (0, false) ∧ ∀ H', Same H H' → Q .non H'
def sp_piece (c : Kd → Addr) : Sp := fun vs H Q _ => ∃ t : Pt, vs = [tv (.piece t)] ∧ (Tk.piece t).ok ∧ ∀ v H', Same H H' → PatAt c H' t v → Q v H'
def sp_pairof (c : Kd → Addr) : Sp := fun vs H Q _ => ∃ (k : K2) (u w' : V) (x y : Pt), vs = [.str (nm2 k), u, w'] ∧ PatAt c H x u ∧ PatAt c H y w' ∧ ∀ v H', Same H H' → PatAt c H' (.two k x y) v → Q v H'
def sp_settle (c : Kd → Addr) (cD : Addr) : Sp := fun vs H Q _ => ∃ (d dx pa wa : Addr) (us : List V) (ps : List Pt) (ws : List Wt) (n : Nat) (ps' : List Pt) (ws' : List Wt), vs = [.ref d, .int (n : Int)] ∧ DeskAt c cD H d dx pa wa us ps ws ∧ 1 ≤ n ∧ settleM n ps ws = some (ps', ws') ∧ ps.length ≤ 900 ∧
  ∀ us' H', Off pa wa H H' → DeskAt c cD H' d dx pa wa us' ps' ws' → Q .non H'
def sp_put (c : Kd → Addr) (cD : Addr) : Sp := fun vs H Q _ => ∃ (d dx pa wa : Addr) (us : List V) (ps : List Pt) (ws : List Wt) (tk : Tk) (ps' : List Pt) (ws' : List Wt), vs = [.ref d, tv tk] ∧ DeskAt c cD H d dx pa wa us ps ws ∧ tk.ok ∧ putM ps ws tk = some (ps', ws') ∧ ps.length ≤ 900 ∧ ws.length ≤ 900 ∧
  ∀ us' H', Off pa wa H H' → DeskAt c cD H' d dx pa wa us' ps' ws' → Q .non H'
def sp_tokens : Sp := fun vs H Q _ => ∃ w : List Nat, vs = [.str (tx w)] ∧ (∀ ch ∈ w, SgOk ch) ∧ w.length ≤ 400 ∧ ∀ p H', H p = none → Same H H' → H' p = some (.lst ((toks true w).map tv)) → Q (.ref p) H'
def sp_patternof (c : Kd → Addr) : Sp := fun vs H Q _ => ∃ (tw : List Nat) (t : Pt), vs = [.str (tx tw)] ∧ (∀ ch ∈ tw, SgOk ch) ∧ tw.length ≤ 300 ∧ putsM (toks true (40 :: (tw ++ [41]))) ([], []) = some ([t], []) ∧ ∀ v H', Same H H' → PatAt c H' t v → Q v H'
def sp_read (c : Kd → Addr) : Sp := fun vs H Q _ => ∃ (L tw : List Nat) (t : Pt) (l : Nat), vs = [.str (tx L), .str (tx tw)] ∧ Let L ∧ LetS L ∧ G L l t tw ∧ tw.length ≤ 300 ∧ ∀ v H', Same H H' → PatAt c H' t v → Q v H'
def sp_cell (K : PySem.W.Frag) : Sp := fun vs H Q _ => ∃ (a : Addr) (ns : List Int) (k : Int), vs = [.ref a, .int k] ∧ SqL K H a (ns.map V.int) ∧ 0 ≤ k ∧ ∀ z, Q (.int z) H
def sp_letters : Sp := fun vs H Q _ => ∃ (c : Int), vs = [.int c] ∧ ∀ L, Let L → Q (.str (tx L)) H
def sp_in32 : Sp := fun vs H Q _ => ∃ (tw : List Nat) (l m : Nat), vs = [.str (tx tw), .int (l : Int), .int (m : Int)] ∧ tw.length ≤ 4000 ∧ Q (.str (tx (inM (decide (l < m)) tw))) H
def sp_leaf32 : Sp := fun vs H Q _ => ∃ (L : List Nat) (z : Int) (ch : Nat), vs = [.int z, .str (tx [ch])] ∧ ch ∈ L ∧ 0 ≤ z ∧ z < 5 ∧ ∀ v x H', Same H H' → PentAt L H' x v → x.t.dep = 1 → x.t.sz = 1 → x.tw.length = 1 → Q v H'
def sp_lone32 : Sp := fun vs H Q _ => ∃ (L : List Nat) (z : Int) (v : V) (x : Tt), vs = [.int z, v] ∧ PentAt L H x v ∧ 0 ≤ z ∧ z < 3 ∧ x.tw.length ≤ 3000 ∧ x.t.sz ≤ 500 ∧ ∀ v' x' H', Same H H' → PentAt L H' x' v' → x'.t.dep = x.t.dep + 1 → x'.t.sz = x.t.sz + 1 → x'.tw.length ≤ x.tw.length + 3 → Q v' H'
def sp_pair32 : Sp := fun vs H Q _ => ∃ (L : List Nat) (z : Int) (v : V) (x : Tt) (v2 : V) (x2 : Tt), vs = [.int z, v, v2] ∧ PentAt L H x v ∧ PentAt L H x2 v2 ∧ 0 ≤ z ∧ z < 4 ∧ x.tw.length ≤ 3000 ∧ x2.tw.length ≤ 3000 ∧ x.t.sz ≤ 500 ∧ x2.t.sz ≤ 500 ∧ ∀ v' x' H', Same H H' → PentAt L H' x' v' → x'.t.dep = max x.t.dep x2.t.dep + 1 → x'.t.sz = x.t.sz + x2.t.sz + 1 → x'.tw.length ≤ x.tw.length + x2.tw.length + 5 → Q v' H'
def sp_held32 : Sp := fun vs H Q _ => ∃ (L : List Nat) (v : V) (x : Tt), vs = [v] ∧ PentAt L H x v ∧ x.tw.length ≤ 3000 ∧ ∀ v' x' H', Same H H' → PentAt L H' x' v' → x'.t = x.t → x'.tw.length = x.tw.length + 2 → Q v' H'
def sp_step32 : Sp := fun vs H Q _ => ∃ (L : List Nat) (p : Addr) (xs : List V) (its : List Tt) (z : Int) (ch : Nat) (z2 : Int), vs = [.ref p, .int z, .str (tx [ch]), .int z2] ∧ H p = some (.lst xs) ∧ PileG (PentAt L H) xs its ∧ ch ∈ L ∧ xs.length ≤ 300 ∧ wsum its ≤ 1000 ∧ zsumT its ≤ 400 ∧
  ∀ xs' its' H', (∀ b o, H b = some o → b ≠ p → H' b = some o) → H' p = some (.lst xs') → PileG (PentAt L H') xs' its' → 1 ≤ xs'.length → xs'.length ≤ xs.length + 1 → wsum its' ≤ wsum its + 7 → zsumT its' ≤ zsumT its + 1 → dsumT its' ≤ dsumT its + 1 → Q .non H'
def sp_told32 (K : PySem.W.Frag) : Sp := fun vs H Q _ => ∃ (L : List Nat) (a : Addr) (ns : List Int), vs = [.ref a, .str (tx L)] ∧ Let L ∧ SqL K H a (ns.map V.int) ∧ ∀ v x H', Same H H' → PentAt L H' x v → x.tw.length ≤ 290 → x.t.sz ≤ 900 → x.t.dep ≤ 63 → Q v H'
def sp_same (d : Nat) : Sp := fun vs H Q _ => ∃ x y, vs = [x, y] ∧ Like H d x y ∧ Q (.bl true) H
section
variable {P : Program} {w : World} {K : PySem.W.Frag} {mg : Str → Option Value} {base : Heap} {c : Kd → Addr} {cP : Addr} {cD d1 d2 d3 : Addr}
theorem sci_Sign : FnScope ["self", "sign"] ["self", "sign"] (defScope i_Sign) := ⟨rfl, rfl, rfl, by decide +kernel, rfl, by decide +kernel, by decide +kernel⟩
theorem oki_Sign {f : Addr} {fd : FuncData} (F : Fun K "__init__" "Sign.__init__" i_Sign f fd) : FnOk P w K mg base CX0 1 f fd ["self", "sign"] (spI1 K "sign") := by
  refine F.ok sci_Sign (fun vs H Q E h => ?_) (fun cdv A outer s H vs Q E hr h => ?_)
  · obtain ⟨p, v, C, dx, rfl, _⟩ := h
    rfl
  · obtain ⟨p, v, C, dx, rfl, hp, cl, n1, q⟩ := h
    refine ⟨_, pss_one (ps_fld (pv 0) (pv 1) rfl), ?_⟩
    refine ⟨_, rfl, _, rfl, p, C, dx, [], rfl, hp, cl, n1, (by show 0 < 1000; decide), ?_⟩
    exact q _ (fun b o e hb => by rw [upd_ne hb]; exact e) upd_same
theorem sci_Around : FnScope ["self", "inner"] ["self", "inner"] (defScope i_Around) := ⟨rfl, rfl, rfl, by decide +kernel, rfl, by decide +kernel, by decide +kernel⟩
theorem oki_Around {f : Addr} {fd : FuncData} (F : Fun K "__init__" "Around.__init__" i_Around f fd) : FnOk P w K mg base CX0 1 f fd ["self", "inner"] (spI1 K "inner") := by
  refine F.ok sci_Around (fun vs H Q E h => ?_) (fun cdv A outer s H vs Q E hr h => ?_)
  · obtain ⟨p, v, C, dx, rfl, _⟩ := h
    rfl
  · obtain ⟨p, v, C, dx, rfl, hp, cl, n1, q⟩ := h
    refine ⟨_, pss_one (ps_fld (pv 0) (pv 1) rfl), ?_⟩
    refine ⟨_, rfl, _, rfl, p, C, dx, [], rfl, hp, cl, n1, (by show 0 < 1000; decide), ?_⟩
    exact q _ (fun b o e hb => by rw [upd_ne hb]; exact e) upd_same
theorem sci_Pair : FnScope ["self", "left", "right"] ["self", "left", "right"] (defScope i_Pair) := ⟨rfl, rfl, rfl, by decide +kernel, rfl, by decide +kernel, by decide +kernel⟩
theorem oki_Pair {f : Addr} {fd : FuncData} (F : Fun K "__init__" "Pair.__init__" i_Pair f fd) : FnOk P w K mg base CX0 1 f fd ["self", "left", "right"] (spI2 K "left" "right") := by
  refine F.ok sci_Pair (fun vs H Q E h => ?_) (fun cdv A outer s H vs Q E hr h => ?_)
  · obtain ⟨p, v, u, C, dx, rfl, _⟩ := h
    rfl
  · obtain ⟨p, v, u, C, dx, rfl, hp, cl, n1, n2, q⟩ := h
    refine ⟨_, pss_cons (ps_fld (pv 0) (pv 1) rfl) (pss_one (ps_fld (pv 0) (pv 2) rfl)), ?_⟩
    refine ⟨_, rfl, _, rfl, p, C, dx, [], rfl, hp, cl, n1, (by show 0 < 1000; decide), _, rfl, _, rfl, p, C, dx, _, rfl, upd_same, cl, n2, (by show 1 < 1000; decide), ?_⟩
    exact q _ (fun b o e hb => by rw [upd_ne hb, upd_ne hb]; exact e) upd_same
theorem sch_Never : FnScope ["self"] ["self"] (defScope h_Never) := ⟨rfl, rfl, rfl, by decide +kernel, rfl, by decide +kernel, by decide +kernel⟩
theorem okh_Never {f : Addr} {fd : FuncData} (F : Fun K "shape" "Never.shape" h_Never f fd) (PC : ∀ k, PCls K (c k) cP) {fs : Kd → Addr} {fds : Kd → FuncData} (mS : ∀ k, Meth K (c k) "shape" (fs k)) (bS : ∀ k, Binds K (fds k) ["self"] []) (n : Nat) (ih : ∀ k, FnOk P w K mg base CX0 n (fs k) (fds k) ["self"] (spShape c n k)) : FnOk P w K mg base CX0 (n + 1) f fd ["self"] (spShape c (n + 1) (.leaf .never)) := by
  refine F.ok sch_Never (fun vs H Q E h => ?_) (fun cdv A outer s H vs Q E hr h => ?_)
  · obtain ⟨a, t, rfl, _⟩ := h
    rfl
  · obtain ⟨a, t, rfl, hp, hk, hd, q⟩ := h
    cases t with
    | leaf k =>
      cases hk
      refine ⟨_, pss_one (ps_ret (pe_tup (pa_cons pe_str pa_nil))), ?_⟩
      exact ⟨line_ge (by show 1 ≤ 16777216; decide), fun p hp => q (.ref p) _ (Same.upd hp) ⟨p, rfl, upd_same⟩⟩
    | sign _ => cases hk
    | one _ _ => cases hk
    | two _ _ _ => cases hk
theorem sch_Empty : FnScope ["self"] ["self"] (defScope h_Empty) := ⟨rfl, rfl, rfl, by decide +kernel, rfl, by decide +kernel, by decide +kernel⟩
theorem okh_Empty {f : Addr} {fd : FuncData} (F : Fun K "shape" "Empty.shape" h_Empty f fd) (PC : ∀ k, PCls K (c k) cP) {fs : Kd → Addr} {fds : Kd → FuncData} (mS : ∀ k, Meth K (c k) "shape" (fs k)) (bS : ∀ k, Binds K (fds k) ["self"] []) (n : Nat) (ih : ∀ k, FnOk P w K mg base CX0 n (fs k) (fds k) ["self"] (spShape c n k)) : FnOk P w K mg base CX0 (n + 1) f fd ["self"] (spShape c (n + 1) (.leaf .empty)) := by
  refine F.ok sch_Empty (fun vs H Q E h => ?_) (fun cdv A outer s H vs Q E hr h => ?_)
  · obtain ⟨a, t, rfl, _⟩ := h
    rfl
  · obtain ⟨a, t, rfl, hp, hk, hd, q⟩ := h
    cases t with
    | leaf k =>
      cases hk
      refine ⟨_, pss_one (ps_ret (pe_tup (pa_cons pe_str pa_nil))), ?_⟩
      exact ⟨line_ge (by show 1 ≤ 16777216; decide), fun p hp => q (.ref p) _ (Same.upd hp) ⟨p, rfl, upd_same⟩⟩
    | sign _ => cases hk
    | one _ _ => cases hk
    | two _ _ _ => cases hk
theorem sch_AnySign : FnScope ["self"] ["self"] (defScope h_AnySign) := ⟨rfl, rfl, rfl, by decide +kernel, rfl, by decide +kernel, by decide +kernel⟩
theorem okh_AnySign {f : Addr} {fd : FuncData} (F : Fun K "shape" "AnySign.shape" h_AnySign f fd) (PC : ∀ k, PCls K (c k) cP) {fs : Kd → Addr} {fds : Kd → FuncData} (mS : ∀ k, Meth K (c k) "shape" (fs k)) (bS : ∀ k, Binds K (fds k) ["self"] []) (n : Nat) (ih : ∀ k, FnOk P w K mg base CX0 n (fs k) (fds k) ["self"] (spShape c n k)) : FnOk P w K mg base CX0 (n + 1) f fd ["self"] (spShape c (n + 1) (.leaf .any)) := by
  refine F.ok sch_AnySign (fun vs H Q E h => ?_) (fun cdv A outer s H vs Q E hr h => ?_)
  · obtain ⟨a, t, rfl, _⟩ := h
    rfl
  · obtain ⟨a, t, rfl, hp, hk, hd, q⟩ := h
    cases t with
    | leaf k =>
      cases hk
      refine ⟨_, pss_one (ps_ret (pe_tup (pa_cons pe_str pa_nil))), ?_⟩
      exact ⟨line_ge (by show 1 ≤ 16777216; decide), fun p hp => q (.ref p) _ (Same.upd hp) ⟨p, rfl, upd_same⟩⟩
    | sign _ => cases hk
    | one _ _ => cases hk
    | two _ _ _ => cases hk
theorem sch_Sign : FnScope ["self"] ["self"] (defScope h_Sign) := ⟨rfl, rfl, rfl, by decide +kernel, rfl, by decide +kernel, by decide +kernel⟩
theorem okh_Sign {f : Addr} {fd : FuncData} (F : Fun K "shape" "Sign.shape" h_Sign f fd) (PC : ∀ k, PCls K (c k) cP) {fs : Kd → Addr} {fds : Kd → FuncData} (mS : ∀ k, Meth K (c k) "shape" (fs k)) (bS : ∀ k, Binds K (fds k) ["self"] []) (n : Nat) (ih : ∀ k, FnOk P w K mg base CX0 n (fs k) (fds k) ["self"] (spShape c n k)) : FnOk P w K mg base CX0 (n + 1) f fd ["self"] (spShape c (n + 1) (.sign)) := by
  refine F.ok sch_Sign (fun vs H Q E h => ?_) (fun cdv A outer s H vs Q E hr h => ?_)
  · obtain ⟨a, t, rfl, _⟩ := h
    rfl
  · obtain ⟨a, t, rfl, hp, hk, hd, q⟩ := h
    cases t with
    | sign z =>
      obtain ⟨a', dx, e, ha⟩ := hp
      cases e
      refine ⟨_, pss_one (ps_ret (pe_tup (pa_cons pe_str (pa_cons (pe_fld (pv 0) rfl) pa_nil)))), ?_⟩
      exact ⟨_, rfl, a, _, dx, _, _, rfl, ha, (PC _).cl, (PC _).nS, lk_sign _, line_ge (by show 2 ≤ 16777216; decide), fun p hp => q (.ref p) _ (Same.upd hp) ⟨p, rfl, upd_same⟩⟩
    | leaf _ => cases hk
    | one _ _ => cases hk
    | two _ _ _ => cases hk
theorem sch_Outside : FnScope ["self"] ["self"] (defScope h_Outside) := ⟨rfl, rfl, rfl, by decide +kernel, rfl, by decide +kernel, by decide +kernel⟩
theorem okh_Outside {f : Addr} {fd : FuncData} (F : Fun K "shape" "Outside.shape" h_Outside f fd) (PC : ∀ k, PCls K (c k) cP) {fs : Kd → Addr} {fds : Kd → FuncData} (mS : ∀ k, Meth K (c k) "shape" (fs k)) (bS : ∀ k, Binds K (fds k) ["self"] []) (n : Nat) (ih : ∀ k, FnOk P w K mg base CX0 n (fs k) (fds k) ["self"] (spShape c n k)) : FnOk P w K mg base CX0 (n + 1) f fd ["self"] (spShape c (n + 1) (.one .outside)) := by
  refine F.ok sch_Outside (fun vs H Q E h => ?_) (fun cdv A outer s H vs Q E hr h => ?_)
  · obtain ⟨a, t, rfl, _⟩ := h
    rfl
  · obtain ⟨a, t, rfl, hp, hk, hd, q⟩ := h
    cases t with
    | one k x =>
      cases hk
      have hd : x.dep + 1 ≤ n + 1 := hd
      obtain ⟨a', dx, u, e, ha, hx⟩ := hp
      cases e
      obtain ⟨a1, dx1, fs1, rfl, h1, l1⟩ := hx.ins
      refine ⟨_, pss_one (ps_ret (pe_tup (pa_cons pe_str (pa_cons (pe_methP (pe_fld (pv 0) rfl) (fun k => (PC k).cl) mS ih hr bS pass0) pa_nil)))), ?_⟩
      refine ⟨_, rfl, a, _, dx, _, _, rfl, ha, (PC _).cl, (PC _).nI, lk_inner _, x.kd, a1, dx1, fs1, rfl, h1, l1, a1, x, rfl, hx, rfl, by omega, fun v1 H1 s1 hv1 => ?_⟩
      exact ⟨line_ge (by show 2 ≤ 16777216; decide), fun p hp => q (.ref p) _ (s1.trans (Same.upd hp)) ⟨p, v1, rfl, upd_same, hv1.kp (Same.kp (Same.upd hp))⟩⟩
    | leaf _ => cases hk
    | sign _ => cases hk
    | two _ _ _ => cases hk
theorem sch_Turned : FnScope ["self"] ["self"] (defScope h_Turned) := ⟨rfl, rfl, rfl, by decide +kernel, rfl, by decide +kernel, by decide +kernel⟩
theorem okh_Turned {f : Addr} {fd : FuncData} (F : Fun K "shape" "Turned.shape" h_Turned f fd) (PC : ∀ k, PCls K (c k) cP) {fs : Kd → Addr} {fds : Kd → FuncData} (mS : ∀ k, Meth K (c k) "shape" (fs k)) (bS : ∀ k, Binds K (fds k) ["self"] []) (n : Nat) (ih : ∀ k, FnOk P w K mg base CX0 n (fs k) (fds k) ["self"] (spShape c n k)) : FnOk P w K mg base CX0 (n + 1) f fd ["self"] (spShape c (n + 1) (.one .turned)) := by
  refine F.ok sch_Turned (fun vs H Q E h => ?_) (fun cdv A outer s H vs Q E hr h => ?_)
  · obtain ⟨a, t, rfl, _⟩ := h
    rfl
  · obtain ⟨a, t, rfl, hp, hk, hd, q⟩ := h
    cases t with
    | one k x =>
      cases hk
      have hd : x.dep + 1 ≤ n + 1 := hd
      obtain ⟨a', dx, u, e, ha, hx⟩ := hp
      cases e
      obtain ⟨a1, dx1, fs1, rfl, h1, l1⟩ := hx.ins
      refine ⟨_, pss_one (ps_ret (pe_tup (pa_cons pe_str (pa_cons (pe_methP (pe_fld (pv 0) rfl) (fun k => (PC k).cl) mS ih hr bS pass0) pa_nil)))), ?_⟩
      refine ⟨_, rfl, a, _, dx, _, _, rfl, ha, (PC _).cl, (PC _).nI, lk_inner _, x.kd, a1, dx1, fs1, rfl, h1, l1, a1, x, rfl, hx, rfl, by omega, fun v1 H1 s1 hv1 => ?_⟩
      exact ⟨line_ge (by show 2 ≤ 16777216; decide), fun p hp => q (.ref p) _ (s1.trans (Same.upd hp)) ⟨p, v1, rfl, upd_same, hv1.kp (Same.kp (Same.upd hp))⟩⟩
    | leaf _ => cases hk
    | sign _ => cases hk
    | two _ _ _ => cases hk
theorem sch_Again : FnScope ["self"] ["self"] (defScope h_Again) := ⟨rfl, rfl, rfl, by decide +kernel, rfl, by decide +kernel, by decide +kernel⟩
theorem okh_Again {f : Addr} {fd : FuncData} (F : Fun K "shape" "Again.shape" h_Again f fd) (PC : ∀ k, PCls K (c k) cP) {fs : Kd → Addr} {fds : Kd → FuncData} (mS : ∀ k, Meth K (c k) "shape" (fs k)) (bS : ∀ k, Binds K (fds k) ["self"] []) (n : Nat) (ih : ∀ k, FnOk P w K mg base CX0 n (fs k) (fds k) ["self"] (spShape c n k)) : FnOk P w K mg base CX0 (n + 1) f fd ["self"] (spShape c (n + 1) (.one .again)) := by
  refine F.ok sch_Again (fun vs H Q E h => ?_) (fun cdv A outer s H vs Q E hr h => ?_)
  · obtain ⟨a, t, rfl, _⟩ := h
    rfl
  · obtain ⟨a, t, rfl, hp, hk, hd, q⟩ := h
    cases t with
    | one k x =>
      cases hk
      have hd : x.dep + 1 ≤ n + 1 := hd
      obtain ⟨a', dx, u, e, ha, hx⟩ := hp
      cases e
      obtain ⟨a1, dx1, fs1, rfl, h1, l1⟩ := hx.ins
      refine ⟨_, pss_one (ps_ret (pe_tup (pa_cons pe_str (pa_cons (pe_methP (pe_fld (pv 0) rfl) (fun k => (PC k).cl) mS ih hr bS pass0) pa_nil)))), ?_⟩
      refine ⟨_, rfl, a, _, dx, _, _, rfl, ha, (PC _).cl, (PC _).nI, lk_inner _, x.kd, a1, dx1, fs1, rfl, h1, l1, a1, x, rfl, hx, rfl, by omega, fun v1 H1 s1 hv1 => ?_⟩
      exact ⟨line_ge (by show 2 ≤ 16777216; decide), fun p hp => q (.ref p) _ (s1.trans (Same.upd hp)) ⟨p, v1, rfl, upd_same, hv1.kp (Same.kp (Same.upd hp))⟩⟩
    | leaf _ => cases hk
    | sign _ => cases hk
    | two _ _ _ => cases hk
theorem sch_Either : FnScope ["self"] ["self"] (defScope h_Either) := ⟨rfl, rfl, rfl, by decide +kernel, rfl, by decide +kernel, by decide +kernel⟩
theorem okh_Either {f : Addr} {fd : FuncData} (F : Fun K "shape" "Either.shape" h_Either f fd) (PC : ∀ k, PCls K (c k) cP) {fs : Kd → Addr} {fds : Kd → FuncData} (mS : ∀ k, Meth K (c k) "shape" (fs k)) (bS : ∀ k, Binds K (fds k) ["self"] []) (n : Nat) (ih : ∀ k, FnOk P w K mg base CX0 n (fs k) (fds k) ["self"] (spShape c n k)) : FnOk P w K mg base CX0 (n + 1) f fd ["self"] (spShape c (n + 1) (.two .either)) := by
  refine F.ok sch_Either (fun vs H Q E h => ?_) (fun cdv A outer s H vs Q E hr h => ?_)
  · obtain ⟨a, t, rfl, _⟩ := h
    rfl
  · obtain ⟨a, t, rfl, hp, hk, hd, q⟩ := h
    cases t with
    | two k x y =>
      cases hk
      have hd : max x.dep y.dep + 1 ≤ n + 1 := hd
      obtain ⟨a', dx, u, w', e, ha, hx, hy⟩ := hp
      cases e
      obtain ⟨a1, dx1, fs1, rfl, h1, l1⟩ := hx.ins
      refine ⟨_, pss_one (ps_ret (pe_tup (pa_cons pe_str (pa_cons (pe_methP (pe_fld (pv 0) rfl) (fun k => (PC k).cl) mS ih hr bS pass0) (pa_cons (pe_methP (pe_fld (pv 0) rfl) (fun k => (PC k).cl) mS ih hr bS pass0) pa_nil))))), ?_⟩
      refine ⟨_, rfl, a, _, dx, _, _, rfl, ha, (PC _).cl, (PC _).nL, lk_left _ _, x.kd, a1, dx1, fs1, rfl, h1, l1, a1, x, rfl, hx, rfl, by omega, fun v1 H1 s1 hv1 => ?_⟩
      have hy1 := hy.kp (Same.kp s1)
      obtain ⟨a2, dx2, fs2, rfl, h2, l2⟩ := hy1.ins
      refine ⟨_, rfl, a, _, dx, _, _, rfl, s1 _ _ ha, (PC _).cl, (PC _).nR, lk_right _ _, y.kd, a2, dx2, fs2, rfl, h2, l2, a2, y, rfl, hy1, rfl, by omega, fun v2 H2 s2 hv2 => ?_⟩
      exact ⟨line_ge (by show 3 ≤ 16777216; decide), fun p hp => q (.ref p) _ (s1.trans (s2.trans (Same.upd hp))) ⟨p, v1, v2, rfl, upd_same, hv1.kp (Same.kp (s2.trans (Same.upd hp))), hv2.kp (Same.kp (Same.upd hp))⟩⟩
    | leaf _ => cases hk
    | sign _ => cases hk
    | one _ _ => cases hk
theorem sch_Less : FnScope ["self"] ["self"] (defScope h_Less) := ⟨rfl, rfl, rfl, by decide +kernel, rfl, by decide +kernel, by decide +kernel⟩
theorem okh_Less {f : Addr} {fd : FuncData} (F : Fun K "shape" "Less.shape" h_Less f fd) (PC : ∀ k, PCls K (c k) cP) {fs : Kd → Addr} {fds : Kd → FuncData} (mS : ∀ k, Meth K (c k) "shape" (fs k)) (bS : ∀ k, Binds K (fds k) ["self"] []) (n : Nat) (ih : ∀ k, FnOk P w K mg base CX0 n (fs k) (fds k) ["self"] (spShape c n k)) : FnOk P w K mg base CX0 (n + 1) f fd ["self"] (spShape c (n + 1) (.two .less)) := by
  refine F.ok sch_Less (fun vs H Q E h => ?_) (fun cdv A outer s H vs Q E hr h => ?_)
  · obtain ⟨a, t, rfl, _⟩ := h
    rfl
  · obtain ⟨a, t, rfl, hp, hk, hd, q⟩ := h
    cases t with
    | two k x y =>
      cases hk
      have hd : max x.dep y.dep + 1 ≤ n + 1 := hd
      obtain ⟨a', dx, u, w', e, ha, hx, hy⟩ := hp
      cases e
      obtain ⟨a1, dx1, fs1, rfl, h1, l1⟩ := hx.ins
      refine ⟨_, pss_one (ps_ret (pe_tup (pa_cons pe_str (pa_cons (pe_methP (pe_fld (pv 0) rfl) (fun k => (PC k).cl) mS ih hr bS pass0) (pa_cons (pe_methP (pe_fld (pv 0) rfl) (fun k => (PC k).cl) mS ih hr bS pass0) pa_nil))))), ?_⟩
      refine ⟨_, rfl, a, _, dx, _, _, rfl, ha, (PC _).cl, (PC _).nL, lk_left _ _, x.kd, a1, dx1, fs1, rfl, h1, l1, a1, x, rfl, hx, rfl, by omega, fun v1 H1 s1 hv1 => ?_⟩
      have hy1 := hy.kp (Same.kp s1)
      obtain ⟨a2, dx2, fs2, rfl, h2, l2⟩ := hy1.ins
      refine ⟨_, rfl, a, _, dx, _, _, rfl, s1 _ _ ha, (PC _).cl, (PC _).nR, lk_right _ _, y.kd, a2, dx2, fs2, rfl, h2, l2, a2, y, rfl, hy1, rfl, by omega, fun v2 H2 s2 hv2 => ?_⟩
      exact ⟨line_ge (by show 3 ≤ 16777216; decide), fun p hp => q (.ref p) _ (s1.trans (s2.trans (Same.upd hp))) ⟨p, v1, v2, rfl, upd_same, hv1.kp (Same.kp (s2.trans (Same.upd hp))), hv2.kp (Same.kp (Same.upd hp))⟩⟩
    | leaf _ => cases hk
    | sign _ => cases hk
    | one _ _ => cases hk
theorem sch_Both : FnScope ["self"] ["self"] (defScope h_Both) := ⟨rfl, rfl, rfl, by decide +kernel, rfl, by decide +kernel, by decide +kernel⟩
theorem okh_Both {f : Addr} {fd : FuncData} (F : Fun K "shape" "Both.shape" h_Both f fd) (PC : ∀ k, PCls K (c k) cP) {fs : Kd → Addr} {fds : Kd → FuncData} (mS : ∀ k, Meth K (c k) "shape" (fs k)) (bS : ∀ k, Binds K (fds k) ["self"] []) (n : Nat) (ih : ∀ k, FnOk P w K mg base CX0 n (fs k) (fds k) ["self"] (spShape c n k)) : FnOk P w K mg base CX0 (n + 1) f fd ["self"] (spShape c (n + 1) (.two .both)) := by
  refine F.ok sch_Both (fun vs H Q E h => ?_) (fun cdv A outer s H vs Q E hr h => ?_)
  · obtain ⟨a, t, rfl, _⟩ := h
    rfl
  · obtain ⟨a, t, rfl, hp, hk, hd, q⟩ := h
    cases t with
    | two k x y =>
      cases hk
      have hd : max x.dep y.dep + 1 ≤ n + 1 := hd
      obtain ⟨a', dx, u, w', e, ha, hx, hy⟩ := hp
      cases e
      obtain ⟨a1, dx1, fs1, rfl, h1, l1⟩ := hx.ins
      refine ⟨_, pss_one (ps_ret (pe_tup (pa_cons pe_str (pa_cons (pe_methP (pe_fld (pv 0) rfl) (fun k => (PC k).cl) mS ih hr bS pass0) (pa_cons (pe_methP (pe_fld (pv 0) rfl) (fun k => (PC k).cl) mS ih hr bS pass0) pa_nil))))), ?_⟩
      refine ⟨_, rfl, a, _, dx, _, _, rfl, ha, (PC _).cl, (PC _).nL, lk_left _ _, x.kd, a1, dx1, fs1, rfl, h1, l1, a1, x, rfl, hx, rfl, by omega, fun v1 H1 s1 hv1 => ?_⟩
      have hy1 := hy.kp (Same.kp s1)
      obtain ⟨a2, dx2, fs2, rfl, h2, l2⟩ := hy1.ins
      refine ⟨_, rfl, a, _, dx, _, _, rfl, s1 _ _ ha, (PC _).cl, (PC _).nR, lk_right _ _, y.kd, a2, dx2, fs2, rfl, h2, l2, a2, y, rfl, hy1, rfl, by omega, fun v2 H2 s2 hv2 => ?_⟩
      exact ⟨line_ge (by show 3 ≤ 16777216; decide), fun p hp => q (.ref p) _ (s1.trans (s2.trans (Same.upd hp))) ⟨p, v1, v2, rfl, upd_same, hv1.kp (Same.kp (s2.trans (Same.upd hp))), hv2.kp (Same.kp (Same.upd hp))⟩⟩
    | leaf _ => cases hk
    | sign _ => cases hk
    | one _ _ => cases hk
theorem sch_Then : FnScope ["self"] ["self"] (defScope h_Then) := ⟨rfl, rfl, rfl, by decide +kernel, rfl, by decide +kernel, by decide +kernel⟩
theorem okh_Then {f : Addr} {fd : FuncData} (F : Fun K "shape" "Then.shape" h_Then f fd) (PC : ∀ k, PCls K (c k) cP) {fs : Kd → Addr} {fds : Kd → FuncData} (mS : ∀ k, Meth K (c k) "shape" (fs k)) (bS : ∀ k, Binds K (fds k) ["self"] []) (n : Nat) (ih : ∀ k, FnOk P w K mg base CX0 n (fs k) (fds k) ["self"] (spShape c n k)) : FnOk P w K mg base CX0 (n + 1) f fd ["self"] (spShape c (n + 1) (.two .then_)) := by
  refine F.ok sch_Then (fun vs H Q E h => ?_) (fun cdv A outer s H vs Q E hr h => ?_)
  · obtain ⟨a, t, rfl, _⟩ := h
    rfl
  · obtain ⟨a, t, rfl, hp, hk, hd, q⟩ := h
    cases t with
    | two k x y =>
      cases hk
      have hd : max x.dep y.dep + 1 ≤ n + 1 := hd
      obtain ⟨a', dx, u, w', e, ha, hx, hy⟩ := hp
      cases e
      obtain ⟨a1, dx1, fs1, rfl, h1, l1⟩ := hx.ins
      refine ⟨_, pss_one (ps_ret (pe_tup (pa_cons pe_str (pa_cons (pe_methP (pe_fld (pv 0) rfl) (fun k => (PC k).cl) mS ih hr bS pass0) (pa_cons (pe_methP (pe_fld (pv 0) rfl) (fun k => (PC k).cl) mS ih hr bS pass0) pa_nil))))), ?_⟩
      refine ⟨_, rfl, a, _, dx, _, _, rfl, ha, (PC _).cl, (PC _).nL, lk_left _ _, x.kd, a1, dx1, fs1, rfl, h1, l1, a1, x, rfl, hx, rfl, by omega, fun v1 H1 s1 hv1 => ?_⟩
      have hy1 := hy.kp (Same.kp s1)
      obtain ⟨a2, dx2, fs2, rfl, h2, l2⟩ := hy1.ins
      refine ⟨_, rfl, a, _, dx, _, _, rfl, s1 _ _ ha, (PC _).cl, (PC _).nR, lk_right _ _, y.kd, a2, dx2, fs2, rfl, h2, l2, a2, y, rfl, hy1, rfl, by omega, fun v2 H2 s2 hv2 => ?_⟩
      exact ⟨line_ge (by show 3 ≤ 16777216; decide), fun p hp => q (.ref p) _ (s1.trans (s2.trans (Same.upd hp))) ⟨p, v1, v2, rfl, upd_same, hv1.kp (Same.kp (s2.trans (Same.upd hp))), hv2.kp (Same.kp (Same.upd hp))⟩⟩
    | leaf _ => cases hk
    | sign _ => cases hk
    | one _ _ => cases hk
theorem okh_all (PC : ∀ k, PCls K (c k) cP) {fs : Kd → Addr} {fds : Kd → FuncData} (mS : ∀ k, Meth K (c k) "shape" (fs k)) (bS : ∀ k, Binds K (fds k) ["self"] [])
    (F_Never : Fun K "shape" "Never.shape" h_Never (fs (.leaf .never)) (fds (.leaf .never)))
    (F_Empty : Fun K "shape" "Empty.shape" h_Empty (fs (.leaf .empty)) (fds (.leaf .empty)))
    (F_AnySign : Fun K "shape" "AnySign.shape" h_AnySign (fs (.leaf .any)) (fds (.leaf .any)))
    (F_Sign : Fun K "shape" "Sign.shape" h_Sign (fs (.sign)) (fds (.sign)))
    (F_Outside : Fun K "shape" "Outside.shape" h_Outside (fs (.one .outside)) (fds (.one .outside)))
    (F_Turned : Fun K "shape" "Turned.shape" h_Turned (fs (.one .turned)) (fds (.one .turned)))
    (F_Again : Fun K "shape" "Again.shape" h_Again (fs (.one .again)) (fds (.one .again)))
    (F_Either : Fun K "shape" "Either.shape" h_Either (fs (.two .either)) (fds (.two .either)))
    (F_Less : Fun K "shape" "Less.shape" h_Less (fs (.two .less)) (fds (.two .less)))
    (F_Both : Fun K "shape" "Both.shape" h_Both (fs (.two .both)) (fds (.two .both)))
    (F_Then : Fun K "shape" "Then.shape" h_Then (fs (.two .then_)) (fds (.two .then_)))
    : ∀ n k, FnOk P w K mg base CX0 n (fs k) (fds k) ["self"] (spShape c n k) := by
  intro n
  induction n with
  | zero => exact fun k => ⟨fun vs H Q E h => by obtain ⟨a, t, _, _, _, hd, _⟩ := h; have := t.dep_pos; omega, fun _ _ _ _ _ _ vs Q E _ _ _ _ h => by obtain ⟨a, t, _, _, _, hd, _⟩ := h; have := t.dep_pos; omega⟩
  | succ n ih =>
    intro k
    match k with
    | .leaf .never => exact okh_Never F_Never PC mS bS n ih
    | .leaf .empty => exact okh_Empty F_Empty PC mS bS n ih
    | .leaf .any => exact okh_AnySign F_AnySign PC mS bS n ih
    | .sign => exact okh_Sign F_Sign PC mS bS n ih
    | .one .outside => exact okh_Outside F_Outside PC mS bS n ih
    | .one .turned => exact okh_Turned F_Turned PC mS bS n ih
    | .one .again => exact okh_Again F_Again PC mS bS n ih
    | .two .either => exact okh_Either F_Either PC mS bS n ih
    | .two .less => exact okh_Less F_Less PC mS bS n ih
    | .two .both => exact okh_Both F_Both PC mS bS n ih
    | .two .then_ => exact okh_Then F_Then PC mS bS n ih
theorem sci_Desk : FnScope ["self"] ["self"] (defScope i_Desk) := ⟨rfl, rfl, rfl, by decide +kernel, rfl, by decide +kernel, by decide +kernel⟩
theorem oki_Desk {f : Addr} {fd : FuncData} (F : Fun K "__init__" "Desk.__init__" i_Desk f fd) : FnOk P w K mg base CX0 1 f fd ["self"] (spDesk K c) := by
  refine F.ok sci_Desk (fun vs H Q E h => ?_) (fun cdv A outer s H vs Q E hr h => ?_)
  · obtain ⟨d, dx, C, rfl, _⟩ := h
    rfl
  · obtain ⟨d, dx, C, rfl, hd, cl, nP, nW, q⟩ := h
    refine ⟨_, pss_cons (ps_fld (pv 0) (pe_lst pa_nil) rfl) (pss_one (ps_fld (pv 0) (pe_lst pa_nil) rfl)), ?_⟩
    refine ⟨Nat.zero_le _, fun pa hpa => ⟨_, rfl, d, C, dx, [], rfl, upd_keep hd hpa, cl, nP, (by show 0 < 1000; decide), Nat.zero_le _, fun wa hwa => ?_⟩⟩
    have ndp : d ≠ pa := ne_of_none hd hpa
    have hd1 : (upd (upd H pa (.lst [])) d (.ins C dx (putF "patterns" (.ref pa) []))) d = some (.ins C dx (putF "patterns" (.ref pa) [])) := upd_same
    have ndw : d ≠ wa := ne_of_none hd1 hwa
    have hpa1 : (upd (upd H pa (.lst [])) d (.ins C dx (putF "patterns" (.ref pa) []))) pa = some (.lst []) := by rw [upd_ne (Ne.symm ndp), upd_same]
    have npw : pa ≠ wa := ne_of_none hpa1 hwa
    refine ⟨_, rfl, d, C, dx, _, rfl, upd_keep upd_same hwa, cl, nW, (by show 1 < 1000; decide), ?_⟩
    have hwa0 : H wa = none := by
      rw [upd_ne (Ne.symm ndw), upd_ne (Ne.symm npw)] at hwa
      exact hwa
    refine q pa wa _ (fun b o e hb => ?_) ⟨upd_same, ?_, trivial, ?_, npw⟩ hpa hwa0
    · rw [upd_ne hb, upd_ne (ne_of_none e hwa0), upd_ne hb, upd_ne (ne_of_none e hpa)]
      exact e
    · rw [upd_ne (Ne.symm ndp), upd_ne npw]
      exact hpa1
    · rw [upd_ne (Ne.symm ndw)]
      exact upd_same
theorem sc_is_letters : FnScope ["text", "sign"] ["text"] (defScope s_is_letters) := ⟨rfl, rfl, rfl, by decide +kernel, rfl, by decide +kernel, by decide +kernel⟩
set_option maxHeartbeats 4000000 in
theorem ok_is_letters {f : Addr} {fd : FuncData} (F : Fun K "is_letters" "is_letters" s_is_letters f fd) (T : Txt K mg) : FnOk P w K mg base CX0 1 f fd ["text"] sp_isletters := by
  refine F.ok sc_is_letters (fun vs H Q E h => ?_) (fun cdv A outer s H vs Q E hr h => ?_)
  · obtain ⟨L, rfl, _⟩ := h
    rfl
  · obtain ⟨L, rfl, hL, q⟩ := h
    refine ⟨_, (pss_cons ((ps_if (pt_not (pt_chain op_le op_le pe_int (pe_callB call_len_str (by rfl) T.len PySem.boot_len (pa_cons (pv 0) pa_nil)) pe_int)) ((pss_one (ps_ret pe_bl))) (pss_nil))) (pss_cons ((ps_for PassesOwn.never rfl (pi_str (pv 0)) (pg_name (i := 1) sc_is_letters.nd rfl (Or.inl rfl)) ((pss_one ((ps_if ((pw_or (pt_not (pt_chain op_le_str op_le_str pe_str (pv 1) pe_str)) (pw_or1 (pt_cmpR op_gt (pe_bm PySem.F.plainAttrs_str PySem.F.slot_str_count PySem.F.type_str_count mt_count (pv 0) (pa_cons (pv 1) pa_nil)) pe_int (nomark _)))).pt) ((pss_one (ps_ret pe_bl))) (pss_nil))))))) (pss_one (ps_ret pe_bl)))), ?_⟩
    have hz : (tx L).length ≤ sizeLine := line_ge (by rw [tx_len]; have := hL.hi; omega)
    have hlo := hL.lo
    have hhi := hL.hi
    refine ⟨_, rfl, _, rfl, hz, _, _, rfl, rfl, _, rfl, iteD (by rw [tx_len]; omega) ?_⟩
    refine ⟨_, _, rfl, rfl, _, rfl, iteNS (by rw [tx_len]; omega) ?_⟩
    refine ⟨_, rfl, _, rfl, for_str (x := tx L) (fun i σ H' => ∃ s0, σ = [some (.str (tx L)), s0] ∧ H' = H) ⟨none, rfl, rfl⟩ ?_ ?_⟩
    · rintro i c σ H1 hc ⟨s0, rfl, rfl⟩
      rw [tx_get] at hc
      have hcL : c ∈ L := List.mem_of_getElem? hc
      obtain ⟨a1, a2⟩ := hL.az c hcL
      refine ⟨_, rfl, _, _, rfl, rfl, _, rfl, ?_⟩
      rw [a_eq, le_one]
      refine iteD a1 ⟨_, _, rfl, rfl, _, rfl, ?_⟩
      rw [z_eq, le_one]
      refine iteNS a2 ⟨_, rfl, rfl, _, rfl, _, _, rfl, rfl, _, _, rfl, rfl, _, rfl, ?_⟩
      rw [count_one]
      refine iteN (by have := List.nodup_iff_count.mp hL.nd c; omega) ?_
      exact ⟨_, rfl, rfl⟩
    · rintro σ H1 ⟨s0, rfl, rfl⟩
      exact q
theorem sc_need_letters : FnScope ["letters"] ["letters"] (defScope s_need_letters) := ⟨rfl, rfl, rfl, by decide +kernel, rfl, by decide +kernel, by decide +kernel⟩
set_option maxHeartbeats 4000000 in
theorem ok_need_letters {f : Addr} {fd : FuncData} (F : Fun K "need_letters" "need_letters" s_need_letters f fd) (T : Txt K mg) (d_is_letters : Df P w K mg base "is_letters" 1 ["text"] sp_isletters) : FnOk P w K mg base CX0 2 f fd ["letters"] sp_needletters := by
  refine F.ok sc_need_letters (fun vs H Q E h => ?_) (fun cdv A outer s H vs Q E hr h => ?_)
  · obtain ⟨L, rfl, _⟩ := h
    rfl
  · obtain ⟨L, rfl, hL, q⟩ := h
    refine ⟨_, (pss_one ((ps_if (pt_not (pt_val (pe_df d_is_letters hr (pa_cons (pv 0) pa_nil)))) ((pss_one (ps_never))) (pss_nil)))), ?_⟩
    exact ⟨_, rfl, L, rfl, hL, _, rfl, iteF q⟩
theorem sc_text_of : FnScope ["shape", "kind", "strength"] ["shape"] (defScope s_text_of) := ⟨rfl, rfl, rfl, by decide +kernel, rfl, by decide +kernel, by decide +kernel⟩
set_option maxHeartbeats 4000000 in
theorem ok_text_of {f : Addr} {fd : FuncData} (F : Fun K "text_of" "text_of" s_text_of f fd) (T : Txt K mg) (RK : RdKit P w K mg base c cD d1 d2 d3) (n : Nat) (d_text_within : Df P w K mg base "text_within" (2 * n + 1) ["shape", "strength"] (spTin n)) : FnOk P w K mg base CX0 (2 * n + 1 + 1) f fd ["shape"] (spTxt (n + 1)) := by
  refine F.ok sc_text_of (fun vs H Q E h => ?_) (fun cdv A outer s H vs Q E hr h => ?_)
  · obtain ⟨v, t, rfl, _⟩ := h
    rfl
  · obtain ⟨v, t, rfl, hS, hd, hz, q⟩ := h
    refine ⟨_, (pss_cons ((ps_set (i := 1) sc_text_of.nd rfl (Or.inl rfl) ((pe_ix ix_tup (pv 0) pe_int (fun _ _ => rfl))))) (pss_cons ((ps_set (i := 2) sc_text_of.nd rfl (Or.inl rfl) (pe_ix (ix_dictK RK.dT) (pe_glob (v := .ref d3) (by rfl) RK.kT rfl) (pv 1) (fun _ _ => rfl)))) (pss_cons ((ps_if (pt_cmpR op_eq (pv 1) pe_str (nomark _)) ((pss_one (ps_ret (pe_ix ix_tup (pv 0) pe_int (fun _ _ => rfl))))) (pss_nil))) (pss_cons ((ps_if (pt_cmpR op_eq (pe_callB call_len_seq (by rfl) T.len PySem.boot_len (pa_cons (pv 0) pa_nil)) pe_int (nomark _)) ((pss_one (ps_ret (pe_ix (ix_dictK RK.dS) (pe_glob (v := .ref d1) (by rfl) RK.kS rfl) (pv 1) (fun _ _ => rfl))))) (pss_nil))) (pss_cons ((ps_if (pt_cmpR op_eq (pe_callB call_len_seq (by rfl) T.len PySem.boot_len (pa_cons (pv 0) pa_nil)) pe_int (nomark _)) ((pss_one (ps_ret (pe_op op_add_str (pe_op op_add_str (pe_df d_text_within hr (pa_cons ((pe_ix ix_tup (pv 0) pe_int (fun _ _ => rfl))) (pa_cons (pv 2) pa_nil))) (pe_ix (ix_dictK RK.dS) (pe_glob (v := .ref d1) (by rfl) RK.kS rfl) (pv 1) (fun _ _ => rfl))) (pe_df d_text_within hr (pa_cons ((pe_ix ix_tup (pv 0) pe_int (fun _ _ => rfl))) (pa_cons (pe_op op_a (pv 2) pe_int) pa_nil))))))) (pss_nil))) (pss_cons ((ps_if (pt_cmpR op_eq (pv 1) pe_str (nomark _)) ((pss_one (ps_ret (pe_op op_add_str (pe_df d_text_within hr (pa_cons ((pe_ix ix_tup (pv 0) pe_int (fun _ _ => rfl))) (pa_cons (pv 2) pa_nil))) (pe_ix (ix_dictK RK.dS) (pe_glob (v := .ref d1) (by rfl) RK.kS rfl) (pv 1) (fun _ _ => rfl)))))) (pss_nil))) (pss_one (ps_ret (pe_op op_add_str (pe_ix (ix_dictK RK.dS) (pe_glob (v := .ref d1) (by rfl) RK.kS rfl) (pv 1) (fun _ _ => rfl)) (pe_df d_text_within hr (pa_cons ((pe_ix ix_tup (pv 0) pe_int (fun _ _ => rfl))) (pa_cons (pv 2) pa_nil)))))))))))), ?_⟩
    have n1 : ∀ k : K1, ¬ (V.str (nm1 k) = V.str (Str.ofString "sign")) := fun k => by cases k <;> decide +kernel
    have n2 : ∀ k : K2, ¬ (V.str (nm2 k) = V.str (Str.ofString "sign")) := fun k => by cases k <;> decide +kernel
    have nosign : ∀ t : Pt, (∀ z, t ≠ .sign z) → ¬ (V.str (knm t) = V.str (Str.ofString "sign")) := fun t ht => by
      cases t with
      | leaf k => cases k <;> decide +kernel
      | sign z => exact absurd rfl (ht z)
      | one k x => exact n1 k
      | two k x y => exact n2 k
    cases t with
    | leaf k =>
      obtain ⟨a, rfl, ha⟩ := hS
      refine ⟨_, rfl, a, _, _, _, rfl, rfl, SqT.of ha, atI_nat (j := 0) rfl, ?_⟩
      refine ⟨_, rfl, Sum.inr (nm0 k), _, rfl, rfl, str_t (.leaf k), ?_⟩
      refine ⟨_, rfl, rfl, _, rfl, iteN (nosign (.leaf k) (fun _ z => nomatch z)) ?_⟩
      refine ⟨_, rfl, a, _, rfl, .inr (SqT.of ha), rfl, _, rfl, iteD rfl ?_⟩
      exact ⟨_, rfl, Sum.inr (nm0 k), _, rfl, rfl, sig_0 k, q⟩
    | sign z =>
      obtain ⟨a, rfl, ha⟩ := hS
      refine ⟨_, rfl, a, _, _, _, rfl, rfl, SqT.of ha, atI_nat (j := 0) rfl, ?_⟩
      refine ⟨_, rfl, Sum.inr "sign", _, rfl, rfl, str_t (.sign z), ?_⟩
      refine ⟨_, rfl, rfl, _, rfl, iteD rfl ?_⟩
      exact ⟨_, rfl, a, _, _, _, rfl, rfl, SqT.of ha, atI_nat (j := 1) rfl, q⟩
    | one k x =>
      have hd : x.dep + 1 ≤ n + 1 := hd
      have hz : x.sz + 1 ≤ 1000 := hz
      have hlx := txtM_len x
      obtain ⟨a, u, rfl, ha, hx⟩ := hS
      have hin : ∀ b, (tx (inM b (txtM x))).length + (tx [m1 k]).length ≤ sizeLine := fun b => by
        rw [tx_len, tx_len]
        have := inM_len b (txtM x)
        exact line_ge (by simp; omega)
      have hin' : ∀ b, (tx [m1 k]).length + (tx (inM b (txtM x))).length ≤ sizeLine := fun b => by
        rw [tx_len, tx_len]
        have := inM_len b (txtM x)
        exact line_ge (by simp; omega)
      refine ⟨_, rfl, a, _, _, _, rfl, rfl, SqT.of ha, atI_nat (j := 0) rfl, ?_⟩
      refine ⟨_, rfl, Sum.inr (nm1 k), _, rfl, rfl, str_t (.one k x), ?_⟩
      refine ⟨_, rfl, rfl, _, rfl, iteN (nosign (.one k x) (fun _ z => nomatch z)) ?_⟩
      refine ⟨_, rfl, a, _, rfl, .inr (SqT.of ha), rfl, _, rfl, iteN (show ¬ (V.int ((2 : Nat) : Int) = V.int 1) by decide) ?_⟩
      refine ⟨_, rfl, a, _, rfl, .inr (SqT.of ha), rfl, _, rfl, iteN (show ¬ (V.int ((2 : Nat) : Int) = V.int 3) by decide) ?_⟩
      cases k with
      | again =>
        refine ⟨_, rfl, rfl, _, rfl, iteD rfl ?_⟩
        refine ⟨_, rfl, a, _, _, _, rfl, rfl, SqT.of ha, atI_nat (j := 1) rfl, _, rfl, u, x, 5, rfl, hx, by omega, by omega, _, rfl, Sum.inr (nm1 .again), _, rfl, rfl, sig_1 .again, _, _, rfl, rfl, hin _, ?_⟩
        rw [tx_app]
        exact q
      | outside =>
        refine ⟨_, rfl, rfl, _, rfl, iteN (by decide +kernel) ?_⟩
        refine ⟨_, rfl, Sum.inr (nm1 .outside), _, rfl, rfl, sig_1 .outside, _, rfl, a, _, _, _, rfl, rfl, SqT.of ha, atI_nat (j := 1) rfl, _, rfl, u, x, 4, rfl, hx, by omega, by omega, _, _, rfl, rfl, hin' _, ?_⟩
        rw [tx_app]
        exact q
      | turned =>
        refine ⟨_, rfl, rfl, _, rfl, iteN (by decide +kernel) ?_⟩
        refine ⟨_, rfl, Sum.inr (nm1 .turned), _, rfl, rfl, sig_1 .turned, _, rfl, a, _, _, _, rfl, rfl, SqT.of ha, atI_nat (j := 1) rfl, _, rfl, u, x, 4, rfl, hx, by omega, by omega, _, _, rfl, rfl, hin' _, ?_⟩
        rw [tx_app]
        exact q
    | two k x y =>
      have hd : max x.dep y.dep + 1 ≤ n + 1 := hd
      have hz : x.sz + y.sz + 1 ≤ 1000 := hz
      have hlx := txtM_len x
      have hly := txtM_len y
      have hlm : (m2 k).length ≤ 1 := by cases k <;> decide
      obtain ⟨a, u, u2, rfl, ha, hx, hy⟩ := hS
      refine ⟨_, rfl, a, _, _, _, rfl, rfl, SqT.of ha, atI_nat (j := 0) rfl, ?_⟩
      refine ⟨_, rfl, Sum.inr (nm2 k), _, rfl, rfl, str_t (.two k x y), ?_⟩
      refine ⟨_, rfl, rfl, _, rfl, iteN (nosign (.two k x y) (fun _ z => nomatch z)) ?_⟩
      refine ⟨_, rfl, a, _, rfl, .inr (SqT.of ha), rfl, _, rfl, iteN (show ¬ (V.int ((3 : Nat) : Int) = V.int 1) by decide) ?_⟩
      refine ⟨_, rfl, a, _, rfl, .inr (SqT.of ha), rfl, _, rfl, iteD rfl ?_⟩
      refine ⟨_, rfl, a, _, _, _, rfl, rfl, SqT.of ha, atI_nat (j := 1) rfl, _, rfl, u, x, lvl k + 1, rfl, hx, by omega, by omega, _, rfl, Sum.inr (nm2 k), _, rfl, rfl, sig_2 k, _, _, rfl, rfl, ?_, ?_⟩
      · rw [tx_len, tx_len]
        have := inM_len (decide (strP x < lvl k + 1)) (txtM x)
        exact line_ge (by omega)
      refine ⟨_, rfl, a, _, _, _, rfl, rfl, SqT.of ha, atI_nat (j := 2) rfl, _, rfl, _, _, rfl, rfl, u2, y, lvl k + 2, rfl, hy, by omega, by omega, _, _, rfl, rfl, ?_, ?_⟩
      · rw [tx_app, tx_len, tx_len, List.length_append]
        have := inM_len (decide (strP x < lvl k + 1)) (txtM x)
        have := inM_len (decide (strP y < lvl k + 2)) (txtM y)
        exact line_ge (by omega)
      · rw [tx_app, tx_app]
        exact q
theorem sc_text_within : FnScope ["shape", "strength"] ["shape", "strength"] (defScope s_text_within) := ⟨rfl, rfl, rfl, by decide +kernel, rfl, by decide +kernel, by decide +kernel⟩
set_option maxHeartbeats 4000000 in
theorem ok_text_within {f : Addr} {fd : FuncData} (F : Fun K "text_within" "text_within" s_text_within f fd) (T : Txt K mg) (RK : RdKit P w K mg base c cD d1 d2 d3) (n : Nat) (d_text_of : Df P w K mg base "text_of" (2 * n) ["shape"] (spTxt n)) : FnOk P w K mg base CX0 (2 * n + 1) f fd ["shape", "strength"] (spTin n) := by
  refine F.ok sc_text_within (fun vs H Q E h => ?_) (fun cdv A outer s H vs Q E hr h => ?_)
  · obtain ⟨v, t, m, rfl, _⟩ := h
    rfl
  · obtain ⟨v, t, m, rfl, hS, hd, hz, q⟩ := h
    refine ⟨_, (pss_cons ((ps_if (pt_cmpR op_lt (pe_ix (ix_dictK RK.dT) (pe_glob (v := .ref d3) (by rfl) RK.kT rfl) (pe_ix ix_tup (pv 0) pe_int (fun _ _ => rfl)) (fun _ _ => rfl)) (pv 1) (nomark _)) ((pss_one (ps_ret (pe_op op_add_str (pe_op op_add_str pe_str (pe_df d_text_of hr (pa_cons (pv 0) pa_nil))) pe_str)))) (pss_nil))) (pss_one (ps_ret (pe_df d_text_of hr (pa_cons (pv 0) pa_nil))))), ?_⟩
    have hfst : ∃ a xs, v = .ref a ∧ H a = some (.tup xs) ∧ atI xs 0 = some (.str (knm t)) := by
      cases t with
      | leaf k => obtain ⟨a, e, ha⟩ := hS; exact ⟨a, _, e, ha, atI_nat (j := 0) rfl⟩
      | sign k => obtain ⟨a, e, ha⟩ := hS; exact ⟨a, _, e, ha, atI_nat (j := 0) rfl⟩
      | one k x => obtain ⟨a, u, e, ha, _⟩ := hS; exact ⟨a, _, e, ha, atI_nat (j := 0) rfl⟩
      | two k x y => obtain ⟨a, u, u2, e, ha, _⟩ := hS; exact ⟨a, _, e, ha, atI_nat (j := 0) rfl⟩
    obtain ⟨a, xs, rfl, ha, hat⟩ := hfst
    have hlen := txtM_len t
    have e40 : Str.ofString "(" = tx [40] := by decide +kernel
    have e41 : Str.ofString ")" = tx [41] := by decide +kernel
    refine ⟨_, rfl, a, _, _, _, rfl, rfl, SqT.of ha, hat, Sum.inr (knm t), _, rfl, rfl, str_t t, _, rfl, _, _, rfl, rfl, _, rfl, ?_⟩
    by_cases hlt : strP t < m
    · rw [decide_eq_true hlt] at q
      refine iteD (by omega) ⟨_, rfl, _, t, rfl, hS, hd, hz, _, _, rfl, rfl, ?_, _, _, rfl, rfl, ?_, ?_⟩
      · rw [e40, tx_len, tx_len]
        exact line_ge (by simp; omega)
      · rw [e40, e41, tx_app, tx_len, tx_len]
        exact line_ge (by simp; omega)
      · rw [e40, e41, tx_app, tx_app]
        exact q
    · rw [decide_eq_false hlt] at q
      exact iteN (by omega) ⟨_, rfl, _, t, rfl, hS, hd, hz, q⟩
theorem texts_ok {f f2 : Addr} {fd fd2 : FuncData} (F : Fun K "text_of" "text_of" s_text_of f fd) (F2 : Fun K "text_within" "text_within" s_text_within f2 fd2) (T : Txt K mg) (RK : RdKit P w K mg base c cD d1 d2 d3) (m1 : mg "text_of" = some (.ref f)) (b1 : Binds K fd ["shape"] []) (m2 : mg "text_within" = some (.ref f2)) (b2 : Binds K fd2 ["shape", "strength"] []) :
    ∀ n, FnOk P w K mg base CX0 (2 * n) f fd ["shape"] (spTxt n) ∧ FnOk P w K mg base CX0 (2 * n + 1) f2 fd2 ["shape", "strength"] (spTin n) := by
  intro n
  induction n with
  | zero =>
    have z : FnOk P w K mg base CX0 (2 * 0) f fd ["shape"] (spTxt 0) := ⟨fun vs H Q E h => by obtain ⟨v, t, _, _, hd, _⟩ := h; have := t.dep_pos; omega, fun _ _ _ _ _ _ vs Q E _ _ _ _ h => by obtain ⟨v, t, _, _, hd, _⟩ := h; have := t.dep_pos; omega⟩
    exact ⟨z, ok_text_within F2 T RK 0 ⟨f, fd, m1, F.kp, b1, z⟩⟩
  | succ n ih =>
    have z := ok_text_of F T RK n ⟨f2, fd2, m2, F2.kp, b2, ih.2⟩
    exact ⟨z, ok_text_within F2 T RK (n + 1) ⟨f, fd, m1, F.kp, b1, z⟩⟩
theorem sch_text : FnScope ["self"] ["self"] (defScope h_text) := ⟨rfl, rfl, rfl, by decide +kernel, rfl, by decide +kernel, by decide +kernel⟩
theorem okh_text {f : Addr} {fd : FuncData} (F : Fun K "text" "Pattern.text" h_text f fd) (PC : ∀ k, PCls K (c k) cP) {fs : Kd → Addr} {fds : Kd → FuncData} (mS : ∀ k, Meth K (c k) "shape" (fs k)) (bS : ∀ k, Binds K (fds k) ["self"] []) (SH : ∀ n k, FnOk P w K mg base CX0 n (fs k) (fds k) ["self"] (spShape c n k)) (n : Nat) (d_text_of : Df P w K mg base "text_of" (2 * n) ["shape"] (spTxt n)) : FnOk P w K mg base CX0 (2 * n + 1) f fd ["self"] (spText c n) := by
  refine F.ok sch_text (fun vs H Q E h => ?_) (fun cdv A outer s H vs Q E hr h => ?_)
  · obtain ⟨a, t, rfl, _⟩ := h
    rfl
  · obtain ⟨a, t, rfl, hp, hd, hz, q⟩ := h
    have hrn := hr.mono (j := n) (by omega)
    obtain ⟨a1, dx1, fs1, e1, h1, l1⟩ := hp.ins
    cases e1
    refine ⟨_, (pss_one (ps_ret (pe_df d_text_of hr (pa_cons (pe_methP (pv 0) (fun k => (PC k).cl) mS (SH n) hrn bS pass0) pa_nil)))), ?_⟩
    exact ⟨_, rfl, t.kd, a, dx1, fs1, rfl, h1, l1, a, t, rfl, hp, rfl, hd, fun v1 H1 s1 hv1 => ⟨v1, t, rfl, hv1, hd, hz, q H1 s1⟩⟩
theorem sc_is_wanting : FnScope ["sign"] ["sign"] (defScope s_is_wanting) := ⟨rfl, rfl, rfl, by decide +kernel, rfl, by decide +kernel, by decide +kernel⟩
set_option maxHeartbeats 4000000 in
theorem ok_is_wanting {f : Addr} {fd : FuncData} (F : Fun K "is_wanting" "is_wanting" s_is_wanting f fd) (T : Txt K mg) : FnOk P w K mg base CX0 1 f fd ["sign"] sp_iswanting := by
  refine F.ok sc_is_wanting (fun vs H Q E h => ?_) (fun cdv A outer s H vs Q E hr h => ?_)
  · obtain ⟨ch, rfl, _⟩ := h
    rfl
  · obtain ⟨ch, rfl, q⟩ := h
    refine ⟨_, (pss_one (ps_ret (pe_cmpR op_in_str (pv 0) pe_str (by with_unfolding_all rfl)))), ?_⟩
    refine ⟨_, rfl, _, tx [33, 60, 40, 38, 124, 45], rfl, congrArg V.str (by decide +kernel), ?_⟩
    show Q (.bl (!(Builtin.Str.occurrences (tx [33, 60, 40, 38, 124, 45]) ⟨#[ch]⟩ 0 (tx [33, 60, 40, 38, 124, 45]).length 1).isEmpty)) H
    rw [occ_one]
    exact q
theorem sc_can_stand : FnScope ["letters", "sign", "wanting", "depth"] ["letters", "sign", "wanting", "depth"] (defScope s_can_stand) := ⟨rfl, rfl, rfl, by decide +kernel, rfl, by decide +kernel, by decide +kernel⟩
set_option maxHeartbeats 4000000 in
theorem ok_can_stand {f : Addr} {fd : FuncData} (F : Fun K "can_stand" "can_stand" s_can_stand f fd) (T : Txt K mg) : FnOk P w K mg base CX0 1 f fd ["letters", "sign", "wanting", "depth"] sp_canstand := by
  refine F.ok sc_can_stand (fun vs H Q E h => ?_) (fun cdv A outer s H vs Q E hr h => ?_)
  · obtain ⟨L, ch, w, dd, rfl, _⟩ := h
    rfl
  · obtain ⟨L, ch, w, dd, rfl, q⟩ := h
    refine ⟨_, (pss_cons ((ps_if ((pw_or (pt_cmpR op_in_str (pv 1) (pv 0) (by with_unfolding_all rfl)) (pw_or1 (pt_cmpR op_in_str (pv 1) pe_str (by with_unfolding_all rfl)))).pt) ((pss_one (ps_ret pe_bl))) (pss_nil))) (pss_cons ((ps_if (pt_cmpR op_eq (pv 1) pe_str (nomark _)) ((pss_one (ps_ret (pe_and (pe_cmpR op_gt (pv 3) pe_int (nomark _)) (pe_one (pe_not (pv 2))))))) (pss_nil))) (pss_one (ps_ret (pe_and (pe_cmpR op_in_str (pv 1) pe_str (by with_unfolding_all rfl)) (pe_one (pe_not (pv 2)))))))), ?_⟩
    unfold canS at q
    refine ⟨_, rfl, _, rfl, _, _, rfl, rfl, _, rfl, ?_⟩
    have e1 := occ_one L ch
    have e2 := occ_one [48, 49, 46, 33, 60, 40] ch
    have e3 := occ_one [42, 38, 124, 45] ch
    refine iteB (fun h1 => iteT ?_) (fun h1 => ?_)
    · rw [if_pos (by rw [← e1]; rw [show (!(Builtin.Str.occurrences (tx L) ⟨#[ch]⟩ 0 (tx L).length 1).isEmpty) = true from h1]; rfl)] at q
      exact q
    have h1' : L.contains ch = false := e1.symm.trans h1
    refine ⟨_, rfl, _, tx [48, 49, 46, 33, 60, 40], rfl, congrArg V.str (by decide +kernel), _, rfl, iteB (fun h2 => ?_) (fun h2 => ?_)⟩
    · rw [if_pos (by rw [show [48, 49, 46, 33, 60, 40].contains ch = true from e2.symm.trans h2, Bool.or_true])] at q
      exact q
    have h2' : [48, 49, 46, 33, 60, 40].contains ch = false := e2.symm.trans h2
    rw [if_neg (by rw [h1', h2']; decide)] at q
    refine ⟨_, rfl, rfl, _, rfl, ite3 (fun h3 => ?_) (fun h3 => ?_)⟩
    · rw [if_pos ((one_eq (by decide +kernel)).mp h3)] at q
      refine ⟨_, rfl, _, _, rfl, rfl, _, rfl, ?_⟩
      refine ite3 (fun h4 => ⟨_, rfl, _, rfl, ?_⟩) (fun h4 => ?_)
      · rw [decide_eq_true (show 0 < dd by omega), Bool.true_and] at q
        exact q
      · rw [decide_eq_false (show ¬ 0 < dd by omega), Bool.false_and] at q
        exact q
    · rw [if_neg (fun e => h3 ((one_eq (by decide +kernel)).mpr e))] at q
      refine ⟨_, rfl, _, tx [42, 38, 124, 45], rfl, congrArg V.str (by decide +kernel), _, rfl, iteB (fun h4 => ⟨_, rfl, _, rfl, ?_⟩) (fun h4 => ?_)⟩
      · rw [show [42, 38, 124, 45].contains ch = true from e3.symm.trans h4, Bool.true_and] at q
        exact q
      · rw [show [42, 38, 124, 45].contains ch = false from e3.symm.trans h4, Bool.false_and] at q
        exact h4 ▸ q
theorem sc_need_pattern : FnScope ["letters", "text", "depth", "wanting", "at", "sign"] ["letters", "text"] (defScope s_need_pattern) := ⟨rfl, rfl, rfl, by decide +kernel, rfl, by decide +kernel, by decide +kernel⟩
set_option maxHeartbeats 4000000 in
theorem ok_need_pattern {f : Addr} {fd : FuncData} (F : Fun K "need_pattern" "need_pattern" s_need_pattern f fd) (T : Txt K mg) (d_can_stand : Df P w K mg base "can_stand" 1 ["letters", "sign", "wanting", "depth"] sp_canstand) (d_is_wanting : Df P w K mg base "is_wanting" 1 ["sign"] sp_iswanting) : FnOk P w K mg base CX0 2 f fd ["letters", "text"] sp_needpattern := by
  refine F.ok sc_need_pattern (fun vs H Q E h => ?_) (fun cdv A outer s H vs Q E hr h => ?_)
  · obtain ⟨L, w, rfl, _⟩ := h
    rfl
  · obtain ⟨L, w, rfl, hLS, hsc, q⟩ := h
    refine ⟨_, (pss_cons ((ps_set (i := 2) sc_need_pattern.nd rfl (Or.inl rfl) (pe_int))) (pss_cons ((ps_set (i := 3) sc_need_pattern.nd rfl (Or.inl rfl) (pe_bl))) (pss_cons ((ps_for PassesOwn.never rfl (pi_enum rfl T.enum (pa_cons (pv 1) pa_nil)) (pg_tup rfl (pgs_cons (pg_name (i := 4) sc_need_pattern.nd rfl (Or.inl rfl)) (pgs_cons (pg_name (i := 5) sc_need_pattern.nd rfl (Or.inl rfl)) pgs_nil))) (pss_cons ((ps_if (pt_not (pt_val (pe_df d_can_stand hr (pa_cons (pv 0) (pa_cons (pv 5) (pa_cons (pv 3) (pa_cons (pv 2) pa_nil))))))) ((pss_one (ps_never))) (pss_nil))) (pss_cons ((ps_if (pt_cmpR op_eq (pv 5) pe_str (nomark _)) ((pss_one ((ps_set (i := 2) sc_need_pattern.nd rfl (Or.inl rfl) (pe_op op_a (pv 2) pe_int))))) (pss_nil))) (pss_cons ((ps_if (pt_cmpR op_eq (pv 5) pe_str (nomark _)) ((pss_one ((ps_set (i := 2) sc_need_pattern.nd rfl (Or.inl rfl) (pe_op op_s (pv 2) pe_int))))) (pss_nil))) (pss_one ((ps_set (i := 3) sc_need_pattern.nd rfl (Or.inl rfl) ((pe_df d_is_wanting hr (pa_cons (pv 5) pa_nil))))))))))) (pss_one ((ps_if ((pw_or (pt_val (pv 3)) (pw_or1 (pt_cmpR op_gt (pv 2) pe_int (nomark _)))).pt) ((pss_one (ps_never))) (pss_nil))))))), ?_⟩
    refine ⟨_, rfl, _, rfl, for_enum (x := tx w) (fun i σ H' => ∃ (dd : Nat) (b : Bool) (s4 s5 : Option V), σ = [some (.str (tx L)), some (.str (tx w)), some (.int (dd : Int)), some (.bl b), s4, s5] ∧ Same H H' ∧ scan L dd b (w.drop i) = some (0, false)) ⟨0, true, none, none, rfl, Same.refl H, hsc⟩ ?_ ?_⟩
    · rintro i ch p σ H1 hc hp ⟨dd, b, s4, s5, rfl, sm, hs⟩
      rw [tx_get] at hc
      have hi : i < w.length := (List.getElem?_eq_some_iff.mp hc).1
      have hch : w[i] = ch := (List.getElem?_eq_some_iff.mp hc).2
      rw [List.drop_eq_getElem_cons hi, hch] at hs
      have hcan : canS L ch b dd = true := by
        unfold scan at hs
        by_cases h : canS L ch b dd = true
        · exact h
        · rw [if_neg h] at hs
          cases hs
      have hs' : scan L (dAfter ch dd) (isW ch) (w.drop (i + 1)) = some (0, false) := by
        unfold scan at hs
        rw [if_pos hcan] at hs
        exact hs
      have sm' := sm.trans (Same.upd (o := .tup [.int (i : Int), .str ⟨#[ch]⟩]) hp)
      refine ⟨p, _, rfl, SqT.of upd_same, rfl, _, _, rfl, _, _, rfl, rfl, ?_⟩
      refine ⟨_, rfl, _, rfl, _, rfl, _, rfl, L, ch, b, dd, rfl, _, rfl, ?_⟩
      rw [hcan]
      refine iteF ?_
      by_cases h40 : ch = 40
      · subst h40
        refine ⟨_, rfl, rfl, _, rfl, iteD ((one_eq (by decide +kernel)).mpr rfl) ⟨_, rfl, _, _, rfl, rfl, ?_⟩⟩
        refine ⟨_, rfl, rfl, _, rfl, iteN (fun h => absurd ((one_eq (x := 41) (by decide +kernel)).mp h) (by decide)) ⟨_, rfl, 40, rfl, ?_⟩⟩
        exact ⟨dd + 1, _, _, _, rfl, sm', hs'⟩
      refine ⟨_, rfl, rfl, _, rfl, iteN (fun h => h40 ((one_eq (by decide +kernel)).mp h)) ?_⟩
      by_cases h41 : ch = 41
      · subst h41
        have hdd : 0 < dd := by
          unfold canS at hcan
          by_cases hL41 : (L.contains 41 || [48, 49, 46, 33, 60, 40].contains 41) = true
          · exfalso
            rw [Bool.or_eq_true] at hL41
            rcases hL41 with z | z
            · have := hLS 41 (by simpa using z)
              omega
            · revert z
              decide
          · rw [if_neg hL41, if_pos rfl] at hcan
            have := (Bool.and_eq_true _ _).mp hcan
            exact of_decide_eq_true this.1
        obtain ⟨d', rfl⟩ : ∃ d', dd = d' + 1 := ⟨dd - 1, by omega⟩
        refine ⟨_, rfl, rfl, _, rfl, iteD ((one_eq (by decide +kernel)).mpr rfl) ⟨_, rfl, _, _, rfl, rfl, ⟨_, rfl, 41, rfl, ?_⟩⟩⟩
        refine ⟨d', _, some (.int (i : Int)), some (.str ⟨#[41]⟩), ?_, sm', hs'⟩
        show _ = [some (V.str (tx L)), some (V.str (tx w)), some (V.int ((d' : Nat) : Int)), some (V.bl (isW 41)), some (V.int (i : Int)), some (V.str ⟨#[41]⟩)]
        rw [show ((d' : Nat) : Int) = ((d' + 1 : Nat) : Int) - 1 by omega]
        rfl
      refine ⟨_, rfl, rfl, _, rfl, iteN (fun h => h41 ((one_eq (by decide +kernel)).mp h)) ⟨_, rfl, ch, rfl, ?_⟩⟩
      rw [dAfter_ne h40 h41] at hs'
      exact ⟨dd, _, _, _, rfl, sm', hs'⟩
    · rintro σ H1 ⟨dd, b, s4, s5, rfl, sm, hs⟩
      rw [tx_len, List.drop_length] at hs
      cases hs
      refine ⟨_, rfl, _, rfl, iteF ⟨_, rfl, _, _, rfl, rfl, _, rfl, iteN (by decide) ?_⟩⟩
      exact q H1 sm
theorem sc_piece_of : FnScope ["token"] ["token"] (defScope s_piece_of) := ⟨rfl, rfl, rfl, by decide +kernel, rfl, by decide +kernel, by decide +kernel⟩
set_option maxHeartbeats 4000000 in
theorem ok_piece_of {f : Addr} {fd : FuncData} (F : Fun K "piece_of" "piece_of" s_piece_of f fd) (T : Txt K mg) (PK : PatKit P w K mg base c cP) : FnOk P w K mg base CX0 3 f fd ["token"] (sp_piece c) := by
  refine F.ok sc_piece_of (fun vs H Q E h => ?_) (fun cdv A outer s H vs Q E hr h => ?_)
  · obtain ⟨t, rfl, _⟩ := h
    rfl
  · obtain ⟨t, rfl, hok, q⟩ := h
    obtain ⟨fS, fdS, MS, GS, bS⟩ := PK.iS
    refine ⟨_, (pss_cons ((ps_if (pt_cmpR op_eq (pv 0) pe_str (nomark _)) ((pss_one (ps_ret (pe_make00 (PK.mk0 .never) rfl (PK.kc (.leaf .never)))))) (pss_nil))) (pss_cons ((ps_if (pt_cmpR op_eq (pv 0) pe_str (nomark _)) ((pss_one (ps_ret (pe_make00 (PK.mk0 .empty) rfl (PK.kc (.leaf .empty)))))) (pss_nil))) (pss_cons ((ps_if (pt_cmpR op_eq (pv 0) pe_str (nomark _)) ((pss_one (ps_ret (pe_make00 (PK.mk0 .any) rfl (PK.kc (.leaf .any)))))) (pss_nil))) (pss_one (ps_ret (pe_make MS GS hr rfl (PK.kc .sign) bS .nil pass0 (pa_cons (pv 0) pa_nil))))))), ?_⟩
    have mk : ∀ (k : K0) (x dx : Addr), H x = none → H dx = none → dx ≠ x → (∀ v H', Same H H' → PatAt c H' (.leaf k) v → Q v H') → Q (.ref x) (upd (upd H dx (.own x)) x (.ins (c (.leaf k)) dx [])) := fun k x dx hx hdx hne q =>
      q _ _ (made_same (o0 := .own x) hx hdx fun b o e hb => by rw [upd_ne hb] at e ⊢; exact e) ⟨x, dx, rfl, upd_same⟩
    cases t with
    | leaf k =>
      cases k with
      | never => exact ⟨_, rfl, rfl, _, rfl, iteD (by decide +kernel) (fun x dx hx hdx hne => mk .never x dx hx hdx hne q)⟩
      | empty => exact ⟨_, rfl, rfl, _, rfl, iteN (by decide +kernel) ⟨_, rfl, rfl, _, rfl, iteD (by decide +kernel) (fun x dx hx hdx hne => mk .empty x dx hx hdx hne q)⟩⟩
      | any => exact ⟨_, rfl, rfl, _, rfl, iteN (by decide +kernel) ⟨_, rfl, rfl, _, rfl, iteN (by decide +kernel) ⟨_, rfl, rfl, _, rfl, iteD (by decide +kernel) (fun x dx hx hdx hne => mk .any x dx hx hdx hne q)⟩⟩⟩
    | sign ch =>
      refine ⟨_, rfl, rfl, _, rfl, iteN (fun e => sg_ne (l := [110, 101, 118, 101, 114]) (by decide +kernel) (by intro e; simp at e) (V.str.inj e)) ⟨_, rfl, rfl, _, rfl, iteN (fun e => sg_ne (l := [101, 109, 112, 116, 121]) (by decide +kernel) (by intro e; simp at e) (V.str.inj e)) ⟨_, rfl, rfl, _, rfl, iteN (fun e => sg_ne (l := [97, 110, 121]) (by decide +kernel) (by intro e; simp at e) (V.str.inj e)) ?_⟩⟩⟩
      exact ⟨_, rfl, fun x dx hx hdx hne => ⟨x, _, _, dx, rfl, upd_same, (PK.pc _).cl, (PK.pc _).nS, fun H1 k1 hx1 => ⟨rfl, q _ _ (made_same hx hdx k1) ⟨x, dx, rfl, hx1⟩⟩⟩⟩
    | one _ _ => exact (show False from hok).elim
    | two _ _ _ => exact (show False from hok).elim
theorem sc_pair_of : FnScope ["kind", "left", "right"] ["kind", "left", "right"] (defScope s_pair_of) := ⟨rfl, rfl, rfl, by decide +kernel, rfl, by decide +kernel, by decide +kernel⟩
set_option maxHeartbeats 4000000 in
theorem ok_pair_of {f : Addr} {fd : FuncData} (F : Fun K "pair_of" "pair_of" s_pair_of f fd) (T : Txt K mg) (PK : PatKit P w K mg base c cP) : FnOk P w K mg base CX0 3 f fd ["kind", "left", "right"] (sp_pairof c) := by
  refine F.ok sc_pair_of (fun vs H Q E h => ?_) (fun cdv A outer s H vs Q E hr h => ?_)
  · obtain ⟨k, u, w', x, y, rfl, _⟩ := h
    rfl
  · obtain ⟨k, u, w', x, y, rfl, hx, hy, q⟩ := h
    obtain ⟨fP, fdP, MP, GP, bP⟩ := PK.iP
    refine ⟨_, (pss_cons ((ps_if (pt_cmpR op_eq (pv 0) pe_str (nomark _)) ((pss_one (ps_ret (pe_make (MP .either) GP hr rfl (PK.kc (.two .either)) bP .nil pass0 (pa_cons (pv 1) (pa_cons (pv 2) pa_nil)))))) (pss_nil))) (pss_cons ((ps_if (pt_cmpR op_eq (pv 0) pe_str (nomark _)) ((pss_one (ps_ret (pe_make (MP .less) GP hr rfl (PK.kc (.two .less)) bP .nil pass0 (pa_cons (pv 1) (pa_cons (pv 2) pa_nil)))))) (pss_nil))) (pss_cons ((ps_if (pt_cmpR op_eq (pv 0) pe_str (nomark _)) ((pss_one (ps_ret (pe_make (MP .both) GP hr rfl (PK.kc (.two .both)) bP .nil pass0 (pa_cons (pv 1) (pa_cons (pv 2) pa_nil)))))) (pss_nil))) (pss_one (ps_ret (pe_make (MP .then_) GP hr rfl (PK.kc (.two .then_)) bP .nil pass0 (pa_cons (pv 1) (pa_cons (pv 2) pa_nil)))))))), ?_⟩
    cases k with
    | either => exact ⟨_, rfl, rfl, _, rfl, iteD (by decide +kernel) ⟨_, rfl, _, rfl, fun z dx hz hdx hne => ⟨z, _, _, _, dx, rfl, upd_same, (PK.pc _).cl, (PK.pc _).nL, (PK.pc _).nR, fun H1 k1 hx1 => ⟨rfl, q _ _ (made_same hz hdx k1) ⟨z, dx, u, w', rfl, hx1, hx.kp (Same.kp (made_same hz hdx k1)), hy.kp (Same.kp (made_same hz hdx k1))⟩⟩⟩⟩⟩
    | less => exact ⟨_, rfl, rfl, _, rfl, iteN (by decide +kernel) ⟨_, rfl, rfl, _, rfl, iteD (by decide +kernel) ⟨_, rfl, _, rfl, fun z dx hz hdx hne => ⟨z, _, _, _, dx, rfl, upd_same, (PK.pc _).cl, (PK.pc _).nL, (PK.pc _).nR, fun H1 k1 hx1 => ⟨rfl, q _ _ (made_same hz hdx k1) ⟨z, dx, u, w', rfl, hx1, hx.kp (Same.kp (made_same hz hdx k1)), hy.kp (Same.kp (made_same hz hdx k1))⟩⟩⟩⟩⟩⟩
    | both => exact ⟨_, rfl, rfl, _, rfl, iteN (by decide +kernel) ⟨_, rfl, rfl, _, rfl, iteN (by decide +kernel) ⟨_, rfl, rfl, _, rfl, iteD (by decide +kernel) ⟨_, rfl, _, rfl, fun z dx hz hdx hne => ⟨z, _, _, _, dx, rfl, upd_same, (PK.pc _).cl, (PK.pc _).nL, (PK.pc _).nR, fun H1 k1 hx1 => ⟨rfl, q _ _ (made_same hz hdx k1) ⟨z, dx, u, w', rfl, hx1, hx.kp (Same.kp (made_same hz hdx k1)), hy.kp (Same.kp (made_same hz hdx k1))⟩⟩⟩⟩⟩⟩⟩
    | then_ => exact ⟨_, rfl, rfl, _, rfl, iteN (by decide +kernel) ⟨_, rfl, rfl, _, rfl, iteN (by decide +kernel) ⟨_, rfl, rfl, _, rfl, iteN (by decide +kernel) ⟨_, rfl, _, rfl, fun z dx hz hdx hne => ⟨z, _, _, _, dx, rfl, upd_same, (PK.pc _).cl, (PK.pc _).nL, (PK.pc _).nR, fun H1 k1 hx1 => ⟨rfl, q _ _ (made_same hz hdx k1) ⟨z, dx, u, w', rfl, hx1, hx.kp (Same.kp (made_same hz hdx k1)), hy.kp (Same.kp (made_same hz hdx k1))⟩⟩⟩⟩⟩⟩⟩
theorem sc_settle : FnScope ["desk", "strength", "kind", "last"] ["desk", "strength"] (defScope s_settle) := ⟨rfl, rfl, rfl, by decide +kernel, rfl, by decide +kernel, by decide +kernel⟩
set_option maxHeartbeats 4000000 in
theorem ok_settle {f : Addr} {fd : FuncData} (F : Fun K "settle" "settle" s_settle f fd) (T : Txt K mg) (PK : PatKit P w K mg base c cP) (RK : RdKit P w K mg base c cD d1 d2 d3) (d_pair_of : Df P w K mg base "pair_of" 3 ["kind", "left", "right"] (sp_pairof c)) : FnOk P w K mg base CX0 4 f fd ["desk", "strength"] (sp_settle c cD) := by
  refine F.ok sc_settle (fun vs H Q E h => ?_) (fun cdv A outer s H vs Q E hr h => ?_)
  · obtain ⟨d, dx, pa, wa, us, ps, ws, n, ps', ws', rfl, _⟩ := h
    rfl
  · obtain ⟨d, dx, pa, wa, us, ps, ws, n, ps', ws', rfl, D, hn, hset, hlen, q⟩ := h
    obtain ⟨fU, fdU, MU, GU, bU⟩ := PK.iU
    have hr2 := hr.mono (j := 2) (by decide)
    refine ⟨_, (pss_one (ps_while PassesOwn.never (pt_cmpR op_ge (pe_getK RK.dT (pe_glob (v := .ref d3) (by rfl) RK.kT rfl) (pa_cons (pe_ix ix_list (pe_fld (pv 0) rfl) (pe_un un_neg pe_int) (fun _ _ => rfl)) (pa_cons pe_int pa_nil))) (pv 1) (nomark _))
      (pss_cons ((ps_set (i := 2) sc_settle.nd rfl (Or.inl rfl) ((pe_bm0 PySem.F.plainAttrs_list PySem.F.slot_list_pop PySem.F.type_list_pop mt_pop (pe_fld (pv 0) rfl))))) (pss_cons ((ps_set (i := 3) sc_settle.nd rfl (Or.inl rfl) ((pe_bm0 PySem.F.plainAttrs_list PySem.F.slot_list_pop PySem.F.type_list_pop mt_pop (pe_fld (pv 0) rfl))))) (pss_one ((ps_if (pt_cmpR op_eq (pv 2) pe_str (nomark _)) ((pss_one (ps_expr (pe_bm PySem.F.plainAttrs_list PySem.F.slot_list_append PySem.F.type_list_append mt_append (pe_fld (pv 0) rfl) (pa_cons ((pe_make (MU .outside) GU hr2 rfl (PK.kc (.one .outside)) bU .nil pass0 (pa_cons (pv 3) pa_nil))) pa_nil))))) ((pss_one ((ps_if (pt_cmpR op_eq (pv 2) pe_str (nomark _)) ((pss_one (ps_expr (pe_bm PySem.F.plainAttrs_list PySem.F.slot_list_append PySem.F.type_list_append mt_append (pe_fld (pv 0) rfl) (pa_cons ((pe_make (MU .turned) GU hr2 rfl (PK.kc (.one .turned)) bU .nil pass0 (pa_cons (pv 3) pa_nil))) pa_nil))))) ((pss_one (ps_expr (pe_bm PySem.F.plainAttrs_list PySem.F.slot_list_append PySem.F.type_list_append mt_append (pe_fld (pv 0) rfl) (pa_cons ((pe_df d_pair_of hr (pa_cons (pv 2) (pa_cons ((pe_bm0 PySem.F.plainAttrs_list PySem.F.slot_list_pop PySem.F.type_list_pop mt_pop (pe_fld (pv 0) rfl))) (pa_cons (pv 3) pa_nil))))) pa_nil)))))))))))))))), ?_⟩
    refine while_by (fun σ H' => ∃ us1 ps1 ws1 s2 s3, σ = [some (.ref d), some (.int (n : Int)), s2, s3] ∧ Off pa wa H H' ∧ DeskAt c cD H' d dx pa wa us1 ps1 ws1 ∧ settleM n ps1 ws1 = some (ps', ws') ∧ ps1.length ≤ ps.length)
      (fun σ H' => match H' wa with | some (.lst l) => l.length | _ => 0) ⟨us, ps, ws, none, none, rfl, Off.refl _ _ _, D, hset, Nat.le_refl _⟩ ?_ ?_
    · rintro σ H1 ⟨us1, ps1, ws1, s2, s3, rfl, off, D1, hs1, hl1⟩
      cases ws1 with
      | nil => simp [settleM] at hs1
      | cons wt ws1 =>
      refine ⟨rfl, _, rfl, d, _, dx, _, _, rfl, D1.ob, RK.cl, RK.nW, lk_wait _ _, _, rfl, wa, _, _, _, rfl, rfl, SqL.of D1.wtop, atI_last _ _, Sum.inr (wname wt), _, rfl, ?_⟩
      rw [str_w]
      refine ⟨_, rfl, _, _, rfl, rfl, _, rfl, ite3 (fun hge => ?_) (fun hge => ?_)⟩
      · have hge' : n ≤ wt.str := by omega
        have mu : ∀ {H2 : Hp} {l : List V}, H2 wa = some (.lst l) → l.length = ws1.length → (match H2 wa with | some (.lst l) => l.length | _ => 0) < (match H1 wa with | some (.lst l) => l.length | _ => 0) := fun h1 h2 => by
          rw [h1, D1.wtop]
          simp
          omega
        refine ⟨_, rfl, d, _, dx, _, _, rfl, D1.ob, RK.cl, RK.nW, lk_wait _ _, .inl ⟨rfl, _, SqL.of D1.wtop⟩, wa, _, _, rfl, rfl, D1.wtop, last_at, ?_⟩
        rw [List.dropLast_concat]
        have D2 := D1.popW
        have off2 := off.trans (Off.w (pa := pa) (wa := wa) (H := H1) (o := .lst (ws1.reverse.map wv)))
        unfold settleM at hs1
        rw [if_pos hge'] at hs1
        match wt, ps1, D1, D2, hs1 with
        | .un k, x :: qs, D1, D2, hs1 =>
          obtain ⟨u, vs1, rfl⟩ := D2.one rfl
          obtain ⟨D3, hu⟩ := D2.popP
          refine ⟨_, rfl, d, _, dx, _, _, rfl, D2.ob, RK.cl, RK.nP, lk_pats _ _, .inl ⟨rfl, _, SqL.of D2.ptop⟩, pa, _, _, rfl, rfl, D2.ptop, last_at, ?_⟩
          rw [List.dropLast_concat]
          have off3 := off2.trans (Off.p (pa := pa) (wa := wa) (o := .lst vs1.reverse))
          have hlv := D3.pt.len
          have mk : ∀ (z dz : Addr) (H4 : Hp), (upd (upd H1 wa (.lst (ws1.reverse.map wv))) pa (.lst vs1.reverse)) z = none → Same (upd (upd H1 wa (.lst (ws1.reverse.map wv))) pa (.lst vs1.reverse)) H4 → H4 z = some (.ins (c (.one k.k1)) dz (putF "inner" u [])) →
              ∃ l xs' y, V.ref pa = V.ref l ∧ [V.ref z] = [y] ∧ H4 l = some (.lst xs') ∧ xs'.length < sizeLine ∧ ((∃ us1 ps1 ws1_1 s2 s3, ([some (.ref d), some (.int (n : Int)), some (wv (.un k)), some u] : St) = [some (.ref d), some (.int (n : Int)), s2, s3] ∧ Off pa wa H (upd H4 l (.lst (xs' ++ [y]))) ∧ DeskAt c cD (upd H4 l (.lst (xs' ++ [y]))) d dx pa wa us1 ps1 ws1_1 ∧ settleM n ps1 ws1_1 = some (ps', ws') ∧ ps1.length ≤ ps.length) ∧
                (match (upd H4 l (.lst (xs' ++ [y]))) wa with | some (.lst l) => l.length | _ => 0) < (match H1 wa with | some (.lst l) => l.length | _ => 0)) := by
            intro z dz H4 hz s4 hz4
            have D4 := D3.same s4
            have hnew : PatAt c H4 (.one k.k1 x) (.ref z) := ⟨z, dz, u, rfl, hz4, hu.kp (Same.kp s4)⟩
            refine ⟨pa, _, _, rfl, rfl, D4.pl, small1000 (by rw [List.length_reverse]; simp at hl1; omega), ⟨_, _, _, _, _, rfl, off3.trans ((Same.off s4).trans Off.p), D4.pushP hnew, hs1, by simp at hl1 ⊢; omega⟩, mu (l := ws1.reverse.map wv) (by rw [upd_ne (Ne.symm D4.ne)]; exact D4.wl) (by simp)⟩
          cases k with
          | outside =>
            exact ⟨_, rfl, rfl, _, rfl, iteD (by decide +kernel) ⟨_, rfl, d, _, dx, _, _, rfl, D3.ob, RK.cl, RK.nP, lk_pats _ _, .inl ⟨rfl, _, SqL.of D3.pl⟩, _, rfl, fun z dz hz hdz hne => ⟨z, _, _, dz, rfl, upd_same, (PK.pc _).cl, (PK.pc _).nI, fun H4 k4 hz4 => ⟨rfl, mk z dz H4 hz (made_same hz hdz k4) hz4⟩⟩⟩⟩
          | turned =>
            exact ⟨_, rfl, rfl, _, rfl, iteN (by decide +kernel) ⟨_, rfl, rfl, _, rfl, iteD (by decide +kernel) ⟨_, rfl, d, _, dx, _, _, rfl, D3.ob, RK.cl, RK.nP, lk_pats _ _, .inl ⟨rfl, _, SqL.of D3.pl⟩, _, rfl, fun z dz hz hdz hne => ⟨z, _, _, dz, rfl, upd_same, (PK.pc _).cl, (PK.pc _).nI, fun H4 k4 hz4 => ⟨rfl, mk z dz H4 hz (made_same hz hdz k4) hz4⟩⟩⟩⟩⟩
        | .bin k, y :: x :: qs, D1, D2, hs1 =>
          obtain ⟨u, vs1, rfl⟩ := D2.one rfl
          obtain ⟨D3, hu⟩ := D2.popP
          obtain ⟨u2, vs2, rfl⟩ := D3.one rfl
          refine ⟨_, rfl, d, _, dx, _, _, rfl, D2.ob, RK.cl, RK.nP, lk_pats _ _, .inl ⟨rfl, _, SqL.of D2.ptop⟩, pa, _, _, rfl, rfl, D2.ptop, last_at, ?_⟩
          rw [List.dropLast_concat]
          obtain ⟨D4, hu2⟩ := D3.popP
          have off3 := off2.trans ((Off.p (pa := pa) (wa := wa) (o := .lst (u2 :: vs2).reverse)).trans (Off.p (pa := pa) (wa := wa) (o := .lst vs2.reverse)))
          have hlv := D4.pt.len
          have hu' := hu.kp (Kp.lst (o := .lst vs2.reverse) D3.pl)
          have fin : ∃ b, V.bl false = V.bl b ∧ True := ⟨_, rfl, trivial⟩
          have n1 : ¬ (wv (.bin k) = V.str (Str.ofString "outside")) := by cases k <;> decide +kernel
          have n2 : ¬ (wv (.bin k) = V.str (Str.ofString "turned")) := by cases k <;> decide +kernel
          refine ⟨_, rfl, rfl, _, rfl, iteN n1 ⟨_, rfl, rfl, _, rfl, iteN n2 ?_⟩⟩
          refine ⟨_, rfl, d, _, dx, _, _, rfl, D3.ob, RK.cl, RK.nP, lk_pats _ _, .inl ⟨rfl, _, SqL.of D3.pl⟩, _, rfl, _, rfl, d, _, dx, _, _, rfl, D3.ob, RK.cl, RK.nP, lk_pats _ _, .inl ⟨rfl, _, SqL.of D3.ptop⟩, pa, _, _, rfl, rfl, D3.ptop, last_at, ?_⟩
          rw [List.dropLast_concat]
          refine ⟨_, rfl, k, u2, u, x, y, rfl, hu2, hu', fun v4 H4 s4 hv4 => ?_⟩
          have D5 := D4.same s4
          exact ⟨pa, _, _, rfl, rfl, D5.pl, small1000 (by rw [List.length_reverse]; simp at hl1; omega), ⟨_, _, _, _, _, rfl, off3.trans ((Same.off s4).trans Off.p), D5.pushP hv4, hs1, by simp at hl1 ⊢; omega⟩, mu (l := ws1.reverse.map wv) (by rw [upd_ne (Ne.symm D5.ne)]; exact D5.wl) (by simp)⟩
      · have hge' : wt.str < n := by omega
        rw [settleM_stop hge'] at hs1
        cases hs1
        exact q _ _ off D1
    · rintro σ H1 Q1 Q2 hQ ⟨e0, v1, e1, p1, c1', d1', f1, w1, e2, e3, e4, e5, e6, v2, e7, p2, x2, i2, z2, e8, e9, e10, e11, k2, z3, e12, v3, e13, i3, j3, e14, e15, b3, e16, q1⟩
      exact ⟨e0, v1, e1, p1, c1', d1', f1, w1, e2, e3, e4, e5, e6, v2, e7, p2, x2, i2, z2, e8, e9, e10, e11, k2, z3, e12, v3, e13, i3, j3, e14, e15, b3, e16, hQ _ _ q1⟩
theorem sc_put : FnScope ["desk", "token"] ["desk", "token"] (defScope s_put) := ⟨rfl, rfl, rfl, by decide +kernel, rfl, by decide +kernel, by decide +kernel⟩
set_option maxHeartbeats 4000000 in
theorem ok_put {f : Addr} {fd : FuncData} (F : Fun K "put" "put" s_put f fd) (T : Txt K mg) (PK : PatKit P w K mg base c cP) (RK : RdKit P w K mg base c cD d1 d2 d3) (d_settle : Df P w K mg base "settle" 4 ["desk", "strength"] (sp_settle c cD)) (d_piece_of : Df P w K mg base "piece_of" 3 ["token"] (sp_piece c)) : FnOk P w K mg base CX0 5 f fd ["desk", "token"] (sp_put c cD) := by
  refine F.ok sc_put (fun vs H Q E h => ?_) (fun cdv A outer s H vs Q E hr h => ?_)
  · obtain ⟨d, dx, pa, wa, us, ps, ws, tk, ps', ws', rfl, _⟩ := h
    rfl
  · obtain ⟨d, dx, pa, wa, us, ps, ws, tk, ps', ws', rfl, D, hok, hput, hl1, hl2, q⟩ := h
    obtain ⟨fU, fdU, MU, GU, bU⟩ := PK.iU
    have hr2 := hr.mono (j := 2) (by decide)
    have hr3 := hr.mono (j := 3) (by decide)
    refine ⟨_, (pss_one ((ps_if (pt_cmpR op_in_seq (pv 1) (pe_tup (pa_cons pe_str (pa_cons pe_str (pa_cons pe_str pa_nil)))) (by with_unfolding_all rfl)) ((pss_one (ps_expr (pe_bm PySem.F.plainAttrs_list PySem.F.slot_list_append PySem.F.type_list_append mt_append (pe_fld (pv 0) rfl) (pa_cons (pv 1) pa_nil))))) ((pss_one ((ps_if (pt_cmpR op_in_seq (pv 1) (pe_tup (pa_cons pe_str (pa_cons pe_str (pa_cons pe_str (pa_cons pe_str pa_nil))))) (by with_unfolding_all rfl)) ((pss_cons (ps_expr (pe_df d_settle hr (pa_cons (pv 0) (pa_cons (pe_ix (ix_dictK RK.dT) (pe_glob (v := .ref d3) (by rfl) RK.kT rfl) (pv 1) (fun _ _ => rfl)) pa_nil)))) (pss_one (ps_expr (pe_bm PySem.F.plainAttrs_list PySem.F.slot_list_append PySem.F.type_list_append mt_append (pe_fld (pv 0) rfl) (pa_cons (pv 1) pa_nil)))))) ((pss_one ((ps_if (pt_cmpR op_eq (pv 1) pe_str (nomark _)) ((pss_cons (ps_expr (pe_df d_settle hr (pa_cons (pv 0) (pa_cons (pe_int) pa_nil)))) (pss_one (ps_expr (pe_bm0 PySem.F.plainAttrs_list PySem.F.slot_list_pop PySem.F.type_list_pop mt_pop (pe_fld (pv 0) rfl)))))) ((pss_one ((ps_if (pt_cmpR op_eq (pv 1) pe_str (nomark _)) ((pss_one (ps_expr (pe_bm PySem.F.plainAttrs_list PySem.F.slot_list_append PySem.F.type_list_append mt_append (pe_fld (pv 0) rfl) (pa_cons ((pe_make (MU .again) GU hr2 rfl (PK.kc (.one .again)) bU .nil pass0 (pa_cons ((pe_bm0 PySem.F.plainAttrs_list PySem.F.slot_list_pop PySem.F.type_list_pop mt_pop (pe_fld (pv 0) rfl))) pa_nil))) pa_nil))))) ((pss_one (ps_expr (pe_bm PySem.F.plainAttrs_list PySem.F.slot_list_append PySem.F.type_list_append mt_append (pe_fld (pv 0) rfl) (pa_cons ((pe_df d_piece_of hr3 (pa_cons (pv 1) pa_nil))) pa_nil)))))))))))))))))))), ?_⟩
    have l3 : 3 ≤ sizeLine := line_ge (by show 3 ≤ 16777216; decide)
    have l4 : 4 ≤ sizeLine := line_ge (by show 4 ≤ 16777216; decide)
    have hlu := D.pt.len
    refine ⟨_, rfl, l3, fun p1 hp1 => ⟨p1, _, rfl, .inr (SqT.of upd_same), rfl, rfl, _, rfl, ?_⟩⟩
    have t1 := in_pre hok
    have s1 := Same.upd (o := .tup [.str (Str.ofString "("), .str (Str.ofString "outside"), .str (Str.ofString "turned")]) hp1
    have D1 := D.same s1
    refine iteB (fun h1 => ?_) (fun h1 => ?_)
    · -- a bracket or a sign ahead waits
      have h1' : isPre tk = true := t1.symm.trans h1
      have hw : ∃ wt, wv wt = tv tk ∧ ps' = ps ∧ ws' = wt :: ws := by
        cases tk with
        | lp => cases hput; exact ⟨.lp, rfl, rfl, rfl⟩
        | un k => cases hput; exact ⟨.un k, rfl, rfl, rfl⟩
        | _ => cases h1'
      obtain ⟨wt, ew, rfl, rfl⟩ := hw
      refine ⟨_, rfl, d, _, dx, _, _, rfl, D1.ob, RK.cl, RK.nW, lk_wait _ _, .inl ⟨rfl, _, SqL.of D1.wl⟩, _, rfl, wa, _, _, rfl, rfl, D1.wl, small1000 (by rw [List.length_map, List.length_reverse]; omega), ?_⟩
      rw [← ew]
      exact q _ _ ((Same.off s1).trans Off.w) (D1.pushW wt)
    have h1' : isPre tk = false := t1.symm.trans h1
    refine ⟨_, rfl, l4, fun p2 hp2 => ⟨p2, _, rfl, .inr (SqT.of upd_same), rfl, rfl, _, rfl, ?_⟩⟩
    have t2 := in_bin hok
    have s2 := s1.trans (Same.upd (o := .tup [.str (Str.ofString "either"), .str (Str.ofString "less"), .str (Str.ofString "both"), .str (Str.ofString "then")]) hp2)
    have D2 := D.same s2
    refine iteB (fun h2 => ?_) (fun h2 => ?_)
    · have h2' : isBin tk = true := t2.symm.trans h2
      cases tk with
      | bin k =>
        obtain ⟨r, hset, e⟩ := Option.map_eq_some_iff.mp hput
        obtain ⟨rp, rw'⟩ := r
        cases e
        refine ⟨_, rfl, _, rfl, Sum.inr (nm2 k), _, rfl, rfl, str_bin k, ?_⟩
        refine ⟨d, dx, pa, wa, us, ps, ws, lvl k + 1, _, _, rfl, D2, Nat.succ_le_succ (Nat.zero_le _), hset, by omega, fun us3 H3 off3 D3 => ?_⟩
        have hl3 := settleM_len hset
        exact ⟨_, rfl, d, _, dx, _, _, rfl, D3.ob, RK.cl, RK.nW, lk_wait _ _, .inl ⟨rfl, _, SqL.of D3.wl⟩, _, rfl, wa, _, _, rfl, rfl, D3.wl, small1000 (by rw [List.length_map, List.length_reverse]; omega), q _ _ ((Same.off s2).trans (off3.trans Off.w)) (D3.pushW (.bin k))⟩
      | _ => cases h2'
    have h2' : isBin tk = false := t2.symm.trans h2
    have t3 := eq_rp hok
    have t4 := eq_star hok
    refine ⟨_, rfl, rfl, _, rfl, iteB (fun h3 => ?_) (fun h3 => ?_)⟩
    · have h3' : isRp tk = true := t3.symm.trans h3
      cases tk with
      | rp =>
        obtain ⟨r, hset, e⟩ := Option.bind_eq_some_iff.mp hput
        obtain ⟨rp, rw'⟩ := r
        cases rw' with
        | nil => cases e
        | cons wt rw' =>
          cases e
          refine ⟨_, rfl, d, dx, pa, wa, us, ps, ws, 1, _, _, rfl, D2, Nat.le_refl _, hset, by omega, fun us3 H3 off3 D3 => ?_⟩
          refine ⟨_, rfl, d, _, dx, _, _, rfl, D3.ob, RK.cl, RK.nW, lk_wait _ _, .inl ⟨rfl, _, SqL.of D3.wtop⟩, wa, _, _, rfl, rfl, D3.wtop, last_at, ?_⟩
          rw [List.dropLast_concat]
          exact q _ _ ((Same.off s2).trans (off3.trans Off.w)) D3.popW
      | _ => cases h3'
    have h3' : isRp tk = false := t3.symm.trans h3
    refine ⟨_, rfl, rfl, _, rfl, iteB (fun h4 => ?_) (fun h4 => ?_)⟩
    · have h4' : isStar tk = true := t4.symm.trans h4
      cases tk with
      | star =>
        cases ps with
        | nil => cases hput
        | cons x qs =>
          cases hput
          obtain ⟨u, vs, rfl⟩ := D2.one rfl
          obtain ⟨D3, hu⟩ := D2.popP
          refine ⟨_, rfl, d, _, dx, _, _, rfl, D2.ob, RK.cl, RK.nP, lk_pats _ _, .inl ⟨rfl, _, SqL.of D2.pl⟩, _, rfl, d, _, dx, _, _, rfl, D2.ob, RK.cl, RK.nP, lk_pats _ _, .inl ⟨rfl, _, SqL.of D2.ptop⟩, pa, _, _, rfl, rfl, D2.ptop, last_at, ?_⟩
          rw [List.dropLast_concat]
          refine fun z dz hz hdz hne => ⟨z, _, _, dz, rfl, upd_same, (PK.pc _).cl, (PK.pc _).nI, fun H4 k4 hz4 => ⟨rfl, ?_⟩⟩
          have s4 := made_same hz hdz k4
          have D4 := D3.same s4
          exact ⟨pa, _, _, rfl, rfl, D4.pl, small1000 (by rw [List.length_reverse]; simp at hlu hl1; omega), q _ _ ((Same.off s2).trans (Off.p.trans ((Same.off s4).trans Off.p))) (D4.pushP ⟨z, dz, u, rfl, hz4, hu.kp (Same.kp s4)⟩)⟩
      | _ => cases h4'
    have h4' : isStar tk = false := t4.symm.trans h4
    cases tk with
    | piece t =>
      cases hput
      refine ⟨_, rfl, d, _, dx, _, _, rfl, D2.ob, RK.cl, RK.nP, lk_pats _ _, .inl ⟨rfl, _, SqL.of D2.pl⟩, _, rfl, t, rfl, hok, fun v3 H3 s3 hv3 => ?_⟩
      have D3 := D2.same s3
      exact ⟨pa, _, _, rfl, rfl, D3.pl, small1000 (by rw [List.length_reverse]; omega), q _ _ ((Same.off s2).trans ((Same.off s3).trans Off.p)) (D3.pushP hv3)⟩
    | lp => cases h1'
    | un k => cases h1'
    | bin k => cases h2'
    | rp => cases h3'
    | star => exact absurd h4' (by decide)
theorem sc_tokens_of : FnScope ["text", "tokens", "wanting", "sign"] ["text"] (defScope s_tokens_of) := ⟨rfl, rfl, rfl, by decide +kernel, rfl, by decide +kernel, by decide +kernel⟩
set_option maxHeartbeats 4000000 in
theorem ok_tokens_of {f : Addr} {fd : FuncData} (F : Fun K "tokens_of" "tokens_of" s_tokens_of f fd) (T : Txt K mg) (RK : RdKit P w K mg base c cD d1 d2 d3) (d_is_wanting : Df P w K mg base "is_wanting" 1 ["sign"] sp_iswanting) : FnOk P w K mg base CX0 2 f fd ["text"] sp_tokens := by
  refine F.ok sc_tokens_of (fun vs H Q E h => ?_) (fun cdv A outer s H vs Q E hr h => ?_)
  · obtain ⟨w, rfl, _⟩ := h
    rfl
  · obtain ⟨w, rfl, hok, hlen, q⟩ := h
    refine ⟨_, (pss_cons ((ps_set (i := 1) sc_tokens_of.nd rfl (Or.inl rfl) (pe_lst pa_nil))) (pss_cons ((ps_set (i := 2) sc_tokens_of.nd rfl (Or.inl rfl) (pe_bl))) (pss_cons ((ps_for PassesOwn.never rfl (pi_str (pv 0)) (pg_name (i := 3) sc_tokens_of.nd rfl (Or.inl rfl)) ((pss_cut ((ps_if ((pw_and (pt_not (pt_val (pv 2))) (pw_and1 (pt_cmpR op_notin_str (pv 3) pe_str (by with_unfolding_all rfl)))).pt) ((pss_one (ps_expr (pe_bm PySem.F.plainAttrs_list PySem.F.slot_list_append PySem.F.type_list_append mt_append (pv 1) (pa_cons (pe_str) pa_nil))))) (pss_nil))) (pss_cons (ps_expr (pe_bm PySem.F.plainAttrs_list PySem.F.slot_list_append PySem.F.type_list_append mt_append (pv 1) (pa_cons (pe_getK RK.dK (pe_glob (v := .ref d2) (by rfl) RK.kK rfl) (pa_cons (pv 3) (pa_cons (pv 3) pa_nil))) pa_nil))) (pss_one ((ps_set (i := 2) sc_tokens_of.nd rfl (Or.inl rfl) ((pe_df d_is_wanting hr (pa_cons (pv 3) pa_nil))))))))))) (pss_one (ps_ret (pv 1)))))), ?_⟩
    refine ⟨Nat.zero_le _, fun p hp => ?_⟩
    refine ⟨_, rfl, _, rfl, for_str (x := tx w) (fun i σ H' => ∃ (ts : List Tk) (b : Bool) (s3 : Option V), σ = [some (.str (tx w)), some (.ref p), some (.bl b), s3] ∧ H' = upd H p (.lst (ts.map tv)) ∧ toks true w = ts ++ toks b (w.drop i) ∧ ts.length ≤ 2 * i) ⟨[], true, none, rfl, rfl, rfl, Nat.le_refl _⟩ ?_ ?_⟩
    · rintro i ch σ H1 hc ⟨ts, b, s3, rfl, rfl, ht, hl⟩
      rw [tx_get] at hc
      have hi : i < w.length := (List.getElem?_eq_some_iff.mp hc).1
      have hch : w[i] = ch := (List.getElem?_eq_some_iff.mp hc).2
      have hsg := hok ch (List.mem_of_getElem? hc)
      rw [List.drop_eq_getElem_cons hi, hch] at ht
      rw [show toks b (ch :: w.drop (i + 1)) = (if (!b && !isB ch) = true then [Tk.bin .then_] else []) ++ tok ch :: toks (isW ch) (w.drop (i + 1)) from rfl] at ht
      refine ⟨fun σ' H' => ∃ ts' : List Tk, σ' = [some (.str (tx w)), some (.ref p), some (.bl b), some (.str (tx [ch]))] ∧ H' = upd H p (.lst (ts'.map tv)) ∧ toks true w = ts' ++ tok ch :: toks (isW ch) (w.drop (i + 1)) ∧ ts'.length ≤ 2 * i + 1, ?_, ?_⟩
      · have eB := occ_one [42, 38, 124, 45, 41] ch
        refine ⟨_, rfl, _, rfl, ?_⟩
        cases b with
        | true => exact iteF (iteF ⟨ts, rfl, rfl, by rw [ht]; rfl, by omega⟩)
        | false =>
          refine iteT ⟨_, rfl, _, tx [42, 38, 124, 45, 41], rfl, congrArg V.str (by decide +kernel), _, rfl, ?_⟩
          refine iteB (fun h => ?_) (fun h => ?_)
          · have hB : isB ch = false := by
              have : (!(!(Builtin.Str.occurrences (tx [42, 38, 124, 45, 41]) ⟨#[ch]⟩ 0 (tx [42, 38, 124, 45, 41]).length 1).isEmpty)) = true := h
              rw [eB] at this
              exact (Bool.not_eq_true' _).mp this
            refine ⟨_, rfl, .inl ⟨rfl, _, SqL.of upd_same⟩, p, _, _, rfl, rfl, upd_same, small1000 (by rw [List.length_map]; omega), ?_⟩
            refine ⟨ts ++ [.bin .then_], rfl, by rw [upd_upd, List.map_append]; rfl, ?_, by rw [List.length_append]; simp; omega⟩
            rw [ht, hB]
            simp
          · have hB : isB ch = true := by
              have : (!(!(Builtin.Str.occurrences (tx [42, 38, 124, 45, 41]) ⟨#[ch]⟩ 0 (tx [42, 38, 124, 45, 41]).length 1).isEmpty)) = false := h
              rw [eB] at this
              exact (Bool.not_eq_false' _).mp this
            refine ⟨ts, rfl, rfl, ?_, by omega⟩
            rw [ht, hB]
            rfl
      rintro σ1 H2 ⟨ts', rfl, rfl, ht', hl'⟩
      refine ⟨_, rfl, .inl ⟨rfl, _, SqL.of upd_same⟩, rfl, _, rfl, _, rfl, Sum.inr (tx [ch]), _, rfl, p, _, _, rfl, rfl, upd_same, small1000 (by rw [List.length_map]; omega), ?_⟩
      refine ⟨_, rfl, ch, rfl, ts' ++ [tok ch], isW ch, _, rfl, ?_, by rw [ht']; simp, by rw [List.length_append]; simp; omega⟩
      rw [upd_upd, List.map_append, kinds_get hsg]
      rfl
    · rintro σ H1 ⟨ts, b, s3, rfl, rfl, ht, hl⟩
      rw [tx_len, List.drop_length] at ht
      refine ⟨_, rfl, q p _ hp (Same.upd hp) ?_⟩
      rw [upd_same, ht]
      simp [toks]
theorem sc_pattern_of : FnScope ["text", "desk", "token"] ["text"] (defScope s_pattern_of) := ⟨rfl, rfl, rfl, by decide +kernel, rfl, by decide +kernel, by decide +kernel⟩
set_option maxHeartbeats 4000000 in
theorem ok_pattern_of {f : Addr} {fd : FuncData} (F : Fun K "pattern_of" "pattern_of" s_pattern_of f fd) (T : Txt K mg) (PK : PatKit P w K mg base c cP) (RK : RdKit P w K mg base c cD d1 d2 d3) (d_tokens_of : Df P w K mg base "tokens_of" 2 ["text"] sp_tokens) (d_put : Df P w K mg base "put" 5 ["desk", "token"] (sp_put c cD)) : FnOk P w K mg base CX0 6 f fd ["text"] (sp_patternof c) := by
  refine F.ok sc_pattern_of (fun vs H Q E h => ?_) (fun cdv A outer s H vs Q E hr h => ?_)
  · obtain ⟨tw, t, rfl, _⟩ := h
    rfl
  · obtain ⟨tw, t, rfl, hsg, hlen, hput, q⟩ := h
    obtain ⟨fD, fdD, MD, GD, bD⟩ := RK.ini
    have hr2 := hr.mono (j := 2) (by decide)
    refine ⟨_, (pss_cons ((ps_set (i := 1) sc_pattern_of.nd rfl (Or.inl rfl) (pe_make0 MD GD hr2 rfl RK.kD bD .nil pass0))) (pss_cons ((ps_for PassesOwn.never rfl (pi_list (pe_df d_tokens_of hr2 (pa_cons (pe_op op_add_str (pe_op op_add_str pe_str (pv 0)) pe_str) pa_nil))) (pg_name (i := 2) sc_pattern_of.nd rfl (Or.inl rfl)) ((pss_one (ps_expr (pe_df d_put hr (pa_cons (pv 1) (pa_cons (pv 2) pa_nil)))))))) (pss_one (ps_ret (pe_ix ix_list (pe_fld (pv 1) rfl) pe_int (fun _ _ => rfl)))))), ?_⟩
    intro d dx hd hdx hne
    refine ⟨d, dx, _, rfl, upd_same, RK.cl, RK.nP, RK.nW, fun pa wa H1 k1 D1 hpa hwa => ⟨rfl, ?_⟩⟩
    have s1 : Same H H1 := made_same hd hdx k1
    have s0 : Same H (upd (upd H dx (.own d)) d (.ins cD dx [])) := made_same (o0 := .ins cD dx []) hd hdx fun b o e _ => e
    have etx : ∀ x : Str, x = tx [40] → x ++ tx tw = tx (40 :: tw) := fun x e => by rw [e, tx_app]; rfl
    have e40 : Str.ofString "(" = tx [40] := by decide +kernel
    have e41 : Str.ofString ")" = tx [41] := by decide +kernel
    refine ⟨_, rfl, _, _, rfl, rfl, ?_, _, _, rfl, rfl, ?_, ?_⟩
    · rw [e40, tx_len, tx_len]
      exact line_ge (by simp; omega)
    · rw [e40, e41, tx_app, tx_len, tx_len]
      exact line_ge (by simp; omega)
    rw [e40, e41, tx_app, tx_app]
    have hsg' : ∀ ch ∈ 40 :: (tw ++ [41]), SgOk ch := fun ch hc => by
      rcases List.mem_cons.mp hc with rfl | hc
      · exact .inr (by simp)
      · rcases List.mem_append.mp hc with hc | hc
        · exact hsg ch hc
        · obtain rfl : ch = 41 := by simpa using hc
          exact .inr (by simp)
    refine ⟨40 :: (tw ++ [41]), rfl, hsg', by simp; omega, fun tl H2 htl0 s2 htl => ?_⟩
    have htk := toks_ok true hsg'
    have htl2 := toks_len (40 :: (tw ++ [41])) true
    have hln : (40 :: (tw ++ [41])).length = tw.length + 2 := by simp
    generalize toks true (40 :: (tw ++ [41])) = ts at *
    have D2 := D1.same s2
    have hntl : tl ≠ pa ∧ tl ≠ wa := ⟨Ne.symm (ne_of_none D1.pl htl0), Ne.symm (ne_of_none D1.wl htl0)⟩
    refine ⟨tl, rfl, ⟨_, SqL.of htl⟩, for_list (K := K) (a := tl) (xs := ts.map tv) (fun i σ H' => ∃ us ps ws s2, σ = [some (.str (tx tw)), some (.ref d), s2] ∧ (∀ b o, H2 b = some o → b ≠ pa → b ≠ wa → H' b = some o) ∧ DeskAt c cD H' d dx pa wa us ps ws ∧ putsM (ts.take i) ([], []) = some (ps, ws) ∧ ps.length ≤ i ∧ ws.length ≤ i) ⟨[], [], [], none, rfl, fun _ _ e _ _ => e, D2, rfl, Nat.le_refl _, Nat.le_refl _⟩ ?_ ?_ ?_⟩
    · rintro i σ H' hi ⟨us, ps, ws, s2', rfl, off, _⟩
      exact SqL.of (off _ _ htl hntl.1 hntl.2)
    · rintro i x σ H' hx ⟨us, ps, ws, s2', rfl, off, D', hpt, l1, l2⟩
      rw [List.getElem?_map] at hx
      obtain ⟨tk, htk', rfl⟩ := Option.map_eq_some_iff.mp hx
      have hi : i < ts.length := (List.getElem?_eq_some_iff.mp htk').1
      obtain ⟨r1, hr1, hrest⟩ := putsM_take hput (i + 1)
      have hstep : putM ps ws tk = some r1 := by
        rw [List.take_add_one, htk', putsM_app, hpt] at hr1
        have : (putM ps ws tk).bind (putsM []) = some r1 := hr1
        cases hp : putM ps ws tk with
        | none => rw [hp] at this; cases this
        | some r => rw [hp] at this; cases this; rfl
      obtain ⟨ps1, ws1⟩ := r1
      have hl := putM_len hstep
      refine ⟨_, rfl, _, rfl, d, dx, pa, wa, us, ps, ws, tk, ps1, ws1, rfl, D', htk tk (List.mem_of_getElem? htk'), hstep, by omega, by omega, fun us1 H3 off3 D3 => ?_⟩
      exact ⟨us1, ps1, ws1, _, rfl, fun b o e n1 n2 => off3 b o (off b o e n1 n2) n1 n2, D3, hr1, by omega, by omega⟩
    · rintro σ H' ⟨us, ps, ws, s2', rfl, off, D', hpt, l1, l2⟩
      rw [List.length_map, List.take_length, hput] at hpt
      cases hpt
      obtain ⟨u, vs, rfl⟩ := D'.one rfl
      have hvs : vs = [] := by
        have := D'.pt.len
        simp at this
        exact this
      subst hvs
      refine ⟨_, rfl, d, _, dx, _, _, rfl, D'.ob, RK.cl, RK.nP, lk_pats _ _, pa, _, _, _, rfl, rfl, SqL.of D'.pl, atI_nat (j := 0) rfl, ?_⟩
      refine q u H' (fun b o e => off b o (s2 b o (s1 b o e)) ?_ ?_) D'.pt.1
      · exact ne_of_none e (s0.free hpa)
      · exact ne_of_none e (s0.free hwa)
theorem sc_read : FnScope ["letters", "text"] ["letters", "text"] (defScope s_read) := ⟨rfl, rfl, rfl, by decide +kernel, rfl, by decide +kernel, by decide +kernel⟩
set_option maxHeartbeats 4000000 in
theorem ok_read {f : Addr} {fd : FuncData} (F : Fun K "read" "read" s_read f fd) (T : Txt K mg) (PK : PatKit P w K mg base c cP) (RK : RdKit P w K mg base c cD d1 d2 d3) (d_need_letters : Df P w K mg base "need_letters" 2 ["letters"] sp_needletters) (d_need_pattern : Df P w K mg base "need_pattern" 2 ["letters", "text"] sp_needpattern) (d_pattern_of : Df P w K mg base "pattern_of" 6 ["text"] (sp_patternof c)) : FnOk P w K mg base CX0 7 f fd ["letters", "text"] (sp_read c) := by
  refine F.ok sc_read (fun vs H Q E h => ?_) (fun cdv A outer s H vs Q E hr h => ?_)
  · obtain ⟨L, tw, t, l, rfl, _⟩ := h
    rfl
  · obtain ⟨L, tw, t, l, rfl, hL, hLS, hG, hlen, q⟩ := h
    have hr2 := hr.mono (j := 2) (by decide)
    refine ⟨_, (pss_cons (ps_expr (pe_df d_need_letters hr2 (pa_cons (pv 0) pa_nil))) (pss_cons (ps_expr (pe_df d_need_pattern hr2 (pa_cons (pv 0) (pa_cons (pv 1) pa_nil)))) (pss_one (ps_ret (pe_df d_pattern_of hr (pa_cons (pv 1) pa_nil)))))), ?_⟩
    refine ⟨_, rfl, L, rfl, hL, ?_⟩
    refine ⟨_, rfl, _, rfl, L, tw, rfl, hLS, hG.scan hLS 0 true, fun H1 s1 => ?_⟩
    exact ⟨_, rfl, tw, t, rfl, hG.sgs hLS, hlen, hG.read hLS, fun v H2 s2 hv => q v H2 (s1.trans s2) hv⟩
theorem sc__law_cell_at : FnScope ["_law_script", "_law_k"] ["_law_script", "_law_k"] (defScope s__law_cell_at) := ⟨rfl, rfl, rfl, by decide +kernel, rfl, by decide +kernel, by decide +kernel⟩
set_option maxHeartbeats 4000000 in
theorem ok__law_cell_at {f : Addr} {fd : FuncData} (F : Fun K "_law_cell_at" "_law_cell_at" s__law_cell_at f fd) (T : Txt K mg) : FnOk P w K mg base CX0 1 f fd ["_law_script", "_law_k"] (sp_cell K) := by
  refine F.ok sc__law_cell_at (fun vs H Q E h => ?_) (fun cdv A outer s H vs Q E hr h => ?_)
  · obtain ⟨a, ns, k, rfl, _⟩ := h
    rfl
  · obtain ⟨a, ns, k, rfl, hS, h0, q⟩ := h
    refine ⟨_, (pss_cons ((ps_if (pt_cmpR op_lt (pv 1) (pe_callB call_len_seq (by rfl) T.len PySem.boot_len (pa_cons (pv 0) pa_nil)) (nomark _)) ((pss_one (ps_ret (pe_ix ix_list (pv 0) (pv 1) (fun _ _ => rfl))))) (pss_nil))) (pss_one (ps_ret pe_int))), ?_⟩
    refine ⟨_, rfl, _, rfl, a, _, rfl, .inl hS, _, _, rfl, rfl, _, rfl, ?_⟩
    refine ite3 (fun hlt => ?_) (fun _ => q 0)
    obtain ⟨v, hv, hv2⟩ := atI_in (xs := ns.map V.int) h0 hlt
    obtain ⟨z, rfl⟩ : ∃ z, v = V.int z := by
      rw [List.getElem?_map] at hv2
      cases e : ns[k.toNat]? with
      | none => rw [e] at hv2; cases hv2
      | some z => rw [e] at hv2; exact ⟨z, (Option.some.inj hv2).symm⟩
    exact ⟨_, rfl, _, rfl, a, _, _, _, rfl, rfl, hS, hv, q z⟩
theorem sc__law_letters : FnScope ["_law_cell", "_law_left", "_law_number", "_law_many", "_law_found", "_law_k", "_law_at"] ["_law_cell"] (defScope s__law_letters) := ⟨rfl, rfl, rfl, by decide +kernel, rfl, by decide +kernel, by decide +kernel⟩
set_option maxHeartbeats 4000000 in
theorem ok__law_letters {f : Addr} {fd : FuncData} (F : Fun K "_law_letters" "_law_letters" s__law_letters f fd) (T : Txt K mg) : FnOk P w K mg base CX0 1 f fd ["_law_cell"] sp_letters := by
  refine F.ok sc__law_letters (fun vs H Q E h => ?_) (fun cdv A outer s H vs Q E hr h => ?_)
  · obtain ⟨c, rfl, _⟩ := h
    rfl
  · obtain ⟨c, rfl, q⟩ := h
    refine ⟨_, (pss_cons ((ps_set (i := 1) sc__law_letters.nd rfl (Or.inl rfl) (pe_str))) (pss_cons ((ps_set (i := 2) sc__law_letters.nd rfl (Or.inl rfl) (pe_op op_mod (pv 0) pe_int))) (pss_cons ((ps_set (i := 3) sc__law_letters.nd rfl (Or.inl rfl) (pe_op op_add pe_int (pe_op op_mod (pv 2) pe_int)))) (pss_cons ((ps_set (i := 2) sc__law_letters.nd rfl (Or.inl rfl) (pe_op op_fdiv (pv 2) pe_int))) (pss_cons ((ps_set (i := 4) sc__law_letters.nd rfl (Or.inl rfl) (pe_str))) (pss_cons ((ps_for PassesOwn.never rfl (pi_range1 rfl T.range (pa_cons (pv 3) pa_nil)) (pg_name (i := 5) sc__law_letters.nd rfl (Or.inl rfl)) ((pss_cons ((ps_set (i := 6) sc__law_letters.nd rfl (Or.inl rfl) (pe_op op_mod (pv 2) (pe_callB call_len_str (by rfl) T.len PySem.boot_len (pa_cons (pv 1) pa_nil))))) (pss_cons ((ps_set (i := 2) sc__law_letters.nd rfl (Or.inl rfl) (pe_op op_fdiv (pv 2) (pe_callB call_len_str (by rfl) T.len PySem.boot_len (pa_cons (pv 1) pa_nil))))) (pss_cons ((ps_set (i := 4) sc__law_letters.nd rfl (Or.inl rfl) (pe_op op_add_str (pv 4) (pe_ix ix_str (pv 1) (pv 6) (fun _ _ => rfl))))) (pss_one ((ps_set (i := 1) sc__law_letters.nd rfl (Or.inl rfl) (pe_op op_add_str (pe_slice sl_str (pv 1) po_none (po_some (pv 6))) (pe_slice sl_str (pv 1) (po_some (pe_op op_add (pv 6) pe_int)) po_none))))))))))) (pss_one (ps_ret (pv 4))))))))), ?_⟩
    refine ⟨_, rfl, _, _, rfl, rfl, (by show (0 : Int) < 46800; decide), _, rfl, _, _, rfl, rfl, (by show (0 : Int) < 3; decide), _, _, rfl, rfl, _, rfl, _, _, rfl, rfl, ⟨by decide, by decide⟩, _, rfl, _, rfl, by omega, by omega, ?_⟩
    have hm : (1 : Int) + c % 46800 % 3 ≤ 3 ∧ 1 ≤ (1 : Int) + c % 46800 % 3 := by omega
    generalize hM : (1 : Int) + c % 46800 % 3 = M at hm ⊢
    refine for_range (n := M.toNat) (fun i σ H' => ∃ f l n k0 a0, σ = [some (.int c), some (.str (tx l)), some (.int n), some (.int M), some (.str (tx f)), k0, a0] ∧ H' = H ∧ 0 ≤ n ∧ f.length = i ∧ l.length + i = 26 ∧ (f ++ l).Nodup ∧ ∀ c ∈ f ++ l, 97 ≤ c ∧ c ≤ 122) ?_ ?_ ?_
    · refine ⟨[], List.range' 97 26, c % 46800 / 3, none, none, ?_, rfl, by omega, rfl, rfl, by decide, by decide⟩
      show [some (V.int c), some (V.str _), some (V.int _), some (V.int _), some (V.str _), none, none] = _
      rw [abc_eq, empty_eq, hM]
    · rintro i σ H1 hi ⟨f, l, n, k0, a0, rfl, rfl, hn, hf, hl, nd, az⟩
      have hz : (tx l).length ≤ sizeLine := line_ge (by rw [tx_len]; omega)
      have hlen : ((tx l).length : Int) = 26 - (i : Int) := by rw [tx_len]; omega
      have hlp : (0 : Int) < ((tx l).length : Int) := by omega
      have hr0 := Int.emod_nonneg n (show ((tx l).length : Int) ≠ 0 by omega)
      have hr1 := Int.emod_lt_of_pos n hlp
      have hd0 : 0 ≤ n / ((tx l).length : Int) := Int.ediv_nonneg hn (by omega)
      have hRl : (n % ((tx l).length : Int)).toNat < l.length := by omega
      obtain ⟨v, hv, hv2⟩ := atI_in (xs := (tx l).cps.toList) hr0 (by rw [tx_cps]; omega)
      rw [tx_cps] at hv2
      have ev : v = l[(n % ((tx l).length : Int)).toNat] := by
        rw [List.getElem?_eq_getElem hRl] at hv2
        exact (Option.some.inj hv2).symm
      subst ev
      refine ⟨_, rfl, _, rfl, _, rfl, hz, _, _, rfl, rfl, hlp, _, rfl, _, rfl, _, rfl, hz, _, _, rfl, rfl, ⟨hlp, by omega⟩, _, rfl, _, rfl, _, rfl, _, _, _, rfl, rfl, hz, hv, _, _, rfl, rfl, ?_, _, rfl, _, rfl, _, rfl, _, rfl, hz, _, rfl, _, rfl, _, _, rfl, rfl, _, rfl, _, rfl, hz, _, _, rfl, rfl, ?_, ?_⟩
      · refine line_ge ?_
        rw [tx_len]
        show f.length + 1 ≤ _
        omega
      · refine line_ge ?_
        have h1 := Txt.slice_le (tx l) none (some (n % ((tx l).length : Int)))
        have h2 := Txt.slice_le (tx l) (some ((n % ((tx l).length : Int)) + 1)) none
        have hll := tx_len l
        omega
      · obtain ⟨d1, d2⟩ := draw_one hRl nd
        refine ⟨f ++ [l[(n % ((tx l).length : Int)).toNat]], l.take (n % ((tx l).length : Int)).toNat ++ l.drop ((n % ((tx l).length : Int)).toNat + 1), n / ((tx l).length : Int), some (.int (0 + (i : Int))), some (.int (n % ((tx l).length : Int))), ?_, rfl, hd0, by rw [List.length_append, hf]; rfl, ?_, d1, fun c hc => az c (d2 c hc)⟩
        · have e1 := slice_to (tx l) hr0
          have e2 := slice_from (tx l) (i := (n % ((tx l).length : Int)) + 1) (by omega) (by rw [tx_cps]; omega)
          rw [tx_cps] at e1 e2
          rw [show ((n % ((tx l).length : Int)) + 1).toNat = (n % ((tx l).length : Int)).toNat + 1 by omega] at e2
          show [some (V.int c), some (V.str (Txt.slice (tx l) none (some (n % ((tx l).length : Int))) ++ Txt.slice (tx l) (some ((n % ((tx l).length : Int)) + 1)) none)), some (V.int _), some (V.int M), some (V.str (tx f ++ ⟨#[l[(n % ((tx l).length : Int)).toNat]]⟩)), some _, some _] = _
          rw [e1, e2, tx_app, show (⟨#[l[(n % ((tx l).length : Int)).toNat]]⟩ : Str) = tx [l[(n % ((tx l).length : Int)).toNat]] from rfl, tx_app]
        · rw [List.length_append, List.length_take, List.length_drop]
          omega
    · rintro σ H1 ⟨f, l, n, k0, a0, rfl, rfl, hn, hf, hl, nd, az⟩
      refine ⟨_, rfl, q f ⟨by omega, by omega, (List.nodup_append.mp nd).1, fun c hc => az c (List.mem_append_left _ hc)⟩⟩
theorem sc__law_in : FnScope ["_law_text", "_law_level", "_law_wants"] ["_law_text", "_law_level", "_law_wants"] (defScope s__law_in) := ⟨rfl, rfl, rfl, by decide +kernel, rfl, by decide +kernel, by decide +kernel⟩
set_option maxHeartbeats 4000000 in
theorem ok__law_in {f : Addr} {fd : FuncData} (F : Fun K "_law_in" "_law_in" s__law_in f fd) (T : Txt K mg) : FnOk P w K mg base CX0 1 f fd ["_law_text", "_law_level", "_law_wants"] sp_in32 := by
  refine F.ok sc__law_in (fun vs H Q E h => ?_) (fun cdv A outer s H vs Q E hr h => ?_)
  · obtain ⟨tw, l, m, rfl, _⟩ := h
    rfl
  · obtain ⟨tw, l, m, rfl, hlen, q⟩ := h
    refine ⟨_, (pss_cons ((ps_if (pt_cmpR op_lt (pv 1) (pv 2) (nomark _)) ((pss_one (ps_ret (pe_op op_add_str (pe_op op_add_str pe_str (pv 0)) pe_str)))) (pss_nil))) (pss_one (ps_ret (pv 0)))), ?_⟩
    have e40 : Str.ofString "(" = tx [40] := by decide +kernel
    have e41 : Str.ofString ")" = tx [41] := by decide +kernel
    refine ⟨_, rfl, _, rfl, _, _, rfl, rfl, _, rfl, ?_⟩
    by_cases hlt : l < m
    · rw [decide_eq_true hlt] at q
      refine iteD (by omega) ⟨_, rfl, _, _, rfl, rfl, ?_, _, _, rfl, rfl, ?_, ?_⟩
      · rw [e40, tx_len, tx_len]
        exact line_ge (by simp; omega)
      · rw [e40, e41, tx_app, tx_len, tx_len]
        exact line_ge (by simp; omega)
      · rw [e40, e41, tx_app, tx_app]
        exact q
    · rw [decide_eq_false hlt] at q
      exact iteN (by omega) ⟨_, rfl, q⟩
theorem sc__law_leaf : FnScope ["_law_kind", "_law_sign", "_law_text", "_law_shape"] ["_law_kind", "_law_sign"] (defScope s__law_leaf) := ⟨rfl, rfl, rfl, by decide +kernel, rfl, by decide +kernel, by decide +kernel⟩
set_option maxHeartbeats 4000000 in
theorem ok__law_leaf {f : Addr} {fd : FuncData} (F : Fun K "_law_leaf" "_law_leaf" s__law_leaf f fd) (T : Txt K mg) : FnOk P w K mg base CX0 1 f fd ["_law_kind", "_law_sign"] sp_leaf32 := by
  refine F.ok sc__law_leaf (fun vs H Q E h => ?_) (fun cdv A outer s H vs Q E hr h => ?_)
  · obtain ⟨L, z, ch, rfl, _⟩ := h
    rfl
  · obtain ⟨L, z, ch, rfl, hch, h0, h5, q⟩ := h
    refine ⟨_, (pss_cons ((ps_set (i := 2) sc__law_leaf.nd rfl (Or.inl rfl) ((pe_ix ix_list (pe_lst (pa_cons (pe_str) (pa_cons (pe_str) (pa_cons (pe_str) (pa_cons (pv 1) (pa_cons (pv 1) pa_nil)))))) (pv 0) (fun _ _ => rfl))))) (pss_cons ((ps_set (i := 3) sc__law_leaf.nd rfl (Or.inl rfl) ((pe_ix ix_list (pe_lst (pa_cons ((pe_tup (pa_cons (pe_str) pa_nil))) (pa_cons ((pe_tup (pa_cons (pe_str) pa_nil))) (pa_cons ((pe_tup (pa_cons (pe_str) pa_nil))) (pa_cons ((pe_tup (pa_cons (pe_str) (pa_cons (pv 1) pa_nil)))) (pa_cons ((pe_tup (pa_cons (pe_str) (pa_cons (pv 1) pa_nil)))) pa_nil)))))) (pv 0) (fun _ _ => rfl))))) (pss_one (ps_ret (pe_tup (pa_cons (pv 2) (pa_cons (pe_int) (pa_cons (pv 2) (pa_cons (pe_int) (pa_cons (pv 3) pa_nil)))))))))), ?_⟩
    have l1 : 1 ≤ sizeLine := line_ge (by show 1 ≤ 16777216; decide)
    have l2 : 2 ≤ sizeLine := line_ge (by show 2 ≤ 16777216; decide)
    have l5 : 5 ≤ sizeLine := line_ge (by show 5 ≤ 16777216; decide)
    have fin : ∀ (t : Pt) (sh : Addr) (tl : Str) (H7 : Hp), tl = tx (txtM t) → strP t = 5 → t.over L → G L 4 t (txtM t) → t.dep = 1 → t.sz = 1 → (txtM t).length = 1 → Same H H7 → ShAt H7 t (.ref sh) → ∀ p, H7 p = none → Q (.ref p) (upd H7 p (.tup [.str tl, .int 4, .str tl, .int 4, .ref sh])) := by
      intro t sh tl H7 e1 e2 ov g hd hz hl s7 hsh p hp
      subst e1
      have s8 := Same.upd (o := .tup [.str (tx (txtM t)), .int 4, .str (tx (txtM t)), .int 4, .ref sh]) hp
      refine q _ ⟨t, txtM t, 4⟩ _ (s7.trans s8) ⟨g, ov, p, _, rfl, ?_, hsh.kp (Same.kp s8)⟩ hd hz hl
      rw [upd_same]
      show some (HO.tup [V.str (tx (txtM t)), V.int 4, V.str (tx (txtM t)), V.int 4, V.ref sh]) = some (HO.tup [V.str (tx (txtM t)), V.int ((4 : Nat) : Int), V.str (tx (txtM t)), V.int ((strP t - 1 : Nat) : Int), V.ref sh])
      rw [e2]
      rfl
    have hk : z = 0 ∨ z = 1 ∨ z = 2 ∨ z = 3 ∨ z = 4 := by omega
    rcases hk with rfl | rfl | rfl | rfl | rfl
    · refine ⟨_, rfl, _, rfl, l5, fun q1 hq1 => ⟨_, rfl, q1, _, _, _, rfl, rfl, SqL.of upd_same, atI_nat (j := 0) rfl, ?_⟩⟩
      refine ⟨l1, fun p1 hp1 => ⟨l1, fun p2 hp2 => ⟨l1, fun p3 hp3 => ⟨_, rfl, l2, fun p4 hp4 => ⟨_, rfl, l2, fun p5 hp5 => ⟨l5, fun q2 hq2 => ⟨_, rfl, q2, _, _, _, rfl, rfl, SqL.of upd_same, atI_nat (j := 0) rfl, ?_⟩⟩⟩⟩⟩⟩⟩
      exact ⟨_, rfl, _, rfl, _, rfl, l5, fun p hp => fin (.leaf .never) p1 _ _ (by decide +kernel) rfl trivial (G.leaf _) rfl rfl rfl ((Same.upd hq1).trans ((Same.upd hp1).trans ((Same.upd hp2).trans ((Same.upd hp3).trans ((Same.upd hp4).trans ((Same.upd hp5).trans (Same.upd hq2))))))) ⟨p1, rfl, (upd_keep (upd_keep (upd_keep (upd_keep (upd_keep upd_same hp2) hp3) hp4) hp5) hq2)⟩ p hp⟩
    · refine ⟨_, rfl, _, rfl, l5, fun q1 hq1 => ⟨_, rfl, q1, _, _, _, rfl, rfl, SqL.of upd_same, atI_nat (j := 1) rfl, ?_⟩⟩
      refine ⟨l1, fun p1 hp1 => ⟨l1, fun p2 hp2 => ⟨l1, fun p3 hp3 => ⟨_, rfl, l2, fun p4 hp4 => ⟨_, rfl, l2, fun p5 hp5 => ⟨l5, fun q2 hq2 => ⟨_, rfl, q2, _, _, _, rfl, rfl, SqL.of upd_same, atI_nat (j := 1) rfl, ?_⟩⟩⟩⟩⟩⟩⟩
      exact ⟨_, rfl, _, rfl, _, rfl, l5, fun p hp => fin (.leaf .empty) p2 _ _ (by decide +kernel) rfl trivial (G.leaf _) rfl rfl rfl ((Same.upd hq1).trans ((Same.upd hp1).trans ((Same.upd hp2).trans ((Same.upd hp3).trans ((Same.upd hp4).trans ((Same.upd hp5).trans (Same.upd hq2))))))) ⟨p2, rfl, (upd_keep (upd_keep (upd_keep (upd_keep upd_same hp3) hp4) hp5) hq2)⟩ p hp⟩
    · refine ⟨_, rfl, _, rfl, l5, fun q1 hq1 => ⟨_, rfl, q1, _, _, _, rfl, rfl, SqL.of upd_same, atI_nat (j := 2) rfl, ?_⟩⟩
      refine ⟨l1, fun p1 hp1 => ⟨l1, fun p2 hp2 => ⟨l1, fun p3 hp3 => ⟨_, rfl, l2, fun p4 hp4 => ⟨_, rfl, l2, fun p5 hp5 => ⟨l5, fun q2 hq2 => ⟨_, rfl, q2, _, _, _, rfl, rfl, SqL.of upd_same, atI_nat (j := 2) rfl, ?_⟩⟩⟩⟩⟩⟩⟩
      exact ⟨_, rfl, _, rfl, _, rfl, l5, fun p hp => fin (.leaf .any) p3 _ _ (by decide +kernel) rfl trivial (G.leaf _) rfl rfl rfl ((Same.upd hq1).trans ((Same.upd hp1).trans ((Same.upd hp2).trans ((Same.upd hp3).trans ((Same.upd hp4).trans ((Same.upd hp5).trans (Same.upd hq2))))))) ⟨p3, rfl, (upd_keep (upd_keep (upd_keep upd_same hp4) hp5) hq2)⟩ p hp⟩
    · refine ⟨_, rfl, _, rfl, l5, fun q1 hq1 => ⟨_, rfl, q1, _, _, _, rfl, rfl, SqL.of upd_same, atI_nat (j := 3) rfl, ?_⟩⟩
      refine ⟨l1, fun p1 hp1 => ⟨l1, fun p2 hp2 => ⟨l1, fun p3 hp3 => ⟨_, rfl, l2, fun p4 hp4 => ⟨_, rfl, l2, fun p5 hp5 => ⟨l5, fun q2 hq2 => ⟨_, rfl, q2, _, _, _, rfl, rfl, SqL.of upd_same, atI_nat (j := 3) rfl, ?_⟩⟩⟩⟩⟩⟩⟩
      exact ⟨_, rfl, _, rfl, _, rfl, l5, fun p hp => fin (.sign ch) p4 _ _ (rfl) rfl hch (G.sign hch) rfl rfl rfl ((Same.upd hq1).trans ((Same.upd hp1).trans ((Same.upd hp2).trans ((Same.upd hp3).trans ((Same.upd hp4).trans ((Same.upd hp5).trans (Same.upd hq2))))))) ⟨p4, rfl, (upd_keep (upd_keep upd_same hp5) hq2)⟩ p hp⟩
    · refine ⟨_, rfl, _, rfl, l5, fun q1 hq1 => ⟨_, rfl, q1, _, _, _, rfl, rfl, SqL.of upd_same, atI_nat (j := 4) rfl, ?_⟩⟩
      refine ⟨l1, fun p1 hp1 => ⟨l1, fun p2 hp2 => ⟨l1, fun p3 hp3 => ⟨_, rfl, l2, fun p4 hp4 => ⟨_, rfl, l2, fun p5 hp5 => ⟨l5, fun q2 hq2 => ⟨_, rfl, q2, _, _, _, rfl, rfl, SqL.of upd_same, atI_nat (j := 4) rfl, ?_⟩⟩⟩⟩⟩⟩⟩
      exact ⟨_, rfl, _, rfl, _, rfl, l5, fun p hp => fin (.sign ch) p5 _ _ (rfl) rfl hch (G.sign hch) rfl rfl rfl ((Same.upd hq1).trans ((Same.upd hp1).trans ((Same.upd hp2).trans ((Same.upd hp3).trans ((Same.upd hp4).trans ((Same.upd hp5).trans (Same.upd hq2))))))) ⟨p5, rfl, (upd_keep upd_same hq2)⟩ p hp⟩
theorem sc__law_lone : FnScope ["_law_kind", "_law_one", "_law_wants", "_law_ahead", "_law_behind", "_law_text", "_law_short"] ["_law_kind", "_law_one"] (defScope s__law_lone) := ⟨rfl, rfl, rfl, by decide +kernel, rfl, by decide +kernel, by decide +kernel⟩
set_option maxHeartbeats 4000000 in
theorem ok__law_lone {f : Addr} {fd : FuncData} (F : Fun K "_law_lone" "_law_lone" s__law_lone f fd) (T : Txt K mg) (d__law_in : Df P w K mg base "_law_in" 1 ["_law_text", "_law_level", "_law_wants"] sp_in32) : FnOk P w K mg base CX0 2 f fd ["_law_kind", "_law_one"] sp_lone32 := by
  refine F.ok sc__law_lone (fun vs H Q E h => ?_) (fun cdv A outer s H vs Q E hr h => ?_)
  · obtain ⟨L, z, v, x, rfl, _⟩ := h
    rfl
  · obtain ⟨L, z, v, x, rfl, hP, h0, h3, hw1, hz1, q⟩ := h
    obtain ⟨hG, ov, p0, sh, rfl, hp0, hsh⟩ := hP
    obtain ⟨t, tw, l⟩ := x
    refine ⟨_, (pss_cons ((ps_set (i := 2) sc__law_lone.nd rfl (Or.inl rfl) ((pe_ix ix_list (pe_lst (pa_cons (pe_int) (pa_cons (pe_int) (pa_cons (pe_int) pa_nil)))) (pv 0) (fun _ _ => rfl))))) (pss_cons ((ps_set (i := 3) sc__law_lone.nd rfl (Or.inl rfl) ((pe_ix ix_list (pe_lst (pa_cons (pe_str) (pa_cons (pe_str) (pa_cons (pe_str) pa_nil)))) (pv 0) (fun _ _ => rfl))))) (pss_cons ((ps_set (i := 4) sc__law_lone.nd rfl (Or.inl rfl) ((pe_ix ix_list (pe_lst (pa_cons (pe_str) (pa_cons (pe_str) (pa_cons (pe_str) pa_nil)))) (pv 0) (fun _ _ => rfl))))) (pss_cons ((ps_set (i := 5) sc__law_lone.nd rfl (Or.inl rfl) ((pe_op op_add_str (pe_op op_add_str (pv 3) (pe_df d__law_in hr (pa_cons (pe_ix ix_tup (pv 1) pe_int (fun _ _ => rfl)) (pa_cons (pe_ix ix_tup (pv 1) pe_int (fun _ _ => rfl)) (pa_cons (pv 2) pa_nil))))) (pv 4))))) (pss_cons ((ps_set (i := 6) sc__law_lone.nd rfl (Or.inl rfl) ((pe_op op_add_str (pe_op op_add_str (pv 3) (pe_df d__law_in hr (pa_cons (pe_ix ix_tup (pv 1) pe_int (fun _ _ => rfl)) (pa_cons (pe_ix ix_tup (pv 1) pe_int (fun _ _ => rfl)) (pa_cons (pv 2) pa_nil))))) (pv 4))))) (pss_one (ps_ret (pe_tup (pa_cons (pv 5) (pa_cons (pv 2) (pa_cons (pv 6) (pa_cons (pv 2) (pa_cons ((pe_tup (pa_cons ((pe_ix ix_list (pe_lst (pa_cons (pe_str) (pa_cons (pe_str) (pa_cons (pe_str) pa_nil)))) (pv 0) (fun _ _ => rfl))) (pa_cons (pe_ix ix_tup (pv 1) pe_int (fun _ _ => rfl)) pa_nil)))) pa_nil))))))))))))), ?_⟩
    have l2 : 2 ≤ sizeLine := line_ge (by show 2 ≤ 16777216; decide)
    have l3 : 3 ≤ sizeLine := line_ge (by show 3 ≤ 16777216; decide)
    have l5 : 5 ≤ sizeLine := line_ge (by show 5 ≤ 16777216; decide)
    have hw1 : tw.length ≤ 3000 := hw1
    have hz1 : t.sz ≤ 500 := hz1
    have hG : G L l t tw := hG
    have hlen := txtM_len t
    have fin : ∀ (k : K1) (p1 p2 : Addr) (tl sl : Str) (lv : Int) (tw' : List Nat) (l' : Nat) (H7 : Hp), tl = tx tw' → sl = tx (txtM (.one k t)) → lv = (l' : Int) → l' = strP (.one k t) - 1 → G L l' (.one k t) tw' → tw'.length ≤ tw.length + 3 → Same H H7 → H7 p1 = some (.tup [.str (nm1 k), sh]) → H7 p2 = none → Q (.ref p2) (upd H7 p2 (.tup [.str tl, .int lv, .str sl, .int lv, .ref p1])) := by
      intro k p1 p2 tl sl lv tw' l' H7 e1 e2 e3 e4 g hl s7 hp1 hp2
      subst e1 e2 e3
      have s8 := Same.upd (o := .tup [.str (tx tw'), .int (l' : Int), .str (tx (txtM (.one k t))), .int (l' : Int), .ref p1]) hp2
      refine q _ ⟨.one k t, tw', l'⟩ _ (s7.trans s8) ⟨g, ov, p2, _, rfl, ?_, ⟨p1, sh, rfl, s8 _ _ hp1, hsh.kp (Same.kp (s7.trans s8))⟩⟩ rfl rfl hl
      rw [upd_same]
      show some (HO.tup [V.str (tx tw'), V.int (l' : Int), V.str (tx (txtM (.one k t))), V.int (l' : Int), V.ref p1]) = some (HO.tup [V.str (tx tw'), V.int (l' : Int), V.str (tx (txtM (.one k t))), V.int ((strP (.one k t) - 1 : Nat) : Int), V.ref p1])
      rw [← e4]
    have hk : z = 0 ∨ z = 1 ∨ z = 2 := by omega
    have e33 : Str.ofString "!" = tx [33] := by decide +kernel
    have e60 : Str.ofString "<" = tx [60] := by decide +kernel
    have e42 : Str.ofString "*" = tx [42] := by decide +kernel
    have e0 : Str.ofString "" = tx [] := by decide +kernel
    have bd : ∀ (a b : Str) (aw bw : List Nat) (bb : Bool) (uw : List Nat), a = tx aw → b = tx bw → aw.length ≤ 1 → bw.length ≤ 1 → uw.length ≤ 3000 → a.length + (tx (inM bb uw)).length ≤ sizeLine ∧ (a ++ tx (inM bb uw)).length + b.length ≤ sizeLine := fun a b aw bw bb uw ea eb ha hb hu => by
      subst ea eb
      have := inM_len bb uw
      rw [tx_app, tx_len, tx_len, tx_len, tx_len, List.length_append]
      exact ⟨line_ge (by omega), line_ge (by omega)⟩
    have hP5 : ∀ {H' : Hp}, Same H H' → SqT K H' p0 [.str (tx tw), .int (l : Int), .str (tx (txtM t)), .int ((strP t - 1 : Nat) : Int), sh] := fun s => SqT.of (s _ _ hp0)
    rcases hk with rfl | rfl | rfl
    · refine ⟨l3, fun q1 hq1 => ⟨_, rfl, q1, _, _, _, rfl, rfl, SqL.of upd_same, atI_nat (j := 0) rfl, ?_⟩⟩
      refine ⟨l3, fun q2 hq2 => ⟨_, rfl, q2, _, _, _, rfl, rfl, SqL.of upd_same, atI_nat (j := 0) rfl, ?_⟩⟩
      refine ⟨l3, fun q3 hq3 => ⟨_, rfl, q3, _, _, _, rfl, rfl, SqL.of upd_same, atI_nat (j := 0) rfl, ?_⟩⟩
      have s3 := (Same.upd (o := .lst [.int 3, .int 3, .int 4]) hq1).trans ((Same.upd (o := .lst [.str (Str.ofString "!"), .str (Str.ofString "<"), .str (Str.ofString "")]) hq2).trans (Same.upd (o := .lst [.str (Str.ofString ""), .str (Str.ofString ""), .str (Str.ofString "*")]) hq3))
      refine ⟨_, rfl, _, rfl, p0, _, _, _, rfl, rfl, hP5 s3, atI_nat (j := 0) rfl, _, rfl, p0, _, _, _, rfl, rfl, hP5 s3, atI_nat (j := 1) rfl, _, rfl, tw, l, 3, rfl, by omega, _, _, rfl, rfl, (bd _ _ [33] [] _ _ e33 e0 (by decide) (by decide) (by omega)).1, _, rfl, _, _, rfl, rfl, (bd _ _ [33] [] _ _ e33 e0 (by decide) (by decide) (by omega)).2, ?_⟩
      refine ⟨_, rfl, _, rfl, p0, _, _, _, rfl, rfl, hP5 s3, atI_nat (j := 2) rfl, _, rfl, p0, _, _, _, rfl, rfl, hP5 s3, atI_nat (j := 3) rfl, _, rfl, txtM t, strP t - 1, 3, rfl, by omega, _, _, rfl, rfl, (bd _ _ [33] [] _ _ e33 e0 (by decide) (by decide) (by omega)).1, _, rfl, _, _, rfl, rfl, (bd _ _ [33] [] _ _ e33 e0 (by decide) (by decide) (by omega)).2, ?_⟩
      refine ⟨_, rfl, _, rfl, _, rfl, _, rfl, l3, fun q4 hq4 => ⟨_, rfl, q4, _, _, _, rfl, rfl, SqL.of upd_same, atI_nat (j := 0) rfl, ?_⟩⟩
      have s4 := s3.trans (Same.upd (o := .lst [.str (Str.ofString "outside"), .str (Str.ofString "turned"), .str (Str.ofString "again")]) hq4)
      refine ⟨_, rfl, p0, _, _, _, rfl, rfl, hP5 s4, atI_nat (j := 4) rfl, l2, fun p1 hp1 => ⟨l5, fun p2 hp2 => ?_⟩⟩
      have hg : G L 3 (.one .outside t) ([33] ++ inM (decide (l < 3)) tw ++ []) := by
        obtain ⟨l2', g1, g2⟩ := hG.weak (m := 3) (decide (l < 3)) (fun q => Nat.le_of_not_lt (of_decide_eq_false q)) (by decide)
        rw [List.append_nil]
        exact G.pre .outside g2 g1
      exact fin .outside p1 p2 _ _ _ ([33] ++ inM (decide (l < 3)) tw ++ []) 3 _ (by rw [e33, e0, tx_app, tx_app]) (by rw [e33, e0, tx_app, tx_app, List.append_nil]; exact congrArg tx (congrArg (33 :: ·) (inM_dec (lv_dec t 3)))) rfl rfl hg (by have := inM_len (decide (l < 3)) tw; simp; omega) (s4.trans (Same.upd hp1)) upd_same hp2
    · refine ⟨l3, fun q1 hq1 => ⟨_, rfl, q1, _, _, _, rfl, rfl, SqL.of upd_same, atI_nat (j := 1) rfl, ?_⟩⟩
      refine ⟨l3, fun q2 hq2 => ⟨_, rfl, q2, _, _, _, rfl, rfl, SqL.of upd_same, atI_nat (j := 1) rfl, ?_⟩⟩
      refine ⟨l3, fun q3 hq3 => ⟨_, rfl, q3, _, _, _, rfl, rfl, SqL.of upd_same, atI_nat (j := 1) rfl, ?_⟩⟩
      have s3 := (Same.upd (o := .lst [.int 3, .int 3, .int 4]) hq1).trans ((Same.upd (o := .lst [.str (Str.ofString "!"), .str (Str.ofString "<"), .str (Str.ofString "")]) hq2).trans (Same.upd (o := .lst [.str (Str.ofString ""), .str (Str.ofString ""), .str (Str.ofString "*")]) hq3))
      refine ⟨_, rfl, _, rfl, p0, _, _, _, rfl, rfl, hP5 s3, atI_nat (j := 0) rfl, _, rfl, p0, _, _, _, rfl, rfl, hP5 s3, atI_nat (j := 1) rfl, _, rfl, tw, l, 3, rfl, by omega, _, _, rfl, rfl, (bd _ _ [60] [] _ _ e60 e0 (by decide) (by decide) (by omega)).1, _, rfl, _, _, rfl, rfl, (bd _ _ [60] [] _ _ e60 e0 (by decide) (by decide) (by omega)).2, ?_⟩
      refine ⟨_, rfl, _, rfl, p0, _, _, _, rfl, rfl, hP5 s3, atI_nat (j := 2) rfl, _, rfl, p0, _, _, _, rfl, rfl, hP5 s3, atI_nat (j := 3) rfl, _, rfl, txtM t, strP t - 1, 3, rfl, by omega, _, _, rfl, rfl, (bd _ _ [60] [] _ _ e60 e0 (by decide) (by decide) (by omega)).1, _, rfl, _, _, rfl, rfl, (bd _ _ [60] [] _ _ e60 e0 (by decide) (by decide) (by omega)).2, ?_⟩
      refine ⟨_, rfl, _, rfl, _, rfl, _, rfl, l3, fun q4 hq4 => ⟨_, rfl, q4, _, _, _, rfl, rfl, SqL.of upd_same, atI_nat (j := 1) rfl, ?_⟩⟩
      have s4 := s3.trans (Same.upd (o := .lst [.str (Str.ofString "outside"), .str (Str.ofString "turned"), .str (Str.ofString "again")]) hq4)
      refine ⟨_, rfl, p0, _, _, _, rfl, rfl, hP5 s4, atI_nat (j := 4) rfl, l2, fun p1 hp1 => ⟨l5, fun p2 hp2 => ?_⟩⟩
      have hg : G L 3 (.one .turned t) ([60] ++ inM (decide (l < 3)) tw ++ []) := by
        obtain ⟨l2', g1, g2⟩ := hG.weak (m := 3) (decide (l < 3)) (fun q => Nat.le_of_not_lt (of_decide_eq_false q)) (by decide)
        rw [List.append_nil]
        exact G.pre .turned g2 g1
      exact fin .turned p1 p2 _ _ _ ([60] ++ inM (decide (l < 3)) tw ++ []) 3 _ (by rw [e60, e0, tx_app, tx_app]) (by rw [e60, e0, tx_app, tx_app, List.append_nil]; exact congrArg tx (congrArg (60 :: ·) (inM_dec (lv_dec t 3)))) rfl rfl hg (by have := inM_len (decide (l < 3)) tw; simp; omega) (s4.trans (Same.upd hp1)) upd_same hp2
    · refine ⟨l3, fun q1 hq1 => ⟨_, rfl, q1, _, _, _, rfl, rfl, SqL.of upd_same, atI_nat (j := 2) rfl, ?_⟩⟩
      refine ⟨l3, fun q2 hq2 => ⟨_, rfl, q2, _, _, _, rfl, rfl, SqL.of upd_same, atI_nat (j := 2) rfl, ?_⟩⟩
      refine ⟨l3, fun q3 hq3 => ⟨_, rfl, q3, _, _, _, rfl, rfl, SqL.of upd_same, atI_nat (j := 2) rfl, ?_⟩⟩
      have s3 := (Same.upd (o := .lst [.int 3, .int 3, .int 4]) hq1).trans ((Same.upd (o := .lst [.str (Str.ofString "!"), .str (Str.ofString "<"), .str (Str.ofString "")]) hq2).trans (Same.upd (o := .lst [.str (Str.ofString ""), .str (Str.ofString ""), .str (Str.ofString "*")]) hq3))
      refine ⟨_, rfl, _, rfl, p0, _, _, _, rfl, rfl, hP5 s3, atI_nat (j := 0) rfl, _, rfl, p0, _, _, _, rfl, rfl, hP5 s3, atI_nat (j := 1) rfl, _, rfl, tw, l, 4, rfl, by omega, _, _, rfl, rfl, (bd _ _ [] [42] _ _ e0 e42 (by decide) (by decide) (by omega)).1, _, rfl, _, _, rfl, rfl, (bd _ _ [] [42] _ _ e0 e42 (by decide) (by decide) (by omega)).2, ?_⟩
      refine ⟨_, rfl, _, rfl, p0, _, _, _, rfl, rfl, hP5 s3, atI_nat (j := 2) rfl, _, rfl, p0, _, _, _, rfl, rfl, hP5 s3, atI_nat (j := 3) rfl, _, rfl, txtM t, strP t - 1, 4, rfl, by omega, _, _, rfl, rfl, (bd _ _ [] [42] _ _ e0 e42 (by decide) (by decide) (by omega)).1, _, rfl, _, _, rfl, rfl, (bd _ _ [] [42] _ _ e0 e42 (by decide) (by decide) (by omega)).2, ?_⟩
      refine ⟨_, rfl, _, rfl, _, rfl, _, rfl, l3, fun q4 hq4 => ⟨_, rfl, q4, _, _, _, rfl, rfl, SqL.of upd_same, atI_nat (j := 2) rfl, ?_⟩⟩
      have s4 := s3.trans (Same.upd (o := .lst [.str (Str.ofString "outside"), .str (Str.ofString "turned"), .str (Str.ofString "again")]) hq4)
      refine ⟨_, rfl, p0, _, _, _, rfl, rfl, hP5 s4, atI_nat (j := 4) rfl, l2, fun p1 hp1 => ⟨l5, fun p2 hp2 => ?_⟩⟩
      have hg : G L 4 (.one .again t) ([] ++ inM (decide (l < 4)) tw ++ [42]) := by
        obtain ⟨l2', g1, g2⟩ := hG.weak (m := 4) (decide (l < 4)) (fun q => Nat.le_of_not_lt (of_decide_eq_false q)) (by decide)
        have := g2.le4
        obtain rfl : l2' = 4 := by omega
        exact G.again g2
      exact fin .again p1 p2 _ _ _ ([] ++ inM (decide (l < 4)) tw ++ [42]) 4 _ (by rw [e0, e42, tx_app, tx_app]) (by rw [e0, e42, tx_app, tx_app]; exact congrArg tx (congrArg (· ++ [42]) (inM_dec (lv_dec t 4)))) rfl rfl hg (by have := inM_len (decide (l < 4)) tw; simp; omega) (s4.trans (Same.upd hp1)) upd_same hp2
theorem sc__law_pair : FnScope ["_law_kind", "_law_one", "_law_other", "_law_level", "_law_mark", "_law_text", "_law_short"] ["_law_kind", "_law_one", "_law_other"] (defScope s__law_pair) := ⟨rfl, rfl, rfl, by decide +kernel, rfl, by decide +kernel, by decide +kernel⟩
set_option maxHeartbeats 4000000 in
theorem ok__law_pair {f : Addr} {fd : FuncData} (F : Fun K "_law_pair" "_law_pair" s__law_pair f fd) (T : Txt K mg) (d__law_in : Df P w K mg base "_law_in" 1 ["_law_text", "_law_level", "_law_wants"] sp_in32) : FnOk P w K mg base CX0 2 f fd ["_law_kind", "_law_one", "_law_other"] sp_pair32 := by
  refine F.ok sc__law_pair (fun vs H Q E h => ?_) (fun cdv A outer s H vs Q E hr h => ?_)
  · obtain ⟨L, z, v, x, v2, x2, rfl, _⟩ := h
    rfl
  · obtain ⟨L, z, v, x, v2, x2, rfl, hP, hPb, h0, h4, hw1, hw2, hz1, hz2, q⟩ := h
    obtain ⟨hG, ov, p0, sh, rfl, hp0, hsh⟩ := hP
    obtain ⟨hGb, ovb, pb, shb, rfl, hpb, hshb⟩ := hPb
    obtain ⟨t, tw, l⟩ := x
    obtain ⟨t2, tw2, lb⟩ := x2
    refine ⟨_, (pss_cons ((ps_set (i := 3) sc__law_pair.nd rfl (Or.inl rfl) ((pe_ix ix_list (pe_lst (pa_cons (pe_int) (pa_cons (pe_int) (pa_cons (pe_int) (pa_cons (pe_int) pa_nil))))) (pv 0) (fun _ _ => rfl))))) (pss_cons ((ps_set (i := 4) sc__law_pair.nd rfl (Or.inl rfl) ((pe_ix ix_list (pe_lst (pa_cons (pe_str) (pa_cons (pe_str) (pa_cons (pe_str) (pa_cons (pe_str) pa_nil))))) (pv 0) (fun _ _ => rfl))))) (pss_cons ((ps_set (i := 5) sc__law_pair.nd rfl (Or.inl rfl) ((pe_op op_add_str (pe_op op_add_str (pe_df d__law_in hr (pa_cons (pe_ix ix_tup (pv 1) pe_int (fun _ _ => rfl)) (pa_cons (pe_ix ix_tup (pv 1) pe_int (fun _ _ => rfl)) (pa_cons (pv 3) pa_nil)))) (pv 4)) (pe_df d__law_in hr (pa_cons (pe_ix ix_tup (pv 2) pe_int (fun _ _ => rfl)) (pa_cons (pe_ix ix_tup (pv 2) pe_int (fun _ _ => rfl)) (pa_cons (pe_op op_a (pv 3) pe_int) pa_nil)))))))) (pss_cons ((ps_set (i := 6) sc__law_pair.nd rfl (Or.inl rfl) ((pe_op op_add_str (pe_op op_add_str (pe_df d__law_in hr (pa_cons (pe_ix ix_tup (pv 1) pe_int (fun _ _ => rfl)) (pa_cons (pe_ix ix_tup (pv 1) pe_int (fun _ _ => rfl)) (pa_cons (pv 3) pa_nil)))) (pv 4)) (pe_df d__law_in hr (pa_cons (pe_ix ix_tup (pv 2) pe_int (fun _ _ => rfl)) (pa_cons (pe_ix ix_tup (pv 2) pe_int (fun _ _ => rfl)) (pa_cons (pe_op op_a (pv 3) pe_int) pa_nil)))))))) (pss_one (ps_ret (pe_tup (pa_cons (pv 5) (pa_cons (pv 3) (pa_cons (pv 6) (pa_cons (pv 3) (pa_cons ((pe_tup (pa_cons ((pe_ix ix_list (pe_lst (pa_cons (pe_str) (pa_cons (pe_str) (pa_cons (pe_str) (pa_cons (pe_str) pa_nil))))) (pv 0) (fun _ _ => rfl))) (pa_cons (pe_ix ix_tup (pv 1) pe_int (fun _ _ => rfl)) (pa_cons (pe_ix ix_tup (pv 2) pe_int (fun _ _ => rfl)) pa_nil))))) pa_nil)))))))))))), ?_⟩
    have l3 : 3 ≤ sizeLine := line_ge (by show 3 ≤ 16777216; decide)
    have l4 : 4 ≤ sizeLine := line_ge (by show 4 ≤ 16777216; decide)
    have l5 : 5 ≤ sizeLine := line_ge (by show 5 ≤ 16777216; decide)
    have hw1 : tw.length ≤ 3000 := hw1
    have hw2 : tw2.length ≤ 3000 := hw2
    have hz1 : t.sz ≤ 500 := hz1
    have hz2 : t2.sz ≤ 500 := hz2
    have hG : G L l t tw := hG
    have hGb : G L lb t2 tw2 := hGb
    have hlen := txtM_len t
    have hlen2 := txtM_len t2
    have fin : ∀ (k : K2) (p1 p2 : Addr) (tl sl : Str) (lv : Int) (tw' : List Nat) (H7 : Hp), tl = tx tw' → sl = tx (txtM (.two k t t2)) → lv = ((lvl k : Nat) : Int) → G L (lvl k) (.two k t t2) tw' → tw'.length ≤ tw.length + tw2.length + 5 → Same H H7 → H7 p1 = some (.tup [.str (nm2 k), sh, shb]) → H7 p2 = none → Q (.ref p2) (upd H7 p2 (.tup [.str tl, .int lv, .str sl, .int lv, .ref p1])) := by
      intro k p1 p2 tl sl lv tw' H7 e1 e2 e3 g hl s7 hp1 hp2
      subst e1 e2 e3
      have s8 := Same.upd (o := .tup [.str (tx tw'), .int ((lvl k : Nat) : Int), .str (tx (txtM (.two k t t2))), .int ((lvl k : Nat) : Int), .ref p1]) hp2
      exact q _ ⟨.two k t t2, tw', lvl k⟩ _ (s7.trans s8) ⟨g, ⟨ov, ovb⟩, p2, _, rfl, upd_same, ⟨p1, sh, shb, rfl, s8 _ _ hp1, hsh.kp (Same.kp (s7.trans s8)), hshb.kp (Same.kp (s7.trans s8))⟩⟩ rfl rfl hl
    have hk : z = 0 ∨ z = 1 ∨ z = 2 ∨ z = 3 := by omega
    have e124 : Str.ofString "|" = tx [124] := by decide +kernel
    have e45 : Str.ofString "-" = tx [45] := by decide +kernel
    have e38 : Str.ofString "&" = tx [38] := by decide +kernel
    have e0 : Str.ofString "" = tx [] := by decide +kernel
    have bd : ∀ (b : Str) (bw : List Nat) (bb bc : Bool) (uw vw : List Nat), b = tx bw → bw.length ≤ 1 → uw.length ≤ 3000 → vw.length ≤ 3000 → (tx (inM bb uw)).length + b.length ≤ sizeLine ∧ (tx (inM bb uw) ++ b).length + (tx (inM bc vw)).length ≤ sizeLine := fun b bw bb bc uw vw eb hb hu hv => by
      subst eb
      have := inM_len bb uw
      have := inM_len bc vw
      rw [tx_app, tx_len, tx_len, tx_len, tx_len, List.length_append]
      exact ⟨line_ge (by omega), line_ge (by omega)⟩
    have hP5 : ∀ {H' : Hp}, Same H H' → SqT K H' p0 [.str (tx tw), .int (l : Int), .str (tx (txtM t)), .int ((strP t - 1 : Nat) : Int), sh] := fun s => SqT.of (s _ _ hp0)
    have hB5 : ∀ {H' : Hp}, Same H H' → SqT K H' pb [.str (tx tw2), .int (lb : Int), .str (tx (txtM t2)), .int ((strP t2 - 1 : Nat) : Int), shb] := fun s => SqT.of (s _ _ hpb)
    rcases hk with rfl | rfl | rfl | rfl
    · refine ⟨l4, fun q1 hq1 => ⟨_, rfl, q1, _, _, _, rfl, rfl, SqL.of upd_same, atI_nat (j := 0) rfl, ?_⟩⟩
      refine ⟨l4, fun q2 hq2 => ⟨_, rfl, q2, _, _, _, rfl, rfl, SqL.of upd_same, atI_nat (j := 0) rfl, ?_⟩⟩
      have s3 := (Same.upd (o := .lst [.int 0, .int 0, .int 1, .int 2]) hq1).trans (Same.upd (o := .lst [.str (Str.ofString "|"), .str (Str.ofString "-"), .str (Str.ofString "&"), .str (Str.ofString "")]) hq2)
      refine ⟨_, rfl, p0, _, _, _, rfl, rfl, hP5 s3, atI_nat (j := 0) rfl, _, rfl, p0, _, _, _, rfl, rfl, hP5 s3, atI_nat (j := 1) rfl, _, rfl, tw, l, 0, rfl, by omega, _, rfl, _, _, rfl, rfl, (bd _ [124] _ true _ [] e124 (by decide) (by omega) (by decide)).1, _, rfl, pb, _, _, _, rfl, rfl, hB5 s3, atI_nat (j := 0) rfl, _, rfl, pb, _, _, _, rfl, rfl, hB5 s3, atI_nat (j := 1) rfl, _, rfl, _, _, rfl, rfl, tw2, lb, 0 + 1, rfl, by omega, _, _, rfl, rfl, (bd _ [124] _ _ _ _ e124 (by decide) (by omega) (by omega)).2, ?_⟩
      refine ⟨_, rfl, p0, _, _, _, rfl, rfl, hP5 s3, atI_nat (j := 2) rfl, _, rfl, p0, _, _, _, rfl, rfl, hP5 s3, atI_nat (j := 3) rfl, _, rfl, txtM t, strP t - 1, 0, rfl, by omega, _, rfl, _, _, rfl, rfl, (bd _ [124] _ true _ [] e124 (by decide) (by omega) (by decide)).1, _, rfl, pb, _, _, _, rfl, rfl, hB5 s3, atI_nat (j := 2) rfl, _, rfl, pb, _, _, _, rfl, rfl, hB5 s3, atI_nat (j := 3) rfl, _, rfl, _, _, rfl, rfl, txtM t2, strP t2 - 1, 0 + 1, rfl, by omega, _, _, rfl, rfl, (bd _ [124] _ _ _ _ e124 (by decide) (by omega) (by omega)).2, ?_⟩
      refine ⟨_, rfl, _, rfl, _, rfl, _, rfl, l4, fun q4 hq4 => ⟨_, rfl, q4, _, _, _, rfl, rfl, SqL.of upd_same, atI_nat (j := 0) rfl, ?_⟩⟩
      have s4 := s3.trans (Same.upd (o := .lst [.str (Str.ofString "either"), .str (Str.ofString "less"), .str (Str.ofString "both"), .str (Str.ofString "then")]) hq4)
      refine ⟨_, rfl, p0, _, _, _, rfl, rfl, hP5 s4, atI_nat (j := 4) rfl, _, rfl, pb, _, _, _, rfl, rfl, hB5 s4, atI_nat (j := 4) rfl, l3, fun p1 hp1 => ⟨l5, fun p2 hp2 => ?_⟩⟩
      have hg : G L (lvl .either) (.two .either t t2) (inM (decide (l < 0)) tw ++ [124] ++ inM (decide (lb < 1)) tw2) := by
        obtain ⟨l2', g1, g2⟩ := hG.weak (m := 0) (decide (l < 0)) (fun q => Nat.le_of_not_lt (of_decide_eq_false q)) (by decide)
        obtain ⟨l3', g3, g4⟩ := hGb.weak (m := 1) (decide (lb < 1)) (fun q => Nat.le_of_not_lt (of_decide_eq_false q)) (by decide)
        exact G.bin .either g2 g4 g1 g3
      exact fin .either p1 p2 _ _ _ (inM (decide (l < 0)) tw ++ [124] ++ inM (decide (lb < 1)) tw2) _ (by rw [e124, tx_app, tx_app]) (by rw [e124, tx_app, tx_app]; exact congrArg tx (by show _ ++ _ ++ _ = inM (decide (strP t < 0 + 1)) (txtM t) ++ _ ++ inM (decide (strP t2 < 0 + 1 + 1)) (txtM t2); rw [← lv_dec t 0, ← lv_dec t2 (0 + 1)]; rfl)) rfl hg (by have := inM_len (decide (l < 0)) tw; have := inM_len (decide (lb < 1)) tw2; simp only [List.length_append, List.length_cons, List.length_nil]; omega) (s4.trans (Same.upd hp1)) upd_same hp2
    · refine ⟨l4, fun q1 hq1 => ⟨_, rfl, q1, _, _, _, rfl, rfl, SqL.of upd_same, atI_nat (j := 1) rfl, ?_⟩⟩
      refine ⟨l4, fun q2 hq2 => ⟨_, rfl, q2, _, _, _, rfl, rfl, SqL.of upd_same, atI_nat (j := 1) rfl, ?_⟩⟩
      have s3 := (Same.upd (o := .lst [.int 0, .int 0, .int 1, .int 2]) hq1).trans (Same.upd (o := .lst [.str (Str.ofString "|"), .str (Str.ofString "-"), .str (Str.ofString "&"), .str (Str.ofString "")]) hq2)
      refine ⟨_, rfl, p0, _, _, _, rfl, rfl, hP5 s3, atI_nat (j := 0) rfl, _, rfl, p0, _, _, _, rfl, rfl, hP5 s3, atI_nat (j := 1) rfl, _, rfl, tw, l, 0, rfl, by omega, _, rfl, _, _, rfl, rfl, (bd _ [45] _ true _ [] e45 (by decide) (by omega) (by decide)).1, _, rfl, pb, _, _, _, rfl, rfl, hB5 s3, atI_nat (j := 0) rfl, _, rfl, pb, _, _, _, rfl, rfl, hB5 s3, atI_nat (j := 1) rfl, _, rfl, _, _, rfl, rfl, tw2, lb, 0 + 1, rfl, by omega, _, _, rfl, rfl, (bd _ [45] _ _ _ _ e45 (by decide) (by omega) (by omega)).2, ?_⟩
      refine ⟨_, rfl, p0, _, _, _, rfl, rfl, hP5 s3, atI_nat (j := 2) rfl, _, rfl, p0, _, _, _, rfl, rfl, hP5 s3, atI_nat (j := 3) rfl, _, rfl, txtM t, strP t - 1, 0, rfl, by omega, _, rfl, _, _, rfl, rfl, (bd _ [45] _ true _ [] e45 (by decide) (by omega) (by decide)).1, _, rfl, pb, _, _, _, rfl, rfl, hB5 s3, atI_nat (j := 2) rfl, _, rfl, pb, _, _, _, rfl, rfl, hB5 s3, atI_nat (j := 3) rfl, _, rfl, _, _, rfl, rfl, txtM t2, strP t2 - 1, 0 + 1, rfl, by omega, _, _, rfl, rfl, (bd _ [45] _ _ _ _ e45 (by decide) (by omega) (by omega)).2, ?_⟩
      refine ⟨_, rfl, _, rfl, _, rfl, _, rfl, l4, fun q4 hq4 => ⟨_, rfl, q4, _, _, _, rfl, rfl, SqL.of upd_same, atI_nat (j := 1) rfl, ?_⟩⟩
      have s4 := s3.trans (Same.upd (o := .lst [.str (Str.ofString "either"), .str (Str.ofString "less"), .str (Str.ofString "both"), .str (Str.ofString "then")]) hq4)
      refine ⟨_, rfl, p0, _, _, _, rfl, rfl, hP5 s4, atI_nat (j := 4) rfl, _, rfl, pb, _, _, _, rfl, rfl, hB5 s4, atI_nat (j := 4) rfl, l3, fun p1 hp1 => ⟨l5, fun p2 hp2 => ?_⟩⟩
      have hg : G L (lvl .less) (.two .less t t2) (inM (decide (l < 0)) tw ++ [45] ++ inM (decide (lb < 1)) tw2) := by
        obtain ⟨l2', g1, g2⟩ := hG.weak (m := 0) (decide (l < 0)) (fun q => Nat.le_of_not_lt (of_decide_eq_false q)) (by decide)
        obtain ⟨l3', g3, g4⟩ := hGb.weak (m := 1) (decide (lb < 1)) (fun q => Nat.le_of_not_lt (of_decide_eq_false q)) (by decide)
        exact G.bin .less g2 g4 g1 g3
      exact fin .less p1 p2 _ _ _ (inM (decide (l < 0)) tw ++ [45] ++ inM (decide (lb < 1)) tw2) _ (by rw [e45, tx_app, tx_app]) (by rw [e45, tx_app, tx_app]; exact congrArg tx (by show _ ++ _ ++ _ = inM (decide (strP t < 0 + 1)) (txtM t) ++ _ ++ inM (decide (strP t2 < 0 + 1 + 1)) (txtM t2); rw [← lv_dec t 0, ← lv_dec t2 (0 + 1)]; rfl)) rfl hg (by have := inM_len (decide (l < 0)) tw; have := inM_len (decide (lb < 1)) tw2; simp only [List.length_append, List.length_cons, List.length_nil]; omega) (s4.trans (Same.upd hp1)) upd_same hp2
    · refine ⟨l4, fun q1 hq1 => ⟨_, rfl, q1, _, _, _, rfl, rfl, SqL.of upd_same, atI_nat (j := 2) rfl, ?_⟩⟩
      refine ⟨l4, fun q2 hq2 => ⟨_, rfl, q2, _, _, _, rfl, rfl, SqL.of upd_same, atI_nat (j := 2) rfl, ?_⟩⟩
      have s3 := (Same.upd (o := .lst [.int 0, .int 0, .int 1, .int 2]) hq1).trans (Same.upd (o := .lst [.str (Str.ofString "|"), .str (Str.ofString "-"), .str (Str.ofString "&"), .str (Str.ofString "")]) hq2)
      refine ⟨_, rfl, p0, _, _, _, rfl, rfl, hP5 s3, atI_nat (j := 0) rfl, _, rfl, p0, _, _, _, rfl, rfl, hP5 s3, atI_nat (j := 1) rfl, _, rfl, tw, l, 1, rfl, by omega, _, rfl, _, _, rfl, rfl, (bd _ [38] _ true _ [] e38 (by decide) (by omega) (by decide)).1, _, rfl, pb, _, _, _, rfl, rfl, hB5 s3, atI_nat (j := 0) rfl, _, rfl, pb, _, _, _, rfl, rfl, hB5 s3, atI_nat (j := 1) rfl, _, rfl, _, _, rfl, rfl, tw2, lb, 1 + 1, rfl, by omega, _, _, rfl, rfl, (bd _ [38] _ _ _ _ e38 (by decide) (by omega) (by omega)).2, ?_⟩
      refine ⟨_, rfl, p0, _, _, _, rfl, rfl, hP5 s3, atI_nat (j := 2) rfl, _, rfl, p0, _, _, _, rfl, rfl, hP5 s3, atI_nat (j := 3) rfl, _, rfl, txtM t, strP t - 1, 1, rfl, by omega, _, rfl, _, _, rfl, rfl, (bd _ [38] _ true _ [] e38 (by decide) (by omega) (by decide)).1, _, rfl, pb, _, _, _, rfl, rfl, hB5 s3, atI_nat (j := 2) rfl, _, rfl, pb, _, _, _, rfl, rfl, hB5 s3, atI_nat (j := 3) rfl, _, rfl, _, _, rfl, rfl, txtM t2, strP t2 - 1, 1 + 1, rfl, by omega, _, _, rfl, rfl, (bd _ [38] _ _ _ _ e38 (by decide) (by omega) (by omega)).2, ?_⟩
      refine ⟨_, rfl, _, rfl, _, rfl, _, rfl, l4, fun q4 hq4 => ⟨_, rfl, q4, _, _, _, rfl, rfl, SqL.of upd_same, atI_nat (j := 2) rfl, ?_⟩⟩
      have s4 := s3.trans (Same.upd (o := .lst [.str (Str.ofString "either"), .str (Str.ofString "less"), .str (Str.ofString "both"), .str (Str.ofString "then")]) hq4)
      refine ⟨_, rfl, p0, _, _, _, rfl, rfl, hP5 s4, atI_nat (j := 4) rfl, _, rfl, pb, _, _, _, rfl, rfl, hB5 s4, atI_nat (j := 4) rfl, l3, fun p1 hp1 => ⟨l5, fun p2 hp2 => ?_⟩⟩
      have hg : G L (lvl .both) (.two .both t t2) (inM (decide (l < 1)) tw ++ [38] ++ inM (decide (lb < 2)) tw2) := by
        obtain ⟨l2', g1, g2⟩ := hG.weak (m := 1) (decide (l < 1)) (fun q => Nat.le_of_not_lt (of_decide_eq_false q)) (by decide)
        obtain ⟨l3', g3, g4⟩ := hGb.weak (m := 2) (decide (lb < 2)) (fun q => Nat.le_of_not_lt (of_decide_eq_false q)) (by decide)
        exact G.bin .both g2 g4 g1 g3
      exact fin .both p1 p2 _ _ _ (inM (decide (l < 1)) tw ++ [38] ++ inM (decide (lb < 2)) tw2) _ (by rw [e38, tx_app, tx_app]) (by rw [e38, tx_app, tx_app]; exact congrArg tx (by show _ ++ _ ++ _ = inM (decide (strP t < 1 + 1)) (txtM t) ++ _ ++ inM (decide (strP t2 < 1 + 1 + 1)) (txtM t2); rw [← lv_dec t 1, ← lv_dec t2 (1 + 1)]; rfl)) rfl hg (by have := inM_len (decide (l < 1)) tw; have := inM_len (decide (lb < 2)) tw2; simp only [List.length_append, List.length_cons, List.length_nil]; omega) (s4.trans (Same.upd hp1)) upd_same hp2
    · refine ⟨l4, fun q1 hq1 => ⟨_, rfl, q1, _, _, _, rfl, rfl, SqL.of upd_same, atI_nat (j := 3) rfl, ?_⟩⟩
      refine ⟨l4, fun q2 hq2 => ⟨_, rfl, q2, _, _, _, rfl, rfl, SqL.of upd_same, atI_nat (j := 3) rfl, ?_⟩⟩
      have s3 := (Same.upd (o := .lst [.int 0, .int 0, .int 1, .int 2]) hq1).trans (Same.upd (o := .lst [.str (Str.ofString "|"), .str (Str.ofString "-"), .str (Str.ofString "&"), .str (Str.ofString "")]) hq2)
      refine ⟨_, rfl, p0, _, _, _, rfl, rfl, hP5 s3, atI_nat (j := 0) rfl, _, rfl, p0, _, _, _, rfl, rfl, hP5 s3, atI_nat (j := 1) rfl, _, rfl, tw, l, 2, rfl, by omega, _, rfl, _, _, rfl, rfl, (bd _ [] _ true _ [] e0 (by decide) (by omega) (by decide)).1, _, rfl, pb, _, _, _, rfl, rfl, hB5 s3, atI_nat (j := 0) rfl, _, rfl, pb, _, _, _, rfl, rfl, hB5 s3, atI_nat (j := 1) rfl, _, rfl, _, _, rfl, rfl, tw2, lb, 2 + 1, rfl, by omega, _, _, rfl, rfl, (bd _ [] _ _ _ _ e0 (by decide) (by omega) (by omega)).2, ?_⟩
      refine ⟨_, rfl, p0, _, _, _, rfl, rfl, hP5 s3, atI_nat (j := 2) rfl, _, rfl, p0, _, _, _, rfl, rfl, hP5 s3, atI_nat (j := 3) rfl, _, rfl, txtM t, strP t - 1, 2, rfl, by omega, _, rfl, _, _, rfl, rfl, (bd _ [] _ true _ [] e0 (by decide) (by omega) (by decide)).1, _, rfl, pb, _, _, _, rfl, rfl, hB5 s3, atI_nat (j := 2) rfl, _, rfl, pb, _, _, _, rfl, rfl, hB5 s3, atI_nat (j := 3) rfl, _, rfl, _, _, rfl, rfl, txtM t2, strP t2 - 1, 2 + 1, rfl, by omega, _, _, rfl, rfl, (bd _ [] _ _ _ _ e0 (by decide) (by omega) (by omega)).2, ?_⟩
      refine ⟨_, rfl, _, rfl, _, rfl, _, rfl, l4, fun q4 hq4 => ⟨_, rfl, q4, _, _, _, rfl, rfl, SqL.of upd_same, atI_nat (j := 3) rfl, ?_⟩⟩
      have s4 := s3.trans (Same.upd (o := .lst [.str (Str.ofString "either"), .str (Str.ofString "less"), .str (Str.ofString "both"), .str (Str.ofString "then")]) hq4)
      refine ⟨_, rfl, p0, _, _, _, rfl, rfl, hP5 s4, atI_nat (j := 4) rfl, _, rfl, pb, _, _, _, rfl, rfl, hB5 s4, atI_nat (j := 4) rfl, l3, fun p1 hp1 => ⟨l5, fun p2 hp2 => ?_⟩⟩
      have hg : G L (lvl .then_) (.two .then_ t t2) (inM (decide (l < 2)) tw ++ [] ++ inM (decide (lb < 3)) tw2) := by
        obtain ⟨l2', g1, g2⟩ := hG.weak (m := 2) (decide (l < 2)) (fun q => Nat.le_of_not_lt (of_decide_eq_false q)) (by decide)
        obtain ⟨l3', g3, g4⟩ := hGb.weak (m := 3) (decide (lb < 3)) (fun q => Nat.le_of_not_lt (of_decide_eq_false q)) (by decide)
        exact G.bin .then_ g2 g4 g1 g3
      exact fin .then_ p1 p2 _ _ _ (inM (decide (l < 2)) tw ++ [] ++ inM (decide (lb < 3)) tw2) _ (by rw [e0, tx_app, tx_app]) (by rw [e0, tx_app, tx_app]; exact congrArg tx (by show _ ++ _ ++ _ = inM (decide (strP t < 2 + 1)) (txtM t) ++ _ ++ inM (decide (strP t2 < 2 + 1 + 1)) (txtM t2); rw [← lv_dec t 2, ← lv_dec t2 (2 + 1)]; rfl)) rfl hg (by have := inM_len (decide (l < 2)) tw; have := inM_len (decide (lb < 3)) tw2; simp only [List.length_append, List.length_cons, List.length_nil]; omega) (s4.trans (Same.upd hp1)) upd_same hp2
theorem sc__law_held : FnScope ["_law_one"] ["_law_one"] (defScope s__law_held) := ⟨rfl, rfl, rfl, by decide +kernel, rfl, by decide +kernel, by decide +kernel⟩
set_option maxHeartbeats 4000000 in
theorem ok__law_held {f : Addr} {fd : FuncData} (F : Fun K "_law_held" "_law_held" s__law_held f fd) (T : Txt K mg) : FnOk P w K mg base CX0 1 f fd ["_law_one"] sp_held32 := by
  refine F.ok sc__law_held (fun vs H Q E h => ?_) (fun cdv A outer s H vs Q E hr h => ?_)
  · obtain ⟨L, v, x, rfl, _⟩ := h
    rfl
  · obtain ⟨L, v, x, rfl, hP, hw1, q⟩ := h
    obtain ⟨hG, ov, p0, sh, rfl, hp0, hsh⟩ := hP
    obtain ⟨t, tw, l⟩ := x
    refine ⟨_, (pss_one (ps_ret (pe_tup (pa_cons (pe_op op_add_str (pe_op op_add_str pe_str (pe_ix ix_tup (pv 0) pe_int (fun _ _ => rfl))) pe_str) (pa_cons (pe_int) (pa_cons (pe_ix ix_tup (pv 0) pe_int (fun _ _ => rfl)) (pa_cons (pe_ix ix_tup (pv 0) pe_int (fun _ _ => rfl)) (pa_cons (pe_ix ix_tup (pv 0) pe_int (fun _ _ => rfl)) pa_nil)))))))), ?_⟩
    have hw1 : tw.length ≤ 3000 := hw1
    have hG : G L l t tw := hG
    have e40 : Str.ofString "(" = tx [40] := by decide +kernel
    have e41 : Str.ofString ")" = tx [41] := by decide +kernel
    refine ⟨_, rfl, p0, _, _, _, rfl, rfl, SqT.of hp0, atI_nat (j := 0) rfl, _, _, rfl, rfl, ?_, _, _, rfl, rfl, ?_, _, rfl, p0, _, _, _, rfl, rfl, SqT.of hp0, atI_nat (j := 2) rfl, _, rfl, p0, _, _, _, rfl, rfl, SqT.of hp0, atI_nat (j := 3) rfl, _, rfl, p0, _, _, _, rfl, rfl, SqT.of hp0, atI_nat (j := 4) rfl, line_ge (by show 5 ≤ 16777216; decide), fun p hp => ?_⟩
    · rw [e40, tx_len, tx_len]
      exact line_ge (by simp; omega)
    · rw [e40, e41, tx_app, tx_len, tx_len]
      exact line_ge (by simp; omega)
    have s8 := Same.upd (o := .tup [.str (tx (40 :: (tw ++ [41]))), .int 4, .str (tx (txtM t)), .int ((strP t - 1 : Nat) : Int), sh]) hp
    rw [e40, e41, tx_app, tx_app]
    exact q _ ⟨t, 40 :: (tw ++ [41]), 4⟩ _ s8 ⟨G.par hG, ov, p, _, rfl, upd_same, hsh.kp (Same.kp s8)⟩ rfl (by simp)
theorem sc__law_step : FnScope ["_law_pile", "_law_cell", "_law_sign", "_law_more", "_law_other", "_law_one"] ["_law_pile", "_law_cell", "_law_sign", "_law_more"] (defScope s__law_step) := ⟨rfl, rfl, rfl, by decide +kernel, rfl, by decide +kernel, by decide +kernel⟩
set_option maxHeartbeats 4000000 in
theorem ok__law_step {f : Addr} {fd : FuncData} (F : Fun K "_law_step" "_law_step" s__law_step f fd) (T : Txt K mg) (d__law_pair : Df P w K mg base "_law_pair" 2 ["_law_kind", "_law_one", "_law_other"] sp_pair32) (d__law_lone : Df P w K mg base "_law_lone" 2 ["_law_kind", "_law_one"] sp_lone32) (d__law_leaf : Df P w K mg base "_law_leaf" 1 ["_law_kind", "_law_sign"] sp_leaf32) (d__law_held : Df P w K mg base "_law_held" 1 ["_law_one"] sp_held32) : FnOk P w K mg base CX0 3 f fd ["_law_pile", "_law_cell", "_law_sign", "_law_more"] sp_step32 := by
  refine F.ok sc__law_step (fun vs H Q E h => ?_) (fun cdv A outer s H vs Q E hr h => ?_)
  · obtain ⟨L, p, xs, its, z, ch, z2, rfl, _⟩ := h
    rfl
  · obtain ⟨L, p, xs, its, z, ch, z2, rfl, hx, hP, hch, bl, bw, bz, q⟩ := h
    have hr1 := hr.mono (j := 1) (by decide)
    refine ⟨_, (pss_cut ((ps_if ((pw_and (pt_cmpR op_gt (pe_op op_m (pv 1) pe_int) pe_int (nomark _)) (pw_and1 (pt_cmpR op_gt (pe_callB call_len_seq (by rfl) T.len PySem.boot_len (pa_cons (pv 0) pa_nil)) pe_int (nomark _)))).pt) ((pss_cons ((ps_set (i := 4) sc__law_step.nd rfl (Or.inl rfl) ((pe_bm0 PySem.F.plainAttrs_list PySem.F.slot_list_pop PySem.F.type_list_pop mt_pop (pv 0))))) (pss_one ((ps_set (i := 5) sc__law_step.nd rfl (Or.inl rfl) ((pe_df d__law_pair hr (pa_cons (pe_op op_m (pe_op op_f (pv 1) pe_int) pe_int) (pa_cons ((pe_bm0 PySem.F.plainAttrs_list PySem.F.slot_list_pop PySem.F.type_list_pop mt_pop (pv 0))) (pa_cons (pv 4) pa_nil)))))))))) ((pss_one ((ps_if ((pw_and (pt_cmpR op_gt (pe_op op_m (pv 1) pe_int) pe_int (nomark _)) (pw_and1 (pt_cmpR op_gt (pe_callB call_len_seq (by rfl) T.len PySem.boot_len (pa_cons (pv 0) pa_nil)) pe_int (nomark _)))).pt) ((pss_one ((ps_set (i := 5) sc__law_step.nd rfl (Or.inl rfl) ((pe_df d__law_lone hr (pa_cons (pe_op op_m (pe_op op_f (pv 1) pe_int) pe_int) (pa_cons ((pe_bm0 PySem.F.plainAttrs_list PySem.F.slot_list_pop PySem.F.type_list_pop mt_pop (pv 0))) pa_nil)))))))) ((pss_cons (ps_expr (pe_bm PySem.F.plainAttrs_list PySem.F.slot_list_append PySem.F.type_list_append mt_append (pv 0) (pa_cons ((pe_df d__law_leaf hr1 (pa_cons (pe_op op_m (pe_op op_f (pv 1) pe_int) pe_int) (pa_cons (pv 2) pa_nil)))) pa_nil))) (pss_one (ps_retN)))))))))) (pss_cut ((ps_if (pt_cmpR op_gt (pe_op op_m (pv 3) pe_int) pe_int (nomark _)) ((pss_one ((ps_set (i := 5) sc__law_step.nd rfl (Or.inl rfl) ((pe_df d__law_held hr1 (pa_cons (pv 5) pa_nil))))))) (pss_nil))) (pss_one (ps_expr (pe_bm PySem.F.plainAttrs_list PySem.F.slot_list_append PySem.F.type_list_append mt_append (pv 0) (pa_cons (pv 5) pa_nil)))))), ?_⟩
    have hlx := hP.len
    refine ⟨fun σ H' => ∃ (v : V) (x : Tt) (xs1 : List V) (its1 : List Tt) (s4 : Option V), σ = [some (.ref p), some (.int z), some (.str (tx [ch])), some (.int z2), s4, some v] ∧ (∀ b o, H b = some o → b ≠ p → H' b = some o) ∧ H' p = some (.lst xs1) ∧ PileG (PentAt L H') xs1 its1 ∧ PentAt L H' x v ∧ xs1.length + 1 ≤ xs.length ∧ wsum its1 + x.tw.length ≤ wsum its + 5 ∧ zsumT its1 + x.t.sz ≤ zsumT its + 1 ∧ dsumT its1 + x.t.dep ≤ dsumT its + 1, ?_, ?_⟩
    · have two : ∀ A B : Prop, A → B → A ∧ B := fun _ _ a b => ⟨a, b⟩
      have leaf : ∀ z' : Int, 0 ≤ z' → z' < 5 → sp_leaf32 [.int z', .str (tx [ch])] H (fun v' H' => ∃ l xs' y, V.ref p = V.ref l ∧ [v'] = [y] ∧ H' l = some (.lst xs') ∧ xs'.length < sizeLine ∧ Q .non (upd H' l (.lst (xs' ++ [y])))) E0 := fun z' h0 h5 => by
        refine ⟨L, z', ch, rfl, hch, h0, h5, fun v' x' H2 s2 hpr hd hz hw => ⟨p, xs, v', rfl, rfl, s2 _ _ hx, small1000 (by omega), ?_⟩⟩
        have k2 := Kp.lst (o := .lst (xs ++ [v'])) (s2 _ _ hx)
        refine q (xs ++ [v']) (its ++ [x']) _ (fun b o e hb => by rw [upd_ne hb]; exact s2 _ _ e) upd_same (PileG.snoc (hpr.kp k2) (hP.imp fun _ _ h => h.kp ((Same.kp s2).trans k2))) (by simp) (by simp) ?_ ?_ ?_
        · rw [wsum_snoc]; omega
        · rw [zsumT_snoc]; omega
        · rw [dsumT_snoc]; omega
      have last : ∀ D : Prop, D → D := fun _ d => d
      refine ⟨_, rfl, _, _, rfl, rfl, by decide, _, _, rfl, rfl, _, rfl, ite3 (fun _ => ⟨_, rfl, p, _, rfl, .inl (SqL.of hx), _, _, rfl, rfl, _, rfl, ite3 (fun h1 => ?_) (fun h1 => ?_)⟩) (fun _ => iteF ?_)⟩
      · obtain ⟨ys, v1, us, t1, rfl, rfl, hP1, hv1⟩ := hP.last (by omega)
        have h2' : 0 < ys.length := by
          rw [List.length_append] at h1
          simp at h1
          omega
        obtain ⟨zs, v2, ws, t2, rfl, rfl, hP2, hv2⟩ := hP1.last h2'
        refine ⟨_, rfl, .inl ⟨rfl, _, SqL.of hx⟩, p, _, _, rfl, rfl, hx, last_at, ?_⟩
        rw [List.dropLast_concat]
        refine ⟨_, rfl, _, _, rfl, rfl, ⟨by decide, by decide⟩, _, _, rfl, rfl, by decide, _, rfl, .inl ⟨rfl, _, SqL.of upd_same⟩, p, _, _, rfl, rfl, upd_same, last_at, ?_⟩
        rw [List.dropLast_concat, upd_upd]
        have k1 := Kp.lst (o := .lst zs) hx
        have hzl : zs.length + 2 = ((zs ++ [v2]) ++ [v1]).length := by simp
        have w1 : wsum ws + t2.tw.length + t1.tw.length = wsum ((ws ++ [t2]) ++ [t1]) := by rw [wsum_snoc, wsum_snoc]
        have w2 : zsumT ws + t2.t.sz + t1.t.sz = zsumT ((ws ++ [t2]) ++ [t1]) := by rw [zsumT_snoc, zsumT_snoc]
        have w3 : dsumT ws + t2.t.dep + t1.t.dep = dsumT ((ws ++ [t2]) ++ [t1]) := by rw [dsumT_snoc, dsumT_snoc]
        have d1 := t1.t.dep_pos
        have d2 := t2.t.dep_pos
        refine ⟨_, rfl, L, _, v2, t2, v1, t1, rfl, hv2.kp k1, hv1.kp k1, by omega, by omega, by omega, by omega, by omega, by omega, fun v' x' H2 s2 hpr hd hz hw => ?_⟩
        exact ⟨v', x', zs, ws, _, rfl, fun b o e hb => s2 _ _ (by rw [upd_ne hb]; exact e), s2 _ _ upd_same, hP2.imp fun _ _ h => h.kp (k1.trans (Same.kp s2)), hpr, by omega, by omega, by omega, by omega⟩
      all_goals
        refine ⟨_, rfl, _, _, rfl, rfl, by decide, _, _, rfl, rfl, _, rfl, ite3 (fun _ => ⟨_, rfl, p, _, rfl, .inl (SqL.of hx), _, _, rfl, rfl, _, rfl, ite3 (fun h1 => ?_) (fun h1 => ⟨_, rfl, .inl ⟨rfl, _, SqL.of hx⟩, _, rfl, _, _, rfl, rfl, ⟨by decide, by decide⟩, _, _, rfl, rfl, by decide, _, rfl, leaf _ (by omega) (by omega)⟩)⟩) (fun _ => iteF ⟨_, rfl, .inl ⟨rfl, _, SqL.of hx⟩, _, rfl, _, _, rfl, rfl, ⟨by decide, by decide⟩, _, _, rfl, rfl, by decide, _, rfl, leaf _ (by omega) (by omega)⟩)⟩
        obtain ⟨ys, v1, us, t1, rfl, rfl, hP1, hv1⟩ := hP.last (by omega)
        have k1 := Kp.lst (o := .lst ys) hx
        refine ⟨_, rfl, _, _, rfl, rfl, ⟨by decide, by decide⟩, _, _, rfl, rfl, by decide, _, rfl, .inl ⟨rfl, _, SqL.of hx⟩, p, _, _, rfl, rfl, hx, last_at, ?_⟩
        rw [List.dropLast_concat]
        have hyl : ys.length + 1 = (ys ++ [v1]).length := by simp
        have w1 : wsum us + t1.tw.length = wsum (us ++ [t1]) := by rw [wsum_snoc]
        have w2 : zsumT us + t1.t.sz = zsumT (us ++ [t1]) := by rw [zsumT_snoc]
        have w3 : dsumT us + t1.t.dep = dsumT (us ++ [t1]) := by rw [dsumT_snoc]
        refine ⟨L, _, v1, t1, rfl, hv1.kp k1, by omega, by omega, by omega, by omega, fun v' x' H2 s2 hpr hd hz hw => ?_⟩
        exact ⟨v', x', ys, us, _, rfl, fun b o e hb => s2 _ _ (by rw [upd_ne hb]; exact e), s2 _ _ upd_same, hP1.imp fun _ _ h => h.kp (k1.trans (Same.kp s2)), hpr, by omega, by omega, by omega, by omega⟩
    rintro σ1 H1 ⟨v, x, xs1, its1, s4, rfl, kb, hx1, hP1, hv, b1, b2, b3, b4⟩
    have hlx1 := hP1.len
    refine ⟨fun σ H' => ∃ (v : V) (x : Tt), σ = [some (.ref p), some (.int z), some (.str (tx [ch])), some (.int z2), s4, some v] ∧ Same H1 H' ∧ PentAt L H' x v ∧ wsum its1 + x.tw.length ≤ wsum its + 7 ∧ zsumT its1 + x.t.sz ≤ zsumT its + 1 ∧ dsumT its1 + x.t.dep ≤ dsumT its + 1, ?_, ?_⟩
    · refine ⟨_, rfl, _, _, rfl, rfl, by decide, _, _, rfl, rfl, _, rfl, ite3 (fun _ => ?_) (fun _ => ⟨v, x, rfl, Same.refl _, hv, by omega, b3, b4⟩)⟩
      refine ⟨_, rfl, L, v, x, rfl, hv, by omega, fun v' x' H2 s2 hpr e1 e2 => ⟨v', x', rfl, s2, hpr, by omega, by rw [e1]; omega, by rw [e1]; omega⟩⟩
    rintro σ2 H2 ⟨v', x', rfl, s2, hv', c1, c2, c3⟩
    refine ⟨_, rfl, .inl ⟨rfl, _, SqL.of (s2 _ _ hx1)⟩, _, rfl, p, _, _, rfl, rfl, s2 _ _ hx1, small1000 (by omega), ?_⟩
    have k2 := Kp.lst (o := .lst (xs1 ++ [v'])) (s2 _ _ hx1)
    refine q (xs1 ++ [v']) (its1 ++ [x']) _ (fun b o e hb => by rw [upd_ne hb]; exact s2 _ _ (kb b o e hb)) upd_same (PileG.snoc (hv'.kp k2) (hP1.imp fun _ _ h => h.kp ((Same.kp s2).trans k2))) (by simp) (by simp; omega) ?_ ?_ ?_
    · rw [wsum_snoc]; omega
    · rw [zsumT_snoc]; omega
    · rw [dsumT_snoc]; omega
theorem sc__law_told : FnScope ["_law_script", "_law_letters_here", "_law_many", "_law_needless", "_law_pile", "_law_k", "_law_sign", "_law_more", "_law_other"] ["_law_script", "_law_letters_here"] (defScope s__law_told) := ⟨rfl, rfl, rfl, by decide +kernel, rfl, by decide +kernel, by decide +kernel⟩
set_option maxHeartbeats 4000000 in
theorem ok__law_told {f : Addr} {fd : FuncData} (F : Fun K "_law_told" "_law_told" s__law_told f fd) (T : Txt K mg) (d__law_cell_at : Df P w K mg base "_law_cell_at" 1 ["_law_script", "_law_k"] (sp_cell K)) (d__law_step : Df P w K mg base "_law_step" 3 ["_law_pile", "_law_cell", "_law_sign", "_law_more"] sp_step32) (d__law_held : Df P w K mg base "_law_held" 1 ["_law_one"] sp_held32) (d__law_pair : Df P w K mg base "_law_pair" 2 ["_law_kind", "_law_one", "_law_other"] sp_pair32) : FnOk P w K mg base CX0 4 f fd ["_law_script", "_law_letters_here"] (sp_told32 K) := by
  refine F.ok sc__law_told (fun vs H Q E h => ?_) (fun cdv A outer s H vs Q E hr h => ?_)
  · obtain ⟨L, a, ns, rfl, _⟩ := h
    rfl
  · obtain ⟨L, a, ns, rfl, hL, hS, q⟩ := h
    have hr1 := hr.mono (j := 1) (by decide)
    have hr2 := hr.mono (j := 2) (by decide)
    refine ⟨_, (pss_cons ((ps_set (i := 2) sc__law_told.nd rfl (Or.inl rfl) (pe_op op_a pe_int (pe_op op_m (pe_df d__law_cell_at hr1 (pa_cons (pv 0) (pa_cons (pe_int) pa_nil))) pe_int)))) (pss_cons ((ps_set (i := 3) sc__law_told.nd rfl (Or.inl rfl) (pe_cmpR op_eq (pe_op op_m (pe_df d__law_cell_at hr1 (pa_cons (pv 0) (pa_cons (pe_int) pa_nil))) pe_int) pe_int (nomark _)))) (pss_cut ((ps_if (pt_val (pv 3)) ((pss_one ((ps_set (i := 2) sc__law_told.nd rfl (Or.inl rfl) ((pe_callB (call_min2 rfl) (by rfl) T.min PyProof.Rows.boot_min (pa_cons (pv 2) (pa_cons (pe_int) pa_nil)))))))) (pss_nil))) (pss_cons ((ps_set (i := 4) sc__law_told.nd rfl (Or.inl rfl) (pe_lst pa_nil))) (pss_cut ((ps_for PassesOwn.never rfl (pi_range1 rfl T.range (pa_cons (pv 2) pa_nil)) (pg_name (i := 5) sc__law_told.nd rfl (Or.inl rfl)) ((pss_cons ((ps_set (i := 6) sc__law_told.nd rfl (Or.inl rfl) (pe_ix ix_str (pv 1) (pe_op op_m (pe_df d__law_cell_at hr1 (pa_cons (pv 0) (pa_cons (pe_op op_a pe_int (pv 5)) pa_nil))) (pe_callB call_len_str (by rfl) T.len PySem.boot_len (pa_cons (pv 1) pa_nil))) (fun _ _ => rfl)))) (pss_cons ((ps_set (i := 7) sc__law_told.nd rfl (Or.inl rfl) ((pe_df d__law_cell_at hr1 (pa_cons (pv 0) (pa_cons (pe_op op_a pe_int (pv 5)) pa_nil)))))) (pss_cons (ps_expr (pe_df d__law_step hr (pa_cons (pv 4) (pa_cons ((pe_df d__law_cell_at hr1 (pa_cons (pv 0) (pa_cons (pe_op op_a pe_int (pv 5)) pa_nil)))) (pa_cons (pv 6) (pa_cons (pv 7) pa_nil)))))) (pss_one ((ps_if ((pw_and (pt_val (pv 3)) (pw_and1 (pt_cmpR op_eq (pe_op op_m (pe_op op_f (pv 7) pe_int) pe_int) pe_int (nomark _)))).pt) ((pss_one (ps_expr (pe_bm PySem.F.plainAttrs_list PySem.F.slot_list_append PySem.F.type_list_append mt_append (pv 4) (pa_cons ((pe_df d__law_held hr1 (pa_cons ((pe_bm0 PySem.F.plainAttrs_list PySem.F.slot_list_pop PySem.F.type_list_pop mt_pop (pv 4))) pa_nil))) pa_nil))))) (pss_nil)))))))))) (pss_cons (ps_while PassesOwn.never (pt_cmpR op_gt (pe_callB call_len_seq (by rfl) T.len PySem.boot_len (pa_cons (pv 4) pa_nil)) pe_int (nomark _)) (pss_cons ((ps_set (i := 8) sc__law_told.nd rfl (Or.inl rfl) ((pe_bm0 PySem.F.plainAttrs_list PySem.F.slot_list_pop PySem.F.type_list_pop mt_pop (pv 4))))) (pss_one (ps_expr (pe_bm PySem.F.plainAttrs_list PySem.F.slot_list_append PySem.F.type_list_append mt_append (pv 4) (pa_cons ((pe_df d__law_pair hr2 (pa_cons (pe_int) (pa_cons ((pe_bm0 PySem.F.plainAttrs_list PySem.F.slot_list_pop PySem.F.type_list_pop mt_pop (pv 4))) (pa_cons (pv 8) pa_nil))))) pa_nil)))))) (pss_one (ps_ret (pe_ix ix_list (pv 4) pe_int (fun _ _ => rfl)))))))))), ?_⟩
    have hz0 : (tx L).length ≤ sizeLine := line_ge (by rw [tx_len]; have := hL.hi; omega)
    have hlp : (0 : Int) < ((tx L).length : Int) := by rw [tx_len]; have := hL.lo; omega
    refine ⟨_, rfl, a, ns, 1, rfl, hS, by decide, fun z1 => ⟨_, _, rfl, rfl, by decide, _, _, rfl, rfl, ?_⟩⟩
    refine ⟨_, rfl, a, ns, 2, rfl, hS, by decide, fun z2 => ⟨_, _, rfl, rfl, by decide, rfl, ?_⟩⟩
    refine ⟨fun σ H' => ∃ (many : Int) (nd : Bool), σ = [some (.ref a), some (.str (tx L)), some (.int many), some (.bl nd), none, none, none, none, none] ∧ H' = H ∧ 1 ≤ many ∧ many ≤ 20, ?_, ?_⟩
    · refine ⟨_, rfl, _, rfl, ite3 (fun _ => ?_) (fun _ => ⟨_, _, rfl, rfl, by omega, by omega⟩)⟩
      refine ⟨_, rfl, _, _, rfl, ⟨_, _, rfl, rfl, ?_, ?_⟩⟩
      · split <;> omega
      · split <;> omega
    rintro σ1 H0 ⟨many, nd, rfl, rfl, hm1, hm2⟩
    refine ⟨Nat.zero_le _, fun p hp => ?_⟩
    refine ⟨fun σ H' => ∃ (xs : List V) (its : List Tt) (s5 s6 s7 : Option V), σ = [some (.ref a), some (.str (tx L)), some (.int many), some (.bl nd), some (.ref p), s5, s6, s7, none] ∧ Same H0 H' ∧ H' p = some (.lst xs) ∧ PileG (PentAt L H') xs its ∧ 1 ≤ xs.length ∧ xs.length ≤ 20 ∧ wsum its ≤ 180 ∧ zsumT its ≤ 20 ∧ dsumT its ≤ 20, ?_, ?_⟩
    · refine ⟨_, rfl, _, rfl, by omega, by omega, for_range (n := many.toNat) (fun i σ H' => ∃ (xs : List V) (its : List Tt) (s5 s6 s7 : Option V), σ = [some (.ref a), some (.str (tx L)), some (.int many), some (.bl nd), some (.ref p), s5, s6, s7, none] ∧ Same H0 H' ∧ H' p = some (.lst xs) ∧ PileG (PentAt L H') xs its ∧ (0 < i → 1 ≤ xs.length) ∧ xs.length ≤ i ∧ wsum its ≤ 9 * i ∧ zsumT its ≤ i ∧ dsumT its ≤ i) ⟨[], [], none, none, none, rfl, Same.upd hp, upd_same, trivial, fun h => absurd h (Nat.lt_irrefl 0), Nat.le_refl _, Nat.le_refl _, Nat.le_refl _, Nat.le_refl _⟩ ?_ ?_⟩
      · rintro i σ H1 hi ⟨xs, its, s5, s6, s7, rfl, sm, hx, hP, g1, g2, g3, g4, g5⟩
        have hS1 := sm.seq hS
        refine ⟨_, rfl, _, rfl, _, rfl, _, _, rfl, rfl, a, ns, _, rfl, hS1, by omega, fun y1 => ?_⟩
        have hb0 := Int.emod_nonneg y1 (show ((tx L).length : Int) ≠ 0 by omega)
        have hb1 := Int.emod_lt_of_pos y1 hlp
        obtain ⟨ch, hv, hv2⟩ := atI_in (xs := (tx L).cps.toList) hb0 (by rw [tx_cps, ← tx_len]; exact hb1)
        rw [tx_cps] at hv2
        have hvL : ch ∈ L := List.mem_of_getElem? hv2
        refine ⟨_, rfl, _, rfl, hz0, _, _, rfl, rfl, hlp, _, _, _, rfl, rfl, hz0, hv, ?_⟩
        refine ⟨_, rfl, _, rfl, _, _, rfl, rfl, a, ns, _, rfl, hS1, by omega, fun y2 => ?_⟩
        refine ⟨_, rfl, _, rfl, _, rfl, _, _, rfl, rfl, a, ns, _, rfl, hS1, by omega, fun y3 => ⟨_, rfl, _, rfl, L, p, xs, its, y3, ch, y2, rfl, hx, hP, hvL, by omega, by omega, by omega, fun xs' its' H2 kb hx' hP' f1 f2 f3 f4 f5 => ?_⟩⟩
        have sm2 : Same H0 H2 := fun b o e => kb b o (sm b o e) (ne_of_none e hp)
        have hlx' := hP'.len
        have done : ∃ (xs : List V) (its : List Tt) (t5 t6 t7 : Option V), ([some (.ref a), some (.str (tx L)), some (.int many), some (.bl nd), some (.ref p), some (V.int (0 + (i : Int))), some (.str ⟨#[ch]⟩), some (.int y2), none] : St) = [some (.ref a), some (.str (tx L)), some (.int many), some (.bl nd), some (.ref p), t5, t6, t7, none] ∧ Same H0 H2 ∧ H2 p = some (.lst xs) ∧ PileG (PentAt L H2) xs its ∧ (0 < i + 1 → 1 ≤ xs.length) ∧ xs.length ≤ i + 1 ∧ wsum its ≤ 9 * (i + 1) ∧ zsumT its ≤ i + 1 ∧ dsumT its ≤ i + 1 := ⟨xs', its', _, _, _, rfl, sm2, hx', hP', fun _ => f1, by omega, by omega, by omega, by omega⟩
        refine ⟨_, rfl, _, rfl, ?_⟩
        cases nd with
        | false => exact iteF (iteF done)
        | true =>
          refine iteT ⟨_, rfl, _, _, rfl, rfl, ⟨by decide, by decide⟩, _, _, rfl, rfl, by decide, rfl, _, rfl, ite3 (fun _ => ?_) (fun _ => done)⟩
          obtain ⟨ys, v1, us, t1, rfl, rfl, hP1, hv1⟩ := hP'.last (by omega)
          have k1 := Kp.lst (o := .lst ys) hx'
          refine ⟨_, rfl, .inl ⟨rfl, _, SqL.of hx'⟩, _, rfl, .inl ⟨rfl, _, SqL.of hx'⟩, p, _, _, rfl, rfl, hx', last_at, ?_⟩
          rw [List.dropLast_concat]
          have hyl : ys.length + 1 = (ys ++ [v1]).length := by simp
          have w1 : wsum us + t1.tw.length = wsum (us ++ [t1]) := by rw [wsum_snoc]
          have w2 : zsumT us + t1.t.sz = zsumT (us ++ [t1]) := by rw [zsumT_snoc]
          have w3 : dsumT us + t1.t.dep = dsumT (us ++ [t1]) := by rw [dsumT_snoc]
          refine ⟨L, v1, t1, rfl, hv1.kp k1, by omega, fun v' x' H3 s3 hpr e1 e2 => ?_⟩
          have k2 := Kp.lst (o := .lst (ys ++ [v'])) (s3 _ _ upd_same)
          refine ⟨p, ys, v', rfl, rfl, s3 _ _ upd_same, small1000 (by omega), ys ++ [v'], us ++ [x'], _, _, _, rfl, Same.set ((Same.set sm2 hp).trans s3) hp, upd_same, PileG.snoc (hpr.kp k2) (hP1.imp fun _ _ h => h.kp (k1.trans ((Same.kp s3).trans k2))), fun _ => by simp, by simp; omega, ?_, ?_, ?_⟩
          · rw [wsum_snoc]; omega
          · rw [zsumT_snoc, e1]; omega
          · rw [dsumT_snoc, e1]; omega
      · rintro σ H1 ⟨xs, its, s5, s6, s7, rfl, sm, hx, hP, g1, g2, g3, g4, g5⟩
        exact ⟨xs, its, s5, s6, s7, rfl, sm, hx, hP, g1 (by omega), by omega, by omega, by omega, by omega⟩
    rintro σ2 H1 ⟨xs, its, s5, s6, s7, rfl, sm, hx, hP, g1, g2, g3, g4, g5⟩
    refine while_by (fun σ H' => ∃ (xs' : List V) (its' : List Tt) (s8 : Option V), σ = [some (.ref a), some (.str (tx L)), some (.int many), some (.bl nd), some (.ref p), s5, s6, s7, s8] ∧ Same H0 H' ∧ H' p = some (.lst xs') ∧ PileG (PentAt L H') xs' its' ∧ 1 ≤ xs'.length ∧ wsum its' + 5 * xs'.length ≤ 280 ∧ zsumT its' + xs'.length ≤ 40 ∧ dsumT its' ≤ 20)
      (fun σ H' => match H' p with | some (.lst l) => l.length | _ => 0) ⟨xs, its, none, rfl, sm, hx, hP, g1, by omega, by omega, by omega⟩ ?_ ?_
    · rintro σ H2 ⟨xs', its', s8, rfl, sm2, hx', hP', e1, e2, e3, e4⟩
      refine ⟨_, rfl, p, _, rfl, .inl (SqL.of hx'), _, _, rfl, rfl, _, rfl, ite3 (fun hlt => ?_) (fun hlt => ?_)⟩
      · obtain ⟨ys, v1, us, t1, rfl, rfl, hP1, hv1⟩ := hP'.last (by omega)
        have h2' : 0 < ys.length := by
          rw [List.length_append] at hlt
          simp at hlt
          omega
        obtain ⟨zs, v2, ws, t2, rfl, rfl, hP2, hv2⟩ := hP1.last h2'
        refine ⟨_, rfl, .inl ⟨rfl, _, SqL.of hx'⟩, p, _, _, rfl, rfl, hx', last_at, ?_⟩
        rw [List.dropLast_concat]
        refine ⟨_, rfl, .inl ⟨rfl, _, SqL.of upd_same⟩, _, rfl, .inl ⟨rfl, _, SqL.of upd_same⟩, p, _, _, rfl, rfl, upd_same, last_at, ?_⟩
        rw [List.dropLast_concat, upd_upd]
        have k1 := Kp.lst (o := .lst zs) hx'
        have hzl : zs.length + 2 = ((zs ++ [v2]) ++ [v1]).length := by simp
        have w1 : wsum ws + t2.tw.length + t1.tw.length = wsum ((ws ++ [t2]) ++ [t1]) := by rw [wsum_snoc, wsum_snoc]
        have w2 : zsumT ws + t2.t.sz + t1.t.sz = zsumT ((ws ++ [t2]) ++ [t1]) := by rw [zsumT_snoc, zsumT_snoc]
        have w3 : dsumT ws + t2.t.dep + t1.t.dep = dsumT ((ws ++ [t2]) ++ [t1]) := by rw [dsumT_snoc, dsumT_snoc]
        have d1 := t1.t.dep_pos
        have d2 := t2.t.dep_pos
        refine ⟨_, rfl, L, 3, v2, t2, v1, t1, rfl, hv2.kp k1, hv1.kp k1, by decide, by decide, by omega, by omega, by omega, by omega, fun v' x' H3 s3 hpr hd hz hw => ?_⟩
        have k2 := Kp.lst (o := .lst (zs ++ [v'])) (s3 _ _ upd_same)
        refine ⟨p, zs, v', rfl, rfl, s3 _ _ upd_same, small1000 (by omega), ⟨zs ++ [v'], ws ++ [x'], _, rfl, Same.set ((Same.set sm2 hp).trans s3) hp, upd_same, PileG.snoc (hpr.kp k2) (hP2.imp fun _ _ h => h.kp (k1.trans ((Same.kp s3).trans k2))), by simp, ?_, ?_, ?_⟩, ?_⟩
        · rw [wsum_snoc, List.length_append, List.length_singleton]; omega
        · rw [zsumT_snoc, List.length_append, List.length_singleton]; omega
        · rw [dsumT_snoc]; omega
        · rw [upd_same, hx']
          show (zs ++ [v']).length < ((zs ++ [v2]) ++ [v1]).length
          simp
      · have hl1 : xs'.length = 1 := by omega
        match xs', its', hP', hl1 with
        | [v], [x], hP', _ =>
          have q1 : wsum [x] = x.tw.length + 0 := rfl
          have q2 : zsumT [x] = x.t.sz + 0 := rfl
          have q3 : dsumT [x] = x.t.dep + 0 := rfl
          have q4 : [v].length = 1 := rfl
          exact ⟨_, rfl, p, _, _, _, rfl, rfl, SqL.of hx', atI_nat (j := 0) rfl, q v x H2 sm2 hP'.1 (by omega) (by omega) (by omega)⟩
        | [v], [], hP', _ => exact hP'.elim
        | [v], _ :: _ :: _, hP', _ => exact hP'.2.elim
    · rintro σ H2 Q1 Q2 hQ ⟨v, e, p', l, e1, e2, i, j, e3, e4, b, e5, q1⟩
      exact ⟨v, e, p', l, e1, e2, i, j, e3, e4, b, e5, hQ _ _ q1⟩
theorem sc__law_same : FnScope ["_law_found", "_law_due", "_law_k"] ["_law_found", "_law_due"] (defScope s__law_same) := ⟨rfl, rfl, rfl, by decide +kernel, rfl, by decide +kernel, by decide +kernel⟩
set_option maxHeartbeats 4000000 in
theorem ok__law_same {f : Addr} {fd : FuncData} (F : Fun K "_law_same" "_law_same" s__law_same f fd) (T : Txt K mg) (hm : mg "_law_same" = some (.ref f)) (hbi : Binds K fd ["_law_found", "_law_due"] []) : FnOk P w K mg base CX0 64 f fd ["_law_found", "_law_due"] (sp_same 63) := by
  have step : ∀ (d : Nat) (sp' : Sp), Df P w K mg base "_law_same" d ["_law_found", "_law_due"] sp' → (∀ d' x y H Q E, d = d' + 1 → Like H d' x y → Q (.bl true) H → sp' [x, y] H Q E) → FnOk P w K mg base CX0 (d + 1) f fd ["_law_found", "_law_due"] (sp_same d) := by
    intro d sp' d__law_same hsp
    refine F.ok sc__law_same (fun vs H Q E h => ?_) (fun cdv A outer s H vs Q E hr h => ?_)
    · obtain ⟨x, y, rfl, _⟩ := h
      rfl
    · obtain ⟨x, y, rfl, hlike, q⟩ := h
      refine ⟨_, (pss_cons ((ps_if ((pw_or (pt_val (pe_callB (call_isG (T := "tuple")) (by rfl) T.isinst PyProof.Rows.boot_isinstance (pa_cons (pv 1) (pa_cons (pe_bltn (v := .ty "tuple") (by rfl) T.tuple PyProof.Rows.boot_tuple rfl) pa_nil)))) (pw_or1 (pt_val (pe_callB (call_isG (T := "list")) (by rfl) T.isinst PyProof.Rows.boot_isinstance (pa_cons (pv 1) (pa_cons (pe_bltn (v := .ty "list") (by rfl) T.list PyProof.Rows.boot_list rfl) pa_nil)))))).pt) ((pss_cons ((ps_if ((pw_or (pt_cmpR op_ne (pe_callB (call_isG (T := "tuple")) (by rfl) T.isinst PyProof.Rows.boot_isinstance (pa_cons (pv 0) (pa_cons (pe_bltn (v := .ty "tuple") (by rfl) T.tuple PyProof.Rows.boot_tuple rfl) pa_nil))) (pe_callB (call_isG (T := "tuple")) (by rfl) T.isinst PyProof.Rows.boot_isinstance (pa_cons (pv 1) (pa_cons (pe_bltn (v := .ty "tuple") (by rfl) T.tuple PyProof.Rows.boot_tuple rfl) pa_nil))) (nomark _)) (pw_or1 (pt_cmpR op_ne (pe_callB (call_isG (T := "list")) (by rfl) T.isinst PyProof.Rows.boot_isinstance (pa_cons (pv 0) (pa_cons (pe_bltn (v := .ty "list") (by rfl) T.list PyProof.Rows.boot_list rfl) pa_nil))) (pe_callB (call_isG (T := "list")) (by rfl) T.isinst PyProof.Rows.boot_isinstance (pa_cons (pv 1) (pa_cons (pe_bltn (v := .ty "list") (by rfl) T.list PyProof.Rows.boot_list rfl) pa_nil))) (nomark _)))).pt) ((pss_one (ps_ret pe_bl))) (pss_nil))) (pss_cons ((ps_if (pt_cmpR op_ne (pe_callB call_len_seq (by rfl) T.len PySem.boot_len (pa_cons (pv 0) pa_nil)) (pe_callB call_len_seq (by rfl) T.len PySem.boot_len (pa_cons (pv 1) pa_nil)) (nomark _)) ((pss_one (ps_ret pe_bl))) (pss_nil))) (pss_cons ((ps_for PassesOwn.never rfl (pi_range1 rfl T.range (pa_cons (pe_callB call_len_seq (by rfl) T.len PySem.boot_len (pa_cons (pv 1) pa_nil)) pa_nil)) (pg_name (i := 2) sc__law_same.nd rfl (Or.inl rfl)) ((pss_one ((ps_if (pt_not (pt_val (pe_df d__law_same hr (pa_cons (pe_ix ix_seq (pv 0) (pv 2) (fun _ _ => rfl)) (pa_cons (pe_ix ix_seq (pv 1) (pv 2) (fun _ _ => rfl)) pa_nil))))) ((pss_one (ps_ret pe_bl))) (pss_nil))))))) (pss_one (ps_ret pe_bl)))))) (pss_nil))) (pss_cons ((ps_if (pt_val (pe_callB (call_isG (T := "bool")) (by rfl) T.isinst PyProof.Rows.boot_isinstance (pa_cons (pv 1) (pa_cons (pe_bltn (v := .ty "bool") (by rfl) T.bool PyProof.Rows.boot_bool rfl) pa_nil)))) ((pss_one (ps_ret (pe_and (pe_callB (call_isG (T := "bool")) (by rfl) T.isinst PyProof.Rows.boot_isinstance (pa_cons (pv 0) (pa_cons (pe_bltn (v := .ty "bool") (by rfl) T.bool PyProof.Rows.boot_bool rfl) pa_nil))) (pe_one (pe_cmpR op_eq (pv 0) (pv 1) (nomark _))))))) (pss_nil))) (pss_cons ((ps_if (pt_val (pe_callB (call_isG (T := "int")) (by rfl) T.isinst PyProof.Rows.boot_isinstance (pa_cons (pv 1) (pa_cons (pe_bltn (v := .ty "int") (by rfl) T.int PyProof.Rows.boot_int rfl) pa_nil)))) ((pss_one (ps_ret (pe_and (pe_callB (call_isG (T := "int")) (by rfl) T.isinst PyProof.Rows.boot_isinstance (pa_cons (pv 0) (pa_cons (pe_bltn (v := .ty "int") (by rfl) T.int PyProof.Rows.boot_int rfl) pa_nil))) (pe_and (pe_not (pe_callB (call_isG (T := "bool")) (by rfl) T.isinst PyProof.Rows.boot_isinstance (pa_cons (pv 0) (pa_cons (pe_bltn (v := .ty "bool") (by rfl) T.bool PyProof.Rows.boot_bool rfl) pa_nil)))) (pe_one (pe_cmpR op_eq (pv 0) (pv 1) (nomark _)))))))) (pss_nil))) (pss_cons ((ps_if (pt_val (pe_callB (call_isG (T := "str")) (by rfl) T.isinst PyProof.Rows.boot_isinstance (pa_cons (pv 1) (pa_cons (pe_bltn (v := .ty "str") (by rfl) T.str PyProof.Rows.boot_str rfl) pa_nil)))) ((pss_one (ps_ret (pe_and (pe_callB (call_isG (T := "str")) (by rfl) T.isinst PyProof.Rows.boot_isinstance (pa_cons (pv 0) (pa_cons (pe_bltn (v := .ty "str") (by rfl) T.str PyProof.Rows.boot_str rfl) pa_nil))) (pe_one (pe_cmpR op_eq (pv 0) (pv 1) (nomark _))))))) (pss_nil))) (pss_one (ps_never)))))), ?_⟩
      have hcase : (x = y ∧ flat3 x = true) ∨ ∃ d' p q xs ys, d = d' + 1 ∧ x = .ref p ∧ y = .ref q ∧ ((H p = some (.tup xs) ∧ H q = some (.tup ys)) ∨ (H p = some (.lst xs) ∧ H q = some (.lst ys))) ∧ xs.length = ys.length ∧ xs.length ≤ 1000 ∧ ∀ (i : Nat) (x y : V), xs[i]? = some x → ys[i]? = some y → Like H d' x y := by
        cases d with
        | zero => exact .inl hlike
        | succ d' => exact hlike.elim .inl fun ⟨p, q, xs, ys, h⟩ => .inr ⟨d', p, q, xs, ys, rfl, h⟩
      rcases hcase with ⟨rfl, hf⟩ | ⟨d', p, p2, xs, ys, hd, rfl, rfl, hpq, hlen, h1000, hall⟩
      · cases x with
        | bl b =>
          refine ⟨_, rfl, _, _, _, rfl, TyOf.bl _, kit_bt K, _, rfl, iteF ⟨_, rfl, _, _, _, rfl, TyOf.bl _, kit_bl K, _, rfl, iteF ?_⟩⟩
          refine ⟨_, rfl, _, _, _, rfl, TyOf.bl _, kit_bb K, _, rfl, iteT ⟨_, rfl, _, _, _, rfl, TyOf.bl _, kit_bb K, _, rfl, iteT ⟨_, rfl, _, rfl, rfl, ?_⟩⟩⟩
          show Q (.bl (decide (V.bl b = V.bl b))) H
          rw [decide_eq_true rfl]
          exact q
        | int b =>
          refine ⟨_, rfl, _, _, _, rfl, TyOf.int _, kit_it K, _, rfl, iteF ⟨_, rfl, _, _, _, rfl, TyOf.int _, kit_il K, _, rfl, iteF ?_⟩⟩
          refine ⟨_, rfl, _, _, _, rfl, TyOf.int _, kit_ib K, _, rfl, iteF ?_⟩
          refine ⟨_, rfl, _, _, _, rfl, TyOf.int _, kit_ii K, _, rfl, iteT ⟨_, rfl, _, _, _, rfl, TyOf.int _, kit_ii K, _, rfl, iteT ⟨_, rfl, _, _, _, rfl, TyOf.int _, kit_ib K, _, rfl, _, rfl, iteT ⟨_, rfl, _, rfl, rfl, ?_⟩⟩⟩⟩
          show Q (.bl (decide (V.int b = V.int b))) H
          rw [decide_eq_true rfl]
          exact q
        | str b =>
          refine ⟨_, rfl, _, _, _, rfl, TyOf.str _, kit_st K, _, rfl, iteF ⟨_, rfl, _, _, _, rfl, TyOf.str _, kit_sl K, _, rfl, iteF ?_⟩⟩
          refine ⟨_, rfl, _, _, _, rfl, TyOf.str _, kit_sb K, _, rfl, iteF ?_⟩
          refine ⟨_, rfl, _, _, _, rfl, TyOf.str _, kit_si K, _, rfl, iteF ?_⟩
          refine ⟨_, rfl, _, _, _, rfl, TyOf.str _, kit_ss K, _, rfl, iteT ⟨_, rfl, _, _, _, rfl, TyOf.str _, kit_ss K, _, rfl, iteT ⟨_, rfl, _, rfl, rfl, ?_⟩⟩⟩
          show Q (.bl (decide (V.str b = V.str b))) H
          rw [decide_eq_true rfl]
          exact q
        | _ => exact absurd (show false = true from hf) Bool.false_ne_true
      · have hseq1 : SqL K H p xs ∨ SqT K H p xs := hpq.elim (fun z => .inr (SqT.of z.1)) (fun z => .inl (SqL.of z.1))
        have hseq2 : SqL K H p2 ys ∨ SqT K H p2 ys := hpq.elim (fun z => .inr (SqT.of z.2)) (fun z => .inl (SqL.of z.2))
        rcases hpq with ⟨hp, hq⟩ | ⟨hp, hq⟩
        · refine ⟨_, rfl, _, _, _, rfl, TyOf.tup hq, (kit_any K).1, _, rfl, iteT (iteT ?_)⟩
          refine ⟨_, rfl, _, _, _, rfl, TyOf.tup hp, (kit_any K).1, _, rfl, _, _, _, rfl, TyOf.tup hq, (kit_any K).1, rfl, _, rfl, iteNS rfl ⟨_, rfl, _, _, _, rfl, TyOf.tup hp, kit_tl K, _, rfl, _, _, _, rfl, TyOf.tup hq, kit_tl K, rfl, _, rfl, iteNS rfl ?_⟩⟩
          refine ⟨_, rfl, p, xs, rfl, hseq1, _, rfl, p2, ys, rfl, hseq2, rfl, _, rfl, iteNS (by rw [hlen]) ?_⟩
          refine ⟨_, rfl, p2, ys, rfl, hseq2, _, rfl, by omega, by omega, ?_⟩
          refine for_range (n := ys.length) (fun i σ H' => ∃ s0, σ = [some (.ref p), some (.ref p2), s0] ∧ H' = H) ⟨none, rfl, rfl⟩ ?_ ?_
          · rintro i σ H1 hi ⟨s0, rfl, rfl⟩
            have hx := List.getElem?_eq_getElem (l := xs) (i := i) (by omega)
            have hy := List.getElem?_eq_getElem (l := ys) (i := i) (by omega)
            have hat1 : atI xs (0 + (i : Int)) = some xs[i] := by rw [Int.zero_add]; exact atI_nat hx
            have hat2 : atI ys (0 + (i : Int)) = some ys[i] := by rw [Int.zero_add]; exact atI_nat hy
            exact ⟨_, rfl, _, rfl, .inr (.inl ⟨p, xs, _, _, rfl, rfl, SqT.of hp, hat1, _, rfl, _, rfl, .inr (.inl ⟨p2, ys, _, _, rfl, rfl, SqT.of hq, hat2, hsp d' _ _ _ _ _ hd (hall i _ _ hx hy) ⟨_, rfl, iteF ⟨_, rfl, rfl⟩⟩⟩)⟩)⟩
          · rintro σ H1 ⟨s0, rfl, rfl⟩
            exact q
        · refine ⟨_, rfl, _, _, _, rfl, TyOf.lst hq, kit_lt K, _, rfl, iteF ⟨_, rfl, _, _, _, rfl, TyOf.lst hq, (kit_any K).2.1, _, rfl, iteT ?_⟩⟩
          refine ⟨_, rfl, _, _, _, rfl, TyOf.lst hp, kit_lt K, _, rfl, _, _, _, rfl, TyOf.lst hq, kit_lt K, rfl, _, rfl, iteNS rfl ⟨_, rfl, _, _, _, rfl, TyOf.lst hp, (kit_any K).2.1, _, rfl, _, _, _, rfl, TyOf.lst hq, (kit_any K).2.1, rfl, _, rfl, iteNS rfl ?_⟩⟩
          refine ⟨_, rfl, p, xs, rfl, hseq1, _, rfl, p2, ys, rfl, hseq2, rfl, _, rfl, iteNS (by rw [hlen]) ?_⟩
          refine ⟨_, rfl, p2, ys, rfl, hseq2, _, rfl, by omega, by omega, ?_⟩
          refine for_range (n := ys.length) (fun i σ H' => ∃ s0, σ = [some (.ref p), some (.ref p2), s0] ∧ H' = H) ⟨none, rfl, rfl⟩ ?_ ?_
          · rintro i σ H1 hi ⟨s0, rfl, rfl⟩
            have hx := List.getElem?_eq_getElem (l := xs) (i := i) (by omega)
            have hy := List.getElem?_eq_getElem (l := ys) (i := i) (by omega)
            have hat1 : atI xs (0 + (i : Int)) = some xs[i] := by rw [Int.zero_add]; exact atI_nat hx
            have hat2 : atI ys (0 + (i : Int)) = some ys[i] := by rw [Int.zero_add]; exact atI_nat hy
            exact ⟨_, rfl, _, rfl, .inl ⟨p, xs, _, _, rfl, rfl, SqL.of hp, hat1, _, rfl, _, rfl, .inl ⟨p2, ys, _, _, rfl, rfl, SqL.of hq, hat2, hsp d' _ _ _ _ _ hd (hall i _ _ hx hy) ⟨_, rfl, iteF ⟨_, rfl, rfl⟩⟩⟩⟩⟩
          · rintro σ H1 ⟨s0, rfl, rfl⟩
            exact q
  have all : ∀ d : Nat, FnOk P w K mg base CX0 (d + 1) f fd ["_law_found", "_law_due"] (sp_same d) := by
    intro d
    induction d with
    | zero => exact step 0 (fun _ _ _ _ => False) ⟨f, fd, hm, F.kp, hbi, ⟨fun _ _ _ _ h => h.elim, fun _ _ _ _ _ _ _ _ _ _ _ _ _ h => h.elim⟩⟩ (fun d' _ _ _ _ _ h => by cases h)
    | succ d ih => exact step (d + 1) (sp_same d) ⟨f, fd, hm, F.kp, hbi, ih⟩ (fun d' x y H Q E h hl q => by cases h; exact ⟨x, y, rfl, hl, q⟩)
  exact all 63
theorem sc_law : FnScope ["_law_script", "_law_letters_here", "_law_told_here", "_law_k", "_law_found", "_law_text"] ["_law_script"] (defScope s_law) := ⟨rfl, rfl, rfl, by decide +kernel, rfl, by decide +kernel, by decide +kernel⟩
set_option maxHeartbeats 4000000 in
theorem ok_law {f : Addr} {fd : FuncData} (F : Fun K "law" "law" s_law f fd) (T : Txt K mg) (PK : PatKit P w K mg base c cP) (TK : TxKit P w K mg base c) (d__law_cell_at : Df P w K mg base "_law_cell_at" 1 ["_law_script", "_law_k"] (sp_cell K)) (d__law_letters : Df P w K mg base "_law_letters" 1 ["_law_cell"] sp_letters) (d__law_told : Df P w K mg base "_law_told" 4 ["_law_script", "_law_letters_here"] (sp_told32 K)) (d__law_same : Df P w K mg base "_law_same" 64 ["_law_found", "_law_due"] (sp_same 63)) (d_read : Df P w K mg base "read" 7 ["letters", "text"] (sp_read c)) : FnOk P w K mg base CX0 128 f fd ["_law_script"] (spLaw K) := by
  refine F.ok sc_law (fun vs H Q E h => ?_) (fun cdv A outer s H vs Q E hr h => ?_)
  · obtain ⟨a, ns, rfl, _⟩ := h
    rfl
  · obtain ⟨a, ns, rfl, hS, hlen, k⟩ := h
    obtain ⟨fs, fds, mS, bS, SH⟩ := PK.sh
    obtain ⟨fT, fdT, mT, bT, XT⟩ := TK.tx
    have hr1 := hr.mono (j := 1) (by decide)
    have hr4 := hr.mono (j := 4) (by decide)
    have hr7 := hr.mono (j := 7) (by decide)
    have hr63 := hr.mono (j := 63) (by decide)
    have hr64 := hr.mono (j := 64) (by decide)
    have hr127 : Room (2 * 63 + 1) _ := hr.mono (j := 127) (by decide)
    refine ⟨_, (pss_cons ((ps_set (i := 1) sc_law.nd rfl (Or.inl rfl) ((pe_df d__law_letters hr1 (pa_cons ((pe_df d__law_cell_at hr1 (pa_cons (pv 0) (pa_cons (pe_int) pa_nil)))) pa_nil))))) (pss_cons ((ps_set (i := 2) sc_law.nd rfl (Or.inl rfl) ((pe_df d__law_told hr4 (pa_cons (pv 0) (pa_cons (pv 1) pa_nil)))))) (pss_cons ((ps_for PassesOwn.never rfl (pi_range1 rfl T.range (pa_cons pe_int pa_nil)) (pg_name (i := 3) sc_law.nd rfl (Or.inl rfl)) ((pss_cons ((ps_set (i := 4) sc_law.nd rfl (Or.inl rfl) ((pe_df d_read hr7 (pa_cons (pv 1) (pa_cons (pe_ix ix_tup (pv 2) pe_int (fun _ _ => rfl)) pa_nil)))))) (pss_cons ((ps_if ((pw_or (pt_not (pt_val (pe_callB (call_isO (D := cP)) (by rfl) T.isinst PyProof.Rows.boot_isinstance (pa_cons (pv 4) (pa_cons (pe_glob (v := .ref cP) (by rfl) PK.kP rfl) pa_nil))))) (pw_or1 (pt_not (pt_val (pe_df d__law_same hr64 (pa_cons ((pe_methP (pv 4) (fun k => (PK.pc k).cl) mS (SH 63) hr63 bS pass0)) (pa_cons (pe_ix ix_tup (pv 2) pe_int (fun _ _ => rfl)) pa_nil))))))).pt) ((pss_one (ps_ret pe_bl))) (pss_nil))) (pss_cons ((ps_set (i := 5) sc_law.nd rfl (Or.inl rfl) ((pe_methP (ι := Kd) (C := c) (f := fun _ => fT) (fd := fun _ => fdT) (sp := fun _ => spText c 63) (pv 4) (fun k => (PK.pc k).cl) mT (fun _ => XT 63) hr127 (fun _ => bT) pass0)))) (pss_one ((ps_if ((pw_or (pt_not (pt_val (pe_callB (call_isG (T := "str")) (by rfl) T.isinst PyProof.Rows.boot_isinstance (pa_cons (pv 5) (pa_cons (pe_bltn (v := .ty "str") (by rfl) T.str PyProof.Rows.boot_str rfl) pa_nil))))) (pw_or1 (pt_cmpR op_ne (pv 5) (pe_ix ix_tup (pv 2) pe_int (fun _ _ => rfl)) (nomark _)))).pt) ((pss_one (ps_ret pe_bl))) (pss_nil)))))))))) (pss_one (ps_ret pe_bl))))), ?_⟩
    refine ⟨_, rfl, a, ns, 0, rfl, hS, by decide, fun z0 => ⟨z0, rfl, fun L hL => ?_⟩⟩
    refine ⟨_, rfl, _, rfl, L, a, ns, rfl, hL, hS, fun v x H1 s1 hv hw hz hd => ?_⟩
    obtain ⟨hG, ov, p0, sh, rfl, hp0, hsh⟩ := hv
    obtain ⟨t, tw, l⟩ := x
    have hd : t.dep ≤ 63 := hd
    have hz : t.sz ≤ 900 := hz
    have hw : tw.length ≤ 290 := hw
    have hG : G L l t tw := hG
    have hP5 : ∀ {H' : Hp}, Same H1 H' → SqT K H' p0 [.str (tx tw), .int (l : Int), .str (tx (txtM t)), .int ((strP t - 1 : Nat) : Int), sh] := fun s => SqT.of (s _ _ hp0)
    have hsh1 : ShAt H1 t sh := hsh
    refine ⟨2, rfl, by decide, by decide, for_range (n := 2) (fun i σ H' => ∃ s3 s4 s5, σ = [some (.ref a), some (.str (tx L)), some (.ref p0), s3, s4, s5] ∧ Same H1 H') ⟨none, none, none, rfl, Same.refl _⟩ ?_ ?_⟩
    · rintro i σ H2 hi ⟨s3, s4, s5, rfl, sm⟩
      refine ⟨_, rfl, _, rfl, p0, _, _, _, rfl, rfl, hP5 sm, atI_nat (j := 0) rfl, L, tw, t, l, rfl, hL, hL.az, hG, by omega, fun u H3 s3' hu => ?_⟩
      obtain ⟨au, dxu, fsu, rfl, hau, hlu⟩ := hu.ins
      refine ⟨_, rfl, _, _, _, rfl, TyOf.ins hau (PK.pc t.kd).cl (PK.pc t.kd).ha (PK.pc t.kd).hn (PK.pc t.kd).htk (PK.pc t.kd).hm, (PK.pc t.kd).ki, _, rfl, iteF ?_⟩
      refine ⟨_, rfl, t.kd, au, dxu, fsu, rfl, hau, hlu, au, t, rfl, hu, rfl, hd, fun v8 H8 s8 hv8 => ?_⟩
      have sm8 := sm.trans (s3'.trans s8)
      refine ⟨_, rfl, p0, _, _, _, rfl, rfl, hP5 sm8, atI_nat (j := 4) rfl, _, _, rfl, like_mono (like_sh hv8 (hsh1.kp (Same.kp sm8))) hd, _, rfl, iteF ?_⟩
      have hu8 := hu.kp (Same.kp s8)
      obtain ⟨au', dx9, fs9, e9, hau9, hlu9⟩ := hu8.ins' "text" (by decide +kernel)
      cases e9
      refine ⟨_, rfl, t.kd, au, dx9, fs9, rfl, hau9, hlu9, au, t, rfl, hu8, hd, by omega, fun H9 s9 => ?_⟩
      refine ⟨_, rfl, _, _, _, rfl, TyOf.str _, kit_ss K, _, rfl, iteF ?_⟩
      refine ⟨_, rfl, _, rfl, p0, _, _, _, rfl, rfl, hP5 (sm8.trans s9), atI_nat (j := 2) rfl, rfl, _, rfl, iteNS rfl ?_⟩
      exact ⟨_, _, _, rfl, sm8.trans s9⟩
    · rintro σ H2 ⟨s3, s4, s5, rfl, sm⟩
      exact k _
end
theorem all_mk {l : PySem.W.OpenLaw} {w : World} {K : PySem.W.Frag} {h : Heap} {mg : Str → Option Value} {fa : Addr} (X : K.In h) (G : h.Ns mainGlobals mg) (hfa : mg "law" = some (.ref fa))
    {f0 : Addr} {od0 an0 : Option Addr} {sl0 : Array (Option Value)} {oc0 kV0 dc0 pm0 cd0 ct0 : Value}
    {f1 : Addr} {od1 an1 : Option Addr} {sl1 : Array (Option Value)} {oc1 kV1 dc1 pm1 cd1 ct1 : Value}
    {f2 : Addr} {od2 an2 : Option Addr} {sl2 : Array (Option Value)} {oc2 kV2 dc2 pm2 cd2 ct2 : Value}
    {f3 : Addr} {od3 an3 : Option Addr} {sl3 : Array (Option Value)} {oc3 kV3 dc3 pm3 cd3 ct3 : Value}
    {f4 : Addr} {od4 an4 : Option Addr} {sl4 : Array (Option Value)} {oc4 kV4 dc4 pm4 cd4 ct4 : Value}
    {f5 : Addr} {od5 an5 : Option Addr} {sl5 : Array (Option Value)} {oc5 kV5 dc5 pm5 cd5 ct5 : Value}
    {f6 : Addr} {od6 an6 : Option Addr} {sl6 : Array (Option Value)} {oc6 kV6 dc6 pm6 cd6 ct6 : Value}
    {f7 : Addr} {od7 an7 : Option Addr} {sl7 : Array (Option Value)} {oc7 kV7 dc7 pm7 cd7 ct7 : Value}
    {f8 : Addr} {od8 an8 : Option Addr} {sl8 : Array (Option Value)} {oc8 kV8 dc8 pm8 cd8 ct8 : Value}
    {f9 : Addr} {od9 an9 : Option Addr} {sl9 : Array (Option Value)} {oc9 kV9 dc9 pm9 cd9 ct9 : Value}
    {f10 : Addr} {od10 an10 : Option Addr} {sl10 : Array (Option Value)} {oc10 kV10 dc10 pm10 cd10 ct10 : Value}
    {f11 : Addr} {od11 an11 : Option Addr} {sl11 : Array (Option Value)} {oc11 kV11 dc11 pm11 cd11 ct11 : Value}
    {f12 : Addr} {od12 an12 : Option Addr} {sl12 : Array (Option Value)} {oc12 kV12 dc12 pm12 cd12 ct12 : Value}
    {f13 : Addr} {od13 an13 : Option Addr} {sl13 : Array (Option Value)} {oc13 kV13 dc13 pm13 cd13 ct13 : Value}
    {f14 : Addr} {od14 an14 : Option Addr} {sl14 : Array (Option Value)} {oc14 kV14 dc14 pm14 cd14 ct14 : Value}
    {f15 : Addr} {od15 an15 : Option Addr} {sl15 : Array (Option Value)} {oc15 kV15 dc15 pm15 cd15 ct15 : Value}
    {f16 : Addr} {od16 an16 : Option Addr} {sl16 : Array (Option Value)} {oc16 kV16 dc16 pm16 cd16 ct16 : Value}
    {f17 : Addr} {od17 an17 : Option Addr} {sl17 : Array (Option Value)} {oc17 kV17 dc17 pm17 cd17 ct17 : Value}
    {f18 : Addr} {od18 an18 : Option Addr} {sl18 : Array (Option Value)} {oc18 kV18 dc18 pm18 cd18 ct18 : Value}
    {f19 : Addr} {od19 an19 : Option Addr} {sl19 : Array (Option Value)} {oc19 kV19 dc19 pm19 cd19 ct19 : Value}
    {f20 : Addr} {od20 an20 : Option Addr} {sl20 : Array (Option Value)} {oc20 kV20 dc20 pm20 cd20 ct20 : Value}
    {f21 : Addr} {od21 an21 : Option Addr} {sl21 : Array (Option Value)} {oc21 kV21 dc21 pm21 cd21 ct21 : Value}
    {f22 : Addr} {od22 an22 : Option Addr} {sl22 : Array (Option Value)} {oc22 kV22 dc22 pm22 cd22 ct22 : Value}
    {f23 : Addr} {od23 an23 : Option Addr} {sl23 : Array (Option Value)} {oc23 kV23 dc23 pm23 cd23 ct23 : Value}
    {f24 : Addr} {od24 an24 : Option Addr} {sl24 : Array (Option Value)} {oc24 kV24 dc24 pm24 cd24 ct24 : Value}
    (a0 : PySem.W.nsIn K mainGlobals "is_letters" = some (some (.ref f0))) (l0 : K.lookup f0 = some ⟨oc0, od0, .func (PySem.W.fnOf "is_letters" "is_letters" (defArgs s_is_letters) (defBody s_is_letters) (defScope s_is_letters) .none kV0 dc0 pm0 an0 cd0 ct0), sl0⟩) (c0 : PySem.W.codeIn K cd0 "is_letters" = true) (k0 : PySem.W.keepIn K (.ref f0) = true)
    (a1 : PySem.W.nsIn K mainGlobals "need_letters" = some (some (.ref f1))) (l1 : K.lookup f1 = some ⟨oc1, od1, .func (PySem.W.fnOf "need_letters" "need_letters" (defArgs s_need_letters) (defBody s_need_letters) (defScope s_need_letters) .none kV1 dc1 pm1 an1 cd1 ct1), sl1⟩) (c1 : PySem.W.codeIn K cd1 "need_letters" = true) (k1 : PySem.W.keepIn K (.ref f1) = true)
    (a2 : PySem.W.nsIn K mainGlobals "text_of" = some (some (.ref f2))) (l2 : K.lookup f2 = some ⟨oc2, od2, .func (PySem.W.fnOf "text_of" "text_of" (defArgs s_text_of) (defBody s_text_of) (defScope s_text_of) .none kV2 dc2 pm2 an2 cd2 ct2), sl2⟩) (c2 : PySem.W.codeIn K cd2 "text_of" = true) (k2 : PySem.W.keepIn K (.ref f2) = true)
    (a3 : PySem.W.nsIn K mainGlobals "text_within" = some (some (.ref f3))) (l3 : K.lookup f3 = some ⟨oc3, od3, .func (PySem.W.fnOf "text_within" "text_within" (defArgs s_text_within) (defBody s_text_within) (defScope s_text_within) .none kV3 dc3 pm3 an3 cd3 ct3), sl3⟩) (c3 : PySem.W.codeIn K cd3 "text_within" = true) (k3 : PySem.W.keepIn K (.ref f3) = true)
    (a4 : PySem.W.nsIn K mainGlobals "is_wanting" = some (some (.ref f4))) (l4 : K.lookup f4 = some ⟨oc4, od4, .func (PySem.W.fnOf "is_wanting" "is_wanting" (defArgs s_is_wanting) (defBody s_is_wanting) (defScope s_is_wanting) .none kV4 dc4 pm4 an4 cd4 ct4), sl4⟩) (c4 : PySem.W.codeIn K cd4 "is_wanting" = true) (k4 : PySem.W.keepIn K (.ref f4) = true)
    (a5 : PySem.W.nsIn K mainGlobals "can_stand" = some (some (.ref f5))) (l5 : K.lookup f5 = some ⟨oc5, od5, .func (PySem.W.fnOf "can_stand" "can_stand" (defArgs s_can_stand) (defBody s_can_stand) (defScope s_can_stand) .none kV5 dc5 pm5 an5 cd5 ct5), sl5⟩) (c5 : PySem.W.codeIn K cd5 "can_stand" = true) (k5 : PySem.W.keepIn K (.ref f5) = true)
    (a6 : PySem.W.nsIn K mainGlobals "need_pattern" = some (some (.ref f6))) (l6 : K.lookup f6 = some ⟨oc6, od6, .func (PySem.W.fnOf "need_pattern" "need_pattern" (defArgs s_need_pattern) (defBody s_need_pattern) (defScope s_need_pattern) .none kV6 dc6 pm6 an6 cd6 ct6), sl6⟩) (c6 : PySem.W.codeIn K cd6 "need_pattern" = true) (k6 : PySem.W.keepIn K (.ref f6) = true)
    (a7 : PySem.W.nsIn K mainGlobals "piece_of" = some (some (.ref f7))) (l7 : K.lookup f7 = some ⟨oc7, od7, .func (PySem.W.fnOf "piece_of" "piece_of" (defArgs s_piece_of) (defBody s_piece_of) (defScope s_piece_of) .none kV7 dc7 pm7 an7 cd7 ct7), sl7⟩) (c7 : PySem.W.codeIn K cd7 "piece_of" = true) (k7 : PySem.W.keepIn K (.ref f7) = true)
    (a8 : PySem.W.nsIn K mainGlobals "pair_of" = some (some (.ref f8))) (l8 : K.lookup f8 = some ⟨oc8, od8, .func (PySem.W.fnOf "pair_of" "pair_of" (defArgs s_pair_of) (defBody s_pair_of) (defScope s_pair_of) .none kV8 dc8 pm8 an8 cd8 ct8), sl8⟩) (c8 : PySem.W.codeIn K cd8 "pair_of" = true) (k8 : PySem.W.keepIn K (.ref f8) = true)
    (a9 : PySem.W.nsIn K mainGlobals "settle" = some (some (.ref f9))) (l9 : K.lookup f9 = some ⟨oc9, od9, .func (PySem.W.fnOf "settle" "settle" (defArgs s_settle) (defBody s_settle) (defScope s_settle) .none kV9 dc9 pm9 an9 cd9 ct9), sl9⟩) (c9 : PySem.W.codeIn K cd9 "settle" = true) (k9 : PySem.W.keepIn K (.ref f9) = true)
    (a10 : PySem.W.nsIn K mainGlobals "put" = some (some (.ref f10))) (l10 : K.lookup f10 = some ⟨oc10, od10, .func (PySem.W.fnOf "put" "put" (defArgs s_put) (defBody s_put) (defScope s_put) .none kV10 dc10 pm10 an10 cd10 ct10), sl10⟩) (c10 : PySem.W.codeIn K cd10 "put" = true) (k10 : PySem.W.keepIn K (.ref f10) = true)
    (a11 : PySem.W.nsIn K mainGlobals "tokens_of" = some (some (.ref f11))) (l11 : K.lookup f11 = some ⟨oc11, od11, .func (PySem.W.fnOf "tokens_of" "tokens_of" (defArgs s_tokens_of) (defBody s_tokens_of) (defScope s_tokens_of) .none kV11 dc11 pm11 an11 cd11 ct11), sl11⟩) (c11 : PySem.W.codeIn K cd11 "tokens_of" = true) (k11 : PySem.W.keepIn K (.ref f11) = true)
    (a12 : PySem.W.nsIn K mainGlobals "pattern_of" = some (some (.ref f12))) (l12 : K.lookup f12 = some ⟨oc12, od12, .func (PySem.W.fnOf "pattern_of" "pattern_of" (defArgs s_pattern_of) (defBody s_pattern_of) (defScope s_pattern_of) .none kV12 dc12 pm12 an12 cd12 ct12), sl12⟩) (c12 : PySem.W.codeIn K cd12 "pattern_of" = true) (k12 : PySem.W.keepIn K (.ref f12) = true)
    (a13 : PySem.W.nsIn K mainGlobals "read" = some (some (.ref f13))) (l13 : K.lookup f13 = some ⟨oc13, od13, .func (PySem.W.fnOf "read" "read" (defArgs s_read) (defBody s_read) (defScope s_read) .none kV13 dc13 pm13 an13 cd13 ct13), sl13⟩) (c13 : PySem.W.codeIn K cd13 "read" = true) (k13 : PySem.W.keepIn K (.ref f13) = true)
    (a14 : PySem.W.nsIn K mainGlobals "_law_cell_at" = some (some (.ref f14))) (l14 : K.lookup f14 = some ⟨oc14, od14, .func (PySem.W.fnOf "_law_cell_at" "_law_cell_at" (defArgs s__law_cell_at) (defBody s__law_cell_at) (defScope s__law_cell_at) .none kV14 dc14 pm14 an14 cd14 ct14), sl14⟩) (c14 : PySem.W.codeIn K cd14 "_law_cell_at" = true) (k14 : PySem.W.keepIn K (.ref f14) = true)
    (a15 : PySem.W.nsIn K mainGlobals "_law_letters" = some (some (.ref f15))) (l15 : K.lookup f15 = some ⟨oc15, od15, .func (PySem.W.fnOf "_law_letters" "_law_letters" (defArgs s__law_letters) (defBody s__law_letters) (defScope s__law_letters) .none kV15 dc15 pm15 an15 cd15 ct15), sl15⟩) (c15 : PySem.W.codeIn K cd15 "_law_letters" = true) (k15 : PySem.W.keepIn K (.ref f15) = true)
    (a16 : PySem.W.nsIn K mainGlobals "_law_in" = some (some (.ref f16))) (l16 : K.lookup f16 = some ⟨oc16, od16, .func (PySem.W.fnOf "_law_in" "_law_in" (defArgs s__law_in) (defBody s__law_in) (defScope s__law_in) .none kV16 dc16 pm16 an16 cd16 ct16), sl16⟩) (c16 : PySem.W.codeIn K cd16 "_law_in" = true) (k16 : PySem.W.keepIn K (.ref f16) = true)
    (a17 : PySem.W.nsIn K mainGlobals "_law_leaf" = some (some (.ref f17))) (l17 : K.lookup f17 = some ⟨oc17, od17, .func (PySem.W.fnOf "_law_leaf" "_law_leaf" (defArgs s__law_leaf) (defBody s__law_leaf) (defScope s__law_leaf) .none kV17 dc17 pm17 an17 cd17 ct17), sl17⟩) (c17 : PySem.W.codeIn K cd17 "_law_leaf" = true) (k17 : PySem.W.keepIn K (.ref f17) = true)
    (a18 : PySem.W.nsIn K mainGlobals "_law_lone" = some (some (.ref f18))) (l18 : K.lookup f18 = some ⟨oc18, od18, .func (PySem.W.fnOf "_law_lone" "_law_lone" (defArgs s__law_lone) (defBody s__law_lone) (defScope s__law_lone) .none kV18 dc18 pm18 an18 cd18 ct18), sl18⟩) (c18 : PySem.W.codeIn K cd18 "_law_lone" = true) (k18 : PySem.W.keepIn K (.ref f18) = true)
    (a19 : PySem.W.nsIn K mainGlobals "_law_pair" = some (some (.ref f19))) (l19 : K.lookup f19 = some ⟨oc19, od19, .func (PySem.W.fnOf "_law_pair" "_law_pair" (defArgs s__law_pair) (defBody s__law_pair) (defScope s__law_pair) .none kV19 dc19 pm19 an19 cd19 ct19), sl19⟩) (c19 : PySem.W.codeIn K cd19 "_law_pair" = true) (k19 : PySem.W.keepIn K (.ref f19) = true)
    (a20 : PySem.W.nsIn K mainGlobals "_law_held" = some (some (.ref f20))) (l20 : K.lookup f20 = some ⟨oc20, od20, .func (PySem.W.fnOf "_law_held" "_law_held" (defArgs s__law_held) (defBody s__law_held) (defScope s__law_held) .none kV20 dc20 pm20 an20 cd20 ct20), sl20⟩) (c20 : PySem.W.codeIn K cd20 "_law_held" = true) (k20 : PySem.W.keepIn K (.ref f20) = true)
    (a21 : PySem.W.nsIn K mainGlobals "_law_step" = some (some (.ref f21))) (l21 : K.lookup f21 = some ⟨oc21, od21, .func (PySem.W.fnOf "_law_step" "_law_step" (defArgs s__law_step) (defBody s__law_step) (defScope s__law_step) .none kV21 dc21 pm21 an21 cd21 ct21), sl21⟩) (c21 : PySem.W.codeIn K cd21 "_law_step" = true) (k21 : PySem.W.keepIn K (.ref f21) = true)
    (a22 : PySem.W.nsIn K mainGlobals "_law_told" = some (some (.ref f22))) (l22 : K.lookup f22 = some ⟨oc22, od22, .func (PySem.W.fnOf "_law_told" "_law_told" (defArgs s__law_told) (defBody s__law_told) (defScope s__law_told) .none kV22 dc22 pm22 an22 cd22 ct22), sl22⟩) (c22 : PySem.W.codeIn K cd22 "_law_told" = true) (k22 : PySem.W.keepIn K (.ref f22) = true)
    (a23 : PySem.W.nsIn K mainGlobals "_law_same" = some (some (.ref f23))) (l23 : K.lookup f23 = some ⟨oc23, od23, .func (PySem.W.fnOf "_law_same" "_law_same" (defArgs s__law_same) (defBody s__law_same) (defScope s__law_same) .none kV23 dc23 pm23 an23 cd23 ct23), sl23⟩) (c23 : PySem.W.codeIn K cd23 "_law_same" = true) (k23 : PySem.W.keepIn K (.ref f23) = true)
    (a24 : PySem.W.nsIn K mainGlobals "law" = some (some (.ref f24))) (l24 : K.lookup f24 = some ⟨oc24, od24, .func (PySem.W.fnOf "law" "law" (defArgs s_law) (defBody s_law) (defScope s_law) .none kV24 dc24 pm24 an24 cd24 ct24), sl24⟩) (c24 : PySem.W.codeIn K cd24 "law" = true) (k24 : PySem.W.keepIn K (.ref f24) = true)
    (z_len : PySem.W.nsIn K mainGlobals "len" = some none)
    (z_range : PySem.W.nsIn K mainGlobals "range" = some none)
    (z_isinst : PySem.W.nsIn K mainGlobals "isinstance" = some none)
    (z_int : PySem.W.nsIn K mainGlobals "int" = some none)
    (z_bool : PySem.W.nsIn K mainGlobals "bool" = some none)
    (z_tuple : PySem.W.nsIn K mainGlobals "tuple" = some none)
    (z_list : PySem.W.nsIn K mainGlobals "list" = some none)
    (z_str : PySem.W.nsIn K mainGlobals "str" = some none)
    (z_enum : PySem.W.nsIn K mainGlobals "enumerate" = some none)
    (z_min : PySem.W.nsIn K mainGlobals "min" = some none)
    {c_Pattern : Addr} {c_Never fh_Never : Addr} {od_Never an_Never : Option Addr} {sl_Never_ : Array (Option Value)} {oc_Never kV_Never dc_Never pm_Never cd_Never ct_Never : Value} {c_Empty fh_Empty : Addr} {od_Empty an_Empty : Option Addr} {sl_Empty_ : Array (Option Value)} {oc_Empty kV_Empty dc_Empty pm_Empty cd_Empty ct_Empty : Value} {c_AnySign fh_AnySign : Addr} {od_AnySign an_AnySign : Option Addr} {sl_AnySign_ : Array (Option Value)} {oc_AnySign kV_AnySign dc_AnySign pm_AnySign cd_AnySign ct_AnySign : Value} {c_Sign fh_Sign : Addr} {od_Sign an_Sign : Option Addr} {sl_Sign_ : Array (Option Value)} {oc_Sign kV_Sign dc_Sign pm_Sign cd_Sign ct_Sign : Value} {c_Outside fh_Outside : Addr} {od_Outside an_Outside : Option Addr} {sl_Outside_ : Array (Option Value)} {oc_Outside kV_Outside dc_Outside pm_Outside cd_Outside ct_Outside : Value} {c_Turned fh_Turned : Addr} {od_Turned an_Turned : Option Addr} {sl_Turned_ : Array (Option Value)} {oc_Turned kV_Turned dc_Turned pm_Turned cd_Turned ct_Turned : Value} {c_Again fh_Again : Addr} {od_Again an_Again : Option Addr} {sl_Again_ : Array (Option Value)} {oc_Again kV_Again dc_Again pm_Again cd_Again ct_Again : Value} {c_Either fh_Either : Addr} {od_Either an_Either : Option Addr} {sl_Either_ : Array (Option Value)} {oc_Either kV_Either dc_Either pm_Either cd_Either ct_Either : Value} {c_Less fh_Less : Addr} {od_Less an_Less : Option Addr} {sl_Less_ : Array (Option Value)} {oc_Less kV_Less dc_Less pm_Less cd_Less ct_Less : Value} {c_Both fh_Both : Addr} {od_Both an_Both : Option Addr} {sl_Both_ : Array (Option Value)} {oc_Both kV_Both dc_Both pm_Both cd_Both ct_Both : Value} {c_Then fh_Then : Addr} {od_Then an_Then : Option Addr} {sl_Then_ : Array (Option Value)} {oc_Then kV_Then dc_Then pm_Then cd_Then ct_Then : Value} {fi_Sign : Addr} {iod_Sign ian_Sign : Option Addr} {isl_Sign : Array (Option Value)} {ioc_Sign ikV_Sign idc_Sign ipm_Sign icd_Sign ict_Sign : Value} {fi_Around : Addr} {iod_Around ian_Around : Option Addr} {isl_Around : Array (Option Value)} {ioc_Around ikV_Around idc_Around ipm_Around icd_Around ict_Around : Value} {fi_Pair : Addr} {iod_Pair ian_Pair : Option Addr} {isl_Pair : Array (Option Value)} {ioc_Pair ikV_Pair idc_Pair ipm_Pair icd_Pair ict_Pair : Value}
    (n_Pattern : PySem.W.nsIn K mainGlobals "Pattern" = some (some (.ref c_Pattern)))
    (hn : PySem.W.specialIn K (.builtin "object.__class__") "__get__" = some (some (.builtin "getset_descriptor.__get__")))
    (htk : PySem.W.takesIn K (.builtin "object.__class__") = some true)
    (n_Never : PySem.W.nsIn K mainGlobals "Never" = some (some (.ref c_Never)))
    (pg_Never : PySem.W.plainGet K c_Never Str.empty = true)
    (hd_Never : PySem.W.hasDictIn K c_Never = true)
    (po_Never : PySem.W.plainOver K c_Never = true)
    (sa_Never : PySem.W.findIn K (.ref c_Never) "__setattr__" = some (some (.builtin "object.__setattr__")))
    (ha_Never : PySem.W.findIn K (.ref c_Never) "__class__" = some (some (.builtin "object.__class__")))
    (hm_Never : PySem.W.mroIn K c_Never (.type "object") = some true)
    (ki_Never : PySem.W.kitOne K (.ref c_Never) (.ref c_Pattern) = some true)
    (at_Never_sign : PySem.W.findIn K (.ref c_Never) "sign" = some none)
    (at_Never_left : PySem.W.findIn K (.ref c_Never) "left" = some none)
    (at_Never_right : PySem.W.findIn K (.ref c_Never) "right" = some none)
    (at_Never_inner : PySem.W.findIn K (.ref c_Never) "inner" = some none)
    (mk_Never : PySem.W.makesIn K c_Never = true)
    (kc_Never : PySem.W.keepIn K (.ref c_Never) = true)
    (in_Never : PySem.W.findIn K (.ref c_Never) "__init__" = some (some (.builtin "object.__init__")))
    (sh_Never : PySem.W.findIn K (.ref c_Never) "shape" = some (some (.ref fh_Never)))
    (sf_Never : PySem.W.isFn K (.ref fh_Never) = true)
    (sl_Never : K.lookup fh_Never = some ⟨oc_Never, od_Never, .func (PySem.W.fnOf "shape" "Never.shape" (defArgs h_Never) (defBody h_Never) (defScope h_Never) .none kV_Never dc_Never pm_Never an_Never cd_Never ct_Never), sl_Never_⟩)
    (sc_Never : PySem.W.codeIn K cd_Never "Never.shape" = true)
    (sk_Never : PySem.W.keepIn K (.ref fh_Never) = true)
    (n_Empty : PySem.W.nsIn K mainGlobals "Empty" = some (some (.ref c_Empty)))
    (pg_Empty : PySem.W.plainGet K c_Empty Str.empty = true)
    (hd_Empty : PySem.W.hasDictIn K c_Empty = true)
    (po_Empty : PySem.W.plainOver K c_Empty = true)
    (sa_Empty : PySem.W.findIn K (.ref c_Empty) "__setattr__" = some (some (.builtin "object.__setattr__")))
    (ha_Empty : PySem.W.findIn K (.ref c_Empty) "__class__" = some (some (.builtin "object.__class__")))
    (hm_Empty : PySem.W.mroIn K c_Empty (.type "object") = some true)
    (ki_Empty : PySem.W.kitOne K (.ref c_Empty) (.ref c_Pattern) = some true)
    (at_Empty_sign : PySem.W.findIn K (.ref c_Empty) "sign" = some none)
    (at_Empty_left : PySem.W.findIn K (.ref c_Empty) "left" = some none)
    (at_Empty_right : PySem.W.findIn K (.ref c_Empty) "right" = some none)
    (at_Empty_inner : PySem.W.findIn K (.ref c_Empty) "inner" = some none)
    (mk_Empty : PySem.W.makesIn K c_Empty = true)
    (kc_Empty : PySem.W.keepIn K (.ref c_Empty) = true)
    (in_Empty : PySem.W.findIn K (.ref c_Empty) "__init__" = some (some (.builtin "object.__init__")))
    (sh_Empty : PySem.W.findIn K (.ref c_Empty) "shape" = some (some (.ref fh_Empty)))
    (sf_Empty : PySem.W.isFn K (.ref fh_Empty) = true)
    (sl_Empty : K.lookup fh_Empty = some ⟨oc_Empty, od_Empty, .func (PySem.W.fnOf "shape" "Empty.shape" (defArgs h_Empty) (defBody h_Empty) (defScope h_Empty) .none kV_Empty dc_Empty pm_Empty an_Empty cd_Empty ct_Empty), sl_Empty_⟩)
    (sc_Empty : PySem.W.codeIn K cd_Empty "Empty.shape" = true)
    (sk_Empty : PySem.W.keepIn K (.ref fh_Empty) = true)
    (n_AnySign : PySem.W.nsIn K mainGlobals "AnySign" = some (some (.ref c_AnySign)))
    (pg_AnySign : PySem.W.plainGet K c_AnySign Str.empty = true)
    (hd_AnySign : PySem.W.hasDictIn K c_AnySign = true)
    (po_AnySign : PySem.W.plainOver K c_AnySign = true)
    (sa_AnySign : PySem.W.findIn K (.ref c_AnySign) "__setattr__" = some (some (.builtin "object.__setattr__")))
    (ha_AnySign : PySem.W.findIn K (.ref c_AnySign) "__class__" = some (some (.builtin "object.__class__")))
    (hm_AnySign : PySem.W.mroIn K c_AnySign (.type "object") = some true)
    (ki_AnySign : PySem.W.kitOne K (.ref c_AnySign) (.ref c_Pattern) = some true)
    (at_AnySign_sign : PySem.W.findIn K (.ref c_AnySign) "sign" = some none)
    (at_AnySign_left : PySem.W.findIn K (.ref c_AnySign) "left" = some none)
    (at_AnySign_right : PySem.W.findIn K (.ref c_AnySign) "right" = some none)
    (at_AnySign_inner : PySem.W.findIn K (.ref c_AnySign) "inner" = some none)
    (mk_AnySign : PySem.W.makesIn K c_AnySign = true)
    (kc_AnySign : PySem.W.keepIn K (.ref c_AnySign) = true)
    (in_AnySign : PySem.W.findIn K (.ref c_AnySign) "__init__" = some (some (.builtin "object.__init__")))
    (sh_AnySign : PySem.W.findIn K (.ref c_AnySign) "shape" = some (some (.ref fh_AnySign)))
    (sf_AnySign : PySem.W.isFn K (.ref fh_AnySign) = true)
    (sl_AnySign : K.lookup fh_AnySign = some ⟨oc_AnySign, od_AnySign, .func (PySem.W.fnOf "shape" "AnySign.shape" (defArgs h_AnySign) (defBody h_AnySign) (defScope h_AnySign) .none kV_AnySign dc_AnySign pm_AnySign an_AnySign cd_AnySign ct_AnySign), sl_AnySign_⟩)
    (sc_AnySign : PySem.W.codeIn K cd_AnySign "AnySign.shape" = true)
    (sk_AnySign : PySem.W.keepIn K (.ref fh_AnySign) = true)
    (n_Sign : PySem.W.nsIn K mainGlobals "Sign" = some (some (.ref c_Sign)))
    (pg_Sign : PySem.W.plainGet K c_Sign Str.empty = true)
    (hd_Sign : PySem.W.hasDictIn K c_Sign = true)
    (po_Sign : PySem.W.plainOver K c_Sign = true)
    (sa_Sign : PySem.W.findIn K (.ref c_Sign) "__setattr__" = some (some (.builtin "object.__setattr__")))
    (ha_Sign : PySem.W.findIn K (.ref c_Sign) "__class__" = some (some (.builtin "object.__class__")))
    (hm_Sign : PySem.W.mroIn K c_Sign (.type "object") = some true)
    (ki_Sign : PySem.W.kitOne K (.ref c_Sign) (.ref c_Pattern) = some true)
    (at_Sign_sign : PySem.W.findIn K (.ref c_Sign) "sign" = some none)
    (at_Sign_left : PySem.W.findIn K (.ref c_Sign) "left" = some none)
    (at_Sign_right : PySem.W.findIn K (.ref c_Sign) "right" = some none)
    (at_Sign_inner : PySem.W.findIn K (.ref c_Sign) "inner" = some none)
    (mk_Sign : PySem.W.makesIn K c_Sign = true)
    (kc_Sign : PySem.W.keepIn K (.ref c_Sign) = true)
    (in_Sign : PySem.W.findIn K (.ref c_Sign) "__init__" = some (some (.ref fi_Sign)))
    (sh_Sign : PySem.W.findIn K (.ref c_Sign) "shape" = some (some (.ref fh_Sign)))
    (sf_Sign : PySem.W.isFn K (.ref fh_Sign) = true)
    (sl_Sign : K.lookup fh_Sign = some ⟨oc_Sign, od_Sign, .func (PySem.W.fnOf "shape" "Sign.shape" (defArgs h_Sign) (defBody h_Sign) (defScope h_Sign) .none kV_Sign dc_Sign pm_Sign an_Sign cd_Sign ct_Sign), sl_Sign_⟩)
    (sc_Sign : PySem.W.codeIn K cd_Sign "Sign.shape" = true)
    (sk_Sign : PySem.W.keepIn K (.ref fh_Sign) = true)
    (n_Outside : PySem.W.nsIn K mainGlobals "Outside" = some (some (.ref c_Outside)))
    (pg_Outside : PySem.W.plainGet K c_Outside Str.empty = true)
    (hd_Outside : PySem.W.hasDictIn K c_Outside = true)
    (po_Outside : PySem.W.plainOver K c_Outside = true)
    (sa_Outside : PySem.W.findIn K (.ref c_Outside) "__setattr__" = some (some (.builtin "object.__setattr__")))
    (ha_Outside : PySem.W.findIn K (.ref c_Outside) "__class__" = some (some (.builtin "object.__class__")))
    (hm_Outside : PySem.W.mroIn K c_Outside (.type "object") = some true)
    (ki_Outside : PySem.W.kitOne K (.ref c_Outside) (.ref c_Pattern) = some true)
    (at_Outside_sign : PySem.W.findIn K (.ref c_Outside) "sign" = some none)
    (at_Outside_left : PySem.W.findIn K (.ref c_Outside) "left" = some none)
    (at_Outside_right : PySem.W.findIn K (.ref c_Outside) "right" = some none)
    (at_Outside_inner : PySem.W.findIn K (.ref c_Outside) "inner" = some none)
    (mk_Outside : PySem.W.makesIn K c_Outside = true)
    (kc_Outside : PySem.W.keepIn K (.ref c_Outside) = true)
    (in_Outside : PySem.W.findIn K (.ref c_Outside) "__init__" = some (some (.ref fi_Around)))
    (sh_Outside : PySem.W.findIn K (.ref c_Outside) "shape" = some (some (.ref fh_Outside)))
    (sf_Outside : PySem.W.isFn K (.ref fh_Outside) = true)
    (sl_Outside : K.lookup fh_Outside = some ⟨oc_Outside, od_Outside, .func (PySem.W.fnOf "shape" "Outside.shape" (defArgs h_Outside) (defBody h_Outside) (defScope h_Outside) .none kV_Outside dc_Outside pm_Outside an_Outside cd_Outside ct_Outside), sl_Outside_⟩)
    (sc_Outside : PySem.W.codeIn K cd_Outside "Outside.shape" = true)
    (sk_Outside : PySem.W.keepIn K (.ref fh_Outside) = true)
    (n_Turned : PySem.W.nsIn K mainGlobals "Turned" = some (some (.ref c_Turned)))
    (pg_Turned : PySem.W.plainGet K c_Turned Str.empty = true)
    (hd_Turned : PySem.W.hasDictIn K c_Turned = true)
    (po_Turned : PySem.W.plainOver K c_Turned = true)
    (sa_Turned : PySem.W.findIn K (.ref c_Turned) "__setattr__" = some (some (.builtin "object.__setattr__")))
    (ha_Turned : PySem.W.findIn K (.ref c_Turned) "__class__" = some (some (.builtin "object.__class__")))
    (hm_Turned : PySem.W.mroIn K c_Turned (.type "object") = some true)
    (ki_Turned : PySem.W.kitOne K (.ref c_Turned) (.ref c_Pattern) = some true)
    (at_Turned_sign : PySem.W.findIn K (.ref c_Turned) "sign" = some none)
    (at_Turned_left : PySem.W.findIn K (.ref c_Turned) "left" = some none)
    (at_Turned_right : PySem.W.findIn K (.ref c_Turned) "right" = some none)
    (at_Turned_inner : PySem.W.findIn K (.ref c_Turned) "inner" = some none)
    (mk_Turned : PySem.W.makesIn K c_Turned = true)
    (kc_Turned : PySem.W.keepIn K (.ref c_Turned) = true)
    (in_Turned : PySem.W.findIn K (.ref c_Turned) "__init__" = some (some (.ref fi_Around)))
    (sh_Turned : PySem.W.findIn K (.ref c_Turned) "shape" = some (some (.ref fh_Turned)))
    (sf_Turned : PySem.W.isFn K (.ref fh_Turned) = true)
    (sl_Turned : K.lookup fh_Turned = some ⟨oc_Turned, od_Turned, .func (PySem.W.fnOf "shape" "Turned.shape" (defArgs h_Turned) (defBody h_Turned) (defScope h_Turned) .none kV_Turned dc_Turned pm_Turned an_Turned cd_Turned ct_Turned), sl_Turned_⟩)
    (sc_Turned : PySem.W.codeIn K cd_Turned "Turned.shape" = true)
    (sk_Turned : PySem.W.keepIn K (.ref fh_Turned) = true)
    (n_Again : PySem.W.nsIn K mainGlobals "Again" = some (some (.ref c_Again)))
    (pg_Again : PySem.W.plainGet K c_Again Str.empty = true)
    (hd_Again : PySem.W.hasDictIn K c_Again = true)
    (po_Again : PySem.W.plainOver K c_Again = true)
    (sa_Again : PySem.W.findIn K (.ref c_Again) "__setattr__" = some (some (.builtin "object.__setattr__")))
    (ha_Again : PySem.W.findIn K (.ref c_Again) "__class__" = some (some (.builtin "object.__class__")))
    (hm_Again : PySem.W.mroIn K c_Again (.type "object") = some true)
    (ki_Again : PySem.W.kitOne K (.ref c_Again) (.ref c_Pattern) = some true)
    (at_Again_sign : PySem.W.findIn K (.ref c_Again) "sign" = some none)
    (at_Again_left : PySem.W.findIn K (.ref c_Again) "left" = some none)
    (at_Again_right : PySem.W.findIn K (.ref c_Again) "right" = some none)
    (at_Again_inner : PySem.W.findIn K (.ref c_Again) "inner" = some none)
    (mk_Again : PySem.W.makesIn K c_Again = true)
    (kc_Again : PySem.W.keepIn K (.ref c_Again) = true)
    (in_Again : PySem.W.findIn K (.ref c_Again) "__init__" = some (some (.ref fi_Around)))
    (sh_Again : PySem.W.findIn K (.ref c_Again) "shape" = some (some (.ref fh_Again)))
    (sf_Again : PySem.W.isFn K (.ref fh_Again) = true)
    (sl_Again : K.lookup fh_Again = some ⟨oc_Again, od_Again, .func (PySem.W.fnOf "shape" "Again.shape" (defArgs h_Again) (defBody h_Again) (defScope h_Again) .none kV_Again dc_Again pm_Again an_Again cd_Again ct_Again), sl_Again_⟩)
    (sc_Again : PySem.W.codeIn K cd_Again "Again.shape" = true)
    (sk_Again : PySem.W.keepIn K (.ref fh_Again) = true)
    (n_Either : PySem.W.nsIn K mainGlobals "Either" = some (some (.ref c_Either)))
    (pg_Either : PySem.W.plainGet K c_Either Str.empty = true)
    (hd_Either : PySem.W.hasDictIn K c_Either = true)
    (po_Either : PySem.W.plainOver K c_Either = true)
    (sa_Either : PySem.W.findIn K (.ref c_Either) "__setattr__" = some (some (.builtin "object.__setattr__")))
    (ha_Either : PySem.W.findIn K (.ref c_Either) "__class__" = some (some (.builtin "object.__class__")))
    (hm_Either : PySem.W.mroIn K c_Either (.type "object") = some true)
    (ki_Either : PySem.W.kitOne K (.ref c_Either) (.ref c_Pattern) = some true)
    (at_Either_sign : PySem.W.findIn K (.ref c_Either) "sign" = some none)
    (at_Either_left : PySem.W.findIn K (.ref c_Either) "left" = some none)
    (at_Either_right : PySem.W.findIn K (.ref c_Either) "right" = some none)
    (at_Either_inner : PySem.W.findIn K (.ref c_Either) "inner" = some none)
    (mk_Either : PySem.W.makesIn K c_Either = true)
    (kc_Either : PySem.W.keepIn K (.ref c_Either) = true)
    (in_Either : PySem.W.findIn K (.ref c_Either) "__init__" = some (some (.ref fi_Pair)))
    (sh_Either : PySem.W.findIn K (.ref c_Either) "shape" = some (some (.ref fh_Either)))
    (sf_Either : PySem.W.isFn K (.ref fh_Either) = true)
    (sl_Either : K.lookup fh_Either = some ⟨oc_Either, od_Either, .func (PySem.W.fnOf "shape" "Either.shape" (defArgs h_Either) (defBody h_Either) (defScope h_Either) .none kV_Either dc_Either pm_Either an_Either cd_Either ct_Either), sl_Either_⟩)
    (sc_Either : PySem.W.codeIn K cd_Either "Either.shape" = true)
    (sk_Either : PySem.W.keepIn K (.ref fh_Either) = true)
    (n_Less : PySem.W.nsIn K mainGlobals "Less" = some (some (.ref c_Less)))
    (pg_Less : PySem.W.plainGet K c_Less Str.empty = true)
    (hd_Less : PySem.W.hasDictIn K c_Less = true)
    (po_Less : PySem.W.plainOver K c_Less = true)
    (sa_Less : PySem.W.findIn K (.ref c_Less) "__setattr__" = some (some (.builtin "object.__setattr__")))
    (ha_Less : PySem.W.findIn K (.ref c_Less) "__class__" = some (some (.builtin "object.__class__")))
    (hm_Less : PySem.W.mroIn K c_Less (.type "object") = some true)
    (ki_Less : PySem.W.kitOne K (.ref c_Less) (.ref c_Pattern) = some true)
    (at_Less_sign : PySem.W.findIn K (.ref c_Less) "sign" = some none)
    (at_Less_left : PySem.W.findIn K (.ref c_Less) "left" = some none)
    (at_Less_right : PySem.W.findIn K (.ref c_Less) "right" = some none)
    (at_Less_inner : PySem.W.findIn K (.ref c_Less) "inner" = some none)
    (mk_Less : PySem.W.makesIn K c_Less = true)
    (kc_Less : PySem.W.keepIn K (.ref c_Less) = true)
    (in_Less : PySem.W.findIn K (.ref c_Less) "__init__" = some (some (.ref fi_Pair)))
    (sh_Less : PySem.W.findIn K (.ref c_Less) "shape" = some (some (.ref fh_Less)))
    (sf_Less : PySem.W.isFn K (.ref fh_Less) = true)
    (sl_Less : K.lookup fh_Less = some ⟨oc_Less, od_Less, .func (PySem.W.fnOf "shape" "Less.shape" (defArgs h_Less) (defBody h_Less) (defScope h_Less) .none kV_Less dc_Less pm_Less an_Less cd_Less ct_Less), sl_Less_⟩)
    (sc_Less : PySem.W.codeIn K cd_Less "Less.shape" = true)
    (sk_Less : PySem.W.keepIn K (.ref fh_Less) = true)
    (n_Both : PySem.W.nsIn K mainGlobals "Both" = some (some (.ref c_Both)))
    (pg_Both : PySem.W.plainGet K c_Both Str.empty = true)
    (hd_Both : PySem.W.hasDictIn K c_Both = true)
    (po_Both : PySem.W.plainOver K c_Both = true)
    (sa_Both : PySem.W.findIn K (.ref c_Both) "__setattr__" = some (some (.builtin "object.__setattr__")))
    (ha_Both : PySem.W.findIn K (.ref c_Both) "__class__" = some (some (.builtin "object.__class__")))
    (hm_Both : PySem.W.mroIn K c_Both (.type "object") = some true)
    (ki_Both : PySem.W.kitOne K (.ref c_Both) (.ref c_Pattern) = some true)
    (at_Both_sign : PySem.W.findIn K (.ref c_Both) "sign" = some none)
    (at_Both_left : PySem.W.findIn K (.ref c_Both) "left" = some none)
    (at_Both_right : PySem.W.findIn K (.ref c_Both) "right" = some none)
    (at_Both_inner : PySem.W.findIn K (.ref c_Both) "inner" = some none)
    (mk_Both : PySem.W.makesIn K c_Both = true)
    (kc_Both : PySem.W.keepIn K (.ref c_Both) = true)
    (in_Both : PySem.W.findIn K (.ref c_Both) "__init__" = some (some (.ref fi_Pair)))
    (sh_Both : PySem.W.findIn K (.ref c_Both) "shape" = some (some (.ref fh_Both)))
    (sf_Both : PySem.W.isFn K (.ref fh_Both) = true)
    (sl_Both : K.lookup fh_Both = some ⟨oc_Both, od_Both, .func (PySem.W.fnOf "shape" "Both.shape" (defArgs h_Both) (defBody h_Both) (defScope h_Both) .none kV_Both dc_Both pm_Both an_Both cd_Both ct_Both), sl_Both_⟩)
    (sc_Both : PySem.W.codeIn K cd_Both "Both.shape" = true)
    (sk_Both : PySem.W.keepIn K (.ref fh_Both) = true)
    (n_Then : PySem.W.nsIn K mainGlobals "Then" = some (some (.ref c_Then)))
    (pg_Then : PySem.W.plainGet K c_Then Str.empty = true)
    (hd_Then : PySem.W.hasDictIn K c_Then = true)
    (po_Then : PySem.W.plainOver K c_Then = true)
    (sa_Then : PySem.W.findIn K (.ref c_Then) "__setattr__" = some (some (.builtin "object.__setattr__")))
    (ha_Then : PySem.W.findIn K (.ref c_Then) "__class__" = some (some (.builtin "object.__class__")))
    (hm_Then : PySem.W.mroIn K c_Then (.type "object") = some true)
    (ki_Then : PySem.W.kitOne K (.ref c_Then) (.ref c_Pattern) = some true)
    (at_Then_sign : PySem.W.findIn K (.ref c_Then) "sign" = some none)
    (at_Then_left : PySem.W.findIn K (.ref c_Then) "left" = some none)
    (at_Then_right : PySem.W.findIn K (.ref c_Then) "right" = some none)
    (at_Then_inner : PySem.W.findIn K (.ref c_Then) "inner" = some none)
    (mk_Then : PySem.W.makesIn K c_Then = true)
    (kc_Then : PySem.W.keepIn K (.ref c_Then) = true)
    (in_Then : PySem.W.findIn K (.ref c_Then) "__init__" = some (some (.ref fi_Pair)))
    (sh_Then : PySem.W.findIn K (.ref c_Then) "shape" = some (some (.ref fh_Then)))
    (sf_Then : PySem.W.isFn K (.ref fh_Then) = true)
    (sl_Then : K.lookup fh_Then = some ⟨oc_Then, od_Then, .func (PySem.W.fnOf "shape" "Then.shape" (defArgs h_Then) (defBody h_Then) (defScope h_Then) .none kV_Then dc_Then pm_Then an_Then cd_Then ct_Then), sl_Then_⟩)
    (sc_Then : PySem.W.codeIn K cd_Then "Then.shape" = true)
    (sk_Then : PySem.W.keepIn K (.ref fh_Then) = true)
    (if_Sign : PySem.W.isFn K (.ref fi_Sign) = true)
    (il_Sign : K.lookup fi_Sign = some ⟨ioc_Sign, iod_Sign, .func (PySem.W.fnOf "__init__" "Sign.__init__" (defArgs i_Sign) (defBody i_Sign) (defScope i_Sign) .none ikV_Sign idc_Sign ipm_Sign ian_Sign icd_Sign ict_Sign), isl_Sign⟩)
    (ic_Sign : PySem.W.codeIn K icd_Sign "Sign.__init__" = true)
    (ik_Sign : PySem.W.keepIn K (.ref fi_Sign) = true)
    (if_Around : PySem.W.isFn K (.ref fi_Around) = true)
    (il_Around : K.lookup fi_Around = some ⟨ioc_Around, iod_Around, .func (PySem.W.fnOf "__init__" "Around.__init__" (defArgs i_Around) (defBody i_Around) (defScope i_Around) .none ikV_Around idc_Around ipm_Around ian_Around icd_Around ict_Around), isl_Around⟩)
    (ic_Around : PySem.W.codeIn K icd_Around "Around.__init__" = true)
    (ik_Around : PySem.W.keepIn K (.ref fi_Around) = true)
    (if_Pair : PySem.W.isFn K (.ref fi_Pair) = true)
    (il_Pair : K.lookup fi_Pair = some ⟨ioc_Pair, iod_Pair, .func (PySem.W.fnOf "__init__" "Pair.__init__" (defArgs i_Pair) (defBody i_Pair) (defScope i_Pair) .none ikV_Pair idc_Pair ipm_Pair ian_Pair icd_Pair ict_Pair), isl_Pair⟩)
    (ic_Pair : PySem.W.codeIn K icd_Pair "Pair.__init__" = true)
    (ik_Pair : PySem.W.keepIn K (.ref fi_Pair) = true)
    {c_Desk : Addr} {d_SIGNS : Addr} {e_SIGNS : Array DictEntry} {n_SIGNS : Nat} {d_KINDS : Addr} {e_KINDS : Array DictEntry} {n_KINDS : Nat} {d_STRENGTHS : Addr} {e_STRENGTHS : Array DictEntry} {n_STRENGTHS : Nat} {fi_Desk : Addr} {iod_Desk ian_Desk : Option Addr} {isl_Desk : Array (Option Value)} {ioc_Desk ikV_Desk idc_Desk ipm_Desk icd_Desk ict_Desk : Value} {fi_text : Addr} {iod_text ian_text : Option Addr} {isl_text : Array (Option Value)} {ioc_text ikV_text idc_text ipm_text icd_text ict_text : Value}
    (rn_SIGNS : PySem.W.nsIn K mainGlobals "SIGNS" = some (some (.ref d_SIGNS)))
    (rl_SIGNS : K.lookup d_SIGNS = some { cls := .type "dict", data := .dict e_SIGNS n_SIGNS })
    (re_SIGNS : Ents w e_SIGNS.toList dSIGNS)
    (rs_SIGNS : (d_SIGNS == sysModules) = false)
    (rn_KINDS : PySem.W.nsIn K mainGlobals "KINDS" = some (some (.ref d_KINDS)))
    (rl_KINDS : K.lookup d_KINDS = some { cls := .type "dict", data := .dict e_KINDS n_KINDS })
    (re_KINDS : Ents w e_KINDS.toList dKINDS)
    (rs_KINDS : (d_KINDS == sysModules) = false)
    (rn_STRENGTHS : PySem.W.nsIn K mainGlobals "STRENGTHS" = some (some (.ref d_STRENGTHS)))
    (rl_STRENGTHS : K.lookup d_STRENGTHS = some { cls := .type "dict", data := .dict e_STRENGTHS n_STRENGTHS })
    (re_STRENGTHS : Ents w e_STRENGTHS.toList dSTR)
    (rs_STRENGTHS : (d_STRENGTHS == sysModules) = false)
    (rn_Desk : PySem.W.nsIn K mainGlobals "Desk" = some (some (.ref c_Desk)))
    (pg_Desk : PySem.W.plainGet K c_Desk Str.empty = true)
    (hd_Desk : PySem.W.hasDictIn K c_Desk = true)
    (po_Desk : PySem.W.plainOver K c_Desk = true)
    (sa_Desk : PySem.W.findIn K (.ref c_Desk) "__setattr__" = some (some (.builtin "object.__setattr__")))
    (at_Desk_patterns : PySem.W.findIn K (.ref c_Desk) "patterns" = some none)
    (at_Desk_waiting : PySem.W.findIn K (.ref c_Desk) "waiting" = some none)
    (mk_Desk : PySem.W.makesIn K c_Desk = true)
    (kc_Desk : PySem.W.keepIn K (.ref c_Desk) = true)
    (in_Desk : PySem.W.findIn K (.ref c_Desk) "__init__" = some (some (.ref fi_Desk)))
    (if_Desk : PySem.W.isFn K (.ref fi_Desk) = true)
    (il_Desk : K.lookup fi_Desk = some ⟨ioc_Desk, iod_Desk, .func (PySem.W.fnOf "__init__" "Desk.__init__" (defArgs i_Desk) (defBody i_Desk) (defScope i_Desk) .none ikV_Desk idc_Desk ipm_Desk ian_Desk icd_Desk ict_Desk), isl_Desk⟩)
    (ic_Desk : PySem.W.codeIn K icd_Desk "Desk.__init__" = true)
    (ik_Desk : PySem.W.keepIn K (.ref fi_Desk) = true)
    (tx_Never : PySem.W.findIn K (.ref c_Never) "text" = some (some (.ref fi_text)))
    (tx_Empty : PySem.W.findIn K (.ref c_Empty) "text" = some (some (.ref fi_text)))
    (tx_AnySign : PySem.W.findIn K (.ref c_AnySign) "text" = some (some (.ref fi_text)))
    (tx_Sign : PySem.W.findIn K (.ref c_Sign) "text" = some (some (.ref fi_text)))
    (tx_Outside : PySem.W.findIn K (.ref c_Outside) "text" = some (some (.ref fi_text)))
    (tx_Turned : PySem.W.findIn K (.ref c_Turned) "text" = some (some (.ref fi_text)))
    (tx_Again : PySem.W.findIn K (.ref c_Again) "text" = some (some (.ref fi_text)))
    (tx_Either : PySem.W.findIn K (.ref c_Either) "text" = some (some (.ref fi_text)))
    (tx_Less : PySem.W.findIn K (.ref c_Less) "text" = some (some (.ref fi_text)))
    (tx_Both : PySem.W.findIn K (.ref c_Both) "text" = some (some (.ref fi_text)))
    (tx_Then : PySem.W.findIn K (.ref c_Then) "text" = some (some (.ref fi_text)))
    (if_text : PySem.W.isFn K (.ref fi_text) = true)
    (il_text : K.lookup fi_text = some ⟨ioc_text, iod_text, .func (PySem.W.fnOf "text" "Pattern.text" (defArgs h_text) (defBody h_text) (defScope h_text) .none ikV_text idc_text ipm_text ian_text icd_text ict_text), isl_text⟩)
    (ic_text : PySem.W.codeIn K icd_text "Pattern.text" = true)
    (ik_text : PySem.W.keepIn K (.ref fi_text) = true)
    : ∃ fd : FuncData, (∀ (s : Shared) (v : Value), BindsTo s fd ⟨[v], []⟩ [("_law_script", v)]) ∧ ∀ base : Heap, K.In base → base.Ns mainGlobals mg → FnOk l.prog w K mg base CX0 128 fa fd ["_law_script"] (spLaw K) := by
  have e := hfa.symm.trans (PySem.W.mg_of X G a24)
  cases e
  have T : Txt K mg := ⟨PySem.W.mg_none_of X G z_len, PySem.W.mg_none_of X G z_range, PySem.W.mg_none_of X G z_isinst, PySem.W.mg_none_of X G z_int, PySem.W.mg_none_of X G z_bool, PySem.W.mg_none_of X G z_tuple, PySem.W.mg_none_of X G z_list, PySem.W.mg_none_of X G z_str, PySem.W.mg_none_of X G z_enum, PySem.W.mg_none_of X G z_min⟩
  have F0 := fun_mk (st := s_is_letters) l0 c0 k0
  have F1 := fun_mk (st := s_need_letters) l1 c1 k1
  have F2 := fun_mk (st := s_text_of) l2 c2 k2
  have F3 := fun_mk (st := s_text_within) l3 c3 k3
  have F4 := fun_mk (st := s_is_wanting) l4 c4 k4
  have F5 := fun_mk (st := s_can_stand) l5 c5 k5
  have F6 := fun_mk (st := s_need_pattern) l6 c6 k6
  have F7 := fun_mk (st := s_piece_of) l7 c7 k7
  have F8 := fun_mk (st := s_pair_of) l8 c8 k8
  have F9 := fun_mk (st := s_settle) l9 c9 k9
  have F10 := fun_mk (st := s_put) l10 c10 k10
  have F11 := fun_mk (st := s_tokens_of) l11 c11 k11
  have F12 := fun_mk (st := s_pattern_of) l12 c12 k12
  have F13 := fun_mk (st := s_read) l13 c13 k13
  have F14 := fun_mk (st := s__law_cell_at) l14 c14 k14
  have F15 := fun_mk (st := s__law_letters) l15 c15 k15
  have F16 := fun_mk (st := s__law_in) l16 c16 k16
  have F17 := fun_mk (st := s__law_leaf) l17 c17 k17
  have F18 := fun_mk (st := s__law_lone) l18 c18 k18
  have F19 := fun_mk (st := s__law_pair) l19 c19 k19
  have F20 := fun_mk (st := s__law_held) l20 c20 k20
  have F21 := fun_mk (st := s__law_step) l21 c21 k21
  have F22 := fun_mk (st := s__law_told) l22 c22 k22
  have F23 := fun_mk (st := s__law_same) l23 c23 k23
  have F24 := fun_mk (st := s_law) l24 c24 k24
  refine ⟨PySem.W.fnOf "law" "law" (defArgs s_law) (defBody s_law) (defScope s_law) .none kV24 dc24 pm24 an24 cd24 ct24, fun s v => .of_eq rfl, fun base _ _ => ?_⟩
  have G_Never := fun_mk (st := h_Never) sl_Never sc_Never sk_Never
  have G_Empty := fun_mk (st := h_Empty) sl_Empty sc_Empty sk_Empty
  have G_AnySign := fun_mk (st := h_AnySign) sl_AnySign sc_AnySign sk_AnySign
  have G_Sign := fun_mk (st := h_Sign) sl_Sign sc_Sign sk_Sign
  have G_Outside := fun_mk (st := h_Outside) sl_Outside sc_Outside sk_Outside
  have G_Turned := fun_mk (st := h_Turned) sl_Turned sc_Turned sk_Turned
  have G_Again := fun_mk (st := h_Again) sl_Again sc_Again sk_Again
  have G_Either := fun_mk (st := h_Either) sl_Either sc_Either sk_Either
  have G_Less := fun_mk (st := h_Less) sl_Less sc_Less sk_Less
  have G_Both := fun_mk (st := h_Both) sl_Both sc_Both sk_Both
  have G_Then := fun_mk (st := h_Then) sl_Then sc_Then sk_Then
  have I_Sign := fun_mk (st := i_Sign) il_Sign ic_Sign ik_Sign
  have I_Around := fun_mk (st := i_Around) il_Around ic_Around ik_Around
  have I_Pair := fun_mk (st := i_Pair) il_Pair ic_Pair ik_Pair
  have PC : ∀ k, PCls K ((cOf c_Never c_Empty c_AnySign c_Sign c_Outside c_Turned c_Again c_Either c_Less c_Both c_Then) k) c_Pattern := fun k => match k with
    | .leaf .never => ⟨⟨pg_Never, hd_Never, po_Never, sa_Never⟩, ha_Never, hn, htk, hm_Never, ki_Never, at_Never_sign, at_Never_left, at_Never_right, at_Never_inner⟩
    | .leaf .empty => ⟨⟨pg_Empty, hd_Empty, po_Empty, sa_Empty⟩, ha_Empty, hn, htk, hm_Empty, ki_Empty, at_Empty_sign, at_Empty_left, at_Empty_right, at_Empty_inner⟩
    | .leaf .any => ⟨⟨pg_AnySign, hd_AnySign, po_AnySign, sa_AnySign⟩, ha_AnySign, hn, htk, hm_AnySign, ki_AnySign, at_AnySign_sign, at_AnySign_left, at_AnySign_right, at_AnySign_inner⟩
    | .sign => ⟨⟨pg_Sign, hd_Sign, po_Sign, sa_Sign⟩, ha_Sign, hn, htk, hm_Sign, ki_Sign, at_Sign_sign, at_Sign_left, at_Sign_right, at_Sign_inner⟩
    | .one .outside => ⟨⟨pg_Outside, hd_Outside, po_Outside, sa_Outside⟩, ha_Outside, hn, htk, hm_Outside, ki_Outside, at_Outside_sign, at_Outside_left, at_Outside_right, at_Outside_inner⟩
    | .one .turned => ⟨⟨pg_Turned, hd_Turned, po_Turned, sa_Turned⟩, ha_Turned, hn, htk, hm_Turned, ki_Turned, at_Turned_sign, at_Turned_left, at_Turned_right, at_Turned_inner⟩
    | .one .again => ⟨⟨pg_Again, hd_Again, po_Again, sa_Again⟩, ha_Again, hn, htk, hm_Again, ki_Again, at_Again_sign, at_Again_left, at_Again_right, at_Again_inner⟩
    | .two .either => ⟨⟨pg_Either, hd_Either, po_Either, sa_Either⟩, ha_Either, hn, htk, hm_Either, ki_Either, at_Either_sign, at_Either_left, at_Either_right, at_Either_inner⟩
    | .two .less => ⟨⟨pg_Less, hd_Less, po_Less, sa_Less⟩, ha_Less, hn, htk, hm_Less, ki_Less, at_Less_sign, at_Less_left, at_Less_right, at_Less_inner⟩
    | .two .both => ⟨⟨pg_Both, hd_Both, po_Both, sa_Both⟩, ha_Both, hn, htk, hm_Both, ki_Both, at_Both_sign, at_Both_left, at_Both_right, at_Both_inner⟩
    | .two .then_ => ⟨⟨pg_Then, hd_Then, po_Then, sa_Then⟩, ha_Then, hn, htk, hm_Then, ki_Then, at_Then_sign, at_Then_left, at_Then_right, at_Then_inner⟩
  let fs : Kd → Addr := cOf fh_Never fh_Empty fh_AnySign fh_Sign fh_Outside fh_Turned fh_Again fh_Either fh_Less fh_Both fh_Then
  let fds : Kd → FuncData := fun k => match k with
    | .leaf .never => PySem.W.fnOf "shape" "Never.shape" (defArgs h_Never) (defBody h_Never) (defScope h_Never) .none kV_Never dc_Never pm_Never an_Never cd_Never ct_Never
    | .leaf .empty => PySem.W.fnOf "shape" "Empty.shape" (defArgs h_Empty) (defBody h_Empty) (defScope h_Empty) .none kV_Empty dc_Empty pm_Empty an_Empty cd_Empty ct_Empty
    | .leaf .any => PySem.W.fnOf "shape" "AnySign.shape" (defArgs h_AnySign) (defBody h_AnySign) (defScope h_AnySign) .none kV_AnySign dc_AnySign pm_AnySign an_AnySign cd_AnySign ct_AnySign
    | .sign => PySem.W.fnOf "shape" "Sign.shape" (defArgs h_Sign) (defBody h_Sign) (defScope h_Sign) .none kV_Sign dc_Sign pm_Sign an_Sign cd_Sign ct_Sign
    | .one .outside => PySem.W.fnOf "shape" "Outside.shape" (defArgs h_Outside) (defBody h_Outside) (defScope h_Outside) .none kV_Outside dc_Outside pm_Outside an_Outside cd_Outside ct_Outside
    | .one .turned => PySem.W.fnOf "shape" "Turned.shape" (defArgs h_Turned) (defBody h_Turned) (defScope h_Turned) .none kV_Turned dc_Turned pm_Turned an_Turned cd_Turned ct_Turned
    | .one .again => PySem.W.fnOf "shape" "Again.shape" (defArgs h_Again) (defBody h_Again) (defScope h_Again) .none kV_Again dc_Again pm_Again an_Again cd_Again ct_Again
    | .two .either => PySem.W.fnOf "shape" "Either.shape" (defArgs h_Either) (defBody h_Either) (defScope h_Either) .none kV_Either dc_Either pm_Either an_Either cd_Either ct_Either
    | .two .less => PySem.W.fnOf "shape" "Less.shape" (defArgs h_Less) (defBody h_Less) (defScope h_Less) .none kV_Less dc_Less pm_Less an_Less cd_Less ct_Less
    | .two .both => PySem.W.fnOf "shape" "Both.shape" (defArgs h_Both) (defBody h_Both) (defScope h_Both) .none kV_Both dc_Both pm_Both an_Both cd_Both ct_Both
    | .two .then_ => PySem.W.fnOf "shape" "Then.shape" (defArgs h_Then) (defBody h_Then) (defScope h_Then) .none kV_Then dc_Then pm_Then an_Then cd_Then ct_Then
  have mS : ∀ k, Meth K ((cOf c_Never c_Empty c_AnySign c_Sign c_Outside c_Turned c_Again c_Either c_Less c_Both c_Then) k) "shape" (fs k) := fun k => match k with
    | .leaf .never => ⟨sh_Never, sf_Never, sk_Never⟩
    | .leaf .empty => ⟨sh_Empty, sf_Empty, sk_Empty⟩
    | .leaf .any => ⟨sh_AnySign, sf_AnySign, sk_AnySign⟩
    | .sign => ⟨sh_Sign, sf_Sign, sk_Sign⟩
    | .one .outside => ⟨sh_Outside, sf_Outside, sk_Outside⟩
    | .one .turned => ⟨sh_Turned, sf_Turned, sk_Turned⟩
    | .one .again => ⟨sh_Again, sf_Again, sk_Again⟩
    | .two .either => ⟨sh_Either, sf_Either, sk_Either⟩
    | .two .less => ⟨sh_Less, sf_Less, sk_Less⟩
    | .two .both => ⟨sh_Both, sf_Both, sk_Both⟩
    | .two .then_ => ⟨sh_Then, sf_Then, sk_Then⟩
  have bS : ∀ k, Binds K (fds k) ["self"] [] := fun k => match k with
    | .leaf .never => G_Never.binds (ps := ["self"]) (fun _ _ _ _ _ _ us hl => match us, hl with | [_], _ => rfl)
    | .leaf .empty => G_Empty.binds (ps := ["self"]) (fun _ _ _ _ _ _ us hl => match us, hl with | [_], _ => rfl)
    | .leaf .any => G_AnySign.binds (ps := ["self"]) (fun _ _ _ _ _ _ us hl => match us, hl with | [_], _ => rfl)
    | .sign => G_Sign.binds (ps := ["self"]) (fun _ _ _ _ _ _ us hl => match us, hl with | [_], _ => rfl)
    | .one .outside => G_Outside.binds (ps := ["self"]) (fun _ _ _ _ _ _ us hl => match us, hl with | [_], _ => rfl)
    | .one .turned => G_Turned.binds (ps := ["self"]) (fun _ _ _ _ _ _ us hl => match us, hl with | [_], _ => rfl)
    | .one .again => G_Again.binds (ps := ["self"]) (fun _ _ _ _ _ _ us hl => match us, hl with | [_], _ => rfl)
    | .two .either => G_Either.binds (ps := ["self"]) (fun _ _ _ _ _ _ us hl => match us, hl with | [_], _ => rfl)
    | .two .less => G_Less.binds (ps := ["self"]) (fun _ _ _ _ _ _ us hl => match us, hl with | [_], _ => rfl)
    | .two .both => G_Both.binds (ps := ["self"]) (fun _ _ _ _ _ _ us hl => match us, hl with | [_], _ => rfl)
    | .two .then_ => G_Then.binds (ps := ["self"]) (fun _ _ _ _ _ _ us hl => match us, hl with | [_], _ => rfl)
  have SH : ∀ n k, FnOk l.prog w K mg base CX0 n (fs k) (fds k) ["self"] (spShape (cOf c_Never c_Empty c_AnySign c_Sign c_Outside c_Turned c_Again c_Either c_Less c_Both c_Then) n k) := okh_all PC mS bS G_Never G_Empty G_AnySign G_Sign G_Outside G_Turned G_Again G_Either G_Less G_Both G_Then
  have PK : PatKit l.prog w K mg base (cOf c_Never c_Empty c_AnySign c_Sign c_Outside c_Turned c_Again c_Either c_Less c_Both c_Then) c_Pattern := by
    refine ⟨PySem.W.mg_of X G n_Pattern, fun k => ?_, PC, fun k => ?_, ?_, ?_, ?_, ⟨fs, fds, mS, bS, SH⟩⟩
    · match k with
      | .leaf .never => exact PySem.W.mg_of X G n_Never
      | .leaf .empty => exact PySem.W.mg_of X G n_Empty
      | .leaf .any => exact PySem.W.mg_of X G n_AnySign
      | .sign => exact PySem.W.mg_of X G n_Sign
      | .one .outside => exact PySem.W.mg_of X G n_Outside
      | .one .turned => exact PySem.W.mg_of X G n_Turned
      | .one .again => exact PySem.W.mg_of X G n_Again
      | .two .either => exact PySem.W.mg_of X G n_Either
      | .two .less => exact PySem.W.mg_of X G n_Less
      | .two .both => exact PySem.W.mg_of X G n_Both
      | .two .then_ => exact PySem.W.mg_of X G n_Then
    · match k with
      | .never => exact ⟨mk_Never, in_Never, kc_Never, hm_Never⟩
      | .empty => exact ⟨mk_Empty, in_Empty, kc_Empty, hm_Empty⟩
      | .any => exact ⟨mk_AnySign, in_AnySign, kc_AnySign, hm_AnySign⟩
    · exact ⟨_, _, ⟨mk_Sign, in_Sign, if_Sign, kc_Sign⟩, oki_Sign I_Sign, I_Sign.binds (ps := ["self", "sign"]) (fun _ _ _ _ _ _ us hl => match us, hl with | [_, _], _ => rfl)⟩
    · refine ⟨_, _, fun k => ?_, oki_Around I_Around, I_Around.binds (ps := ["self", "inner"]) (fun _ _ _ _ _ _ us hl => match us, hl with | [_, _], _ => rfl)⟩
      match k with
      | .outside => exact ⟨mk_Outside, in_Outside, if_Around, kc_Outside⟩
      | .turned => exact ⟨mk_Turned, in_Turned, if_Around, kc_Turned⟩
      | .again => exact ⟨mk_Again, in_Again, if_Around, kc_Again⟩
    · refine ⟨_, _, fun k => ?_, oki_Pair I_Pair, I_Pair.binds (ps := ["self", "left", "right"]) (fun _ _ _ _ _ _ us hl => match us, hl with | [_, _, _], _ => rfl)⟩
      match k with
      | .either => exact ⟨mk_Either, in_Either, if_Pair, kc_Either⟩
      | .less => exact ⟨mk_Less, in_Less, if_Pair, kc_Less⟩
      | .both => exact ⟨mk_Both, in_Both, if_Pair, kc_Both⟩
      | .then_ => exact ⟨mk_Then, in_Then, if_Pair, kc_Then⟩
  have I_Desk := fun_mk (st := i_Desk) il_Desk ic_Desk ik_Desk
  have RK : RdKit l.prog w K mg base (cOf c_Never c_Empty c_AnySign c_Sign c_Outside c_Turned c_Again c_Either c_Less c_Both c_Then) c_Desk d_SIGNS d_KINDS d_STRENGTHS := ⟨PySem.W.mg_of X G rn_SIGNS, PySem.W.mg_of X G rn_KINDS, PySem.W.mg_of X G rn_STRENGTHS, dictK_of rl_SIGNS re_SIGNS nd_SIGNS rs_SIGNS, dictK_of rl_KINDS re_KINDS nd_KINDS rs_KINDS, dictK_of rl_STRENGTHS re_STRENGTHS nd_STR rs_STRENGTHS, PySem.W.mg_of X G rn_Desk, ⟨pg_Desk, hd_Desk, po_Desk, sa_Desk⟩, at_Desk_patterns, at_Desk_waiting, ⟨_, _, ⟨mk_Desk, in_Desk, if_Desk, kc_Desk⟩, oki_Desk I_Desk, I_Desk.binds (ps := ["self"]) (fun _ _ _ _ _ _ us hl => match us, hl with | [_], _ => rfl)⟩⟩
  have I_text := fun_mk (st := h_text) il_text ic_text ik_text
  have b_to := F2.binds (ps := ["shape"]) (fun _ _ _ _ _ _ us hl => match us, hl with | [_], _ => rfl)
  have b_tw := F3.binds (ps := ["shape", "strength"]) (fun _ _ _ _ _ _ us hl => match us, hl with | [_, _], _ => rfl)
  have TX := texts_ok F2 F3 T RK (PySem.W.mg_of X G a2) b_to (PySem.W.mg_of X G a3) b_tw
  have TK : TxKit l.prog w K mg base (cOf c_Never c_Empty c_AnySign c_Sign c_Outside c_Turned c_Again c_Either c_Less c_Both c_Then) := ⟨_, _, fun k => match k with
    | .leaf .never => ⟨tx_Never, if_text, ik_text⟩
    | .leaf .empty => ⟨tx_Empty, if_text, ik_text⟩
    | .leaf .any => ⟨tx_AnySign, if_text, ik_text⟩
    | .sign => ⟨tx_Sign, if_text, ik_text⟩
    | .one .outside => ⟨tx_Outside, if_text, ik_text⟩
    | .one .turned => ⟨tx_Turned, if_text, ik_text⟩
    | .one .again => ⟨tx_Again, if_text, ik_text⟩
    | .two .either => ⟨tx_Either, if_text, ik_text⟩
    | .two .less => ⟨tx_Less, if_text, ik_text⟩
    | .two .both => ⟨tx_Both, if_text, ik_text⟩
    | .two .then_ => ⟨tx_Then, if_text, ik_text⟩
    , I_text.binds (ps := ["self"]) (fun _ _ _ _ _ _ us hl => match us, hl with | [_], _ => rfl), fun n => okh_text I_text PC mS bS SH n ⟨_, _, PySem.W.mg_of X G a2, F2.kp, b_to, (TX n).1⟩⟩
  revert PK RK TK
  generalize (cOf c_Never c_Empty c_AnySign c_Sign c_Outside c_Turned c_Again c_Either c_Less c_Both c_Then) = c
  generalize c_Desk = cD
  intro PK RK TK
  have d_is_letters : Df l.prog w K mg base "is_letters" 1 ["text"] sp_isletters := ⟨f0, _, PySem.W.mg_of X G a0, k0, F0.binds (ps := ["text"]) (fun _ _ _ _ _ _ us hl => by obtain ⟨_, rfl⟩ := len1 hl; rfl), ok_is_letters F0 T ⟩
  have d_need_letters : Df l.prog w K mg base "need_letters" 2 ["letters"] sp_needletters := ⟨f1, _, PySem.W.mg_of X G a1, k1, F1.binds (ps := ["letters"]) (fun _ _ _ _ _ _ us hl => by obtain ⟨_, rfl⟩ := len1 hl; rfl), ok_need_letters F1 T d_is_letters⟩
  have d_is_wanting : Df l.prog w K mg base "is_wanting" 1 ["sign"] sp_iswanting := ⟨f4, _, PySem.W.mg_of X G a4, k4, F4.binds (ps := ["sign"]) (fun _ _ _ _ _ _ us hl => by obtain ⟨_, rfl⟩ := len1 hl; rfl), ok_is_wanting F4 T ⟩
  have d_can_stand : Df l.prog w K mg base "can_stand" 1 ["letters", "sign", "wanting", "depth"] sp_canstand := ⟨f5, _, PySem.W.mg_of X G a5, k5, F5.binds (ps := ["letters", "sign", "wanting", "depth"]) (fun _ _ _ _ _ _ us hl => by obtain ⟨_, _, _, _, rfl⟩ := len4 hl; rfl), ok_can_stand F5 T ⟩
  have d_need_pattern : Df l.prog w K mg base "need_pattern" 2 ["letters", "text"] sp_needpattern := ⟨f6, _, PySem.W.mg_of X G a6, k6, F6.binds (ps := ["letters", "text"]) (fun _ _ _ _ _ _ us hl => by obtain ⟨_, _, rfl⟩ := len2 hl; rfl), ok_need_pattern F6 T d_can_stand d_is_wanting⟩
  have d_piece_of : Df l.prog w K mg base "piece_of" 3 ["token"] (sp_piece c) := ⟨f7, _, PySem.W.mg_of X G a7, k7, F7.binds (ps := ["token"]) (fun _ _ _ _ _ _ us hl => by obtain ⟨_, rfl⟩ := len1 hl; rfl), ok_piece_of F7 T PK ⟩
  have d_pair_of : Df l.prog w K mg base "pair_of" 3 ["kind", "left", "right"] (sp_pairof c) := ⟨f8, _, PySem.W.mg_of X G a8, k8, F8.binds (ps := ["kind", "left", "right"]) (fun _ _ _ _ _ _ us hl => by obtain ⟨_, _, _, rfl⟩ := len3 hl; rfl), ok_pair_of F8 T PK ⟩
  have d_settle : Df l.prog w K mg base "settle" 4 ["desk", "strength"] (sp_settle c cD) := ⟨f9, _, PySem.W.mg_of X G a9, k9, F9.binds (ps := ["desk", "strength"]) (fun _ _ _ _ _ _ us hl => by obtain ⟨_, _, rfl⟩ := len2 hl; rfl), ok_settle F9 T PK RK d_pair_of⟩
  have d_put : Df l.prog w K mg base "put" 5 ["desk", "token"] (sp_put c cD) := ⟨f10, _, PySem.W.mg_of X G a10, k10, F10.binds (ps := ["desk", "token"]) (fun _ _ _ _ _ _ us hl => by obtain ⟨_, _, rfl⟩ := len2 hl; rfl), ok_put F10 T PK RK d_settle d_piece_of⟩
  have d_tokens_of : Df l.prog w K mg base "tokens_of" 2 ["text"] sp_tokens := ⟨f11, _, PySem.W.mg_of X G a11, k11, F11.binds (ps := ["text"]) (fun _ _ _ _ _ _ us hl => by obtain ⟨_, rfl⟩ := len1 hl; rfl), ok_tokens_of F11 T RK d_is_wanting⟩
  have d_pattern_of : Df l.prog w K mg base "pattern_of" 6 ["text"] (sp_patternof c) := ⟨f12, _, PySem.W.mg_of X G a12, k12, F12.binds (ps := ["text"]) (fun _ _ _ _ _ _ us hl => by obtain ⟨_, rfl⟩ := len1 hl; rfl), ok_pattern_of F12 T PK RK d_tokens_of d_put⟩
  have d_read : Df l.prog w K mg base "read" 7 ["letters", "text"] (sp_read c) := ⟨f13, _, PySem.W.mg_of X G a13, k13, F13.binds (ps := ["letters", "text"]) (fun _ _ _ _ _ _ us hl => by obtain ⟨_, _, rfl⟩ := len2 hl; rfl), ok_read F13 T PK RK d_need_letters d_need_pattern d_pattern_of⟩
  have d__law_cell_at : Df l.prog w K mg base "_law_cell_at" 1 ["_law_script", "_law_k"] (sp_cell K) := ⟨f14, _, PySem.W.mg_of X G a14, k14, F14.binds (ps := ["_law_script", "_law_k"]) (fun _ _ _ _ _ _ us hl => by obtain ⟨_, _, rfl⟩ := len2 hl; rfl), ok__law_cell_at F14 T ⟩
  have d__law_letters : Df l.prog w K mg base "_law_letters" 1 ["_law_cell"] sp_letters := ⟨f15, _, PySem.W.mg_of X G a15, k15, F15.binds (ps := ["_law_cell"]) (fun _ _ _ _ _ _ us hl => by obtain ⟨_, rfl⟩ := len1 hl; rfl), ok__law_letters F15 T ⟩
  have d__law_in : Df l.prog w K mg base "_law_in" 1 ["_law_text", "_law_level", "_law_wants"] sp_in32 := ⟨f16, _, PySem.W.mg_of X G a16, k16, F16.binds (ps := ["_law_text", "_law_level", "_law_wants"]) (fun _ _ _ _ _ _ us hl => by obtain ⟨_, _, _, rfl⟩ := len3 hl; rfl), ok__law_in F16 T ⟩
  have d__law_leaf : Df l.prog w K mg base "_law_leaf" 1 ["_law_kind", "_law_sign"] sp_leaf32 := ⟨f17, _, PySem.W.mg_of X G a17, k17, F17.binds (ps := ["_law_kind", "_law_sign"]) (fun _ _ _ _ _ _ us hl => by obtain ⟨_, _, rfl⟩ := len2 hl; rfl), ok__law_leaf F17 T ⟩
  have d__law_lone : Df l.prog w K mg base "_law_lone" 2 ["_law_kind", "_law_one"] sp_lone32 := ⟨f18, _, PySem.W.mg_of X G a18, k18, F18.binds (ps := ["_law_kind", "_law_one"]) (fun _ _ _ _ _ _ us hl => by obtain ⟨_, _, rfl⟩ := len2 hl; rfl), ok__law_lone F18 T d__law_in⟩
  have d__law_pair : Df l.prog w K mg base "_law_pair" 2 ["_law_kind", "_law_one", "_law_other"] sp_pair32 := ⟨f19, _, PySem.W.mg_of X G a19, k19, F19.binds (ps := ["_law_kind", "_law_one", "_law_other"]) (fun _ _ _ _ _ _ us hl => by obtain ⟨_, _, _, rfl⟩ := len3 hl; rfl), ok__law_pair F19 T d__law_in⟩
  have d__law_held : Df l.prog w K mg base "_law_held" 1 ["_law_one"] sp_held32 := ⟨f20, _, PySem.W.mg_of X G a20, k20, F20.binds (ps := ["_law_one"]) (fun _ _ _ _ _ _ us hl => by obtain ⟨_, rfl⟩ := len1 hl; rfl), ok__law_held F20 T ⟩
  have d__law_step : Df l.prog w K mg base "_law_step" 3 ["_law_pile", "_law_cell", "_law_sign", "_law_more"] sp_step32 := ⟨f21, _, PySem.W.mg_of X G a21, k21, F21.binds (ps := ["_law_pile", "_law_cell", "_law_sign", "_law_more"]) (fun _ _ _ _ _ _ us hl => by obtain ⟨_, _, _, _, rfl⟩ := len4 hl; rfl), ok__law_step F21 T d__law_pair d__law_lone d__law_leaf d__law_held⟩
  have d__law_told : Df l.prog w K mg base "_law_told" 4 ["_law_script", "_law_letters_here"] (sp_told32 K) := ⟨f22, _, PySem.W.mg_of X G a22, k22, F22.binds (ps := ["_law_script", "_law_letters_here"]) (fun _ _ _ _ _ _ us hl => by obtain ⟨_, _, rfl⟩ := len2 hl; rfl), ok__law_told F22 T d__law_cell_at d__law_step d__law_held d__law_pair⟩
  have d__law_same : Df l.prog w K mg base "_law_same" 64 ["_law_found", "_law_due"] (sp_same 63) := ⟨f23, _, PySem.W.mg_of X G a23, k23, F23.binds (ps := ["_law_found", "_law_due"]) (fun _ _ _ _ _ _ us hl => by obtain ⟨_, _, rfl⟩ := len2 hl; rfl), ok__law_same F23 T  (PySem.W.mg_of X G a23) (F23.binds (ps := ["_law_found", "_law_due"]) (fun _ _ _ _ _ _ us hl => match us, hl with | [_, _], _ => rfl))⟩
  exact ok_law F24 T PK TK d__law_cell_at d__law_letters d__law_told d__law_same d_read
end K32
def PySem.W.Fast.tw17836401586172646496 := ()
def PySem.W.Fast.tw9675575384496186496 := ()
def PySem.W.Fast.tw9367080782172893408 := ()
def PySem.W.Fast.tw8834307493697393952 := ()
def PySem.W.Fast.tw15382502775545149792 := ()
def PySem.W.Fast.tw3714755713451854208 := ()
def PySem.W.Fast.tw7973244342063787392 := ()
def PySem.W.Fast.tw5832325380430170624 := ()
def PySem.W.Fast.tw12967154757836811776 := ()
def PySem.W.Fast.tw15781537865699769856 := ()
def PySem.W.Fast.tw5962556501047150112 := ()
def PySem.W.Fast.tw18217478653710810688 := ()
def PySem.W.Fast.tw8938948047599090240 := ()
def PySem.W.Fast.tw13517805614840260480 := ()
def PySem.W.Fast.tw2317253509136264128 := ()
def PySem.W.Fast.tw13058200075813152704 := ()
def PySem.W.Fast.tw14389945461830551649 := ()
def PySem.W.Fast.tw15439947148425541761 := ()
def PySem.W.Fast.tw6952407460210079905 := ()
def PySem.W.Fast.tw14653845823227256001 := ()
def PySem.W.Fast.tw11476440284357166369 := ()
def PySem.W.Fast.tw7136981888989497697 := ()
def PySem.W.Fast.tw10615217824674630081 := ()
def PySem.W.Fast.tw11163387627288988161 := ()
def PySem.W.Fast.tw14486096189992630785 := ()
def PySem.W.Fast.tw16492079567139766817 := ()
def PySem.W.Fast.tw3075078438646000225 := ()
def PySem.W.Fast.tw15430759673521754753 := ()
def PySem.W.Fast.tw643246586052580065 := ()
def PySem.W.Fast.tw16392337743917966081 := ()
def PySem.W.Fast.tw4597679479793157889 := ()
def PySem.W.Fast.tw14608078456125582145 := ()
def PySem.W.Fast.tw2787501785108066145 := ()
def PySem.W.Fast.tw5711197229615270753 := ()
def PySem.W.Fast.tw2531695116824054657 := ()
def PySem.W.Fast.tw17538325882224193409 := ()
def PySem.W.Fast.tw11010992203512047489 := ()
def PySem.W.Fast.tw4519471942719281057 := ()
def PySem.W.Fast.tw17262226685286081473 := ()
def PySem.W.Fast.tw3160873534651931617 := ()
def PySem.W.Fast.tw12978846191940222114 := ()
def PySem.W.Fast.tw13247005881323007170 := ()
def PySem.W.Fast.tw173164995930276034 := ()
def PySem.W.Fast.tw8965244792668056770 := ()
def PySem.W.Fast.tw11129375682961108322 := ()
def PySem.W.Fast.tw9296030397072374114 := ()
def PySem.W.Fast.tw8606053426971641314 := ()
def PySem.W.Fast.tw2189348166076709410 := ()
def PySem.W.Fast.tw16120181731794708034 := ()
def PySem.W.Fast.tw7664320854041127490 := ()
def PySem.W.Fast.tw12429836438729696962 := ()
def PySem.W.Fast.tw5192285796382318306 := ()
def PySem.W.Fast.tw1261970035294811874 := ()
def PySem.W.Fast.tw11122873168518173474 := ()
def PySem.W.Fast.tw14746737563965468707 := ()
def PySem.W.Fast.tw9646205750823690339 := ()
def PySem.W.Fast.tw13583621258037819555 := ()
def PySem.W.Fast.tw12080649626916739267 := ()
def PySem.W.Fast.tw5989887505676697891 := ()
def PySem.W.Fast.tw1080559945372009795 := ()
def PySem.W.Fast.tw11097996905044643171 := ()
def PySem.W.Fast.tw14358642949567229411 := ()
def PySem.W.Fast.tw6437978997499785795 := ()
def PySem.W.Fast.tw10109130364438520419 := ()
def PySem.W.Fast.tw2480549077016620707 := ()
def PySem.W.Fast.tw14419994774499955459 := ()
def PySem.W.Fast.tw10007179685743230787 := ()
def PySem.W.Fast.tw14273156166673396579 := ()
def PySem.W.Fast.tw11239871859754803075 := ()
def PySem.W.Fast.tw4665495397230135235 := ()
def PySem.W.Fast.tw1289729477324585988 := ()
def PySem.W.Fast.tw10822829278221416484 := ()
def PySem.W.Fast.tw17338716580693200996 := ()
def PySem.W.Fast.tw7546653121414310020 := ()
def PySem.W.Fast.tw2529009485323058308 := ()
def PySem.W.Fast.tw11435846955849070788 := ()
def PySem.W.Fast.tw12058681962565898500 := ()
def PySem.W.Fast.tw3945175312899056964 := ()
def PySem.W.Fast.tw5843913919355154820 := ()
def PySem.W.Fast.tw13709055427278568932 := ()
def PySem.W.Fast.tw5613160001062599204 := ()
def PySem.W.Fast.tw1622853017775845028 := ()
def PySem.W.Fast.tw14370076042749983428 := ()
def PySem.W.Fast.tw4901654711597619940 := ()
def PySem.W.Fast.tw5180971690260976420 := ()
def PySem.W.Fast.tw2105989502888303428 := ()
def PySem.W.Fast.tw9232956883691778916 := ()
def PySem.W.Fast.tw17657335903730781060 := ()
def PySem.W.Fast.tw3663201079766858692 := ()
def PySem.W.Fast.tw14956035311456214181 := ()
def PySem.W.Fast.tw14932840866436476069 := ()
def PySem.W.Fast.tw5278733049232288965 := ()
def PySem.W.Fast.tw7580608772420300997 := ()
def PySem.W.Fast.tw8753549930180792549 := ()
def PySem.W.Fast.tw6811854132087332101 := ()
def PySem.W.Fast.tw11715276693665228133 := ()
def PySem.W.Fast.tw14061468303380391557 := ()
def PySem.W.Fast.tw8507130885059417829 := ()
def PySem.W.Fast.tw12127537419642707717 := ()
def PySem.W.Fast.tw8834646798627483429 := ()
def PySem.W.Fast.tw15012205284560301861 := ()
def PySem.W.Fast.tw2574235192379745093 := ()
def PySem.W.Fast.tw7652131664888800101 := ()
def PySem.W.Fast.tw3631460284336310149 := ()
def PySem.W.Fast.tw9473695747353880485 := ()
def PySem.W.Fast.tw4354628275019441061 := ()
def PySem.W.Fast.tw18263243671259031590 := ()
def PySem.W.Fast.tw12252569645149726758 := ()
def PySem.W.Fast.tw9395289132138264614 := ()
def PySem.W.Fast.tw3504345940486479942 := ()
def PySem.W.Fast.tw13864598889232337062 := ()
def PySem.W.Fast.tw9659220110225297670 := ()
def PySem.W.Fast.tw8262012448064432422 := ()
def PySem.W.Fast.tw2251762621994171750 := ()
def PySem.W.Fast.tw13240081472307817894 := ()
def PySem.W.Fast.tw2439960087128836550 := ()
def PySem.W.Fast.tw6437793474036632038 := ()
def PySem.W.Fast.tw5256119150092633574 := ()
def PySem.W.Fast.tw3751356346598142534 := ()
def PySem.W.Fast.tw12848691942360179302 := ()
def PySem.W.Fast.tw3925746560055086950 := ()
def PySem.W.Fast.tw9454848700126764006 := ()
def PySem.W.Fast.tw15295590031022630983 := ()
def PySem.W.Fast.tw1255026385718042727 := ()
def PySem.W.Fast.tw96184101744009383 := ()
def PySem.W.Fast.tw9198897533260743111 := ()
def PySem.W.Fast.tw8297143367624563175 := ()
def PySem.W.Fast.tw4525383749427073639 := ()
def PySem.W.Fast.tw1341929778780142183 := ()
def PySem.W.Fast.tw15138778747653718759 := ()
def PySem.W.Fast.tw15736826186883539719 := ()
def PySem.W.Fast.tw9972674568267396967 := ()
def PySem.W.Fast.tw6790312367219859335 := ()
def PySem.W.Fast.tw14447852034847471624 := ()
def PySem.W.Fast.tw7726762183952832712 := ()
def PySem.W.Fast.tw13126903799414337736 := ()
def PySem.W.Fast.tw750367405937002728 := ()
def PySem.W.Fast.tw7159051361537974536 := ()
def PySem.W.Fast.tw1378108349624410376 := ()
def PySem.W.Fast.tw13986781291681557800 := ()
def PySem.W.Fast.tw12419553143223038312 := ()
def PySem.W.Fast.tw15845637852295933320 := ()
def PySem.W.Fast.tw6166401760928480648 := ()
def PySem.W.Fast.tw17554679487694946952 := ()
def PySem.W.Fast.tw14184348590093816488 := ()
def PySem.W.Fast.tw16780707769802669896 := ()
def PySem.W.Fast.tw8414386659890295656 := ()
def PySem.W.Fast.tw329648218235456424 := ()
def PySem.W.Fast.tw9077122456415989672 := ()
def PySem.W.Fast.tw9055285940543058856 := ()
def PySem.W.Fast.tw3023099250968143848 := ()
def PySem.W.Fast.tw3573916257954568201 := ()
def PySem.W.Fast.tw14935944596925800617 := ()
def PySem.W.Fast.tw14430305628347383017 := ()
def PySem.W.Fast.tw10167193417738442025 := ()
def PySem.W.Fast.tw1170453086467385705 := ()
def PySem.W.Fast.tw6694762165016901065 := ()
def PySem.W.Fast.tw4473706575773724105 := ()
def PySem.W.Fast.tw17965212331263679145 := ()
def PySem.W.Fast.tw16330590548788833961 := ()
def PySem.W.Fast.tw2870596760208365289 := ()
def PySem.W.Fast.tw15768640424992653065 := ()
def PySem.W.Fast.tw18359757449428168457 := ()
def PySem.W.Fast.tw3484358726673314697 := ()
def PySem.W.Fast.tw5269132679164097449 := ()
def PySem.W.Fast.tw11088410878468763593 := ()
def PySem.W.Fast.tw13115280871893399529 := ()
def PySem.W.Fast.tw15794243387125040105 := ()
def PySem.W.Fast.tw5567283746050824202 := ()
def PySem.W.Fast.tw7084563227493197866 := ()
def PySem.W.Fast.tw8452619228953243818 := ()
def PySem.W.Fast.tw11279794570798128298 := ()
def PySem.W.Fast.tw16498123482775359786 := ()
def PySem.W.Fast.tw90682012420468042 := ()
def PySem.W.Fast.tw3783492956733709706 := ()
def PySem.W.Fast.tw16355345382915685770 := ()
def PySem.W.Fast.tw4041531208433836522 := ()
def PySem.W.Fast.tw12048839738357469738 := ()
def PySem.W.Fast.tw2124728168107378250 := ()
def PySem.W.Fast.tw6365063416991429194 := ()
def PySem.W.Fast.tw6328571657959609226 := ()
def PySem.W.Fast.tw13131286936290146315 := ()
def PySem.W.Fast.tw1788567757799264363 := ()
def PySem.W.Fast.tw13325424221722983531 := ()
def PySem.W.Fast.tw2911873888646416491 := ()
def PySem.W.Fast.tw2825878754698285163 := ()
def PySem.W.Fast.tw11655383328919762091 := ()
def PySem.W.Fast.tw16547584822365066443 := ()
def PySem.W.Fast.tw3043678835672195403 := ()
def PySem.W.Fast.tw2198148696424071531 := ()
def PySem.W.Fast.tw7016618404652653995 := ()
def PySem.W.Fast.tw9937433041180141035 := ()
def PySem.W.Fast.tw9072783699730793003 := ()
def PySem.W.Fast.tw10334267474365857387 := ()
def PySem.W.Fast.tw16805649137859144331 := ()
def PySem.W.Fast.tw10894152289089273547 := ()
def PySem.W.Fast.tw4020331378520804107 := ()
def PySem.W.Fast.tw565285032758013739 := ()
def PySem.W.Fast.tw12045124759495511947 := ()
def PySem.W.Fast.tw10249737417622017931 := ()
def PySem.W.Fast.tw14695985416117798891 := ()
def PySem.W.Fast.tw4974634289157276748 := ()
def PySem.W.Fast.tw9519769621008248940 := ()
def PySem.W.Fast.tw15967419715399804076 := ()
def PySem.W.Fast.tw9234447260325054732 := ()
def PySem.W.Fast.tw3059636525055582476 := ()
def PySem.W.Fast.tw4949561089224989964 := ()
def PySem.W.Fast.tw1254262207995250060 := ()
def PySem.W.Fast.tw16070848552160153036 := ()
def PySem.W.Fast.tw7963467863553756620 := ()
def PySem.W.Fast.tw9464098675802216940 := ()
def PySem.W.Fast.tw5238748468846676460 := ()
def PySem.W.Fast.tw620550880124458540 := ()
def PySem.W.Fast.tw17421048895397856812 := ()
def PySem.W.Fast.tw18343027256638392172 := ()
def PySem.W.Fast.tw1368981561301913452 := ()
def PySem.W.Fast.tw2628095612519417708 := ()
def PySem.W.Fast.tw3552138701520460684 := ()
def PySem.W.Fast.tw4459468755500014508 := ()
def PySem.W.Fast.tw6061325459757257644 := ()
def PySem.W.Fast.tw11511910451992260556 := ()
def PySem.W.Fast.tw7500060888188128236 := ()
def PySem.W.Fast.tw6541577562149229773 := ()
def PySem.W.Fast.tw2033019958959862061 := ()
def PySem.W.Fast.tw12923010875601142125 := ()
def PySem.W.Fast.tw15001180250765552013 := ()
def PySem.W.Fast.tw6577782815515590157 := ()
def PySem.W.Fast.tw10900566922001847853 := ()
def PySem.W.Fast.tw8468709416562093613 := ()
def PySem.W.Fast.tw13138468164361055821 := ()
def PySem.W.Fast.tw2517010775225001581 := ()
def PySem.W.Fast.tw9429889143754563277 := ()
def PySem.W.Fast.tw2738348828606670573 := ()
def PySem.W.Fast.tw15611486958624206637 := ()
def PySem.W.Fast.tw1452761488428819277 := ()
def PySem.W.Fast.tw17716077594770788205 := ()
def PySem.W.Fast.tw13911839741278894126 := ()
def PySem.W.Fast.tw10953181437264663726 := ()
def PySem.W.Fast.tw9846595385139047662 := ()
def PySem.W.Fast.tw8374583129314678030 := ()
def PySem.W.Fast.tw863464652815467982 := ()
def PySem.W.Fast.tw16874125809700441550 := ()
def PySem.W.Fast.tw6264971870983820846 := ()
def PySem.W.Fast.tw6094652161605735214 := ()
def PySem.W.Fast.tw11123297831767770062 := ()
def PySem.W.Fast.tw2519684491822598287 := ()
def PySem.W.Fast.tw14163545210535435439 := ()
def PySem.W.Fast.tw859233950298955951 := ()
def PySem.W.Fast.tw10943258759919857967 := ()
def PySem.W.Fast.tw5272245225321734479 := ()
def PySem.W.Fast.tw8566426083388534095 := ()
def PySem.W.Fast.tw4002958654055990639 := ()
def PySem.W.Fast.tw9097341948812417391 := ()
def PySem.W.Fast.tw16595017469980508559 := ()
def PySem.W.Fast.tw14691181632155686319 := ()
def PySem.W.Fast.tw13580716057834198447 := ()
def PySem.W.Fast.tw8510128684105391535 := ()
def PySem.W.Fast.tw4136462062341302927 := ()
def PySem.W.Fast.tw17128462115805330095 := ()
def PySem.W.Fast.tw17188383649786524431 := ()
def PySem.W.Fast.tw1829170519828537103 := ()
def PySem.W.Fast.tw6528138596795302735 := ()
def PySem.W.Fast.tw5178381562087436207 := ()
def PySem.W.Fast.tw1928512627910023119 := ()
def PySem.W.Fast.tw17989130790141460463 := ()
def PySem.W.Fast.tw13487323373297335376 := ()
def PySem.W.Fast.tw18377153778405913776 := ()
def PySem.W.Fast.tw5593128604512932048 := ()
def PySem.W.Fast.tw7076225187138318576 := ()
def PySem.W.Fast.tw5802749434986198256 := ()
def PySem.W.Fast.tw4488028177957361936 := ()
def PySem.W.Fast.tw4329131338014276016 := ()
def PySem.W.Fast.tw4164682465961878000 := ()
def PySem.W.Fast.tw2346858994834990608 := ()
def PySem.W.Fast.tw963615051225176624 := ()
def PySem.W.Fast.tw15453018734647476880 := ()
def PySem.W.Fast.tw14529401995871336080 := ()
def PySem.W.Fast.tw2795786600893650864 := ()
def PySem.W.Fast.tw15785658157419245617 := ()
def PySem.W.Fast.tw17570445120557233233 := ()
def PySem.W.Fast.tw8596142822587418897 := ()
def PySem.W.Fast.tw11089763507678945745 := ()
def PySem.W.Fast.tw1383369463980382769 := ()
def PySem.W.Fast.tw2789913564452590161 := ()
def PySem.W.Fast.tw16418494749477149265 := ()
def PySem.W.Fast.tw3202740733898333777 := ()
def PySem.W.Fast.tw3826919314616319729 := ()
def PySem.W.Fast.tw2148519311384513361 := ()
def PySem.W.Fast.tw12250269312786673489 := ()
def PySem.W.Fast.tw14016596492026702673 := ()
def PySem.W.Fast.tw11555263116250303345 := ()
def PySem.W.Fast.tw4526151150629432273 := ()
def PySem.W.Fast.tw17390853420479662162 := ()
def PySem.W.Fast.tw12852713661011917906 := ()
def PySem.W.Fast.tw2150033471333580914 := ()
def PySem.W.Fast.tw3161299176707496114 := ()
def PySem.W.Fast.tw6527347013558114610 := ()
def PySem.W.Fast.tw2885499042716497266 := ()
def PySem.W.Fast.tw1995134143115229554 := ()
def PySem.W.Fast.tw12570049208167365138 := ()
def PySem.W.Fast.tw5081292855891325522 := ()
def PySem.W.Fast.tw13046222976480285298 := ()
def PySem.W.Fast.tw16905363410608082578 := ()
def PySem.W.Fast.tw1411729092621322930 := ()
def PySem.W.Fast.tw9318341186195539698 := ()
def PySem.W.Fast.tw11973753063935628210 := ()
def PySem.W.Fast.tw7065866402398156786 := ()
def PySem.W.Fast.tw9648925229423643634 := ()
def PySem.W.Fast.tw4850193773569551379 := ()
def PySem.W.Fast.tw16510473711968940083 := ()
def PySem.W.Fast.tw5709791465947582547 := ()
def PySem.W.Fast.tw18039438065304566867 := ()
def PySem.W.Fast.tw5894844879326971987 := ()
def PySem.W.Fast.tw5251551490681301203 := ()
def PySem.W.Fast.tw6524042480686428499 := ()
def PySem.W.Fast.tw2243276612601294195 := ()
def PySem.W.Fast.tw13487260240401661363 := ()
def PySem.W.Fast.tw1332869803762373075 := ()
def PySem.W.Fast.tw10271275278380511763 := ()
def PySem.W.Fast.tw2398203550097263123 := ()
def PySem.W.Fast.tw15085897270527411763 := ()
def PySem.W.Fast.tw7840857746925981267 := ()
def PySem.W.Fast.tw6575482187472744019 := ()
def PySem.W.Fast.tw7217554701660944051 := ()
def PySem.W.Fast.tw3844910809954511635 := ()
def PySem.W.Fast.tw17777231583975925555 := ()
def PySem.W.Fast.tw17457265596539744115 := ()
def PySem.W.Fast.tw18404009174430207955 := ()
def PySem.W.Fast.tw6388468078373024755 := ()
def PySem.W.Fast.tw11318378631409658900 := ()
def PySem.W.Fast.tw10959510411392797940 := ()
def PySem.W.Fast.tw5712629460279920948 := ()
def PySem.W.Fast.tw13916813898560229684 := ()
def PySem.W.Fast.tw7365707524213910996 := ()
def PySem.W.Fast.tw2764759996806610516 := ()
def PySem.W.Fast.tw12609823808820734900 := ()
def PySem.W.Fast.tw12989990133220880340 := ()
def PySem.W.Fast.tw300032212937227220 := ()
def PySem.W.Fast.tw16980605939905501172 := ()
def PySem.W.Fast.tw3250624001116291060 := ()
def PySem.W.Fast.tw7846607102716444693 := ()
def PySem.W.Fast.tw1688188791249357877 := ()
def PySem.W.Fast.tw922998266492276853 := ()
def PySem.W.Fast.tw11536847961467277493 := ()
def PySem.W.Fast.tw9861689414530770133 := ()
def PySem.W.Fast.tw7956638283613635893 := ()
def PySem.W.Fast.tw12163736984419821973 := ()
def PySem.W.Fast.tw11166843449526597045 := ()
def PySem.W.Fast.tw18118055288822528501 := ()
def PySem.W.Fast.tw1524931072663702037 := ()
def PySem.W.Fast.tw14157779391986750133 := ()
def PySem.W.Fast.tw12426014711235598069 := ()
def PySem.W.Fast.tw10783226479160069941 := ()
def PySem.W.Fast.tw13929617404251670357 := ()
def PySem.W.Fast.tw4895855334912239477 := ()
def PySem.W.Fast.tw1233900533452533717 := ()
def PySem.W.Fast.tw9508321330047880181 := ()
def PySem.W.Fast.tw6555777335457363062 := ()
def PySem.W.Fast.tw14181157241123432758 := ()
def PySem.W.Fast.tw5095100025146816886 := ()
def PySem.W.Fast.tw16481877577066138070 := ()
def PySem.W.Fast.tw14021425562150034934 := ()
def PySem.W.Fast.tw2083796098383813110 := ()
def PySem.W.Fast.tw13639383993864119862 := ()
def PySem.W.Fast.tw17759442644207996470 := ()
def PySem.W.Fast.tw1696063007268019798 := ()
def PySem.W.Fast.tw6128240155846423190 := ()
def PySem.W.Fast.tw9109138345737349782 := ()
def PySem.W.Fast.tw16200568532003324630 := ()
def PySem.W.Fast.tw2620822822041619190 := ()
def PySem.W.Fast.tw10557314667490390902 := ()
def PySem.W.Fast.tw2069060556639265847 := ()
def PySem.W.Fast.tw2822771833332180055 := ()
def PySem.W.Fast.tw15390736933853209783 := ()
def PySem.W.Fast.tw7803411724037700791 := ()
def PySem.W.Fast.tw3706567152803058935 := ()
def PySem.W.Fast.tw14235425743847463191 := ()
def PySem.W.Fast.tw17985205908369138007 := ()
def PySem.W.Fast.tw1013046939237824951 := ()
def PySem.W.Fast.tw15710695659735717463 := ()
def PySem.W.Fast.tw3749716892502799095 := ()
def PySem.W.Fast.tw14690687555810497367 := ()
def PySem.W.Fast.tw10309348295932129111 := ()
def PySem.W.Fast.tw2839311323790427031 := ()
def PySem.W.Fast.tw14525881835753062391 := ()
def PySem.W.Fast.tw9713348505897425911 := ()
def PySem.W.Fast.tw6511338958465991704 := ()
def PySem.W.Fast.tw4206919981739645976 := ()
def PySem.W.Fast.tw10090107869136093304 := ()
def PySem.W.Fast.tw6499601939759865976 := ()
def PySem.W.Fast.tw11419339047353046136 := ()
def PySem.W.Fast.tw284637593865979032 := ()
def PySem.W.Fast.tw1062523042194460856 := ()
def PySem.W.Fast.tw11683836333950379192 := ()
def PySem.W.Fast.tw4333819899542124760 := ()
def PySem.W.Fast.tw4377300425598243032 := ()
def PySem.W.Fast.tw12725611420520190360 := ()
def PySem.W.Fast.tw5176382423903278488 := ()
def PySem.W.Fast.tw3684398252357603992 := ()
def PySem.W.Fast.tw9743240520818826936 := ()
def PySem.W.Fast.tw5693011408559758008 := ()
def PySem.W.Fast.tw3531723392389378840 := ()
def PySem.W.Fast.tw2162654688365255608 := ()
def PySem.W.Fast.tw9048500768178879609 := ()
def PySem.W.Fast.tw17716290958803996921 := ()
def PySem.W.Fast.tw8094870066495164697 := ()
def PySem.W.Fast.tw6402772724635051289 := ()
def PySem.W.Fast.tw10009755729353036057 := ()
def PySem.W.Fast.tw16364692615529954681 := ()
def PySem.W.Fast.tw13060624401362434457 := ()
def PySem.W.Fast.tw14807478171797232057 := ()
def PySem.W.Fast.tw6637162774365515225 := ()
def PySem.W.Fast.tw8999027933330430489 := ()
def PySem.W.Fast.tw6511531544686359065 := ()
def PySem.W.Fast.tw6246753556975666809 := ()
def PySem.W.Fast.tw7163624362835379001 := ()
def PySem.W.Fast.tw2187428826063487865 := ()
def PySem.W.Fast.tw15902151517634223001 := ()
def PySem.W.Fast.tw3065634530236978169 := ()
def PySem.W.Fast.tw8088328081157880825 := ()
def PySem.W.Fast.tw10586851628584001594 := ()
def PySem.W.Fast.tw8750624927657354394 := ()
def PySem.W.Fast.tw13121735456094340314 := ()
def PySem.W.Fast.tw3993292224593529082 := ()
def PySem.W.Fast.tw399750283688274234 := ()
def PySem.W.Fast.tw16898584280022560122 := ()
def PySem.W.Fast.tw8481803071870122426 := ()
def PySem.W.Fast.tw14053704537710229946 := ()
def PySem.W.Fast.tw7484219575822208506 := ()
def PySem.W.Fast.tw4934491136183667354 := ()
def PySem.W.Fast.tw16674464746931364666 := ()
def PySem.W.Fast.tw8922756934043581274 := ()
def PySem.W.Fast.tw3003888857748241242 := ()
def PySem.W.Fast.tw14754059650011675546 := ()
def PySem.W.Fast.tw8544193264946864090 := ()
def PySem.W.Fast.tw12393914641311415290 := ()
def PySem.W.Fast.tw2951753843908263995 := ()
def PySem.W.Fast.tw16048214818458222683 := ()
def PySem.W.Fast.tw10750809661689543835 := ()
def PySem.W.Fast.tw12635007519339635867 := ()
def PySem.W.Fast.tw18315301612522261755 := ()
def PySem.W.Fast.tw9685024030504896795 := ()
def PySem.W.Fast.tw9738960930842046747 := ()
def PySem.W.Fast.tw17546777100388996443 := ()
def PySem.W.Fast.tw5669606991121136123 := ()
def PySem.W.Fast.tw18278572294621958683 := ()
def PySem.W.Fast.tw7567656810867368539 := ()
def PySem.W.Fast.tw11220031863700003419 := ()
def PySem.W.Fast.tw18234382460205819579 := ()
def PySem.W.Fast.tw4312174462562850555 := ()
def PySem.W.Fast.tw3888745963458274171 := ()
def PySem.W.Fast.tw7290051534217954171 := ()
def PySem.W.Fast.tw3581782826155702139 := ()
def PySem.W.Fast.tw17016623405451443131 := ()
def PySem.W.Fast.tw13913504334279463964 := ()
def PySem.W.Fast.tw15039880006830968892 := ()
def PySem.W.Fast.tw4633947445545316412 := ()
def PySem.W.Fast.tw13838154312669231260 := ()
def PySem.W.Fast.tw12963673592937095356 := ()
def PySem.W.Fast.tw14462766900830802204 := ()
def PySem.W.Fast.tw2642311858769074652 := ()
def PySem.W.Fast.tw4014036427452176988 := ()
def PySem.W.Fast.tw386794594836478556 := ()
def PySem.W.Fast.tw2356949440676797084 := ()
def PySem.W.Fast.tw17239395201637266076 := ()
def PySem.W.Fast.tw8564160526293120732 := ()
def PySem.W.Fast.tw4030403522133941052 := ()
def PySem.W.Fast.tw3152798392585547612 := ()
def PySem.W.Fast.tw16855536820574046044 := ()
def PySem.W.Fast.tw2071449050244970364 := ()
def PySem.W.Fast.tw15512474922617136028 := ()
def PySem.W.Fast.tw17365050576326193116 := ()
def PySem.W.Fast.tw18265773476829839389 := ()
def PySem.W.Fast.tw10128885984219141309 := ()
def PySem.W.Fast.tw10315569174913544413 := ()
def PySem.W.Fast.tw8706682365517104445 := ()
def PySem.W.Fast.tw10450180826536158557 := ()
def PySem.W.Fast.tw5426064966227791229 := ()
def PySem.W.Fast.tw5876677343572529597 := ()
def PySem.W.Fast.tw5889190026968058333 := ()
def PySem.W.Fast.tw16092663841480303325 := ()
def PySem.W.Fast.tw4385406499027383037 := ()
def PySem.W.Fast.tw9978666633171906333 := ()
def PySem.W.Fast.tw534511081024929597 := ()
def PySem.W.Fast.tw8671728970079797053 := ()
def PySem.W.Fast.tw11240140015797243773 := ()
def PySem.W.Fast.tw16864490054030427101 := ()
def PySem.W.Fast.tw17203121155031095293 := ()
def PySem.W.Fast.tw2522611545339837502 := ()
def PySem.W.Fast.tw16632703950825976926 := ()
def PySem.W.Fast.tw7787901570560588926 := ()
def PySem.W.Fast.tw503048800358247742 := ()
def PySem.W.Fast.tw3698528258646495614 := ()
def PySem.W.Fast.tw3783705275566159422 := ()
def PySem.W.Fast.tw3651839187122822782 := ()
def PySem.W.Fast.tw3241086857149520606 := ()
def PySem.W.Fast.tw1335009105568112350 := ()
def PySem.W.Fast.tw6290634289401667294 := ()
def PySem.W.Fast.tw11876255990853331710 := ()
def PySem.W.Fast.tw6222607678939608926 := ()
def PySem.W.Fast.tw17270936487656057822 := ()
def PySem.W.Fast.tw4415393539309945951 := ()
def PySem.W.Fast.tw13258606002685927519 := ()
def PySem.W.Fast.tw4336378565477918911 := ()
def PySem.W.Fast.tw16299538210851247327 := ()
def PySem.W.Fast.tw8080778528137934143 := ()
def PySem.W.Fast.tw17010245798664399199 := ()
def PySem.W.Fast.tw239641688560986591 := ()
def PySem.W.Fast.tw4043684141821252095 := ()
def PySem.W.Fast.tw11107183687527881375 := ()
def PySem.W.Fast.tw14223781599922349759 := ()
def PySem.W.Fast.tw986203365410786175 := ()
def PySem.W.Fast.tw11900557598935647135 := ()
def PySem.W.Fast.tw5235822470467368927 := ()
def PySem.W.Fast.tw8184539862600871903 := ()
def PySem.W.Fast.tw5201142256478554111 := ()
open PySem PySem.W PyProof.Rows
set_option maxRecDepth 100000 in
set_option maxHeartbeats 0 in
theorem PySem.Challenge.cw_roomalgebra_k32_texts_with_brackets_holds : PySem.Challenge.rw_roomalgebra_k32_texts_with_brackets.Holds := by
  w_on; o_law; z_head; (case hw => w_witness2)
  k_fill
  intro w sa sb mg mb G ye fa ob pm cd dc dv kv e1 e2 e3 e4 e5 e6 gs vs bs La c1 c2 c3 c4 c5
  z_open ye La KX ZH ZN ZT
  clear ye La ZH ZN ZT
  refine L2.walk63z (k := 128) (x := "_law_script") (l := PySem.Challenge.rw_roomalgebra_k32_texts_with_brackets) rfl rfl ⟨rfl, by decide, by decide⟩ ?F w sa sb mg mb G KX fa ob pm cd dc dv kv e1 e2 e3 e4 e5 e6 gs vs bs c1 c2 c3 c4 c5
  case F =>
    intro w mg fa h KX G hmg
    refine' K32.all_mk KX G hmg ?a0 ?l0 ?c0 ?k0 ?a1 ?l1 ?c1 ?k1 ?a2 ?l2 ?c2 ?k2 ?a3 ?l3 ?c3 ?k3 ?a4 ?l4 ?c4 ?k4 ?a5 ?l5 ?c5 ?k5 ?a6 ?l6 ?c6 ?k6 ?a7 ?l7 ?c7 ?k7 ?a8 ?l8 ?c8 ?k8 ?a9 ?l9 ?c9 ?k9 ?a10 ?l10 ?c10 ?k10 ?a11 ?l11 ?c11 ?k11 ?a12 ?l12 ?c12 ?k12 ?a13 ?l13 ?c13 ?k13 ?a14 ?l14 ?c14 ?k14 ?a15 ?l15 ?c15 ?k15 ?a16 ?l16 ?c16 ?k16 ?a17 ?l17 ?c17 ?k17 ?a18 ?l18 ?c18 ?k18 ?a19 ?l19 ?c19 ?k19 ?a20 ?l20 ?c20 ?k20 ?a21 ?l21 ?c21 ?k21 ?a22 ?l22 ?c22 ?k22 ?a23 ?l23 ?c23 ?k23 ?a24 ?l24 ?c24 ?k24 ?z_len ?z_range ?z_isinst ?z_int ?z_bool ?z_tuple ?z_list ?z_str ?z_enum ?z_min ?n_Pattern ?hn ?htk ?n_Never ?pg_Never ?hd_Never ?po_Never ?sa_Never ?ha_Never ?hm_Never ?ki_Never ?at_Never_sign ?at_Never_left ?at_Never_right ?at_Never_inner ?mk_Never ?kc_Never ?in_Never ?sh_Never ?sf_Never ?sl_Never ?sc_Never ?sk_Never ?n_Empty ?pg_Empty ?hd_Empty ?po_Empty ?sa_Empty ?ha_Empty ?hm_Empty ?ki_Empty ?at_Empty_sign ?at_Empty_left ?at_Empty_right ?at_Empty_inner ?mk_Empty ?kc_Empty ?in_Empty ?sh_Empty ?sf_Empty ?sl_Empty ?sc_Empty ?sk_Empty ?n_AnySign ?pg_AnySign ?hd_AnySign ?po_AnySign ?sa_AnySign ?ha_AnySign ?hm_AnySign ?ki_AnySign ?at_AnySign_sign ?at_AnySign_left ?at_AnySign_right ?at_AnySign_inner ?mk_AnySign ?kc_AnySign ?in_AnySign ?sh_AnySign ?sf_AnySign ?sl_AnySign ?sc_AnySign ?sk_AnySign ?n_Sign ?pg_Sign ?hd_Sign ?po_Sign ?sa_Sign ?ha_Sign ?hm_Sign ?ki_Sign ?at_Sign_sign ?at_Sign_left ?at_Sign_right ?at_Sign_inner ?mk_Sign ?kc_Sign ?in_Sign ?sh_Sign ?sf_Sign ?sl_Sign ?sc_Sign ?sk_Sign ?n_Outside ?pg_Outside ?hd_Outside ?po_Outside ?sa_Outside ?ha_Outside ?hm_Outside ?ki_Outside ?at_Outside_sign ?at_Outside_left ?at_Outside_right ?at_Outside_inner ?mk_Outside ?kc_Outside ?in_Outside ?sh_Outside ?sf_Outside ?sl_Outside ?sc_Outside ?sk_Outside ?n_Turned ?pg_Turned ?hd_Turned ?po_Turned ?sa_Turned ?ha_Turned ?hm_Turned ?ki_Turned ?at_Turned_sign ?at_Turned_left ?at_Turned_right ?at_Turned_inner ?mk_Turned ?kc_Turned ?in_Turned ?sh_Turned ?sf_Turned ?sl_Turned ?sc_Turned ?sk_Turned ?n_Again ?pg_Again ?hd_Again ?po_Again ?sa_Again ?ha_Again ?hm_Again ?ki_Again ?at_Again_sign ?at_Again_left ?at_Again_right ?at_Again_inner ?mk_Again ?kc_Again ?in_Again ?sh_Again ?sf_Again ?sl_Again ?sc_Again ?sk_Again ?n_Either ?pg_Either ?hd_Either ?po_Either ?sa_Either ?ha_Either ?hm_Either ?ki_Either ?at_Either_sign ?at_Either_left ?at_Either_right ?at_Either_inner ?mk_Either ?kc_Either ?in_Either ?sh_Either ?sf_Either ?sl_Either ?sc_Either ?sk_Either ?n_Less ?pg_Less ?hd_Less ?po_Less ?sa_Less ?ha_Less ?hm_Less ?ki_Less ?at_Less_sign ?at_Less_left ?at_Less_right ?at_Less_inner ?mk_Less ?kc_Less ?in_Less ?sh_Less ?sf_Less ?sl_Less ?sc_Less ?sk_Less ?n_Both ?pg_Both ?hd_Both ?po_Both ?sa_Both ?ha_Both ?hm_Both ?ki_Both ?at_Both_sign ?at_Both_left ?at_Both_right ?at_Both_inner ?mk_Both ?kc_Both ?in_Both ?sh_Both ?sf_Both ?sl_Both ?sc_Both ?sk_Both ?n_Then ?pg_Then ?hd_Then ?po_Then ?sa_Then ?ha_Then ?hm_Then ?ki_Then ?at_Then_sign ?at_Then_left ?at_Then_right ?at_Then_inner ?mk_Then ?kc_Then ?in_Then ?sh_Then ?sf_Then ?sl_Then ?sc_Then ?sk_Then ?if_Sign ?il_Sign ?ic_Sign ?ik_Sign ?if_Around ?il_Around ?ic_Around ?ik_Around ?if_Pair ?il_Pair ?ic_Pair ?ik_Pair ?rn_SIGNS ?rl_SIGNS ?re_SIGNS ?rs_SIGNS ?rn_KINDS ?rl_KINDS ?re_KINDS ?rs_KINDS ?rn_STRENGTHS ?rl_STRENGTHS ?re_STRENGTHS ?rs_STRENGTHS ?rn_Desk ?pg_Desk ?hd_Desk ?po_Desk ?sa_Desk ?at_Desk_patterns ?at_Desk_waiting ?mk_Desk ?kc_Desk ?in_Desk ?if_Desk ?il_Desk ?ic_Desk ?ik_Desk ?tx_Never ?tx_Empty ?tx_AnySign ?tx_Sign ?tx_Outside ?tx_Turned ?tx_Again ?tx_Either ?tx_Less ?tx_Both ?tx_Then ?if_text ?il_text ?ic_text ?ik_text
    (case a0 => k_is); (case l0 => k_is); (case c0 => k_is); (case k0 => k_is)
    (case a1 => k_is); (case l1 => k_is); (case c1 => k_is); (case k1 => k_is)
    (case a2 => k_is); (case l2 => k_is); (case c2 => k_is); (case k2 => k_is)
    (case a3 => k_is); (case l3 => k_is); (case c3 => k_is); (case k3 => k_is)
    (case a4 => k_is); (case l4 => k_is); (case c4 => k_is); (case k4 => k_is)
    (case a5 => k_is); (case l5 => k_is); (case c5 => k_is); (case k5 => k_is)
    (case a6 => k_is); (case l6 => k_is); (case c6 => k_is); (case k6 => k_is)
    (case a7 => k_is); (case l7 => k_is); (case c7 => k_is); (case k7 => k_is)
    (case a8 => k_is); (case l8 => k_is); (case c8 => k_is); (case k8 => k_is)
    (case a9 => k_is); (case l9 => k_is); (case c9 => k_is); (case k9 => k_is)
    (case a10 => k_is); (case l10 => k_is); (case c10 => k_is); (case k10 => k_is)
    (case a11 => k_is); (case l11 => k_is); (case c11 => k_is); (case k11 => k_is)
    (case a12 => k_is); (case l12 => k_is); (case c12 => k_is); (case k12 => k_is)
    (case a13 => k_is); (case l13 => k_is); (case c13 => k_is); (case k13 => k_is)
    (case a14 => k_is); (case l14 => k_is); (case c14 => k_is); (case k14 => k_is)
    (case a15 => k_is); (case l15 => k_is); (case c15 => k_is); (case k15 => k_is)
    (case a16 => k_is); (case l16 => k_is); (case c16 => k_is); (case k16 => k_is)
    (case a17 => k_is); (case l17 => k_is); (case c17 => k_is); (case k17 => k_is)
    (case a18 => k_is); (case l18 => k_is); (case c18 => k_is); (case k18 => k_is)
    (case a19 => k_is); (case l19 => k_is); (case c19 => k_is); (case k19 => k_is)
    (case a20 => k_is); (case l20 => k_is); (case c20 => k_is); (case k20 => k_is)
    (case a21 => k_is); (case l21 => k_is); (case c21 => k_is); (case k21 => k_is)
    (case a22 => k_is); (case l22 => k_is); (case c22 => k_is); (case k22 => k_is)
    (case a23 => k_is); (case l23 => k_is); (case c23 => k_is); (case k23 => k_is)
    (case a24 => k_is); (case l24 => k_is); (case c24 => k_is); (case k24 => k_is)
    (case z_len => k_is)
    (case z_range => k_is)
    (case z_isinst => k_is)
    (case z_int => k_is)
    (case z_bool => k_is)
    (case z_tuple => k_is)
    (case z_list => k_is)
    (case z_str => k_is)
    (case z_enum => k_is)
    (case z_min => k_is)
    (case n_Pattern => k_is)
    (case hn => k_is)
    (case htk => k_is)
    (case n_Never => k_is)
    (case pg_Never => k_is)
    (case hd_Never => k_is)
    (case po_Never => k_is)
    (case sa_Never => k_is)
    (case ha_Never => k_is)
    (case hm_Never => k_is)
    (case ki_Never => kit_is)
    (case at_Never_sign => k_is)
    (case at_Never_left => k_is)
    (case at_Never_right => k_is)
    (case at_Never_inner => k_is)
    (case mk_Never => k_is)
    (case kc_Never => k_is)
    (case in_Never => k_is)
    (case sh_Never => k_is)
    (case sf_Never => k_is)
    (case sl_Never => k_is)
    (case sc_Never => k_is)
    (case sk_Never => k_is)
    (case n_Empty => k_is)
    (case pg_Empty => k_is)
    (case hd_Empty => k_is)
    (case po_Empty => k_is)
    (case sa_Empty => k_is)
    (case ha_Empty => k_is)
    (case hm_Empty => k_is)
    (case ki_Empty => kit_is)
    (case at_Empty_sign => k_is)
    (case at_Empty_left => k_is)
    (case at_Empty_right => k_is)
    (case at_Empty_inner => k_is)
    (case mk_Empty => k_is)
    (case kc_Empty => k_is)
    (case in_Empty => k_is)
    (case sh_Empty => k_is)
    (case sf_Empty => k_is)
    (case sl_Empty => k_is)
    (case sc_Empty => k_is)
    (case sk_Empty => k_is)
    (case n_AnySign => k_is)
    (case pg_AnySign => k_is)
    (case hd_AnySign => k_is)
    (case po_AnySign => k_is)
    (case sa_AnySign => k_is)
    (case ha_AnySign => k_is)
    (case hm_AnySign => k_is)
    (case ki_AnySign => kit_is)
    (case at_AnySign_sign => k_is)
    (case at_AnySign_left => k_is)
    (case at_AnySign_right => k_is)
    (case at_AnySign_inner => k_is)
    (case mk_AnySign => k_is)
    (case kc_AnySign => k_is)
    (case in_AnySign => k_is)
    (case sh_AnySign => k_is)
    (case sf_AnySign => k_is)
    (case sl_AnySign => k_is)
    (case sc_AnySign => k_is)
    (case sk_AnySign => k_is)
    (case n_Sign => k_is)
    (case pg_Sign => k_is)
    (case hd_Sign => k_is)
    (case po_Sign => k_is)
    (case sa_Sign => k_is)
    (case ha_Sign => k_is)
    (case hm_Sign => k_is)
    (case ki_Sign => kit_is)
    (case at_Sign_sign => k_is)
    (case at_Sign_left => k_is)
    (case at_Sign_right => k_is)
    (case at_Sign_inner => k_is)
    (case mk_Sign => k_is)
    (case kc_Sign => k_is)
    (case in_Sign => k_is)
    (case sh_Sign => k_is)
    (case sf_Sign => k_is)
    (case sl_Sign => k_is)
    (case sc_Sign => k_is)
    (case sk_Sign => k_is)
    (case n_Outside => k_is)
    (case pg_Outside => k_is)
    (case hd_Outside => k_is)
    (case po_Outside => k_is)
    (case sa_Outside => k_is)
    (case ha_Outside => k_is)
    (case hm_Outside => k_is)
    (case ki_Outside => kit_is)
    (case at_Outside_sign => k_is)
    (case at_Outside_left => k_is)
    (case at_Outside_right => k_is)
    (case at_Outside_inner => k_is)
    (case mk_Outside => k_is)
    (case kc_Outside => k_is)
    (case in_Outside => k_is)
    (case sh_Outside => k_is)
    (case sf_Outside => k_is)
    (case sl_Outside => k_is)
    (case sc_Outside => k_is)
    (case sk_Outside => k_is)
    (case n_Turned => k_is)
    (case pg_Turned => k_is)
    (case hd_Turned => k_is)
    (case po_Turned => k_is)
    (case sa_Turned => k_is)
    (case ha_Turned => k_is)
    (case hm_Turned => k_is)
    (case ki_Turned => kit_is)
    (case at_Turned_sign => k_is)
    (case at_Turned_left => k_is)
    (case at_Turned_right => k_is)
    (case at_Turned_inner => k_is)
    (case mk_Turned => k_is)
    (case kc_Turned => k_is)
    (case in_Turned => k_is)
    (case sh_Turned => k_is)
    (case sf_Turned => k_is)
    (case sl_Turned => k_is)
    (case sc_Turned => k_is)
    (case sk_Turned => k_is)
    (case n_Again => k_is)
    (case pg_Again => k_is)
    (case hd_Again => k_is)
    (case po_Again => k_is)
    (case sa_Again => k_is)
    (case ha_Again => k_is)
    (case hm_Again => k_is)
    (case ki_Again => kit_is)
    (case at_Again_sign => k_is)
    (case at_Again_left => k_is)
    (case at_Again_right => k_is)
    (case at_Again_inner => k_is)
    (case mk_Again => k_is)
    (case kc_Again => k_is)
    (case in_Again => k_is)
    (case sh_Again => k_is)
    (case sf_Again => k_is)
    (case sl_Again => k_is)
    (case sc_Again => k_is)
    (case sk_Again => k_is)
    (case n_Either => k_is)
    (case pg_Either => k_is)
    (case hd_Either => k_is)
    (case po_Either => k_is)
    (case sa_Either => k_is)
    (case ha_Either => k_is)
    (case hm_Either => k_is)
    (case ki_Either => kit_is)
    (case at_Either_sign => k_is)
    (case at_Either_left => k_is)
    (case at_Either_right => k_is)
    (case at_Either_inner => k_is)
    (case mk_Either => k_is)
    (case kc_Either => k_is)
    (case in_Either => k_is)
    (case sh_Either => k_is)
    (case sf_Either => k_is)
    (case sl_Either => k_is)
    (case sc_Either => k_is)
    (case sk_Either => k_is)
    (case n_Less => k_is)
    (case pg_Less => k_is)
    (case hd_Less => k_is)
    (case po_Less => k_is)
    (case sa_Less => k_is)
    (case ha_Less => k_is)
    (case hm_Less => k_is)
    (case ki_Less => kit_is)
    (case at_Less_sign => k_is)
    (case at_Less_left => k_is)
    (case at_Less_right => k_is)
    (case at_Less_inner => k_is)
    (case mk_Less => k_is)
    (case kc_Less => k_is)
    (case in_Less => k_is)
    (case sh_Less => k_is)
    (case sf_Less => k_is)
    (case sl_Less => k_is)
    (case sc_Less => k_is)
    (case sk_Less => k_is)
    (case n_Both => k_is)
    (case pg_Both => k_is)
    (case hd_Both => k_is)
    (case po_Both => k_is)
    (case sa_Both => k_is)
    (case ha_Both => k_is)
    (case hm_Both => k_is)
    (case ki_Both => kit_is)
    (case at_Both_sign => k_is)
    (case at_Both_left => k_is)
    (case at_Both_right => k_is)
    (case at_Both_inner => k_is)
    (case mk_Both => k_is)
    (case kc_Both => k_is)
    (case in_Both => k_is)
    (case sh_Both => k_is)
    (case sf_Both => k_is)
    (case sl_Both => k_is)
    (case sc_Both => k_is)
    (case sk_Both => k_is)
    (case n_Then => k_is)
    (case pg_Then => k_is)
    (case hd_Then => k_is)
    (case po_Then => k_is)
    (case sa_Then => k_is)
    (case ha_Then => k_is)
    (case hm_Then => k_is)
    (case ki_Then => kit_is)
    (case at_Then_sign => k_is)
    (case at_Then_left => k_is)
    (case at_Then_right => k_is)
    (case at_Then_inner => k_is)
    (case mk_Then => k_is)
    (case kc_Then => k_is)
    (case in_Then => k_is)
    (case sh_Then => k_is)
    (case sf_Then => k_is)
    (case sl_Then => k_is)
    (case sc_Then => k_is)
    (case sk_Then => k_is)
    (case if_Sign => k_is)
    (case il_Sign => k_is)
    (case ic_Sign => k_is)
    (case ik_Sign => k_is)
    (case if_Around => k_is)
    (case il_Around => k_is)
    (case ic_Around => k_is)
    (case ik_Around => k_is)
    (case if_Pair => k_is)
    (case il_Pair => k_is)
    (case ic_Pair => k_is)
    (case ik_Pair => k_is)
    (case rn_SIGNS => k_is)
    (case rl_SIGNS => k_is)
    (case re_SIGNS => ((repeat (refine RA.ents_cons rfl (congrArg Sum.inr (by decide +kernel)) rfl (by first | exact RA.rvs (by decide +kernel) | exact ⟨_, rfl⟩) ?_)); exact RA.ents_nil))
    (case rs_SIGNS => decide)
    (case rn_KINDS => k_is)
    (case rl_KINDS => k_is)
    (case re_KINDS => ((repeat (refine RA.ents_cons rfl (congrArg Sum.inr (by decide +kernel)) rfl (by first | exact RA.rvs (by decide +kernel) | exact ⟨_, rfl⟩) ?_)); exact RA.ents_nil))
    (case rs_KINDS => decide)
    (case rn_STRENGTHS => k_is)
    (case rl_STRENGTHS => k_is)
    (case re_STRENGTHS => ((repeat (refine RA.ents_cons rfl (congrArg Sum.inr (by decide +kernel)) rfl (by first | exact RA.rvs (by decide +kernel) | exact ⟨_, rfl⟩) ?_)); exact RA.ents_nil))
    (case rs_STRENGTHS => decide)
    (case rn_Desk => k_is)
    (case pg_Desk => k_is)
    (case hd_Desk => k_is)
    (case po_Desk => k_is)
    (case sa_Desk => k_is)
    (case at_Desk_patterns => k_is)
    (case at_Desk_waiting => k_is)
    (case mk_Desk => k_is)
    (case kc_Desk => k_is)
    (case in_Desk => k_is)
    (case if_Desk => k_is)
    (case il_Desk => k_is)
    (case ic_Desk => k_is)
    (case ik_Desk => k_is)
    (case tx_Never => k_is)
    (case tx_Empty => k_is)
    (case tx_AnySign => k_is)
    (case tx_Sign => k_is)
    (case tx_Outside => k_is)
    (case tx_Turned => k_is)
    (case tx_Again => k_is)
    (case tx_Either => k_is)
    (case tx_Less => k_is)
    (case tx_Both => k_is)
    (case tx_Then => k_is)
    (case if_text => k_is)
    (case il_text => k_is)
    (case ic_text => k_is)
    (case ik_text => k_is)
#print axioms PySem.Challenge.cw_roomalgebra_k32_texts_with_brackets_holds
