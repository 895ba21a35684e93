import PyProof.Rows.All
import Wide.All
import OpenK.AllK
import Wide.FinOn
import Lean
import PyProof.EqAt
import PyProof.EqKinds
import PyProof.TupleCall
import PyProof.Draws
import PyProof.ZipIter
import PySem.Challenge.RW_roomalgebra_k55_by_remainders
set_option Elab.async false
set_option linter.all false
set_option maxRecDepth 100000
local macro_rules|`(($a,$b,*))=>if b.elemsAndSeps.size%2==1 then `(⟨$a,$b,*⟩)else Lean.Macro.throwUnsupported
abbrev LN:=List Nat
abbrev LL:=List LN
open PySem.W (Frag nsIn fnOf kitOne mg_none_of codeIn mg_of keepIn fnMade CodeHd kia_one findIn emptyDict instObj envX tabObj hideAll callWith_K lookIn takerIn plainGet methodObj hasDictIn)
open List (getElem?_eq_getElem length_map length_append getElem?_map replicate getD_eq_getElem?_getD getElem_mem mem_of_getElem? mem_cons mem_singleton mem_range mem_map getElem?_append_left map_append mem_iff_getElem? getElem?_append_right length_range idxOf_lt_length_of_mem mem_append length_cons size_toArray take_length mem_cons_of_mem all_eq_true getElem_idxOf map_cons not_mem_nil lookup_cons length_take mem_append_right mem_cons_self map_map getElem?_range nodup_cons find?_cons length_drop cons_append zipWith take_of_length_le replicate_succ forIn_cons length_replicate flatten_cons forIn_nil length_take_le' append_nil append_assoc map_singleton length_eq_zero_iff mem_filter getElem?_eq_none take_add_one map_congr_left length_reverse filterMap_cons range_succ mem_append_left idxOf_cons getElem?_toArray count_append dropLast_concat_getLast getElem?_zip_eq_some mem_flatMap getElem_inj)
open Nat (le_refl le_trans zero_le lt_of_lt_of_le ne_of_lt le_add_right le_of_not_lt lt_succ_self sub_self not_lt_zero not_lt lt_irrefl lt_of_le_of_lt le_of_eq ne_of_gt le_antisymm lt_succ_iff_lt_or_eq lt_trichotomy lt_trans le_of_lt sub_succ_lt_self add_comm succ_mul)
open PyProof.Rows (boot_tuple boot_str boot_list boot_bool boot_int boot_isinstance boot_zip)
open PySem.Heap (lt_size get?_push_of_some get?_push_size size_push SameBut)
open Option (map_eq_some_iff map_some)
open PySem.F (plainAttrs_list slot_list_index plainAttrs_str type_list_index)
open PySem.Obj (mapSeq)
open PySem.Str (length)
open PySem (boot_len)
open Array (length_toList getElem?_toList mem_iff_getElem)
open Int (toNat_natCast ofNat_lt toNat emod_nonneg)
open Bool (and_eq_true eq_false_iff)
theorem qa1{α:Type _}{l:List α}{i:Nat}{a:α}(h:l[i]?=some a):∃h:i<l.length,l[i]=a:=List.getElem?_eq_some_iff.mp h
theorem qa2{α:Type _}{l:List α}{i:Nat}(h:i<l.length):l[i]?=some l[i]:=List.getElem?_eq_getElem h
theorem qa3{α:Type _}{l:List α}{i:Nat}{a:α}:l.getD i a=l[i]?.getD a:=List.getD_eq_getElem?_getD
theorem qa4{α:Type _}{β:Type _}{l:List α}(f:α->β):(l.map f).length=l.length:=List.length_map f
theorem qa5{α:Type _}{l m:List α}:(l++m).length=l.length+m.length:=List.length_append
theorem qa6{α:Type _}{β:Type _}{f:α->β}{l:List α}{i:Nat}:(l.map f)[i]?=Option.map f l[i]?:=List.getElem?_map
abbrev qa7:=@PySem.wpAny_bind
abbrev qa8:=@PySem.wpAny_pure
abbrev qa9:=@PySem.Heap.get?_push_of_some
theorem qb1{α:Type _}{a b:α}:a∈[b]->a=b:=List.mem_singleton.mp
theorem qb2{α:Type _}{l:List α}{i:Nat}{a:α}(h:l[i]?=some a):a∈l:=List.mem_of_getElem? h
theorem qb3{α:Type _}{β:Type _}{f:α->β}{x:Option α}{b:β}(h:Option.map f x=some b):∃a,x=some a/\f a=b:=Option.map_eq_some_iff.mp h
namespace L2
open PySem PySem.Spec PyProof.Rows
abbrev Key:=Sum Int Str
def bN:Key->Value->Bool
 | .inl k,v=>Value.isInt k v
 | .inr x,v=>Value.isStrOf x v
def qx (w:World):Key->Int
 | .inl k=>hashInt k
 | .inr x=>hashStr w x
theorem keyIs_shape:∀{k:Key} {v:Value},bN k v=true->(∃i t,k=Sum.inl i/\v=Value.int i t)\/(∃x t,k=Sum.inr x/\v=Value.str x t)
 | .inl i,v,h=>by
  obtain ⟨t,e⟩:=Value.isInt_shape (k:=i) (v:=v) h
  exact .inl (i,t,rfl,e)
 | .inr x,v,h=>by
  obtain ⟨t,e⟩:=Value.isStrOf_shape (x:=x) (v:=v) h
  exact .inr (x,t,rfl,e)
theorem jp (i:Int) (t:Tok):bN (.inl i) (.int i t)=true:=by simp [bN,Value.isInt]
theorem jo (x:Str) (t:Tok):bN (.inr x) (.str x t)=true:=by simp [bN,Value.isStrOf]
theorem oQ (a b:Int):decide ((Sum.inl a:Key)=Sum.inl b)=(a==b):=by
 by_cases e:a=b
 .subst e;simp
 .have h:¬ (Sum.inl a:Key)=Sum.inl b:=λq=>e (Sum.inl.inj q)
  rw [decide_eq_false h]
  exact (beq_eq_false_iff_ne.mpr e).symm
theorem oN (a b:Str):decide ((Sum.inr a:Key)=Sum.inr b)=decide (a=b):=by
 by_cases e:a=b
 .subst e;simp
 .have h:¬ (Sum.inr a:Key)=Sum.inr b:=λq=>e (Sum.inr.inj q)
  rw [decide_eq_false h,decide_eq_false e]
theorem oP (a:Int) (b:Str):decide ((Sum.inl a:Key)=Sum.inr b)=false:=decide_eq_false (λq=>nomatch q)
theorem oO (a:Str) (b:Int):decide ((Sum.inr a:Key)=Sum.inl b)=false:=decide_eq_false (λq=>nomatch q)
def e_G (prog:Program) (w:World):PySem.KeyKind prog w Key where
 is:=bN
 hash:=qx w
 inj:=λv a b ha hb=>by
  rcases keyIs_shape ha with ⟨i,t,rfl,rfl⟩|⟨x,t,rfl,rfl⟩
  .rcases keyIs_shape hb with ⟨j,u,rfl,e⟩|⟨y,u,rfl,e⟩
   .injection e with e1 _;rw [e1]
   .exact nomatch e
  .rcases keyIs_shape hb with ⟨j,u,rfl,e⟩|⟨y,u,rfl,e⟩
   .exact nomatch e
   .injection e with e1 _;rw [e1]
 byValue:=λk v h=>by
  rcases keyIs_shape h with ⟨i,t,rfl,rfl⟩|⟨x,t,rfl,rfl⟩ <;> rfl
 pyHash:=λhv h=>by
  rcases keyIs_shape hv with ⟨i,t,rfl,rfl⟩|⟨x,t,rfl,rfl⟩
  .exact wpAny_pyHash_int h
  .exact wpAny_pyHash_str h
 eqBool:=λhu hv h=>by
  rcases keyIs_shape hu with ⟨i,t,rfl,rfl⟩|⟨x,t,rfl,rfl⟩
  .rcases keyIs_shape hv with ⟨j,u,rfl,rfl⟩|⟨y,u,rfl,rfl⟩
   .rw [oQ] at h;exact wpAny_eqBool_int h
   .rw [oP] at h;exact SeqAt.EqAt.int_str i t y u _ _ _ _ h
  .rcases keyIs_shape hv with ⟨j,u,rfl,rfl⟩|⟨y,u,rfl,rfl⟩
   .rw [oO] at h;exact SeqAt.EqAt.str_int x t j u _ _ _ _ h
   .rw [oN] at h;exact wpAny_eqBool_str h
 «strs»:=λk x t v h=>by
  rcases keyIs_shape h with ⟨i,u,rfl,e⟩|⟨y,u,rfl,e⟩
  .exact nomatch e
  .injection e with e1 _
   subst e1
   cases v <;> rfl
theorem mixKind_int (prog:Program) (w:World) (i:Int) (t:Tok):(e_G prog w).is (.inl i) (.int i t)=true:=jp i t
theorem eD (prog:Program) (w:World) (x:Str) (t:Tok):(e_G prog w).is (.inr x) (.str x t)=true:=jo x t
inductive V where
 | non|bl (b:Bool)|int (i:Int)|str (x:Str)|byt (b:Array UInt8)|flt (b:UInt64)|ref (a:Addr)|ty (n:String)
 deriving DecidableEq
def ad:V->Value->Prop
 | .non,u=>u=Value.none
 | .bl b,u=>u=Value.bool b
 | .int i,u=>∃t,u=Value.int i t
 | .str x,u=>∃t,u=Value.str x t
 | .byt b,u=>∃t,u=Value.bytes b t
 | .flt b,u=>∃t,u=Value.float b t
 | .ref a,u=>u=Value.ref a
 | .ty n,u=>u=Value.type n
abbrev ab:List V->List Value->Prop:=Paired ad
theorem ab.length (r:ab xs us):xs.length=us.length:=Paired.length r
theorem ab.get:∀{xs:List V} {us:List Value} {i:Nat} {x:V},ab xs us->xs[i]?=some x->∃u,us[i]?=some u/\ad x u
 | _,_,_,_,.nil,e=>by simp at e
 | _,_,0,_,.cons r _,e=>by simp at e;subst e;exact (_,rfl,r)
 | _,_,i+1,x,.cons _ t,e=>by
  obtain ⟨u,h1,h2⟩:=ab.get (i:=i) (x:=x) t (by simpa using e)
  exact (u,by simpa using h1,h2)
theorem ab.append:∀{xs ys:List V} {us ws:List Value},ab xs us->ab ys ws->ab (xs++ys) (us++ws)
 | _,_,_,_,.nil,s=>s
 | _,_,_,_,.cons r t,s=>.cons r (ab.append t s)
theorem ab.take:∀{xs:List V} {us:List Value} (n:Nat),ab xs us->ab (xs.take n) (us.take n)
 | _,_,0,_=>.nil
 | _,_,_+1,.nil=>.nil
 | _,_,n+1,.cons r t=>.cons r (ab.take n t)
theorem ab.drop:∀{xs:List V} {us:List Value} (n:Nat),ab xs us->ab (xs.drop n) (us.drop n)
 | _,_,0,r=>r
 | _,_,_+1,.nil=>.nil
 | _,_,n+1,.cons _ t=>ab.drop n t
def ar:Option V->Option Value->Prop
 | some v,some u=>ad v u
 | none,none=>True
 | _,_=>False
def KV {κ:Type}:List (κ×V)->List (κ×Value)->Prop:=Paired λ(p:κ×V) (q:κ×Value)=>p.1=q.1/\ad p.2 q.2
def kV:Key->V
 | .inl i=>.int i
 | .inr x=>.str x
inductive HO where
  | lst (xs:List V)
  | tup (xs:List V)
  | dK (kvs:List (Key×V))|dT (kvs:List (List Key×V))
  | set (S:Int->Bool) (n:Nat)
  | ins (C dx:Addr) (fs:List (Str×V))
  | own (x:Addr)
  | xd (fs:List (Str×V))
  | met (f x:Addr)
  | rng (lo hi:Int)
  | frz (o:Obj) (u:HO)
  | tbl (ps:Array Value)
  | ext (φ:Heap->Prop)
abbrev Hp:=Addr->Option HO
def upd (H:Hp) (a:Addr) (o:HO):Hp:=λb=>if b=a then some o else H b
theorem upd_same:upd H a o a=some o:=by unfold upd;rw [if_pos rfl]
theorem upd_ne (h:b≠a):upd H a o b=H b:=by unfold upd;rw [if_neg h]
theorem d_D:upd (upd H a o) a u=upd H a u:=by
 funext b;unfold upd;split <;> rfl
theorem ne_of {H:Hp} (h:H a=some o) (h':H b=some u) (d:o≠u):a≠b:=by
 intro e;subst e;rw [h] at h';exact d (Option.some.inj h')
theorem ne_of_none {H:Hp} (h:H a=some o) (h':H b=none):a≠b:=by
 intro e;subst e;rw [h] at h';cases h'
section
variable (P:Program) (w:World)
def b_f (H:Hp) (h:Heap) (a:Addr):HO->Prop
 | .lst xs=>xs.length≤sizeLine/\∃(its:List Value) (n:Nat),ab xs its/\h.get? a=some { cls:=.type "list",data:=.seq its.toArray n }
 | .tup xs=>xs.length≤sizeLine/\∃its:List Value,ab xs its/\IsTup h a its.toArray
 | .dK kvs=>kvs.length≤sizeLine/\(a==sysModules)=false/\∃vs,KV kvs vs/\h.DictOf (e_G P w) a vs
 | .dT kvs=>kvs.length≤sizeLine/\(a==sysModules)=false/\∃xs:List (List Key×Addr×Value),
   Paired (λ(p:List Key×V) (q:List Key×Addr×Value)=>p.1=q.1/\H q.2.1=some (.tup (p.1.map kV))/\ad p.2 q.2.2) kvs xs/\
   ∃o es ep,h.get? a=some o/\o.ExactDict/\o.data=.dict es ep/\es.toList=xs.map (entryOfKey (tupleKind (e_G P w)))/\(xs.map (·.1)).Nodup
 | .set S n=>h.SetOf (intKind P w) a S n
 | .ins C dx fs=>H dx=some (.own a)/\fs.length≤1000/\dx≠a/\h.get? a=some (instObj C dx)/\
   ∃mA,h.Ns1 dx mA/\(∀f,ar (fs.lookup f) (mA f))/\PySem.Within mA (fs.map (·.1))
 | .own _=>∃o,h.get? a=some o
 | .xd fs=>∃mA,h.Ns1 a mA/\∀f,ar (fs.lookup f) (mA f)
 | .rng lo hi=>∃t u v,h.get? a=some { cls:=.type "range",data:=.fields #[.int lo t,.int hi u,.int 1 v] }
 | .frz o u=>h.get? a=some o/\b_f H h a u
 | .tbl ps=>h.get? a=some { cls:=.none,data:=.fields ps }
 | .met f x=>h.get? a=some (methodObj (.ref f) (.ref x))
 | .ext φ=>φ h/\(∃o,h.get? a=some o)/\∀h1 h2:Heap,φ h1->(∀o,h1.get? a=some o->h2.get? a=some o)->φ h2
def HOk (H:Hp) (h:Heap):Prop:=∀a o,H a=some o->b_f P w H h a o
end
section
variable {P:Program} {w:World} {H H':Hp} {h h':Heap} {a:Addr} {o:HO}
theorem b_f.lt (x:b_f P w H h a o):a<h.objs.size:=by
 cases o with
 | lst xs=>obtain ⟨_,_,_,_,e⟩:=x;exact lt_size e
 | tup xs=>obtain ⟨_,_,_,p⟩:=x;exact p.lt
 | dK kvs=>obtain ⟨_,_,_,_,o,_,_,e,_⟩:=x;exact lt_size e
 | dT kvs=>obtain ⟨_,_,_,_,o,_,_,e,_⟩:=x;exact lt_size e
 | set S n=>obtain ⟨o,_,_,_,e,_⟩:=x;exact lt_size e
 | ins C dx fs=>obtain ⟨_,_,_,e,_⟩:=x;exact lt_size e
 | own y=>obtain ⟨_,e⟩:=x;exact lt_size e
 | xd fs=>obtain ⟨_,⟨_,_,_,e,_⟩,_⟩:=x;exact lt_size e
 | rng lo hi=>obtain ⟨_,_,_,e⟩:=x;exact lt_size e
 | frz ob u=>obtain ⟨e,_⟩:=x;exact lt_size e
 | tbl ps=>exact lt_size (show h.get? a=some _ from x)
 | met f y=>exact lt_size (show h.get? a=some _ from x)
 | ext φ=>obtain ⟨_,⟨_,e⟩,_⟩:=x;exact lt_size e
theorem Paired.mapP {α β:Type} {F G:α->β->Prop}:∀{l₁:List α} {l₂:List β},Paired F l₁ l₂->(∀a b,F a b->G a b)->Paired G l₁ l₂
 | _,_,.nil,_=>.nil
 | _,_,.cons r t,f=>.cons (f _ _ r) (Paired.mapP t f)
theorem b_f.stay (x:b_f P w H h a o) (k:∀b u,(b=a\/H b=some (.own a))->h.get? b=some u->h'.get? b=some u)
  (ho:∀b,H b=some (.own a)->H' b=some (.own a)) (ht:∀b xs,H b=some (.tup xs)->H' b=some (.tup xs)):b_f P w H' h' a o:=by
 induction o with
 | lst xs=>obtain ⟨z,its,n,r,e⟩:=x;exact (z,its,n,r,k _ _ (.inl rfl) e)
 | tup xs=>obtain ⟨z,its,r,ob,e,c⟩:=x;exact (z,its,r,ob,k _ _ (.inl rfl) e,c)
 | dK kvs=>obtain ⟨z,y,vs,r,ob,es,ep,e,c⟩:=x;exact (z,y,vs,r,ob,es,ep,k _ _ (.inl rfl) e,c)
 | dT kvs=>
  obtain ⟨z,y,xs,r,ob,es,ep,e,c⟩:=x
  exact (z,y,xs,Paired.mapP r λp q z=>(z.1,ht _ _ z.2.1,z.2.2),ob,es,ep,k _ _ (.inl rfl) e,c)
 | set S n=>obtain ⟨ob,es,ep,t,e,c⟩:=x;exact (ob,es,ep,t,k _ _ (.inl rfl) e,c)
 | ins C dx fs=>
  obtain ⟨d,z,ne,e,mA,⟨od,es,ep,e2,c⟩,r⟩:=x
  exact (ho _ d,z,ne,k _ _ (.inl rfl) e,mA,(od,es,ep,k _ _ (.inr d) e2,c),r)
 | own y=>obtain ⟨ob,e⟩:=x;exact (ob,k _ _ (.inl rfl) e)
 | xd fs=>obtain ⟨mA,⟨od,es,ep,e,c⟩,r⟩:=x;exact (mA,(od,es,ep,k _ _ (.inl rfl) e,c),r)
 | rng lo hi=>obtain ⟨t,u,v,e⟩:=x;exact (t,u,v,k _ _ (.inl rfl) e)
 | frz ob u ih=>obtain ⟨e,q⟩:=x;exact (k _ _ (.inl rfl) e,ih q)
 | tbl ps=>
  have e:h.get? a=some { cls:=.none,data:=.fields ps }:=x
  show h'.get? a=some { cls:=.none,data:=.fields ps }
  exact k a _ (.inl rfl) e
 | met f y=>
  have e:h.get? a=some (methodObj (.ref f) (.ref y)):=x
  show h'.get? a=some (methodObj (.ref f) (.ref y))
  exact k a _ (.inl rfl) e
 | ext φ=>obtain ⟨p,⟨o,e⟩,st⟩:=x;exact (st _ _ p λo q=>k _ _ (.inl rfl) q,(o,k _ _ (.inl rfl) e),st)
theorem HOk.lt (x:HOk P w H h) (e:H a=some o):a<h.objs.size:=(x a o e).lt
theorem HOk.fresh (x:HOk P w H h) (e:h.objs.size≤a):H a=none:=by
 cases q:H a with
 | none=>rfl
 | some u=>exact absurd (lt_of_lt_of_le (x.lt q) e) (lt_irrefl _)
theorem HOk.kept (x:HOk P w H h) (k:∀b u,h.get? b=some u->h'.get? b=some u):HOk P w H h':=λa o e=>
 (x a o e).stay (λb u _ q=>k b u q) (λ_ q=>q) λ_ _ q=>q
theorem HOk.laid (x:HOk P w H h) (k:∀b u,h.get? b=some u->h'.get? b=some u) (hp:h.objs.size≤a) (new:b_f P w (upd H a o) h' a o):HOk P w (upd H a o) h':=λb u e=>by
 have hn:=x.fresh hp
 by_cases hb:b=a
 .subst hb;rw [upd_same] at e;cases e;exact new
 .rw [upd_ne hb] at e
  exact (x b u e).stay (λc v _ q=>k c v q) (λc q=>by rw [upd_ne (ne_of_none q hn)];exact q) λc xs q=>by rw [upd_ne (ne_of_none q hn)];exact q
end
def Rd (H:Hp) (a:Addr) (u:HO):Prop:=H a=some u\/∃o,H a=some (.frz o u)
theorem Rd.ok (r:Rd H a u) (x:HOk P w H h):b_f P w H h a u:=by
 rcases r with r|⟨o,r⟩
 .exact x a u r
 .obtain ⟨_,q⟩:=x a _ r
  exact q
def Mut:Option HO->Prop
 | some (.lst _)=>True
 | some (.dK _)=>True
 | some (.dT _)=>True
 | some (.set _ _)=>True
 | some (.ins _ _ _)=>True
 | some (.ext _)=>True
 | _=>False
section
variable {P:Program} {w:World} {H:Hp} {h h':Heap} {x e:Addr} {o':HO}
theorem HOk.write (ok:HOk P w H h) (mu:Mut (H x)) (he:e=x\/H e=some (.own x)) (k:∀b u,b≠e->h.get? b=some u->h'.get? b=some u) (heo:∃u,h'.get? e=some u)
  (new:b_f P w (upd H x o') h' x o'):HOk P w (upd H x o') h':=λb u q=>by
 have nown:∀c y,H c=some (.own y)->c≠x:=λc y r z=>by subst z;rw [r] at mu;exact mu
 have ntup:∀c xs,H c=some (.tup xs)->c≠x:=λc xs r z=>by subst z;rw [r] at mu;exact mu
 by_cases hb:b=x
 .subst hb;rw [upd_same] at q;cases q;exact new
 .rw [upd_ne hb] at q
  by_cases hbe:b=e
  .have q':H b=some (.own x):=by
    rcases he with z|z
    .exact absurd (hbe.trans z) hb
    .rw [hbe];exact z
   rw [q] at q';cases q'
   obtain ⟨v,hv⟩:=heo
   exact (v,by rw [hbe];exact hv)
  .refine (ok b u q).stay (λc v hc r=>k c v ?_ r) (λc r=>by rw [upd_ne (nown c b r)];exact r) λc xs r=>by rw [upd_ne (ntup c xs r)];exact r
   rcases hc with rfl|hc
   .exact hbe
   .rintro rfl
    rcases he with z|z
    .exact nown c b hc z
    .rw [hc] at z;cases z;exact hb rfl
end
structure Un (fs ex:List Addr) (H H':Hp) (h h':Heap):Prop where
 keep:∀b o,h.get? b=some o->H b=none->b∉fs->b∉ex->h'.get? b=some o
 slot:∀b o,h.get? b=some o->H b=none->b∈fs->b∉ex->∃sl,h'.get? b=some { o with slots:=sl }
 free:∀b o,h.get? b=some o->H b=none->b∉ex->H' b=none
 there:∀b o,h.get? b=some o->b∉ex->∃o',h'.get? b=some o'
 tups:∀b xs,H b=some (.tup xs)->H' b=some (.tup xs)
 frzs:∀b o u,H b=some (.frz o u)->H' b=some (.frz o u)
 tbls:∀b ps,H b=some (.tbl ps)->∃more,H' b=some (.tbl (ps++more))
section
variable {fs fs' ex ex':List Addr} {H H1 H2:Hp} {h h1 h2 h':Heap} {a x e:Addr} {o:HO}
theorem Un.any (u:Un fs ex H H1 h h1) (q:h.get? b=some ob) (n:H b=none) (hx:b∉ex):∃sl,h1.get? b=some { ob with slots:=sl }:=by
 by_cases hb:b∈fs
 .exact u.slot b ob q n hb hx
 .exact (ob.slots,u.keep b ob q n hb hx)
theorem Un.kept (k:∀b u,h.get? b=some u->h'.get? b=some u):Un fs ex H H h h':=
 (λb ob q _ _ _=>k b ob q,λb ob q _ _ _=>(ob.slots,k b ob q),λ_ _ _ n _=>n,λb ob q _=>(ob,k b ob q),λ_ _ q=>q,λ_ _ _ q=>q,λ_ ps q=>(#[],by rw [q];simp))
theorem Un.refl:Un fs ex H H h h:=Un.kept λ_ _ q=>q
theorem Un.laid (k:∀b u,h.get? b=some u->h'.get? b=some u) (hp:h.objs.size≤a) (hn:H a=none):Un fs ex H (upd H a o) h h' where
 keep:=λb u q _ _ _=>k b u q
 slot:=λb u q _ _ _=>(u.slots,k b u q)
 free:=λb u q n _=>by rw [upd_ne (ne_of_lt (lt_of_lt_of_le (lt_size q) hp))];exact n
 there:=λb u q _=>(u,k b u q)
 tups:=λb xs q=>by rw [upd_ne (ne_of_none q hn)];exact q
 frzs:=λb u xs q=>by rw [upd_ne (ne_of_none q hn)];exact q
 tbls:=λb ps q=>(#[],by rw [upd_ne (ne_of_none q hn),q];simp)
theorem Un.write (mu:Mut (H x)) (he:e=x\/H e=some (.own x)) (k:∀b u,b≠e->h.get? b=some u->h'.get? b=some u) (heo:∃u,h'.get? e=some u):Un fs ex H (upd H x o) h h':=by
 have hx:∀b,H b=none->b≠x:=λb n z=>by subst z;rw [n] at mu;exact mu
 have hb:∀b,H b=none->b≠e:=λb n z=>by
  subst z
  rcases he with r|r
  .exact hx b n r
  .rw [n] at r;cases r
 have hm:∀b u,H b=some u->¬ Mut (some u)->b≠x:=λb u q nm z=>by subst z;rw [q] at mu;exact nm mu
 refine (λb u q n _ _=>k b u (hb b n) q,λb u q n _ _=>(u.slots,k b u (hb b n) q),λb u q n _=>by rw [upd_ne (hx b n)];exact n,λb u q _=>?_,
  λb xs q=>by rw [upd_ne (hm b _ q λz=>z)];exact q,λb u xs q=>by rw [upd_ne (hm b _ q λz=>z)];exact q,λb ps q=>(#[],by rw [upd_ne (hm b _ q λz=>z),q];simp))
 by_cases hbe:b=e
 .subst hbe;exact heo
 .exact (u,k b u hbe q)
end
def trk (h:Heap) (H:Hp):List Addr:=(List.range h.objs.size).filter λa=>(H a).isSome
def aU (h:Heap) (H:Hp):Heap:=hideAll h (trk h H)
theorem jv (h:Heap) (H:Hp):(aU h H).objs.size=h.objs.size:=PySem.W.hideAll_size _ _
theorem lh (e:h.get? b=some o) (n:H b=none):(aU h H).get? b=some o:=
 PySem.W.hideAll_get _ e λhm=>by
  have q:(H b).isSome=true:=(mem_filter.mp hm).2
  rw [n] at q;simp at q
theorem mI (e:(aU h H).get? b=some o):h.get? b=some o/\H b=none:=by
 have e':h.get? b=some o:=PySem.W.of_hideAll (trk h H) e
 refine (e',?_)
 cases q:H b with
 | none=>rfl
 | some x=>
  have hm:b∈trk h H:=mem_filter.mpr (mem_range.mpr (lt_size e'),by simp [q])
  have z:(aU h H).get? b=none:=PySem.W.hideAll_none (trk h H) hm
  rw [z] at e;cases e
structure Mod (K:Frag) (mg:Str->Option Value) (base:Heap):Prop where
 kin:K.In base
 glob:base.Ns mainGlobals mg
 blt:∃mb,base.Ns builtinsNs mb/\∀x:Str,x≠"__name__"->mb x=bootBuiltins x
 nolimit:base.NoLimit
structure Cx where
 prog:Program
 w:World
 K:Frag
 mg:Str->Option Value
 base:Heap
 A:Around
 N:List Str
 s₀:Shared
 H₀:Hp
 env:Env
 outer:List Env
 stack:List Env
 ex:List Addr
 fn:Str->Bool
 calm:Bool
 pn:List (Addr×Obj)
 xe:Value->Shared->Prop
def frs (l:List Env):List Addr:=l.filterMap (·.frame)
abbrev Cx.fs (X:Cx):List Addr:=frs X.outer
def Vis (sc:Scope) (x:Str):Prop:=sc.names.lookup x=some .local\/sc.names.lookup x=some .cell\/sc.names.lookup x=some .free
def Loc (sc:Scope) (x:Str):Prop:=sc.names.lookup x=some .local\/sc.names.lookup x=some .cell
def qF (env:Env) (h:Heap) (m:Str->Option Value) (x:Str) (u:Value):Prop:=
 (env.kindOf x=some .local/\m x=some u)\/((env.kindOf x=some .cell\/env.kindOf x=some .free)/\∃c,env.cells.lookup x=some c/\h.IsCell c (some u))
structure Cx.Ok (X:Cx):Prop where
 mod:Mod X.K X.mg X.base
 kind:X.env.scope.kind=.function
 glob:X.env.globals=mainGlobals
 blt:X.env.builtins=builtinsNs
 above:X.s₀.heap.objs.size≤X.env.locals
 inj:∀x y c,X.env.cells.lookup x=some c->X.env.cells.lookup y=some c->x=y
 has:∀x,(X.env.kindOf x=some .cell\/X.env.kindOf x=some .free)->∃c,X.env.cells.lookup x=some c
 cab:∀x c,X.fn x=true->X.env.cells.lookup x=some c->X.s₀.heap.objs.size≤c
 hd:X.calm=true->X.A.handled=none
 frames:X.A.frames=some X.stack
 stk:X.stack=X.outer\/(X.stack=X.env::X.outer/\X.env.frame=some X.env.locals)
 exf:∀b∈X.ex,b≠X.env.locals/\∀x c,X.env.cells.lookup x=some c->c≠b
 bs:∀b o,X.base.get? b=some o->X.s₀.heap.get? b=some o/\X.H₀ b=none
 bsz:X.base.objs.size≤X.s₀.heap.objs.size
 noex:∀b o,X.base.get? b=some o->b∉X.ex
 exfs:∀b∈X.ex,b∉X.fs
 funs:X.s₀.heap.FunFrames X.base X.outer
 frf:∀b∈X.fs,X.H₀ b=none
structure Inv (X:Cx) (pins:List (Addr×Obj)) (σ:List (Option V)) (H:Hp) (s:Shared):Prop where
 ok:X.Ok
 os:s.os=X.s₀.os
 bare:AllBare s.gens
 base:Un X.fs X.ex X.H₀ H X.s₀.heap s.heap
 loc:∃m,s.heap.Ns X.env.locals m/\∀(i:Nat) (x:Str) (v:V),X.N[i]?=some x->σ[i]?=some (some v)->Vis X.env.scope x->∃u,ad v u/\qF X.env s.heap m x u
 cell:∀x c,X.env.cells.lookup x=some c->∃v,s.heap.IsCell c v
 free:H X.env.locals=none
 freeC:∀x c,X.env.cells.lookup x=some c->H c=none
 pin:∀p∈X.pn++pins,s.heap.get? p.1=some p.2/\H p.1=none/\p.1≠X.env.locals/\p.1∉X.fs/\∀v,p.2.data≠.cell v
 hok:HOk X.prog X.w H s.heap
 len:σ.length=X.N.length
section
variable {X:Cx} {pins:List (Addr×Obj)} {σ:List (Option V)} {H H':Hp} {s:Shared} {h':Heap}
theorem Cx.Ok.nofr (ok:X.Ok) (e:X.base.get? b=some o):b∉X.fs:=λhb=>by
 have:=(ok.funs.mem hb).1
 rw [e] at this;cases this
theorem Inv.bs (I:Inv X pins σ H s):∀b o,X.base.get? b=some o->s.heap.get? b=some o/\H b=none:=λb o e=>
 (I.base.keep b o (I.ok.bs b o e).1 (I.ok.bs b o e).2 (I.ok.nofr e) (I.ok.noex b o e),I.base.free b o (I.ok.bs b o e).1 (I.ok.bs b o e).2 (I.ok.noex b o e))
theorem Inv.bk (I:Inv X pins σ H s):∀b o,X.base.get? b=some o->s.heap.get? b=some o:=λb o e=>(I.bs b o e).1
theorem Inv.mod (I:Inv X pins σ H s):Mod X.K X.mg X.base:=I.ok.mod
theorem Inv.kIn (I:Inv X pins σ H s):X.K.In s.heap:=I.ok.mod.kin.keeps I.bk
theorem Inv.lt (I:Inv X pins σ H s):X.env.locals<s.heap.objs.size:=let ⟨_,hn,_⟩:=I.loc;hn.lt
theorem Inv.sz (I:Inv X pins σ H s):X.s₀.heap.objs.size≤s.heap.objs.size:=le_trans I.ok.above (le_of_lt I.lt)
theorem Inv.nofs (I:Inv X pins σ H s) {a:Addr} (h:s.heap.objs.size≤a):a∉X.fs:=λhb=>by
 obtain ⟨_,o,ho,_⟩:=I.ok.funs.mem hb
 exact absurd (lt_of_lt_of_le (lt_size ho) (le_trans I.sz h)) (lt_irrefl _)
theorem Inv.cne (I:Inv X pins σ H s):∀x c,X.env.cells.lookup x=some c->c≠X.env.locals:=λx c e z=>by
 obtain ⟨v,o,ho,hd⟩:=I.cell x c e
 obtain ⟨m,⟨o',es,ep,ho',hd',_⟩,_⟩:=I.loc
 rw [z,ho'] at ho;cases ho;rw [hd'] at hd;cases hd
theorem Inv.funs (I:Inv X pins σ H s):s.heap.FunFrames X.base X.outer:=by
 have all:∀(l:List Env),(∀b∈frs l,b∈X.fs)->X.s₀.heap.FunFrames X.base l->s.heap.FunFrames X.base l:=by
  intro l
  induction l with
  | nil=>intro _ _;trivial
  | cons env r ih=>
   intro hs hl
   obtain ⟨hk,⟨L,o,hf,hn,ho,hd⟩,hr⟩:=hl
   have hL:L∈X.fs:=hs L (by unfold frs;rw [filterMap_cons,hf];exact mem_cons_self)
   obtain ⟨sl,e⟩:=I.base.slot L o ho (I.ok.frf L hL) hL λz=>I.ok.exfs L z hL
   exact (hk,(L,_,hf,hn,e,hd),ih (λb hb=>hs b (by unfold frs;rw [filterMap_cons,hf];exact mem_cons_of_mem _ hb)) hr)
 exact all X.outer (λ_ hb=>hb) I.ok.funs
theorem Inv.stack (I:Inv X pins σ H s):s.heap.FunFrames X.base X.stack:=by
 rcases I.ok.stk with e|⟨e,hf⟩
 .rw [e];exact I.funs
 .rw [e]
  obtain ⟨m,hn,_⟩:=I.loc
  refine .cons (by rw [I.ok.kind];decide) hf hn ?_ I.funs
  exact Heap.get?_none_of_le (le_trans I.ok.bsz I.ok.above)
theorem Inv.stkSub (I:Inv X pins σ H s):∀b∈frs X.stack,b∈X.env.locals::X.fs:=λb hb=>by
 rcases I.ok.stk with e|⟨e,hf⟩
 .rw [e] at hb;exact mem_cons_of_mem _ hb
 .rw [e] at hb
  unfold frs at hb
  rw [filterMap_cons,hf] at hb
  exact hb
theorem Inv.stkFree (I:Inv X pins σ H s):∀b∈frs X.stack,H b=none:=λb hb=>by
 rcases mem_cons.mp (I.stkSub b hb) with e|hb
 .rw [e];exact I.free
 .obtain ⟨_,o,ho,_⟩:=I.ok.funs.mem hb
  exact I.base.free b o ho (I.ok.frf b hb) λz=>I.ok.exfs b z hb
theorem Inv.step {ch:List Addr} (I:Inv X pins σ H s)
  (hch:∀b∈ch,(b∈X.ex\/X.s₀.heap.objs.size≤b)/\b≠X.env.locals/\(∀x c,X.env.cells.lookup x=some c->c≠b)/\∀p∈X.pn++pins,p.1≠b)
  (keep:∀b o,b≠X.env.locals->b∉X.fs->b∉ch->s.heap.get? b=some o->H b=none->h'.get? b=some o)
  (slot:∀b o,b≠X.env.locals->b∈X.fs->b∉ch->s.heap.get? b=some o->H b=none->∃sl,h'.get? b=some { o with slots:=sl }) (free:∀b o,b∉ch->s.heap.get? b=some o->H b=none->H' b=none)
  (there:∀b o,b∉ch->s.heap.get? b=some o->∃o',h'.get? b=some o')
  (tups:∀b xs,H b=some (.tup xs)->H' b=some (.tup xs)) (frzs:∀b o u,H b=some (.frz o u)->H' b=some (.frz o u)) (tbls:∀b ps,H b=some (.tbl ps)->∃more,H' b=some (.tbl (ps++more)))
  (ns:∀m,s.heap.Ns X.env.locals m->h'.Ns X.env.locals m) (hok:HOk X.prog X.w H' h') (hg:AllBare g'):
  Inv X pins σ H' { s with heap:=h',gens:=g',drawn:=d',toks:=t' }:=by
 have neL:∀b o,X.s₀.heap.get? b=some o->b≠X.env.locals:=λb o e=>ne_of_lt (lt_of_lt_of_le (lt_size e) I.ok.above)
 have neC:∀b o,X.s₀.heap.get? b=some o->b∉X.ex->b∉ch:=λb o e hx hb=>by
  rcases (hch b hb).1 with z|z
  .exact hx z
  .exact absurd (lt_of_lt_of_le (lt_size e) z) (lt_irrefl _)
 have cellK:∀x c,X.env.cells.lookup x=some c->∀v,s.heap.IsCell c v->h'.IsCell c v:=λx c e v hZ0=>by
  obtain ⟨o,ho,hd⟩:=hZ0
  have nch:c∉ch:=λz=>(hch c z).2.2.1 x c e rfl
  by_cases hc:c∈X.fs
  .obtain ⟨sl,q⟩:=slot c o (I.cne x c e) hc nch ho (I.freeC x c e)
   exact (_,q,hd)
  .exact (o,keep c o (I.cne x c e) hc nch ho (I.freeC x c e),hd)
 refine (I.ok,I.os,hg,(λb o e n hb hx=>?_,λb o e n hb hx=>?_,λb o e n hx=>?_,λb o e hx=>?_,λb xs e=>tups b xs (I.base.tups b xs e),λb o xs e=>frzs b o xs (I.base.frzs b o xs e),λb ps e=>?_),?_,λx c e=>?_,?_,λx c e=>?_,λp hp=>?_,hok,I.len)
 .exact keep b o (neL b o e) hb (neC b o e hx) (I.base.keep b o e n hb hx) (I.base.free b o e n hx)
 .obtain ⟨sl,e1⟩:=I.base.slot b o e n hb hx
  obtain ⟨sl',e2⟩:=slot b _ (neL b o e) hb (neC b o e hx) e1 (I.base.free b o e n hx)
  exact (sl',e2)
 .obtain ⟨o',e1⟩:=I.base.there b o e hx
  exact free b o' (neC b o e hx) e1 (I.base.free b o e n hx)
 .obtain ⟨o',e1⟩:=I.base.there b o e hx
  exact there b o' (neC b o e hx) e1
 .obtain ⟨m1,e1⟩:=I.base.tbls b ps e
  obtain ⟨m2,e2⟩:=tbls b _ e1
  exact (m1++m2,by rw [e2,Array.append_assoc])
 .obtain ⟨m,hn,hl⟩:=I.loc
  refine (m,ns m hn,λi x v e1 e2 e3=>?_)
  obtain ⟨u,r,l⟩:=hl i x v e1 e2 e3
  refine (u,r,?_)
  rcases l with l|⟨k,c,e,z⟩
  .exact .inl l
  .exact .inr (k,c,e,cellK x c e _ z)
 .obtain ⟨v,z⟩:=I.cell x c e
  exact (v,cellK x c e v z)
 .obtain ⟨m,⟨o,_,_,ho,_⟩,_⟩:=I.loc
  exact free _ o (λz=>(hch _ z).2.1 rfl) ho I.free
 .obtain ⟨v,o,ho,hd⟩:=I.cell x c e
  exact free c o (λz=>(hch c z).2.2.1 x c e rfl) ho (I.freeC x c e)
 .obtain ⟨e,n,ne,nf,d⟩:=I.pin p hp
  have nch:p.1∉ch:=λz=>(hch p.1 z).2.2.2 p hp rfl
  exact (keep p.1 p.2 ne nf nch e n,free p.1 p.2 nch e n,ne,nf,d)
theorem Inv.un (I:Inv X pins σ H s) (u:Un X.fs [] H H' s.heap h') (hok:HOk X.prog X.w H' h'):Inv X pins σ H' { s with heap:=h',toks:=t' }:=by
 obtain ⟨m,⟨o,es,ep,ho,r⟩,_⟩:=id I.loc
 obtain ⟨sl,hL⟩:=u.any ho I.free (by simp)
 exact I.step (g':=s.gens) (d':=s.drawn) (ch:=[]) (λ_ z=>nomatch z) (λb o _ hb _ e n=>u.keep b o e n hb (by simp)) (λb o _ hb _ e n=>u.slot b o e n hb (by simp)) (λb o _ e n=>u.free b o e n (by simp)) (λb o _ e=>u.there b o e (by simp)) u.tups u.frzs u.tbls (λm' hm=>by
  obtain ⟨o',es',ep',ho',r'⟩:=hm
  rw [ho] at ho';cases ho'
  exact (_,es',ep',hL,r')) hok I.bare
theorem Inv.call (I:Inv X pins σ H s) (u:Un (frs X.stack) ch H H' s.heap h') (hok:HOk X.prog X.w H' h') (hg:AllBare g')
  (hch:∀b∈ch,(b∈X.ex\/X.s₀.heap.objs.size≤b)/\b≠X.env.locals/\(∀x c,X.env.cells.lookup x=some c->c≠b)/\∀p∈X.pn++pins,p.1≠b):
  Inv X pins σ H' { s with heap:=h',gens:=g',drawn:=d',toks:=t' }:=by
 obtain ⟨m,⟨o,es,ep,ho,r⟩,_⟩:=id I.loc
 obtain ⟨sl,hL⟩:=u.any ho I.free λz=>(hch _ z).2.1 rfl
 exact I.step (ch:=ch) hch (λb o hL hb hc e n=>u.keep b o e n (λz=>(mem_cons.mp (I.stkSub b z)).elim hL hb) hc) (λb o _ _ hc e n=>u.any e n hc) (λb o hc e n=>u.free b o e n hc) (λb o hc e=>u.there b o e hc) u.tups u.frzs u.tbls (λm' hm=>by
  obtain ⟨o',es',ep',ho',r'⟩:=hm
  rw [ho] at ho';cases ho'
  exact (_,es',ep',hL,r')) hok hg
theorem Inv.turned (I:Inv X pins σ H s) (k:∀b o,b≠it->s.heap.get? b=some o->h'.get? b=some o) (hn:H it=none) (hL:it≠X.env.locals)
  (h1:it∈X.ex\/X.s₀.heap.objs.size≤it) (h2:∀x c,X.env.cells.lookup x=some c->c≠it) (h3:∀p∈X.pn++pins,p.1≠it):Inv X pins σ H { s with heap:=h',toks:=t' }:=by
 have nit:∀b u,H b=some u->b≠it:=λb u e z=>by rw [z,hn] at e;cases e
 refine I.step (g':=s.gens) (d':=s.drawn) (ch:=[it]) (λb hb=>?_) (λb o _ _ hc e _=>k b o (λz=>hc (by simp [z])) e) (λb o _ _ hc e _=>(o.slots,k b o (λz=>hc (by simp [z])) e)) (λ_ _ _ _ n=>n)
  (λb o hc e=>(o,k b o (λz=>hc (by simp [z])) e)) (λ_ _ e=>e) (λ_ _ _ e=>e) (λb ps e=>(#[],by rw [e];simp)) (λm hm=>?_) (λb u e=>?_) I.bare
 .have e:b=it:=by simpa using hb
  subst e
  exact (h1,hL,h2,h3)
 .obtain ⟨o,es,ep,ho,r⟩:=hm
  exact (o,es,ep,k _ o (Ne.symm hL) ho,r)
 .refine (I.hok b u e).stay (λc v hc q=>k c v ?_ q) (λ_ q=>q) λ_ _ q=>q
  rcases hc with z|z
  .rw [z];exact nit b u e
  .exact nit c _ z
theorem Inv.tok (I:Inv X pins σ H s) (t:Nat):Inv X pins σ H { s with toks:=t }:=I.un (h':=s.heap) (t':=t) Un.refl I.hok
theorem Inv.kept (I:Inv X pins σ H s) (k:∀b u,s.heap.get? b=some u->h'.get? b=some u):Inv X pins σ H { s with heap:=h',toks:=t' }:=I.un (Un.kept k) (I.hok.kept k)
theorem Inv.laid {a:Addr} (I:Inv X pins σ H s) (k:∀b u,s.heap.get? b=some u->h'.get? b=some u) (hp:s.heap.objs.size≤a) (new:b_f X.prog X.w (upd H a o) h' a o):
  Inv X pins σ (upd H a o) { s with heap:=h',toks:=t' }:=I.un (Un.laid k hp (I.hok.fresh hp)) (I.hok.laid k hp new)
theorem Inv.write (I:Inv X pins σ H s) (mu:Mut (H x)) (he:e=x\/H e=some (.own x)) (k:∀b u,b≠e->s.heap.get? b=some u->h'.get? b=some u) (heo:∃u,h'.get? e=some u)
  (new:b_f X.prog X.w (upd H x o) h' x o):Inv X pins σ (upd H x o) { s with heap:=h',toks:=t' }:=I.un (Un.write mu he k heo) (I.hok.write mu he k heo new)
theorem Inv.pins_of (I:Inv X pins σ H s) (h:∀p∈pins',s.heap.get? p.1=some p.2/\H p.1=none/\p.1≠X.env.locals/\p.1∉X.fs/\∀v,p.2.data≠.cell v):Inv X pins' σ H s:=
 (I.ok,I.os,I.bare,I.base,I.loc,I.cell,I.free,I.freeC,λp hp=>(mem_append.mp hp).elim (λz=>I.pin p (mem_append_left _ z)) (h p),I.hok,I.len)
theorem nodup_ix {N:List Str} (hN:N.Nodup) {i j:Nat} (a:N[i]?=some x) (b:N[j]?=some x):i=j:=by
 obtain ⟨h1,e1⟩:=qa1 a
 obtain ⟨h2,e2⟩:=qa1 b
 exact (getElem_inj hN).mp (e1.trans e2.symm)
theorem bq (I:Inv X pins σ H s) (hN:X.N.Nodup) (hi:X.N[i]?=some x) (hx:Loc X.env.scope x) (r:ad v u)
  (h:∀s',Inv X pins (σ.set i (some v)) H s'->(∃a,SameBut a s.heap s'.heap/\(a=X.env.locals\/X.env.cells.lookup x=some a))->Q () s') (hf:X.fn x=true\/X.env.scope.names.lookup x=some .local:=by first|exact .inl rfl|exact .inr rfl|assumption):wpAny M A (storeName X.env x u) Q E s:=by
 obtain ⟨m,hn,hl⟩:=id I.loc
 have hcls:(X.env.scope.kind==.class || (X.env.scope.kind==.module&&X.env.locals != X.env.globals))=false:=by rw [I.ok.kind];rfl
 have hiσ:i<σ.length:=by rw [I.len];exact (qa1 hi).1
 have cne:=I.cne
 have tracked:∀{a:Addr} {h':Heap},(∃o,s.heap.get? a=some o/\H a=none)->SameBut a s.heap h'->HOk X.prog X.w H h':=λ{a h'} ha hs b ob e=>by
  obtain ⟨_,_,hfree⟩:=ha
  refine (I.hok b ob e).stay (λc w' hc q=>(hs.2 c ?_).trans q) (λ_ q=>q) λ_ _ q=>q
  rintro rfl
  rcases hc with rfl|hc
  .rw [hfree] at e;cases e
  .rw [hfree] at hc;cases hc
 rcases hx with hk|hk
 .refine wpAny_storeName_local hk hn (λh' hn' hs=>?_) hcls
  obtain ⟨oL,_,_,hoL,_⟩:=id hn
  refine h _ (I.ok,I.os,I.bare,(λb o e n hb hx=>?_,λb o e n hb hx=>?_,I.base.free,λb o e hx=>?_,I.base.tups,I.base.frzs,I.base.tbls),(_,hn',λj y v' e1 e2 e3=>?_),λy c e=>?_,I.free,I.freeC,λp hp=>?_,tracked (oL,hoL,I.free) hs,by simpa using I.len) (_,hs,.inl rfl)
  .exact (hs.2 b (ne_of_lt (lt_of_lt_of_le (lt_size e) I.ok.above))).trans (I.base.keep b o e n hb hx)
  .obtain ⟨sl,e1⟩:=I.base.slot b o e n hb hx
   exact (sl,(hs.2 b (ne_of_lt (lt_of_lt_of_le (lt_size e) I.ok.above))).trans e1)
  .obtain ⟨o',e1⟩:=I.base.there b o e hx
   exact (o',(hs.2 b (ne_of_lt (lt_of_lt_of_le (lt_size e) I.ok.above))).trans e1)
  .by_cases hj:j=i
   .subst hj
    rw [hi] at e1;cases e1
    rw [List.getElem?_set_self hiσ] at e2
    cases e2
    exact (u,r,.inl (hk,by simp))
   .rw [List.getElem?_set_ne (Ne.symm hj)] at e2
    obtain ⟨u',r',q⟩:=hl j y v' e1 e2 e3
    refine (u',r',?_)
    rcases q with ⟨k,e⟩|⟨k,c,e,z⟩
    .refine .inl (k,?_)
     have:y≠x:=λe=>hj (nodup_ix hN e1 (e▸hi))
     simp [this,e]
    .exact .inr (k,c,e,z.sameBut hs (cne y c e))
  .obtain ⟨w',z⟩:=I.cell y c e
   exact (w',z.sameBut hs (cne y c e))
  .obtain ⟨e,n,ne,nf,d⟩:=I.pin p hp
   exact ((hs.2 p.1 ne).trans e,n,ne,nf,d)
 .have hfn:X.fn x=true:=by
   rcases hf with z|z
   .exact z
   .rw [z] at hk;cases hk
  obtain ⟨c,hc⟩:=I.ok.has x (.inl hk)
  obtain ⟨w',z⟩:=I.cell x c hc
  refine wpAny_storeName_cell I.ok.kind hk hc z (λh' hc' hs=>?_)
  obtain ⟨oc,hoc,hocd⟩:=id z
  refine h { s with heap:=h' } (I.ok,I.os,I.bare,(λb o e n hb hx=>?_,λb o e n hb hx=>?_,I.base.free,λb o e hx=>?_,I.base.tups,I.base.frzs,I.base.tbls),(m,hn.sameBut hs (Ne.symm (cne x c hc)),λj y v' e1 e2 e3=>?_),λy c' e=>?_,I.free,I.freeC,λp hp=>?_,tracked (oc,hoc,I.freeC x c hc) hs,by simpa using I.len) (c,hs,.inr hc)
  .exact (hs.2 b (ne_of_lt (lt_of_lt_of_le (lt_size e) (I.ok.cab x c hfn hc)))).trans (I.base.keep b o e n hb hx)
  .obtain ⟨sl,e1⟩:=I.base.slot b o e n hb hx
   exact (sl,(hs.2 b (ne_of_lt (lt_of_lt_of_le (lt_size e) (I.ok.cab x c hfn hc)))).trans e1)
  .obtain ⟨o',e1⟩:=I.base.there b o e hx
   exact (o',(hs.2 b (ne_of_lt (lt_of_lt_of_le (lt_size e) (I.ok.cab x c hfn hc)))).trans e1)
  .by_cases hj:j=i
   .subst hj
    rw [hi] at e1;cases e1
    rw [List.getElem?_set_self hiσ] at e2
    cases e2
    exact (u,r,.inr (.inl hk,c,hc,hc'))
   .rw [List.getElem?_set_ne (Ne.symm hj)] at e2
    obtain ⟨u',r',q⟩:=hl j y v' e1 e2 e3
    refine (u',r',?_)
    rcases q with q|⟨k,c',e,z'⟩
    .exact .inl q
    .refine .inr (k,c',e,z'.sameBut hs ?_)
     rintro rfl
     exact hj (nodup_ix hN e1 (I.ok.inj _ _ _ e hc▸hi))
  .by_cases hcc:c'=c
   .subst hcc;exact (_,hc')
   .obtain ⟨w2,z2⟩:=I.cell y c' e
    exact (w2,z2.sameBut hs hcc)
  .obtain ⟨e,n,ne,nf,d⟩:=I.pin p hp
   refine ((hs.2 p.1 ?_).trans e,n,ne,nf,d)
   intro q
   rw [q,hoc] at e
   have q':oc=p.2:=Option.some.inj e
   exact d w' (by rw [<- q'];exact hocd)
theorem store_ok (I:Inv X pins σ H s) (hN:X.N.Nodup) (hi:X.N[i]?=some x) (hx:Loc X.env.scope x) (r:ad v u)
  (h:∀s',Inv X pins (σ.set i (some v)) H s'->Q () s') (hf:X.fn x=true\/X.env.scope.names.lookup x=some .local:=by first|exact .inl rfl|exact .inr rfl|assumption):wpAny M A (storeName X.env x u) Q E s:=
 bq I hN hi hx r (λs' I' _=>h s' I') hf
theorem Inv.call' (I:Inv X pins σ H s) (ho:s'.os=s.os) (u:Un (frs X.stack) ch H H' s.heap s'.heap) (hok:HOk X.prog X.w H' s'.heap) (hg:AllBare s'.gens)
  (hch:∀b∈ch,(b∈X.ex\/X.s₀.heap.objs.size≤b)/\b≠X.env.locals/\(∀x c,X.env.cells.lookup x=some c->c≠b)/\∀p∈X.pn++pins,p.1≠b):Inv X pins σ H' s':=by
 obtain ⟨h',g',d',t',o'⟩:=s'
 have e:o'=s.os:=ho
 subst e
 exact I.call (g':=g') (t':=t') (d':=d') u hok hg hch
end
abbrev XK:=Value->Option Addr->Hp->Prop
abbrev St:=List (Option V)
abbrev VK:=V->Hp->Prop
abbrev TE:=St->Hp->VK->Prop
abbrev TT:=St->Hp->(Bool->Hp->Prop)->Prop
abbrev TA:=St->Hp->(List V->Hp->Prop)->Prop
structure aK where
 nx:St->Hp->Prop
 rt:VK
 bk:St->Hp->Prop:=λ_ _=>False
 ct:St->Hp->Prop:=λ_ _=>False
abbrev TS:=aK->St->Hp->Prop
def EP (X:Cx) (pins:List (Addr×Obj)) (σ:St) (Q:VK) (u:Value) (s':Shared):Prop:=∃v H',Inv X pins σ H' s'/\ad v u/\Q v H'
def TP (X:Cx) (pins:List (Addr×Obj)) (σ:St) (Q:Bool->Hp->Prop) (b:Bool) (s':Shared):Prop:=∃H',Inv X pins σ H' s'/\Q b H'
def AP (X:Cx) (pins:List (Addr×Obj)) (σ:St) (Q:List V->Hp->Prop) (us:List Value) (s':Shared):Prop:=∃vs H',Inv X pins σ H' s'/\ab vs us/\Q vs H'
def SP (X:Cx) (pins:List (Addr×Obj)) (D:aK) (f:Flow) (s':Shared):Prop:=
 match f with
 | .next=>∃ σ' H',Inv X pins σ' H' s'/\D.nx σ' H'
 | .brk=>∃ σ' H',Inv X pins σ' H' s'/\D.bk σ' H'
 | .cont=>∃ σ' H',Inv X pins σ' H' s'/\D.ct σ' H'
 | .ret u=>∃v σ' H',Inv X pins σ' H' s'/\ad v u/\D.rt v H'
def PE (X:Cx) (e:Expr) (t:TE):Prop:=
 ∀(pins:List (Addr×Obj)) (s:Shared) (σ:St) (H:Hp) (Q:VK),Inv X pins σ H s->t σ H Q->wpAny (model X.prog X.w) X.A (eval e X.env) (EP X pins σ Q) X.xe s
def PT (X:Cx) (e:Expr) (t:TT):Prop:=
 ∀(pins:List (Addr×Obj)) (s:Shared) (σ:St) (H:Hp) (Q:Bool->Hp->Prop),Inv X pins σ H s->t σ H Q->wpAny (model X.prog X.w) X.A (isTrue e X.env (eval e X.env)) (TP X pins σ Q) X.xe s
def PW (X:Cx) (e:Expr) (t:TT):Prop:=
 ∀(whole:Sem Value) (pins:List (Addr×Obj)) (s:Shared) (σ:St) (H:Hp) (Q:Bool->Hp->Prop),Inv X pins σ H s->t σ H Q->wpAny (model X.prog X.w) X.A (isTrue e X.env whole) (TP X pins σ Q) X.xe s
theorem PW.pt (h:PW X e t):PT X e t:=h _
def PA (X:Cx) (es:List Expr) (t:TA):Prop:=
 ∀(pos:Pos) (pins:List (Addr×Obj)) (s:Shared) (σ:St) (H:Hp) (Q:List V->Hp->Prop),Inv X pins σ H s->t σ H Q->wpAny (model X.prog X.w) X.A (spliced (backTo pos (starEach es X.env))) (AP X pins σ Q) X.xe s
def PS (X:Cx) (st:Stmt) (t:TS):Prop:=
 ∀(pins:List (Addr×Obj)) (s:Shared) (σ:St) (H:Hp) (D:aK),Inv X pins σ H s->t D σ H->wpAny (model X.prog X.w) X.A (exec st X.env) (SP X pins D) X.xe s
def PSs (X:Cx) (st:List Stmt) (t:TS):Prop:=
 ∀(pins:List (Addr×Obj)) (s:Shared) (σ:St) (H:Hp) (D:aK),Inv X pins σ H s->t D σ H->wpAny (model X.prog X.w) X.A (execs st X.env) (SP X pins D) X.xe s
theorem thn {t:Sem α} {Q Q':α->Shared->Prop} (h:wpAny M A t Q E s) (hQ:∀a s,Q a s->Q' a s):wpAny M A t Q' E s:=wpAny_mono h hQ λ_ _ x=>x
section
variable {X:Cx}
def be (i:Nat):TE:=λσ H Q=>∃v,σ[i]?=some (some v)/\Q v H
def tC (v:V):TE:=λ_ H Q=>Q v H
theorem n8 {pos:Pos} (hN:X.N[i]?=some x) (hv:Vis X.env.scope x) (hd:(x==("__debug__":Str))=false:=by decide) (hcd:(x==("__classdict__":Str))=false:=by decide):PE X (.Name x pos) (be i):=by
 intro pins s σ H Q I h
 obtain ⟨v,e,h⟩:=h
 obtain ⟨m,hn,hl⟩:=I.loc
 obtain ⟨u,r,l⟩:=hl i x v hN e hv
 have fin:EP X pins σ Q u s:=(v,H,I,r,h)
 rcases l with ⟨hk,hm⟩|⟨hk,c,hc,hcell⟩
 .exact wpAny_Name (wpAny_loadName_local I.ok.kind hk hn hm fin) hd
 .rcases hk with hk|hk
  .exact wpAny_Name (wpAny_loadName_cell I.ok.kind hk hc hcell fin) hd
  .exact wpAny_Name (wpAny_loadName_free I.ok.kind hk hc hcell fin hcd) hd
theorem pe_int {i j pos}:PE X (.Constant (.int i) j pos) (tC (.int i)):=λ_ _ _ H _ I h=>wpAny_Constant_int (.int i,H,I.tok _,(_,rfl),h)
theorem c_l {b j pos}:PE X (.Constant (.bool b) j pos) (tC (.bl b)):=λ_ _ _ H _ I h=>Constant_bool (.bl b,H,I,rfl,h)
theorem g_x {j pos}:PE X (.Constant .none j pos) (tC .non):=λ_ _ _ H _ I h=>Constant_none (.non,H,I,rfl,h)
theorem b_l {x j pos}:PE X (.Constant (.str x) j pos) (tC (.str x)):=λ_ _ _ H _ I h=>Calls.Constant_str (.str x,H,I.tok _,(_,rfl),h)
def Gl (X:Cx) (x:Str):Prop:=X.env.kindOf x=some .globalImplicit
theorem ld_glob {σ:St} (I:Inv X pins σ H s) (hg:Gl X x) (hm:X.mg x=some u) (h:Q u s)
  (hd:(x==("__debug__":Str))=false:=by decide):wpAny (model X.prog X.w) X.A (eval (.Name x pos) X.env) Q E s:=
 Calls.Name_function_global I.ok.kind hg (Calls.loadGlobal_global (by rw [I.ok.glob];exact I.mod.glob.keeps I.bk) hm h) hd
theorem ld_blt {E:Value->Shared->Prop} {σ:St} {pos:Pos} (I:Inv X pins σ H s) (hg:Gl X x) (hm:X.mg x=none) (hv:bootBuiltins x=some u) (h:Q u s)
  (hn:x≠"__name__":=by decide) (hd:(x==("__debug__":Str))=false:=by decide):wpAny (model X.prog X.w) X.A (eval (.Name x pos) X.env) Q E s:=by
 obtain ⟨mb,h1,h2⟩:=I.mod.blt
 exact Calls.Name_function_global I.ok.kind hg (Calls.loadGlobal_builtin (by rw [I.ok.glob];exact I.mod.glob.keeps I.bk) hm (by rw [I.ok.blt];exact h1.keeps I.bk) ((h2 x hn).trans hv) h) hd
theorem c_U (hg:Gl X x) (hm:X.mg x=some u) (r:ad v u) (hd:(x==("__debug__":Str))=false:=by decide):PE X (.Name x pos) (tC v):=
 λ_ _ _ H _ I h=>ld_glob I hg hm (v,H,I,r,h) hd
theorem h_f {pos:Pos} (hg:Gl X x) (hm:X.mg x=none) (hv:bootBuiltins x=some u) (r:ad v u) (hn:x≠"__name__":=by decide) (hd:(x==("__debug__":Str))=false:=by decide):PE X (.Name x pos) (tC v):=
 λ_ _ _ H _ I h=>ld_blt I hg hm hv (v,H,I,r,h) hn hd
variable {a b:Expr} {ta tb:TE} {pos:Pos}
def tB (t:TE):TT:=λσ H Q=>t σ H λx H1=>∃c,x=.bl c/\Q c H1
theorem b_r (h:PE X e t) (he:∀whole,isTrue e X.env whole=(do let v <- whole;standAt e.pos;holding [v] (truthy v)):=by intro _;rfl):PT X e (tB t):=by
 intro pins s σ H Q I hw
 refine isTrue_plain (thn (h pins s σ H _ I hw) λv s1 hZ1=>?_) (he _)
 obtain ⟨x,H1,I1,r1,q1⟩:=hZ1
 obtain ⟨d,rfl,q⟩:=q1
 cases r1
 exact wpAny_truthy_bool (H1,I1,q)
variable {tA tB':TT} {rest:List Expr}
def qi (t u:TT):TT:=λσ H Q=>t σ H λc H1=>if c=true then u σ H1 Q else Q false H1
def tOr (t u:TT):TT:=λσ H Q=>t σ H λc H1=>if c=true then Q true H1 else u σ H1 Q
def qe (t:TT):TT:=λσ H Q=>t σ H λc H1=>Q (!c) H1
theorem pw_and1 (ha:PT X a tA):PW X (.BoolOp .And [a] pos) tA:=by
 intro wh pins s σ H Q I h
 refine isTrue_and (thn (ha pins s σ H Q I h) λc s1 e=>?_)
 cases c with
 | true=>exact isTrue_and_nil e
 | false=>exact e
theorem f_t (ha:PT X a tA):PW X (.BoolOp .Or [a] pos) tA:=by
 intro wh pins s σ H Q I h
 refine isTrue_or (thn (ha pins s σ H Q I h) λc s1 e=>?_)
 cases c with
 | false=>exact isTrue_or_nil e
 | true=>exact e
theorem pw_and (ha:PT X a tA) (hb:PW X (.BoolOp .And (b::rest) pos) tB'):PW X (.BoolOp .And (a::b::rest) pos) (qi tA tB'):=by
 intro wh pins s σ H Q I h
 refine isTrue_and (thn (ha pins s σ H _ I h) λc s1 hZ2=>?_)
 obtain ⟨H1,I1,q1⟩:=hZ2
 cases c with
 | true=>exact hb wh pins s1 σ H1 Q I1 q1
 | false=>exact (H1,I1,q1)
theorem g_h (ha:PT X a tA) (hb:PW X (.BoolOp .Or (b::rest) pos) tB'):PW X (.BoolOp .Or (a::b::rest) pos) (tOr tA tB'):=by
 intro wh pins s σ H Q I h
 refine isTrue_or (thn (ha pins s σ H _ I h) λc s1 hZ0=>?_)
 obtain ⟨H1,I1,q1⟩:=hZ0
 cases c with
 | true=>exact (H1,I1,q1)
 | false=>exact hb wh pins s1 σ H1 Q I1 q1
theorem c_H (ha:PT X a tA):PT X (.UnaryOp .Not a pos) (qe tA):=by
 intro pins s σ H Q I h
 exact isTrue_not (ha pins s σ H (λc H1=>Q (!c) H1) I h)
def pC (ta tb:TE):TE:=λσ H Q=>ta σ H λx H1=>∃c,x=.bl c/\if c=true then tb σ H1 Q else Q (.bl false) H1
def ph (ta:TE):TE:=λσ H Q=>ta σ H λx H1=>∃c,x=.bl c/\Q (.bl (!c)) H1
theorem e_O {op} (h:PE X a t):PE X (.BoolOp op [a] pos) t:=λpins s σ H Q I hw=>BoolOp_one (h pins s σ H Q I hw)
theorem d_Z (ha:PE X a ta) (hb:PE X (.BoolOp .And (b::rest) pos) tb):PE X (.BoolOp .And (a::b::rest) pos) (pC ta tb):=by
 intro pins s σ H Q I h
 refine BoolOp_and (thn (ha pins s σ H _ I h) λv s1 hZ1=>?_)
 obtain ⟨x,H1,I1,r1,q1⟩:=hZ1
 obtain ⟨c,rfl,q1⟩:=q1
 cases r1
 refine wpAny_truthy_bool ?_
 cases c with
 | true=>exact hb pins s1 σ H1 Q I1 q1
 | false=>exact (.bl false,H1,I1,rfl,q1)
theorem fT (ha:PE X a ta):PE X (.UnaryOp .Not a pos) (ph ta):=by
 intro pins s σ H Q I h
 refine UnaryOp_ (thn (ha pins s σ H _ I h) λv s1 hZ2=>?_)
 obtain ⟨x,H1,I1,r1,q1⟩:=hZ2
 obtain ⟨c,rfl,q1⟩:=q1
 cases r1
 exact not_of (wpAny_truthy_bool (.bl (!c),H1,I1,rfl,q1))
end
def SqL (K:Frag) (H:Hp) (a:Addr) (xs:List V):Prop:=
 Rd H a (.lst xs) \/
  ∃(o:Obj) (its:Array Value) (n:Nat),K.lookup a=some o/\o.cls=.type "list"/\o.dict=none/\o.data=.seq its n/\its.size≤sizeLine/\ab xs its.toList
def SqT (K:Frag) (H:Hp) (a:Addr) (xs:List V):Prop:=
 Rd H a (.tup xs) \/
  ∃(o:Obj) (its:Array Value) (n:Nat),K.lookup a=some o/\o.cls=.type "tuple"/\o.data=.seq its n/\its.size≤sizeLine/\ab xs its.toList
def qC:Value->Option V
 | .none=>some .non
 | .bool b=>some (.bl b)
 | .int i _=>some (.int i)
 | .str x _=>some (.str x)
 | .bytes b _=>some (.byt b)
 | .float b _=>some (.flt b)
 | .ref a=>some (.ref a)
 | .type n=>some (.ty n)
 | _=>none
theorem ad.abs (r:ad x u):qC u=some x:=by
 cases x with
 | non=>cases r;rfl
 | bl _=>cases r;rfl
 | int _=>obtain ⟨t,rfl⟩:=r;rfl
 | str _=>obtain ⟨t,rfl⟩:=r;rfl
 | byt _=>obtain ⟨t,rfl⟩:=r;rfl
 | flt _=>obtain ⟨t,rfl⟩:=r;rfl
 | ref _=>cases r;rfl
 | ty _=>cases r;rfl
theorem ad.inj (r:ad x u) (q:ad y u):x=y:=Option.some.inj (r.abs.symm.trans q.abs)
theorem ab.inj:∀{xs ys:List V} {us:List Value},ab xs us->ab ys us->xs=ys
 | _,_,_,.nil,.nil=>rfl
 | _,_,_,.cons r t,.cons r' t'=>by rw [r.inj r',ab.inj t t']
section
variable {X:Cx} {pins:List (Addr×Obj)} {σ:St} {H:Hp} {s:Shared} {a:Addr} {xs ys:List V}
theorem SqL.of {K:Frag} (h:H a=some (.lst xs)):SqL K H a xs:=.inl (.inl h)
theorem SqT.of {K:Frag} (h:H a=some (.tup xs)):SqT K H a xs:=.inl (.inl h)
theorem Inv.list (I:Inv X pins σ H s) (h:SqL X.K H a xs):∃its:List Value,ab xs its/\PlainL s.heap a its.toArray/\xs.length≤sizeLine:=by
 rcases h with h|⟨o,its,n,hk,hc,hd,hs,hz,r⟩
 .obtain ⟨z,its,n,r,e⟩:=h.ok I.hok
  exact (its,r,(_,n,e,rfl,rfl,rfl),z)
 .refine (its.toList,r,(o,n,I.kIn a o hk,hc,hd,by simpa using hs),?_)
  have e:=r.length
  simp only [length_toList] at e
  lia
theorem Inv.tuple (I:Inv X pins σ H s) (h:SqT X.K H a xs):∃its:List Value,ab xs its/\IsTup s.heap a its.toArray/\xs.length≤sizeLine:=by
 rcases h with h|⟨o,its,n,hk,hc,hs,hz,r⟩
 .obtain ⟨z,its,r,p⟩:=h.ok I.hok
  exact (its,r,p,z)
 .refine (its.toList,r,(o,I.kIn a o hk,hc,n,by simpa using hs),?_)
  have e:=r.length
  simp only [length_toList] at e
  lia
theorem Inv.list_inj (I:Inv X pins σ H s) (h:SqL X.K H a xs) (h':SqL X.K H a ys):xs=ys:=by
 obtain ⟨its,r,⟨o,n,e,_,_,d⟩,_⟩:=I.list h
 obtain ⟨its',r',⟨o',n',e',_,_,d'⟩,_⟩:=I.list h'
 rw [e] at e';cases e'
 rw [d] at d'
 injection d' with d1 _
 have:its=its':=by simpa using congrArg Array.toList d1
 subst this
 exact r.inj r'
theorem Inv.tuple_inj (I:Inv X pins σ H s) (h:SqT X.K H a xs) (h':SqT X.K H a ys):xs=ys:=by
 obtain ⟨its,r,⟨o,e,_,n,d⟩,_⟩:=I.tuple h
 obtain ⟨its',r',⟨o',e',_,n',d'⟩,_⟩:=I.tuple h'
 rw [e] at e';cases e'
 rw [d] at d'
 injection d' with d1 _
 have:its=its':=by simpa using congrArg Array.toList d1
 subst this
 exact r.inj r'
end
abbrev Cx.wish (X:Cx) (E:Value->Shared->Prop):Cx:={ X with xe:=E }
abbrev Cx.nox (X:Cx):Cx:=X.wish λ_ _=>False
theorem Cx.Ok.wish {X:Cx} (ok:X.Ok) (E:Value->Shared->Prop):(X.wish E).Ok:=
 (ok.mod,ok.kind,ok.glob,ok.blt,ok.above,ok.inj,ok.has,ok.cab,ok.hd,ok.frames,ok.stk,ok.exf,ok.bs,ok.bsz,ok.noex,ok.exfs,ok.funs,ok.frf)
theorem Cx.Ok.unwish {X:Cx} (ok:(X.wish E).Ok):X.Ok:=
 (ok.mod,ok.kind,ok.glob,ok.blt,ok.above,ok.inj,ok.has,ok.cab,ok.hd,ok.frames,ok.stk,ok.exf,ok.bs,ok.bsz,ok.noex,ok.exfs,ok.funs,ok.frf)
section
variable {X:Cx} {pins:List (Addr×Obj)} {σ:St} {H:Hp} {s:Shared} {E:Value->Shared->Prop}
theorem Inv.wish (I:Inv X pins σ H s) (E:Value->Shared->Prop):Inv (X.wish E) pins σ H s:=(I.ok.wish E,I.os,I.bare,I.base,I.loc,I.cell,I.free,I.freeC,I.pin,I.hok,I.len)
theorem Inv.unwish (I:Inv (X.wish E) pins σ H s):Inv X pins σ H s:=(I.ok.unwish,I.os,I.bare,I.base,I.loc,I.cell,I.free,I.freeC,I.pin,I.hok,I.len)
theorem SP.unwish (h:SP (X.wish E) pins D f s'):SP X pins D f s':=by
 cases f with
 | next=>obtain ⟨σ',H',I,q⟩:=h;exact (σ',H',I.unwish,q)
 | brk=>obtain ⟨σ',H',I,q⟩:=h;exact (σ',H',I.unwish,q)
 | cont=>obtain ⟨σ',H',I,q⟩:=h;exact (σ',H',I.unwish,q)
 | ret u=>obtain ⟨v,σ',H',I,r,q⟩:=h;exact (v,σ',H',I.unwish,r,q)
theorem PSs.nox {st:List Stmt} (h:PSs X.nox st t):PSs X st t:=λpins s σ H D I hw=>
 wpAny_mono (h pins s σ H D (I.wish _) hw) (λ_ _ q=>q.unwish) λ_ _ z=>False.elim z
end
section
variable {X:Cx} {st:Stmt} {rest:List Stmt} {t u:TS} {e:Expr} {te:TE} {pos:Pos}
def tNext:TS:=λD σ H=>D.nx σ H
def av (t u:TS):TS:=λD σ H=>t { D with nx:=u D } σ H
theorem a_m:PSs X [] tNext:=λ_ _ σ H _ I h=>wpAny_execs_nil (σ,H,I,h)
theorem a_a (h1:PS X st t) (h2:PSs X rest u):PSs X (st::rest) (av t u):=by
 intro pins s σ H D I h
 refine wpAny_execs_cons (thn (h1 pins s σ H { D with nx:=u D } I h) λf s1 q=>?_)
 cases f with
 | next=>
  obtain ⟨σ',H',I',q⟩:=q
  exact h2 pins s1 σ' H' D I' q
 | ret v=>exact q
 | brk=>exact q
 | cont=>exact q
theorem a_b (h1:PS X st t):PSs X [st] t:=by
 intro pins s σ H D I h
 refine wpAny_execs_cons (thn (h1 pins s σ H D I h) λf s1 q=>?_)
 cases f with
 | next=>exact wpAny_execs_nil q
 | ret v=>exact q
 | brk=>exact q
 | cont=>exact q
def tBreak:TS:=λD σ H=>D.bk σ H
theorem dX:PS X (.Break pos) tBreak:=λ_ _ σ H _ I h=>wpAny_Break (σ,H,I,h)
theorem Inv.quiet {σ:St} (I:Inv X pins σ H s):interactive X.env=false:=by simp [interactive,I.ok.kind]
def pA (te:TE):TS:=λD σ H=>te σ H λ_ H1=>D.nx σ H1
theorem a_y (he:PE X e te) (hs:swapsWith e none pos.line X.env=pure false:=by rfl):PS X (.Expr e pos) (pA te):=by
 intro pins s σ H D I h
 exact wpAny_Expr_any (thn (he pins s σ H _ I h) λv s1 hZ0=>by obtain ⟨x,H1,I1,r1,q1⟩:=hZ0;exact (σ,H1,I1,q1)) I.quiet hs
def aI (te:TE):TS:=λD σ H=>te σ H D.rt
theorem a_f (he:PE X e te):PS X (.Return (some e) pos) (aI te):=by
 intro pins s σ H D I h
 exact wpAny_Return_some (thn (he pins s σ H _ I h) λv s1 hZ1=>by obtain ⟨x,H1,I1,r1,q1⟩:=hZ1;exact (x,σ,H1,I1,r1,q1))
def pq (c:TT) (t u:TS):TS:=λD σ H=>c σ H λb H1=>if b=true then t D σ H1 else u D σ H1
theorem a_N (hc:PT X c tc) (ha:PSs X a t) (hb:PSs X b u):PS X (.If c a b pos) (pq tc t u):=by
 intro pins s σ H D I h
 refine wpAny_If (thn (hc pins s σ H _ I h) λd s1 hZ2=>?_)
 obtain ⟨H1,I1,q1⟩:=hZ2
 cases d with
 | true=>exact ha pins s1 σ H1 D I1 q1
 | false=>exact hb pins s1 σ H1 D I1 q1
def tNever:TS:=λ_ _ _=>False
theorem h_c:PS X st tNever:=λ_ _ _ _ _ _ h=>h.elim
end
abbrev TG:=V->St->Hp->(St->Hp->Prop)->Prop
abbrev TGs:=List V->St->Hp->(St->Hp->Prop)->Prop
def PG (X:Cx) (target:Expr) (t:TG):Prop:=
 ∀(pins:List (Addr×Obj)) (s:Shared) (σ:St) (H:Hp) (v:V) (u:Value) (Q:St->Hp->Prop),Inv X pins σ H s->ad v u->t v σ H Q->
  wpAny (model X.prog X.w) X.A (assign target X.env u) (λ_ s'=>∃ σ' H',Inv X pins σ' H' s'/\Q σ' H') X.xe s
def PGs (X:Cx) (ts:List Expr) (t:TGs):Prop:=
 ∀(pins:List (Addr×Obj)) (s:Shared) (σ:St) (H:Hp) (vs:List V) (us:List Value) (Q:St->Hp->Prop),Inv X pins σ H s->ab vs us->t vs σ H Q->
  wpAny (model X.prog X.w) X.A (assignInOrder ((assignEach ts X.env).map (·.2)) us) (λ_ s'=>∃ σ' H',Inv X pins σ' H' s'/\Q σ' H') X.xe s
abbrev TSet:=V->V->V->Hp->(Hp->Prop)->Prop
def nc (X:Cx) (t:TSet):Prop:=
 ∀(pins:List (Addr×Obj)) (s:Shared) (σ:St) (H:Hp) (o i v:V) (ov iv u:Value) (Q:Hp->Prop),Inv X pins σ H s->ad o ov->ad i iv->ad v u->t o i v H Q->
  wpAny (model X.prog X.w) X.A (setItem ov iv u) (λ_ s'=>∃H',Inv X pins σ H' s'/\Q H') X.xe s
section
variable {X:Cx} {pos:Pos}
def b_y (i:Nat):TG:=λv σ H Q=>Q (σ.set i (some v)) H
theorem h_e (hN:X.N.Nodup) (hi:X.N[i]?=some x) (hx:Loc X.env.scope x) (hf:X.fn x=true\/X.env.scope.names.lookup x=some .local:=by first|exact .inl rfl|exact .inr rfl|assumption):PG X (.Name x pos) (b_y i):=by
 intro pins s σ H v u Q I r h
 exact wpAny_assign_Name (store_ok I hN hi hx r (λs' I'=>(_,H,I',h)) hf)
def gNil:TGs:=λvs σ H Q=>vs=[]/\Q σ H
def lA (t:TG) (u:TGs):TGs:=λvs σ H Q=>∃v r,vs=v::r/\t v σ H λσ' H'=>u r σ' H' Q
theorem d_l:PGs X [] gNil:=by
 intro pins s σ H vs us Q I r h
 obtain ⟨e,h⟩:=h
 subst e
 cases r
 exact assignInOrder_nil (σ,H,I,h)
theorem a_T (h1:PG X e t) (h2:PGs X es u)
  (hs:(assignEach (e::es) X.env).map (·.2)=assign e X.env::(assignEach es X.env).map (·.2):=by rfl):PGs X (e::es) (lA t u):=by
 intro pins s σ H vs us Q I r h
 obtain ⟨v,vr,e1,h⟩:=h
 subst e1
 cases r with
 | cons r rr=>
  rw [hs]
  refine assignInOrder_cons (thn (h1 pins s σ H _ _ _ I r h) λ_ s1 hZ0=>?_)
  obtain ⟨σ1,H1,I1,q1⟩:=hZ0
  exact h2 pins s1 σ1 H1 _ _ Q I1 rr q1
def pX (K:Frag) (n:Nat) (t:TGs):TG:=λv σ H Q=>∃a xs,v=.ref a/\SqT K H a xs/\xs.length=n/\t xs σ H Q
theorem e_N {k:Nat} (hc:X.calm=true) (h:PGs X es t)
  (hn:(assignEach es X.env).length=n:=by rfl) (hst:(assignEach es X.env).findIdx? (·.1)=none:=by rfl):PG X (.Tuple es k pos) (pX X.K n t):=by
 intro pins s σ H v u Q I r hw
 obtain ⟨a,xs,e1,hq,hl,hw⟩:=hw
 subst e1
 cases r
 obtain ⟨its,rv,ht,hz⟩:=I.tuple hq
 refine assign_Tuple_tuple (I.ok.hd hc) ht (by simp [hn,<- hl,rv.length]) hst λh' hx=>?_
 have I1:Inv X pins σ H { s with heap:=h' }:=I.kept (t':=s.toks) λb o e=>hx b o (ne_of_lt (lt_size e)) e
 exact h pins _ σ H xs _ Q I1 (by simpa using rv) hw
def qA (to ti:TE) (t:TSet):TG:=λv σ H Q=>to σ H λo H1=>ti σ H1 λi H2=>t o i v H2 λH3=>Q σ H3
theorem pg_sub (ho:PE X o to) (hi:PE X i ti) (hs:nc X t)
  (ha:∀v,assign (.Subscript o i pos) X.env v=(do
   let ov <- holding [v] (eval o X.env)
   let iv <- holding [v,ov] (eval i X.env)
   standAt pos
   holding [v,ov,iv] (setItem ov iv v)
   release [v,ov,iv] []):=by intro _;rfl):PG X (.Subscript o i pos) (qA to ti t):=by
 intro pins s σ H v u Q I r h
 rw [ha]
 refine qa7 (wpAny_holding (thn (ho pins s σ H _ I h) λov s1 hZ1=>?_))
 obtain ⟨x,H1,I1,r1,q1⟩:=hZ1
 refine qa7 (wpAny_holding (thn (hi pins s1 σ H1 _ I1 q1) λiv s2 hZ2=>?_))
 obtain ⟨y,H2,I2,r2,q2⟩:=hZ2
 refine qa7 (wpAny_standAt (qa7 (wpAny_holding (thn (hs pins s2 σ H2 x y v ov iv u _ I2 r1 r2 r q2) λ_ s3 hZ0=>?_))))
 obtain ⟨H3,I3,q3⟩:=hZ0
 exact wpAny_release (σ,H3,I3,q3)
def au (te:TE) (g:TG):TS:=λD σ H=>te σ H λx H1=>g x σ H1 D.nx
theorem ps_asg (he:PE X e te) (hg:PG X tg g) (hs:swapsWithSole [tg] e pos.line X.env=pure false:=by rfl) (hw:swappedStores [tg] e X.env=pure none:=by rfl)
  (h1:(assignEach [tg] X.env).map (·.2)=[assign tg X.env]:=by rfl):PS X (.Assign [tg] e pos) (au te g):=by
 intro pins s σ H D I h
 refine wpAny_Assign_stores (thn (he pins s σ H _ I h) λv s1 hZ1=>?_) hs hw
 obtain ⟨x,H1,I1,r1,q1⟩:=hZ1
 rw [h1]
 exact thn (hg pins s1 σ H1 x v _ I1 r1 q1) λ_ s2 q=>q
theorem nZ (hN:X.N.Nodup) (hi:X.N[i]?=some x) (hx:Loc X.env.scope x) (he:PE X e te) (hs:swapsWith e (some (.Name x pos')) pos.line X.env=pure false:=by rfl) (hf:X.fn x=true\/X.env.scope.names.lookup x=some .local:=by first|exact .inl rfl|exact .inr rfl|assumption):
  PS X (.Assign [.Name x pos'] e pos) (au te (b_y i)):=by
 intro pins s σ H D I h
 refine wpAny_Assign_Name (thn (he pins s σ H _ I h) λv s1 hZ2=>?_) hs
 obtain ⟨y,H1,I1,r1,q1⟩:=hZ2
 exact store_ok I1 hN hi hx r1 (λs2 I2=>(_,H1,I2,q1)) hf
end
section
variable {X:Cx} {pos:Pos}
def nO (c:TT) (tb:TS):TS:=λD σ H=>∃W:Nat->St->Hp->Prop,(∃m,W m σ H)/\∀m σ H,W m σ H->
 c σ H λb H1=>if b=true then ∃N:St->Hp->Prop,(∀ σ' H',N σ' H'->∃m',m'<m/\W m' σ' H')/\tb { D with nx:=N,ct:=N,bk:=D.nx } σ H1 else D.nx σ H1
theorem c_T (hp:PassesOwn (model X.prog X.w) X.A X.env X.xe) (hc:PT X c tc) (hb:PSs X body tb):PS X (.While c body [] pos) (nO tc tb):=by
 intro pins s σ H D I h
 obtain ⟨W,⟨m0,w0⟩,turn⟩:=h
 refine wpAny_While (codeAny_whileLoop (λn s'=>∃ σ' H',Inv X pins σ' H' s'/\W n σ' H') ?_ m0 (σ,H,I,w0))
 rintro n s1 ⟨σ1,H1,I1,w1⟩
 refine wpAny_passesOwn hp (thn (hc pins s1 σ1 H1 _ I1 (turn n σ1 H1 w1)) λb s2 hZ0=>?_)
 obtain ⟨H2,I2,q2⟩:=hZ0
 cases b with
 | true=>
  obtain ⟨N,hN,q2⟩:=q2
  rw [if_pos rfl]
  refine wpAny_passesOwn hp (thn (hb pins s2 σ1 H2 _ I2 q2) λf s3 q3=>?_)
  cases f with
  | next=>
   obtain ⟨σ3,H3,I3,n3⟩:=q3
   obtain ⟨m',hm,w3⟩:=hN σ3 H3 n3
   exact (m',hm,σ3,H3,I3,w3)
  | cont=>
   obtain ⟨σ3,H3,I3,n3⟩:=q3
   obtain ⟨m',hm,w3⟩:=hN σ3 H3 n3
   exact (m',hm,σ3,H3,I3,w3)
  | brk=>exact q3
  | ret v=>exact q3
 | false=>
  rw [if_neg Bool.false_ne_true]
  exact wpAny_execs_nil (σ1,H2,I2,q2)
end
structure It where
 go:Nat->Hp->Prop
 yld:Nat->Hp->V->Hp->Prop
 stop:Nat->Hp->Prop
def aG (X:Cx) (pins:List (Addr×Obj)) (H:Hp) (b:Addr):Prop:=
 H b=none/\b≠X.env.locals/\b∉X.fs/\(b∈X.ex\/X.s₀.heap.objs.size≤b)/\(∀x c,X.env.cells.lookup x=some c->c≠b)/\∀p∈X.pn++pins,p.1≠b
theorem Inv.fpOk {σ:St} {b:Addr} (I:Inv X pins σ H s) (hb:s.heap.objs.size≤b) (hn:H' b=none):aG X pins H' b:=by
 refine (hn,ne_of_gt (lt_of_lt_of_le I.lt hb),I.nofs hb,.inr (le_trans I.sz hb),λx c e z=>?_,λp hp z=>?_)
 .obtain ⟨v,q⟩:=I.cell x c e
  exact absurd (lt_of_lt_of_le q.lt (by rw [z];exact hb)) (lt_irrefl _)
 .exact absurd (lt_of_lt_of_le (lt_size (I.pin p hp).1) (by rw [z];exact hb)) (lt_irrefl _)
structure aY (P:Program) (w:World) (K:Frag) (tg:Expr) (J:It) (fp:List Addr) (it:Addr) (tn:Nat->Heap->Prop):Prop where
 mem:it∈fp
 obj:∀i h,tn i h->∀b∈fp,∃o,h.get? b=some o/\∀v,o.data≠.cell v
 keep:∀i h h',tn i h->(∀b∈fp,∀o,h.get? b=some o->h'.get? b=some o)->tn i h'
 item:∀(X:Cx),X.prog=P->X.w=w->X.K=K->X.calm=true->∀(i:Nat) (pins:List (Addr×Obj)) (s:Shared) (σ:St) (H:Hp) (E:Value->Shared->Prop),Inv X pins σ H s->(∀b∈fp,aG X pins H b)->tn i s.heap->J.go i H->
  wpAny (model P w) X.A (pyNext (.ref it)) (λr s1=>∃u,r=some u/\
   wpAny (model P w) X.A (letOwnedTupleGo tg (.ref it) u) (λ_ s2=>∃x H',Inv X pins σ H' s2/\ad x u/\J.yld i H x H'/\tn (i+1) s2.heap/\∀b∈fp,H' b=none) E s1) E s
 done:∀(X:Cx),X.prog=P->X.w=w->X.K=K->X.calm=true->∀(i:Nat) (pins:List (Addr×Obj)) (s:Shared) (σ:St) (H:Hp) (E:Value->Shared->Prop),Inv X pins σ H s->(∀b∈fp,aG X pins H b)->tn i s.heap->J.stop i H->
  wpAny (model P w) X.A (pyNext (.ref it)) (λr s1=>r=none/\Inv X pins σ H s1) E s
 self:∀(A:Around) (i:Nat) (s:Shared) (Q:Value->Shared->Prop) (E:Value->Shared->Prop),tn i s.heap->Q (.ref it) s->wpAny (model P w) A (pyIter (.ref it)) Q E s
abbrev TI:=St->Hp->(It->Hp->Prop)->Prop
def PIE (X:Cx) (pins:List (Addr×Obj)) (σ:St) (tg:Expr) (R:It->Hp->Prop) (itv:Value) (s2:Shared):Prop:=
 ∃(it:Addr) (fp:List Addr) (tn:Nat->Heap->Prop) (J:It) (H':Hp),itv=.ref it/\Inv X pins σ H' s2/\aY X.prog X.w X.K tg J fp it tn/\tn 0 s2.heap/\(∀b∈fp,aG X pins H' b)/\R J H'
def PI (X:Cx) (tg iter:Expr) (wi:TI):Prop:=
 ∀(pins:List (Addr×Obj)) (s:Shared) (σ:St) (H:Hp) (R:It->Hp->Prop),Inv X pins σ H s->wi σ H R->
  wpAny (model X.prog X.w) X.A (eval iter X.env) (λv s1=>wpAny (model X.prog X.w) X.A (pyIter v) (PIE X pins σ tg R) X.xe s1) X.xe s
theorem bR {M:Model} {A:Around} (ho:s.heap.get? it=some o) (hc:o.cls=.type n) (hd:o.data=.fields vs)
  (hn:["enumerate","zip","dict_itemiterator","dict_reverseitemiterator","odict_iterator","itertools.zip_longest","itertools.pairwise"].contains n=false) (hQ:Q () s):wpAny M A (letOwnedTupleGo tg (.ref it) u) Q E s:=by
 unfold letOwnedTupleGo
 cases tg <;> first
  | exact qa8 hQ
  | (cases u <;> first
    | exact qa8 hQ
    | (refine qa7 (wpAny_load ho ?_)
       rw [hc,hd]
       show wpAny M A (if (["enumerate","zip","dict_itemiterator","dict_reverseitemiterator","odict_iterator","itertools.zip_longest","itertools.pairwise"].contains n&&vs[0]?==some (rawInt _))=true then _ else _) Q E s
       rw [if_neg (by intro h;rw [hn,Bool.false_and] at h;cases h)]
       exact qa8 hQ))
def Itl (K:Frag) (a:Addr):It:=
 ⟨λi H=>∃xs x,SqL K H a xs/\xs[i]?=some x,λi H x H'=>H'=H/\∀xs,SqL K H a xs->xs[i]?=some x,λi H=>∃xs,SqL K H a xs/\xs.length≤i⟩
def Itt (K:Frag) (a:Addr):It:=
 ⟨λi H=>∃xs x,SqT K H a xs/\xs[i]?=some x,λi H x H'=>H'=H/\∀xs,SqT K H a xs->xs[i]?=some x,λi H=>∃xs,SqT K H a xs/\xs.length≤i⟩
def Itr (lo:Int) (n:Nat):It:=(λi _=>i<n,λi H x H'=>H'=H/\x=.int (lo+i),λi _=>n≤i)
theorem bp {K:Frag} (a it:Addr):aY P w K tg (Itl K a) [it] it (λi h=>h.IsListIter it a i)  where
 mem:=by simp
 obj:=λi h st b hb=>by
  have e:b=it:=by simpa using hb
  subst e
  obtain ⟨o,e,c,d⟩:=st
  exact (o,e,λv z=>by rw [d] at z;cases z)
 keep:=λi h h' st k=>st.at λo e=>k it (by simp) o e
 item:=by
  intro X hP hw hK hc i pins s σ H E I hf st hg
  subst hP hw hK
  obtain ⟨xs,x,hq,hx⟩:=hg
  obtain ⟨its,rv,p,hz⟩:=I.list hq
  obtain ⟨u,hu,ru⟩:=rv.get hx
  obtain ⟨f0,f1,f2,f3,f4,f5⟩:=hf it (by simp)
  refine wpAny_pyNext_list_item st p.isList (x:=u) (by simpa using hu) λh' st' sb=>?_
  have I1:Inv X pins σ H { s with heap:=h' }:=I.turned (t':=s.toks) (λb o hb e=>(sb.2 b hb).trans e) f0 f1 f3 f4 f5
  obtain ⟨o,e,c,d⟩:=id st'
  exact (u,rfl,bR (s:={ s with heap:=h' }) e c d (by decide) (x,H,I1,ru,(rfl,λys hy=>by rw [I.list_inj hy hq];exact hx),st',λb hb=>(hf b hb).1))
 done:=by
  intro X hP hw hK hc i pins s σ H E I hf st hg
  subst hP hw hK
  obtain ⟨xs,hq,hx⟩:=hg
  obtain ⟨its,rv,p,hz⟩:=I.list hq
  obtain ⟨f0,f1,f2,f3,f4,f5⟩:=hf it (by simp)
  have hl:=rv.length
  exact wpAny_pyNext_list_end (I.ok.hd hc) st p.isList (by simp;lia) λh' eb=>(rfl,I.turned (t':=s.toks) (λb o hb e=>eb b o hb e) f0 f1 f3 f4 f5)
 self:=λ_ _ _ _ _ st h=>wpAny_pyIter_listiter st h
theorem g_o {K:Frag} (a it:Addr):aY P w K tg (Itt K a) [it] it (λi h=>h.IsTupleIter it a i)  where
 mem:=by simp
 obj:=λi h st b hb=>by
  have e:b=it:=by simpa using hb
  subst e
  obtain ⟨o,e,c,d⟩:=st
  exact (o,e,λv z=>by rw [d] at z;cases z)
 keep:=λi h h' st k=>st.at λo e=>k it (by simp) o e
 item:=by
  intro X hP hw hK hc i pins s σ H E I hf st hg
  subst hP hw hK
  obtain ⟨xs,x,hq,hx⟩:=hg
  obtain ⟨its,rv,p,hz⟩:=I.tuple hq
  obtain ⟨u,hu,ru⟩:=rv.get hx
  obtain ⟨f0,f1,f2,f3,f4,f5⟩:=hf it (by simp)
  refine wpAny_pyNext_tuple_item st (show s.heap.IsTuple a its.toArray from p) (x:=u) (by simpa using hu) λh' st' sb=>?_
  have I1:Inv X pins σ H { s with heap:=h' }:=I.turned (t':=s.toks) (λb o hb e=>(sb.2 b hb).trans e) f0 f1 f3 f4 f5
  obtain ⟨o,e,c,d⟩:=id st'
  exact (u,rfl,bR (s:={ s with heap:=h' }) e c d (by decide) (x,H,I1,ru,(rfl,λys hy=>by rw [I.tuple_inj hy hq];exact hx),st',λb hb=>(hf b hb).1))
 done:=by
  intro X hP hw hK hc i pins s σ H E I hf st hg
  subst hP hw hK
  obtain ⟨xs,hq,hx⟩:=hg
  obtain ⟨its,rv,p,hz⟩:=I.tuple hq
  obtain ⟨f0,f1,f2,f3,f4,f5⟩:=hf it (by simp)
  have hl:=rv.length
  exact wpAny_pyNext_tuple_end (I.ok.hd hc) st (show s.heap.IsTuple a its.toArray from p) (by simp;lia) λh' eb=>(rfl,I.turned (t':=s.toks) (λb o hb e=>eb b o hb e) f0 f1 f3 f4 f5)
 self:=λ_ _ _ _ _ st h=>wpAny_pyIter_tupleiter st h
theorem fE {K:Frag} (it:Addr) (lo:Int) (n:Nat):aY P w K tg (Itr lo n) [it] it (λi h=>IsRangeIter h it (lo+(i:Nat) * 1) ((n:Int) - (i:Nat)) 1)  where
 mem:=by simp
 obj:=λi h st b hb=>by
  have e:b=it:=by simpa using hb
  subst e
  exact (_,st,λv z=>by
   have z':Data.fields _=Data.cell v:=z
   cases z')
 keep:=λi h h' st k=>k it (by simp) _ st
 item:=by
  intro X hP hw hK hc i pins s σ H E I hf st hg
  subst hP hw hK
  obtain ⟨f0,f1,f2,f3,f4,f5⟩:=hf it (by simp)
  have W:=Walks.range (prog:=X.prog) (w:=X.w) (I.ok.hd hc) it lo 1 n
  refine W.item i s _ _ hg st λv h' tk hv st' kk=>?_
  obtain ⟨t,rfl⟩:=hv
  have I1:Inv X pins σ H { s with heap:=h',toks:=tk }:=I.turned (λb o hb e=>kk b o (by simpa using hb) e) f0 f1 f3 f4 f5
  refine (_,rfl,bR (s:={ s with heap:=h',toks:=tk }) (n:="range_iterator") st' rfl rfl (by decide) (.int (lo+i),H,I1,(t,?_),(rfl,rfl),st',λb hb=>(hf b hb).1))
  rw [Int.mul_one]
 done:=by
  intro X hP hw hK hc i pins s σ H E I hf st hg
  subst hP hw hK
  obtain ⟨f0,f1,f2,f3,f4,f5⟩:=hf it (by simp)
  exact wpAny_pyNext_range_end (I.ok.hd hc) st (by have:n≤i:=hg;lia) λh' eb=>(rfl,I.turned (t':=s.toks) (λb o hb e=>eb b o hb e) f0 f1 f3 f4 f5)
 self:=λ_ _ _ _ _ st h=>wpAny_pyIter_rangeiter st h
section
variable {X:Cx} {tg:Expr}
def nB (K:Frag) (tl:TE):TI:=λσ H R=>tl σ H λx H1=>∃a,x=.ref a/\(∃xs,SqL K H1 a xs)/\R (Itl K a) H1
def qy (K:Frag) (tl:TE):TI:=λσ H R=>tl σ H λx H1=>∃a,x=.ref a/\(∃xs,SqT K H1 a xs)/\R (Itt K a) H1
theorem b_Y (hl:PE X l tl):PI X tg l (nB X.K tl):=by
 intro pins s σ H R I h
 refine thn (hl pins s σ H _ I h) λv s1 hZ1=>?_
 obtain ⟨x,H1,I1,r1,q1⟩:=hZ1
 obtain ⟨a,e,⟨xs,hq⟩,q⟩:=q1
 subst e
 cases r1
 obtain ⟨its,rv,p,hz⟩:=I1.list hq
 refine wpAny_pyIter_list p.isList ?_
 refine (s1.heap.objs.size,[s1.heap.objs.size],_,_,H1,rfl,I1.kept (t':=s1.toks) λb o e=>qa9 _ e,bp a _,(_,get?_push_size _ rfl,rfl,rfl),λb hb=>?_,q)
 have e:b=s1.heap.objs.size:=by simpa using hb
 subst e
 exact I1.fpOk (le_refl _) (I1.hok.fresh (le_refl _))
theorem ko (hl:PE X l tl):PI X tg l (qy X.K tl):=by
 intro pins s σ H R I h
 refine thn (hl pins s σ H _ I h) λv s1 hZ2=>?_
 obtain ⟨x,H1,I1,r1,q1⟩:=hZ2
 obtain ⟨a,e,⟨xs,hq⟩,q⟩:=q1
 subst e
 cases r1
 obtain ⟨its,rv,p,hz⟩:=I1.tuple hq
 refine wpAny_pyIter_tuple (show s1.heap.IsTuple a its.toArray from p) ?_
 refine (s1.heap.objs.size,[s1.heap.objs.size],_,_,H1,rfl,I1.kept (t':=s1.toks) λb o e=>qa9 _ e,g_o a _,(_,get?_push_size _ rfl,rfl,rfl),λb hb=>?_,q)
 have e:b=s1.heap.objs.size:=by simpa using hb
 subst e
 exact I1.fpOk (le_refl _) (I1.hok.fresh (le_refl _))
theorem kh {σ:St} {lo hi:Int} (I:Inv X pins σ H s) (h1:-(2 ^ 62)≤lo) (h2:lo<2 ^ 62) (h3:-(2 ^ 62)≤hi) (h4:hi<2 ^ 62)
  (q:R (Itr lo (hi - lo).toNat) H):wpAny (model X.prog X.w) X.A (pyIter (.ref s.heap.objs.size)) (PIE X pins σ tg R) E { s with heap:=s.heap.push { cls:=.type "range",data:=.fields #[.int lo t,.int hi u,.int 1 v] },toks:=tk }:=by
 refine wpAny_pyIter_range (IsRange.new ..) (small_one h1 h2 h3 h4) ?_
 have I1:Inv X pins σ H { s with heap:=s.heap.push { cls:=.type "range",data:=.fields #[.int lo t,.int hi u,.int 1 v] },toks:=tk }:=I.kept λb o e=>qa9 _ e
 refine ((s.heap.push { cls:=.type "range",data:=.fields #[.int lo t,.int hi u,.int 1 v] }).objs.size,[(s.heap.push { cls:=.type "range",data:=.fields #[.int lo t,.int hi u,.int 1 v] }).objs.size],_,_,H,rfl,
  I1.kept (t':=tk) λb o e=>qa9 _ e,fE _ lo (hi - lo).toNat,?_,λb hb=>?_,q)
 .have e1:lo+((0:Nat):Int) * 1=lo:=by simp
  have e2:(((hi - lo).toNat:Nat):Int) - ((0:Nat):Int)=Builtin.Range.rangeSize lo hi 1:=by rw [rangeSize_one];split <;> lia
  show IsRangeIter _ _ (lo+((0:Nat):Int) * 1) ((((hi - lo).toNat:Nat):Int) - ((0:Nat):Int)) 1
  rw [e1,e2]
  exact get?_push_size _ rfl
 .have e:b=(s.heap.push { cls:=.type "range",data:=.fields #[.int lo t,.int hi u,.int 1 v] }).objs.size:=by simpa using hb
  subst e
  exact I1.fpOk (le_refl _) (I1.hok.fresh (le_refl _))
def iy (ta:TA):TI:=λσ H R=>ta σ H λvs H1=>∃j:Int,vs=[.int j]/\-(2 ^ 62)≤j/\j<2 ^ 62/\R (Itr 0 j.toNat) H1
theorem a_E (hg:Gl X "range") (hm:X.mg "range"=none) (ha:PA X [a] ta) (hs:starEach [a] X.env=[(false,eval a X.env,)]:=by rfl):PI X tg (.Call (.Name "range" p) [a] [] pos) (iy ta):=by
 intro pins s σ H R I h
 refine Call_ (ld_blt I hg hm boot_range (PyProof.Rows.callWith_type1 (thn (ha pos pins s σ H _ I h) λus s1 hZ0=>?_) hs rfl))
 obtain ⟨vs,H1,I1,r1,q1⟩:=hZ0
 obtain ⟨j,e,q1,q2,q⟩:=q1
 subst e
 cases r1 with
 | cons r rr=>
  cases rr
  obtain ⟨t,rfl⟩:=r
  exact call_range_1 (kh I1 (by lia) (by lia) q1 q2 (by simpa using q))
def qg (wi:TI) (g:TG) (tb:TS):TS:=λD σ H=>wi σ H λJ H1=>∃W:Nat->Nat->St->Hp->Prop,(∃m,W 0 m σ H1)/\∀i m σ H,W i m σ H->
 (J.stop i H/\D.nx σ H)\/(J.go i H/\∃N:St->Hp->Prop,(∀ σ' H',N σ' H'->∃m',m'<m/\W (i+1) m' σ' H')/\∀x H',J.yld i H x H'->g x σ H' λσ2 H2=>tb { D with nx:=N,ct:=N,bk:=D.nx } σ2 H2)
def cK (fp:List Addr) (h:Heap):List (Addr×Obj):=fp.filterMap λb=>(h.get? b).map λo=>(b,o,)
theorem c_f (hb:b∈fp) (e:h.get? b=some o):(b,o,)∈cK fp h:=List.mem_filterMap.mpr (b,hb,by rw [e];rfl)
theorem jc (hp:p∈cK fp h):p.1∈fp/\h.get? p.1=some p.2:=by
 obtain ⟨b,hb,e⟩:=List.mem_filterMap.mp hp
 cases q:h.get? b with
 | none=>rw [q] at e;cases e
 | some o=>
  rw [q] at e
  have e':(b,o,)=p:=Option.some.inj e
  subst e'
  exact (hb,q)
theorem Inv.pinned {σ:St} (I:Inv X pins σ H s) (hf:∀b∈fp,aG X pins H b) (ho:∀b∈fp,∃o,s.heap.get? b=some o/\∀v,o.data≠.cell v):Inv X (pins++cK fp s.heap) σ H s:=
 I.pins_of λp hp=>(mem_append.mp hp).elim (λz=>I.pin p (mem_append_right _ z)) λz=>by
  obtain ⟨hb,e⟩:=jc z
  obtain ⟨f0,f1,f2,_⟩:=hf p.1 hb
  obtain ⟨o,e',d⟩:=ho p.1 hb
  rw [e] at e';cases e'
  exact (e,f0,f1,f2,d)
theorem Inv.unpinned {σ:St} (I:Inv X (pins++pl) σ H s):Inv X pins σ H s:=I.pins_of λp hp=>I.pin p (mem_append_right _ (mem_append_left _ hp))
theorem a_F (hp:PassesOwn (model X.prog X.w) X.A X.env X.xe) (hc:X.calm=true) (hi:PI X tg iter wi) (hg:PG X tg g) (hb:PSs X body tb)
  (hs:∀x,foldedSetIterable iter X.env x=pure x:=by intro _;rfl):PS X (.For tg iter body [] pos) (qg wi g tb):=by
 intro pins s σ H D I h
 refine wpAny_For (thn (hi pins s σ H _ I h) λv s1 h1=>thn h1 λitv s2 h2=>?_) hs
 obtain ⟨it,fp,tn,J,H2,e,I2,T,st2,f2,W,⟨m0,w0⟩,turn⟩:=h2
 subst e
 have stat:∀{H':Hp},(∀b∈fp,H' b=none)->∀b∈fp,aG X pins H' b:=λhn b hb=>(hn b hb,(f2 b hb).2)
 refine codeAny_forLoop_any (λn s'=>∃i σ' H',Inv X pins σ' H' s'/\tn i s'.heap/\(∀b∈fp,H' b=none)/\W i n σ' H') ?_ m0 (0,σ,H2,I2,st2,λb hb=>(f2 b hb).1,w0)
 rintro n s3 ⟨i,σ3,H3,I3,st3,fr3,w3⟩
 rcases turn i n σ3 H3 w3 with ⟨stop,qn⟩|⟨go,N,hN,step⟩
 .refine wpAny_passesOwn hp (thn (T.done X rfl rfl rfl hc i pins s3 σ3 H3 X.xe I3 (stat fr3) st3 stop) λr s4 ⟨hr,I4⟩=>?_)
  subst hr
  exact wpAny_execs_nil (σ3,H3,I4,qn)
 .refine wpAny_passesOwn hp (thn (T.item X rfl rfl rfl hc i pins s3 σ3 H3 X.xe I3 (stat fr3) st3 go) λr s4 ⟨u,hr,h4⟩=>?_)
  subst hr
  refine wpAny_passesOwn hp (thn h4 λ_ s5 hZ1=>?_)
  obtain ⟨x,H5,I5,r5,y5,st5,fr5⟩:=hZ1
  have I5':=I5.pinned (stat fr5) (T.obj _ _ st5)
  refine wpAny_passesOwn hp (thn (hg _ s5 σ3 H5 x u _ I5' r5 (step x H5 y5)) λ_ s6 hZ2=>?_)
  obtain ⟨σ6,H6,I6,q6⟩:=hZ2
  refine wpAny_passesOwn hp (thn (hb _ s6 σ6 H6 _ I6 q6) λf s7 q7=>?_)
  have again:∀{σ7:St} {H7:Hp},Inv X (pins++cK fp s5.heap) σ7 H7 s7->N σ7 H7->∃m,m<n/\∃i σ' H',Inv X pins σ' H' s7/\tn i s7.heap/\(∀b∈fp,H' b=none)/\W i m σ' H':=λ{σ7 H7} I7 n7=>by
   obtain ⟨m',hm,w7⟩:=hN σ7 H7 n7
   refine (m',hm,i+1,σ7,H7,I7.unpinned,T.keep _ _ _ st5 λb hb o e=>(I7.pin (b,o,) (mem_append_right _ (mem_append_right _ (c_f hb e)))).1,λb hb=>?_,w7)
   obtain ⟨o,e,d⟩:=T.obj _ _ st5 b hb
   exact (I7.pin (b,o,) (mem_append_right _ (mem_append_right _ (c_f hb e)))).2.1
  cases f with
  | next=>obtain ⟨σ7,H7,I7,n7⟩:=q7;exact again I7 n7
  | cont=>obtain ⟨σ7,H7,I7,n7⟩:=q7;exact again I7 n7
  | brk=>obtain ⟨σ7,H7,I7,q7⟩:=q7;exact (σ7,H7,I7.unpinned,q7)
  | ret v=>obtain ⟨x7,σ7,H7,I7,r7,q7⟩:=q7;exact (x7,σ7,H7,I7.unpinned,r7,q7)
end
theorem b_H {K:Frag} {g:TG} {tb:TS} {D:aK} (Pv:Nat->St->Hp->Prop) (h0:Pv 0 σ H) (hl:∀i σ H,i≤xs.length->Pv i σ H->SqL K H a xs)
  (hs:∀i x σ H,xs[i]?=some x->Pv i σ H->g x σ H λσ2 H2=>tb { D with nx:=Pv (i+1),ct:=Pv (i+1),bk:=D.nx } σ2 H2) (hd:∀ σ H,Pv xs.length σ H->D.nx σ H):
  ∃W:Nat->Nat->St->Hp->Prop,(∃m,W 0 m σ H)/\∀i m σ H,W i m σ H->
   ((Itl K a).stop i H/\D.nx σ H)\/((Itl K a).go i H/\∃N:St->Hp->Prop,(∀ σ' H',N σ' H'->∃m',m'<m/\W (i+1) m' σ' H')/\∀x H',(Itl K a).yld i H x H'->g x σ H' λσ2 H2=>tb { D with nx:=N,ct:=N,bk:=D.nx } σ2 H2):=by
 refine (λi m σ H=>m=xs.length - i/\i≤xs.length/\Pv i σ H,(xs.length,by simp,zero_le _,h0),?_)
 rintro i m σ H ⟨rfl,hi,p⟩
 have q:=hl i σ H hi p
 by_cases hlt:i<xs.length
 .refine .inr ((xs,xs[i],q,by simp [hlt]),Pv (i+1),λσ' H' p'=>(xs.length - (i+1),by omega,rfl,hlt,p'),λx H' y=>?_)
  obtain ⟨e,y⟩:=y
  subst e
  exact hs i x σ _ (y xs q) p
 .have e:i=xs.length:=by lia
  subst e
  exact .inl ((xs,q,le_refl _),hd σ H p)
theorem iz {K:Frag} {g:TG} {tb:TS} {D:aK} (Pv:Nat->St->Hp->Prop) (h0:Pv 0 σ H) (hl:∀i σ H,i≤xs.length->Pv i σ H->SqT K H a xs)
  (hs:∀i x σ H,xs[i]?=some x->Pv i σ H->g x σ H λσ2 H2=>tb { D with nx:=Pv (i+1),ct:=Pv (i+1),bk:=D.nx } σ2 H2) (hd:∀ σ H,Pv xs.length σ H->D.nx σ H):
  ∃W:Nat->Nat->St->Hp->Prop,(∃m,W 0 m σ H)/\∀i m σ H,W i m σ H->
   ((Itt K a).stop i H/\D.nx σ H)\/((Itt K a).go i H/\∃N:St->Hp->Prop,(∀ σ' H',N σ' H'->∃m',m'<m/\W (i+1) m' σ' H')/\∀x H',(Itt K a).yld i H x H'->g x σ H' λσ2 H2=>tb { D with nx:=N,ct:=N,bk:=D.nx } σ2 H2):=by
 refine (λi m σ H=>m=xs.length - i/\i≤xs.length/\Pv i σ H,(xs.length,by simp,zero_le _,h0),?_)
 rintro i m σ H ⟨rfl,hi,p⟩
 have q:=hl i σ H hi p
 by_cases hlt:i<xs.length
 .refine .inr ((xs,xs[i],q,by simp [hlt]),Pv (i+1),λσ' H' p'=>(xs.length - (i+1),by omega,rfl,hlt,p'),λx H' y=>?_)
  obtain ⟨e,y⟩:=y
  subst e
  exact hs i x σ _ (y xs q) p
 .have e:i=xs.length:=by lia
  subst e
  exact .inl ((xs,q,le_refl _),hd σ H p)
theorem b_G {lo:Int} {g:TG} {tb:TS} {D:aK} (Pv:Nat->St->Hp->Prop) (h0:Pv 0 σ H)
  (hs:∀i σ H,i<n->Pv i σ H->g (.int (lo+i)) σ H λσ2 H2=>tb { D with nx:=Pv (i+1),ct:=Pv (i+1),bk:=D.nx } σ2 H2) (hd:∀ σ H,Pv n σ H->D.nx σ H):
  ∃W:Nat->Nat->St->Hp->Prop,(∃m,W 0 m σ H)/\∀i m σ H,W i m σ H->
   ((Itr lo n).stop i H/\D.nx σ H)\/((Itr lo n).go i H/\∃N:St->Hp->Prop,(∀ σ' H',N σ' H'->∃m',m'<m/\W (i+1) m' σ' H')/\∀x H',(Itr lo n).yld i H x H'->g x σ H' λσ2 H2=>tb { D with nx:=N,ct:=N,bk:=D.nx } σ2 H2):=by
 refine (λi m σ H=>m=n - i/\i≤n/\Pv i σ H,(n,by simp,zero_le _,h0),?_)
 rintro i m σ H ⟨rfl,hi,p⟩
 by_cases hlt:i<n
 .refine .inr (hlt,Pv (i+1),λσ' H' p'=>(n - (i+1),by omega,rfl,hlt,p'),λx H' y=>?_)
  obtain ⟨e,y⟩:=y
  subst e y
  exact hs i σ _ hlt p
 .have e:i=n:=by lia
  subst e
  exact .inl (le_refl _,hd σ H p)
abbrev R2:=V->V->Hp->VK->Prop
def OpR (X:Cx) (f:Value->Value->Sem Value) (r:R2):Prop:=
 ∀(pins:List (Addr×Obj)) (s:Shared) (σ:St) (H:Hp) (x y:V) (v u:Value) (Q:VK),Inv X pins σ H s->ad x v->ad y u->r x y H Q->
  wpAny (model X.prog X.w) X.A (f v u) (EP X pins σ Q) X.xe s
def UnR (X:Cx) (f:Value->Sem Value) (r:V->Hp->VK->Prop):Prop:=
 ∀(pins:List (Addr×Obj)) (s:Shared) (σ:St) (H:Hp) (x:V) (v:Value) (Q:VK),Inv X pins σ H s->ad x v->r x H Q->
  wpAny (model X.prog X.w) X.A (f v) (EP X pins σ Q) X.xe s
def g_e (X:Cx) (f:Value) (r:List V->Hp->VK->Prop):Prop:=
 ∀(pins:List (Addr×Obj)) (s:Shared) (σ:St) (H:Hp) (xs:List V) (us:List Value) (Q:VK),Inv X pins σ H s->ab xs us->r xs H Q->
  wpAny (model X.prog X.w) X.A (call f us) (EP X pins σ Q) X.xe s
def tOp (r:R2) (ta tb:TE):TE:=λσ H Q=>ta σ H λx H1=>tb σ H1 λy H2=>r x y H2 Q
def tUn (r:V->Hp->VK->Prop) (ta:TE):TE:=λσ H Q=>ta σ H λx H1=>r x H1 Q
def rI (C:Int->Int->Prop) (g:Int->Int->V):R2:=λx y H Q=>∃i j,x=.int i/\y=.int j/\C i j/\Q (g i j) H
def rI0 (g:Int->Int->V):R2:=λx y H Q=>∃i j,x=.int i/\y=.int j/\Q (g i j) H
def rU (g:Int->V):V->Hp->VK->Prop:=λx H Q=>∃i,x=.int i/\Q (g i) H
section
variable {X:Cx} {a b c:Expr} {ta tb tc:TE} {pos:Pos}
theorem binT (ha:PE X a ta) (hb:PE X b tb) {σ:St} {R:V->V->Hp->Prop} (I:Inv X pins σ H s)
  (h:ta σ H λx H1=>tb σ H1 λy H2=>R x y H2) {f:Value->Value->Sem Value}
  (hf:∀v u s2 x y H2,Inv X pins σ H2 s2->ad x v->ad y u->R x y H2->wpAny (model X.prog X.w) X.A (f v u) Q X.xe s2):
  wpAny (model X.prog X.w) X.A (eval a X.env) (λv s₁=>wpAny (model X.prog X.w) X.A (eval b X.env) (λu s₂=>wpAny (model X.prog X.w) X.A (f v u) Q X.xe s₂) X.xe s₁) X.xe s:=by
 refine thn (ha pins s σ H _ I h) λv s1 hZ0=>?_
 obtain ⟨x,H1,I1,r1,q1⟩:=hZ0
 refine thn (hb pins s1 σ H1 _ I1 q1) λu s2 hZ1=>?_
 obtain ⟨y,H2,I2,r2,q2⟩:=hZ1
 exact hf v u s2 x y H2 I2 r1 r2 q2
theorem a_j (ho:OpR X (binaryOp op) r) (ha:PE X a ta) (hb:PE X b tb):PE X (.BinOp a op b pos) (tOp r ta tb):=by
 intro pins s σ H Q I h
 exact wpAny_BinOp (binT ha hb I h λv u s2 x y H2 I2 rx ry q=>ho pins s2 σ H2 x y v u Q I2 rx ry q)
theorem aH (ho:UnR X (unaryOp op) r) (ha:PE X a ta):PE X (.UnaryOp op a pos) (tUn r ta):=by
 intro pins s σ H Q I h
 exact UnaryOp_ (thn (ha pins s σ H _ I h) λv s1 hZ2=>by obtain ⟨x,H1,I1,r1,q1⟩:=hZ2;exact ho pins s1 σ H1 x v Q I1 r1 q1)
theorem opI {g:Int->Int->Int}
  (rule:∀(i j:Int) (t u:Tok) (s:Shared) (Q:Value->Shared->Prop) (E:Value->Shared->Prop),C i j->Q (.int (g i j) s.toks) { s with toks:=s.toks+1 }->wpAny (model X.prog X.w) X.A (f (.int i t) (.int j u)) Q E s):
  OpR X f (rI C λi j=>.int (g i j)):=by
 intro pins s σ H x y v u Q I rx ry h
 obtain ⟨i,j,rfl,rfl,hc,q⟩:=h
 obtain ⟨t,rfl⟩:=rx
 obtain ⟨t',rfl⟩:=ry
 exact rule i j t t' s _ _ hc (.int (g i j),H,I.tok _,(_,rfl),q)
theorem pO {g:Int->Int->Int}
  (rule:∀(i j:Int) (t u:Tok) (s:Shared) (Q:Value->Shared->Prop) (E:Value->Shared->Prop),Q (.int (g i j) s.toks) { s with toks:=s.toks+1 }->wpAny (model X.prog X.w) X.A (f (.int i t) (.int j u)) Q E s):
  OpR X f (rI0 λi j=>.int (g i j)):=by
 intro pins s σ H x y v u Q I rx ry h
 obtain ⟨i,j,rfl,rfl,q⟩:=h
 obtain ⟨t,rfl⟩:=rx
 obtain ⟨t',rfl⟩:=ry
 exact rule i j t t' s _ _ (.int (g i j),H,I.tok _,(_,rfl),q)
theorem mH {g:Int->Int->Bool}
  (rule:∀(i j:Int) (t u:Tok) (s:Shared) (Q:Value->Shared->Prop) (E:Value->Shared->Prop),Q (.bool (g i j)) s->wpAny (model X.prog X.w) X.A (f (.int i t) (.int j u)) Q E s):
  OpR X f (rI0 λi j=>.bl (g i j)):=by
 intro pins s σ H x y v u Q I rx ry h
 obtain ⟨i,j,rfl,rfl,q⟩:=h
 obtain ⟨t,rfl⟩:=rx
 obtain ⟨t',rfl⟩:=ry
 exact rule i j t t' s _ _ (.bl (g i j),H,I,rfl,q)
def qd (i j:Int):Prop:=0<j/\j<1073741824
def qG (i j:Int):Prop:=0≤j/\j≤1000000/\i.natAbs<2 ^ 64
def o6 (i j:Int):Prop:=(-(2 ^ 64)<i/\i<2 ^ 64)\/(-(2 ^ 64)<j/\j<2 ^ 64)
theorem o6.ok (h:o6 i j):IntMulOk i j:=by
 rcases h with ⟨h1,h2⟩|⟨h1,h2⟩
 .exact .of_left (intBits_le_64 h1 h2)
 .exact .of_right (intBits_le_64 h1 h2)
theorem fW:OpR X (binaryOp .Add) (rI0 λi j=>.int (i+j)):=pO λ_ _ _ _ _ _ _ q=>add_int q
theorem oi:OpR X (binaryOp .Sub) (rI0 λi j=>.int (i - j)):=pO λ_ _ _ _ _ _ _ q=>sub_int q
theorem kA:OpR X (binaryOp .Mult) (rI o6 λi j=>.int (i * j)):=opI λ_ _ _ _ _ _ _ hc q=>mul_int q hc.ok
theorem f_x:OpR X (binaryOp .FloorDiv) (rI qd λi j=>.int (i / j)):=opI λi j _ _ _ _ _ hc q=>by
 have h1:(0:Int)<j:=hc.1
 have h2:j<1073741824:=hc.2
 exact floordiv_int (by lia) (by rw [Int.fdiv_eq_ediv_of_nonneg i (by lia)];exact q) (.inl (PyProof.noPylong_small (by omega)))
theorem f_w:OpR X (binaryOp .Mod) (rI (λ_ j=>0<j) λi j=>.int (i % j)):=opI λi j _ _ _ _ _ hc q=>by
 have h1:(0:Int)<j:=hc
 exact mod_int' (by lia) (by rw [Int.fmod_eq_emod_of_nonneg i (by lia)];exact q)
theorem op_pow:OpR X (binaryOp .Pow) (rI qG λi j=>.int (i ^ j.toNat)):=opI λ_ _ _ _ _ _ _ hc q=>pow_int_small hc.1 hc.2.1 hc.2.2 q
theorem unI {g:Int->Int}
  (rule:∀(i:Int) (t:Tok) (s:Shared) (Q:Value->Shared->Prop) (E:Value->Shared->Prop),Q (.int (g i) s.toks) { s with toks:=s.toks+1 }->wpAny (model X.prog X.w) X.A (f (.int i t)) Q E s):
  UnR X f (rU λi=>.int (g i)):=by
 intro pins s σ H x v Q I rx h
 obtain ⟨i,rfl,q⟩:=h
 obtain ⟨t,rfl⟩:=rx
 exact rule i t s _ _ (.int (g i),H,I.tok _,(_,rfl),q)
theorem e_K:UnR X (unaryOp .USub) (rU λi=>.int (-i)):=unI λ_ _ _ _ _ q=>neg_int q
end
def pE:V->V->Bool
 | .non,.non=>true|.non,.int _=>true|.int _,.non=>true|.non,.bl _=>true|.bl _,.non=>true|.non,.str _=>true|.str _,.non=>true
 | .int _,.int _=>true|.bl _,.bl _=>true|.str _,.str _=>true|.byt _,.byt _=>true
 | .int _,.str _=>true|.str _,.int _=>true|.bl _,.str _=>true|.str _,.bl _=>true
 | _,_=>false
def rEq:R2:=λx y H Q=>pE x y=true/\Q (.bl (decide (x=y))) H
def rNe:R2:=λx y H Q=>pE x y=true/\Q (.bl (!decide (x=y))) H
theorem iF:decide (V.int i=V.int j)=(i==j):=by
 rw [Bool.eq_iff_iff]
 simp
theorem lR:decide (V.bl i=V.bl j)=(i==j):=by
 rw [Bool.eq_iff_iff]
 simp
theorem iE:decide (V.str i=V.str j)=(i==j):=by
 rw [Bool.eq_iff_iff]
 simp
theorem iG:decide (V.byt i=V.byt j)=(i.toList==j.toList):=by
 rw [Bool.eq_iff_iff]
 cases i
 cases j
 simp
section
variable {X:Cx} {a b c:Expr} {ta tb tc:TE} {pos:Pos}
theorem a_I {σ:St} (I:Inv X pins σ H s) (q:Q (.bl k) H) (e:k=k'):EP X pins σ Q (.bool k') s:=by
 subst e
 exact (.bl k,H,I,rfl,q)
theorem g_k:OpR X (compareOp .Eq) rEq:=by
 intro pins s σ H x y v u Q I rx ry h
 obtain ⟨hs,q⟩:=h
 cases x with
 | non=>
  cases rx
  cases y with
  | non=>cases ry;exact PySem.EqNone.eq_none_none (a_I I q (by simp))
  | bl j=>cases ry;exact PySem.EqNone.eq_none_bool (a_I I q (by simp))
  | int j=>obtain ⟨t',rfl⟩:=ry;exact PySem.EqNone.eq_none_int (a_I I q (by simp))
  | str j=>obtain ⟨t',rfl⟩:=ry;exact PySem.EqNone.eq_none_str (a_I I q (by simp))
  | _=>exact absurd (show false=true from hs) Bool.false_ne_true
 | bl i=>
  cases rx
  cases y with
  | non=>cases ry;exact PySem.EqNone.eq_bool_none (a_I I q (by simp))
  | bl j=>cases ry;exact eq_bool (a_I I q lR)
  | str j=>obtain ⟨t',rfl⟩:=ry;exact PySem.EqMixed.eq_bool_str (a_I I q (by simp))
  | _=>exact absurd (show false=true from hs) Bool.false_ne_true
 | int i=>
  obtain ⟨t,rfl⟩:=rx
  cases y with
  | non=>cases ry;exact PySem.EqNone.eq_int_none (a_I I q (by simp))
  | int j=>obtain ⟨t',rfl⟩:=ry;exact eq_int (a_I I q iF)
  | str j=>obtain ⟨t',rfl⟩:=ry;exact PySem.EqMixed.eq_int_str (a_I I q (by simp))
  | _=>exact absurd (show false=true from hs) Bool.false_ne_true
 | str i=>
  obtain ⟨t,rfl⟩:=rx
  cases y with
  | non=>cases ry;exact PySem.EqNone.eq_str_none (a_I I q (by simp))
  | bl j=>cases ry;exact PySem.EqMixed.eq_str_bool (a_I I q (by simp))
  | int j=>obtain ⟨t',rfl⟩:=ry;exact PySem.EqMixed.eq_str_int (a_I I q (by simp))
  | str j=>obtain ⟨t',rfl⟩:=ry;exact eq_str (a_I I q iE)
  | _=>exact absurd (show false=true from hs) Bool.false_ne_true
 | byt i=>
  obtain ⟨t,rfl⟩:=rx
  cases y with
  | byt j=>obtain ⟨t',rfl⟩:=ry;exact PySem.W.eq_bytes (a_I I q iG)
  | _=>exact absurd (show false=true from hs) Bool.false_ne_true
 | _=>cases y <;> exact absurd (show false=true from hs) Bool.false_ne_true
theorem pM:OpR X (compareOp .NotEq) rNe:=by
 intro pins s σ H x y v u Q I rx ry h
 obtain ⟨hs,q⟩:=h
 cases x with
 | non=>
  cases rx
  cases y with
  | non=>cases ry;exact PySem.EqNone.ne_none_none (a_I I q (by simp))
  | bl j=>cases ry;exact PySem.EqNone.ne_none_bool (a_I I q (by simp))
  | int j=>obtain ⟨t',rfl⟩:=ry;exact PySem.EqNone.ne_none_int (a_I I q (by simp))
  | str j=>obtain ⟨t',rfl⟩:=ry;exact PySem.EqNone.ne_none_str (a_I I q (by simp))
  | _=>exact absurd (show false=true from hs) Bool.false_ne_true
 | bl i=>
  cases rx
  cases y with
  | non=>cases ry;exact PySem.EqNone.ne_bool_none (a_I I q (by simp))
  | bl j=>cases ry;exact ne_bool (a_I I q (congrArg not lR))
  | str j=>obtain ⟨t',rfl⟩:=ry;exact PySem.EqMixed.ne_bool_str (a_I I q (by simp))
  | _=>exact absurd (show false=true from hs) Bool.false_ne_true
 | int i=>
  obtain ⟨t,rfl⟩:=rx
  cases y with
  | non=>cases ry;exact PySem.EqNone.ne_int_none (a_I I q (by simp))
  | int j=>obtain ⟨t',rfl⟩:=ry;exact ne_int (a_I I q (congrArg not iF))
  | str j=>obtain ⟨t',rfl⟩:=ry;exact PySem.EqMixed.ne_int_str (a_I I q (by simp))
  | _=>exact absurd (show false=true from hs) Bool.false_ne_true
 | str i=>
  obtain ⟨t,rfl⟩:=rx
  cases y with
  | non=>cases ry;exact PySem.EqNone.ne_str_none (a_I I q (by simp))
  | bl j=>cases ry;exact PySem.EqMixed.ne_str_bool (a_I I q (by simp))
  | int j=>obtain ⟨t',rfl⟩:=ry;exact PySem.EqMixed.ne_str_int (a_I I q (by simp))
  | str j=>obtain ⟨t',rfl⟩:=ry;exact ne_str (a_I I q (congrArg not iE))
  | _=>exact absurd (show false=true from hs) Bool.false_ne_true
 | byt i=>
  obtain ⟨t,rfl⟩:=rx
  cases y with
  | byt j=>obtain ⟨t',rfl⟩:=ry;exact PySem.W.ne_bytes (a_I I q (congrArg not iG))
  | _=>exact absurd (show false=true from hs) Bool.false_ne_true
 | _=>cases y <;> exact absurd (show false=true from hs) Bool.false_ne_true
theorem op_lt:OpR X (compareOp .Lt) (rI0 λi j=>.bl (decide (i<j))):=mH λ_ _ _ _ _ _ _ q=>lt_int q
theorem nv:OpR X (compareOp .LtE) (rI0 λi j=>.bl (decide (i≤j))):=mH λ_ _ _ _ _ _ _ q=>le_int q
theorem kB:OpR X (compareOp .Gt) (rI0 λi j=>.bl (decide (j<i))):=mH λ_ _ _ _ _ _ _ q=>gt_int q
theorem pN:OpR X (compareOp .GtE) (rI0 λi j=>.bl (decide (j≤i))):=mH λ_ _ _ _ _ _ _ q=>ge_int q
theorem cO:OpR X (compareOp .IsNot) (λx y H Q=>y=.non/\Q (.bl (!decide (x=.non))) H):=by
 intro pins s σ H x y v u Q I rx ry h
 obtain ⟨rfl,q⟩:=h
 cases ry
 refine isnot_none_gen (a_I I q ?_)
 cases x <;> first
  | (cases rx;rfl)
  | (obtain ⟨t,rfl⟩:=rx;rfl)
theorem e_P:OpR X (compareOp .NotIn) (λx y H Q=>∃i j,x=.str i/\y=.str j/\Q (.bl (!(!(Builtin.Str.occurrences j i 0 j.length 1).isEmpty))) H):=by
 intro pins s σ H x y v u Q I rx ry h
 obtain ⟨i,j,rfl,rfl,q⟩:=h
 obtain ⟨t,rfl⟩:=rx
 obtain ⟨t',rfl⟩:=ry
 exact notIn_str (a_I I q rfl)
theorem a_S (b:Expr) (h:op≠.In:=by decide) (h2:op≠.NotIn:=by decide):behindInMarks op b=false:=by
 have e1:(op==CmpOp.In)=false:=by cases op <;> first|rfl|exact absurd rfl h
 have e2:(op==CmpOp.NotIn)=false:=by cases op <;> first|rfl|exact absurd rfl h2
 cases b <;> simp [behindInMarks,e1,e2]
theorem c_A (ho:OpR X (compareOp op) r) (ha:PE X a ta) (hb:PE X b tb) (hm:behindInMarks op b=false):PE X (.Compare a [op] [b] pos) (tOp r ta tb):=by
 intro pins s σ H Q I h
 exact wpAny_Compare1 (binT ha hb I h λv u s2 x y H2 I2 rx ry q=>ho pins s2 σ H2 x y v u Q I2 rx ry q) hm
def gT (t:TE):TT:=λσ H Q=>t σ H λx H'=>∃k,x=.bl k/\Q k H'
theorem a_B (ho:OpR X (compareOp op) r) (ha:PE X a ta) (hb:PE X b tb) (hm:behindInMarks op b=false):PT X (.Compare a [op] [b] pos) (gT (tOp r ta tb)):=by
 intro pins s σ H Q I h
 refine wpAny_isTrue_Compare1 (thn (ha pins s σ H _ I h) λv s1 ⟨x,H1,I1,r1,q1⟩=>thn (hb pins s1 σ H1 _ I1 q1) λu s2 ⟨y,H2,I2,r2,q2⟩=>
  thn (ho pins s2 σ H2 x y v u _ I2 r1 r2 q2) λc s3 ⟨z,H3,I3,r3,k,e,q3⟩=>?_) hm
 subst e
 cases r3
 exact wpAny_truthy_bool (H3,I3,q3)
def nR (r r':R2) (ta tb tc:TE):TE:=λσ H Q=>ta σ H λx H1=>tb σ H1 λy H2=>r x y H2 λz H3=>∃k,z=.bl k/\
 (if k=true then tc σ H3 λw' H4=>r' y w' H4 Q else Q (.bl false) H3)
theorem kx (ho:OpR X (compareOp op) r) (ho':OpR X (compareOp op') r') (ha:PE X a ta) (hb:PE X b tb) (hc:PE X c tc)
  (hm:lastMarks [op,op'] [b,c]=false:=by with_unfolding_all rfl):PE X (.Compare a [op,op'] [b,c] pos) (nR r r' ta tb tc):=by
 intro pins s σ H Q I h
 refine Compare_chain (thn (ha pins s σ H _ I h) λv s1 ⟨x,H1,I1,r1,q1⟩=>chain_link (thn (hb pins s1 σ H1 _ I1 q1) λu s2 ⟨y,H2,I2,r2,q2⟩=>
  thn (ho pins s2 σ H2 x y v u _ I2 r1 r2 q2) λd s3 ⟨z,H3,I3,r3,k,e,q3⟩=>?_)) hm
 subst e
 cases r3
 refine wpAny_truthy_bool ?_
 cases k with
 | false=>exact ite_ff (.bl false,H3,I3,rfl,q3)
 | true=>exact ite_tt (chain_last (thn (hc pins s3 σ H3 _ I3 q3) λw' s4 ⟨z',H4,I4,r4,q4⟩=>ho' pins s4 σ H4 y z' u w' Q I4 r2 r4 q4))
theorem aR:(sizeLine:Nat)<2 ^ 63:=by rw [sizeLine_eq];decide
theorem a_X:OpR X (binaryOp .Add) (λx y H Q=>∃i j,x=.str i/\y=.str j/\i.length+j.length≤sizeLine/\Q (.str (i++j)) H):=by
 intro pins s σ H x y v u Q I rx ry h
 obtain ⟨i,j,rfl,rfl,hz,q⟩:=h
 obtain ⟨t,rfl⟩:=rx
 obtain ⟨t',rfl⟩:=ry
 exact add_str (λt' tk=>(.str (i++j),H,I.tok _,(_,rfl),q)) hz
theorem d_C (r:ab [x] us):∃u,us=[u]/\ad x u:=by
 cases r with
 | cons r1 r2=>cases r2;exact (_,rfl,r1)
theorem g_O (r:ab [x,y] us):∃u w',us=[u,w']/\ad x u/\ad y w':=by
 cases r with
 | cons r1 r2=>
  cases r2 with
  | cons r3 r4=>cases r4;exact (_,_,rfl,r1,r3)
theorem jG:g_e X (.type "int") (λxs H Q=>(∃i,xs=[.int i]/\Q (.int i) H)\/∃k,xs=[.bl k]/\Q (.int (if k then 1 else 0)) H):=by
 intro pins s σ H xs us Q I r h
 rcases h with ⟨i,rfl,q⟩|⟨k,rfl,q⟩
 .obtain ⟨u,rfl,t,rfl⟩:=d_C r
  exact call_int_int (.int i,H,I,(_,rfl),q)
 .obtain ⟨u,rfl,r1⟩:=d_C r
  cases r1
  exact call_int_bool (.int (if k then 1 else 0),H,I.tok _,(_,rfl),q)
end
structure jM (h:Heap) (x dx C:Addr) (mA:Str->Option Value):Prop where
 obj:h.get? x=some (instObj C dx)
 ns:h.Ns1 dx mA
 ne:dx≠x
theorem jl {h:Heap} (n:h.Ns1 dx mA):∃od,h.get? dx=some od/\∀name,lookIn name od=some (mA name):=by
 obtain ⟨o,es,ep,ho,hd,hk,_,hm⟩:=n
 refine (o,ho,λname=>?_)
 have e:=hm name
 unfold nsFind findBy at e
 rw [<- Array.find?_toList] at e
 unfold lookIn
 rw [hd]
 dsimp only
 split
 .rename_i y q
  rw [q] at e
  exact congrArg some e
 .rename_i q
  rw [q] at e
  have a:es.toList.any (·.refKey)=false:=by
   rw [List.any_eq_false]
   intro y hy
   obtain ⟨z,t,hkey⟩:=hk y (Array.mem_toList_iff.mp hy)
   simp [DictEntry.refKey,hkey]
  have a':¬ es.toList.any (·.refKey)=true:=by rw [a];exact Bool.false_ne_true
  rw [if_neg a']
  exact congrArg some e
theorem jM.look (I:jM h x dx C mA):∃od,PySem.W.InstAt h x (instObj C dx) C (some od)/\∀name,lookIn name od=some (mA name):=
 let ⟨od,ho,hl⟩:=jl I.ns
 (od,(I.obj,rfl,rfl,ho),hl)
section
variable {prog:Program} {w:World} {A:Around} {E:Value->Shared->Prop} {s:Shared} {K:Frag} {x dx C f:Addr} {mA:Str->Option Value} {name:Str} {v:Value}
theorem mU (X:K.In s.heap) (I:jM s.heap x dx C mA) (hg:plainGet K C name=true) (hh:hasDictIn K C=true)
  (ha:findIn K (.ref C) name=some none) (hv:mA name=some v) (hv':PySem.W.handedIn v=true) (h:Q v { s with toks:=s.toks+1 }):
  wpAny (model prog w) A (getAttr (.ref x) name expr) Q E s:=by
 obtain ⟨od,J,hl⟩:=I.look
 exact PySem.W.get_value X J (PySem.W.plainGet_of hg).1 (PySem.W.findObj_own hh ha rfl (by rw [hl,hv])) hv' h
theorem mh (X:K.In s.heap) (I:jM s.heap x dx C mA)
  (hs:findIn K (.ref C) "__setattr__"=some (some (.builtin "object.__setattr__"))) (hp:PySem.W.plainOver K C=true) (ht:takerIn K C name=some none) (hh:hasDictIn K C=true)
  (hw:PySem.Within mA ns) (hsz:ns.length≤sizeLine)
  (h:∀h',jM h' x dx C (λy=>if y=name then some v else mA y)->SameBut dx s.heap h'->Q () { s with heap:=h',toks:=s.toks+2 }):
  wpAny (model prog w) A (setAttr (.ref x) name v) Q E s:=by
 obtain ⟨od,J,hl⟩:=I.look
 refine PySem.W.set_plain X J hs (PySem.W.osa_open (s:={ s with toks:=s.toks+1 }) (r:=none) X J hp ht λb=>?_)
 obtain ⟨cd,hc,hd'⟩:=PySem.W.any_some hh
 have hx:s.heap.get? x=some (.ref C,some dx,.plain,#[]):=I.obj
 refine qa7 (qa8 (qa7 (qa7 (wpAny_loadPart hx (qa7 (PySem.W.Looks.here (s:={ s with toks:=s.toks+1 }) (PySem.W.looks_clsIn X hc) ?_))))))
 rw [hd']
 refine qa8 (a:=some dx) (qa7 (qa8 (qa7 ?_)))
 refine wpAny_nsSet1 (s:={ s with toks:=s.toks+1 }) I.ns λh' hn2 hs2=>?_
 obtain ⟨oD,esD,epD,hoD,hdD,hcD⟩:=hn2.count (PySem.Within.cons name v hw)
 refine qa7 (wpAny_lookBehind hoD (by rw [hdD];exact pastItsLine_dict (le_trans hcD (by rw [length_cons];lia))) ?_)
 exact qa8 (h _ ((hs2.2 _ (Ne.symm I.ne)).trans I.obj,hn2,I.ne) hs2)
theorem kP (X:K.In s.heap) (hm:PySem.W.makesIn K C=true)
  (hi:findIn K (.ref C) "__init__"=some (some (.ref f))) (hf:PySem.W.typeIn K (.ref f)=some (.type "function"))
  (h:codeAny (model prog w) (A.under (.builtin "type.__call__" (.ref C::vs,kw))) (.call (.ref f) (.ref (s.heap.objs.size+1)::vs,kw)) (PySem.W.InitBack (s.heap.objs.size+1) R)
   { s with heap:=(s.heap.push emptyDict).push (instObj C s.heap.objs.size) }):
  codeAny (model prog w) A (.call (.ref C) (vs,kw)) R s:=by
 obtain ⟨hh,g,d,t,os⟩:=s
 exact PySem.W.make_core (PySem.W.makes_of X hm) (PySem.W.looks_findIn X hi) (λself=>PySem.W.bind_fn X self hf) (.inl rfl) h
end
def am (f:Str) (v:V):List (Str×V)->List (Str×V)
 | []=>[(f,v,)]
 | (g,x)::r=>if g=f then (g,v,)::r else (g,x,)::am f v r
theorem f_N (f g:Str) (v:V):∀fs:List (Str×V),(am f v fs).lookup g=if g=f then some v else fs.lookup g
 | []=>by
  show List.lookup g [(f,v,)]=_
  by_cases h:g=f
  .have hb:(g==f)=true:=beq_iff_eq.mpr h
   simp only [List.lookup,hb,if_pos h]
  .have hb:(g==f)=false:=beq_eq_false_iff_ne.mpr h
   simp only [List.lookup,hb,if_neg h]
 | (k,x)::r=>by
  have ih:=f_N f g v r
  rw [show am f v ((k,x,)::r)=(if k=f then (k,v,)::r else (k,x,)::am f v r) from rfl]
  by_cases hk:k=f
  .rw [if_pos hk]
   by_cases h:g=k
   .have hb:(g==k)=true:=beq_iff_eq.mpr h
    simp only [List.lookup,hb,if_pos (h.trans hk)]
   .have hb:(g==k)=false:=beq_eq_false_iff_ne.mpr h
    simp only [List.lookup,hb,if_neg (λe:g=f=>h (e.trans hk.symm))]
  .rw [if_neg hk]
   by_cases h:g=k
   .have hb:(g==k)=true:=beq_iff_eq.mpr h
    simp only [List.lookup,hb,if_neg (λe:g=f=>hk (h.symm.trans e))]
   .have hb:(g==k)=false:=beq_eq_false_iff_ne.mpr h
    simp only [List.lookup,hb]
    exact ih
theorem f_P (f:Str) (v:V):∀fs:List (Str×V),f∈(am f v fs).map (·.1)/\∀g,g∈fs.map (·.1)->g∈(am f v fs).map (·.1)
 | []=>(by simp [am],λg h=>by simp at h)
 | (k,x)::r=>by
  obtain ⟨i1,i2⟩:=f_P f v r
  rw [show am f v ((k,x,)::r)=(if k=f then (k,v,)::r else (k,x,)::am f v r) from rfl]
  by_cases hk:k=f
  .rw [if_pos hk]
   subst hk
   exact (by simp,λg h=>by simpa using h)
  .rw [if_neg hk]
   refine (?_,λg h=>?_)
   .rw [map_cons]
    exact mem_cons_of_mem _ i1
   .rw [map_cons] at h ⊢
    rcases mem_cons.mp h with e|e
    .exact mem_cons.mpr (.inl e)
    .exact mem_cons_of_mem _ (i2 g e)
theorem length_putF (f:Str) (v:V):∀fs:List (Str×V),(am f v fs).length≤fs.length+1
 | []=>by simp [am]
 | (k,x)::r=>by
  have ih:=length_putF f v r
  rw [show am f v ((k,x,)::r)=(if k=f then (k,v,)::r else (k,x,)::am f v r) from rfl]
  by_cases hk:k=f
  .rw [if_pos hk,length_cons,length_cons];lia
  .rw [if_neg hk,length_cons,length_cons];lia
theorem ar.some_of (r:ar (some v) o):∃u,o=some u/\ad v u:=by
 cases o with
 | none=>exact (show False from r).elim
 | some u=>exact (u,rfl,r)
theorem ar.none_of (r:ar none o):o=none:=by
 cases o with
 | none=>rfl
 | some u=>exact (show False from r).elim
theorem jw (r:ad v u):PySem.W.handedIn u=true:=by
 cases v with
 | non=>cases (show u=Value.none from r);rfl
 | bl b=>cases (show u=Value.bool b from r);rfl
 | int i=>obtain ⟨t,e⟩:=(show ∃t,u=Value.int i t from r);cases e;rfl
 | str x=>obtain ⟨t,e⟩:=(show ∃t,u=Value.str x t from r);cases e;rfl
 | byt b=>obtain ⟨t,e⟩:=(show ∃t,u=Value.bytes b t from r);cases e;rfl
 | flt b=>obtain ⟨t,e⟩:=(show ∃t,u=Value.float b t from r);cases e;rfl
 | ref a=>cases (show u=Value.ref a from r);rfl
 | ty n=>cases (show u=Value.type n from r);rfl
section
variable {P:Program} {w:World} {H H':Hp} {h h':Heap} {a C dx:Addr} {fs fs':List (Str×V)}
theorem c6 (hok:HOk P w H h) (e:H a=some (.ins C dx fs)):∃mA,jM h a dx C mA/\(∀f,ar (fs.lookup f) (mA f))/\PySem.Within mA (fs.map (·.1))/\fs.length≤1000/\H dx=some (.own a):=by
 obtain ⟨d,z,ne,ob,mA,n,r,q⟩:=(show b_f P w H h a (.ins C dx fs) from hok a _ e)
 exact (mA,(ob,n,ne),r,q,z,d)
end
structure Cls (K:Frag) (C:Addr):Prop where
 pg:plainGet K C Str.empty=true
 hd:hasDictIn K C=true
 po:PySem.W.plainOver K C=true
 sa:findIn K (.ref C) "__setattr__"=some (some (.builtin "object.__setattr__"))
theorem Cls.get {K:Frag} (c:Cls K C) (f:Str):plainGet K C f=true:=c.pg
def b_I (K:Frag) (C:Addr) (f:Str):Prop:=findIn K (.ref C) f=some none
theorem b_I.taker {K:Frag} (n:b_I K C f):takerIn K C f=some none:=by
 unfold takerIn
 rw [show findIn K (.ref C) f=some none from n]
 rfl
section
variable {X:Cx} {pins:List (Addr×Obj)} {σ:St} {H:Hp} {s:Shared} {a C dx:Addr} {fs:List (Str×V)} {f:Str} {v:V} {A:Around} {E:Value->Shared->Prop}
theorem gB (I:Inv X pins σ H s) (e:H a=some (.ins C dx fs)) (c:Cls X.K C) (n:b_I X.K C f) (l:fs.lookup f=some v)
  (h:∀u s',Inv X pins σ H s'->ad v u->Q u s'):wpAny (model X.prog X.w) A (getAttr (.ref a) f b) Q E s:=by
 obtain ⟨mA,O,r,_,_,_⟩:=c6 I.hok e
 obtain ⟨u,hu,ru⟩:=ar.some_of (v:=v) (o:=mA f) (by rw [<- l];exact r f)
 exact mU I.kIn O (c.get f) c.hd n hu (jw ru) (h u _ (I.tok _) ru)
theorem fL (I:Inv X pins σ H s) (e:H a=some (.ins C dx fs)) (c:Cls X.K C) (n:b_I X.K C f) (hl:fs.length<1000) (ry:ad y u)
  (h:∀s',Inv X pins σ (upd H a (.ins C dx (am f y fs))) s'->Q () s'):wpAny (model X.prog X.w) A (setAttr (.ref a) f u) Q E s:=by
 obtain ⟨mA,O,r,wi,_,ho⟩:=c6 I.hok e
 have hz:(fs.map (·.1)).length≤sizeLine:=by rw [qa4,sizeLine_eq];exact le_trans (le_of_lt hl) (by decide)
 refine mh I.kIn O c.sa c.po n.taker c.hd wi hz λh' O' sb=>h _ ?_
 have hd:∃o,h'.get? dx=some o:=let ⟨o,_,_,e',_⟩:=O'.ns;(o,e')
 refine I.write (x:=a) (e:=dx) (by rw [e];exact True.intro) (.inr ho) (λb q hb z=>(sb.2 b hb).trans z) hd ?_
 refine (by rw [upd_ne O.ne];exact ho,?_,O.ne,O'.obj,_,O'.ns,λg=>?_,λg hg=>?_)
 .have:=length_putF f y fs;lia
 .show ar ((am f y fs).lookup g) (if g=f then some u else mA g)
  rw [f_N]
  by_cases q:g=f
  .rw [if_pos q,if_pos q];exact ry
  .rw [if_neg q,if_neg q];exact r g
 .by_cases q:g=f
  .rw [q];exact (f_P f y fs).1
  .refine (f_P f y fs).2 g (wi g λz=>hg ?_)
   show (if g=f then some u else mA g)=none
   rw [if_neg q];exact z
theorem Inv.made (I:Inv X pins σ H s):Inv X pins σ (upd (upd H s.heap.objs.size (.own (s.heap.objs.size+1))) (s.heap.objs.size+1) (.ins C s.heap.objs.size []))
  { s with heap:=(s.heap.push emptyDict).push (instObj C s.heap.objs.size) }:=by
 have e1:(s.heap.push emptyDict).get? s.heap.objs.size=some emptyDict:=get?_push_size s.heap rfl
 have e2:((s.heap.push emptyDict).push (instObj C s.heap.objs.size)).get? (s.heap.objs.size+1)=some (instObj C s.heap.objs.size):=by
  have:=get?_push_size (s.heap.push emptyDict) (o:=instObj C s.heap.objs.size) rfl
  rwa [size_push] at this
 have e3:(s.heap.push emptyDict).Ns s.heap.objs.size (λ_=>none):=(emptyDict,#[],_,e1,rfl,(λe he=>absurd he (by simp)),λ_=>rfl)
 have I1:=I.laid (a:=s.heap.objs.size) (o:=.own (s.heap.objs.size+1)) (h':=s.heap.push emptyDict) (t':=s.toks) (λb u q=>qa9 _ q) (le_refl _) (_,e1)
 refine I1.laid (a:=s.heap.objs.size+1) (o:=.ins C s.heap.objs.size []) (t':=s.toks) (λb u q=>qa9 _ q) (le_of_eq (size_push _ _)) ?_
 have ne:s.heap.objs.size≠s.heap.objs.size+1:=ne_of_lt (lt_succ_self _)
 refine (by rw [upd_ne ne,upd_same],zero_le _,ne,e2,λ_=>none,(Heap.Ns1.of_empty e3).at λo q=>qa9 _ q,λ_=>True.intro,λy hy=>absurd rfl hy)
theorem attr_of (hb:attributeBase e f env (eval e env)=eval e env)
  (h:wpAny (model prog w) A (eval e env) (λo s₁=>wpAny (model prog w) A (getAttr o f true) Q E s₁) E s):wpAny (model prog w) A (eval (.Attribute e f pos) env) Q E s:=
 Attribute_any_ h (by rw [arm_eval_Attribute,hb])
end
def pz (K:Frag) (ta:TE) (f:Str):TE:=λσ H Q=>ta σ H λx H1=>∃a C dx fs v,x=.ref a/\H1 a=some (.ins C dx fs)/\Cls K C/\b_I K C f/\fs.lookup f=some v/\Q v H1
def ql (K:Frag) (ta tv:TE) (f:Str):TS:=λD σ H=>tv σ H λy H1=>ta σ H1 λx H2=>∃a C dx fs,x=.ref a/\H2 a=some (.ins C dx fs)/\Cls K C/\b_I K C f/\fs.length<1000/\
 D.nx σ (upd H2 a (.ins C dx (am f y fs)))
section
variable {X:Cx} {o e value:Expr} {f:Str} {pos pos' tpos:Pos} {ta tv:TE}
theorem b_E (he:PE X e ta) (hb:attributeBase e f X.env (eval e X.env)=eval e X.env):PE X (.Attribute e f pos) (pz X.K ta f):=by
 intro pins s σ H Q I h
 refine attr_of hb (thn (he pins s σ H _ I h) λu s1 hZ0=>?_)
 obtain ⟨x,H1,I1,rx,a,C,dx,fs,v,ex,ea,c,n,l,q⟩:=hZ0
 subst ex
 obtain rfl:u=Value.ref a:=rx
 exact gB I1 ea c n l λu' s2 I2 ru=>(v,H1,I2,ru,q)
theorem aO (ha:PE X o ta) (hv:PE X value tv) (hs:swapsWith value (some (.Attribute o f pos')) pos.line X.env=pure false):PS X (.Assign [.Attribute o f pos'] value pos) (ql X.K ta tv f):=by
 intro pins s σ H D I h
 refine plainObj_wpAny_Assign_Attribute (thn (hv pins s σ H _ I h) λu s1 ⟨y,H1,I1,ry,q⟩=>thn (ha pins s1 σ H1 _ I1 q) λov s2 hZ1=>?_) hs
 obtain ⟨x,H2,I2,rx,a,C,dx,fs,ex,ea,c,n,l,q2⟩:=hZ1
 subst ex
 obtain rfl:ov=Value.ref a:=rx
 exact fL I2 ea c n l ry λs3 I3=>(σ,_,I3,q2)
end
section
variable {X:Cx} {pins:List (Addr×Obj)} {σ:St} {H:Hp} {s:Shared} {A:Around} {E:Value->Shared->Prop} {Q:Value->Shared->Prop} {c:Value} {b:Bool}
inductive ae (K:Frag) (H:Hp):V->Value->Prop where
 | non:ae K H .non (.type "NoneType")
 | bl (x:Bool):ae K H (.bl x) (.type "bool")
 | int (i:Int):ae K H (.int i) (.type "int")
 | str (x:Str):ae K H (.str x) (.type "str")
 | flt (x:UInt64):ae K H (.flt x) (.type "float")
 | lst {a:Addr} {xs:List V} (e:H a=some (.lst xs)):ae K H (.ref a) (.type "list")
 | frz {a:Addr} {o:Obj} {xs:List V} (e:H a=some (.frz o (.lst xs))):ae K H (.ref a) (.type "list")
 | tup {a:Addr} {xs:List V} (e:H a=some (.tup xs)):ae K H (.ref a) (.type "tuple")
 | dK {a:Addr} {kvs:List (Key×V)} (e:H a=some (.dK kvs)):ae K H (.ref a) (.type "dict")
 | dT {a:Addr} {kvs:List (List Key×V)} (e:H a=some (.dT kvs)):ae K H (.ref a) (.type "dict")
 | ins {a C dx:Addr} {fs:List (Str×V)} (e:H a=some (.ins C dx fs)) (cl:Cls K C) (ha:findIn K (.ref C) "__class__"=some (some (.builtin "object.__class__")))
   (hn:PySem.W.specialIn K (.builtin "object.__class__") "__get__"=some (some (.builtin "getset_descriptor.__get__"))) (htk:PySem.W.takesIn K (.builtin "object.__class__")=some true)
   (hm:PySem.W.mroIn K C (.type "object")=some true):ae K H (.ref a) (.ref C)
theorem jt (I:Inv X pins σ H s) (rx:ad x u) (ty:ae X.K H x t) (e:kitOne X.K t c=some b) (h:∀tk,Q (.bool b) { s with toks:=tk }):
  wpAny (model X.prog X.w) A (call (.builtin "isinstance") [u,c]) Q E s:=by
 cases ty with
 | non=>cases (show u=Value.none from rx);exact kia_one PySem.W.kitx_none I.kIn True.intro e (λz=>nomatch z) h
 | bl y=>cases (show u=Value.bool y from rx);exact kia_one PySem.W.kitx_bool I.kIn True.intro e (λz=>nomatch z) h
 | int i=>obtain ⟨t,q⟩:=(show ∃t,u=Value.int i t from rx);cases q;exact kia_one PySem.W.kitx_int I.kIn True.intro e (λz=>nomatch z) h
 | str y=>obtain ⟨t,q⟩:=(show ∃t,u=Value.str y t from rx);cases q;exact kia_one PySem.W.kitx_str I.kIn True.intro e (λz=>nomatch z) h
 | flt y=>obtain ⟨t,q⟩:=(show ∃t,u=Value.float y t from rx);cases q;exact kia_one PySem.W.kitx_float I.kIn True.intro e (λz=>nomatch z) h
 | @lst a xs ea=>
  cases (show u=Value.ref a from rx)
  obtain ⟨_,_,n,_,h1⟩:=(show b_f X.prog X.w H s.heap a (.lst xs) from I.hok a _ ea)
  exact kia_one PySem.W.kitx_list I.kIn (_,h1,rfl) e (λz=>nomatch z) h
 | @frz a ob xs ea=>
  cases (show u=Value.ref a from rx)
  obtain ⟨_,_,_,n,_,h1⟩:=(show b_f X.prog X.w H s.heap a (.frz ob (.lst xs)) from I.hok a _ ea)
  exact kia_one PySem.W.kitx_list I.kIn (_,h1,rfl) e (λz=>nomatch z) h
 | @tup a xs ea=>
  cases (show u=Value.ref a from rx)
  obtain ⟨_,_,_,p⟩:=(show b_f X.prog X.w H s.heap a (.tup xs) from I.hok a _ ea)
  obtain ⟨o,h1,h2,_⟩:=p
  exact kia_one PySem.W.kitx_tuple I.kIn (o,h1,h2) e (λz=>nomatch z) h
 | @dK a kvs ea=>
  cases (show u=Value.ref a from rx)
  obtain ⟨_,_,vs,_,p⟩:=(show b_f X.prog X.w H s.heap a (.dK kvs) from I.hok a _ ea)
  obtain ⟨o,es,ep,h1,h2,_⟩:=p
  exact kia_one PySem.W.kitx_dict I.kIn (o,h1,h2.1) e (λz=>nomatch z) h
 | @dT a kvs ea=>
  cases (show u=Value.ref a from rx)
  obtain ⟨_,_,xs,_,o,es,ep,h1,h2,_⟩:=(show b_f X.prog X.w H s.heap a (.dT kvs) from I.hok a _ ea)
  exact kia_one PySem.W.kitx_dict I.kIn (o,h1,h2.1) e (λz=>nomatch z) h
 | @ins a C dx fs ea cl ha hn htk hm=>
  cases (show u=Value.ref a from rx)
  obtain ⟨mA,O,_⟩:=c6 I.hok ea
  obtain ⟨od,J,_⟩:=O.look
  exact kia_one (PySem.W.kitx_own (cl.get _) cl.hd ha hn htk hm) I.kIn J e (λz=>nomatch z) h
end
structure ak (k:Nat) (A:Around):Prop where
 hd:A.handled=none
 dp:A.depth+3 * k+5<recursionLimit
 un:A.units+16 * k+200<cLine
theorem ak.mono (r:ak k A) (h:j≤k):ak j A:=(r.hd,by have:=r.dp;lia,by have:=r.un;lia)
theorem ak.deeper (r:ak (k+1) A) (env:Env):ak k (A.deeper env):=
 (r.hd,by have:=r.dp;show A.depth+1+3 * k+5<_;lia,by have:=r.un;show A.units+3+16 * k+200<_;lia)
theorem gf {A:Around}:(A.under (.builtin "type.__call__" (.ref C::us,kw))).depth=A.depth+1:=by
 first|rfl|simp [Around.under,Code.weight,Code.isCreation,Code.isGuard,Code.isCaller,Code.frames,Code.isFrame,guardIds]
theorem fZ {A:Around}:(A.under (.builtin "type.__call__" (.ref C::us,kw))).units=A.units+1:=by
 first|rfl|simp [Around.under,Code.cUnits,Code.frames,Code.isFrame]
theorem ak.make (r:ak (k+1) A) (C:Addr) (us:List Value) (kw:List (Str×Value)):ak k (A.under (.builtin "type.__call__" (.ref C::us,kw))):=
 (r.hd,by have:=r.dp;rw [gf];lia,by have:=r.un;rw [fZ];lia)
theorem ak.depth (r:ak k A):A.depth<recursionLimit:=by have:=r.dp;lia
theorem ak.units (r:ak k A):A.units+64<cLine:=by have:=r.un;lia
theorem ak.units0 (r:ak k A):A.units<cLine:=by have:=r.un;lia
def tNil:TA:=λ_ H Q=>Q [] H
def a_O (ta:TE) (tr:TA):TA:=λσ H Q=>ta σ H λx H1=>tr σ H1 λxs H2=>Q (x::xs) H2
section
variable {X:Cx} {e:Expr} {es:List Expr} {te:TE} {t:TA} {pos:Pos}
theorem b_d:PA X [] tNil:=λ_ _ _ _ H Q I h=>Calls.spliced_nil ([],H,I,.nil,h)
theorem c_B (ha:PE X e te) (hr:PA X es t) (hs:starEach (e::es) X.env=(false,eval e X.env,)::starEach es X.env:=by rfl):PA X (e::es) (a_O te t):=by
 intro pos pins s σ H Q I h
 rw [hs]
 show wpAny _ _ (spliced ((false,eval e X.env,)::backTo pos (starEach es X.env))) _ _ s
 refine Calls.spliced_cons (thn (ha pins s σ H _ I h) λu s1 hZ2=>?_)
 obtain ⟨x,H1,I1,r1,q1⟩:=hZ2
 exact thn (hr pos pins s1 σ H1 _ I1 q1) λus s2 hZ0=>by obtain ⟨xs,H2,I2,r2,q2⟩:=hZ0;exact (x::xs,H2,I2,.cons r1 r2,q2)
def nQ (t:TA):TE:=λσ H Q=>t σ H λxs H1=>xs.length≤sizeLine/\∀p,H1 p=none->Q (.ref p) (upd H1 p (.tup xs))
def qf (t:TA):TE:=λσ H Q=>t σ H λxs H1=>xs.length≤sizeLine/\∀p,H1 p=none->Q (.ref p) (upd H1 p (.lst xs))
theorem a_W {x1} (h:PA X es t):PE X (.Tuple es x1 pos) (nQ t):=by
 intro pins s σ H Q I hq
 refine wpAny_Tuple_spliced (thn (h pos pins s σ H _ I hq) λus s1 ⟨xs,H1,I1,r,z,q⟩=>(by rw [<- r.length];exact z,?_))
 have hf:H1 s1.heap.objs.size=none:=I1.hok.fresh (le_refl _)
 refine (.ref s1.heap.objs.size,upd H1 s1.heap.objs.size (.tup xs),I1.laid (t':=s1.toks) (λb u e=>qa9 _ e) (le_refl _) ?_,rfl,q _ hf)
 exact (z,us,r,(_,get?_push_size _ rfl,rfl,_,rfl))
theorem a_G (h:PA X es t):PE X (.List es pos) (qf t):=by
 intro pins s σ H Q I hq
 refine wpAny_List_spliced (thn (h pos pins s σ H _ I hq) λus s1 ⟨xs,H1,I1,r,z,q⟩=>(by rw [<- r.length];exact z,?_))
 have hf:H1 s1.heap.objs.size=none:=I1.hok.fresh (le_refl _)
 refine (.ref s1.heap.objs.size,upd H1 s1.heap.objs.size (.lst xs),I1.laid (t':=s1.toks) (λb u e=>qa9 _ e) (le_refl _) ?_,rfl,q _ hf)
 exact (z,us,0,r,get?_push_size _ rfl)
end
abbrev Sp:=List V->Hp->VK->XK->Prop
abbrev CXT:=List Env->Hp->Shared->XK->Value->Shared->Prop
structure bb (P:Program) (w:World) (K:Frag) (mg:Str->Option Value) (base:Heap) (A:Around) (outer:List Env) (s:Shared) (H:Hp):Prop where
 frames:A.frames=some outer
 mod:Mod K mg base
 bs:∀b o,base.get? b=some o->s.heap.get? b=some o/\H b=none
 bsz:base.objs.size≤s.heap.objs.size
 funs:s.heap.FunFrames base outer
 frf:∀b∈frs outer,H b=none
 hok:HOk P w H s.heap
 bare:AllBare s.gens
def CE (outer:List Env) (P:Program) (w:World) (H:Hp) (s:Shared) (Q:VK) (u:Value) (s':Shared):Prop:=
 ∃v H',s'.os=s.os/\AllBare s'.gens/\Un (frs outer) [] H H' s.heap s'.heap/\HOk P w H' s'.heap/\ad v u/\Q v H'
def CR (CX:CXT) (outer:List Env) (P:Program) (w:World) (H:Hp) (s:Shared) (Q:VK) (E:XK) (r:Result) (s':Shared):Prop:=
 match r with
 | .ok (.ret u)=>CE outer P w H s Q u s'
 | .ok _=>False
 | .error e=>CX outer H s E e s'
structure aa (P:Program) (w:World) (K:Frag) (mg:Str->Option Value) (base:Heap) (CX:CXT) (k:Nat) (f:Addr) (fd:FuncData) (ps:List Str) (sp:Sp):Prop where
 len:∀vs H Q E,sp vs H Q E->vs.length=ps.length
 run:∀(A:Around) (outer:List Env) (s:Shared) (H:Hp) (args:Args) (us:List Value) (vs:List V) (Q:VK) (E:XK),ak k A->bb P w K mg base A outer s H->BindsTo s fd args (ps.zip us)->ab vs us->sp vs H Q E->
  codeAny (model P w) A (.call (.ref f) args) (CR CX outer P w H s Q E) s
theorem aa.mono {P:Program} {w:World} {K:Frag} (F:aa P w K mg base CX j f fd ps sp) (h:j≤k):
  aa P w K mg base CX k f fd ps sp:=(F.len,λA outer s H args us vs Q E hr=>F.run A outer s H args us vs Q E (hr.mono h))
theorem bb.make {K:Frag} (e:bb P w K mg base A outer s H) (C:Addr) (us:List Value) (kw:List (Str×Value)):
  bb P w K mg base (A.under (.builtin "type.__call__" (.ref C::us,kw))) outer s H:=(by first|exact e.frames|(simpa [Around.under,Code.envs,Code.isFrame,pushEnvs] using e.frames),e.mod,e.bs,e.bsz,e.funs,e.frf,e.hok,e.bare)
section
variable {X:Cx} {pins:List (Addr×Obj)} {σ:St} {H:Hp} {s s':Shared}
theorem Inv.env0 (I:Inv X pins σ H s):bb X.prog X.w X.K X.mg X.base X.A X.stack s H:=
 (I.ok.frames,I.ok.mod,I.bs,le_trans I.ok.bsz I.sz,I.stack,I.stkFree,I.hok,I.bare)
theorem Inv.after (I:Inv X pins σ H s) (h:CE X.stack X.prog X.w H s Q u s'):EP X pins σ Q u s':=by
 obtain ⟨v,H',os,bare,un,hok,r,q⟩:=h
 obtain ⟨hh,g,d,t,os'⟩:=s'
 obtain rfl:os'=s.os:=os
 exact (v,H',I.call (h':=hh) (g':=g) (d':=d) (t':=t) (ch:=[]) un hok bare (λb z=>absurd z (by simp)),r,q)
end
def b_J (sp:Sp) (dvs:List V) (E:XK) (t:TA):TE:=λσ H Q=>t σ H λvs H1=>sp (vs++dvs) H1 Q E
def pk (C:Addr) (sp:Sp) (dvs:List V) (E:XK) (t:TA):TE:=λσ H Q=>t σ H λvs H1=>∀x dx,H1 x=none->H1 dx=none->dx≠x->
 sp (.ref x::(vs++dvs)) (upd (upd H1 dx (.own x)) x (.ins C dx [])) (λv H2=>v=.non/\Q (.ref x) H2) E
def c_n (K:Frag) (fd:FuncData) (ps:List Str) (ds:List Value):Prop:=
 ∀(s:Shared) (us:List Value),K.In s.heap->(us++ds).length=ps.length->BindsTo s fd (us,[]) (ps.zip (us++ds))
theorem c_n.all {K:Frag} (h:∀us:List Value,us.length=ps.length->bindArgs fd (us,[])=pure (ps.zip us)):c_n K fd ps []:=λs us _ hl=>by
 rw [append_nil] at hl ⊢
 exact .of_eq (h us hl)
def aZ (CX:CXT) (X:Cx) (E:XK):Prop:=∀(pins:List (Addr×Obj)) (σ:St) (H:Hp) (s:Shared) (e:Value) (s':Shared),Inv X pins σ H s->CX X.stack H s E e s'->X.xe e s'
section
variable {X:Cx} {CX:CXT} {k:Nat} {f C:Addr} {fd:FuncData} {ps:List Str} {sp:Sp} {dvs:List V} {ds:List Value} {E:XK} {x m:Str} {p pos apos:Pos} {e o:Expr} {es:List Expr} {ta:TE} {t:TA}
theorem cH {σ:St} (F:aa X.prog X.w X.K X.mg X.base CX k f fd ps sp) (hr:ak k X.A) (hb:c_n X.K fd ps ds) (hd:ab dvs ds) (hx:aZ CX X E)
  (I:Inv X pins σ H s) (r:ab vs us) (h:sp (vs++dvs) H Q E):wpAny (model X.prog X.w) X.A (call (.ref f) us) (EP X pins σ Q) X.xe s:=by
 have r2:ab (vs++dvs) (us++ds):=r.append hd
 have hl:(us++ds).length=ps.length:=by rw [<- r2.length];exact F.len _ _ _ _ h
 refine wpAny_call (codeAny_mono (F.run X.A X.stack s H (us,[]) (us++ds) (vs++dvs) Q E hr I.env0 (hb s us I.kIn hl) r2 h) λr s' hq=>?_)
 cases r with
 | error e=>exact hx pins σ H s e s' I hq
 | ok fl=>
  cases fl with
  | ret u=>exact I.after hq
  | next=>exact False.elim hq
  | brk=>exact False.elim hq
  | cont=>exact False.elim hq
theorem mE (F:aa X.prog X.w X.K X.mg X.base CX k f fd ps sp) (hr:ak k X.A) (hg:Gl X x) (hm:X.mg x=some (.ref f)) (hk:keepIn X.K (.ref f)=true) (hb:c_n X.K fd ps ds) (hd:ab dvs ds) (hx:aZ CX X E)
  (ha:PA X (e::es) t) (hdb:(x==("__debug__":Str))=false:=by decide) (he:starEach (e::es) X.env=(false,eval e X.env,)::starEach es X.env:=by rfl) (hpl:(backTo pos (starEach es X.env)).any (·.1)=false:=by rfl):
  PE X (.Call (.Name x p) (e::es) [] pos) (b_J sp dvs E t):=by
 intro pins s σ H Q I h
 refine wpAny_Call_Name_kw (ld_glob I hg hm ?_ hdb)
 refine callWith_K (h₀:=X.base) I.ok.mod.kin hk (thn (ha pos pins s σ H _ I h) λus s1 ⟨vs,H1,I1,r,q⟩=>(I1.kIn,?_)) he hpl
 exact cH F hr hb hd hx I1 r q
structure Mk (K:Frag) (C f:Addr):Prop where
 makes:PySem.W.makesIn K C=true
 init:findIn K (.ref C) "__init__"=some (some (.ref f))
 fn:PySem.W.isFn K (.ref f)=true
 kp:keepIn K (.ref C)=true
theorem ke {σ:St} (M:Mk X.K C f) (F:aa X.prog X.w X.K X.mg X.base CX k f fd ps sp) (hr:ak (k+1) X.A) (hb:c_n X.K fd ps ds) (hd:ab dvs ds)
  (hx:aZ CX X E) (I:Inv X pins σ H s) (r:ab vs us)
  (h:∀x dx,H x=none->H dx=none->dx≠x->sp (.ref x::(vs++dvs)) (upd (upd H dx (.own x)) x (.ins C dx [])) (λv H2=>v=.non/\Q (.ref x) H2) E):
  wpAny (model X.prog X.w) X.A (call (.ref C) us) (EP X pins σ Q) X.xe s:=by
 have hq:=h (s.heap.objs.size+1) s.heap.objs.size (I.hok.fresh (Nat.le_succ _)) (I.hok.fresh (le_refl _)) (ne_of_lt (lt_succ_self _))
 have I2:=Inv.made (C:=C) I
 have r2:ab (V.ref (s.heap.objs.size+1)::(vs++dvs)) (Value.ref (s.heap.objs.size+1)::(us++ds)):=.cons rfl (r.append hd)
 have hl:(Value.ref (s.heap.objs.size+1)::us++ds).length=ps.length:=by
  have e:=r2.length
  rw [F.len _ _ _ _ hq] at e
  exact e.symm
 refine wpAny_call (kP (f:=f) I.kIn M.makes M.init (beq_iff_eq.mp M.fn) (codeAny_mono (F.run _ X.stack _ _ (Value.ref (s.heap.objs.size+1)::us,[]) (Value.ref (s.heap.objs.size+1)::(us++ds)) _ _ E (hr.make C us [])
  (I2.env0.make C us []) (hb _ (Value.ref (s.heap.objs.size+1)::us) I2.kIn hl) r2 hq) λr s' hq'=>?_))
 cases r with
 | error e=>exact hx pins σ _ _ e s' I2 hq'
 | ok fl=>
  cases fl with
  | ret u=>
   obtain ⟨v,H',I3,rv,ev,q3⟩:=I2.after hq'
   subst ev
   exact (rv,(V.ref (s.heap.objs.size+1),H',I3,rfl,q3))
  | next=>exact False.elim hq'
  | brk=>exact False.elim hq'
  | cont=>exact False.elim hq'
theorem mB (M:Mk X.K C f) (F:aa X.prog X.w X.K X.mg X.base CX k f fd ps sp) (hr:ak (k+1) X.A) (hg:Gl X x) (hm:X.mg x=some (.ref C)) (hb:c_n X.K fd ps ds) (hd:ab dvs ds) (hx:aZ CX X E)
  (ha:PA X (e::es) t) (hdb:(x==("__debug__":Str))=false:=by decide) (he:starEach (e::es) X.env=(false,eval e X.env,)::starEach es X.env:=by rfl) (hpl:(backTo pos (starEach es X.env)).any (·.1)=false:=by rfl):
  PE X (.Call (.Name x p) (e::es) [] pos) (pk C sp dvs E t):=by
 intro pins s σ H Q I h
 refine wpAny_Call_Name_kw (ld_glob I hg hm ?_ hdb)
 refine callWith_K (h₀:=X.base) I.ok.mod.kin M.kp (thn (ha pos pins s σ H _ I h) λus s1 ⟨vs,H1,I1,r,q⟩=>(I1.kIn,?_)) he hpl
 exact ke M F hr hb hd hx I1 r q
end
section
variable {X:Cx} {CX:CXT} {k:Nat} {f C:Addr} {fd:FuncData} {ps ks:List Str} {sp:Sp} {E:XK} {x m:Str} {p pos apos kpos:Pos} {e o:Expr} {es:List Expr} {kws:List Keyword} {te ta:TE} {t tk:TA} {nm:Option Str}
variable {g:List Value->List Value->List Value} {gV:List V->List V->List V}
end
structure a_e (N P:List Str) (sc:Scope):Prop where
 kind:sc.kind=.function
 co:sc.isCoroutine=false
 gen:sc.isGenerator=false
 nd:N.Nodup
 pre:N.take P.length=P
 par:∀x∈P,sc.names.lookup x=some .local\/sc.names.lookup x=some .cell
 nofree:∀y∈sc.names,y.2≠.free
theorem b8 {kindOf:Str->Option NameKind} {x:Str}:∀{binds:List (Str×Value)} {m:Str->Option Value},(∀v,(x,v,)∉binds)->bindL kindOf binds m x=m x
 | [],_,_=>rfl
 | (n,v)::r,m,h=>by
  unfold bindL
  rw [b8 λw hw=>h w (mem_cons_of_mem _ hw)]
  split
  .have:x≠n:=by rintro rfl;exact h v mem_cons_self
   simp [this]
  .rfl
theorem bindC_out {kindOf:Str->Option NameKind} {x:Str}:∀{binds:List (Str×Value)} {m:Str->Option Value},(∀v,(x,v,)∉binds)->bindC kindOf binds m x=m x
 | [],_,_=>rfl
 | (n,v)::r,m,h=>by
  unfold bindC
  rw [bindC_out λw hw=>h w (mem_cons_of_mem _ hw)]
  split
  .rfl
  .have:x≠n:=by rintro rfl;exact h v mem_cons_self
   simp [this]
theorem bindL_get {kindOf:Str->Option NameKind} {x:Str} {v:Value}:∀{P:List Str} {vs:List Value} {i:Nat} {m:Str->Option Value},P.Nodup->P[i]?=some x->vs[i]?=some v->kindOf x=some .local->
  bindL kindOf (P.zip vs) m x=some v
 | [],_,_,_,_,h,_,_=>by simp at h
 | _::_,[],_,_,_,_,h,_=>by simp at h
 | p::P,w::vs,0,m,nd,h1,h2,hk=>by
  simp at h1 h2;subst h1;subst h2
  show bindL kindOf ((p,w,)::P.zip vs) m p=_
  unfold bindL
  rw [b8 λv hv=>(nodup_cons.mp nd).1 (List.of_mem_zip hv).1,if_pos hk]
  simp
 | p::P,w::vs,i+1,m,nd,h1,h2,hk=>by
  show bindL kindOf ((p,w,)::P.zip vs) m x=_
  unfold bindL
  exact bindL_get (i:=i) (nodup_cons.mp nd).2 (by simpa using h1) (by simpa using h2) hk
theorem b9 {kindOf:Str->Option NameKind} {x:Str} {v:Value}:∀{P:List Str} {vs:List Value} {i:Nat} {m:Str->Option Value},P.Nodup->P[i]?=some x->vs[i]?=some v->kindOf x≠some .local->
  bindC kindOf (P.zip vs) m x=some v
 | [],_,_,_,_,h,_,_=>by simp at h
 | _::_,[],_,_,_,_,h,_=>by simp at h
 | p::P,w::vs,0,m,nd,h1,h2,hk=>by
  simp at h1 h2;subst h1;subst h2
  show bindC kindOf ((p,w,)::P.zip vs) m p=_
  unfold bindC
  rw [bindC_out λv hv=>(nodup_cons.mp nd).1 (List.of_mem_zip hv).1,if_neg hk]
  simp
 | p::P,w::vs,i+1,m,nd,h1,h2,hk=>by
  show bindC kindOf ((p,w,)::P.zip vs) m x=_
  unfold bindC
  exact b9 (i:=i) (nodup_cons.mp nd).2 (by simpa using h1) (by simpa using h2) hk
def start (N:List Str) (vs:List V):St:=vs.map some++replicate (N.length - vs.length) none
def dh (CX:CXT) (P:Program) (w:World) (K:Frag) (mg:Str->Option Value) (base:Heap) (N:List Str) (qual:Str) (scope:Scope) (f:Addr) (cd:Value) (A:Around) (outer:List Env) (s:Shared) (H:Hp) (E:XK):Cx where
 prog:=P
 w:=w
 K:=K
 mg:=mg
 base:=base
 A:=A.deeper (envOfC qual scope s.heap.objs.size f cd)
 N:=N
 s₀:=s
 H₀:=H
 env:=envOfC qual scope s.heap.objs.size f cd
 outer:=outer
 stack:=envOfC qual scope s.heap.objs.size f cd::outer
 ex:=[]
 calm:=true
 fn:=λ_=>true
 pn:=[]
 xe:=λe s'=>wpAny (model P w) (A.deeper (envOfC qual scope s.heap.objs.size f cd)) (leaving (envOfC qual scope s.heap.objs.size f cd) e) (λ_ s''=>CX outer H s E e s'') (λe' s''=>CX outer H s E e' s'') s'
theorem cell_has {sc:Scope} (h:sc.names.lookup x=some .cell):∃c,(cellsFrom n sc.names []).lookup x=some c:=by
 have q:=PySem.W.cellsFrom_some sc.names n [] (.inl h)
 exact Option.isSome_iff_exists.mp q
theorem ju {CX:CXT} {P:Program} {w:World} {K:Frag} {mg:Str->Option Value} {base:Heap} {N ps:List Str} {qual:Str} {scope:Scope} {f:Addr} {cd:Value} {A:Around} {outer:List Env} {s s1:Shared} {H:Hp} {E:XK} {us:List Value} {vs:List V}
  (S:a_e N ps scope) (hd:A.handled=none) (e0:bb P w K mg base A outer s H) (hl:vs.length=ps.length) (r:ab vs us)
  (x:InCallC s s.heap.objs.size (bindL (envOfC qual scope s.heap.objs.size f cd).kindOf (ps.zip us) λ_=>none) (cellsFrom (s.heap.objs.size+1) scope.names []) (bindC (envOfC qual scope s.heap.objs.size f cd).kindOf (ps.zip us) λ_=>none) s1):
  Inv (dh CX P w K mg base N qual scope f cd A outer s H E) [] (start N vs) H s1:=by
 have hpl:ps.length≤N.length:=by have:=congrArg List.length S.pre;rw [length_take] at this;lia
 obtain ⟨h1,tk,rfl,hk⟩:=x.done
 have noA:∀b:Addr,b∉(dh CX P w K mg base N qual scope f cd A outer s H E).ex:=λb z=>absurd (show b∈([]:List Addr) from z) (by simp)
 refine ((e0.mod,S.kind,rfl,rfl,le_refl _,λy z c h1 h2=>?_,λy hy=>?_,λy c _ h=>?_,λ_=>hd,Around.frames_deeper e0.frames,.inr (rfl,rfl),λb z=>absurd z (noA b),e0.bs,e0.bsz,λb _ _=>noA b,λb z=>absurd z (noA b),e0.funs,e0.frf),
  rfl,e0.bare,Un.kept hk,(_,x.toInCall.ns,λi y v h1 h2 h3=>?_),λy c h=>(_,x.cell y c h),e0.hok.fresh (le_refl _),λy c h=>?_,λp hp=>absurd (show p∈([]:List (Addr×Obj)) from hp) (by simp),e0.hok.kept hk,?_)
 .exact name_of_addr x.apart (PySem.mem_of_lookup h1) (PySem.mem_of_lookup h2)
 .have hy:scope.names.lookup y=some .cell\/scope.names.lookup y=some .free:=hy
  rcases hy with hy|hy
  .exact cell_has hy
  .exact absurd rfl (S.nofree _ (PySem.mem_of_lookup hy))
 .exact le_of_lt (x.above y c (PySem.mem_of_lookup h))
 .have hi:i<vs.length:=by
   unfold start at h2
   by_cases hi:i<vs.length
   .exact hi
   .rw [getElem?_append_right (by simpa using hi)] at h2
    rw [List.getElem?_replicate] at h2
    split at h2 <;> cases h2
  have ha:vs[i]?=some v:=by
   unfold start at h2
   rw [getElem?_append_left (by simpa using hi),qa6] at h2
   cases e:vs[i]? with
   | none=>rw [e] at h2;cases h2
   | some a=>rw [e] at h2;cases h2;rfl
  obtain ⟨u,hu,rv⟩:=r.get ha
  have hp:ps[i]?=some y:=by
   rw [<- S.pre,List.getElem?_take_of_lt (by lia)];exact h1
  have ndP:ps.Nodup:=by rw [<- S.pre];exact S.nd.sublist (List.take_sublist _ _)
  refine (u,rv,?_)
  rcases S.par y (qb2 hp) with k|k
  .exact .inl (k,bindL_get ndP hp hu k)
  .obtain ⟨c,e⟩:=cell_has (n:=s.heap.objs.size+1) k
   refine .inr (.inl k,c,e,?_)
   have q:=x.cell y c e
   rw [b9 ndP hp hu (by show scope.names.lookup y≠_;rw [k];decide)] at q
   exact q
 .exact e0.hok.fresh (le_of_lt (x.above y c (PySem.mem_of_lookup h)))
 .unfold start
  show _=N.length
  rw [qa5,qa4,length_replicate]
  lia
theorem lG {CX:CXT} {P:Program} {w:World} {K:Frag} {mg:Str->Option Value} {base:Heap} {k:Nat} {f:Addr} {name qual:Str} {params:Arguments} {body:List Stmt} {scope:Scope} {dV kV doc pm cdv ct oc:Value} {an od:Option Addr}
  {osl:Array (Option Value)} {N ps:List Str} {sp:Sp} (lk:K.lookup f=some (oc,od,.func (fnOf name qual params body scope dV kV doc pm an cdv ct),osl)) (hcd:codeIn K cdv qual=true) (S:a_e N ps scope)
  (len:∀vs H Q E,sp vs H Q E->vs.length=ps.length)
  (hbody:∀(A:Around) (outer:List Env) (s:Shared) (H:Hp) (vs:List V) (Q:VK) (E:XK),ak k (A.deeper (envOfC qual scope s.heap.objs.size f cdv))->sp vs H Q E->
   ∃t,PSs (dh CX P w K mg base N qual scope f cdv A outer s H E) body t/\t { nx:=λ_ H'=>Q .non H',rt:=Q } (start N vs) H):
  aa P w K mg base CX (k+1) f (fnOf name qual params body scope dV kV doc pm an cdv ct) ps sp:=by
 refine (len,λA outer s H args us vs Q E hr e0 hb r hsp=>?_)
 have hl:=len _ _ _ _ hsp
 have KX:K.In s.heap:=e0.mod.kin.keeps λb o e=>(e0.bs b o e).1
 have lim:s.heap.NoLimit:=e0.mod.nolimit.keeps λb o e=>(e0.bs b o e).1
 have hkind:∀y∈ps.zip us,scope.names.lookup y.1=some .local\/(scope.names.lookup y.1=some .cell/\((cellsFrom (s.heap.objs.size+1) scope.names []).lookup y.1).isSome=true):=λhZ1 hy=>by
  obtain ⟨n,v⟩:=hZ1
  rcases S.par n (List.of_mem_zip hy).1 with q|q
  .exact .inl q
  .exact .inr (q,PySem.W.cellsFrom_some _ _ _ (.inl q))
 refine codeAny_call_function hr.depth (KX _ _ lk) rfl S.co S.gen rfl (PySem.W.codeRec_of KX hcd) (hb _ _ _ _ ?_)
 refine wpAny_newFunctionEnv_cells S.kind hkind λenv he s1 x=>?_
 subst he
 refine (lim.keeps x.toInCall.keep,codeAny_func ?_)
 obtain ⟨t,ht,hq⟩:=hbody A outer s H vs Q E (hr.deeper _) hsp
 have I:Inv (dh CX P w K mg base N qual scope f cdv A outer s H E) [] (start N vs) H s1:=ju S hr.hd e0 hl r x
 refine wpAny_mono (ht [] s1 (start N vs) H _ I hq) (λfl s' hs=>?_) λe s' hs=>hs
 have fin:∀{σ':St} {H':Hp} {v:V} {u:Value},Inv (dh CX P w K mg base N qual scope f cdv A outer s H E) [] σ' H' s'->ad v u->Q v H'->CE outer P w H s Q u s':=
  λ{σ' H' v u} J rv q=>(v,H',J.os,J.bare,J.base,J.hok,rv,q)
 cases fl with
 | ret u=>
  obtain ⟨v,σ',H',J,rv,q⟩:=hs
  exact fin J rv q
 | next=>
  obtain ⟨σ',H',J,q⟩:=hs
  exact fin (v:=V.non) (u:=Value.none) J rfl q
 | brk=>
  obtain ⟨_,_,_,q⟩:=hs
  exact False.elim q
 | cont=>
  obtain ⟨_,_,_,q⟩:=hs
  exact False.elim q
section
variable {X:Cx} {x:Str} {p pos:Pos} {e:Expr} {es:List Expr} {t:TA} {id T:String} {r:List V->Hp->VK->Prop}
def tCB (r:List V->Hp->VK->Prop) (t:TA):TE:=λσ H Q=>t σ H λvs H1=>r vs H1 Q
theorem b_q (hc:g_e X (.builtin id) r) (hg:Gl X x) (hm:X.mg x=none) (hv:bootBuiltins x=some (.builtin id)) (ha:PA X (e::es) t) (hn:x≠"__name__":=by decide) (hdb:(x==("__debug__":Str))=false:=by decide)
  (he:starEach (e::es) X.env=(false,eval e X.env,)::starEach es X.env:=by rfl) (hpl:(backTo pos (starEach es X.env)).any (·.1)=false:=by rfl):PE X (.Call (.Name x p) (e::es) [] pos) (tCB r t):=by
 intro pins s σ H Q I h
 refine wpAny_Call_Name_kw (ld_blt I hg hm hv ?_ hn hdb)
 exact PyProof.Rows.callWith_builtin1 (thn (ha pos pins s σ H _ I h) λus s1 hZ2=>by obtain ⟨vs,H1,I1,r1,q1⟩:=hZ2;exact hc pins s1 σ H1 vs us Q I1 r1 q1) he hpl
theorem a_x (hc:g_e X (.type T) r) (hg:Gl X x) (hm:X.mg x=none) (hv:bootBuiltins x=some (.type T)) (ha:PA X (e::es) t) (hn:x≠"__name__":=by decide) (hdb:(x==("__debug__":Str))=false:=by decide)
  (he:starEach (e::es) X.env=(false,eval e X.env,)::starEach es X.env:=by rfl) (hpl:(backTo pos (starEach es X.env)).any (·.1)=false:=by rfl):PE X (.Call (.Name x p) (e::es) [] pos) (tCB r t):=by
 intro pins s σ H Q I h
 refine wpAny_Call_Name_kw (ld_blt I hg hm hv ?_ hn hdb)
 exact PyProof.Rows.callWith_type1 (thn (ha pos pins s σ H _ I h) λus s1 hZ0=>by obtain ⟨vs,H1,I1,r1,q1⟩:=hZ0;exact hc pins s1 σ H1 vs us Q I1 r1 q1) he hpl
end
end L2
namespace HT
open PySem PyProof.Rows
section
open PySem.SeqAt
open PySem.AutoSeq1 (wpAny_loadPart')
open PySem.MeetsSeq PySem.MeetsSeq2 PySem.MeetsSeq3
end
section
variable {prog:Program} {w:World} {A:Around} {E:Value->Shared->Prop} {s:Shared}
theorem cat_tup (ht:IsTup s.heap t vs.toArray) (hb:IsTup s.heap b ws.toArray) (hv:vs≠[])
  (h1:ws=[]->Q (.ref t) s) (h2:ws≠[]->Q (.ref s.heap.objs.size) { s with heap:=s.heap.push { cls:=.type "tuple",data:=.seq (vs++ws).toArray } })
  (hsz:vs.length+ws.length≤sizeLine):wpAny (model prog w) A (binaryOp .Add (.ref t) (.ref b)) Q E s:=by
 obtain ⟨⟨cls,dd,data,sl⟩,ho,hc,n,hd⟩:=id ht
 obtain ⟨⟨cls2,dd2,data2,sl2⟩,ho2,hc2,n2,hd2⟩:=id hb
 simp only at hc hd hc2 hd2
 subst hc hd hc2 hd2
 have e:vs.toArray++ws.toArray=(vs++ws).toArray:=by simp
 by_cases hw:ws=[]
 .exact concat_meets (_,ho,rfl) (_,ho2,rfl) noFill_tuple_add seq_tuple_add PySem.F.slot_tuple_add PySem.F.entry_tuple_add (PySem.F.args_tuple_add_2 _ _)
   (tuple_addW1 t b vs.toArray ws.toArray n n2 dd dd2 sl sl2 (by simpa using hv) (by simp [hw])) (ho,ho2,h1 hw)
 .refine concat_meets (_,ho,rfl) (_,ho2,rfl) noFill_tuple_add seq_tuple_add PySem.F.slot_tuple_add PySem.F.entry_tuple_add (PySem.F.args_tuple_add_2 _ _)
   (tuple_addW2 t b vs.toArray ws.toArray n n2 dd dd2 sl sl2 (by simpa using hv) (by simpa using hw) (by rw [size_toArray,size_toArray];exact hsz)) (ho,ho2,?_)
  rw [e]
  exact h2 hw
def sIx (n d:Nat):Option Int->Nat
 | none=>d
 | some v=>if v<0 then (v+(n:Int)).toNat else min v.toNat n
theorem sIx_none (n d:Nat):sIx n d none=d:=rfl
theorem sIx_nat (n d k:Nat):sIx n d (some (k:Int))=min k n:=by
 show (if (k:Int)<0 then ((k:Int)+(n:Int)).toNat else min (k:Int).toNat n)=min k n
 rw [if_neg (by lia),toNat_natCast]
theorem nX (n d:Nat) (hd:d≤n) (o:Option Int):sIx n d o≤n:=by
 cases o with
 | none=>exact hd
 | some v=>
  show (if v<0 then (v+(n:Int)).toNat else min v.toNat n)≤n
  by_cases hv:v<0
  .rw [if_pos hv];lia
  .rw [if_neg hv];exact Nat.min_le_right _ _
theorem iI (v:Int) (n d:Nat):(if v<0 then max (v+(n:Int)) 0 else min v (n:Int))=((sIx n d (some v):Nat):Int):=by
 show (if v<0 then max (v+(n:Int)) 0 else min v (n:Int))=(((if v<0 then (v+(n:Int)).toNat else min v.toNat n):Nat):Int)
 by_cases hv:v<0
 .simp only [if_pos hv];lia
 .simp only [if_neg hv];lia
theorem gL (lo hi:Option Int) (n:Nat):Builtin.Slice.sliceAdjust lo hi 1 (n:Int)=(((sIx n 0 lo:Nat):Int),((sIx n n hi:Nat):Int),):=by
 have h1:¬ ((1:Int)<0):=by lia
 unfold Builtin.Slice.sliceAdjust
 simp only [h1,if_false]
 refine Prod.ext ?_ ?_
 .cases lo with
  | none=>rfl
  | some v=>exact iI v n 0
 .cases hi with
  | none=>rfl
  | some v=>exact iI v n n
theorem fS (i j:Nat):Builtin.Slice.slicePlaces (i:Int) (j:Int) 1=j - i:=by
 unfold Builtin.Slice.slicePlaces
 have h1:(1:Int) > 0:=by lia
 simp only [h1,if_true,Int.ediv_one]
 split <;> lia
theorem g_s (p:IsPart v o) (h:Q o s):wpAny (model prog w) A (Builtin.Slice.slicePartIndex v) Q E s:=by
 cases p with
 | none=>exact slicePart_none h
 | int i t=>exact slicePart_int h
theorem e_R {lo hi:Option Int} {n:Nat} (hs:s.heap.IsSliceOf sl vl vu .none) (pl:IsPart vl lo) (pu:IsPart vu hi)
  (h:Q (((sIx n 0 lo:Nat):Int),1,sIx n n hi - sIx n 0 lo,) s):wpAny (model prog w) A (Builtin.Slice.sliceApplied (.ref sl) (pure (n:Int))) Q E s:=by
 obtain ⟨os,hos,hcs,hds⟩:=id hs
 unfold Builtin.Slice.sliceApplied Builtin.Slice.sliceFields
 refine qa7 (qa7 (wpAny_field hos hds (x:=vl) rfl (qa7 (wpAny_field hos hds (x:=vu) rfl (qa7 (wpAny_field hos hds (x:=.none) rfl (qa8 ?_)))))))
 refine qa7 (slicePart_none ?_)
 show wpAny _ _ (if ((1:Int)==0)=true then _ else _) _ _ s
 rw [if_neg (by decide)]
 refine qa7 (g_s pl (qa7 (g_s pu (qa7 (qa8 ?_)))))
 show wpAny _ _ (match Builtin.Slice.sliceAdjust lo hi 1 (n:Int) with|(lo,hi)=>pure (lo,(1:Int),Builtin.Slice.slicePlaces lo hi 1,)) _ _ s
 rw [gL lo hi n]
 show wpAny _ _ (pure (((sIx n 0 lo:Nat):Int),(1:Int),Builtin.Slice.slicePlaces ((sIx n 0 lo:Nat):Int) ((sIx n n hi:Nat):Int) 1,)) _ _ s
 rw [fS]
 exact qa8 h
theorem km (xs:Array Value) (i k:Nat):((List.range k).filterMap λ(m:Nat)=>xs[((i:Int)+(m:Int) * 1).toNat]?).toArray=((xs.toList.drop i).take k).toArray:=by
 have e:(λ(m:Nat)=>xs[((i:Int)+(m:Int) * 1).toNat]?)=λm=>xs[i+m]?:=by
  funext m
  have:((i:Int)+(m:Int) * 1).toNat=i+m:=by lia
  rw [this]
 rw [e]
 have:=pick_run xs i k
 rw [List.filterMap_map] at this
 have e2:((λx=>xs[x]?) ∘ λx=>i+x)=λm=>xs[i+m]?:=rfl
 rw [e2] at this
 rw [this]
theorem getItem_tuple_cut {lo hi:Option Int} (ht:IsTup s.heap t items) (hs:s.heap.IsSliceOf sl vl vu .none) (pl:IsPart vl lo) (pu:IsPart vu hi)
  (hw:¬ (sIx items.size 0 lo=0/\sIx items.size items.size hi=items.size))
  (h:Q (.ref s.heap.objs.size) { s with heap:=s.heap.push { cls:=.type "tuple",data:=.seq ((items.toList.drop (sIx items.size 0 lo)).take (sIx items.size items.size hi - sIx items.size 0 lo)).toArray } })
  (hsz:items.size≤sizeLine):wpAny (model prog w) A (getItem (.ref t) (.ref sl)) Q E s:=by
 have htake:sizeOk (.seq ((items.toList.drop (sIx items.size 0 lo)).take (sIx items.size items.size hi - sIx items.size 0 lo)).toArray):=by
  show ((items.toList.drop (sIx items.size 0 lo)).take (sIx items.size items.size hi - sIx items.size 0 lo)).toArray.size≤sizeLine
  rw [size_toArray,length_take,length_drop,length_toList]
  omega
 have hj:sIx items.size items.size hi≤items.size:=nX _ _ (le_refl _) hi
 obtain ⟨os,hos,hcs,hds⟩:=id hs
 have hTs:s.TypeIs (.ref sl) "slice":=(os,hos,hcs)
 unfold getItem
 try with_reducible refine wpAny_holding ?_
 first|refine qa7 (qa8 ?_)|skip
 refine qa7 (wpAny_sequenceKey ht.typeIs (by decide) ?_)
 refine qa7 (wpAny_callSpecial?_slot (name:=Str.ofString "__getitem__") ht.typeIs PyProof.Rows.slot_tuple_getitem
  (wpAny_call_entry PyProof.Rows.slot_tuple_getitem ht.typeIs entry_tuple_getitem ?_ (args_tuple_getitem _ _)))
 show wpAny _ _ (Builtin.Tuple.tupleItemsOf (.ref t) >>= _) _ _ s
 refine qa7 (tupleItemsOf_ ht ?_)
 refine qa7 (wpAny_typeOf hTs ?_)
 rw [if_pos (by decide)]
 refine qa7 (e_R hs pl pu ?_)
 have hno:¬ ((((sIx items.size 0 lo:Nat):Int)==0&&(1:Int)==1&&(sIx items.size items.size hi - sIx items.size 0 lo)==items.size)=true):=by
  intro q
  rw [and_eq_true,and_eq_true] at q
  have q1:((sIx items.size 0 lo:Nat):Int)=0:=eq_of_beq q.1.1
  have q2:sIx items.size items.size hi - sIx items.size 0 lo=items.size:=eq_of_beq q.2
  exact hw (by lia,by lia)
 show wpAny _ _ (if (((sIx items.size 0 lo:Nat):Int)==0&&(1:Int)==1&&(sIx items.size items.size hi - sIx items.size 0 lo)==items.size)=true then _ else _) _ _ s
 rw [if_neg hno,km]
 first
  | exact qa7 (m:=Builtin.Tuple.tupleExact _) (wpAny_newObj_type (qa8 (_,rfl,qa8 h)) htake)
  | exact qa7 (m:=Builtin.Tuple.tupleExact _) (wpAny_newObj_type (qa7 (qa8 (qa8 (_,rfl,qa8 h)))) htake)
  | exact qa7 (qa7 (m:=Builtin.Tuple.tupleExact _) (wpAny_newObj_type (qa8 (qa8 (_,rfl,qa8 h))) htake))
  | exact qa7 (qa7 (m:=Builtin.Tuple.tupleExact _) (wpAny_newObj_type (qa8 (_,rfl,qa8 h)) htake))
end
end HT
namespace L2
open PySem PySem.Spec PyProof.Rows
abbrev TO:=St->Hp->(Option Int->Hp->Prop)->Prop
def PO (X:Cx) (e:Option Expr) (t:TO):Prop:=
 ∀(pins:List (Addr×Obj)) (s:Shared) (σ:St) (H:Hp) (Q:Option Int->Hp->Prop),Inv X pins σ H s->t σ H Q->
  wpAny (model X.prog X.w) X.A (evalPart e X.env) (λu s'=>∃o H',Inv X pins σ H' s'/\IsPart u o/\Q o H') X.xe s
def tNoPart:TO:=λ_ H Q=>Q none H
def pf (t:TE):TO:=λσ H Q=>t σ H λx H1=>∃i,x=.int i/\Q (some i) H1
section
variable {X:Cx} {e:Expr} {te:TE} {lo hi:Option Expr} {tl th:TO} {pos p2:Pos}
theorem c_i:PO X none tNoPart:=by
 intro pins s σ H Q I h
 rw [evalPart_none]
 exact qa8 (none,H,I,.none,h)
theorem b_x (h:PE X e te):PO X (some e) (pf te):=by
 intro pins s σ H Q I hw
 rw [evalPart_some]
 refine thn (h pins s σ H _ I hw) λu s1 hZ1=>?_
 obtain ⟨x,H1,I1,r1,q1⟩:=hZ1
 obtain ⟨i,rfl,q⟩:=q1
 obtain ⟨t,rfl⟩:=r1
 exact (some i,H1,I1,.int i t,q)
def SlR (X:Cx) (r:V->Option Int->Option Int->Hp->VK->Prop):Prop:=
 ∀(pins:List (Addr×Obj)) (s:Shared) (σ:St) (H:Hp) (x:V) (v vl vu:Value) (lo hi:Option Int) (sl:Addr) (Q:VK),Inv X pins σ H s->ad x v->s.heap.IsSliceOf sl vl vu .none->IsPart vl lo->IsPart vu hi->r x lo hi H Q->
  ∃T id,typeLookup (.type T) "__getitem__"=pure (some (.builtin id))/\s.TypeIs v T/\wpAny (model X.prog X.w) X.A (getItem v (.ref sl)) (EP X pins σ Q) X.xe s
def tSl (r:V->Option Int->Option Int->Hp->VK->Prop) (te:TE) (tl th:TO):TE:=λσ H Q=>te σ H λx H1=>tl σ H1 λl H2=>th σ H2 λu H3=>r x l u H3 Q
theorem b_u (hr:SlR X r) (he:PE X e te) (hl:PO X lo tl) (hu:PO X hi th):PE X (.Subscript e (.Slice lo hi none p2) pos) (tSl r te tl th):=by
 intro pins s σ H Q I h
 refine Subscript_ (thn (he pins s σ H _ I h) λv s1 hZ2=>?_)
 obtain ⟨x,H1,I1,r1,q1⟩:=hZ2
 refine wpAny_Slice (thn (hl pins s1 σ H1 _ I1 q1) λvl s2 ⟨l,H2,I2,pl,q2⟩=>thn (hu pins s2 σ H2 _ I2 q2) λvu s3 hZ0=>?_)
 obtain ⟨u,H3,I3,pu,q3⟩:=hZ0
 rw [evalPart_none]
 refine qa8 ?_
 have I4:Inv X pins σ H3 { s3 with heap:=s3.heap.push { cls:=.type "slice",data:=.fields #[vl,vu,.none] } }:=I3.kept (t':=s3.toks) λb ob q=>qa9 _ q
 obtain ⟨T,id,hT,ht,hg⟩:=hr pins { s3 with heap:=s3.heap.push { cls:=.type "slice",data:=.fields #[vl,vu,.none] } } σ H3 x v vl vu l u s3.heap.objs.size Q I4 r1 (Heap.IsSliceOf.new ..) pl pu q3
 show wpAny (model X.prog X.w) X.A (subscriptTail e (.Slice lo hi none p2) v (.ref s3.heap.objs.size)) (EP X pins σ Q) X.xe { s3 with heap:=s3.heap.push { cls:=.type "slice",data:=.fields #[vl,vu,.none] } }
 exact tail_any (ops:=[.ref s3.heap.objs.size,v]) ht hT hg (by with_unfolding_all rfl)
def cutV (xs:List V) (lo hi:Option Int):List V:=(xs.drop (HT.sIx xs.length 0 lo)).take (HT.sIx xs.length xs.length hi - HT.sIx xs.length 0 lo)
theorem f_X (xs:List V) (lo hi:Option Int):(cutV xs lo hi).length≤xs.length:=by
 unfold cutV
 rw [length_take,length_drop]
 lia
def qm (K:Frag):V->Option Int->Option Int->Hp->VK->Prop:=λx lo hi H Q=>∃a xs,x=.ref a/\SqT K H a xs/\
 ¬ (HT.sIx xs.length 0 lo=0/\HT.sIx xs.length xs.length hi=xs.length)/\∀p,H p=none->Q (.ref p) (upd H p (.tup (cutV xs lo hi)))
theorem cu:SlR X (qm X.K):=by
 intro pins s σ H x v vl vu lo hi sl Q I rx hs pl pu h
 obtain ⟨a,xs,rfl,hx,hw,q⟩:=h
 cases rx
 obtain ⟨its,r,ht,hz⟩:=I.tuple hx
 have hlen:its.toArray.size=xs.length:=by rw [size_toArray];exact r.length.symm
 refine ("tuple",_,PyProof.Rows.slot_tuple_getitem.lookup,ht.typeIs,?_)
 refine HT.getItem_tuple_cut ht hs pl pu (by rw [hlen];exact hw) ?_ (by rw [hlen];exact hz)
 rw [hlen]
 refine (.ref s.heap.objs.size,_,I.laid (t':=s.toks) (o:=.tup (cutV xs lo hi)) (λb ob q=>qa9 _ q) (le_refl _) ?_,rfl,q _ (I.hok.fresh (le_refl _)))
 exact (le_trans (f_X xs lo hi) hz,_,(r.drop (HT.sIx xs.length 0 lo)).take (HT.sIx xs.length xs.length hi - HT.sIx xs.length 0 lo),IsTup.new _ _)
def pK (K:Frag):R2:=λx y H Q=>∃a b xs ys,x=.ref a/\y=.ref b/\SqT K H a xs/\SqT K H b ys/\xs≠[]/\xs.length+ys.length≤sizeLine/\
 (ys=[]->Q (.ref a) H)/\(ys≠[]->∀p,H p=none->Q (.ref p) (upd H p (.tup (xs++ys))))
theorem ab.nil_iff (r:ab xs us):us=[]↔xs=[]:=by
 cases r with
 | nil=>simp
 | cons _ _=>simp
theorem mG:OpR X (binaryOp .Add) (pK X.K):=by
 intro pins s σ H x y v u Q I rx ry h
 obtain ⟨a,b,xs,ys,rfl,rfl,ha,hb,hx,hz,q1,q2⟩:=h
 cases rx
 cases ry
 obtain ⟨its,r1,p1,_⟩:=I.tuple ha
 obtain ⟨its2,r2,p2,_⟩:=I.tuple hb
 refine HT.cat_tup p1 p2 (λz=>hx (r1.nil_iff.mp z)) (λz=>(.ref a,H,I,rfl,q1 (r2.nil_iff.mp z))) (λz=>?_) (by rw [<- r1.length,<- r2.length];exact hz)
 refine (.ref s.heap.objs.size,_,I.laid (t':=s.toks) (o:=.tup (xs++ys)) (λb ob q=>qa9 _ q) (le_refl _) ?_,rfl,q2 (λw=>z (r2.nil_iff.mpr w)) _ (I.hok.fresh (le_refl _)))
 exact (by rw [qa5];exact hz,_,r1.append r2,IsTup.new _ _)
end
def ixN (n:Nat) (i:Int):Option Nat:=if 0≤i then (if i<n then some i.toNat else none) else if -(n:Int)≤i then some (i+n).toNat else none
def atI {α:Type} (xs:List α) (i:Int):Option α:=(ixN xs.length i).bind λj=>xs[j]?
theorem mR (h:ixN n i=some j):seqIndex? i n=some j/\j<n/\-(n:Int)≤i/\i<n:=by
 unfold ixN at h
 by_cases h0:0≤i
 .rw [if_pos h0] at h
  by_cases h1:i<n
  .rw [if_pos h1] at h
   have e:i.toNat=j:=Option.some.inj h
   exact (by rw [seqIndex_of h0 h1,e],by lia,by lia,h1)
  .rw [if_neg h1] at h;cases h
 .rw [if_neg h0] at h
  by_cases h1:-(n:Int)≤i
  .rw [if_pos h1] at h
   have e:(i+n).toNat=j:=Option.some.inj h
   exact (by rw [seqIndex_neg (by lia) h1,e],by lia,h1,by lia)
  .rw [if_neg h1] at h;cases h
theorem du {xs:List α} {v:α} (h:atI xs i=some v):∃j,seqIndex? i xs.length=some j/\xs[j]?=some v/\j<xs.length/\-(xs.length:Int)≤i/\i<xs.length:=by
 unfold atI at h
 cases e:ixN xs.length i with
 | none=>rw [e] at h;cases h
 | some j=>
  rw [e] at h
  obtain ⟨h1,h2,h3,h4⟩:=mR e
  exact (j,h1,h,h2,h3,h4)
theorem a_R {xs:List α} {j:Nat} {v:α} (h:xs[j]?=some v):atI xs (j:Int)=some v:=by
 have hj:j<xs.length:=(qa1 h).1
 have e:ixN xs.length (j:Int)=some j:=by
  unfold ixN
  rw [if_pos (by lia),if_pos (by lia)];simp
 unfold atI;rw [e];exact h
theorem lY (xs:List α) (v:α):atI (xs++[v]) (-1)=some v:=by
 have hl:(xs++[v]).length=xs.length+1:=by simp
 have e:ixN (xs++[v]).length (-1)=some xs.length:=by
  unfold ixN
  rw [hl,if_neg (by decide),if_pos (by lia)]
  congr 1
  lia
 unfold atI
 rw [e]
 show (xs++[v])[xs.length]?=some v
 simp
def dz (b:Expr):Prop:=∀o i,subscripted b false o i=operate [o,i] (getItem o i)
def IxR (X:Cx) (r:R2):Prop:=
 ∀(value slice:Expr) (pins:List (Addr×Obj)) (s:Shared) (σ:St) (H:Hp) (x y:V) (v u:Value) (Q:VK),Inv X pins σ H s->ad x v->ad y u->r x y H Q->
  subscripted slice false v u=operate [v,u] (getItem v u)->wpAny (model X.prog X.w) X.A (subscriptTail value slice v u) (EP X pins σ Q) X.xe s
def MtR (X:Cx) (id:String) (r:V->List V->Hp->VK->Prop):Prop:=
 ∀(pins:List (Addr×Obj)) (s:Shared) (σ:St) (H:Hp) (x:V) (xs:List V) (v:Value) (us:List Value) (Q:VK),Inv X pins σ H s->ad x v->ab xs us->r x xs H Q->
  wpAny (model X.prog X.w) X.A (call (.builtin id) (v::us)) (EP X pins σ Q) X.xe s
section
variable {X:Cx} {a b:Expr} {ta tb:TE} {pos:Pos}
theorem IxR.or (h:IxR X r) (h':IxR X r'):IxR X (λx y H Q=>r x y H Q\/r' x y H Q):=by
 intro value slice pins s σ H x y v u Q I rx ry q hs
 rcases q with q|q
 .exact h value slice pins s σ H x y v u Q I rx ry q hs
 .exact h' value slice pins s σ H x y v u Q I rx ry q hs
theorem pe_ix (hr:IxR X r) (ha:PE X a ta) (hb:PE X b tb) (hs:dz b):PE X (.Subscript a b pos) (tOp r ta tb):=by
 intro pins s σ H Q I h
 exact Subscript_ (binT ha hb I h λv u s2 x y H2 I2 rx ry q=>hr a b pins s2 σ H2 x y v u Q I2 rx ry q (hs _ _))
def ki (K:Frag):R2:=λx y H Q=>∃p xs i v,x=.ref p/\y=.int i/\SqL K H p xs/\atI xs i=some v/\Q v H
def fR (K:Frag):R2:=λx y H Q=>∃p xs i v,x=.ref p/\y=.int i/\SqT K H p xs/\atI xs i=some v/\Q v H
def rIxS:R2:=λx y H Q=>∃z i c,x=.str z/\y=.int i/\z.length≤sizeLine/\atI z.cps.toList i=some c/\Q (.str ⟨#[c]⟩) H
theorem cY:IxR X (ki X.K):=by
 intro value slice pins s σ H x y v u Q I rx ry h hs
 obtain ⟨p,xs,i,z,rfl,rfl,hq,he,q⟩:=h
 cases rx
 obtain ⟨t,rfl⟩:=ry
 obtain ⟨its,r,pl,hz⟩:=I.list hq
 obtain ⟨j,h1,h2,h3,h4,h5⟩:=du he
 obtain ⟨w,ew,rw'⟩:=r.get h2
 have hl:=r.length
 have hn:=aR
 have fin:EP X pins σ Q w s:=(z,H,I,rw',q)
 by_cases h0:0≤i
 .have hj:i.toNat=j:=by
   rw [seqIndex_of h0 h5] at h1
   exact Option.some.inj h1
  exact item_listR pl.isList h0 (by lia) (by rw [hj];simpa using ew) fin hs
 .have hj:(i+(its.toArray.size:Int)).toNat=j:=by
   rw [seqIndex_neg (by lia) h4] at h1
   rw [size_toArray,<- hl]
   exact Option.some.inj h1
  exact subscriptTail_builtinR (x:=w) pl.isList.typeIs slot_list_getitem.lookup
   (wpAny_getItem_list_neg (Q:=λr s'=>r=w/\EP X pins σ Q r s') pl.isList (by lia) (by rw [size_toArray] <;> lia) (by lia) (by rw [hj];simpa using ew) (rfl,fin)) hs
theorem cX:IxR X (fR X.K):=by
 intro value slice pins s σ H x y v u Q I rx ry h hs
 obtain ⟨p,xs,i,z,rfl,rfl,hq,he,q⟩:=h
 cases rx
 obtain ⟨t,rfl⟩:=ry
 obtain ⟨its,r,pl,hz⟩:=I.tuple hq
 obtain ⟨j,h1,h2,h3,h4,h5⟩:=du he
 obtain ⟨w,ew,rw'⟩:=r.get h2
 have hl:=r.length
 have hn:=aR
 have fin:EP X pins σ Q w s:=(z,H,I,rw',q)
 exact subscriptTail_builtinR (x:=w) pl.typeIs slot_tuple_getitem.lookup
  (getItem_tuple (j:=j) (Q:=λr s'=>r=w/\EP X pins σ Q r s') pl (by lia) (by lia) (by rw [size_toArray,<- hl];exact h1) (by simpa using ew) (rfl,fin)) hs
theorem ix_str:IxR X rIxS:=by
 intro value slice pins s σ H x y v u Q I rx ry h hs
 obtain ⟨z,i,c,rfl,rfl,hz,he,q⟩:=h
 obtain ⟨t,rfl⟩:=rx
 obtain ⟨t',rfl⟩:=ry
 obtain ⟨j,h1,h2,h3,h4,h5⟩:=du he
 have hl:z.cps.toList.length=z.length:=by simp [length]
 rw [hl] at h1 h4 h5
 have hn:=aR
 exact tail_any (typeIs_str s z t) slot_str_getitem.lookup (getItem_str (c:=c) (by
  have e1:decide (i < -(2 ^ 63:Int))=false:=decide_eq_false (by lia)
  have e2:decide (i ≥ 2 ^ 63)=false:=decide_eq_false (by lia)
  rw [e1,e2,Bool.or_false]) (by rw [h1];simpa using h2) (.str ⟨#[c]⟩,H,I.tok _,(_,rfl),q)) hs
def rIx (K:Frag):R2:=λx y H Q=>ki K x y H Q\/fR K x y H Q\/rIxS x y H Q
theorem kX:IxR X (rIx X.K):=cY.or (cX.or ix_str)
theorem Inv.lst {σ:St} (I:Inv X pins σ H s) (h:H p=some (.lst xs)):
  ∃(its:List Value) (n:Nat),ab xs its/\s.heap.get? p=some { cls:=.type "list",data:=.seq its.toArray n }/\xs.length≤sizeLine:=by
 obtain ⟨z,its,n,r,e⟩:=I.hok p _ h
 exact (its,n,r,e,z)
theorem cq (lo hi:Option Int) (n:Nat):(sliceBounds lo hi none n).1=((HT.sIx n 0 lo:Nat):Int)/\(sliceBounds lo hi none n).2.1=((HT.sIx n n hi:Nat):Int)/\(sliceBounds lo hi none n).2.2=1:=by
 refine (?_,?_,rfl)
 .cases lo with
  | none=>simp [sliceBounds,HT.sIx]
  | some i=>
   simp only [sliceBounds,HT.sIx,Option.getD_none,show (1:Int) > 0 by decide,if_true]
   by_cases h:i<0
   .simp only [h,if_true] <;> lia
   .simp only [h,if_false] <;> lia
 .cases hi with
  | none=>simp [sliceBounds,HT.sIx]
  | some i=>
   simp only [sliceBounds,HT.sIx,Option.getD_none,show (1:Int) > 0 by decide,if_true]
   by_cases h:i<0
   .simp only [h,if_true] <;> lia
   .simp only [h,if_false] <;> lia
theorem g_R (its:List Value) (lo hi:Option Int):slicePick its.toArray lo hi none=((its.drop (HT.sIx its.length 0 lo)).take (HT.sIx its.length its.length hi - HT.sIx its.length 0 lo)).toArray:=by
 obtain ⟨h1,h2,h3⟩:=cq lo hi its.toArray.size
 unfold slicePick
 rw [h1,h2,h3]
 simp only [sliceRange_one,pick_run,size_toArray] <;> rfl
def qo (K:Frag):V->Option Int->Option Int->Hp->VK->Prop:=λx lo hi H Q=>∃a xs,x=.ref a/\SqL K H a xs/\∀p,H p=none->Q (.ref p) (upd H p (.lst (cutV xs lo hi)))
theorem cv:SlR X (qo X.K):=by
 intro pins s σ H x v vl vu lo hi sl Q I rx hs pl pu h
 obtain ⟨a,xs,rfl,hx,q⟩:=h
 cases rx
 obtain ⟨its,r,ht,hz⟩:=I.list hx
 have hlen:=r.length
 refine ("list",_,slot_list_getitem.lookup,ht.isList.typeIs,?_)
 refine wpAny_getItem_list_slice ht.isList hs pl pu .none (by simp) ?_ (by rw [size_toArray] <;> lia)
 rw [g_R,<- hlen]
 refine (.ref s.heap.objs.size,_,I.laid (t':=s.toks) (o:=.lst (cutV xs lo hi)) (λb ob q=>qa9 _ q) (le_refl _) ?_,rfl,q _ (I.hok.fresh (le_refl _)))
 exact (le_trans (f_X xs lo hi) hz,_,0,(r.drop (HT.sIx xs.length 0 lo)).take (HT.sIx xs.length xs.length hi - HT.sIx xs.length 0 lo),get?_push_size _ rfl)
def e_V:V->Bool
 | .non=>true
 | .bl _=>true
 | .int _=>true
 | .str _=>true
 | _=>false
def eqV:V->V->Bool
 | .non,.non=>true
 | .bl a,.bl b=>a==b
 | .bl a,.int b=>(if a then 1 else 0)==b
 | .int a,.bl b=>a==(if b then 1 else 0)
 | .int a,.int b=>a==b
 | .str a,.str b=>a==b
 | _,_=>false
theorem eqAt_V (ry:ad y u) (rx:ad x v) (fy:e_V y=true) (fx:e_V x=true):SeqAt.EqAt A s u v (eqV y x):=by
 cases y with
 | non=>
  cases ry
  cases x with
  | non=>cases rx;exact SeqAt.EqAt.same _
  | bl b=>cases rx;exact SeqAt.EqAt.none_bool b
  | int b=>obtain ⟨t,rfl⟩:=rx;exact SeqAt.EqAt.none_int b t
  | str b=>obtain ⟨t,rfl⟩:=rx;exact SeqAt.EqAt.none_str b t
  | _=>exact absurd (show false=true from fx) Bool.false_ne_true
 | bl a=>
  cases ry
  cases x with
  | non=>cases rx;exact SeqAt.EqAt.bool_none a
  | bl b=>cases rx;exact SeqAt.EqAt.bool_bool a b
  | int b=>obtain ⟨t,rfl⟩:=rx;exact SeqAt.EqAt.bool_int a b t
  | str b=>obtain ⟨t,rfl⟩:=rx;exact SeqAt.EqAt.bool_str a b t
  | _=>exact absurd (show false=true from fx) Bool.false_ne_true
 | int a=>
  obtain ⟨t',rfl⟩:=ry
  cases x with
  | non=>cases rx;exact SeqAt.EqAt.int_none a t'
  | bl b=>cases rx;exact SeqAt.EqAt.int_bool a t' b
  | int b=>obtain ⟨t,rfl⟩:=rx;exact SeqAt.EqAt.int_int a t' b t
  | str b=>obtain ⟨t,rfl⟩:=rx;exact SeqAt.EqAt.int_str a t' b t
  | _=>exact absurd (show false=true from fx) Bool.false_ne_true
 | str a=>
  obtain ⟨t',rfl⟩:=ry
  cases x with
  | non=>cases rx;exact SeqAt.EqAt.str_none a t'
  | bl b=>cases rx;exact SeqAt.EqAt.str_bool a t' b
  | int b=>obtain ⟨t,rfl⟩:=rx;exact SeqAt.EqAt.str_int a t' b t
  | str b=>obtain ⟨t,rfl⟩:=rx;exact SeqAt.EqAt.str_str a t' b t
  | _=>exact absurd (show false=true from fx) Bool.false_ne_true
 | _=>exact absurd (show false=true from fy) Bool.false_ne_true
def eqU (x:V) (u:Value):Bool:=match u with
 | .none=>eqV .non x
 | .bool b=>eqV (.bl b) x
 | .int i _=>eqV (.int i) x
 | .str z _=>eqV (.str z) x
 | _=>false
theorem eqU_of (r:ad y u) (f:e_V y=true):eqU x u=eqV y x:=by
 cases y with
 | non=>cases r;rfl
 | bl b=>cases r;rfl
 | int i=>obtain ⟨t,rfl⟩:=r;rfl
 | str z=>obtain ⟨t,rfl⟩:=r;rfl
 | _=>exact absurd (show false=true from f) Bool.false_ne_true
theorem dy {x:V}:∀{xs:List V} {us:List Value},ab xs us->xs.all e_V=true->us.any (eqU x)=xs.any λy=>eqV y x
 | _,_,.nil,_=>rfl
 | y::xs,u::us,.cons r t,f=>by
  rw [List.all_cons,and_eq_true] at f
  rw [List.any_cons,List.any_cons,eqU_of r f.1,dy t f.2]
theorem mem_eqAt {A:Around} {s:Shared} {x:V} {v:Value} (rx:ad x v) (fx:e_V x=true):∀{xs:List V} {us:List Value},ab xs us->xs.all e_V=true->∀u∈us,SeqAt.EqAt A s u v (eqU x u)
 | _,_,.nil,_=>λu hu=>by cases hu
 | y::xs,u::us,.cons r t,f=>λu' hu=>by
  rw [List.all_cons,and_eq_true] at f
  rcases mem_cons.mp hu with rfl|hu
  .rw [eqU_of r f.1];exact eqAt_V r rx f.1 fx
  .exact mem_eqAt rx fx t f.2 u' hu
def inV (x:V) (xs:List V):Bool:=xs.any λy=>eqV y x
def rIn (K:Frag) (neg:Bool):R2:=λx y H Q=>∃p xs,y=.ref p/\(SqL K H p xs\/SqT K H p xs)/\e_V x=true/\xs.all e_V=true/\Q (.bl (if neg then !inV x xs else inV x xs)) H
theorem cP:OpR X (compareOp .NotIn) (rIn X.K true):=by
 intro pins s σ H x y v u Q I rx ry h
 obtain ⟨p,xs,rfl,hq,fx,fs,q⟩:=h
 cases ry
 rcases hq with hq|hq
 .obtain ⟨its,r,pl,hz⟩:=I.list hq
  refine SeqAt.notIn_listAt (eqU x) pl.isList (λw hw=>mem_eqAt rx fx r fs w (by simpa using hw)) (.bl _,H,I,rfl,?_)
  rw [show its.toArray.any (eqU x)=its.any (eqU x) by simp,dy r fs]
  exact q
 .obtain ⟨its,r,pl,hz⟩:=I.tuple hq
  refine SeqAt.notIn_tupleAt (eqU x) pl (λw hw=>mem_eqAt rx fx r fs w (by simpa using hw)) (.bl _,H,I,rfl,?_)
  rw [show its.toArray.any (eqU x)=its.any (eqU x) by simp,dy r fs]
  exact q
theorem b_A:g_e X (.builtin "len") (λxs H Q=>∃p ys,xs=[.ref p]/\(SqL X.K H p ys\/SqT X.K H p ys)/\Q (.int ys.length) H):=by
 intro pins s σ H xs us Q I r h
 obtain ⟨p,ys,rfl,hq,q⟩:=h
 obtain ⟨u,rfl,rx⟩:=d_C r
 cases rx
 have hn:=aR
 rcases hq with hq|hq
 .obtain ⟨its,r',pl,hz⟩:=I.list hq
  have hlen:=r'.length
  exact Calls.call_len_list pl.isList (by simp only [size_toArray] <;> lia) (.int ys.length,H,I.tok _,(s.toks+1,by rw [size_toArray,hlen]),q)
 .obtain ⟨its,r',pl,hz⟩:=I.tuple hq
  have hlen:=r'.length
  exact len_tuple pl (by simp only [size_toArray] <;> lia) (.int ys.length,H,I.tok _,(s.toks+1,by rw [size_toArray,hlen]),q)
theorem dq:g_e X (.builtin "len") (λxs H Q=>∃z,xs=[.str z]/\z.length≤sizeLine/\Q (.int z.length) H):=by
 intro pins s σ H xs us Q I r h
 obtain ⟨z,rfl,hz,q⟩:=h
 obtain ⟨u,rfl,t,rfl⟩:=d_C r
 have hn:=aR
 exact len_str (by lia) (.int z.length,H,I.tok _,(_,rfl),q)
theorem a_i:g_e X (.type "tuple") (λxs H Q=>∃p ys,xs=[.ref p]/\((SqL X.K H p ys/\∀l,H l=none->Q (.ref l) (upd H l (.tup ys)))\/(SqT X.K H p ys/\Q (.ref p) H))):=by
 intro pins s σ H xs us Q I r h
 obtain ⟨p,ys,rfl,h⟩:=h
 obtain ⟨u,rfl,rx⟩:=d_C r
 cases rx
 rcases h with ⟨hq,q⟩|⟨hq,q⟩
 .obtain ⟨its,r',pl,hz⟩:=I.list hq
  have hlen:=r'.length
  refine call_tuple_list pl.isList (λh' kp=>?_) (by simp only [size_toArray] <;> lia)
  have I1:Inv X pins σ H { s with heap:=h' }:=I.kept (t':=s.toks) kp
  have I2:Inv X pins σ (upd H h'.objs.size (.tup ys)) { s with heap:=h'.push { cls:=.type "tuple",data:=.seq its.toArray } }:=
   I1.laid (t':=s.toks) (λb o e=>qa9 _ e) (le_refl _) (show b_f X.prog X.w _ _ _ (.tup ys) from (hz,its,r',IsTup.new _ _))
  exact (.ref h'.objs.size,_,I2,rfl,q _ (I1.hok.fresh (le_refl _)))
 .obtain ⟨its,r',pl,hz⟩:=I.tuple hq
  exact call_tuple_same pl (.ref p,H,I,rfl,q)
def tyV (K:Frag) (T:String) (x:V) (H:Hp):Prop:=match x with
 | .str _=>T="str"
 | .int _=>T="int"
 | .ref p=>(T="list"/\∃xs,SqL K H p xs)\/(T="tuple"/\∃o,K.lookup p=some o/\o.cls=.type "tuple"/\o.dict=none) \/
   (T="dict"/\((∃kvs,H p=some (.dK kvs))\/∃kvs,H p=some (.dT kvs)))\/(T="set"/\∃S n,H p=some (.set S n))
 | _=>False
theorem nM {σ:St} (I:Inv X pins σ H s) (r:ad x v) (ty:tyV X.K T x H):
  s.TypeIs v T/\∀a,v=.ref a->∃ob,s.heap.get? a=some ob/\ob.dict=none:=by
 cases x with
 | str z=>
  obtain ⟨t,rfl⟩:=r
  cases (show T="str" from ty)
  exact (typeIs_str s z t,λ_ e=>nomatch e)
 | int i=>
  obtain ⟨t,rfl⟩:=r
  cases (show T="int" from ty)
  exact (typeIs_int s i t,λ_ e=>nomatch e)
 | ref p=>
  cases r
  rcases ty with ⟨rfl,xs,hq⟩|⟨rfl,o,hk,hc,hd⟩|⟨rfl,hk⟩|⟨rfl,S,n,hk⟩
  .obtain ⟨its,_,pl,_⟩:=I.list hq
   refine (pl.isList.typeIs,λa e=>?_)
   cases e
   obtain ⟨o,n,e,c,hd,_⟩:=pl
   exact (o,e,hd)
  .refine ((o,I.kIn p o hk,hc),λa e=>?_)
   cases e
   exact (o,I.kIn _ o hk,hd)
  .have z:∃o,s.heap.get? p=some o/\o.ExactDict:=by
    rcases hk with ⟨kvs,hk⟩|⟨kvs,hk⟩
    .obtain ⟨_,_,_,_,o,_,_,e,ex,_⟩:=I.hok p _ hk
     exact (o,e,ex)
    .obtain ⟨_,_,_,_,o,_,_,e,ex,_⟩:=I.hok p _ hk
     exact (o,e,ex)
   obtain ⟨o,e,ex⟩:=z
   refine ((o,e,ex.1),λa e2=>?_)
   cases e2
   exact (o,e,ex.2.1)
  .obtain ⟨o,_,_,_,e,ex,_⟩:=I.hok p _ hk
   refine ((o,e,ex.1),λa e2=>?_)
   cases e2
   exact (o,e,ex.2.1)
 | _=>exact False.elim ty
def tBM (K:Frag) (T:String) (r:V->List V->Hp->VK->Prop) (to:TE) (t:TA):TE:=λσ H Q=>to σ H λx H1=>tyV K T x H1/\t σ H1 λxs H2=>r x xs H2 Q
variable {o e:Expr} {es:List Expr} {to:TE} {t:TA} {name:Str} {apos cpos:Pos} {T id:String} {r:V->List V->Hp->VK->Prop}
theorem c_Z (pa:PlainAttrs T) (slot:Slot T name id) (hty:typeOf (.builtin id)=pure (.type "method_descriptor")) (hm:MtR X id r) (ho:PE X o to) (ha:PA X (e::es) t)
  (hbase:attributeBase o name X.env (eval o X.env)=eval o X.env:=by rfl)
  (hfew:((backTo cpos (starEach (e::es) X.env)).all (λx=>!x.1)&&(backToKw cpos (keywordEach [] X.env)).all (λx=>x.1.isSome)
   && decide ((e::es).length+([]:List Keyword).length+(if ([]:List Keyword).isEmpty then 0 else 1)<30))=true:=by rfl)
  (hline:(apos.endLine==cpos.line)=true:=by rfl) (hs:starEach (e::es) X.env=(false,eval e X.env,)::starEach es X.env:=by rfl) (hplain:(backTo cpos (starEach es X.env)).any (·.1)=false:=by rfl):
  PE X (.Call (.Attribute o name apos) (e::es) [] cpos) (tBM X.K T r to t):=by
 intro pins s σ H Q I h
 refine wpAny_Call_method_late hbase hfew hline rfl (thn (ho pins s σ H _ I h) λv s1 hZ1=>?_)
 obtain ⟨x,H1,I1,r1,ty,q1⟩:=hZ1
 obtain ⟨h1,h2⟩:=nM I1 r1 ty
 refine (T,id,pa,slot,hty,h1,h2,?_)
 have hA:=ha cpos pins s1 σ H1 _ I1 q1
 rw [hs] at hA ⊢
 refine Calls.callWith_builtin (by show (false || (backTo cpos (starEach es X.env)).any (·.1))=false;rw [hplain] <;> rfl) (Calls.evalArgs_plain ?_)
 exact thn hA λus s2 hZ2=>by obtain ⟨vs,H2,I2,r2,q2⟩:=hZ2;exact hm pins s2 σ H2 x vs v us Q I2 r1 r2 q2
end
def MtM (X:Cx) (id:String) (r:V->List V->Hp->VK->Prop):Prop:=
 ∀(pins:List (Addr×Obj)) (s:Shared) (σ:St) (H:Hp) (x:V) (xs:List V) (v:Value) (us:List Value) (Q:VK),Inv X pins σ H s->ad x v->ab xs us->r x xs H Q->
  wpAny (model X.prog X.w) X.A (call (.builtin id) (v::us)) (EP X pins σ Q) X.xe s
theorem ab.one:∀{x:V} {us:List Value},ab [x] us->∃u,us=[u]/\ad x u
 | _,_,.cons r .nil=>(_,rfl,r)
theorem ab.rep {xs:List V} {us:List Value} (h:ab xs us):∀k:Nat,ab (replicate k xs).flatten (replicate k us).flatten
 | 0=>.nil
 | k+1=>by
  rw [replicate_succ,replicate_succ,flatten_cons,flatten_cons]
  exact ab.append h (ab.rep h k)
theorem bS (its:List Value):∀(k:Nat) (acc:List Value),
  List.foldl (λx1 x2=>x1++x2) acc.toArray (replicate k its.toArray)=(acc++(replicate k its).flatten).toArray
 | 0,acc=>by simp
 | k+1,acc=>by
  have e:acc.toArray++its.toArray=(acc++its).toArray:=by simp
  have e2:(acc++its)++(replicate k its).flatten=acc++(replicate (k+1) its).flatten:=by
   rw [replicate_succ,flatten_cons,append_assoc]
  rw [<- e2,<- bS its k (acc++its),<- e,replicate_succ,List.foldl_cons]
section
variable {X:Cx} {pins:List (Addr×Obj)} {σ:St} {H:Hp} {s:Shared} {l b:Addr} {xs ys zs:List V}
theorem Inv.lset {its its':List Value} (I:Inv X pins σ H s) (hH:H l=some (.lst xs))
  (e:s.heap.get? l=some { cls:=.type "list",data:=.seq its.toArray n }) (hf:f its.toArray=its'.toArray) (hv:ab ys its') (hz:ys.length≤sizeLine):
  Inv X pins σ (upd H l (.lst ys)) { s with heap:=s.heap.update l (mapSeq f),toks:=t' }:=by
 have q:=PySem.IsL.update e f
 rw [hf] at q
 refine I.write (x:=l) (e:=l) (by rw [hH];exact trivial) (.inl rfl) (λb' u hb hu=>(Heap.get?_update_other s.heap (mapSeq f) (Ne.symm hb)).trans hu) (_,q) ?_
 exact (hz,its',_,hv,q)
theorem Inv.lnew (I:Inv X pins σ H s) (hv:ab ys its) (hz:ys.length≤sizeLine):
  Inv X pins σ (upd H s.heap.objs.size (.lst ys)) { s with heap:=s.heap.push { cls:=.type "list",data:=.seq its.toArray },toks:=t' }:=
 I.laid (λ_ _ q=>qa9 _ q) (le_refl _) (hz,its,0,hv,get?_push_size _ rfl)
theorem Inv.fresh (I:Inv X pins σ H s):H s.heap.objs.size=none:=I.hok.fresh (le_refl _)
theorem Inv.lstM (I:Inv X pins σ H s) (hH:H l=some (.lst xs)):xs.length≤sizeLine/\∃(its:List Value) (n:Nat),ab xs its/\xs.length=its.length/\s.heap.get? l=some { cls:=.type "list",data:=.seq its.toArray n }:=by
 obtain ⟨z,its,n,r,e⟩:=I.hok l _ hH
 exact (z,its,n,r,r.length,e)
theorem eA (h:n≤sizeLine):Builtin.List.listTooLong n=false:=by
 unfold Builtin.List.listTooLong
 exact decide_eq_false (by lia)
end
section
variable {X:Cx}
def rAppend:V->List V->Hp->VK->Prop:=λx vs H Q=>∃l xs y,x=.ref l/\vs=[y]/\H l=some (.lst xs)/\xs.length<sizeLine/\Q .non (upd H l (.lst (xs++[y])))
theorem bI:MtM X "list.append" rAppend:=by
 intro pins s σ H x vs v us Q I rx rv h
 obtain ⟨l,xs,y,rfl,rfl,hH,hz,q⟩:=h
 cases rx
 obtain ⟨u,rfl,ru⟩:=rv.one
 obtain ⟨z,its,n,r,hl,e⟩:=I.lstM hH
 refine call_meets F.slot_list_append (_,e,rfl) F.entry_list_append (F.args_list_append_2 _ _) (PySem.list_append l its.toArray n u (by rw [size_toArray];lia)) (e,?_)
 refine (.non,_,I.lset (its':=its++[u]) hH e (by simp) (r.append (.cons ru .nil)) ?_,rfl,q)
 rw [qa5,List.length_singleton]
 lia
def rExtend:V->List V->Hp->VK->Prop:=λx vs H Q=>∃l b xs zs,x=.ref l/\vs=[.ref b]/\H l=some (.lst xs)/\H b=some (.lst zs)/\xs.length+zs.length≤sizeLine/\Q .non (upd H l (.lst (xs++zs)))
theorem bH:MtM X "list.extend" rExtend:=by
 intro pins s σ H x vs v us Q I rx rv h
 obtain ⟨l,b,xs,zs,rfl,rfl,hH,hB,hz,q⟩:=h
 cases rx
 obtain ⟨u,rfl,ru⟩:=rv.one
 cases ru
 obtain ⟨z,its,n,r,hl,e⟩:=I.lstM hH
 obtain ⟨z2,its2,n2,r2,hl2,e2⟩:=I.lstM hB
 have hsz:its.toArray.size+its2.toArray.size≤sizeLine:=by rw [size_toArray,size_toArray];lia
 have hlong:¬ (!its.toArray.isEmpty&&Builtin.List.listTooLong (its.toArray.size+its2.toArray.size))=true:=by
  rw [eA hsz,Bool.and_false]
  exact Bool.false_ne_true
 refine call_meets F.slot_list_extend (_,e,rfl) F.entry_list_extend (F.args_list_extend_2 _ _)
  (AutoSeq1.list_extend_list_list_0 l its.toArray n b its2.toArray n2 hlong (by rw [size_toArray];lia) (by lia)) (e,e2,?_)
 refine (.non,_,I.lset (its':=its++its2) hH e (by simp) (r.append r2) ?_,rfl,q)
 rw [qa5]
 omega
def rCat:R2:=λx y H Q=>∃l b xs zs,x=.ref l/\y=.ref b/\H l=some (.lst xs)/\H b=some (.lst zs)/\xs.length+zs.length≤sizeLine/\∀p,H p=none->Q (.ref p) (upd H p (.lst (xs++zs)))
theorem kD:OpR X (binaryOp .Add) rCat:=by
 intro pins s σ H x y v u Q I rx ry h
 obtain ⟨l,b,xs,zs,rfl,rfl,hH,hB,hz,q⟩:=h
 cases rx
 cases ry
 obtain ⟨z,its,n,r,hl,e⟩:=I.lstM hH
 obtain ⟨z2,its2,n2,r2,hl2,e2⟩:=I.lstM hB
 refine PySem.P.add_list e e2 ?_ (by rw [size_toArray,size_toArray];lia)
 have ea:its.toArray++its2.toArray=(its++its2).toArray:=by simp
 rw [ea]
 exact (.ref _,_,I.lnew (t':=s.toks) (r.append r2) (by rw [qa5];omega),rfl,q _ I.fresh)
def rRep:R2:=λx y H Q=>∃l k xs,x=.ref l/\y=.int k/\H l=some (.lst xs)/\-(2 ^ 63)≤k/\k<2 ^ 63/\xs.length * k.toNat≤sizeLine/\
 ∀p,H p=none->Q (.ref p) (upd H p (.lst (replicate k.toNat xs).flatten))
theorem mP {α:Type} (xs:List α) (k:Nat):(replicate k xs).flatten.length=k * xs.length:=by
 induction k with
 | zero=>simp
 | succ k ih=>rw [replicate_succ,flatten_cons,qa5,ih,succ_mul,add_comm]
theorem oj:OpR X (binaryOp .Mult) rRep:=by
 intro pins s σ H x y v u Q I rx ry h
 obtain ⟨l,k,xs,rfl,rfl,hH,h1,h2,hz,q⟩:=h
 cases rx
 obtain ⟨t,rfl⟩:=ry
 obtain ⟨z,its,n,r,hl,e⟩:=I.lstM hH
 have hlen:its.toArray.size * k.toNat≤sizeLine:=by rw [size_toArray,<- hl];exact hz
 have hcap:¬ its.toArray.size * k.toNat > (2 ^ 63 - 1) / 8:=by
  have:(sizeLine:Nat)≤(2 ^ 63 - 1) / 8:=by decide
  lia
 have hfit:¬ (!Builtin.List.listFitsIndex k)=true:=by
  rw [fitsIndex_both h1 h2]
  exact Bool.false_ne_true
 have hlong:¬ Builtin.List.listTooLong (its.toArray.size * k.toNat)=true:=by
  rw [eA hlen]
  exact Bool.false_ne_true
 have hnew:List.foldl (λx1 x2=>x1++x2) #[] (replicate (if its.toArray.isEmpty=true then 0 else k.toNat) its.toArray)=(replicate k.toNat its).flatten.toArray:=by
  have f0:∀m:Nat,List.foldl (λx1 x2=>x1++x2) #[] (replicate m its.toArray)=(replicate m its).flatten.toArray:=λm=>by
   have:=bS its m []
   rw [List.nil_append] at this
   exact this
  rw [f0]
  cases its with
  | nil=>simp
  | cons a r'=>rw [if_neg (by simp)]
 refine wpAny_binaryOp_repeat_ref (T:="list") (U:="int") (by decide) (_,e,rfl) (λs'=>typeIs_int s' k t) noFill_list_mul F.fills_int_mul F.slot_int_rmul repeat_list F.slot_int_index.lookup
  (call_meets F.slot_int_rmul (typeIs_int s k t) F.entry_int_rmul (F.args_int_rmul_2 _ _) (int___rmul___int_list k t l its.toArray n)
   (e,rfl,(_,e,rfl),call_meets F.slot_list_mul (_,e,rfl) F.entry_list_mul (F.args_list_mul_2 _ _) (AutoListH.list___mul___list_int_3 l its.toArray n k t hfit hcap hlong) (e,?_)))
 rw [hnew]
 exact (.ref _,_,I.lnew (t':=s.toks) (r.rep k.toNat) (by rw [mP,Nat.mul_comm];exact hz),rfl,q _ I.fresh)
end
section
variable {prog:Program} {w:World} {A:Around} {E:Value->Shared->Prop} {s:Shared}
end
section
variable {X:Cx}
end
end L2
namespace Att
open PySem PySem.W PySem.Calls PyProof.Rows
theorem f_Q:∀(ns:List Int) (vs:List Value),WellAll P h vs (ns.map WData.int)->IntsAre vs ns:=by
 intro ns
 induction ns with
 | nil=>
  intro vs w
  rw [List.map_nil] at w
  cases w
  exact .nil
 | cons n ns ih=>
  intro vs w
  rw [map_cons] at w
  cases w with
  | cons a b=>
   cases a
   exact .cons _ _ (ih _ b)
theorem iW {l:OpenLaw} (hn:l.most=some n)
  (hpre:l.row.toRowW.claim.pre args=true) (hwl:WellAll P h vals args):
  ∃a vs ns,vals=[Value.ref a]/\args=[WData.list (ns.map WData.int)]/\h.get? a=some { cls:=.type "list",data:=.seq vs.toArray }/\IntsAre vs ns/\ns.length≤n:=by
 have hsh:WShape.hasAll [] args [.list .int]=true:=(pre_splitW hpre).1
 have hc:l.pre.holds [] { args:=args }=true:=(pre_splitW hpre).2
 obtain ⟨d,r,rfl,h1,h2⟩:=hasAllW_cons hsh
 obtain rfl:=hasAllW_nil h2
 obtain ⟨xs,rfl,h3⟩:=hasW_list h1
 obtain ⟨ns,rfl⟩:=items_int h3
 have hlen:ns.length≤n:=by
  unfold OpenLaw.pre at hc
  have h4:(WTm.not (.lt (.lit (.int (n:Int))) (.len (.arg 0)))).holds [] { args:=[.list (ns.map .int)] }=true:=by
   have h4:=(holds_andW hc).1
   rw [hn] at h4
   exact h4
  have h5:=condW_of h4 (w_not (w_lt w_lit (w_len_list (w_arg rfl))))
  rw [qa4] at h5
  refine le_of_not_lt λq=>?_
  have q':(n:Int)<((ns.length:Nat):Int):=by omega
  first
   | (rw [decide_eq_true q'] at h5;exact absurd h5 (by decide))
   | (simp at h5;omega)
 cases hwl with
 | cons w1 w2=>
  cases w2
  cases w1 with
  | list ho hall=>exact (_,_,ns,rfl,rfl,ho,f_Q ns _ hall,hlen)
theorem iZ (l:OpenLaw) (args:List WData):l.row.toRowW.claim.post args (.bool true) args=true:=
 postW_of (r:=l.row.toRowW) (X:=(true==true))
  (show WShape.has [] (.bool true) .bool=true by first|rfl|decide|simp [WShape.has,WShape.arms,WShape.armsAll])
  (show (WTm.eq .res (.lit (.bool true))).value [] { args:=args,res:=some (.bool true),after:=args }=some (.bool (true==true)) from w_eq_bool (w_res rfl) w_lit) rfl
theorem attach_call {l:OpenLaw}
  (hn:l.most=some n) (hdf:d.params.defaults=[])
  (call:∀(w:World) (s₀ s₁:Shared) (mg mb:Str->Option Value) (fa:Addr) (o:Obj) (pm cd doc:Value) (a:Addr) (vs:List Value) (ns:List Int),
   Ground q loose [] XP w s₀ mg mb s₁.heap->YP w s₁.heap->
   s₁.heap.get? fa=some o->o.data=.func (docDef d.name d.params d.body d.scope pm cd doc)->s₁.heap.CodeRec cd d.name->mg d.name=some (.ref fa)->
   s₁.heap.get? a=some { cls:=.type "list",data:=.seq vs.toArray }->IntsAre vs ns->ns.length≤n->s₁.gens=#[]->
   codeAny (model l.prog w) callerA (.call (.ref fa) ([.ref a],[])) (λr s'=>r=.ok (.ret (.bool true))/\OldK s₁.heap s'.heap/\s'.os=s₁.os/\AllBare s'.gens) s₁):
  WalkO q loose XP YP l.row.toRowW d [] (λf vs=>PySem.call f vs):=by
 intro w s₀ s₁ mg mb G Y fa o pm cd doc dV kV ho hd hcd hD hmg hg args vals as hpre hlay hrd hwl hlo
 obtain rfl:dV=.none:=Dflts.none hD hdf
 obtain rfl:kV=.none:=Dflts.noKw hD
 obtain ⟨a,vs,ns,rfl,rfl,hobj,hints,hlen⟩:=iW hn hpre hwl
 refine enter_call (codeAny_mono (call w s₀ s₁ mg mb fa o pm cd doc a vs ns G Y ho (fd_plain hd) hcd hmg hobj hints hlen hg) λr s' hq=>?_)
 obtain ⟨rfl,h2,h3,h4⟩:=hq
 exact (.inl (.bool true,.bool true,[],rfl,λ_=>rfl,.bool true,iZ l _,λ_=>(List.Pairwise.nil,λ_ hm=>(nomatch hm))),h2,h3,h4)
section
variable {prog:Program} {w:World} {A:Around} {E:Value->Shared->Prop} {s:Shared} {K:Frag}
end
end Att
namespace L2
open PySem PySem.Spec PyProof.Rows
theorem bi:∀{vs:List Value} {ns:List Int},IntsAre vs ns->ab (ns.map V.int) vs
 | _,_,.nil=>.nil
 | _,_,.cons n t h=>.cons (t,rfl) (bi h)
def mT (s:Stmt) (j:Nat):Stmt:=match s with
 | .ClassDef _ _ _ body _ _ _ _ _ _ _=>body.getD j (.Pass (0,0,0,0))
 | _=>.Pass (0,0,0,0)
def a_C (s:Stmt):Arguments:=match s with
 | .FunctionDef _ a _ _ _ _ _ _ _ _=>a
 | _=>{ posonlyargs:=[],args:=[],vararg:=none,kwonlyargs:=[],kw_defaults:=[],kwarg:=none,defaults:=[] }
def a_s (s:Stmt):List Stmt:=match s with
 | .FunctionDef _ _ b _ _ _ _ _ _ _=>b
 | _=>[]
def a_c (s:Stmt):Scope:=match s with
 | .FunctionDef _ _ _ _ _ _ sc _ _ _=>sc
 | _=>{ kind:=.function,names:=[],isGenerator:=false,isCoroutine:=false }
abbrev CX0:CXT:=λ_ _ _ _ _ _=>False
abbrev E0:XK:=λ_ _ _=>False
theorem d9:aZ CX0 X E0:=λ_ _ _ _ _ _ _ h=>h.elim
structure Fun (K:Frag) (x qual:Str) (st:Stmt) (f:Addr) (fd:FuncData):Prop where
 ex:∃(oc:Value) (od:Option Addr) (kV doc pm:Value) (an:Option Addr) (cdv ct:Value) (osl:Array (Option Value)),
  fd=fnOf x qual (a_C st) (a_s st) (a_c st) .none kV doc pm an cdv ct/\K.lookup f=some (oc,od,.func fd,osl)/\codeIn K cdv qual=true
 kp:keepIn K (.ref f)=true
section
variable {P:Program} {w:World} {K:Frag} {mg:Str->Option Value} {base:Heap}
theorem Fun.ok {st:Stmt} (F:Fun K x qual st f fd) (S:a_e N ps (a_c st)) (len:∀vs H Q E,sp vs H Q E->vs.length=ps.length)
  (hbody:∀(cdv:Value) (A:Around) (outer:List Env) (s:Shared) (H:Hp) (vs:List V) (Q:VK) (E:XK),ak k (A.deeper (envOfC qual (a_c st) s.heap.objs.size f cdv))->sp vs H Q E->
   ∃t,PSs (dh CX0 P w K mg base N qual (a_c st) f cdv A outer s H E).nox (a_s st) t/\t { nx:=λ_ H'=>Q .non H',rt:=Q } (start N vs) H):aa P w K mg base CX0 (k+1) f fd ps sp:=by
 obtain ⟨oc,od,kV,doc,pm,an,cdv,ct,osl,rfl,lk,hcd⟩:=F.ex
 refine lG lk hcd S len λA outer s H vs Q E hr hsp=>?_
 obtain ⟨t,h,q⟩:=hbody cdv A outer s H vs Q E hr hsp
 exact (t,h.nox,q)
theorem Fun.binds {st:Stmt} (F:Fun K x qual st f fd)
  (h:∀(kV doc pm:Value) (an:Option Addr) (cdv ct:Value) (us:List Value),us.length=ps.length->bindArgs (fnOf x qual (a_C st) (a_s st) (a_c st) .none kV doc pm an cdv ct) (us,[])=pure (ps.zip us)):c_n K fd ps []:=by
 obtain ⟨oc,od,kV,doc,pm,an,cdv,ct,osl,rfl,lk,hcd⟩:=F.ex
 exact .all (h kV doc pm an cdv ct)
theorem db {st:Stmt} {kV doc pm cdv ct:Value} (l:K.lookup f=some (oc,od,.func (fnOf x qual (a_C st) (a_s st) (a_c st) .none kV doc pm an cdv ct),osl))
  (c:codeIn K cdv qual=true) (k:keepIn K (.ref f)=true):Fun K x qual st f (fnOf x qual (a_C st) (a_s st) (a_c st) .none kV doc pm an cdv ct):=((oc,od,kV,doc,pm,an,cdv,ct,osl,rfl,l,c),k)
end
theorem a_K (h:n≤1000):n<sizeLine:=lt_of_le_of_lt h (by decide)
section
variable {X:Cx}
theorem pv (i:Nat) {pos:Pos} (hN:X.N[i]?=some x:=by rfl) (hv:Vis X.env.scope x:=by first|exact Or.inl rfl|exact Or.inr (Or.inl rfl)|exact Or.inr (Or.inr rfl)) (hd:(x==("__debug__":Str))=false:=by decide)
  (hcd:(x==("__classdict__":Str))=false:=by decide):PE X (.Name x pos) (be i):=n8 hN hv hd hcd
end
theorem af {A B:Prop} (h:B):if false=true then A else B:=by
 rw [if_neg Bool.false_ne_true]
 exact h
theorem aj {A B:Prop} (h:A):if true=true then A else B:=by
 rw [if_pos rfl]
 exact h
theorem d_y {c A B:Prop} [Decidable c] (hc:c) (h:B):if (!decide c)=true then A else B:=by
 rw [decide_eq_true hc]
 exact af h
def Same (H H':Hp):Prop:=∀b o,H b=some o->H' b=some o
theorem Same.refl (H:Hp):Same H H:=λ_ _ h=>h
theorem Same.trans (a:Same H H1) (b:Same H1 H2):Same H H2:=λc o h=>b c o (a c o h)
theorem Same.seq {K:Frag} (e:Same H H') (h:SqL K H a xs):SqL K H' a xs:=by
 rcases h with (h|⟨o,h⟩)|h
 .exact .inl (.inl (e _ _ h))
 .exact .inl (.inr (o,e _ _ h))
 .exact .inr h
end L2
set_option Elab.async false
set_option maxRecDepth 100000
set_option maxHeartbeats 4000000
namespace L2
open PySem PySem.Spec PyProof.Rows
def Its (x:Str):It:=(λi _=>i<x.length,λi H v H'=>H'=H/\∃c,x.cps[i]?=some c/\v=.str ⟨#[c]⟩,λi _=>x.length≤i)
theorem iR {K:Frag} (x:Str) (t:Tok) (it:Addr):aY P w K tg (Its x) [it] it (λi h=>h.IsStrIter it "str_ascii_iterator" x t i)  where
 mem:=by simp
 obj:=λi h st b hb=>by
  have e:b=it:=by simpa using hb
  subst e
  obtain ⟨o,e,c,d⟩:=st
  exact (o,e,λv z=>by rw [d] at z;cases z)
 keep:=λi h h' st k=>by
  obtain ⟨o,e,r⟩:=st
  exact (o,k it (by simp) o e,r)
 item:=by
  intro X hP hw hK hc i pins s σ H E I hf st hg
  subst hP hw hK
  have hg:i<x.cps.size:=hg
  obtain ⟨f0,f1,f2,f3,f4,f5⟩:=hf it (by simp)
  refine wpAny_pyNext_ascii_item st (c:=x.cps[i]) (by simp [hg]) λh' st' sb=>?_
  have I1:Inv X pins σ H { s with heap:=h',toks:=s.toks+1 }:=I.turned (t':=s.toks+1) (λb o hb e=>(sb.2 b hb).trans e) f0 f1 f3 f4 f5
  obtain ⟨o,e,c,d⟩:=id st'
  exact (_,rfl,bR (s:={ s with heap:=h',toks:=s.toks+1 }) e c d (by decide) (.str ⟨#[x.cps[i]]⟩,H,I1,(_,rfl),(rfl,_,by simp [hg],rfl),st',λb hb=>(hf b hb).1))
 done:=by
  intro X hP hw hK hc i pins s σ H E I hf st hg
  subst hP hw hK
  have hg:x.cps.size≤i:=hg
  obtain ⟨f0,f1,f2,f3,f4,f5⟩:=hf it (by simp)
  exact wpAny_pyNext_ascii_end (I.ok.hd hc) st (by simp [hg]) λh' eb=>(rfl,I.turned (t':=s.toks) (λb o hb e=>eb b o hb e) f0 f1 f3 f4 f5)
 self:=λ_ _ _ _ _ st h=>wpAny_pyIter_striter_ascii st h
theorem iQ {K:Frag} (x:Str) (t:Tok) (it:Addr):aY P w K tg (Its x) [it] it (λi h=>h.IsStrIter it "str_iterator" x t i)  where
 mem:=by simp
 obj:=λi h st b hb=>by
  have e:b=it:=by simpa using hb
  subst e
  obtain ⟨o,e,c,d⟩:=st
  exact (o,e,λv z=>by rw [d] at z;cases z)
 keep:=λi h h' st k=>by
  obtain ⟨o,e,r⟩:=st
  exact (o,k it (by simp) o e,r)
 item:=by
  intro X hP hw hK hc i pins s σ H E I hf st hg
  subst hP hw hK
  have hg:i<x.cps.size:=hg
  obtain ⟨f0,f1,f2,f3,f4,f5⟩:=hf it (by simp)
  refine wpAny_pyNext_wide_item st (c:=x.cps[i]) (by simp [hg]) λh' st' sb=>?_
  have I1:Inv X pins σ H { s with heap:=h',toks:=s.toks+1 }:=I.turned (t':=s.toks+1) (λb o hb e=>(sb.2 b hb).trans e) f0 f1 f3 f4 f5
  obtain ⟨o,e,c,d⟩:=id st'
  exact (_,rfl,bR (s:={ s with heap:=h',toks:=s.toks+1 }) e c d (by decide) (.str ⟨#[x.cps[i]]⟩,H,I1,(_,rfl),(rfl,_,by simp [hg],rfl),st',λb hb=>(hf b hb).1))
 done:=by
  intro X hP hw hK hc i pins s σ H E I hf st hg
  subst hP hw hK
  have hg:x.cps.size≤i:=hg
  obtain ⟨f0,f1,f2,f3,f4,f5⟩:=hf it (by simp)
  exact wpAny_pyNext_wide_end (I.ok.hd hc) st (by simp [hg]) λh' eb=>(rfl,I.turned (t':=s.toks) (λb o hb e=>eb b o hb e) f0 f1 f3 f4 f5)
 self:=λ_ _ _ _ _ st h=>wpAny_pyIter_striter_wide st h
def oR (tl:TE):TI:=λσ H R=>tl σ H λv H1=>∃x,v=.str x/\R (Its x) H1
theorem d_A (hl:PE X l tl):PI X tg l (oR tl):=by
 intro pins s σ H R I h
 refine thn (hl pins s σ H _ I h) λv s1 hZ0=>?_
 obtain ⟨y,H1,I1,r1,q1⟩:=hZ0
 obtain ⟨x,rfl,q⟩:=q1
 obtain ⟨t,rfl⟩:=r1
 cases ha:x.cps.all (· < 128)
 .refine wpAny_pyIter_wide ha ?_
  refine (s1.heap.objs.size,[s1.heap.objs.size],_,_,H1,rfl,I1.kept (t':=s1.toks) λb o e=>qa9 _ e,iQ x t _,(_,get?_push_size _ rfl,rfl,rfl),λb hb=>?_,q)
  have e:b=s1.heap.objs.size:=by simpa using hb
  subst e
  exact I1.fpOk (le_refl _) (I1.hok.fresh (le_refl _))
 .refine wpAny_pyIter_ascii ha ?_
  refine (s1.heap.objs.size,[s1.heap.objs.size],_,_,H1,rfl,I1.kept (t':=s1.toks) λb o e=>qa9 _ e,iR x t _,(_,get?_push_size _ rfl,rfl,rfl),λb hb=>?_,q)
  have e:b=s1.heap.objs.size:=by simpa using hb
  subst e
  exact I1.fpOk (le_refl _) (I1.hok.fresh (le_refl _))
theorem d_W {g:TG} {tb:TS} {D:aK} (Pv:Nat->St->Hp->Prop) (h0:Pv 0 σ H)
  (hs:∀i c σ H,x.cps[i]?=some c->Pv i σ H->g (.str ⟨#[c]⟩) σ H λσ2 H2=>tb { D with nx:=Pv (i+1),ct:=Pv (i+1),bk:=D.nx } σ2 H2) (hd:∀ σ H,Pv x.length σ H->D.nx σ H):
  ∃W:Nat->Nat->St->Hp->Prop,(∃m,W 0 m σ H)/\∀i m σ H,W i m σ H->
   ((Its x).stop i H/\D.nx σ H)\/((Its x).go i H/\∃N:St->Hp->Prop,(∀ σ' H',N σ' H'->∃m',m'<m/\W (i+1) m' σ' H')/\∀y H',(Its x).yld i H y H'->g y σ H' λσ2 H2=>tb { D with nx:=N,ct:=N,bk:=D.nx } σ2 H2):=by
 refine (λi m σ H=>m=x.length - i/\i≤x.length/\Pv i σ H,(x.length,by simp,zero_le _,h0),?_)
 rintro i m σ H ⟨rfl,hi,p⟩
 by_cases hlt:i<x.length
 .refine .inr (hlt,Pv (i+1),λσ' H' p'=>(x.length - (i+1),by omega,rfl,hlt,p'),λy H' q=>?_)
  obtain ⟨e,c,hc,e2⟩:=q
  subst e e2
  exact hs i c σ _ hc p
 .have e:i=x.length:=by lia
  subst e
  exact .inl (le_refl _,hd σ H p)
section
variable {X:Cx}
def rSlS:V->Option Int->Option Int->Hp->VK->Prop:=λx lo hi H Q=>∃z,x=.str z/\z.length≤sizeLine/\Q (.str (Txt.slice z lo hi)) H
theorem aN:SlR X rSlS:=by
 intro pins s σ H x v vl vu lo hi sl Q I rx hs pl pu h
 obtain ⟨z,rfl,hz,q⟩:=h
 obtain ⟨t,rfl⟩:=rx
 refine ("str",_,PySem.F.slot_str_getitem.lookup,typeIs_str _ _ _,?_)
 have fin:∀t' k,EP X pins σ Q (.str (Txt.slice z lo hi) t') { s with toks:=k }:=λt' k=>(.str _,H,I.tok k,(t',rfl),q)
 obtain ⟨o,ho,hc,hd⟩:=hs
 cases pl with
 | none=>
  cases pu with
  | none=>exact wpAny_getItem_str_slice (l:=none) (u:=none) (st:=none) (o,ho,hc,hd) rfl (post_val_or_str (le_trans (Txt.slice_le z _ _) hz,λt' k=>fin t' k))
  | int j uj=>exact wpAny_getItem_str_slice (l:=none) (u:=some (j,uj,)) (st:=none) (o,ho,hc,hd) rfl (post_val_or_str (le_trans (Txt.slice_le z _ _) hz,λt' k=>fin t' k))
 | int i ui=>
  cases pu with
  | none=>exact wpAny_getItem_str_slice (l:=some (i,ui,)) (u:=none) (st:=none) (o,ho,hc,hd) rfl (post_val_or_str (le_trans (Txt.slice_le z _ _) hz,λt' k=>fin t' k))
  | int j uj=>exact wpAny_getItem_str_slice (l:=some (i,ui,)) (u:=some (j,uj,)) (st:=none) (o,ho,hc,hd) rfl (post_val_or_str (le_trans (Txt.slice_le z _ _) hz,λt' k=>fin t' k))
theorem mO:MtR X "str.find" (λx xs H Q=>∃z y,x=.str z/\xs=[.str y]/\Q (.int (Txt.find z y)) H):=by
 intro pins s σ H x xs v us Q I rx rs h
 obtain ⟨z,y,rfl,rfl,q⟩:=h
 obtain ⟨t,rfl⟩:=rx
 obtain ⟨u,rfl,t',rfl⟩:=d_C rs
 exact SC.find (.int _,H,I.tok _,(_,rfl),q)
theorem h_r:MtR X "str.count" (λx xs H Q=>∃z y,x=.str z/\xs=[.str y]/\Q (.int (Txt.count z y)) H):=by
 intro pins s σ H x xs v us Q I rx rs h
 obtain ⟨z,y,rfl,rfl,q⟩:=h
 obtain ⟨t,rfl⟩:=rx
 obtain ⟨u,rfl,t',rfl⟩:=d_C rs
 exact SC.count (.int _,H,I.tok _,(_,rfl),q)
def rIndex:V->List V->Hp->VK->Prop:=λx xs H Q=>∃z y,x=.str z/\xs=[.str y]/\Txt.contains z y=true/\Q (.int (Txt.find z y)) H
theorem kN:MtR X "str.index" rIndex:=by
 intro pins s σ H x xs v us Q I rx rs h
 obtain ⟨z,y,rfl,rfl,hc,q⟩:=h
 obtain ⟨t,rfl⟩:=rx
 obtain ⟨u,rfl,t',rfl⟩:=d_C rs
 unfold Txt.contains at hc
 unfold Txt.find at q
 cases ho:Builtin.Str.occurrences z y 0 z.length 1 with
 | nil=>rw [ho] at hc;exact absurd hc (by decide)
 | cons i rest=>
  rw [ho] at q
  exact SC.index ho (.int _,H,I.tok _,(_,rfl),q)
theorem g_p:∀{ys:List Str} {us:List Value},ab (ys.map V.str) us->StrsAre us ys
 | [],_,r=>by cases r;exact .nil
 | y::ys,_,r=>by
  cases r with
  | cons a b=>
   obtain ⟨t,rfl⟩:=a
   exact .cons y t (g_p b)
def nt (K:Frag):V->List V->Hp->VK->Prop:=λx xs H Q=>∃z p ys,x=.str z/\xs=[.ref p]/\SqL K H p (ys.map V.str)/\(ys.map (·.length)).sum+ys.length * z.length≤16777216/\Q (.str (Txt.join z ys)) H
theorem cS:MtR X "str.join" (nt X.K):=by
 intro pins s σ H x xs v us Q I rx rs h
 obtain ⟨z,p,ys,rfl,rfl,hp,hz,q⟩:=h
 obtain ⟨t,rfl⟩:=rx
 obtain ⟨u,rfl,e⟩:=d_C rs
 cases e
 obtain ⟨its,rv,pl,_⟩:=I.list hp
 exact join_list pl.isList (by simpa using g_p rv) hz λt' k=>(.str _,H,I.tok k,(t',rfl),q)
theorem d_t:OpR X (binaryOp .Mult) (λx y H Q=>∃z n,x=.str z/\y=.int n/\MulOk z n/\Q (.str (Txt.mul z n)) H):=by
 intro pins s σ H x y v u Q I rx ry h
 obtain ⟨z,n,rfl,rfl,hm,q⟩:=h
 obtain ⟨t,rfl⟩:=rx
 obtain ⟨t',rfl⟩:=ry
 exact SB.mul hm λt' k=>(.str _,H,I.tok k,(t',rfl),q)
theorem c_X:g_e X (.builtin "isinstance") (λxs H Q=>∃x t,xs=[x,.ty T]/\ae X.K H x t/\kitOne X.K t (.type T)=some b/\Q (.bl b) H):=by
 intro pins s σ H xs us Q I r h
 obtain ⟨x,t,rfl,ty,e,q⟩:=h
 obtain ⟨u,w',rfl,rx,ry⟩:=g_O r
 cases ry
 exact jt I rx ty e λtk=>(.bl b,H,I.tok tk,rfl,q)
end
def cxComp (X:Cx) (x:Str) (sc:Scope) (cl:List (Str×Addr)) (C:Addr) (fp:List Addr) (s:Shared) (H:Hp):Cx where
 prog:=X.prog
 w:=X.w
 K:=X.K
 mg:=X.mg
 base:=X.base
 A:=X.A
 N:=x::X.N
 s₀:=s
 H₀:=H
 env:=compEnvC sc cl C X.env
 outer:=X.stack
 stack:=X.stack
 ex:=fp
 fn:=λ_=>false
 calm:=X.calm
 pn:=[]
 xe:=λ_ _=>False
def PTs (X:Cx) (ifs:List Expr) (t:TT):Prop:=
 ∀(pins:List (Addr×Obj)) (s:Shared) (σ:St) (H:Hp) (Q:Bool->Hp->Prop),Inv X pins σ H s->t σ H Q->
  wpAny (model X.prog X.w) X.A (forIn ifs true λc r=>if r=true then do let ok <- isTrue c X.env (eval c X.env);pure (ForInStep.yield ok) else pure (ForInStep.yield r)) (TP X pins σ Q) X.xe s
def tAlways:TT:=λ_ H Q=>Q true H
theorem tAlways_if {A B:Hp->Prop} (h:A H):tAlways σ H (λb H4=>if b=true then A H4 else B H4):=aj (A:=A H) (B:=B H) h
theorem a_q:PTs X [] tAlways:=λ_ _ _ H _ I h=>wpAny_tests_nil (H,I,h)
theorem h7 (h:PT X c t):PTs X [c] t:=λpins s σ H Q I hw=>wpAny_tests_one (h pins s σ H Q I hw)
def d_E (wi:TI) (tt:TT) (te:TE):TE:=λσ H Q=>wi σ H λJ H1=>∀D,H1 D=none->∃W:Nat->Nat->List V->Hp->Prop,
 (∃m,W 0 m [] (upd H1 D (.lst [])))/\∀i m ys H2,W i m ys H2->H2 D=some (.lst ys)/\((J.stop i H2/\Q (.ref D) H2)\/(J.go i H2/\ys.length<sizeLine/\∀x H3,J.yld i H2 x H3->
  tt (some x::σ) H3 λb H4=>if b=true then te (some x::σ) H4 λy H5=>H5 D=some (.lst ys)/\∃m',m'<m/\W (i+1) m' (ys++[y]) (upd H5 D (.lst (ys++[y])))
   else ∃m',m'<m/\W (i+1) m' ys H4))
theorem neA {a b:Nat} (h:a≠b):(show Addr from a)≠(show Addr from b):=h
theorem g_L (hf:∀y∈sc.names,y.2=.free->∃c,env.cells.lookup y.1=some c):
  ∃cl,closureFor sc env=pure cl/\(∀y c,cl.lookup y=some c->env.cells.lookup y=some c)/\∀y∈sc.names,y.2=.free->∃c,cl.lookup y.1=some c:=by
 have go:∀(l:List (Str×NameKind)) (acc:List (Str×Addr)),(∀y∈l,y.2=.free->∃c,env.cells.lookup y.1=some c)->(∀y c,acc.lookup y=some c->env.cells.lookup y=some c)->
   ∃cl,(forIn l acc λ(p:Str×NameKind) r=>if (p.2==.free)=true then do let a <- cellOf env p.1;pure (ForInStep.yield ((p.1,a,)::r)) else pure (ForInStep.yield r):Sem (List (Str×Addr)))=pure cl/\
    (∀y c,cl.lookup y=some c->env.cells.lookup y=some c)/\(∀y c,acc.lookup y=some c->∃c',cl.lookup y=some c')/\∀y∈l,y.2=.free->∃c,cl.lookup y.1=some c:=by
  intro l
  induction l with
  | nil=>intro acc _ ha;exact (acc,rfl,ha,λy c e=>(c,e),λy hy=>by simp at hy)
  | cons p r ih=>
   intro acc hl ha
   obtain ⟨n,k⟩:=p
   by_cases hk:k=.free
   .subst hk
    obtain ⟨c,hc⟩:=hl (n,.free,) mem_cons_self rfl
    have e1:cellOf env n=pure c:=by unfold cellOf;rw [hc]
    have ha':∀y c',((n,c,)::acc).lookup y=some c'->env.cells.lookup y=some c':=λy c' e=>by
     by_cases hy:(y==n)=true
     .rw [lookup_cons,hy] at e
      cases e
      rw [eq_of_beq hy]
      exact hc
     .rw [lookup_cons,eq_false_iff.mpr hy] at e
      exact ha y c' e
    obtain ⟨cl,h1,h2,h3,h4⟩:=ih ((n,c,)::acc) (λy hy=>hl y (mem_cons_of_mem _ hy)) ha'
    have kept:∀y c',acc.lookup y=some c'->∃c'',((n,c,)::acc).lookup y=some c'':=λy c' e=>by
     by_cases hy:(y==n)=true
     .exact (c,by rw [lookup_cons,hy])
     .exact (c',by rw [lookup_cons,eq_false_iff.mpr hy];exact e)
    refine (cl,?_,h2,λy c' e=>?_,λy hy hyf=>?_)
    .rw [forIn_cons]
     simp only [beq_self_eq_true,if_true,e1,pure_bind]
     exact h1
    .obtain ⟨c'',e'⟩:=kept y c' e
     exact h3 y c'' e'
    .rcases mem_cons.mp hy with rfl|hy
     .exact h3 n c (by rw [lookup_cons,beq_self_eq_true])
     .exact h4 y hy hyf
   .have hb:(k==NameKind.free)=false:=by simpa using hk
    obtain ⟨cl,h1,h2,h3,h4⟩:=ih acc (λy hy=>hl y (mem_cons_of_mem _ hy)) ha
    refine (cl,?_,h2,h3,λy hy hyf=>?_)
    .rw [forIn_cons]
     simp only [hb,Bool.false_eq_true,if_false,pure_bind]
     exact h1
    .rcases mem_cons.mp hy with rfl|hy
     .exact absurd hyf hk
     .exact h4 y hy hyf
 obtain ⟨cl,h1,h2,_,h4⟩:=go sc.names [] hf (λy c e=>by simp at e)
 refine (cl,?_,h2,h4)
 show ((forIn sc.names [] λ(p:Str×NameKind) r=>if (p.2==.free)=true then do let a <- cellOf env p.1;pure (ForInStep.yield ((p.1,a,)::r)) else pure (ForInStep.yield r):Sem (List (Str×Addr))) >>= λs=>pure s)=pure cl
 rw [bind_pure,h1]
theorem relabel_lookup (h:(relabel sc env).names.lookup y=some k):sc.names.lookup y=some k\/(k=.cell/\sc.names.lookup y=some .free/\env.kindOf y=some .cell):=by
 have go:∀(l:List (Str×NameKind)),(l.map λ(n,k)=>if (k==.free&&env.scope.kind==.function&&env.kindOf n==some .cell) then (n,NameKind.cell,) else (n,k,)).lookup y=some k->
   l.lookup y=some k\/(k=.cell/\l.lookup y=some .free/\env.kindOf y=some .cell):=by
  intro l
  induction l with
  | nil=>intro h;simp at h
  | cons p r ih=>
   obtain ⟨n,kk⟩:=p
   intro h
   simp only [map_cons] at h
   by_cases hc:(kk==NameKind.free&&env.scope.kind==.function&&env.kindOf n==some .cell)=true
   .rw [if_pos hc] at h
    rw [lookup_cons] at h ⊢
    cases hy:y==n with
    | true=>
     rw [hy] at h
     have e:k=.cell:=(Option.some.inj h).symm
     have e1:kk=.free:=by
      have:=(Bool.and_eq_true_iff.mp (Bool.and_eq_true_iff.mp hc).1).1
      simpa using this
     have e2:env.kindOf n=some .cell:=by
      have:=(Bool.and_eq_true_iff.mp hc).2
      simpa using this
     rw [eq_of_beq hy]
     exact .inr (e,by rw [e1],e2)
    | false=>
     rw [hy] at h
     exact ih h
   .rw [if_neg hc] at h
    rw [lookup_cons] at h ⊢
    cases hy:y==n with
    | true=>rw [hy] at h;exact .inl h
    | false=>rw [hy] at h;exact ih h
 exact go sc.names h
section
variable {X:Cx} {elt iter:Expr} {x:Str} {px pos:Pos} {ifs:List Expr} {sc:Scope} {wi:TI} {tt:TT} {te:TE}
end
theorem SqL.new {K:Frag} (h:SqL K H a xs) (n:H D=none):SqL K (upd H D o) a xs:=by
 rcases h with (h|⟨u,h⟩)|h
 .exact .inl (.inl (by rw [upd_ne (ne_of_none h n)];exact h))
 .exact .inl (.inr (u,by rw [upd_ne (ne_of_none h n)];exact h))
 .exact .inr h
theorem jD {K:Frag} {te:TE} {σ:St} {Q:VK} (f:V->V) (hl:SqL K H a xs) (hz:xs.length≤sizeLine)
  (he:∀(i:Nat) (x:V) (H':Hp) (R:VK),xs[i]?=some x->Same H H'->R (f x) H'->te (some x::σ) H' R) (hq:∀D,H D=none->Q (.ref D) (upd H D (.lst (xs.map f)))):
  ∀D,H D=none->∃W:Nat->Nat->List V->Hp->Prop,
 (∃m,W 0 m [] (upd H D (.lst [])))/\∀i m ys H2,W i m ys H2->H2 D=some (.lst ys)/\(((Itl K a).stop i H2/\Q (.ref D) H2)\/((Itl K a).go i H2/\ys.length<sizeLine/\∀x H3,(Itl K a).yld i H2 x H3->
  tAlways (some x::σ) H3 λb H4=>if b=true then te (some x::σ) H4 λy H5=>H5 D=some (.lst ys)/\∃m',m'<m/\W (i+1) m' (ys++[y]) (upd H5 D (.lst (ys++[y])))
   else ∃m',m'<m/\W (i+1) m' ys H4)):=by
 intro D hD
 refine (λi m ys H2=>m=xs.length - i/\i≤xs.length/\ys=(xs.take i).map f/\H2=upd H D (.lst ys),(xs.length,by simp,zero_le _,by simp,rfl),?_)
 rintro i m ys H2 ⟨rfl,hi,rfl,rfl⟩
 have q:SqL K (upd H D (.lst ((xs.take i).map f))) a xs:=hl.new hD
 refine (upd_same,?_)
 by_cases hlt:i<xs.length
 .refine .inr ((xs,xs[i],q,by simp [hlt]),by rw [qa4,length_take];lia,λx H3 y=>?_)
  obtain ⟨e,y⟩:=y
  subst e
  have hx:=y xs q
  refine tAlways_if (he i x _ _ hx (λb o e=>by rw [upd_ne (ne_of_none e hD)];exact e) (upd_same,xs.length - (i+1),by lia,rfl,hlt,?_,?_))
  .rw [take_add_one,hx,map_append]
   rfl
  .rw [d_D]
 .have e:i=xs.length:=by lia
  subst e
  refine .inl ((xs,q,le_refl _),?_)
  rw [take_length]
  exact hq D hD
theorem gE {tt:TT} {σ:St} {Q:VK} (p:Nat->Bool) (hz:x.length≤sizeLine)
  (ht:∀(i:Nat) (c:Nat) (H':Hp) (R:Bool->Hp->Prop),x.cps[i]?=some c->R (p c) H'->tt (some (.str ⟨#[c]⟩)::σ) H' R) (hq:∀D,H D=none->Q (.ref D) (upd H D (.lst ((x.cps.toList.filter p).map λc=>V.str ⟨#[c]⟩)))):
  ∀D,H D=none->∃W:Nat->Nat->List V->Hp->Prop,
 (∃m,W 0 m [] (upd H D (.lst [])))/\∀i m ys H2,W i m ys H2->H2 D=some (.lst ys)/\(((Its x).stop i H2/\Q (.ref D) H2)\/((Its x).go i H2/\ys.length<sizeLine/\∀y H3,(Its x).yld i H2 y H3->
  tt (some y::σ) H3 λb H4=>if b=true then be 0 (some y::σ) H4 λz H5=>H5 D=some (.lst ys)/\∃m',m'<m/\W (i+1) m' (ys++[z]) (upd H5 D (.lst (ys++[z])))
   else ∃m',m'<m/\W (i+1) m' ys H4)):=by
 intro D hD
 refine (λi m ys H2=>m=x.length - i/\i≤x.length/\ys=((x.cps.toList.take i).filter p).map (λc=>V.str ⟨#[c]⟩)/\H2=upd H D (.lst ys),(x.length,by simp,zero_le _,by simp,rfl),?_)
 rintro i m ys H2 ⟨rfl,hi,rfl,rfl⟩
 refine (upd_same,?_)
 by_cases hlt:i<x.length
 .refine .inr (hlt,?_,λy H3 q=>?_)
  .rw [qa4]
   have:=List.length_filter_le p (x.cps.toList.take i)
   rw [length_take] at this
   lia
  .obtain ⟨e,c,hx,e2⟩:=q
   subst e e2
   have hx':x.cps.toList[i]?=some c:=by simpa using hx
   refine ht i c _ _ hx ?_
   cases hp:p c with
   | true=>
    refine aj (_,rfl,upd_same,x.length - (i+1),by omega,rfl,hlt,?_,?_)
    .rw [take_add_one,hx',List.filter_append,map_append]
     simp [hp]
    .rw [d_D]
   | false=>
    refine af (x.length - (i+1),by omega,rfl,hlt,?_,rfl)
    rw [take_add_one,hx',List.filter_append,map_append]
    simp [hp]
 .have e:i=x.length:=by lia
  subst e
  refine .inl (le_refl _,?_)
  rw [show x.length=x.cps.toList.length by simp [length],take_length]
  exact hq D hD
theorem gG {K:Frag} {σ:St} (f:V->V) (hv:σ[j]?=some (some (.ref a))) (hl:SqL K H a xs) (hz:xs.length≤sizeLine)
  (he:∀(i:Nat) (x:V) (H':Hp) (R:VK),xs[i]?=some x->Same H H'->R (f x) H'->te (some x::σ) H' R) (hq:∀D,H D=none->Q (.ref D) (upd H D (.lst (xs.map f)))):d_E (nB K (be j)) tAlways te σ H Q:=
 (_,hv,a,rfl,(_,hl),jD f hl hz he hq)
theorem eZ {σ:St} (p:Nat->Bool) (hv:σ[j]?=some (some (.str x))) (hz:x.length≤sizeLine)
  (ht:∀(i:Nat) (c:Nat) (H':Hp) (R:Bool->Hp->Prop),x.cps[i]?=some c->R (p c) H'->tt (some (.str ⟨#[c]⟩)::σ) H' R) (hq:∀D,H D=none->Q (.ref D) (upd H D (.lst ((x.cps.toList.filter p).map λc=>V.str ⟨#[c]⟩)))):
  d_E (oR (be j)) tt (be 0) σ H Q:=(_,hv,x,rfl,gE p hz ht hq)
def Df (P:Program) (w:World) (K:Frag) (mg:Str->Option Value) (base:Heap) (x:Str) (k:Nat) (ps:List Str) (sp:Sp):Prop:=
 ∃(f:Addr) (fd:FuncData),mg x=some (.ref f)/\keepIn K (.ref f)=true/\c_n K fd ps []/\aa P w K mg base CX0 k f fd ps sp
theorem a_l {p pos:Pos} (D:Df X.prog X.w X.K X.mg X.base x k ps sp) (hr:ak k X.A) (ha:PA X (e::es) t)
  (hg:Gl X x:=by rfl) (hdb:(x==("__debug__":Str))=false:=by decide) (he:starEach (e::es) X.env=(false,eval e X.env,)::starEach es X.env:=by rfl) (hpl:(backTo pos (starEach es X.env)).any (·.1)=false:=by rfl):
  PE X (.Call (.Name x p) (e::es) [] pos) (b_J sp [] E0 t):=by
 obtain ⟨f,fd,h1,h2,h3,F⟩:=D
 exact mE F hr hg h1 h2 h3 .nil d9 ha hdb he hpl
theorem mS {c A B:Prop} [Decidable c] (hc:c) (h:A):if decide c=true then A else B:=by
 rw [decide_eq_true hc]
 exact aj h
theorem k7 {c A B:Prop} [Decidable c] (hc:¬ c) (h:B):if decide c=true then A else B:=by
 rw [decide_eq_false hc]
 exact af h
theorem aB {c A B:Prop} [Decidable c] (h1:c->A) (h2:¬ c->B):if decide c=true then A else B:=by
 by_cases h:c
 .exact mS h (h1 h)
 .exact k7 h (h2 h)
theorem Same.upd (n:H D=none):Same H (upd H D o):=λb u e=>by rw [upd_ne (ne_of_none e n)];exact e
theorem a_d (h:n≤16777216):n≤sizeLine:=by rw [sizeLine_eq];exact h
theorem gK {xs:List α} {i:Int} (h0:0≤i) (h1:i<xs.length):∃v,atI xs i=some v/\xs[i.toNat]?=some v:=by
 obtain ⟨j,rfl⟩:=Int.eq_ofNat_of_zero_le h0
 have hj:j<xs.length:=by lia
 exact (xs[j],a_R (by simp [hj]),by simp [hj])
def qh (t u:TS):TS:=λD σ H=>∃M:St->Hp->Prop,t { D with nx:=M } σ H/\∀ σ' H',M σ' H'->u D σ' H'
theorem d_S {st:Stmt} (h1:PS X st t) (h2:PSs X rest u):PSs X (st::rest) (qh t u):=by
 intro pins s σ H D I h
 obtain ⟨M,h,hM⟩:=h
 refine wpAny_execs_cons (thn (h1 pins s σ H { D with nx:=M } I h) λf s1 q=>?_)
 cases f with
 | next=>
  obtain ⟨σ',H',I',q⟩:=q
  exact h2 pins s1 σ' H' D I' (hM σ' H' q)
 | ret v=>exact q
 | brk=>exact q
 | cont=>exact q
def lS (ns:List Int) (lo hi:Option Int):List Int:=(ns.drop (HT.sIx ns.length 0 lo)).take (HT.sIx ns.length ns.length hi - HT.sIx ns.length 0 lo)
theorem jA (ns:List Int) (lo hi:Option Int):cutV (ns.map V.int) lo hi=(lS ns lo hi).map V.int:=by
 unfold cutV lS
 rw [qa4,List.map_take,List.map_drop]
theorem f_Y (ns:List Int) (lo hi:Option Int):(lS ns lo hi).length≤ns.length:=by
 unfold lS
 rw [length_take,length_drop]
 lia
section
variable {X:Cx}
theorem op_m:OpR X (binaryOp .Mod) (λx y H Q=>∃i j,x=.int i/\y=.int j/\0<j/\Q (.int (i % j)) H):=f_w
theorem mF:OpR X (binaryOp .FloorDiv) (λx y H Q=>∃i j,x=.int i/\y=.int j/\(0<j/\j<1073741824)/\Q (.int (i / j)) H):=f_x
theorem op_a:OpR X (binaryOp .Add) (λx y H Q=>∃i j,x=.int i/\y=.int j/\Q (.int (i+j)) H):=fW
theorem op_s:OpR X (binaryOp .Sub) (λx y H Q=>∃i j,x=.int i/\y=.int j/\Q (.int (i - j)) H):=oi
theorem pL:OpR X (binaryOp .Mult) (λx y H Q=>∃i j,x=.int i/\y=.int j/\((-(2 ^ 64)<i/\i<2 ^ 64)\/(-(2 ^ 64)<j/\j<2 ^ 64))/\Q (.int (i * j)) H):=kA
end
end L2
namespace RA
open PySem PySem.StrLaws Builtin Builtin.Str
def tx (l:LN):Str:=⟨l.toArray⟩
theorem a_P (l:LN):(tx l).cps.toList=l:=by simp [tx]
theorem a_k (l:LN):(tx l).length=l.length:=by simp [tx,length]
theorem c_o (a b:LN):tx a++tx b=tx (a++b):=by
 apply Str.ext'
 show a.toArray++b.toArray=(a++b).toArray
 simp
theorem tx_inj (h:tx a=tx b):a=b:=by
 have:=congrArg (λs:Str=>s.cps.toList) h
 simpa [tx] using this
theorem tx_get (l:LN) (i:Nat):(tx l).cps[i]?=l[i]?:=by simp [tx]
theorem at_one (l:LN) (c i:Nat):At (tx l) ⟨#[c]⟩ (tx l).length i↔l[i]?=some c:=by
 have h:=subAt_one (tx l) c i
 rw [a_P] at h
 exact h
theorem d_o (l:LN) (c:Nat):Txt.contains (tx l) ⟨#[c]⟩=decide (c∈l):=by
 have h:=found_one (tx l) c
 rw [a_P] at h
 exact h
theorem h_A:∀{l:LN} {c i:Nat},l[i]?=some c->l.idxOf c≤i
 | [],_,_,h=>by simp at h
 | a::l,c,0,h=>by
  have e:a=c:=by simpa using h
  subst e
  simp
 | a::l,c,i+1,h=>by
  rw [idxOf_cons]
  cases e:a==c with
  | true=>simp
  | false=>
   have:=h_A (l:=l) (c:=c) (i:=i) (by simpa using h)
   simp
   omega
theorem eS (h:c∈l):Txt.find (tx l) ⟨#[c]⟩=(l.idxOf c:Nat):=by
 unfold Txt.find
 rcases occ_head (tx l) ⟨#[c]⟩ 1 (le_refl _) with ⟨_,hn⟩|⟨i,r,e,ha,hn⟩
 .obtain ⟨i,hi⟩:=mem_iff_getElem?.mp h
  exact absurd ((at_one l c i).mpr hi) (hn i)
 .rw [e]
  have hi:=(at_one l c i).mp ha
  have hlt:l.idxOf c<l.length:=idxOf_lt_length_of_mem h
  have e1:l[l.idxOf c]?=some c:=by
   rw [qa2 hlt,getElem_idxOf hlt]
  have h1:¬ l.idxOf c<i:=λz=>hn _ z ((at_one l c _).mpr e1)
  have h2:l.idxOf c≤i:=by
   exact h_A hi
  have:i=l.idxOf c:=by lia
  rw [this]
theorem dM (x:Str) (h:0≤j):Txt.slice x none (some j)=tx (x.cps.toList.take j.toNat):=by
 have go:∀j:Int,0≤j->j≤x.cps.toList.length->Txt.slice x none (some j)=tx (x.cps.toList.take j.toNat):=λj h0 h1=>by
  have e:Txt.slice x none (some j)=sliceText x none (some j):=rfl
  rw [e,sliceText_to (h0,h1)]
  simp [tx]
 by_cases hj:j≤x.cps.toList.length
 .exact go j h hj
 .have e:Txt.slice x none (some j)=Txt.slice x none (some (x.length:Int)):=by
   have hl:x.length=x.cps.toList.length:=by simp [length]
   have e1:strSliceIndices none (some j) 1 x.length=strSliceIndices none (some (x.length:Int)) 1 x.length:=by
    have a:¬ (j<0):=by lia
    have b:¬ ((x.length:Int)<0):=by lia
    have m:min j (x.length:Int)=(x.length:Int):=by lia
    simp [strSliceIndices,a,b,m]
   unfold Txt.slice
   rw [e1]
  rw [e,go _ (by lia) (by simp [length])]
  have hl:x.length=x.cps.toList.length:=by simp [length]
  rw [take_of_length_le (i:=j.toNat) (by lia),take_of_length_le (by lia)]
theorem e_u (x:Str) {i:Int} (h:0≤i) (h1:i≤x.cps.toList.length):Txt.slice x (some i) none=tx (x.cps.toList.drop i.toNat):=by
 have e:Txt.slice x (some i) none=sliceText x (some i) none:=rfl
 rw [e,sliceText_from (h,h1)]
 have e2:((x.cps.toList.length:Int) - i).toNat=(x.cps.toList.drop i.toNat).length:=by rw [length_drop];lia
 rw [e2,take_length]
 rfl
theorem gy:∀cs:LN,Txt.join Str.empty (cs.map λc=>(⟨#[c]⟩:Str))=tx cs:=by
 intro cs
 unfold Txt.join
 rw [glued_eq_join]
 have go:∀(cs:LN),Str.join Str.empty (cs.map λc=>(⟨#[c]⟩:Str))=tx cs:=by
  intro cs
  induction cs with
  | nil=>rfl
  | cons a r ih=>
   cases r with
   | nil=>rfl
   | cons b r=>
    show (⟨#[a]⟩:Str)++Str.empty++Str.join Str.empty ((b::r).map λc=>(⟨#[c]⟩:Str))=tx (a::b::r)
    rw [ih,Str.append_empty]
    exact c_o [a] (b::r)
 exact go cs
theorem eY (l:LN) (c:Nat):∀(cuts:LN) (a f:Nat),ChainG (tx l) ⟨#[c]⟩ (tx l).length a cuts f->(∀k,f≤k->¬ At (tx l) ⟨#[c]⟩ (tx l).length k)->(l.drop a).count c=cuts.length:=by
 intro cuts
 induction cuts with
 | nil=>
  intro a f h hn
  have e:f=a:=h
  subst e
  rw [List.length_nil,List.count_eq_zero]
  intro hm
  obtain ⟨i,hi⟩:=mem_iff_getElem?.mp hm
  rw [List.getElem?_drop] at hi
  exact hn _ (le_add_right _ _) ((at_one l c _).mpr hi)
 | cons d r ih=>
  intro a f h hn
  obtain ⟨h1,h2,h3,h4⟩:=h
  have hd:=(at_one l c d).mp h2
  have q:=ih (d+1) f h4 hn
  obtain ⟨hlt,ed⟩:=qa1 hd
  have split:l.drop a=(l.drop a).take (d - a)++c::l.drop (d+1):=by
   conv=>lhs;rw [<- List.take_append_drop (d - a) (l.drop a)]
   rw [List.drop_drop,show a+(d - a)=d by lia,List.drop_eq_getElem_cons hlt,ed]
  rw [split,count_append,List.count_cons_self,q,length_cons]
  have z:((l.drop a).take (d - a)).count c=0:=by
   rw [List.count_eq_zero]
   intro hm
   obtain ⟨i,hi⟩:=mem_iff_getElem?.mp hm
   rw [List.getElem?_take] at hi
   split at hi
   .rename_i hid
    rw [List.getElem?_drop] at hi
    exact h3 (a+i) (le_add_right _ _) (by lia) ((at_one l c _).mpr hi)
   .cases hi
  lia
theorem count_one (l:LN) (c:Nat):Txt.count (tx l) ⟨#[c]⟩=(l.count c:Nat):=by
 unfold Txt.count
 obtain ⟨f,h1,h2⟩:=occ_tight (tx l) ⟨#[c]⟩ (by simp [length])
 have q:=eY l c _ 0 f h1 h2
 rw [List.drop_zero] at q
 rw [q]
structure Let (L:LN):Prop where
 lo:1≤L.length
 hi:L.length≤3
 nd:L.Nodup
 az:∀c∈L,97≤c/\c≤122
theorem f_R {L:LN} (nd:L.Nodup) (h:i<L.length):L.idxOf L[i]=i:=by
 have h1:=h_A (l:=L) (c:=L[i]) (i:=i) (by simp [h])
 have hlt:L.idxOf L[i]<L.length:=by exact lt_of_le_of_lt h1 h
 have e:=getElem_idxOf hlt
 by_cases hh:L.idxOf L[i]<i
 .exact absurd e (List.pairwise_iff_getElem.mp nd _ _ hlt h hh)
 .lia
theorem lO {f l:LN} (hi:i<l.length) (nd:(f++l).Nodup):((f++[l[i]])++(l.take i++l.drop (i+1))).Nodup/\∀c,c∈(f++[l[i]])++(l.take i++l.drop (i+1))->c∈f++l:=by
 have e:l=l.take i++l[i]::l.drop (i+1):=by
  conv=>lhs;rw [<- List.take_append_drop i l,List.drop_eq_getElem_cons hi]
 have p:(f++l).Perm ((f++[l[i]])++(l.take i++l.drop (i+1))):=by
  conv=>lhs;rw [e]
  rw [append_assoc]
  refine List.Perm.append_left f ?_
  show (l.take i++l[i]::l.drop (i+1)).Perm (l[i]::(l.take i++l.drop (i+1)))
  exact List.perm_middle
 exact (p.nodup_iff.mp nd,λc hc=>p.mem_iff.mpr hc)
end RA
namespace RA
open PySem L2
theorem oX:(Str.ofString "abcdefghijklmnopqrstuvwxyz")=tx (List.range' 97 26):=by decide +kernel
theorem h_C:(Str.ofString "")=tx []:=by decide +kernel
theorem bV:(Str.ofString "")=Str.empty:=by decide +kernel
def g_t (L:LN) (z:Int):Nat:=L.getD (z % (L.length:Int)).toNat 0
def ka (L:LN):V->V
 | .int z=>.str ⟨#[g_t L z]⟩
 | v=>v
theorem bz (L:LN) (z:Int):g_t L z=(L[(z % (L.length:Int)).toNat]?).getD 0:=by
 unfold g_t
 rw [qa3]
theorem j9 (h:Let L) {ns:List Int} (hc:c∈ns.map (g_t L)):c∈L:=by
 obtain ⟨z,_,rfl⟩:=mem_map.mp hc
 have hp:(0:Int)<(L.length:Int):=by have:=h.lo;omega
 have h0:=emod_nonneg z (show (L.length:Int)≠0 by lia)
 have h1:=Int.emod_lt_of_pos z hp
 have hlt:(z % (L.length:Int)).toNat<L.length:=by lia
 rw [bz,qa2 hlt]
 exact getElem_mem hlt
end RA
namespace RA
open PySem L2 Builtin Builtin.Str
theorem dG:∀cs:LN,((cs.map λc=>(⟨#[c]⟩:Str)).map (·.length)).sum=cs.length
 | []=>rfl
 | _::cs=>by
  rw [map_cons,map_cons,List.sum_cons,dG cs,length_cons]
  show 1+_=_
  lia
theorem jq (cs:LN) (h:cs.length≤16777216):((cs.map λc=>(⟨#[c]⟩:Str)).map (·.length)).sum+(cs.map λc=>(⟨#[c]⟩:Str)).length * (Str.ofString "").length≤16777216:=by
 rw [dG,show (Str.ofString "").length=0 by rw [bV];rfl]
 omega
theorem eQ (l:LN):∀(n:Nat) (acc:LN),((replicate n (tx l).cps).foldl (·++·) acc.toArray)=(acc++(replicate n l).flatten).toArray
 | 0,acc=>by simp
 | n+1,acc=>by
  rw [replicate_succ,List.foldl_cons]
  have e:acc.toArray++(tx l).cps=(acc++l).toArray:=by simp [tx]
  rw [e,eQ l n (acc++l),replicate_succ,append_assoc]
  rfl
theorem oz (l:LN) (h:0≤n):Txt.mul (tx l) n=tx (replicate n.toNat l).flatten:=by
 unfold Txt.mul
 by_cases h1:n<1
 .rw [if_pos h1,show n.toNat=0 by lia]
  rfl
 .rw [if_neg h1]
  by_cases h2:n=1
  .subst h2
   rw [if_pos (by simp)]
   simp
  .by_cases h3:l=[]
   .subst h3
    rw [if_pos (by simp [tx,length])]
    have z:∀k:Nat,(replicate k ([]:LN)).flatten=[]:=λk=>by induction k with
     | zero=>rfl
     | succ k ih=>rw [replicate_succ,flatten_cons,ih];rfl
    rw [z]
   .rw [if_neg (by simp [h2,length,tx,h3])]
    have:=eQ l n.toNat []
    rw [List.nil_append] at this
    show (⟨_⟩:Str)=⟨_⟩
    rw [<- this]
theorem eP (c:Nat):∀n:Nat,(replicate n [c]).flatten=replicate n c
 | 0=>rfl
 | n+1=>by rw [replicate_succ,flatten_cons,eP c n];rfl
theorem mul_one (c:Nat) (h:0≤n):Txt.mul ⟨#[c]⟩ n=tx (replicate n.toNat c):=by
 have e:=oz [c] h
 rw [eP] at e
 exact e
theorem pR (h:n≤1000000) (h0:0≤n) (hx:x.length * n.toNat≤16777216) (hl:x.length≤16777216):MulOk x n:=by
 unfold MulOk
 refine (?_,λh1 _=>?_,λh1 _=>?_)
 .rw [decide_eq_false (by lia),decide_eq_false (by lia)]
  rfl
 .have hp:(0:Int)<n:=by omega
  have h2:(x.length:Int) * n≤2 ^ 63 - 1:=by
   have e:(x.length:Int) * n=((x.length * n.toNat:Nat):Int):=by
    rw [Int.natCast_mul,Int.toNat_of_nonneg h0]
   rw [e]
   lia
  have h3:=(Int.le_ediv_iff_mul_le hp).mpr h2
  lia
 .unfold tooLong
  exact decide_eq_false (by rw [sizeLine_eq];lia)
theorem f_K (c:Nat) (h0:0≤n) (h:n≤1000000):MulOk ⟨#[c]⟩ n:=by
 have hl:(⟨#[c]⟩:Str).length=1:=rfl
 exact pR h h0 (by rw [hl];lia) (by rw [hl];lia)
end RA
namespace L2
open PySem PySem.Spec PyProof.Rows
section
variable {X:Cx}
theorem e_C:OpR X (binaryOp .Mod) (λx y H Q=>∃i j,x=.int i/\y=.int j/\0<j/\∀r,0≤r->r<j->Q (.int r) H):=by
 intro pins s σ H x y v u Q I rx ry h
 obtain ⟨i,j,e1,e2,hj,q⟩:=h
 exact f_w pins s σ H x y v u Q I rx ry (i,j,e1,e2,hj,q _ (emod_nonneg _ (by lia)) (Int.emod_lt_of_pos _ hj))
theorem kC:OpR X (binaryOp .FloorDiv) (λx y H Q=>∃i j,x=.int i/\y=.int j/\qd i j/\0≤i/\∀r,0≤r->Q (.int r) H):=by
 intro pins s σ H x y v u Q I rx ry h
 obtain ⟨i,j,e1,e2,hj,hi,q⟩:=h
 exact f_x pins s σ H x y v u Q I rx ry (i,j,e1,e2,hj,q _ (Int.ediv_nonneg hi (by have:=hj.1;lia)))
end
theorem a_g (h:H a=some o) (n:H b=none):upd H b u a=some o:=by
 rw [upd_ne (ne_of_none h n)]
 exact h
theorem upd_keep2 (h:H a=some o) (n:H b=some v) (d:o≠v):upd H b u a=some o:=by
 rw [upd_ne (ne_of h n d)]
 exact h
theorem gt (K:Frag):kitOne K (.type "int") (.type "bool")=some false:=by kernel_rfl
theorem gq (K:Frag):kitOne K (.type "int") (.type "int")=some true:=by with_unfolding_all rfl
theorem kit_bb (K:Frag):kitOne K (.type "bool") (.type "bool")=some true:=by with_unfolding_all rfl
theorem kit_ss (K:Frag):kitOne K (.type "str") (.type "str")=some true:=by with_unfolding_all rfl
end L2
namespace RA
open PySem L2
structure Mach (L:LN) (W:LL) (B:List Bool):Prop where
 lt:Let L
 n1:1≤W.length
 n60:W.length≤60
 bl:B.length=W.length
 row:∀ws∈W,ws.length=L.length/\∀x∈ws,x<W.length
def nxt (L:LN) (W:LL) (r c:Nat):Nat:=(W.getD r []).getD (L.idxOf c) 0
def run (L:LN) (W:LL) (r:Nat) (w:LN):Nat:=w.foldl (nxt L W) r
theorem Mach.at (h:Mach L W B) (hr:r<W.length) (hc:c∈L):
  ∃ws x,W[r]?=some ws/\ws[L.idxOf c]?=some x/\nxt L W r c=x/\x<W.length:=by
 have hw:W[r]?=some W[r]:=by simp [hr]
 obtain ⟨h1,h2⟩:=h.row W[r] (getElem_mem hr)
 have hi:L.idxOf c<W[r].length:=by rw [h1];exact idxOf_lt_length_of_mem hc
 have hx:W[r][L.idxOf c]?=some W[r][L.idxOf c]:=by simp [hi]
 refine (W[r],W[r][L.idxOf c],hw,hx,?_,h2 _ (getElem_mem hi))
 unfold nxt
 have e1:W.getD r []=W[r]:=by
  rw [qa3,hw]
  rfl
 rw [e1,qa3,hx]
 rfl
theorem c_Q (L:LN) (W:LL) (r:Nat) (w:LN) (c:Nat):run L W r (w++[c])=nxt L W (run L W r w) c:=by
 unfold run
 rw [List.foldl_append]
 rfl
theorem a_M {L:LN} {W:LL} {B:List Bool} (h:Mach L W B):∀{w:LN} {r:Nat},r<W.length->(∀c∈w,c∈L)->run L W r w<W.length
 | [],_,hr,_=>hr
 | c::w,r,hr,hw=>by
  obtain ⟨ws,x,_,_,e,hx⟩:=h.at hr (hw c (by simp))
  exact a_M h (w:=w) (r:=nxt L W r c) (by rw [e];exact hx) λd hd=>hw d (by simp [hd])
def intsV (ws:LN):List V:=ws.map λ(n:Nat)=>V.int (n:Int)
def b_L (H:Hp) (rows:List Addr) (W:LL):Prop:=∀(i:Nat) (r:Addr),rows[i]?=some r->∃ws,W[i]?=some ws/\H r=some (.tup (intsV ws))
def a_o (H:Hp) (m:Addr) (L:LN) (W:LL) (B:List Bool):Prop:=
 ∃(wy mk:Addr) (rows:List Addr),H m=some (.tup [.str (tx L),.ref wy,.ref mk])/\H wy=some (.tup (rows.map V.ref))/\H mk=some (.tup (B.map V.bl))/\rows.length=W.length/\b_L H rows W
theorem b_L.same (h:b_L H rows W) (s:Same H H'):b_L H' rows W:=λi r e=>by
 obtain ⟨ws,h1,h2⟩:=h i r e
 exact (ws,h1,s _ _ h2)
theorem a_o.same (h:a_o H m L W B) (s:Same H H'):a_o H' m L W B:=by
 obtain ⟨wy,mk,rows,h1,h2,h3,h4,h5⟩:=h
 exact (wy,mk,rows,s _ _ h1,s _ _ h2,s _ _ h3,h4,h5.same s)
theorem a_Z {α β:Type} {xs:List α} (f:α->β) {x:α} (h:xs[i]?=some x):atI (xs.map f) ((i:Nat):Int)=some (f x):=a_R (by rw [qa6,h];rfl)
end RA
namespace RA
end RA
namespace L2
open PySem
namespace RV
section
variable {prog:Program} {w:World} {A:Around} {E:Value->Shared->Prop} {s:Shared}
end
end RV
end L2
namespace L2
open PySem PySem.Spec PyProof.Rows
section
variable {X:Cx}
end
end L2
namespace L2
open PySem
namespace ZP
def aE (S:List Addr) (h h':Heap):Prop:=h'.objs.size=h.objs.size/\∀c o,c∉S->h.get? c=some o->h'.get? c=some o
theorem aE.one (x:SameBut a h h') (m:a∈S):aE S h h':=(x.1,λc o hc e=>(x.2 c λq=>hc (q▸m)).trans e)
theorem aE.trans (x:aE S h h1) (y:aE S h1 h2):aE S h h2:=(y.1.trans x.1,λc o hc e=>y.2 c o hc (x.2 c o hc e))
section
variable {prog:Program} {w:World} {A:Around} {E:Value->Shared->Prop} {s:Shared} {z TI TO i1 i2:Addr} {f1 f2:List Addr} {n1 n2 k:Nat} {P1 P2:Nat->Value->Prop} {S1 S2:Nat->Heap->Prop} {a b:Value}
theorem toldL {Q:Value->Shared->Prop} (D1:Draws prog w A i1 f1 n1 P1 S1) (D2:Draws prog w A i2 f2 n2 P2 S2) (m1:∀c∈f1,c=i1\/c∉[z,TO,i1,i2]) (m2:∀c∈f2,c=i2\/c∉[z,TO,i1,i2]) (ap:ZipApart z TI TO i1 i2 TI TI) (hz:IsZip s.heap z TI TO .none) (hTI:IsPair s.heap TI (.ref i1) (.ref i2)) (hTO:IsPair s.heap TO a b)
  (h1:S1 k s.heap) (h2:S2 k s.heap) (l1:k<n1) (l2:k<n2)
  (hQ:∀x y h' tk,P1 k x->P2 k y->IsZip h' z TI TO (rawInt s.heap.objs.size)->IsPair h' TI (.ref i1) (.ref i2)->IsPair h' TO x y->S1 (k+1) h'->S2 (k+1) h'->IsPair h' s.heap.objs.size x y->
   (∀c o,c∉[z,TO,i1,i2]->s.heap.get? c=some o->h'.get? c=some o)->Q (.ref s.heap.objs.size) { s with heap:=h',toks:=tk }):
  wpAny (model prog w) A (Builtin.«zip.__next__» ([.ref z],[])) (λfin s'=>∃v,fin=.done (.ret v)/\Q v s') E s:=by
 unfold Builtin.«zip.__next__»
 refine qa7 (wpAny_of_eq (a:=(Value.ref z,[],)) rfl (qa7 (wpAny_field hz rfl (x:=.bool false) rfl (qa7 (wpAny_field hz rfl (x:=.ref TI) rfl (qa7 (wpAny_seqItems hTI rfl ?_)))))))
 refine wpAny_ite_false (by simp) (qa7 ?_)
 unfold Builtin.SmallTypes.ownedTupleIsFree
 refine qa7 (wpAny_field hz rfl (x:=.none) rfl (qa8 (wpAny_ite_true (by decide) (qa7 (wpAny_rule (qa7 (wpAny_field hz rfl (x:=.ref TO) rfl (qa7 (wpAny_setField_rec hz (by simp) λg1 z1 c1=>?_)))))))))
 have k1:aE [z,TO,i1,i2] s.heap g1:=.one c1 (by simp)
 have S1f:∀{j:Nat} {g g':Heap},(∀c o,c∉[z,TO,i1,i2]->g.get? c=some o->g'.get? c=some o)->S1 j g->(∀o,g.get? i1=some o->g'.get? i1=some o)->S1 j g':=λk st e=>D1.frame _ _ _ st λc hc=>by
  rcases m1 c hc with rfl|hn
  .exact e
  .exact λo q=>k c o hn q
 have S2f:∀{j:Nat} {g g':Heap},(∀c o,c∉[z,TO,i1,i2]->g.get? c=some o->g'.get? c=some o)->S2 j g->(∀o,g.get? i2=some o->g'.get? i2=some o)->S2 j g':=λk st e=>D2.frame _ _ _ st λc hc=>by
  rcases m2 c hc with rfl|hn
  .exact e
  .exact λo q=>k c o hn q
 simp only [List.zipIdx_cons,List.zipIdx_nil,forIn_cons,forIn_nil]
 refine qa7 (qa7 (qa7 (wpAny_onRaise (qa7 (m:=Builtin.SmallTypes.nextOf (.ref i1)) (D1.item k _ _ _ l1 (S1f k1.2 h1 λo e=>(c1.2 i1 ap.i1z).trans e) λx g2 t2 p1 d1 c2=>qa8 ?_)))))
 have o2:IsPair g2 TO a b:=(c2.2 TO ap.TOi1).trans ((c1.2 TO ap.TOz).trans hTO)
 refine qa7 (wpAny_seqItems o2 rfl (qa7 (wpAny_updateSeq_pair o2 λg3 o3 c3=>qa7 (wpAny_letGo (qa8 (qa7 (qa7 (wpAny_onRaise (qa7 (m:=Builtin.SmallTypes.nextOf (.ref i2)) (D2.item k _ _ _ l2 (S2f ((k1.trans (.one c2 (by simp))).trans (.one c3 (by simp))).2 h2 λo e=>?_) λy g4 t4 p2 d2 c4=>qa8 ?_))))))))))
 .exact (c3.2 i2 ap.TOi2.symm).trans ((c2.2 i2 ap.i12.symm).trans ((c1.2 i2 ap.i2z).trans e))
 have o4:IsPair g4 TO x b:=(c4.2 TO ap.TOi2).trans o3
 refine qa7 (wpAny_seqItems o4 rfl (qa7 (wpAny_updateSeq_pair o4 λg5 o5 c5=>qa7 (wpAny_letGo (qa8 (qa8 ?_))))))
 replace o5:IsPair g5 TO x y:=o5
 have k5:aE [z,TO,i1,i2] s.heap g5:=(((k1.trans (.one c2 (by simp))).trans (.one c3 (by simp))).trans (.one c4 (by simp))).trans (.one c5 (by simp))
 have z5:IsZip g5 z TI TO .ellipsis:=(c5.2 z ap.TOz.symm).trans ((c4.2 z ap.i2z.symm).trans ((c3.2 z ap.TOz.symm).trans ((c2.2 z ap.i1z.symm).trans z1)))
 have st1:S1 (k+1) g5:=S1f (((aE.one (S:=[z,TO,i1,i2]) c3 (by simp)).trans (.one c4 (by simp))).trans (.one c5 (by simp))).2 d1 λo e=>(c5.2 i1 ap.TOi1.symm).trans ((c4.2 i1 ap.i12).trans ((c3.2 i1 ap.TOi1.symm).trans e))
 have st2:S2 (k+1) g5:=S2f (aE.one (S:=[z,TO,i1,i2]) c5 (by simp)).2 d2 λo e=>(c5.2 i2 ap.TOi2.symm).trans e
 refine qa7 (wpAny_seqItems o5 rfl (qa7 (wpAny_newTuple ?_)))
 unfold Builtin.SmallTypes.ownedTupleHandOut
 have z6:IsZip (g5.push { cls:=.type "tuple",data:=.seq #[x,y] }) z TI TO .ellipsis:=qa9 _ z5
 refine qa7 (qa7 (wpAny_setField_rec z6 (by simp) λg7 z7 c7=>?_))
 replace z7:IsZip g7 z TI TO (rawInt g5.objs.size):=z7
 refine wpAny_setField_rec z7 (by simp) λg8 z8 c8=>qa8 (_,rfl,?_)
 replace z8:IsZip g8 z TI TO (rawInt g5.objs.size):=z8
 have up:∀c o,c≠z->g5.get? c=some o->g8.get? c=some o:=λc o hc e=>(c8.2 c hc).trans ((c7.2 c hc).trans (qa9 _ e))
 have zlt:g5.objs.size≠z:=ne_of_gt (lt_size z5)
 have new:IsPair g8 g5.objs.size x y:=(c8.2 _ zlt).trans ((c7.2 _ zlt).trans (get?_push_size _ rfl))
 have sz:g5.objs.size=s.heap.objs.size:=k5.1
 have ti5:IsPair g5 TI (.ref i1) (.ref i2):=k5.2 TI _ (by simp [ap.TIz,ap.TITO,ap.TIi1,ap.TIi2]) hTI
 show Q (.ref g5.objs.size) _
 rw [sz] at z8 new ⊢
 exact hQ x y g8 t4 p1 p2 z8 (up _ _ ap.TIz ti5) (up _ _ ap.TOz o5) (S1f (λc o hc e=>up c o (λq=>hc (by simp [q])) e) st1 λo e=>up _ o ap.i1z e) (S2f (λc o hc e=>up c o (λq=>hc (by simp [q])) e) st2 λo e=>up _ o ap.i2z e) new λc o hc e=>up c o (λq=>hc (by simp [q])) (k5.2 c o hc e)
theorem endedL (D1:Draws prog w A i1 f1 n1 P1 S1) (D2:Draws prog w A i2 f2 n2 P2 S2) (m1:∀c∈f1,c=i1\/c∉[z,TO,i1,i2]) (m2:∀c∈f2,c=i2\/c∉[z,TO,i1,i2]) (ap:ZipApart z TI TO i1 i2 TI TI) (hz:IsZip s.heap z TI TO .none) (hTI:IsPair s.heap TI (.ref i1) (.ref i2)) (hTO:IsPair s.heap TO a b)
  (h1:S1 k s.heap) (h2:S2 k s.heap) (hend:k=n1\/(k<n1/\k=n2))
  (hE:∀h' e tk,(∀c o,c∉[z,TO,i1,i2]->s.heap.get? c=some o->h'.get? c=some o)->(∃o,h'.get? e=some o/\o.cls=.type "StopIteration")->E (.ref e) { s with heap:=h',toks:=tk }):
  wpAny (model prog w) A (Builtin.«zip.__next__» ([.ref z],[])) Q E s:=by
 unfold Builtin.«zip.__next__»
 refine qa7 (wpAny_of_eq (a:=(Value.ref z,[],)) rfl (qa7 (wpAny_field hz rfl (x:=.bool false) rfl (qa7 (wpAny_field hz rfl (x:=.ref TI) rfl (qa7 (wpAny_seqItems hTI rfl (wpAny_ite_false (by simp) (qa7 ?_)))))))))
 unfold Builtin.SmallTypes.ownedTupleIsFree
 refine qa7 (wpAny_field hz rfl (x:=.none) rfl (qa8 (wpAny_ite_true (by decide) (qa7 (wpAny_rule (qa7 (wpAny_field hz rfl (x:=.ref TO) rfl (qa7 (wpAny_setField_rec hz (by simp) λg1 z1 c1=>?_)))))))))
 have k1:aE [z,TO,i1,i2] s.heap g1:=.one c1 (by simp)
 have S1f:∀{j:Nat} {g g':Heap},(∀c o,c∉[z,TO,i1,i2]->g.get? c=some o->g'.get? c=some o)->S1 j g->(∀o,g.get? i1=some o->g'.get? i1=some o)->S1 j g':=λk st e=>D1.frame _ _ _ st λc hc=>by
  rcases m1 c hc with rfl|hn
  .exact e
  .exact λo q=>k c o hn q
 have S2f:∀{j:Nat} {g g':Heap},(∀c o,c∉[z,TO,i1,i2]->g.get? c=some o->g'.get? c=some o)->S2 j g->(∀o,g.get? i2=some o->g'.get? i2=some o)->S2 j g':=λk st e=>D2.frame _ _ _ st λc hc=>by
  rcases m2 c hc with rfl|hn
  .exact e
  .exact λo q=>k c o hn q
 have s1:S1 k g1:=S1f k1.2 h1 λo e=>(c1.2 i1 ap.i1z).trans e
 have out:∀(it:Addr) (g g':Heap) (e:Addr) (tk:Nat),it=i1\/it=i2->aE [z,TO,i1,i2] s.heap g->IsZip g z TI TO .ellipsis->Heap.ExtBut it g g'->(∃o,g'.get? e=some o/\o.cls=.type "StopIteration")->
   wpAny (model prog w) A (setField (.ref z) 0 .none) (λ_ s'=>E (.ref e) s') E { s with heap:=g',toks:=tk }:=λit g g' e tk hit hk hg hx he=>by
  obtain ⟨oe,he,ce⟩:=he
  have zit:z≠it:=by rcases hit with q|q <;> rw [q];exact ap.i1z.symm;exact ap.i2z.symm
  have zg:IsZip g' z TI TO .ellipsis:=hx z _ zit hg
  have ez:e≠z:=λq=>by
   rw [q] at he
   have:=congrArg (Option.map Obj.cls) (he.symm.trans zg)
   rw [map_some,map_some,ce] at this
   exact absurd (show Value.type "StopIteration"=Value.type "zip" from Option.some.inj this) (by decide)
  refine wpAny_setField_rec (s:={ s with heap:=g',toks:=tk }) zg (by simp) λg2 _ c2=>hE g2 e tk (λc o hc q=>?_) (oe,(c2.2 e ez).trans he,ce)
  refine (c2.2 c λr=>hc (by simp [r])).trans (hx c o (λr=>hc ?_) (hk.2 c o hc q))
  rcases hit with q|q <;> rw [r,q] <;> simp
 simp only [List.zipIdx_cons,List.zipIdx_nil,forIn_cons,forIn_nil]
 rcases hend with rfl|⟨hlt,rfl⟩
 .refine qa7 (qa7 (qa7 (wpAny_onRaise (qa7 (m:=Builtin.SmallTypes.nextOf (.ref i1)) (D1.done _ _ _ s1 λg2 e x2 he=>?_)))))
  exact out i1 g1 g2 e s.toks (.inl rfl) k1 z1 x2 he
 .refine qa7 (qa7 (qa7 (wpAny_onRaise (qa7 (m:=Builtin.SmallTypes.nextOf (.ref i1)) (D1.item k _ _ _ hlt s1 λx g2 t2 p1 d1 c2=>qa8 ?_)))))
  have o2:IsPair g2 TO a b:=(c2.2 TO ap.TOi1).trans ((c1.2 TO ap.TOz).trans hTO)
  refine qa7 (wpAny_seqItems o2 rfl (qa7 (wpAny_updateSeq_pair o2 λg3 o3 c3=>qa7 (wpAny_letGo (qa8 (qa7 (qa7 (wpAny_onRaise (qa7 (m:=Builtin.SmallTypes.nextOf (.ref i2)) (D2.done _ _ _ (S2f ((k1.trans (.one c2 (by simp))).trans (.one c3 (by simp))).2 h2 λo e=>?_) λg4 e x4 he=>?_))))))))))
  .exact (c3.2 i2 ap.TOi2.symm).trans ((c2.2 i2 ap.i12.symm).trans ((c1.2 i2 ap.i2z).trans e))
  .exact out i2 g3 g4 e t2 (.inr rfl) ((k1.trans (.one c2 (by simp))).trans (.one c3 (by simp))) ((c3.2 z ap.TOz.symm).trans ((c2.2 z ap.i1z.symm).trans z1)) x4 he
end
section
variable {prog:Program} {w:World} {A:Around} {E:Value->Shared->Prop} {s:Shared} {z TI TO i1 i2:Addr} {n1 n2 k:Nat} {P1 P2:Nat->Value->Prop} {S1 S2:Nat->Heap->Prop} {a b:Value}
def strIt (x:Str) (t:Tok):Obj:={ cls:=.type (if x.cps.all (· < 128) then "str_ascii_iterator" else "str_iterator"),data:=.fields #[.str x t,.int 0 0] }
theorem js (h:Q (.ref s.heap.objs.size) { s with heap:=s.heap.push (strIt x t) }):wpAny (model prog w) A (pyIter (.str x t)) Q E s:=by
 unfold strIt at h
 cases e:x.cps.all (· < 128) <;> rw [e] at h
 .exact wpAny_pyIter_wide e h
 .exact wpAny_pyIter_ascii e h
def strAt (x:Str) (t:Tok) (it:Addr) (i:Nat) (h:Heap):Prop:=h.IsStrIter it (if x.cps.all (· < 128) then "str_ascii_iterator" else "str_iterator") x t i
theorem draws (hh:A.handled=none) (it:Addr) (x:Str) (t:Tok):Draws prog w A it [it] x.cps.size (λi v=>∃c u,x.cps[i]?=some c/\v=.str ⟨#[c]⟩ u) (strAt x t it):=by
 unfold strAt
 cases x.cps.all (· < 128)
 .exact Draws.strWide hh it x t
 .exact Draws.strAscii hh it x t
end
end ZP
end L2
namespace L2
open PySem PySem.Spec PyProof.Rows
section
variable {X:Cx} {pins:List (Addr×Obj)} {σ:St} {H:Hp} {s:Shared} {h':Heap}
theorem tracked_off {S:List Addr} (f:∀b∈S,H b=none) (e:H b=some u):b∉S:=λhb=>by rw [f b hb] at e;cases e
theorem Inv.turnedL {S:List Addr} (I:Inv X pins σ H s) (k:∀b o,b∉S->s.heap.get? b=some o->h'.get? b=some o) (f:∀b∈S,aG X pins H b):Inv X pins σ H { s with heap:=h',toks:=t' }:=by
 refine I.call (g':=s.gens) (d':=s.drawn) (ch:=S) (λb o e _ _ hc=>k b o hc e,λb o e _ _ hc=>(o.slots,k b o hc e),λ_ _ _ n _=>n,λb o e hc=>(o,k b o hc e),λ_ _ e=>e,λ_ _ _ e=>e,λ_ ps e=>(#[],by rw [e];simp))
  (λb u e=>(I.hok b u e).stay (λc v hc q=>k c v ?_ q) (λ_ q=>q) λ_ _ q=>q) I.bare λb hb=>((f b hb).2.2.2.1,(f b hb).2.1,(f b hb).2.2.2.2.1,(f b hb).2.2.2.2.2)
 rcases hc with z|z
 .rw [z];exact tracked_off (λb hb=>(f b hb).1) e
 .exact tracked_off (λb hb=>(f b hb).1) z
theorem Inv.turnedNew {S:List Addr} {t':Nat} {o:HO} (I:Inv X pins σ H s) (k:∀b o,b∉S->s.heap.get? b=some o->h'.get? b=some o) (f:∀b∈S,aG X pins H b)
  (new:b_f X.prog X.w (upd H s.heap.objs.size o) h' s.heap.objs.size o):Inv X pins σ (upd H s.heap.objs.size o) { s with heap:=h',toks:=t' }:=by
 have fr:H s.heap.objs.size=none:=I.hok.fresh (le_refl _)
 have ne:∀b u,H b=some u->b≠s.heap.objs.size:=λb u e=>ne_of_none e fr
 refine I.call (g':=s.gens) (d':=s.drawn) (ch:=S) (λb o e _ _ hc=>k b o hc e,λb o e _ _ hc=>(o.slots,k b o hc e),λb o e n _=>?_,λb o e hc=>(o,k b o hc e),λb xs e=>by rw [upd_ne (ne b _ e)];exact e,λb o u e=>by rw [upd_ne (ne b _ e)];exact e,λb ps e=>(#[],by rw [upd_ne (ne b _ e),e];simp))
  (λb u e=>?_) I.bare λb hb=>((f b hb).2.2.2.1,(f b hb).2.1,(f b hb).2.2.2.2.1,(f b hb).2.2.2.2.2)
 .rw [upd_ne (ne_of_lt (lt_size e))]
  exact n
 .by_cases hb:b=s.heap.objs.size
  .subst hb
   rw [upd_same] at e
   cases e
   exact new
  .rw [upd_ne hb] at e
   refine (I.hok b u e).stay (λc v hc q=>k c v ?_ q) (λc q=>by rw [upd_ne (ne c _ q)];exact q) λc xs q=>by rw [upd_ne (ne c _ q)];exact q
   rcases hc with z|z
   .rw [z];exact tracked_off (λb hb=>(f b hb).1) e
   .exact tracked_off (λb hb=>(f b hb).1) z
end
theorem g_G {h base:Heap} {hid:List Addr}:∀{l:List Env},h.FunFrames base l->(∀b∈frs l,b∈hid)->h.FunFrames (hideAll h hid) l
 | [],_,_=>trivial
 | env::r,hl,hs=>by
  obtain ⟨hk,⟨L,o,hf,hn,ho,hd⟩,hr⟩:=hl
  have e:frs (env::r)=L::frs r:=by unfold frs;rw [filterMap_cons,hf]
  exact (hk,(L,o,hf,PySem.W.hideAll_none _ (hs L (by rw [e];exact mem_cons_self)),ho,hd),g_G hr λb hb=>hs b (by rw [e];exact mem_cons_of_mem _ hb))
section
variable {X:Cx} {pins:List (Addr×Obj)} {σ:St} {H H':Hp} {s:Shared} {h1 h2:Heap}
end
section
variable {X:Cx} {E:XK}
end
section
variable {X:Cx}
end
section
variable {P:Program} {w:World} {K:Frag} {mg:Str->Option Value} {base:Heap} {N:List Str} {qual:Str} {scope:Scope} {f:Addr} {cd:Value} {A:Around} {outer:List Env} {s:Shared} {H:Hp} {E:XK}
end
section
variable {X:Cx} {pins:List (Addr×Obj)} {σ:St} {H:Hp} {s:Shared}
end
section
variable {X:Cx} {pins:List (Addr×Obj)} {σ:St} {H:Hp} {s:Shared} {x n y fx:Str} {R:Addr} {i j k:Nat} {np hpos pos p cp yp ap:Pos} {b0:Stmt} {suite:List Stmt} {ts:TS} {D:aK} {ps:List Str} {sp:Sp} {e:Expr} {es:List Expr} {t:TA}
end
end L2
namespace L2
open PySem PySem.Spec PySem.W PyProof.Rows Builtin Builtin.ObjectAttr Builtin.Getset_descriptor
section
variable {prog:Program} {w:World} {A:Around} {E:Value->Shared->Prop} {s:Shared} {K:Frag} {e C:Addr}
end
end L2
namespace RA
end RA
namespace RA
open PySem L2
theorem cj:∀{a b:LN},a.Nodup->(∀c∈a,c∈b)->a.length≤b.length
 | [],_,_,_=>zero_le _
 | c::a,b,nd,h=>by
  obtain ⟨b1,b2,e⟩:=List.append_of_mem (h c (by simp))
  obtain ⟨n1,n2⟩:=nodup_cons.mp nd
  have:=cj (a:=a) (b:=b1++b2) n2 λd hd=>by
   have hd2:=h d (by simp [hd])
   rw [e] at hd2
   have hdc:d≠c:=λz=>n1 (z▸hd)
   simp [hdc] at hd2
   simpa using hd2
  rw [e]
  simp at this ⊢
  lia
end RA
namespace RA
def ah (L:LN):LN->LN->Bool
 | c::a,d::b=>if c=d then ah L a b else decide (L.idxOf c<L.idxOf d)
 | _,_=>false
def ear (L a b:LN):Bool:=if a.length≠b.length then decide (a.length<b.length) else ah L a b
end RA
namespace L2
open PySem PySem.Spec PyProof.Rows
theorem lK:∀{x:V},e_V x=true->eqV x x=true:=by
 intro x h
 cases x with
 | non=>rfl
 | bl a=>simp [eqV]
 | int a=>simp [eqV]
 | str a=>simp [eqV]
 | _=>exact absurd (show false=true from h) Bool.false_ne_true
theorem Same.set (s:Same H H') (n:H a=none):Same H (L2.upd H' a o):=λb u e=>by
 rw [upd_ne (ne_of_none e n)]
 exact s b u e
end L2
namespace RA
open PySem L2
end RA
namespace L2
end L2
namespace L2
open PySem PySem.Spec PyProof.Rows
theorem jC {J:It} {xs:List V} {tt:TT} {te:TE} {σ:St} {Q:VK} (Pv:Addr->Nat->List V->Hp->Prop) (hz:xs.length≤sizeLine)
  (j1:∀i H2,Same H H2->i<xs.length->J.go i H2) (j2:∀i H2 x H3,Same H H2->J.yld i H2 x H3->H3=H2/\xs[i]?=some x) (j3:∀H2,Same H H2->J.stop xs.length H2)
  (h0:∀D,H D=none->Pv D 0 [] (upd H D (.lst [])))
  (hs:∀(D:Addr) (i:Nat) (x:V) (ys:List V) (H':Hp) (R1:VK) (R2:Hp->Prop),H D=none->xs[i]?=some x->Same H H'->H' D=some (.lst ys)->Pv D i ys H'->
   (∀y H5,H5 D=some (.lst ys)->Same H (upd H5 D (.lst (ys++[y])))->Pv D (i+1) (ys++[y]) (upd H5 D (.lst (ys++[y])))->R1 y H5)->(∀H4,Same H H4->H4 D=some (.lst ys)->Pv D (i+1) ys H4->R2 H4)->
   tt (some x::σ) H' λb H4=>if b=true then te (some x::σ) H4 R1 else R2 H4)
  (hq:∀D ys H',H D=none->Same H H'->H' D=some (.lst ys)->Pv D xs.length ys H'->Q (.ref D) H'):∀D,H D=none->∃W:Nat->Nat->List V->Hp->Prop,
 (∃m,W 0 m [] (upd H D (.lst [])))/\∀i m ys H2,W i m ys H2->H2 D=some (.lst ys)/\((J.stop i H2/\Q (.ref D) H2)\/(J.go i H2/\ys.length<sizeLine/\∀x H3,J.yld i H2 x H3->
  tt (some x::σ) H3 λb H4=>if b=true then te (some x::σ) H4 λy H5=>H5 D=some (.lst ys)/\∃m',m'<m/\W (i+1) m' (ys++[y]) (upd H5 D (.lst (ys++[y])))
   else ∃m',m'<m/\W (i+1) m' ys H4)):=by
 intro D hD
 refine (λi m ys H2=>m=xs.length - i/\i≤xs.length/\ys.length≤i/\Same H H2/\H2 D=some (.lst ys)/\Pv D i ys H2,(xs.length,by simp,zero_le _,by simp,Same.upd hD,upd_same,h0 D hD),?_)
 rintro i m ys H2 ⟨rfl,hi,hy,hsm,hDl,hp⟩
 refine (hDl,?_)
 by_cases hlt:i<xs.length
 .refine .inr (j1 i H2 hsm hlt,by lia,λx H3 hyl=>?_)
  obtain ⟨e,hx⟩:=j2 i H2 x H3 hsm hyl
  subst e
  exact hs D i x ys H3 _ _ hD hx hsm hDl hp (λy H5 a b c=>(a,xs.length - (i+1),by lia,rfl,hlt,by rw [qa5];show ys.length+1≤i+1;lia,b,upd_same,c)) (λH4 a b c=>(xs.length - (i+1),by lia,rfl,hlt,by lia,a,b,c))
 .have e:i=xs.length:=by lia
  subst e
  exact .inl (j3 H2 hsm,hq D ys H2 hD hsm hDl hp)
section
variable {K:Frag} {tl:TE} {a:Addr} {xs:List V} {tt:TT} {te:TE} {σ:St} {H:Hp} {Q:VK}
end
theorem c_a (K:Frag):kitOne K (.type "tuple") (.type "tuple")=some true/\kitOne K (.type "list") (.type "list")=some true/\kitOne K (.type "str") (.type "str")=some true:=
 (by with_unfolding_all rfl,by with_unfolding_all rfl,by with_unfolding_all rfl)
theorem kU (K:Frag):kitOne K (.type "tuple") (.type "list")=some false:=by kernel_rfl
theorem gn (K:Frag):kitOne K (.type "list") (.type "tuple")=some false:=by kernel_rfl
theorem oI (K:Frag):kitOne K (.type "int") (.type "tuple")=some false:=by kernel_rfl
theorem oJ (K:Frag):kitOne K (.type "int") (.type "list")=some false:=by kernel_rfl
theorem oK (K:Frag):kitOne K (.type "bool") (.type "tuple")=some false:=by kernel_rfl
theorem oM (K:Frag):kitOne K (.type "bool") (.type "list")=some false:=by kernel_rfl
theorem oE (K:Frag):kitOne K (.type "str") (.type "tuple")=some false:=by kernel_rfl
theorem oF (K:Frag):kitOne K (.type "str") (.type "list")=some false:=by kernel_rfl
theorem oH (K:Frag):kitOne K (.type "str") (.type "bool")=some false:=by kernel_rfl
theorem oG (K:Frag):kitOne K (.type "str") (.type "int")=some false:=by kernel_rfl
theorem lW:g_e X (.builtin "isinstance") (λxs H Q=>∃x t b,xs=[x,.ty T]/\ae X.K H x t/\kitOne X.K t (.type T)=some b/\Q (.bl b) H):=by
 intro pins s σ H xs us Q I r h
 obtain ⟨x,t,b,h1,h2,h3,q⟩:=h
 exact c_X (b:=b) pins s σ H xs us Q I r (x,t,h1,h2,h3,q)
section
variable {X:Cx} {elt iter:Expr} {x:Str} {px pos:Pos} {ifs:List Expr} {sc:Scope} {wi:TI} {tt:TT} {te:TE}
theorem comp_used (hsw:swapsWith (.ListComp elt [(.Name x px,iter,ifs,0)] sc pos) (some (.Name y py)) spos.line env=pure true)
  (h:∀p,wpAny M A (comprehension (.ListComp elt [(.Name x px,iter,ifs,0)] sc pos) sc env p (newList []) false (eval iter env) (some (assign (.Name y py) env))) (λ_ s'=>Q .next s') E s):
  wpAny M A (exec (.Assign [.Name y py] (.ListComp elt [(.Name x px,iter,ifs,0)] sc pos) spos) env) Q E s:=by
 have used:wpAny M A (evalThenUse (.ListComp elt [(.Name x px,iter,ifs,0)] sc pos) env (assign (.Name y py) env)) (λ_ s'=>Q .next s') E s:=
  qa7 (wpAny_mono (h iter.pos) (λ_ _ q=>qa8 q) λ_ _ e=>e)
 have one:=exec_Assign_Name_used (env:=env) y py (.ListComp elt [(.Name x px,iter,ifs,0)] sc pos) spos hsw
 exact one▸qa7 (wpAny_standAt (qa7 (wpAny_mono used (λ_ _ q=>qa8 q) λ_ _ e=>e)))
end
theorem g_b (K:Frag) (hK:X.K=K:=by rfl):g_e X (.type "tuple") (λxs H Q=>∃p ys,xs=[.ref p]/\((SqL K H p ys/\∀l,H l=none->Q (.ref l) (upd H l (.tup ys)))\/(SqT K H p ys/\Q (.ref p) H))):=by
 subst hK
 exact a_i
section
variable {X:Cx} {elt iter:Expr} {x:Str} {px pos:Pos} {ifs:List Expr} {sc:Scope} {wi:TI} {tt:TT} {te:TE}
end
end L2
namespace RA
open PySem L2
def bU:V->Bool
 | .bl _=>true
 | .int _=>true
 | .str _=>true
 | _=>false
def fo (H:Hp):Nat->V->V->Prop
 | 0,x,y=>x=y/\bU x=true
 | d+1,x,y=>(x=y/\bU x=true)\/∃p q xs ys,x=.ref p/\y=.ref q/\((H p=some (.tup xs)/\H q=some (.tup ys))\/(H p=some (.lst xs)/\H q=some (.lst ys)))/\xs.length=ys.length/\xs.length≤1000/\
   ∀(i:Nat) (x y:V),xs[i]?=some x->ys[i]?=some y->fo H d x y
theorem jm (h:bU x=true):fo H d x x:=by
 cases d with
 | zero=>exact (rfl,h)
 | succ d=>exact Or.inl (rfl,h)
theorem g_A {xs:List V} (h:xs.all bU=true):∀(i:Nat) (x y:V),xs[i]?=some x->xs[i]?=some y->fo H d x y:=λi x y hx hy=>by
 rw [hx] at hy
 cases hy
 exact jm (all_eq_true.mp h x (qb2 hx))
end RA
namespace L2
end L2
namespace RA
open PySem L2
end RA
namespace L2
open PySem PySem.Spec PyProof.Rows
section
variable {κ:Type} [DecidableEq κ]
def ax (kvs:List (κ×V)) (k:κ):Option V:=(kvs.find? λkv=>decide (kv.1=k)).map (·.2)
theorem g_P {p:κ×V} {r:List (κ×V)} {k:κ} (e:p.1=k):ax (p::r) k=some p.2:=by simp [ax,find?_cons,e]
theorem e_X {p:κ×V} {r:List (κ×V)} {k:κ} (e:¬ p.1=k):ax (p::r) k=ax r k:=by simp [ax,find?_cons,e]
theorem KV.val {kvs:List (κ×V)} {vs:List (κ×Value)} (r:KV kvs vs) (k:κ):ar (ax kvs k) (valueAt vs k):=by
 unfold KV at r
 induction r with
 | nil=>exact True.intro
 | @cons p q ps qs h t ih=>
  obtain ⟨h1,h2⟩:=h
  by_cases e:p.1=k
  .have e':q.1=k:=h1.symm.trans e
   have b:valueAt (q::qs) k=some q.2:=by simp [valueAt,find?_cons,e']
   rw [g_P e,b];exact h2
  .have e':¬ q.1=k:=λz=>e (h1.trans z)
   have b:valueAt (q::qs) k=valueAt qs k:=by simp [valueAt,find?_cons,e']
   rw [e_X e,b];exact ih
end
section
variable {X:Cx} {d:Addr} {kvs:List (Key×V)}
end
end L2
namespace RA
section
variable {κ:Type} [DecidableEq κ]
def ay (acc:List κ):List κ->List κ
 | []=>acc
 | k::ks=>ay (if k∈acc then acc else acc++[k]) ks
def dis (ks:List κ):List κ:=ay [] ks
def ao (ks:List κ):LN:=ks.map λk=>(dis ks).idxOf k
theorem bX (k:κ):∀(ks acc:List κ),ay acc (ks++[k])=if k∈ay acc ks then ay acc ks else ay acc ks++[k]
 | [],_=>rfl
 | _::ks,_=>bX k ks _
theorem eU:∀(ks acc:List κ) (k:κ),k∈acc\/k∈ks↔k∈ay acc ks
 | [],acc,k=>by simp [ay]
 | a::ks,acc,k=>by
  show _↔k∈ay (if a∈acc then acc else acc++[a]) ks
  rw [<- eU ks]
  by_cases h:a∈acc
  .rw [if_pos h,mem_cons]
   constructor
   .rintro (x|rfl|x)
    .exact .inl x
    .exact .inl h
    .exact .inr x
   .rintro (x|x)
    .exact .inl x
    .exact .inr (.inr x)
  .rw [if_neg h,mem_cons,mem_append,mem_singleton]
   constructor
   .rintro (x|x|x)
    .exact .inl (.inl x)
    .exact .inl (.inr x)
    .exact .inr x
   .rintro ((x|x)|x)
    .exact .inl x
    .exact .inr (.inl x)
    .exact .inr (.inr x)
theorem mem_dis {ks:List κ} {k:κ}:k∈dis ks↔k∈ks:=by
 rw [dis,<- eU]
 simp
theorem dis_snoc (ks:List κ) (k:κ):dis (ks++[k])=if k∈dis ks then dis ks else dis ks++[k]:=bX k ks []
theorem eV:∀(ks acc:List κ),(ay acc ks).length≤acc.length+ks.length
 | [],_=>by simp [ay]
 | a::ks,acc=>by
  have h:=eV ks (if a∈acc then acc else acc++[a])
  have h2:(if a∈acc then acc else acc++[a]).length≤acc.length+1:=by
   split
   .lia
   .simp
  show (ay (if a∈acc then acc else acc++[a]) ks).length≤_
  rw [length_cons]
  lia
theorem iD (ks:List κ):(dis ks).length≤ks.length:=by
 have:=eV ks []
 simpa [dis] using this
theorem idx_inj {l:List κ} {a b:κ} (ha:a∈l) (h:l.idxOf a=l.idxOf b):a=b:=by
 have h1:l.idxOf a<l.length:=idxOf_lt_length_of_mem ha
 have h2:l.idxOf b<l.length:=by lia
 have e1:=getElem_idxOf h1
 have e2:=getElem_idxOf h2
 rw [<- e1,<- e2]
 congr 1
theorem e_j {l:List κ} {c:κ}:∀{i:Nat},l[i]?=some c->l.idxOf c≤i:=by
 induction l with
 | nil=>intro i e;simp at e
 | cons a l ih=>
  intro i e
  by_cases hac:a=c
  .subst hac
   rw [List.idxOf_cons_self]
   exact zero_le _
  .cases i with
   | zero=>simp at e;exact absurd e hac
   | succ i=>
    have h1:=ih (i:=i) (by simpa using e)
    have h2:(a::l).idxOf c=l.idxOf c+1:=by
     rw [idxOf_cons,beq_eq_false_iff_ne.mpr hac]
     rfl
    lia
theorem e_d (ks:List κ):(ao ks).length=ks.length:=by simp [ao]
theorem e_e {ks:List κ} {i:Nat} {k:κ} (h:ks[i]?=some k):(ao ks).getD i 0=(dis ks).idxOf k:=by
 rw [qa3,ao,qa6,h]
 rfl
theorem f_I {ks:List κ} {x:Nat} (h:x∈ao ks):x<ks.length:=by
 obtain ⟨k,hk,rfl⟩:=mem_map.mp h
 exact lt_of_lt_of_le (idxOf_lt_length_of_mem (mem_dis.mpr hk)) (iD ks)
theorem e_F {ks:List κ} {i j:Nat} {a b:κ} (ha:ks[i]?=some a) (hb:ks[j]?=some b):(ao ks).getD i 0=(ao ks).getD j 0↔a=b:=by
 rw [e_e ha,e_e hb]
 constructor
 .exact idx_inj (mem_dis.mpr (qb2 ha))
 .rintro rfl
  rfl
theorem idx_app {l m:List κ} {a:κ} (h:a∈l):(l++m).idxOf a=l.idxOf a:=by
 rw [List.idxOf_append,if_pos h]
theorem ix {l:List κ} {a:κ} (h:a∉l):(l++[a]).idxOf a=l.length:=by
 rw [List.idxOf_append,if_neg h]
 simp
theorem jd {κ':Type} [DecidableEq κ']:∀(n:Nat) (ks:List κ) (ks':List κ'),ks.length=n->ks'.length=n->
  (∀(i j:Nat) (a b:κ) (a' b':κ'),ks[i]?=some a->ks[j]?=some b->ks'[i]?=some a'->ks'[j]?=some b'->(a=b↔a'=b'))->
  (dis ks).length=(dis ks').length/\∀(i:Nat) (a:κ) (a':κ'),ks[i]?=some a->ks'[i]?=some a'->(dis ks).idxOf a=(dis ks').idxOf a':=by
 intro n
 induction n with
 | zero=>
  intro ks ks' h1 h2 _
  rw [length_eq_zero_iff] at h1 h2
  subst h1 h2
  exact (rfl,λi a a' h=>by simp at h)
 | succ n ih=>
  intro ks ks' h1 h2 hp
  obtain ⟨k,l,rfl⟩:∃k l,ks=l++[k]:=(ks.getLast (by intro z;rw [z] at h1;cases h1),ks.dropLast,(dropLast_concat_getLast _).symm)
  obtain ⟨k',l',rfl⟩:∃k l,ks'=l++[k]:=(ks'.getLast (by intro z;rw [z] at h2;cases h2),ks'.dropLast,(dropLast_concat_getLast _).symm)
  have l1:l.length=n:=by simpa using h1
  have l2:l'.length=n:=by simpa using h2
  have up:∀{α:Type} {l:List α} {k:α} {i:Nat} {a:α},l[i]?=some a->(l++[k])[i]?=some a:=λ{α l k i a} e=>by
   rw [getElem?_append_left (qa1 e).1]
   exact e
  have last:(l++[k])[n]?=some k:=by rw [getElem?_append_right (by lia),l1];simp
  have last':(l'++[k'])[n]?=some k':=by rw [getElem?_append_right (by lia),l2];simp
  obtain ⟨q1,q2⟩:=ih l l' l1 l2 λi j a b a' b' e1 e2 e3 e4=>hp i j a b a' b' (up e1) (up e2) (up e3) (up e4)
  have mm:k∈dis l↔k'∈dis l':=by
   rw [mem_dis,mem_dis]
   constructor
   .intro hm
    obtain ⟨i,hi⟩:=mem_iff_getElem?.mp hm
    have hlt:i<l'.length:=by have:=(qa1 hi).1;lia
    have e:=(hp i n k k l'[i] k' (up hi) last (up (qa2 hlt)) last').mp rfl
    rw [<- e]
    exact getElem_mem hlt
   .intro hm
    obtain ⟨i,hi⟩:=mem_iff_getElem?.mp hm
    have hlt:i<l.length:=by have:=(qa1 hi).1;lia
    have e:=(hp i n l[i] k k' k' (up (qa2 hlt)) last (up hi) last').mpr rfl
    rw [<- e]
    exact getElem_mem hlt
  have split:∀{i:Nat} {a:κ} {a':κ'},(l++[k])[i]?=some a->(l'++[k'])[i]?=some a'->(l[i]?=some a/\l'[i]?=some a')\/(i=n/\a=k/\a'=k'):=λ{i a a'} e1 e2=>by
   by_cases hi:i<n
   .rw [getElem?_append_left (by lia)] at e1 e2
    exact .inl (e1,e2)
   .have:i=n:=by
     have:=(qa1 e1).1
     simp at this
     lia
    subst this
    rw [last] at e1
    rw [last'] at e2
    exact .inr (rfl,(Option.some.inj e1).symm,(Option.some.inj e2).symm)
  rw [dis_snoc,dis_snoc]
  by_cases hm:k∈dis l
  .have hm':=mm.mp hm
   rw [if_pos hm,if_pos hm']
   refine (q1,λi a a' e1 e2=>?_)
   rcases split e1 e2 with ⟨e1,e2⟩|⟨rfl,rfl,rfl⟩
   .exact q2 i a a' e1 e2
   .obtain ⟨j,hj⟩:=mem_iff_getElem?.mp (mem_dis.mp hm)
    have hlt:j<l'.length:=by have:=(qa1 hj).1;lia
    have e:=(hp j i a a l'[j] a' (up hj) last (up (qa2 hlt)) last').mp rfl
    exact q2 j a a' hj (by rw [<- e];exact qa2 hlt)
  .have hm':k'∉dis l':=λz=>hm (mm.mpr z)
   rw [if_neg hm,if_neg hm']
   refine (by simp [q1],λi a a' e1 e2=>?_)
   rcases split e1 e2 with ⟨e1,e2⟩|⟨rfl,rfl,rfl⟩
   .rw [idx_app (mem_dis.mpr (qb2 e1)),idx_app (mem_dis.mpr (qb2 e2))]
    exact q2 i a a' e1 e2
   .rw [ix hm,ix hm',q1]
theorem d_u {κ':Type} [DecidableEq κ'] {ks:List κ} {ks':List κ'} (hl:ks.length=ks'.length)
  (hp:∀(i j:Nat) (a b:κ) (a' b':κ'),ks[i]?=some a->ks[j]?=some b->ks'[i]?=some a'->ks'[j]?=some b'->(a=b↔a'=b')):ao ks=ao ks':=by
 obtain ⟨_,h⟩:=jd ks'.length ks ks' hl rfl hp
 refine List.ext_getElem? λi=>?_
 by_cases hi:i<ks.length
 .have e1:ks[i]?=some ks[i]:=qa2 hi
  have e2:ks'[i]?=some (ks'[i]'(by lia)):=qa2 (by lia)
  rw [ao,ao,qa6,qa6,e1,e2]
  exact congrArg some (h i _ _ e1 e2)
 .rw [getElem?_eq_none (by rw [e_d];lia),getElem?_eq_none (by rw [e_d];lia)]
end
def bO (W:LL) (lots:LN) (i:Nat):Nat×LN:=(lots.getD i 0,(W.getD i []).map λg=>lots.getD g 0,)
def d_B (W:LL) (lots:LN):List (Nat×LN):=(List.range W.length).map (bO W lots)
def Rd (W:LL) (B:List Bool):Nat->LN
 | 0=>ao B
 | k+1=>ao (d_B W (Rd W B k))
theorem e_I (h:i<W.length):(d_B W lots)[i]?=some (bO W lots i):=by
 rw [d_B,qa6,getElem?_range h]
 rfl
theorem a_H (W:LL) (lots:LN):(d_B W lots).length=W.length:=by simp [d_B]
theorem c_J {L:LN} {W:LL} {B:List Bool} (h:Mach L W B):∀k,(Rd W B k).length=W.length
 | 0=>by rw [Rd,e_d,h.bl]
 | k+1=>by rw [Rd,e_d,a_H]
theorem fk (h:Mach L W B) (hx:x∈Rd W B k):x<W.length:=by
 cases k with
 | zero=>rw [<- h.bl];exact f_I hx
 | succ k=>rw [<- a_H W (Rd W B k)];exact f_I hx
def lot (W:LL) (B:List Bool) (k r:Nat):Nat:=(Rd W B k).getD r 0
theorem e_g (h:Mach L W B) (hr:r<W.length) (hs:s<W.length):lot W B 0 r=lot W B 0 s↔B.getD r false=B.getD s false:=by
 have e1:B[r]?=some (B[r]'(by rw [h.bl];exact hr)):=qa2 _
 have e2:B[s]?=some (B[s]'(by rw [h.bl];exact hs)):=qa2 _
 rw [lot,lot,Rd,e_F e1 e2,qa3,qa3,e1,e2]
 rfl
theorem b_z (h:Mach L W B) (hr:r<W.length):(W.getD r []).length=L.length/\∀x∈W.getD r [],x<W.length:=by
 have e:W.getD r []=W[r]:=by rw [qa3,qa2 hr];rfl
 rw [e]
 exact h.row _ (getElem_mem hr)
def ag (W:LL) (r i:Nat):Nat:=(W.getD r []).getD i 0
theorem b_c (h:Mach L W B) (hr:r<W.length) (hi:i<L.length):ag W r i<W.length:=by
 obtain ⟨h1,h2⟩:=b_z h hr
 rw [ag,qa3,qa2 (by lia)]
 exact h2 _ (getElem_mem _)
theorem f_a (L:LN) (W:LL) (r c:Nat):nxt L W r c=ag W r (L.idxOf c):=rfl
theorem b_h (h:Mach L W B) (hr:r<W.length) (hs:s<W.length):
  lot W B (k+1) r=lot W B (k+1) s↔lot W B k r=lot W B k s/\∀i<L.length,lot W B k (ag W r i)=lot W B k (ag W s i):=by
 rw [lot,lot,Rd,e_F (e_I hr) (e_I hs),bO,bO,Prod.mk.injEq]
 obtain ⟨a1,_⟩:=b_z h hr
 obtain ⟨b1,_⟩:=b_z h hs
 refine and_congr Iff.rfl (λe i hi=>?_,λe=>List.ext_getElem? λi=>?_)
 .have:=congrArg (λl=>l[i]?) e
  simp only [qa6] at this
  rw [qa2 (by lia),qa2 (by lia)] at this
  rw [ag,ag,qa3 (l:=W.getD r []),qa3 (l:=W.getD s []),qa2 (by lia),qa2 (by lia)]
  exact Option.some.inj this
 .by_cases hi:i<L.length
  .have:=e i hi
   rw [ag,ag,qa3 (l:=W.getD r []),qa3 (l:=W.getD s []),qa2 (by lia),qa2 (by lia)] at this
   rw [qa6,qa6,qa2 (by lia),qa2 (by lia)]
   exact congrArg some this
  .rw [qa6,qa6,getElem?_eq_none (by lia),getElem?_eq_none (by lia)]
theorem h_s (h:Mach L W B) (hr:r<W.length) (hs:s<W.length):∀{j:Nat},j≤k->lot W B k r=lot W B k s->lot W B j r=lot W B j s:=by
 induction k with
 | zero=>intro j hj e;rw [Nat.le_zero.mp hj];exact e
 | succ k ih=>
  intro j hj e
  by_cases hjk:j=k+1
  .subst hjk;exact e
  .exact ih (by lia) ((b_h h hr hs).mp e).1
theorem d_m {L:LN} {W:LL} {B:List Bool} (h:Mach L W B):∀{k:Nat} {w:LN} {r s:Nat},r<W.length->s<W.length->w.length≤k->(∀c∈w,c∈L)->lot W B k r=lot W B k s->B.getD (run L W r w) false=B.getD (run L W s w) false
 | k,[],r,s,hr,hs,_,_,e=>(e_g h hr hs).mp (h_s h hr hs (zero_le k) e)
 | 0,c::w,r,s,hr,hs,hl,_,e=>by simp at hl
 | k+1,c::w,r,s,hr,hs,hl,hw,e=>by
  have hi:L.idxOf c<L.length:=idxOf_lt_length_of_mem (hw c (by simp))
  exact d_m h (k:=k) (w:=w) (b_c h hr hi) (b_c h hs hi) (by simpa using hl) (λd hd=>hw d (by simp [hd])) (((b_h h hr hs).mp e).2 _ hi)
theorem iK {W:LL} {B:List Bool} {k:Nat} (e:Rd W B (k+1)=Rd W B k):∀j,Rd W B (k+j)=Rd W B k
 | 0=>rfl
 | j+1=>by
  show ao (d_B W (Rd W B (k+j)))=_
  rw [iK e j]
  exact e
theorem io (h:Mach L W B) (e:Rd W B (k+1)=Rd W B k) (q:lot W B k r=lot W B k s) (hr:r<W.length) (hs:s<W.length) (j:Nat):lot W B j r=lot W B j s:=by
 by_cases hj:j≤k
 .exact h_s h hr hs hj q
 .have:=iK e (j - k)
  rw [show k+(j - k)=j by lia] at this
  rw [lot,lot,this]
  exact q
def dD (n:Nat) (lots:LN):Nat:=(List.range (n * n)).countP λx=>decide (lots.getD (x / n) 0=lots.getD (x % n) 0)
theorem e_p {α:Type} {p q:α->Bool}:∀{l:List α},(∀x∈l,p x=true->q x=true)->(∃x∈l,q x=true/\p x=false)->l.countP p<l.countP q
 | [],_,⟨x,hx,_⟩=>by simp at hx
 | a::l,hi,⟨x,hx,hq,hp⟩=>by
  have le:l.countP p≤l.countP q:=List.countP_mono_left λy hy=>hi y (by simp [hy])
  rw [List.countP_cons,List.countP_cons]
  rcases mem_cons.mp hx with rfl|hx
  .rw [hq,hp]
   simp
   lia
  .have:=e_p (l:=l) (λy hy=>hi y (by simp [hy])) (x,hx,hq,hp)
   have h1:=hi a (by simp)
   cases hpa:p a with
   | false=>simp;lia
   | true=>rw [h1 hpa];simp;omega
theorem dC (h:Mach L W B) (e:Rd W B (k+1)≠Rd W B k):dD W.length (Rd W B (k+1))<dD W.length (Rd W B k):=by
 have hn:=h.n1
 have cell:∀x∈List.range (W.length * W.length),x / W.length<W.length/\x % W.length<W.length:=λx hx=>by
  have hx:=mem_range.mp hx
  exact (Nat.div_lt_of_lt_mul hx,Nat.mod_lt _ (by lia))
 refine e_p (λx hx hp=>?_) ?_
 .obtain ⟨c1,c2⟩:=cell x hx
  have q:lot W B (k+1) (x / W.length)=lot W B (k+1) (x % W.length):=of_decide_eq_true hp
  exact decide_eq_true ((b_h h c1 c2).mp q).1
 .refine Classical.byContradiction λno=>e ?_
  have pat:∀r s,r<W.length->s<W.length->(lot W B (k+1) r=lot W B (k+1) s↔lot W B k r=lot W B k s):=λr s hr hs=>by
   refine (λq=>((b_h h hr hs).mp q).1,λq=>Classical.byContradiction λnq=>no (r * W.length+s,?_,?_,?_))
   .rw [mem_range]
    calc r * W.length+s<r * W.length+W.length:=by lia
     _=(r+1) * W.length:=by rw [succ_mul]
     _≤W.length * W.length:=Nat.mul_le_mul_right _ hr
   .have d1:(r * W.length+s) / W.length=r:=by rw [Nat.mul_comm,Nat.mul_add_div (by lia),Nat.div_eq_of_lt hs];lia
    have d2:(r * W.length+s) % W.length=s:=by rw [Nat.mul_comm,Nat.mul_add_mod,Nat.mod_eq_of_lt hs]
    simp only [d1,d2]
    exact decide_eq_true q
   .have d1:(r * W.length+s) / W.length=r:=by rw [Nat.mul_comm,Nat.mul_add_div (by lia),Nat.div_eq_of_lt hs];lia
    have d2:(r * W.length+s) % W.length=s:=by rw [Nat.mul_comm,Nat.mul_add_mod,Nat.mod_eq_of_lt hs]
    simp only [d1,d2]
    exact decide_eq_false nq
  cases k with
  | zero=>
   show ao (d_B W (Rd W B 0))=ao B
   refine d_u (by rw [a_H,h.bl]) λi j a b a' b' e1 e2 e3 e4=>?_
   have hi:i<W.length:=by have:=(qa1 e1).1;rwa [a_H] at this
   have hj:j<W.length:=by have:=(qa1 e2).1;rwa [a_H] at this
   rw [<- e_F e1 e2,<- e_F e3 e4]
   exact pat i j hi hj
  | succ k=>
   show ao (d_B W (Rd W B (k+1)))=ao (d_B W (Rd W B k))
   refine d_u (by rw [a_H,a_H]) λi j a b a' b' e1 e2 e3 e4=>?_
   have hi:i<W.length:=by have:=(qa1 e1).1;rwa [a_H] at this
   have hj:j<W.length:=by have:=(qa1 e2).1;rwa [a_H] at this
   rw [<- e_F e1 e2,<- e_F e3 e4]
   exact pat i j hi hj
def g_i (W:LL) (B:List Bool) (k r s:Nat):List Bool:=((W.getD r []).zip (W.getD s [])).map λp=>decide (lot W B k p.1=lot W B k p.2)
def place (W:LL) (B:List Bool) (k r s:Nat):Nat:=(g_i W B k r s).idxOf false
def pw (L:LN) (W:LL) (B:List Bool):Nat->Nat->Nat->LN
 | 0,_,_=>[]
 | k+1,r,s=>L.getD (place W B k r s) 0::pw L W B k (ag W r (place W B k r s)) (ag W s (place W B k r s))
theorem e_a (h:Mach L W B) (hr:r<W.length) (hs:s<W.length) (hi:i<L.length):(g_i W B k r s)[i]?=some (decide (lot W B k (ag W r i)=lot W B k (ag W s i))):=by
 obtain ⟨a1,_⟩:=b_z h hr
 obtain ⟨b1,_⟩:=b_z h hs
 rw [g_i,qa6,ag,ag,qa3 (l:=W.getD r []),qa3 (l:=W.getD s [])]
 have e:((W.getD r []).zip (W.getD s []))[i]?=some ((W.getD r [])[i]'(by lia),(W.getD s [])[i]'(by lia),):=by
  rw [getElem?_zip_eq_some]
  exact (qa2 _,qa2 _)
 rw [e,qa2 (by lia),qa2 (by lia)]
 rfl
theorem f_v (h:Mach L W B) (hr:r<W.length) (hs:s<W.length):(g_i W B k r s).length=L.length:=by
 obtain ⟨a1,_⟩:=b_z h hr
 obtain ⟨b1,_⟩:=b_z h hs
 rw [g_i,qa4,List.length_zip]
 lia
theorem dZ (h:Mach L W B) (hr:r<W.length) (hs:s<W.length) (ne:lot W B (k+1) r≠lot W B (k+1) s) (eq:lot W B k r=lot W B k s):
  place W B k r s<L.length/\lot W B k (ag W r (place W B k r s))≠lot W B k (ag W s (place W B k r s))/\∀i<place W B k r s,lot W B k (ag W r i)=lot W B k (ag W s i):=by
 have hm:false∈g_i W B k r s:=by
  refine Classical.byContradiction λno=>ne ((b_h h hr hs).mpr (eq,λi hi=>Classical.byContradiction λq=>no ?_))
  have:=e_a h (k:=k) hr hs hi
  rw [decide_eq_false q] at this
  exact qb2 this
 have hlt:place W B k r s<(g_i W B k r s).length:=idxOf_lt_length_of_mem hm
 have hL:place W B k r s<L.length:=by rw [f_v h hr hs] at hlt;exact hlt
 refine (hL,?_,λi hi=>?_)
 .have e1:=getElem_idxOf hlt
  have e2:=e_a h (k:=k) hr hs hL
  rw [qa2 hlt] at e2
  have e3:decide (lot W B k (ag W r (place W B k r s))=lot W B k (ag W s (place W B k r s)))=false:=by
   rw [<- Option.some.inj e2]
   exact e1
  exact of_decide_eq_false e3
 .have e2:=e_a h (k:=k) hr hs (i:=i) (lt_trans hi hL)
  refine Classical.byContradiction λq=>?_
  rw [decide_eq_false q] at e2
  have:(g_i W B k r s).idxOf false≤i:=by
   have hi2:=(qa1 e2)
   obtain ⟨h1,h2⟩:=hi2
   exact e_j e2
  have h9:place W B k r s≤i:=this
  lia
theorem h_b {L:LN} {W:LL} {B:List Bool} (h:Mach L W B):∀{k r s:Nat},r<W.length->s<W.length->lot W B k r≠lot W B k s->(∀j<k,lot W B j r=lot W B j s)->
  (pw L W B k r s).length=k/\(∀c∈pw L W B k r s,c∈L)/\B.getD (run L W r (pw L W B k r s)) false≠B.getD (run L W s (pw L W B k r s)) false/\
  ∀u:LN,(∀c∈u,c∈L)->B.getD (run L W r u) false≠B.getD (run L W s u) false->ear L u (pw L W B k r s)=false
 | 0,r,s,hr,hs,ne,_=>by
  refine (rfl,λc hc=>by simp [pw] at hc,λe=>ne ((e_g h hr hs).mpr e),λu _ _=>?_)
  show ear L u []=false
  unfold ear
  by_cases hu:u.length=0
  .rw [length_eq_zero_iff.mp hu]
   rfl
  .rw [if_pos (by simpa using hu)]
   simp
 | k+1,r,s,hr,hs,ne,eq=>by
  obtain ⟨hL,hne,hfirst⟩:=dZ h hr hs ne (eq k (by lia))
  have g1:=b_c h hr hL
  have g2:=b_c h hs hL
  have heq:∀j<k,lot W B j (ag W r (place W B k r s))=lot W B j (ag W s (place W B k r s)):=λj hj=>((b_h h hr hs).mp (eq (j+1) (by lia))).2 _ hL
  obtain ⟨i1,i2,i3,i4⟩:=h_b h g1 g2 hne heq
  have hget:L.getD (place W B k r s) 0=L[place W B k r s]:=by rw [qa3,qa2 hL];rfl
  have hidx:L.idxOf (L.getD (place W B k r s) 0)=place W B k r s:=by rw [hget];exact f_R h.lt.nd hL
  have hmem:L.getD (place W B k r s) 0∈L:=by rw [hget];exact getElem_mem hL
  have n1:nxt L W r (L.getD (place W B k r s) 0)=ag W r (place W B k r s):=by rw [f_a,hidx]
  have n2:nxt L W s (L.getD (place W B k r s) 0)=ag W s (place W B k r s):=by rw [f_a,hidx]
  refine (by rw [pw,length_cons,i1],λc hc=>?_,?_,λu hu hpu=>?_)
  .rw [pw,mem_cons] at hc
   rcases hc with rfl|hc
   .exact hmem
   .exact i2 c hc
  .show B.getD (run L W (nxt L W r (L.getD (place W B k r s) 0)) (pw L W B k _ _)) false≠B.getD (run L W (nxt L W s (L.getD (place W B k r s) 0)) (pw L W B k _ _)) false
   rw [n1,n2]
   exact i3
  .have hlen:k+1≤u.length:=Nat.lt_of_not_le λhle=>hpu (d_m h hr hs hle hu (eq k (by lia)))
   have wl:(pw L W B (k+1) r s).length=k+1:=by rw [pw,length_cons,i1]
   cases u with
   | nil=>simp at hlen
   | cons c u=>
    have hc:=hu c (by simp)
    have hci:L.idxOf c<L.length:=idxOf_lt_length_of_mem hc
    by_cases hle:(c::u).length=k+1
    .have hpu':B.getD (run L W (nxt L W r c) u) false≠B.getD (run L W (nxt L W s c) u) false:=hpu
     have hul:u.length=k:=by simpa using hle
     have hge:place W B k r s≤L.idxOf c:=le_of_not_lt λhlt=>hpu' (d_m h (b_c h hr hci) (b_c h hs hci) (le_of_eq hul) (λd hd=>hu d (by simp [hd])) (hfirst _ hlt))
     unfold ear
     rw [if_neg (by rw [wl];simpa using hle),pw,ah]
     by_cases hce:c=L.getD (place W B k r s) 0
     .rw [if_pos hce]
      have:=i4 u (λd hd=>hu d (by simp [hd])) (by rw [hce,n1,n2] at hpu';exact hpu')
      unfold ear at this
      rw [if_neg (by rw [i1];simpa using hul)] at this
      exact this
     .rw [if_neg hce,hidx]
      simp
      omega
    .unfold ear
     rw [if_pos (by rw [wl];exact hle),wl]
     simp
     simp at hlen hle
     omega
def ba (L:LN) (W:LL) (B:List Bool) (r s:Nat) (o:Option LN):Prop:=
 (o=none/\∀k,lot W B k r=lot W B k s)\/∃k,o=some (pw L W B k r s)/\lot W B k r≠lot W B k s/\∀j<k,lot W B j r=lot W B j s
theorem bj {L:LN} {W:LL} {B:List Bool} (h:Mach L W B) {k:Nat} (e:∀i<k,Rd W B (i+1)≠Rd W B i):∀j≤k,dD W.length (Rd W B j)+j≤W.length * W.length
 | 0,_=>by
  have:=List.countP_le_length (p:=λx=>decide ((Rd W B 0).getD (x / W.length) 0=(Rd W B 0).getD (x % W.length) 0)) (l:=List.range (W.length * W.length))
  rw [length_range] at this
  exact this
 | j+1,hj=>by
  have h1:=bj h e j (by lia)
  have h2:=dC h (e j (by lia))
  lia
theorem g_H (h:Mach L W B) (e:∀i<k,Rd W B (i+1)≠Rd W B i):k≤3600:=by
 have h1:=bj h e k (le_refl _)
 have h2:W.length * W.length≤60 * 60:=Nat.mul_le_mul h.n60 h.n60
 lia
theorem ba.spec (h:ba L W B r s o) (hM:Mach L W B) (hr:r<W.length) (hs:s<W.length):
  (o=none->∀u:LN,(∀c∈u,c∈L)->B.getD (run L W r u) false=B.getD (run L W s u) false)/\
  ∀w,o=some w->(∀c∈w,c∈L)/\w.length≤3600/\B.getD (run L W r w) false≠B.getD (run L W s w) false/\∀u:LN,(∀c∈u,c∈L)->B.getD (run L W r u) false≠B.getD (run L W s u) false->ear L u w=false:=by
 rcases h with ⟨e0,h2⟩|⟨k,e0,h2,h3⟩ <;> subst e0
 .exact (λ_ u hu=>d_m hM hr hs (le_refl _) hu (h2 u.length),λw z=>by cases z)
 .refine (λz=>(by cases z),λw z=>?_)
  cases z
  obtain ⟨i1,i2,i3,i4⟩:=h_b hM hr hs h2 h3
  refine (i2,?_,i3,i4)
  rw [i1]
  exact g_H hM λi hi z=>h2 (io hM z (h3 i hi) hr hs k)
end RA
namespace L2
open PySem PySem.Spec PyProof.Rows
def k9 (b:Bool):Value->Bool
 | .bool c=>c==b
 | _=>false
theorem c_g (h:k9 b v=true):v=.bool b:=by
 cases v with
 | bool c=>rw [eq_of_beq (show (c==b)=true from h)]
 | _=>exact absurd (show false=true from h) Bool.false_ne_true
def b_S (P:Program) (w:World):PySem.KeyKind P w Bool where
 is:=k9
 hash:=λb=>reduceHash (if b then 1 else 0)
 inj:=λv a b ha hb=>by
  have e:=(c_g ha).symm.trans (c_g hb)
  cases e
  rfl
 byValue:=λk v h=>by rw [c_g h];rfl
 pyHash:=λ{A E s k v Q} h q=>by
  cases c_g h
  refine PySem.W.pyHash_slot (T:="bool") rfl F.slot_bool_hash entry_int_hash (args_int_hash _) (beq_builtin_none _) (.inl rfl) ?_
  cases k
  .exact (show wpAny _ _ (do ret (<- mkInt 0)) _ _ s from qa7 (wpAny_mkInt (qa8 (_,_,rfl,q))))
  .exact (show wpAny _ _ (do ret (<- mkInt 1)) _ _ s from qa7 (wpAny_mkInt (qa8 (_,_,rfl,q))))
 eqBool:=λ{A E s a b u v Q} ha hb q=>by
  cases c_g ha
  cases c_g hb
  have e:(a==b)=decide (a=b):=by cases a <;> cases b <;> rfl
  exact SeqAt.EqAt.bool_bool a b _ _ _ _ (by rw [e];exact q)
 «strs»:=λk x t v h=>absurd (show false=true from h) Bool.false_ne_true
abbrev NK:=Nat×LN
def zs (ks:LN):List Int:=ks.map λ(n:Nat)=>(n:Int)
theorem aL (h:zs a=zs b):a=b:=by
 induction a generalizing b with
 | nil=>cases b with
  | nil=>rfl
  | cons y b=>cases h
 | cons x a ih=>cases b with
  | nil=>cases h
  | cons y b=>
   have h:((x:Int)::zs a)=((y:Int)::zs b):=h
   injection h with h1 h2
   rw [ih h2,Int.ofNat.inj h1]
section
variable (P:Program) (w:World)
def NestAt (h:Heap) (k:NK) (a:Addr):Prop:=∃(o:Obj) (n:Nat) (t:Tok) (b:Addr),h.get? a=some o/\o.cls=.type "tuple"/\o.data=.seq #[.int (k.1:Int) t,.ref b] n/\IsTupleKey (intKind P w) h (zs k.2) b
def h_q (k:NK):Int:=reduceHash (Builtin.Tuple.tupleHashOf [hashInt (k.1:Int),tupleKeyHash (intKind P w) (zs k.2)])
end
section
variable {P:Program} {w:World}
theorem NestAt.inj (hx:NestAt P w h x a) (hy:NestAt P w h y a):x=y:=by
 obtain ⟨o,n,t,b,h1,_,h3,h4⟩:=hx
 obtain ⟨o',n',t',b',g1,_,g3,g4⟩:=hy
 rw [h1] at g1
 cases g1
 rw [h3] at g3
 injection g3 with e1 _
 have e2:[Value.int (x.1:Int) t,.ref b]=[Value.int (y.1:Int) t',.ref b']:=congrArg Array.toList e1
 injection e2 with e3 e4
 injection e3 with e5 _
 injection e4 with e6 _
 injection e6 with e7
 subst e7
 have e8:=aL (h4.inj g4)
 have e9:x.1=y.1:=Int.ofNat.inj e5
 obtain ⟨x1,x2⟩:=x
 obtain ⟨y1,y2⟩:=y
 simp only at e8 e9
 rw [e8,e9]
theorem NestAt.keeps {es ep} (x:NestAt P w h k a) (ho:h.get? d=some o) (hd:o.data=.dict es ep) (hs:SameBut d h h'):NestAt P w h' k a:=by
 obtain ⟨o',n,t,b,h1,h2,h3,h4⟩:=x
 refine (o',n,t,b,(hs.2 a ?_).trans h1,h2,h3,h4.keeps ho hd hs)
 rintro rfl
 rw [h1] at ho
 cases ho
 rw [h3] at hd
 cases hd
theorem NestAt.tup (x:NestAt P w h k a):∃t b,h.IsTuple a #[.int (k.1:Int) t,.ref b]/\IsTupleKey (intKind P w) h (zs k.2) b:=by
 obtain ⟨o,n,t,b,h1,h2,h3,h4⟩:=x
 exact (t,b,(o,h1,h2,n,h3),h4)
theorem jg (hu:A.units+1<cLine) (x:NestAt P w s.heap k a) (q:Q (h_q P w k) { s with toks:=s.toks+(k.2.length+3) }):
  wpAny (model P w) A (pyHash (.ref a)) Q E s:=by
 obtain ⟨o,n,t,b,h1,h2,h3,h4⟩:=x
 refine PySem.W.pyHash_slot (T:="tuple") (o,h1,h2) F.slot_tuple_hash F.entry_tuple_hash (F.args_tuple_hash_1 _) (beq_builtin_none _) (.inr (by lia)) ?_
 refine qa7 (m:=Builtin.Tuple.tupleItemsOf (.ref a)) (wpAny_tupleItemsOf h1 h3 (qa7 ?_))
 rw [<- Array.forIn_toList]
 show wpAny _ _ (forIn [Value.int (k.1:Int) t,.ref b] _ _) _ _ _
 rw [forIn_cons]
 refine qa7 (qa7 (wpAny_pyHash_int (qa7 (qa8 (qa8 ?_)))))
 dsimp only
 rw [forIn_cons]
 refine qa7 (qa7 (wpAny_pyHash_tuple (knd:=intKind P w) (by show A.in1.units<cLine;rw [Around.in1_units];exact hu) h4 (qa7 (qa8 (qa8 ?_)))))
 dsimp only
 rw [forIn_nil]
 refine qa8 ?_
 refine qa7 (wpAny_mkInt (qa8 (_,_,rfl,?_)))
 have e:s.toks+1+((zs k.2).length+1)+1=s.toks+(k.2.length+3):=by
  have:(zs k.2).length=k.2.length:=by simp [zs]
  lia
 simpa [e,h_q] using q
theorem jX (x:IsTupleKey (intKind P w) h ks b):IsTupleKey (intKind P' w') h ks b:=by
 obtain ⟨o,its,n,h1,h2,h3,h4⟩:=x
 refine (o,its,n,h1,h2,h3,?_)
 generalize its.toList=l at h4 ⊢
 induction h4 with
 | nil=>exact .nil
 | cons a _ ih=>exact .cons a ih
theorem mN (hu:A.units+1<cLine) (hx:NestAt P w s.heap x a) (hy:NestAt P w s.heap y b) (E:Value->Shared->Prop) (Q:Bool->Shared->Prop) (q:Q (decide (x=y)) s):
  wpAny (model P w) A (eqBool (.ref a) (.ref b)) Q E s:=by
 by_cases hab:a=b
 .subst hab
  have e:=hx.inj hy
  rw [decide_eq_true e] at q
  exact SeqAt.EqAt.same (.ref a) P w E Q q
 .obtain ⟨t,c,h1,h2⟩:=hx.tup
  obtain ⟨u,d,g1,g2⟩:=hy.tup
  have hu1:A.in1.units<cLine:=by rw [Around.in1_units];exact hu
  have inner:SeqAt.EqAt A.in1 s (.ref c) (.ref d) (decide (zs x.2=zs y.2)):=λP' w' E' Q' q'=>wpAny_eqBool_tuple (knd:=intKind P' w') hu1 (jX h2) (jX g2) q'
  have all:=SeqAt.EqAt.of_refs (A:=A) hab (SeqAt.RcAt.tuples (s:=s) (e:=λj=>if j=0 then ((x.1:Int)==(y.1:Int)) else decide (zs x.2=zs y.2)) h1 g1 (by lia) (λj l1 l2=>by
   match j,l1,l2 with
   | 0,_,_=>exact SeqAt.EqAt.int_int _ t _ u
   | 1,_,_=>exact inner
   | n+2,l1,_=>exact absurd l1 (by show ¬ (n+2<2);lia)))
  refine all P w E Q ?_
  have e:((List.range (min (#[Value.int (x.1:Int) t,.ref c]:Array Value).size (#[Value.int (y.1:Int) u,.ref d]:Array Value).size)).all (λj=>if j=0 then ((x.1:Int)==(y.1:Int)) else decide (zs x.2=zs y.2))&&(#[Value.int (x.1:Int) t,.ref c]:Array Value).size==(#[Value.int (y.1:Int) u,.ref d]:Array Value).size)=decide (x=y):=by
   show (((x.1:Int)==(y.1:Int))&&(decide (zs x.2=zs y.2)&&true)&&true)=_
   obtain ⟨x1,x2⟩:=x
   obtain ⟨y1,y2⟩:=y
   by_cases e1:x1=y1
   .by_cases e2:x2=y2
    .subst e1 e2
     simp
    .have:zs x2≠zs y2:=λz=>e2 (aL z)
     simp [e1,e2,this]
   .have:¬ ((x1:Int)=(y1:Int)):=λz=>e1 (Int.ofNat.inj z)
    simp [e1,this]
  rw [e]
  exact q
theorem dW (x:s.heap.IsTuple a items) (hi:∀v∈items.toList,∀(R:Bool->Shared->Prop),R true s->wpAny (model P w) A (eqIsQuiet n v) R E s) (q:Q true s):
  wpAny (model P w) A (eqIsQuiet (n+1) (.ref a)) Q E s:=by
 obtain ⟨o,h1,h2,m,h3⟩:=x
 have hT:s.TypeIs (.ref a) "tuple":=(o,h1,h2)
 unfold eqIsQuiet
 refine qa7 (wpAny_specialOf hT F.slot_tuple_eq.lookup (qa7 (m:=isInstance (.ref a) (.type "tuple")) (wpAny_isInstance hT isSubtype_tuple_tuple ?_)))
 simp only [Bool.not_true,Bool.false_eq_true,if_false]
 refine qa7 (wpAny_seqItems h1 h3 (qa7 ?_))
 show wpAny _ _ (forIn items _ _) _ _ _
 rw [<- Array.forIn_toList]
 refine wpAny_forIn_list _ (λrest r s'=>r.1=none/\s'=s/\∀v∈rest,v∈items.toList) _ ?_ ?_ _ _ (rfl,rfl,λv hv=>hv)
 .rintro v rest r s' ⟨hr,rfl,all⟩
  refine qa7 (hi v (all v mem_cons_self) _ ?_)
  simp only [Bool.not_true,Bool.false_eq_true,if_false]
  exact qa8 (rfl,rfl,λu hu=>all u (mem_cons_of_mem _ hu))
 .rintro ⟨r1,r2⟩ s' ⟨hr,rfl,_⟩
  simp only at hr
  subst hr
  exact qa8 q
theorem fY (x:NestAt P w s.heap k a) (q:Q true s):wpAny (model P w) A (eqIsQuiet 8 (.ref a)) Q E s:=by
 obtain ⟨t,b,h1,h2⟩:=x.tup
 refine dW (n:=7) h1 (λv hv R r=>?_) q
 have hv:v∈[Value.int (k.1:Int) t,.ref b]:=hv
 rcases mem_cons.mp hv with rfl|hv
 .rw [eqIsQuiet_byValue _ rfl]
  exact qa8 r
 .rw [qb1 hv]
  obtain ⟨o,its,n,g1,g2,g3,g4⟩:=h2
  refine dW (n:=6) (o,g1,g2,n,g3) (λv hv R r=>?_) r
  rw [eqIsQuiet_byValue _ (g4.byValue v hv)]
  exact qa8 r
end
def kM (P:Program) (w:World):HeapKind P w NK where
 is:=NestAt P w
 hash:=h_q P w
 draws:=λk=>k.2.length+3
 room:=λA=>A.units+1<cLine
 inj:=λa b=>a.inj b
 keeps:=λx ho hd hs=>x.keeps ho hd hs
 pyHash:=λhu hk h=>jg hu hk h
 eqBool:=λhu hx hy h=>mN hu hx hy _ _ h
 quiet:=λhk h=>fY hk h
structure HKd (P:Program) (w:World) (κ:Type) [DecidableEq κ] where
 knd:HeapKind P w κ
 kin:Hp->κ->Addr->Prop
 ok:∀{H:Hp} {h:Heap} {k:κ} {a:Addr},kin H k a->HOk P w H h->knd.is h k a
 room:∀{A:Around},A.units+64<cLine->knd.room A.in1/\knd.room A
 stay:∀{H H':Hp} {k:κ} {a:Addr},(∀b xs,H b=some (.tup xs)->H' b=some (.tup xs))->kin H k a->kin H' k a
def TIn (H:Hp) (k:List Int) (a:Addr):Prop:=H a=some (.tup (k.map V.int))
def NIn (H:Hp) (k:NK) (a:Addr):Prop:=∃b,H a=some (.tup [.int (k.1:Int),.ref b])/\H b=some (.tup ((zs k.2).map V.int))
theorem items_int {P:Program} {w:World}:∀{ks:List Int} {us:List Value},ab (ks.map V.int) us->ItemsAre (intKind P w) ks us
 | [],_,r=>by rw [List.map_nil] at r;cases r;exact .nil
 | k::ks,_,r=>by
  rw [map_cons] at r
  cases r with
  | cons h t=>
   obtain ⟨u,rfl⟩:=(show ∃t,_=Value.int k t from h)
   exact .cons (by show Value.isInt k (.int k u)=true;simp [Value.isInt]) (items_int t)
theorem jY (e:TIn H k a) (ok:HOk P w H h):IsTupleKey (intKind P w) h k a:=by
 obtain ⟨_,its,r,o,h1,h2,n,h3⟩:=(show b_f P w H h a (.tup (k.map V.int)) from ok a _ e)
 exact (o,its.toArray,n,h1,h2,h3,by simpa using items_int r)
def g_j (P:Program) (w:World):HKd P w (List Int) where
 knd:=tupleKind (intKind P w)
 kin:=TIn
 ok:=λe ok=>jY e ok
 room:=λ{A} hu=>(by show A.in1.units<cLine;rw [Around.in1_units];lia,by show A.units<cLine;lia)
 stay:=λs e=>s _ _ e
def e_T (P:Program) (w:World):HKd P w NK where
 knd:=kM P w
 kin:=NIn
 ok:=λ{H h k a} e ok=>by
  obtain ⟨b,e1,e2⟩:=e
  obtain ⟨_,its,r,o,h1,h2,n,h3⟩:=(show b_f P w H h a (.tup [.int (k.1:Int),.ref b]) from ok a _ e1)
  obtain ⟨u1,u2,rfl,r1,r2⟩:=g_O r
  obtain ⟨t,rfl⟩:=(show ∃t,u1=Value.int (k.1:Int) t from r1)
  cases (show u2=Value.ref b from r2)
  exact (o,n,t,b,h1,h2,h3,jY e2 ok)
 room:=λ{A} hu=>(by show A.in1.units+1<cLine;rw [Around.in1_units];lia,by show A.units+1<cLine;lia)
 stay:=λs hZ1=>by obtain ⟨b,e1,e2⟩:=hZ1;exact (b,s _ _ e1,s _ _ e2)
def kdO {P:Program} {w:World} {κ:Type} [DecidableEq κ] (knd:PySem.KeyKind P w κ) (d:Addr) (kvs:List (κ×V)):HO:=.ext λh=>(d==sysModules)=false/\kvs.length≤sizeLine/\∃vs,KV kvs vs/\h.DictOf knd d vs
abbrev KHr (κ:Type):(κ×Addr×V)->(κ×Addr×Value)->Prop:=λp q=>p.1=q.1/\p.2.1=q.2.1/\ad p.2.2 q.2.2
def hdO {P:Program} {w:World} {κ:Type} [DecidableEq κ] (D:HKd P w κ) (d:Addr) (kvs:List (κ×Addr×V)):HO:=.ext λh=>(d==sysModules)=false/\kvs.length≤sizeLine/\∃xs,Paired (KHr κ) kvs xs/\
 ∃o es ep,h.get? d=some o/\o.ExactDict/\o.data=.dict es ep/\es.toList=xs.map (entryOfKey D.knd)/\(xs.map (·.1)).Nodup
section
variable {P:Program} {w:World} {κ:Type} [DecidableEq κ]
theorem kd_ok {knd:PySem.KeyKind P w κ} {H:Hp} {h:Heap} {d:Addr} {kvs:List (κ×V)} {vs:List (κ×Value)} (ns:(d==sysModules)=false) (hl:kvs.length≤sizeLine) (r:KV kvs vs) (dd:h.DictOf knd d vs):b_f P w H h d (kdO knd d kvs):=by
 refine ((ns,hl,vs,r,dd),let ⟨o,_,_,e,_⟩:=dd;(o,e),λh1 h2 a b=>?_)
 obtain ⟨a1,a2,vs,r,o,es,ep,e,q⟩:=a
 exact (a1,a2,vs,r,o,es,ep,b o e,q)
theorem eL {D:HKd P w κ} {H:Hp} {h:Heap} {d:Addr} {kvs:List (κ×Addr×V)} {xs:List (κ×Addr×Value)} (ns:(d==sysModules)=false) (hl:kvs.length≤sizeLine) (r:Paired (KHr κ) kvs xs) (dd:h.DictOfH D.knd d xs):b_f P w H h d (hdO D d kvs):=by
 obtain ⟨o,es,ep,e,q1,q2,q3,_,q5⟩:=dd
 refine ((ns,hl,xs,r,o,es,ep,e,q1,q2,q3,q5),(o,e),λh1 h2 a b=>?_)
 obtain ⟨a1,a2,vs,r,o,es,ep,e,q⟩:=a
 exact (a1,a2,vs,r,o,es,ep,b o e,q)
theorem d_U {knd:PySem.KeyKind P w κ} {H:Hp} {h:Heap} {d:Addr} {kvs:List (κ×V)} (ok:HOk P w H h) (e:H d=some (kdO knd d kvs)):(d==sysModules)=false/\kvs.length≤sizeLine/\∃vs,KV kvs vs/\h.DictOf knd d vs:=(ok d _ e).1
theorem aW {D:HKd P w κ} {H:Hp} {h:Heap} {d:Addr} {kvs:List (κ×Addr×V)} (ok:HOk P w H h) (e:H d=some (hdO D d kvs)) (hk:∀x∈kvs,D.kin H x.1 x.2.1):(d==sysModules)=false/\kvs.length≤sizeLine/\∃xs,Paired (KHr κ) kvs xs/\h.DictOfH D.knd d xs:=by
 obtain ⟨a1,a2,xs,r,o,es,ep,e1,q1,q2,q3,q5⟩:=(ok d _ e).1
 refine (a1,a2,xs,r,o,es,ep,e1,q1,q2,q3,?_,q5)
 clear q3 q5 e a2
 induction r with
 | nil=>intro x hx;simp at hx
 | @cons p q ps qs h t ih=>
  intro x hx
  rcases mem_cons.mp hx with rfl|hx
  .have:=D.ok (hk p (by simp)) ok
   rw [<- h.1,<- h.2.1]
   exact this
  .exact ih (λy hy=>hk y (by simp [hy])) x hx
def aw (kvs:List (κ×Addr×V)) (k:κ):Option V:=(kvs.find? λx=>decide (x.1=k)).map (·.2.2)
theorem gu {kvs:List (κ×Addr×V)} {xs:List (κ×Addr×Value)} (r:Paired (KHr κ) kvs xs) (k:κ):ar (aw kvs k) ((atKey xs k).map (·.2)):=by
 induction r with
 | nil=>exact True.intro
 | @cons p q ps qs h t ih=>
  by_cases e:p.1=k
  .have e':q.1=k:=h.1.symm.trans e
   have a1:aw (p::ps) k=some p.2.2:=by simp [aw,find?_cons,e]
   have b:atKey (q::qs) k=some q.2:=by simp [atKey,find?_cons,e']
   rw [a1,b]
   exact h.2.2
  .have e':¬ q.1=k:=λz=>e (h.1.trans z)
   have a1:aw (p::ps) k=aw ps k:=by simp [aw,find?_cons,e]
   have b:atKey (q::qs) k=atKey qs k:=by simp [atKey,find?_cons,e']
   rw [a1,b]
   exact ih
theorem cN {α β:Type} {F:α->β->Prop} {a:α} {b:β} (h:F a b):∀{l:List α} {m:List β},Paired F l m->Paired F (l++[a]) (m++[b])
 | _,_,.nil=>.cons h .nil
 | _,_,.cons r t=>.cons r (cN h t)
theorem c_S (r:ar o u):o.isSome=u.isSome:=by
 cases o <;> cases u <;> first|rfl|exact (show False from r).elim
end
section
variable {X:Cx} {pins:List (Addr×Obj)} {σ:St} {H:Hp} {s:Shared} {d:Addr}
theorem Inv.bigS (I:Inv X pins σ H s):sysModules<s.heap.objs.size:=by
 have h:mainGlobals<s.heap.objs.size:=(I.mod.glob.keeps I.bk).lt
 exact lt_trans (by decide) h
def nn (P:Program) (w:World) (H:Hp) (d:Addr) (y:V) (r:Option V):Prop:=
 (∃kvs k,H d=some (kdO (b_S P w) d kvs)/\y=.bl k/\r=ax kvs k) \/
 (∃kvs k b,H d=some (hdO (e_T P w) d kvs)/\(∀x∈kvs,NIn H x.1 x.2.1)/\y=.ref b/\NIn H k b/\r=aw kvs k) \/
 ∃kvs k b,H d=some (hdO (g_j P w) d kvs)/\(∀x∈kvs,TIn H x.1 x.2.1)/\y=.ref b/\TIn H k b/\r=aw kvs k
def qb (P:Program) (w:World) (H:Hp) (d:Addr) (y v:V) (H':Hp):Prop:=
 (∃kvs k,H d=some (kdO (b_S P w) d kvs)/\y=.bl k/\ax kvs k=none/\kvs.length<sizeLine/\H'=upd H d (kdO (b_S P w) d (kvs++[(k,v,)]))) \/
 (∃kvs k b,H d=some (hdO (e_T P w) d kvs)/\(∀x∈kvs,NIn H x.1 x.2.1)/\y=.ref b/\NIn H k b/\aw kvs k=none/\kvs.length<sizeLine/\H'=upd H d (hdO (e_T P w) d (kvs++[(k,b,v,)]))) \/
 ∃kvs k b,H d=some (hdO (g_j P w) d kvs)/\(∀x∈kvs,TIn H x.1 x.2.1)/\y=.ref b/\TIn H k b/\aw kvs k=none/\kvs.length<sizeLine/\H'=upd H d (hdO (g_j P w) d (kvs++[(k,b,v,)]))
def qc (P:Program) (w:World) (H:Hp) (d:Addr) (n:Nat):Prop:=
 (∃kvs,H d=some (kdO (b_S P w) d kvs)/\n=kvs.length)\/∃kvs,H d=some (hdO (e_T P w) d kvs)/\n=kvs.length
theorem lq {κ:Type} [DecidableEq κ] {D:HKd X.prog X.w κ} {kvs:List (κ×Addr×V)} {k:κ} {b:Addr} {v:V} {A:Around} {E:Value->Shared->Prop} {Q:Value->Shared->Prop} (hu:A.units+64<cLine) (I:Inv X pins σ H s) (e:H d=some (hdO D d kvs)) (hk:∀x∈kvs,D.kin H x.1 x.2.1) (kb:D.kin H k b)
  (l:some v=aw kvs k) (h:∀w' s',Inv X pins σ H s'->ad v w'->Q w' s'):wpAny (model X.prog X.w) A (getItem (.ref d) (.ref b)) Q E s:=by
 obtain ⟨_,_,xs,rel,dd⟩:=aW I.hok e hk
 obtain ⟨w',hw,rw'⟩:=ar.some_of (v:=v) (o:=(atKey xs k).map (·.2)) (by rw [l];exact gu rel k)
 obtain ⟨p,hp,hp2⟩:=qb3 hw
 refine wpAny_getItem_heap (D.room hu).1 (D.ok kb I.hok) dd hp ?_
 rw [hp2]
 exact h w' _ (I.tok _) rw'
theorem c9 {κ:Type} [DecidableEq κ] {D:HKd X.prog X.w κ} {kvs:List (κ×Addr×V)} {k:κ} {b:Addr} {A:Around} {E:Value->Shared->Prop} {Q:Value->Shared->Prop} (hu:A.units+64<cLine) (I:Inv X pins σ H s) (e:H d=some (hdO D d kvs)) (hk:∀x∈kvs,D.kin H x.1 x.2.1) (kb:D.kin H k b)
  (h:∀s',Inv X pins σ H s'->Q (.bool (!(aw kvs k).isSome)) s'):wpAny (model X.prog X.w) A (compareOp .NotIn (.ref b) (.ref d)) Q E s:=by
 obtain ⟨ns,_,xs,rel,dd⟩:=aW I.hok e hk
 refine wpAny_notIn_heap (D.room hu).1 (D.ok kb I.hok) ns dd ?_
 have q:=c_S (gu rel k)
 rw [Option.isSome_map] at q
 rw [<- q]
 exact h _ (I.tok _)
theorem c_j (I:Inv X pins σ H s) (mu:Mut (H d)) (hs:SameBut d s.heap h') (he:∃q,h'.get? d=some q) (new:b_f X.prog X.w (upd H d ob) h' d ob):Inv X pins σ (upd H d ob) { s with heap:=h',toks:=t' }:=
 I.write (x:=d) (e:=d) mu (.inl rfl) (λb q hb z=>(hs.2 b hb).trans z) he new
theorem nE {κ:Type} [DecidableEq κ] {D:HKd X.prog X.w κ} {kvs:List (κ×Addr×V)} {xs:List (κ×Addr×Value)} {k:κ} {b:Addr} {v:V} {r:Value} {h':Heap} {t':Nat} (I:Inv X pins σ H s) (e:H d=some (hdO D d kvs)) (ns:(d==sysModules)=false) (hl:kvs.length<sizeLine) (rel:Paired (KHr κ) kvs xs)
  (hn:aw kvs k=none) (rv:ad v r) (dd:h'.DictOfH D.knd d (storedH xs k b r)) (hs:SameBut d s.heap h'):Inv X pins σ (upd H d (hdO D d (kvs++[(k,b,v,)]))) { s with heap:=h',toks:=t' }:=by
 have q:=ar.none_of (show ar none ((atKey xs k).map (·.2)) by rw [<- hn];exact gu rel k)
 rw [storedH_new (Option.map_eq_none_iff.mp q)] at dd
 exact c_j I (by rw [e];exact True.intro) hs (let ⟨o,_,_,q,_⟩:=dd;(o,q)) (eL ns (by rw [qa5];exact hl) (cN (F:=KHr κ) (rfl,rfl,rv) rel) dd)
theorem lm {κ:Type} [DecidableEq κ] {D:HKd X.prog X.w κ} {kvs:List (κ×Addr×V)} {k:κ} {b:Addr} {v:V} {r:Value} {A:Around} {E:Value->Shared->Prop} {Q:Unit->Shared->Prop} (hu:A.units+64<cLine) (I:Inv X pins σ H s) (e:H d=some (hdO D d kvs)) (hk:∀x∈kvs,D.kin H x.1 x.2.1) (kb:D.kin H k b)
  (hn:aw kvs k=none) (hl:kvs.length<sizeLine) (rv:ad v r) (h:∀s',Inv X pins σ (upd H d (hdO D d (kvs++[(k,b,v,)]))) s'->Q () s'):wpAny (model X.prog X.w) A (setItem (.ref d) (.ref b) r) Q E s:=by
 obtain ⟨ns,hz,xs,rel,dd⟩:=aW I.hok e hk
 exact wpAny_setItem_heap (hsz:=by rw [<- Paired.length rel];exact hz) (D.room hu).1 (D.ok kb I.hok) dd λh' dd' hs=>h _ (nE I e ns hl rel hn rv dd' hs)
theorem e_H {kvs:List (κ×V)} {vs:List (κ×Value)} {k:κ} (rel:KV kvs vs) (rv:ad v r):KV (kvs++[(k,v,)]) (vs++[(k,r,)]):=cN (F:=λ(p:κ×V) (q:κ×Value)=>p.1=q.1/\ad p.2 q.2) (rfl,rv) rel
theorem c_e {κ:Type} [DecidableEq κ] {vs:List (κ×Value)} {k:κ} {r:Value} (h:valueAt vs k=none):stored vs k r=vs++[(k,r,)]:=by
 unfold stored
 rw [if_neg]
 intro q
 rw [List.any_eq_true] at q
 obtain ⟨x,hx,e⟩:=q
 unfold valueAt at h
 rw [Option.map_eq_none_iff,List.find?_eq_none] at h
 exact h x hx e
theorem ip (ns:(d==sysModules)=false) (ho:s.heap.get? d=some o) (hc:o.ExactDict) (hd:o.data=.dict es ep) (hz:es.size≤sizeLine)
  (h:∀t t',Q (.int (es.size:Nat) t) { s with toks:=t' }):wpAny (model X.prog X.w) A (call (.builtin "len") [.ref d]) Q E s:=by
 have hT:s.TypeIs (.ref d) "dict":=(o,ho,hc.1)
 have hb:(es.size:Int)<2 ^ 63:=by rw [sizeLine_eq] at hz;lia
 refine Calls.call_function_entry kind_len plain_len entry_len (args_len1 _) ?_
 unfold Builtin.«len»
 refine qa7 (m:=oneArg "len" _) (qa8 (qa7 (m:=callSpecial? (.ref d) (Str.ofString "__len__")) (wpAny_callSpecial?_slot (name:=Str.ofString "__len__") hT F.slot_dict_len (wpAny_call_entry F.slot_dict_len hT F.entry_dict_len ?_ (F.args_dict_len_1 _)))))
 refine qa7 (m:=dictSize d) ?_
 unfold dictSize
 refine qa7 (wpAny_dictEntries ho hd (qa8 (qa7 (m:=Builtin.Dict.pendingCount d) (wpAny_pendingCount_other ns (qa7 (wpAny_mkInt (qa8 (_,rfl,qa7 (wpAny_holding (qa8 (qa7 (wpAny_letGo ?_))))))))))))
 refine wpAny_ite_false (by simp) (wpAny_ite_false (by simp;lia) (qa7 (wpAny_mkInt (qa8 (_,rfl,?_)))))
 simpa using h _ _
end
section
variable {X:Cx}
def mo (P:Program) (w:World):R2:=λx y H Q=>∃d o,y=.ref d/\nn P w H d x o/\Q (.bl (!o.isSome)) H
theorem i8 (hu:X.A.units+64<cLine):OpR X (compareOp .NotIn) (mo X.prog X.w):=by
 intro pins s σ H x y v u Q I rx ry h
 obtain ⟨d,o,rfl,g,q⟩:=h
 cases ry
 rcases g with ⟨kvs,k,e,rfl,rfl⟩|⟨kvs,k,b,e,hk,rfl,kb,rfl⟩|⟨kvs,k,b,e,hk,rfl,kb,rfl⟩
 .cases rx
  obtain ⟨ns,_,vs,rel,dd⟩:=d_U I.hok e
  refine wpAny_notIn_of (knd:=b_S X.prog X.w) (k:=k) (show k9 k (.bool k)=true by cases k <;> rfl) ns dd.mapOf ?_
  rw [<- c_S (rel.val k)]
  exact (.bl _,H,I.tok _,rfl,q)
 .cases rx
  exact c9 (D:=e_T X.prog X.w) hu I e hk kb λs' I'=>(.bl _,H,I',rfl,q)
 .cases rx
  exact c9 (D:=g_j X.prog X.w) hu I e hk kb λs' I'=>(.bl _,H,I',rfl,q)
theorem m4 {σ:St} (I:Inv X pins σ H s) (g:nn X.prog X.w H d y o):s.TypeIs (.ref d) "dict":=by
 rcases g with ⟨kvs,k,e,_⟩|⟨kvs,k,b,e,hk,_⟩|⟨kvs,k,b,e,hk,_⟩
 .obtain ⟨_,_,vs,_,dd⟩:=d_U I.hok e
  exact dd.typeIs
 .obtain ⟨_,_,vs,_,dd⟩:=aW (D:=e_T X.prog X.w) I.hok e hk
  exact dd.typeIs
 .obtain ⟨_,_,vs,_,dd⟩:=aW (D:=g_j X.prog X.w) I.hok e hk
  exact dd.typeIs
def pI (P:Program) (w:World):R2:=λx y H Q=>∃d v,x=.ref d/\nn P w H d y (some v)/\Q v H
theorem kZ (hu:X.A.units+64<cLine):IxR X (pI X.prog X.w):=by
 intro value slice pins s σ H x y v u Q I rx ry h hs
 obtain ⟨d,z,rfl,g,q⟩:=h
 cases rx
 refine tail_any (ops:=[.ref d,u]) (m4 I g) PySem.F.slot_dict_getitem.lookup ?_ hs
 rcases g with ⟨kvs,k,e,rfl,l⟩|⟨kvs,k,b,e,hk,rfl,kb,l⟩|⟨kvs,k,b,e,hk,rfl,kb,l⟩
 .cases ry
  obtain ⟨ns,_,vs,rel,dd⟩:=d_U I.hok e
  obtain ⟨w',hw,rw'⟩:=ar.some_of (v:=z) (o:=valueAt vs k) (by rw [l];exact rel.val k)
  exact wpAny_getItem_of (knd:=b_S X.prog X.w) (k:=k) (show k9 k (.bool k)=true by cases k <;> rfl) dd.mapOf hw (z,H,I.tok _,rw',q)
 .cases ry
  exact lq (D:=e_T X.prog X.w) hu I e hk kb l λw' s' I' rw'=>(z,H,I',rw',q)
 .cases ry
  exact lq (D:=g_j X.prog X.w) hu I e hk kb l λw' s' I' rw'=>(z,H,I',rw',q)
def pH (P:Program) (w:World):TSet:=λo i v H Q=>∃d H',o=.ref d/\qb P w H d i v H'/\Q H'
theorem set_dictG (hu:X.A.units+64<cLine):nc X (pH X.prog X.w):=by
 intro pins s σ H o i v ov iv u Q I ro ri rv h
 obtain ⟨d,H',rfl,g,q⟩:=h
 cases ro
 rcases g with ⟨kvs,k,e,rfl,hn,hl,rfl⟩|⟨kvs,k,b,e,hk,rfl,kb,hn,hl,rfl⟩|⟨kvs,k,b,e,hk,rfl,kb,hn,hl,rfl⟩
 .cases ri
  obtain ⟨ns,hz,vs,rel,dd⟩:=d_U I.hok e
  refine wpAny_setItem_pairs (knd:=b_S X.prog X.w) (k:=k) (hsz:=by rw [<- rel.length];exact hz) (show k9 k (.bool k)=true by cases k <;> rfl) dd λh' dd' hs=>(_,?_,q)
  have qn:=ar.none_of (show ar none (valueAt vs k) by rw [<- hn];exact rel.val k)
  rw [c_e qn] at dd'
  exact c_j I (by rw [e];exact True.intro) hs (let ⟨o,_,_,q,_⟩:=dd';(o,q)) (kd_ok ns (by rw [qa5];exact hl) (e_H rel rv) dd')
 .cases ri
  exact lm (D:=e_T X.prog X.w) hu I e hk kb hn hl rv λs' I'=>(_,I',q)
 .cases ri
  exact lm (D:=g_j X.prog X.w) hu I e hk kb hn hl rv λs' I'=>(_,I',q)
theorem call_lenD:g_e X (.builtin "len") (λxs H Q=>∃d n,xs=[V.ref d]/\qc X.prog X.w H d n/\Q (.int (n:Nat)) H):=by
 intro pins s σ H xs us Q I r h
 obtain ⟨d,n,rfl,g,q⟩:=h
 obtain ⟨u1,rfl,r1⟩:=d_C r
 cases r1
 rcases g with ⟨kvs,e,rfl⟩|⟨kvs,e,rfl⟩
 .obtain ⟨ns,hz,vs,rel,o,es,ep,h1,h2,h3,_,hp,_⟩:=d_U I.hok e
  have hs:es.size=kvs.length:=by rw [rel.length,<- hp.length];simp
  refine ip (X:=X) ns h1 h2 h3 (by lia) λt t'=>(.int (kvs.length:Nat),H,I.tok _,(t,by rw [hs]),q)
 .obtain ⟨ns,hz,xs,rel,o,es,ep,h1,h2,h3,he,_⟩:=(I.hok d _ e).1
  have hs:es.size=kvs.length:=by rw [Paired.length rel,<- length_toList,he,qa4]
  refine ip (X:=X) ns h1 h2 h3 (by lia) λt t'=>(.int (kvs.length:Nat),H,I.tok _,(t,by rw [hs]),q)
inductive DKd where
 | bl|nest|pair
def mM (P:Program) (w:World) (d:Addr):DKd->HO
 | .bl=>kdO (b_S P w) d []
 | .nest=>hdO (e_T P w) d []
 | .pair=>hdO (g_j P w) d []
theorem ow (h:Heap) (hb:sysModules<h.objs.size) (k:DKd):b_f P w H (h.push { cls:=.type "dict",data:=.dict #[] }) h.objs.size (mM P w h.objs.size k):=by
 have ns:(h.objs.size==sysModules)=false:=beq_eq_false_iff_ne.mpr (Ne.symm (ne_of_lt hb))
 cases k with
 | bl=>exact kd_ok (knd:=b_S P w) ns (zero_le _) .nil (Heap.DictOf.new h)
 | nest=>exact eL (D:=e_T P w) ns (zero_le _) .nil (Heap.DictOfH.new h)
 | pair=>exact eL (D:=g_j P w) ns (zero_le _) .nil (Heap.DictOfH.new h)
def pB (P:Program) (w:World):TE:=λ_ H Q=>∃k,∀p,H p=none->Q (.ref p) (upd H p (mM P w p k))
theorem mD:PE X (.Dict [] [] pos) (pB X.prog X.w):=λpins s σ H Q I ⟨k,h⟩=>
 wpAny_Dict_empty (.ref s.heap.objs.size,_,I.laid (a:=s.heap.objs.size) (o:=mM X.prog X.w s.heap.objs.size k) (t':=s.toks) (λ_ _ q=>qa9 _ q) (le_refl _) (ow s.heap I.bigS k),rfl,h _ (I.hok.fresh (le_refl _)))
end
section
variable {X:Cx} {elt iter:Expr} {x y:Str} {px py pt pos:Pos} {kt:Nat} {sc:Scope} {wi:TI} {te:TE}
def j5 (K:Frag) (wi:TI) (te:TE):TE:=λσ H Q=>wi σ H λJ H1=>∀D,H1 D=none->∃W:Nat->Nat->List V->Hp->Prop,
 (∃m,W 0 m [] (upd H1 D (.lst [])))/\∀i m ys H2,W i m ys H2->H2 D=some (.lst ys)/\((J.stop i H2/\Q (.ref D) H2)\/(J.go i H2/\ys.length<sizeLine/\∀x H3,J.yld i H2 x H3->
  ∃p a b,x=.ref p/\SqT K H3 p [a,b]/\te (some a::some b::σ) H3 λy H5=>H5 D=some (.lst ys)/\∃m',m'<m/\W (i+1) m' (ys++[y]) (upd H5 D (.lst (ys++[y])))))
end
section
variable {prog:Program} {w:World} {A:Around} {E:Value->Shared->Prop} {s:Shared} {it t:Addr} {i:Nat} {items:Array Value}
theorem fX (hit:s.heap.IsTupleIter it t i) (ht:s.heap.IsTuple t items) (hx:items[i]?=some x) (hQ:∀h',h'.IsTupleIter it t (i+1)->SameBut it s.heap h'->Q x { s with heap:=h' }):
  wpAny (model prog w) A (Builtin.SmallTypes.nextOf (.ref it)) Q E s:=by
 obtain ⟨o,ho,hc,hd⟩:=id hit
 obtain ⟨ol,hol,_,nl,hdl⟩:=ht
 unfold Builtin.SmallTypes.nextOf
 refine qa7 (wpAny_callSpecial?_slot (name:=Str.ofString "__next__") hit.typeIs F.slot_tuple_iterator_next (wpAny_call_entry F.slot_tuple_iterator_next hit.typeIs F.entry_tuple_iterator_next ?_ (F.args_tuple_iterator_next_1 _)))
 refine qa7 (m:=field (.ref it) 0) (wpAny_field ho hd (x:=.ref t) rfl (wpAny_ite_false rfl (qa7 (m:=field (.ref it) 1) (wpAny_field ho hd (x:=.int i 0) rfl (qa7 (m:=seqItems? (.ref t)) (wpAny_seqItems hol hdl ?_))))))
 simp only [toNat_natCast,hx]
 refine qa7 (wpAny_setField ho hd (by simp) (qa8 (x,rfl,qa8 (hQ _ (_,Heap.get?_update_self _ ho (Obj.isFreed_of_fields (Obj.data_mapFields hd _)),(Obj.cls_mapFields ..).trans hc,?_) (SameBut.update ..)))))
 rw [Obj.data_mapFields hd]
 simp [rawInt]
theorem je (hh:A.handled=none) (hit:s.heap.IsTupleIter it t i) (ht:s.heap.IsTuple t items) (hx:items[i]?=none)
  (hE:∀h' e,Heap.ExtBut it s.heap h'->(∃o,h'.get? e=some o/\o.cls=.type "StopIteration")->E (.ref e) { s with heap:=h' }):wpAny (model prog w) A (Builtin.SmallTypes.nextOf (.ref it)) Q E s:=by
 obtain ⟨o,ho,hc,hd⟩:=id hit
 obtain ⟨ol,hol,_,nl,hdl⟩:=ht
 unfold Builtin.SmallTypes.nextOf
 refine qa7 (wpAny_callSpecial?_slot (name:=Str.ofString "__next__") hit.typeIs F.slot_tuple_iterator_next (wpAny_call_entry F.slot_tuple_iterator_next hit.typeIs F.entry_tuple_iterator_next ?_ (F.args_tuple_iterator_next_1 _)))
 refine qa7 (m:=field (.ref it) 0) (wpAny_field ho hd (x:=.ref t) rfl (wpAny_ite_false rfl (qa7 (m:=field (.ref it) 1) (wpAny_field ho hd (x:=.int i 0) rfl (qa7 (m:=seqItems? (.ref t)) (wpAny_seqItems hol hdl ?_))))))
 simp only [toNat_natCast,hx]
 refine qa7 (wpAny_rule (qa7 (wpAny_setField ho hd (by simp) (qa7 (m:=newExc (.type "StopIteration") []) ?_))))
 simp only [newExc,newTuple]
 refine qa7 (wpAny_newObj_type (qa7 (m:=firstArgMember _ _) (wpAny_of_eq (a:=Value.none) (by first|rfl|(simp only [firstArgMember];rfl)) (wpAny_newObj_type ?_ (by size_fits)))) (by size_fits))
 simp only [raiseNew]
 refine qa7 (wpAny_handled ?_)
 first|rw [show A.in1.handled=none from hh]|rw [hh]
 exact qa7 (qa8 (wpAny_throw (hE _ _ (((SameBut.update ..).extBut.push _).push _) (_,get?_push_size _ rfl,rfl))))
end
theorem IsTup.keeps {h h':Heap} (x:h.IsTuple t items) (k:∀o,h.get? t=some o->h'.get? t=some o):h'.IsTuple t items:=let ⟨o,e,r⟩:=x;(o,k o e,r)
theorem gD (hh:A.handled=none) (it t:Addr) (hne:t≠it) (items:Array Value):
  Draws prog w A it [it,t] items.size (λi v=>items[i]?=some v) (λi h=>h.IsTupleIter it t i/\h.IsTuple t items)  where
 live:=λ_ _ st=>let ⟨o,ho,_⟩:=st.1;(o,ho)
 frame:=λ_ _ _ st hk=>(st.1.at λo e=>hk it (by simp) o e,IsTup.keeps st.2 λo e=>hk t (by simp) o e)
 item:=λi s Q E hi st hQ=>fX st.1 st.2 (x:=items[i]) (by simp [hi]) λh' hit' hs'=>hQ _ h' s.toks (by simp [hi]) (hit',IsTup.keeps st.2 λo e=>(hs'.2 t hne).trans e) hs'
 done:=λs Q E st hE=>je hh st.1 st.2 (by simp) hE
theorem iU:isSubtype (.type "enumerate") (.type "enumerate")=pure true:=by rw [isSubtype_type];kernel_rfl
set_option maxHeartbeats 1000000 in
theorem eE (l:Addr) (items:Array Value) (n:Nat) (dct:Option Addr) (sl:Array (Option Value)):
  Meets (Builtin.«enumerate.__new__» ([.type "enumerate",.ref l],[])) (λ_ R s=>s.heap.get? l=some { cls:=.type "tuple",dict:=dct,data:=.seq items n,slots:=sl }/\
   R (.ok (.ret (.ref (s.heap.push { cls:=.type "tuple_iterator",data:=.fields #[.ref l,.int 0 0] }).objs.size)))
    { s with heap:=(s.heap.push { cls:=.type "tuple_iterator",data:=.fields #[.ref l,.int 0 0] }).push { cls:=.type "enumerate",data:=.fields #[.none,.bool false,.ref s.heap.objs.size,rawInt 0,.none,.none] } }):=
 .of_wp λprog w A R s h=>by
  obtain ⟨hp,g,d,tk,os⟩:=s
  obtain ⟨hl,h⟩:=h
  have hsub:=iU
  have hT:hp.IsTuple l items:=(_,hl,rfl,n,rfl)
  wp_walk using wpAny_pyIter_tuple hT
  refine wpAny_stack_any λst=>qa8 ?_
  split
  .rename_i c _ _ _ _ _
   cases (c==Value.type "enumerate") <;> (wp_walk using wpAny_pyIter_tuple hT;exact (_,rfl,h))
  .wp_walk using wpAny_pyIter_tuple hT
   exact (_,rfl,h)
theorem gJ (hL:s.heap.IsTuple l items)
  (h:∀h',IsEnum h' (s.heap.objs.size+1) s.heap.objs.size 0 .none->h'.IsTupleIter s.heap.objs.size l 0->(∀b o,s.heap.get? b=some o->h'.get? b=some o)->Q (.ref (s.heap.objs.size+1)) { s with heap:=h' }):
  wpAny (model prog w) A (call (.type "enumerate") [.ref l]) Q E s:=by
 obtain ⟨⟨c,dct,dt,sl⟩,hl,hc,n,hd⟩:=hL
 simp only at hc hd
 subst hc hd
 refine callType_new F.called_enumerate (by decide) (F.typeCall_enumerate_1 _) (F.newCall_enumerate_1 _) (λobj=>F.args_object_init_2 obj _) F.entry_enumerate_new (eE l items n dct sl) (hl,?_)
 generalize hG:s.heap.push { cls:=.type "tuple_iterator",data:=.fields #[.ref l,.int 0 0] }=G
 have hz:G.objs.size=s.heap.objs.size+1:=by rw [<- hG];exact size_push ..
 have he:IsEnum (G.push { cls:=.type "enumerate",data:=.fields #[.none,.bool false,.ref s.heap.objs.size,rawInt 0,.none,.none] }) (s.heap.objs.size+1) s.heap.objs.size 0 .none:=by
  have q:=get?_push_size G (o:={ cls:=.type "enumerate",data:=.fields #[.none,.bool false,.ref s.heap.objs.size,rawInt 0,.none,.none] }) rfl
  rw [hz] at q
  exact q
 show _/\_
 rw [hz]
 exact ((_,he,rfl),h _ he (_,qa9 _ (by rw [<- hG];exact get?_push_size _ rfl),rfl,rfl) λb o x=>qa9 _ (by rw [<- hG];exact qa9 _ x))
def nh (a:Addr):It:=⟨λi H=>∃xs x,H a=some (.tup xs)/\xs[i]?=some x,λi H v H'=>∃p x xs,H a=some (.tup xs)/\xs[i]?=some x/\v=.ref p/\H p=none/\H'=upd H p (.tup [.int (i:Int),x]),λi H=>∃xs,H a=some (.tup xs)/\i=xs.length⟩
theorem fG {K:Frag} (a e it:Addr) (hne:e≠it):aY P w K (.Tuple es kt pt) (nh a) [e,it] e (λi h=>(∃old,IsEnum h e it i old)/\h.IsTupleIter it a i)  where
 mem:=by simp
 obj:=λi h hZ2 c hc=>by
  obtain ⟨⟨old,he⟩,⟨o1,e1,_,d1⟩⟩:=hZ2
  simp only [mem_cons,not_mem_nil,or_false] at hc
  rcases hc with rfl|rfl
  .exact (_,he,λv q=>by cases q)
  .exact (o1,e1,λv q=>by rw [d1] at q;cases q)
 keep:=λi h h' hZ0 k=>by obtain ⟨⟨old,he⟩,⟨o1,e1,r1⟩⟩:=hZ0;exact ((old,k e (by simp) _ he),(o1,k it (by simp) _ e1,r1))
 item:=by
  rintro X hP hw hK hc i pins s σ H E I hf ⟨⟨old,he⟩,s1⟩ hg
  subst hP hw hK
  obtain ⟨xs,x,hq,hx⟩:=hg
  obtain ⟨its,rv,p,hz⟩:=I.tuple (SqT.of hq)
  obtain ⟨u,hu,ru⟩:=rv.get hx
  have p':s.heap.IsTuple a its.toArray:=p
  have hlt:i<its.toArray.size:=by
   have:=(qa1 hu).1
   simpa using this
  have hat:a≠it:=by
   obtain ⟨o,e1,c1,_⟩:=p'
   obtain ⟨o2,e2,c2,_⟩:=s1
   rintro rfl
   rw [e1] at e2
   cases e2
   rw [c1] at c2
   exact absurd c2 (by decide)
  have hae:e≠a:=by
   obtain ⟨o,e1,c1,_⟩:=p'
   rintro rfl
   have he':s.heap.get? e=some _:=he
   rw [e1] at he'
   cases he'
   exact absurd (show Value.type "enumerate"=Value.type "tuple" from c1) (by decide)
  refine wpAny_pyNext_enum_itemD (gD (A:=X.A.in1) (I.ok.hd hc) it a hat its.toArray) he (s1,p') hlt hne (by simp [hne,hae]) λv g tk pv ho st new hsz gk=>(_,rfl,?_)
  have ev:v=u:=by
   have:its.toArray[i]?=some v:=pv
   rw [getElem?_toArray,hu] at this
   exact (Option.some.inj this).symm
  subst ev
  refine wpAny_letOwnedTupleGo_enum (s:={ s with heap:=g,toks:=tk+1 }) ho λg' ge gs=>?_
  have up:∀b o,b≠e->g.get? b=some o->g'.get? b=some o:=λb o hb q=>(gs.2 b hb).trans q
  have ne:s.heap.objs.size≠e:=ne_of_gt (lt_size he)
  have tup:b_f X.prog X.w (upd H s.heap.objs.size (.tup [.int (i:Int),x])) g' s.heap.objs.size (.tup [.int (i:Int),x]):=
   (a_d (by show 2≤16777216;decide),[.int i tk,v],.cons (_,rfl) (.cons ru .nil),(_,up _ _ ne new,rfl,0,rfl))
  refine (.ref s.heap.objs.size,_,I.turnedNew (S:=[e,it]) (h':=g') (t':=tk+1) (λb o hb q=>up b o (λz=>hb (by simp [z])) (gk b o (λz=>hb (by simp [z])) (λz=>hb (by simp [z])) q)) hf tup,rfl,
   (_,x,xs,hq,hx,rfl,I.hok.fresh (le_refl _),rfl),((_,by rw [Int.natCast_succ];exact ge),st.1.at λo q=>up _ o (λz=>hne z.symm) q),λb hb=>?_)
  have lt:b<s.heap.objs.size:=by
   obtain ⟨o1,e1,_⟩:=s1
   simp only [mem_cons,not_mem_nil,or_false] at hb
   rcases hb with rfl|rfl
   .exact lt_size he
   .exact lt_size e1
  rw [upd_ne (ne_of_lt lt)]
  exact (hf b hb).1
 done:=by
  rintro X hP hw hK hc i pins s σ H E I hf ⟨⟨old,he⟩,s1⟩ hstop
  subst hP hw hK
  obtain ⟨xs,hq,rfl⟩:=hstop
  obtain ⟨its,rv,p,hz⟩:=I.tuple (SqT.of hq)
  have p':s.heap.IsTuple a its.toArray:=p
  have hat:a≠it:=by
   obtain ⟨o,e1,c1,_⟩:=p'
   obtain ⟨o2,e2,c2,_⟩:=s1
   rintro rfl
   rw [e1] at e2
   cases e2
   rw [c1] at c2
   exact absurd c2 (by decide)
  have hsz:xs.length=its.toArray.size:=by rw [rv.length];simp
  refine wpAny_pyNext_enum_endD (gD (A:=X.A.in1) (I.ok.hd hc) it a hat its.toArray) he (by rw [<- hsz];exact s1,p') λg gs=>(rfl,?_)
  exact I.turnedL (S:=[e,it]) (λb o hb q=>gs b o (λz=>hb (by simp [z])) q) hf
 self:=λ_ _ _ _ _ st h=>by
  obtain ⟨⟨old,he⟩,_⟩:=st
  exact wpAny_pyIter_enum he h
namespace ZP
section
variable {prog:Program} {w:World} {A:Around} {E:Value->Shared->Prop} {s:Shared} {z TI TO i1 i2:Addr} {f1 f2:List Addr} {n1 n2 k:Nat} {P1 P2:Nat->Value->Prop} {S1 S2:Nat->Heap->Prop} {a b:Value}
def tupIt (a:Addr):Obj:={ cls:=.type "tuple_iterator",data:=.fields #[.ref a,.int 0 0] }
theorem k6 {a:Addr} (ht:s.heap.IsTuple a items) (h:Q (.ref s.heap.objs.size) { s with heap:=s.heap.push (tupIt a) }):wpAny (model prog w) A (pyIter (.ref a)) Q E s:=wpAny_pyIter_tuple ht h
end
end ZP
end L2
namespace L2
open PySem PySem.Spec PyProof.Rows
theorem eK:∀{ns:List Int} {us:List Value},ab (ns.map V.int) us->IntsAre us ns
 | [],_,r=>by rw [List.map_nil] at r;cases r;exact .nil
 | n::ns,_,r=>by
  rw [map_cons] at r
  cases r with
  | cons h t=>
   obtain ⟨u,rfl⟩:=(show ∃t,_=Value.int n t from h)
   exact .cons n u (eK t)
section
variable {X:Cx}
def rIndexB:V->List V->Hp->VK->Prop:=λx vs H Q=>∃(l:Addr) (bs:List Bool),x=.ref l/\vs=[.bl false]/\H l=some (.lst (bs.map V.bl))/\false∈bs/\Q (.int (bs.idxOf false:Nat)) H
theorem bG:MtM X "list.index" rIndexB:=by
 intro pins s σ H x vs v us Q I rx rv h
 obtain ⟨l,bs,rfl,rfl,hH,hm,q⟩:=h
 cases rx
 obtain ⟨u,rfl,ru⟩:=rv.one
 cases ru
 obtain ⟨z,its,n,r,hl,e⟩:=I.lstM hH
 have hlen:its.length=bs.length:=by rw [<- r.length,qa4]
 have hlt:bs.idxOf false<bs.length:=idxOf_lt_length_of_mem hm
 have at_:∀(j:Nat) (hj:j<its.toArray.size),∃hb:j<bs.length,its.toArray[j]=.bool bs[j]:=λj hj=>by
  have hb:j<bs.length:=by simpa [hlen] using hj
  refine (hb,?_)
  obtain ⟨a,ea,ra⟩:=r.get (i:=j) (x:=.bl bs[j]) (by rw [qa6,qa2 hb];rfl)
  cases ra
  obtain ⟨_,q⟩:=qa1 ea
  simpa using q
 have hsm:((bs.idxOf false:Nat):Int)<2 ^ 63 - 1:=by
  have h9:(bs.map V.bl).length≤sizeLine:=(I.lst hH).choose_spec.choose_spec.2.2
  rw [qa4,sizeLine_eq] at h9
  lia
 refine call_meets F.slot_list_index (_,e,rfl) F.entry_list_index (F.args_list_index_2 _ _) (SeqAt.list_indexAt l its.toArray n none #[] (.bool false) (λy=>match y with|.bool b=>b==false|_=>false) (bs.idxOf false) (by simpa [hlen] using hlt) hsm ?_ ?_) (e,?_,(.int _,H,I.tok _,(_,rfl),q))
 .obtain ⟨hb,e1⟩:=at_ (bs.idxOf false) (by simpa [hlen] using hlt)
  rw [e1]
  have:=getElem_idxOf hb
  rw [this]
  rfl
 .intro m hm2 hlt2
  obtain ⟨hb,e1⟩:=at_ m hm2
  rw [e1]
  show (bs[m]==false)=false
  cases hbm:bs[m] with
  | true=>rfl
  | false=>
   have:=RA.e_j (l:=bs) (c:=false) (i:=m) (by rw [qa2 hb,hbm])
   lia
 .intro y hy
  obtain ⟨j,hj,rfl⟩:=mem_iff_getElem.mp hy
  obtain ⟨hb,e1⟩:=at_ j hj
  rw [e1]
  exact SeqAt.EqAt.bool_bool _ _
def qu (K:Frag):R2:=λx y H Q=>∃(p q:Addr) (xs ys:List Int),x=.ref p/\y=.ref q/\H p=some (.lst (xs.map V.int))/\H q=some (.lst (ys.map V.int))/\xs.length=ys.length/\Q (.bl (decide (xs=ys))) H
theorem oq (hu:X.A.units<cLine):OpR X (compareOp .Eq) (qu X.K):=by
 intro pins s σ H x y v u Q I rx ry h
 obtain ⟨p,q,xs,ys,rfl,rfl,hp,hq,hl,k⟩:=h
 cases rx
 cases ry
 obtain ⟨its,r1,pl1,hz1⟩:=I.list (SqL.of hp)
 obtain ⟨its2,r2,pl2,hz2⟩:=I.list (SqL.of hq)
 have l1:=r1.length
 have l2:=r2.length
 rw [qa4] at l1 l2
 refine SeqAt.eq_listAt (e:=λj=>decide (xs.getD j 0=ys.getD j 0)) pl1.isList pl2.isList (by simp;lia) hu (λj h1 h2=>?_) (.bl _,H,I,rfl,?_)
 .have hj:j<xs.length:=by simp at h1;lia
  have hj2:j<ys.length:=by lia
  obtain ⟨a,ea,ra⟩:=r1.get (i:=j) (x:=.int xs[j]) (by rw [qa6,qa2 hj];rfl)
  obtain ⟨b,eb,rb⟩:=r2.get (i:=j) (x:=.int ys[j]) (by rw [qa6,qa2 hj2];rfl)
  obtain ⟨t,rfl⟩:=ra
  obtain ⟨t',rfl⟩:=rb
  have e1:its.toArray[j]=.int xs[j] t:=by
   obtain ⟨_,e⟩:=qa1 ea
   simpa using e
  have e2:its2.toArray[j]=.int ys[j] t':=by
   obtain ⟨_,e⟩:=qa1 eb
   simpa using e
  rw [e1,e2]
  have e3:decide (xs.getD j 0=ys.getD j 0)=(xs[j]==ys[j]):=by
   rw [qa3,qa3,qa2 hj,qa2 hj2]
   by_cases z:xs[j]=ys[j] <;> simp [z]
  show SeqAt.EqAt _ _ _ _ (decide (xs.getD j 0=ys.getD j 0))
  rw [e3]
  exact SeqAt.EqAt.int_int _ t _ t'
 .have e:((List.range its.toArray.size).all λj=>decide (xs.getD j 0=ys.getD j 0))=decide (xs=ys):=by
   have hs:its.toArray.size=xs.length:=by simp;lia
   rw [hs]
   by_cases z:xs=ys
   .subst z
    simp
   .rw [decide_eq_false z,eq_false_iff]
    intro all
    refine z (List.ext_getElem? λi=>?_)
    rw [all_eq_true] at all
    by_cases hi:i<xs.length
    .have:=of_decide_eq_true (all i (mem_range.mpr hi))
     rw [qa3,qa3,qa2 hi,qa2 (by lia)] at this
     rw [qa2 hi,qa2 (by lia)]
     exact congrArg some this
    .rw [getElem?_eq_none (by lia),getElem?_eq_none (by lia)]
  rw [e]
  exact k
end
def Itv (a:Addr) (n:Nat):It:=⟨λi H=>∃xs,H a=some (.lst xs)/\xs.length=n/\i<n,λi H v H'=>H'=H/\∃xs,H a=some (.lst xs)/\xs[n - 1 - i]?=some v,λi _=>i=n⟩
theorem jV {K:Frag} (a it:Addr) (n:Nat):aY P w K tg (Itv a n) [it] it (λi h=>h.IsRevIter it a ((n:Int) - 1 - (i:Int)))  where
 mem:=by simp
 obj:=λi h st b hb=>by
  have e:b=it:=by simpa using hb
  subst e
  obtain ⟨o,e,c,d⟩:=st
  exact (o,e,λv z=>by rw [d] at z;cases z)
 keep:=λi h h' st k=>st.at λo e=>k it (by simp) o e
 item:=by
  intro X hP hw hK hc i pins s σ H E I hf st hg
  subst hP hw hK
  obtain ⟨xs,hq,hl,hi⟩:=hg
  have e0:(n:Int) - 1 - (i:Int)=((n - 1 - i:Nat):Int):=by omega
  rw [e0] at st
  have hx:xs[n - 1 - i]?=some (xs[n - 1 - i]'(by omega)):=qa2 _
  obtain ⟨its,rv,p,hz⟩:=I.list (SqL.of hq)
  obtain ⟨u,hu,ru⟩:=rv.get hx
  obtain ⟨f0,f1,f2,f3,f4,f5⟩:=hf it (by simp)
  refine wpAny_pyNext_rev_item st p.isList (x:=u) (by simpa using hu) λh' st' sb=>?_
  have I1:Inv X pins σ H { s with heap:=h' }:=I.turned (t':=s.toks) (λb o hb e=>(sb.2 b hb).trans e) f0 f1 f3 f4 f5
  have e2:((n - 1 - i:Nat):Int) - 1=(n:Int) - 1 - ((i+1:Nat):Int):=by lia
  rw [e2] at st'
  obtain ⟨o,ho,hcl,hd⟩:=id st'
  refine (u,rfl,bR (s:={ s with heap:=h' }) ho hcl hd (by decide) (_,H,I1,ru,(rfl,xs,hq,hx),st',λb hb=>?_))
  have e:b=it:=by simpa using hb
  subst e
  exact f0
 done:=by
  intro X hP hw hK hc i pins s σ H E I hf st hg
  subst hP hw hK
  have hg:i=n:=hg
  have e0:(n:Int) - 1 - (i:Int)=-1:=by lia
  rw [e0] at st
  obtain ⟨f0,f1,f2,f3,f4,f5⟩:=hf it (by simp)
  exact wpAny_pyNext_rev_end (I.ok.hd hc) st λh' sb=>(rfl,I.turned (t':=s.toks) (λb o hb e=>sb b o hb e) f0 f1 f3 f4 f5)
 self:=λ_ _ _ _ _ st h=>wpAny_pyIter_revIter st h
def qz (t:TA):TI:=λσ H R=>t σ H λvs H1=>∃a xs,vs=[.ref a]/\H1 a=some (.lst xs)/\R (Itv a xs.length) H1
theorem n6 {tg a:Expr} {p pos:Pos} (hg:Gl X "reversed") (hm:X.mg "reversed"=none) (ha:PA X [a] ta) (hs:starEach [a] X.env=(false,eval a X.env,)::starEach [] X.env:=by rfl)
  (hpl:(backTo pos (starEach [] X.env)).any (·.1)=false:=by rfl):PI X tg (.Call (.Name "reversed" p) [a] [] pos) (qz ta):=by
 intro pins s σ H R I h
 refine wpAny_Call_Name_kw (ld_blt I hg hm PyProof.Rows.boot_reversed (PyProof.Rows.callWith_type1 (thn (ha pos pins s σ H _ I h) λus s1 z=>?_) hs hpl))
 obtain ⟨vs,H1,I1,r1,b,xs,rfl,hq,q⟩:=z
 obtain ⟨u1,rfl,r2⟩:=d_C r1
 cases r2
 obtain ⟨its,rv,pp,hz⟩:=I1.list (SqL.of hq)
 have hsz:its.toArray.size=xs.length:=by rw [rv.length];simp
 refine call_reversed_list pp.isList ?_
 have hn:(s1.heap.push (revObj b ((its.toArray.size:Int) - 1))).IsRevIter s1.heap.objs.size b ((xs.length:Int) - 1 - ((0:Nat):Int)):=(_,get?_push_size _ rfl,rfl,by rw [hsz];simp [revObj])
 refine wpAny_pyIter_revIter (s:={ s1 with heap:=s1.heap.push (revObj b ((its.toArray.size:Int) - 1)) }) hn ?_
 refine (_,[s1.heap.objs.size],_,Itv b xs.length,H1,rfl,I1.kept (t':=s1.toks) λb o e=>qa9 _ e,jV b _ _,hn,λc hc=>?_,q)
 have e:c=s1.heap.objs.size:=by simpa using hc
 subst e
 exact I1.fpOk (le_refl _) (I1.hok.fresh (le_refl _))
def jL (J:It) (a:Addr) (o:HO) (xs:List V):Prop:=∀H2:Hp,H2 a=some o->(∀i,i<xs.length->J.go i H2)/\(∀i x H3,i<xs.length->J.yld i H2 x H3->H3=H2/\xs[i]?=some x)/\J.stop xs.length H2
theorem oh {K:Frag}:jL (Itl K a) a (.lst xs) xs:=λH2 e=>
 (λi h=>(xs,xs[i],SqL.of e,qa2 h),λi x H3 _ hZ1=>by obtain ⟨e1,h⟩:=hZ1;exact (e1,h xs (SqL.of e)),(xs,SqL.of e,le_refl _))
theorem oa {K:Frag}:jL (Itt K a) a (.tup xs) xs:=λH2 e=>
 (λi h=>(xs,xs[i],SqT.of e,qa2 h),λi x H3 _ hZ2=>by obtain ⟨e1,h⟩:=hZ2;exact (e1,h xs (SqT.of e)),(xs,SqT.of e,le_refl _))
def iSq (tl:TE):TI:=λσ H R=>tl σ H λx H1=>∃a o xs,x=.ref a/\(o=.lst xs\/o=.tup xs)/\H1 a=some o/\∀J,jL J a o xs->R J H1
theorem c_c (hl:PE X l tl):PI X tg l (iSq tl):=by
 intro pins s σ H R I h
 refine thn (hl pins s σ H _ I h) λv s1 hZ0=>?_
 obtain ⟨x,H1,I1,r1,q1⟩:=hZ0
 obtain ⟨a,o,xs,e,ho,hq,q⟩:=q1
 subst e
 cases r1
 have tail:∀b∈[s1.heap.objs.size],aG X pins H1 b:=λb hb=>by
  have e:b=s1.heap.objs.size:=by simpa using hb
  subst e
  exact I1.fpOk (le_refl _) (I1.hok.fresh (le_refl _))
 rcases ho with rfl|rfl
 .obtain ⟨its,rv,p,hz⟩:=I1.list (SqL.of hq)
  refine wpAny_pyIter_list p.isList ?_
  exact (s1.heap.objs.size,[s1.heap.objs.size],_,_,H1,rfl,I1.kept (t':=s1.toks) λb o e=>qa9 _ e,bp a _,(_,get?_push_size _ rfl,rfl,rfl),tail,q _ oh)
 .obtain ⟨its,rv,p,hz⟩:=I1.tuple (SqT.of hq)
  refine wpAny_pyIter_tuple (show s1.heap.IsTuple a its.toArray from p) ?_
  exact (s1.heap.objs.size,[s1.heap.objs.size],_,_,H1,rfl,I1.kept (t':=s1.toks) λb o e=>qa9 _ e,g_o a _,(_,get?_push_size _ rfl,rfl,rfl),tail,q _ oa)
theorem eO {g:TG} {tb:TS} {D:aK} (ov:jL J a o xs) (Pv:Nat->St->Hp->Prop) (h0:Pv 0 σ H) (hl:∀i σ H,Pv i σ H->H a=some o)
  (hs:∀i x σ H,xs[i]?=some x->Pv i σ H->g x σ H λσ2 H2=>tb { D with nx:=Pv (i+1),ct:=Pv (i+1),bk:=D.nx } σ2 H2) (hd:∀ σ H,Pv xs.length σ H->D.nx σ H):
  ∃W:Nat->Nat->St->Hp->Prop,(∃m,W 0 m σ H)/\∀i m σ H,W i m σ H->
   (J.stop i H/\D.nx σ H)\/(J.go i H/\∃N:St->Hp->Prop,(∀ σ' H',N σ' H'->∃m',m'<m/\W (i+1) m' σ' H')/\∀x H',J.yld i H x H'->g x σ H' λσ2 H2=>tb { D with nx:=N,ct:=N,bk:=D.nx } σ2 H2):=by
 refine (λi m σ H=>m=xs.length - i/\i≤xs.length/\Pv i σ H,(xs.length,by simp,zero_le _,h0),?_)
 rintro i m σ H ⟨rfl,hi,p⟩
 obtain ⟨q1,q2,q3⟩:=ov H (hl i σ H p)
 by_cases hlt:i<xs.length
 .refine .inr (q1 i hlt,Pv (i+1),λσ' H' p'=>(xs.length - (i+1),sub_succ_lt_self _ _ hlt,rfl,hlt,p'),λx H' y=>?_)
  obtain ⟨e,y2⟩:=q2 i x H' hlt y
  subst e
  exact hs i x σ _ y2 p
 .have e:i=xs.length:=le_antisymm hi (le_of_not_lt hlt)
  subst e
  exact .inl (q3,hd σ H p)
theorem b7 {tt:TT} {te:TE} {σ:St} {Q:VK} (ov:jL J a o xs) (hH:H a=some o) (Pv:Addr->Nat->List V->Hp->Prop) (hz:xs.length≤sizeLine)
  (h0:∀D,H D=none->Pv D 0 [] (upd H D (.lst [])))
  (hs:∀(D:Addr) (i:Nat) (x:V) (ys:List V) (H':Hp) (R1:VK) (R2:Hp->Prop),H D=none->xs[i]?=some x->Same H H'->H' D=some (.lst ys)->Pv D i ys H'->
   (∀y H5,H5 D=some (.lst ys)->Same H (upd H5 D (.lst (ys++[y])))->Pv D (i+1) (ys++[y]) (upd H5 D (.lst (ys++[y])))->R1 y H5)->(∀H4,Same H H4->H4 D=some (.lst ys)->Pv D (i+1) ys H4->R2 H4)->
   tt (some x::σ) H' λb H4=>if b=true then te (some x::σ) H4 R1 else R2 H4)
  (hq:∀D ys H',H D=none->Same H H'->H' D=some (.lst ys)->Pv D xs.length ys H'->Q (.ref D) H'):∀D,H D=none->∃W:Nat->Nat->List V->Hp->Prop,
 (∃m,W 0 m [] (upd H D (.lst [])))/\∀i m ys H2,W i m ys H2->H2 D=some (.lst ys)/\((J.stop i H2/\Q (.ref D) H2)\/(J.go i H2/\ys.length<sizeLine/\∀x H3,J.yld i H2 x H3->
  tt (some x::σ) H3 λb H4=>if b=true then te (some x::σ) H4 λy H5=>H5 D=some (.lst ys)/\∃m',m'<m/\W (i+1) m' (ys++[y]) (upd H5 D (.lst (ys++[y])))
   else ∃m',m'<m/\W (i+1) m' ys H4)):=by
 intro D hD
 refine (λi m ys H2=>m=xs.length - i/\i≤xs.length/\ys.length≤i/\Same H H2/\H2 D=some (.lst ys)/\Pv D i ys H2,(xs.length,by simp,zero_le _,by simp,Same.upd hD,upd_same,h0 D hD),?_)
 rintro i m ys H2 ⟨rfl,hi,hy,hsm,hDl,hp⟩
 refine (hDl,?_)
 obtain ⟨q1,q2,q3⟩:=ov H2 (hsm _ _ hH)
 by_cases hlt:i<xs.length
 .refine .inr (q1 i hlt,lt_of_le_of_lt hy (lt_of_lt_of_le hlt hz),λx H3 hyl=>?_)
  obtain ⟨e,hx⟩:=q2 i x H3 hlt hyl
  subst e
  exact hs D i x ys H3 _ _ hD hx hsm hDl hp (λy H5 a b c=>(a,xs.length - (i+1),sub_succ_lt_self _ _ hlt,rfl,hlt,by rw [qa5];exact Nat.succ_le_succ hy,b,upd_same,c)) (λH4 a b c=>(xs.length - (i+1),sub_succ_lt_self _ _ hlt,rfl,hlt,Nat.le_succ_of_le hy,a,b,c))
 .have e:i=xs.length:=le_antisymm hi (le_of_not_lt hlt)
  subst e
  exact .inl (q3,hq D ys H2 hD hsm hDl hp)
def gO (K:Frag) (J:It) (te:TE) (σ:St) (H1:Hp) (Q:VK):Prop:=∀D,H1 D=none->∃W:Nat->Nat->List V->Hp->Prop,
 (∃m,W 0 m [] (upd H1 D (.lst [])))/\∀i m ys H2,W i m ys H2->H2 D=some (.lst ys)/\((J.stop i H2/\Q (.ref D) H2)\/(J.go i H2/\ys.length<sizeLine/\∀x H3,J.yld i H2 x H3->
  ∃p a b,x=.ref p/\SqT K H3 p [a,b]/\te (some a::some b::σ) H3 λy H5=>H5 D=some (.lst ys)/\∃m',m'<m/\W (i+1) m' (ys++[y]) (upd H5 D (.lst (ys++[y])))))
theorem g_K {K:Frag} {σ:St} (Pr:Nat->V->V->Prop) (Pv:Addr->Nat->List V->Hp->Prop) (hz:n≤sizeLine)
  (j1:∀i H2,Same H H2->i<n->J.go i H2) (j2:∀i H2 x H3,Same H H2->i<n->J.yld i H2 x H3->∃p a b,x=.ref p/\Pr i a b/\H2 p=none/\H3=upd H2 p (.tup [a,b])) (j3:∀H2,Same H H2->J.stop n H2)
  (h0:∀D,H D=none->Pv D 0 [] (upd H D (.lst [])))
  (hs:∀(D:Addr) (i:Nat) (a b:V) (ys:List V) (H' H3:Hp) (R1:VK),H D=none->i<n->Pr i a b->Same H H'->H' D=some (.lst ys)->Pv D i ys H'->Same H' H3->
   (∀y H5,H5 D=some (.lst ys)->Same H (upd H5 D (.lst (ys++[y])))->Pv D (i+1) (ys++[y]) (upd H5 D (.lst (ys++[y])))->R1 y H5)->te (some a::some b::σ) H3 R1)
  (hq:∀D ys H',H D=none->Same H H'->H' D=some (.lst ys)->Pv D n ys H'->Q (.ref D) H'):gO K J te σ H Q:=by
 intro D hD
 refine (λi m ys H2=>m=n - i/\i≤n/\ys.length≤i/\Same H H2/\H2 D=some (.lst ys)/\Pv D i ys H2,(n,by simp,zero_le _,by simp,Same.upd hD,upd_same,h0 D hD),?_)
 rintro i m ys H2 ⟨rfl,hi,hy,hsm,hDl,hp⟩
 refine (hDl,?_)
 by_cases hlt:i<n
 .refine .inr (j1 i H2 hsm hlt,lt_of_le_of_lt hy (lt_of_lt_of_le hlt hz),λx H3 hyl=>?_)
  obtain ⟨p,a,b,rfl,hab,hpn,rfl⟩:=j2 i H2 x H3 hsm hlt hyl
  refine (p,a,b,rfl,SqT.of upd_same,hs D i a b ys H2 _ _ hD hlt hab hsm hDl hp (Same.upd hpn) λy H5 e1 e2 e3=>(e1,n - (i+1),sub_succ_lt_self _ _ hlt,rfl,hlt,by rw [qa5];exact Nat.succ_le_succ hy,e2,upd_same,e3))
 .have e:i=n:=le_antisymm hi (le_of_not_lt hlt)
  subst e
  exact .inl (j3 H2 hsm,hq D ys H2 hD hsm hDl hp)
theorem gH {K:Frag} {σ:St} (hH:H c=some (.tup xs)) (Pv:Addr->Nat->List V->Hp->Prop) (hz:xs.length≤sizeLine)
  (h0:∀D,H D=none->Pv D 0 [] (upd H D (.lst [])))
  (hs:∀(D:Addr) (i:Nat) (x:V) (ys:List V) (H' H3:Hp) (R1:VK),H D=none->xs[i]?=some x->Same H H'->H' D=some (.lst ys)->Pv D i ys H'->Same H' H3->
   (∀y H5,H5 D=some (.lst ys)->Same H (upd H5 D (.lst (ys++[y])))->Pv D (i+1) (ys++[y]) (upd H5 D (.lst (ys++[y])))->R1 y H5)->te (some (.int (i:Int))::some x::σ) H3 R1)
  (hq:∀D ys H',H D=none->Same H H'->H' D=some (.lst ys)->Pv D xs.length ys H'->Q (.ref D) H'):gO K (nh c) te σ H Q:=by
 refine g_K (n:=xs.length) (λi a b=>a=.int (i:Int)/\xs[i]?=some b) Pv hz (λi H2 s h=>(xs,xs[i],s _ _ hH,qa2 h)) ?_ (λH2 s=>(xs,s _ _ hH,rfl)) h0 ?_ hq
 .rintro i H2 x H3 s h ⟨p,y,zs,e1,e2,e3,e4,e5⟩
  rw [s _ _ hH] at e1
  cases e1
  exact (p,_,y,e3,(rfl,e2),e4,e5)
 .rintro D i a b ys H' H3 R1 hD hi ⟨rfl,hb⟩ a1 a2 a3 a4 a5
  exact hs D i b ys H' H3 R1 hD hb a1 a2 a3 a4 a5
end L2
namespace RA
open PySem L2
inductive KS where
 | inl (b:Bool)
 | inr (k:NK)
instance:DecidableEq KS:=λa b=>match a,b with
 | .inl a,.inl b=>if h:a=b then isTrue (by rw [h]) else isFalse λz=>h (KS.inl.inj z)
 | .inr a,.inr b=>if h:a=b then isTrue (by rw [h]) else isFalse λz=>h (KS.inr.inj z)
 | .inl _,.inr _=>isFalse λz=>by cases z
 | .inr _,.inl _=>isFalse λz=>by cases z
def isN:KS->Bool
 | .inl _=>false
 | .inr _=>true
def fq (H:Hp):KS->V->Prop
 | .inl b,x=>x=.bl b
 | .inr k,x=>∃p,x=.ref p/\NIn H k p
theorem nin_stay (s:∀b xs,H b=some (.tup xs)->H' b=some (.tup xs)) (h:NIn H k a):NIn H' k a:=by
 obtain ⟨b,e1,e2⟩:=h
 exact (b,s _ _ e1,s _ _ e2)
theorem fq.stay (s:∀b xs,H b=some (.tup xs)->H' b=some (.tup xs)) (h:fq H k x):fq H' k x:=by
 cases k with
 | inl b=>exact h
 | inr k=>
  obtain ⟨p,e,h⟩:=h
  exact (p,e,nin_stay s h)
theorem e_o {α κ:Type} [DecidableEq κ] (key:α->κ) (val:α->V) (k:κ):∀(kvs:List α) (n:Nat),(∀i x,kvs[i]?=some x->val x=.int ((n+i:Nat):Int))->
  (kvs.find? λx=>decide (key x=k)).map val=if k∈kvs.map key then some (.int ((n+(kvs.map key).idxOf k:Nat):Int)) else none
 | [],n,_=>by simp
 | a::kvs,n,h=>by
  by_cases e:key a=k
  .have h0:=h 0 a rfl
   rw [if_pos (by simp [e])]
   subst e
   simp [find?_cons,h0]
  .have ih:=e_o key val k kvs (n+1) λi x hx=>by
    have:=h (i+1) x (by simpa using hx)
    rw [this]
    congr 2
    lia
   have e1:(kvs.map key).idxOf k+1=((a::kvs).map key).idxOf k:=by
    rw [map_cons,idxOf_cons,beq_eq_false_iff_ne.mpr e]
    rfl
   rw [find?_cons,decide_eq_false e]
   show (kvs.find? λx=>decide (key x=k)).map val=_
   rw [ih]
   by_cases hm:k∈kvs.map key
   .rw [if_pos hm,if_pos (by rw [map_cons];exact mem_cons_of_mem _ hm),<- e1]
    congr 3
    lia
   .rw [if_neg hm,if_neg (by rw [map_cons,mem_cons];rintro (z|z);exact e z.symm;exact hm z)]
def NumAt (P:Program) (w:World) (H:Hp) (d:Addr) (nest:Bool) (ks:List KS):Prop:=
 (nest=false/\∃kvs:List (Bool×V),H d=some (kdO (b_S P w) d kvs)/\(kvs.map λx=>(KS.inl x.1:KS))=dis ks/\∀(i:Nat) (x:Bool×V),kvs[i]?=some x->x.2=V.int (i:Int)) \/
 (nest=true/\∃kvs:List (NK×Addr×V),H d=some (hdO (e_T P w) d kvs)/\(∀x∈kvs,NIn H x.1 x.2.1)/\(kvs.map λx=>(KS.inr x.1:KS))=dis ks/\∀(i:Nat) (x:NK×Addr×V),kvs[i]?=some x->x.2.2=V.int (i:Int))
section
variable {P:Program} {w:World} {H:Hp} {d:Addr} {nest:Bool} {ks:List KS}
def cQ (ks:List KS) (k:KS):Option V:=if k∈dis ks then some (.int ((dis ks).idxOf k:Nat)) else none
theorem NumAt.get (h:NumAt P w H d nest ks) (hk:fq H k x) (hn:isN k=nest):nn P w H d x (cQ ks k):=by
 rcases h with ⟨rfl,kvs,e,hm,hv⟩|⟨rfl,kvs,e,hN,hm,hv⟩
 .cases k with
  | inr k=>cases hn
  | inl b=>
   refine .inl (kvs,b,e,hk,?_)
   have:=e_o (λx:Bool×V=>(KS.inl x.1:KS)) (·.2) (KS.inl b) kvs 0 (λi x hx=>by rw [hv i x hx,Nat.zero_add])
   rw [hm] at this
   unfold cQ ax
   rw [Nat.zero_add] at this
   rw [<- this]
   congr 2
   funext x
   exact decide_eq_decide.mpr (λz=>KS.inl.inj z,λz=>by rw [z])
 .cases k with
  | inl k=>cases hn
  | inr b=>
   obtain ⟨p,e1,e2⟩:=hk
   refine .inr (.inl (kvs,b,p,e,hN,e1,e2,?_))
   have:=e_o (λx:NK×Addr×V=>(KS.inr x.1:KS)) (·.2.2) (KS.inr b) kvs 0 (λi x hx=>by rw [hv i x hx,Nat.zero_add])
   rw [hm] at this
   unfold cQ aw
   rw [Nat.zero_add] at this
   rw [<- this]
   congr 2
   funext x
   exact decide_eq_decide.mpr (λz=>KS.inr.inj z,λz=>by rw [z])
theorem NumAt.len (h:NumAt P w H d nest ks):qc P w H d (dis ks).length:=by
 rcases h with ⟨_,kvs,e,hm,_⟩|⟨_,kvs,e,_,hm,_⟩
 .exact .inl (kvs,e,by rw [<- hm,qa4])
 .exact .inr (kvs,e,by rw [<- hm,qa4])
theorem NumAt.same (h:NumAt P w H d nest ks) (hk:k∈dis ks):NumAt P w H d nest (ks++[k]):=by
 unfold NumAt at h ⊢
 rw [dis_snoc,if_pos hk]
 exact h
theorem NumAt.mono (h:NumAt P w H d nest ks) (s:Same H H'):NumAt P w H' d nest ks:=by
 rcases h with ⟨a,kvs,e,hm⟩|⟨a,kvs,e,hN,hm⟩
 .exact .inl (a,kvs,s _ _ e,hm)
 .exact .inr (a,kvs,s _ _ e,λx hx=>nin_stay (λb xs z=>s _ _ z) (hN x hx),hm)
theorem NumAt.tups (h:NumAt P w H d nest ks) (e:H'=upd H d ob):∀b xs,H b=some (.tup xs)->H' b=some (.tup xs):=λb xs z=>by
 rw [e,upd_ne (λq=>?_)]
 .exact z
 .subst q
  rcases h with ⟨_,kvs,e1,_⟩|⟨_,kvs,e1,_⟩
  .rw [e1] at z;cases z
  .rw [e1] at z;cases z
theorem kG (h:¬ j<n) (h2:j - n<1):j=n:=by lia
theorem NumAt.put (h:NumAt P w H d nest ks) (hk:fq H k x) (hn:isN k=nest) (hnew:k∉dis ks) (hl:(dis ks).length<sizeLine):
  ∃ob,qb P w H d x (.int ((dis ks).length:Nat)) (upd H d ob)/\NumAt P w (upd H d ob) d nest (ks++[k]):=by
 have hnone:cQ ks k=none:=if_neg hnew
 have hget:=h.get hk hn
 rw [hnone] at hget
 have h0:=h
 rcases h with ⟨rfl,kvs,e,hm,hv⟩|⟨rfl,kvs,e,hN,hm,hv⟩
 .cases k with
  | inr k=>cases hn
  | inl b=>
   have hlen:(dis ks).length=kvs.length:=by rw [<- hm,qa4]
   have hval:ax kvs b=none:=by
    have:=e_o (λx:Bool×V=>(KS.inl x.1:KS)) (·.2) (KS.inl b) kvs 0 (λi x hx=>by rw [hv i x hx,Nat.zero_add])
    rw [hm,if_neg hnew] at this
    unfold ax
    rw [<- this]
    congr 2
    funext x
    exact decide_eq_decide.mpr (λz=>by rw [z],λz=>KS.inl.inj z)
   refine (_,.inl (kvs,b,e,hk,hval,by rw [<- hlen];exact hl,rfl),.inl (rfl,kvs++[(b,.int ((dis ks).length:Nat),)],upd_same,?_,λi y hy=>?_))
   .rw [dis_snoc,if_neg hnew,map_append,hm]
    rfl
   .by_cases hi:i<kvs.length
    .rw [getElem?_append_left hi] at hy
     exact hv i y hy
    .rw [getElem?_append_right (le_of_not_lt hi)] at hy
     have h9:=kG hi (qa1 hy).1
     rw [h9,sub_self] at hy
     cases hy
     show V.int ((dis ks).length:Nat)=_
     rw [hlen,h9]
 .cases k with
  | inl k=>cases hn
  | inr b=>
   have hlen:(dis ks).length=kvs.length:=by rw [<- hm,qa4]
   obtain ⟨p,e1,e2⟩:=hk
   have hval:aw kvs b=none:=by
    have:=e_o (λx:NK×Addr×V=>(KS.inr x.1:KS)) (·.2.2) (KS.inr b) kvs 0 (λi x hx=>by rw [hv i x hx,Nat.zero_add])
    rw [hm,if_neg hnew] at this
    unfold aw
    rw [<- this]
    congr 2
    funext x
    exact decide_eq_decide.mpr (λz=>by rw [z],λz=>KS.inr.inj z)
   have keep:=h0.tups (H':=upd H d (hdO (e_T P w) d (kvs++[(b,p,.int ((dis ks).length:Nat),)]))) rfl
   refine (_,.inr (.inl (kvs,b,p,e,hN,e1,e2,hval,by rw [<- hlen];exact hl,rfl)),.inr (rfl,kvs++[(b,p,.int ((dis ks).length:Nat),)],upd_same,λy hy=>?_,?_,λi y hy=>?_))
   .rcases mem_append.mp hy with hy|hy
    .exact nin_stay keep (hN y hy)
    .rw [qb1 hy]
     exact nin_stay keep e2
   .rw [dis_snoc,if_neg hnew,map_append,hm]
    rfl
   .by_cases hi:i<kvs.length
    .rw [getElem?_append_left hi] at hy
     exact hv i y hy
    .rw [getElem?_append_right (le_of_not_lt hi)] at hy
     have h9:=kG hi (qa1 hy).1
     rw [h9,sub_self] at hy
     cases hy
     show V.int ((dis ks).length:Nat)=_
     rw [hlen,h9]
theorem NumAt.new (P:Program) (w:World) (H:Hp) (p:Addr) (nest:Bool):NumAt P w (upd H p (mM P w p (if nest=true then .nest else .bl))) p nest []:=by
 cases nest with
 | false=>exact .inl (rfl,[],upd_same,rfl,λi x h=>by simp at h)
 | true=>exact .inr (rfl,[],upd_same,λx h=>by simp at h,rfl,λi x h=>by simp at h)
end
theorem kJ (bs:List Bool):ao (bs.map λb=>(KS.inl b:KS))=ao bs:=d_u (by rw [qa4]) λi j a b a' b' h1 h2 h3 h4=>by
 rw [qa6,h3] at h1
 rw [qa6,h4] at h2
 cases h1
 cases h2
 exact (λz=>KS.inl.inj z,λz=>by rw [z])
theorem kI (bs:List NK):ao (bs.map λb=>(KS.inr b:KS))=ao bs:=d_u (by rw [qa4]) λi j a b a' b' h1 h2 h3 h4=>by
 rw [qa6,h3] at h1
 rw [qa6,h4] at h2
 cases h1
 cases h2
 exact (λz=>KS.inr.inj z,λz=>by rw [z])
end RA
namespace L2
open PySem PySem.Spec PyProof.Rows
section
variable {X:Cx} {elt iter:Expr} {x:Str} {px pos:Pos} {ifs:List Expr} {sc:Scope} {wi:TI} {tt:TT} {te:TE}
end
theorem b_b (K:Frag) (hK:X.K=K:=by rfl):IxR X (ki K):=by
 subst hK
 exact cY
theorem ix_tupK (K:Frag) (hK:X.K=K:=by rfl):IxR X (fR K):=by
 subst hK
 exact cX
theorem jr {X:Cx} (P:Program) (w:World) (hu:X.A.units+64<cLine) (hP:X.prog=P:=by rfl) (hw:X.w=w:=by rfl):IxR X (pI P w):=by
 subst hP hw
 exact kZ hu
theorem kz:jL (Itv a ys.length) a (.lst ys) ys.reverse:=λH2 e=>by
 refine (λi h=>(ys,e,rfl,by simpa using h),λi x H3 hi h=>?_,?_)
 .obtain ⟨e1,xs,e2,e3⟩:=h
  rw [e] at e2
  cases e2
  refine (e1,?_)
  rw [List.getElem?_reverse (by simpa using hi)]
  exact e3
 .show ys.reverse.length=ys.length
  rw [length_reverse]
theorem f_W {xs:List V} (h:t≤xs.length):cutV xs none (some (t:Int))=xs.take t:=by
 unfold cutV
 rw [HT.sIx_none,HT.sIx_nat,List.drop_zero,Nat.sub_zero,Nat.min_eq_left h]
end L2
namespace RA
open PySem L2
theorem p8 (h:i<j+1) (n:¬ i=j):i<j:=Nat.lt_of_le_of_ne (Nat.le_of_lt_succ h) n
theorem nG (h:¬ j<n) (h2:j - n<1):j=n:=by lia
theorem m8 (h:i<t):t - 1 - i<t:=by omega
theorem oW (h:i<t):∃u,t - i=u+1/\t - 1 - i=u/\t - (i+1)=u:=(t - i - 1,by lia,by lia,by lia)
theorem p7 (h1:w=i) (h2:i<t) (h3:t<k+1) (h4:k≤3600):w+1≤16777216:=by lia
theorem qB (h:k≤3600):k+1<sizeLine:=by
 have:4000≤sizeLine:=a_d (by decide)
 lia
theorem h_F (z:Int) (b m:Nat) (hm:0<m):∃n:Nat,(n:Int)=(b:Int)+z % (m:Int)/\b≤n/\n<b+m:=by
 have h0:=emod_nonneg z (show (m:Int)≠0 by lia)
 have h1:=Int.emod_lt_of_pos z (show (0:Int)<(m:Int) by lia)
 exact (b+(z % (m:Int)).toNat,by lia,by lia,by lia)
theorem e_i (ws:LN):intsV ws=(zs ws).map V.int:=by
 unfold intsV zs
 rw [map_map]
 rfl
theorem fu (ws:LN):(zs ws).length=ws.length:=by simp [zs]
theorem intsV_len (ws:LN):(intsV ws).length=ws.length:=by simp [intsV]
theorem b_m (h:i<ws.length):(intsV ws)[i]?=some (.int ((ws.getD i 0:Nat):Int)):=by
 unfold intsV
 rw [qa6,qa3,qa2 h]
 rfl
theorem a_D {ns:LN} (h:r<ns.length):atI (intsV ns) (r:Int)=some (.int ((ns.getD r 0:Nat):Int)):=a_R (b_m h)
theorem a_p {α:Type} {l:List α} {x:α} (h:l[i]?=some x):l.take (i+1)=l.take i++[x]:=by
 rw [take_add_one,h]
 rfl
theorem dg {a b:Nat}:decide (V.int (a:Int)=V.int (b:Int))=decide (a=b):=by
 by_cases h:a=b
 .subst h
  simp
 .have:¬ V.int (a:Int)=V.int (b:Int):=λz=>h (by injection z with z;exact Int.ofNat.inj z)
  rw [decide_eq_false h,decide_eq_false this]
def oV:Option LN->V
 | none=>.non
 | some w=>.str (tx w)
def g_M (H:Hp) (lots:List Addr) (W:LL) (B:List Bool):Prop:=∀(i:Nat) (r:Addr),lots[i]?=some r->H r=some (.lst (intsV (Rd W B i)))
theorem g_M.same (h:g_M H lots W B) (s:Same H H'):g_M H' lots W B:=λi r e=>s _ _ (h i r e)
theorem eR (hj:j<n) (hf:f j=false):false∈(List.range n).map f/\((List.range n).map f).idxOf false<n/\f (((List.range n).map f).idxOf false)=false/\∀i<((List.range n).map f).idxOf false,f i=true:=by
 have get:∀i,i<n->((List.range n).map f)[i]?=some (f i):=λi hi=>by rw [qa6,getElem?_range hi];rfl
 have hm:false∈(List.range n).map f:=mem_map.mpr (j,mem_range.mpr hj,hf)
 have hlt:=idxOf_lt_length_of_mem hm
 have hlt2:((List.range n).map f).idxOf false<n:=by simpa using hlt
 refine (hm,hlt2,?_,λi hi=>?_)
 .have e:=get _ hlt2
  rw [qa2 hlt,getElem_idxOf hlt] at e
  exact (Option.some.inj e).symm
 .have e:=get i (lt_trans hi hlt2)
  cases h:f i with
  | true=>rfl
  | false=>
   rw [h] at e
   have:=e_j e
   lia
theorem a_o.row (hl:rows.length=W.length) (h:b_L H rows W) (hr:r<W.length):∃ra,rows[r]?=some ra/\H ra=some (.tup (intsV (W.getD r []))):=by
 have e:rows[r]?=some (rows[r]'(by lia)):=qa2 _
 obtain ⟨ws,h1,h2⟩:=h r _ e
 refine (_,e,?_)
 rw [h2,qa3,h1]
 rfl
theorem b_k (s:Same H H') (h:H' p=none):H p=none:=by
 cases e:H p with
 | none=>rfl
 | some o=>rw [s _ _ e] at h;cases h
theorem gF {tt:TT} {te:TE} {σ:St} {Q:VK} (Pv:Addr->Nat->List V->Hp->Prop) (hz:n≤sizeLine)
  (h0:∀D,H D=none->Pv D 0 [] (L2.upd H D (.lst [])))
  (hs:∀(D:Addr) (i:Nat) (ys:List V) (H':Hp) (R1:VK) (R2:Hp->Prop),H D=none->i<n->Same H H'->H' D=some (.lst ys)->Pv D i ys H'->
   (∀y H5,H5 D=some (.lst ys)->Same H (L2.upd H5 D (.lst (ys++[y])))->Pv D (i+1) (ys++[y]) (L2.upd H5 D (.lst (ys++[y])))->R1 y H5)->(∀H4,Same H H4->H4 D=some (.lst ys)->Pv D (i+1) ys H4->R2 H4)->
   tt (some (.int (lo+(i:Int)))::σ) H' λb H4=>if b=true then te (some (.int (lo+(i:Int)))::σ) H4 R1 else R2 H4)
  (hq:∀D ys H',H D=none->Same H H'->H' D=some (.lst ys)->Pv D n ys H'->Q (.ref D) H'):∀D,H D=none->∃W:Nat->Nat->List V->Hp->Prop,
 (∃m,W 0 m [] (L2.upd H D (.lst [])))/\∀i m ys H2,W i m ys H2->H2 D=some (.lst ys)/\(((Itr lo n).stop i H2/\Q (.ref D) H2)\/((Itr lo n).go i H2/\ys.length<sizeLine/\∀x H3,(Itr lo n).yld i H2 x H3->
  tt (some x::σ) H3 λb H4=>if b=true then te (some x::σ) H4 λy H5=>H5 D=some (.lst ys)/\∃m',m'<m/\W (i+1) m' (ys++[y]) (L2.upd H5 D (.lst (ys++[y])))
   else ∃m',m'<m/\W (i+1) m' ys H4)):=by
 intro D hD
 refine (λi m ys H2=>m=n - i/\i≤n/\ys.length≤i/\Same H H2/\H2 D=some (.lst ys)/\Pv D i ys H2,(n,by simp,zero_le _,by simp,Same.upd hD,upd_same,h0 D hD),?_)
 rintro i m ys H2 ⟨rfl,hi,hy,hsm,hDl,hp⟩
 refine (hDl,?_)
 by_cases hlt:i<n
 .refine .inr (hlt,lt_of_le_of_lt hy (lt_of_lt_of_le hlt hz),λx H3 hyl=>?_)
  obtain ⟨e,hx⟩:=hyl
  subst e hx
  exact hs D i ys H3 _ _ hD hlt hsm hDl hp (λy H5 a b c=>(a,n - (i+1),sub_succ_lt_self _ _ hlt,rfl,hlt,by rw [qa5];exact Nat.succ_le_succ hy,b,upd_same,c)) (λH4 a b c=>(n - (i+1),sub_succ_lt_self _ _ hlt,rfl,hlt,Nat.le_succ_of_le hy,a,b,c))
 .have e:i=n:=le_antisymm hi (le_of_not_lt hlt)
  subst e
  exact .inl (le_refl _,hq D ys H2 hD hsm hDl hp)
theorem g_c {lots:List Addr} (hl:lots.length=k+1) (h:lots[k]?=some la):atI (lots.map V.ref) (-1)=some (.ref la):=by
 have e:lots=lots.take k++[la]:=by rw [<- a_p h,take_of_length_le (by lia)]
 rw [e,map_append]
 exact lY _ _
theorem eF {ws:LN} (h:j<ws.length):(ws.map f).getD j 0=f (ws.getD j 0):=by
 rw [qa3,qa3,qa6,qa2 h]
 rfl
theorem da {ws:LN} (h:j<ws.length):ws.getD j 0∈ws:=by
 rw [qa3,qa2 h]
 exact getElem_mem h
theorem im {H:Hp} (h1:H r=some (.lst (intsV ns))) (h2:H p=some (.lst (ls.map V.ref))) (h3:ls≠[]):r≠p:=by
 rintro rfl
 rw [h1] at h2
 injection h2 with h2
 injection h2 with h2
 cases ls with
 | nil=>exact h3 rfl
 | cons a l=>
  cases ns with
  | nil=>cases h2
  | cons n ns=>
   rw [map_cons,intsV,map_cons] at h2
   injection h2 with h4 _
   cases h4
def RInv (H:Hp) (wy mk p:Addr) (W:LL) (B:List Bool) (m:Nat) (σ:St) (H':Hp):Prop:=∃(k:Nat) (lots:List Addr) (s4 s5:Option V),m=dD W.length (Rd W B k)/\σ=[some (.ref wy),some (.ref mk),some (.int ((W.length:Nat):Int)),some (.ref p),s4,s5]/\Same H H'/\H' p=some (.lst (lots.map V.ref))/\lots.length=k+1/\g_M H' lots W B/\∀i<k,Rd W B (i+1)≠Rd W B i
section
variable {K:Frag} {te:TE} {tt:TT} {σ:St} {H:Hp} {Q:VK} {a c d:Addr} {o:HO} {xs zs:List V}
theorem c_C (htl:∀R:VK,R (.ref a) H->tl σ H R) (ho:o=.lst xs\/o=.tup xs) (hH:H a=some o) (Pv:Addr->Nat->List V->Hp->Prop) (hz:xs.length≤sizeLine)
  (h0:∀D,H D=none->Pv D 0 [] (L2.upd H D (.lst [])))
  (hs:∀(D:Addr) (i:Nat) (x:V) (ys:List V) (H':Hp) (R1:VK) (R2:Hp->Prop),H D=none->xs[i]?=some x->Same H H'->H' D=some (.lst ys)->Pv D i ys H'->
   (∀y H5,H5 D=some (.lst ys)->Same H (L2.upd H5 D (.lst (ys++[y])))->Pv D (i+1) (ys++[y]) (L2.upd H5 D (.lst (ys++[y])))->R1 y H5)->(∀H4,Same H H4->H4 D=some (.lst ys)->Pv D (i+1) ys H4->R2 H4)->
   tt (some x::σ) H' λb H4=>if b=true then te (some x::σ) H4 R1 else R2 H4)
  (hq:∀D ys H',H D=none->Same H H'->H' D=some (.lst ys)->Pv D xs.length ys H'->Q (.ref D) H'):d_E (iSq tl) tt te σ H Q:=
 htl _ (a,o,xs,rfl,ho,hH,λJ ov=>b7 ov hH Pv hz h0 hs hq)
theorem d_p {n:Nat} (ht:∀R:List V->Hp->Prop,R [.int (n:Int)] H->t σ H R) (hn:n≤1000) (Pv:Addr->Nat->List V->Hp->Prop)
  (h0:∀D,H D=none->Pv D 0 [] (L2.upd H D (.lst [])))
  (hs:∀(D:Addr) (i:Nat) (ys:List V) (H':Hp) (R1:VK) (R2:Hp->Prop),H D=none->i<n->Same H H'->H' D=some (.lst ys)->Pv D i ys H'->
   (∀y H5,H5 D=some (.lst ys)->Same H (L2.upd H5 D (.lst (ys++[y])))->Pv D (i+1) (ys++[y]) (L2.upd H5 D (.lst (ys++[y])))->R1 y H5)->(∀H4,Same H H4->H4 D=some (.lst ys)->Pv D (i+1) ys H4->R2 H4)->
   tt (some (.int (0+(i:Int)))::σ) H' λb H4=>if b=true then te (some (.int (0+(i:Int)))::σ) H4 R1 else R2 H4)
  (hq:∀D ys H',H D=none->Same H H'->H' D=some (.lst ys)->Pv D n ys H'->Q (.ref D) H'):d_E (iy t) tt te σ H Q:=
 ht _ ((n:Int),rfl,by lia,by lia,gF (n:=n) Pv (a_d (le_trans hn (by decide))) h0 hs hq)
end
theorem run_cons (L:LN) (W:LL) (r c:Nat) (u:LN):run L W r (c::u)=run L W (nxt L W r c) u:=rfl
section
variable {P:Program} {w:World} {H:Hp} {d q:Addr} {ps:List (Nat×Nat)}
end
theorem f_L {B:List Bool} (h:r<B.length):atI (B.map V.bl) ((r:Nat):Int)=some (.bl (B.getD r false)):=a_Z V.bl (by rw [qa3,qa2 h];rfl)
theorem pT {α:Type} {l:List α} (h:l.length=1):∃a,l=[a]:=match l,h with|[a],_=>(a,rfl)
end RA
namespace RA
theorem bK (L:LN) (c d:Nat):∀{a b:LN},ah L a b=true->ah L (a++[c]) (b++[d])=true
 | [],_,h=>by simp [ah] at h
 | _::_,[],h=>by simp [ah] at h
 | x::a,y::b,h=>by
  rw [cons_append,cons_append,ah]
  rw [ah] at h
  by_cases e:x=y
  .rw [if_pos e] at h ⊢
   exact bK L c d h
  .rw [if_neg e] at h ⊢
   exact h
theorem f_O (L:LN) (c:Nat):∀{a b:LN},a.length=b.length->ah L (a++[c]) (b++[c])=true->ah L a b=true
 | [],[],_,h=>by simp [ah] at h
 | [],_::_,e,_=>by simp at e
 | _::_,[],e,_=>by simp at e
 | x::a,y::b,e,h=>by
  rw [cons_append,cons_append,ah] at h
  rw [ah]
  by_cases q:x=y
  .rw [if_pos q] at h ⊢
   exact f_O L c (by simpa using e) h
  .rw [if_neg q] at h ⊢
   exact h
theorem bL (L:LN) {c d:Nat} (hcd:L.idxOf c<L.idxOf d):∀a:LN,ah L (a++[c]) (a++[d])=true
 | []=>by
  rw [List.nil_append,List.nil_append,ah,if_neg (λe=>by rw [e] at hcd;lia)]
  exact decide_eq_true hcd
 | x::a=>by
  rw [cons_append,cons_append,ah,if_pos rfl]
  exact bL L hcd a
theorem g_D (L:LN):∀{a b:LN},ah L a b=true->ah L b a=false
 | [],_,h=>by simp [ah] at h
 | _::_,[],h=>by simp [ah] at h
 | x::a,y::b,h=>by
  rw [ah] at h ⊢
  by_cases e:x=y
  .rw [if_pos e] at h
   rw [if_pos e.symm]
   exact g_D L h
  .rw [if_neg e] at h
   rw [if_neg (Ne.symm e)]
   have:=of_decide_eq_true h
   exact decide_eq_false (by lia)
theorem g_B (L:LN):∀{a b c:LN},ah L a b=true->ah L b c=true->ah L a c=true
 | [],_,_,h,_=>by simp [ah] at h
 | _::_,[],_,h,_=>by simp [ah] at h
 | _::_,_::_,[],_,h=>by simp [ah] at h
 | x::a,y::b,z::c,h,k=>by
  rw [ah] at h k ⊢
  by_cases e:x=y
  .subst e
   rw [if_pos rfl] at h
   by_cases f:x=z
   .rw [if_pos f] at k ⊢
    exact g_B L h k
   .rw [if_neg f] at k ⊢
    exact k
  .rw [if_neg e] at h
   have h1:=of_decide_eq_true h
   by_cases f:y=z
   .subst f
    rw [if_neg e]
    exact h
   .rw [if_neg f] at k
    have k1:=of_decide_eq_true k
    rw [if_neg (λg=>by rw [g] at h1;lia)]
    exact decide_eq_true (lt_trans h1 k1)
theorem g_C {L:LN}:∀{a b:LN},a.length=b.length->(∀c∈a,c∈L)->(∀c∈b,c∈L)->ah L a b=true\/a=b\/ah L b a=true
 | [],[],_,_,_=>.inr (.inl rfl)
 | [],_::_,e,_,_=>by simp at e
 | _::_,[],e,_,_=>by simp at e
 | x::a,y::b,e,ha,hb=>by
  rw [ah,ah]
  by_cases q:x=y
  .subst q
   rw [if_pos rfl,if_pos rfl]
   rcases g_C (a:=a) (b:=b) (by simpa using e) (λc hc=>ha c (by simp [hc])) (λc hc=>hb c (by simp [hc])) with h|h|h
   .exact .inl h
   .exact .inr (.inl (by rw [h]))
   .exact .inr (.inr h)
  .rw [if_neg q,if_neg (Ne.symm q)]
   rcases lt_trichotomy (L.idxOf x) (L.idxOf y) with h|h|h
   .exact .inl (decide_eq_true h)
   .exact absurd (idx_inj (ha x (by simp)) h) q
   .exact .inr (.inr (decide_eq_true h))
section
variable {L a b c:LN}
theorem e_J (h:a.length<b.length):ear L a b=true:=by
 unfold ear
 rw [if_pos (by lia)]
 exact decide_eq_true h
theorem d_n (h:a.length=b.length):ear L a b=ah L a b:=by
 unfold ear
 rw [if_neg (by simpa using h)]
theorem g_J (h:ear L a b=true):a.length≤b.length:=by
 by_cases e:a.length=b.length
 .lia
 .unfold ear at h
  rw [if_pos e] at h
  have:=of_decide_eq_true h
  lia
theorem lL (x y:Nat) (h:ear L a b=true):ear L (a++[x]) (b++[y])=true:=by
 have hl:=g_J h
 by_cases e:a.length=b.length
 .rw [d_n (by simp [e])]
  rw [d_n e] at h
  exact bK L x y h
 .exact e_J (by simp;lia)
theorem lN (h:L.idxOf x<L.idxOf y):ear L (a++[x]) (a++[y])=true:=by
 rw [d_n (by simp)]
 exact bL L h a
theorem f_V (h:ear L a b=true):ear L b a=false:=by
 have hl:=g_J h
 by_cases e:a.length=b.length
 .rw [d_n e] at h
  rw [d_n e.symm]
  exact g_D L h
 .unfold ear
  rw [if_pos (Ne.symm e)]
  exact decide_eq_false (by lia)
theorem ear_trans (h:ear L a b=true) (k:ear L b c=true):ear L a c=true:=by
 have h1:=g_J h
 have h2:=g_J k
 by_cases e:a.length=c.length
 .rw [d_n (by lia)] at h k
  rw [d_n e]
  exact g_B L h k
 .exact e_J (by lia)
theorem mZ:ear L a []=false:=by
 unfold ear
 by_cases e:a.length=([]:LN).length
 .rw [if_neg (by simpa using e)]
  cases a <;> simp [ah]
 .rw [if_pos e]
  simp
theorem bW (ha:∀x∈a,x∈L) (hb:∀x∈b,x∈L):ear L a b=true\/a=b\/ear L b a=true:=by
 by_cases e:a.length=b.length
 .rw [d_n e,d_n e.symm]
  exact g_C e ha hb
 .by_cases h:a.length<b.length
  .exact .inl (e_J h)
  .exact .inr (.inr (e_J (by lia)))
theorem de (ha:∀x∈a,x∈L) (hb:∀x∈b,x∈L) (h:ear L b a=false) (k:ear L c b=false):ear L c a=false:=by
 cases q:ear L c a with
 | false=>rfl
 | true=>
  rcases bW ha hb with t|t|t
  .rw [ear_trans q t] at k
   cases k
  .rw [<- t,q] at k
   cases k
  .rw [t] at h
   cases h
theorem eT (x:Nat) (h:ear L b a=false):ear L (b++[x]) (a++[x])=false:=by
 cases q:ear L (b++[x]) (a++[x]) with
 | false=>rfl
 | true=>
  have hl:=g_J q
  by_cases e:b.length=a.length
  .rw [d_n (by simp [e])] at q
   rw [d_n e,f_O L x e q] at h
   cases h
  .rw [e_J (by simp at hl;lia)] at h
   cases h
end
section
variable {κ:Type} [DecidableEq κ]
def iY (g:κ->Nat->κ) (L:LN) (s:κ) (w:LN):κ:=w.foldl (λt c=>g t (L.idxOf c)) s
theorem f_s (g:κ->Nat->κ) (L:LN) (s:κ) (w:LN) (c:Nat):iY g L s (w++[c])=g (iY g L s w) (L.idxOf c):=by
 unfold iY
 rw [List.foldl_append]
 rfl
structure Bf (g:κ->Nat->κ) (L:LN) (s:κ) (ts:List κ) (ws:LL) (n k:Nat):Prop where
 len:ts.length=ws.length
 nd:ts.Nodup
 t0:ts[0]?=some s
 w0:ws[0]?=some []
 srt:∀(i j:Nat) (a b:LN),i<j->ws[i]?=some a->ws[j]?=some b->ear L a b=true
 lead:∀(i:Nat) (t:κ) (a:LN),ts[i]?=some t->ws[i]?=some a->(∀c∈a,c∈L)/\iY g L s a=t
 par:∀(j:Nat) (b:LN),ws[j]?=some b->b=[]\/∃(p q:Nat) (a:LN),ws[p]?=some a/\q<L.length/\b=a++[L.getD q 0]/\(p<n\/(p=n/\q<k))
 fin:∀(r q:Nat) (t:κ) (a:LN),(r<n\/(r=n/\q<k))->q<L.length->ts[r]?=some t->ws[r]?=some a->∃(j:Nat) (b:LN),ts[j]?=some (g t q)/\ws[j]?=some b/\ear L (a++[L.getD q 0]) b=false
variable {g:κ->Nat->κ} {L:LN} {s:κ} {ts:List κ} {ws:LL} {n k:Nat}
theorem Bf.start (g:κ->Nat->κ) (L:LN) (s:κ):Bf g L s [s] [[]] 0 0 where
 len:=rfl
 nd:=by simp
 t0:=rfl
 w0:=rfl
 srt:=λi j a b hij ha hb=>by
  have:=(qa1 hb).1
  simp at this
  lia
 lead:=λi t a ht ha=>by
  match i,ht,ha with
  | 0,ht,ha=>cases ht;cases ha;exact (λc hc=>by simp at hc,rfl)
  | i+1,ht,_=>simp at ht
 par:=λj b hb=>by
  match j,hb with
  | 0,hb=>cases hb;exact .inl rfl
  | j+1,hb=>simp at hb
 fin:=λr q t a h=>by lia
theorem Bf.behind (h:Bf g L s ts ws n k) (nd:L.Nodup) {a:LN} (ha:ws[n]?=some a) (hk:k<L.length) {j:Nat} {b:LN} (hb:ws[j]?=some b):ear L b (a++[L.getD k 0])=true:=by
 rcases h.par j b hb with rfl|⟨p,q,a',hp,hq,rfl,lt⟩
 .exact e_J (by simp)
 .rcases lt with lt|⟨rfl,lt⟩
  .exact lL _ _ (h.srt p n a' a lt hp ha)
  .rw [ha] at hp
   cases hp
   refine lN ?_
   have e1:L.idxOf (L.getD q 0)=q:=by rw [qa3,qa2 hq];exact f_R nd hq
   have e2:L.idxOf (L.getD k 0)=k:=by rw [qa3,qa2 hk];exact f_R nd hk
   rw [e1,e2]
   exact lt
theorem ik (h:r<n\/(r=n/\q<k+1)):(r<n\/(r=n/\q<k))\/(r=n/\q=k):=by lia
theorem Bf.old (h:Bf g L s ts ws n k) (nd:L.Nodup) {t:κ} {a:LN} (ht:ts[n]?=some t) (ha:ws[n]?=some a) (hk:k<L.length) (hm:g t k∈ts):Bf g L s ts ws n (k+1):=
 { h with
  par:=λj b hb=>by
   rcases h.par j b hb with e|⟨p,q,a',h1,h2,h3,h4⟩
   .exact .inl e
   .exact .inr (p,q,a',h1,h2,h3,by lia)
  fin:=λr q t' a' hr hq ht' ha'=>by
   rcases ik hr with hr|⟨rfl,rfl⟩
   .exact h.fin r q t' a' hr hq ht' ha'
   .rw [ht] at ht'
    rw [ha] at ha'
    cases ht'
    cases ha'
    obtain ⟨j,hj⟩:=mem_iff_getElem?.mp hm
    have hl:j<ws.length:=by rw [<- h.len];exact (qa1 hj).1
    exact (j,ws[j],hj,qa2 hl,f_V (h.behind nd ha hk (qa2 hl))) }
theorem Bf.new (h:Bf g L s ts ws n k) (nd:L.Nodup) {t:κ} {a:LN} (ht:ts[n]?=some t) (ha:ws[n]?=some a) (hk:k<L.length) (hm:g t k∉ts):Bf g L s (ts++[g t k]) (ws++[a++[L.getD k 0]]) n (k+1):=by
 have gk:L.getD k 0=L[k]:=by rw [qa3,qa2 hk];rfl
 have up:∀{α:Type} {l:List α} {x y:α} {i:Nat},l[i]?=some y->(l++[x])[i]?=some y:=λ{α l x y i} e=>by
  rw [getElem?_append_left (qa1 e).1]
  exact e
 have split:∀{α:Type} {l:List α} {x y:α} {i:Nat},(l++[x])[i]?=some y->l[i]?=some y\/(i=l.length/\y=x):=λ{α l x y i} e=>by
  by_cases hi:i<l.length
  .rw [getElem?_append_left hi] at e
   exact .inl e
  .rw [getElem?_append_right (by lia)] at e
   have:i - l.length=0:=by
    have:=(qa1 e).1
    simp at this
    omega
   rw [this] at e
   exact .inr (by lia,(Option.some.inj e).symm)
 have last:(ts++[g t k])[ts.length]?=some (g t k):=by rw [getElem?_append_right (le_refl _),sub_self];rfl
 have lastw:(ws++[a++[L.getD k 0]])[ws.length]?=some (a++[L.getD k 0]):=by rw [getElem?_append_right (le_refl _),sub_self];rfl
 obtain ⟨hin,hrun⟩:=h.lead n t a ht ha
 refine (by simp [h.len],?_,up h.t0,up h.w0,λi j x y hij hx hy=>?_,λi t' x ht' hx=>?_,λj b hb=>?_,λr q t' x hr hq ht' hx=>?_)
 .rw [List.nodup_append]
  exact (h.nd,by simp,λx hx y hy e=>hm (by rw [qb1 hy] at e;rw [<- e];exact hx))
 .rcases split hy with hy|⟨rfl,rfl⟩
  .rcases split hx with hx|⟨rfl,rfl⟩
   .exact h.srt i j x y hij hx hy
   .have:=(qa1 hy).1
    lia
  .rcases split hx with hx|⟨rfl,rfl⟩
   .exact h.behind nd ha hk hx
   .lia
 .rcases split ht' with ht'|⟨rfl,rfl⟩
  .rcases split hx with hx|⟨rfl,rfl⟩
   .exact h.lead i t' x ht' hx
   .have:=(qa1 ht').1
    rw [h.len] at this
    lia
  .rcases split hx with hx|⟨_,rfl⟩
   .have:=(qa1 hx).1
    rw [h.len] at this
    lia
   .refine (λc hc=>?_,?_)
    .rcases mem_append.mp hc with hc|hc
     .exact hin c hc
     .rw [qb1 hc,gk]
      exact getElem_mem hk
    .rw [f_s,hrun,gk,f_R nd hk]
 .rcases split hb with hb|⟨rfl,rfl⟩
  .rcases h.par j b hb with e|⟨p,q,a',h1,h2,h3,h4⟩
   .exact .inl e
   .exact .inr (p,q,a',up h1,h2,h3,by lia)
  .exact .inr (n,k,a,up ha,hk,rfl,.inr (rfl,lt_succ_self k))
 .have hrn:r≤n:=by lia
  have hn:=(qa1 ht).1
  have ht'':ts[r]?=some t':=by rw [getElem?_append_left (lt_of_le_of_lt hrn hn)] at ht';exact ht'
  have hx':ws[r]?=some x:=by rw [getElem?_append_left (by rw [<- h.len];exact lt_of_le_of_lt hrn hn)] at hx;exact hx
  rcases ik hr with hr|⟨rfl,rfl⟩
  .obtain ⟨j,b,e1,e2,e3⟩:=h.fin r q t' x hr hq ht'' hx'
   exact (j,b,up e1,up e2,e3)
  .rw [ht] at ht''
   rw [ha] at hx'
   cases ht''
   cases hx'
   refine (ts.length,_,last,by rw [h.len];exact lastw,?_)
   cases q':ear L (a++[L.getD q 0]) (a++[L.getD q 0]) with
   | false=>rfl
   | true=>exact q'.symm.trans (f_V q')
theorem Bf.next (h:Bf g L s ts ws n L.length):Bf g L s ts ws (n+1) 0:=
 { h with
  par:=λj b hb=>by
   rcases h.par j b hb with e|⟨p,q,a',h1,h2,h3,h4⟩
   .exact .inl e
   .exact .inr (p,q,a',h1,h2,h3,by lia)
  fin:=λr q t a hr hq ht ha=>h.fin r q t a (by lia) hq ht ha }
theorem Bf.told (h:Bf g L s ts ws ts.length 0) (nd:L.Nodup):∀(w:LN) (m:Nat),w.length=m->(∀c∈w,c∈L)->∃(j:Nat) (b:LN),ts[j]?=some (iY g L s w)/\ws[j]?=some b/\ear L w b=false:=by
 intro w m
 induction m generalizing w with
 | zero=>
  intro hm _
  rw [length_eq_zero_iff.mp hm]
  exact (0,[],h.t0,h.w0,mZ)
 | succ m ih=>
  intro hm hw
  obtain ⟨c,v,rfl⟩:∃c v,w=v++[c]:=(w.getLast (by intro z;rw [z] at hm;cases hm),w.dropLast,(dropLast_concat_getLast _).symm)
  have hv:∀x∈v,x∈L:=λx hx=>hw x (by simp [hx])
  have hc:c∈L:=hw c (by simp)
  obtain ⟨r,a,e1,e2,e3⟩:=ih v (by simpa using hm) hv
  have hr:=(qa1 e1).1
  have hi:L.idxOf c<L.length:=idxOf_lt_length_of_mem hc
  obtain ⟨j,b,f1,f2,f3⟩:=h.fin r (L.idxOf c) _ a (.inl hr) hi e1 e2
  have gc:L.getD (L.idxOf c) 0=c:=by rw [qa3,qa2 hi];exact getElem_idxOf hi
  rw [gc] at f3
  obtain ⟨ha,_⟩:=h.lead r _ a e1 e2
  refine (j,b,by rw [f_s];exact f1,f2,?_)
  obtain ⟨hb,_⟩:=h.lead j _ b f1 f2
  refine de (b:=a++[c]) hb (λx hx=>?_) f3 (eT c e3)
  rcases mem_append.mp hx with hx|hx
  .exact ha x hx
  .rw [qb1 hx]
   exact hc
def leftOf (U ts:List κ):Nat:=U.countP λx=>!decide (x∈ts)
theorem bM {U ts:List κ} {x:κ} (hU:x∈U) (hx:x∉ts):leftOf U (ts++[x])<leftOf U ts:=by
 refine e_p (λz hz h=>?_) (x,hU,?_,?_)
 .simp only [Bool.not_eq_true',decide_eq_false_iff_not] at h ⊢
  exact λq=>h (mem_append_left _ q)
 .simp only [Bool.not_eq_true',decide_eq_false_iff_not]
  exact hx
 .simp only [Bool.not_eq_false',decide_eq_true_eq]
  exact mem_append_right _ (mem_singleton.mpr rfl)
end
end RA
namespace L2
open PySem PySem.Spec PyProof.Rows
structure f_e (N ps fr:List Str) (sc:Scope):Prop where
 kind:sc.kind=.function
 co:sc.isCoroutine=false
 gen:sc.isGenerator=false
 nd:N.Nodup
 pre:N.take ps.length=ps
 suf:N.drop (N.length - fr.length)=fr
 fit:ps.length+fr.length≤N.length
 par:∀x∈ps,sc.names.lookup x=some .local
 nocell:∀y∈sc.names,y.2≠.cell
structure bc (h:Heap) (clos:List (Str×Addr)) (sc:Scope) (fr:List Str) (fvs:List V):Prop where
 inj:∀y z c,clos.lookup y=some c->clos.lookup z=some c->y=z
 has:∀y∈sc.names,y.2=.free->∃c,clos.lookup y.1=some c
 cell:∀y c,clos.lookup y=some c->∃v,h.IsCell c v
 len:fvs.length=fr.length
 val:∀(i:Nat) (y:Str) (v:V),fr[i]?=some y->fvs[i]?=some v->(sc.names.lookup y=some .free)/\∃c u,clos.lookup y=some c/\h.IsCell c (some u)/\ad v u
def eX (CX:CXT) (P:Program) (w:World) (K:Frag) (mg:Str->Option Value) (base:Heap) (N:List Str) (qual:Str) (scope:Scope) (f:Addr) (cd:Value) (clos:List (Str×Addr)) (A:Around) (outer:List Env) (s:Shared) (H:Hp) (E:XK):Cx where
 prog:=P
 w:=w
 K:=K
 mg:=mg
 base:=base
 A:=A.deeper (envX qual scope s.heap.objs.size f cd clos)
 N:=N
 s₀:=s
 H₀:=H
 env:=envX qual scope s.heap.objs.size f cd clos
 outer:=outer
 stack:=envX qual scope s.heap.objs.size f cd clos::outer
 ex:=[]
 calm:=true
 fn:=λ_=>false
 pn:=[]
 xe:=λe s'=>wpAny (model P w) (A.deeper (envX qual scope s.heap.objs.size f cd clos)) (leaving (envX qual scope s.heap.objs.size f cd clos) e) (λ_ s''=>CX outer H s E e s'') (λe' s''=>CX outer H s E e' s'') s'
def g_q (N:List Str) (vs fvs:List V):St:=vs.map some++(replicate (N.length - vs.length - fvs.length) none++fvs.map some)
theorem mj:∀{ps:List Str} {us:List Value} {i:Nat},ps.Nodup->ps[i]?=some x->us[i]?=some v->(ps.zip us).reverse.lookup x=some v:=by
 intro ps us i nd h1 h2
 have hm:(x,v,)∈(ps.zip us).reverse:=by
  rw [List.mem_reverse]
  have hz:(ps.zip us)[i]?=some (x,v,):=by rw [getElem?_zip_eq_some];exact (h1,h2)
  exact qb2 hz
 have uniq:∀v',(x,v',)∈(ps.zip us).reverse->v'=v:=λv' hm'=>by
  rw [List.mem_reverse] at hm'
  obtain ⟨j,hj⟩:=mem_iff_getElem?.mp hm'
  rw [getElem?_zip_eq_some] at hj
  have e:j=i:=nodup_ix nd hj.1 h1
  subst e
  have:=hj.2
  rw [h2] at this
  exact (Option.some.inj this).symm
 cases e:(ps.zip us).reverse.lookup x with
 | none=>
  have:=List.lookup_eq_none_iff.mp e _ hm
  simp at this
 | some v'=>rw [uniq v' (PySem.mem_of_lookup e)]
section
variable {CX:CXT} {P:Program} {w:World} {K:Frag} {mg:Str->Option Value} {base:Heap} {N ps fr:List Str} {qual:Str} {scope:Scope} {f:Addr} {cd:Value} {clos:List (Str×Addr)} {A:Around} {outer:List Env} {s:Shared} {H:Hp} {E:XK} {us:List Value} {vs fvs:List V}
theorem gA (S:f_e N ps fr scope) (C:bc base clos scope fr fvs) (hd:A.handled=none) (e0:bb P w K mg base A outer s H) (hl:vs.length=ps.length) (r:ab vs us)
  (hns:h'.Ns s.heap.objs.size (λx=>(ps.zip us).reverse.lookup x)) (hsb:SameBut s.heap.objs.size (s.heap.push { cls:=.type "frame",data:=.dict #[] }) h'):
  Inv (eX CX P w K mg base N qual scope f cd clos A outer s H E) [] (g_q N vs fvs) H { s with heap:=h',toks:=tk }:=by
 have hk:∀b o,s.heap.get? b=some o->h'.get? b=some o:=λb o e=>hsb.extBut b o (ne_of_lt (lt_size e)) (qa9 _ e)
 have noA:∀b:Addr,b∉(eX CX P w K mg base N qual scope f cd clos A outer s H E).ex:=λb z=>absurd (show b∈([]:List Addr) from z) (by simp)
 have cellK:∀c v,base.IsCell c v->h'.IsCell c v:=λc v hZ1=>by obtain ⟨o,ho,hd⟩:=hZ1;exact (o,hk c o (e0.bs c o ho).1,hd)
 have hus:us.length=ps.length:=by rw [<- r.length];exact hl
 have hfit:=S.fit
 have hfl:=C.len
 refine ((e0.mod,S.kind,rfl,rfl,le_refl _,λy z c h1 h2=>C.inj y z c h1 h2,λy hy=>?_,λy c h=>absurd (show false=true from h) Bool.false_ne_true,λ_=>hd,Around.frames_deeper e0.frames,.inr (rfl,rfl),λb z=>absurd z (noA b),e0.bs,e0.bsz,λb _ _=>noA b,λb z=>absurd z (noA b),e0.funs,e0.frf),
  rfl,e0.bare,Un.kept hk,(_,hns,λi y v h1 h2 h3=>?_),λy c h=>?_,e0.hok.fresh (le_refl _),λy c h=>?_,λp hp=>absurd (show p∈([]:List (Addr×Obj)) from hp) (by simp),e0.hok.kept hk,?_)
 .have hy:scope.names.lookup y=some .cell\/scope.names.lookup y=some .free:=hy
  rcases hy with hy|hy
  .exact absurd rfl (S.nocell _ (PySem.mem_of_lookup hy))
  .exact C.has _ (PySem.mem_of_lookup hy) rfl
 .have h1:N[i]?=some y:=h1
  have hi:i<N.length:=(qa1 h1).1
  unfold g_q at h2
  by_cases hiv:i<vs.length
  .have ha:vs[i]?=some v:=by
    rw [getElem?_append_left (by simpa using hiv),qa6] at h2
    cases e:vs[i]? with
    | none=>rw [e] at h2;cases h2
    | some a=>rw [e] at h2;cases h2;rfl
   obtain ⟨u,hu,rv⟩:=r.get ha
   have hp:ps[i]?=some y:=by
    rw [<- S.pre,List.getElem?_take_of_lt (by lia)];exact h1
   have ndP:ps.Nodup:=by rw [<- S.pre];exact S.nd.sublist (List.take_sublist _ _)
   exact (u,rv,.inl (S.par y (qb2 hp),mj ndP hp hu))
  .rw [getElem?_append_right (by simpa using hiv)] at h2
   rw [qa4] at h2
   by_cases hir:i - vs.length<N.length - vs.length - fvs.length
   .rw [getElem?_append_left (by simpa using hir),List.getElem?_replicate,if_pos hir] at h2
    cases h2
   .rw [getElem?_append_right (by simpa using hir),length_replicate,qa6] at h2
    have ej:i - vs.length - (N.length - vs.length - fvs.length)=i - (N.length - fr.length):=by lia
    rw [ej] at h2
    cases e:fvs[i - (N.length - fr.length)]? with
    | none=>rw [e] at h2;cases h2
    | some a=>
     rw [e] at h2
     cases h2
     have hf:fr[i - (N.length - fr.length)]?=some y:=by
      have q:(N.drop (N.length - fr.length))[i - (N.length - fr.length)]?=some y:=by
       rw [List.getElem?_drop,show N.length - fr.length+(i - (N.length - fr.length))=i by omega]
       exact h1
      rw [S.suf] at q
      exact q
     obtain ⟨k1,c,u,k2,k3,k4⟩:=C.val _ _ _ hf e
     exact (u,k4,.inr (.inr k1,c,k2,cellK c _ k3))
 .obtain ⟨v,z⟩:=C.cell y c h
  exact (v,cellK c v z)
 .obtain ⟨v,o,ho,_⟩:=C.cell y c h
  exact (e0.bs c o ho).2
 .unfold g_q
  show _=N.length
  simp only [qa5,qa4,length_replicate]
  lia
theorem lE (ho:base.get? f=some o) (hd:o.data=.func (PySem.W.fnX name qual params body scope clos .none .none doc pm none (.ref c') ctv))
  (hcd:base.CodeRec (.ref c') qual) (S:f_e N ps fr scope) (C:bc base clos scope fr fvs) (len:∀vs H Q E,sp vs H Q E->vs.length=ps.length)
  (hbody:∀(A:Around) (outer:List Env) (s:Shared) (H:Hp) (vs:List V) (Q:VK) (E:XK),ak k (A.deeper (envX qual scope s.heap.objs.size f (.ref c') clos))->sp vs H Q E->
   ∃t,PSs (eX CX0 P w K mg base N qual scope f (.ref c') clos A outer s H E).nox body t/\t { nx:=λ_ H'=>Q .non H',rt:=Q } (g_q N vs fvs) H):
  aa P w K mg base CX0 (k+1) f (PySem.W.fnX name qual params body scope clos .none .none doc pm none (.ref c') ctv) ps sp:=by
 refine (len,λA outer s H args us vs Q E hr e0 hb r hsp=>?_)
 have hl:=len _ _ _ _ hsp
 have lim:s.heap.NoLimit:=e0.mod.nolimit.keeps λb o e=>(e0.bs b o e).1
 have hus:us.length=ps.length:=by rw [<- r.length];exact hl
 have hkind:∀y∈ps.zip us,scope.names.lookup y.1=some .local:=λhZ2 hy=>by obtain ⟨n,v⟩:=hZ2;exact S.par n (List.of_mem_zip hy).1
 have hcd':s.heap.CodeRec (.ref c') qual:=by
  obtain ⟨c,oc,ws,t,e1,e2,e3,e4⟩:=hcd
  exact (c,oc,ws,t,e1,(e0.bs c oc e2).1,e3,e4)
 refine codeAny_call_function hr.depth (e0.bs f o ho).1 hd S.co S.gen rfl hcd' (hb _ _ _ _ ?_)
 refine wpAny_newFunctionEnv (closure:=clos) (around:=none) S.nocell hkind (λh' hns hsb=>?_) S.kind
 have hkp:∀b o,s.heap.get? b=some o->h'.get? b=some o:=λb o e=>hsb.extBut b o (ne_of_lt (lt_size e)) (qa9 _ e)
 refine (lim.keeps hkp,codeAny_func ?_)
 obtain ⟨t,ht,hq⟩:=hbody A outer s H vs Q E (hr.deeper _) hsp
 have I:Inv (eX CX0 P w K mg base N qual scope f (.ref c') clos A outer s H E) [] (g_q N vs fvs) H { s with heap:=h',toks:=s.toks+(ps.zip us).length }:=gA S C hr.hd e0 hl r hns hsb
 refine wpAny_mono (ht.nox [] _ (g_q N vs fvs) H _ I hq) (λfl s' hs=>?_) λe s' hs=>hs
 have fin:∀{σ':St} {H':Hp} {v:V} {u:Value},Inv (eX CX0 P w K mg base N qual scope f (.ref c') clos A outer s H E) [] σ' H' s'->ad v u->Q v H'->CE outer P w H s Q u s':=
  λ{σ' H' v u} J rv q=>(v,H',J.os,J.bare,J.base,J.hok,rv,q)
 cases fl with
 | ret u=>
  obtain ⟨v,σ',H',J,rv,q⟩:=hs
  exact fin J rv q
 | next=>
  obtain ⟨σ',H',J,q⟩:=hs
  exact fin (v:=V.non) (u:=Value.none) J rfl q
 | brk=>
  obtain ⟨_,_,_,q⟩:=hs
  exact False.elim q
 | cont=>
  obtain ⟨_,_,_,q⟩:=hs
  exact False.elim q
end
def j6 (i:Nat) (f:Addr) (sp:Sp) (t:TA):TE:=λσ H Q=>σ[i]?=some (some (.ref f))/\t σ H λvs H1=>sp vs H1 Q E0
theorem d8 {X:Cx} {k i:Nat} {f:Addr} {fd fd':FuncData} {oc:Value} {p pos:Pos} (F:aa X.prog X.w X.K X.mg X.base CX0 k f fd ps sp) (hr:ak k X.A) (ho:X.base.get? f=some (oc,od,.func fd',sl))
  (hb:c_n X.K fd ps []) (hv:PE X (.Name x p) (be i)) (ha:PA X (e::es) t) (he:starEach (e::es) X.env=(false,eval e X.env,)::starEach es X.env:=by rfl) (hpl:(backTo pos (starEach es X.env)).any (·.1)=false:=by rfl):
  PE X (.Call (.Name x p) (e::es) [] pos) (j6 i f sp t):=by
 intro pins s σ H Q I h
 refine wpAny_Call_Name_kw (thn (hv pins s σ H (λv H1=>v=.ref f/\H1=H) I (_,h.1,rfl,rfl)) λfv s1 hq=>?_)
 obtain ⟨v,H1,I1,rv,rfl,rfl⟩:=hq
 obtain rfl:fv=.ref f:=rv
 refine PySem.W.callWith_F (oc,od,fd',sl,(I1.bs f _ ho).1) (thn (ha pos pins s1 σ H1 _ I1 h.2) λus s2 ⟨vs,H2,I2,r,q⟩=>((oc,od,fd',sl,(I2.bs f _ ho).1),?_)) he hpl
 exact cH F hr hb .nil d9 I2 r (by rw [append_nil];exact q)
theorem jI (q:Pos) (r:List Value) (l:List Value) (h:TriplesOk l):codeAmong q (l++r)=(codeAmong q l).or (codeAmong q r):=by
 induction l using TriplesOk.induct with
 | case1=>simp [codeAmong]
 | case2 a t b u c rest ih=>
  have h:TriplesOk rest:=h
  simp only [cons_append,codeAmong]
  split
  .rfl
  .exact ih h
 | case3 l h1 h2=>
  exfalso
  unfold TriplesOk at h
  split at h
  .exact h1 rfl
  .exact h2 _ _ _ _ _ _ rfl
  .exact h
theorem dF (x y:Int) (t u:Tok) (c:Value) (l:List Value) (h:TriplesOk l):TriplesOk (l++[.int x t,.int y u,c]):=by
 induction l using TriplesOk.induct with
 | case1=>exact True.intro
 | case2 a t b u c rest ih=>exact ih h
 | case3 l h1 h2=>
  exfalso
  unfold TriplesOk at h
  split at h
  .exact h1 rfl
  .exact h2 _ _ _ _ _ _ rfl
  .exact h
def codeHO (c:Addr) (q:Str):HO:=.ext λh=>h.CodeRec (.ref c) q
def fnHO (f:Addr) (name qual:Str) (params:Arguments) (body:List Stmt) (scope:Scope) (clos:List (Str×Addr)) (c:Addr):HO:=.ext λh=>∃doc pm ctv,h.get? f=some (fnMade name qual params body scope clos doc pm c ctv)
def b_B (H:Hp) (P0:Addr) (sites:List (Pos×Str)):Prop:=
 ∃ps,H P0=some (.tbl ps)/\TriplesOk ps.toList/\∀q∈sites,codeAmong q.1 ps.toList=none\/∃c,codeAmong q.1 ps.toList=some (.ref c)/\H c=some (codeHO c q.2)
def c_k (P0:Addr) (H H':Hp):Prop:=∀b o,b≠P0->H b=some o->H' b=some o
structure bd (h:Heap) (mg:Str->Option Value):Prop where
 ex:∃bm o,mg "__builtins__"=some (.ref bm)/\bm≠builtinsNs/\bm≠mainGlobals/\h.get? bm=some o/\o.cls=.type "module"/\o.dict=some builtinsNs/\o.data=.plain
def pi (X:Cx) (P0:Addr) (sites:List (Pos×Str)) (i:Nat) (name qual:Str) (params:Arguments) (body:List Stmt) (sc:Scope):TS:=λD σ H=>b_B H P0 sites/\
 ∀(clos:List (Str×Addr)) (f c:Addr) (H1:Hp),(∀y a,clos.lookup y=some a->X.env.cells.lookup y=some a)->(∀y∈sc.names,y.2=.free->∃a,clos.lookup y.1=some a)->H f=none->f≠c->c_k P0 H H1->b_B H1 P0 sites->
  H1 c=some (codeHO c qual)->H1 f=some (fnHO f name qual params body sc clos c)->D.nx (σ.set i (some (.ref f))) H1
theorem jE (x:h.CodeRec (.ref c) q):b_f P w H h c (codeHO c q):=by
 obtain ⟨c2,oc,vs,t,e,e1,e2,e3⟩:=id x
 cases e
 refine (x,(oc,e1),λh1 h2 y k=>?_)
 obtain ⟨c2,oc,vs,t,e,e1,e2,e3⟩:=y
 cases e
 exact (_,oc,vs,t,rfl,k _ e1,e2,e3)
theorem iA {P:Program} {w:World}
  (x:h.get? f=some (fnMade name qual params body scope clos doc pm c ctv)):b_f P w H h f (fnHO f name qual params body scope clos c):=
 ((doc,pm,ctv,x),(_,x),λ_ _ hZ0 k=>by obtain ⟨d,p,v,e⟩:=hZ0;exact (d,p,v,k _ e))
theorem ia {X:Cx} {params:Arguments} {body:List Stmt} {sc:Scope} (hN:X.N.Nodup) (hi:X.N[i]?=some name) (hx:Loc X.env.scope name) (hcode:X.env.code=.ref c) (hC:CodeHd X.base c P0) (hB:bd X.base X.mg)
  (hsite:(pos,qual,)∈sites) (hsites:∀q∈sites,q.1.line=pos.line->q.1.col=pos.col->q.2=qual) (hq:qualnameIn X.env name name=qual:=by rfl) (hd0:params.defaults=[]:=by rfl) (hk0:params.kw_defaults=[]:=by rfl) (ha:annTrees params none X.env=[]:=by rfl)
  (hfree:(sc.names.all λy=>y.2 != .free || X.env.scope.names.lookup y.1==some .cell)=true:=by rfl) (hf:X.fn name=true\/X.env.scope.names.lookup name=some .local:=by first|exact .inl rfl|exact .inr rfl):
  PS X (.FunctionDef name params body [] none [] sc none name pos) (pi X P0 sites i name qual params body sc):=by
 intro pins s σ H D I h
 obtain ⟨⟨ps,hP,ht,hall⟩,h⟩:=h
 have hfr:∀y∈sc.names,y.2=.free->X.env.kindOf y.1=some .cell:=λy hy e=>by
  have q:=all_eq_true.mp hfree y hy
  rw [e] at q
  simpa [Env.kindOf] using q
 obtain ⟨cl,hclos,hsub,hhas⟩:=g_L (env:=X.env) (sc:=sc) λy hy e=>I.ok.has y.1 (.inl (hfr y hy e))
 have hPh:s.heap.get? P0=some (tabObj ps):=I.hok P0 _ hP
 have hPlt:P0<s.heap.objs.size:=I.hok.lt hP
 have hbP:s.heap.BuiltinsAt X.mg P0:=by
  obtain ⟨bm,o,e1,e2,e3,e4,e5,e6,e7⟩:=hB.ex
  refine (bm,o,e1,e2,e3,λz=>?_,(I.bs bm o e4).1,e5,e6,e7)
  have n:=(I.bs bm o e4).2
  rw [z,hP] at n
  cases n
 have hgs:s.heap.Ns mainGlobals X.mg:=I.mod.glob.keeps I.bk
 have hgP:mainGlobals≠P0:=λz=>by
  obtain ⟨o,es,ep,e,hd,_⟩:=hgs
  rw [z,hPh] at e
  cases e
  cases hd
 have hC':=hC.keeps I.bk
 refine PySem.W.nestDef_K hd0 hk0 ha ?_
 rw [hq]
 have fin:∀{f:Addr} {s1:Shared} {H1:Hp},Inv X pins σ H1 s1->D.nx (σ.set i (some (.ref f))) H1->wpAny (model X.prog X.w) X.A (storeName X.env name (.ref f)) (λ_ s''=>SP X pins D .next s'') X.xe s1:=λ{f s1 H1} I1 q=>
  store_ok I1 hN hi hx (v:=.ref f) rfl (λs' I'=>(_,H1,I',q)) hf
 have old:∀{b:Addr} {u:HO},H b=some u->b<s.heap.objs.size:=λe=>I.hok.lt e
 rcases hall _ hsite with hnf|⟨c0,hhit,hc0⟩
 .refine PySem.W.makeFunction_K (mg:=X.mg) hclos I.ok.glob hgs hcode hC' hPh ht hnf hgP hbP λc' ctv doc h' tk hxx hge hlt hrec htb=>?_
  have hPc:P0≠c':=ne_of_lt (lt_of_lt_of_le hPlt hge)
  have hszh:s.heap.objs.size<h'.objs.size:=lt_of_le_of_lt hge hlt
  have hPf:P0≠h'.objs.size:=ne_of_lt (lt_trans hPlt hszh)
  have hcf:c'≠h'.objs.size:=ne_of_lt hlt
  generalize hfe:h'.objs.size=f at hPf hcf hszh ⊢
  have kp:∀b o,b≠P0->s.heap.get? b=some o->(h'.push (fnMade name qual params body sc cl doc ((X.mg "__name__").getD .none) c' ctv)).get? b=some o:=λb o hb e=>qa9 _ (hxx b o hb e)
  have hof:(h'.push (fnMade name qual params body sc cl doc ((X.mg "__name__").getD .none) c' ctv)).get? f=some (fnMade name qual params body sc cl doc ((X.mg "__name__").getD .none) c' ctv):=by rw [<- hfe];exact get?_push_size _ rfl
  have hoc:(h'.push (fnMade name qual params body sc cl doc ((X.mg "__name__").getD .none) c' ctv)).CodeRec (.ref c') qual:=by
   obtain ⟨c2,oc,vs,t,e,e1,e2,e3⟩:=hrec
   exact (c2,oc,vs,t,e,qa9 _ e1,e2,e3)
  have hoP:(h'.push (fnMade name qual params body sc cl doc ((X.mg "__name__").getD .none) c' ctv)).get? P0=some (tabObj (ps++#[rawInt pos.line,rawInt pos.col,.ref c'])):=qa9 _ htb
  generalize h'.push (fnMade name qual params body sc cl doc ((X.mg "__name__").getD .none) c' ctv)=hh at kp hof hoc hoP ⊢
  generalize hps:ps++#[rawInt pos.line,rawInt pos.col,.ref c']=ps' at hoP
  have nlt:∀{b:Addr},b<s.heap.objs.size->b≠c'/\b≠f:=λhb=>(ne_of_lt (lt_of_lt_of_le hb hge),ne_of_lt (lt_trans hb hszh))
  have get1:∀{b:Addr},b<s.heap.objs.size->b≠P0->upd (upd (upd H P0 (.tbl ps')) c' (codeHO c' qual)) f (fnHO f name qual params body sc cl c') b=H b:=λhb hbP=>by
   rw [upd_ne (nlt hb).2,upd_ne (nlt hb).1,upd_ne hbP]
  have getO:∀{b:Addr},b≠P0->b≠c'->b≠f->upd (upd (upd H P0 (.tbl ps')) c' (codeHO c' qual)) f (fnHO f name qual params body sc cl c') b=H b:=λh1 h2 h3=>by
   rw [upd_ne h3,upd_ne h2,upd_ne h1]
  have getP:upd (upd (upd H P0 (.tbl ps')) c' (codeHO c' qual)) f (fnHO f name qual params body sc cl c') P0=some (.tbl ps'):=by rw [upd_ne hPf,upd_ne hPc,upd_same]
  have getc:upd (upd (upd H P0 (.tbl ps')) c' (codeHO c' qual)) f (fnHO f name qual params body sc cl c') c'=some (codeHO c' qual):=by rw [upd_ne hcf,upd_same]
  have getf:upd (upd (upd H P0 (.tbl ps')) c' (codeHO c' qual)) f (fnHO f name qual params body sc cl c') f=some (fnHO f name qual params body sc cl c'):=upd_same
  generalize upd (upd (upd H P0 (.tbl ps')) c' (codeHO c' qual)) f (fnHO f name qual params body sc cl c')=H1 at get1 getO getP getc getf
  have nP:∀{b:Addr},H b=none->b≠P0:=λn z=>by rw [z,hP] at n;cases n
  have keepH:∀{b:Addr} {u:HO},H b=some u->b≠P0->H1 b=some u:=λe hb=>by rw [get1 (old e) hb];exact e
  have notT:∀{b:Addr} {u:HO},H b=some u->(∀ps,u≠.tbl ps)->H1 b=some u:=λe hu=>keepH e λz=>by
   rw [z,hP] at e
   cases e
   exact hu _ rfl
  have un:Un X.fs [] H H1 s.heap hh:=by
   refine (λb o e n _ _=>kp b o (nP n) e,λb o e n _ _=>(o.slots,kp b o (nP n) e),λb o e n _=>by rw [get1 (lt_size e) (nP n)];exact n,λb o e _=>?_,λb xs e=>notT e (λ_ z=>nomatch z),λb o u e=>notT e (λ_ z=>nomatch z),λb qs e=>?_)
   .by_cases hb:b=P0
    .rw [hb];exact (_,hoP)
    .exact (o,kp b o hb e)
   .by_cases hb:b=P0
    .rw [hb,hP] at e
     cases e
     rw [hb]
     exact (_,by rw [getP,hps])
    .exact (#[],by rw [keepH e hb];simp)
  have hok1:HOk X.prog X.w H1 hh:=λa o e=>by
   by_cases haf:a=f
   .rw [haf] at e ⊢
    rw [getf] at e
    cases e
    exact iA hof
   by_cases hac:a=c'
   .rw [hac] at e ⊢
    rw [getc] at e
    cases e
    exact jE hoc
   by_cases haP:a=P0
   .rw [haP] at e ⊢
    rw [getP] at e
    cases e
    exact hoP
   rw [getO haP hac haf] at e
   refine (I.hok a o e).stay (λb u hb q=>kp b u (λz=>?_) q) (λb q=>notT q (λ_ z=>nomatch z)) λb xs q=>notT q (λ_ z=>nomatch z)
   rcases hb with hb|hb
   .exact haP (hb▸z)
   .rw [z,hP] at hb;cases hb
  have I1:Inv X pins σ H1 { s with heap:=hh,toks:=tk }:=I.un un hok1
  refine fin I1 (h cl f c' H1 hsub hhas (I.hok.fresh (le_of_lt hszh)) (Ne.symm hcf) (λb o hb e=>keepH e hb) (ps',getP,?_,λq hqs=>?_) getc getf)
  .rw [<- hps,Array.toList_append]
   exact dF _ _ _ _ _ _ ht
  .rw [<- hps,Array.toList_append,jI _ _ _ ht]
   rcases hall q hqs with hn|⟨c1,h1,h2⟩
   .rw [hn,Option.none_or]
    by_cases hsame:q.1.line=pos.line/\q.1.col=pos.col
    .refine .inr (c',?_,?_)
     .show codeAmong q.1 [rawInt pos.line,rawInt pos.col,.ref c']=_
      simp [codeAmong,rawInt,hsame.1,hsame.2]
     .rw [hsites q hqs hsame.1 hsame.2]
      exact getc
    .refine .inl ?_
     show codeAmong q.1 [rawInt pos.line,rawInt pos.col,.ref c']=_
     simp only [codeAmong,rawInt]
     rw [if_neg]
     intro z
     simp at z
     exact hsame (by lia,by lia)
   .rw [h1,Option.some_or]
    exact .inr (c1,rfl,notT h2 (λ_ z=>nomatch z))
 .refine PySem.W.makeFunction_hit (mg:=X.mg) hclos I.ok.glob hgs hcode hC' hPh ht hhit hbP λctv doc h' tk hk hsz=>?_
  have I1:Inv X pins σ (upd H h'.objs.size (fnHO h'.objs.size name qual params body sc cl c0)) { s with heap:=h'.push (fnMade name qual params body sc cl doc ((X.mg "__name__").getD .none) c0 ctv),toks:=tk }:=
   I.laid (λb u e=>qa9 _ (hk b u e)) hsz (iA (get?_push_size _ rfl))
  have hfn:H h'.objs.size=none:=I.hok.fresh hsz
  have kH:∀{b:Addr} {u:HO},H b=some u->upd H h'.objs.size (fnHO h'.objs.size name qual params body sc cl c0) b=some u:=λe=>by rw [upd_ne (ne_of_none e hfn)];exact e
  refine fin I1 (h cl _ c0 _ hsub hhas hfn (Ne.symm (ne_of_none hc0 hfn)) (λb o _ e=>kH e) (ps,kH hP,ht,λq hqs=>?_) (kH hc0) upd_same)
  rcases hall q hqs with hn|⟨c1,h1,h2⟩
  .exact .inl hn
  .exact .inr (c1,h1,kH h2)
def untr (U:List Addr) (H:Hp):Hp:=λb=>if b∈U then none else H b
def dS (U:List Addr) (H H':Hp):Hp:=λb=>if b∈U then H b else H' b
theorem g_Q (h:b∈U):untr U H b=none:=if_pos h
theorem b_s (h:b∉U):untr U H b=H b:=if_neg h
theorem hY (h:b∈U):dS U H H' b=H b:=if_pos h
theorem c_R (h:b∉U):dS U H H' b=H' b:=if_neg h
theorem Mod.keeps {K:Frag} (M:Mod K mg h) (k:∀b o,h.get? b=some o->h'.get? b=some o):Mod K mg h':=
 (M.kin.keeps k,M.glob.keeps k,let ⟨mb,a,b⟩:=M.blt;(mb,a.keeps k,b),M.nolimit.keeps k)
section
variable {P:Program} {w:World} {K:Frag} {mg:Str->Option Value} {base:Heap} {A:Around} {outer:List Env} {s:Shared} {H:Hp} {U:List Addr}
theorem jS (e0:bb P w K mg base A outer s H) (hU:∀u∈U,∃ φ,H u=some (.ext φ)):
  ∃base',bb P w K mg base' A outer s (untr U H)/\(∀b o,base.get? b=some o->base'.get? b=some o)/\∀b o,s.heap.get? b=some o->b∉frs outer->untr U H b=none->base'.get? b=some o:=by
 have hget:∀b o,s.heap.get? b=some o->b∉frs outer->untr U H b=none->(hideAll s.heap (trk s.heap (untr U H)++frs outer)).get? b=some o:=λb o e hf hn=>PySem.W.hideAll_get _ e λhm=>by
  rcases mem_append.mp hm with z|z
  .have q:((untr U H) b).isSome=true:=(mem_filter.mp z).2
   rw [hn] at q
   cases q
  .exact hf z
 have notU:∀b,H b=none->b∉U:=λb n z=>by
  obtain ⟨φ,e⟩:=hU b z
  rw [n] at e
  cases e
 have sub:∀b o,base.get? b=some o->(hideAll s.heap (trk s.heap (untr U H)++frs outer)).get? b=some o:=λb o e=>by
  obtain ⟨e1,n⟩:=e0.bs b o e
  refine hget b o e1 (λz=>?_) (by rw [b_s (notU b n)];exact n)
  have:=(e0.funs.mem z).1
  rw [e] at this
  cases this
 have keepO:∀{b:Addr} {u:HO},H b=some u->(∀ φ,u≠.ext φ)->untr U H b=some u:=λ{b u} e hu=>by
  rw [b_s λz=>?_]
  .exact e
  .obtain ⟨φ,e'⟩:=hU b z
   rw [e] at e'
   exact hu φ (Option.some.inj e')
 refine (hideAll s.heap (trk s.heap (untr U H)++frs outer),(e0.frames,e0.mod.keeps sub,λb o e=>?_,le_of_eq (PySem.W.hideAll_size _ _),g_G e0.funs λb hb=>mem_append_right _ hb,λb hb=>?_,λa o e=>?_,e0.bare),sub,hget)
 .have e1:=PySem.W.of_hideAll _ e
  refine (e1,?_)
  cases q:untr U H b with
  | none=>rfl
  | some u=>
   have hm:b∈trk s.heap (untr U H)++frs outer:=mem_append_left _ (mem_filter.mpr (mem_range.mpr (lt_size e1),by simp [q]))
   rw [PySem.W.hideAll_none _ hm] at e
   cases e
 .rw [b_s (notU b (e0.frf b hb))]
  exact e0.frf b hb
 .have ha:a∉U:=λz=>by rw [g_Q z] at e;cases e
  rw [b_s ha] at e
  exact (e0.hok a o e).stay (λ_ _ _ q=>q) (λb q=>keepO q (λ_ z=>nomatch z)) λb xs q=>keepO q (λ_ z=>nomatch z)
theorem iN (e0:bb P w K mg base A outer s H) (hU:∀u∈U,∃ φ,H u=some (.ext φ)) (h:CE outer P w (untr U H) s (λv H2=>(∀u∈U,H2 u=none)->Q v (dS U H H2)) u s'):CE outer P w H s Q u s':=by
 obtain ⟨v,H',os,bare,un,hok,r,q⟩:=h
 have notU:∀b,H b=none->b∉U:=λb n z=>by
  obtain ⟨φ,e⟩:=hU b z
  rw [n] at e
  cases e
 have notF:∀b∈U,b∉frs outer:=λb hb z=>notU b (e0.frf b z) hb
 have stays:∀b∈U,∃o,s.heap.get? b=some o/\s'.heap.get? b=some o/\H' b=none:=λb hb=>by
  obtain ⟨φ,e⟩:=hU b hb
  obtain ⟨_,⟨o,ho⟩,_⟩:=e0.hok b _ e
  exact (o,ho,un.keep b o ho (g_Q hb) (notF b hb) (by simp),un.free b o ho (g_Q hb) (by simp))
 have keepT:∀{b:Addr} {x:HO},H b=some x->(∀ φ,x≠.ext φ)->b∉U:=λ{b x} e hx z=>by
  obtain ⟨φ,e'⟩:=hU b z
  rw [e] at e'
  exact hx φ (Option.some.inj e')
 have keepH:∀{b:Addr} {x:HO},H' b=some x->dS U H H' b=some x:=λ{b x} e=>by
  rw [c_R λz=>?_]
  .exact e
  .obtain ⟨_,_,_,n⟩:=stays b z
   rw [e] at n
   cases n
 refine (v,dS U H H',os,bare,(λb o e n hb hx=>?_,λb o e n hb hx=>?_,λb o e n hx=>?_,un.there,λb xs e=>?_,λb o x e=>?_,λb ps e=>?_),λa o e=>?_,r,q λb hb=>(stays b hb).choose_spec.2.2)
 .exact un.keep b o e (by rw [b_s (notU b n)];exact n) hb hx
 .exact un.slot b o e (by rw [b_s (notU b n)];exact n) hb hx
 .rw [c_R (notU b n)]
  exact un.free b o e (by rw [b_s (notU b n)];exact n) hx
 .have hb:=keepT e (λ_ z=>nomatch z)
  rw [c_R hb]
  exact un.tups b xs (by rw [b_s hb];exact e)
 .have hb:=keepT e (λ_ z=>nomatch z)
  rw [c_R hb]
  exact un.frzs b o x (by rw [b_s hb];exact e)
 .have hb:=keepT e (λ_ z=>nomatch z)
  rw [c_R hb]
  exact un.tbls b ps (by rw [b_s hb];exact e)
 .by_cases ha:a∈U
  .rw [hY ha] at e
   obtain ⟨φ,e'⟩:=hU a ha
   rw [e'] at e
   cases e
   obtain ⟨o,ho,ho',_⟩:=stays a ha
   obtain ⟨p1,_,p3⟩:=e0.hok a _ e'
   exact (p3 _ _ p1 (λo2 z=>by rw [ho] at z;cases z;exact ho'),(o,ho'),p3)
  .rw [c_R ha] at e
   exact (hok a o e).stay (λ_ _ _ z=>z) (λb z=>keepH z) λb xs z=>keepH z
end
structure gM (X:Cx) (U:List Addr) (σ:St) (H:Hp) (base':Heap):Prop where
 sub:∀b o,X.base.get? b=some o->base'.get? b=some o
 mod:Mod X.K X.mg base'
 ext:∀u φ,u∈U->H u=some (.ext φ)->φ base'
 inj:∀y z c,X.env.cells.lookup y=some c->X.env.cells.lookup z=some c->y=z
 cell:∀y c,X.env.cells.lookup y=some c->∃v,base'.IsCell c v
 val:∀(i:Nat) (y:Str) (v:V),X.N[i]?=some y->σ[i]?=some (some v)->X.env.scope.names.lookup y=some .cell->∃c u,X.env.cells.lookup y=some c/\base'.IsCell c (some u)/\ad v u
def pb (X:Cx) (f:Addr) (fd:FuncData) (ps:List Str) (dvs:List V) (t:TA):TE:=λσ H Q=>t σ H λvs H1=>∃U:List Addr,(∀u∈U,∃ φ,H1 u=some (.ext φ))/\∀base':Heap,gM X U σ H1 base'->
 ∃(k:Nat) (sp:Sp),ak k X.A/\aa X.prog X.w X.K X.mg base' CX0 k f fd ps sp/\sp (vs++dvs) (untr U H1) (λv H2=>(∀u∈U,H2 u=none)->Q v (dS U H1 H2)) E0
theorem mz {X:Cx} {f:Addr} {p pos:Pos} (hg:Gl X x) (hm:X.mg x=some (.ref f)) (hk:keepIn X.K (.ref f)=true) (hb:c_n X.K fd ps ds) (hd:ab dvs ds) (ha:PA X (e::es) t)
  (hfn:∀y,X.fn y=true) (hdb:(x==("__debug__":Str))=false:=by decide) (he:starEach (e::es) X.env=(false,eval e X.env,)::starEach es X.env:=by rfl) (hpl:(backTo pos (starEach es X.env)).any (·.1)=false:=by rfl):
  PE X (.Call (.Name x p) (e::es) [] pos) (pb X f fd ps dvs t):=by
 intro pins s σ H Q I h
 refine wpAny_Call_Name_kw (ld_glob I hg hm ?_ hdb)
 refine callWith_K (h₀:=X.base) I.ok.mod.kin hk (thn (ha pos pins s σ H _ I h) λus s1 ⟨vs,H1,I1,r,q⟩=>(I1.kIn,?_)) he hpl
 obtain ⟨U,hU,q⟩:=q
 obtain ⟨base',e0,hsub,hget⟩:=jS I1.env0 hU
 have cellB:∀y c v,X.env.cells.lookup y=some c->s1.heap.IsCell c v->base'.IsCell c v:=λy c v hc hZ1=>by
  obtain ⟨o,ho,hdd⟩:=hZ1
  have hn:=I1.freeC y c hc
  refine (o,hget c o ho (λz=>?_) ?_,hdd)
  .rcases mem_cons.mp (I1.stkSub c z) with z|z
   .exact I1.cne y c hc z
   .obtain ⟨_,o',ho',_⟩:=I1.ok.funs.mem z
    exact absurd (lt_size ho') (not_lt.mpr (I1.ok.cab y c (hfn y) hc))
  .unfold untr
   split
   .rfl
   .exact hn
 have W:gM X U σ H1 base':=by
  refine (hsub,e0.mod,λu φ hu e=>?_,I1.ok.inj,λy c hc=>?_,λi y v e1 e2 e3=>?_)
  .obtain ⟨p1,⟨o,ho⟩,p3⟩:=I1.hok u _ e
   refine p3 _ _ p1 λo2 z=>hget u o2 z (λy=>?_) (g_Q hu)
   rw [I1.stkFree u y] at e
   cases e
  .obtain ⟨v,z⟩:=I1.cell y c hc
   exact (v,cellB y c v hc z)
  .obtain ⟨m,hn,hl⟩:=I1.loc
   obtain ⟨u,ru,lk⟩:=hl i y v e1 e2 (.inr (.inl e3))
   rcases lk with ⟨k1,_⟩|⟨_,c,hc,z⟩
   .have:X.env.scope.names.lookup y=some .local:=k1
    rw [e3] at this
    cases this
   .exact (c,u,hc,cellB y c _ hc z,ru)
 obtain ⟨k,sp,hr,F,hsp⟩:=q base' W
 have r2:ab (vs++dvs) (us++ds):=r.append hd
 have hl:(us++ds).length=ps.length:=by rw [<- r2.length];exact F.len _ _ _ _ hsp
 refine wpAny_call (codeAny_mono (F.run X.A X.stack s1 (untr U H1) (us,[]) (us++ds) (vs++dvs) _ E0 hr e0 (hb s1 us I1.kIn hl) r2 hsp) λr s' hq=>?_)
 cases r with
 | error e=>exact False.elim hq
 | ok fl=>
  cases fl with
  | ret u=>exact I1.after (iN I1.env0 hU hq)
  | next=>exact False.elim hq
  | brk=>exact False.elim hq
  | cont=>exact False.elim hq
def a_Y (ts:List Addr) (K:Frag):Frag:=K.filter λq=>!ts.contains q.1
theorem c_V {ts:List Addr} {a:Addr} (hn:ts.contains a=false):∀{K:Frag},(a_Y ts K).lookup a=K.lookup a
 | []=>rfl
 | (b,x)::r=>by
  unfold a_Y
  rw [List.filter_cons]
  by_cases hb:a=b
  .subst hb
   rw [if_pos (by simpa using hn),lookup_cons,lookup_cons]
   simp
  .have hb':(a==b)=false:=beq_eq_false_iff_ne.mpr hb
   split
   .rw [lookup_cons,lookup_cons,hb']
    exact c_V (K:=r) hn
   .rw [lookup_cons,hb']
    exact c_V (K:=r) hn
theorem h_p {ts:List Addr} {a:Addr} {o:Obj}:∀{K:Frag},(a_Y ts K).lookup a=some o->ts.contains a=false
 | [],e=>by cases e
 | (b,x)::r,e=>by
  unfold a_Y at e
  rw [List.filter_cons] at e
  split at e
  .rename_i hc
   rw [lookup_cons] at e
   by_cases hb:a=b
   .subst hb
    simpa using hc
   .rw [beq_eq_false_iff_ne.mpr hb] at e
    exact h_p (K:=r) e
  .exact h_p (K:=r) e
theorem lkD {K:Frag} (e:K.lookup a=some o) (hn:ts.contains a=false):(a_Y ts K).lookup a=some o:=(c_V hn).trans e
theorem nsD {K:Frag} (e:nsIn K a x=r) (hn:ts.contains a=false):nsIn (a_Y ts K) a x=r:=by
 unfold nsIn at e ⊢
 rw [c_V hn]
 exact e
theorem cdD {K:Frag} (e:codeIn K (.ref c) x=true) (hn:ts.contains c=false):codeIn (a_Y ts K) (.ref c) x=true:=by
 unfold codeIn at e ⊢
 dsimp only at e ⊢
 rw [c_V hn]
 exact e
def dk (K:Frag) (c P:Addr):Bool:=match K.lookup c with
 | some ⟨.type n,_,.fields vs,_⟩=>n=="code"&&c != P&&(match (vs[11]?:Option Value),(vs[18]?:Option Value),(vs[7]?:Option Value),(vs[9]?:Option Value),(vs[10]?:Option Value) with
   | some (.ref Q),some (.str _ _),some (.int _ _),some (.bool _),some (.int _ _)=>Q==P
   | _,_,_,_,_=>false)
 | _=>false
theorem gI {K:Frag} (X:K.In h) (e:dk K c P=true):CodeHd h c P:=by
 unfold dk at e
 split at e
 .rename_i n dd vs sl hl
  have ho:=X _ _ hl
  rw [and_eq_true,and_eq_true] at e
  obtain ⟨⟨e1,e2⟩,e3⟩:=e
  split at e3
  .rename_i Q s t i u b j v h1 h2 h3 h4 h5
   have hQ:Q=P:=eq_of_beq e3
   subst hQ
   have gd:∀{k:Nat} {x:Value},vs[k]?=some x->vs.getD k .none=x:=λ{k x} z=>by
    rw [Array.getD_eq_getD_getElem?,z]
    rfl
   exact (_,vs,s,t,i,u,b,j,v,ho,by rw [eq_of_beq e1],rfl,h1,gd h1,gd h2,gd h3,gd h4,gd h5,by simpa using e2)
  .cases e3
 .cases e
structure nH (K:Frag) (q:Addr×Addr):Prop where
 code:dk K q.1 q.2=true
 tab:K.lookup q.2=some (tabObj #[])
def cn (K:Frag) (tabs:List (Addr×Addr)):Sp:=λvs H Q _=>∃(a:Addr) (ns:List Int),vs=[.ref a]/\SqL K H a (ns.map V.int)/\ns.length≤63/\(∀q∈tabs,H q.2=some (.tbl #[]))/\∀H',Q (.bl true) H'
theorem fi (x:CodeHd h c P) (k:∀o,o.cls=.type "code"->h.get? c=some o->h'.get? c=some o):CodeHd h' c P:=by
 obtain ⟨o,vs,file,tf,flags,tg,inF,text,tt,e,r1,r⟩:=x
 exact (o,vs,file,tf,flags,tg,inF,text,tt,k o r1 e,r1,r)
theorem jn {P:Program} {w:World} {K:Frag}
  (KX:K.In s₁.heap) (hT:∀q∈tabs,nH K q) (hns:s₁.heap.Ns mainGlobals mg) (hB:bd s₁.heap mg) (hb:s₁.heap.Ns builtinsNs mb) (hbb:∀x:Str,x≠"__name__"->mb x=bootBuiltins x) (hlim:s₁.heap.NoLimit) (hg:s₁.gens=#[])
  (ha:s₁.heap.get? a=some { cls:=.type "list",data:=.seq vs.toArray }) (hi:IntsAre vs ns) (hl:ns.length≤63) (hr:ak k callerA)
  (F:∀base:Heap,(a_Y (tabs.map (·.2)) K).In base->base.Ns mainGlobals mg->bd base mg->(∀q∈tabs,CodeHd base q.1 q.2)->aa P w (a_Y (tabs.map (·.2)) K) mg base CX0 k fa fd [x] (cn (a_Y (tabs.map (·.2)) K) tabs)) (hbind:∀(s:Shared) (u:Value),BindsTo s fd ([u],[]) [(x,u,)]):
  codeAny (model P w) callerA (.call (.ref fa) ([.ref a],[])) (λr s'=>r=.ok (.ret (.bool true))/\OldK s₁.heap s'.heap/\s'.os=s₁.os/\AllBare s'.gens) s₁:=by
 have rv:=bi hi
 have lenV:=hi.length
 have hls:ns.length≤sizeLine:=le_trans hl (by rw [sizeLine_eq];decide)
 have tabH:∀q∈tabs,s₁.heap.get? q.2=some (tabObj #[]):=λq hq=>KX _ _ (hT q hq).tab
 have hd:∀q∈tabs,CodeHd s₁.heap q.1 q.2:=λq hq=>gI KX (hT q hq).code
 have inT:∀{b:Addr},(tabs.map (·.2)).contains b=true->∃q∈tabs,q.2=b:=λ{b} hb=>by
  rw [List.contains_iff_mem] at hb
  obtain ⟨q,hq,e⟩:=mem_map.mp hb
  exact (q,hq,e)
 have memT:∀{q:Addr×Addr},q∈tabs->(tabs.map (·.2)).contains q.2=true:=λ{q} hq=>by
  rw [List.contains_iff_mem]
  exact List.mem_map_of_mem hq
 have aT:(tabs.map (·.2)).contains a=false:=by
  cases z:(tabs.map (·.2)).contains a with
  | false=>rfl
  | true=>
   obtain ⟨q,hq,e⟩:=inT z
   have e1:=tabH q hq
   rw [e,ha] at e1
   cases e1
 have core:∀H:Hp,SqL (a_Y (tabs.map (·.2)) K) H a (ns.map V.int)->HOk P w H s₁.heap->(∀b,H b=none\/(b=a/\K.lookup a=none/\H b=some (.frz { cls:=.type "list",data:=.seq vs.toArray } (.lst (ns.map V.int))))\/((tabs.map (·.2)).contains b=true/\H b=some (.tbl #[])))->
   (∀q∈tabs,H q.2=some (.tbl #[]))->
   codeAny (model P w) callerA (.call (.ref fa) ([.ref a],[])) (λr s'=>r=.ok (.ret (.bool true))/\OldK s₁.heap s'.heap/\s'.os=s₁.os/\AllBare s'.gens) s₁:=by
  intro H hS hok hO hTH
  have base_of:∀{b:Addr} {o:Obj},s₁.heap.get? b=some o->H b=none->(aU s₁.heap H).get? b=some o:=λe n=>lh e n
  have freeOf:∀{b:Addr} {o:Obj},s₁.heap.get? b=some o->b≠a->o≠tabObj #[]->H b=none:=λ{b o} e hne hno=>by
   rcases hO b with z|⟨z,_⟩|⟨z,_⟩
   .exact z
   .exact absurd z hne
   .obtain ⟨q,hq,e2⟩:=inT z
    have e1:=tabH q hq
    rw [e2,e] at e1
    exact absurd (Option.some.inj e1) hno
  have nsK:∀{b:Addr} {m:Str->Option Value},s₁.heap.Ns b m->(aU s₁.heap H).Ns b m:=λ{b m} hZ2=>by obtain ⟨o,es,ep,e,d,r⟩:=hZ2;exact (o,es,ep,base_of e (freeOf e (λz=>by rw [z,ha] at e;cases e;cases d) (λz=>by rw [z] at d;cases d)),d,r)
  have hKb:(a_Y (tabs.map (·.2)) K).In (aU s₁.heap H):=λb o e=>by
   have hn:=h_p e
   have e1:=KX b o ((c_V hn).symm.trans e)
   refine base_of e1 ?_
   rcases hO b with z|⟨z,z2,_⟩|⟨z,_⟩
   .exact z
   .rw [c_V hn,z,z2] at e
    cases e
   .rw [hn] at z
    cases z
  have hBb:bd (aU s₁.heap H) mg:=by
   obtain ⟨bm,o,e1,e2,e3,e4,e5,e6,e7⟩:=hB.ex
   exact (bm,o,e1,e2,e3,base_of e4 (freeOf e4 (λz=>by rw [z,ha] at e4;cases e4;cases e7) (λz=>by rw [z] at e7;cases e7)),e5,e6,e7)
  have hCb:∀q∈tabs,CodeHd (aU s₁.heap H) q.1 q.2:=λq hq=>fi (hd q hq) λo hc e=>base_of e (freeOf e (λz=>by rw [z,ha] at e;cases e;injection hc with hc;exact absurd hc (by decide)) (λz=>by rw [z] at hc;cases hc))
  have hM:Mod (a_Y (tabs.map (·.2)) K) mg (aU s₁.heap H):=(hKb,nsK hns,(mb,nsK hb,hbb),let ⟨mc,h1,h2⟩:=hlim;(mc,nsK h1,h2))
  have e0:bb P w (a_Y (tabs.map (·.2)) K) mg (aU s₁.heap H) callerA [] s₁ H:=(rfl,hM,λb o e=>mI e,le_of_eq (jv _ _),trivial,λb hb=>absurd (show b∈([]:List Addr) from hb) (by simp),hok,.of_eq hg)
  refine codeAny_mono ((F _ hKb (nsK hns) hBb hCb).run callerA [] s₁ H ([.ref a],[]) [.ref a] [.ref a] (λv _=>v=.bl true) (λ_ _ _=>False) hr e0 (hbind s₁ (.ref a)) (.cons rfl .nil) (a,ns,rfl,hS,hl,hTH,λ_=>rfl)) λr s' h=>?_
  cases r with
  | error e=>exact False.elim h
  | ok fl=>
   cases fl with
   | next=>exact False.elim h
   | brk=>exact False.elim h
   | cont=>exact False.elim h
   | ret u=>
    obtain ⟨v,H',os,bare,un,hok',r',q⟩:=h
    have q':v=.bl true:=q
    subst q'
    obtain rfl:u=Value.bool true:=r'
    refine (rfl,(λb o e=>?_,λb o e=>un.there b o e (by simp)),os,bare)
    rcases hO b with z|⟨z1,_,z⟩|⟨z1,z⟩
    .exact .inl (un.keep b o e z (by intro y;exact absurd (show b∈([]:List Addr) from y) (by simp)) (by simp))
    .obtain ⟨e1,_⟩:=hok b _ z
     obtain ⟨e2,_⟩:=hok' b _ (un.frzs b _ _ z)
     rw [e] at e1
     cases e1
     exact .inl e2
    .obtain ⟨q,hq,e2⟩:=inT z1
     obtain ⟨more,z3⟩:=un.tbls b _ z
     have e3:s'.heap.get? b=some { cls:=.none,data:=.fields (#[]++more) }:=hok' b _ z3
     have e4:=tabH q hq
     rw [e2,e] at e4
     cases e4
     refine .inr (.inl (?_,rfl,#[],more,rfl,e3))
     have:=((hd q hq).tab (tabH q hq)).isCodeTable
     rw [e2] at this
     exact this
 have aOk:∀{H:Hp} {b:Addr},(tabs.map (·.2)).contains b=true->b_f P w H s₁.heap b (.tbl #[]):=λ{H b} z=>by
  obtain ⟨q,hq,e⟩:=inT z
  have e1:=tabH q hq
  rw [e] at e1
  exact e1
 cases hk:K.lookup a with
 | some o=>
  have e:=KX a o hk
  rw [ha] at e
  cases e
  refine core (λb=>if (tabs.map (·.2)).contains b=true then some (.tbl #[]) else none) (.inr (_,vs.toArray,_,(c_V aT).trans hk,rfl,rfl,rfl,by rw [size_toArray,lenV];exact hls,by simpa using rv)) (λb u z=>?_) (λb=>?_) (λq hq=>if_pos (memT hq))
  .by_cases hb:(tabs.map (·.2)).contains b=true
   .have z':=(if_pos hb).symm.trans z
    cases z'
    exact aOk hb
   .have z':=(if_neg hb).symm.trans z
    cases z'
  .by_cases hb:(tabs.map (·.2)).contains b=true
   .exact .inr (.inr (hb,if_pos hb))
   .exact .inl (if_neg hb)
 | none=>
  refine core (λb=>if b=a then some (.frz { cls:=.type "list",data:=.seq vs.toArray } (.lst (ns.map V.int))) else if (tabs.map (·.2)).contains b=true then some (.tbl #[]) else none) (.inl (.inr ({ cls:=.type "list",data:=.seq vs.toArray },if_pos rfl))) (λb u z=>?_) (λb=>?_) (λq hq=>?_)
  .by_cases hb:b=a
   .have z':=(if_pos hb).symm.trans z
    cases z'
    subst hb
    exact (ha,by rw [qa4];exact hls,vs,_,rv,ha)
   .have z':=(if_neg hb).symm.trans z
    by_cases hb2:(tabs.map (·.2)).contains b=true
    .have z2:=(if_pos hb2).symm.trans z'
     cases z2
     exact aOk hb2
    .have z2:=(if_neg hb2).symm.trans z'
     cases z2
  .by_cases hb:b=a
   .exact .inr (.inl (hb,hk,if_pos hb))
   .by_cases hb2:(tabs.map (·.2)).contains b=true
    .exact .inr (.inr (hb2,(if_neg hb).trans (if_pos hb2)))
    .exact .inl ((if_neg hb).trans (if_neg hb2))
  .have hne:q.2≠a:=λz=>by
    have:=memT hq
    rw [z,aT] at this
    cases this
   exact (if_neg hne).trans (if_pos (memT hq))
theorem walk63t {l:PySem.W.OpenLaw} {K:Params->Frag} (hn:l.most=some 63) (hdf:d.params.defaults=[]) (hr:ak k callerA) (hT:∀p,∀q∈tabs,nH (K p) q)
  (F:∀(w:World) (mg:Str->Option Value) (fa:Addr) (h:Heap),(a_Y (tabs.map (·.2)) (K w.params)).In h->h.Ns mainGlobals mg->mg d.name=some (.ref fa)->
   ∃fd:FuncData,(∀(s:Shared) (u:Value),BindsTo s fd ([u],[]) [(x,u,)])/\∀base:Heap,(a_Y (tabs.map (·.2)) (K w.params)).In base->base.Ns mainGlobals mg->bd base mg->(∀q∈tabs,CodeHd base q.1 q.2)->
    aa l.prog w (a_Y (tabs.map (·.2)) (K w.params)) mg base CX0 k fa fd [x] (cn (a_Y (tabs.map (·.2)) (K w.params)) tabs)):
  PySem.W.WalkO q loose XP (λw h=>(K w.params).In h) l.row.toRowW d [] (λf vs=>PySem.call f vs):=by
 refine Att.attach_call hn hdf λw s₀ s₁ mg mb fa o pm cd doc a vs ns G Y ho hd hcd hmg hobj hints hlen hg=>?_
 have KX:(K w.params).In s₁.heap:=Y
 have KD:(a_Y (tabs.map (·.2)) (K w.params)).In s₁.heap:=λb o e=>KX b o ((c_V (h_p e)).symm.trans e)
 obtain ⟨fd,hb,hF⟩:=F w mg fa _ KD G.T.g hmg
 obtain ⟨bm,ob,b1,b2,b3,b4,b5,b6⟩:=G.T.bmain
 have hbG:bm≠mainGlobals:=λz=>by
  obtain ⟨o,es,ep,e,hd,_⟩:=G.T.g
  rw [z,e] at b3;cases b3;rw [hd] at b6;cases b6
 exact jn KX (hT w.params) G.T.g (bm,ob,b1,b2,hbG,b3,b4,b5,b6) G.T.b G.T.builtins G.T.nolimit hg hobj hints hlen hr hF hb
inductive Sd where
 | tx (x:Str) (k:Tok)|tp (a:Addr)|ls (a:Addr)
namespace Sd
def vu:Sd->Value
 | .tx x t=>.str x t
 | .tp a=>.ref a
 | .ls a=>.ref a
def pl:Sd->Addr->Nat->Heap->Prop
 | .tx x t,it,i,h=>ZP.strAt x t it i h
 | .tp a,it,i,h=>h.IsTupleIter it a i
 | .ls a,it,i,h=>h.IsListIter it a i
def it0:Sd->Obj
 | .tx x t=>ZP.strIt x t
 | .tp a=>ZP.tupIt a
 | .ls a=>{ cls:=.type "list_iterator",data:=.fields #[.ref a,.int 0 0] }
def hp:Sd->Array Value->Heap->Prop
 | .tx _ _,_,_=>True
 | .tp a,its,h=>h.IsTuple a its
 | .ls a,its,h=>h.IsList a its
def has:Sd->Hp->List V->Prop
 | .tx x _,_,xs=>xs=x.cps.toList.map λc=>V.str ⟨#[c]⟩
 | .tp a,H,xs=>H a=some (.tup xs)
 | .ls a,H,xs=>H a=some (.lst xs)
end Sd
theorem k8 {d:Sd} (e:h.get? it=some d.it0):d.pl it 0 h:=by
 cases d with
 | tx x t=>exact (_,e,rfl,rfl)
 | tp a=>exact (_,e,rfl,rfl)
 | ls a=>exact (_,e,rfl,rfl)
theorem eJ (d:Sd):d.it0.isFreed=false:=by cases d <;> rfl
namespace ZP
def aQ (h:Heap) (o1 o2:Obj):Heap:=
 ((((h.push o1).push o2).push { cls:=.type "tuple",data:=.seq #[.ref h.objs.size,.ref (h.objs.size+1)] }).push { cls:=.type "tuple",data:=.seq #[.none,.none] }).push
  { cls:=.type "zip",data:=.fields #[.none,.bool false,.bool false,.ref (h.objs.size+2),.ref (h.objs.size+3)] }
section
variable {prog:Program} {w:World} {A:Around} {E:Value->Shared->Prop} {s:Shared}
theorem h_z (ht:s.heap.IsList a items) (h:Q (.ref s.heap.objs.size) { s with heap:=s.heap.push (Sd.ls a).it0 }):wpAny (model prog w) A (pyIter (.ref a)) Q E s:=wpAny_pyIter_list ht h
theorem h_y (h:Q (.ref s.heap.objs.size) { s with heap:=s.heap.push (Sd.tx x t).it0 }):wpAny (model prog w) A (pyIter (.str x t)) Q E s:=js h
theorem cZ (ht:s.heap.IsTuple a items) (h:Q (.ref s.heap.objs.size) { s with heap:=s.heap.push (Sd.tp a).it0 }):wpAny (model prog w) A (pyIter (.ref a)) Q E s:=k6 ht h
end
abbrev MeetG (d1 d2:Sd):Prop:=∀xs ys:Array Value,Meets (Builtin.«zip.__new__» ([.type "zip",d1.vu,d2.vu],[])) (λ_ R s=>d1.hp xs s.heap/\d2.hp ys s.heap/\R (.ok (.ret (.ref (s.heap.objs.size+4)))) { s with heap:=aQ s.heap d1.it0 d2.it0 })
theorem meet_st (x:Str) (t:Tok) (b:Addr):MeetG (.tx x t) (.tp b):=λxs ys=>.of_wp λprog w A R s h=>by
 obtain ⟨hp,g,d,tk,os⟩:=s
 obtain ⟨hx,hy,h⟩:=h
 have hsub:=sub_zip
 have hy:(hp.push (Sd.tx x t).it0).IsTuple b ys:=IsTup.keeps hy λo e=>qa9 _ e
 show wpAny _ _ (Builtin.«zip.__new__» ([.type "zip",.str x t,.ref b],[])) _ _ _
 wp_walk using h_y,cZ hy
 refine (_,rfl,?_)
 simp only [aQ] at h
 simpa [size_push,Builtin.SmallTypes.ownedTupleFields,Nat.add_assoc] using h
theorem meet_sl (x:Str) (t:Tok) (b:Addr):MeetG (.tx x t) (.ls b):=λxs ys=>.of_wp λprog w A R s h=>by
 obtain ⟨hp,g,d,tk,os⟩:=s
 obtain ⟨hx,hy,h⟩:=h
 have hsub:=sub_zip
 have hy:(hp.push (Sd.tx x t).it0).IsList b ys:=Heap.IsList.push hy _
 show wpAny _ _ (Builtin.«zip.__new__» ([.type "zip",.str x t,.ref b],[])) _ _ _
 wp_walk using h_y,h_z hy
 refine (_,rfl,?_)
 simp only [aQ] at h
 simpa [size_push,Builtin.SmallTypes.ownedTupleFields,Nat.add_assoc] using h
theorem meet_ll (a b:Addr):MeetG (.ls a) (.ls b):=λxs ys=>.of_wp λprog w A R s h=>by
 obtain ⟨hp,g,d,tk,os⟩:=s
 obtain ⟨hx,hy,h⟩:=h
 have hsub:=sub_zip
 have hx:hp.IsList a xs:=hx
 have hy:(hp.push (Sd.ls a).it0).IsList b ys:=Heap.IsList.push hy _
 show wpAny _ _ (Builtin.«zip.__new__» ([.type "zip",.ref a,.ref b],[])) _ _ _
 wp_walk using h_z hx,h_z hy
 refine (_,rfl,?_)
 simp only [aQ] at h
 simpa [size_push,Builtin.SmallTypes.ownedTupleFields,Nat.add_assoc] using h
section
variable {prog:Program} {w:World} {A:Around} {E:Value->Shared->Prop} {s:Shared}
theorem call_sd (M:MeetG d1 d2) (hx:d1.hp xs s.heap) (hy:d2.hp ys s.heap)
  (h:∀h',IsZip h' (s.heap.objs.size+4) (s.heap.objs.size+2) (s.heap.objs.size+3) .none->IsPair h' (s.heap.objs.size+2) (.ref s.heap.objs.size) (.ref (s.heap.objs.size+1))->IsPair h' (s.heap.objs.size+3) .none .none->
   d1.pl s.heap.objs.size 0 h'->d2.pl (s.heap.objs.size+1) 0 h'->(∀c o,s.heap.get? c=some o->h'.get? c=some o)->Q (.ref (s.heap.objs.size+4)) { s with heap:=h' }):
  wpAny (model prog w) A (call (.type "zip") [d1.vu,d2.vu]) Q E s:=by
 refine callType_new F.called_zip (by decide) (F.typeCall_zip_2 _ _) (F.newCall_zip_2 _ _) (λobj=>F.args_object_init_3 obj _ _) F.entry_zip_new (M xs ys) (hx,hy,?_)
 have at1:∀(g:Heap) (o:Obj) (n:Nat),g.objs.size=n->o.isFreed=false->(g.push o).get? n=some o:=λg o n e f=>by rw [<- e];exact get?_push_size g f
 have z5:IsZip (aQ s.heap d1.it0 d2.it0) (s.heap.objs.size+4) (s.heap.objs.size+2) (s.heap.objs.size+3) .none:=at1 _ _ _ (by simp [size_push]) rfl
 exact ((_,z5,rfl),h _ z5 (qa9 _ (qa9 _ (at1 _ _ _ (by simp [size_push]) rfl))) (qa9 _ (at1 _ _ _ (by simp [size_push]) rfl))
  (k8 (qa9 _ (qa9 _ (qa9 _ (qa9 _ (at1 _ _ _ rfl (eJ _))))))) (k8 (qa9 _ (qa9 _ (qa9 _ (at1 _ _ _ (by simp [size_push]) (eJ _))))))
  λc o e=>qa9 _ (qa9 _ (qa9 _ (qa9 _ (qa9 _ e)))))
end
end ZP
def Itg (d1 d2:Sd):It:=⟨λi H=>∃xs ys a b,d1.has H xs/\d2.has H ys/\xs[i]?=some a/\ys[i]?=some b,λi H v H'=>∃p xs ys a b,d1.has H xs/\d2.has H ys/\xs[i]?=some a/\ys[i]?=some b/\v=.ref p/\H p=none/\H'=upd H p (.tup [a,b]),
 λi H=>∃xs ys,d1.has H xs/\d2.has H ys/\xs.length=ys.length/\i=xs.length⟩
theorem cJ {d:Sd} (x:d.pl it i h):∃o,h.get? it=some o/\∀v,o.data≠.cell v:=by
 cases d with
 | tx y t=>obtain ⟨o,e,_,dd⟩:=x;exact (o,e,λv q=>by rw [dd] at q;cases q)
 | tp a=>obtain ⟨o,e,_,dd⟩:=x;exact (o,e,λv q=>by rw [dd] at q;cases q)
 | ls a=>obtain ⟨o,e,_,dd⟩:=x;exact (o,e,λv q=>by rw [dd] at q;cases q)
theorem h_d {d:Sd} (x:d.pl it i h) (k:∀o,h.get? it=some o->h'.get? it=some o):d.pl it i h':=by
 cases d with
 | tx y t=>obtain ⟨o,e,r⟩:=x;exact (o,k o e,r)
 | tp a=>obtain ⟨o,e,r⟩:=x;exact (o,k o e,r)
 | ls a=>obtain ⟨o,e,r⟩:=x;exact (o,k o e,r)
theorem hJ {σ:St} {d:Sd} (I:Inv X pins σ H s) (h:d.has H xs):∃its,d.hp its s.heap:=by
 cases d with
 | tx y t=>exact (#[],True.intro)
 | tp a=>
  obtain ⟨its,_,p,_⟩:=I.tuple (SqT.of (show H a=_ from h))
  exact (_,p)
 | ls a=>
  obtain ⟨its,_,⟨o,n,e,c,_,dd⟩,_⟩:=I.list (SqL.of (show H a=_ from h))
  exact (its.toArray,o,e,c,n,dd)
theorem e_Z {X:Cx} {σ:St} {d:Sd} (I:Inv X pins σ H s) (hh:A.handled=none) (h:d.has H xs) (hit:H it=none) (hp:d.pl it i s.heap):
  ∃f P S,Draws X.prog X.w A it f xs.length P S/\(∀c∈f,c=it\/∃u,H c=some u)/\S i s.heap/\(∀j g,S j g->d.pl it j g)/\∀j v x,P j v->xs[j]?=some x->ad x v:=by
 cases d with
 | tx y t=>
  have h:xs=y.cps.toList.map λc=>V.str ⟨#[c]⟩:=h
  refine ([it],λi v=>∃c u,y.cps[i]?=some c/\v=.str ⟨#[c]⟩ u,ZP.strAt y t it,?_,λc hc=>.inl (qb1 hc),hp,λj g z=>z,λj v x hP hx=>?_)
  .have e:xs.length=y.cps.size:=by rw [h];simp
   rw [e]
   exact ZP.draws hh it y t
  .obtain ⟨c,u,e1,rfl⟩:=hP
   rw [h,qa6,getElem?_toList,e1] at hx
   cases hx
   exact (u,rfl)
 | tp a=>
  obtain ⟨its,r,p,_⟩:=I.tuple (SqT.of (show H a=_ from h))
  have p':s.heap.IsTuple a its.toArray:=p
  have hne:a≠it:=λz=>by rw [<- z,show H a=_ from h] at hit;cases hit
  have e:xs.length=its.toArray.size:=by rw [r.length];simp
  refine ([it,a],λi v=>its.toArray[i]?=some v,λi h=>h.IsTupleIter it a i/\h.IsTuple a its.toArray,by rw [e];exact gD hh it a hne its.toArray,λc hc=>?_,(hp,p'),λj g z=>z.1,λj v x hP hx=>?_)
  .rcases mem_cons.mp hc with z|z
   .exact .inl z
   .rw [qb1 z]
    exact .inr (_,h)
  .obtain ⟨u,hu,ru⟩:=r.get hx
   have hP:its.toArray[j]?=some v:=hP
   rw [getElem?_toArray,hu] at hP
   cases hP
   exact ru
 | ls a=>
  obtain ⟨its,r,⟨o,n,eo,co,_,dd⟩,_⟩:=I.list (SqL.of (show H a=_ from h))
  have p':s.heap.IsList a its.toArray:=(o,eo,co,n,dd)
  have hne:a≠it:=λz=>by rw [<- z,show H a=_ from h] at hit;cases hit
  have e:xs.length=its.toArray.size:=by rw [r.length];simp
  refine ([it,a],λi v=>its.toArray[i]?=some v,λi h=>h.IsListIter it a i/\h.IsList a its.toArray,by rw [e];exact Draws.list hh it a hne its.toArray,λc hc=>?_,(hp,p'),λj g z=>z.1,λj v x hP hx=>?_)
  .rcases mem_cons.mp hc with z|z
   .exact .inl z
   .rw [qb1 z]
    exact .inr (_,h)
  .obtain ⟨u,hu,ru⟩:=r.get hx
   have hP:its.toArray[j]?=some v:=hP
   rw [getElem?_toArray,hu] at hP
   cases hP
   exact ru
theorem bn {K:Frag} (d1 d2:Sd) (z TI TO i1 i2:Addr) (ap:ZipApart z TI TO i1 i2 TI TI):
  aY P w K (.Tuple es kt pt) (Itg d1 d2) [z,TI,TO,i1,i2] z (λi h=>IsZip h z TI TO .none/\IsPair h TI (.ref i1) (.ref i2)/\(∃a b,IsPair h TO a b)/\d1.pl i1 i h/\d2.pl i2 i h)  where
 mem:=by simp
 obj:=λi h hZ0 c hc=>by
  obtain ⟨hz,hTI,⟨a,b,hTO⟩,s1,s2⟩:=hZ0
  simp only [mem_cons,not_mem_nil,or_false] at hc
  rcases hc with rfl|rfl|rfl|rfl|rfl
  .exact (_,hz,λv q=>by cases q)
  .exact (_,hTI,λv q=>by cases q)
  .exact (_,hTO,λv q=>by cases q)
  .exact cJ s1
  .exact cJ s2
 keep:=λi h h' ⟨hz,hTI,⟨a,b,hTO⟩,s1,s2⟩ k=>
  (k z (by simp) _ hz,k TI (by simp) _ hTI,(a,b,k TO (by simp) _ hTO),h_d s1 (k i1 (by simp)),h_d s2 (k i2 (by simp)))
 item:=by
  rintro X hP hw hK hc i pins s σ H E I hf ⟨hz,hTI,⟨a,b,hTO⟩,s1,s2⟩ ⟨xs,ys,va,vb,hqx,hqy,hxa,hyb⟩
  subst hP hw hK
  have l1:i<xs.length:=(qa1 hxa).1
  have l2:i<ys.length:=(qa1 hyb).1
  obtain ⟨f1,P1,S1,D1,m1,st1,b1,r1⟩:=e_Z (A:=X.A.in1) I (I.ok.hd hc) hqx (hf i1 (by simp)).1 s1
  obtain ⟨f2,P2,S2,D2,m2,st2,b2,r2⟩:=e_Z (A:=X.A.in1) I (I.ok.hd hc) hqy (hf i2 (by simp)).1 s2
  have off:∀{c:Addr} {u:HO},H c=some u->c∉[z,TO,i1,i2]:=λ{c u} e hm=>by
   have:c∈[z,TI,TO,i1,i2]:=by simp at hm ⊢;rcases hm with q|q|q|q <;> simp [q]
   rw [(hf c this).1] at e
   cases e
  have hT:s.TypeIs (.ref z) "zip":=(_,hz,rfl)
  unfold pyNext
  refine qa7 (wpAny_attempt (wpAny_callSpecial?_slot (name:=Str.ofString "__next__") hT F.slot_zip_next (wpAny_call_entry F.slot_zip_next hT F.entry_zip_next (ZP.toldL D1 D2
   (λc hc=>(m1 c hc).imp id λhZ2=>by obtain ⟨u,e⟩:=hZ2;exact off e) (λc hc=>(m2 c hc).imp id λhZ1=>by obtain ⟨u,e⟩:=hZ1;exact off e)
   ap hz hTI hTO st1 st2 l1 l2 λv1 v2 g tk p1 p2 gz gTI gTO g1 g2 new gk=>qa8 (_,rfl,?_)) (F.args_zip_next_1 _))))
  have ra:=r1 i v1 va p1 hxa
  have rb:=r2 i v2 vb p2 hyb
  refine wpAny_letOwnedTupleGo_zip (s:={ s with heap:=g,toks:=tk }) gz λg' gz' gs=>?_
  have up:∀b o,b≠z->g.get? b=some o->g'.get? b=some o:=λb o hb e=>(gs.2 b hb).trans e
  have nz:s.heap.objs.size≠z:=ne_of_gt (lt_size hz)
  have tup:b_f X.prog X.w (upd H s.heap.objs.size (.tup [va,vb])) g' s.heap.objs.size (.tup [va,vb]):=
   (a_d (by show 2≤16777216;decide),[v1,v2],.cons ra (.cons rb .nil),(_,up _ _ nz new,rfl,0,rfl))
  refine (.ref s.heap.objs.size,_,I.turnedNew (S:=[z,TO,i1,i2]) (h':=g') (t':=tk) (λb o hb e=>up b o (λq=>hb (by simp [q])) (gk b o hb e)) (λb hb=>hf b (by simp at hb ⊢;rcases hb with q|q|q|q <;> simp [q])) tup,rfl,
   (_,xs,ys,va,vb,hqx,hqy,hxa,hyb,rfl,I.hok.fresh (le_refl _),rfl),(gz',up _ _ ap.TIz gTI,(_,_,up _ _ ap.TOz gTO),h_d (b1 _ _ g1) λo e=>up _ o ap.i1z e,h_d (b2 _ _ g2) λo e=>up _ o ap.i2z e),λb hb=>?_)
  have lt:b<s.heap.objs.size:=by
   obtain ⟨o1,e1,_⟩:=cJ s1
   obtain ⟨o2,e2,_⟩:=cJ s2
   simp only [mem_cons,not_mem_nil,or_false] at hb
   rcases hb with rfl|rfl|rfl|rfl|rfl
   .exact lt_size hz
   .exact lt_size hTI
   .exact lt_size hTO
   .exact lt_size e1
   .exact lt_size e2
  rw [upd_ne (ne_of_lt lt)]
  exact (hf b hb).1
 done:=by
  rintro X hP hw hK hc i pins s σ H E I hf ⟨hz,hTI,⟨a,b,hTO⟩,s1,s2⟩ ⟨xs,ys,hqx,hqy,hl,hi⟩
  subst hP hw hK
  obtain ⟨f1,P1,S1,D1,m1,st1,b1,r1⟩:=e_Z (A:=X.A.in1) I (I.ok.hd hc) hqx (hf i1 (by simp)).1 s1
  obtain ⟨f2,P2,S2,D2,m2,st2,b2,r2⟩:=e_Z (A:=X.A.in1) I (I.ok.hd hc) hqy (hf i2 (by simp)).1 s2
  have off:∀{c:Addr} {u:HO},H c=some u->c∉[z,TO,i1,i2]:=λ{c u} e hm=>by
   have:c∈[z,TI,TO,i1,i2]:=by simp at hm ⊢;rcases hm with q|q|q|q <;> simp [q]
   rw [(hf c this).1] at e
   cases e
  have hT:s.TypeIs (.ref z) "zip":=(_,hz,rfl)
  unfold pyNext
  refine qa7 (wpAny_attempt (wpAny_callSpecial?_slot (name:=Str.ofString "__next__") hT F.slot_zip_next (wpAny_call_entry F.slot_zip_next hT F.entry_zip_next (ZP.endedL D1 D2
   (λc hc=>(m1 c hc).imp id λhZ1=>by obtain ⟨u,e⟩:=hZ1;exact off e) (λc hc=>(m2 c hc).imp id λhZ0=>by obtain ⟨u,e⟩:=hZ0;exact off e)
   ap hz hTI hTO st1 st2 (.inl hi) λg e tk gk he=>?_) (F.args_zip_next_1 _))))
  obtain ⟨o,ho,hcl⟩:=he
  refine qa7 (wpAny_isInstance (s:={ s with heap:=g,toks:=tk }) (T:="StopIteration") (b:=true) (o,ho,hcl) isSubtype_stop (qa8 (rfl,?_)))
  exact I.turnedL (S:=[z,TO,i1,i2]) (λb o hb e=>gk b o hb e) λb hb=>hf b (by simp at hb ⊢;rcases hb with q|q|q|q <;> simp [q])
 self:=λ_ _ _ _ _ st h=>wpAny_pyIter_zip st.1 h
def p9 (H:Hp) (v1 v2:V) (R:(Tok->Sd)->Sd->Prop):Prop:=
 (∃x b xs,v1=.str x/\v2=.ref b/\H b=some (.tup xs)/\R (.tx x) (.tp b))\/(∃x b xs,v1=.str x/\v2=.ref b/\H b=some (.lst xs)/\R (.tx x) (.ls b))\/∃a b xs ys,v1=.ref a/\v2=.ref b/\H a=some (.lst xs)/\H b=some (.lst ys)/\R (λ_=>.ls a) (.ls b)
def ld (t:TA):TI:=λσ H R=>t σ H λvs H1=>∃v1 v2,vs=[v1,v2]/\p9 H1 v1 v2 λd1 d2=>∀k,R (Itg (d1 k) d2) H1
theorem f_u {es:List Expr} {kt:Nat} {pt:Pos} {p pos:Pos} (hg:Gl X "zip") (hm:X.mg "zip"=none) (ha:PA X [a,b] ta) (hs:starEach [a,b] X.env=(false,eval a X.env,)::starEach [b] X.env:=by rfl)
  (hpl:(backTo pos (starEach [b] X.env)).any (·.1)=false:=by rfl):PI X (.Tuple es kt pt) (.Call (.Name "zip" p) [a,b] [] pos) (ld ta):=by
 intro pins s σ H R I h
 refine wpAny_Call_Name_kw (ld_blt I hg hm boot_zip (PyProof.Rows.callWith_type1 (thn (ha pos pins s σ H _ I h) λus s1 hZ2=>?_) hs hpl))
 obtain ⟨vs,H1,I1,r1,v1,v2,ev,hz⟩:=hZ2
 subst ev
 obtain ⟨u1,u2,rfl,e1,e2⟩:=g_O r1
 have go:∀(d1 d2:Sd) (xs ys:List V),ZP.MeetG d1 d2->u1=d1.vu->u2=d2.vu->d1.has H1 xs->d2.has H1 ys->R (Itg d1 d2) H1->wpAny (model X.prog X.w) X.A (call (.type "zip") [u1,u2]) (λv s2=>wpAny (model X.prog X.w) X.A (pyIter v) (PIE X pins σ (.Tuple es kt pt) R) X.xe s2) X.xe s1:=by
  rintro d1 d2 xs ys M rfl rfl hx hy q
  obtain ⟨itx,px⟩:=hJ I1 hx
  obtain ⟨ity,py⟩:=hJ I1 hy
  refine ZP.call_sd M px py λg gz gTI gTO g1 g2 gk=>wpAny_pyIter_zip (s:={ s1 with heap:=g }) gz ?_
  have ap:ZipApart (s1.heap.objs.size+4) (s1.heap.objs.size+2) (s1.heap.objs.size+3) s1.heap.objs.size (s1.heap.objs.size+1) (s1.heap.objs.size+2) (s1.heap.objs.size+2):=by
   constructor <;> exact neA (by lia)
  refine (_,[s1.heap.objs.size+4,s1.heap.objs.size+2,s1.heap.objs.size+3,s1.heap.objs.size,s1.heap.objs.size+1],_,Itg d1 d2,H1,rfl,I1.kept (t':=s1.toks) gk,bn d1 d2 _ _ _ _ _ ap,
   (gz,gTI,(_,_,gTO),g1,g2),λc hc=>?_,q)
  have hge:s1.heap.objs.size≤c:=by
   simp only [mem_cons,not_mem_nil,or_false] at hc
   rcases hc with rfl|rfl|rfl|rfl|rfl
   .exact le_add_right _ _
   .exact le_add_right _ _
   .exact le_add_right _ _
   .exact le_refl _
   .exact le_add_right _ _
  exact I1.fpOk hge (I1.hok.fresh hge)
 rcases hz with ⟨x,b,xs,rfl,rfl,hb,q⟩|⟨x,b,xs,rfl,rfl,hb,q⟩|⟨a,b,xs,ys,rfl,rfl,ha',hb,q⟩
 .obtain ⟨t,rfl⟩:=(show ∃t,u1=Value.str x t from e1)
  cases e2
  exact go (.tx x t) (.tp b) _ _ (ZP.meet_st x t b) rfl rfl rfl hb (q t)
 .obtain ⟨t,rfl⟩:=(show ∃t,u1=Value.str x t from e1)
  cases e2
  exact go (.tx x t) (.ls b) _ _ (ZP.meet_sl x t b) rfl rfl rfl hb (q t)
 .cases e1
  cases e2
  exact go (.ls a) (.ls b) _ _ (ZP.meet_ll a b) rfl rfl ha' hb (q 0)
end L2
namespace L2
open PySem PySem.Spec PyProof.Rows
theorem nK (ks:LN):(zs ks).map toNat=ks:=by
 unfold zs
 rw [map_map]
 exact (map_congr_left λn _=>toNat_natCast n).trans (List.map_id _)
def pU:List Int->List Key
 | []=>[]
 | x::ks=>[.inl x,.inr (RA.tx (ks.map toNat))]
def qE (P:Program) (w:World) (h:Heap) (k:List Int) (a:Addr):Prop:=∃(x:Int) (ks:LN),k=x::zs ks/\IsTupleKey (e_G P w) h [.inl x,.inr (RA.tx ks)] a
theorem mQ (x:Int) (ks:LN):pU (x::zs ks)=[.inl x,.inr (RA.tx ks)]:=by
 show [_,Sum.inr (RA.tx ((zs ks).map toNat))]=_
 rw [nK]
theorem iu:(x::zs ks=y::zs ls)↔([Sum.inl x,Sum.inr (RA.tx ks)]:List Key)=[.inl y,.inr (RA.tx ls)]:=by
 constructor
 .intro e
  injection e with e1 e2
  rw [e1,aL e2]
 .intro e
  injection e with e1 e2
  injection e2 with e3 _
  rw [Sum.inl.inj e1,RA.tx_inj (Sum.inr.inj e3)]
def nT (P:Program) (w:World):HeapKind P w (List Int) where
 is:=qE P w
 hash:=λk=>tupleKeyHash (e_G P w) (pU k)
 draws:=λ_=>3
 room:=λA=>A.units<cLine
 inj:=λ⟨x,ks,e1,h1⟩ ⟨y,ls,e2,h2⟩=>by rw [e1,e2];exact iu.mpr (h1.inj h2)
 keeps:=λhZ0 ho hd hs=>by obtain ⟨x,ks,e,h1⟩:=hZ0;exact (x,ks,e,h1.keeps ho hd hs)
 pyHash:=λhu hZ1 h=>by
  obtain ⟨x,ks,e,h1⟩:=hZ1
  subst e
  rw [mQ] at h
  exact wpAny_pyHash_tuple hu h1 h
 eqBool:=λ{A E s x y a b Q} hu hx hy h=>by
  obtain ⟨x1,ks,rfl,h1⟩:=hx
  obtain ⟨y1,ls,rfl,h2⟩:=hy
  refine wpAny_eqBool_tuple hu h1 h2 ?_
  rw [show decide (([Sum.inl x1,Sum.inr (RA.tx ks)]:List Key)=[.inl y1,.inr (RA.tx ls)])=decide (x1::zs ks=y1::zs ls) by rw [Bool.eq_iff_iff,decide_eq_true_eq,decide_eq_true_eq];exact iu.symm]
  exact h
 quiet:=λhZ2 h=>by obtain ⟨x,ks,e,h1⟩:=hZ2;exact wpAny_eqIsQuiet_tuple h1 h
def qD (H:Hp) (k:List Int) (a:Addr):Prop:=∃(x:Int) (ks:LN),k=x::zs ks/\H a=some (.tup [.int x,.str (RA.tx ks)])
def stD (P:Program) (w:World):HKd P w (List Int) where
 knd:=nT P w
 kin:=qD
 ok:=λ{H h k a} e ok=>by
  obtain ⟨x,ks,rfl,e1⟩:=e
  obtain ⟨_,its,r,o,h1,h2,n,h3⟩:=(show b_f P w H h a (.tup [.int x,.str (RA.tx ks)]) from ok a _ e1)
  obtain ⟨u1,u2,rfl,r1,r2⟩:=g_O r
  obtain ⟨t1,rfl⟩:=(show ∃t,u1=Value.int x t from r1)
  obtain ⟨t2,rfl⟩:=(show ∃t,u2=Value.str (RA.tx ks) t from r2)
  exact (x,ks,rfl,o,_,n,h1,h2,h3,.cons (mixKind_int P w x t1) (.cons (eD P w _ t2) .nil))
 room:=λ{A} hu=>(by show A.in1.units<cLine;rw [Around.in1_units];lia,by show A.units<cLine;lia)
 stay:=λs hZ0=>by obtain ⟨x,ks,e,h⟩:=hZ0;exact (x,ks,e,s _ _ h)
inductive TK where
 | i|t|s
 deriving DecidableEq
def dK (P:Program) (w:World):TK->HKd P w (List Int)
 | .s=>stD P w
 | _=>g_j P w
theorem d_w (k:Int) (t:Tok):Value.isInt k (.int k t)=true:=by simp [Value.isInt]
def iL (P:Program) (w:World) (H:Hp) (d:Addr) (y:V) (r:Option V):Prop:=
 (∃kvs k,H d=some (kdO (intKind P w) d kvs)/\y=.int k/\r=ax kvs k) \/
 ∃ti kvs k b,H d=some (hdO (dK P w ti) d kvs)/\(∀x∈kvs,(dK P w ti).kin H x.1 x.2.1)/\y=.ref b/\(dK P w ti).kin H k b/\r=aw kvs k
def nJ (P:Program) (w:World) (H:Hp) (d:Addr) (y v:V) (H':Hp):Prop:=
 (∃kvs k,H d=some (kdO (intKind P w) d kvs)/\y=.int k/\ax kvs k=none/\kvs.length<sizeLine/\H'=upd H d (kdO (intKind P w) d (kvs++[(k,v,)]))) \/
 ∃ti kvs k b,H d=some (hdO (dK P w ti) d kvs)/\(∀x∈kvs,(dK P w ti).kin H x.1 x.2.1)/\y=.ref b/\(dK P w ti).kin H k b/\aw kvs k=none/\kvs.length<sizeLine/\H'=upd H d (hdO (dK P w ti) d (kvs++[(k,b,v,)]))
section
variable {X:Cx}
def mn (P:Program) (w:World):R2:=λx y H Q=>∃d o,y=.ref d/\iL P w H d x o/\Q (.bl (!o.isSome)) H
theorem i7 (hu:X.A.units+64<cLine):OpR X (compareOp .NotIn) (mn X.prog X.w):=by
 intro pins s σ H x y v u Q I rx ry h
 obtain ⟨d,o,rfl,g,q⟩:=h
 cases ry
 rcases g with ⟨kvs,k,e,rfl,rfl⟩|⟨ti,kvs,k,b,e,hk,rfl,kb,rfl⟩
 .obtain ⟨t,rfl⟩:=(show ∃t,v=Value.int k t from rx)
  obtain ⟨ns,_,vs,rel,dd⟩:=d_U I.hok e
  refine wpAny_notIn_of (knd:=intKind X.prog X.w) (k:=k) (d_w k t) ns dd.mapOf ?_
  rw [<- c_S (rel.val k)]
  exact (.bl _,H,I.tok _,rfl,q)
 .cases rx
  exact c9 (D:=dK X.prog X.w ti) hu I e hk kb λs' I'=>(.bl _,H,I',rfl,q)
theorem lQ {σ:St} (I:Inv X pins σ H s) (g:iL X.prog X.w H d y o):s.TypeIs (.ref d) "dict":=by
 rcases g with ⟨kvs,k,e,_⟩|⟨ti,kvs,k,b,e,hk,_⟩
 .obtain ⟨_,_,vs,_,dd⟩:=d_U I.hok e
  exact dd.typeIs
 .obtain ⟨_,_,vs,_,dd⟩:=aW (D:=dK X.prog X.w ti) I.hok e hk
  exact dd.typeIs
def qr (P:Program) (w:World):R2:=λx y H Q=>∃d v,x=.ref d/\iL P w H d y (some v)/\Q v H
theorem kY (hu:X.A.units+64<cLine):IxR X (qr X.prog X.w):=by
 intro value slice pins s σ H x y v u Q I rx ry h hs
 obtain ⟨d,z,rfl,g,q⟩:=h
 cases rx
 refine tail_any (ops:=[.ref d,u]) (lQ I g) PySem.F.slot_dict_getitem.lookup ?_ hs
 rcases g with ⟨kvs,k,e,rfl,l⟩|⟨ti,kvs,k,b,e,hk,rfl,kb,l⟩
 .obtain ⟨t,rfl⟩:=(show ∃t,u=Value.int k t from ry)
  obtain ⟨ns,_,vs,rel,dd⟩:=d_U I.hok e
  obtain ⟨w',hw,rw'⟩:=ar.some_of (v:=z) (o:=valueAt vs k) (by rw [l];exact rel.val k)
  exact wpAny_getItem_of (knd:=intKind X.prog X.w) (k:=k) (d_w k t) dd.mapOf hw (z,H,I.tok _,rw',q)
 .cases ry
  exact lq (D:=dK X.prog X.w ti) hu I e hk kb l λw' s' I' rw'=>(z,H,I',rw',q)
def pG (P:Program) (w:World):TSet:=λo i v H Q=>∃d H',o=.ref d/\nJ P w H d i v H'/\Q H'
theorem iV (hu:X.A.units+64<cLine):nc X (pG X.prog X.w):=by
 intro pins s σ H o i v ov iv u Q I ro ri rv h
 obtain ⟨d,H',rfl,g,q⟩:=h
 cases ro
 rcases g with ⟨kvs,k,e,rfl,hn,hl,rfl⟩|⟨ti,kvs,k,b,e,hk,rfl,kb,hn,hl,rfl⟩
 .obtain ⟨t,rfl⟩:=(show ∃t,iv=Value.int k t from ri)
  obtain ⟨ns,hz,vs,rel,dd⟩:=d_U I.hok e
  refine wpAny_setItem_pairs (knd:=intKind X.prog X.w) (k:=k) (hsz:=by rw [<- rel.length];exact hz) (d_w k t) dd λh' dd' hs=>(_,?_,q)
  have qn:=ar.none_of (show ar none (valueAt vs k) by rw [<- hn];exact rel.val k)
  rw [c_e qn] at dd'
  exact c_j I (by rw [e];exact True.intro) hs (let ⟨o,_,_,q,_⟩:=dd';(o,q)) (kd_ok ns (by rw [qa5];exact hl) (e_H rel rv) dd')
 .cases ri
  exact lm (D:=dK X.prog X.w ti) hu I e hk kb hn hl rv λs' I'=>(_,I',q)
def kL (P:Program) (w:World) (d:Addr):TK->HO
 | .i=>kdO (intKind P w) d []
 | k=>hdO (dK P w k) d []
theorem mK (h:Heap) (hb:sysModules<h.objs.size) (k:TK):b_f P w H (h.push { cls:=.type "dict",data:=.dict #[] }) h.objs.size (kL P w h.objs.size k):=by
 have ns:(h.objs.size==sysModules)=false:=beq_eq_false_iff_ne.mpr (Ne.symm (ne_of_lt hb))
 cases k with
 | i=>exact kd_ok (knd:=intKind P w) ns (zero_le _) .nil (Heap.DictOf.new h)
 | t=>exact eL (D:=dK P w .t) ns (zero_le _) .nil (Heap.DictOfH.new h)
 | s=>exact eL (D:=dK P w .s) ns (zero_le _) .nil (Heap.DictOfH.new h)
theorem mL (h:k≠.i):kL P w d k=hdO (dK P w k) d []:=by
 cases k with
 | i=>exact absurd rfl h
 | _=>rfl
def pc (P:Program) (w:World) (tk tv:TE):TE:=λσ H Q=>∃ti:TK,∀p,H p=none->tk σ (upd H p (kL P w p ti)) λx H1=>tv σ H1 λy H2=>H2 p=some (kL P w p ti)/\
 ((ti=.i/\∃k,x=.int k/\Q (.ref p) (upd H2 p (kdO (intKind P w) p [(k,y,)])))\/(ti≠.i/\∃b k,x=.ref b/\(dK P w ti).kin H2 k b/\Q (.ref p) (upd H2 p (hdO (dK P w ti) p [(k,b,y,)]))))
theorem my (hu:X.A.units+64<cLine) (hk:PE X k tk) (hv:PE X v tv):PE X (.Dict [some k] [v] pos) (pc X.prog X.w tk tv):=by
 intro pins s σ H Q I h
 obtain ⟨ti,h⟩:=h
 have hn:=I.hok.fresh (le_refl s.heap.objs.size)
 have I1:=I.laid (a:=s.heap.objs.size) (o:=kL X.prog X.w s.heap.objs.size ti) (t':=s.toks) (λ_ _ q=>qa9 { cls:=.type "dict",data:=.dict #[] } q) (le_refl _) (mK s.heap I.bigS ti)
 have hsh:=zip_pairTrees [some k] [v] X.env pos rfl rfl
 rw [arm_eval_Dict,hsh,dictDisplay_pairs (pairTrees [some k] [v] X.env pos) (by intro z;cases z) (by show 1<17;decide)]
 refine qa7 (wpAny_standAt (qa7 ?_))
 unfold subDict
 refine qa7 (wpAny_alloc (qa7 (wpAny_holding ?_)))
 rw [if_pos (show (pairTrees [some k] [v] X.env pos).length≤15 by show 1≤15;decide)]
 refine qa7 (pairTrees_cons_walk (thn (hk pins _ σ _ _ I1 (h _ hn)) λu s1 ⟨x,H1,I2,rx,q1⟩=>thn (hv pins s1 σ H1 _ I2 q1) λr s2 ⟨y,H2,I3,ry,hp,q2⟩=>pairTrees_nil_walk (wpAny_holding (qa7 ?_))))
 rw [forIn_cons]
 rcases q2 with ⟨rfl,k,rfl,q2⟩|⟨ht,b,k,rfl,kb,q2⟩
 .obtain ⟨t,rfl⟩:=(show ∃t,u=Value.int k t from rx)
  obtain ⟨ns,hz,vs,rel,dd⟩:=d_U (knd:=intKind X.prog X.w) (kvs:=[]) I3.hok hp
  refine qa7 (qa7 (wpAny_dictSet_pairs (knd:=intKind X.prog X.w) (k:=k) (hsz:=by rw [<- rel.length];exact hz) (d_w k t) dd λh' dd' hs=>qa8 ?_))
  dsimp only
  rw [forIn_nil]
  refine qa8 (qa8 (qa8 (qa8 (.ref s.heap.objs.size,_,?_,rfl,q2))))
  have qn:=ar.none_of (show ar none (valueAt vs k) from rel.val k)
  rw [c_e qn] at dd'
  exact c_j I3 (by rw [hp];exact True.intro) hs (let ⟨o,_,_,q,_⟩:=dd';(o,q)) (kd_ok ns (a_d (by show 1≤16777216;decide)) (e_H (kvs:=[]) rel ry) dd')
 .cases rx
  rw [mL ht] at hp
  obtain ⟨ns,hz,xs,rel,dd⟩:=aW (D:=dK X.prog X.w ti) (kvs:=[]) I3.hok hp (λx hx=>by simp at hx)
  refine qa7 (qa7 (wpAny_dictSet_heap (knd:=(dK X.prog X.w ti).knd) (hsz:=by rw [<- Paired.length rel];exact hz) ((dK X.prog X.w ti).room hu).2 ((dK X.prog X.w ti).ok kb I3.hok) dd λh' dd' hs=>qa8 ?_))
  dsimp only
  rw [forIn_nil]
  refine qa8 (qa8 (qa8 (qa8 (.ref s.heap.objs.size,_,?_,rfl,q2))))
  exact nE (D:=dK X.prog X.w ti) (kvs:=[]) I3 hp ns (a_d (by show 1≤16777216;decide)) rel rfl ry dd' hs
end
end L2
namespace RA
open PySem L2
def jJ:TK->Hp->LN->Addr->Prop
 | .s,H,k,b=>∃(x:Nat) (ks:LN),k=x::ks/\H b=some (.tup [.int (x:Int),.str (tx ks)])
 | _,H,k,b=>H b=some (.tup (intsV k))
def ThV (ti:TK) (H:Hp) (k:LN) (v:V):Prop:=if ti=.i then ∃n:Nat,k=[n]/\v=.int (n:Int) else ∃b,v=.ref b/\jJ ti H k b
theorem jJ.same (h:jJ ti H k b) (s:∀b xs,H b=some (.tup xs)->H' b=some (.tup xs)):jJ ti H' k b:=by
 cases ti with
 | s=>
  obtain ⟨x,ks,e,e1⟩:=h
  exact (x,ks,e,s _ _ e1)
 | _=>exact s _ _ h
theorem jO (k:LN):(zs k).map V.int=intsV k:=by rw [zs,intsV,map_map];rfl
theorem jJ.kin (h:jJ ti H k b):(dK P w ti).kin H (zs k) b:=by
 have tin:∀{ks:LN} {c:Addr},H c=some (.tup (intsV ks))->TIn H (zs ks) c:=λe=>by unfold TIn;rw [jO];exact e
 cases ti with
 | s=>
  obtain ⟨x,ks,rfl,e1⟩:=h
  exact ((x:Int),ks,rfl,e1)
 | _=>exact tin h
theorem ThV.same (h:ThV ti H k v) (s:∀b xs,H b=some (.tup xs)->H' b=some (.tup xs)):ThV ti H' k v:=by
 unfold ThV at h ⊢
 split
 .rename_i c
  rw [if_pos c] at h
  exact h
 .rename_i c
  rw [if_neg c] at h
  obtain ⟨b,e1,e2⟩:=h
  exact (b,e1,e2.same s)
def kvI:LL->Nat->List (Int×V)
 | [],_=>[]
 | k::r,n=>(((k.headD 0:Nat):Int),.int (n:Int),)::kvI r (n+1)
theorem ir:∀(ts:LL) (n:Nat),(kvI ts n).length=ts.length
 | [],_=>rfl
 | k::r,n=>by rw [kvI,length_cons,length_cons,ir r]
theorem eI (k:LN):∀(ts:LL) (n:Nat),kvI (ts++[k]) n=kvI ts n++[(((k.headD 0:Nat):Int),.int ((n+ts.length:Nat):Int),)]
 | [],n=>rfl
 | t::r,n=>by
  rw [cons_append,kvI,eI k r (n+1),kvI,cons_append,length_cons,show n+1+r.length=n+(r.length+1) by lia]
def ixO (ts:LL) (k:LN):Option Nat:=if k∈ts then some (ts.idxOf k) else none
theorem h_x (h:t≠k):ixO (t::r) k=(ixO r k).map (·+1):=by
 unfold ixO
 by_cases hk:k∈r
 .rw [if_pos (mem_cons_of_mem _ hk),if_pos hk,idxOf_cons,show (t==k)=false from beq_eq_false_iff_ne.mpr h]
  rfl
 .rw [if_neg (λz=>(mem_cons.mp z).elim (λy=>h y.symm) hk),if_neg hk]
  rfl
theorem cU {m:Nat}:∀{ts:LL} {n:Nat},(∀t∈ts,∃a,t=[a])->ax (kvI ts n) (m:Int)=(ixO ts [m]).map λ(i:Nat)=>V.int ((n+i:Nat):Int)
 | [],_,_=>rfl
 | t::r,n,h=>by
  obtain ⟨a,rfl⟩:=h t (by simp)
  by_cases e:a=m
  .subst e
   rw [kvI,g_P (k:=(a:Int)) (show ((([a]:LN).headD 0:Nat):Int)=(a:Int) from rfl),ixO,if_pos (by simp),List.idxOf_cons_self]
   rfl
  .rw [kvI,e_X (λz=>e (Int.ofNat.inj z)),cU (n:=n+1) (λt ht=>h t (by simp [ht])),h_x (λz=>e (by injection z))]
   cases ixO r [m] with
   | none=>rfl
   | some i=>
    show some (V.int ((n+1+i:Nat):Int))=some (V.int ((n+(i+1):Nat):Int))
    rw [show n+1+i=n+(i+1) by lia]
def RmAt (P:Program) (w:World) (H:Hp) (d:Addr) (ti:TK) (ts:LL):Prop:=
 if ti=.i then H d=some (kdO (intKind P w) d (kvI ts 0))/\∀t∈ts,∃a,t=[a]
 else ∃kvs:List (List Int×Addr×V),H d=some (hdO (dK P w ti) d kvs)/\(∀x∈kvs,(dK P w ti).kin H x.1 x.2.1)/\kvs.length=ts.length/\∀(i:Nat) (k:LN) (x:List Int×Addr×V),ts[i]?=some k->kvs[i]?=some x->x.1=zs k/\x.2.2=.int (i:Int)
theorem gR:∀{n:Nat},kvs.length=ts.length->(∀(i:Nat) (k:LN) (x:List Int×Addr×V),ts[i]?=some k->kvs[i]?=some x->x.1=zs k/\x.2.2=.int ((n+i:Nat):Int))->aw kvs (zs k)=(ixO ts k).map λ(i:Nat)=>V.int ((n+i:Nat):Int):=by
 induction kvs generalizing ts with
 | nil=>
  intro n hl h
  cases ts with
  | nil=>rfl
  | cons t r=>cases hl
 | cons x xs ih=>
  intro n hl h
  cases ts with
  | nil=>cases hl
  | cons t r=>
   obtain ⟨e1,e2⟩:=h 0 t x rfl rfl
   by_cases e:t=k
   .subst e
    rw [ixO,if_pos (by simp),List.idxOf_cons_self]
    simp [aw,find?_cons,e1,e2]
   .have e':¬ x.1=zs k:=λz=>e (aL (e1.symm.trans z))
    have a1:aw (x::xs) (zs k)=aw xs (zs k):=by simp [aw,find?_cons,e']
    rw [a1,ih (n:=n+1) (by simpa using hl) (λi k' x' h1 h2=>by
     obtain ⟨g1,g2⟩:=h (i+1) k' x' h1 h2
     exact (g1,by rw [g2,show n+(i+1)=n+1+i by lia])),h_x e]
    cases ixO r k with
    | none=>rfl
    | some i=>
     show some (V.int ((n+1+i:Nat):Int))=some (V.int ((n+(i+1):Nat):Int))
     rw [show n+1+i=n+(i+1) by lia]
section
variable {P:Program} {w:World} {H:Hp} {d:Addr} {ti:TK} {ts:LL} {k:LN} {v:V}
theorem RmAt.get (h:RmAt P w H d ti ts) (hv:ThV ti H k v):iL P w H d v ((ixO ts k).map λ(i:Nat)=>V.int (i:Int)):=by
 unfold RmAt at h
 unfold ThV at hv
 by_cases c:ti=.i
 .subst c
  rw [if_pos rfl] at h hv
  obtain ⟨n,rfl,rfl⟩:=hv
  refine .inl (_,_,h.1,rfl,?_)
  rw [cU h.2]
  simp
 .rw [if_neg c] at h hv
  obtain ⟨kvs,h1,h2,h3,h4⟩:=h
  obtain ⟨b,rfl,hb⟩:=hv
  refine .inr (ti,kvs,zs k,b,h1,h2,rfl,hb.kin,?_)
  rw [gR (n:=0) h3 (λi k x a b=>by rw [Nat.zero_add];exact h4 i k x a b)]
  simp
theorem RmAt.put (h:RmAt P w H d ti ts) (hv:ThV ti H k v) (hn:k∉ts) (hl:ts.length<sizeLine):∃ob,nJ P w H d v (.int (ts.length:Int)) (L2.upd H d ob)/\RmAt P w (L2.upd H d ob) d ti (ts++[k]):=by
 have hno:ixO ts k=none:=if_neg hn
 have hd:∀b xs,H b=some (.tup xs)->∀ φ,H d=some (.ext φ)->∀ob,L2.upd H d ob b=some (.tup xs):=λb xs e φ e2 ob=>by
  rw [upd_ne (ne_of e e2 (by intro z;cases z))]
  exact e
 unfold RmAt at h
 unfold ThV at hv
 by_cases c:ti=.i
 .subst c
  rw [if_pos rfl] at h hv
  obtain ⟨n,rfl,rfl⟩:=hv
  refine (kdO (intKind P w) d (kvI (ts++[[n]]) 0),.inl (_,_,h.1,rfl,?_,by rw [ir];exact hl,?_),?_)
  .rw [cU h.2,hno]
   rfl
  .rw [eI,Nat.zero_add]
   rfl
  .unfold RmAt
   rw [if_pos rfl]
   refine (upd_same,λt ht=>?_)
   rcases mem_append.mp ht with z|z
   .exact h.2 t z
   .exact (n,qb1 z)
 .rw [if_neg c] at h hv
  obtain ⟨kvs,h1,h2,h3,h4⟩:=h
  obtain ⟨b,rfl,hb⟩:=hv
  have hb':(dK P w ti).kin H (zs k) b:=hb.kin
  have hst:∀ob b xs,H b=some (.tup xs)->L2.upd H d ob b=some (.tup xs):=λob b xs e=>hd b xs e _ h1 ob
  refine (hdO (dK P w ti) d (kvs++[(zs k,b,.int (ts.length:Int),)]),.inr (ti,kvs,zs k,b,h1,h2,rfl,hb',?_,by rw [h3];exact hl,rfl),?_)
  .rw [gR (n:=0) h3 (λi k x a b=>by rw [Nat.zero_add];exact h4 i k x a b),hno]
   rfl
  .unfold RmAt
   rw [if_neg c]
   refine (_,upd_same,λx hx=>?_,by rw [qa5,qa5,h3];rfl,λi k' x hk hx=>?_)
   .rcases mem_append.mp hx with z|z
    .exact (dK P w ti).stay (hst _) (h2 x z)
    .rw [qb1 z]
     exact (dK P w ti).stay (hst _) hb'
   .by_cases hi:i<ts.length
    .rw [getElem?_append_left hi] at hk
     rw [getElem?_append_left (by rw [h3];exact hi)] at hx
     exact h4 i k' x hk hx
    .rw [getElem?_append_right (le_of_not_lt hi)] at hk
     rw [getElem?_append_right (by rw [h3];exact le_of_not_lt hi),h3] at hx
     have hz:i - ts.length=0:=by
      have:=(qa1 hk).1
      simp at this
      omega
     rw [hz] at hk hx
     cases hk
     cases hx
     exact (rfl,by rw [show i=ts.length by lia])
theorem RmAt.same (h:RmAt P w H d ti ts) (s:∀b o,H b=some o->(b=d\/∃xs,o=.tup xs)->H' b=some o):RmAt P w H' d ti ts:=by
 unfold RmAt at h ⊢
 by_cases c:ti=.i
 .subst c
  rw [if_pos rfl] at h ⊢
  exact (s _ _ h.1 (.inl rfl),h.2)
 .rw [if_neg c] at h ⊢
  obtain ⟨kvs,h1,h2,h3,h4⟩:=h
  exact (kvs,s _ _ h1 (.inl rfl),λx hx=>(dK P w ti).stay (λb xs e=>s _ _ e (.inr (_,rfl))) (h2 x hx),h3,h4)
end
end RA
namespace L2
open PySem PySem.Spec PyProof.Rows
namespace ZP
def dB (T:Addr) (b:Bool) (TI TO:Addr):Obj:={ cls:=.type "zip",dict:=none,data:=.fields #[rawInt T,.bool b,.bool false,.ref TI,.ref TO],slots:=#[] }
section
variable {prog:Program} {w:World} {A:Around} {E:Value->Shared->Prop} {s:Shared} {z TI TO i1 i2 T:Addr} {f1 f2:List Addr} {n1 n2 k:Nat} {P1 P2:Nat->Value->Prop} {S1 S2:Nat->Heap->Prop} {b1:Bool} {oT:Obj}
theorem ig (hz:s.heap.get? z=some (dB T b1 TI TO)) (hT:s.heap.get? T=some oT) (h:∀h',h'.get? z=some (dB T true TI TO)->SameBut z s.heap h'->Q false { s with heap:=h' }):
  wpAny (model prog w) A (Builtin.SmallTypes.ownedTupleIsFree (.ref z)) Q E s:=by
 unfold Builtin.SmallTypes.ownedTupleIsFree
 refine qa7 (wpAny_field hz rfl (x:=rawInt T) rfl ?_)
 show wpAny _ _ (loadIfAlive ((T:Int).toNat) >>= _) _ _ _
 rw [toNat_natCast]
 refine qa7 (PySem.W.kdx_alive hT ?_)
 refine wpAny_ite_false (by simp) (qa7 (wpAny_field hz rfl (x:=.bool b1) rfl ?_))
 cases b1 with
 | true=>exact wpAny_ite_false (by decide) (qa8 (h _ hz (rfl,λ_ _=>rfl)))
 | false=>exact wpAny_ite_true (by decide) (qa7 (wpAny_setField_rec hz (by simp) λh' e c=>qa8 (h h' e c)))
theorem o8 {Q:Value->Shared->Prop} (D1:Draws prog w A i1 f1 n1 P1 S1) (D2:Draws prog w A i2 f2 n2 P2 S2) (m1:∀c∈f1,c=i1\/c∉[z,TO,i1,i2]) (m2:∀c∈f2,c=i2\/c∉[z,TO,i1,i2]) (ap:ZipApart z TI TO i1 i2 TI TI)
  (hz:s.heap.get? z=some (dB T b1 TI TO)) (hT:s.heap.get? T=some oT) (hTI:IsPair s.heap TI (.ref i1) (.ref i2)) (h1:S1 k s.heap) (h2:S2 k s.heap) (l1:k<n1) (l2:k<n2)
  (hQ:∀x y h' tk,P1 k x->P2 k y->h'.get? z=some (dB T true TI TO)->IsPair h' TI (.ref i1) (.ref i2)->S1 (k+1) h'->S2 (k+1) h'->IsPair h' s.heap.objs.size x y->
   (∀c o,c∉[z,TO,i1,i2]->s.heap.get? c=some o->h'.get? c=some o)->Q (.ref s.heap.objs.size) { s with heap:=h',toks:=tk }):
  wpAny (model prog w) A (Builtin.«zip.__next__» ([.ref z],[])) (λfin s'=>∃v,fin=.done (.ret v)/\Q v s') E s:=by
 unfold Builtin.«zip.__next__»
 refine qa7 (wpAny_of_eq (a:=(Value.ref z,[],)) rfl (qa7 (wpAny_field hz rfl (x:=.bool false) rfl (qa7 (wpAny_field hz rfl (x:=.ref TI) rfl (qa7 (wpAny_seqItems hTI rfl (wpAny_ite_false (by simp) (qa7 (ig hz hT λg1 z1 c1=>wpAny_ite_false (by decide) ?_))))))))))
 dsimp only
 have k1:aE [z,TO,i1,i2] s.heap g1:=.one c1 (by simp)
 have S1f:∀{j:Nat} {g g':Heap},(∀c o,c∉[z,TO,i1,i2]->g.get? c=some o->g'.get? c=some o)->S1 j g->(∀o,g.get? i1=some o->g'.get? i1=some o)->S1 j g':=λk st e=>D1.frame _ _ _ st λc hc=>by
  rcases m1 c hc with rfl|hn
  .exact e
  .exact λo q=>k c o hn q
 have S2f:∀{j:Nat} {g g':Heap},(∀c o,c∉[z,TO,i1,i2]->g.get? c=some o->g'.get? c=some o)->S2 j g->(∀o,g.get? i2=some o->g'.get? i2=some o)->S2 j g':=λk st e=>D2.frame _ _ _ st λc hc=>by
  rcases m2 c hc with rfl|hn
  .exact e
  .exact λo q=>k c o hn q
 rw [<- Array.forIn_toList]
 show wpAny _ _ (forIn [Value.ref i1,.ref i2] _ _ >>= _) _ _ _
 simp only [forIn_cons,forIn_nil]
 refine qa7 (qa7 (qa7 (wpAny_holding (qa7 (m:=Builtin.SmallTypes.nextOf (.ref i1)) (D1.item k _ _ _ l1 (S1f k1.2 h1 λo e=>(c1.2 i1 ap.i1z).trans e) λx g2 t2 p1 d1 c2=>qa8 ?_)))))
 dsimp only
 refine qa8 (qa7 (qa7 (wpAny_holding (qa7 (m:=Builtin.SmallTypes.nextOf (.ref i2)) (D2.item k _ _ _ l2 (S2f (k1.trans (.one c2 (by simp))).2 h2 λo e=>(c2.2 i2 ap.i12.symm).trans ((c1.2 i2 ap.i2z).trans e)) λy g3 t3 p2 d2 c3=>qa8 ?_)))))
 dsimp only
 refine qa8 (qa8 (qa7 (wpAny_newTuple (hsz:=a_d (by show 2≤16777216;decide)) (qa8 (_,rfl,?_)))))
 have k3:aE [z,TO,i1,i2] s.heap g3:=(k1.trans (.one c2 (by simp))).trans (.one c3 (by simp))
 have z3:g3.get? z=some (dB T true TI TO):=(c3.2 z ap.i2z.symm).trans ((c2.2 z ap.i1z.symm).trans z1)
 have ti3:IsPair g3 TI (.ref i1) (.ref i2):=k3.2 TI _ (by simp [ap.TIz,ap.TITO,ap.TIi1,ap.TIi2]) hTI
 have sz:g3.objs.size=s.heap.objs.size:=k3.1
 have st1:S1 (k+1) g3:=S1f (aE.one (S:=[z,TO,i1,i2]) c3 (by simp)).2 d1 λo e=>(c3.2 i1 ap.i12).trans e
 have new:IsPair (g3.push { cls:=.type "tuple",data:=.seq #[x,y] }) g3.objs.size x y:=get?_push_size _ rfl
 show Q (.ref g3.objs.size) _
 rw [sz] at new ⊢
 exact hQ x y _ t3 p1 p2 (qa9 _ z3) (qa9 _ ti3) (D1.frame _ _ _ st1 λc _ o e=>qa9 _ e) (D2.frame _ _ _ d2 λc _ o e=>qa9 _ e) new λc o hc e=>qa9 _ (k3.2 c o hc e)
theorem oS (D1:Draws prog w A i1 f1 n1 P1 S1) (m1:∀c∈f1,c=i1\/c∉[z,TO,i1,i2]) (ap:ZipApart z TI TO i1 i2 TI TI)
  (hz:s.heap.get? z=some (dB T b1 TI TO)) (hT:s.heap.get? T=some oT) (hTI:IsPair s.heap TI (.ref i1) (.ref i2)) (h1:S1 n1 s.heap)
  (hE:∀h' e tk,(∀c o,c∉[z,TO,i1,i2]->s.heap.get? c=some o->h'.get? c=some o)->(∃o,h'.get? e=some o/\o.cls=.type "StopIteration")->E (.ref e) { s with heap:=h',toks:=tk }):
  wpAny (model prog w) A (Builtin.«zip.__next__» ([.ref z],[])) Q E s:=by
 unfold Builtin.«zip.__next__»
 refine qa7 (wpAny_of_eq (a:=(Value.ref z,[],)) rfl (qa7 (wpAny_field hz rfl (x:=.bool false) rfl (qa7 (wpAny_field hz rfl (x:=.ref TI) rfl (qa7 (wpAny_seqItems hTI rfl (wpAny_ite_false (by simp) (qa7 (ig hz hT λg1 z1 c1=>wpAny_ite_false (by decide) ?_))))))))))
 dsimp only
 rw [<- Array.forIn_toList]
 show wpAny _ _ (forIn [Value.ref i1,.ref i2] _ _ >>= _) _ _ _
 simp only [forIn_cons,forIn_nil]
 have s1:S1 n1 g1:=D1.frame _ _ _ h1 λc hc o e=>by
  rcases m1 c hc with rfl|hn
  .exact (c1.2 _ ap.i1z).trans e
  .exact (c1.2 c λq=>hn (by simp [q])).trans e
 refine qa7 (qa7 (qa7 (wpAny_holding (qa7 (m:=Builtin.SmallTypes.nextOf (.ref i1)) (D1.done _ _ _ s1 λg2 e x2 he=>?_)))))
 exact hE g2 e s.toks (λc o hc q=>x2 c o (λr=>hc (by simp [r])) ((c1.2 c λr=>hc (by simp [r])).trans q)) he
end
section
variable {prog:Program} {w:World} {A:Around} {R:Result->Shared->Prop} {z TI TO i1 i2 S:Addr} {f1 f2:List Addr} {n:Nat} {P1 P2:Nat->Value->Prop} {S1 S2:Nat->Heap->Prop}
structure LZ (h0:Heap) (z TI TO i1 i2 S:Addr) (P1 P2:Nat->Value->Prop) (S1 S2:Nat->Heap->Prop) (k:Nat) (h:Heap) (acc:Array Value):Prop where
 zip:(k=0/\IsZip h z TI TO .none/\∃a b,IsPair h TO a b)\/(0<k/\∃b1 T oT,h.get? z=some (dB T b1 TI TO)/\h.get? T=some oT/\h0.objs.size≤T)
 ti:IsPair h TI (.ref i1) (.ref i2)
 s1:S1 k h
 s2:S2 k h
 sz:h0.objs.size≤h.objs.size
 len:acc.size=k
 items:∀(j:Nat) (v:Value),acc[j]?=some v->∃t x y,v=.ref t/\P1 j x/\P2 j y/\IsPair h t x y/\h0.objs.size≤t
 inj:∀(i j:Nat) (t:Addr),acc[i]?=some (.ref t)->acc[j]?=some (.ref t)->i=j
 keep:∀c o,c∉[z,TO,i1,i2,S]->h0.get? c=some o->h.get? c=some o
theorem d_X (hT:s.TypeIs (.ref z) "zip") (h:wpAny (model prog w) A.in1 (Builtin.«zip.__next__» ([.ref z],[])) (λfin s'=>∃v,fin=.done (.ret v)/\Q (some v) s') (λe s'=>∃o e',e=.ref e'/\s'.heap.get? e'=some o/\o.cls=.type "StopIteration"/\Q none s') s):
  wpAny (model prog w) A (pyNext (.ref z)) Q E s:=by
 unfold pyNext
 refine qa7 (wpAny_attempt (wpAny_callSpecial?_slot (name:=Str.ofString "__next__") hT F.slot_zip_next (wpAny_call_entry F.slot_zip_next hT F.entry_zip_next (wpAny_mono h (λfin s' hq=>?_) λe s' hq=>?_) (F.args_zip_next_1 _))))
 .obtain ⟨v,rfl,q⟩:=hq
  exact (v,rfl,qa8 q)
 .obtain ⟨o,e',rfl,ho,hc,q⟩:=hq
  exact qa7 (wpAny_isInstance (T:="StopIteration") (b:=true) (o,ho,hc) isSubtype_stop (qa8 q))
theorem jQ (D1:Draws prog w A.in1.in1 i1 f1 n P1 S1) (D2:Draws prog w A.in1.in1 i2 f2 n P2 S2) (ap:ZipApart z TI TO i1 i2 TI TI) (hn:n≤1000000) (m1:∀c∈f1,c=i1\/c∉[z,TO,i1,i2,S]) (m2:∀c∈f2,c=i2\/c∉[z,TO,i1,i2,S])
  (lt:∀c∈[z,TI,TO,i1,i2,S],c<h0.objs.size) (hS:S∉[z,TI,TO,i1,i2]) (res:Value) (base:Shared)
  (hR:∀h tk acc c,LZ h0 z TI TO i1 i2 S P1 P2 S1 S2 n h acc->h.get? S=some { cls:=.type "list",dict:=none,data:=.seq acc c,slots:=#[] }->∀h',(∀c o,c∉[z,TO,i1,i2]->h.get? c=some o->h'.get? c=some o)->R (.ok (.ret res)) { base with heap:=h',toks:=tk }):
  ∀(m k:Nat) (h:Heap) (tk:Nat) (acc:Array Value) (c:Nat),n - k=m->k≤n->LZ h0 z TI TO i1 i2 S P1 P2 S1 S2 k h acc->h.get? S=some { cls:=.type "list",dict:=none,data:=.seq acc c,slots:=#[] }->
   codeAny (model prog w) A (.builtin "list.extend.loop" ([.ref S,.ref z,res],[])) R { base with heap:=h,toks:=tk }:=by
 have m1':∀c∈f1,c=i1\/c∉[z,TO,i1,i2]:=λc hc=>(m1 c hc).imp id λq z=>q (by simp at z ⊢;rcases z with y|y|y|y <;> simp [y])
 have m2':∀c∈f2,c=i2\/c∉[z,TO,i1,i2]:=λc hc=>(m2 c hc).imp id λq z=>q (by simp at z ⊢;rcases z with y|y|y|y <;> simp [y])
 have hSz:S≠z:=λq=>hS (by simp [q])
 have hSTI:S≠TI:=λq=>hS (by simp [q])
 have hSTO:S≠TO:=λq=>hS (by simp [q])
 have hS1:S≠i1:=λq=>hS (by simp [q])
 have hS2:S≠i2:=λq=>hS (by simp [q])
 have hSn:S∉[z,TO,i1,i2]:=by simp [hSz,hSTO,hS1,hS2]
 have hSlt:S<h0.objs.size:=lt S (by simp)
 intro m
 induction m with
 | zero=>
  intro k h tk acc c hm hk L hSo
  have e:k=n:=by lia
  subst e
  refine codeAny_builtin F.entry_extend_loop ?_
  rw [Around.under_plainId F.plain_extend_loop _]
  show wpAny _ A.in1 (pyNext (.ref z) >>= _) _ _ _
  have fin:∀h' e tk',(∀c o,c∉[z,TO,i1,i2]->h.get? c=some o->h'.get? c=some o)->(∃o,h'.get? e=some o/\o.cls=.type "StopIteration")->
    ∃o e',(Value.ref e)=.ref e'/\({ base with heap:=h',toks:=tk' }:Shared).heap.get? e'=some o/\o.cls=.type "StopIteration"/\wpAny (model prog w) A.in1 (ret res) (λfin s'=>match fin with|.done f=>R (.ok f) s'|.again c'=>c'.quiet=true/\codeAny (model prog w) A c' R s') (λe s'=>R (.error e) s') { base with heap:=h',toks:=tk' }:=λh' e tk' kp ⟨o,ho,hc⟩=>
   (o,e,rfl,ho,hc,qa8 (hR h tk' acc c L hSo h' kp))
  rcases L.zip with ⟨hk0,hz,a,b,hTO⟩|⟨hk0,b1,T,oT,hz,hT,_⟩
  .refine qa7 (d_X (s:={ base with heap:=h,toks:=tk }) (_,hz,rfl) (endedL (s:={ base with heap:=h,toks:=tk }) D1 D2 m1' m2' ap hz L.ti hTO L.s1 L.s2 (.inl rfl) λh' e tk' kp he=>fin h' e tk' kp he))
  .refine qa7 (d_X (s:={ base with heap:=h,toks:=tk }) (_,hz,rfl) (oS (s:={ base with heap:=h,toks:=tk }) D1 m1' ap hz hT L.ti L.s1 λh' e tk' kp he=>fin h' e tk' kp he))
 | succ m ih=>
  intro k h tk acc c hm hk L hSo
  have hlt:k<n:=by lia
  refine codeAny_builtin F.entry_extend_loop ?_
  rw [Around.under_plainId F.plain_extend_loop _]
  show wpAny _ A.in1 (pyNext (.ref z) >>= _) _ _ _
  have go:∀x y h' tk' (zs:∃b1 T oT,h'.get? z=some (dB T b1 TI TO)/\h'.get? T=some oT/\h0.objs.size≤T),P1 k x->P2 k y->IsPair h' TI (.ref i1) (.ref i2)->S1 (k+1) h'->S2 (k+1) h'->IsPair h' h.objs.size x y->(∀c o,c∉[z,TO,i1,i2]->h.get? c=some o->h'.get? c=some o)->
    wpAny (model prog w) A.in1 (Builtin.List.listUpdate (.ref S) (·.push (.ref h.objs.size)) >>= λ_=>again (.builtin "list.extend.loop" ([.ref S,.ref z,res],[]))) (λfin s'=>match fin with|.done f=>R (.ok f) s'|.again c'=>c'.quiet=true/\codeAny (model prog w) A c' R s') (λe s'=>R (.error e) s') { base with heap:=h',toks:=tk' }:=by
   intro x y h' tk' zs p1 p2 ti st1 st2 new kp
   have hS':=kp S _ hSn hSo
   refine qa7 ?_
   show wpAny _ A.in1 (updateSeq S (·.push (.ref h.objs.size))) _ _ _
   have hacc:acc.size=k:=L.len
   refine wpAny_updateSeq (s:={ base with heap:=h',toks:=tk' }) hS' rfl (qa8 (plainId_quiet F.plain_extend_loop _,?_)) (by rw [hacc,sizeLine_eq];exact le_trans hk (le_trans hn (by decide))) (by show (acc.push _).size≤sizeLine+1;rw [Array.size_push,hacc,sizeLine_eq];lia)
   have up:∀c o,c≠S->h'.get? c=some o->(h'.update S (mapSeq (·.push (.ref h.objs.size)))).get? c=some o:=λc o hc e=>(Heap.get?_update_other _ _ (Ne.symm hc)).trans e
   have hnew:h.objs.size≠S:=ne_of_gt (lt_of_lt_of_le hSlt L.sz)
   have hlt':h.objs.size<h'.objs.size:=lt_size new
   have f1S:∀c∈f1,c≠S:=λc hc q=>by
    rcases m1 c hc with r|r
    .exact hS1 (q.symm.trans r)
    .exact r (by simp [q])
   have f2S:∀c∈f2,c≠S:=λc hc q=>by
    rcases m2 c hc with r|r
    .exact hS2 (q.symm.trans r)
    .exact r (by simp [q])
   refine ih (k+1) _ tk' (acc.push (.ref h.objs.size)) _ (by lia) hlt (?_,up TI _ (Ne.symm hSTI) ti,D1.frame _ _ _ st1 λc hc o e=>up c o (f1S c hc) e,D2.frame _ _ _ st2 λc hc o e=>up c o (f2S c hc) e,?_,by rw [Array.size_push,hacc],λj v hj=>?_,λi j t hi hj=>?_,λc o hc e=>?_) (Heap.get?_update_self _ hS' rfl)
   .obtain ⟨b1,T,oT,e1,e2,e3⟩:=zs
    exact .inr (Nat.succ_pos k,b1,T,oT,up z _ (Ne.symm hSz) e1,up T _ (ne_of_gt (lt_of_lt_of_le hSlt e3)) e2,e3)
   .rw [Heap.size_update]
    exact le_trans L.sz (le_of_lt hlt')
   .rw [Array.getElem?_push] at hj
    split at hj
    .rename_i ej
     cases hj
     rw [hacc] at ej
     rw [ej]
     exact (_,x,y,rfl,p1,p2,up _ _ hnew new,L.sz)
    .obtain ⟨t,x',y',rfl,q1,q2,q3,q4⟩:=L.items j v hj
     refine (t,x',y',rfl,q1,q2,up t _ (ne_of_gt (lt_of_lt_of_le hSlt q4)) (kp t _ (λhm=>?_) q3),q4)
     exact absurd (lt t (by simp at hm ⊢;rcases hm with y|y|y|y <;> simp [y])) (not_lt.mpr q4)
   .have old:∀(a:Nat),acc[a]?=some (.ref h.objs.size)->False:=λa e=>by
     obtain ⟨t,x',y',e1,_,_,q3,_⟩:=L.items a _ e
     cases e1
     exact absurd (lt_size q3) (lt_irrefl _)
    rw [Array.getElem?_push] at hi hj
    split at hi
    .rename_i ei
     cases hi
     split at hj
     .rename_i ej
      lia
     .exact (old _ hj).elim
    .split at hj
     .cases hj
      exact (old _ hi).elim
     .exact L.inj i j t hi hj
   .have hcS:c≠S:=λq=>hc (by simp [q])
    exact up c o hcS (kp c o (λhm=>hc (by simp at hm ⊢;rcases hm with y|y|y|y <;> simp [y])) (L.keep c o hc e))
  rcases L.zip with ⟨hk0,hz,a,b,hTO⟩|⟨hk0,b1,T,oT,hz,hT,hT0⟩
  .refine qa7 (d_X (s:={ base with heap:=h,toks:=tk }) (_,hz,rfl) (toldL (s:={ base with heap:=h,toks:=tk }) D1 D2 m1' m2' ap hz L.ti hTO L.s1 L.s2 hlt hlt λx y h' tk' p1 p2 gz gTI gTO g1 g2 new kp=>?_))
   exact go x y h' tk' (false,h.objs.size,_,gz,new,L.sz) p1 p2 gTI g1 g2 new kp
  .refine qa7 (d_X (s:={ base with heap:=h,toks:=tk }) (_,hz,rfl) (o8 (s:={ base with heap:=h,toks:=tk }) D1 D2 m1' m2' ap hz hT L.ti L.s1 L.s2 hlt hlt λx y h' tk' p1 p2 gz gTI g1 g2 new kp=>?_))
   refine go x y h' tk' (true,T,oT,gz,kp T _ (λhm=>?_) hT,hT0) p1 p2 gTI g1 g2 new kp
   exact absurd (lt T (by simp at hm ⊢;rcases hm with y|y|y|y <;> simp [y])) (not_lt.mpr hT0)
end
section
variable {prog:Program} {w:World} {A:Around} {E:Value->Shared->Prop} {z TI TO i1 i2:Addr} {f1 f2:List Addr} {n:Nat} {P1 P2:Nat->Value->Prop} {S1 S2:Nat->Heap->Prop}
theorem fz:typeLookup (.type "zip") "__len__"=pure none:=by rw [typeLookup_type,builtinLookup_eq_fast];kernel_rfl
theorem dA:typeLookup (.type "zip") "__length_hint__"=pure none:=by rw [typeLookup_type,builtinLookup_eq_fast];kernel_rfl
theorem list_zip (D1:Draws prog w A.in1.in1.in1 i1 f1 n P1 S1) (D2:Draws prog w A.in1.in1.in1 i2 f2 n P2 S2) (ap:ZipApart z TI TO i1 i2 TI TI) (hn:n≤1000000) (m1:∀c∈f1,c=i1\/(c∉[z,TO,i1,i2]/\c<s.heap.objs.size)) (m2:∀c∈f2,c=i2\/(c∉[z,TO,i1,i2]/\c<s.heap.objs.size))
  (hz:IsZip s.heap z TI TO .none) (hTI:IsPair s.heap TI (.ref i1) (.ref i2)) (hTO:IsPair s.heap TO a b) (h1:S1 0 s.heap) (h2:S2 0 s.heap) (l1:i1<s.heap.objs.size) (l2:i2<s.heap.objs.size)
  (hQ:∀h' tk (acc:Array Value) c,(∀b o,b∉[z,TO,i1,i2]->s.heap.get? b=some o->h'.get? b=some o)->h'.get? s.heap.objs.size=some { cls:=.type "list",dict:=none,data:=.seq acc c,slots:=#[] }->acc.size=n->
   (∀(j:Nat) (v:Value),acc[j]?=some v->∃t x y,v=.ref t/\P1 j x/\P2 j y/\IsPair h' t x y/\s.heap.objs.size<t)->(∀(i j:Nat) (t:Addr),acc[i]?=some (.ref t)->acc[j]?=some (.ref t)->i=j)->Q (.ref s.heap.objs.size) { s with heap:=h',toks:=tk }):
  wpAny (model prog w) A (call (.type "list") [.ref z]) Q E s:=by
 refine callType_codes (Q₁:=λobj s₁=>obj=.ref s.heap.objs.size/\s₁={ s with heap:=s.heap.push { cls:=.type "list",data:=.seq #[] } }) F.called_list (F.typeCall_list_1 _) F.entry_list_init
  (code_list_new _ (rfl,rfl)) λobj s₁ h₁=>?_
 obtain ⟨rfl,rfl⟩:=h₁
 have hS:(s.heap.push { cls:=.type "list",data:=.seq #[] }).get? s.heap.objs.size=some { cls:=.type "list",data:=.seq #[] }:=get?_push_size _ rfl
 refine ((_,hS,rfl),F.args_list_init_2 _ _,?_)
 have ltz:z<s.heap.objs.size:=lt_size hz
 have ltI:TI<s.heap.objs.size:=lt_size hTI
 have ltO:TO<s.heap.objs.size:=lt_size hTO
 have hne:∀c,c<s.heap.objs.size->c≠s.heap.objs.size:=λc hc=>ne_of_lt hc
 generalize hSe:s.heap.objs.size=S at *
 show wpAny _ _ (do let old <- Builtin.List.listItems (.ref S);Builtin.List.listUpdate (.ref S) (λ_=>#[]);letGo old.toList.reverse;Builtin.List.listExtendWith (.ref S) (.ref z) .none) _ _ _
 refine qa7 ?_
 unfold Builtin.List.listItems
 refine qa7 (wpAny_seqItems hS rfl (qa8 ?_))
 show wpAny _ _ (updateSeq S (λ_=>#[]) >>= λ_=>letGo (#[]:Array Value).toList.reverse >>= λ_=>Builtin.List.listExtendWith (.ref S) (.ref z) .none) _ _ _
 refine qa7 (wpAny_updateSeq hS rfl ?_)
 have hS2:=Heap.get?_update_self (mapSeq (λ_=>(#[]:Array Value))) hS rfl
 have oth:∀b o,b≠S->s.heap.get? b=some o->((s.heap.push { cls:=.type "list",data:=.seq #[] }).update S (mapSeq (λ_=>(#[]:Array Value)))).get? b=some o:=
  λb o hb e=>(Heap.get?_update_other _ _ (Ne.symm hb)).trans (qa9 _ e)
 have hsz2:((s.heap.push { cls:=.type "list",data:=.seq #[] }).update S (mapSeq (λ_=>(#[]:Array Value)))).objs.size=S+1:=by rw [Heap.size_update,size_push,hSe]
 refine qa7 (wpAny_letGo ?_)
 generalize (s.heap.push { cls:=.type "list",data:=.seq #[] }).update S (mapSeq (λ_=>(#[]:Array Value)))=h0 at hS2 oth hsz2
 have zz:IsZip h0 z TI TO .none:=oth z _ (hne z ltz) hz
 have hT:({ s with heap:=h0 }:Shared).TypeIs (.ref z) "zip":=(_,zz,rfl)
 have hSz:S≠z:=Ne.symm (hne z ltz)
 unfold Builtin.List.listExtendWith
 refine qa7 (wpAny_typeOf hT ?_)
 have e1:Builtin.List.listSameRef (.ref S) (.ref z)=false:=by simp [Builtin.List.listSameRef,hSz]
 have e2:(Value.type "zip"==Value.type "list")=false:=by decide
 have e3:(Value.type "zip"==Value.type "tuple")=false:=by decide
 simp only [e1,e2,e3,Bool.or_false,Bool.false_eq_true,if_false]
 refine qa7 (wpAny_pyIter_zip (s:={ s with heap:=h0 }) zz ?_)
 refine qa7 (wpAny_holding ?_)
 unfold Builtin.List.listLengthHint
 refine qa7 (wpAny_specialOf hT fz ?_)
 show wpAny _ _ (specialOf (Value.ref z) (Str.ofString "__length_hint__") >>= _) _ _ _
 refine qa7 (wpAny_specialOf hT dA ?_)
 refine qa8 ?_
 show wpAny _ _ (rule "list.extend.makes-room" >>= λ_=>Builtin.List.listTouch (.ref S) >>= λ_=>again (.builtin "list.extend.loop" ([.ref S,.ref z,.none],[]))) _ _ _
 refine qa7 (wpAny_rule ?_)
 refine qa7 ?_
 show wpAny _ _ (updateSeq S (·.push .none) >>= λ_=>updateSeq S (·.pop)) _ _ _
 refine qa7 (wpAny_updateSeq (s:={ s with heap:=h0 }) hS2 rfl ?_)
 have hS3:=Heap.get?_update_self (mapSeq (·.push Value.none)) hS2 rfl
 refine wpAny_updateSeq (hz:=by seq_fits) hS3 rfl ?_
 have hS4:=Heap.get?_update_self (mapSeq (·.pop)) hS3 rfl
 have oth2:∀b o,b≠S->s.heap.get? b=some o->((h0.update S (mapSeq (·.push Value.none))).update S (mapSeq (·.pop))).get? b=some o:=
  λb o hb e=>(Heap.get?_update_other _ _ (Ne.symm hb)).trans ((Heap.get?_update_other _ _ (Ne.symm hb)).trans (oth b o hb e))
 have hsz4:((h0.update S (mapSeq (·.push Value.none))).update S (mapSeq (·.pop))).objs.size=S+1:=by rw [Heap.size_update,Heap.size_update];exact hsz2
 generalize ((h0.update S (mapSeq (·.push Value.none))).update S (mapSeq (·.pop)))=h1' at hS4 oth2 hsz4
 have f1n:∀c∈f1,c<S:=λc hc=>(m1 c hc).elim (λq=>q▸l1) λq=>q.2
 have f2n:∀c∈f2,c<S:=λc hc=>(m2 c hc).elim (λq=>q▸l2) λq=>q.2
 have off:∀c:Addr,c∉[z,TO,i1,i2]->c<S->c∉[z,TO,i1,i2,S]:=λc h1 h2 hm=>by
  simp at hm h1
  rcases hm with y|y|y|y|y
  .exact h1.1 y
  .exact h1.2.1 y
  .exact h1.2.2.1 y
  .exact h1.2.2.2 y
  .exact absurd h2 (by rw [y];exact lt_irrefl _)
 refine qa8 (plainId_quiet F.plain_extend_loop _,jQ (S:=S) (h0:=h1') (n:=n) (base:=s) D1 D2 ap hn (λc hc=>(m1 c hc).imp id λq=>off c q.1 q.2) (λc hc=>(m2 c hc).imp id λq=>off c q.1 q.2) (λc hc=>?_) ?_ .none ?_ n 0 h1' _ #[] _ (by lia) (zero_le _)
  (.inl (rfl,oth2 z _ (hne z ltz) hz,a,b,oth2 TO _ (hne TO ltO) hTO),oth2 TI _ (hne TI ltI) hTI,D1.frame _ _ _ h1 λc hc o e=>oth2 c o (hne c (f1n c hc)) e,D2.frame _ _ _ h2 λc hc o e=>oth2 c o (hne c (f2n c hc)) e,le_refl _,rfl,λj v hj=>by simp at hj,λi j t hi=>by simp at hi,λc o _ e=>e) hS4)
 .rw [hsz4]
  simp only [mem_cons,not_mem_nil,or_false] at hc
  rcases hc with y|y|y|y|y|y
  .rw [y];exact Nat.lt_succ_of_lt ltz
  .rw [y];exact Nat.lt_succ_of_lt ltI
  .rw [y];exact Nat.lt_succ_of_lt ltO
  .rw [y];exact Nat.lt_succ_of_lt l1
  .rw [y];exact Nat.lt_succ_of_lt l2
  .rw [y];exact lt_succ_self _
 .simp [hSz,Ne.symm (hne TI ltI),Ne.symm (hne TO ltO),Ne.symm (hne i1 l1),Ne.symm (hne i2 l2)]
 .intro h tk acc c L hSo h' kp
  have hSn:S∉[z,TO,i1,i2]:=by simp [hSz,Ne.symm (hne TO ltO),Ne.symm (hne i1 l1),Ne.symm (hne i2 l2)]
  refine (rfl,hQ h' tk acc c (λb o hb e=>kp b o hb (L.keep b o (λhm=>?_) (oth2 b o (hne b (by rw [<- hSe];exact lt_size e)) e))) (kp S _ hSn hSo) L.len (λj v hj=>?_) L.inj)
  .simp at hm hb
   rcases hm with y|y|y|y|y
   .exact hb.1 y
   .exact hb.2.1 y
   .exact hb.2.2.1 y
   .exact hb.2.2.2 y
   .exact absurd (lt_size e) (by rw [hSe,y];exact lt_irrefl _)
  .obtain ⟨t,x,y,rfl,p1,p2,q,q2⟩:=L.items j v hj
   rw [hsz4] at q2
   refine (t,x,y,rfl,p1,p2,kp t _ (λhm=>?_) q,q2)
   have hlt:t<S:=by
    simp at hm
    rcases hm with y|y|y|y
    .rw [y];exact ltz
    .rw [y];exact ltO
    .rw [y];exact l1
    .rw [y];exact l2
   exact absurd (lt_of_lt_of_le hlt (Nat.le_succ S)) (not_lt.mpr q2)
end
end ZP
end L2
namespace L2
open PySem PySem.Spec PyProof.Rows
section
variable {X:Cx} {pins:List (Addr×Obj)} {σ:St} {H H':Hp} {s:Shared} {h':Heap}
theorem Inv.many (I:Inv X pins σ H s) (k:∀b o,s.heap.get? b=some o->h'.get? b=some o) (old:∀b,b<s.heap.objs.size->H' b=H b) (new:∀b o,s.heap.objs.size≤b->H' b=some o->b_f X.prog X.w H' h' b o):Inv X pins σ H' { s with heap:=h',toks:=t' }:=by
 have up:∀{b:Addr} {u:HO},H b=some u->H' b=some u:=λ{b u} e=>by rw [old b (I.hok.lt e)];exact e
 refine I.un (H':=H') (λb o e _ _ _=>k b o e,λb o e _ _ _=>(o.slots,k b o e),λb o e n _=>by rw [old b (lt_size e)];exact n,λb o e _=>(o,k b o e),λb xs e=>up e,λb o u e=>up e,λb ps e=>(#[],by rw [up e];simp)) λb o e=>?_
 by_cases hb:s.heap.objs.size≤b
 .exact new b o hb e
 .have hb':b<s.heap.objs.size:=Nat.lt_of_not_le hb
  rw [old b hb'] at e
  exact (I.hok b o e).stay (λc u _ q=>k c u q) (λc q=>up q) λc xs q=>up q
end
def jf (ts:List Addr) (xs ys:List V) (b:Addr):Option HO:=((ts.zip (xs.zip ys)).lookup b).map λq=>HO.tup [q.1,q.2]
theorem f_M {α:Type} {b:Addr} {v:α}:∀{ts:List Addr} {vs:List α} {i:Nat},ts.Nodup->ts[i]?=some b->vs[i]?=some v->(ts.zip vs).lookup b=some v
 | [],_,_,_,h,_=>by simp at h
 | _::_,[],_,_,_,h=>by simp at h
 | t::ts,w::vs,0,nd,h1,h2=>by
  simp at h1 h2
  subst h1 h2
  simp [lookup_cons]
 | t::ts,w::vs,i+1,nd,h1,h2=>by
  have hne:b≠t:=λz=>(nodup_cons.mp nd).1 (by rw [<- z];exact qb2 (by simpa using h1))
  rw [List.zip_cons_cons,lookup_cons,beq_eq_false_iff_ne.mpr hne]
  exact f_M (i:=i) (nodup_cons.mp nd).2 (by simpa using h1) (by simpa using h2)
theorem e_Q {α:Type}:∀{l:List α},(∀(i j:Nat) (t:α),l[i]?=some t->l[j]?=some t->i=j)->l.Nodup
 | [],_=>List.nodup_nil
 | a::r,h=>by
  rw [nodup_cons]
  refine (λhm=>?_,e_Q λi j t h1 h2=>?_)
  .obtain ⟨j,hj⟩:=mem_iff_getElem?.mp hm
   have:=h 0 (j+1) a rfl (by simpa using hj)
   lia
  .have:=h (i+1) (j+1) t (by simpa using h1) (by simpa using h2)
   lia
theorem bJ {α:Type} {b:Addr} {v:α}:∀{l:List (Addr×α)},l.lookup b=some v->(b,v,)∈l
 | [],e=>by cases e
 | (c,x)::r,e=>by
  rw [lookup_cons] at e
  by_cases hb:b=c
  .subst hb
   simp at e
   simp [e]
  .rw [beq_eq_false_iff_ne.mpr hb] at e
   exact mem_cons_of_mem _ (bJ e)
def jZ (ta:TA):TE:=λσ H Q=>ta σ H λvs H1=>∃a b xs ys,vs=[.ref a,.ref b]/\H1 a=some (.lst xs)/\H1 b=some (.lst ys)/\xs.length=ys.length/\xs.length≤1000000/\
 ∀(l:Addr) (ts:List Addr) (H2:Hp),ts.length=xs.length->ts.Nodup->H1 l=none->Same H1 H2->H2 l=some (.lst (ts.map V.ref))->(∀(i:Nat) (t:Addr) (x y:V),ts[i]?=some t->xs[i]?=some x->ys[i]?=some y->H2 t=some (.tup [x,y]))->Q (.ref l) H2
theorem fU {p p2 pos pos2:Pos} (hc:X.calm=true) (hgl:Gl X "list") (hml:X.mg "list"=none) (hgz:Gl X "zip") (hmz:X.mg "zip"=none) (ha:PA X [a,b] ta)
  (hs:starEach [.Call (.Name "zip" p2) [a,b] [] pos2] X.env=[(false,eval (.Call (.Name "zip" p2) [a,b] [] pos2) X.env,)]:=by rfl) (hs2:starEach [a,b] X.env=(false,eval a X.env,)::starEach [b] X.env:=by rfl) (hpl2:(backTo pos2 (starEach [b] X.env)).any (·.1)=false:=by rfl):
  PE X (.Call (.Name "list" p) [.Call (.Name "zip" p2) [a,b] [] pos2] [] pos) (jZ ta):=by
 intro pins s σ H Q I h
 refine wpAny_Call_Name_kw (ld_blt I hgl hml boot_list ?_)
 refine PyProof.Rows.callWith_type1 (e:=.Call (.Name "zip" p2) [a,b] [] pos2) (rest:=[]) ?_ hs rfl
 rw [hs]
 show wpAny _ _ (spliced ((false,eval (.Call (.Name "zip" p2) [a,b] [] pos2) X.env,)::backTo pos [])) _ _ s
 refine Calls.spliced_cons (wpAny_Call_Name_kw (ld_blt I hgz hmz boot_zip (PyProof.Rows.callWith_type1 (thn (ha pos2 pins s σ H _ I h) λus s1 hZ1=>?_) hs2 hpl2)))
 obtain ⟨vs,H1,I1,r1,la,lb,xs,ys,ev,hqx,hqy,hl,hmax,q⟩:=hZ1
 subst ev
 obtain ⟨u1,u2,rfl,e1,e2⟩:=g_O r1
 cases e1
 cases e2
 obtain ⟨itx,rx,⟨ox,nx,eox,cox,_,ddx⟩,_⟩:=I1.list (SqL.of hqx)
 obtain ⟨ity,ry,⟨oy,ny,eoy,coy,_,ddy⟩,_⟩:=I1.list (SqL.of hqy)
 have px:s1.heap.IsList la itx.toArray:=(ox,eox,cox,nx,ddx)
 have py:s1.heap.IsList lb ity.toArray:=(oy,eoy,coy,ny,ddy)
 have hh:X.A.handled=none:=I1.ok.hd hc
 have ltx:la<s1.heap.objs.size:=lt_size eox
 have lty:lb<s1.heap.objs.size:=lt_size eoy
 refine ZP.call_sd (d1:=.ls la) (d2:=.ls lb) (xs:=itx.toArray) (ys:=ity.toArray) (ZP.meet_ll la lb) px py λg gz gTI gTO g1 g2 gk=>?_
 have gsz:s1.heap.objs.size+5≤g.objs.size:=lt_size gz
 refine Calls.spliced_nil ?_
 have ap:ZipApart (s1.heap.objs.size+4) (s1.heap.objs.size+2) (s1.heap.objs.size+3) s1.heap.objs.size (s1.heap.objs.size+1) (s1.heap.objs.size+2) (s1.heap.objs.size+2):=by
  constructor <;> exact neA (by lia)
 have ex:itx.toArray.size=xs.length:=by rw [rx.length];simp
 have ey:ity.toArray.size=xs.length:=by rw [hl,ry.length];simp
 have px':g.IsList la itx.toArray:=px.at λo e=>gk la o e
 have py':g.IsList lb ity.toArray:=py.at λo e=>gk lb o e
 have D1:=Draws.list (prog:=X.prog) (w:=X.w) (A:=X.A.in1.in1.in1) hh s1.heap.objs.size la (ne_of_lt ltx) itx.toArray
 have D2:=Draws.list (prog:=X.prog) (w:=X.w) (A:=X.A.in1.in1.in1) hh (s1.heap.objs.size+1) lb (ne_of_lt (Nat.lt_succ_of_lt lty)) ity.toArray
 rw [ex] at D1
 rw [ey] at D2
 have offl:∀c:Addr,c<s1.heap.objs.size->c∉[s1.heap.objs.size+4,s1.heap.objs.size+3,s1.heap.objs.size,s1.heap.objs.size+1]:=λc hc' hm=>by
  have hc':(c:Nat)<s1.heap.objs.size:=hc'
  simp only [mem_cons,not_mem_nil,or_false] at hm
  rcases hm with y|y|y|y
  .exact absurd hc' (by rw [y];exact not_lt.mpr (le_add_right _ _))
  .exact absurd hc' (by rw [y];exact not_lt.mpr (le_add_right _ _))
  .exact absurd hc' (by rw [y];exact lt_irrefl _)
  .exact absurd hc' (by rw [y];exact not_lt.mpr (le_add_right _ _))
 refine ZP.list_zip (s:={ s1 with heap:=g }) (n:=xs.length) D1 D2 ap hmax (λc hc'=>?_) (λc hc'=>?_) gz gTI gTO (g1,px') (g2,py') (lt_of_lt_of_le (by lia) gsz) (lt_of_lt_of_le (by lia) gsz) λh' tk acc c kp hS hsz items inj=>?_
 .rcases mem_cons.mp hc' with z|z
  .exact .inl z
  .rw [qb1 z]
   exact .inr (offl la ltx,lt_of_lt_of_le ltx (by show s1.heap.objs.size≤g.objs.size;lia))
 .rcases mem_cons.mp hc' with z|z
  .exact .inl z
  .rw [qb1 z]
   exact .inr (offl lb lty,lt_of_lt_of_le lty (by show s1.heap.objs.size≤g.objs.size;lia))
 have hS:h'.get? g.objs.size=some { cls:=.type "list",dict:=none,data:=.seq acc c,slots:=#[] }:=hS
 obtain ⟨ts,hts⟩:∃ts:List Addr,acc.toList=ts.map Value.ref:=by
  have:∀(l:List Value),(∀v∈l,∃t:Addr,v=.ref t)->∃ts:List Addr,l=ts.map Value.ref:=by
   intro l
   induction l with
   | nil=>exact λ_=>([],rfl)
   | cons v r ih=>
    intro hv
    obtain ⟨t,rfl⟩:=hv v (by simp)
    obtain ⟨ts,rfl⟩:=ih λv hv'=>hv v (by simp [hv'])
    exact (t::ts,rfl)
  refine this acc.toList λv hv=>?_
  obtain ⟨j,hj⟩:=mem_iff_getElem?.mp hv
  rw [getElem?_toList] at hj
  obtain ⟨t,_,_,e,_⟩:=items j v hj
  exact (t,e)
 have tsl:ts.length=xs.length:=by rw [<- hsz,<- length_toList,hts,qa4]
 have tsg:∀{i:Nat} {t:Addr},ts[i]?=some t->acc[i]?=some (.ref t):=λ{i t} e=>by rw [<- getElem?_toList,hts,qa6,e];rfl
 have tnd:ts.Nodup:=e_Q λi j t h1 h2=>inj i j t (tsg h1) (tsg h2)
 have told:∀{i:Nat} {t:Addr} {x y:V},ts[i]?=some t->xs[i]?=some x->ys[i]?=some y->g.objs.size<t/\∃u v,ad x u/\ad y v/\IsPair h' t u v:=λ{i t x y} ht hx hy=>by
  obtain ⟨t',u,v,e,p1,p2,pr,hlt⟩:=items i _ (tsg ht)
  cases e
  have p1:itx.toArray[i]?=some u:=p1
  have p2:ity.toArray[i]?=some v:=p2
  obtain ⟨u',hu,ru⟩:=rx.get hx
  obtain ⟨v',hv,rv⟩:=ry.get hy
  rw [getElem?_toArray,hu] at p1
  rw [getElem?_toArray,hv] at p2
  cases p1
  cases p2
  exact (hlt,_,_,ru,rv,pr)
 have hfull:∀{i:Nat},i<xs.length->∃t x y,ts[i]?=some t/\xs[i]?=some x/\ys[i]?=some y:=λ{i} hi=>(ts[i],xs[i],ys[i],qa2 _,qa2 _,qa2 _)
 have tgt:∀t∈ts,g.objs.size<t:=λt ht=>by
  obtain ⟨i,hi⟩:=mem_iff_getElem?.mp ht
  have hil:i<xs.length:=by rw [<- tsl];exact (qa1 hi).1
  obtain ⟨t',x,y,h1,h2,h3⟩:=hfull hil
  rw [hi] at h1
  cases h1
  exact (told hi h2 h3).1
 let H2:Hp:=λb=>if b<s1.heap.objs.size then H1 b else if b=g.objs.size then some (.lst (ts.map V.ref)) else jf ts xs ys b
 have gS:¬ g.objs.size<s1.heap.objs.size:=by lia
 have H2old:∀b,b<s1.heap.objs.size->H2 b=H1 b:=λb hb=>if_pos hb
 have H2l:H2 g.objs.size=some (.lst (ts.map V.ref)):=(if_neg gS).trans (if_pos rfl)
 have H2t:∀(i:Nat) (t:Addr) (x y:V),ts[i]?=some t->xs[i]?=some x->ys[i]?=some y->H2 t=some (.tup [x,y]):=λi t x y h1 h2 h3=>by
  have hlt:=(told h1 h2 h3).1
  have hn1:¬ t<s1.heap.objs.size:=λz=>absurd (lt_trans hlt z) gS
  have hn2:t≠g.objs.size:=ne_of_gt hlt
  show (if t<s1.heap.objs.size then H1 t else if t=g.objs.size then some (.lst (ts.map V.ref)) else jf ts xs ys t)=_
  rw [if_neg hn1,if_neg hn2,jf,f_M tnd h1 (v:=(x,y,)) (by rw [getElem?_zip_eq_some];exact (h2,h3))]
  rfl
 have keepAll:∀b o,s1.heap.get? b=some o->h'.get? b=some o:=λb o e=>kp b o (offl b (lt_size e)) (gk b o e)
 refine (.ref g.objs.size,H2,?_,rfl,q g.objs.size ts H2 tsl tnd (I1.hok.fresh (by lia)) (λb o e=>by rw [H2old b (I1.hok.lt e)];exact e) H2l H2t)
 have J:=I1.many (H':=H2) (h':=h') (t':=tk) keepAll H2old λb o hb e=>?_
 .exact J
 .by_cases hbg:b=g.objs.size
  .subst hbg
   rw [H2l] at e
   cases e
   refine (by rw [qa4,tsl,sizeLine_eq];exact le_trans hmax (by decide),ts.map Value.ref,c,?_,?_)
   .clear hts tsl tsg tnd told hfull tgt H2 H2old H2l H2t
    induction ts with
    | nil=>exact .nil
    | cons t r ih=>exact .cons rfl ih
   .rw [<- hts]
    simpa using hS
  .have e':jf ts xs ys b=some o:=by
    have e:(if b<s1.heap.objs.size then H1 b else if b=g.objs.size then some (.lst (ts.map V.ref)) else jf ts xs ys b)=some o:=e
    rw [if_neg (not_lt.mpr hb),if_neg hbg] at e
    exact e
   unfold jf at e'
   cases hlk:(ts.zip (xs.zip ys)).lookup b with
   | none=>rw [hlk] at e';cases e'
   | some q2=>
    rw [hlk] at e'
    cases e'
    obtain ⟨i,hi⟩:=mem_iff_getElem?.mp (bJ hlk)
    rw [getElem?_zip_eq_some] at hi
    obtain ⟨h1,h2⟩:=hi
    rw [getElem?_zip_eq_some] at h2
    obtain ⟨_,u,v,ru,rv,pr⟩:=told h1 h2.1 h2.2
    exact (a_d (by show 2≤16777216;decide),[u,v],.cons ru (.cons rv .nil),(_,pr,rfl,0,rfl))
theorem eM {d:Sd} (a:d.has H xs) (b:d.has H ys):xs=ys:=by
 cases d with
 | tx x k=>exact (show xs=_ from a).trans (show ys=_ from b).symm
 | tp c=>
  have a:H c=_:=a
  have b:H c=_:=b
  rw [a] at b
  cases b
  rfl
 | ls c=>
  have a:H c=_:=a
  have b:H c=_:=b
  rw [a] at b
  cases b
  rfl
theorem h_B {g:TG} {tb:TS} {D:aK} (hl:xs.length=ys.length) (Pv:Nat->St->Hp->Prop) (h0:Pv 0 σ H) (hh:∀i σ H,Pv i σ H->d1.has H xs/\d2.has H ys)
  (hs:∀i x y p σ H,xs[i]?=some x->ys[i]?=some y->H p=none->Pv i σ H->g (.ref p) σ (upd H p (.tup [x,y])) λσ2 H2=>tb { D with nx:=Pv (i+1),ct:=Pv (i+1),bk:=D.nx } σ2 H2)
  (hd:∀ σ H,Pv xs.length σ H->D.nx σ H):
  ∃W:Nat->Nat->St->Hp->Prop,(∃m,W 0 m σ H)/\∀i m σ H,W i m σ H->
   ((Itg d1 d2).stop i H/\D.nx σ H)\/((Itg d1 d2).go i H/\∃N:St->Hp->Prop,(∀ σ' H',N σ' H'->∃m',m'<m/\W (i+1) m' σ' H')/\∀v H',(Itg d1 d2).yld i H v H'->g v σ H' λσ2 H2=>tb { D with nx:=N,ct:=N,bk:=D.nx } σ2 H2):=by
 refine (λi m σ H=>m=xs.length - i/\i≤xs.length/\Pv i σ H,(xs.length,by simp,zero_le _,h0),?_)
 rintro i m σ H ⟨rfl,hi,p⟩
 obtain ⟨h1,h2⟩:=hh i σ H p
 by_cases hlt:i<xs.length
 .refine .inr ((xs,ys,xs[i],ys[i]'(by lia),h1,h2,qa2 _,qa2 _),Pv (i+1),λσ' H' p'=>(xs.length - (i+1),by lia,rfl,hlt,p'),λv H' q=>?_)
  obtain ⟨a,xs',ys',x,y,e1,e2,e3,e4,rfl,e5,rfl⟩:=q
  have:=eM e1 h1
  have:=eM e2 h2
  subst xs' ys'
  exact hs i x y a σ H e3 e4 e5 p
 .have e:i=xs.length:=by lia
  subst e
  exact .inl ((xs,ys,h1,h2,hl,rfl),hd σ H p)
theorem cf (h:H gs=some (.tup xs)\/H gs=some (.lst xs)) (hR:∀d2:Sd,(∀H':Hp,H' gs=H gs->d2.has H' xs)->R (.tx x) d2):p9 H (.str x) (.ref gs) R:=by
 rcases h with h|h
 .exact .inl (x,gs,xs,rfl,rfl,h,hR (.tp gs) λH' e=>show H' gs=_ from e.trans h)
 .exact .inr (.inl (x,gs,xs,rfl,rfl,h,hR (.ls gs) λH' e=>show H' gs=_ from e.trans h))
structure nj (K:Frag) (x qual:Str) (st:Stmt) (f:Addr) (fd:FuncData):Prop where
 ex:∃(oc:Value) (od:Option Addr) (dV kV doc pm:Value) (an:Option Addr) (cdv ct:Value) (osl:Array (Option Value)),
  fd=fnOf x qual (a_C st) (a_s st) (a_c st) dV kV doc pm an cdv ct/\K.lookup f=some (oc,od,.func fd,osl)/\codeIn K cdv qual=true
 kp:keepIn K (.ref f)=true
theorem nj.ok {P:Program} {w:World} {K:Frag} {st:Stmt} (F:nj K x qual st f fd) (S:a_e N ps (a_c st)) (len:∀vs H Q E,sp vs H Q E->vs.length=ps.length)
  (hbody:∀(cdv:Value) (A:Around) (outer:List Env) (s:Shared) (H:Hp) (vs:List V) (Q:VK) (E:XK),ak k (A.deeper (envOfC qual (a_c st) s.heap.objs.size f cdv))->sp vs H Q E->
   ∃t,PSs (dh CX0 P w K mg base N qual (a_c st) f cdv A outer s H E).nox (a_s st) t/\t { nx:=λ_ H'=>Q .non H',rt:=Q } (start N vs) H):aa P w K mg base CX0 (k+1) f fd ps sp:=by
 obtain ⟨oc,od,dV,kV,doc,pm,an,cdv,ct,osl,rfl,lk,hcd⟩:=F.ex
 refine lG lk hcd S len λA outer s H vs Q E hr hsp=>?_
 obtain ⟨t,h,q⟩:=hbody cdv A outer s H vs Q E hr hsp
 exact (t,h.nox,q)
theorem mX {P:Program} {w:World} {K:Frag} {mg:Str->Option Value} {base:Heap} {st:Stmt} {oc dV kV doc pm ct:Value}
  (lk:K.lookup f=some (oc,od,.func (fnOf x qual (a_C st) (a_s st) (a_c st) dV kV doc pm an (.ref c) ct),osl)) (hcd:codeIn K (.ref c) qual=true) (S:a_e N ps (a_c st)) (len:∀vs H Q E,sp vs H Q E->vs.length=ps.length)
  (hbody:∀(A:Around) (outer:List Env) (s:Shared) (H:Hp) (vs:List V) (Q:VK) (E:XK),ak k (A.deeper (envOfC qual (a_c st) s.heap.objs.size f (.ref c)))->sp vs H Q E->
   ∃t,PSs (dh CX0 P w K mg base N qual (a_c st) f (.ref c) A outer s H E) (a_s st) t/\t { nx:=λ_ H'=>Q .non H',rt:=Q } (start N vs) H):
  aa P w K mg base CX0 (k+1) f (fnOf x qual (a_C st) (a_s st) (a_c st) dV kV doc pm an (.ref c) ct) ps sp:=lG lk hcd S len hbody
end L2
namespace RA
open PySem L2
structure aX (H:Hp) (cW wk:Addr) (L:LN) (t wd y m:Addr):Prop where
 ex:∃dx,H wk=some (.ins cW dx [("letters",.str (tx L),),("things",.ref t,),("words",.ref wd,),("ways",.ref y,),("marks",.ref m,)])
def wordsV (ws:LL):List V:=ws.map λw=>V.str (tx w)
def b_e (ti:TK) (H:Hp) (ks:LL) (vs:List V):Prop:=vs.length=ks.length/\∀(i:Nat) (k:LN) (v:V),ks[i]?=some k->vs[i]?=some v->ThV ti H k v
theorem b_e.same (h:b_e ti H ks vs) (s:∀b xs,H b=some (.tup xs)->H' b=some (.tup xs)):b_e ti H' ks vs:=(h.1,λi k v a b=>(h.2 i k v a b).same s)
theorem b_e.snoc (h:b_e ti H ks vs) (hv:ThV ti H k v):b_e ti H (ks++[k]) (vs++[v]):=by
 refine (by rw [qa5,qa5,h.1];rfl,λi k' v' a b=>?_)
 by_cases hi:i<ks.length
 .rw [getElem?_append_left hi] at a
  rw [getElem?_append_left (by rw [h.1];exact hi)] at b
  exact h.2 i k' v' a b
 .rw [getElem?_append_right (le_of_not_lt hi)] at a
  rw [getElem?_append_right (by rw [h.1];exact le_of_not_lt hi),h.1] at b
  have hz:i - ks.length=0:=by
   have:=(qa1 a).1
   simp at this
   omega
  rw [hz] at a b
  cases a
  cases b
  exact hv
def iJ (H:Hp) (rows:List Addr) (R:LL):Prop:=rows.length=R.length/\∀(i:Nat) (a:Addr) (r:LN),rows[i]?=some a->R[i]?=some r->H a=some (.lst (intsV r))
structure e_r (g:LN->Nat->LN) (nL:Nat) (ks:LL) (R:LL):Prop where
 row:∀(r:Nat) (row:LN) (k:LN),R[r]?=some row->ks[r]?=some k->row.length=nL/\∀(q x:Nat),row[q]?=some x->ks[x]?=some (g k q)
def gZ (ti:TK) (L:LN) (g:LN->Nat->LN) (U:LL) (Rest:Hp->Prop):Sp:=λvs H Q _=>∃k v,vs=[v]/\ThV ti H k v/\k∈U/\Rest H/\
 ∀gs xs H',Same H H'->(H' gs=some (.tup xs)\/(H gs=none/\H' gs=some (.lst xs)))->xs.length=L.length->(∀(q:Nat) (x:V),xs[q]?=some x->ThV ti H' (g k q) x)->Q (.ref gs) H'
def j8 (ti:TK) (mk:LN->Bool) (U:LL) (Rest:Hp->Prop):Sp:=λvs H Q _=>∃k v,vs=[v]/\ThV ti H k v/\k∈U/\Rest H/\Q (.bl (mk k)) H
def aP:Option Nat->V
 | none=>.non
 | some n=>.int (n:Int)
def j7 (cW:Addr):Sp:=λvs H Q _=>∃x dx L v,vs=[.ref x,.str (tx L),v]/\H x=some (.ins cW dx [])/\
 ∀t wd y m H',t≠wd->t≠y->t≠m->wd≠y->wd≠m->y≠m->H t=none->H wd=none->H y=none->H m=none->(∀b o,b≠x->H b=some o->H' b=some o)->aX H' cW x L t wd y m->H' t=some (.lst [v])->H' wd=some (.lst [.str (tx [])])->H' y=some (.lst [])->H' m=some (.lst [])->Q .non H'
def br (cW:Addr) (ti:TK) (L:LN) (g:LN->Nat->LN) (mk:LN->Bool) (U:LL) (Rest:Hp->Prop) (fg fm:Addr):Sp:=λvs H Q _=>∃(s:LN) (sv:V) (most:Option Nat),vs=[.str (tx L),sv,.ref fg,.ref fm,aP most]/\Let L/\ThV ti H s sv/\s∈U/\(∀k∈U,∀q,q<L.length->g k q∈U)/\U.length≤100000/\Rest H/\
 ∀(wk t wd y m:Addr) (ks:LL) (vks:List V) (ws:LL) (rows:List Addr) (R:LL) (B:List Bool) (H':Hp),Same H H'->aX H' cW wk L t wd y m->H' t=some (.lst vks)->b_e ti H' ks vks->H' wd=some (.lst (wordsV ws))->H' y=some (.lst (rows.map V.ref))->iJ H' rows R->H' m=some (.lst (B.map V.bl))->
  Bf g L s ks ws R.length 0->e_r g L.length ks R->B.length=R.length->(∀(r:Nat) (k:LN) (b:Bool),ks[r]?=some k->B[r]?=some b->b=mk k)->(∀k∈ks,k∈U)->ks.length≤U.length->(R.length=ks.length\/∃n,most=some n/\n<ks.length)->Q (.ref wk) H'
theorem b_Z (h:n≤100000):n<sizeLine:=by rw [sizeLine_eq];exact lt_of_le_of_lt h (by decide)
theorem pV {A B:Prop} (h:A):if (!decide (V.int n=V.non))=true then A else B:=by
 rw [decide_eq_false (λz=>by cases z)]
 exact aj h
structure WI (P:Program) (w:World) (H0 H:Hp) (cW:Addr) (ti:TK) (L:LN) (wk t wd y m d:Addr) (ks:LL) (vks:List V) (ws:LL) (rows:List Addr) (R:LL) (B:List Bool):Prop where
 sm:Same H0 H
 obj:aX H cW wk L t wd y m
 ht:H t=some (.lst vks)
 th:b_e ti H ks vks
 hw:H wd=some (.lst (wordsV ws))
 hy:H y=some (.lst (rows.map V.ref))
 wr:iJ H rows R
 hm:H m=some (.lst (B.map V.bl))
 rm:RmAt P w H d ti ks
 n1:H0 t=none
 n2:H0 wd=none
 n3:H0 y=none
 n4:H0 m=none
 n5:H0 d=none
 d1:t≠wd
 d2:t≠y
 d3:t≠m
 d4:wd≠y
 d5:wd≠m
 d6:y≠m
 e1:d≠t
 e2:d≠wd
 e3:d≠y
 e4:d≠m
 e5:d≠wk
 nr:∀a∈rows,a≠t/\a≠wd/\a≠y/\a≠m/\a≠d
section
variable {P:Program} {w:World} {H0 H:Hp} {cW:Addr} {ti:TK} {L:LN} {wk t wd y m d:Addr} {ks:LL} {vks:List V} {ws:LL} {rows:List Addr} {R:LL} {B:List Bool}
theorem WI.any (h:WI P w H0 H cW ti L wk t wd y m d ks vks ws rows R B) (s:Same H H'):WI P w H0 H' cW ti L wk t wd y m d ks vks ws rows R B:=
 { h with
  sm:=h.sm.trans s
  obj:=let ⟨dx,e⟩:=h.obj.ex;(dx,s _ _ e)
  ht:=s _ _ h.ht
  th:=h.th.same λb xs e=>s _ _ e
  hw:=s _ _ h.hw
  hy:=s _ _ h.hy
  wr:=(h.wr.1,λi a r h1 h2=>s _ _ (h.wr.2 i a r h1 h2))
  hm:=s _ _ h.hm
  rm:=h.rm.same λb o e _=>s _ _ e }
theorem WI.beside (h:WI P w H0 H cW ti L wk t wd y m d ks vks ws rows R B) (ha:H a=some (.lst xs)) (h0:H0 a=none) (a1:a≠t) (a2:a≠wd) (a3:a≠y) (a4:a≠m) (a5:a≠d) (a6:a∉rows):WI P w H0 (upd H a o) cW ti L wk t wd y m d ks vks ws rows R B:=by
 have kp:∀{b:Addr} {u:HO},H b=some u->b≠a->upd H a o b=some u:=λe hb=>by rw [upd_ne hb];exact e
 have ktup:∀b zs,H b=some (.tup zs)->upd H a o b=some (.tup zs):=λb zs e=>kp e (ne_of e ha (by intro z;cases z))
 exact { h with
  sm:=Same.set h.sm h0
  obj:=let ⟨dx,e⟩:=h.obj.ex;(dx,kp e (ne_of e ha (by intro z;cases z)))
  ht:=kp h.ht (Ne.symm a1)
  th:=h.th.same ktup
  hw:=kp h.hw (Ne.symm a2)
  hy:=kp h.hy (Ne.symm a3)
  wr:=(h.wr.1,λi b r h1 h2=>kp (h.wr.2 i b r h1 h2) λz=>a6 (by rw [<- z];exact qb2 h1))
  hm:=kp h.hm (Ne.symm a4)
  rm:=h.rm.same λb u e hb=>by
   rcases hb with rfl|⟨zs,rfl⟩
   .exact kp e (Ne.symm a5)
   .exact ktup b zs e }
theorem WI.new (h:WI P w H0 H cW ti L wk t wd y m d ks vks ws rows R B) (hv:ThV ti H k v) (hr:RmAt P w (upd H d ob) d ti (ks++[k])):
  WI P w H0 (upd (upd (upd H d ob) t (.lst (vks++[v]))) wd (.lst (wordsV ws++[.str (tx a)]))) cW ti L wk t wd y m d (ks++[k]) (vks++[v]) (ws++[a]) rows R B:=by
 have hd:∃ φ,H d=some (.ext φ):=by
  have hr0:=h.rm
  unfold RmAt at hr0
  by_cases c:ti=.i
  .rw [if_pos c] at hr0;exact (_,hr0.1)
  .rw [if_neg c] at hr0;obtain ⟨kvs,e,_⟩:=hr0;exact (_,e)
 obtain ⟨φ,hd⟩:=hd
 have kp:∀{b:Addr} {u:HO},H b=some u->b≠d->b≠t->b≠wd->upd (upd (upd H d ob) t (.lst (vks++[v]))) wd (.lst (wordsV ws++[.str (tx a)])) b=some u:=λe h1 h2 h3=>by rw [upd_ne h3,upd_ne h2,upd_ne h1];exact e
 have ktup:∀b zs,H b=some (.tup zs)->upd (upd (upd H d ob) t (.lst (vks++[v]))) wd (.lst (wordsV ws++[.str (tx a)])) b=some (.tup zs):=λb zs e=>kp e (ne_of e hd (by intro z;cases z)) (ne_of e h.ht (by intro z;cases z)) (ne_of e h.hw (by intro z;cases z))
 have e0:=h.obj.ex
 obtain ⟨dx,ew⟩:=e0
 exact { h with
  sm:=Same.set (Same.set (Same.set h.sm h.n5) h.n1) h.n2
  obj:=(dx,kp ew (Ne.symm h.e5) (ne_of ew h.ht (by intro z;cases z)) (ne_of ew h.hw (by intro z;cases z)))
  ht:=by rw [upd_ne h.d1,upd_same]
  th:=(h.th.same ktup).snoc (hv.same ktup)
  hw:=by rw [upd_same,wordsV,wordsV,map_append];rfl
  hy:=kp h.hy (Ne.symm h.e3) (Ne.symm h.d2) (Ne.symm h.d4)
  wr:=(h.wr.1,λi b r h1 h2=>kp (h.wr.2 i b r h1 h2) (h.nr b (qb2 h1)).2.2.2.2 (h.nr b (qb2 h1)).1 (h.nr b (qb2 h1)).2.1)
  hm:=kp h.hm (Ne.symm h.e4) (Ne.symm h.d3) (Ne.symm h.d5)
  rm:=hr.same λb u e hb=>by
   rcases hb with rfl|⟨zs,rfl⟩
   .rw [upd_ne h.e2,upd_ne h.e1]
    exact e
   .have hbd:b≠d:=λz=>by
     rw [z,upd_same] at e
     have hr1:=hr
     unfold RmAt at hr1
     by_cases c:ti=.i
     .rw [if_pos c,upd_same] at hr1;rw [e] at hr1;cases hr1.1
     .rw [if_neg c] at hr1;obtain ⟨kvs,e2,_⟩:=hr1;rw [upd_same,e] at e2;cases e2
    rw [upd_ne hbd] at e
    exact ktup b zs e }
theorem WI.row (h:WI P w H0 H cW ti L wk t wd y m d ks vks ws rows R B) (ha:H a=some (.lst (intsV r))) (a1:a≠t) (a2:a≠wd) (a3:a≠y) (a4:a≠m) (a5:a≠d):
  WI P w H0 (upd H y (.lst (rows.map V.ref++[.ref a]))) cW ti L wk t wd y m d ks vks ws (rows++[a]) (R++[r]) B:=by
 have kp:∀{b:Addr} {u:HO},H b=some u->b≠y->upd H y (.lst (rows.map V.ref++[.ref a])) b=some u:=λe hb=>by rw [upd_ne hb];exact e
 have ktup:∀b zs,H b=some (.tup zs)->upd H y (.lst (rows.map V.ref++[.ref a])) b=some (.tup zs):=λb zs e=>kp e (ne_of e h.hy (by intro z;cases z))
 have e0:=h.obj.ex
 obtain ⟨dx,ew⟩:=e0
 exact { h with
  sm:=Same.set h.sm h.n3
  obj:=(dx,kp ew (ne_of ew h.hy (by intro z;cases z)))
  ht:=kp h.ht h.d2
  th:=h.th.same ktup
  hw:=kp h.hw h.d4
  hy:=by rw [upd_same,map_append];rfl
  wr:=by
   refine (by rw [qa5,qa5,h.wr.1];rfl,λi b r' h1 h2=>?_)
   by_cases hi:i<rows.length
   .rw [getElem?_append_left hi] at h1
    rw [getElem?_append_left (by rw [<- h.wr.1];exact hi)] at h2
    exact kp (h.wr.2 i b r' h1 h2) (h.nr b (qb2 h1)).2.2.1
   .rw [getElem?_append_right (le_of_not_lt hi)] at h1
    rw [getElem?_append_right (by rw [<- h.wr.1];exact le_of_not_lt hi),<- h.wr.1] at h2
    have hz:i - rows.length=0:=by
     have:=(qa1 h1).1
     simp at this
     omega
    rw [hz] at h1 h2
    cases h1
    cases h2
    exact kp ha a3
  hm:=kp h.hm (Ne.symm h.d6)
  rm:=h.rm.same λb u e hb=>by
   rcases hb with rfl|⟨zs,rfl⟩
   .exact kp e h.e3
   .exact ktup b zs e
  nr:=λb hb=>by
   rcases mem_append.mp hb with z|z
   .exact h.nr b z
   .rw [qb1 z]
    exact (a1,a2,a3,a4,a5) }
theorem WI.mark (h:WI P w H0 H cW ti L wk t wd y m d ks vks ws rows R B):WI P w H0 (upd H m (.lst (B.map V.bl++[.bl b]))) cW ti L wk t wd y m d ks vks ws rows R (B++[b]):=by
 have kp:∀{c:Addr} {u:HO},H c=some u->c≠m->upd H m (.lst (B.map V.bl++[.bl b])) c=some u:=λe hb=>by rw [upd_ne hb];exact e
 have ktup:∀c zs,H c=some (.tup zs)->upd H m (.lst (B.map V.bl++[.bl b])) c=some (.tup zs):=λc zs e=>kp e (ne_of e h.hm (by intro z;cases z))
 have e0:=h.obj.ex
 obtain ⟨dx,ew⟩:=e0
 exact { h with
  sm:=Same.set h.sm h.n4
  obj:=(dx,kp ew (ne_of ew h.hm (by intro z;cases z)))
  ht:=kp h.ht h.d3
  th:=h.th.same ktup
  hw:=kp h.hw h.d5
  hy:=kp h.hy h.d6
  wr:=(h.wr.1,λi c r h1 h2=>kp (h.wr.2 i c r h1 h2) (h.nr c (qb2 h1)).2.2.2.1)
  hm:=by rw [upd_same,map_append];rfl
  rm:=h.rm.same λc u e hb=>by
   rcases hb with rfl|⟨zs,rfl⟩
   .exact kp e h.e4
   .exact ktup c zs e }
end
theorem a_J (l:LN) (x:Nat):intsV (l++[x])=intsV l++[V.int (x:Int)]:=by simp [intsV]
theorem d_V {α:Type} {l:List α} {x y:α} {i:Nat} (h:l[i]?=some y):(l++[x])[i]?=some y:=by
 rw [getElem?_append_left (qa1 h).1]
 exact h
theorem f_S {α:Type} {l:List α} {x y:α} (hi:i<l.length) (h:(l++[x])[i]?=some y):l[i]?=some y:=by
 rw [getElem?_append_left hi] at h
 exact h
theorem b_V {α:Type} {l:List α} {x y:α} (e:(l++[x])[i]?=some y):l[i]?=some y\/(i=l.length/\y=x):=by
 by_cases hi:i<l.length
 .rw [getElem?_append_left hi] at e
  exact .inl e
 .rw [getElem?_append_right (by lia)] at e
  have:i - l.length=0:=by
   have:=(qa1 e).1
   simp at this
   omega
  rw [this] at e
  exact .inr (by lia,(Option.some.inj e).symm)
theorem aS (h:k∈ts):ixO ts k=some (ts.idxOf k)/\ts[ts.idxOf k]?=some k:=(if_pos h,by rw [qa2 (idxOf_lt_length_of_mem h),getElem_idxOf])
structure WPu (g:LN->Nat->LN) (L s0:LN) (mk:LN->Bool) (U ks ws R:LL) (B:List Bool) (q:Nat):Prop where
 bf:Bf g L s0 ks ws R.length q
 le:R.length≤ks.length
 ways:e_r g L.length ks R
 bl:B.length=R.length
 mks:∀(r:Nat) (k:LN) (b:Bool),ks[r]?=some k->B[r]?=some b->b=mk k
 sub:∀k∈ks,k∈U
 left:leftOf U ks+ks.length≤U.length
 wl:∀a∈ws,a.length≤ks.length
def e_W (g:LN->Nat->LN) (ks:LL) (n:Nat) (r:LN) (q:Nat):Prop:=r.length=q/\∀(q' x:Nat) (k:LN),ks[n]?=some k->r[q']?=some x->ks[x]?=some (g k q')
section
variable {g:LN->Nat->LN} {L s0:LN} {mk:LN->Bool} {U ks ws R:LL} {B:List Bool} {q n:Nat} {r a k0:LN}
theorem WPu.start (hs:s0∈U):WPu g L s0 mk U [s0] [[]] [] [] 0 where
 bf:=Bf.start g L s0
 le:=zero_le _
 ways:=⟨λr row k h=>by simp at h⟩
 bl:=rfl
 mks:=λr k b _ h=>by simp at h
 sub:=λk hk=>by rw [qb1 hk];exact hs
 left:=by
  have h1:=bM (U:=U) (ts:=[]) hs (by simp)
  have h2:leftOf U ([]:LL)≤U.length:=List.countP_le_length
  simp at h1 ⊢
  lia
 wl:=λa ha=>by rw [qb1 ha];exact zero_le _
theorem WPu.old (h:WPu g L s0 mk U ks ws R B q) (nd:L.Nodup) (hk:ks[R.length]?=some k0) (ha:ws[R.length]?=some a) (hq:q<L.length) (hm:g k0 q∈ks):WPu g L s0 mk U ks ws R B (q+1):=
 { h with bf:=h.bf.old nd hk ha hq hm }
theorem WPu.new (h:WPu g L s0 mk U ks ws R B q) (nd:L.Nodup) (hk:ks[R.length]?=some k0) (ha:ws[R.length]?=some a) (hq:q<L.length) (hm:g k0 q∉ks) (hU:g k0 q∈U):WPu g L s0 mk U (ks++[g k0 q]) (ws++[a++[L.getD q 0]]) R B (q+1) where
 bf:=h.bf.new nd hk ha hq hm
 le:=by rw [qa5];exact le_trans h.le (le_add_right _ _)
 ways:=⟨λr row k h1 h2=>by
  have hr:r<ks.length:=lt_of_lt_of_le (qa1 h1).1 h.le
  obtain ⟨e1,e2⟩:=h.ways.row r row k h1 (f_S hr h2)
  exact (e1,λq x hx=>d_V (e2 q x hx))⟩
 bl:=h.bl
 mks:=λr k b h1 h2=>h.mks r k b (f_S (lt_of_lt_of_le (by rw [<- h.bl];exact (qa1 h2).1) h.le) h1) h2
 sub:=λk hk=>by
  rcases mem_append.mp hk with z|z
  .exact h.sub k z
  .rw [qb1 z];exact hU
 left:=by
  have h1:=bM (U:=U) (ts:=ks) hU hm
  have h2:=h.left
  rw [qa5]
  show leftOf U (ks++[g k0 q])+(ks.length+1)≤U.length
  lia
 wl:=λb hb=>by
  rw [qa5]
  rcases mem_append.mp hb with z|z
  .exact le_trans (h.wl b z) (le_add_right _ _)
  .rw [qb1 z,qa5]
   exact Nat.add_le_add_right (h.wl a (qb2 ha)) 1
theorem WPu.next (h:WPu g L s0 mk U ks ws R B L.length) (hk:ks[R.length]?=some k0) (hr:e_W g ks R.length r L.length):WPu g L s0 mk U ks ws (R++[r]) (B++[mk k0]) 0 where
 bf:=by rw [qa5];exact h.bf.next
 le:=by rw [qa5];exact (qa1 hk).1
 ways:=⟨λi row k h1 h2=>by
  rcases b_V h1 with z|⟨rfl,rfl⟩
  .exact h.ways.row i row k z h2
  .exact (hr.1,λq x hx=>hr.2 q x k h2 hx)⟩
 bl:=by rw [qa5,qa5,h.bl];rfl
 mks:=λi k b h1 h2=>by
  rcases b_V h2 with z|⟨rfl,rfl⟩
  .exact h.mks i k b h1 z
  .rw [h.bl,hk] at h1
   cases h1
   rfl
 sub:=h.sub
 left:=h.left
 wl:=h.wl
theorem e_W.nil:e_W g ks n [] 0:=(rfl,λq x k _ h=>by simp at h)
theorem e_W.grow (h:e_W g ks n r q) (hn:n<ks.length):e_W g (ks++[x]) n r q:=(h.1,λq' y k h1 h2=>d_V (h.2 q' y k (f_S hn h1) h2))
theorem e_W.snoc (h:e_W g ks n r q) (hk:ks[n]?=some k0) (hm:g k0 q∈ks):e_W g ks n (r++[ks.idxOf (g k0 q)]) (q+1):=by
 refine (by rw [qa5,h.1];rfl,λq' x k h1 h2=>?_)
 rcases b_V h2 with z|⟨rfl,rfl⟩
 .exact h.2 q' x k h1 z
 .rw [hk] at h1
  cases h1
  rw [h.1]
  exact (aS hm).2
end
def gW (W:LL) (k:LN) (q:Nat):LN:=[(W.getD (k.headD 0) []).getD q 0]
def uW (W:LL):LL:=(List.range W.length).map λn=>[n]
def mkW (B:List Bool) (k:LN):Bool:=B.getD (k.headD 0) false
theorem fD:[n]∈uW W↔n<W.length:=by
 unfold uW
 rw [mem_map]
 constructor
 .rintro ⟨m,hm,e⟩
  injection e with e
  rw [<- e]
  exact mem_range.mp hm
 .exact λh=>(n,mem_range.mpr h,rfl)
theorem jU (W:LL):(uW W).length=W.length:=by rw [uW,qa4,length_range]
theorem ci (h:k∈uW W):∃n,k=[n]/\n<W.length:=by
 unfold uW at h
 obtain ⟨n,hn,e⟩:=mem_map.mp h
 exact (n,e.symm,mem_range.mp hn)
theorem o7 (hM:Mach L W B):∀k∈uW W,∀q,q<L.length->gW W k q∈uW W:=λk hk q hq=>by
 obtain ⟨n,rfl,hn⟩:=ci hk
 refine fD.mpr ?_
 show (W.getD n []).getD q 0<W.length
 have e:W.getD n []=W[n]:=by rw [qa3,qa2 hn];rfl
 rw [e]
 obtain ⟨h1,h2⟩:=hM.row W[n] (getElem_mem hn)
 have e2:W[n].getD q 0=W[n][q]'(by rw [h1];exact hq):=by rw [qa3,qa2 (by rw [h1];exact hq)];rfl
 rw [e2]
 exact h2 _ (getElem_mem _)
theorem d_s (r:Nat):∀(m:Nat) (w:LN),w.length=m->iY (gW W) L [r] w=[run L W r w]:=by
 intro m
 induction m with
 | zero=>
  intro w hw
  rw [length_eq_zero_iff.mp hw]
  rfl
 | succ m ih=>
  intro w hw
  obtain ⟨c,v,rfl⟩:∃c v,w=v++[c]:=(w.getLast (by intro z;rw [z] at hw;cases hw),w.dropLast,(dropLast_concat_getLast _).symm)
  rw [f_s,ih v (by simpa using hw),c_Q]
  rfl
theorem a_o.tups (h:a_o H m L W B) (s:∀b xs,H b=some (.tup xs)->H' b=some (.tup xs)):a_o H' m L W B:=by
 obtain ⟨wy,mk,rows,h1,h2,h3,h4,h5⟩:=h
 exact (wy,mk,rows,s _ _ h1,s _ _ h2,s _ _ h3,h4,λi r e=>let ⟨ws,a,b⟩:=h5 i r e;(ws,a,s _ _ b))
theorem b_C (s:c_k P0 H H') (hT:b_B H P0 sites):∀b xs,H b=some (.tup xs)->H' b=some (.tup xs):=λb xs e=>s b _ (λz=>by
 obtain ⟨ps,hP,_⟩:=hT
 rw [z,hP] at e
 cases e) e
theorem b_P (a:c_k P0 H H1) (b:c_k P0 H1 H2):c_k P0 H H2:=λc o hc e=>b c o hc (a c o hc e)
theorem dP (s:Same H H'):c_k P0 H H':=λb o _ e=>s b o e
def e_Y (cW P0:Addr) (sites:List (Pos×Str)):Sp:=λvs H Q _=>∃(m:Addr) (L:LN) (W:LL) (B:List Bool),vs=[.ref m]/\a_o H m L W B/\Mach L W B/\b_B H P0 sites/\
 ∀(wk t wd y md:Addr) (ks:LL) (vks:List V) (ws:LL) (rows:List Addr) (R:LL) (Bm:List Bool) (H':Hp),c_k P0 H H'->b_B H' P0 sites->aX H' cW wk L t wd y md->H' t=some (.lst vks)->b_e .i H' ks vks->H' wd=some (.lst (wordsV ws))->H' y=some (.lst (rows.map V.ref))->iJ H' rows R->H' md=some (.lst (Bm.map V.bl))->
  Bf (gW W) L [0] ks ws ks.length 0->e_r (gW W) L.length ks R->R.length=ks.length->Bm.length=R.length->(∀(r:Nat) (k:LN) (b:Bool),ks[r]?=some k->Bm[r]?=some b->b=mkW B k)->(∀k∈ks,k∈uW W)->ks.length≤W.length->Q (.ref wk) H'
structure oZ (H:Hp) (l:Addr) (rs:LN) (ws:LL):Prop where
 ex:∃ts:List Addr,H l=some (.lst (ts.map V.ref))/\ts.length=rs.length/\ws.length=rs.length/\∀(i:Nat) (t:Addr) (r:Nat) (w:LN),ts[i]?=some t->rs[i]?=some r->ws[i]?=some w->H t=some (.tup [.int (r:Int),.str (tx w)])
def gY (P0:Addr) (sites:List (Pos×Str)):Sp:=λvs H Q _=>∃(m:Addr) (L:LN) (W:LL) (B:List Bool),vs=[.ref m]/\a_o H m L W B/\Mach L W B/\b_B H P0 sites/\
 ∀(l:Addr) (rs:LN) (ws:LL) (H':Hp),c_k P0 H H'->b_B H' P0 sites->H l=none->oZ H' l rs ws->Bf (gW W) L [0] (rs.map λn=>[n]) ws rs.length 0->(∀r∈rs,r<W.length)->rs.length≤W.length->Q (.ref l) H'
end RA
namespace L2
open PySem PySem.Spec PyProof.Rows
section
variable {X:Cx}
end
end L2
namespace RA
open PySem L2
theorem oZ.at (h:oZ H l rs ws):∃xs:List V,H l=some (.lst xs)/\xs.length=rs.length/\ws.length=rs.length/\∀(i:Nat) (x:V),xs[i]?=some x->∃(t:Addr) (r:Nat) (w:LN),x=.ref t/\rs[i]?=some r/\ws[i]?=some w/\H t=some (.tup [.int (r:Int),.str (tx w)]):=by
 obtain ⟨ts,h1,h2,h3,h4⟩:=h.ex
 refine (_,h1,by rw [qa4,h2],h3,λi x e=>?_)
 rw [qa6] at e
 obtain ⟨t,ht,rfl⟩:=qb3 e
 have hi:i<rs.length:=by rw [<- h2];exact (qa1 ht).1
 exact (t,rs[i],ws[i]'(by lia),rfl,qa2 _,qa2 _,h4 i t _ _ ht (qa2 _) (qa2 _))
theorem ij:∀{l:LN},(l.map λn=>[n]).Nodup->l.Nodup
 | [],_=>List.nodup_nil
 | x::l,h=>by
  rw [map_cons,nodup_cons] at h
  rw [nodup_cons]
  exact (λhm=>h.1 (mem_map.mpr (x,hm,rfl)),ij h.2)
theorem dE:TriplesOk (#[]:Array Value).toList:=trivial
theorem b_n (h:b_B H P0 sites) (s:Same H H'):b_B H' P0 sites:=by
 obtain ⟨ps,hP,h2,h3⟩:=h
 exact (ps,s _ _ hP,h2,λx hx=>(h3 x hx).imp id λhZ2=>by obtain ⟨c',e1,e2⟩:=hZ2;exact (c',e1,s _ _ e2))
theorem pD (s:c_k P0 H H') (hT:b_B H P0 sites) (h:SqL K H a xs):SqL K H' a xs:=by
 obtain ⟨ps,hP,_⟩:=hT
 rcases h with (h|⟨o,h⟩)|h
 .exact .inl (.inl (s _ _ (λz=>by rw [z,hP] at h;cases h) h))
 .exact .inl (.inr (o,s _ _ (λz=>by rw [z,hP] at h;cases h) h))
 .exact .inr h
theorem lX {κ:Type} [DecidableEq κ] {g:κ->Nat->κ} {L:LN} {s:κ} {ts:List κ} {ws:LL} {n k:Nat} (bf:Bf g L s ts ws n k):∀(m j:Nat) (b:LN),j<m->ws[j]?=some b->b.length≤j:=by
 intro m
 induction m with
 | zero=>exact λj b h=>absurd h (not_lt_zero j)
 | succ m ih=>
  intro j b hj e
  rcases bf.par j b e with rfl|⟨p,q,a,h1,h2,h3,_⟩
  .exact zero_le _
  have hl:a.length<b.length:=by rw [h3,qa5];exact lt_succ_self _
  have hp:p<j:=by
   rcases lt_trichotomy p j with z|z|z
   .exact z
   .rw [z,e] at h1
    cases h1
    lia
   .have e1:=bf.srt j p b a z e h1
    have:=g_J e1
    lia
  have:=ih p a (by lia) h1
  rw [h3,qa5]
  show a.length+1≤j
  lia
theorem fj {κ:Type} [DecidableEq κ] {g:κ->Nat->κ} {L:LN} {s:κ} {ts:List κ} {ws:LL} {n k N:Nat} (bf:Bf g L s ts ws n k) (hN:ws.length≤N) (i:Nat) (w:LN) (e:ws[i]?=some w):w.length≤N:=by
 have h1:=lX bf (i+1) i w (lt_succ_self i) e
 have h2:=(qa1 e).1
 lia
end RA
namespace L2
open PySem PySem.Spec PyProof.Rows
def ni (a:Addr):It:=⟨λi H=>∃xs x,H a=some (.lst xs)/\xs[i]?=some x,λi H v H'=>∃p x xs,H a=some (.lst xs)/\xs[i]?=some x/\v=.ref p/\H p=none/\H'=upd H p (.tup [.int (i:Int),x]),λi H=>∃xs,H a=some (.lst xs)/\i=xs.length⟩
theorem fH {K:Frag} (a e it:Addr) (hne:e≠it):aY P w K (.Tuple es kt pt) (ni a) [e,it] e (λi h=>(∃old,IsEnum h e it i old)/\h.IsListIter it a i)  where
 mem:=by simp
 obj:=λi h hZ0 c hc=>by
  obtain ⟨⟨old,he⟩,⟨o1,e1,_,d1⟩⟩:=hZ0
  simp only [mem_cons,not_mem_nil,or_false] at hc
  rcases hc with rfl|rfl
  .exact (_,he,λv q=>by cases q)
  .exact (o1,e1,λv q=>by rw [d1] at q;cases q)
 keep:=λi h h' hZ1 k=>by obtain ⟨⟨old,he⟩,⟨o1,e1,r1⟩⟩:=hZ1;exact ((old,k e (by simp) _ he),(o1,k it (by simp) _ e1,r1))
 item:=by
  rintro X hP hw hK hc i pins s σ H E I hf ⟨⟨old,he⟩,s1⟩ hg
  subst hP hw hK
  obtain ⟨xs,x,hq,hx⟩:=hg
  obtain ⟨its,rv,p,hz⟩:=I.list (SqL.of hq)
  obtain ⟨u,hu,ru⟩:=rv.get hx
  have p':s.heap.IsList a its.toArray:=p.isList
  have hlt:i<its.toArray.size:=by
   have:=(qa1 hu).1
   simpa using this
  have hat:a≠it:=by
   obtain ⟨o,e1,c1,_⟩:=p'
   obtain ⟨o2,e2,c2,_⟩:=s1
   rintro rfl
   rw [e1] at e2
   cases e2
   rw [c1] at c2
   exact absurd c2 (by decide)
  have hae:e≠a:=by
   obtain ⟨o,e1,c1,_⟩:=p'
   rintro rfl
   have he':s.heap.get? e=some _:=he
   rw [e1] at he'
   cases he'
   exact absurd (show Value.type "enumerate"=Value.type "list" from c1) (by decide)
  refine wpAny_pyNext_enum_itemD (Draws.list (prog:=X.prog) (w:=X.w) (A:=X.A.in1) (I.ok.hd hc) it a hat its.toArray) he (s1,p') hlt hne (by simp [hne,hae]) λv g tk pv ho st new hsz gk=>(_,rfl,?_)
  have ev:v=u:=by
   have:its.toArray[i]?=some v:=pv
   rw [getElem?_toArray,hu] at this
   exact (Option.some.inj this).symm
  subst ev
  refine wpAny_letOwnedTupleGo_enum (s:={ s with heap:=g,toks:=tk+1 }) ho λg' ge gs=>?_
  have up:∀b o,b≠e->g.get? b=some o->g'.get? b=some o:=λb o hb q=>(gs.2 b hb).trans q
  have ne:s.heap.objs.size≠e:=ne_of_gt (lt_size he)
  have tup:b_f X.prog X.w (upd H s.heap.objs.size (.tup [.int (i:Int),x])) g' s.heap.objs.size (.tup [.int (i:Int),x]):=
   (a_d (by show 2≤16777216;decide),[.int i tk,v],.cons (_,rfl) (.cons ru .nil),(_,up _ _ ne new,rfl,0,rfl))
  refine (.ref s.heap.objs.size,_,I.turnedNew (S:=[e,it]) (h':=g') (t':=tk+1) (λb o hb q=>up b o (λz=>hb (by simp [z])) (gk b o (λz=>hb (by simp [z])) (λz=>hb (by simp [z])) q)) hf tup,rfl,
   (_,x,xs,hq,hx,rfl,I.hok.fresh (le_refl _),rfl),((_,by rw [Int.natCast_succ];exact ge),st.1.at λo q=>up _ o (λz=>hne z.symm) q),λb hb=>?_)
  have lt:b<s.heap.objs.size:=by
   obtain ⟨o1,e1,_⟩:=s1
   simp only [mem_cons,not_mem_nil,or_false] at hb
   rcases hb with rfl|rfl
   .exact lt_size he
   .exact lt_size e1
  rw [upd_ne (ne_of_lt lt)]
  exact (hf b hb).1
 done:=by
  rintro X hP hw hK hc i pins s σ H E I hf ⟨⟨old,he⟩,s1⟩ hstop
  subst hP hw hK
  obtain ⟨xs,hq,rfl⟩:=hstop
  obtain ⟨its,rv,p,hz⟩:=I.list (SqL.of hq)
  have p':s.heap.IsList a its.toArray:=p.isList
  have hat:a≠it:=by
   obtain ⟨o,e1,c1,_⟩:=p'
   obtain ⟨o2,e2,c2,_⟩:=s1
   rintro rfl
   rw [e1] at e2
   cases e2
   rw [c1] at c2
   exact absurd c2 (by decide)
  have hsz:xs.length=its.toArray.size:=by rw [rv.length];simp
  refine wpAny_pyNext_enum_endD (Draws.list (prog:=X.prog) (w:=X.w) (A:=X.A.in1) (I.ok.hd hc) it a hat its.toArray) he (by rw [<- hsz];exact s1,p') λg gs=>(rfl,?_)
  exact I.turnedL (S:=[e,it]) (λb o hb q=>gs b o (λz=>hb (by simp [z])) q) hf
 self:=λ_ _ _ _ _ st h=>by
  obtain ⟨⟨old,he⟩,_⟩:=st
  exact wpAny_pyIter_enum he h
def lf (t:TA):TI:=λσ H R=>t σ H λvs H1=>∃a xs,vs=[.ref a]/\((H1 a=some (.tup xs)/\R (nh a) H1)\/(H1 a=some (.lst xs)/\R (ni a) H1))
theorem kq {es:List Expr} {kt:Nat} {pt:Pos} {p pos:Pos} (hg:Gl X "enumerate") (hm:X.mg "enumerate"=none) (ha:PA X [a] ta) (hs:starEach [a] X.env=(false,eval a X.env,)::starEach [] X.env:=by rfl)
  (hpl:(backTo pos (starEach [] X.env)).any (·.1)=false:=by rfl):PI X (.Tuple es kt pt) (.Call (.Name "enumerate" p) [a] [] pos) (lf ta):=by
 intro pins s σ H R I h
 refine wpAny_Call_Name_kw (ld_blt I hg hm PyProof.Rows.boot_enumerate (PyProof.Rows.callWith_type1 (thn (ha pos pins s σ H _ I h) λus s1 z=>?_) hs hpl))
 obtain ⟨vs,H1,I1,r1,b,xs,rfl,z⟩:=z
 obtain ⟨u1,rfl,r2⟩:=d_C r1
 cases r2
 have fp:∀c∈[s1.heap.objs.size+1,s1.heap.objs.size],aG X pins H1 c:=λc hc=>by
  have hge:s1.heap.objs.size≤c:=by
   simp only [mem_cons,not_mem_nil,or_false] at hc
   rcases hc with rfl|rfl
   .exact le_add_right _ _
   .exact le_refl _
  exact I1.fpOk hge (I1.hok.fresh hge)
 rcases z with ⟨hq,q⟩|⟨hq,q⟩
 .obtain ⟨its,rv,pp,hz⟩:=I1.tuple (SqT.of hq)
  refine gJ (show s1.heap.IsTuple b its.toArray from pp) λg ge gi gk=>wpAny_pyIter_enum (s:={ s1 with heap:=g }) ge ?_
  exact (_,[s1.heap.objs.size+1,s1.heap.objs.size],_,nh b,H1,rfl,I1.kept (t':=s1.toks) gk,fG b _ _ (neA (by lia)),((_,ge),gi),fp,q)
 .obtain ⟨its,rv,pp,hz⟩:=I1.list (SqL.of hq)
  refine call_enumerate_list pp.isList λg ge gi gz gk=>wpAny_pyIter_enum (s:={ s1 with heap:=g }) ge ?_
  exact (_,[s1.heap.objs.size+1,s1.heap.objs.size],_,ni b,H1,rfl,I1.kept (t':=s1.toks) gk,fH b _ _ (neA (by lia)),((_,ge),gi),fp,q)
theorem fh {K:Frag} {σ:St} (hH:H c=some (.lst xs)) (Pv:Addr->Nat->List V->Hp->Prop) (hz:xs.length≤sizeLine)
  (h0:∀D,H D=none->Pv D 0 [] (upd H D (.lst [])))
  (hs:∀(D:Addr) (i:Nat) (x:V) (ys:List V) (H' H3:Hp) (R1:VK),H D=none->xs[i]?=some x->Same H H'->H' D=some (.lst ys)->Pv D i ys H'->Same H' H3->
   (∀y H5,H5 D=some (.lst ys)->Same H (upd H5 D (.lst (ys++[y])))->Pv D (i+1) (ys++[y]) (upd H5 D (.lst (ys++[y])))->R1 y H5)->te (some (.int (i:Int))::some x::σ) H3 R1)
  (hq:∀D ys H',H D=none->Same H H'->H' D=some (.lst ys)->Pv D xs.length ys H'->Q (.ref D) H'):gO K (ni c) te σ H Q:=by
 refine g_K (n:=xs.length) (λi a b=>a=.int (i:Int)/\xs[i]?=some b) Pv hz (λi H2 s h=>(xs,xs[i],s _ _ hH,qa2 h)) ?_ (λH2 s=>(xs,s _ _ hH,rfl)) h0 ?_ hq
 .rintro i H2 x H3 s h ⟨p,y,zs,e1,e2,e3,e4,e5⟩
  rw [s _ _ hH] at e1
  cases e1
  exact (p,_,y,e3,(rfl,e2),e4,e5)
 .rintro D i a b ys H' H3 R1 hD hi ⟨rfl,hb⟩ a1 a2 a3 a4 a5
  exact hs D i b ys H' H3 R1 hD hb a1 a2 a3 a4 a5
end L2
namespace RA
open PySem L2
theorem ff {σ:St} (ht:∀R:List V->Hp->Prop,R [.ref c] H->t σ H R) (ho:o=.lst xs\/o=.tup xs) (hH:H c=some o) (Pv:Addr->Nat->List V->Hp->Prop) (hz:xs.length≤sizeLine)
  (h0:∀D,H D=none->Pv D 0 [] (L2.upd H D (.lst [])))
  (hs:∀(D:Addr) (i:Nat) (x:V) (ys:List V) (H' H3:Hp) (R1:VK),H D=none->xs[i]?=some x->Same H H'->H' D=some (.lst ys)->Pv D i ys H'->Same H' H3->
   (∀y H5,H5 D=some (.lst ys)->Same H (L2.upd H5 D (.lst (ys++[y])))->Pv D (i+1) (ys++[y]) (L2.upd H5 D (.lst (ys++[y])))->R1 y H5)->te (some (.int (i:Int))::some x::σ) H3 R1)
  (hq:∀D ys H',H D=none->Same H H'->H' D=some (.lst ys)->Pv D xs.length ys H'->Q (.ref D) H'):j5 K (lf t) te σ H Q:=by
 refine ht _ (c,xs,rfl,?_)
 rcases ho with rfl|rfl
 .exact .inr (hH,fh (K:=K) hH Pv hz h0 hs hq)
 .exact .inl (hH,gH (K:=K) hH Pv hz h0 hs hq)
end RA
namespace L2
open PySem PySem.Spec PyProof.Rows
section
variable {X:Cx}
theorem jF (hc:X.calm=true):g_e X (.builtin "max") (λxs H Q=>∃(a:Addr) (ns:List Int),xs=[V.ref a]/\H a=some (.lst (ns.map V.int))/\0<ns.length/\∀M∈ns,(∀x∈ns,x≤M)->Q (.int M) H):=by
 intro pins s σ H xs us Q I r h
 obtain ⟨a,ns,rfl,ha,hn,q⟩:=h
 obtain ⟨u1,rfl,r1⟩:=d_C r
 cases r1
 obtain ⟨its,rv,p,hz⟩:=I.list (SqL.of ha)
 have hi:=eK rv
 have hl:s.heap.IsList a its.toArray:=p.isList
 obtain ⟨xs,e⟩:=hi.allInts.items
 have hns:ns=xs.toList.map (·.1):=by rw [<- hi.numsOf,<- nums_intItems,<- e]
 have hsz:0<xs.size:=by
  rw [hns,qa4,length_toList] at hn
  exact hn
 rw [e] at hl
 refine max_intList (I.ok.hd hc) hl hsz λv h' tk hv hk=>?_
 obtain ⟨t,rfl⟩:=intItems_at hv
 obtain ⟨h1,h2⟩:=argBest_gt (numAt xs) (xs.size - 1)
 refine (.int _,H,I.kept hk,(t,rfl),q _ ?_ λx hx=>?_)
 .rw [hns,numAt_eq]
  exact PySem.getD_mem (by rw [qa4,length_toList];lia)
 .rw [hns] at hx
  obtain ⟨j,hj⟩:=mem_iff_getElem?.mp hx
  have hjl:=(qa1 hj).1
  rw [qa4,length_toList] at hjl
  have:=h2 j (by lia)
  have e2:numAt xs j=x:=by
   rw [numAt_eq,qa3,hj]
   rfl
  rw [<- e2]
  exact this
def rIndexI:V->List V->Hp->VK->Prop:=λx vs H Q=>∃(l:Addr) (ns:List Int) (n:Int),x=.ref l/\vs=[.int n]/\H l=some (.lst (ns.map V.int))/\n∈ns/\Q (.int (ns.idxOf n:Nat)) H
theorem ji:MtM X "list.index" rIndexI:=by
 intro pins s σ H x vs v us Q I rx rv h
 obtain ⟨l,bs,n0,rfl,rfl,hH,hm,q⟩:=h
 cases rx
 obtain ⟨u,rfl,ru⟩:=rv.one
 obtain ⟨t0,rfl⟩:=(show ∃t,u=Value.int n0 t from ru)
 obtain ⟨z,its,n,r,hl,e⟩:=I.lstM hH
 have hlen:its.length=bs.length:=by rw [<- r.length,qa4]
 have hlt:bs.idxOf n0<bs.length:=idxOf_lt_length_of_mem hm
 have at_:∀(j:Nat) (hj:j<its.toArray.size),∃(hb:j<bs.length) (t:Tok),its.toArray[j]=.int bs[j] t:=λj hj=>by
  have hb:j<bs.length:=by simpa [hlen] using hj
  refine (hb,?_)
  obtain ⟨a,ea,ra⟩:=r.get (i:=j) (x:=.int bs[j]) (by rw [qa6,qa2 hb];rfl)
  obtain ⟨t,rfl⟩:=(show ∃t,a=Value.int bs[j] t from ra)
  obtain ⟨_,q⟩:=qa1 ea
  exact (t,by simpa using q)
 have hsm:((bs.idxOf n0:Nat):Int)<2 ^ 63 - 1:=by
  have h9:(bs.map V.int).length≤sizeLine:=(I.lst hH).choose_spec.choose_spec.2.2
  rw [qa4,sizeLine_eq] at h9
  lia
 refine call_meets F.slot_list_index (_,e,rfl) F.entry_list_index (F.args_list_index_2 _ _) (SeqAt.list_indexAt l its.toArray n none #[] (.int n0 t0) (λy=>match y with|.int b _=>b==n0|_=>false) (bs.idxOf n0) (by simpa [hlen] using hlt) hsm ?_ ?_) (e,?_,(.int _,H,I.tok _,(_,rfl),q))
 .obtain ⟨hb,t,e1⟩:=at_ (bs.idxOf n0) (by simpa [hlen] using hlt)
  rw [e1]
  show (bs[bs.idxOf n0]==n0)=true
  rw [getElem_idxOf hb]
  exact beq_self_eq_true n0
 .intro m hm2 hlt2
  obtain ⟨hb,t,e1⟩:=at_ m hm2
  rw [e1]
  show (bs[m]==n0)=false
  by_cases hbm:bs[m]=n0
  .have:=RA.e_j (l:=bs) (c:=n0) (i:=m) (by rw [qa2 hb,hbm])
   lia
  .exact beq_eq_false_iff_ne.mpr hbm
 .intro y hy
  obtain ⟨j,hj,rfl⟩:=mem_iff_getElem.mp hy
  obtain ⟨hb,t,e1⟩:=at_ j hj
  rw [e1]
  exact SeqAt.EqAt.int_int _ _ _ _
theorem ie (K:Frag) (he:PE X e ta) (hb:attributeBase e f X.env (eval e X.env)=eval e X.env) (hK:X.K=K:=by rfl):PE X (.Attribute e f pos) (pz K ta f):=by
 subst hK
 exact b_E he hb
theorem i0 {apos cpos:Pos} (K:Frag) (ho:PE X o to) (ha:PA X [e] t) (hK:X.K=K:=by rfl)
  (hbase:attributeBase o "index" X.env (eval o X.env)=eval o X.env:=by rfl)
  (hfew:((backTo cpos (starEach [e] X.env)).all (λx=>!x.1)&&(backToKw cpos (keywordEach [] X.env)).all (λx=>x.1.isSome)
   && decide ([e].length+([]:List Keyword).length+(if ([]:List Keyword).isEmpty then 0 else 1)<30))=true:=by rfl) (hline:(apos.endLine==cpos.line)=true:=by rfl) (hs:starEach [e] X.env=(false,eval e X.env,)::starEach [] X.env:=by rfl) (hplain:(backTo cpos (starEach [] X.env)).any (·.1)=false:=by rfl):PE X (.Call (.Attribute o "index" apos) [e] [] cpos) (tBM K "list" rIndexI to t):=by
 subst hK
 exact c_Z plainAttrs_list slot_list_index type_list_index ji ho ha hbase hfew hline hs hplain
end
end L2
namespace RA
open PySem L2
def nI (H:Hp) (rows:List Addr) (W:LL):Prop:=∀(i:Nat) (r:Addr),rows[i]?=some r->∃ws,W[i]?=some ws/\∃o,(o=.lst (intsV ws)\/o=.tup (intsV ws))/\H r=some o
theorem kO:∀{ns:LN},0<ns.length->∃M∈ns,∀x∈ns,x≤M
 | [],h=>by simp at h
 | [a],_=>(a,by simp,λx hx=>by rw [qb1 hx];exact le_refl _)
 | a::b::r,_=>by
  obtain ⟨M,h1,h2⟩:=kO (ns:=b::r) (by simp)
  by_cases h:a≤M
  .exact (M,mem_cons_of_mem _ h1,λx hx=>by
    rcases mem_cons.mp hx with rfl|z
    .exact h
    .exact h2 x z)
  .exact (a,by simp,λx hx=>by
    rcases mem_cons.mp hx with rfl|z
    .exact le_refl _
    .have:=h2 x z
     lia)
theorem jP (n:Nat):∀(l:LN),(zs l).idxOf (n:Int)=l.idxOf n
 | []=>rfl
 | x::l=>by
  show ((x:Int)::zs l).idxOf (n:Int)=_
  rw [idxOf_cons,idxOf_cons,jP n l]
  by_cases h:x=n
  .rw [h];simp
  .rw [beq_eq_false_iff_ne.mpr h,beq_eq_false_iff_ne.mpr (λe=>h (Int.ofNat_inj.mp e))]
end RA
namespace RA
section
variable {κ:Type} [DecidableEq κ]
theorem f_b:∀(ks acc:List κ),∃r,ay acc ks=acc++r
 | [],acc=>([],(append_nil acc).symm)
 | a::ks,acc=>by
  show ∃r,ay (if a∈acc then acc else acc++[a]) ks=acc++r
  by_cases h:a∈acc
  .rw [if_pos h]
   exact f_b ks acc
  .rw [if_neg h]
   obtain ⟨r,e⟩:=f_b ks (acc++[a])
   exact ([a]++r,by rw [e,append_assoc])
theorem df:∀(ks acc:List κ),acc.Nodup->(ay acc ks).Nodup
 | [],_,h=>h
 | a::ks,acc,h=>by
  show (ay (if a∈acc then acc else acc++[a]) ks).Nodup
  by_cases hm:a∈acc
  .rw [if_pos hm]
   exact df ks acc h
  .rw [if_neg hm]
   refine df ks _ ?_
   rw [List.nodup_append]
   refine (h,by simp,λx hx y hy e=>?_)
   rw [qb1 hy] at e
   rw [e] at hx
   exact hm hx
theorem lP (ks:List κ):(dis ks).Nodup:=df ks [] List.nodup_nil
theorem kK {ks:List κ} (h:0<ks.length):(ao ks).getD 0 0=0:=by
 cases ks with
 | nil=>simp at h
 | cons k ks=>
  rw [e_e (k:=k) rfl]
  obtain ⟨r,e⟩:=f_b ks [k]
  have:dis (k::ks)=[k]++r:=by
   show ay (if k∈[] then [] else []++[k]) ks=_
   rw [if_neg (by simp)]
   exact e
  rw [this]
  simp
theorem bE {ks:List κ} {M j:Nat} (h:M∈ao ks) (hj:j≤M):j∈ao ks:=by
 obtain ⟨k,hk,rfl⟩:=mem_map.mp h
 have hl:j<(dis ks).length:=lt_of_le_of_lt hj (idxOf_lt_length_of_mem (mem_dis.mpr hk))
 have hm:(dis ks)[j]∈ks:=mem_dis.mp (getElem_mem hl)
 refine mem_map.mpr ((dis ks)[j],hm,?_)
 have nd:=lP ks
 have h2:(dis ks).idxOf (dis ks)[j]<(dis ks).length:=idxOf_lt_length_of_mem (getElem_mem hl)
 exact (getElem_inj nd).mp (getElem_idxOf h2)
end
section
variable {L:LN} {W:LL} {B:List Bool} {k:Nat}
theorem qa (h:Mach L W B):(Rd W B k).getD 0 0=0:=by
 cases k with
 | zero=>exact kK (by rw [h.bl];exact h.n1)
 | succ k=>exact kK (by rw [a_H];exact h.n1)
theorem nb (h:M∈Rd W B k) (hj:j≤M):j∈Rd W B k:=by
 cases k with
 | zero=>exact bE h hj
 | succ k=>exact bE h hj
end
def c_b (R:LL) (lots:LN) (m:Nat):LL:=(List.range m).map λj=>(R.getD (lots.idxOf j) []).map λg=>lots.getD g 0
def e_U (Bm:List Bool) (lots:LN) (m:Nat):List Bool:=(List.range m).map λj=>Bm.getD (lots.idxOf j) false
theorem bT (h:j<m):(c_b R lots m).getD j []=(R.getD (lots.idxOf j) []).map λg=>lots.getD g 0:=by
 rw [c_b,qa3,qa6,getElem?_range h]
 rfl
theorem jz (h:j<m):(e_U Bm lots m).getD j false=Bm.getD (lots.idxOf j) false:=by
 rw [e_U,qa3,qa6,getElem?_range h]
 rfl
structure aJ (lots:LN) (m:Nat):Prop where
 pos:0<m
 lt:∀x∈lots,x<m
 has:∀j<m,j∈lots
section
variable {L:LN} {R:LL} {Bm:List Bool} {k m:Nat}
theorem jx {l:LN} (h:i<l.length):l.getD i 0∈l:=by
 rw [qa3,qa2 h]
 exact getElem_mem h
theorem f_T (hm:aJ (Rd R Bm k) m) (hMa:Mach L R Bm) (hj:j<m):(Rd R Bm k).idxOf j<R.length/\lot R Bm k ((Rd R Bm k).idxOf j)=j:=by
 have h1:=idxOf_lt_length_of_mem (hm.has j hj)
 refine (by rw [c_J hMa] at h1;exact h1,?_)
 rw [lot,qa3,qa2 h1]
 exact getElem_idxOf h1
theorem gh (hm:aJ (Rd R Bm k) m) (hMa:Mach L R Bm) (hr:r<R.length):lot R Bm k r<m:=hm.lt _ (jx (by rw [c_J hMa];exact hr))
theorem jy (hm:aJ (Rd R Bm k) m) (hMa:Mach L R Bm):Mach L (c_b R (Rd R Bm k) m) (e_U Bm (Rd R Bm k) m) where
 lt:=hMa.lt
 n1:=by rw [c_b,qa4,length_range];exact hm.pos
 n60:=by
  rw [c_b,qa4,length_range]
  have h1:=fk hMa (hm.has (m - 1) (by have:=hm.pos;omega))
  have:=hMa.n60
  lia
 bl:=by rw [e_U,c_b,qa4,qa4]
 row:=λws h=>by
  rw [c_b] at h
  obtain ⟨j,hj,rfl⟩:=mem_map.mp h
  have hj:=mem_range.mp hj
  obtain ⟨h1,h2⟩:=b_z hMa (f_T hm hMa hj).1
  refine (by rw [qa4];exact h1,λx hx=>?_)
  obtain ⟨g,hg,rfl⟩:=mem_map.mp hx
  rw [c_b,qa4,length_range]
  exact gh hm hMa (h2 g hg)
theorem lC (hm:aJ (Rd R Bm k) m) (hMa:Mach L R Bm):(c_b R (Rd R Bm k) m).length≤R.length:=by
 rw [c_b,qa4,length_range]
 have h1:=fk hMa (hm.has (m - 1) (by have:=hm.pos;omega))
 lia
theorem lB (hm:aJ (Rd R Bm k) m) (hMa:Mach L R Bm) (st:Rd R Bm (k+1)=Rd R Bm k) (hr:r<R.length) (hc:c∈L):nxt L (c_b R (Rd R Bm k) m) (lot R Bm k r) c=lot R Bm k (nxt L R r c):=by
 have hi:L.idxOf c<L.length:=idxOf_lt_length_of_mem hc
 have hj:=gh hm hMa hr
 obtain ⟨f1,f2⟩:=f_T hm hMa hj
 have e1:lot R Bm (k+1) ((Rd R Bm k).idxOf (lot R Bm k r))=lot R Bm (k+1) r:=by
  show (Rd R Bm (k+1)).getD _ 0=(Rd R Bm (k+1)).getD _ 0
  rw [st]
  exact f2
 have e2:=((b_h hMa f1 hr).mp e1).2 _ hi
 unfold nxt
 rw [bT hj]
 have hl:L.idxOf c<(R.getD ((Rd R Bm k).idxOf (lot R Bm k r)) []).length:=by rw [(b_z hMa f1).1];exact hi
 rw [qa3,qa6,qa2 hl]
 show (Rd R Bm k).getD _ 0=_
 have e3:ag R ((Rd R Bm k).idxOf (lot R Bm k r)) (L.idxOf c)=(R.getD ((Rd R Bm k).idxOf (lot R Bm k r)) [])[L.idxOf c]:=by
  rw [ag,qa3 (l:=R.getD _ []),qa2 hl]
  rfl
 rw [<- e3]
 exact e2
theorem e_m (hm:aJ (Rd R Bm k) m) (hMa:Mach L R Bm) (st:Rd R Bm (k+1)=Rd R Bm k):∀{w:LN} {r:Nat},r<R.length->(∀c∈w,c∈L)->run L (c_b R (Rd R Bm k) m) (lot R Bm k r) w=lot R Bm k (run L R r w)
 | [],_,_,_=>rfl
 | c::w,r,hr,hw=>by
  have hc:c∈L:=hw c (by simp)
  show run L (c_b R (Rd R Bm k) m) (nxt L (c_b R (Rd R Bm k) m) (lot R Bm k r) c) w=lot R Bm k (run L R (nxt L R r c) w)
  rw [lB hm hMa st hr hc]
  exact e_m hm hMa st (b_c hMa hr (idxOf_lt_length_of_mem hc)) λd hd=>hw d (by simp [hd])
theorem f_U (hm:aJ (Rd R Bm k) m) (hMa:Mach L R Bm) (hr:r<R.length):(e_U Bm (Rd R Bm k) m).getD (lot R Bm k r) false=Bm.getD r false:=by
 have hj:=gh hm hMa hr
 obtain ⟨f1,f2⟩:=f_T hm hMa hj
 rw [jz hj]
 exact (e_g hMa f1 hr).mp (h_s hMa f1 hr (zero_le k) f2)
theorem gC (hm:aJ (Rd R Bm k) m) (hMa:Mach L R Bm) (st:Rd R Bm (k+1)=Rd R Bm k) (hw:∀c∈w,c∈L):(e_U Bm (Rd R Bm k) m).getD (run L (c_b R (Rd R Bm k) m) 0 w) false=Bm.getD (run L R 0 w) false:=by
 have e:lot R Bm k 0=0:=qa hMa
 have:=e_m hm hMa st hMa.n1 hw
 rw [e] at this
 rw [this]
 exact f_U hm hMa (a_M hMa hMa.n1 hw)
end
section
variable {L:LN} {W:LL} {B:List Bool} {ks ws R:LL} {Bm:List Bool}
theorem iP (hMa:Mach L W B) (bf:Bf (gW W) L [0] ks ws ks.length 0) (ways:e_r (gW W) L.length ks R) (hR:R.length=ks.length) (bl:Bm.length=R.length) (le:ks.length≤W.length):Mach L R Bm where
 lt:=hMa.lt
 n1:=by rw [hR];exact (qa1 bf.t0).1
 n60:=by rw [hR];exact le_trans le hMa.n60
 bl:=bl
 row:=λr hr=>by
  obtain ⟨i,hi⟩:=mem_iff_getElem?.mp hr
  have hil:i<ks.length:=by rw [<- hR];exact (qa1 hi).1
  obtain ⟨h1,h2⟩:=ways.row i r _ hi (qa2 hil)
  refine (h1,λx hx=>?_)
  obtain ⟨q,hq⟩:=mem_iff_getElem?.mp hx
  rw [hR]
  exact (qa1 (h2 q x hq)).1
theorem g_N (hMa:Mach L W B) (bf:Bf (gW W) L [0] ks ws ks.length 0) (ways:e_r (gW W) L.length ks R) (hR:R.length=ks.length):∀(n:Nat) (w:LN),w.length=n->(∀c∈w,c∈L)->ks[run L R 0 w]?=some [run L W 0 w]:=by
 intro n
 induction n with
 | zero=>
  intro w hw _
  rw [length_eq_zero_iff.mp hw]
  exact bf.t0
 | succ n ih=>
  intro w hw hL
  obtain ⟨c,v,rfl⟩:∃c v,w=v++[c]:=(w.getLast (by intro z;rw [z] at hw;cases hw),w.dropLast,(dropLast_concat_getLast _).symm)
  have h1:=ih v (by simpa using hw) λx hx=>hL x (by simp [hx])
  have hc:L.idxOf c<L.length:=idxOf_lt_length_of_mem (hL c (by simp))
  have hr:run L R 0 v<R.length:=by rw [hR];exact (qa1 h1).1
  obtain ⟨e1,e2⟩:=ways.row _ _ _ (qa2 hr) h1
  have e3:=e2 (L.idxOf c) _ (qa2 (by rw [e1];exact hc))
  rw [c_Q,c_Q]
  have e4:nxt L R (run L R 0 v) c=R[run L R 0 v][L.idxOf c]'(by rw [e1];exact hc):=by
   unfold nxt
   rw [qa3 (l:=R),qa2 hr]
   show (R[run L R 0 v]).getD _ 0=_
   rw [qa3,qa2 (by rw [e1];exact hc)]
   rfl
  rw [e4]
  exact e3
theorem fA (hMa:Mach L W B) (bf:Bf (gW W) L [0] ks ws ks.length 0) (ways:e_r (gW W) L.length ks R) (hR:R.length=ks.length) (bl:Bm.length=R.length) (mks:∀(r:Nat) (k:LN) (b:Bool),ks[r]?=some k->Bm[r]?=some b->b=mkW B k) (hw:∀c∈w,c∈L):Bm.getD (run L R 0 w) false=B.getD (run L W 0 w) false:=by
 have h1:=g_N hMa bf ways hR _ w rfl hw
 have hr:run L R 0 w<Bm.length:=by rw [bl,hR];exact (qa1 h1).1
 rw [qa3,qa2 hr]
 exact mks _ _ _ h1 (qa2 hr)
end
def b_a (L:LN) (W:LL) (B:List Bool) (W':LL) (B':List Bool):Prop:=
 ∃(ks ws R:LL) (Bm:List Bool) (k m:Nat),Bf (gW W) L [0] ks ws ks.length 0/\e_r (gW W) L.length ks R/\R.length=ks.length/\Bm.length=R.length/\(∀(r:Nat) (k:LN) (b:Bool),ks[r]?=some k->Bm[r]?=some b->b=mkW B k)/\(∀k∈ks,k∈uW W)/\ks.length≤W.length/\
  Mach L R Bm/\Rd R Bm (k+1)=Rd R Bm k/\aJ (Rd R Bm k) m/\W'=c_b R (Rd R Bm k) m/\B'=e_U Bm (Rd R Bm k) m
theorem b_a.mach (h:b_a L W B W' B'):Mach L W' B':=by
 obtain ⟨ks,ws,R,Bm,k,m,_,_,_,_,_,_,_,hMa,_,hm,rfl,rfl⟩:=h
 exact jy hm hMa
theorem b_a.len (h:b_a L W B W' B'):W'.length≤W.length:=by
 obtain ⟨ks,ws,R,Bm,k,m,_,_,hR,_,_,_,le,hMa,_,hm,rfl,rfl⟩:=h
 have:=lC hm hMa
 lia
theorem b_a.takes (h:b_a L W B W' B') (hMa0:Mach L W B) (hw:∀c∈w,c∈L):B'.getD (run L W' 0 w) false=B.getD (run L W 0 w) false:=by
 obtain ⟨ks,ws,R,Bm,k,m,bf,ways,hR,bl,mks,_,le,hMa,st,hm,rfl,rfl⟩:=h
 rw [gC hm hMa st hw]
 exact fA hMa0 bf ways hR bl mks hw
end RA
namespace L2
open PySem PySem.Spec PyProof.Rows
end L2
namespace RA
open PySem L2
end RA
namespace RA
section
variable {κ:Type} [DecidableEq κ]
theorem eW:∀(a b acc:List κ),ay acc (a++b)=ay (ay acc a) b
 | [],_,_=>rfl
 | x::a,b,acc=>eW a b _
theorem g_y {ks:List κ} {i j:Nat} (hi:i<ks.length) (hj:j<(ao ks).getD i 0):∃i1,i1<i/\(ao ks).getD i1 0=j:=by
 have hk:ks[i]?=some ks[i]:=qa2 hi
 rw [e_e hk] at hj
 obtain ⟨r,hr⟩:=f_b (ks.drop (i+1)) (dis (ks.take (i+1)))
 have hd:dis ks=dis (ks.take (i+1))++r:=by
  have:=eW (ks.take (i+1)) (ks.drop (i+1)) []
  rw [List.take_append_drop] at this
  exact this.trans hr
 have hm:ks[i]∈ks.take (i+1):=by
  rw [mem_iff_getElem?]
  exact (i,by rw [List.getElem?_take,if_pos (lt_succ_self i)];exact hk)
 have hm2:ks[i]∈dis (ks.take (i+1)):=mem_dis.mpr hm
 rw [hd,idx_app hm2] at hj
 have hl:=idxOf_lt_length_of_mem hm2
 have hjl:j<(dis (ks.take (i+1))).length:=lt_trans hj hl
 obtain ⟨i1,e1⟩:=mem_iff_getElem?.mp (mem_dis.mp (getElem_mem hjl))
 have h1:i1<i+1:=by
  have:=(qa1 e1).1
  rw [length_take] at this
  lia
 rw [List.getElem?_take,if_pos h1] at e1
 have nd:=lP (ks.take (i+1))
 have e3:(dis (ks.take (i+1))).idxOf (dis (ks.take (i+1)))[j]=j:=by
  have h2:(dis (ks.take (i+1))).idxOf (dis (ks.take (i+1)))[j]<(dis (ks.take (i+1))).length:=idxOf_lt_length_of_mem (getElem_mem hjl)
  exact (getElem_inj nd).mp (getElem_idxOf h2)
 have e2:(dis ks).idxOf (dis (ks.take (i+1)))[j]=j:=by
  rw [hd,idx_app (getElem_mem hjl)]
  exact e3
 refine (i1,?_,by rw [e_e e1];exact e2)
 by_cases h:i1=i
 .rw [h,hk] at e1
  have e4:=Option.some.inj e1
  rw [<- e4] at e3
  lia
 .lia
end
section
variable {L:LN} {R:LL} {Bm:List Bool} {k m:Nat}
theorem lZ (hMa:Mach L R Bm) (hi:i<R.length) (hj:j<lot R Bm k i):∃i1,i1<i/\lot R Bm k i1=j:=by
 cases k with
 | zero=>exact g_y (by rw [hMa.bl];exact hi) hj
 | succ k=>exact g_y (by rw [a_H];exact hi) hj
theorem mW (hm:aJ (Rd R Bm k) m) (hMa:Mach L R Bm) (hab:a<b) (hb:b<m):(Rd R Bm k).idxOf a<(Rd R Bm k).idxOf b:=by
 obtain ⟨f1,f2⟩:=f_T hm hMa hb
 obtain ⟨i1,h1,h2⟩:=lZ hMa f1 (by rw [f2];exact hab)
 refine lt_of_le_of_lt (e_j (i:=i1) ?_) h1
 have hl:i1<(Rd R Bm k).length:=by rw [c_J hMa];exact lt_trans h1 f1
 rw [qa2 hl]
 rw [lot,qa3,qa2 hl] at h2
 exact congrArg some h2
theorem pY (hMa:Mach L R Bm) (hi:i<R.length):(Rd R Bm k).idxOf (lot R Bm k i)≤i:=by
 have hl:i<(Rd R Bm k).length:=by rw [c_J hMa];exact hi
 refine e_j ?_
 rw [lot,qa3,qa2 hl]
 rfl
theorem h_u (hMa:Mach L R Bm):∀(k:Nat) {r s:Nat},r<R.length->s<R.length->(∀u:LN,(∀c∈u,c∈L)->Bm.getD (run L R r u) false=Bm.getD (run L R s u) false)->lot R Bm k r=lot R Bm k s
 | 0,r,s,hr,hs,h=>(e_g hMa hr hs).mpr (h [] λc hc=>by simp at hc)
 | k+1,r,s,hr,hs,h=>(b_h hMa hr hs).mpr (h_u hMa k hr hs h,λi hi=>h_u hMa k (b_c hMa hr hi) (b_c hMa hs hi) λu hu=>by
   have e:=h (L[i]::u) λc hc=>by
    rcases mem_cons.mp hc with rfl|z
    .exact getElem_mem hi
    .exact hu c z
   rw [run_cons,run_cons,f_a,f_a,f_R hMa.lt.nd hi] at e
   exact e)
end
theorem b_a.unlike (h:b_a L W B W' B') (hr:r<W'.length) (hs:s<W'.length) (e:∀u:LN,(∀c∈u,c∈L)->B'.getD (run L W' r u) false=B'.getD (run L W' s u) false):r=s:=by
 obtain ⟨ks,ws,R,Bm,k,m,bf,ways,hR,bl,mks,_,le,hMa,st,hm,rfl,rfl⟩:=h
 rw [c_b,qa4,length_range] at hr hs
 obtain ⟨r1,r2⟩:=f_T hm hMa hr
 obtain ⟨s1,s2⟩:=f_T hm hMa hs
 have:=h_u hMa k r1 s1 λu hu=>by
  have e1:=e u hu
  rw [<- r2,<- s2,e_m hm hMa st r1 hu,e_m hm hMa st s1 hu,f_U hm hMa (a_M hMa r1 hu),f_U hm hMa (a_M hMa s1 hu)] at e1
  exact e1
 rw [r2,s2] at this
 exact this
section
variable {L:LN} {W:LL} {B:List Bool} {ks ws R:LL}
theorem cR {α:Type} {l:List α} (nd:l.Nodup) {i j:Nat} {a:α} (hi:l[i]?=some a) (hj:l[j]?=some a):i=j:=by
 obtain ⟨h1,e1⟩:=qa1 hi
 obtain ⟨h2,e2⟩:=qa1 hj
 exact (getElem_inj nd).mp (e1.trans e2.symm)
theorem iO (hMa:Mach L W B) (bf:Bf (gW W) L [0] ks ws ks.length 0) (ways:e_r (gW W) L.length ks R) (hR:R.length=ks.length) (hw:ws[i]?=some w):(∀c∈w,c∈L)/\run L R 0 w=i:=by
 have hi:i<ks.length:=by rw [bf.len];exact (qa1 hw).1
 obtain ⟨l1,l2⟩:=bf.lead i ks[i] w (qa2 hi) hw
 refine (l1,?_)
 have h1:=g_N hMa bf ways hR _ w rfl l1
 rw [d_s 0 _ w rfl] at l2
 rw [l2] at h1
 exact cR bf.nd h1 (qa2 hi)
theorem fB (hMa:Mach L W B) (bf:Bf (gW W) L [0] ks ws ks.length 0) (ways:e_r (gW W) L.length ks R) (hR:R.length=ks.length) (hw:ws[i]?=some w) (hv:∀c∈v,c∈L) (hr:run L R 0 v=i):ear L v w=false:=by
 obtain ⟨j,b,e1,e2,e3⟩:=bf.told hMa.lt.nd v _ rfl hv
 rw [d_s 0 _ v rfl] at e1
 have h1:=g_N hMa bf ways hR _ v rfl hv
 rw [hr] at h1
 have:j=i:=cR bf.nd e1 h1
 rw [this,hw] at e2
 cases e2
 exact e3
end
structure gN (L:LN) (W':LL) (v:Nat->LN):Prop where
 over:∀j,j<W'.length->(∀c∈v j,c∈L)/\run L W' 0 (v j)=j
 lt:∀i j,i<j->j<W'.length->ear L (v i) (v j)=true
 least:∀u:LN,(∀c∈u,c∈L)->ear L u (v (run L W' 0 u))=false
theorem b_a.firsts (h:b_a L W B W' B') (hM0:Mach L W B):∃v,gN L W' v:=by
 obtain ⟨ks,ws,R,Bm,k,m,bf,ways,hR,bl,mks,_,le,hMa,st,hm,rfl,rfl⟩:=h
 have hlen:(c_b R (Rd R Bm k) m).length=m:=by rw [c_b,qa4,length_range]
 have hwl:ws.length=R.length:=by rw [hR,bf.len]
 have at_:∀{i:Nat},i<R.length->ws[i]?=some (ws.getD i []):=λ{i} hi=>by
  rw [qa3,qa2 (by rw [hwl];exact hi)]
  rfl
 have l0:lot R Bm k 0=0:=qa hMa
 have go:∀{u:LN},(∀c∈u,c∈L)->run L (c_b R (Rd R Bm k) m) 0 u=lot R Bm k (run L R 0 u):=λ{u} hu=>by
  have:=e_m hm hMa st hMa.n1 hu
  rw [l0] at this
  exact this
 refine (λj=>ws.getD ((Rd R Bm k).idxOf j) [],(λj hj=>?_,λi j hij hj=>?_,λu hu=>?_))
 .rw [hlen] at hj
  obtain ⟨f1,f2⟩:=f_T hm hMa hj
  obtain ⟨w1,w2⟩:=iO hM0 bf ways hR (at_ f1)
  refine (w1,?_)
  rw [go w1,w2]
  exact f2
 .rw [hlen] at hj
  have hlt:=mW hm hMa hij hj
  exact bf.srt _ _ _ _ hlt (at_ (lt_trans hlt (f_T hm hMa hj).1)) (at_ (f_T hm hMa hj).1)
 .rw [go hu]
  have hr:=a_M hMa hMa.n1 hu
  have hle:=pY (k:=k) hMa hr
  have h1:=fB hM0 bf ways hR (at_ hr) hu rfl
  rcases Nat.lt_or_eq_of_le hle with z|z
  .have h2:=bf.srt _ _ _ _ z (at_ (lt_trans z hr)) (at_ hr)
   cases e:ear L u (ws.getD ((Rd R Bm k).idxOf (lot R Bm k (run L R 0 u))) []) with
   | false=>rfl
   | true=>rw [ear_trans e h2] at h1;cases h1
  .show ear L u (ws.getD ((Rd R Bm k).idxOf (lot R Bm k (run L R 0 u))) [])=false
   rw [z]
   exact h1
theorem rising_all {rs:LN} (hs:∀(i j a b:Nat),i<j->rs[i]?=some a->rs[j]?=some b->a<b) (hlt:∀r∈rs,r<m) (hall:∀j<m,j∈rs):rs.length=m/\∀(i r:Nat),rs[i]?=some r->r=i:=by
 have ge:∀(i r:Nat),rs[i]?=some r->i≤r:=by
  intro i
  induction i with
  | zero=>exact λr _=>zero_le r
  | succ i ih=>
   intro r e
   have hi:i<rs.length:=lt_trans (lt_succ_self i) (qa1 e).1
   have h1:=ih _ (qa2 hi)
   have h2:=hs i (i+1) _ _ (lt_succ_self i) (qa2 hi) e
   lia
 have eq:∀(n i r:Nat),i<n->rs[i]?=some r->r=i:=by
  intro n
  induction n with
  | zero=>exact λi r h=>absurd h (not_lt_zero i)
  | succ n ih=>
   intro i r hi e
   have h1:=ge i r e
   have hr:=hlt r (qb2 e)
   obtain ⟨p,hp⟩:=mem_iff_getElem?.mp (hall i (lt_of_le_of_lt h1 hr))
   have h2:=ge p i hp
   rcases lt_trichotomy p i with z|z|z
   .have:=ih p i (by lia) hp
    lia
   .rw [z,e] at hp
    exact Option.some.inj hp
   .lia
 refine (?_,λi r e=>eq (i+1) i r (lt_succ_self i) e)
 rcases lt_trichotomy rs.length m with z|z|z
 .obtain ⟨p,hp⟩:=mem_iff_getElem?.mp (hall rs.length z)
  have h1:=(qa1 hp).1
  have:=eq (p+1) p _ (lt_succ_self p) hp
  lia
 .exact z
 .have e:=qa2 z
  have:=eq (m+1) m _ (lt_succ_self m) e
  have h2:=hlt _ (getElem_mem z)
  lia
theorem gN.order (f:gN L W' v) (hM:Mach L W' B') {rs:LN} (bf:Bf (gW W') L [0] (rs.map λn=>[n]) ws rs.length 0) (hlt:∀r∈rs,r<W'.length):rs.length=W'.length/\∀(i r:Nat),rs[i]?=some r->r=i:=by
 have nd:rs.Nodup:=ij bf.nd
 have hwl:ws.length=rs.length:=by have:=bf.len;rw [qa4] at this;exact this.symm
 have told:∀u:LN,(∀c∈u,c∈L)->∃(j:Nat) (b:LN),rs[j]?=some (run L W' 0 u)/\ws[j]?=some b/\ear L u b=false:=λu hu=>by
  obtain ⟨j,b,e1,e2,e3⟩:=Bf.told (ts:=rs.map λn=>[n]) (by rw [qa4];exact bf) hM.lt.nd u _ rfl hu
  rw [d_s 0 _ u rfl,qa6] at e1
  obtain ⟨r,f1,f2⟩:=qb3 e1
  injection f2 with f2
  exact (j,b,by rw [f1,f2],e2,e3)
 have word:∀(i r:Nat) (w:LN),rs[i]?=some r->ws[i]?=some w->w=v r:=λi r w e1 e2=>by
  obtain ⟨l1,l2⟩:=bf.lead i [r] w (by rw [qa6,e1];rfl) e2
  rw [d_s 0 _ w rfl] at l2
  injection l2 with l2
  have hr:=hlt r (qb2 e1)
  obtain ⟨v1,v2⟩:=f.over r hr
  have h1:=f.least w l1
  rw [l2] at h1
  obtain ⟨j,b,e3,e4,e5⟩:=told (v r) v1
  rw [v2] at e3
  have hj:=cR nd e3 e1
  rw [hj,e2] at e4
  cases e4
  rcases bW l1 v1 with z|z|z
  .rw [z] at h1;cases h1
  .exact z
  .rw [z] at e5;cases e5
 refine rising_all (λi j a b hij ea eb=>?_) hlt λj hj=>?_
 .have hi:i<ws.length:=by rw [hwl];exact (qa1 ea).1
  have hj:j<ws.length:=by rw [hwl];exact (qa1 eb).1
  have h1:=bf.srt i j _ _ hij (qa2 hi) (qa2 hj)
  rw [word i a _ ea (qa2 hi),word j b _ eb (qa2 hj)] at h1
  rcases lt_trichotomy a b with z|z|z
  .exact z
  .rw [z] at ea
   have:=cR nd ea eb
   lia
  .have h2:=f.lt b a z (hlt a (qb2 ea))
   have h3:=f_V h2
   rw [h3] at h1
   cases h1
 .obtain ⟨v1,v2⟩:=f.over j hj
  obtain ⟨p,b,e1,_⟩:=told (v j) v1
  rw [v2] at e1
  exact qb2 e1
end RA
namespace RA
open PySem L2
theorem kf (h:b_L H rows W):nI H rows W:=λi r e=>let ⟨ws,a,b⟩:=h i r e;(ws,a,_,.inr rfl,b)
end RA
namespace RA
theorem a_Q (L:LN) (W:LL) (r:Nat) (a b:LN):run L W r (a++b)=run L W (run L W r a) b:=by
 unfold run
 rw [List.foldl_append]
section
variable {L:LN} {W1 W2:LL} {B1 B2:List Bool} {v1 v2:Nat->LN}
end
end RA
namespace L2
open PySem PySem.Spec PyProof.Rows
section
variable {X:Cx} {pins:List (Addr×Obj)} {σ:St} {H:Hp} {s:Shared}
end
end L2
namespace RA
open PySem L2
section
variable {X:Cx} {pins:List (Addr×Obj)} {σ:St} {H:Hp} {s:Shared}
end
end RA
namespace L2
open PySem PySem.Spec PyProof.Rows
theorem gQ:∀{xs:List V} {us:List Value},xs.length=us.length->(∀(i:Nat) (x:V) (u:Value),xs[i]?=some x->us[i]?=some u->ad x u)->ab xs us
 | [],[],_,_=>.nil
 | [],_::_,h,_=>by simp at h
 | _::_,[],h,_=>by simp at h
 | x::xs,u::us,h,k=>.cons (k 0 x u rfl rfl) (gQ (by simpa using h) λi y v a b=>k (i+1) y v (by simpa using a) (by simpa using b))
def j0 (ta:TA):TE:=λσ H Q=>ta σ H λvs H1=>∃n:Nat,vs=[.int (n:Int)]/\n≤1000/\∀l,H1 l=none->Q (.ref l) (upd H1 l (.lst (RA.intsV (List.range n))))
theorem cL {p p2 pos pos2:Pos} (hc:X.calm=true) (hgl:Gl X "list") (hml:X.mg "list"=none) (hgz:Gl X "range") (hmz:X.mg "range"=none) (ha:PA X [a] ta)
  (hs:starEach [.Call (.Name "range" p2) [a] [] pos2] X.env=[(false,eval (.Call (.Name "range" p2) [a] [] pos2) X.env,)]:=by rfl) (hs2:starEach [a] X.env=[(false,eval a X.env,)]:=by rfl):
  PE X (.Call (.Name "list" p) [.Call (.Name "range" p2) [a] [] pos2] [] pos) (j0 ta):=by
 intro pins s σ H Q I h
 refine wpAny_Call_Name_kw (ld_blt I hgl hml boot_list ?_)
 refine PyProof.Rows.callWith_type1 (e:=.Call (.Name "range" p2) [a] [] pos2) (rest:=[]) ?_ hs rfl
 rw [hs]
 show wpAny _ _ (spliced ((false,eval (.Call (.Name "range" p2) [a] [] pos2) X.env,)::backTo pos [])) _ _ s
 refine Calls.spliced_cons (wpAny_Call_Name_kw (ld_blt I hgz hmz PyProof.Rows.boot_range (PyProof.Rows.callWith_type1 (thn (ha pos2 pins s σ H _ I h) λus s1 hZ2=>?_) hs2 rfl)))
 obtain ⟨vs,H1,I1,r1,n,ev,hn,q⟩:=hZ2
 subst ev
 obtain ⟨u1,rfl,t,rfl⟩:=d_C r1
 refine call_range_1 ?_
 refine Calls.spliced_nil ?_
 have hsz:Builtin.Range.rangeSize 0 (n:Int) 1=(n:Int):=by rw [rangeSize_one];split <;> lia
 refine call_list_range (I1.ok.hd hc) (IsRange.new ..) (small_one (by lia) (by lia) (by lia) (by lia)) hsz (by lia) λh' tk acc c kp e items=>?_
 obtain ⟨l,rfl⟩:∃l:List Value,acc=l.toArray:=(acc.toList,Array.toArray_toList.symm)
 have hv:ab (RA.intsV (List.range n)) l:=by
  refine gQ (by rw [RA.intsV_len,length_range,<- items.1,size_toArray]) λi x u hx hu=>?_
  have hi:i<n:=by have:=(qa1 hx).1;rwa [RA.intsV_len,length_range] at this
  rw [RA.intsV,qa6,getElem?_range hi] at hx
  cases hx
  obtain ⟨t2,rfl⟩:=items.2 i u (by rw [getElem?_toArray];exact hu)
  exact (t2,by simp)
 have I2:=I1.laid (t':=tk) (h':=h') (λb o eb=>kp b o (qa9 _ eb)) (by rw [size_push];exact Nat.le_succ _) (show b_f X.prog X.w _ h' _ (.lst (RA.intsV (List.range n))) from (by rw [RA.intsV_len,length_range];exact a_d (le_trans hn (by decide)),l,c,hv,e))
 exact (.ref _,_,I2,rfl,q _ (I1.hok.fresh (by rw [size_push];exact Nat.le_succ _)))
theorem jB {xs:List V} (h:t≤xs.length):cutV xs (some (t:Int)) none=xs.drop t:=by
 unfold cutV
 rw [HT.sIx_none,HT.sIx_nat,Nat.min_eq_left h,take_of_length_le (by rw [length_drop];exact le_refl _)]
end L2
namespace RA
open PySem L2
end RA
namespace RA
section
variable {L:LN} {W:LL} {B:List Bool} {ls:LN} {W2:LL} {B2:List Bool}
end
end RA
namespace RA
open PySem L2
end RA
namespace RA
section
variable {κ:Type} [DecidableEq κ] {g:κ->Nat->κ} {L:LN} {s:κ} {ts ts':List κ} {ws ws':LL}
end
end RA
namespace L2
open PySem PySem.Spec PyProof.Rows
section
variable {prog:Program} {w:World} {A:Around} {E:Value->Shared->Prop} {s:Shared}
end
end L2
namespace RA
section
variable {L:LN} {W ks ws R:LL} {B:List Bool}
end
end RA
namespace RA
open PySem L2
theorem g_E (l:LN):(intsV l).all e_V=true:=by
 rw [intsV,List.all_map,all_eq_true]
 exact λ_ _=>rfl
theorem g_F (l:LN):(intsV l).all bU=true:=by
 rw [intsV,List.all_map,all_eq_true]
 exact λ_ _=>rfl
end RA
namespace L2
open PySem PySem.Spec PyProof.Rows
theorem ot:OpR X (binaryOp .BitOr) (λx y H Q=>∃i j,x=.int i/\y=.int j/\Q (.int (Builtin.bitOr i j)) H):=by
 intro pins s σ H x y v u Q I rx ry h
 obtain ⟨i,j,rfl,rfl,q⟩:=h
 obtain ⟨t,rfl⟩:=(show ∃t,v=Value.int i t from rx)
 obtain ⟨t2,rfl⟩:=(show ∃t,u=Value.int j t from ry)
 exact or_int (.int _,H,I.tok _,(_,rfl),q)
theorem j4 (h:tl σ H λv H1=>d_E (iSq λ_ _ R=>R v H1) tt te σ H1 Q):d_E (iSq tl) tt te σ H Q:=h
end L2
namespace RA
open PySem L2
theorem lr {α:Type} (l:List α) (x:α):(l++[x])[l.length]?=some x:=by simp
theorem hX (h1:H1 wa=some (.lst (rows.map V.ref))) (hr:b_L H1 rows W) (hl:rows.length=W.length) (ht:H1 tp=none):
  L2.upd (L2.upd H1 tp (.tup (intsV ws))) wa (.lst (rows.map V.ref++[.ref tp])) wa=some (.lst ((rows++[tp]).map V.ref))/\b_L (L2.upd (L2.upd H1 tp (.tup (intsV ws))) wa (.lst (rows.map V.ref++[.ref tp]))) (rows++[tp]) (W++[ws])/\∀b o,H1 b=some o->b≠wa->L2.upd (L2.upd H1 tp (.tup (intsV ws))) wa (.lst (rows.map V.ref++[.ref tp])) b=some o:=by
 have twa:tp≠wa:=(ne_of_none h1 ht).symm
 have k:∀b o,H1 b=some o->b≠wa->L2.upd (L2.upd H1 tp (.tup (intsV ws))) wa (.lst (rows.map V.ref++[.ref tp])) b=some o:=λb o e n=>by
  rw [upd_ne n,upd_ne (ne_of_none e ht)]
  exact e
 refine (by rw [upd_same,map_append];rfl,λi r e=>?_,k)
 rcases b_V e with z|⟨rfl,rfl⟩
 .obtain ⟨v,e1,e2⟩:=hr i r z
  exact (v,d_V e1,k r _ e2 (ne_of e2 h1 (by intro y;cases y)))
 .refine (ws,by rw [hl];exact lr W ws,?_)
  rw [upd_ne twa,upd_same]
theorem oA (h:Let L):∃N:Nat,atI [V.int 2,.int 4,.int 8] (((tx L).length:Nat) - 1:Int)=some (.int (N:Int))/\1≤N/\N≤8/\∀i,i<N->∀b∈([1,2,4]:LN).take L.length,∃r:Nat,PySem.Builtin.bitOr (i:Int) (b:Int)=(r:Int)/\r<N:=by
 have h1:=h.lo
 have h2:=h.hi
 have key:∀k∈([1,2,3]:LN),∃N∈([2,4,8]:LN),([2,4,8]:LN)[k - 1]?=some N/\∀i∈List.range N,∀b∈([1,2,4]:LN).take k,∃r∈List.range N,PySem.Builtin.bitOr ((i:Nat):Int) ((b:Nat):Int)=((r:Nat):Int):=by decide +kernel
 obtain ⟨N,hN,e,hb⟩:=key L.length (by simp;lia)
 refine (N,?_,?_,?_,λi hi b hbb=>?_)
 .rw [a_k]
  have c:((L.length:Nat):Int) - 1=((L.length - 1:Nat):Int):=by lia
  rw [c]
  have ee:atI (intsV [2,4,8]) ((L.length - 1:Nat):Int)=some (.int (([2,4,8].getD (L.length - 1) 0:Nat):Int)):=a_D (by simp;omega)
  rw [qa3,e] at ee
  exact ee
 .simp at hN;lia
 .simp at hN;lia
 .obtain ⟨r,hr,er⟩:=hb i (mem_range.mpr hi) b hbb
  exact (r,er,mem_range.mp hr)
end RA
namespace L2
open PySem PySem.Spec PyProof.Rows
section
variable {X:Cx}
abbrev sK (P:Program) (w:World):PySem.KeyKind P w Str:=PySem.strKind P w
def ml (P:Program) (w:World):R2:=λx y H Q=>∃d k kvs,y=.ref d/\x=.str k/\H d=some (kdO (sK P w) d kvs)/\Q (.bl (!(ax kvs k).isSome)) H
theorem bD:OpR X (compareOp .NotIn) (ml X.prog X.w):=by
 intro pins s σ H x y v u Q I rx ry h
 obtain ⟨d,k,kvs,rfl,rfl,e,q⟩:=h
 cases ry
 obtain ⟨t,rfl⟩:=(show ∃t,v=Value.str k t from rx)
 obtain ⟨ns,_,vs,rel,dd⟩:=d_U I.hok e
 refine wpAny_notIn_of (knd:=sK X.prog X.w) (k:=k) (strKind_is _ _ k t) ns dd.mapOf ?_
 rw [<- c_S (rel.val k)]
 exact (.bl _,H,I.tok _,rfl,q)
def qq (P:Program) (w:World):R2:=λx y H Q=>∃d k kvs v,x=.ref d/\y=.str k/\H d=some (kdO (sK P w) d kvs)/\ax kvs k=some v/\Q v H
theorem ix_dictX:IxR X (qq X.prog X.w):=by
 intro value slice pins s σ H x y v u Q I rx ry h hs
 obtain ⟨d,k,kvs,z,rfl,rfl,e,l,q⟩:=h
 cases rx
 obtain ⟨t,rfl⟩:=(show ∃t,u=Value.str k t from ry)
 obtain ⟨ns,_,vs,rel,dd⟩:=d_U I.hok e
 refine tail_any (ops:=[.ref d,_]) dd.typeIs PySem.F.slot_dict_getitem.lookup ?_ hs
 obtain ⟨w',hw,rw'⟩:=ar.some_of (v:=z) (o:=valueAt vs k) (by rw [<- l];exact rel.val k)
 exact wpAny_getItem_of (knd:=sK X.prog X.w) (k:=k) (strKind_is _ _ k t) dd.mapOf hw (z,H,I.tok _,rw',q)
def pF (P:Program) (w:World):TSet:=λo i v H Q=>∃d k kvs,o=.ref d/\i=.str k/\H d=some (kdO (sK P w) d kvs)/\ax kvs k=none/\kvs.length<sizeLine/\Q (upd H d (kdO (sK P w) d (kvs++[(k,v,)])))
theorem set_dictX:nc X (pF X.prog X.w):=by
 intro pins s σ H o i v ov iv u Q I ro ri rv h
 obtain ⟨d,k,kvs,rfl,rfl,e,hn,hl,q⟩:=h
 cases ro
 obtain ⟨t,rfl⟩:=(show ∃t,iv=Value.str k t from ri)
 obtain ⟨ns,hz,vs,rel,dd⟩:=d_U I.hok e
 refine wpAny_setItem_pairs (knd:=sK X.prog X.w) (k:=k) (hsz:=by rw [<- rel.length];exact hz) (strKind_is _ _ k t) dd λh' dd' hs=>(_,?_,q)
 have qn:=ar.none_of (show ar none (valueAt vs k) by rw [<- hn];exact rel.val k)
 rw [c_e qn] at dd'
 exact c_j I (by rw [e];exact True.intro) hs (let ⟨o,_,_,q,_⟩:=dd';(o,q)) (kd_ok ns (by rw [qa5];exact hl) (e_H rel rv) dd')
theorem ii (h:Heap) (hb:sysModules<h.objs.size):b_f P w H (h.push { cls:=.type "dict",data:=.dict #[] }) h.objs.size (kdO (sK P w) h.objs.size []):=
 kd_ok (knd:=sK P w) (beq_eq_false_iff_ne.mpr (Ne.symm (ne_of_lt hb))) (zero_le _) .nil (Heap.DictOf.new h)
def o9 (P:Program) (w:World) (tk tv:TE):TE:=λσ H Q=>∀p,H p=none->tk σ (upd H p (kdO (sK P w) p [])) λx H1=>tv σ H1 λy H2=>H2 p=some (kdO (sK P w) p [])/\∃k,x=.str k/\Q (.ref p) (upd H2 p (kdO (sK P w) p [(k,y,)]))
theorem mv (hk:PE X k tk) (hv:PE X v tv):PE X (.Dict [some k] [v] pos) (o9 X.prog X.w tk tv):=by
 intro pins s σ H Q I h
 have hn:=I.hok.fresh (le_refl s.heap.objs.size)
 have I1:=I.laid (a:=s.heap.objs.size) (o:=kdO (sK X.prog X.w) s.heap.objs.size []) (t':=s.toks) (λ_ _ q=>qa9 { cls:=.type "dict",data:=.dict #[] } q) (le_refl _) (ii s.heap I.bigS)
 have hsh:=zip_pairTrees [some k] [v] X.env pos rfl rfl
 rw [arm_eval_Dict,hsh,dictDisplay_pairs (pairTrees [some k] [v] X.env pos) (by intro z;cases z) (by show 1<17;decide)]
 refine qa7 (wpAny_standAt (qa7 ?_))
 unfold subDict
 refine qa7 (wpAny_alloc (qa7 (wpAny_holding ?_)))
 rw [if_pos (show (pairTrees [some k] [v] X.env pos).length≤15 by show 1≤15;decide)]
 refine qa7 (pairTrees_cons_walk (thn (hk pins _ σ _ _ I1 (h _ hn)) λu s1 ⟨x,H1,I2,rx,q1⟩=>thn (hv pins s1 σ H1 _ I2 q1) λr s2 ⟨y,H2,I3,ry,hp,k,ex,q2⟩=>pairTrees_nil_walk (wpAny_holding (qa7 ?_))))
 rw [forIn_cons]
 subst ex
 obtain ⟨t,rfl⟩:=(show ∃t,u=Value.str k t from rx)
 obtain ⟨ns,hz,vs,rel,dd⟩:=d_U (knd:=sK X.prog X.w) (kvs:=[]) I3.hok hp
 refine qa7 (qa7 (wpAny_dictSet_pairs (knd:=sK X.prog X.w) (k:=k) (hsz:=by rw [<- rel.length];exact hz) (strKind_is _ _ k t) dd λh' dd' hs=>qa8 ?_))
 dsimp only
 rw [forIn_nil]
 refine qa8 (qa8 (qa8 (qa8 (.ref s.heap.objs.size,_,?_,rfl,q2))))
 have qn:=ar.none_of (show ar none (valueAt vs k) from rel.val k)
 rw [c_e qn] at dd'
 exact c_j I3 (by rw [hp];exact True.intro) hs (let ⟨o,_,_,q,_⟩:=dd';(o,q)) (kd_ok ns (a_d (by show 1≤16777216;decide)) (e_H (kvs:=[]) rel ry) dd')
end
end L2
namespace RA
open PySem L2
def kvX:LL->Nat->List (Str×V)
 | [],_=>[]
 | k::r,n=>(tx k,.int (n:Int),)::kvX r (n+1)
theorem iq:∀(ts:LL) (n:Nat),(kvX ts n).length=ts.length
 | [],_=>rfl
 | k::r,n=>by rw [kvX,length_cons,length_cons,iq r]
theorem eH (k:LN):∀(ts:LL) (n:Nat),kvX (ts++[k]) n=kvX ts n++[(tx k,.int ((n+ts.length:Nat):Int),)]
 | [],n=>rfl
 | t::r,n=>by
  rw [cons_append,kvX,eH k r (n+1),kvX,cons_append,length_cons,show n+1+r.length=n+(r.length+1) by lia]
theorem h_w {m:LN}:∀{ts:LL} {n:Nat},ax (kvX ts n) (tx m)=(ixO ts m).map λ(i:Nat)=>V.int ((n+i:Nat):Int)
 | [],_=>rfl
 | t::r,n=>by
  by_cases e:t=m
  .subst e
   rw [kvX,g_P (k:=tx t) rfl,ixO,if_pos (by simp),List.idxOf_cons_self]
   rfl
  .rw [kvX,e_X (λz=>e (tx_inj z)),h_w (n:=n+1),h_x e]
   cases ixO r m with
   | none=>rfl
   | some i=>
    show some (V.int ((n+1+i:Nat):Int))=some (V.int ((n+(i+1):Nat):Int))
    rw [show n+1+i=n+(i+1) by lia]
end RA
namespace RA
open PySem PySem.StrLaws Builtin Builtin.Str L2
theorem fK (x:Str):Txt.slice x (some (-((s+1:Nat):Int))) none=tx (x.cps.toList.drop (x.cps.toList.length - (s+1))):=by
 have hl:x.length=x.cps.toList.length:=by simp [length]
 have go:Txt.slice x (some (-((s+1:Nat):Int))) none=Txt.slice x (some ((x.cps.toList.length - (s+1):Nat):Int)) none:=by
  have e1:strSliceIndices (some (-((s+1:Nat):Int))) none 1 x.length=strSliceIndices (some ((x.cps.toList.length - (s+1):Nat):Int)) none 1 x.length:=by
   have a:(-((s+1:Nat):Int))<0:=by lia
   have b:¬ (((x.cps.toList.length - (s+1):Nat):Int)<0):=by lia
   rw [hl]
   have m:max 0 (min (-((s+1:Nat):Int)+((x.cps.toList.length:Nat):Int)) ((x.cps.toList.length:Nat):Int))=max 0 (min ((x.cps.toList.length - (s+1):Nat):Int) ((x.cps.toList.length:Nat):Int)):=by lia
   unfold strSliceIndices
   simp only [a,b,if_true,if_false]
   rw [if_pos (show (1:Int) > 0 by decide),m]
   rfl
  unfold Txt.slice
  rw [e1]
 rw [go,e_u x (by lia) (by lia),toNat_natCast]
theorem eB {α:Type} [DecidableEq α]:∀{a b:List α},a.Nodup->(∀c∈a,c∈b)->a.length≤b.length
 | [],_,_,_=>zero_le _
 | x::a,b,h,k=>by
  rw [nodup_cons] at h
  have hx:x∈b:=k x mem_cons_self
  have:=eB (a:=a) (b:=b.erase x) h.2 λc hc=>(List.mem_erase_of_ne (λz:c=x=>h.1 (by rw [<- z];exact hc))).mpr (k c (mem_cons_of_mem _ hc))
  rw [List.length_erase_of_mem hx] at this
  have:=List.length_pos_of_mem hx
  rw [length_cons]
  lia
def b_i (L:LN):Nat->LL
 | 0=>[[]]
 | s+1=>[]::L.flatMap λc=>(b_i L s).map (c::·)
theorem g_z {L:LN}:∀{s:Nat} {w:LN},w.length≤s->(∀c∈w,c∈L)->w∈b_i L s
 | 0,[],_,_=>by simp [b_i]
 | s+1,[],_,_=>by simp [b_i]
 | s+1,c::w,h,hw=>by
  refine mem_cons_of_mem _ (mem_flatMap.mpr (c,hw c (by simp),mem_map.mpr (w,g_z (by simpa using h) (λd hd=>hw d (by simp [hd])),rfl)))
theorem c_d (L:LN) (s:Nat):(b_i L (s+1)).length=1+L.length * (b_i L s).length:=by
 have h:∀(l:LL) (L:LN),(L.flatMap λc=>l.map (c::·)).length=L.length * l.length:=λl L=>by
  induction L with
  | nil=>simp
  | cons c r ih=>rw [List.flatMap_cons,qa5,ih,qa4,length_cons,succ_mul,add_comm]
 rw [b_i,length_cons,h,add_comm]
theorem iM (h1:1≤L.length) (h3:L.length≤3) (hs:(L.length=1/\s≤6)\/(L.length=2/\s≤2)\/(L.length=3/\s≤1)):(b_i L s).length≤7:=by
 have z:(b_i L 0).length=1:=rfl
 have e1:(b_i L 1).length=1+L.length * (b_i L 0).length:=c_d L 0
 have e2:(b_i L 2).length=1+L.length * (b_i L 1).length:=c_d L 1
 have e3:(b_i L 3).length=1+L.length * (b_i L 2).length:=c_d L 2
 have e4:(b_i L 4).length=1+L.length * (b_i L 3).length:=c_d L 3
 have e5:(b_i L 5).length=1+L.length * (b_i L 4).length:=c_d L 4
 have e6:(b_i L 6).length=1+L.length * (b_i L 5).length:=c_d L 5
 rcases hs with ⟨e,h⟩|⟨e,h⟩|⟨e,h⟩
 .rw [e,z] at e1
  rw [e,e1] at e2
  rw [e,e2] at e3
  rw [e,e3] at e4
  rw [e,e4] at e5
  rw [e,e5] at e6
  have:s=0\/s=1\/s=2\/s=3\/s=4\/s=5\/s=6:=by clear e1 e2 e3 e4 e5 e6 z;lia
  rcases this with rfl|rfl|rfl|rfl|rfl|rfl|rfl
  .rw [z];decide
  .rw [e1];decide
  .rw [e2];decide
  .rw [e3];decide
  .rw [e4];decide
  .rw [e5];decide
  .rw [e6];decide
 .rw [e,z] at e1
  rw [e,e1] at e2
  have:s=0\/s=1\/s=2:=by clear e1 e2 e3 e4 e5 e6 z;lia
  rcases this with rfl|rfl|rfl
  .rw [z];decide
  .rw [e1];decide
  .rw [e2];decide
 .rw [e,z] at e1
  have:s=0\/s=1:=by clear e1 e2 e3 e4 e5 e6 z;lia
  rcases this with rfl|rfl
  .rw [z];decide
  .rw [e1];decide
end RA
namespace L2
open PySem PySem.Spec PyProof.Rows
theorem ints_eqB (h:xs.length=ys.length):((List.range xs.length).all λj=>eqV ((RA.intsV xs).getD j .non) ((RA.intsV ys).getD j .non))=decide (xs=ys):=by
 rw [Bool.eq_iff_iff,all_eq_true,decide_eq_true_eq]
 have at_:∀{l:LN} {j:Nat} (hj:j<l.length),(RA.intsV l).getD j .non=.int ((l[j]:Nat):Int):=λ{l j} hj=>by
  rw [qa3,RA.intsV,qa6,qa2 hj]
  rfl
 constructor
 .intro z
  refine List.ext_getElem h λj h1 h2=>?_
  have e:=z j (mem_range.mpr h1)
  rw [at_ h1,at_ h2] at e
  exact Int.ofNat.inj (eq_of_beq e)
 .rintro rfl j hj
  rw [at_ (mem_range.mp hj)]
  exact beq_self_eq_true _
theorem rc_ints {σ:St} (I:Inv X pins σ H s) (hp:SqT X.K H p (RA.intsV xs)) (hq:SqT X.K H q (RA.intsV ys)) (hl:xs.length=ys.length) (hu:A.units<cLine):SeqAt.RcAt A s (.ref p) (.ref q) (decide (xs=ys)):=by
 obtain ⟨its,r1,pl1,hz1⟩:=I.tuple hp
 obtain ⟨its2,r2,pl2,hz2⟩:=I.tuple hq
 have l1:(RA.intsV xs).length=its.length:=r1.length
 have l2:(RA.intsV ys).length=its2.length:=r2.length
 rw [RA.intsV_len] at l1 l2
 have z:=SeqAt.RcAt.tuples (A:=A) (e:=λj=>eqV ((RA.intsV xs).getD j .non) ((RA.intsV ys).getD j .non)) pl1 pl2 hu λj h1 h2=>by
  have hj1:j<(RA.intsV xs).length:=by rw [RA.intsV_len,l1];simpa using h1
  have hj2:j<(RA.intsV ys).length:=by rw [RA.intsV_len,l2];simpa using h2
  obtain ⟨a,ea,ra⟩:=r1.get (i:=j) (qa2 hj1)
  obtain ⟨b,eb,rb⟩:=r2.get (i:=j) (qa2 hj2)
  have e:=eqAt_V (A:=A.in1) (s:=s) ra rb (all_eq_true.mp (RA.g_E xs) _ (getElem_mem hj1)) (all_eq_true.mp (RA.g_E ys) _ (getElem_mem hj2))
  obtain ⟨_,e1⟩:=qa1 ea
  obtain ⟨_,e2⟩:=qa1 eb
  simp only [List.getElem_toArray,e1,e2,qa3,qa2 hj1,qa2 hj2,Option.getD_some]
  exact e
 have e1:min its.toArray.size its2.toArray.size=xs.length:=by simp;lia
 have e2:(its.toArray.size==its2.toArray.size)=true:=by simp;lia
 rw [e1,e2,ints_eqB hl,Bool.and_true] at z
 exact z
theorem b_F (h:RA.intsV a=RA.intsV b):a=b:=List.map_inj_right (λ_ _ z=>Int.ofNat.inj (V.int.inj z)) |>.mp h
def mq (K:Frag):V->List V->Hp->VK->Prop:=λx vs H Q=>∃(l b:Addr) (xs:List V) (ks:LL) (k:LN),x=.ref l/\vs=[.ref b]/\H l=some (.lst xs)/\RA.b_e .t H ks xs/\(∀k'∈ks,k'.length=k.length)/\H b=some (.tup (RA.intsV k))/\k∈ks/\Q (.int (ks.idxOf k:Nat)) H
theorem mt_indexT (hu:X.A.units+64<cLine):MtR X "list.index" (mq X.K):=by
 intro pins s σ H x vs v us Q I rx rv h
 obtain ⟨l,b,xs,ks,k,rfl,rfl,hH,hth,hkl,hb,hm,q⟩:=h
 cases rx
 obtain ⟨u,rfl,ru⟩:=rv.one
 cases ru
 obtain ⟨z,its,n,r,hl,e⟩:=I.lstM hH
 have hxl:xs.length=ks.length:=hth.1
 have hlen:its.length=ks.length:=by rw [<- r.length,hxl]
 have hlt:ks.idxOf k<ks.length:=idxOf_lt_length_of_mem hm
 have at_:∀(j:Nat) (hj:j<its.toArray.size),∃(hk:j<ks.length) (a:Addr),its.toArray[j]=.ref a/\H a=some (.tup (RA.intsV ks[j])):=λj hj=>by
  have hk:j<ks.length:=by simpa [hlen] using hj
  have hx:j<xs.length:=by rw [hxl];exact hk
  have ht:=hth.2 j _ _ (qa2 hk) (qa2 hx)
  unfold RA.ThV at ht
  rw [if_neg (by decide)] at ht
  obtain ⟨a,e1,e2⟩:=ht
  have e2:H a=some (.tup (RA.intsV ks[j])):=e2
  obtain ⟨w,ew,rw'⟩:=r.get (i:=j) (qa2 hx)
  rw [e1] at rw'
  cases rw'
  obtain ⟨_,q⟩:=qa1 ew
  exact (hk,a,by simpa using q,e2)
 have hsm:((ks.idxOf k:Nat):Int)<2 ^ 63 - 1:=by
  have h9:xs.length≤sizeLine:=(I.lst hH).choose_spec.choose_spec.2.2
  rw [hxl,sizeLine_eq] at h9
  lia
 refine call_meets slot_list_index (_,e,rfl) PySem.F.entry_list_index (PySem.F.args_list_index_2 _ _) (SeqAt.list_indexAt l its.toArray n none #[] (.ref b) (λy=>match y with|.ref a=>(match H a with|some (.tup zs)=>decide (zs=RA.intsV k)|_=>false)|_=>false) (ks.idxOf k) (by simpa [hlen] using hlt) hsm ?_ ?_) (e,?_,(.int _,H,I.tok _,(_,rfl),q))
 .obtain ⟨hk,a,e1,e2⟩:=at_ (ks.idxOf k) (by simpa [hlen] using hlt)
  rw [e1]
  dsimp only
  rw [e2]
  dsimp only
  rw [getElem_idxOf hk]
  exact decide_eq_true rfl
 .intro m hm2 hlt2
  obtain ⟨hk,a,e1,e2⟩:=at_ m hm2
  rw [e1]
  dsimp only
  rw [e2]
  dsimp only
  refine decide_eq_false λz=>?_
  have y:=List.not_of_lt_findIdx (xs:=ks) (p:=(·==k)) hlt2
  rw [b_F z] at y
  simp at y
 .intro y hy
  obtain ⟨j,hj,rfl⟩:=mem_iff_getElem.mp hy
  obtain ⟨hk,a,e1,e2⟩:=at_ j hj
  rw [e1]
  dsimp only
  rw [e2]
  dsimp only
  have ed:decide (RA.intsV ks[j]=RA.intsV k)=decide (ks[j]=k):=decide_eq_decide.mpr (b_F,λz=>by rw [z])
  rw [ed]
  by_cases hab:a=b
  .subst hab
   rw [hb] at e2
   rw [decide_eq_true (b_F (HO.tup.inj (Option.some.inj e2)).symm)]
   exact SeqAt.EqAt.same _
  .exact SeqAt.EqAt.of_refs hab (rc_ints I (SqT.of e2) (SqT.of hb) (hkl _ (getElem_mem hk)) (by show X.A.units+1<cLine;lia))
def rCatV:R2:=λx y H Q=>∃a b xs ys,x=.ref a/\y=.ref b/\H a=some (.tup xs)/\H b=some (.tup ys)/\xs.length+ys.length≤sizeLine/\∀p H',Same H H'->H' p=some (.tup (xs++ys))->Q (.ref p) H'
theorem f_y:OpR X (binaryOp .Add) rCatV:=by
 intro pins s σ H x y v u Q I rx ry h
 obtain ⟨a,b,xs,ys,rfl,rfl,ha,hb,hz,q⟩:=h
 by_cases hx:xs=[]
 .subst hx
  cases rx
  cases ry
  obtain ⟨its,r1,p1,_⟩:=I.tuple (SqT.of ha)
  obtain ⟨its2,r2,p2,_⟩:=I.tuple (SqT.of hb)
  obtain ⟨⟨cls,dd,data,sl⟩,ho,hc,n,hd⟩:=id p1
  obtain ⟨⟨cls2,dd2,data2,sl2⟩,ho2,hc2,n2,hd2⟩:=id p2
  simp only at hc hd hc2 hd2
  subst hc hd hc2 hd2
  exact concat_meets (_,ho,rfl) (_,ho2,rfl) noFill_tuple_add seq_tuple_add PySem.F.slot_tuple_add PySem.F.entry_tuple_add (PySem.F.args_tuple_add_2 _ _)
   (tuple_addW0 a b its.toArray its2.toArray n n2 dd dd2 sl sl2 (by simpa using r1.nil_iff.mpr rfl)) (ho,ho2,(.ref b,H,I,rfl,q b H (λ_ _ e=>e) hb))
 .refine mG pins s σ H _ _ v u Q I rx ry (a,b,xs,ys,rfl,rfl,SqT.of ha,SqT.of hb,hx,hz,λz=>?_,λz p hp=>?_)
  .subst z
   exact q a H (λ_ _ e=>e) (by rw [append_nil];exact ha)
  .exact q p _ (Same.upd hp) upd_same
end L2
namespace RA
theorem sIx_nat (n d k:Nat):HT.sIx n d (some (k:Int))=min k n:=by
 unfold HT.sIx
 dsimp only
 rw [if_neg (by lia),toNat_natCast]
open PySem L2
def e_f (ts:LL) (s:Nat):LL:=ts.flatMap λt=>(List.range s).map λm=>t++[m]
structure Tal (ts:LL) (S:LN):Prop where
 mem:∀t,t∈ts↔t.length=S.length/\∀k,k<S.length->t.getD k 0<S.getD k 0
theorem Tal.nil:Tal [[]] []:=⟨λt=>by
 rw [mem_singleton]
 exact (λe=>by rw [e];exact (rfl,λk hk=>absurd hk (not_lt_zero _)),λh=>length_eq_zero_iff.mp h.1)⟩
theorem jj:t∈e_f ts s↔∃t0∈ts,∃m,m<s/\t=t0++[m]:=by
 unfold e_f
 rw [mem_flatMap]
 constructor
 .rintro ⟨t0,h0,h⟩
  obtain ⟨m,hm,rfl⟩:=mem_map.mp h
  exact (t0,h0,m,mem_range.mp hm,rfl)
 .rintro ⟨t0,h0,m,hm,rfl⟩
  exact (t0,h0,mem_map.mpr (m,mem_range.mpr hm,rfl))
theorem e_l {a b:LN} (h:k<a.length):(a++b).getD k 0=a.getD k 0:=by
 rw [qa3,qa3,getElem?_append_left h]
theorem e_k:(a++m::b).getD a.length 0=m:=by
 rw [qa3,getElem?_append_right (le_refl _),sub_self]
 rfl
theorem Tal.next (h:Tal ts S) (s:Nat):Tal (e_f ts s) (S++[s]):=⟨λt=>by
 rw [jj,qa5]
 constructor
 .rintro ⟨t0,h0,m,hm,rfl⟩
  obtain ⟨e,hb⟩:=(h.mem t0).mp h0
  refine (by rw [qa5,e];rfl,λk hk=>?_)
  by_cases z:k<S.length
  .rw [e_l (by rw [e];exact z),e_l z]
   exact hb k z
  .have:k=S.length:=by simp at hk;lia
   subst this
   rw [e_k,show S.length=t0.length from e.symm,e_k]
   exact hm
 .rintro ⟨e,hb⟩
  have hne:t≠[]:=λz=>by rw [z] at e;simp at e
  have ed:t=t.dropLast++[t.getLast hne]:=(dropLast_concat_getLast hne).symm
  have dl:t.dropLast.length=S.length:=by rw [List.length_dropLast,e];simp
  refine (t.dropLast,(h.mem _).mpr (dl,λk hk=>?_),t.getLast hne,?_,ed)
  .have:=hb k (by simp;lia)
   rw [ed,e_l (by rw [dl];exact hk),e_l hk] at this
   exact this
  .have:=hb S.length (by simp)
   rw [ed,e_k,<- dl,e_k] at this
   exact this⟩
theorem f_J (ts:LL) (s:Nat):(e_f ts s).length=ts.length * s:=by
 unfold e_f
 induction ts with
 | nil=>simp
 | cons t r ih=>rw [List.flatMap_cons,qa5,ih,qa4,length_range,length_cons,succ_mul,add_comm]
theorem Tal.put (h:Tal ts S) (ht:t∈ts) (hk:k<S.length) (hm:m<S.getD k 0):t.take k++[m]++t.drop (k+1)∈ts:=by
 obtain ⟨e,hb⟩:=(h.mem t).mp ht
 have kl:(t.take k).length=k:=by rw [length_take];lia
 refine (h.mem _).mpr (?_,λj hj=>?_)
 .rw [qa5,qa5,kl,length_drop,e]
  simp
  lia
 .by_cases e1:j<k
  .rw [append_assoc,e_l (by rw [kl];exact e1)]
   have:(t.take k).getD j 0=t.getD j 0:=by rw [qa3,qa3,List.getElem?_take_of_lt e1]
   rw [this]
   exact hb j hj
  .by_cases e2:j=k
   .subst e2
    have:=e_k (a:=t.take j) (b:=t.drop (j+1)) (m:=m)
    rw [kl] at this
    rw [append_assoc]
    show (t.take j++m::t.drop (j+1)).getD j 0<_
    rw [this]
    exact hm
   .have l1:(t.take k++[m]).length=k+1:=by rw [qa5,kl];rfl
    have:(t.take k++[m]++t.drop (k+1)).getD j 0=t.getD j 0:=by
     rw [qa3,qa3,getElem?_append_right (by rw [l1];lia),l1,List.getElem?_drop,show k+1+(j - (k+1))=j by lia]
    rw [this]
    exact hb j hj
end RA
namespace RA
open PySem L2
theorem g9 {P:LN->Prop} (h0:P []) (hs:∀l c,P l->P (l++[c])):∀l,P l:=λl=>by
 have:∀n (l:LN),l.length=n->P l:=λn=>by
  induction n with
  | zero=>intro l e;rw [length_eq_zero_iff.mp e];exact h0
  | succ n ih=>
   intro l e
   have hne:l≠[]:=λz=>by rw [z] at e;cases e
   rw [<- dropLast_concat_getLast hne]
   exact hs _ _ (ih _ (by rw [List.length_dropLast,e];rfl))
 exact this _ l rfl
section
variable {L:LN} {W:LL} {B:List Bool} {ks ws:LL}
end
end RA
namespace L2
open PySem PySem.Spec PyProof.Rows
section
variable {X:Cx} {elt iter:Expr} {x y:Str} {px py pt pos:Pos} {kt:Nat} {sc:Scope} {wi:TI} {te:TE} {tt:TT} {ifs:List Expr}
def f_g (K:Frag) (wi:TI) (tt:TT) (te:TE):TE:=λσ H Q=>wi σ H λJ H1=>∀D,H1 D=none->∃W:Nat->Nat->List V->Hp->Prop,
 (∃m,W 0 m [] (upd H1 D (.lst [])))/\∀i m ys H2,W i m ys H2->H2 D=some (.lst ys)/\((J.stop i H2/\Q (.ref D) H2)\/(J.go i H2/\ys.length<sizeLine/\∀x H3,J.yld i H2 x H3->
  ∃p a b,x=.ref p/\SqT K H3 p [a,b]/\tt (some a::some b::σ) H3 λbo H4=>if bo=true then te (some a::some b::σ) H4 λy H5=>H5 D=some (.lst ys)/\∃m',m'<m/\W (i+1) m' (ys++[y]) (upd H5 D (.lst (ys++[y]))) else ∃m',m'<m/\W (i+1) m' ys H4))
theorem gm {st:Shared} (Z:Nat->Shared->Prop)
  (go:∀k t,Z k t->wpAny (model pg wd) B (pyNext gi) (λr t1=>match r with
   | none=>Rf (.ok .next) t1
   | some u=>wpAny (model pg wd) B (letOwnedTupleGo tg gi u) (λ_ t2=>wpAny (model pg wd) B (assign tg en u) (λ_ t3=>
     wpAny (model pg wd) B (forIn ifs true λc r=>if r=true then do let ok <- isTrue c en (eval c en);pure (ForInStep.yield ok) else pure (ForInStep.yield r)) (λyes t4=>
      if yes=true then wpAny (model pg wd) B (eval elt en) (λz t5=>wpAny (model pg wd) B (call (.builtin "list.append") [ga,z]) (λ_ t6=>∃j,j<k/\Z j t6) (notedBy (model pg wd) B en λe s'=>Rf (.error e) s') t5) (notedBy (model pg wd) B en λe s'=>Rf (.error e) s') t4
      else ∃j,j<k/\Z j t4) (notedBy (model pg wd) B en λe s'=>Rf (.error e) s') t3) (notedBy (model pg wd) B en λe s'=>Rf (.error e) s') t2) (notedBy (model pg wd) B en λe s'=>Rf (.error e) s') t1) (notedBy (model pg wd) B en λe s'=>Rf (.error e) s') t)
  (k:Nat) (hz:Z k st):codeAny (model pg wd) B (.compLoop (.ListComp elt [(tg,iter,ifs,0)] sc pos) 0 gi ga en) Rf st:=by
 have keep:∀{α:Type} {x:Sem α} {Q1 Q2:α->Shared->Prop} {N:Value->Shared->Prop} {t:Shared},wpAny (model pg wd) B x Q1 N t->(∀a t',Q1 a t'->Q2 a t')->wpAny (model pg wd) B x Q2 N t:=λh f=>wpAny_mono h f λ_ _ z=>z
 refine codeAny_loop rfl Z (λk t hk=>?_) k hz
 show wpAny _ B ((compTurn (.ListComp elt [(tg,iter,ifs,0)] sc pos) 0 gi ga en).onRaise λx=>do noteFrame x en;theTreesLotGoes x) _ _ t
 refine wpAny_noted ?_
 rw [compTurn_list]
 refine qa7 (wpAny_standAt (qa7 (keep (go k t hk) λr t1 h1=>?_)))
 match r,h1 with
 | none,h1=>exact qa8 h1
 | some u,h1=>
  refine qa7 (keep h1 λ_ t2 h2=>qa7 (keep h2 λ_ t3 h3=>qa7 (keep h3 λyes t4 h4=>?_)))
  match yes,h4 with
  | false,h4=>exact qa8 (rfl,h4)
  | true,h4=>exact qa7 (qa7 (keep h4 λz t5 h5=>qa7 (keep h5 λ_ t6 h6=>qa8 (qa8 (rfl,h6)))))
end
section
variable {X:Cx} {elt iter tg:Expr} {x y:Str} {px py pt pos:Pos} {kt:Nat} {sc:Scope} {wi:TI} {te:TE} {tt:TT} {ifs:List Expr}
theorem comp_core {ns:List Str} {gx:V->Hp->List V->Prop} (N2:List Str) (hc:X.calm=true) (hN2:(ns++N2).Nodup) (hi:PI X tg iter wi)
  (hb:∀(cl:List (Str×Addr)) (C:Addr) (fp:List Addr) (s:Shared) (H:Hp),PTs { cxComp X x sc cl C fp s H with N:=ns++N2 } ifs tt/\PE { cxComp X x sc cl C fp s H with N:=ns++N2 } elt te)
  (hpg:∀(cl:List (Str×Addr)) (C:Addr) (fp:List Addr) (s0:Shared) (H0:Hp) (pins:List (Addr×Obj)) (s:Shared) (σ:St) (os:List (Option V)) (H:Hp) (y:V) (u:Value) (vs:List V),os.length=ns.length->gx y H vs->Inv { cxComp X x sc cl C fp s0 H0 with N:=ns++N2 } pins (os++σ) H s->ad y u->wpAny (model X.prog X.w) X.A (assign tg (compEnvC sc cl C X.env) u) (λ_ s'=>Inv { cxComp X x sc cl C fp s0 H0 with N:=ns++N2 } pins (vs.map some++σ) H s') (λ_ _=>False) s)
  (hkind:sc.kind=.function) (hnames:∀y∈sc.names,y.2=.local->sc.names.lookup y.1=some .local) (hcell:∀y∈sc.names,y.2≠.cell)
  (hfree:(sc.names.all λy=>y.2 != .free || X.env.scope.names.lookup y.1==some .cell || X.env.scope.names.lookup y.1==some .free)=true)
  (hlo:(N2.all λy=>sc.names.lookup y != some .local)=true) (hl2:N2.length=X.N.length) (hz2:((N2.zip X.N).all λy=>y.1==y.2 || sc.names.lookup y.1==none)=true)
  (hs:∀x,foldedSetIterable iter X.env x=pure x) {σ:St} {Q:VK} (I:Inv X pins σ H s) (h:wi σ H R)
  (hR:∀J H1,R J H1->∀D,H1 D=none->∃W:Nat->Nat->List V->Hp->Prop,(∃m,W 0 m [] (upd H1 D (.lst [])))/\∀i m ys H2,W i m ys H2->H2 D=some (.lst ys)/\((J.stop i H2/\Q (.ref D) H2)\/(J.go i H2/\ys.length<sizeLine/\∀x H3,J.yld i H2 x H3->
   ∃vs,vs.length=ns.length/\gx x H3 vs/\tt (vs.map some++σ) H3 λbo H4=>if bo=true then te (vs.map some++σ) H4 λy H5=>H5 D=some (.lst ys)/\∃m',m'<m/\W (i+1) m' (ys++[y]) (upd H5 D (.lst (ys++[y]))) else ∃m',m'<m/\W (i+1) m' ys H4)))
  (fin:∀{s2 s4:Shared} {H2 H3:Hp} {fp:List Addr} {cl:List (Str×Addr)} {D C:Addr} {os:List (Option V)},Inv X pins σ H2 s2->(∀b∈fp,aG X pins H2 b)->(∀b o,s2.heap.get? b=some o->b≠C)->s2.heap.objs.size≤C->Inv { cxComp X x sc cl C fp s2 H2 with N:=ns++N2 } [] (os++σ) H3 s4->Q (.ref D) H3->compPost (model X.prog X.w) X.A X.xe use QQ (.ref D) C (.ok .next) s4):
  wpAny (model X.prog X.w) X.A (comprehension (.ListComp elt [(tg,iter,ifs,0)] sc pos) sc X.env p (newList []) false (eval iter X.env) use) QQ X.xe s:=by
 have hfr:∀y∈sc.names,y.2=.free->(X.env.kindOf y.1=some .cell\/X.env.kindOf y.1=some .free):=λy hy e=>by
  have q:=all_eq_true.mp hfree y hy
  rw [e] at q
  simpa [Env.kindOf] using q
 have hlo':∀y∈N2,sc.names.lookup y≠some .local:=λy hy e=>by
  have q:=all_eq_true.mp hlo y hy
  rw [e] at q
  simp at q
 obtain ⟨cl,hclos,hsub,hhas⟩:=g_L (env:=X.env) (sc:=sc) λy hy e=>I.ok.has y.1 (hfr y hy e)
 refine wpAny_comprehension_free rfl hs hclos hkind hnames (thn (hi pins s σ H _ I h) λv s1 h1=>thn h1 λitv s2 h2=>?_)
 obtain ⟨it,fp,tn,J,H2,e,I2,T,st2,f2,hW⟩:=h2
 subst e

 have nobinds:∀y∈([]:List (Str×Value)),sc.names.lookup y.1=some .local:=λy hy=>absurd hy (by simp)
 refine wpAny_newObj_type ?_
 refine wpAny_newFunctionEnv hcell nobinds (λh₁ hns₁ hsb₁=>?_) hkind
 dsimp only at hns₁ hsb₁ ⊢
 generalize hHa:s2.heap.push { cls:=.type "list",dict:=none,data:=.seq ([]:List Value).toArray }=Ha at hns₁ hsb₁ ⊢
 have hC:Ha.objs.size=s2.heap.objs.size+1:=by rw [<- hHa,size_push]
 have hDC:s2.heap.objs.size≠Ha.objs.size:=by rw [hC];exact ne_of_lt (lt_succ_self _)
 have hCle:s2.heap.objs.size≤Ha.objs.size:=by rw [hC];exact Nat.le_succ _
 have neC:∀b o,s2.heap.get? b=some o->b≠Ha.objs.size:=λb o e=>ne_of_lt (lt_of_lt_of_le (lt_size e) hCle)
 have old:∀b o,s2.heap.get? b=some o->h₁.get? b=some o:=λb o e=>hsb₁.extBut b o (neC b o e) (qa9 _ (hHa▸qa9 _ e))
 have hacc:h₁.get? s2.heap.objs.size=some { cls:=.type "list",dict:=none,data:=.seq ([]:List Value).toArray }:=hsb₁.extBut _ _ hDC (qa9 _ (hHa▸get?_push_size _ rfl))
 generalize hDe:s2.heap.objs.size=D at *
 generalize hCe:Ha.objs.size=C at *
 have hHD:H2 D=none:=I2.hok.fresh (le_of_eq hDe)
 have hHC:H2 C=none:=I2.hok.fresh (by lia)
 obtain ⟨W,⟨m0,w0⟩,turn⟩:=hR _ _ hW D hHD
 have fplt:∀b∈fp,b<D:=λb hb=>by
  obtain ⟨o,e,_⟩:=T.obj _ _ st2 b hb
  rw [<- hDe]
  exact lt_size e

 let X':Cx:={ cxComp X x sc cl C fp s2 H2 with N:=ns++N2 }
 have nofs:∀b∈fp,b∉frs X.stack:=λb hb z=>by
  rcases mem_cons.mp (I2.stkSub b z) with e|e
  .exact (f2 b hb).2.1 e
  .exact (f2 b hb).2.2.1 e
 have ok':X'.Ok:=by
  refine (I2.ok.mod,hkind,I2.ok.glob,I2.ok.blt,?_,λy z c e1 e2=>I2.ok.inj y z c (hsub y c e1) (hsub z c e2),λy hy=>?_,λy c e=>absurd (show false=true from e) Bool.false_ne_true,I2.ok.hd,I2.ok.frames,.inl rfl,λb hb=>(?_,λy c e=>?_),I2.bs,
   le_trans I2.ok.bsz I2.sz,λb o e hb=>?_,nofs,I2.stack,I2.stkFree)
  .show s2.heap.objs.size≤C
   lia
  .rcases hy with hy|hy
   .rcases relabel_lookup (show (relabel sc X.env).names.lookup y=some .cell from hy) with e|⟨_,e,_⟩
    .exact absurd rfl (hcell _ (PySem.mem_of_lookup e))
    .exact hhas _ (PySem.mem_of_lookup e) rfl
   .rcases relabel_lookup (show (relabel sc X.env).names.lookup y=some .free from hy) with e|⟨e,_⟩
    .exact hhas _ (PySem.mem_of_lookup e) rfl
    .cases e
  .exact ne_of_lt (lt_of_lt_of_le (fplt b hb) (by omega:D≤C))
  .exact (f2 b hb).2.2.2.2.1 y c (hsub y c e)
  .rcases (f2 b hb).2.2.2.1 with z|z
   .exact I2.ok.noex b o e z
   .exact absurd (lt_of_lt_of_le (lt_of_lt_of_le (lt_size e) I2.ok.bsz) z) (lt_irrefl _)
 have I4:∀tk,Inv X' [] (replicate ns.length none++σ) (upd H2 D (.lst [])) { s2 with heap:=h₁,toks:=tk }:=λtk=>by
  refine (ok',rfl,I2.bare,Un.laid old (le_of_eq hDe) hHD,(_,hns₁,λi y' v e1 e2 e3=>?_),λy c e=>?_,?_,λy c e=>?_,λp hp=>?_,I2.hok.laid old (le_of_eq hDe) ?_,?_)
  .have e1:(ns++N2)[i]?=some y':=e1
   by_cases hin:i<ns.length
   .rw [getElem?_append_left (by rw [length_replicate];exact hin),List.getElem?_replicate,if_pos hin] at e2
    cases e2
   .rw [getElem?_append_right (by rw [length_replicate];lia),length_replicate] at e2
    rw [getElem?_append_right (by lia)] at e1
    have e0:=e1
    generalize i - ns.length=i at e0 e1 e2
    have e3:Vis (relabel sc X.env) y':=e3
    have hyN:y'∈N2:=qb2 e0
    have free:sc.names.lookup y'=some .free/\(relabel sc X.env).names.lookup y'≠some .local:=by
     rcases e3 with e|e|e
     .rcases relabel_lookup e with q|⟨q,_⟩
      .exact absurd q (hlo' y' hyN)
      .cases q
     .rcases relabel_lookup e with q|⟨_,q,_⟩
      .exact absurd rfl (hcell _ (PySem.mem_of_lookup q))
      .exact (q,by rw [e];decide)
     .rcases relabel_lookup e with q|⟨q,_⟩
      .exact (q,by rw [e];decide)
      .cases q
    have e1:X.N[i]?=some y':=by
     have hi:i<N2.length:=(qa1 e0).1
     have hi2:i<X.N.length:=by lia
     have hm:(y',X.N[i],)∈N2.zip X.N:=by
      have hz:(N2.zip X.N)[i]?=some (y',X.N[i],):=by
       rw [getElem?_zip_eq_some]
       exact (e0,qa2 hi2)
      exact qb2 hz
     have q:=all_eq_true.mp hz2 _ hm
     rcases Bool.or_eq_true_iff.mp q with q|q
     .have:y'=X.N[i]:=eq_of_beq q
      rw [qa2 hi2,<- this]
     .have q2:sc.names.lookup y'=none:=by simpa using q
      rw [free.1] at q2
      cases q2
    have kc:X.env.kindOf y'=some .cell\/X.env.kindOf y'=some .free:=hfr _ (PySem.mem_of_lookup free.1) rfl
    obtain ⟨m,hn,hl⟩:=I2.loc
    obtain ⟨u,ru,lk⟩:=hl i y' v e1 e2 (.inr kc)
    rcases lk with ⟨q,_⟩|⟨_,c,hcc,⟨o,ho,hd⟩⟩
    .rcases kc with z|z <;> (rw [z] at q;cases q)
    .obtain ⟨c',hc'⟩:=hhas _ (PySem.mem_of_lookup free.1) rfl
     have e4:=hsub _ _ hc'
     rw [hcc] at e4
     cases e4
     refine (u,ru,.inr (?_,c,hc',(o,old c o ho,hd)))
     rcases e3 with e|e|e
     .exact absurd e free.2
     .exact .inl e
     .exact .inr e
  .obtain ⟨v,o,ho,hd⟩:=I2.cell y c (hsub y c e)
   exact (v,o,old c o ho,hd)
  .show upd H2 D (.lst []) C=none
   rw [upd_ne (neA (by lia))]
   exact hHC
  .obtain ⟨v,o,ho,hd⟩:=I2.cell y c (hsub y c e)
   have hlt:=lt_size ho
   rw [hDe] at hlt
   show upd H2 D (.lst []) c=none
   rw [upd_ne (ne_of_lt hlt)]
   exact I2.freeC y c (hsub y c e)
  .exact absurd (show p∈([]:List (Addr×Obj)) from hp) (by simp)
  .exact (zero_le _,[],0,.nil,hacc)
  .show (replicate ns.length none++σ).length=(ns++N2).length
   rw [qa5,qa5,length_replicate,I2.len,hl2]
 obtain ⟨PT',PE'⟩:=hb cl C fp s2 H2
 have fpX:∀{pins':List (Addr×Obj)} {H':Hp},(∀b∈fp,H' b=none)->(∀p∈pins',p.1∉fp)->∀b∈fp,aG X' pins' H' b:=λhn hp b hb=>by
  refine (hn b hb,?_,nofs b hb,.inl hb,λy c e=>(f2 b hb).2.2.2.2.1 y c (hsub y c e),λp q z=>?_)
  .exact ne_of_lt (lt_of_lt_of_le (fplt b hb) (by omega:D≤C))
  .rcases mem_append.mp q with q|q
   .exact absurd (show p∈([]:List (Addr×Obj)) from q) (by simp)
   .exact hp p q (by rw [z];exact hb)
 have loop:∀tk,codeAny (model X.prog X.w) X.A (.compLoop (.ListComp elt [(tg,iter,ifs,0)] sc pos) 0 (.ref it) (.ref D) (compEnvC sc cl C X.env)) (compPost (model X.prog X.w) X.A X.xe use QQ (.ref D) C) { s2 with heap:=h₁,toks:=tk }:=λtk=>by
  refine gm (λn s'=>∃i ys os H',os.length=ns.length/\Inv X' [] (os++σ) H' s'/\tn i s'.heap/\(∀b∈fp,H' b=none)/\W i n ys H') ?_ m0 (0,[],_,_,length_replicate,I4 tk,T.keep _ _ _ st2 λb hb o e=>old b o e,λb hb=>?_,w0)
  .rintro n s3 ⟨i,ys,os,H3,hos,I3,st3,fr3,w3⟩
   obtain ⟨hD3,alt⟩:=turn i n ys H3 w3
   rcases alt with ⟨stop,qn⟩|⟨go,hlen,step⟩
   .refine wpAny_mono (T.done X' rfl rfl rfl hc i [] s3 _ H3 (λ_ _=>False) I3 (fpX fr3 (by simp)) st3 stop) (λr s4 hpq=>?_) λ_ _ f=>f.elim
    obtain ⟨hr,I4'⟩:=hpq
    subst hr
    exact fin I2 f2 neC (by lia) I4' qn
   .refine wpAny_mono (T.item X' rfl rfl rfl hc i [] s3 _ H3 (λ_ _=>False) I3 (fpX fr3 (by simp)) st3 go) (λr s4 hpq=>?_) λ_ _ f=>f.elim
    obtain ⟨u,hr,h4⟩:=hpq
    subst hr
    refine wpAny_mono h4 (λ_ s5 hpq=>?_) λ_ _ f=>f.elim
    obtain ⟨z,H5,I5,r5,y5,st5,fr5⟩:=hpq
    have I5':=I5.pinned (fpX fr5 (by simp)) (T.obj _ _ st5)
    obtain ⟨vs,hvs,hgx,hte⟩:=step z _ y5
    refine wpAny_mono (hpg cl C fp s2 H2 _ s5 σ os H5 z u vs hos hgx I5' r5) (λ_ s6 I6=>?_) λ_ _ f=>f.elim
    refine wpAny_mono (PT' _ s6 _ _ _ I6 hte) (λyes s7 hpq=>?_) λ_ _ f=>f.elim
    obtain ⟨H7,I7,q7⟩:=hpq
    cases yes with
    | false=>
     obtain ⟨m',hm,w8⟩:=q7
     refine (m',hm,i+1,ys,_,_,by rw [qa4];exact hvs,I7.unpinned,T.keep _ _ _ st5 λb hb o e=>(I7.pin (b,o,) (mem_append_right _ (mem_append_right _ (c_f hb e)))).1,λb hb=>?_,w8)
     obtain ⟨o,e,d⟩:=T.obj _ _ st5 b hb
     exact (I7.pin (b,o,) (mem_append_right _ (mem_append_right _ (c_f hb e)))).2.1
    | true=>
    refine wpAny_mono (PE' _ s7 _ _ _ I7 q7) (λz s8 hpq=>?_) λ_ _ f=>f.elim
    obtain ⟨yv,H8,I8,r8,hD8,q8⟩:=hpq
    refine wpAny_mono (bI (X:=X') _ s8 _ H8 (.ref D) [yv] (.ref D) [z] (λ_ H9=>H9=upd H8 D (.lst (ys++[yv]))) I8 rfl (.cons r8 .nil) (D,ys,yv,rfl,rfl,hD8,hlen,rfl)) (λ_ s9 hpq=>?_) λ_ _ f=>f.elim
    obtain ⟨_,H9,I9,_,e9⟩:=hpq
    subst e9
    obtain ⟨m',hm,w8⟩:=q8
    refine (m',hm,i+1,_,_,_,by rw [qa4];exact hvs,I9.unpinned,T.keep _ _ _ st5 λb hb o e=>(I9.pin (b,o,) (mem_append_right _ (mem_append_right _ (c_f hb e)))).1,λb hb=>?_,w8)
    obtain ⟨o,e,d⟩:=T.obj _ _ st5 b hb
    exact (I9.pin (b,o,) (mem_append_right _ (mem_append_right _ (c_f hb e)))).2.1
  .show upd H2 D (.lst []) b=none
   rw [upd_ne (ne_of_lt (fplt b hb))]
   exact (f2 b hb).1
 exact codeAny_compStart_list (loop _) (T.self _ _ _ _ _ (T.keep _ _ _ st2 λb hb o e=>old b o e) (loop _))
theorem h_D {σ σ':St} (I2:Inv X pins σ H2 s2) (f2:∀b∈fp,aG X pins H2 b) (neC:∀b o,s2.heap.get? b=some o->b≠C) (I4':Inv { cxComp X x sc cl C fp s2 H2 with N:=N } [] σ' H3 s4) (qn:Q (.ref D) H3):
  compPost (model X.prog X.w) X.A X.xe none (EP X pins σ Q) (.ref D) C (.ok .next) s4:=by
 obtain ⟨mC,hnC,_⟩:=I4'.loc
 refine (mC,hnC,λh' hs'=>?_)
 have nC:∀b u,H3 b=some u->b≠C:=λb u e z=>by rw [z] at e;rw [show H3 C=none from I4'.free] at e;cases e
 have hok':HOk X.prog X.w H3 h':=λb u e=>(I4'.hok b u e).stay (λc v hcc q=>hs'.extBut c v (by
  rcases hcc with z|z
  .rw [z];exact nC b u e
  .exact nC c _ z) q) (λ_ q=>q) λ_ _ q=>q
 have un:Un (frs X.stack) fp H2 H3 s2.heap h':=
  (λb o e n1 n2 n3=>hs'.extBut b o (neC b o e) (I4'.base.keep b o e n1 n2 n3),λb o e n1 n2 n3=>by
    obtain ⟨sl,q⟩:=I4'.base.slot b o e n1 n2 n3
    exact (sl,hs'.extBut b _ (neC b o e) q),I4'.base.free,λb o e n1=>by
    obtain ⟨o',q⟩:=I4'.base.there b o e n1
    exact (o',hs'.extBut b _ (neC b o e) q),I4'.base.tups,I4'.base.frzs,I4'.base.tbls)
 exact (.ref D,H3,I2.call' (s':={ s4 with heap:=h' }) I4'.os un hok' I4'.bare λb hb=>((f2 b hb).2.2.2.1,(f2 b hb).2.1,(f2 b hb).2.2.2.2.1,(f2 b hb).2.2.2.2.2),rfl,qn)
theorem h_h (hN2:(x::N2).Nodup) (hx:sc.names.lookup x=some .local) (cl:List (Str×Addr)) (C:Addr) (fp:List Addr) (s0:Shared) (H0:Hp) (pins:List (Addr×Obj)) (s:Shared) (σ:St) (os:List (Option V)) (H:Hp) (y:V) (u:Value) (vs:List V) (ho:os.length=1) (hg:vs=[y]) (I:Inv { cxComp X x sc cl C fp s0 H0 with N:=[x]++N2 } pins (os++σ) H s) (r:ad y u):wpAny (model X.prog X.w) X.A (assign (.Name x px) (compEnvC sc cl C X.env) u) (λ_ s'=>Inv { cxComp X x sc cl C fp s0 H0 with N:=[x]++N2 } pins (vs.map some++σ) H s') (λ_ _=>False) s:=by
 match os,ho with
 | [o],_=>
  have hx':(relabel sc X.env).names.lookup x=some .local:=lookup_relabel_local hx
  refine wpAny_mono (h_e (X:={ cxComp X x sc cl C fp s0 H0 with N:=[x]++N2 }) (i:=0) (pos:=px) hN2 rfl (.inl hx') (.inr hx') _ s _ H y u (λσ' H'=>σ'=some y::σ/\H'=H) I r (rfl,rfl)) (λ_ s6 hpq=>?_) λ_ _ f=>f
  obtain ⟨σ6,H6,I6,e1,e2⟩:=hpq
  subst e1 e2 hg
  exact I6
theorem h_g {σ:St} {Q:VK} {J:It} {W:Nat->Nat->List V->Hp->Prop} (h:∀i m ys H2,W i m ys H2->H2 D=some (.lst ys)/\((J.stop i H2/\Q (.ref D) H2)\/(J.go i H2/\ys.length<sizeLine/\∀x H3,J.yld i H2 x H3->tt (some x::σ) H3 λbo H4=>if bo=true then te (some x::σ) H4 λy H5=>H5 D=some (.lst ys)/\∃m',m'<m/\W (i+1) m' (ys++[y]) (upd H5 D (.lst (ys++[y]))) else ∃m',m'<m/\W (i+1) m' ys H4))):
  ∀i m ys H2,W i m ys H2->H2 D=some (.lst ys)/\((J.stop i H2/\Q (.ref D) H2)\/(J.go i H2/\ys.length<sizeLine/\∀x H3,J.yld i H2 x H3->∃vs:List V,vs.length=1/\vs=[x]/\tt (vs.map some++σ) H3 λbo H4=>if bo=true then te (vs.map some++σ) H4 λy H5=>H5 D=some (.lst ys)/\∃m',m'<m/\W (i+1) m' (ys++[y]) (upd H5 D (.lst (ys++[y]))) else ∃m',m'<m/\W (i+1) m' ys H4)):=
 λi m ys H2 w=>(h i m ys H2 w).imp id λb=>b.imp id λb=>(b.1,b.2.1,λx H3 yl=>([x],rfl,rfl,b.2.2 x H3 yl))
theorem a_u (N2:List Str) (hc:X.calm=true) (hN2:(x::N2).Nodup) (hi:PI X (.Name x px) iter wi)
  (hb:∀(cl:List (Str×Addr)) (C:Addr) (fp:List Addr) (s:Shared) (H:Hp),PTs { cxComp X x sc cl C fp s H with N:=x::N2 } ifs tt/\PE { cxComp X x sc cl C fp s H with N:=x::N2 } elt te)
  (hx:sc.names.lookup x=some .local:=by rfl) (hkind:sc.kind=.function:=by rfl)
  (hnames:∀y∈sc.names,y.2=.local->sc.names.lookup y.1=some .local:=by decide +kernel) (hcell:∀y∈sc.names,y.2≠.cell:=by decide +kernel)
  (hfree:(sc.names.all λy=>y.2 != .free || X.env.scope.names.lookup y.1==some .cell)=true:=by rfl)
  (hlo:(N2.all λy=>sc.names.lookup y != some .local)=true:=by rfl) (hl2:N2.length=X.N.length:=by rfl) (hz2:((N2.zip X.N).all λy=>y.1==y.2 || sc.names.lookup y.1==none)=true:=by rfl)
  (hs:∀x,foldedSetIterable iter X.env x=pure x:=by intro _;rfl):
  PE X (.ListComp elt [(.Name x px,iter,ifs,0)] sc pos) (d_E wi tt te):=by
 intro pins s σ H Q I h
 rw [eval_ListComp]
 refine comp_core (ns:=[x]) (gx:=λy _ vs=>vs=[y]) N2 hc hN2 hi hb (h_h hN2 hx) hkind hnames hcell (all_eq_true.mpr λy hy=>by rw [all_eq_true.mp hfree y hy];rfl) hlo hl2 hz2 hs I h (λJ H1 r D hD=>?_) λI2 f2 neC _ I4 q=>h_D I2 f2 neC I4 q
 obtain ⟨W,m,turn⟩:=r D hD
 exact (W,m,h_g turn)
theorem i5 (N2:List Str) (hc:X.calm=true) (hN2:(x::N2).Nodup) (hi:PI X (.Name x px) iter wi)
  (hb:∀(cl:List (Str×Addr)) (C:Addr) (fp:List Addr) (s:Shared) (H:Hp),PTs { cxComp X x sc cl C fp s H with N:=x::N2 } ifs tt/\PE { cxComp X x sc cl C fp s H with N:=x::N2 } elt te)
  (hx:sc.names.lookup x=some .local:=by rfl) (hkind:sc.kind=.function:=by rfl)
  (hnames:∀y∈sc.names,y.2=.local->sc.names.lookup y.1=some .local:=by decide +kernel) (hcell:∀y∈sc.names,y.2≠.cell:=by decide +kernel)
  (hfree:(sc.names.all λy=>y.2 != .free || X.env.scope.names.lookup y.1==some .cell || X.env.scope.names.lookup y.1==some .free)=true:=by rfl)
  (hlo:(N2.all λy=>sc.names.lookup y != some .local)=true:=by rfl) (hl2:N2.length=X.N.length:=by rfl) (hz2:((N2.zip X.N).all λy=>y.1==y.2 || sc.names.lookup y.1==none)=true:=by rfl)
  (hs:∀x,foldedSetIterable iter X.env x=pure x:=by intro _;rfl):
  PE X (.ListComp elt [(.Name x px,iter,ifs,0)] sc pos) (d_E wi tt te):=by
 intro pins s σ H Q I h
 rw [eval_ListComp]
 refine comp_core (ns:=[x]) (gx:=λy _ vs=>vs=[y]) N2 hc hN2 hi hb (h_h hN2 hx) hkind hnames hcell hfree hlo hl2 hz2 hs I h (λJ H1 r D hD=>?_) λI2 f2 neC _ I4 q=>h_D I2 f2 neC I4 q
 obtain ⟨W,m,turn⟩:=r D hD
 exact (W,m,h_g turn)
theorem b_w (N2:List Str) {py spos:Pos} (hc:X.calm=true) (hN:X.N.Nodup) (hN2:(x::N2).Nodup) (hj:X.N[j]?=some y) (hyl:Loc X.env.scope y) (hi:PI X (.Name x px) iter wi)
  (hb:∀(cl:List (Str×Addr)) (C:Addr) (fp:List Addr) (s:Shared) (H:Hp),PTs { cxComp X x sc cl C fp s H with N:=x::N2 } ifs tt/\PE { cxComp X x sc cl C fp s H with N:=x::N2 } elt te)
  (hx:sc.names.lookup x=some .local:=by rfl) (hkind:sc.kind=.function:=by rfl)
  (hnames:∀y∈sc.names,y.2=.local->sc.names.lookup y.1=some .local:=by decide +kernel) (hcell:∀y∈sc.names,y.2≠.cell:=by decide +kernel)
  (hfree:(sc.names.all λy=>y.2 != .free || X.env.scope.names.lookup y.1==some .cell)=true:=by rfl)
  (hlo:(N2.all λy=>sc.names.lookup y != some .local)=true:=by rfl) (hl2:N2.length=X.N.length:=by rfl) (hz2:((N2.zip X.N).all λy=>y.1==y.2 || sc.names.lookup y.1==none)=true:=by rfl)
  (hs:∀x,foldedSetIterable iter X.env x=pure x:=by intro _;rfl) (hsw:swapsWith (.ListComp elt [(.Name x px,iter,ifs,0)] sc pos) (some (.Name y py)) spos.line X.env=pure true:=by rfl)
  (hfy:X.fn y=true\/X.env.scope.names.lookup y=some .local:=by first|exact .inl rfl|exact .inr rfl):
  PS X (.Assign [.Name y py] (.ListComp elt [(.Name x px,iter,ifs,0)] sc pos) spos) (au (d_E wi tt te) (b_y j)):=by
 intro pins s σ H DD I h
 refine comp_used hsw λ_=>comp_core (Q:=λv H1=>b_y j v σ H1 DD.nx) (ns:=[x]) (gx:=λy _ vs=>vs=[y]) N2 hc hN2 hi hb (h_h hN2 hx) hkind hnames hcell (all_eq_true.mpr λy hy=>by rw [all_eq_true.mp hfree y hy];rfl) hlo hl2 hz2 hs I h (λJ H1 r D hD=>?_) λ{s2 s4 H2 H3 fp cl D C os} I2 f2 neC hle I4' qn=>?_
 .obtain ⟨W,m,turn⟩:=r D hD
  exact (W,m,h_g (Q:=λv H1=>b_y j v σ H1 DD.nx) turn)
 obtain ⟨mC,hnC,_⟩:=I4'.loc
 have nC:∀b u,H3 b=some u->b≠C:=λb u e z=>by rw [z] at e;rw [show H3 C=none from I4'.free] at e;cases e
 have un:Un (frs X.stack) fp H2 H3 s2.heap s4.heap:=
  (λb o e n1 n2 n3=>I4'.base.keep b o e n1 n2 n3,λb o e n1 n2 n3=>I4'.base.slot b o e n1 n2 n3,I4'.base.free,λb o e n1=>I4'.base.there b o e n1,I4'.base.tups,I4'.base.frzs,I4'.base.tbls)
 have I5:Inv X pins σ H3 s4:=I2.call' (s':=s4) I4'.os un I4'.hok I4'.bare λb hb=>((f2 b hb).2.2.2.1,(f2 b hb).2.1,(f2 b hb).2.2.2.2.1,(f2 b hb).2.2.2.2.2)
 obtain ⟨oC,epC,esC,hoC,_⟩:=id hnC
 have liveL:∃o,s2.heap.get? X.env.locals=some o:=by obtain ⟨m,⟨o,es,ep,z,_⟩,_⟩:=I2.loc;exact (o,z)
 have neL:X.env.locals≠C:=by obtain ⟨o,z⟩:=liveL;exact neC _ o z
 have neCell:∀y c,X.env.cells.lookup y=some c->c≠C:=λy c e=>by obtain ⟨v,o,r,_⟩:=I2.cell y c e;exact neC c o r
 dsimp only [compPost]
 refine wpAny_assign_Name (bq I5 hN hj hyl (v:=.ref D) rfl (λs6 I6 hpq=>?_) hfy)
 obtain ⟨a,sb,ha⟩:=hpq
 have haC:C≠a:=by
  rcases ha with z|z
  .rw [z];exact Ne.symm neL
  .exact Ne.symm (neCell _ _ z)
 have hoC6:s6.heap.get? C=some oC:=(sb.2 C haC).trans hoC
 refine (mC,hnC.sameBut sb haC,λh'' hs''=>?_)
 have hlt:C<h''.objs.size:=by rw [hs''.1];exact lt_size hoC6
 have hok'':HOk X.prog X.w H3 h'':=λb u e=>(I6.hok b u e).stay (λc v hcc q=>hs''.extBut c v (by
  rcases hcc with z|z
  .rw [z];exact nC b u e
  .exact nC c _ z) q) (λ_ q=>q) λ_ _ q=>q
 have un2:Un (frs X.stack) [C] H3 H3 s6.heap h'':=
  (λb o e n1 n2 n3=>hs''.extBut b o (λz=>n3 (by simp [z])) e,λb o e n1 n2 n3=>(o.slots,hs''.extBut b o (λz=>n3 (by simp [z])) e),λb o e n1 _=>n1,λb o e n1=>(o,hs''.extBut b o (λz=>n1 (by simp [z])) e),λ_ _ q=>q,λ_ _ _ q=>q,λb ps q=>(#[],by rw [Array.append_empty];exact q))
 refine (_,H3,I6.call' (s':={ s6 with heap:=h'' }) rfl un2 hok'' I6.bare (λb hb=>?_),qn)
 have eb:b=C:=by simpa using hb
 subst eb
 refine (.inr (le_trans I2.sz (by omega)),Ne.symm neL,neCell,λp hp z=>?_)
 obtain ⟨z1,_⟩:=I2.pin p hp
 exact neC p.1 p.2 z1 z
theorem c_I (N2:List Str) (hc:X.calm=true) (hN2:(x::y::N2).Nodup) (hi:PI X (.Tuple [.Name x px,.Name y py] kt pt) iter wi)
  (hb:∀(cl:List (Str×Addr)) (C:Addr) (fp:List Addr) (s:Shared) (H:Hp),PTs { cxComp X x sc cl C fp s H with N:=x::y::N2 } ifs tt/\PE { cxComp X x sc cl C fp s H with N:=x::y::N2 } elt te)
  (hx:sc.names.lookup x=some .local:=by rfl) (hy:sc.names.lookup y=some .local:=by rfl) (hkind:sc.kind=.function:=by rfl)
  (hnames:∀y∈sc.names,y.2=.local->sc.names.lookup y.1=some .local:=by decide +kernel) (hcell:∀y∈sc.names,y.2≠.cell:=by decide +kernel)
  (hfree:(sc.names.all λy=>y.2 != .free || X.env.scope.names.lookup y.1==some .cell || X.env.scope.names.lookup y.1==some .free)=true:=by rfl)
  (hlo:(N2.all λy=>sc.names.lookup y != some .local)=true:=by rfl) (hl2:N2.length=X.N.length:=by rfl) (hz2:((N2.zip X.N).all λy=>y.1==y.2 || sc.names.lookup y.1==none)=true:=by rfl)
  (hs:∀x,foldedSetIterable iter X.env x=pure x:=by intro _;rfl):
  PE X (.ListComp elt [(.Tuple [.Name x px,.Name y py] kt pt,iter,ifs,0)] sc pos) (f_g X.K wi tt te):=by
 intro pins s σ H Q I h
 rw [eval_ListComp]
 refine comp_core (ns:=[x,y]) (gx:=λv H vs=>∃p a b,v=.ref p/\SqT X.K H p [a,b]/\vs=[a,b]) N2 hc hN2 hi hb (λcl C fp s0 H0 pins s σ os H v u vs ho hg I5 r5=>?_) hkind hnames hcell hfree hlo hl2 hz2 hs I h (λJ H1 r D hD=>?_) λI2 f2 neC _ I4 q=>h_D I2 f2 neC I4 q
 .match os,ho with
  | [o,o'],_=>
   obtain ⟨p,a1,a2,rfl,hp,rfl⟩:=hg
   have hx':(relabel sc X.env).names.lookup x=some .local:=lookup_relabel_local hx
   have hy':(relabel sc X.env).names.lookup y=some .local:=lookup_relabel_local hy
   have PG':PG { cxComp X x sc cl C fp s0 H0 with N:=[x,y]++N2 } (.Tuple [.Name x px,.Name y py] kt pt) (pX X.K 2 (lA (b_y 0) (lA (b_y 1) gNil))):=e_N hc (a_T (h_e (i:=0) hN2 rfl (.inl hx') (.inr hx')) (a_T (h_e (i:=1) hN2 rfl (.inl hy') (.inr hy')) d_l))
   refine wpAny_mono (PG' _ s _ H (.ref p) u (λσ' H'=>σ'=some a1::some a2::σ/\H'=H) I5 r5 (p,_,rfl,hp,rfl,_,_,rfl,_,_,rfl,rfl,rfl,rfl)) (λ_ s6 hpq=>?_) λ_ _ f=>f
   obtain ⟨σ6,H6,I6,e1,e2⟩:=hpq
   subst e1 e2
   exact I6
 .obtain ⟨W,m,turn⟩:=r D hD
  exact (W,m,λi m ys H2 w=>(turn i m ys H2 w).imp id λb=>b.imp id λb=>(b.1,b.2.1,λv H3 yl=>by
   obtain ⟨p,a1,a2,e,hp,ht⟩:=b.2.2 v H3 yl
   exact ([a1,a2],rfl,(p,a1,a2,e,hp,rfl),ht)))
end
section
variable {X:Cx} {elt iter:Expr} {x y:Str} {px py pt pos:Pos} {kt:Nat} {sc:Scope} {wi:TI} {te:TE}
theorem ku (N2:List Str) (hc:X.calm=true) (hN2:(x::y::N2).Nodup) (hi:PI X (.Tuple [.Name x px,.Name y py] kt pt) iter wi)
  (hb:∀(cl:List (Str×Addr)) (C:Addr) (fp:List Addr) (s:Shared) (H:Hp),PE { cxComp X x sc cl C fp s H with N:=x::y::N2 } elt te)
  (hx:sc.names.lookup x=some .local:=by rfl) (hy:sc.names.lookup y=some .local:=by rfl) (hkind:sc.kind=.function:=by rfl)
  (hnames:∀y∈sc.names,y.2=.local->sc.names.lookup y.1=some .local:=by decide +kernel) (hcell:∀y∈sc.names,y.2≠.cell:=by decide +kernel)
  (hfree:(sc.names.all λy=>y.2 != .free || X.env.scope.names.lookup y.1==some .cell || X.env.scope.names.lookup y.1==some .free)=true:=by rfl)
  (hlo:(N2.all λy=>sc.names.lookup y != some .local)=true:=by rfl) (hl2:N2.length=X.N.length:=by rfl) (hz2:((N2.zip X.N).all λy=>y.1==y.2 || sc.names.lookup y.1==none)=true:=by rfl)
  (hs:∀x,foldedSetIterable iter X.env x=pure x:=by intro _;rfl):
  PE X (.ListComp elt [(.Tuple [.Name x px,.Name y py] kt pt,iter,[],0)] sc pos) (j5 X.K wi te):=c_I N2 hc hN2 hi (λcl C fp s H=>(a_q,hb cl C fp s H)) hx hy hkind hnames hcell hfree hlo hl2 hz2 hs
end
theorem g_a {K:Frag} {J:It} {tt:TT} {te:TE} {σ:St} {Q:VK} (Pr:Nat->V->V->Prop) (Pv:Addr->Nat->List V->Hp->Prop) (hz:n≤sizeLine)
  (j1:∀i H2,Same H H2->i<n->J.go i H2) (j2:∀i H2 x H3,Same H H2->i<n->J.yld i H2 x H3->∃p a b,x=.ref p/\Pr i a b/\H2 p=none/\H3=upd H2 p (.tup [a,b])) (j3:∀H2,Same H H2->J.stop n H2)
  (h0:∀D,H D=none->Pv D 0 [] (upd H D (.lst [])))
  (hs:∀(D:Addr) (i:Nat) (a b:V) (ys:List V) (H' H3:Hp) (R1:VK) (R2:Hp->Prop),H D=none->i<n->Pr i a b->Same H H'->H' D=some (.lst ys)->Pv D i ys H'->Same H' H3->
   (∀y H5,H5 D=some (.lst ys)->Same H (upd H5 D (.lst (ys++[y])))->Pv D (i+1) (ys++[y]) (upd H5 D (.lst (ys++[y])))->R1 y H5)->(∀H4,Same H H4->H4 D=some (.lst ys)->Pv D (i+1) ys H4->R2 H4)->
   tt (some a::some b::σ) H3 λc H4=>if c=true then te (some a::some b::σ) H4 R1 else R2 H4)
  (hq:∀D ys H',H D=none->Same H H'->H' D=some (.lst ys)->Pv D n ys H'->Q (.ref D) H'):∀D,H D=none->∃W:Nat->Nat->List V->Hp->Prop,
   (∃m,W 0 m [] (upd H D (.lst [])))/\∀i m ys H2,W i m ys H2->H2 D=some (.lst ys)/\((J.stop i H2/\Q (.ref D) H2)\/(J.go i H2/\ys.length<sizeLine/\∀x H3,J.yld i H2 x H3->
    ∃p a b,x=.ref p/\SqT K H3 p [a,b]/\tt (some a::some b::σ) H3 λbo H4=>if bo=true then te (some a::some b::σ) H4 λy H5=>H5 D=some (.lst ys)/\∃m',m'<m/\W (i+1) m' (ys++[y]) (upd H5 D (.lst (ys++[y]))) else ∃m',m'<m/\W (i+1) m' ys H4)):=by
 intro D hD
 refine (λi m ys H2=>m=n - i/\i≤n/\ys.length≤i/\Same H H2/\H2 D=some (.lst ys)/\Pv D i ys H2,(n,by simp,zero_le _,by simp,Same.upd hD,upd_same,h0 D hD),?_)
 rintro i m ys H2 ⟨rfl,hi,hy,hsm,hDl,hp⟩
 refine (hDl,?_)
 by_cases hlt:i<n
 .refine .inr (j1 i H2 hsm hlt,lt_of_le_of_lt hy (lt_of_lt_of_le hlt hz),λx H3 hyl=>?_)
  obtain ⟨p,a,b,rfl,hab,hpn,rfl⟩:=j2 i H2 x H3 hsm hlt hyl
  exact (p,a,b,rfl,SqT.of upd_same,hs D i a b ys H2 _ _ _ hD hlt hab hsm hDl hp (Same.upd hpn) (λy H5 e1 e2 e3=>(e1,n - (i+1),sub_succ_lt_self _ _ hlt,rfl,hlt,by rw [qa5];exact Nat.succ_le_succ hy,e2,upd_same,e3)) (λH4 e1 e2 e3=>(n - (i+1),sub_succ_lt_self _ _ hlt,rfl,hlt,Nat.le_succ_of_le hy,e1,e2,e3)))
 .have e:i=n:=le_antisymm hi (le_of_not_lt hlt)
  subst e
  exact .inl (j3 H2 hsm,hq D ys H2 hD hsm hDl hp)
end L2
namespace RA
open PySem L2
end RA
namespace L2
open PySem PySem.Spec PyProof.Rows
section
variable {CX:CXT} {P:Program} {w:World} {K:Frag} {mg:Str->Option Value} {base:Heap} {N fr:List Str} {x:Str} {qual:Str} {scope:Scope} {f:Addr} {cd:Value} {clos:List (Str×Addr)} {A:Around} {outer:List Env} {s:Shared} {H:Hp} {E:XK} {u:Value} {v:V} {fvs:List V}
end
section
variable {X:Cx} {o e:Expr} {es:List Expr} {to:TE} {t:TA} {name:Str} {apos cpos:Pos} {id:String} {r:V->List V->Hp->VK->Prop}
end
end L2
namespace RA
open PySem L2
end RA
namespace L2
open PySem PySem.Spec PyProof.Rows
end L2
namespace RA
open PySem L2
theorem dj {zs:List V} {σ:St} (ht:∀R:List V->Hp->Prop,R [.str (tx cs),.ref d] H->t σ H R) (hK:H d=some (.tup zs)) (hl:cs.length=zs.length) (Pv:Addr->Nat->List V->Hp->Prop) (hz:cs.length≤sizeLine)
  (h0:∀D,H D=none->Pv D 0 [] (L2.upd H D (.lst [])))
  (hs:∀(D:Addr) (i:Nat) (c:Nat) (z:V) (ys:List V) (H' H3:Hp) (R1:VK),H D=none->cs[i]?=some c->zs[i]?=some z->Same H H'->H' D=some (.lst ys)->Pv D i ys H'->Same H' H3->
   (∀y H5,H5 D=some (.lst ys)->Same H (L2.upd H5 D (.lst (ys++[y])))->Pv D (i+1) (ys++[y]) (L2.upd H5 D (.lst (ys++[y])))->R1 y H5)->te (some (.str (tx [c]))::some z::σ) H3 R1)
  (hq:∀D ys H',H D=none->Same H H'->H' D=some (.lst ys)->Pv D cs.length ys H'->Q (.ref D) H'):f_g K (ld t) tAlways te σ H Q:=by
 refine ht _ (_,_,rfl,.inl (tx cs,d,zs,rfl,rfl,hK,λk=>?_))
 have hx:((tx cs).cps.toList.map λc=>V.str ⟨#[c]⟩)=cs.map λc=>V.str (tx [c]):=by rw [a_P];rfl
 have hlen:((tx cs).cps.toList.map λc=>V.str ⟨#[c]⟩).length=cs.length:=by rw [hx,qa4]
 refine g_a (K:=K) (J:=Itg (.tx (tx cs) k) (.tp d)) (n:=cs.length) (λi a b=>∃c,a=.str (tx [c])/\cs[i]?=some c/\zs[i]?=some b) Pv hz (λi H2 s h=>(_,zs,_,zs[i]'(by lia),rfl,s _ _ hK,qa2 (by rw [hlen];exact h),qa2 _)) ?_ (λH2 s=>(_,zs,rfl,s _ _ hK,by rw [hlen];exact hl,hlen.symm)) h0 ?_ hq
 .rintro i H2 x H3 s h ⟨p,as,bs,a,b,e1,e2,e3,e4,e5,e6,e7⟩
  have e1:as=(tx cs).cps.toList.map λc=>V.str ⟨#[c]⟩:=e1
  have e2:H2 d=some (.tup bs):=e2
  rw [s _ _ hK] at e2
  cases e2
  rw [e1,hx,qa6] at e3
  obtain ⟨c,hc,rfl⟩:=qb3 e3
  exact (p,_,b,e5,(c,rfl,hc,e4),e6,e7)
 .rintro D i a b ys H' H3 R1 R2 hD hi ⟨c,rfl,hc,hb⟩ a1 a2 a3 a4 a5 a6
  exact tAlways_if (hs D i c b ys H' H3 R1 hD hc hb a1 a2 a3 a4 a5)
theorem e_n {α β:Type} {f:α->List β} {N:Nat} (h:∀a,(f a).length≤N):∀l:List α,(l.flatMap f).length≤l.length * N
 | []=>by simp
 | a::l=>by
  have:=e_n h l
  have:=h a
  rw [List.flatMap_cons,qa5,length_cons,Nat.add_mul,Nat.one_mul]
  lia
end RA
namespace L2
open PySem PySem.Spec PyProof.Rows
section
variable {X:Cx}
inductive PKV (X:Cx):List (Option Expr)->List Expr->List (Str×V)->Prop where
 | nil:PKV X [] [] []
 | cons {k v:Expr} {ks:List (Option Expr)} {vs:List Expr} {a:Str} {y:V} {kvs:List (Str×V)}:PE X k (tC (.str a))->PE X v (tC y)->PKV X ks vs kvs->PKV X (some k::ks) (v::vs) ((a,y,)::kvs)
def KvR (p:Str×V) (q:Value×Value):Prop:=(∃t,q.1=.str p.1 t)/\ad p.2 q.2
def KvL (kvs:List (Str×V)) (r:List (Value×Value)):Prop:=r.length=kvs.length/\∀(i:Nat) (p:Str×V) (q:Value×Value),kvs[i]?=some p->r[i]?=some q->KvR p q
theorem KvL.cons (h:KvR p q) (hr:KvL kvs r):KvL (p::kvs) (q::r):=(by rw [length_cons,length_cons,hr.1],λi a b e1 e2=>by
 cases i with
 | zero=>cases e1;cases e2;exact h
 | succ i=>exact hr.2 i a b e1 e2)
theorem pkv_walk {σ:St} (h:PKV X ks vs kvs):∀{s:Shared} {Q:List (Value×Value)->Shared->Prop},Inv X pins σ H s->(∀r s',Inv X pins σ H s'->KvL kvs r->Q r s')->wpAny (model X.prog X.w) X.A (evalPairs (pairTrees ks vs X.env pos)) Q X.xe s:=by
 induction h with
 | nil=>exact λI q=>pairTrees_nil_walk (q [] _ I (rfl,λi p q e _=>by cases e))
 | @cons k v ks vs a y kvs hk hv _ ih=>
  intro s Q I q
  refine pairTrees_cons_walk (thn (hk pins s σ H (λx H'=>x=.str a/\H'=H) I (rfl,rfl)) λu s1 hZ0=>?_)
  obtain ⟨x,H1,I1,rx,e1,e2⟩:=hZ0
  subst e1 e2
  refine thn (hv pins s1 σ H1 (λx H'=>x=y/\H'=H1) I1 (rfl,rfl)) λu2 s2 hZ1=>?_
  obtain ⟨x2,H2,I2,rx2,e3,e4⟩:=hZ1
  subst e3 e4
  exact ih I2 λr s3 I3 hr=>q _ _ I3 (KvL.cons (rx,rx2) hr)
theorem me {kvs:List (Str×V)} (h:k∉kvs.map Prod.fst):ax kvs k=none:=by
 induction kvs with
 | nil=>rfl
 | cons p r ih=>
  rw [map_cons,mem_cons,not_or] at h
  rw [e_X λz=>h.1 z.symm]
  exact ih h.2
def nN (P:Program) (w:World) (kvs:List (Str×V)):TE:=λ_ H Q=>∀p H',H p=none->Same H H'->H' p=some (kdO (sK P w) p kvs)->Q (.ref p) H'
theorem kr (hkv:PKV X ks vs kvs) (hn:(kvs.map Prod.fst).Nodup) (h1:0<kvs.length) (h15:kvs.length≤15) (hl:(pairTrees ks vs X.env pos).length=kvs.length:=by rfl) (hz:ks.length=vs.length:=by rfl) (ha:ks.all (·.isSome)=true:=by rfl):PE X (.Dict ks vs pos) (nN X.prog X.w kvs):=by
 intro pins s σ H Q I h
 have hfr:=I.hok.fresh (le_refl s.heap.objs.size)
 have I1:=I.laid (a:=s.heap.objs.size) (o:=kdO (sK X.prog X.w) s.heap.objs.size []) (t':=s.toks) (λ_ _ q=>qa9 { cls:=.type "dict",data:=.dict #[] } q) (le_refl _) (ii s.heap I.bigS)
 have hsh:=zip_pairTrees ks vs X.env pos ha hz
 rw [arm_eval_Dict,hsh,dictDisplay_pairs (pairTrees ks vs X.env pos) (by intro z;rw [z] at hl;rw [<- hl] at h1;exact absurd h1 (lt_irrefl _)) (by rw [hl];exact lt_of_le_of_lt h15 (by decide))]
 refine qa7 (wpAny_standAt (qa7 ?_))
 unfold subDict
 refine qa7 (wpAny_alloc (qa7 (wpAny_holding ?_)))
 rw [if_pos (by rw [hl];exact h15)]
 refine qa7 (pkv_walk hkv I1 λr s1 I2 hr=>wpAny_holding (qa7 ?_))
 have hrl:=hr.1.symm
 refine wpAny_forIn_list _ (λrest _ s'=>∃(i:Nat) (H':Hp),i+rest.length=kvs.length/\rest=r.drop i/\Inv X pins σ H' s'/\H' s.heap.objs.size=some (kdO (sK X.prog X.w) s.heap.objs.size (kvs.take i))/\Same H H') _ ?_ ?_ r _ (0,_,by rw [Nat.zero_add];exact hrl.symm,rfl,I2,upd_same,Same.upd hfr)
 .rintro ⟨u,v⟩ rest _ s2 ⟨i,H',hi,hd,I3,hp,sm⟩
  have hri:r[i]?=some (u,v,):=by
   have:=congrArg (λl=>l[0]?) hd
   simpa using this.symm
  have hik:i<kvs.length:=by rw [length_cons] at hi;lia
  obtain ⟨⟨a,y⟩,hka⟩:∃p,kvs[i]?=some p:=(_,qa2 hik)
  have hR:KvR (a,y,) (u,v,):=hr.2 i _ _ hka hri
  obtain ⟨⟨t,eu⟩,rv⟩:=hR
  have eu:u=.str a t:=eu
  subst eu
  obtain ⟨ns,hz',ws,rel,dd⟩:=d_U (knd:=sK X.prog X.w) I3.hok hp
  refine qa7 (wpAny_dictSet_pairs (knd:=sK X.prog X.w) (k:=a) (hsz:=by rw [<- rel.length];exact hz') (strKind_is _ _ a t) dd λh' dd' hs=>qa8 ?_)
  have hna:ax (kvs.take i) a=none:=me λz=>by
   rw [List.map_take] at z
   obtain ⟨j,hj,e⟩:=List.mem_take_iff_getElem.mp z
   have hj':j<i:=lt_of_lt_of_le hj (Nat.min_le_left _ _)
   have e2:(kvs.map Prod.fst)[i]'(by rw [qa4];exact hik)=a:=by
    rw [List.getElem_map]
    have:=(qa1 hka).2
    rw [this]
   exact absurd ((getElem_inj hn).mp (e.trans e2.symm)) (ne_of_lt hj')
  have qn:=ar.none_of (show ar none (valueAt ws a) by rw [<- hna];exact rel.val a)
  rw [c_e qn] at dd'
  have et:kvs.take (i+1)=kvs.take i++[(a,y,)]:=by rw [take_add_one,hka];rfl
  refine (i+1,upd H' s.heap.objs.size (kdO (sK X.prog X.w) s.heap.objs.size (kvs.take (i+1))),by rw [length_cons] at hi;lia,?_,?_,upd_same,λb o e=>?_)
  .have:=congrArg List.tail hd
   rw [List.tail_cons,List.tail_drop] at this
   exact this
  .rw [et]
   exact c_j I3 (by rw [hp];exact True.intro) hs (let ⟨o,_,_,q,_⟩:=dd';(o,q)) (kd_ok ns (a_d (by rw [qa5,length_take];show _≤16777216;simp;lia)) (e_H rel rv) dd')
  .rw [upd_ne λz=>by rw [z,hfr] at e;cases e]
   exact sm _ _ e
 .rintro _ s2 ⟨i,H',hi,_,I3,hp,sm⟩
  have:i=kvs.length:=by rw [List.length_nil] at hi;omega
  rw [this,take_length] at hp
  exact qa8 (qa8 (qa8 (.ref s.heap.objs.size,H',I3,rfl,h _ _ hfr sm hp)))
def nS (f:Addr) (sp:Sp) (te:TE) (t:TA):TE:=λσ H Q=>te σ H λv H1=>v=.ref f/\t σ H1 λvs H2=>sp (vs++[]) H2 Q E0
theorem ky {k:Nat} {p pos:Pos} (F:aa X.prog X.w X.K X.mg X.base CX0 k f fd ps sp) (hr:ak k X.A) (hk:keepIn X.K (.ref f)=true) (hb:c_n X.K fd ps []) (hv:PE X (.Subscript a b p) te) (ha:PA X (e::es) t)
  (he:starEach (e::es) X.env=(false,eval e X.env,)::starEach es X.env:=by rfl) (hpl:(backTo pos (starEach es X.env)).any (·.1)=false:=by rfl):PE X (.Call (.Subscript a b p) (e::es) [] pos) (nS f sp te t):=by
 intro pins s σ H Q I h
 show wpAny _ _ (do callWith pos (<- eval (.Subscript a b p) X.env) [] (backTo pos (starEach (e::es) X.env)) (backToKw pos (keywordEach [] X.env))) _ _ _
 refine qa7 (thn (hv pins s σ H _ I h) λfv s1 hZ2=>?_)
 obtain ⟨v,H1,I1,rv,ev,q⟩:=hZ2
 subst ev
 obtain rfl:fv=.ref f:=rv
 refine callWith_K (h₀:=X.base) I1.ok.mod.kin hk (thn (ha pos pins s1 σ H1 _ I1 q) λus s2 ⟨vs,H2,I2,r,q2⟩=>(I2.kIn,?_)) he hpl
 exact cH F hr hb .nil d9 I2 r q2
theorem ps_dead {st:Stmt}:PS X st λ_ _ _=>False:=λ_ _ _ _ _ _ h=>h.elim
end
end L2
namespace RA
open PySem L2
end RA
namespace L2
open PySem PySem.Spec PyProof.Rows
section
variable {X:Cx} {elt iter:Expr} {x:Str} {px pos:Pos} {ifs:List Expr} {sc:Scope} {wi:TI} {tt:TT} {te:TE}
end
end L2
namespace RA
open PySem L2
section
variable {L:LN} {W W0:LL} {B B0:List Bool}
def pwr (u:LN) (n:Nat):LN:=(replicate n u).flatten
theorem b_K {a b:LN} (ha:∀c∈a,c∈L) (hb:∀c∈b,c∈L):∀c∈a++b,c∈L:=λc hc=>(mem_append.mp hc).elim (ha c) (hb c)
theorem kj (hu:∀c∈u,c∈L) (n:Nat):∀c∈pwr u n,c∈L:=λc hc=>by
 obtain ⟨l,h1,h2⟩:=List.mem_flatten.mp hc
 rw [(List.mem_replicate.mp h1).2] at h2
 exact hu c h2
end
end RA
namespace L2
open PySem PySem.Spec PyProof.Rows
section
variable {X:Cx}
end
theorem d7 {X:Cx} {k i:Nat} {p pos:Pos} (F:aa X.prog X.w X.K X.mg X.base CX0 k f fd ps sp) (hr:ak k X.A) (hk:keepIn X.K (.ref f)=true)
  (hb:c_n X.K fd ps []) (hv:PE X (.Name x p) (be i)) (ha:PA X (e::es) t) (he:starEach (e::es) X.env=(false,eval e X.env,)::starEach es X.env:=by rfl) (hpl:(backTo pos (starEach es X.env)).any (·.1)=false:=by rfl):
  PE X (.Call (.Name x p) (e::es) [] pos) (j6 i f sp t):=by
 intro pins s σ H Q I h
 refine wpAny_Call_Name_kw (thn (hv pins s σ H (λv H1=>v=.ref f/\H1=H) I (_,h.1,rfl,rfl)) λfv s1 hq=>?_)
 obtain ⟨v,H1,I1,rv,rfl,rfl⟩:=hq
 obtain rfl:fv=.ref f:=rv
 refine callWith_K (h₀:=X.base) I1.ok.mod.kin hk (thn (ha pos pins s1 σ H1 _ I1 h.2) λus s2 ⟨vs,H2,I2,r,q⟩=>(I2.kIn,?_)) he hpl
 exact cH F hr hb .nil d9 I2 r (by rw [append_nil];exact q)
end L2
namespace RA
open PySem L2
theorem iw {c A B:Prop} [Decidable c] (h1:¬ c->A) (h2:c->B):if (!decide c)=true then A else B:=by
 by_cases h:c
 .rw [decide_eq_true h];exact h2 h
 .rw [decide_eq_false h];exact h1 h
theorem nU (v w:LN):Txt.slice (tx w) none (some (((tx v).length:Nat):Int))=tx (w.take v.length):=by
 have e:=dM (tx w) (j:=(((tx v).length:Nat):Int)) (Int.natCast_nonneg _)
 rw [a_P,a_k,toNat_natCast] at e
 rw [a_k]
 exact e
theorem bQ (a:Nat):∀S:LN,inV (.int (a:Int)) (intsV S)=decide (a∈S)
 | []=>rfl
 | x::S=>by
  show (eqV (.int ((x:Nat):Int)) (.int (a:Int)) || inV (.int (a:Int)) (intsV S))=_
  rw [bQ a S,Bool.eq_iff_iff,Bool.or_eq_true,decide_eq_true_eq,decide_eq_true_eq,mem_cons]
  exact or_congr (λz=>(Int.ofNat.inj (eq_of_beq z)).symm,λz=>by rw [z];exact beq_self_eq_true _) Iff.rfl
section
variable {L:LN} {W W0:LL} {B B0:List Bool} {r:Nat} {ks ws R:LL} {Bm:List Bool}
end
section
variable {L:LN} {W W0:LL} {B B0:List Bool}
end
end RA
namespace L2
open PySem
def pJ (neg:Bool):R2:=λx y H Q=>∃(l b:Addr) (xs:List V) (ks:LL) (k:LN),x=.ref b/\y=.ref l/\H l=some (.lst xs)/\RA.b_e .t H ks xs/\(∀k'∈ks,k'.length=k.length)/\H b=some (.tup (RA.intsV k))/\Q (.bl (if neg then !decide (k∈ks) else decide (k∈ks))) H
def inF (H:Hp) (k:LN) (y:Value):Bool:=match y with|.ref a=>(match H a with|some (.tup zs)=>decide (zs=RA.intsV k)|_=>false)|_=>false
theorem nA {X:Cx} {σ:St} (hu:X.A.units+64<cLine) (I:Inv X pins σ H s) (r:ab xs its) (hth:RA.b_e .t H ks xs) (hkl:∀k'∈ks,k'.length=k.length) (hb:H b=some (.tup (RA.intsV k))):
  (∀w∈its.toArray,SeqAt.EqAt X.A.in1 s w (.ref b) (inF H k w))/\its.toArray.any (inF H k)=decide (k∈ks):=by
 have hxl:xs.length=ks.length:=hth.1
 have hlen:its.length=ks.length:=by rw [<- r.length,hxl]
 have at_:∀(j:Nat) (hj:j<its.toArray.size),∃(hk:j<ks.length) (a:Addr),its.toArray[j]=.ref a/\H a=some (.tup (RA.intsV ks[j])):=λj hj=>by
  have hk:j<ks.length:=by simpa [hlen] using hj
  have hx:j<xs.length:=by rw [hxl];exact hk
  have ht:=hth.2 j _ _ (qa2 hk) (qa2 hx)
  unfold RA.ThV at ht
  rw [if_neg (by decide)] at ht
  obtain ⟨a,e1,e2⟩:=ht
  have e2:H a=some (.tup (RA.intsV ks[j])):=e2
  obtain ⟨w,ew,rw'⟩:=r.get (i:=j) (qa2 hx)
  rw [e1] at rw'
  cases rw'
  obtain ⟨_,q⟩:=qa1 ew
  exact (hk,a,by simpa using q,e2)
 have val:∀(j:Nat) (hj:j<its.toArray.size),∃hk:j<ks.length,inF H k its.toArray[j]=decide (ks[j]=k):=λj hj=>by
  obtain ⟨hk,a,e1,e2⟩:=at_ j hj
  refine (hk,?_)
  rw [e1]
  unfold inF
  dsimp only
  rw [e2]
  exact decide_eq_decide.mpr (b_F,λz=>by rw [z])
 constructor
 .intro y hy
  obtain ⟨j,hj,rfl⟩:=mem_iff_getElem.mp hy
  obtain ⟨hk,ev⟩:=val j hj
  obtain ⟨_,a,e1,e2⟩:=at_ j hj
  rw [ev,e1]
  by_cases hab:a=b
  .subst hab
   rw [hb] at e2
   rw [decide_eq_true (b_F (HO.tup.inj (Option.some.inj e2)).symm)]
   exact SeqAt.EqAt.same _
  .exact SeqAt.EqAt.of_refs hab (rc_ints I (SqT.of e2) (SqT.of hb) (hkl _ (getElem_mem hk)) (by show X.A.units+1<cLine;lia))
 .by_cases hm:k∈ks
  .rw [decide_eq_true hm]
   obtain ⟨j,hj,e⟩:=List.getElem_of_mem hm
   have hj':j<its.toArray.size:=by simpa [hlen] using hj
   obtain ⟨_,ev⟩:=val j hj'
   exact Array.any_eq_true.mpr (j,hj',by rw [ev];exact decide_eq_true e)
  .rw [decide_eq_false hm]
   refine eq_false_iff.mpr λz=>hm ?_
   obtain ⟨j,hj,e⟩:=Array.any_eq_true.mp z
   obtain ⟨hk,ev⟩:=val j hj
   rw [ev] at e
   exact (of_decide_eq_true e)▸getElem_mem hk
theorem oo (hu:X.A.units+64<cLine):OpR X (compareOp .In) (pJ false):=by
 intro pins s σ H x y v u Q I rx ry h
 obtain ⟨l,b,xs,ks,k,rfl,rfl,hH,hth,hkl,hb,q⟩:=h
 cases ry
 cases rx
 obtain ⟨its,r,pl,hz⟩:=I.list (SqL.of hH)
 obtain ⟨h1,h2⟩:=nA hu I r hth hkl hb
 refine SeqAt.in_listAt (inF H k) pl.isList h1 (.bl _,H,I,rfl,?_)
 rw [h2]
 exact q
end L2
namespace RA
open PySem L2
section
variable {L:LN} {W W0:LL} {B B0:List Bool}
end
end RA
namespace L2
open PySem
end L2
namespace RA
open PySem L2
section
variable {L:LN} {W:LL} {f:LN->List V} {H H':Hp}
end
section
variable {L:LN} {W W0:LL} {B B0:List Bool}
def Cm (L:LN) (W:LL):Prop:=∀r,r<W.length->∀a∈L,∀b∈L,nxt L W (nxt L W r a) b=nxt L W (nxt L W r b) a
theorem ou (hMa:Mach L W B) (hr:r<W.length) (hc:c∈L):nxt L W r c<W.length:=a_M hMa (w:=[c]) hr λd hd=>by rw [qb1 hd];exact hc
theorem dQ (hMa:Mach L W B) (cm:Cm L W) (p:w.Perm w'):(∀c∈w,c∈L)->∀r,r<W.length->run L W r w=run L W r w':=by
 induction p with
 | nil=>exact λ_ _ _=>rfl
 | cons x p ih=>
  intro h r hr
  rw [run_cons,run_cons]
  exact ih (λc hc=>h c (mem_cons_of_mem _ hc)) _ (ou hMa hr (h x mem_cons_self))
 | swap x y l=>
  intro h r hr
  rw [run_cons,run_cons,run_cons,run_cons,cm r hr y (h y mem_cons_self) x (h x (mem_cons_of_mem _ mem_cons_self))]
 | trans p q ih1 ih2=>
  intro h r hr
  rw [ih1 h r hr]
  exact ih2 (λc hc=>h c (p.mem_iff.mpr hc)) r hr
theorem c_G (hc:c∈L):∀d∈replicate k c,d∈L:=λd hd=>by rw [(List.mem_replicate.mp hd).2];exact hc
def fC (L:LN) (W:LL) (c k:Nat):LN:=(List.range W.length).map λr=>run L W r (replicate k c)
theorem iC:fC L W c i=fC L W c j↔∀r,r<W.length->run L W r (replicate i c)=run L W r (replicate j c):=by
 unfold fC
 constructor
 .intro h r hr
  have:=congrArg (·[r]?) h
  simp only [qa6,getElem?_range hr,map_some] at this
  exact Option.some.inj this
 .exact λh=>map_congr_left λr hr=>h r (mem_range.mp hr)
structure c_m (L:LN) (W:LL) (c low rest:Nat):Prop where
 pos:0<rest
 back:fC L W c (low+rest)=fC L W c low
 apart:∀i j,i<j->j<low+rest->fC L W c i≠fC L W c j
theorem c_m.uniq (h:c_m L W c low rest) (h':c_m L W c low' rest'):low=low'/\rest=rest':=by
 have one:∀{a b a' b':Nat},c_m L W c a b->c_m L W c a' b'->¬ a+b<a'+b':=λ{a b a' b'} h h' hlt=>h'.apart a (a+b) (by have:=h.pos;lia) hlt h.back.symm
 have e:low+rest=low'+rest':=le_antisymm (le_of_not_lt (one h' h)) (le_of_not_lt (one h h'))
 have hl:low=low':=by
  have p1:=h.pos
  have p2:=h'.pos
  rcases lt_trichotomy low low' with z|z|z
  .exact absurd (h.back.symm.trans (by rw [e];exact h'.back)) (h'.apart low low' z (by lia))
  .exact z
  .exact absurd (h'.back.symm.trans (by rw [<- e];exact h.back)) (h.apart low' low z (by lia))
 exact (hl,by lia)
def Rch (L:LN) (W:LL):Prop:=∀r,r<W.length->∃v:LN,(∀c∈v,c∈L)/\run L W 0 v=r
theorem mY (hMa:Mach L W B) (cm:Cm L W) (rc:Rch L W) (hc:c∈L) (h:run L W 0 (replicate i c)=run L W 0 (replicate j c)):fC L W c i=fC L W c j:=by
 refine iC.mpr λr hr=>?_
 obtain ⟨v,hv,rfl⟩:=rc r hr
 have go:∀k,run L W (run L W 0 v) (replicate k c)=run L W (run L W 0 (replicate k c)) v:=λk=>by
  rw [<- a_Q,<- a_Q]
  exact dQ hMa cm List.perm_append_comm (λd hd=>(mem_append.mp hd).elim (hv d) (c_G hc d)) 0 (by have:=hMa.n1;lia)
 rw [go,go,h]
theorem d_q (hMa:Mach L W B) (cm:Cm L W) (rc:Rch L W) (hc:c∈L) (h:∀i j,i<j->j<n->fC L W c i≠fC L W c j):n≤W.length:=by
 have hn:=cj (a:=(List.range n).map λi=>run L W 0 (replicate i c)) (b:=List.range W.length) ?_ ?_
 .rwa [qa4,length_range,length_range] at hn
 .rw [List.Nodup,List.pairwise_map]
  exact List.pairwise_lt_range.imp_of_mem λ{i j} hi hj hij e=>h i j hij (mem_range.mp hj) (mY hMa cm rc hc e)
 .intro x hx
  obtain ⟨i,_,rfl⟩:=mem_map.mp hx
  exact mem_range.mpr (a_M hMa (by have:=hMa.n1;lia) (c_G hc))
def red (low rest m:Nat):Nat:=if m<low then m else low+(m - low) % rest
theorem kg (h:0<rest):red low rest m<low+rest:=by
 unfold red
 by_cases z:m<low
 .rw [if_pos z];lia
 .rw [if_neg z]
  have:=Nat.mod_lt (m - low) h
  lia
theorem f_r (i j:Nat):run L W r (replicate (i+j) c)=run L W (run L W r (replicate i c)) (replicate j c):=by
 rw [<- List.replicate_append_replicate,a_Q]
theorem c_m.red (h:c_m L W c low rest):∀(m:Nat) {r:Nat},r<W.length->run L W r (replicate (RA.red low rest m) c)=run L W r (replicate m c):=by
 have step:∀(k:Nat) {r:Nat},r<W.length->run L W r (replicate (low+rest+k) c)=run L W r (replicate (low+k) c):=λk r hr=>by
  rw [f_r (low+rest) k,iC.mp h.back r hr,<- f_r]
 have many:∀(q k:Nat) {r:Nat},r<W.length->run L W r (replicate (low+(rest * q+k)) c)=run L W r (replicate (low+k) c):=λq=>by
  induction q with
  | zero=>exact λk r hr=>by rw [Nat.mul_zero,Nat.zero_add]
  | succ q ih=>
   intro k r hr
   rw [show low+(rest * (q+1)+k)=low+rest+(rest * q+k) by rw [Nat.mul_succ];lia,step _ hr]
   exact ih k hr
 intro m r hr
 unfold RA.red
 by_cases z:m<low
 .rw [if_pos z]
 .rw [if_neg z]
  have e:=many ((m - low) / rest) ((m - low) % rest) hr
  rw [Nat.div_add_mod,show low+(m - low)=m by lia] at e
  exact e.symm
def wdT:LN->LN->LN
 | c::L,k::ks=>replicate k c++wdT L ks
 | _,_=>[]
def dn (L w:LN):LN:=L.map λc=>w.count c
theorem wdT_in:∀{L ks:LN} {d:Nat},d∈wdT L ks->d∈L
 | [],_,_,h=>by cases h
 | _::_,[],_,h=>by cases h
 | c::L,k::ks,d,h=>by
  rcases mem_append.mp h with z|z
  .rw [(List.mem_replicate.mp z).2];exact mem_cons_self
  .exact mem_cons_of_mem _ (wdT_in z)
theorem wdT_count:∀{L ks:LN},L.Nodup->ks.length=L.length->∀(i c:Nat),L[i]?=some c->(wdT L ks).count c=ks.getD i 0
 | [],_,_,_,i,c,h=>by simp at h
 | a::L,[],_,hl,_,_,_=>by cases hl
 | a::L,k::ks,nd,hl,i,c,h=>by
  obtain ⟨n1,n2⟩:=nodup_cons.mp nd
  show (replicate k a++wdT L ks).count c=_
  rw [count_append]
  cases i with
  | zero=>
   cases h
   rw [List.count_replicate_self,List.count_eq_zero_of_not_mem λz=>n1 (wdT_in z)]
   rfl
  | succ i=>
   have hc:c∈L:=qb2 h
   have hne:¬ (a==c)=true:=λz=>n1 (eq_of_beq z▸hc)
   rw [List.count_replicate,if_neg hne,Nat.zero_add,wdT_count n2 (Nat.succ.inj hl) i c h]
   rfl
theorem lU (nd:L.Nodup) {w:LN} (hw:∀c∈w,c∈L):w.Perm (wdT L (dn L w)):=by
 rw [List.perm_iff_count]
 intro c
 by_cases hc:c∈L
 .obtain ⟨i,hi⟩:=mem_iff_getElem?.mp hc
  rw [wdT_count nd (by rw [dn,qa4]) i c hi,dn,qa3,qa6,hi]
  rfl
 .rw [List.count_eq_zero_of_not_mem λz=>hc (hw c z),List.count_eq_zero_of_not_mem λz=>hc (wdT_in z)]
theorem gP {rows:List (Nat×Nat)}:∀{L' ks:LN} {rows:List (Nat×Nat)},(∀c∈L',c∈L)->rows.length=L'.length->ks.length=L'.length->(∀(i c:Nat) (p:Nat×Nat),L'[i]?=some c->rows[i]?=some p->c_m L W c p.1 p.2)->Mach L W B->∀r,r<W.length->run L W r (wdT L' (zipWith (λp k=>red p.1 p.2 k) rows ks))=run L W r (wdT L' ks)
 | [],_,_,_,_,_,_,_,_,_=>rfl
 | c::L',[],_,_,_,hl,_,_,_,_=>by cases hl
 | c::L',k::ks,[],_,hl,_,_,_,_,_=>by cases hl
 | c::L',k::ks,p::rows,hL,h1,h2,h3,hMa,r,hr=>by
  have hc:=hL c mem_cons_self
  have hR:=h3 0 c p rfl rfl
  show run L W r (replicate (red p.1 p.2 k) c++wdT L' (zipWith (λp k=>red p.1 p.2 k) rows ks))=run L W r (replicate k c++wdT L' ks)
  rw [a_Q,a_Q,hR.red k hr]
  exact gP (rows:=[]) (λd hd=>hL d (mem_cons_of_mem _ hd)) (Nat.succ.inj h1) (Nat.succ.inj h2) (λi c p a b=>h3 (i+1) c p a b) hMa _ (a_M hMa hr (c_G hc))
end
section
variable {L:LN} {W:LL} {B:List Bool}
def mV (W:LL) (B:List Bool) (k i:Nat):Bool:=(List.range i).all λj=>!(lot W B k j==lot W B k i)
theorem fstR_iff:mV W B k i=true↔∀j,j<i->lot W B k j≠lot W B k i:=by
 unfold mV
 rw [all_eq_true]
 constructor
 .intro h j hj e
  have:=h j (mem_range.mpr hj)
  rw [e] at this
  simp at this
 .intro h j hj
  rw [Bool.not_eq_true',beq_eq_false_iff_ne]
  exact h j (mem_range.mp hj)
def m7 (W:LL) (B:List Bool) (k:Nat):Nat:=(List.range W.length).countP (mV W B k)
theorem m6 (k:Nat):m7 W B k≤W.length:=by
 have:=List.countP_le_length (p:=mV W B k) (l:=List.range W.length)
 rwa [length_range] at this
theorem h_v {P:Nat->Prop} (h:P n):∃m,m≤n/\P m/\∀j,j<m->¬ P j:=by
 induction n using Nat.strongRecOn with
 | _ n ih=>
  by_cases hx:∃j,j<n/\P j
  .obtain ⟨j,hj,pj⟩:=hx
   obtain ⟨m,h1,h2,h3⟩:=ih j hj pj
   exact (m,by lia,h2,h3)
  .exact (n,le_refl _,h,λj hj pj=>hx (j,hj,pj))
theorem m5 (hM:Mach L W B) (hx:x<W.length) (hy:y<W.length) (e:lot W B k x=lot W B k y) (ne:lot W B (k+1) x≠lot W B (k+1) y):m7 W B k<m7 W B (k+1):=by
 have fin:∀{a b:Nat},a<W.length->b<W.length->lot W B (k+1) a=lot W B (k+1) b->lot W B k a=lot W B k b:=λha hb h=>((b_h hM ha hb).mp h).1
 refine e_p (λi hi h=>?_) ?_
 .have hi:=mem_range.mp hi
  rw [fstR_iff] at h ⊢
  exact λj hj z=>h j hj (fin (lt_trans hj hi) hi z)
 .
  obtain ⟨m,m1,m2,m3⟩:=h_v (P:=λi=>lot W B k i=lot W B k x) (n:=x) rfl
  have hmW:m<W.length:=by exact lt_of_le_of_lt m1 hx
  obtain ⟨z,hzW,hz1,hz2⟩:∃z,z<W.length/\lot W B k z=lot W B k m/\lot W B (k+1) z≠lot W B (k+1) m:=by
   by_cases h:lot W B (k+1) x=lot W B (k+1) m
   .exact (y,hy,by rw [m2,e],λw=>ne (h.trans w.symm))
   .exact (x,hx,m2.symm,h)
  obtain ⟨i,i1,⟨i2,i3⟩,i4⟩:=h_v (P:=λi=>lot W B k i=lot W B k m/\lot W B (k+1) i≠lot W B (k+1) m) (n:=z) (hz1,hz2)
  have hiW:i<W.length:=by exact lt_of_le_of_lt i1 hzW
  refine (i,mem_range.mpr hiW,fstR_iff.mpr λj hj w=>?_,eq_false_iff.mpr λw=>?_)
  .have hjW:j<W.length:=by exact lt_trans hj hiW
   exact i4 j hj ((fin hjW hiW w).trans i2,λv=>i3 (w.symm.trans v))
  .have hmi:m<i:=by
    rcases lt_trichotomy m i with q|q|q
    .exact q
    .rw [q] at i3;exact absurd rfl i3
    .exact absurd (i2.trans m2) (m3 i q)
   exact fstR_iff.mp w m hmi i2.symm
theorem lot_stab (hM:Mach L W B) {j:Nat} (h:∀x y,x<W.length->y<W.length->lot W B j x=lot W B j y->lot W B (j+1) x=lot W B (j+1) y):∀(d:Nat) {x y:Nat},x<W.length->y<W.length->lot W B j x=lot W B j y->lot W B (j+d) x=lot W B (j+d) y
 | 0,_,_,_,_,e=>e
 | d+1,x,y,hx,hy,e=>by
  refine (b_h hM hx hy).mpr (lot_stab hM h d hx hy e,λq hq=>?_)
  exact lot_stab hM h d (b_c hM hx hq) (b_c hM hy hq) (((b_h hM hx hy).mp (h x y hx hy e)).2 q hq)
theorem h_t (hM:Mach L W B) {x y:Nat} (hx:x<W.length) (hy:y<W.length) {k:Nat}:∀{d:Nat},lot W B (k+d) x=lot W B (k+d) y->lot W B k x=lot W B k y
 | 0,e=>e
 | d+1,e=>h_t hM hx hy (d:=d) ((b_h hM hx hy).mp e).1
theorem bC (hM:Mach L W B) (h:∀j,j<k->∃x y,x<W.length/\y<W.length/\lot W B j x=lot W B j y/\lot W B (j+1) x≠lot W B (j+1) y):k<W.length:=by
 have:∀j,j≤k->j+1≤m7 W B j:=λj=>by
  induction j with
  | zero=>
   intro _
   have n1:0<W.length:=by have:=hM.n1;lia
   exact List.countP_pos_iff.mpr (0,mem_range.mpr n1,fstR_iff.mpr λj hj=>absurd hj (not_lt_zero _))
  | succ j ih=>
   intro hj
   obtain ⟨x,y,hx,hy,e,ne⟩:=h j hj
   have:=m5 hM hx hy e ne
   have:=ih (by lia)
   lia
 have h1:=this k (le_refl _)
 have h2:=m6 (W:=W) (B:=B) k
 lia
theorem ef (h:ba L W B r s (some w)) (hM:Mach L W B) (hr:r<W.length) (hs:s<W.length):w.length<W.length:=by
 rcases h with ⟨e0,_⟩|⟨k,e0,h2,h3⟩
 .cases e0
 .cases e0
  obtain ⟨i1,_⟩:=h_b hM hr hs h2 h3
  rw [i1]
  refine bC hM λj hj=>Classical.byContradiction λhn=>?_
  have st:=lot_stab hM (j:=j) (λx y hx hy e=>Classical.byContradiction λne=>hn (x,y,hx,hy,e,ne)) (k - j) hr hs (h3 j hj)
  rw [show j+(k - j)=k by lia] at st
  exact h2 st
theorem kR (hM:Mach L W B) (hx:x<W.length) (hy:y<W.length) (e:lot W B W.length x=lot W B W.length y) (k:Nat):lot W B k x=lot W B k y:=by
 obtain ⟨j,hj,st⟩:∃j,j<W.length/\∀x y,x<W.length->y<W.length->lot W B j x=lot W B j y->lot W B (j+1) x=lot W B (j+1) y:=by
  refine Classical.byContradiction λhn=>absurd (bC hM (k:=W.length) λj hj=>?_) (lt_irrefl _)
  refine Classical.byContradiction λhm=>hn (j,hj,λx y hx hy e=>Classical.byContradiction λne=>hm (x,y,hx,hy,e,ne))
 have ej:lot W B j x=lot W B j y:=by
  rw [show W.length=j+(W.length - j) by lia] at e
  exact h_t hM hx hy e
 rcases Nat.le_total k j with z|z
 .rw [show j=k+(j - k) by lia] at ej
  exact h_t hM hx hy ej
 .have:=lot_stab hM st (k - j) hx hy ej
  rwa [show j+(k - j)=k by lia] at this
end
theorem dR:∀(n:Nat) (z:LN),z.length=n->((List.range n).map λi=>n - 1 - i).filterMap (λj=>z[j]?)=z.reverse
 | 0,z,h=>by
  obtain rfl:z=[]:=length_eq_zero_iff.mp h
  rfl
 | n+1,z,h=>by
  obtain ⟨ys,c,rfl⟩:∃ys c,z=ys++[c]:=(z.dropLast,z.getLast (by intro e;rw [e] at h;simp at h),(dropLast_concat_getLast _).symm)
  have hl:ys.length=n:=by simpa using h
  rw [List.range_succ_eq_map,map_cons,map_map]
  have h0:(ys++[c])[n+1 - 1 - 0]?=some c:=by rw [Nat.add_sub_cancel,Nat.sub_zero,<- hl];simp
  rw [filterMap_cons,h0,List.reverse_append]
  show c::_=c::ys.reverse
  rw [<- dR n ys hl]
  congr 1
  rw [List.filterMap_map,List.filterMap_map]
  have key:∀(l:LN),(∀i∈l,i<n)->l.filterMap ((λj=>(ys++[c])[j]?) ∘ ((λi=>n+1 - 1 - i) ∘ Nat.succ))=l.filterMap ((λj=>ys[j]?) ∘ λi=>n - 1 - i):=by
   intro l
   induction l with
   | nil=>intro _;rfl
   | cons i l ih=>
    intro hi
    have hin:i<n:=hi i (by simp)
    have e:(ys++[c])[n+1 - 1 - (i+1)]?=ys[n - 1 - i]?:=by
     rw [show n+1 - 1 - (i+1)=n - 1 - i by lia,getElem?_append_left (by omega)]
    rw [filterMap_cons,filterMap_cons]
    rw [show ((λj=>(ys++[c])[j]?) ∘ ((λi=>n+1 - 1 - i) ∘ Nat.succ)) i=((λj=>ys[j]?) ∘ λi=>n - 1 - i) i from e,ih (λj hj=>hi j (by simp [hj]))]
  exact key (List.range n) (λi hi=>mem_range.mp hi)
end RA
namespace L2
open PySem PySem.Spec PyProof.Rows RA
theorem g_w (z:LN) (tk:Tok):(if (((some (((-1:Int)),tk,):Option (Int×Tok)).map (·.1)).getD 1==1&&(slicePicked (tx z) none none (some (-1,tk,))).length==(tx z).length)=true then tx z else ⟨((slicePicked (tx z) none none (some (-1,tk,))).filterMap ((tx z).cps[·]?)).toArray⟩)=tx z.reverse:=by
 rw [if_neg (by simp)]
 have e:slicePicked (tx z) none none (some (-1,tk,))=(List.range z.length).map λi=>z.length - 1 - i:=by
  unfold slicePicked Builtin.Str.strSliceIndices sliceRange
  simp only [Option.map_none,map_some,Option.getD_some,a_k]
  have hn:¬ ((-1:Int) > 0):=by decide
  rw [if_neg hn,if_neg hn,if_neg hn]
  by_cases h0:z.length=0
  .rw [h0]
   rfl
  .rw [if_pos (by lia),show ((((z.length:Nat):Int) - 1 - -1 - -1 - 1) / (- -1)).toNat=z.length by simp]
   refine map_congr_left λi hi=>?_
   have:=mem_range.mp hi
   lia
 rw [e]
 have e2:((List.range z.length).map λi=>z.length - 1 - i).filterMap ((tx z).cps[·]?)=z.reverse:=by
  rw [<- dR z.length z rfl]
  congr 1
  funext j
  exact tx_get z j
 rw [e2]
 rfl
section
variable {X:Cx} {pos:Pos} {e:Expr} {te:TE}
def pe (te:TE) (ts:TO):TE:=λσ H Q=>te σ H λx H1=>ts σ H1 λst H2=>∃z:LN,x=.str (tx z)/\st=some (-1)/\z.length≤16777216/\Q (.str (tx z.reverse)) H2
theorem ic {st:Expr} (he:PE X e te) (hs:PO X (some st) ts):PE X (.Subscript e (.Slice none none (some st) p2) pos) (pe te ts):=by
 intro pins s σ H Q I h
 refine Subscript_ (thn (he pins s σ H _ I h) λv s1 hZ0=>?_)
 obtain ⟨x,H1,I1,r1,q1⟩:=hZ0
 refine wpAny_Slice ?_
 rw [evalPart_none]
 refine qa8 (qa8 (thn (hs pins s1 σ H1 _ I1 q1) λvu s3 hZ1=>?_))
 obtain ⟨u,H3,I3,pu,z,ex,eu,hz,q⟩:=hZ1
 subst ex eu
 obtain ⟨t,rfl⟩:=r1
 cases pu with
 | int i tk=>
 have I4:Inv X pins σ H3 { s3 with heap:=s3.heap.push { cls:=.type "slice",data:=.fields #[.none,.none,.int (-1) tk] } }:=I3.kept (t':=s3.toks) λb ob z=>qa9 _ z
 show wpAny (model X.prog X.w) X.A (subscriptTail e (.Slice none none (some st) p2) (.str (tx z) t) (.ref s3.heap.objs.size)) (EP X pins σ Q) X.xe { s3 with heap:=s3.heap.push { cls:=.type "slice",data:=.fields #[.none,.none,.int (-1) tk] } }
 refine tail_any (ops:=[.str (tx z) t,.ref s3.heap.objs.size]) (typeIs_str _ _ _) PySem.F.slot_str_getitem.lookup ?_ (by with_unfolding_all rfl)
 refine wpAny_getItem_str_slice (l:=none) (u:=none) (st:=some (-1,tk,)) (_,get?_push_size _ rfl,rfl,rfl) rfl (post_val_or_str (?_,λt' k=>?_))
 .rw [g_w,a_k,length_reverse]
  exact a_d hz
 .rw [g_w]
  exact (.str _,H3,I4.tok k,(t',rfl),q)
end
theorem i9 (hu:X.A.units+64<cLine):OpR X (compareOp .NotIn) (pJ true):=by
 intro pins s σ H x y v u Q I rx ry h
 obtain ⟨l,b,xs,ks,k,rfl,rfl,hH,hth,hkl,hb,q⟩:=h
 cases ry
 cases rx
 obtain ⟨its,r,pl,hz⟩:=I.list (SqL.of hH)
 obtain ⟨h1,h2⟩:=nA hu I r hth hkl hb
 refine SeqAt.notIn_listAt (inF H k) pl.isList h1 (.bl _,H,I,rfl,?_)
 rw [h2]
 exact q
end L2
namespace L2
open PySem PySem.Spec PyProof.Rows
def Ite (x:Str):It:=(λi _=>i<x.length,λi H v H'=>∃p c,x.cps[i]?=some c/\v=.ref p/\H p=none/\H'=upd H p (.tup [.int (i:Int),.str ⟨#[c]⟩]),λi _=>x.length≤i)
theorem iS {K:Frag} (x:Str) (t:Tok) (e it:Addr) (hne:e≠it):
  aY P w K (.Tuple es kt pt) (Ite x) [e,it] e (λi h=>i≤x.length/\(∃old,IsEnum h e it i old)/\ZP.strAt x t it i h)  where
 mem:=by simp
 obj:=λi h hZ2 c hc=>by
  obtain ⟨_,⟨old,he⟩,⟨o1,e1,_,d1⟩⟩:=hZ2
  simp only [mem_cons,not_mem_nil,or_false] at hc
  rcases hc with rfl|rfl
  .exact (_,he,λv q=>by cases q)
  .exact (o1,e1,λv q=>by rw [d1] at q;cases q)
 keep:=λi h h' hZ0 k=>by obtain ⟨b1,⟨old,he⟩,⟨o1,e1,r1⟩⟩:=hZ0;exact (b1,(old,k e (by simp) _ he),(o1,k it (by simp) _ e1,r1))
 item:=by
  intro X hP hw hK hc i pins s σ H E I hf ⟨b1,⟨old,he⟩,s1⟩ l1
  subst hP hw hK
  refine wpAny_pyNext_enum_itemD (ZP.draws (A:=X.A.in1) (I.ok.hd hc) it x t) he s1 l1 hne (by simp [hne]) λv g tk pv ho st new hsz gk=>(_,rfl,?_)
  obtain ⟨c,u,hc1,rfl⟩:=pv
  refine wpAny_letOwnedTupleGo_enum (s:={ s with heap:=g,toks:=tk+1 }) ho λg' ge gs=>?_
  have up:∀b o,b≠e->g.get? b=some o->g'.get? b=some o:=λb o hb q=>(gs.2 b hb).trans q
  have ne:s.heap.objs.size≠e:=ne_of_gt (lt_size he)
  have tup:b_f X.prog X.w (upd H s.heap.objs.size (.tup [.int (i:Int),.str ⟨#[c]⟩])) g' s.heap.objs.size (.tup [.int (i:Int),.str ⟨#[c]⟩]):=
   (a_d (by show 2≤16777216;decide),[.int i tk,.str ⟨#[c]⟩ u],.cons (_,rfl) (.cons (_,rfl) .nil),(_,up _ _ ne new,rfl,0,rfl))
  refine (.ref s.heap.objs.size,_,I.turnedNew (S:=[e,it]) (h':=g') (t':=tk+1) (λb o hb q=>up b o (λz=>hb (by simp [z])) (gk b o (λz=>hb (by simp [z])) (λz=>hb (by simp [z])) q)) hf tup,rfl,
   (_,c,hc1,rfl,I.hok.fresh (le_refl _),rfl),(l1,(_,by rw [Int.natCast_succ];exact ge),?_),λb hb=>?_)
  .obtain ⟨o,q,r⟩:=st
   exact (o,up _ _ (λz=>hne z.symm) q,r)
  .have lt:b<s.heap.objs.size:=by
    obtain ⟨o1,e1,_⟩:=s1
    simp only [mem_cons,not_mem_nil,or_false] at hb
    rcases hb with rfl|rfl
    .exact lt_size he
    .exact lt_size e1
   rw [upd_ne (ne_of_lt lt)]
   exact (hf b hb).1
 done:=by
  intro X hP hw hK hc i pins s σ H E I hf ⟨b1,⟨old,he⟩,s1⟩ hstop
  subst hP hw hK
  have hi:i=x.cps.size:=by
   have e1:x.length=x.cps.size:=rfl
   have q:x.length≤i:=hstop
   lia
  subst hi
  refine wpAny_pyNext_enum_endD (ZP.draws (A:=X.A.in1) (I.ok.hd hc) it x t) he s1 λg gs=>(rfl,?_)
  exact I.turnedL (S:=[e,it]) (λb o hb q=>gs b o (λz=>hb (by simp [z])) q) hf
 self:=λ_ _ _ _ _ st h=>by
  obtain ⟨_,⟨old,he⟩,_⟩:=st
  exact wpAny_pyIter_enum he h
def pW (t:TA):TI:=λσ H R=>t σ H λvs H1=>∃x,vs=[.str x]/\R (Ite x) H1
theorem mt {es:List Expr} {kt:Nat} {pt:Pos} {p pos:Pos} (hg:Gl X "enumerate") (hm:X.mg "enumerate"=none) (ha:PA X [a] ta) (hs:starEach [a] X.env=(false,eval a X.env,)::starEach [] X.env:=by rfl)
  (hpl:(backTo pos (starEach [] X.env)).any (·.1)=false:=by rfl):PI X (.Tuple es kt pt) (.Call (.Name "enumerate" p) [a] [] pos) (pW ta):=by
 intro pins s σ H R I h
 refine wpAny_Call_Name_kw (ld_blt I hg hm PyProof.Rows.boot_enumerate (PyProof.Rows.callWith_type1 (thn (ha pos pins s σ H _ I h) λus s1 z=>?_) hs hpl))
 obtain ⟨vs,H1,I1,r1,x,rfl,q⟩:=z
 obtain ⟨u1,rfl,t,rfl⟩:=d_C r1
 refine call_enumerate_str λg ge gi gz gk=>wpAny_pyIter_enum (s:={ s1 with heap:=g }) ge ?_
 refine (_,[s1.heap.objs.size+1,s1.heap.objs.size],_,Ite x,H1,rfl,I1.kept (t':=s1.toks) gk,iS x t _ _ (neA (by lia)),(zero_le _,(_,ge),gi),λc hc=>?_,q)
 have hge:s1.heap.objs.size≤c:=by
  simp only [mem_cons,not_mem_nil,or_false] at hc
  rcases hc with rfl|rfl
  .exact le_add_right _ _
  .exact le_refl _
 exact I1.fpOk hge (I1.hok.fresh hge)
theorem for_enum {g:TG} {tb:TS} {D:aK} (Pv:Nat->St->Hp->Prop) (h0:Pv 0 σ H)
  (hs:∀i c p σ H,x.cps[i]?=some c->H p=none->Pv i σ H->g (.ref p) σ (upd H p (.tup [.int (i:Int),.str ⟨#[c]⟩])) λσ2 H2=>tb { D with nx:=Pv (i+1),ct:=Pv (i+1),bk:=D.nx } σ2 H2)
  (hd:∀ σ H,Pv x.length σ H->D.nx σ H):
  ∃W:Nat->Nat->St->Hp->Prop,(∃m,W 0 m σ H)/\∀i m σ H,W i m σ H->
   ((Ite x).stop i H/\D.nx σ H)\/((Ite x).go i H/\∃N:St->Hp->Prop,(∀ σ' H',N σ' H'->∃m',m'<m/\W (i+1) m' σ' H')/\∀v H',(Ite x).yld i H v H'->g v σ H' λσ2 H2=>tb { D with nx:=N,ct:=N,bk:=D.nx } σ2 H2):=by
 refine (λi m σ H=>m=x.length - i/\i≤x.length/\Pv i σ H,(x.length,by simp,zero_le _,h0),?_)
 rintro i m σ H ⟨rfl,hi,p⟩
 by_cases hlt:i<x.length
 .refine .inr (hlt,Pv (i+1),λσ' H' p'=>(x.length - (i+1),by omega,rfl,hlt,p'),λv H' q=>?_)
  obtain ⟨a,c,e1,rfl,e3,rfl⟩:=q
  exact hs i c a σ H e1 e3 p
 .have e:i=x.length:=by lia
  subst e
  exact .inl (le_refl _,hd σ H p)
end L2
namespace L2
open PySem RA
theorem bZ (htl:∀R:VK,R (.str (tx z)) H->tl σ H R) (Pv:Addr->Nat->List V->Hp->Prop) (hz:z.length≤sizeLine)
  (h0:∀D,H D=none->Pv D 0 [] (L2.upd H D (.lst [])))
  (hs:∀(D:Addr) (i c:Nat) (ys:List V) (H':Hp) (R1:VK) (R2:Hp->Prop),H D=none->z[i]?=some c->Same H H'->H' D=some (.lst ys)->Pv D i ys H'->
   (∀y H5,H5 D=some (.lst ys)->Same H (L2.upd H5 D (.lst (ys++[y])))->Pv D (i+1) (ys++[y]) (L2.upd H5 D (.lst (ys++[y])))->R1 y H5)->(∀H4,Same H H4->H4 D=some (.lst ys)->Pv D (i+1) ys H4->R2 H4)->
   tt (some (.str (tx [c]))::σ) H' λb H4=>if b=true then te (some (.str (tx [c]))::σ) H4 R1 else R2 H4)
  (hq:∀D ys H',H D=none->Same H H'->H' D=some (.lst ys)->Pv D z.length ys H'->Q (.ref D) H'):d_E (oR tl) tt te σ H Q:=by
 have hl:(z.map λc=>V.str (tx [c])).length=(tx z).length:=by rw [qa4,a_k]
 have hl2:(z.map λc=>V.str (tx [c])).length=z.length:=qa4 _
 have hgc:∀{i:Nat} {c:Nat},(tx z).cps[i]?=some c->(z.map λc=>V.str (tx [c]))[i]?=some (.str (tx [c])):=λ{i c} e=>by
  have:(tx z).cps.toList[i]?=some c:=by rw [getElem?_toList];exact e
  rw [a_P] at this
  rw [qa6,this]
  rfl
 refine htl _ (_,rfl,jC (J:=Its (tx z)) (xs:=z.map λc=>V.str (tx [c])) Pv (by rw [hl2];exact hz) ?_ ?_ ?_ h0 (λD i v ys H' R1 R2 hD hx a b c d e=>?_) (by rw [hl2];exact hq))
 .intro i H2 _ hi
  rw [hl] at hi
  exact hi
 .rintro i H2 x H3 _ ⟨e,c,hc,rfl⟩
  exact (e,hgc hc)
 .intro H2 _
  show (tx z).length≤_
  rw [hl]
  exact le_refl _
 .rw [qa6] at hx
  obtain ⟨c',hc,rfl⟩:=qb3 hx
  exact hs D i c' ys H' R1 R2 hD hc a b c d e
end L2
namespace RA
open PySem L2
theorem gw (ws:LL):Txt.join Str.empty (ws.map tx)=tx ws.flatten:=by
 unfold Txt.join
 rw [PySem.StrLaws.glued_eq_join]
 induction ws with
 | nil=>rfl
 | cons a r ih=>
  cases r with
  | nil=>
   show tx a=_
   rw [flatten_cons,List.flatten_nil,append_nil]
  | cons b r=>
   show tx a++Str.empty++Str.join Str.empty ((b::r).map tx)=_
   rw [ih,Str.append_empty,flatten_cons (L:=b::r)]
   exact c_o a _
def prA (L:LN) (n:Nat):LL:=(List.range n).flatMap λj=>(L.drop (j+1)).map λb=>[L.getD j 0,b]
theorem dY (L:LN) (n:Nat):prA L (n+1)=prA L n++(L.drop (n+1)).map λb=>[L.getD n 0,b]:=by
 unfold prA
 rw [range_succ,List.flatMap_append,List.flatMap_singleton]
theorem prA_in (h:p∈prA L L.length):∃a∈L,∃b∈L,p=[a,b]:=by
 unfold prA at h
 obtain ⟨j,hj,hp⟩:=mem_flatMap.mp h
 obtain ⟨b,hb,rfl⟩:=mem_map.mp hp
 have hj:=mem_range.mp hj
 exact (_,da (ws:=L) hj,b,List.mem_of_mem_drop hb,rfl)
theorem mr (hi:i<j) (hj:j<L.length):[L.getD i 0,L.getD j 0]∈prA L L.length:=by
 unfold prA
 refine mem_flatMap.mpr (i,mem_range.mpr (lt_trans hi hj),mem_map.mpr (L.getD j 0,?_,rfl))
 refine mem_iff_getElem?.mpr (j - (i+1),?_)
 rw [List.getElem?_drop,show i+1+(j - (i+1))=j by omega,qa3,qa2 hj]
 rfl
theorem ib (L:LN) (h:L.length≤3):∀n,(prA L n).length≤n * 3
 | 0=>zero_le _
 | n+1=>by
  rw [dY,qa5,qa4,length_drop]
  have:=ib L h n
  lia
theorem pZ (hMa:Mach L W B) (h:∀r,r<W.length->∀p∈prA L L.length,run L W r p=run L W r p.reverse):Cm L W:=λr hr a ha b hb=>by
 have key:∀{i j:Nat},i<j->j<L.length->nxt L W (nxt L W r (L.getD i 0)) (L.getD j 0)=nxt L W (nxt L W r (L.getD j 0)) (L.getD i 0):=λhi hj=>h r hr _ (mr hi hj)
 obtain ⟨i,hi,rfl⟩:=List.getElem_of_mem ha
 obtain ⟨j,hj,rfl⟩:=List.getElem_of_mem hb
 have gi:L.getD i 0=L[i]:=by rw [qa3,qa2 hi];rfl
 have gj:L.getD j 0=L[j]:=by rw [qa3,qa2 hj];rfl
 rcases lt_trichotomy i j with z|z|z
 .have:=key z hj
  rwa [gi,gj] at this
 .subst z;rfl
 .have:=key z hi
  rw [gi,gj] at this
  exact this.symm
section
variable {L:LN} {W:LL} {B:List Bool}
def aD (H:Hp) (ts:List Addr) (rows:List (Nat×Nat)):Prop:=ts.length=rows.length/\∀(i:Nat) (t:Addr) (p:Nat×Nat),ts[i]?=some t->rows[i]?=some p->H t=some (.tup [.int (p.1:Int),.int (p.2:Int)])
theorem aD.keep (h:aD H ts rows) (s:∀b xs,H b=some (.tup xs)->H' b=some (.tup xs)):aD H' ts rows:=(h.1,λi t p a b=>s _ _ (h.2 i t p a b))
theorem aD.snoc (h:aD H ts rows) (e:H t=some (.tup [.int (p.1:Int),.int (p.2:Int)])):aD H (ts++[t]) (rows++[p]):=by
 refine (by rw [qa5,qa5,h.1];rfl,λi u s a b=>?_)
 have hi:=(qa1 a).1
 rw [qa5] at hi
 rcases lt_succ_iff_lt_or_eq.mp hi with z|z
 .rw [getElem?_append_left z] at a
  rw [getElem?_append_left (by rw [<- h.1];exact z)] at b
  exact h.2 i u s a b
 .have z:i=ts.length:=z
  rw [z,getElem?_append_right (le_refl _),sub_self] at a
  rw [z,h.1,getElem?_append_right (le_refl _),sub_self] at b
  cases a
  cases b
  exact e
def aA (n:Nat) (c:LN):LL:=(List.range n).map λk=>c++[k]
def celF (ns:LN):LL:=ns.foldl (λcs n=>cs.flatMap (aA n)) [[]]
theorem e_q (ns:LN) (n:Nat):celF (ns++[n])=(celF ns).flatMap (aA n):=by
 unfold celF
 rw [List.foldl_append]
 rfl
theorem d_v (ns ks:LN):ks∈celF ns↔ks.length=ns.length/\∀(i k n:Nat),ks[i]?=some k->ns[i]?=some n->k<n:=by
 induction ns using g9 generalizing ks with
 | h0=>
  show ks∈[[]]↔_
  rw [mem_singleton]
  exact (λh=>by rw [h];exact (rfl,λi k n a=>by simp at a),λh=>length_eq_zero_iff.mp h.1)
 | hs ns n ih=>
  rw [e_q,mem_flatMap]
  constructor
  .rintro ⟨c,hc,hk⟩
   obtain ⟨h1,h2⟩:=(ih c).mp hc
   obtain ⟨k,hkn,rfl⟩:=mem_map.mp hk
   refine (by rw [qa5,qa5,h1];rfl,λi x y a b=>?_)
   have hi:=(qa1 a).1
   rw [qa5] at hi
   rcases lt_succ_iff_lt_or_eq.mp hi with z|z
   .rw [getElem?_append_left z] at a
    rw [getElem?_append_left (by rw [<- h1];exact z)] at b
    exact h2 i x y a b
   .have z:i=c.length:=z
    rw [z,getElem?_append_right (le_refl _),sub_self] at a
    rw [z,h1,getElem?_append_right (le_refl _),sub_self] at b
    cases a
    cases b
    exact mem_range.mp hkn
  .rintro ⟨h1,h2⟩
   rcases List.eq_nil_or_concat ks with rfl|⟨c,k,rfl⟩
   .rw [qa5] at h1;cases h1
   .rw [List.concat_eq_append] at h1 h2 ⊢
    rw [qa5,qa5] at h1
    have h1:c.length=ns.length:=Nat.succ.inj h1
    refine (c,(ih c).mpr (h1,λi x y a b=>h2 i x y (by rw [getElem?_append_left (qa1 a).1];exact a) (by rw [getElem?_append_left (qa1 b).1];exact b)),mem_map.mpr (k,mem_range.mpr (h2 c.length k n (by simp) (by rw [h1];simp)),rfl))
theorem f_d (ns:LN) (h:∀n∈ns,n≤8):(celF ns).length≤8 ^ ns.length:=by
 induction ns using g9 with
 | h0=>exact le_refl _
 | hs ns n ih=>
  rw [e_q,qa5]
  have h1:=ih λm hm=>h m (mem_append_left _ hm)
  have h2:((celF ns).flatMap (aA n)).length≤(celF ns).length * 8:=e_n (λa=>by rw [aA,qa4,length_range];exact h n (by simp)) _
  show _≤8 ^ (ns.length+1)
  rw [Nat.pow_succ]
  lia
theorem cg:∀(L ks:LN),(zipWith (λc k=>replicate k c) L ks).flatten=wdT L ks
 | [],_=>rfl
 | _::_,[]=>rfl
 | c::L,k::ks=>by
  show replicate k c++(zipWith _ L ks).flatten=_
  rw [cg L ks]
  rfl
def tabT (L:LN) (W:LL) (B:List Bool) (rows:List (Nat×Nat)):LL:=(celF (rows.map λp=>p.1+p.2)).filter λks=>B.getD (run L W 0 (wdT L ks)) false
theorem jT:∀(L ks:LN),(∀k∈ks,k≤8)->(wdT L ks).length≤L.length * 8
 | [],_,_=>zero_le _
 | _::_,[],_=>zero_le _
 | c::L,k::ks,h=>by
  show (replicate k c++wdT L ks).length≤_
  rw [qa5,length_replicate,length_cons,succ_mul]
  have:=jT L ks λx hx=>h x (mem_cons_of_mem _ hx)
  have:=h k mem_cons_self
  lia
def d_a (L:LN) (rows:List (Nat×Nat)) (w:LN):LN:=zipWith (λp k=>red p.1 p.2 k) rows (dn L w)
theorem fJ (hMa:Mach L W B) (cm:Cm L W) (hl:rows.length=L.length) (hr:∀(i c:Nat) (p:Nat×Nat),L[i]?=some c->rows[i]?=some p->c_m L W c p.1 p.2) (hw:∀c∈w,c∈L):B.getD (run L W 0 w) false=decide (d_a L rows w∈tabT L W B rows):=by
 have n1:0<W.length:=by have:=hMa.n1;lia
 have cl:(dn L w).length=L.length:=by rw [dn,qa4]
 have e:run L W 0 w=run L W 0 (wdT L (d_a L rows w)):=by
  rw [dQ hMa cm (lU hMa.lt.nd hw) hw 0 n1]
  exact (gP (rows:=[]) (λc hc=>hc) hl cl hr hMa 0 n1).symm
 have hin:d_a L rows w∈celF (rows.map λp=>p.1+p.2):=by
  refine (d_v _ _).mpr (by rw [d_a,List.length_zipWith,cl,hl,Nat.min_self,qa4,hl],λi k n a b=>?_)
  rw [qa6] at b
  obtain ⟨p,hp,rfl⟩:=qb3 b
  rw [d_a,List.getElem?_zipWith] at a
  have hi:i<L.length:=by rw [<- hl];exact (qa1 hp).1
  rw [hp,qa2 (by rw [cl];exact hi)] at a
  cases a
  exact kg (hr i _ p (qa2 hi) hp).pos
 rw [e]
 unfold tabT
 cases eb:B.getD (run L W 0 (wdT L (d_a L rows w))) false with
 | true=>exact (decide_eq_true (mem_filter.mpr (hin,eb))).symm
 | false=>exact (decide_eq_false λz=>by rw [(mem_filter.mp z).2] at eb;cases eb).symm
end
end RA
namespace L2
open PySem
theorem lJ {α:Type} [DecidableEq α] {A:Around} {s:Shared} {x:Value} {its:List Value} {ks:List α} {k:α} (hl:its.length=ks.length) (eqs:∀(j:Nat) (h1:j<its.length) (h2:j<ks.length),SeqAt.EqAt A s its[j] x (decide (ks[j]=k))) (inj:∀(i j:Nat) (h1:i<its.length) (h2:j<its.length) (h3:i<ks.length) (h4:j<ks.length),its[i]=its[j]->ks[i]=ks[j]):
  ∃e:Value->Bool,(∀y∈its.toArray,SeqAt.EqAt A s y x (e y))/\∀(j:Nat) (h1:j<its.length) (h2:j<ks.length),e its[j]=decide (ks[j]=k):=by
 refine (λy=>@decide (∃(j:Nat) (h1:j<its.length) (h2:j<ks.length),its[j]=y/\ks[j]=k) (Classical.propDecidable _),?_,?_)
 all_goals
  have val:∀(j:Nat) (h1:j<its.length) (h2:j<ks.length),@decide (∃(i:Nat) (h1:i<its.length) (h2:i<ks.length),its[i]=its[j]/\ks[i]=k) (Classical.propDecidable _)=decide (ks[j]=k):=λj h1 h2=>by
   by_cases h:ks[j]=k
   .rw [decide_eq_true h]
    exact @decide_eq_true _ (Classical.propDecidable _) (j,h1,h2,rfl,h)
   .rw [decide_eq_false h]
    exact @decide_eq_false _ (Classical.propDecidable _) λhZ1=>by obtain ⟨i,g1,g2,e1,e2⟩:=hZ1;exact h ((inj i j g1 h1 g2 h2 e1).symm.trans e2)
 .intro y hy
  obtain ⟨j,hj,rfl⟩:=mem_iff_getElem.mp hy
  have h1:j<its.length:=by simpa using hj
  have h2:j<ks.length:=by lia
  have e:its.toArray[j]=its[j]:=by simp
  rw [e]
  exact Eq.mpr (congrArg (SeqAt.EqAt A s its[j] x) (val j h1 h2)) (eqs j h1 h2)
 .exact val
theorem m9 {α:Type} [DecidableEq α] {its:List Value} {ks:List α} {k:α} [Decidable (k∈ks)] {e:Value->Bool} (hl:its.length=ks.length) (he:∀(j:Nat) (h1:j<its.length) (h2:j<ks.length),e its[j]=decide (ks[j]=k)):its.toArray.any e=decide (k∈ks):=by
 by_cases hm:k∈ks
 .rw [decide_eq_true hm]
  obtain ⟨j,hj,e1⟩:=List.getElem_of_mem hm
  have h1:j<its.length:=by lia
  exact Array.any_eq_true.mpr (j,by simpa using h1,by rw [show its.toArray[j]=its[j] by simp,he j h1 hj];exact decide_eq_true e1)
 .rw [decide_eq_false hm]
  refine eq_false_iff.mpr λz=>hm ?_
  obtain ⟨j,hj,e1⟩:=Array.any_eq_true.mp z
  have h1:j<its.length:=by simpa using hj
  have h2:j<ks.length:=by lia
  rw [show its.toArray[j]=its[j] by simp,he j h1 h2] at e1
  exact (of_decide_eq_true e1)▸getElem_mem h2
theorem bP {α:Type} [DecidableEq α] [BEq α] [LawfulBEq α] {X:Cx} {pins:List (Addr×Obj)} {σ:St} {H:Hp} {s:Shared} {l b:Addr} {its:List Value} {n:Tok} {ks:List α} {k:α} {e:Value->Bool} {Q:VK} (I:Inv X pins σ H s) (eo:s.heap.get? l=some { cls:=.type "list",data:=.seq its.toArray n }) (hz:its.length≤sizeLine) (hl:its.length=ks.length) (h1:∀y∈its.toArray,SeqAt.EqAt X.A.in1 s y (.ref b) (e y)) (he:∀(j:Nat) (h1:j<its.length) (h2:j<ks.length),e its[j]=decide (ks[j]=k)) (hm:k∈ks) (q:Q (.int (ks.idxOf k:Nat)) H):
  wpAny (model X.prog X.w) X.A (call (.builtin "list.index") [.ref l,.ref b]) (EP X pins σ Q) X.xe s:=by
 have hlt:ks.idxOf k<ks.length:=idxOf_lt_length_of_mem hm
 have hsm:((ks.idxOf k:Nat):Int)<2 ^ 63 - 1:=by
  rw [sizeLine_eq] at hz
  lia
 refine call_meets slot_list_index (_,eo,rfl) PySem.F.entry_list_index (PySem.F.args_list_index_2 _ _) (SeqAt.list_indexAt l its.toArray n none #[] (.ref b) e (ks.idxOf k) (by simpa [hl] using hlt) hsm ?_ ?_) (eo,h1,(.int _,H,I.tok _,(_,rfl),q))
 .have g:ks.idxOf k<its.length:=by lia
  rw [show its.toArray[ks.idxOf k]'(by simpa using g)=its[ks.idxOf k] by simp,he _ g hlt,getElem_idxOf hlt]
  exact decide_eq_true rfl
 .intro m hm2 hlt2
  have g:m<its.length:=by simpa using hm2
  have g2:m<ks.length:=by exact lt_trans hlt2 hlt
  rw [show its.toArray[m]=its[m] by simp,he m g g2]
  refine decide_eq_false λz=>?_
  have y:=List.not_of_lt_findIdx (xs:=ks) (p:=(·==k)) hlt2
  rw [z] at y
  simp at y
theorem dU {σ:St} (I:Inv X pins σ H s) (hp:H p=some (.lst (RA.intsV xs))) (hq:H q=some (.lst (RA.intsV ys))) (hl:xs.length=ys.length) (hu:A.units<cLine):SeqAt.RcAt A s (.ref p) (.ref q) (decide (xs=ys)):=by
 obtain ⟨its,r1,pl1,hz1⟩:=I.list (SqL.of hp)
 obtain ⟨its2,r2,pl2,hz2⟩:=I.list (SqL.of hq)
 have l1:(RA.intsV xs).length=its.length:=r1.length
 have l2:(RA.intsV ys).length=its2.length:=r2.length
 rw [RA.intsV_len] at l1 l2
 have z:=SeqAt.RcAt.lists (A:=A) (e:=λj=>eqV ((RA.intsV xs).getD j .non) ((RA.intsV ys).getD j .non)) pl1.isList pl2.isList (by simp;lia) hu λj h1 h2=>by
  have hj1:j<(RA.intsV xs).length:=by rw [RA.intsV_len,l1];simpa using h1
  have hj2:j<(RA.intsV ys).length:=by rw [RA.intsV_len,l2];simpa using h2
  obtain ⟨a,ea,ra⟩:=r1.get (i:=j) (qa2 hj1)
  obtain ⟨b,eb,rb⟩:=r2.get (i:=j) (qa2 hj2)
  have e:=eqAt_V (A:=A.in1) (s:=s) ra rb (all_eq_true.mp (RA.g_E xs) _ (getElem_mem hj1)) (all_eq_true.mp (RA.g_E ys) _ (getElem_mem hj2))
  obtain ⟨_,e1⟩:=qa1 ea
  obtain ⟨_,e2⟩:=qa1 eb
  simp only [List.getElem_toArray,e1,e2,qa3,qa2 hj1,qa2 hj2,Option.getD_some]
  exact e
 have e1:its.toArray.size=xs.length:=by simp;lia
 rw [e1,ints_eqB hl] at z
 exact z
def bh (H:Hp) (ls:LL) (vs:List V):Prop:=vs.length=ls.length/\∀(i:Nat) (l:LN) (v:V),ls[i]?=some l->vs[i]?=some v->∃a,v=.ref a/\H a=some (.lst (RA.intsV l))
def ng (H:Hp) (ks:List (Nat×LN)) (vs:List V):Prop:=vs.length=ks.length/\∀(i:Nat) (k:Nat×LN) (v:V),ks[i]?=some k->vs[i]?=some v->∃a l,v=.ref a/\H a=some (.tup [.int (k.1:Int),.ref l])/\H l=some (.lst (RA.intsV k.2))
theorem kQ {X:Cx} {σ:St} (hu:X.A.units+64<cLine) (I:Inv X pins σ H s) (r:ab xs its) (h:bh H ls xs) (hl:∀k'∈ls,k'.length=l.length) (hb:H b=some (.lst (RA.intsV l))):
  ∃e:Value->Bool,(∀y∈its.toArray,SeqAt.EqAt X.A.in1 s y (.ref b) (e y))/\∀(j:Nat) (h1:j<its.length) (h2:j<ls.length),e its[j]=decide (ls[j]=l):=by
 have hlen:its.length=ls.length:=by rw [<- r.length,h.1]
 have at_:∀(j:Nat) (h1:j<its.length) (h2:j<ls.length),∃a,its[j]=.ref a/\H a=some (.lst (RA.intsV ls[j])):=λj h1 h2=>by
  have hx:j<xs.length:=by rw [h.1];exact h2
  obtain ⟨a,e1,e2⟩:=h.2 j _ _ (qa2 h2) (qa2 hx)
  obtain ⟨w,ew,rw'⟩:=r.get (i:=j) (qa2 hx)
  rw [e1] at rw'
  cases rw'
  obtain ⟨_,q⟩:=qa1 ew
  exact (a,q,e2)
 refine lJ hlen (λj h1 h2=>?_) λi j h1 h2 h3 h4 e=>?_
 .obtain ⟨a,e1,e2⟩:=at_ j h1 h2
  rw [e1]
  by_cases hab:a=b
  .subst hab
   rw [hb] at e2
   rw [decide_eq_true (b_F (HO.lst.inj (Option.some.inj e2)).symm)]
   exact SeqAt.EqAt.same _
  .exact SeqAt.EqAt.of_refs hab (dU I e2 hb (hl _ (getElem_mem h2)) (by show X.A.units+1<cLine;lia))
 .obtain ⟨a,e1,e2⟩:=at_ i h1 h3
  obtain ⟨a',e1',e2'⟩:=at_ j h2 h4
  rw [e1,e1'] at e
  cases e
  rw [e2] at e2'
  exact b_F (HO.lst.inj (Option.some.inj e2'))
def qt (neg:Bool):R2:=λx y H Q=>∃(l b:Addr) (xs:List V) (ls:LL) (k:LN),x=.ref b/\y=.ref l/\H l=some (.lst xs)/\bh H ls xs/\(∀k'∈ls,k'.length=k.length)/\H b=some (.lst (RA.intsV k))/\Q (.bl (if neg then !decide (k∈ls) else decide (k∈ls))) H
theorem ja (hu:X.A.units+64<cLine):OpR X (compareOp .NotIn) (qt true):=by
 intro pins s σ H x y v u Q I rx ry h
 obtain ⟨l,b,xs,ls,k,rfl,rfl,hH,hth,hkl,hb,q⟩:=h
 cases ry
 cases rx
 obtain ⟨its,r,pl,hz⟩:=I.list (SqL.of hH)
 obtain ⟨e,h1,h2⟩:=kQ hu I r hth hkl hb
 refine SeqAt.notIn_listAt e pl.isList h1 (.bl _,H,I,rfl,?_)
 rw [m9 (by rw [<- r.length,hth.1]) h2]
 rw [if_pos rfl] at q
 exact q
def rIndexL:V->List V->Hp->VK->Prop:=λx vs H Q=>∃(l b:Addr) (xs:List V) (ls:LL) (k:LN),x=.ref l/\vs=[.ref b]/\H l=some (.lst xs)/\bh H ls xs/\(∀k'∈ls,k'.length=k.length)/\H b=some (.lst (RA.intsV k))/\k∈ls/\Q (.int (ls.idxOf k:Nat)) H
theorem bF (hu:X.A.units+64<cLine):MtR X "list.index" rIndexL:=by
 intro pins s σ H x vs v us Q I rx rv h
 obtain ⟨l,b,xs,ls,k,rfl,rfl,hH,hth,hkl,hb,hm,q⟩:=h
 cases rx
 obtain ⟨u,rfl,ru⟩:=rv.one
 cases ru
 obtain ⟨z,its,n,r,hl,e⟩:=I.lstM hH
 obtain ⟨f,h1,h2⟩:=kQ hu I r hth hkl hb
 exact bP I e (by rw [<- r.length];exact (I.lst hH).choose_spec.choose_spec.2.2) (by rw [<- r.length,hth.1]) h1 h2 hm q
theorem oB {X:Cx} {σ:St} (hu:X.A.units+64<cLine) (I:Inv X pins σ H s) (r:ab xs its) (h:ng H ks xs) (hl:∀k'∈ks,k'.2.length=k.2.length) (hb:H b=some (.tup [.int (k.1:Int),.ref bl])) (hbl:H bl=some (.lst (RA.intsV k.2))):
  ∃e:Value->Bool,(∀y∈its.toArray,SeqAt.EqAt X.A.in1 s y (.ref b) (e y))/\∀(j:Nat) (h1:j<its.length) (h2:j<ks.length),e its[j]=decide (ks[j]=k):=by
 have hlen:its.length=ks.length:=by rw [<- r.length,h.1]
 have at_:∀(j:Nat) (h1:j<its.length) (h2:j<ks.length),∃a l,its[j]=.ref a/\H a=some (.tup [.int ((ks[j]).1:Int),.ref l])/\H l=some (.lst (RA.intsV (ks[j]).2)):=λj h1 h2=>by
  have hx:j<xs.length:=by rw [h.1];exact h2
  obtain ⟨a,l,e1,e2,e3⟩:=h.2 j _ _ (qa2 h2) (qa2 hx)
  obtain ⟨w,ew,rw'⟩:=r.get (i:=j) (qa2 hx)
  rw [e1] at rw'
  cases rw'
  obtain ⟨_,q⟩:=qa1 ew
  exact (a,l,q,e2,e3)
 have same_:∀{a l l':Addr} {k k':Nat×LN},H a=some (.tup [.int (k.1:Int),.ref l])->H l=some (.lst (RA.intsV k.2))->H a=some (.tup [.int (k'.1:Int),.ref l'])->H l'=some (.lst (RA.intsV k'.2))->k=k':=λ{a l l' k k'} e1 e2 e3 e4=>by
  rw [e1] at e3
  have z:=HO.tup.inj (Option.some.inj e3)
  have z1:k.1=k'.1:=Int.ofNat.inj (V.int.inj (List.cons.inj z).1)
  have z2:l=l':=V.ref.inj (List.cons.inj (List.cons.inj z).2).1
  rw [z2,e4] at e2
  exact Prod.ext z1 (b_F (HO.lst.inj (Option.some.inj e2))).symm
 refine lJ hlen (λj h1 h2=>?_) λi j h1 h2 h3 h4 e=>?_
 .obtain ⟨a,l,e1,e2,e3⟩:=at_ j h1 h2
  rw [e1]
  by_cases hab:a=b
  .subst hab
   rw [decide_eq_true (same_ e2 e3 hb hbl)]
   exact SeqAt.EqAt.same _
  .refine SeqAt.EqAt.of_refs hab ?_
   have hkl:=hl _ (getElem_mem h2)
   generalize ks[j]=kk at e2 e3 hkl
   obtain ⟨its1,r1,pl1,hz1⟩:=I.tuple (SqT.of (K:=X.K) e2)
   obtain ⟨its2,r2,pl2,hz2⟩:=I.tuple (SqT.of (K:=X.K) hb)
   obtain ⟨x1,x2,rfl,y1,y2⟩:=g_O r1
   obtain ⟨z1,z2,rfl,w1,w2⟩:=g_O r2
   obtain ⟨t1,rfl⟩:=y1
   obtain ⟨t2,rfl⟩:=w1
   cases y2
   cases w2
   have z:=SeqAt.RcAt.tuples (A:=X.A.in1) (e:=λj=>if j=0 then decide (kk.1=k.1) else decide (kk.2=k.2)) pl1 pl2 (by show X.A.units+1<cLine;lia) λj g1 g2=>by
    have hj:j<2:=by simpa using g1
    match j,hj with
    | 0,_=>
     have e:(((kk.1:Nat):Int)==((k.1:Nat):Int))=decide (kk.1=k.1):=by
      rw [Bool.eq_iff_iff,beq_iff_eq,decide_eq_true_eq]
      exact (λz=>Int.ofNat.inj z,λz=>by rw [z])
     show SeqAt.EqAt _ s (.int (kk.1:Int) t1) (.int (k.1:Int) t2) (decide (kk.1=k.1))
     rw [<- e]
     exact SeqAt.EqAt.int_int _ _ _ _
    | 1,_=>
     show SeqAt.EqAt _ s (.ref l) (.ref bl) (decide (kk.2=k.2))
     by_cases hlb:l=bl
     .subst hlb
      rw [e3] at hbl
      rw [decide_eq_true (b_F (HO.lst.inj (Option.some.inj hbl)))]
      exact SeqAt.EqAt.same _
     .exact SeqAt.EqAt.of_refs hlb (dU I e3 hbl hkl (by show X.A.units+1+1<cLine;lia))
   have e:decide (kk=k)=(((List.range (min #[Value.int (kk.1:Int) t1,.ref l].size #[Value.int (k.1:Int) t2,.ref bl].size)).all λj=>if j=0 then decide (kk.1=k.1) else decide (kk.2=k.2))&&(#[Value.int (kk.1:Int) t1,.ref l].size==#[Value.int (k.1:Int) t2,.ref bl].size)):=by
    have:decide (kk=k)=(decide (kk.1=k.1)&&decide (kk.2=k.2)):=by
     rw [Bool.eq_iff_iff,and_eq_true,decide_eq_true_eq,decide_eq_true_eq,decide_eq_true_eq]
     exact (λz=>by rw [z];exact (rfl,rfl),λz=>Prod.ext z.1 z.2)
    rw [this]
    simp [List.range,List.range.loop]
   rw [e]
   exact z
 .obtain ⟨a,l,e1,e2,e3⟩:=at_ i h1 h3
  obtain ⟨a',l',e1',e2',e3'⟩:=at_ j h2 h4
  rw [e1,e1'] at e
  cases e
  exact same_ e2 e3 e2' e3'
def rIndexY:V->List V->Hp->VK->Prop:=λx vs H Q=>∃(l b bl:Addr) (xs:List V) (ks:List (Nat×LN)) (k:Nat×LN),x=.ref l/\vs=[.ref b]/\H l=some (.lst xs)/\ng H ks xs/\(∀k'∈ks,k'.2.length=k.2.length)/\H b=some (.tup [.int (k.1:Int),.ref bl])/\H bl=some (.lst (RA.intsV k.2))/\k∈ks/\Q (.int (ks.idxOf k:Nat)) H
theorem jh (hu:X.A.units+64<cLine):MtR X "list.index" rIndexY:=by
 intro pins s σ H x vs v us Q I rx rv h
 obtain ⟨l,b,bl,xs,ks,k,rfl,rfl,hH,hth,hkl,hb,hbl,hm,q⟩:=h
 cases rx
 obtain ⟨u,rfl,ru⟩:=rv.one
 cases ru
 obtain ⟨z,its,n,r,hl,e⟩:=I.lstM hH
 obtain ⟨f,h1,h2⟩:=oB hu I r hth hkl hb hbl
 exact bP I e (by rw [<- r.length];exact (I.lst hH).choose_spec.choose_spec.2.2) (by rw [<- r.length,hth.1]) h1 h2 hm q
end L2
namespace RA
open PySem L2
section
variable {L:LN} {W:LL} {B:List Bool}
def kyR (W:LL) (ls:LN) (j:Nat):Nat×LN:=(ls.getD j 0,(W.getD j []).map λg=>ls.getD g 0,)
def kysR (W:LL) (ls:LN):List (Nat×LN):=(List.range W.length).map (kyR W ls)
def mJ (W:LL) (ls:LN):LN:=(kysR W ls).map λk=>(kysR W ls).idxOf k
def lotK (W:LL) (B:List Bool):Nat->LN
 | 0=>B.map λb=>if b=true then 1 else 0
 | k+1=>mJ W (lotK W B k)
theorem kS (hM:Mach L W B):∀k,(lotK W B k).length=W.length
 | 0=>by rw [lotK,qa4,hM.bl]
 | k+1=>by rw [lotK,mJ,qa4,kysR,qa4,length_range]
theorem lc {α:Type} [BEq α] [LawfulBEq α] {l:List α} {a b:α} (ha:a∈l) (hb:b∈l) (h:l.idxOf a=l.idxOf b):a=b:=by
 have h1:=getElem_idxOf (idxOf_lt_length_of_mem ha)
 have h2:=getElem_idxOf (idxOf_lt_length_of_mem hb)
 rw [<- h1,<- h2]
 simp only [h]
theorem eh (hj:j<W.length):(mJ W ls).getD j 0=(kysR W ls).idxOf (kyR W ls j):=by
 rw [mJ,qa3,qa6,kysR,qa6,getElem?_range hj]
 rfl
theorem e_h (hM:Mach L W B):∀(k:Nat) {i j:Nat},i<W.length->j<W.length->((lotK W B k).getD i 0=(lotK W B k).getD j 0↔lot W B k i=lot W B k j)
 | 0,i,j,hi,hj=>by
  have g:∀{x:Nat},x<W.length->(lotK W B 0).getD x 0=if B.getD x false=true then 1 else 0:=λ{x} hx=>by
   have hx:x<B.length:=by rw [hM.bl];exact hx
   rw [lotK,qa3,qa6,qa2 hx,qa3,qa2 hx]
   rfl
  rw [g hi,g hj,e_g hM hi hj]
  cases B.getD i false <;> cases B.getD j false <;> simp
 | k+1,i,j,hi,hj=>by
  have mem:∀{x:Nat},x<W.length->kyR W (lotK W B k) x∈kysR W (lotK W B k):=λhx=>mem_map.mpr (_,mem_range.mpr hx,rfl)
  rw [lotK,eh hi,eh hj,b_h hM hi hj]
  have li:=(b_z hM hi).1
  have lj:=(b_z hM hj).1
  have gg:∀{x:Nat},(W.getD x []).length=L.length->∀q,q<L.length->((W.getD x []).map λg=>(lotK W B k).getD g 0)[q]?=some ((lotK W B k).getD (ag W x q) 0):=λ{x} hx q hq=>by
   rw [qa6,qa2 (by rw [hx];exact hq)]
   unfold ag
   rw [qa3 (l:=W.getD x []),qa2 (by rw [hx];exact hq)]
   rfl
  constructor
  .intro h
   have e:=lc (mem hi) (mem hj) h
   have e1:=congrArg Prod.fst e
   have e2:=congrArg Prod.snd e
   refine ((e_h hM k hi hj).mp e1,λq hq=>(e_h hM k (b_c hM hi hq) (b_c hM hj hq)).mp ?_)
   have a:=gg li q hq
   have b:=gg lj q hq
   have e2:((W.getD i []).map λg=>(lotK W B k).getD g 0)=(W.getD j []).map λg=>(lotK W B k).getD g 0:=e2
   rw [e2,b] at a
   exact (Option.some.inj a).symm
  .rintro ⟨h1,h2⟩
   have e1:=(e_h hM k hi hj).mpr h1
   have e2:((W.getD i []).map λg=>(lotK W B k).getD g 0)=(W.getD j []).map λg=>(lotK W B k).getD g 0:=by
    refine List.ext_getElem? λq=>?_
    by_cases hq:q<L.length
    .rw [gg li q hq,gg lj q hq,(e_h hM k (b_c hM hi hq) (b_c hM hj hq)).mpr (h2 q hq)]
    .rw [getElem?_eq_none (by rw [qa4,li];lia),getElem?_eq_none (by rw [qa4,lj];lia)]
   have:kyR W (lotK W B k) i=kyR W (lotK W B k) j:=Prod.ext e1 e2
   rw [this]
theorem i6 (hM:Mach L W B) (hi:i<W.length) (hj:j<W.length) (h:∀u:LN,(∀c∈u,c∈L)->B.getD (run L W i u) false=B.getD (run L W j u) false) (k:Nat):lot W B k i=lot W B k j:=by
 refine Classical.byContradiction λhn=>?_
 obtain ⟨m,_,h1,h2⟩:=h_v (P:=λk=>lot W B k i≠lot W B k j) hn
 obtain ⟨_,p2,p3,_⟩:=h_b hM hi hj h1 λq hq=>Classical.byContradiction λz=>h2 q hq z
 exact p3 (h _ p2)
theorem jk (hM:Mach L W B) (hi:i<W.length) (hj:j<W.length):((lotK W B W.length).getD i 0=(lotK W B W.length).getD j 0↔∀u:LN,(∀c∈u,c∈L)->B.getD (run L W i u) false=B.getD (run L W j u) false):=by
 rw [e_h hM W.length hi hj]
 exact (λh u hu=>d_m hM hi hj (le_refl _) hu (kR hM hi hj h u.length),λh=>i6 hM hi hj h _)
end
section
variable {L:LN} {W W0:LL} {B B0:List Bool}
def rwK (L:LN) (W0:LL) (ls xs:LN) (c k:Nat):LN:=xs.map λx=>ls.getD (run L W0 x (replicate k c)) 0
theorem mi (h:b_a L W0 B0 W B) (hM:Mach L W0 B0) (rc:Rch L W) (hc:c∈L) (h1:∀x∈xs,∃v:LN,(∀c∈v,c∈L)/\run L W0 0 v=x) (h2:∀v:LN,(∀c∈v,c∈L)->run L W0 0 v∈xs)
  (hls:∀i j,i<W0.length->j<W0.length->(ls.getD i 0=ls.getD j 0↔∀u:LN,(∀c∈u,c∈L)->B0.getD (run L W0 i u) false=B0.getD (run L W0 j u) false)):
  rwK L W0 ls xs c i=rwK L W0 ls xs c j↔fC L W c i=fC L W c j:=by
 have hW:=h.mach
 have z0:0<W0.length:=by have:=hM.n1;lia
 have tk:∀{v u:LN} (k:Nat),(∀c∈v,c∈L)->(∀c∈u,c∈L)->B.getD (run L W (run L W (run L W 0 v) (replicate k c)) u) false=B0.getD (run L W0 (run L W0 (run L W0 0 v) (replicate k c)) u) false:=λ{v u} k hv hu=>by
  rw [<- a_Q,<- a_Q,<- a_Q,<- a_Q]
  exact h.takes hM (b_K hv (b_K (c_G hc) hu))
 have lt:∀{v:LN} (k:Nat),(∀c∈v,c∈L)->run L W0 (run L W0 0 v) (replicate k c)<W0.length:=λk hv=>a_M hM (a_M hM z0 hv) (c_G hc)
 rw [iC]
 unfold rwK
 rw [List.map_inj_left]
 constructor
 .intro e r hr
  obtain ⟨v,hv,rfl⟩:=rc r hr
  refine h.unlike (a_M hW hr (c_G hc)) (a_M hW hr (c_G hc)) λu hu=>?_
  rw [tk i hv hu,tk j hv hu]
  exact (hls _ _ (lt i hv) (lt j hv)).mp (e _ (h2 v hv)) u hu
 .intro e x hx
  obtain ⟨v,hv,rfl⟩:=h1 x hx
  refine (hls _ _ (lt i hv) (lt j hv)).mpr λu hu=>?_
  rw [<- tk i hv hu,<- tk j hv hu,e _ (a_M hW (by have:=hW.n1;lia) hv)]
end
section
variable {L:LN} {W W0:LL} {B B0:List Bool}
theorem nY (h:low≤m):low≤red low rest m:=by
 unfold red
 rw [if_neg (not_lt.mpr h)]
 exact le_add_right _ _
def oY (L:LN) (W:LL):Prop:=∀c∈L,∀low rest,c_m L W c low rest->low=0
theorem c_m.low0 (h:c_m L W c low rest) (e:∀r,r<W.length->run L W r (replicate (low * rest) c)=r):low=0:=by
 refine Classical.byContradiction λhn=>?_
 have h1:=nY (rest:=rest) (Nat.le_mul_of_pos_right low h.pos)
 refine h.apart 0 (RA.red low rest (low * rest)) (lt_of_lt_of_le (Nat.pos_of_ne_zero hn) h1) (kg h.pos) (iC.mpr λr hr=>?_)
 rw [h.red _ hr,e r hr]
 rfl
theorem c_m.fix (h:c_m L W c low rest) (hn:0<n) (hr:r<W.length):run L W r (replicate (n * (low * rest)) c)=run L W r (replicate (low * rest) c):=by
 have hle:low≤low * rest:=Nat.le_mul_of_pos_right _ h.pos
 have hle2:low≤n * (low * rest):=le_trans hle (Nat.le_mul_of_pos_left _ hn)
 rw [<- h.red (n * (low * rest)) hr,<- h.red (low * rest) hr]
 have e:RA.red low rest (n * (low * rest))=RA.red low rest (low * rest):=by
  unfold RA.red
  rw [if_neg (not_lt.mpr hle2),if_neg (not_lt.mpr hle)]
  obtain ⟨k,rfl⟩:∃k,n=k+1:=(n - 1,(Nat.succ_pred_eq_of_pos hn).symm)
  rw [succ_mul,add_comm,add_comm (k * (low * rest)),<- Nat.mul_assoc,Nat.sub_add_comm hle,Nat.add_mul_mod_self_right,add_comm]
 rw [e]
theorem eG (h:a+b≤8):a * b≤32:=by
 rcases Nat.lt_or_ge a 5 with z|z
 .exact Nat.mul_le_mul (Nat.le_of_lt_succ z) (le_trans (Nat.le_add_left _ _) h)
 .exact le_trans (Nat.mul_le_mul (le_trans (le_add_right _ _) h) (show b≤3 by lia)) (by decide)
structure StOk (L:LN) (W0:LL) (B0:List Bool) (x y z:LN):Prop where
 cx:∀c∈x,c∈L
 cy:∀c∈y,c∈L
 cz:∀c∈z,c∈L
 lx:x.length≤60
 ly:y.length≤60
 lz:z.length≤60
 ne:y≠[]
 dif:∀n,0<n->B0.getD (run L W0 0 (x++(pwr y n++z))) false≠B0.getD (run L W0 0 (x++z)) false
theorem StOk.of (hLe:b_a L W0 B0 W B) (hM0:Mach L W0 B0) (hR:c_m L W c low rest) (hc:c∈L) (h8:low+rest≤8) (hx:∀c∈x,c∈L) (lx:x.length≤8) (hz:∀c∈z,c∈L) (lz:z.length≤8) (hr:run L W 0 x<W.length) (hne:run L W (run L W 0 x) (replicate (low * rest) c)≠run L W 0 x)
  (hy:B.getD (run L W (run L W 0 x) z) false≠B.getD (run L W (run L W (run L W 0 x) (replicate (low * rest) c)) z) false):StOk L W0 B0 x (replicate (low * rest) c) z:=by
 have h32:=eG h8
 refine (hx,c_G hc,hz,by exact le_trans lx (by decide),by rw [length_replicate];exact le_trans h32 (by decide),by exact le_trans lz (by decide),λe=>hne (by rw [e];rfl),λn hn e=>hy ?_)
 have ep:pwr (replicate (low * rest) c) n=replicate (n * (low * rest)) c:=List.flatten_replicate_replicate
 rw [ep,<- hLe.takes hM0 (b_K hx (b_K (c_G hc) hz)),<- hLe.takes hM0 (b_K hx hz),a_Q,a_Q,a_Q,hR.fix hn hr] at e
 exact e.symm
end
end RA
namespace L2
open PySem PySem.Spec PyProof.Rows
def qp (K:Frag):R2:=λx y H Q=>∃p q xs,x=.ref p/\y=.ref q/\SqL K H p xs/\SqL K H q xs/\xs.all e_V=true/\Q (.bl false) H
theorem on (hu:X.A.units<cLine):OpR X (compareOp .NotEq) (qp X.K):=by
 intro pins s σ H x y v u Q I rx ry h
 obtain ⟨p,q,xs,rfl,rfl,hp,hq,hf,k⟩:=h
 cases rx
 cases ry
 obtain ⟨its,r1,pl1,hz1⟩:=I.list hp
 obtain ⟨its2,r2,pl2,hz2⟩:=I.list hq
 have l1:=r1.length
 have l2:=r2.length
 refine SeqAt.RcNeAt.lists (e:=λ_=>true) pl1.isList pl2.isList (by rw [size_toArray,size_toArray,<- l1,<- l2]) hu (λj h1 h2=>?_) _ _ _ _ (.bl _,H,I,rfl,?_)
 .have hj:j<xs.length:=by rw [l1];simpa using h1
  obtain ⟨a,ea,ra⟩:=r1.get (i:=j) (qa2 hj)
  obtain ⟨b,eb,rb⟩:=r2.get (i:=j) (qa2 hj)
  have fx:e_V xs[j]=true:=all_eq_true.mp hf _ (getElem_mem hj)
  have e:=eqAt_V (A:=X.A.in1) (s:=s) ra rb fx fx
  rw [lK fx] at e
  obtain ⟨_,e1⟩:=qa1 ea
  obtain ⟨_,e2⟩:=qa1 eb
  simp only [List.getElem_toArray,e1,e2]
  exact e
 .have:(!((List.range its.toArray.size).all λ_=>true))=false:=by simp
  rw [this]
  exact k
end L2
namespace RA
open PySem L2
theorem fe (f:Nat×Nat->Nat) (htl:∀R:VK,R (.ref a) H->tl σ H R) (hH:H a=some (.lst (ts.map V.ref))) (hrw:aD H ts rows) (hz:rows.length≤3)
  (hte:∀(p:Nat×Nat) (H':Hp) (R1:VK),R1 (.int (f p:Nat)) H'->te (some (.int (p.1:Nat))::some (.int (p.2:Nat))::σ) H' R1) (hq:∀D H',Same H H'->H' D=some (.lst (intsV (rows.map f)))->Q (.ref D) H'):f_g K (iSq tl) tAlways te σ H Q:=by
 refine htl _ (a,_,_,rfl,.inl rfl,hH,λJ ov D hD=>?_)
 have tl':(ts.map V.ref).length=rows.length:=by rw [qa4,hrw.1]
 refine (λi m ys H2=>m=rows.length - i/\i≤rows.length/\Same H H2/\H2 D=some (.lst ys)/\ys=intsV ((rows.take i).map f),(rows.length,by simp,zero_le _,Same.upd hD,upd_same,rfl),?_)
 rintro i m ys H2 ⟨rfl,hi,hsm,hDl,rfl⟩
 obtain ⟨o1,o2,o3⟩:=ov H2 (hsm _ _ hH)
 rw [tl'] at o1 o2 o3
 refine (hDl,?_)
 by_cases hlt:i<rows.length
 .refine .inr (o1 i hlt,by rw [intsV_len,qa4];exact b_Z (by have:=length_take_le' i rows;lia),λx H3 hyl=>?_)
  obtain ⟨rfl,hx⟩:=o2 i x H3 hlt hyl
  rw [qa6] at hx
  obtain ⟨t,ht,rfl⟩:=qb3 hx
  have hT:=hsm _ _ (hrw.2 i t _ ht (qa2 hlt))
  refine (t,_,_,rfl,SqT.of hT,tAlways_if (hte _ _ _ (hDl,rows.length - (i+1),sub_succ_lt_self _ _ hlt,rfl,hlt,Same.set hsm hD,upd_same,?_)))
  rw [a_p (qa2 hlt),map_append,map_singleton,a_J]
 .obtain rfl:i=rows.length:=le_antisymm hi (le_of_not_lt hlt)
  rw [take_length] at hDl
  exact .inl (o3,hq D H2 hsm hDl)
theorem fc {α:Type} {ns:List α} (g:α->V) (P:α->Nat->Prop) (htl:∀R:VK,R (.ref a) H->tl σ H R) (ho:o=.lst (ns.map g)\/o=.tup (ns.map g)) (hH:H a=some o) (hz:ns.length≤1000)
  (hte:∀x∈ns,∀(H':Hp) (R1:VK),Same H H'->(∀y:Nat,P x y->R1 (.int (y:Int)) H')->te (some (g x)::σ) H' R1)
  (hq:∀D ws H',Same H H'->H' D=some (.lst (intsV ws))->ws.length=ns.length->(∀(i:Nat) x y,ns[i]?=some x->ws[i]?=some y->P x y)->H D=none->Q (.ref D) H'):d_E (iSq tl) tAlways te σ H Q:=by
 refine c_C (a:=a) htl ho hH (λD i ys H'=>∃ws:LN,ys=intsV ws/\ws.length=i/\∀(i:Nat) x y,ns[i]?=some x->ws[i]?=some y->P x y) (by rw [qa4];exact a_d (le_trans hz (by decide))) (λD hD=>([],rfl,rfl,λi x y _ e=>by simp at e)) ?_ ?_
 .rintro D i x ys H' R1 R2 hD hx hsm hDl ⟨ws,rfl,hl,hp⟩ k1 k2
  rw [qa6] at hx
  obtain ⟨x,hxi,rfl⟩:=qb3 hx
  refine tAlways_if (hte x (qb2 hxi) H' R1 hsm λy hy=>k1 _ H' hDl (Same.set hsm hD) (ws++[y],(a_J _ _).symm,by rw [qa5,hl];rfl,λj u v e1 e2=>?_))
  rcases b_V e2 with z|⟨rfl,rfl⟩
  .exact hp j u v e1 z
  .rw [hl,hxi] at e1
   cases e1
   exact hy
 .rintro D ys H' hD hsm hDl ⟨ws,rfl,hl,hp⟩
  rw [qa4] at hl
  exact hq D ws H' hsm hDl hl hp hD
theorem c_W {α:Type} {ns:List α} (g:α->V) (f:α->Nat) (htl:∀R:VK,R (.ref a) H->tl σ H R) (ho:o=.lst (ns.map g)\/o=.tup (ns.map g)) (hH:H a=some o) (hz:ns.length≤1000)
  (hte:∀x∈ns,∀(H':Hp) (R1:VK),Same H H'->R1 (.int ((f x:Nat):Int)) H'->te (some (g x)::σ) H' R1)
  (hq:∀D H',Same H H'->H' D=some (.lst (intsV (ns.map f)))->H D=none->Q (.ref D) H'):d_E (iSq tl) tAlways te σ H Q:=
 fc g (λx y=>y=f x) htl ho hH hz (λx hx H' R1 s h=>hte x hx H' R1 s (h _ rfl)) λD ws H' s e hl hp hD=>hq D H' s (by
  rw [show ns.map f=ws from List.ext_getElem (by rw [qa4,hl]) λi h1 h2=>by
   rw [List.getElem_map]
   exact (hp i _ _ (qa2 (by rw [qa4] at h1;exact h1)) (qa2 h2)).symm]
  exact e) hD
theorem f_c {o:HO} (htl:∀R:VK,R (.ref a) H->tl σ H R) (ho:o=.lst (intsV ns)\/o=.tup (intsV ns)) (hH:H a=some o) (hz:ns.length≤3)
  (hte:∀x∈ns,∀(H':Hp) (R1:VK),(∀y:Nat,y<n->R1 (.int (y:Int)) H')->te (some (.int (x:Int))::σ) H' R1)
  (hq:∀D ws H',Same H H'->H' D=some (.lst (intsV ws))->ws.length=ns.length->(∀x∈ws,x<n)->Q (.ref D) H'):d_E (iSq tl) tAlways te σ H Q:=
 fc _ (λ_ y=>y<n) htl ho hH (le_trans hz (by decide)) (λx hx H' R1 _=>hte x hx H' R1) λD ws H' s e hl hp _=>hq D ws H' s e hl λx hx=>by
  obtain ⟨i,hi⟩:=mem_iff_getElem?.mp hx
  exact hp i _ x (qa2 (by rw [<- hl];exact (qa1 hi).1)) hi
theorem f_Z {n:Nat} (f:Nat->Nat) (ht:∀R:List V->Hp->Prop,R [.int (n:Int)] H->t σ H R) (hn:n≤1000)
  (hte:∀j,j<n->∀(H':Hp) (R1:VK),Same H H'->R1 (.int ((f j:Nat):Int)) H'->te (some (.int (j:Int))::σ) H' R1)
  (hq:∀D H',Same H H'->H' D=some (.lst (intsV ((List.range n).map f)))->H D=none->Q (.ref D) H'):d_E (iy t) tAlways te σ H Q:=by
 refine d_p (n:=n) ht hn (λD j ys H'=>ys=intsV ((List.range j).map f)) (λD hD=>rfl) ?_ ?_
 .intro D j ys H' R1 R2 hD hj hsm hDl hp k1 k2
  rw [Int.zero_add]
  refine tAlways_if (hte j hj H' R1 hsm (k1 _ H' hDl (Same.set hsm hD) ?_))
  rw [hp,range_succ,map_append,map_singleton,a_J]
 .intro D ys H' hD hsm hDl hp
  subst hp
  exact hq D H' hsm hDl hD
theorem rows_more (hwa:H0 wa=none) (sm:Same H0 H1) (h1:H1 wa=some (.lst (rows.map V.ref))) (hrl:rows.length=i) (hWl:W.length=i) (hrows:b_L H1 rows W) (hW:∀ws∈W,ws.length=l/\∀x∈ws,x<n) (hsm:Same H1 H') (hwl:ws.length=l) (hwn:∀x∈ws,x<n) (htp:H' tp=none):
  let H2:=L2.upd (L2.upd H' tp (.tup (intsV ws))) wa (.lst (rows.map V.ref++[.ref tp]))
  Same H0 H2/\H2 wa=some (.lst ((rows++[tp]).map V.ref))/\(rows++[tp]).length=i+1/\(W++[ws]).length=i+1/\b_L H2 (rows++[tp]) (W++[ws])/\∀v∈W++[ws],v.length=l/\∀x∈v,x<n:=by
 obtain ⟨u1,u2,u3⟩:=hX (ws:=ws) (hsm _ _ h1) (hrows.same hsm) (by rw [hrl,hWl]) htp
 exact (λb o e=>u3 b o (hsm _ _ (sm b o e)) (ne_of_none e hwa),u1,by rw [qa5,hrl];rfl,by rw [qa5,hWl];rfl,u2,λv hv=>(mem_append.mp hv).elim (hW v) λz=>by rw [qb1 z];exact (hwl,hwn))
end RA
namespace L2
open PySem PySem.Spec PyProof.Rows
namespace ZP
theorem meet_ss (x:Str) (t:Tok) (y:Str) (t2:Tok):MeetG (.tx x t) (.tx y t2):=λxs ys=>.of_wp λprog w A R s h=>by
 obtain ⟨hp,g,d,tk,os⟩:=s
 obtain ⟨hx,hy,h⟩:=h
 have hsub:=sub_zip
 show wpAny _ _ (Builtin.«zip.__new__» ([.type "zip",.str x t,.str y t2],[])) _ _ _
 wp_walk using h_y,h_y
 refine (_,rfl,?_)
 simp only [aQ] at h
 simpa [size_push,Builtin.SmallTypes.ownedTupleFields,Nat.add_assoc] using h
theorem meet_tt (a b:Addr):MeetG (.tp a) (.tp b):=λxs ys=>.of_wp λprog w A R s h=>by
 obtain ⟨hp,g,d,tk,os⟩:=s
 obtain ⟨hx,hy,h⟩:=h
 have hsub:=sub_zip
 have hx:hp.IsTuple a xs:=hx
 have hy:(hp.push (Sd.tp a).it0).IsTuple b ys:=IsTup.keeps hy λo e=>qa9 _ e
 show wpAny _ _ (Builtin.«zip.__new__» ([.type "zip",.ref a,.ref b],[])) _ _ _
 wp_walk using cZ hx,cZ hy
 refine (_,rfl,?_)
 simp only [aQ] at h
 simpa [size_push,Builtin.SmallTypes.ownedTupleFields,Nat.add_assoc] using h
end ZP
theorem jR {X:Cx} {σ:St} (I1:Inv X pins σ H1 s1):∀(d1 d2:Sd) (xs ys:List V),ZP.MeetG d1 d2->u1=d1.vu->u2=d2.vu->d1.has H1 xs->d2.has H1 ys->R (Itg d1 d2) H1->wpAny (model X.prog X.w) X.A (call (.type "zip") [u1,u2]) (λv s2=>wpAny (model X.prog X.w) X.A (pyIter v) (PIE X pins σ (.Tuple es kt pt) R) X.xe s2) X.xe s1:=by
 rintro d1 d2 xs ys M rfl rfl hx hy q
 obtain ⟨itx,px⟩:=hJ I1 hx
 obtain ⟨ity,py⟩:=hJ I1 hy
 refine ZP.call_sd M px py λg gz gTI gTO g1 g2 gk=>wpAny_pyIter_zip (s:={ s1 with heap:=g }) gz ?_
 have ap:ZipApart (s1.heap.objs.size+4) (s1.heap.objs.size+2) (s1.heap.objs.size+3) s1.heap.objs.size (s1.heap.objs.size+1) (s1.heap.objs.size+2) (s1.heap.objs.size+2):=by
  constructor <;> exact neA (by lia)
 refine (_,[s1.heap.objs.size+4,s1.heap.objs.size+2,s1.heap.objs.size+3,s1.heap.objs.size,s1.heap.objs.size+1],_,Itg d1 d2,H1,rfl,I1.kept (t':=s1.toks) gk,bn d1 d2 _ _ _ _ _ ap,
  (gz,gTI,(_,_,gTO),g1,g2),λc hc=>?_,q)
 have hge:s1.heap.objs.size≤c:=by
  simp only [mem_cons,not_mem_nil,or_false] at hc
  rcases hc with rfl|rfl|rfl|rfl|rfl
  .exact le_add_right _ _
  .exact le_add_right _ _
  .exact le_add_right _ _
  .exact le_refl _
  .exact le_add_right _ _
 exact I1.fpOk hge (I1.hok.fresh hge)
def iZipH (t:TA):TI:=λσ H R=>t σ H λvs H1=>(∃x y,vs=[.str x,.str y]/\∀k1 k2,R (Itg (.tx x k1) (.tx y k2)) H1)\/∃a b xs ys,vs=[.ref a,.ref b]/\H1 a=some (.tup xs)/\H1 b=some (.tup ys)/\R (Itg (.tp a) (.tp b)) H1
theorem ms {es:List Expr} {kt:Nat} {pt:Pos} {p pos:Pos} (hg:Gl X "zip") (hm:X.mg "zip"=none) (ha:PA X [a,b] ta) (hs:starEach [a,b] X.env=(false,eval a X.env,)::starEach [b] X.env:=by rfl)
  (hpl:(backTo pos (starEach [b] X.env)).any (·.1)=false:=by rfl):PI X (.Tuple es kt pt) (.Call (.Name "zip" p) [a,b] [] pos) (iZipH ta):=by
 intro pins s σ H R I h
 refine wpAny_Call_Name_kw (ld_blt I hg hm boot_zip (PyProof.Rows.callWith_type1 (thn (ha pos pins s σ H _ I h) λus s1 hZ2=>?_) hs hpl))
 obtain ⟨vs,H1,I1,r1,hz⟩:=hZ2
 rcases hz with ⟨x,y,rfl,q⟩|⟨a,b,xs,ys,rfl,h1,h2,q⟩
 .obtain ⟨u1,u2,rfl,⟨t1,rfl⟩,t2,rfl⟩:=g_O r1
  exact jR I1 (.tx x t1) (.tx y t2) _ _ (ZP.meet_ss x t1 y t2) rfl rfl rfl rfl (q t1 t2)
 .obtain ⟨u1,u2,rfl,e1,e2⟩:=g_O r1
  cases e1
  cases e2
  exact jR I1 (.tp a) (.tp b) _ _ (ZP.meet_tt a b) rfl rfl h1 h2 q
theorem di {K:Frag} {xs zs:List V} {σ:St} (ht:∀R:List V->Hp->Prop,R [.ref c,.ref d] H->t σ H R) (hH:H c=some (.tup xs)) (hK:H d=some (.tup zs)) (hl:xs.length=zs.length) (Pv:Addr->Nat->List V->Hp->Prop) (hz:xs.length≤sizeLine)
  (h0:∀D,H D=none->Pv D 0 [] (L2.upd H D (.lst [])))
  (hs:∀(D:Addr) (i:Nat) (x z:V) (ys:List V) (H' H3:Hp) (R1:VK),H D=none->xs[i]?=some x->zs[i]?=some z->Same H H'->H' D=some (.lst ys)->Pv D i ys H'->Same H' H3->
   (∀y H5,H5 D=some (.lst ys)->Same H (L2.upd H5 D (.lst (ys++[y])))->Pv D (i+1) (ys++[y]) (L2.upd H5 D (.lst (ys++[y])))->R1 y H5)->te (some x::some z::σ) H3 R1)
  (hq:∀D ys H',H D=none->Same H H'->H' D=some (.lst ys)->Pv D xs.length ys H'->Q (.ref D) H'):f_g K (iZipH t) tAlways te σ H Q:=by
 refine ht _ (.inr (c,d,xs,zs,rfl,hH,hK,?_))
 refine g_a (K:=K) (J:=Itg (.tp c) (.tp d)) (n:=xs.length) (λi a b=>xs[i]?=some a/\zs[i]?=some b) Pv hz (λi H2 s h=>(xs,zs,xs[i],zs[i]'(by lia),s _ _ hH,s _ _ hK,qa2 h,qa2 _)) ?_ (λH2 s=>(xs,zs,s _ _ hH,s _ _ hK,hl,rfl)) h0 ?_ hq
 .rintro i H2 x H3 s h ⟨p,as,bs,a,b,e1,e2,e3,e4,e5,e6,e7⟩
  have e1:H2 c=some (.tup as):=e1
  have e2:H2 d=some (.tup bs):=e2
  rw [s _ _ hH] at e1
  rw [s _ _ hK] at e2
  cases e1
  cases e2
  exact (p,a,b,e5,(e3,e4),e6,e7)
 .rintro D i a b ys H' H3 R1 R2 hD hi ⟨ha,hb⟩ a1 a2 a3 a4 a5 a6
  exact tAlways_if (hs D i a b ys H' H3 R1 hD ha hb a1 a2 a3 a4 a5)
end L2
namespace L2
open PySem
section
variable {X:Cx} {a b e e1 e2 e3 e4:Expr} {ta tb te t1 t2 t3 t4:TE} {pos p:Pos} {o:Expr} {x:Str}
theorem pq1 (h:PE X e te) (hs:starEach [e] X.env=(false,eval e X.env,)::starEach [] X.env:=by rfl):PA X [e] (a_O te tNil):=c_B h b_d hs
theorem pq2 (h1:PE X e1 t1) (h2:PE X e2 t2) (s1:starEach [e1,e2] X.env=(false,eval e1 X.env,)::starEach [e2] X.env:=by rfl) (s2:starEach [e2] X.env=(false,eval e2 X.env,)::starEach [] X.env:=by rfl):PA X [e1,e2] (a_O t1 (a_O t2 tNil)):=c_B h1 (pq1 h2 s2) s1
theorem pq3 (h1:PE X e1 t1) (h2:PE X e2 t2) (h3:PE X e3 t3) (s1:starEach [e1,e2,e3] X.env=(false,eval e1 X.env,)::starEach [e2,e3] X.env:=by rfl) (s2:starEach [e2,e3] X.env=(false,eval e2 X.env,)::starEach [e3] X.env:=by rfl) (s3:starEach [e3] X.env=(false,eval e3 X.env,)::starEach [] X.env:=by rfl):PA X [e1,e2,e3] (a_O t1 (a_O t2 (a_O t3 tNil))):=c_B h1 (pq2 h2 h3 s2 s3) s1
theorem xqT (ha:PE X a ta) (hb:PE X b tb) (hs:dz b:=by exact λ_ _=>rfl):PE X (.Subscript a b pos) (tOp (fR X.K) ta tb):=pe_ix cX ha hb hs
theorem xqL (ha:PE X a ta) (hb:PE X b tb) (hs:dz b:=by exact λ_ _=>rfl):PE X (.Subscript a b pos) (tOp (ki X.K) ta tb):=pe_ix cY ha hb hs
theorem xqV (i:Nat) {k:Int} {j} {pos2:Pos} (hN:X.N[i]?=some x:=by rfl) (hv:Vis X.env.scope x:=by first|exact Or.inl rfl|exact Or.inr (Or.inl rfl)|exact Or.inr (Or.inr rfl)) (hd:(x==("__debug__":Str))=false:=by decide) (hcd:(x==("__classdict__":Str))=false:=by decide):
  PE X (.Subscript (.Name x p) (.Constant (.int k) j pos2) pos) (tOp (fR X.K) (be i) (tC (.int k))):=pe_ix cX (pv i hN hv hd hcd) pe_int (λ_ _=>rfl)
theorem lqQ (hm:X.mg "len"=none) (h:PE X e te) (hg:Gl X "len":=by rfl) (he:starEach [e] X.env=(false,eval e X.env,)::starEach [] X.env:=by rfl) (hpl:(backTo pos (starEach [] X.env)).any (·.1)=false:=by rfl):PE X (.Call (.Name "len" p) [e] [] pos) (tCB (λxs H Q=>∃p ys,xs=[.ref p]/\(SqL X.K H p ys\/SqT X.K H p ys)/\Q (.int ys.length) H) (a_O te tNil)):=b_q b_A hg hm boot_len (pq1 h he) (by decide) (by decide) he hpl
theorem lqS (hm:X.mg "len"=none) (h:PE X e te) (hg:Gl X "len":=by rfl) (he:starEach [e] X.env=(false,eval e X.env,)::starEach [] X.env:=by rfl) (hpl:(backTo pos (starEach [] X.env)).any (·.1)=false:=by rfl):PE X (.Call (.Name "len" p) [e] [] pos) (tCB (λxs H Q=>∃z,xs=[.str z]/\z.length≤sizeLine/\Q (.int z.length) H) (a_O te tNil)):=b_q dq hg hm boot_len (pq1 h he) (by decide) (by decide) he hpl
theorem cqN (ha:PE X a ta) (hb:PE X b tb):PT X (.Compare a [.NotEq] [b] pos) (gT (tOp rNe ta tb)):=a_B pM ha hb (a_S _)
theorem cqE (ha:PE X a ta) (hb:PE X b tb):PT X (.Compare a [.Eq] [b] pos) (gT (tOp rEq ta tb)):=a_B g_k ha hb (a_S _)
theorem stS (i:Nat) {pos':Pos} (hN:X.N.Nodup) (he:PE X e te) (hi:X.N[i]?=some x:=by rfl) (hx:Loc X.env.scope x:=by first|exact Or.inl rfl|exact Or.inr rfl) (hs:swapsWith e (some (.Name x pos')) pos.line X.env=pure false:=by rfl) (hf:X.fn x=true\/X.env.scope.names.lookup x=some .local:=by first|exact .inl rfl|exact .inr rfl|assumption):PS X (.Assign [.Name x pos'] e pos) (au te (b_y i)):=nZ hN hi hx he hs hf
theorem pgN (i:Nat) (hN:X.N.Nodup) (hi:X.N[i]?=some x:=by rfl) (hx:Loc X.env.scope x:=by first|exact Or.inl rfl|exact Or.inr rfl) (hf:X.fn x=true\/X.env.scope.names.lookup x=some .local:=by first|exact .inl rfl|exact .inr rfl|assumption):PG X (.Name x pos) (b_y i):=h_e hN hi hx hf
theorem apQ {apos cpos:Pos} (ho:PE X o t1) (h:PE X e te) (hb:attributeBase o "append" X.env (eval o X.env)=eval o X.env:=by rfl) (hf:((backTo cpos (starEach [e] X.env)).all (λx=>!x.1)&&(backToKw cpos (keywordEach [] X.env)).all (λx=>x.1.isSome)&&decide ([e].length+([]:List Keyword).length+(if ([]:List Keyword).isEmpty then 0 else 1)<30))=true:=by rfl) (hl:(apos.endLine==cpos.line)=true:=by rfl) (hs:starEach [e] X.env=(false,eval e X.env,)::starEach [] X.env:=by rfl) (hp:(backTo cpos (starEach [] X.env)).any (·.1)=false:=by rfl):PE X (.Call (.Attribute o "append" apos) [e] [] cpos) (tBM X.K "list" rAppend t1 (a_O te tNil)):=c_Z plainAttrs_list PySem.F.slot_list_append PySem.F.type_list_append bI ho (pq1 h hs) hb hf hl hs hp
theorem isQ {p2:Pos} (hi:X.mg "isinstance"=none) (hT:X.mg n=none) (hv:bootBuiltins n=some (.type T)) (h:PE X e te) (g1:Gl X "isinstance":=by rfl) (g2:Gl X n:=by rfl) (n1:n≠"__name__":=by decide) (n2:(n==("__debug__":Str))=false:=by decide) (s1:starEach [e,.Name n p2] X.env=(false,eval e X.env,)::starEach [.Name n p2] X.env:=by rfl) (s2:starEach [.Name n p2] X.env=(false,eval (.Name n p2) X.env,)::starEach [] X.env:=by rfl) (hp:(backTo pos (starEach [.Name n p2] X.env)).any (·.1)=false:=by rfl):PE X (.Call (.Name "isinstance" p) [e,.Name n p2] [] pos) (tCB (λxs H Q=>∃x t b,xs=[x,.ty T]/\ae X.K H x t/\kitOne X.K t (.type T)=some b/\Q (.bl b) H) (a_O te (a_O (tC (.ty T)) tNil))):=b_q (lW (T:=T)) g1 hi boot_isinstance (pq2 h (h_f (v:=.ty T) g2 hT hv rfl n1 n2) s1 s2) (by decide) (by decide) s1 hp
section
variable {K:Frag} {H:Hp} {Q:VK} {c:Addr} {xs:List V} {v x0 x1 x2 x3:V} {i:Int} {l:List V}
theorem iqT (ht:H c=some (.tup xs)) (ha:atI xs i=some v) (q:Q v H):fR K (.ref c) (.int i) H Q:=(c,_,_,_,rfl,rfl,SqT.of ht,ha,q)
theorem iqL (ht:H c=some (.lst xs)) (ha:atI xs i=some v) (q:Q v H):ki K (.ref c) (.int i) H Q:=(c,_,_,_,rfl,rfl,SqL.of ht,ha,q)
theorem ivT (ht:H c=some (.tup xs)) (ha:atI xs i=some v) (q:Q v H) (hv:σ[n]?=some (some (.ref c)):=by rfl):tOp (fR K) (be n) (tC (.int i)) σ H Q:=(_,hv,c,_,_,_,rfl,rfl,SqT.of ht,ha,q)
theorem al:atI (x0::l) 0=some x0:=a_R (j:=0) rfl
theorem aq:atI (x0::x1::l) 1=some x1:=a_R (j:=1) rfl
theorem aC:atI (x0::x1::x2::l) 2=some x2:=a_R (j:=2) rfl
theorem p6:atI (x0::x1::x2::x3::l) 3=some x3:=a_R (j:=3) rfl
end
end
theorem fsc {N P:List Str} {sc:Scope} (a:sc.kind=.function:=by rfl) (b:sc.isCoroutine=false:=by rfl) (c:sc.isGenerator=false:=by rfl) (d:N.Nodup:=by decide +kernel) (e:N.take P.length=P:=by rfl) (f:∀x∈P,sc.names.lookup x=some .local\/sc.names.lookup x=some .cell:=by decide +kernel) (g:∀y∈sc.names,y.2≠.free:=by decide +kernel):a_e N P sc:=(a,b,c,d,e,f,g)
def o0 (K:Frag) (x:Str) (st:Stmt) (f:Addr):Prop:=∃fd,Fun K x x st f fd
theorem keepF (e:K.lookup f=some (oc,od,.func fd,sl)):keepIn K (.ref f)=true:=by
 unfold keepIn
 dsimp only
 rw [show List.lookup f K=_ from e]
theorem fn_in {kV doc pm ct:Value} (l:K.lookup f=some (oc,od,.func (fnOf x x (a_C st) (a_s st) (a_c st) .none kV doc pm an (.ref cd) ct),osl)) (c:codeIn K (.ref cd) x=true):o0 K x st f:=(_,db l c (keepF l))
theorem dfm {P:Program} {w:World} {K:Frag} {mg:Str→Option Value} {base h:Heap} (X:K.In h) (G:h.Ns mainGlobals mg) {x:Str} {k:Nat} {ps:List Str} {sp:Sp} {f:Addr} {fd:FuncData} {st:Stmt} (a:nsIn K mainGlobals x=some (some (.ref f))) (F:Fun K x x st f fd) (b:c_n K fd ps []) (o:aa P w K mg base CX0 k f fd ps sp):Df P w K mg base x k ps sp:=(f,fd,mg_of X G a,F.kp,b,o)
theorem ln1 {α:Type} {l:List α} (h:l.length=1):∃a,l=[a]:=List.length_eq_one_iff.mp h
theorem ln2 {α:Type} {l:List α} (h:l.length=2):∃a b,l=[a,b]:=by
 cases l with
 | nil=>cases h
 | cons a t=>obtain ⟨b,rfl⟩:=ln1 (Nat.succ.inj h);exact (a,b,rfl)
theorem ln3 {α:Type} {l:List α} (h:l.length=3):∃a b c,l=[a,b,c]:=by
 cases l with
 | nil=>cases h
 | cons a t=>obtain ⟨b,c,rfl⟩:=ln2 (Nat.succ.inj h);exact (a,b,c,rfl)
theorem ln4 {α:Type} {l:List α} (h:l.length=4):∃a b c d,l=[a,b,c,d]:=by
 cases l with
 | nil=>cases h
 | cons a t=>obtain ⟨b,c,d,rfl⟩:=ln3 (Nat.succ.inj h);exact (a,b,c,d,rfl)
theorem ln5 {α:Type} {l:List α} (h:l.length=5):∃a b c d e,l=[a,b,c,d,e]:=by
 cases l with
 | nil=>cases h
 | cons a t=>obtain ⟨b,c,d,e,rfl⟩:=ln4 (Nat.succ.inj h);exact (a,b,c,d,e,rfl)
theorem bn1 (F:Fun K x x st f fd) (h:∀(kV doc pm:Value) (an:Option Addr) (cdv ct u0:Value),bindArgs (fnOf x x (a_C st) (a_s st) (a_c st) .none kV doc pm an cdv ct) ([u0],[])=pure ([q0].zip [u0])):c_n K fd [q0] []:=F.binds λ_ _ _ _ _ _ us hl=>by obtain ⟨_,rfl⟩:=ln1 hl;exact h _ _ _ _ _ _ _
theorem bn2 (F:Fun K x x st f fd) (h:∀(kV doc pm:Value) (an:Option Addr) (cdv ct u0 u1:Value),bindArgs (fnOf x x (a_C st) (a_s st) (a_c st) .none kV doc pm an cdv ct) ([u0,u1],[])=pure ([q0,q1].zip [u0,u1])):c_n K fd [q0,q1] []:=F.binds λ_ _ _ _ _ _ us hl=>by obtain ⟨_,_,rfl⟩:=ln2 hl;exact h _ _ _ _ _ _ _ _
theorem bn3 (F:Fun K x x st f fd) (h:∀(kV doc pm:Value) (an:Option Addr) (cdv ct u0 u1 u2:Value),bindArgs (fnOf x x (a_C st) (a_s st) (a_c st) .none kV doc pm an cdv ct) ([u0,u1,u2],[])=pure ([q0,q1,q2].zip [u0,u1,u2])):c_n K fd [q0,q1,q2] []:=F.binds λ_ _ _ _ _ _ us hl=>by obtain ⟨_,_,_,rfl⟩:=ln3 hl;exact h _ _ _ _ _ _ _ _ _
theorem bn4 (F:Fun K x x st f fd) (h:∀(kV doc pm:Value) (an:Option Addr) (cdv ct u0 u1 u2 u3:Value),bindArgs (fnOf x x (a_C st) (a_s st) (a_c st) .none kV doc pm an cdv ct) ([u0,u1,u2,u3],[])=pure ([q0,q1,q2,q3].zip [u0,u1,u2,u3])):c_n K fd [q0,q1,q2,q3] []:=F.binds λ_ _ _ _ _ _ us hl=>by obtain ⟨_,_,_,_,rfl⟩:=ln4 hl;exact h _ _ _ _ _ _ _ _ _ _
theorem bn5 (F:Fun K x x st f fd) (h:∀(kV doc pm:Value) (an:Option Addr) (cdv ct u0 u1 u2 u3 u4:Value),bindArgs (fnOf x x (a_C st) (a_s st) (a_c st) .none kV doc pm an cdv ct) ([u0,u1,u2,u3,u4],[])=pure ([q0,q1,q2,q3,q4].zip [u0,u1,u2,u3,u4])):c_n K fd [q0,q1,q2,q3,q4] []:=F.binds λ_ _ _ _ _ _ us hl=>by obtain ⟨_,_,_,_,_,rfl⟩:=ln5 hl;exact h _ _ _ _ _ _ _ _ _ _ _
end L2
namespace L2
open PySem PySem.Spec PyProof.Rows
theorem Fun.okA {P:Program} {w:World} {K:Frag} {st:Stmt} (F:Fun K x qual st f fd) (S:a_e N ps (a_c st))
  (hbody:∀(cdv:Value) (A:Around) (outer:List Env) (s:Shared) (H:Hp) (vs:List V) (Q:VK) (E:XK),ak k (A.deeper (envOfC qual (a_c st) s.heap.objs.size f cdv))->sp vs H Q E->
   ∃t,PSs (dh CX0 P w K mg base N qual (a_c st) f cdv A outer s H E).nox (a_s st) t/\t { nx:=λ_ H'=>Q .non H',rt:=Q } (start N vs) H) (len:∀vs H Q E,sp vs H Q E->vs.length=ps.length:=by intro _ _ _ _ h;(repeat obtain ⟨_,h⟩:=h);subst_vars;rfl):aa P w K mg base CX0 (k+1) f fd ps sp:=F.ok S len hbody
def FnX (K:Frag) (x:Str) (st:Stmt):Prop:=∃f,nsIn K mainGlobals x=some (some (.ref f))/\o0 K x st f
end L2
section
seal L2.PE L2.PT L2.PW L2.PA L2.PS L2.PSs L2.PG L2.PGs L2.PI L2.PTs
namespace K55
open PySem L2 RA
def top (i:Nat):Stmt:=PySem.Challenge.pw_roomalgebra_k55_by_remainders.main.body.getD i (.Pass (0,0,0,0))
abbrev Q0:Str:="_law_machine_here"
abbrev Q3:Str:="_law_letters_here"
abbrev Q4:Str:="_law_script"
abbrev Q5:Str:="_law_word_here"
abbrev Q6:Str:="_law_found"
abbrev Q7:Str:="machine"
abbrev Q8:Str:="letters"
abbrev Q9:Str:="_law_rows"
abbrev Z0:Str:="_law_rooms"
abbrev Z1:Str:="_law_k"
abbrev Z2:Str:="_law_room"
abbrev Z3:Str:="_law_lots_here"
abbrev Z4:Str:="_law_numbers"
abbrev Z5:Str:="_law_ways"
abbrev Z7:Str:="word"
abbrev Z8:Str:="ways"
abbrev Z9:Str:="lots"
abbrev b_t:Stmt:=top 26
abbrev a_n:Stmt:=top 27
abbrev c_N:Stmt:=top 29
abbrev nV:Stmt:=top 25
abbrev e_w:Stmt:=mT nV 0
structure WkT (K:Frag) (mg:Str->Option Value) (cW fI:Addr) (fdI:FuncData):Prop where
 kW:mg "Walk"=some (.ref cW)
 cls:Cls K cW
 mkW:Mk K cW fI
 na1:b_I K cW Q8
 na2:b_I K cW "things"
 na3:b_I K cW "words"
 na4:b_I K cW Z8
 na5:b_I K cW "marks"
 ini:Fun K "__init__" "Walk.__init__" e_w fI fdI
theorem kd:a_e ["self",Q8,"start"] ["self",Q8,"start"] (a_c e_w):=fsc
theorem kF (WT:WkT K mg cW fI fdI):aa P w K mg base CX0 1 fI fdI ["self",Q8,"start"] (j7 cW):=by
 refine WT.ini.ok kd (λvs H Q E h=>?_) (λcdv A outer s H vs Q E hr h=>?_)
 .obtain ⟨x,dx,L,v,rfl,_⟩:=h
  rfl
 .obtain ⟨x,dx,L,v,rfl,hx,q⟩:=h
  refine (_,(a_a ((aO (f:=Q8) (pv 0) (pv 1) rfl)) (a_a ((aO (f:="things") (pv 0) (a_G (pq1 (pv 2))) rfl)) (a_a ((aO (f:="words") (pv 0) (a_G (pq1 b_l)) rfl)) (a_a ((aO (f:=Z8) (pv 0) (a_G b_d) rfl)) (a_b ((aO (f:="marks") (pv 0) (a_G b_d) rfl))))))),?_)
  refine (_,rfl,_,rfl,x,cW,dx,_,rfl,hx,WT.cls,WT.na1,by decide,?_)
  refine (_,rfl,a_d (by show 1≤16777216;decide),λt ht=>(_,rfl,x,cW,dx,_,rfl,a_g upd_same ht,WT.cls,WT.na2,lt_of_le_of_lt (le_of_eq (show _=1 from rfl)) (by decide),?_))
  have tx':t≠x:=λz=>by rw [z,upd_same] at ht;cases ht
  refine (a_d (by show 1≤16777216;decide),λwd hwd=>(_,rfl,x,cW,dx,_,rfl,a_g upd_same hwd,WT.cls,WT.na3,lt_of_le_of_lt (le_of_eq (show _=2 from rfl)) (by decide),?_))
  have wx:wd≠x:=λz=>by rw [z,upd_same] at hwd;cases hwd
  refine (zero_le _,λy hy=>(_,rfl,x,cW,dx,_,rfl,a_g upd_same hy,WT.cls,WT.na4,lt_of_le_of_lt (le_of_eq (show _=3 from rfl)) (by decide),?_))
  have yx:y≠x:=λz=>by rw [z,upd_same] at hy;cases hy
  refine (zero_le _,λm hm=>(_,rfl,x,cW,dx,_,rfl,a_g upd_same hm,WT.cls,WT.na5,lt_of_le_of_lt (le_of_eq (show _=4 from rfl)) (by decide),?_))
  have mx:m≠x:=λz=>by rw [z,upd_same] at hm;cases hm
  have twd:t≠wd:=λz=>by rw [<- z,upd_ne tx',upd_same] at hwd;cases hwd
  have ty:t≠y:=λz=>by rw [<- z,upd_ne tx',upd_ne twd,upd_ne tx',upd_same] at hy;cases hy
  have tm:t≠m:=λz=>by rw [<- z,upd_ne tx',upd_ne ty,upd_ne tx',upd_ne twd,upd_ne tx',upd_same] at hm;cases hm
  have wy:wd≠y:=λz=>by rw [<- z,upd_ne wx,upd_same] at hy;cases hy
  have wm:wd≠m:=λz=>by rw [<- z,upd_ne wx,upd_ne wy,upd_ne wx,upd_same] at hm;cases hm
  have ym:y≠m:=λz=>by rw [<- z,upd_ne yx,upd_same] at hm;cases hm
  have fin:∀b,b≠x->b≠m->b≠y->b≠wd->b≠t->H b=upd (upd (upd (upd (upd (upd (upd (upd (upd H x (.ins cW dx (am Q8 (.str (tx L)) []))) t (.lst [v])) x (.ins cW dx (am "things" (.ref t) (am Q8 (.str (tx L)) [])))) wd (.lst [.str (tx [])])) x (.ins cW dx (am "words" (.ref wd) (am "things" (.ref t) (am Q8 (.str (tx L)) []))))) y (.lst [])) x (.ins cW dx (am Z8 (.ref y) (am "words" (.ref wd) (am "things" (.ref t) (am Q8 (.str (tx L)) [])))))) m (.lst [])) x (.ins cW dx (am "marks" (.ref m) (am Z8 (.ref y) (am "words" (.ref wd) (am "things" (.ref t) (am Q8 (.str (tx L)) []))))))  b:=λb h1 h2 h3 h4 h5=>by
   rw [upd_ne h1,upd_ne h2,upd_ne h1,upd_ne h3,upd_ne h1,upd_ne h4,upd_ne h1,upd_ne h5,upd_ne h1]
  have free:∀{b:Addr} {o:HO},H b=some o->∀{a:Addr},H a=none->b≠a:=λ{b o} e {a} n=>ne_of_none e n
  have ft:H t=none:=by rw [upd_ne tx'] at ht;exact ht
  have fw:H wd=none:=by rw [upd_ne wx,upd_ne (Ne.symm twd),upd_ne wx] at hwd;exact hwd
  have fy:H y=none:=by rw [upd_ne yx,upd_ne (Ne.symm wy),upd_ne yx,upd_ne (Ne.symm ty),upd_ne yx] at hy;exact hy
  have fm:H m=none:=by rw [upd_ne mx,upd_ne (Ne.symm ym),upd_ne mx,upd_ne (Ne.symm wm),upd_ne mx,upd_ne (Ne.symm tm),upd_ne mx] at hm;exact hm
  refine q t wd y m _ twd ty tm wy wm ym ft fw fy fm (λb o hb e=>?_) ⟨(dx,upd_same)⟩ ?_ ?_ ?_ ?_
  .rw [<- e]
   exact (fin b hb (free e fm) (free e fy) (free e fw) (free e ft)).symm
  .rw [upd_ne tx',upd_ne tm,upd_ne tx',upd_ne ty,upd_ne tx',upd_ne twd,upd_ne tx',upd_same]
  .rw [upd_ne wx,upd_ne wm,upd_ne wx,upd_ne wy,upd_ne wx,upd_same,<- h_C]
  .rw [upd_ne yx,upd_ne ym,upd_ne yx,upd_same]
  .rw [upd_ne mx,upd_same]
theorem b_T:a_e [Q8,"start","goals_of","is_marked","most","walk","rooms","room","goals","row","letter","goal"] [Q8,"start","goals_of","is_marked","most"] (a_c b_t):=fsc
theorem jb {P:Program} {w:World} {K:Frag} {mg:Str->Option Value} {base:Heap} {cW fI f fg fm:Addr} (F:nj K "walked" "walked" b_t f fd) (WT:WkT K mg cW fI fdI) (tlen:mg "len"=none) (tzip:mg "zip"=none)
  (Fg:aa P w K mg base CX0 4 fg fdg [gx] (gZ ti L g U Rest)) (Fm:aa P w K mg base CX0 4 fm fdm [mx] (j8 ti mk U Rest)) (og1:base.get? fg=some og) (og2:∃fd',og.data=.func fd') (om1:base.get? fm=some om) (om2:∃fd',om.data=.func fd') (bg:c_n K fdg [gx] []) (bm:c_n K fdm [mx] []) (hRest:∀H H':Hp,Same H H'->Rest H->Rest H'):
  aa P w K mg base CX0 5 f fd [Q8,"start","goals_of","is_marked","most"] (br cW ti L g mk U Rest fg fm):=by
 obtain ⟨oc,od,dat,sl⟩:=og
 obtain ⟨fd',rfl⟩:=og2
 obtain ⟨oc2,od2,dat2,sl2⟩:=om
 obtain ⟨fd2',rfl⟩:=om2
 refine F.ok b_T (λvs H Q E h=>?_) (λcdv A outer s H vs Q E hr h=>?_)
 .obtain ⟨s,sv,most,rfl,_⟩:=h
  rfl
 .obtain ⟨s0,sv,most,rfl,hL,hsv,hsU,hcl,hU,hR0,q⟩:=h
  have hr2:=hr.mono (j:=2) (by decide)
  refine (_,(a_a ((stS 5 b_T.nd (mB WT.mkW (kF WT) hr2 rfl WT.kW (WT.ini.binds (ps:=["self",Q8,"start"]) (λ_ _ _ _ _ _ us hl=>by obtain ⟨_,_,_,rfl⟩:=ln3 hl;rfl)) .nil d9 (pq2 (pv 0) (pv 1))))) (d_S ((stS 6 b_T.nd (my hr.units (pv 1) pe_int))) (a_a ((c_T PassesOwn.never (a_B op_lt (b_q b_A (by rfl) tlen boot_len (pq1 (b_E (f:=Z8) (pv 5) rfl))) (b_q b_A (by rfl) tlen boot_len (pq1 (b_E (f:="things") (pv 5) rfl))) (a_S _)) (d_S ((a_N ((pw_and (a_B cO (pv 4) g_x (a_S _)) (pw_and1 (a_B kB (b_q b_A (by rfl) tlen boot_len (pq1 (b_E (f:="things") (pv 5) rfl))) (pv 4) (a_S _)))).pt) ((a_b (dX))) (a_m))) (a_a ((stS 7 b_T.nd ((b_q b_A (by rfl) tlen boot_len (pq1 (b_E (f:=Z8) (pv 5) rfl)))))) (a_a ((stS 8 b_T.nd (d8 Fg hr og1 bg (pv 2) (pq1 (xqL ((b_E (f:="things") (pv 5) rfl)) (pv 7)))))) (a_a ((stS 9 b_T.nd (a_G b_d))) (a_a ((a_F PassesOwn.never rfl (f_u rfl tzip (pq2 (pv 0) (pv 8))) (e_N rfl (a_T (pgN 10 b_T.nd) (a_T (pgN 11 b_T.nd) d_l))) (d_S ((a_N (a_B (i7 hr.units) (pv 11) (pv 6) (by with_unfolding_all rfl)) ((a_a (ps_asg (b_q b_A (by rfl) tlen boot_len (pq1 (b_E (f:="things") (pv 5) rfl))) (pg_sub (pv 6) (pv 11) (iV hr.units))) (a_a (a_y (apQ ((b_E (f:="things") (pv 5) rfl)) (pv 11))) (a_b (a_y (apQ ((b_E (f:="words") (pv 5) rfl)) (a_j a_X (xqL ((b_E (f:="words") (pv 5) rfl)) (pv 7)) (pv 10)))))))) (a_m))) (a_b (a_y (apQ (pv 9) (pe_ix (kY hr.units) (pv 6) (pv 11) (λ_ _=>rfl)))))))) (a_a (a_y (apQ ((b_E (f:=Z8) (pv 5) rfl)) (pv 9))) (a_b (a_y (apQ ((b_E (f:="marks") (pv 5) rfl)) (d8 Fm hr om1 bm (pv 3) (pq1 (xqL ((b_E (f:="things") (pv 5) rfl)) (pv 7))))))))))))))) (a_b (a_f (pv 5)))))),?_)
  have tn:∀{b:Addr} {o:HO},H b=some o->∀{c:Addr},H c=none->b≠c:=λ{b o} e {c} n=>ne_of_none e n
  refine (_,rfl,_,rfl,λwk dx hwk hdx hne=>(wk,dx,L,sv,rfl,upd_same,λt wd y md H1 a1 a2 a3 a4 a5 a6 ft fw fy fmd kp hW ht hwd hy hmd=>(rfl,?_)))
  have fr:∀{b:Addr},upd (upd H dx (.own wk)) wk (.ins cW dx []) b=none->H b=none:=λ{b} e=>by
   by_cases h1:b=wk
   .rw [h1];exact hwk
   .rw [upd_ne h1] at e
    by_cases h2:b=dx
    .rw [h2];exact hdx
    .rw [upd_ne h2] at e
     exact e
  have s1:Same H H1:=λb o e=>kp b o (tn e hwk) (by rw [upd_ne (tn e hwk),upd_ne (tn e hdx)];exact e)
  have hsv1:ThV ti H1 s0 sv:=hsv.same λb xs e=>s1 _ _ e
  have hdict:∀(d:Addr) (H2:Hp),H1 d=none->RmAt P w H2 d ti [s0]->(∀b o,H1 b=some o->H2 b=some o)->WI P w H H2 cW ti L wk t wd y md d [s0] [sv] [[]] [] [] []:=λd H2 hd hrm s2=>by
   have ne:∀{b:Addr} {o:HO},H1 b=some o->d≠b:=λ{b o} e z=>by rw [<- z,hd] at e;cases e
   obtain ⟨dx',ew⟩:=hW.ex
   exact (s1.trans s2,(dx',s2 _ _ ew),s2 _ _ ht,(rfl,λi k v h1 h2=>by
    match i,h1,h2 with
    | 0,h1,h2=>cases h1;cases h2;exact hsv1.same λb xs e=>s2 _ _ e
    | i+1,h1,_=>simp at h1),s2 _ _ hwd,s2 _ _ hy,(rfl,λi a r h1=>by simp at h1),s2 _ _ hmd,hrm,fr ft,fr fw,fr fy,fr fmd,b_k s1 hd,a1,a2,a3,a4,a5,a6,ne ht,ne hwd,ne hy,ne hmd,ne ew,λa ha=>by simp at ha)
  refine ⟨λσ' H'=>∃d,σ'=[some (.str (tx L)),some sv,some (.ref fg),some (.ref fm),some (aP most),some (.ref wk),some (.ref d),none,none,none,none,none]/\WI P w H H' cW ti L wk t wd y md d [s0] [sv] [[]] [] [] [],?_,?_⟩
  .refine (ti,λd hd=>(_,rfl,upd_same,?_))
   have up:∀{ob ob2:HO} (b:Addr) (o:HO),H1 b=some o->upd (upd H1 d ob) d ob2 b=some o:=λ{ob ob2} b o e=>by
    rw [d_D]
    exact a_g e hd
   by_cases hti:ti=.i
   .rw [hti] at hsv1 hdict ⊢
    unfold ThV at hsv1
    rw [if_pos rfl] at hsv1
    obtain ⟨n,rfl,rfl⟩:=hsv1
    refine .inl (rfl,_,rfl,d,rfl,hdict d _ hd ?_ up)
    unfold RmAt
    rw [if_pos rfl]
    exact (upd_same,λt ht=>(n,qb1 ht))
   .have hsv2:=hsv1
    unfold ThV at hsv2
    rw [if_neg hti] at hsv2
    obtain ⟨b,rfl,hb⟩:=hsv2
    have hT:∀{ob:HO},(dK P w ti).kin (upd H1 d ob) (zs s0) b:=λ{ob}=>(hb.same λb xs e=>a_g e hd).kin
    refine .inr (hti,b,zs s0,rfl,hT,d,rfl,hdict d _ hd ?_ up)
    unfold RmAt
    rw [if_neg hti]
    refine (_,upd_same,λx hx=>?_,rfl,λi k x h1 h2=>?_)
    .rw [qb1 hx,d_D]
     exact hT
    .match i,h1,h2 with
     | 0,h1,h2=>cases h1;cases h2;exact (rfl,rfl)
     | i+1,h1,_=>simp at h1
  rintro σ1 H2 ⟨d,rfl,hWI⟩
  have fin:∀{H':Hp} {ks:LL} {vks:List V} {ws:LL} {rows:List Addr} {R:LL} {B:List Bool},WI P w H H' cW ti L wk t wd y md d ks vks ws rows R B->WPu g L s0 mk U ks ws R B 0->(R.length=ks.length\/∃n,most=some n/\n<ks.length)->Q (.ref wk) H':=λhI hP he=>
   q wk t wd y md _ _ _ _ _ _ _ hI.sm hI.obj hI.ht hI.th hI.hw hI.hy hI.wr hI.hm hP.bf hP.ways hP.bl hP.mks hP.sub (le_trans (Nat.le_add_left _ _) hP.left) he
  refine ⟨λn σ' H'=>∃ks vks ws rows R B s7 s8 s9 s10 s11,n=U.length - List.length R/\σ'=[some (.str (tx L)),some sv,some (.ref fg),some (.ref fm),some (aP most),some (.ref wk),some (.ref d),s7,s8,s9,s10,s11]/\WI P w H H' cW ti L wk t wd y md d ks vks ws rows R B/\WPu g L s0 mk U ks ws R B 0,(_,[s0],[sv],[[]],[],[],[],none,none,none,none,none,rfl,rfl,hWI,WPu.start hsU),?_⟩
  rintro n σ' H3 ⟨ks,vks,ws,rows,R,B,s7,s8,s9,s10,s11,rfl,rfl,hI,hP⟩
  obtain ⟨dx',ew⟩:=hI.obj.ex
  have hrl:(rows.map V.ref).length=R.length:=by rw [qa4,hI.wr.1]
  have hvl:vks.length=ks.length:=hI.th.1
  have hksU:ks.length≤U.length:=le_trans (Nat.le_add_left _ _) hP.left
  refine (_,rfl,wk,cW,dx',_,_,rfl,ew,WT.cls,WT.na4,rfl,y,_,rfl,.inl (SqL.of hI.hy),_,rfl,wk,cW,dx',_,_,rfl,ew,WT.cls,WT.na2,rfl,t,_,rfl,.inl (SqL.of hI.ht),_,_,rfl,rfl,_,rfl,aB (λhlt=>?_) (λhlt=>?_))
  case _=>
   rw [hrl,hvl] at hlt
   have hlt:R.length<ks.length:=ofNat_lt.mp hlt
   refine ⟨λσ2 H4=>∃ks vks ws rows R' B s7 s8 s9 s10 s11,R'.length=R.length+1/\σ2=[some (.str (tx L)),some sv,some (.ref fg),some (.ref fm),some (aP most),some (.ref wk),some (.ref d),s7,s8,s9,s10,s11]/\WI P w H H4 cW ti L wk t wd y md d ks vks ws rows R' B/\WPu g L s0 mk U ks ws R' B 0,?_,?_⟩
   .rintro σ2 H4 ⟨ks',vks',ws',rows',R',B',u7,u8,u9,u10,u11,hR',hσ,hI',hP'⟩
    exact (U.length - R'.length,by rw [hR'];lia,ks',vks',ws',rows',R',B',u7,u8,u9,u10,u11,rfl,hσ,hI',hP')
   obtain ⟨k0,hk0⟩:∃k0,ks[R.length]?=some k0:=(ks[R.length],qa2 hlt)
   obtain ⟨v0,hv0⟩:∃v0,vks[R.length]?=some v0:=(vks[R.length]'(by rw [hvl];exact hlt),qa2 _)
   obtain ⟨a0,ha0⟩:∃a0,ws[R.length]?=some a0:=(ws[R.length]'(by rw [<- hP.bf.len];exact hlt),qa2 _)
   have hk0U:k0∈U:=hP.sub k0 (qb2 hk0)
   refine (λσ2 H4=>σ2=[some (.str (tx L)),some sv,some (.ref fg),some (.ref fm),some (aP most),some (.ref wk),some (.ref d),s7,s8,s9,s10,s11]/\H4=H3,?_,?_)
   .cases most with
    | none=>exact (_,rfl,rfl,_,rfl,d_y rfl (af (rfl,rfl)))
    | some M=>
     refine (_,rfl,rfl,_,rfl,pV (_,rfl,wk,cW,dx',_,_,rfl,ew,WT.cls,WT.na2,rfl,t,_,rfl,.inl (SqL.of hI.ht),_,rfl,_,_,rfl,rfl,_,rfl,?_))
     rw [hvl]
     exact aB (λhgt=>(_,rfl,fin hI hP (.inr (M,rfl,ofNat_lt.mp hgt)))) (λ_=>(rfl,rfl))
   rintro σ2 H4 ⟨rfl,rfl⟩
   refine (_,rfl,wk,cW,dx',_,_,rfl,ew,WT.cls,WT.na4,rfl,y,_,rfl,.inl (SqL.of hI.hy),?_)
   rw [hrl]
   have hat:atI vks ((R.length:Nat):Int)=some v0:=a_R hv0
   refine (rfl,_,rfl,wk,cW,dx',_,_,rfl,ew,WT.cls,WT.na2,rfl,_,rfl,iqL hI.ht hat (k0,v0,rfl,hI.th.2 _ _ _ hk0 hv0,hk0U,hRest _ _ hI.sm hR0,λgs xs H5 s5 hgs hxl hxs=>?_))
   have hI5:=hI.any s5
   have hgs':H5 gs=some (.tup xs)\/H5 gs=some (.lst xs):=hgs.imp id λz=>z.2
   have gne:∀{b:Addr} {o:HO},H4 b=some o->(∀zs,o≠.tup zs)->gs≠b:=λ{b o} e ho z=>by
    rcases hgs with h1|⟨h1,_⟩
    .rw [z,s5 _ _ e] at h1
     cases h1
     exact ho _ rfl
    .rw [z,e] at h1
     cases h1
   obtain ⟨φd,hφ⟩:∃ φ,H4 d=some (.ext φ):=by
    have hr0:=hI.rm
    unfold RmAt at hr0
    by_cases c:ti=.i
    .rw [if_pos c] at hr0;exact (_,hr0.1)
    .rw [if_neg c] at hr0;obtain ⟨kvs,e,_⟩:=hr0;exact (_,e)
   have g1:gs≠t:=gne hI.ht (by intro zs z;cases z)
   have g2:gs≠wd:=gne hI.hw (by intro zs z;cases z)
   have g3:gs≠y:=gne hI.hy (by intro zs z;cases z)
   have g4:gs≠md:=gne hI.hm (by intro zs z;cases z)
   have g5:gs≠d:=gne hφ (by intro zs z;cases z)
   refine (zero_le _,λrw hrw=>?_)
   have r1:rw≠t:=Ne.symm (ne_of_none hI5.ht hrw)
   have r2:rw≠wd:=Ne.symm (ne_of_none hI5.hw hrw)
   have r3:rw≠y:=Ne.symm (ne_of_none hI5.hy hrw)
   have r4:rw≠md:=Ne.symm (ne_of_none hI5.hm hrw)
   have r5:rw≠d:=Ne.symm (ne_of_none (s5 _ _ hφ) hrw)
   have r6:rw∉rows:=λhm=>by
    obtain ⟨i,hi⟩:=mem_iff_getElem?.mp hm
    have hil:i<R.length:=by rw [<- hI5.wr.1];exact (qa1 hi).1
    rw [hI5.wr.2 i rw _ hi (qa2 hil)] at hrw
    cases hrw
   have rg:gs≠rw:=λz=>by
    rw [<- z] at hrw
    rcases hgs' with h1|h1 <;> rw [hrw] at h1 <;> cases h1
   have r0:H rw=none:=b_k hI5.sm hrw
   have hI6:=hI5.any (Same.upd (o:=.lst []) hrw)
   have hgs6:upd H5 rw (.lst []) gs=some (.tup xs)\/upd H5 rw (.lst []) gs=some (.lst xs):=by rw [upd_ne rg];exact hgs'
   refine (_,rfl,_,rfl,_,_,rfl,cf hgs6 λd2 hd2 tk=>?_)
   have hxlen:((tx L).cps.toList.map λc=>V.str ⟨#[c]⟩).length=xs.length:=by rw [qa4,a_P,hxl]
   refine h_B (xs:=(tx L).cps.toList.map λc=>V.str ⟨#[c]⟩) (ys:=xs) hxlen (λq σ3 H6=>∃ks' vks' ws' r v10 v11,σ3=[some (.str (tx L)),some sv,some (.ref fg),some (.ref fm),some (aP most),some (.ref wk),some (.ref d),some (.int ((R.length:Nat):Int)),some (.ref gs),some (.ref rw),v10,v11]/\
    WI P w H H6 cW ti L wk t wd y md d ks' vks' ws' rows R B/\WPu g L s0 mk U ks' ws' R B q/\e_W g ks' R.length r q/\H6 rw=some (.lst (intsV r))/\H6 gs=H5 gs/\(∀(j:Nat) (x:V),xs[j]?=some x->ThV ti H6 (g k0 j) x)/\ks'[R.length]?=some k0/\ws'[R.length]?=some a0) ?_ ?_ ?_ ?_
   .exact (ks,vks,ws,[],s10,s11,rfl,hI6,hP,e_W.nil,upd_same,upd_ne rg,λj x hx=>(hxs j x hx).same λb zs e=>a_g e hrw,hk0,ha0)
   .rintro q σ3 H6 ⟨ks',vks',ws',r,v10,v11,rfl,hI',hP',hro,hrw',hgk,hth,hk',ha'⟩
    exact (rfl,hd2 H6 (by rw [hgk,upd_ne rg]))
   .rintro q cx gx' p σ3 H6 hc hg hp ⟨ks',vks',ws',r,v10,v11,rfl,hI',hP',hro,hrw',hgk,hth,hk',ha'⟩
    rw [a_P,qa6] at hc
    cases hcq:L[q]? with
    | none=>rw [hcq] at hc;cases hc
    | some c=>
    rw [hcq] at hc
    cases hc
    have hqL:q<L.length:=(qa1 hcq).1
    have hcd:L.getD q 0=c:=by rw [qa3,hcq];rfl
    have hgU:g k0 q∈U:=hcl k0 hk0U q hqL
    have hI7:=hI'.any (Same.upd (o:=.tup [.str ⟨#[c]⟩,gx']) hp)
    have hthq:ThV ti H6 (g k0 q) gx':=hth q gx' hg
    have hth7:ThV ti (upd H6 p (.tup [.str ⟨#[c]⟩,gx'])) (g k0 q) gx':=hthq.same λb zs e=>a_g e hp
    have hrp:upd H6 p (.tup [.str ⟨#[c]⟩,gx']) rw=some (.lst (intsV r)):=a_g hrw' hp
    have hgsp:upd H6 p (.tup [.str ⟨#[c]⟩,gx']) gs=H5 gs:=by
     have:gs≠p:=λz=>by
      rw [<- z,hgk] at hp
      rcases hgs' with h1|h1 <;> rw [hp] at h1 <;> cases h1
     rw [upd_ne this]
     exact hgk
    have hthp:∀(j:Nat) (x:V),xs[j]?=some x->ThV ti (upd H6 p (.tup [.str ⟨#[c]⟩,gx'])) (g k0 j) x:=λj x hx=>(hth j x hx).same λb zs e=>a_g e hp
    have hp7:upd H6 p (.tup [.str ⟨#[c]⟩,gx']) p=some (.tup [.str ⟨#[c]⟩,gx']):=upd_same
    generalize upd H6 p (.tup [.str ⟨#[c]⟩,gx'])=H7 at hI7 hth7 hrp hgsp hthp hp7
    have hkU:ks'.length≤U.length:=le_trans (Nat.le_add_left _ _) hP'.left
    have hk100:ks'.length≤100000:=le_trans hkU hU
    have hvl':vks'.length=ks'.length:=hI7.th.1
    refine (p,_,rfl,SqT.of hp7,rfl,_,_,rfl,_,_,rfl,rfl,?_)
    refine ⟨λσ4 H8=>∃ks2 vks2 ws2,σ4=[some (.str (tx L)),some sv,some (.ref fg),some (.ref fm),some (aP most),some (.ref wk),some (.ref d),some (.int ((R.length:Nat):Int)),some (.ref gs),some (.ref rw),some (.str ⟨#[c]⟩),some gx']/\WI P w H H8 cW ti L wk t wd y md d ks2 vks2 ws2 rows R B/\WPu g L s0 mk U ks2 ws2 R B (q+1)/\e_W g ks2 R.length r q/\
     H8 rw=some (.lst (intsV r))/\H8 gs=H5 gs/\(∀(j:Nat) (x:V),xs[j]?=some x->ThV ti H8 (g k0 j) x)/\ks2[R.length]?=some k0/\ws2[R.length]?=some a0/\g k0 q∈ks2,?_,?_⟩
    .refine (_,rfl,_,rfl,d,_,rfl,hI7.rm.get hth7,_,rfl,?_)
     by_cases hm:g k0 q∈ks'
     .rw [(aS hm).1]
      exact af (ks',vks',ws',rfl,hI7,hP'.old hL.nd hk' ha' hqL hm,hro,hrp,hgsp,hthp,hk',ha',hm)
     .rw [show ixO ks' (g k0 q)=none from if_neg hm]
      obtain ⟨ob,hput,hrm2⟩:=hI7.rm.put hth7 hm (b_Z hk100)
      obtain ⟨dx',ew7⟩:=hI7.obj.ex
      have ew8:upd H7 d ob wk=_:=(upd_ne (Ne.symm hI7.e5)).trans ew7
      have ht8:upd H7 d ob t=_:=(upd_ne (Ne.symm hI7.e1)).trans hI7.ht
      have hw8:upd H7 d ob wd=_:=(upd_ne (Ne.symm hI7.e2)).trans hI7.hw
      have wkt:wk≠t:=ne_of ew7 hI7.ht (by intro z;cases z)
      have ew9:upd (upd H7 d ob) t (.lst (vks'++[gx'])) wk=_:=(upd_ne wkt).trans ew8
      have hw9:upd (upd H7 d ob) t (.lst (vks'++[gx'])) wd=_:=(upd_ne (Ne.symm hI7.d1)).trans hw8
      have hatw:atI (wordsV ws') ((R.length:Nat):Int)=some (.str (tx a0)):=a_R (by rw [wordsV,qa6,ha'];rfl)
      have hwl:a0.length≤100000:=le_trans (hP'.wl a0 (qb2 ha')) hk100
      rw [<- hvl'] at hput
      refine aj (_,rfl,wk,cW,dx',_,_,rfl,ew7,WT.cls,WT.na2,rfl,t,_,rfl,.inl (SqL.of hI7.ht),_,rfl,_,rfl,d,_,rfl,hput,?_)
      refine (_,rfl,wk,cW,dx',_,_,rfl,ew8,WT.cls,WT.na2,rfl,.inl (rfl,_,SqL.of ht8),_,rfl,t,_,_,rfl,rfl,ht8,b_Z (by rw [hvl'];exact hk100),?_)
      refine (_,rfl,wk,cW,dx',_,_,rfl,ew9,WT.cls,WT.na3,rfl,.inl (rfl,_,SqL.of hw9),_,rfl,wk,cW,dx',_,_,rfl,ew9,WT.cls,WT.na3,rfl,_,rfl,iqL hw9 hatw (_,rfl,_,_,rfl,rfl,?_,wd,_,_,rfl,rfl,hw9,b_Z (by rw [wordsV,qa4,<- hP'.bf.len];exact hk100),?_))
      .show (tx a0).length+1≤sizeLine
       rw [a_k]
       exact a_d (by lia)
      have hch:tx a0++(⟨#[c]⟩:Str)=tx (a0++[c]):=by rw [<- c_o];rfl
      have hI10:=hI7.new (a:=a0++[c]) hth7 hrm2
      have hP10:=hP'.new hL.nd hk' ha' hqL hm hgU
      rw [hcd] at hP10
      have kt:∀b zs,H7 b=some (.tup zs)->upd (upd (upd H7 d ob) t (.lst (vks'++[gx']))) wd (.lst (wordsV ws'++[.str (tx (a0++[c]))])) b=some (.tup zs):=λb zs e=>by
       obtain ⟨φ,hφ7⟩:∃ φ,H7 d=some (.ext φ):=by
        have hr0:=hI7.rm
        unfold RmAt at hr0
        by_cases c:ti=.i
        .rw [if_pos c] at hr0;exact (_,hr0.1)
        .rw [if_neg c] at hr0;obtain ⟨kvs,e,_⟩:=hr0;exact (_,e)
       rw [upd_ne (ne_of e hI7.hw (by intro z;cases z)),upd_ne (ne_of e hI7.ht (by intro z;cases z)),upd_ne (ne_of e hφ7 (by intro z;cases z))]
       exact e
      refine (ks'++[g k0 q],vks'++[gx'],ws'++[a0++[c]],rfl,?_,hP10,hro.grow (qa1 hk').1,?_,?_,λj x hx=>?_,d_V hk',d_V ha',by simp)
      .rw [<- hch] at hI10
       exact hI10
      .rw [upd_ne r2,upd_ne r1,upd_ne r5]
       exact hrp
      .rw [upd_ne g2,upd_ne g1,upd_ne g5]
       exact hgsp
      .refine (hthp j x hx).same λb zs e=>?_
       have:=kt b zs e
       rw [<- hch] at this
       exact this
    rintro σ4 H8 ⟨ks2,vks2,ws2,rfl,hI8,hP8,hro8,hrw8,hg8,hth8,hk8,ha8,hm8⟩
    have hget:=hI8.rm.get (hth8 q gx' hg)
    rw [(aS hm8).1] at hget
    have hq3:r.length≤100:=by rw [hro8.1];exact le_trans (le_of_lt hqL) (le_trans hL.hi (by decide))
    refine (_,rfl,.inl (rfl,_,SqL.of hrw8),_,rfl,_,rfl,d,_,rfl,hget,rw,_,_,rfl,rfl,hrw8,b_Z (by rw [intsV_len];exact le_trans hq3 (by decide)),?_)
    refine (ks2,vks2,ws2,r++[ks2.idxOf (g k0 q)],_,_,rfl,hI8.beside hrw8 r0 r1 r2 r3 r4 r5 r6,hP8,hro8.snoc hk8 hm8,?_,?_,λj x hx=>?_,hk8,ha8)
    .rw [upd_same,a_J]
    .rw [upd_ne rg]
     exact hg8
    .exact (hth8 j x hx).same λb zs e=>by rw [upd_ne (ne_of e hrw8 (by intro z;cases z))];exact e
   .rintro σ3 H6 ⟨ks',vks',ws',r,v10,v11,rfl,hI',hP',hro,hrw',hgk,hth,hk',ha'⟩
    rw [hxlen,hxl] at hP' hro
    obtain ⟨dx',ew6⟩:=hI'.obj.ex
    have hkU:ks'.length≤100000:=le_trans (le_trans (Nat.le_add_left _ _) hP'.left) hU
    have hR100:R.length≤100000:=le_trans hP'.le hkU
    have hI8:=hI'.row hrw' r1 r2 r3 r4 r5
    obtain ⟨dx2,ew8⟩:=hI8.obj.ex
    obtain ⟨v1,hv1⟩:∃v1,vks'[R.length]?=some v1:=(vks'[R.length]'(by rw [hI'.th.1];exact (qa1 hk').1),qa2 _)
    refine (_,rfl,wk,cW,dx',_,_,rfl,ew6,WT.cls,WT.na4,rfl,.inl (rfl,_,SqL.of hI'.hy),_,rfl,y,_,_,rfl,rfl,hI'.hy,b_Z (by rw [qa4,hI'.wr.1];exact hR100),?_)
    refine (_,rfl,wk,cW,dx2,_,_,rfl,ew8,WT.cls,WT.na5,rfl,.inl (rfl,_,SqL.of hI8.hm),rfl,_,rfl,wk,cW,dx2,_,_,rfl,ew8,WT.cls,WT.na2,rfl,_,rfl,iqL hI8.ht (a_R hv1) (k0,v1,rfl,hI8.th.2 _ _ _ hk' hv1,hk0U,hRest _ _ hI8.sm hR0,md,_,_,rfl,rfl,hI8.hm,b_Z (by rw [qa4,hP'.bl];exact hR100),?_))
    exact (ks',vks',ws',rows++[rw],R++[r],B++[mk k0],_,_,_,_,_,by rw [qa5];rfl,rfl,hI8.mark,hP'.next hk' hro)
  case _=>
   rw [hrl,hvl] at hlt
   exact (_,rfl,fin hI hP (.inl (le_antisymm hP.le (le_of_not_lt λz=>hlt (ofNat_lt.mpr z)))))
abbrev s_g:Stmt:=(a_s a_n).getD 0 (.Pass (0,0,0,0))
abbrev s_m:Stmt:=(a_s a_n).getD 1 (.Pass (0,0,0,0))
abbrev q_g:Str:="walked_machine.<locals>.goals_of"
abbrev q_m:Str:="walked_machine.<locals>.is_marked"
def nu (s:Stmt):Pos:=match s with
 | .FunctionDef _ _ _ _ _ _ _ _ _ p=>p
 | _=>(0,0,0,0)
def sites:List (Pos×Str):=[(nu s_g,q_g,),(nu s_m,q_m,)]
theorem qk:f_e ["room",Q7] ["room"] [Q7] (a_c s_g):=(rfl,rfl,rfl,by decide +kernel,rfl,rfl,by decide,by decide +kernel,by decide +kernel)
theorem qj:f_e ["room",Q7] ["room"] [Q7] (a_c s_m):=(rfl,rfl,rfl,by decide +kernel,rfl,rfl,by decide,by decide +kernel,by decide +kernel)
section
variable {P:Program} {w:World} {K:Frag} {mg:Str->Option Value} {base:Heap} {f c m:Addr} {clos:List (Str×Addr)} {doc pm ctv:Value} {L:LN} {W:LL} {B:List Bool}
theorem qw (ho:base.get? f=some (fnMade "goals_of" q_g (a_C s_g) (a_s s_g) (a_c s_g) clos doc pm c ctv)) (hcd:base.CodeRec (.ref c) q_g) (C:bc base clos (a_c s_g) [Q7] [.ref m]) (hMa:Mach L W B):
  aa P w K mg base CX0 1 f (PySem.W.fnX "goals_of" q_g (a_C s_g) (a_s s_g) (a_c s_g) clos .none .none doc pm none (.ref c) ctv) ["room"] (gZ .i L (gW W) (uW W) λH=>a_o H m L W B):=by
 refine lE (fvs:=[.ref m]) ho rfl hcd qk C (λvs H Q E h=>?_) (λA outer s H vs Q E hr h=>?_)
 .obtain ⟨k,v,rfl,_⟩:=h
  rfl
 .obtain ⟨k,v,rfl,hv,hU,hM,q⟩:=h
  refine (_,(a_b (a_f (xqT (xqV 1) (pv 0)))),?_)
  obtain ⟨n,rfl,hn⟩:=ci hU
  unfold ThV at hv
  rw [if_pos rfl] at hv
  obtain ⟨n',e,rfl⟩:=hv
  injection e with e
  subst e
  obtain ⟨wy,mk,rows,h1,h2,h3,h4,h5⟩:=hM
  obtain ⟨rr,hrr⟩:∃rr,rows[n]?=some rr:=(rows[n]'(by rw [h4];exact hn),qa2 _)
  obtain ⟨ws,e5,e6⟩:=h5 _ _ hrr
  have hws:=hMa.row ws (qb2 e5)
  refine (ivT h1 aq (_,rfl,iqT h2 (a_Z V.ref hrr) ?_))
  refine q rr (intsV ws) H (Same.refl H) (.inl e6) (by rw [intsV_len];exact hws.1) λj x hx=>?_
  unfold ThV
  rw [if_pos rfl]
  rw [intsV,qa6] at hx
  cases hj:ws[j]? with
  | none=>rw [hj] at hx;cases hx
  | some z=>
   rw [hj] at hx
   cases hx
   refine (z,?_,rfl)
   show [(W.getD n []).getD j 0]=[z]
   have e7:W.getD n []=ws:=by
    rw [qa3,e5]
    rfl
   rw [e7,qa3,hj]
   rfl
theorem qv (ho:base.get? f=some (fnMade "is_marked" q_m (a_C s_m) (a_s s_m) (a_c s_m) clos doc pm c ctv)) (hcd:base.CodeRec (.ref c) q_m) (C:bc base clos (a_c s_m) [Q7] [.ref m]) (hMa:Mach L W B):
  aa P w K mg base CX0 1 f (PySem.W.fnX "is_marked" q_m (a_C s_m) (a_s s_m) (a_c s_m) clos .none .none doc pm none (.ref c) ctv) ["room"] (j8 .i (mkW B) (uW W) λH=>a_o H m L W B):=by
 refine lE (fvs:=[.ref m]) ho rfl hcd qj C (λvs H Q E h=>?_) (λA outer s H vs Q E hr h=>?_)
 .obtain ⟨k,v,rfl,_⟩:=h
  rfl
 .obtain ⟨k,v,rfl,hv,hU,hM,q⟩:=h
  refine (_,(a_b (a_f (xqT (xqV 1) (pv 0)))),?_)
  obtain ⟨n,rfl,hn⟩:=ci hU
  unfold ThV at hv
  rw [if_pos rfl] at hv
  obtain ⟨n',e,rfl⟩:=hv
  injection e with e
  subst e
  obtain ⟨wy,mk,rows,h1,h2,h3,h4,h5⟩:=hM
  have hB:B[n]?=some (B.getD n false):=by
   rw [qa3,qa2 (by rw [hMa.bl];exact hn)]
   rfl
  exact (ivT h1 aC (_,rfl,iqT h3 (a_Z V.bl hB) q))
end
theorem b_M:a_e [Q7,"goals_of","is_marked"] [Q7] (a_c a_n):=fsc
theorem jH {kV doc pm cdv ct ocD:Value} (lD:K.lookup tD=some (ocD,odD,.seq #[.none] nD,slD)):c_n K (fnOf "walked" "walked" (a_C b_t) (a_s b_t) (a_c b_t) (.ref tD) kV doc pm an cdv ct) [Q8,"start","goals_of","is_marked","most"] [.none]:=λs us hK hl=>by
 have hl4:us.length=4:=by simpa using hl
 obtain ⟨a,b,c,d,rfl⟩:=ln4 hl4
 exact BindsTo.of_defaults rfl (hK _ _ lD) rfl rfl rfl
theorem iH (Wd:gM X U σ H base') (sub:∀y a,clos.lookup y=some a->X.env.cells.lookup y=some a) (has:∀y∈sc.names,y.2=.free->∃a,clos.lookup y.1=some a) (hN:X.N[0]?=some Q7) (hσ:σ[0]?=some (some (.ref m))) (hc:X.env.scope.names.lookup Q7=some .cell) (hf:sc.names.lookup Q7=some .free) (hm:((Q7:Str),NameKind.free,)∈sc.names):
  bc base' clos sc [Q7] [.ref m]:=by
 refine (λy z c h1 h2=>Wd.inj y z c (sub y c h1) (sub z c h2),has,λy c h=>Wd.cell y c (sub y c h),rfl,λi y v h1 h2=>?_)
 match i,h1,h2 with
 | 0,h1,h2=>
  cases h1
  cases h2
  obtain ⟨a,ha⟩:=has _ hm rfl
  obtain ⟨c,u,e1,e2,e3⟩:=Wd.val 0 Q7 (.ref m) hN hσ hc
  have e4:=sub _ _ ha
  rw [e1] at e4
  cases e4
  exact (hf,_,u,ha,e2,e3)
 | i+1,h1,_=>simp at h1
set_option maxHeartbeats 8000000 in
theorem kE {P:Program} {w:World} {oc kV doc pm ct oc2 kV2 doc2 pm2 cdv2 ct2 ocD:Value} (lk:K.lookup f=some (oc,od,.func (fnOf "walked_machine" "walked_machine" (a_C a_n) (a_s a_n) (a_c a_n) .none kV doc pm an (.ref c) ct),osl)) (hcd:codeIn K (.ref c) "walked_machine"=true)
  (lw:K.lookup fw=some (oc2,od2,.func (fnOf "walked" "walked" (a_C b_t) (a_s b_t) (a_c b_t) (.ref tD) kV2 doc2 pm2 an2 cdv2 ct2),osl2)) (cw:codeIn K cdv2 "walked"=true) (kw:keepIn K (.ref fw)=true) (mw:mg "walked"=some (.ref fw)) (lD:K.lookup tD=some (ocD,odD,.seq #[.none] nD,slD))
  (WT:WkT K mg cW fI fdI) (tlen:mg "len"=none) (tzip:mg "zip"=none) (hC:CodeHd base c P0) (hB:bd base mg):
  aa P w K mg base CX0 6 f (fnOf "walked_machine" "walked_machine" (a_C a_n) (a_s a_n) (a_c a_n) .none kV doc pm an (.ref c) ct) [Q7] (e_Y cW P0 sites):=by
 refine mX lk hcd b_M (λvs H Q E h=>?_) (λA outer s H vs Q E hr h=>?_)
 .obtain ⟨m,L,W,B,rfl,_⟩:=h
  rfl
 .obtain ⟨m,L,W,B,rfl,hM,hMa,hT,q⟩:=h
  refine (_,(a_a ((ia (i:=1) (qual:=q_g) (c:=c) (P0:=P0) (sites:=sites) b_M.nd rfl (Or.inl rfl) rfl hC hB (by decide +kernel) (by decide +kernel))) (a_a ((ia (i:=2) (qual:=q_m) (c:=c) (P0:=P0) (sites:=sites) b_M.nd rfl (Or.inl rfl) rfl hC hB (by decide +kernel) (by decide +kernel))) (a_b (a_f (mz (dvs:=[.non]) rfl mw kw (jH (kV:=kV2) (doc:=doc2) (pm:=pm2) (an:=an2) (cdv:=cdv2) (ct:=ct2) lD) (.cons rfl .nil) (c_B (xqV 0) (pq3 pe_int (pv 1) (pv 2))) (λ_=>rfl)))))),?_)
  refine (hT,λclos1 f1 c1 H1 sub1 has1 fr1 ne1 s1 hT1 hc1 hf1=>(hT1,λclos2 f2 c2 H2 sub2 has2 fr2 ne2 s2 hT2 hc2 hf2=>?_))
  have s12:c_k P0 H H2:=b_P s1 s2
  have hM2:a_o H2 m L W B:=hM.tups (b_C s12 hT)
  obtain ⟨ps1,hP1,_⟩:=id hT1
  obtain ⟨ps2,hP2,ht2,hall2⟩:=id hT2
  have nP:∀{b:Addr} {φ:Heap->Prop},H1 b=some (.ext φ)->b≠P0:=λ{b φ} e z=>by rw [z,hP1] at e;cases e
  have hf1':H2 f1=some (fnHO f1 "goals_of" q_g (a_C s_g) (a_s s_g) (a_c s_g) clos1 c1):=s2 f1 _ (nP hf1) hf1
  have hc1':H2 c1=some (codeHO c1 q_g):=s2 c1 _ (nP hc1) hc1
  have hf2':H2 f2=some (fnHO f2 "is_marked" q_m (a_C s_m) (a_s s_m) (a_c s_m) clos2 c2):=hf2
  have hM3:=hM2
  obtain ⟨wy,mk,rows,h1,h2,h3,h4,h5⟩:=hM2
  have hUx:∀u∈[f1,f2,c1,c2],∃ φ,H2 u=some (.ext φ):=λu hu=>by
   simp only [mem_cons,not_mem_nil,or_false] at hu
   rcases hu with rfl|rfl|rfl|rfl
   .exact (_,hf1')
   .exact (_,hf2')
   .exact (_,hc1')
   .exact (_,hc2)
  refine (ivT h1 al (_,rfl,_,rfl,[f1,f2,c1,c2],hUx,λbase' Wd=>?_))
  obtain ⟨doc1,pm1,ctv1,eb1⟩:=Wd.ext f1 _ (by simp) hf1'
  obtain ⟨doc3,pm3,ctv3,eb2⟩:=Wd.ext f2 _ (by simp) hf2'
  have cd1:base'.CodeRec (.ref c1) q_g:=Wd.ext c1 _ (by simp) hc1'
  have cd2:base'.CodeRec (.ref c2) q_m:=Wd.ext c2 _ (by simp) hc2
  have C1:=iH (sc:=a_c s_g) (m:=m) Wd sub1 has1 rfl rfl rfl rfl (by decide +kernel)
  have C2:=iH (sc:=a_c s_m) (m:=m) Wd sub2 has2 rfl rfl rfl rfl (by decide +kernel)
  have Fw:nj K "walked" "walked" b_t fw _:=((oc2,od2,.ref tD,kV2,doc2,pm2,an2,cdv2,ct2,osl2,rfl,lw,cw),kw)
  refine (5,br cW .i L (gW W) (mkW B) (uW W) (λH=>a_o H m L W B) f1 f2,hr,jb Fw WT tlen tzip ((qw eb1 cd1 C1 hMa).mono (by decide)) ((qv eb2 cd2 C2 hMa).mono (by decide)) eb1 (_,rfl) eb2 (_,rfl) (.all λus hl=>by obtain ⟨_,rfl⟩:=ln1 hl;rfl) (.all λus hl=>by obtain ⟨_,rfl⟩:=ln1 hl;rfl) (λ_ _ s h=>h.same s),?_)
  have keepT:∀{b:Addr} {o:HO},H2 b=some o->(∀ φ,o≠.ext φ)->b∉[f1,f2,c1,c2]:=λ{b o} e ho hb=>by
   obtain ⟨φ,e2⟩:=hUx b hb
   rw [e] at e2
   exact ho φ (Option.some.inj e2)
  have n60:=hMa.n60
  refine ([0],.int 0,none,rfl,hMa.lt,?_,fD.mpr hMa.n1,o7 hMa,by rw [jU];omega,hM3.tups λb xs e=>by rw [b_s (keepT e (λ_ z=>nomatch z))];exact e,λwk t wd y md ks vks ws rows' R Bm H3 sm3 hW ht hth hwd hy hwr hmd bf ways bl mks sub le he hU3=>?_)
  .unfold ThV
   rw [if_pos rfl]
   exact (0,rfl,rfl)
  have hR:R.length=ks.length:=by
   rcases he with z|⟨n,z,_⟩
   .exact z
   .cases z
  have out:∀{b:Addr} {o:HO},H3 b=some o->dS [f1,f2,c1,c2] H2 H3 b=some o:=λ{b o} e=>by
   rw [c_R λhb=>?_]
   .exact e
   .rw [hU3 b hb] at e
    cases e
  have fwd:∀{b:Addr} {o:HO},H2 b=some o->dS [f1,f2,c1,c2] H2 H3 b=some o:=λ{b o} e=>by
   by_cases hb:b∈[f1,f2,c1,c2]
   .rw [hY hb]
    exact e
   .exact out (sm3 b o (by rw [b_s hb];exact e))
  rw [hR] at bf
  obtain ⟨dx,ew⟩:=hW.ex
  exact q wk t wd y md ks vks ws rows' R Bm _ (λb o hb e=>fwd (s12 b o hb e)) (ps2,fwd hP2,ht2,λx hx=>(hall2 x hx).imp id λhZ0=>by obtain ⟨c',e1,e2⟩:=hZ0;exact (c',e1,fwd e2)) (dx,out ew) (out ht) (hth.same λb xs e=>out e) (out hwd) (out hy) (hwr.1,λi a r e1 e2=>out (hwr.2 i a r e1 e2)) (out hmd) bf ways hR bl mks sub (by rw [jU] at le;exact le)
theorem d_z:a_e [Q7,"walk"] [Q7] (a_c c_N):=fsc
set_option maxHeartbeats 8000000 in
theorem pP (F:Fun K "first_words" "first_words" c_N f fd) (WT:WkT K mg cW fI fdI) (tlist:mg "list"=none) (tzip:mg "zip"=none) (D:Df P w K mg base "walked_machine" 6 [Q7] (e_Y cW P0 sites)):
  aa P w K mg base CX0 7 f fd [Q7] (gY P0 sites):=by
 refine F.ok d_z (λvs H Q E h=>?_) (λcdv A outer s H vs Q E hr h=>?_)
 .obtain ⟨m,L,W,B,rfl,_⟩:=h
  rfl
 .obtain ⟨m,L,W,B,rfl,hM,hMa,hT,q⟩:=h
  refine (_,(a_a ((stS 1 d_z.nd (a_l D hr (pq1 (pv 0))))) (a_b (a_f (fU rfl rfl tlist rfl tzip (pq2 (b_E (f:="things") (pv 1) rfl) (b_E (f:="words") (pv 1) rfl)))))),?_)
  refine (_,rfl,m,L,W,B,rfl,hM,hMa,hT,λwk t wd y md ks vks ws rows R Bm H1 s1 hT1 hW ht hth hwd hy hwr hmd bf ways hR bl mks sub le=>?_)
  obtain ⟨dx,ew⟩:=hW.ex
  have hn60:=hMa.n60
  refine (_,rfl,wk,cW,dx,_,_,rfl,ew,WT.cls,WT.na2,rfl,_,rfl,wk,cW,dx,_,_,rfl,ew,WT.cls,WT.na3,rfl,t,wd,vks,wordsV ws,rfl,ht,hwd,?_,by rw [hth.1];exact le_trans le (le_trans hn60 (by decide)),λl ts H2 hts hnd hl s2 hl2 hpair=>?_)
  .rw [hth.1,wordsV,qa4]
   exact bf.len
  obtain ⟨rs,hrs⟩:∃rs:LN,ks=rs.map λn=>[n]:=by
   refine (ks.map λk=>k.headD 0,?_)
   rw [map_map]
   refine (List.map_id ks).symm.trans (map_congr_left λk hk=>?_)
   obtain ⟨n,rfl,_⟩:=ci (sub k hk)
   rfl
  subst hrs
  rw [qa4] at bf le
  have hrl:vks.length=rs.length:=by rw [hth.1,qa4]
  refine q l rs ws H2 (b_P s1 (dP s2)) ?_ ?_ (ts,hl2,by rw [hts,hrl],by have:=bf.len;rw [qa4] at this;exact this.symm,λi tt r wv e1 e2 e3=>?_) bf (λr hr'=>?_) le
  .obtain ⟨ps,hP,h2,h3⟩:=hT1
   exact (ps,s2 _ _ hP,h2,λx hx=>(h3 x hx).imp id λhZ1=>by obtain ⟨c',e1,e2⟩:=hZ1;exact (c',e1,s2 _ _ e2))
  .cases z:H l with
   | none=>rfl
   | some o=>
    by_cases hlP:l=P0
    .obtain ⟨ps,hP,_⟩:=hT1
     rw [<- hlP,hl] at hP
     cases hP
    .rw [s1 l o hlP z] at hl
     cases hl
  .obtain ⟨v,hv⟩:∃v,vks[i]?=some v:=(vks[i]'(by rw [hrl];exact (qa1 e2).1),qa2 _)
   have hthi:=hth.2 i [r] v (by rw [qa6,e2];rfl) hv
   unfold ThV at hthi
   rw [if_pos rfl] at hthi
   obtain ⟨n,e4,rfl⟩:=hthi
   injection e4 with e4
   subst e4
   exact hpair i tt _ _ e1 hv (by rw [wordsV,qa6,e3];rfl)
  .exact fD.mp (sub [r] (mem_map.mpr (r,hr',rfl)))
abbrev c_z:Stmt:=top 103
abbrev c_v:Stmt:=top 104
abbrev c_u:Stmt:=top 106
abbrev d_i:Stmt:=top 107
abbrev c_x:Stmt:=top 108
abbrev d_R:Stmt:=top 110
abbrev c_P:Stmt:=top 109
abbrev c_t:Stmt:=top 111
abbrev d_j:Stmt:=top 112
abbrev d_k:Stmt:=top 113
abbrev c_w:Stmt:=top 114
abbrev e_A:Stmt:=top 8
abbrev f_q:Stmt:=top 22
abbrev d_K:Stmt:=top 23
abbrev d_J:Stmt:=top 11
abbrev d_e:Stmt:=top 20
abbrev cF:Stmt:=top 21
abbrev e_z:Stmt:=top 14
abbrev d_M:Stmt:=top 15
abbrev d_I:Stmt:=top 13
abbrev c_r:Stmt:=top 17
abbrev f_p:Stmt:=top 30
abbrev g_X:Stmt:=top 39
abbrev e_y:Stmt:=top 90
abbrev f_m:Stmt:=top 89
abbrev h_a:Stmt:=top 63
abbrev g_W:Stmt:=top 95
abbrev f_o:Stmt:=top 94
abbrev f_n:Stmt:=top 91
abbrev c_h:Stmt:=top 88
abbrev e_B:Stmt:=top 97
abbrev d_H:Stmt:=top 98
abbrev e_x:Stmt:=top 96
abbrev b_W:Stmt:=top 92
abbrev b_Q:Stmt:=top 93
abbrev c_O:Stmt:=top 16
abbrev g_Z:Stmt:=top 18
abbrev cG:Stmt:=top 31
abbrev d_L:Stmt:=top 101
abbrev f_l:Stmt:=top 46
abbrev c_M:Stmt:=top 87
abbrev fQ:Stmt:=top 100
abbrev d_f:Stmt:=top 115
abbrev b_X:Stmt:=top 117
abbrev d_h:Stmt:=top 118
abbrev d_P:Stmt:=top 126
abbrev d_N:Stmt:=top 105
abbrev c_y:Stmt:=top 119
abbrev b_D:Stmt:=top 120
abbrev b_v:Stmt:=top 121
abbrev d_g:Stmt:=top 122
abbrev c_s:Stmt:=top 123
abbrev b_R:Stmt:=top 124
abbrev d_O:Stmt:=top 125
abbrev d_Q:Stmt:=top 116
abbrev g_Y:Stmt:=top 127
structure Txt (K:Frag) (mg:Str->Option Value):Prop where
 len:mg "len"=none
 range:mg "range"=none
 isinst:mg "isinstance"=none
 int:mg "int"=none
 bool:mg "bool"=none
 tuple:mg "tuple"=none
 list:mg "list"=none
 str:mg "str"=none
 zip:mg "zip"=none
 max:mg "max"=none
 enumerate:mg "enumerate"=none
 reversed:mg "reversed"=none
def d_b (K:Frag):Sp:=λvs H Q _=>∃(a:Addr) (ns:List Int) (k:Int),vs=[.ref a,.int k]/\SqL K H a (ns.map V.int)/\0≤k/\∀z,Q (.int z) H
def sp_letters:Sp:=λvs H Q _=>∃(c:Int),vs=[.int c]/\∀L,Let L->Q (.str (tx L)) H
def e_t (K:Frag):Sp:=λvs H Q _=>∃(a:Addr) (ns:List Int) (p:Int) (n:Nat) (L:LN),vs=[.ref a,.int p,.int (n:Int),.str (tx L)]/\SqL K H a (ns.map V.int)/\0≤p/\1≤n/\n≤60/\Let L/\
 ∀(m:Addr) (W:LL) (B:List Bool) (H':Hp),Same H H'->a_o H' m L W B->Mach L W B->W.length=n->Q (.ref m) H'
def d_r (K:Frag):Sp:=λvs H Q _=>∃(a:Addr) (ns:List Int) (n:Nat),vs=[.ref a,.int (n:Int)]/\SqL K H a (ns.map V.int)/\n≤60/\∀(t:Addr) (B:List Bool) (H':Hp),Same H H'->H' t=some (.tup (B.map V.bl))->B.length=n->Q (.ref t) H'
def dJ (K:Frag):Sp:=λvs H Q _=>∃(a:Addr) (ns:List Int) (L:LN) (st:Bool),vs=[.ref a,.str (tx L),.bl st]/\SqL K H a (ns.map V.int)/\Let L/\
 ∀(m:Addr) (W:LL) (B:List Bool) (H':Hp),Same H H'->a_o H' m L W B->Mach L W B->W.length≤8->Q (.ref m) H'
def d_F (K:Frag):Sp:=λvs H Q _=>∃(a:Addr) (ns:List Int) (L:LN),vs=[.ref a,.str (tx L)]/\SqL K H a (ns.map V.int)/\Let L/\
 ∀(m:Addr) (W:LL) (B:List Bool) (H':Hp),Same H H'->a_o H' m L W B->Mach L W B->W.length≤8->Q (.ref m) H'
theorem pS (h:Let L):∃C:Nat,atI [V.int 6,.int 2,.int 1] (((tx L).length:Nat) - 1:Int)=some (.int (C:Int))/\1≤C/\((L.length=1/\C≤6)\/(L.length=2/\C≤2)\/(L.length=3/\C≤1)):=by
 have h1:=h.lo
 have h2:=h.hi
 rw [a_k]
 have:L.length=1\/L.length=2\/L.length=3:=by lia
 rcases this with e|e|e
 .exact (6,by rw [e];rfl,by decide,.inl (e,le_refl _))
 .exact (2,by rw [e];rfl,by decide,.inr (.inl (e,le_refl _)))
 .exact (1,by rw [e];rfl,by decide,.inr (.inr (e,le_refl _)))
structure MemI (P:Program) (w:World) (H H':Hp) (dd ll wa:Addr) (L:LN) (s at0:Nat) (ws:LL) (rows:List Addr) (W:LL):Prop where
 sm:Same H H'
 pd:H' dd=some (kdO (sK P w) dd (kvX ws 0))
 lb:H' ll=some (.lst (wordsV ws))
 wy:H' wa=some (.lst (rows.map V.ref))
 nd:ws.Nodup
 wd:∀v∈ws,v.length≤s/\∀c∈v,c∈L
 rl:rows.length=at0
 wl:W.length=at0
 ra:b_L H' rows W
 rb:∀r∈W,r.length=L.length/\∀x∈r,x<ws.length
 le:at0≤ws.length
 ne:0<ws.length
 d0:H dd=none
 l0:H ll=none
 w0:H wa=none
 lw:ll≠wa
theorem bB (h:b_L H rows W) (s:∀b xs,H b=some (.tup xs)->H' b=some (.tup xs)):b_L H' rows W:=λi r e=>let ⟨v,e1,e2⟩:=h i r e;(v,e1,s _ _ e2)
section
variable {P:Program} {w:World} {H H' H2:Hp} {dd ll wa rw:Addr} {L:LN} {s at0:Nat} {ws W:LL} {rows:List Addr}
theorem MemI.keep (h:MemI P w H H' dd ll wa L s at0 ws rows W) (k:Same H' H2):MemI P w H H2 dd ll wa L s at0 ws rows W:={ h with sm:=h.sm.trans k,pd:=k _ _ h.pd,lb:=k _ _ h.lb,wy:=k _ _ h.wy,ra:=h.ra.same k }
theorem MemI.other (h:MemI P w H H' dd ll wa L s at0 ws rows W) (h0:H rw=none) (hr:H' rw=some (.lst xs)) (nl:ll≠rw) (nw:wa≠rw):MemI P w H (L2.upd H' rw o) dd ll wa L s at0 ws rows W:=
 { h with sm:=Same.set h.sm h0,pd:=upd_keep2 h.pd hr (by intro z;unfold kdO at z;cases z),lb:=by rw [upd_ne nl];exact h.lb,wy:=by rw [upd_ne nw];exact h.wy,ra:=bB h.ra λb ys e=>upd_keep2 e hr (by intro z;cases z) }
theorem MemI.add (h:MemI P w H H' dd ll wa L s at0 ws rows W) (hu:u∉ws) (hl:u.length≤s) (hc:∀c∈u,c∈L):MemI P w H (L2.upd (L2.upd H' dd (kdO (sK P w) dd (kvX (ws++[u]) 0))) ll (.lst (wordsV (ws++[u])))) dd ll wa L s at0 (ws++[u]) rows W:=by
 have dl:dd≠ll:=ne_of h.pd h.lb (by intro z;unfold kdO at z;cases z)
 have dw:dd≠wa:=ne_of h.pd h.wy (by intro z;unfold kdO at z;cases z)
 have lb2:L2.upd H' dd (kdO (sK P w) dd (kvX (ws++[u]) 0)) ll=some (.lst (wordsV ws)):=by rw [upd_ne (Ne.symm dl)];exact h.lb
 refine { h with sm:=Same.set (Same.set h.sm h.d0) h.l0,pd:=by rw [upd_ne dl];exact upd_same,lb:=upd_same,wy:=by rw [upd_ne (Ne.symm h.lw),upd_ne (Ne.symm dw)];exact h.wy,nd:=?_,wd:=λv hv=>?_,ra:=bB h.ra λb ys e=>upd_keep2 (upd_keep2 e h.pd (by intro z;unfold kdO at z;cases z)) lb2 (by intro z;cases z),rb:=λr hr=>((h.rb r hr).1,λx hx=>?_),le:=?_,ne:=by rw [qa5];exact lt_of_lt_of_le h.ne (le_add_right _ _) }
 .rw [List.nodup_append]
  exact (h.nd,by simp,λa ha b hb z=>by rw [qb1 hb] at z;exact hu (z▸ha))
 .rcases mem_append.mp hv with z|z
  .exact h.wd v z
  .rw [qb1 z];exact (hl,hc)
 .rw [qa5];exact lt_of_lt_of_le ((h.rb r hr).2 x hx) (le_add_right _ _)
 .rw [qa5];exact le_trans h.le (le_add_right _ _)
theorem MemI.few (h:MemI P w H H' dd ll wa L s at0 ws rows W) (hs:(b_i L s).length≤7):ws.length≤7:=le_trans (eB h.nd λv hv=>g_z (h.wd v hv).1 (h.wd v hv).2) hs
end
structure jK (H0 H':Hp) (rl tl:Addr) (rws:List Addr) (ts:LL) (S lows:LN) (vs:List V):Prop where
 sm:Same H0 H'
 r0:H0 rl=none
 hr:H' rl=some (.lst (rws.map V.ref))
 rn:rws.length=S.length
 ll:lows.length=S.length
 rr:∀(i:Nat) (r:Addr),rws[i]?=some r->H' r=some (.tup [.int ((lows.getD i 0:Nat):Int),.int ((S.getD i 0:Nat):Int)])
 lo:∀i,i<S.length->lows.getD i 0<S.getD i 0
 ht:H' tl=some (.lst vs)
 th:b_e .t H' ts vs
 ta:Tal ts S
 ne:1≤ts.length
 tr:tl≠rl
theorem jK.keep (h:jK H0 H' rl tl rws ts S lows vs) (k:Same H' H2):jK H0 H2 rl tl rws ts S lows vs:=
 { h with sm:=h.sm.trans k,hr:=k _ _ h.hr,rr:=λi r e=>k _ _ (h.rr i r e),ht:=k _ _ h.ht,th:=h.th.same λb xs e=>k _ _ e }
theorem thT (e:H b=some (.tup (intsV k))):ThV .t H k (.ref b):=by
 unfold ThV
 rw [if_neg (by decide)]
 exact (b,rfl,e)
theorem iT (h:ThV .t H k v):∃b,v=.ref b/\H b=some (.tup (intsV k)):=by
 unfold ThV at h
 rw [if_neg (by decide)] at h
 exact h
theorem g_d (h1:b_e .t H as xs) (h2:b_e .t H bs ys):b_e .t H (as++bs) (xs++ys):=by
 refine (by rw [qa5,qa5,h1.1,h2.1],λi k v a b=>?_)
 by_cases z:i<xs.length
 .rw [getElem?_append_left (by rw [<- h1.1];exact z)] at a
  rw [getElem?_append_left z] at b
  exact h1.2 i k v a b
 .rw [getElem?_append_right (by rw [<- h1.1];lia),<- h1.1] at a
  rw [getElem?_append_right (by lia)] at b
  exact h2.2 _ k v a b
theorem oU {k:Nat} (hc:cc.length≤1000) (e:H' ca=some (.tup (intsV cc))) (h:∀pn H7,Same H' H7->H7 pn=some (.tup (intsV (cc++[k])))->R1 (.ref pn) H7) (tb:Addr) (htb:H' tb=none):rCatV (.ref ca) (.ref tb) (L2.upd H' tb (.tup [.int (0+(k:Int))])) R1:=by
 have s:=Same.upd (o:=.tup [.int (0+(k:Int))]) htb
 refine (ca,tb,_,_,rfl,rfl,s _ _ e,upd_same,by rw [intsV_len];exact a_d (by show cc.length+1≤16777216;lia),λp H8 s8 hp8=>h p H8 (s.trans s8) ?_)
 rw [hp8,Int.zero_add,a_J]
theorem h_E {n:Nat} (ht:∀R:List V->Hp->Prop,R [.int (n:Int)] H->t σ H R) (hn:n≤1000) (hca:H ca=some (.tup (intsV cc)))
  (hte:∀(k:Nat) (H':Hp) (R1:VK),(∀pn H7,Same H' H7->H7 pn=some (.tup (intsV (cc++[k])))->R1 (.ref pn) H7)->H' ca=some (.tup (intsV cc))->te (some (.int (0+(k:Int)))::σ) H' R1)
  (hq:∀D ys H',Same H H'->H' D=some (.lst ys)->ys.length=n->b_e .t H' ((List.range n).map λk=>cc++[k]) ys->Q (.ref D) H'):d_E (iy t) tAlways te σ H Q:=by
 refine d_p (n:=n) ht hn (λD k ys H'=>b_e .t H' ((List.range k).map λk=>cc++[k]) ys) (λD hD=>(rfl,λi k v a=>by simp at a)) ?_ ?_
 .intro D k ys H' R1 R2 hD hk hsm hDl hp k1 k2
  refine tAlways_if (hte k H' R1 (λpn H7 s7 e7=>?_) (hsm _ _ hca))
  have hD7:=s7 _ _ hDl
  refine k1 (.ref pn) H7 hD7 (Same.set (hsm.trans s7) hD) ?_
  rw [range_succ,map_append,map_singleton]
  exact ((hp.same λb xs e=>s7 _ _ e).same λb xs e=>upd_keep2 e hD7 (by intro z;cases z)).snoc (thT (upd_keep2 e7 hD7 (by intro z;cases z)))
 .intro D ys H' hD hsm hDl hp
  exact hq D ys H' hsm hDl (by rw [hp.1,qa4,length_range]) hp
def dL (K:Frag):Sp:=λvs H Q _=>∃(a:Addr) (ns:List Int) (L:LN) (k:Int),vs=[.ref a,.str (tx L),.int k]/\SqL K H a (ns.map V.int)/\Let L/\
 ∀(m:Addr) (W:LL) (B:List Bool) (H':Hp),Same H H'->a_o H' m L W B->Mach L W B->W.length≤8->Q (.ref m) H'
def sp_after:Sp:=λvs H Q _=>∃(m:Addr) (L:LN) (W:LL) (B:List Bool) (r:Nat) (w:LN),vs=[.ref m,.int (r:Int),.str (tx w)]/\a_o H m L W B/\Mach L W B/\r<W.length/\(∀c∈w,c∈L)/\Q (.int (run L W r w:Nat)) H
def sp_isword:Sp:=λvs H Q _=>∃(L w:LN),vs=[.str (tx w),.str (tx L)]/\(∀c∈w,c∈L)/\w.length≤10000/\∀H',Same H H'->Q (.bl true) H'
def sp_is_whole:Sp:=λvs H Q _=>∃(i:Int),vs=[.int i]/\Q (.bl true) H
def sp_isroom:Sp:=λvs H Q _=>∃(i n:Int),vs=[.int i,.int n]/\0≤i/\i<n/\Q (.bl true) H
def sp_needroom:Sp:=λvs H Q _=>∃(m:Addr) (L:LN) (W:LL) (B:List Bool) (r:Nat),vs=[.ref m,.int (r:Int)]/\a_o H m L W B/\Mach L W B/\r<W.length/\Q .non H
def sp_needword:Sp:=λvs H Q _=>∃(L w:LN),vs=[.str (tx L),.str (tx w)]/\(∀c∈w,c∈L)/\Q .non H
def sp_roomafter:Sp:=λvs H Q _=>∃(m:Addr) (L:LN) (W:LL) (B:List Bool) (r:Nat) (w:LN),vs=[.ref m,.int (r:Int),.str (tx w)]/\a_o H m L W B/\Mach L W B/\r<W.length/\(∀c∈w,c∈L)/\Q (.int (run L W r w:Nat)) H
def sp_takes:Sp:=λvs H Q _=>∃(m:Addr) (L:LN) (W:LL) (B:List Bool) (w:LN),vs=[.ref m,.str (tx w)]/\a_o H m L W B/\Mach L W B/\(∀c∈w,c∈L)/\Q (.bl (B.getD (run L W 0 w) false)) H
def sp_numbered:Sp:=λvs H Q _=>∃(a:Addr) (o:HO) (xs:List V) (ks:List KS) (nest:Bool),vs=[.ref a]/\(o=.lst xs\/o=.tup xs)/\H a=some o/\xs.length=ks.length/\ks.length≤1000/\(∀(i:Nat) (k:KS) (x:V),ks[i]?=some k->xs[i]?=some x->fq H k x/\isN k=nest)/\∀p H',Same H H'->H' p=some (.lst (intsV (ao ks)))->Q (.ref p) H'
def sp_manyM:Sp:=λvs H Q _=>∃(a:Addr) (ns:LN),vs=[.ref a]/\H a=some (.lst (intsV ns))/\0<ns.length/\∀M∈ns,(∀x∈ns,x≤M)->Q (.int ((M:Int)+1)) H
def sp_roundsQ:Sp:=λvs H Q _=>∃(wy mk:Addr) (rows:List Addr) (o om:HO) (L:LN) (W:LL) (B:List Bool),vs=[.ref wy,.ref mk,.int ((W.length:Nat):Int)]/\(o=.lst (rows.map V.ref)\/o=.tup (rows.map V.ref))/\H wy=some o/\(om=.lst (B.map V.bl)\/om=.tup (B.map V.bl))/\H mk=some om/\rows.length=W.length/\nI H rows W/\Mach L W B/\
 ∀(p:Addr) (lots:List Addr) (k:Nat) (H':Hp),Same H H'->H' p=some (.lst (lots.map V.ref))->lots.length=k+1->g_M H' lots W B->Rd W B (k+1)=Rd W B k->k≤3600->Q (.ref p) H'
def sp_pword:Sp:=λvs H Q _=>∃(wy p:Addr) (rows lots:List Addr) (L:LN) (W:LL) (B:List Bool) (k r s:Nat),vs=[.str (tx L),.ref wy,.ref p,.int (r:Int),.int (s:Int)]/\H wy=some (.tup (rows.map V.ref))/\rows.length=W.length/\b_L H rows W/\Mach L W B/\H p=some (.lst (lots.map V.ref))/\lots.length=k+1/\g_M H lots W B/\Rd W B (k+1)=Rd W B k/\k≤3600/\r<W.length/\s<W.length/\
 ∀o H',Same H H'->ba L W B r s o->Q (oV o) H'
def sp_part56:Sp:=λvs H Q _=>∃(m:Addr) (L:LN) (W:LL) (B:List Bool) (r s:Nat),vs=[.ref m,.int (r:Int),.int (s:Int)]/\a_o H m L W B/\Mach L W B/\r<W.length/\s<W.length/\∀o H',Same H H'->ba L W B r s o->Q (oV o) H'
def sp_parted:Sp:=λvs H Q _=>∃(m:Addr) (L:LN) (W:LL) (B:List Bool) (W0:LL) (B0:List Bool) (u v:LN),vs=[.ref m,.str (tx u),.str (tx v)]/\a_o H m L W B/\b_a L W0 B0 W B/\W.length≤8/\(∀c∈u,c∈L)/\(∀c∈v,c∈L)/\u.length≤1000/\v.length≤1000/\run L W 0 u≠run L W 0 v/\
 ∀(t:Addr) (x y z:LN) (H':Hp),Same H H'->H' t=some (.tup [.str (tx x),.str (tx y),.str (tx z)])->((x=u/\y=v)\/(x=v/\y=u))->(∀c∈z,c∈L)->z.length≤8->B.getD (run L W 0 (x++z)) false=true->B.getD (run L W 0 (y++z)) false=false->Q (.ref t) H'
theorem f_f (a b:LL):wordsV (a++b)=wordsV a++wordsV b:=by rw [wordsV,wordsV,wordsV,map_append]
def sp_pairs:Sp:=λvs H Q _=>∃(L:LN),vs=[.str (tx L)]/\L.length≤3/\∀(p:Addr) (H':Hp),Same H H'->H' p=some (.lst (wordsV (prA L L.length)))->Q (.ref p) H'
structure na (L:LN) (W0:LL) (B0:List Bool) (x y:LN):Prop where
 cx:∀c∈x,c∈L
 cy:∀c∈y,c∈L
 lx:x.length≤60
 ly:y.length≤60
 cnt:∀c,x.count c=y.count c
 yes:B0.getD (run L W0 0 x) false=true
 no:B0.getD (run L W0 0 y) false=false
def bv (P0:Addr) (sites:List (Pos×Str)):Sp:=λvs H Q _=>∃(m:Addr) (L:LN) (W:LL) (B:List Bool) (W0:LL) (B0:List Bool),vs=[.ref m]/\a_o H m L W B/\b_a L W0 B0 W B/\Mach L W0 B0/\W.length≤8/\b_B H P0 sites/\
 (∀H',c_k P0 H H'->b_B H' P0 sites->Cm L W->Q .non H')/\∀(t:Addr) (x y:LN) (H':Hp),c_k P0 H H'->b_B H' P0 sites->H' t=some (.tup [.str (Str.ofString "swap"),.str (tx x),.str (tx y)])->na L W0 B0 x y->Q (.ref t) H'
def sp_act54:Sp:=λvs H Q _=>∃(m:Addr) (L:LN) (W:LL) (B:List Bool) (w:LN),vs=[.ref m,.str (tx w)]/\a_o H m L W B/\Mach L W B/\(∀c∈w,c∈L)/\∀(t:Addr) (H':Hp),Same H H'->H' t=some (.tup (intsV ((List.range W.length).map λr=>run L W r w)))->Q (.ref t) H'
def fCs (L:LN) (W:LL) (c k:Nat):LL:=(List.range k).map (fC L W c)
def sp_rowof:Sp:=λvs H Q _=>∃(m:Addr) (L:LN) (W:LL) (B:List Bool) (c:Nat),vs=[.ref m,.str (tx [c])]/\a_o H m L W B/\Mach L W B/\Cm L W/\Rch L W/\c∈L/\∀(t:Addr) (low rest:Nat) (H':Hp),Same H H'->H' t=some (.tup [.int (low:Int),.int (rest:Int)])->c_m L W c low rest->Q (.ref t) H'
def sp_rowsof:Sp:=λvs H Q _=>∃(m:Addr) (L:LN) (W:LL) (B:List Bool),vs=[.ref m]/\a_o H m L W B/\Mach L W B/\Cm L W/\Rch L W/\∀(p:Addr) (ts:List Addr) (rows:List (Nat×Nat)) (H':Hp),Same H H'->H' p=some (.lst (ts.map V.ref))->aD H' ts rows->rows.length=L.length->(∀(i c:Nat) (p:Nat×Nat),L[i]?=some c->rows[i]?=some p->c_m L W c p.1 p.2)->Q (.ref p) H'
def bw (P0:Addr) (sites:List (Pos×Str)):Sp:=λvs H Q _=>∃(m:Addr) (L:LN) (W:LL) (B:List Bool) (W0:LL) (B0:List Bool),vs=[.ref m]/\a_o H m L W B/\b_a L W0 B0 W B/\Mach L W0 B0/\W.length≤8/\Cm L W/\Rch L W/\b_B H P0 sites/\
 (∀H',c_k P0 H H'->b_B H' P0 sites->oY L W->Q .non H')/\∀(t:Addr) (x y z:LN) (H':Hp),c_k P0 H H'->b_B H' P0 sites->H' t=some (.tup [.str (Str.ofString "stay"),.str (tx x),.str (tx y),.str (tx z)])->StOk L W0 B0 x y z->Q (.ref t) H'
def ck (P0:Addr) (sites:List (Pos×Str)):Sp:=λvs H Q _=>∃(m:Addr) (L:LN) (W:LL) (B:List Bool) (W0:LL) (B0:List Bool),vs=[.ref m]/\a_o H m L W B/\b_a L W0 B0 W B/\Mach L W0 B0/\W.length≤8/\Rch L W/\b_B H P0 sites/\
 (∀H',c_k P0 H H'->b_B H' P0 sites->Cm L W->oY L W->Q .non H')/\(∀(t:Addr) (x y:LN) (H':Hp),c_k P0 H H'->b_B H' P0 sites->H' t=some (.tup [.str (Str.ofString "swap"),.str (tx x),.str (tx y)])->na L W0 B0 x y->Q (.ref t) H')/\
 ∀(t:Addr) (x y z:LN) (H':Hp),c_k P0 H H'->b_B H' P0 sites->H' t=some (.tup [.str (Str.ofString "stay"),.str (tx x),.str (tx y),.str (tx z)])->StOk L W0 B0 x y z->Q (.ref t) H'
def sp_cells:Sp:=λvs H Q _=>∃(s:Addr) (ns:LN),vs=[.ref s]/\H s=some (.lst (intsV ns))/\ns.length≤3/\(∀n∈ns,n≤8)/\∀(p:Addr) (vks:List V) (H':Hp),Same H H'->H' p=some (.lst vks)->b_e .t H' (celF ns) vks->Q (.ref p) H'
theorem pQ {R1:VK} (hk:k≤8) (h:R1 (.str (tx (replicate k ch))) H3):MulOk (tx [ch]) ((k:Nat):Int)/\R1 (.str (Txt.mul (tx [ch]) ((k:Nat):Int))) H3:=(f_K ch (by lia) (by lia),by have em:Txt.mul (tx [ch]) ((k:Nat):Int)=tx (replicate k ch):=mul_one ch (by lia);rw [em];exact h)
theorem bY (ht:∀R:List V->Hp->Prop,R [.str (tx L),.ref c] H->t σ H R) (hc:H c=some (.tup (intsV ks))) (hkl:ks.length=L.length) (hL3:L.length≤3) (hk8:∀k∈ks,k≤8)
  (hte:∀(ch k:Nat) (H3:Hp) (R1:VK),k≤8->R1 (.str (tx (replicate k ch))) H3->te (some (.str (tx [ch]))::some (.int (k:Int))::σ) H3 R1) (hq:∀H',Same H H'->Q (.str (tx (wdT L ks))) H'):f_g K (ld t) tAlways te σ H λx H'=>nt K (.str (Str.ofString "")) [x] H' Q:=by
 have zl:(zipWith (λc k=>replicate k c) L ks).length=L.length:=by rw [List.length_zipWith,hkl,Nat.min_self]
 refine dj (cs:=L) (d:=c) ht hc (by rw [intsV_len];exact hkl.symm) (λD j ys H'=>ys=wordsV ((zipWith (λc k=>replicate k c) L ks).take j)) (a_d (le_trans hL3 (by decide))) (λD hD=>rfl) ?_ ?_
 .intro D j ch z ys H' H3 R1 hD hx hz hsm hDl hp hsm3 k1
  have hj:j<L.length:=(qa1 hx).1
  have hjk:j<ks.length:=by rw [hkl];exact hj
  rw [b_m hjk] at hz
  cases hz
  have ek:ks.getD j 0=ks[j]:=by rw [qa3,qa2 hjk];rfl
  rw [ek]
  refine hte ch ks[j] H3 R1 (hk8 ks[j] (getElem_mem hjk)) (k1 _ H3 (hsm3 _ _ hDl) (Same.set (hsm.trans hsm3) hD) ?_)
  rw [hp,a_p (x:=replicate ks[j] ch) (by rw [List.getElem?_zipWith,hx,qa2 hjk]),f_f]
  rfl
 .intro D ys H' hD hsm hDl hp
  rw [<- zl,take_length] at hp
  subst hp
  have hw:=jT L ks hk8
  refine (_,D,(zipWith (λc k=>replicate k c) L ks).map tx,rfl,rfl,SqL.of ?_,?_,?_)
  .rw [hDl,wordsV,map_map]
   rfl
  .rw [map_map]
   have e1:(zipWith (λc k=>replicate k c) L ks).map (length ∘ tx)=(zipWith (λc k=>replicate k c) L ks).map List.length:=map_congr_left λw _=>a_k w
   rw [show ((λx:Str=>x.length) ∘ tx)=(length ∘ tx) from rfl,e1,<- List.length_flatten,cg]
   show _+_ * 0≤_
   lia
  .rw [show Str.ofString ""=Str.empty from rfl,gw,cg]
   exact hq H' hsm
def sp_wwith:Sp:=λvs H Q _=>∃(L ks:LN) (c:Addr),vs=[.str (tx L),.ref c]/\L.length≤3/\H c=some (.tup (intsV ks))/\ks.length=L.length/\(∀k∈ks,k≤8)/\∀H',Same H H'->Q (.str (tx (wdT L ks))) H'
def sp_tableof:Sp:=λvs H Q _=>∃(m rl:Addr) (L:LN) (W:LL) (B:List Bool) (ts:List Addr) (rows:List (Nat×Nat)),vs=[.ref m,.ref rl]/\a_o H m L W B/\Mach L W B/\H rl=some (.lst (ts.map V.ref))/\aD H ts rows/\rows.length=L.length/\(∀p∈rows,p.1+p.2≤8)/\∀(t:Addr) (vks:List V) (H':Hp),Same H H'->H' t=some (.lst vks)->b_e .t H' (tabT L W B rows) vks->Q (.ref t) H'
def sp_ptally:Sp:=λvs H Q _=>∃(m:Addr) (L:LN) (W:LL) (B:List Bool),vs=[.ref m]/\a_o H m L W B/\Mach L W B/\W.length≤8/\Cm L W/\Rch L W/\∀(t rl tb:Addr) (ts:List Addr) (rows:List (Nat×Nat)) (vks:List V) (H':Hp),Same H H'->H' t=some (.tup [.ref rl,.ref tb])->H' rl=some (.lst (ts.map V.ref))->aD H' ts rows->rows.length=L.length->(∀(i c:Nat) (p:Nat×Nat),L[i]?=some c->rows[i]?=some p->c_m L W c p.1 p.2)->H' tb=some (.lst vks)->b_e .t H' (tabT L W B rows) vks->Q (.ref t) H'
def sp_pcnt:Sp:=λvs H Q _=>∃(m:Addr) (L:LN) (W:LL) (B:List Bool),vs=[.ref m]/\a_o H m L W B/\Mach L W B/\W.length≤8/\Cm L W/\Rch L W/\∀(t rl tb:Addr) (rows:List (Nat×Nat)) (vks:List V) (H':Hp),Same H H'->H' t=some (.tup [.ref rl,.ref tb])->H' rl=some (.lst (intsV (rows.map λp=>p.2)))->rows.length=L.length->(∀(i c:Nat) (p:Nat×Nat),L[i]?=some c->rows[i]?=some p->c_m L W c p.1 p.2)->H' tb=some (.lst vks)->b_e .t H' (tabT L W B rows) vks->Q (.ref t) H'
def sp_firstrooms:Sp:=λvs H Q _=>∃(a:Addr) (ns:LN),vs=[.ref a]/\H a=some (.lst (intsV ns))/\0<ns.length/\ns.length≤60/\(∀x∈ns,x<60)/\(∀(M j:Nat),M∈ns->j≤M->j∈ns)/\
 ∀(m:Nat) (p:Addr) (H':Hp),aJ ns m->Same H H'->H p=none->H' p=some (.lst (intsV ((List.range m).map λj=>ns.idxOf j)))->Q (.ref p) H'
structure WkK (K:Frag) (cW:Addr):Prop where
 cls:Cls K cW
 na1:b_I K cW Q8
 na4:b_I K cW Z8
 na5:b_I K cW "marks"
def bx (cW:Addr):Sp:=λvs H Q _=>∃(wk t wd y md lo:Addr) (rows:List Addr) (L:LN) (R:LL) (Bm:List Bool) (k:Nat),vs=[.ref wk,.ref lo]/\aX H cW wk L t wd y md/\H y=some (.lst (rows.map V.ref))/\iJ H rows R/\H md=some (.lst (Bm.map V.bl))/\Mach L R Bm/\H lo=some (.lst (intsV (Rd R Bm k)))/\
 ∀(m:Nat) (f:Addr) (H':Hp),aJ (Rd R Bm k) m->Same H H'->H f=none->a_o H' f L (c_b R (Rd R Bm k) m) (e_U Bm (Rd R Bm k) m)->Q (.ref f) H'
def dI (P0:Addr) (sites:List (Pos×Str)):Sp:=λvs H Q _=>∃(m:Addr) (L:LN) (W:LL) (B:List Bool),vs=[.ref m]/\a_o H m L W B/\Mach L W B/\b_B H P0 sites/\
 ∀(f:Addr) (W':LL) (B':List Bool) (H':Hp),c_k P0 H H'->b_B H' P0 sites->a_o H' f L W' B'->b_a L W B W' B'->Q (.ref f) H'
def dH (P:Program) (w:World):Sp:=λvs H Q _=>∃(d:Addr) (kvs:List (Str×V)) (k:Str) (v:V),vs=[.ref d,.str k]/\H d=some (kdO (sK P w) d kvs)/\ax kvs k=some v/\Q .non H
def ma (H:Hp) (t:Addr) (L:LN) (W0:LL) (B0:List Bool):Prop:=(∃(p rl tb:Addr) (rows:List (Nat×Nat)) (vks:List V) (W:LL) (B:List Bool),H t=some (.tup [.bl true,.ref p])/\H p=some (.tup [.ref rl,.ref tb])/\H rl=some (.lst (intsV (rows.map λp=>p.2)))/\rows.length=L.length/\b_a L W0 B0 W B/\Cm L W/\Rch L W/\oY L W/\(∀(i c:Nat) (p:Nat×Nat),L[i]?=some c->rows[i]?=some p->c_m L W c p.1 p.2)/\H tb=some (.lst vks)/\b_e .t H (tabT L W B rows) vks) \/
 (∃(p:Addr) (x y:LN),H t=some (.tup [.bl false,.ref p])/\H p=some (.tup [.str (Str.ofString "swap"),.str (tx x),.str (tx y)])/\na L W0 B0 x y) \/
 ∃(p:Addr) (x y z:LN),H t=some (.tup [.bl false,.ref p])/\H p=some (.tup [.str (Str.ofString "stay"),.str (tx x),.str (tx y),.str (tx z)])/\StOk L W0 B0 x y z
def g_r (mg:Str->Option Value) (P0:Addr) (sites:List (Pos×Str)):Sp:=λvs H Q _=>∃(m fb fp:Addr) (L:LN) (W:LL) (B:List Bool) (W0:LL) (B0:List Bool),vs=[.ref m,.ref fb,.ref fp]/\mg "bar_of_counts"=some (.ref fb)/\mg "paper_of_counts"=some (.ref fp)/\a_o H m L W B/\b_a L W0 B0 W B/\Mach L W0 B0/\W0.length≤8/\b_B H P0 sites/\
 ∀(t:Addr) (H':Hp),c_k P0 H H'->b_B H' P0 sites->ma H' t L W0 B0->Q (.ref t) H'
def gX (P0:Addr) (sites:List (Pos×Str)):Sp:=λvs H Q _=>∃(m:Addr) (L:LN) (W:LL) (B:List Bool),vs=[.ref m]/\a_o H m L W B/\Mach L W B/\W.length≤8/\b_B H P0 sites/\∀(t:Addr) (H':Hp),c_k P0 H H'->b_B H' P0 sites->ma H' t L W B->Q (.ref t) H'
def bu (P0:Addr) (sites:List (Pos×Str)):Sp:=λvs H Q _=>∃(m:Addr) (L:LN) (W:LL) (B:List Bool),vs=[.str (Str.ofString "counts"),.ref m]/\a_o H m L W B/\Mach L W B/\W.length≤8/\b_B H P0 sites/\∀(t:Addr) (H':Hp),c_k P0 H H'->b_B H' P0 sites->ma H' t L W B->Q (.ref t) H'
def sp_ltakes:Sp:=λvs H Q _=>∃(m:Addr) (L:LN) (W:LL) (B:List Bool) (w:LN),vs=[.ref m,.str (tx w)]/\a_o H m L W B/\Mach L W B/\(∀c∈w,c∈L)/\Q (.bl (B.getD (run L W 0 w) false)) H
def sp_lbw:Sp:=λvs H Q _=>∃(p:Addr) (L:LN) (ws:LL),vs=[.ref p,.str (tx L)]/\H p=some (.tup (wordsV ws))/\(∀w∈ws,(∀c∈w,c∈L)/\w.length≤60)/\∀H',Same H H'->Q (.bl true) H'
def fP (L:LN) (W:LL) (u:LN) (a:Nat):LN:=(List.range W.length).map λr=>run L W r (pwr u a)
theorem hZ (u:LN):∀a b:Nat,pwr u (a+b)=pwr u a++pwr u b
 | 0,b=>by rw [Nat.zero_add];rfl
 | a+1,b=>by
  have:=hZ u a b
  unfold pwr at this ⊢
  rw [show a+1+b=(a+b)+1 by lia,replicate_succ,replicate_succ,flatten_cons,flatten_cons,this,append_assoc]
theorem g_I:(fP L W u a).length=W.length:=by rw [fP,qa4,length_range]
theorem lH (h:r<W.length):(fP L W u a).getD r 0=run L W r (pwr u a):=by
 rw [fP,qa3,qa6,getElem?_range h]
 rfl
theorem nF (hMa:Mach L W B) (hu:∀c∈u,c∈L) (a:Nat):∀x∈fP L W u a,x<W.length:=λx hx=>by
 obtain ⟨r,hr,rfl⟩:=mem_map.mp hx
 exact a_M hMa (mem_range.mp hr) (kj hu a)
theorem iB (hMa:Mach L W B) (hu:∀c∈u,c∈L) (f a:Nat):(fP L W u f).map (λx=>(fP L W u a).getD x 0)=fP L W u (f+a):=by
 unfold fP
 rw [map_map]
 refine map_congr_left λr hr=>?_
 show (fP L W u a).getD (run L W r (pwr u f)) 0=run L W r (pwr u (f+a))
 rw [lH (a_M hMa (mem_range.mp hr) (kj hu f)),hZ,a_Q]
def sp_lpow:Sp:=λvs H Q _=>∃(m:Addr) (L:LN) (W:LL) (B:List Bool) (u:LN) (n:Nat),vs=[.ref m,.str (tx u),.int (n:Int)]/\a_o H m L W B/\Mach L W B/\W.length≤60/\(∀c∈u,c∈L)/\∀(p:Addr) (H':Hp),Same H H'->H' p=some (.lst (intsV (fP L W u n)))->Q (.ref p) H'
def sp_lstay:Sp:=λvs H Q _=>∃(m t:Addr) (L:LN) (W:LL) (B:List Bool) (x y z:LN) (n:Nat),vs=[.ref m,.ref t,.int (n:Int)]/\a_o H m L W B/\Mach L W B/\W.length≤60/\0<n/\H t=some (.tup [.str (Str.ofString "stay"),.str (tx x),.str (tx y),.str (tx z)])/\StOk L W B x y z/\∀H',Same H H'->Q (.bl true) H'
def gU (K:Frag):Sp:=λvs H Q _=>∃(L:LN) (a:Addr) (ns:List Int),vs=[.str (tx L),.ref a]/\Let L/\SqL K H a (ns.map V.int)/\ns.length≤63/\
 ∀(w:LN) (H':Hp),w.length=ns.length->(∀c∈w,c∈L)->Same H H'->Q (.str (tx w)) H'
theorem lT {xs:LN} (h0:r∈xs) (hc:∀x∈xs,∀q,q<L.length->ag W x q∈xs) (v:LN) (hv:∀c∈v,c∈L):run L W r v∈xs:=by
 induction v generalizing r with
 | nil=>exact h0
 | cons c v ih=>exact ih (hc r h0 _ (idxOf_lt_length_of_mem (hv c mem_cons_self))) λd hd=>hv d (mem_cons_of_mem _ hd)
theorem e_s (e:H a=some (.lst xs)):∀b ys,H b=some (.tup ys)->L2.upd H a o b=some (.tup ys):=λb ys h=>upd_keep2 h e (by intro z;cases z)
def sp_cometo:Sp:=λvs H Q _=>∃(m:Addr) (L:LN) (W:LL) (B:List Bool),vs=[.ref m]/\a_o H m L W B/\Mach L W B/\∀(p:Addr) (xs:LN) (H':Hp),Same H H'->H' p=some (.lst (intsV xs))->xs.length≤60->(∀x∈xs,∃v:LN,(∀c∈v,c∈L)/\run L W 0 v=x)->(∀v:LN,(∀c∈v,c∈L)->run L W 0 v∈xs)->Q (.ref p) H'
theorem n9 {apos cpos:Pos} {T id:String} (K:Frag) (pa:PlainAttrs T) (slot:Slot T name id) (hty:typeOf (.builtin id)=pure (.type "method_descriptor")) (hm:L2.MtR X id r) (ho:L2.PE X o to) (ha:L2.PA X (e::es) t) (hK:X.K=K:=by rfl)
  (hbase:attributeBase o name X.env (eval o X.env)=eval o X.env:=by rfl)
  (hfew:((backTo cpos (starEach (e::es) X.env)).all (λx=>!x.1)&&(backToKw cpos (keywordEach [] X.env)).all (λx=>x.1.isSome)
   && decide ((e::es).length+([]:List Keyword).length+(if ([]:List Keyword).isEmpty then 0 else 1)<30))=true:=by rfl)
  (hline:(apos.endLine==cpos.line)=true:=by rfl) (hs:starEach (e::es) X.env=(false,eval e X.env,)::starEach es X.env:=by rfl) (hplain:(backTo cpos (starEach es X.env)).any (·.1)=false:=by rfl):
  L2.PE X (.Call (.Attribute o name apos) (e::es) [] cpos) (L2.tBM K T r to t):=by
 subst hK
 exact L2.c_Z pa slot hty hm ho ha hbase hfew hline hs hplain
def sp_arooms:Sp:=λvs H Q _=>∃(m:Addr) (L:LN) (W:LL) (B:List Bool),vs=[.ref m]/\a_o H m L W B/\Mach L W B/\∀(p:Addr) (ls:LN) (H':Hp),Same H H'->H' p=some (.lst (intsV ls))->ls.length=W.length->(∀i j,i<W.length->j<W.length->(ls.getD i 0=ls.getD j 0↔∀u:LN,(∀c∈u,c∈L)->B.getD (run L W i u) false=B.getD (run L W j u) false))->Q (.ref p) H'
theorem cb (h:bh H ls vs) (s:∀b o,V.ref b∈vs->H b=some o->H' b=some o):bh H' ls vs:=(h.1,λi l v a b=>by
 obtain ⟨x,rfl,e⟩:=h.2 i l v a b
 exact (x,rfl,s _ _ (qb2 b) e))
theorem jN (h:bh H ls vs) (e:H a=some (.lst (intsV l))):bh H (ls++[l]) (vs++[.ref a]):=by
 refine (by rw [qa5,qa5,h.1];rfl,λi k v x y=>?_)
 have hil:=(qa1 y).1
 rw [qa5] at hil
 rcases lt_succ_iff_lt_or_eq.mp hil with z|z
 .rw [getElem?_append_left z] at y
  rw [getElem?_append_left (by rw [<- h.1];exact z)] at x
  exact h.2 i k v x y
 .have z:i=vs.length:=z
  rw [z,getElem?_append_right (le_refl _),sub_self] at y
  rw [z,h.1,getElem?_append_right (le_refl _),sub_self] at x
  cases x
  cases y
  exact (a,rfl,e)
def sp_lowrest:Sp:=λvs H Q _=>∃(m:Addr) (L:LN) (W0:LL) (B0:List Bool) (W:LL) (B:List Bool) (kk c:Nat),vs=[.ref m,.int (kk:Int)]/\a_o H m L W0 B0/\Mach L W0 B0/\b_a L W0 B0 W B/\Cm L W/\Rch L W/\L[kk]?=some c/\∀(t:Addr) (low rest:Nat) (H':Hp),Same H H'->H' t=some (.tup [.int (low:Int),.int (rest:Int)])->c_m L W c low rest->Q (.ref t) H'
def sp_ltable:Sp:=λvs H Q _=>∃(m rl:Addr) (L:LN) (W:LL) (B:List Bool) (ts:List Addr) (rows:List (Nat×Nat)),vs=[.ref m,.ref rl]/\a_o H m L W B/\Mach L W B/\H rl=some (.lst (ts.map V.ref))/\aD H ts rows/\rows.length=L.length/\(∀p∈rows,p.1+p.2≤8)/\∀(t:Addr) (vks:List V) (H':Hp),Same H H'->H' t=some (.lst vks)->b_e .t H' (tabT L W B rows) vks->Q (.ref t) H'
theorem jW {j c:Nat} (hc:L[j]?=some c) (hp:rows[j]?=some p):(d_a L rows w)[j]?=some (red p.1 p.2 (w.count c)):=by
 unfold d_a dn
 rw [List.getElem?_zipWith,hp,qa6,hc]
 rfl
def sp_ltold:Sp:=λvs H Q _=>∃(rl:Addr) (L w:LN) (ts:List Addr) (rows:List (Nat×Nat)),vs=[.ref rl,.str (tx L),.str (tx w)]/\H rl=some (.lst (ts.map V.ref))/\aD H ts rows/\rows.length=L.length/\L.length≤3/\(∀p∈rows,0<p.2)/\∀(t:Addr) (H':Hp),Same H H'->H' t=some (.tup (intsV (d_a L rows w)))->Q (.ref t) H'
theorem mf (w:LN) (k:Nat):Txt.slice (tx w) none (some ((k:Nat):Int))=tx (w.take k):=by
 have e:=nU (replicate k 0) w
 rw [a_k,length_replicate] at e
 exact e
def sp_lbeg:Sp:=λvs H Q _=>∃(m rl tb:Addr) (L:LN) (W:LL) (B:List Bool) (w:LN) (ts:List Addr) (rows:List (Nat×Nat)) (vks:List V) (ks:LL),vs=[.ref m,.ref rl,.ref tb,.str (tx w)]/\a_o H m L W B/\Mach L W B/\H rl=some (.lst (ts.map V.ref))/\aD H ts rows/\rows.length=L.length/\(∀p∈rows,0<p.2)/\H tb=some (.lst vks)/\b_e .t H ks vks/\(∀k∈ks,k.length=L.length)/\w.length≤100/\(∀c∈w,c∈L)/\(∀v:LN,(∀c∈v,c∈L)->B.getD (run L W 0 v) false=decide (d_a L rows v∈ks))/\∀H',Same H H'->Q (.bl true) H'
theorem kT (e1:H l1=some (.lst x1)) (e2:H l2=some (.lst x2)) (h1:b_e .t H ks x1) (h2:b_e .t H ks x2) (hk:ks.length≤1000) (hl:∀k∈ks,k.length≤1000):fo H 2 (.ref l1) (.ref l2):=by
 refine .inr (l1,l2,_,_,rfl,rfl,.inr (e1,e2),by rw [h1.1,h2.1],by rw [h1.1];exact hk,λi x y hx hy=>?_)
 have hi:i<ks.length:=by rw [<- h1.1];exact (qa1 hx).1
 obtain ⟨a,rfl,ea⟩:=iT (h1.2 i _ x (qa2 hi) hx)
 obtain ⟨b,rfl,eb⟩:=iT (h2.2 i _ y (qa2 hi) hy)
 exact .inr (a,b,_,_,rfl,rfl,.inl (ea,eb),rfl,by rw [intsV_len];exact hl _ (getElem_mem hi),g_A (g_F _))
def sp_lswap:Sp:=λvs H Q _=>∃(m t:Addr) (L:LN) (W:LL) (B:List Bool) (x y:LN),vs=[.ref m,.ref t]/\a_o H m L W B/\Mach L W B/\H t=some (.tup [.str (Str.ofString "swap"),.str (tx x),.str (tx y)])/\na L W B x y/\∀H',Same H H'->Q (.bl true) H'
def f_h (d:Nat):Sp:=λvs H Q _=>∃x y,vs=[x,y]/\fo H d x y/\Q (.bl true) H
section
variable {P:Program} {w:World} {K:Frag} {mg:Str->Option Value} {base:Heap} {P0 cT cW:Addr}
theorem f_k:a_e [Q4,Z1] [Q4,Z1] (a_c c_z):=fsc
theorem f_H (F:Fun K "_law_cell_at" "_law_cell_at" c_z f fd) (T:Txt K mg):aa P w K mg base CX0 1 f fd [Q4,Z1] (d_b K):=by
 refine F.okA f_k ?_
 rintro _ _ _ _ _ _ _ _ _ ⟨a,ns,k,rfl,hS,h0,q⟩
 refine (_,(a_a ((a_N (a_B op_lt (pv 1) (lqQ T.len (pv 0)) (a_S _)) ((a_b (a_f (xqL (pv 0) (pv 1))))) (a_m))) (a_b (a_f pe_int))),?_)
 refine (_,rfl,_,rfl,a,_,rfl,.inl hS,_,_,rfl,rfl,_,rfl,?_)
 refine aB (λhlt=>?_) (λ_=>q 0)
 obtain ⟨v,hv,hv2⟩:=gK (xs:=ns.map V.int) h0 hlt
 obtain ⟨z,rfl⟩:∃z,v=V.int z:=by
  rw [qa6] at hv2
  cases e:ns[k.toNat]? with
  | none=>rw [e] at hv2;cases hv2
  | some z=>rw [e] at hv2;exact (z,(Option.some.inj hv2).symm)
 exact (_,rfl,_,rfl,a,_,_,_,rfl,rfl,hS,hv,q z)
theorem a_r:a_e ["_law_cell","_law_left","_law_number","_law_many",Q6,Z1,"_law_at"] ["_law_cell"] (a_c c_v):=fsc
theorem f_D (F:Fun K "_law_letters" "_law_letters" c_v f fd) (T:Txt K mg):aa P w K mg base CX0 1 f fd ["_law_cell"] sp_letters:=by
 refine F.okA a_r ?_
 rintro _ _ _ _ H _ _ _ _ ⟨c,rfl,q⟩
 refine (_,(a_a ((stS 1 a_r.nd (b_l))) (a_a ((stS 2 a_r.nd (a_j f_w (pv 0) pe_int))) (a_a ((stS 3 a_r.nd (a_j fW pe_int (a_j f_w (pv 2) pe_int)))) (a_a ((stS 2 a_r.nd (a_j f_x (pv 2) pe_int))) (a_a ((stS 4 a_r.nd (b_l))) (a_a ((a_F PassesOwn.never rfl (a_E rfl T.range (pq1 (pv 3))) (pgN 5 a_r.nd) ((a_a ((stS 6 a_r.nd (a_j f_w (pv 2) (lqS T.len (pv 1))))) (a_a ((stS 2 a_r.nd (a_j f_x (pv 2) (lqS T.len (pv 1))))) (a_a ((stS 4 a_r.nd (a_j a_X (pv 4) (pe_ix ix_str (pv 1) (pv 6) (λ_ _=>rfl))))) (a_b ((stS 1 a_r.nd (a_j a_X (b_u aN (pv 1) c_i (b_x (pv 6))) (b_u aN (pv 1) (b_x (a_j fW (pv 6) pe_int)) c_i))))))))))) (a_b (a_f (pv 4))))))))),?_)
 refine (_,rfl,_,_,rfl,rfl,(by show (0:Int)<46800;decide),_,rfl,_,_,rfl,rfl,(by show (0:Int)<3;decide),_,_,rfl,rfl,_,rfl,_,_,rfl,rfl,(by decide,by decide),_,rfl,_,rfl,by lia,by lia,?_)
 have hm:(1:Int)+c % 46800 % 3≤3/\1≤(1:Int)+c % 46800 % 3:=by lia
 generalize hM:(1:Int)+c % 46800 % 3=M at hm ⊢
 refine b_G (n:=M.toNat) (λi σ H'=>∃f l n k0 a0,σ=[some (.int c),some (.str (tx l)),some (.int n),some (.int M),some (.str (tx f)),k0,a0]/\H'=H/\0≤n/\f.length=i/\l.length+i=26/\(f++l).Nodup/\∀c∈f++l,97≤c/\c≤122) ?_ ?_ ?_
 .refine ([],List.range' 97 26,c % 46800 / 3,none,none,?_,rfl,by lia,rfl,rfl,by decide,by decide)
  show [some (V.int c),some (V.str _),some (V.int _),some (V.int _),some (V.str _),none,none]=_
  rw [oX,h_C,hM]
 .rintro i σ H1 hi ⟨f,l,n,k0,a0,rfl,rfl,hn,hf,hl,nd,az⟩
  have hz:(tx l).length≤sizeLine:=a_d (by rw [a_k];lia)
  have hlen:((tx l).length:Int)=26 - (i:Int):=by rw [a_k];lia
  have hlp:(0:Int)<((tx l).length:Int):=by lia
  have hr0:=emod_nonneg n (show ((tx l).length:Int)≠0 by lia)
  have hr1:=Int.emod_lt_of_pos n hlp
  have hd0:0≤n / ((tx l).length:Int):=Int.ediv_nonneg hn (by lia)
  have hRl:(n % ((tx l).length:Int)).toNat<l.length:=by lia
  obtain ⟨v,hv,hv2⟩:=gK (xs:=(tx l).cps.toList) hr0 (by rw [a_P];lia)
  rw [a_P] at hv2
  have ev:v=l[(n % ((tx l).length:Int)).toNat]:=by
   rw [qa2 hRl] at hv2
   exact (Option.some.inj hv2).symm
  subst ev
  refine (_,rfl,_,rfl,_,rfl,hz,_,_,rfl,rfl,hlp,_,rfl,_,rfl,_,rfl,hz,_,_,rfl,rfl,(hlp,by lia),_,rfl,_,rfl,_,rfl,_,_,_,rfl,rfl,hz,hv,_,_,rfl,rfl,?_,_,rfl,_,rfl,_,rfl,_,rfl,hz,_,rfl,_,rfl,_,_,rfl,rfl,_,rfl,_,rfl,hz,_,_,rfl,rfl,?_,?_)
  .refine a_d ?_
   rw [a_k]
   show f.length+1≤_
   lia
  .refine a_d ?_
   have h1:=Txt.slice_le (tx l) none (some (n % ((tx l).length:Int)))
   have h2:=Txt.slice_le (tx l) (some ((n % ((tx l).length:Int))+1)) none
   have hll:=a_k l
   lia
  .obtain ⟨d1,d2⟩:=lO hRl nd
   refine (f++[l[(n % ((tx l).length:Int)).toNat]],l.take (n % ((tx l).length:Int)).toNat++l.drop ((n % ((tx l).length:Int)).toNat+1),n / ((tx l).length:Int),some (.int (0+(i:Int))),some (.int (n % ((tx l).length:Int))),?_,rfl,hd0,by rw [qa5,hf];rfl,?_,d1,λc hc=>az c (d2 c hc))
   .have e1:=dM (tx l) hr0
    have e2:=e_u (tx l) (i:=(n % ((tx l).length:Int))+1) (by lia) (by rw [a_P];lia)
    rw [a_P] at e1 e2
    rw [show ((n % ((tx l).length:Int))+1).toNat=(n % ((tx l).length:Int)).toNat+1 by lia] at e2
    show [some (V.int c),some (V.str (Txt.slice (tx l) none (some (n % ((tx l).length:Int)))++Txt.slice (tx l) (some ((n % ((tx l).length:Int))+1)) none)),some (V.int _),some (V.int M),some (V.str (tx f++⟨#[l[(n % ((tx l).length:Int)).toNat]]⟩)),some _,some _]=_
    rw [e1,e2,c_o,show (⟨#[l[(n % ((tx l).length:Int)).toNat]]⟩:Str)=tx [l[(n % ((tx l).length:Int)).toNat]] from rfl,c_o]
   .rw [qa5,length_take,length_drop]
    lia
 .rintro σ H1 ⟨f,l,n,k0,a0,rfl,rfl,hn,hf,hl,nd,az⟩
  refine (_,rfl,q f (by lia,by lia,(List.nodup_append.mp nd).1,λc hc=>az c (mem_append_left _ hc)))
theorem a_w:a_e [Q4,"_law_at",Z0,Q3,Z5,"_law_marks_here","_law_number",Z1,"_law_rest","_law_row","_law_sign"] [Q4,"_law_at",Z0,Q3] (a_c c_u):=fsc
theorem f_C (F:Fun K "_law_machine" "_law_machine" c_u f fd) (T:Txt K mg) (y8:Df P w K mg base "_law_cell_at" 1 [Q4,Z1] (d_b K)):aa P w K mg base CX0 2 f fd [Q4,"_law_at",Z0,Q3] (e_t K):=by
 refine F.okA a_w ?_
 rintro _ _ _ _ H _ _ _ hr ⟨a,ns,p,n,L,rfl,hS,hp0,hn1,hn60,hL,q⟩
 refine (_,(a_a ((stS 4 a_w.nd (a_G b_d))) (a_a ((stS 5 a_w.nd (a_G b_d))) (a_a ((stS 6 a_w.nd (pe_int))) (a_a ((a_F PassesOwn.never rfl (a_E rfl T.range (pq1 (pv 2))) (pgN 7 a_w.nd) ((a_a ((stS 6 a_w.nd (a_j e_C (a_j op_a (a_j op_a (a_j pL (pv 6) (pv 6)) (a_j pL pe_int (a_j op_m (a_l y8 hr (pq2 (pv 0) (a_j op_a (pv 1) (pv 7)))) (a_j op_pow pe_int pe_int)))) (pv 7)) pe_int))) (a_a ((stS 8 a_w.nd (pv 6))) (a_a ((stS 9 a_w.nd (a_G b_d))) (a_a ((a_F PassesOwn.never rfl (d_A (pv 3)) (pgN 10 a_w.nd) ((a_a (a_y (apQ (pv 9) (a_j e_C (pv 8) (pv 2)))) (a_b ((stS 8 a_w.nd (a_j kC (pv 8) (pv 2))))))))) (a_a (a_y (apQ (pv 4) ((a_x a_i (by rfl) T.tuple boot_tuple (pq1 (pv 9)))))) (a_b (a_y (apQ (pv 5) (c_A g_k (a_j e_C (pv 8) pe_int) pe_int (a_S _))))))))))))) (a_b (a_f (a_W (pq3 (pv 3) (a_x a_i (by rfl) T.tuple boot_tuple (pq1 (pv 4))) (a_x a_i (by rfl) T.tuple boot_tuple (pq1 (pv 5))))))))))),?_)
 refine (zero_le _,λwa hwa=>(zero_le _,λmk hmk=>?_))
 have hwm:wa≠mk:=ne_of_none upd_same hmk
 have hmk0:H mk=none:=by rw [upd_ne hwm.symm] at hmk;exact hmk
 refine (_,rfl,_,rfl,by lia,by lia,?_)
 refine b_G (n:=(n:Int).toNat) (λi σ H'=>∃(rows:List Addr) (W:LL) (B:List Bool) (num:Int) (k0 rest row sg:Option V),σ=[some (.ref a),some (.int p),some (.int (n:Int)),some (.str (tx L)),some (.ref wa),some (.ref mk),some (.int num),k0,rest,row,sg]/\
  Same H H'/\H' wa=some (.lst (rows.map V.ref))/\H' mk=some (.lst (B.map V.bl))/\rows.length=i/\W.length=i/\B.length=i/\0≤num/\num<2147483647/\b_L H' rows W/\∀ws∈W,ws.length=L.length/\∀x∈ws,x<n) ?_ ?_ ?_
 .exact ([],[],[],0,none,none,none,none,rfl,λb o e=>a_g (a_g e hwa) hmk,a_g upd_same hmk,upd_same,rfl,rfl,rfl,by decide,by decide,λi r e=>by simp at e,λws e=>by simp at e)
 .rintro i σ H1 hi ⟨rows,W,B,num,k0,rest0,row0,sg0,rfl,hsame,h1wa,h1mk,hrl,hWl,hBl,hn0,hn1',hrows,hW⟩
  refine (_,rfl,_,rfl,_,_,rfl,rfl,.inl (by lia,by lia),_,rfl,_,rfl,_,rfl,_,_,rfl,rfl,a,ns,_,rfl,hsame.seq hS,by lia,λz=>?_)
  refine (_,_,rfl,rfl,(by decide,by decide,by decide),_,_,rfl,rfl,by decide,_,_,rfl,rfl,.inl (by decide,by decide),_,_,rfl,rfl,_,rfl,_,_,rfl,rfl,_,_,rfl,rfl,by decide,λnum2 hm0 hm1=>?_)
  refine (_,rfl,zero_le _,λrw hrw=>?_)
  have rwa:wa≠rw:=ne_of_none h1wa hrw
  have rmk:mk≠rw:=ne_of_none h1mk hrw
  refine (_,rfl,_,rfl,d_W (x:=tx L) (λj σ' H2=>∃(ws:LN) (rest:Int) (sg:Option V),σ'=[some (.ref a),some (.int p),some (.int (n:Int)),some (.str (tx L)),some (.ref wa),some (.ref mk),some (.int num2),some (.int (0+(i:Int))),some (.int rest),some (.ref rw),sg]/\
   H2=upd H1 rw (.lst (intsV ws))/\ws.length=j/\(∀x∈ws,x<n)/\0≤rest) ([],num2,sg0,rfl,rfl,rfl,λx e=>by simp at e,hm0) ?_ ?_)
  .rintro j c σ2 H2 hc ⟨ws,rest,sg,rfl,rfl,hwl,hwn,hr0⟩
   have hjl:j<4:=by
    have:=(Array.getElem?_eq_some_iff.mp hc).1
    have e:(tx L).cps.size=L.length:=a_k L
    have:=hL.hi
    lia
   refine (_,rfl,.inl (rfl,_,SqL.of upd_same),_,rfl,_,rfl,_,_,rfl,rfl,by lia,λr hr0' hr1=>(rw,_,_,rfl,rfl,upd_same,?_,_,rfl,_,rfl,_,_,rfl,rfl,(by lia,by lia),hr0,λq2 hq2=>?_))
   .unfold intsV
    rw [qa4]
    exact a_K (by lia)
   .refine (ws++[r.toNat],q2,some (.str ⟨#[c]⟩),rfl,?_,by rw [qa5,hwl];rfl,λx hx=>?_,hq2)
    .have e:((r.toNat:Nat):Int)=r:=by lia
     rw [d_D]
     unfold intsV
     rw [map_append]
     show _=upd H1 rw (.lst (_++[V.int ((r.toNat:Nat):Int)]))
     rw [e]
    .rcases mem_append.mp hx with hx|hx
     .exact hwn x hx
     .rw [qb1 hx]
      lia
  .rintro σ2 H2 ⟨ws,rest,sg,rfl,rfl,hwl,hwn,hr0⟩
   rw [a_k] at hwl
   have a1:upd H1 rw (.lst (intsV ws)) wa=some (.lst (rows.map V.ref)):=by rw [upd_ne rwa];exact h1wa
   have a2:upd H1 rw (.lst (intsV ws)) mk=some (.lst (B.map V.bl)):=by rw [upd_ne rmk];exact h1mk
   refine (_,rfl,.inl (rfl,_,SqL.of a1),_,rfl,rw,_,rfl,.inl (SqL.of upd_same,λtp htp=>?_))
   have twa:wa≠tp:=ne_of_none a1 htp
   have tmk:mk≠tp:=ne_of_none a2 htp
   refine (wa,_,_,rfl,rfl,(by rw [upd_ne twa];exact a1),(by rw [qa4];exact a_K (by lia)),?_)
   refine (_,rfl,.inl (rfl,_,SqL.of (by rw [upd_ne hwm.symm,upd_ne tmk];exact a2)),_,rfl,_,_,rfl,rfl,by decide,λr3 _ _=>(rfl,mk,_,_,rfl,rfl,(by rw [upd_ne hwm.symm,upd_ne tmk];exact a2),(by rw [qa4];exact a_K (by lia)),?_))
   have hk:∀b o,H1 b=some o->b≠wa->b≠mk->upd (upd (upd (upd H1 rw (.lst (intsV ws))) tp (.tup (intsV ws))) wa (.lst (rows.map V.ref++[.ref tp]))) mk (.lst (B.map V.bl++[.bl (decide (V.int r3=V.int 1))])) b=some o:=λb o e e1 e2=>by
    rw [upd_ne e2,upd_ne e1,upd_ne (ne_of_none (a_g e hrw) htp),upd_ne (ne_of_none e hrw)]
    exact e
   refine (rows++[tp],W++[ws],B++[decide (V.int r3=V.int 1)],num2,some (.int (0+(i:Int))),some (.int rest),some (.ref rw),sg,rfl,λb o e=>?_,?_,?_,?_,?_,?_,hm0,hm1,λj r e=>?_,λv hv=>?_)
   .exact hk b o (hsame b o e) (ne_of_none e hwa) (ne_of_none e hmk0)
   .rw [upd_ne hwm,upd_same,map_append]
    rfl
   .rw [upd_same,map_append]
    rfl
   .rw [qa5,hrl];rfl
   .rw [qa5,hWl];rfl
   .rw [qa5,hBl];rfl
   .by_cases hj:j<rows.length
    .rw [getElem?_append_left hj] at e
     obtain ⟨v,e1,e2⟩:=hrows j r e
     refine (v,by rw [getElem?_append_left (by lia)];exact e1,hk r _ e2 (ne_of e2 h1wa (by intro z;cases z)) (ne_of e2 h1mk (by intro z;cases z)))
    .rw [getElem?_append_right (by lia)] at e
     have hj0:j - rows.length=0:=by
      have:=(qa1 e).1
      simp at this
      omega
     rw [hj0] at e
     have et:tp=r:=by simpa using e
     subst et
     refine (ws,by rw [getElem?_append_right (by lia),show j - W.length=0 by lia];rfl,?_)
     rw [upd_ne tmk.symm,upd_ne twa.symm,upd_same]
   .rcases mem_append.mp hv with hv|hv
    .exact hW v hv
    .rw [qb1 hv]
     exact (hwl,hwn)
 .rintro σ H1 ⟨rows,W,B,num,k0,rest0,row0,sg0,rfl,hsame,h1wa,h1mk,hrl,hWl,hBl,hn0,hn1',hrows,hW⟩
  refine (_,rfl,_,rfl,wa,_,rfl,.inl (SqL.of h1wa,λtw htw=>(_,rfl,mk,_,rfl,.inl (SqL.of (a_g h1mk htw),λtm htm=>(a_d (by show 3≤16777216;decide),λm hm=>?_)))))
  have up:∀b o,H1 b=some o->upd (upd (upd H1 tw (.tup (rows.map V.ref))) tm (.tup (B.map V.bl))) m (.tup [.str (tx L),.ref tw,.ref tm]) b=some o:=λb o e=>a_g (a_g (a_g e htw) htm) hm
  have hWn:W.length=n:=by lia
  exact q m W B _ (λb o e=>up b o (hsame b o e)) (tw,tm,rows,upd_same,a_g (a_g upd_same htm) hm,a_g upd_same hm,by lia,hrows.same up) (hL,by lia,by lia,by lia,λws hws=>((hW ws hws).1,λx hx=>by rw [hWn];exact (hW ws hws).2 x hx)) hWn
theorem g_U:a_e [Q4,Z0] [Q4,Z0] (a_c d_i):=fsc
theorem h_m (F:Fun K "_law_marks" "_law_marks" d_i f fd) (T:Txt K mg) (y8:Df P w K mg base "_law_cell_at" 1 [Q4,Z1] (d_b K)):aa P w K mg base CX0 2 f fd [Q4,Z0] (d_r K):=by
 refine F.okA g_U ?_
 rintro _ _ _ _ _ _ _ _ hr ⟨a,ns,n,rfl,hS,hn,q⟩
 refine (_,(a_b (a_f (a_x a_i (by rfl) T.tuple boot_tuple (pq1 (a_u [Q4,Z0] rfl (by decide) (a_E rfl T.range (pq1 (pv 1))) (λcl C fp s' H'=>(a_q,c_A g_k (a_j op_m (a_l y8 hr (pq2 (pv 1) (a_j op_a pe_int (pv 0)))) pe_int) pe_int (a_S _)))))))),?_)
 dsimp only [aI,a_O,tCB,b_J]
 refine d_p (n:=n) (λR h=>(_,rfl,h)) (le_trans hn (by decide)) (λD j ys H'=>∃B:List Bool,ys=B.map V.bl/\B.length=j) (λD hD=>([],rfl,rfl)) ?_ ?_
 .intro D j ys H' R1 R2 hD hj hsm hDl hp k1 k2
  obtain ⟨B,rfl,hB⟩:=hp
  exact tAlways_if (_,rfl,_,rfl,_,_,rfl,rfl,a,ns,_,rfl,hsm.seq hS,by lia,λz=>(_,_,rfl,rfl,by decide,rfl,k1 _ H' hDl (Same.set hsm hD) (B++[_],by rw [map_append];rfl,by rw [qa5,hB];rfl)))
 .intro D ys H' hD hsm hDl hp
  obtain ⟨B,rfl,hB⟩:=hp
  exact (D,_,rfl,.inl (SqL.of hDl,λtm htm=>q tm B _ (hsm.trans (Same.upd htm)) upd_same hB))
theorem a_V:a_e [Q4,Q3,"_law_strict",Z0,"_law_drawn","_law_ends",Z5,Z2] [Q4,Q3,"_law_strict"] (a_c c_x):=fsc
theorem f_F (F:Fun K "_law_forward" "_law_forward" c_x f fd) (T:Txt K mg) (y8:Df P w K mg base "_law_cell_at" 1 [Q4,Z1] (d_b K)) (yt:Df P w K mg base "_law_machine" 2 [Q4,"_law_at",Z0,Q3] (e_t K)):aa P w K mg base CX0 3 f fd [Q4,Q3,"_law_strict"] (dJ K):=by
 refine F.okA a_V ?_
 rintro _ _ _ _ _ _ _ _ hr ⟨a,ns,L,st,rfl,hS,hL,q⟩
 have hr1:=hr.mono (j:=1) (by decide)
 refine (_,(a_a ((stS 3 a_V.nd (a_j op_a pe_int (a_j op_m (a_l y8 hr1 (pq2 (pv 0) (pe_int))) pe_int)))) (a_a ((stS 4 a_V.nd ((a_l yt hr (c_B (pv 0) (pq3 (pe_int) (pv 3) (pv 1))))))) (a_a ((stS 5 a_V.nd (a_j op_s (a_j op_s (pv 3) pe_int) (a_j op_m (a_j mF (a_l y8 hr1 (pq2 (pv 0) (pe_int))) pe_int) pe_int)))) (a_a ((stS 6 a_V.nd (a_G b_d))) (a_a ((a_F PassesOwn.never rfl (a_E rfl T.range (pq1 (pv 3))) (pgN 7 a_V.nd) ((a_b ((a_N (c_H (b_r (pv 2))) ((a_b (a_y (apQ (pv 6) ((a_x a_i (by rfl) T.tuple boot_tuple (pq1 (a_u [Q4,Q3,"_law_strict",Z0,"_law_drawn","_law_ends",Z5,Z2] rfl (by decide) (c_c (xqT (xqV 4) (pv 7))) (λcl C fp s' H'=>(a_q,a_j op_a (pv 8) (a_j e_C (pv 0) (a_j op_s (pv 4) (pv 8))))))))))))) ((a_b ((a_N (a_B op_lt (pv 7) (pv 5) (a_S _)) ((a_b (a_y (apQ (pv 6) ((a_x a_i (by rfl) T.tuple boot_tuple (pq1 (a_u [Q4,Q3,"_law_strict",Z0,"_law_drawn","_law_ends",Z5,Z2] rfl (by decide) (c_c (xqT (xqV 4) (pv 7))) (λcl C fp s' H'=>(a_q,a_j op_a (a_j op_a (pv 8) pe_int) (a_j e_C (pv 0) (a_j op_s (a_j op_s (pv 4) pe_int) (pv 8))))))))))))) ((a_b (a_y (apQ (pv 6) ((a_x a_i (by rfl) T.tuple boot_tuple (pq1 (a_u [Q4,Q3,"_law_strict",Z0,"_law_drawn","_law_ends",Z5,Z2] rfl (by decide) (c_c (xqT (xqV 4) (pv 7))) (λcl C fp s' H'=>(a_q,pv 8)))))))))))))))))))) (a_b (a_f (a_W (pq3 (pv 1) (a_x a_i (by rfl) T.tuple boot_tuple (pq1 (pv 6))) (xqV 4)))))))))),?_)
 refine (_,rfl,a,ns,3,rfl,hS,by decide,λz0=>(_,_,rfl,rfl,by decide,_,_,rfl,rfl,?_))
 obtain ⟨n,en,n1,n2⟩:=h_F z0 1 6 (by decide)
 have en':(1:Int)+z0 % 6=(n:Int):=en.symm
 rw [en']
 refine (_,rfl,_,rfl,_,rfl,a,ns,4,n,L,rfl,hS,by decide,n1,by lia,hL,λdm W0 B0 H0 s0 hM0 hMa0 hW0=>?_)
 obtain ⟨wy,mk,rows0,g1,g2,g3,g4,g5⟩:=hM0
 refine (_,rfl,_,_,rfl,rfl,_,rfl,a,ns,3,rfl,s0.seq hS,by decide,λz1=>(_,_,rfl,rfl,(by decide,by decide),_,_,rfl,rfl,by decide,_,_,rfl,rfl,?_))
 have e0:0≤z1 / 6 % 2:=emod_nonneg _ (by decide)
 generalize z1 / 6 % 2=ee at e0
 refine (zero_le _,λwa hwa=>?_)
 refine (_,rfl,_,rfl,by lia,by lia,?_)
 refine b_G (n:=(n:Int).toNat) (λi σ H'=>∃(rows:List Addr) (W:LL) (s7:Option V),σ=[some (.ref a),some (.str (tx L)),some (.bl st),some (.int (n:Int)),some (.ref dm),some (.int ((n:Int) - 1 - ee)),some (.ref wa),s7]/\Same H0 H'/\H' wa=some (.lst (rows.map V.ref))/\rows.length=i/\W.length=i/\b_L H' rows W/\∀ws∈W,ws.length=L.length/\∀x∈ws,x<n) ([],[],none,rfl,Same.upd hwa,upd_same,rfl,rfl,λi r e=>by simp at e,λws e=>by simp at e) ?_ ?_
 .rintro i σ H1 hi ⟨rows,W,s7,rfl,sm,h1,hrl,hWl,hrows,hW⟩
  have hin:i<n:=by exact hi
  have hi0:i<W0.length:=by lia
  obtain ⟨ra,hra,hraH⟩:=a_o.row g4 (g5.same sm) hi0
  obtain ⟨gl,gb⟩:=b_z hMa0 hi0
  have zi:(i:Int)=0+(i:Int):=(Int.zero_add _).symm
  cases st with
  | false=>
   refine (_,rfl,_,rfl,aj (_,rfl,.inl (rfl,_,SqL.of h1),?_))
   dsimp only [aI,b_y,tNext,av,au,b_J,a_O,tBM,tCB]
   refine f_c (λR h=>(ivT (sm _ _ g1) aq (_,rfl,iqT (sm _ _ g2) (zi▸a_Z V.ref hra) h))) (.inr rfl) hraH (by rw [gl];exact hL.hi) (λx hx H' R1 put=>?_) λD ws H' hsm hDl hwl hwn=>(D,_,rfl,.inl (SqL.of hDl,λtp htp=>(wa,_,_,rfl,rfl,a_g (hsm _ _ h1) htp,by rw [qa4];exact a_K (by lia),rows++[tp],W++[ws],_,rfl,rows_more hwa sm h1 hrl hWl hrows hW hsm (hwl.trans gl) hwn htp)))
   refine (_,rfl,_,rfl,_,rfl,_,rfl,_,_,rfl,rfl,_,_,rfl,rfl,by lia,λr hr0 hr1=>(_,_,rfl,rfl,?_))
   obtain ⟨x,rfl⟩:=Int.eq_ofNat_of_zero_le hr0
   rw [show (0:Int)+(i:Int)+(x:Int)=((i+x:Nat):Int) by lia]
   exact put _ (by lia)
  | true=>
   refine (_,rfl,_,rfl,af (_,rfl,_,rfl,_,_,rfl,rfl,_,rfl,aB (λhlt=>(_,rfl,.inl (rfl,_,SqL.of h1),?_)) (λ_=>(_,rfl,.inl (rfl,_,SqL.of h1),?_))))
   rotate_left
   .dsimp only [aI,b_y,tNext,av,au,b_J,a_O,tBM,tCB]
    refine f_c (λR h=>(ivT (sm _ _ g1) aq (_,rfl,iqT (sm _ _ g2) (zi▸a_Z V.ref hra) h))) (.inr rfl) hraH (by rw [gl];exact hL.hi) (λx hx H' R1 put=>?_) λD ws H' hsm hDl hwl hwn=>(D,_,rfl,.inl (SqL.of hDl,λtp htp=>(wa,_,_,rfl,rfl,a_g (hsm _ _ h1) htp,by rw [qa4];exact a_K (by lia),rows++[tp],W++[ws],_,rfl,rows_more hwa sm h1 hrl hWl hrows hW hsm (hwl.trans gl) hwn htp)))
    refine (_,rfl,?_)
    rw [Int.zero_add]
    exact put _ hin
   dsimp only [aI,b_y,tNext,av,au,b_J,a_O,tBM,tCB]
   refine f_c (λR h=>(ivT (sm _ _ g1) aq (_,rfl,iqT (sm _ _ g2) (zi▸a_Z V.ref hra) h))) (.inr rfl) hraH (by rw [gl];exact hL.hi) (λx hx H' R1 put=>?_) λD ws H' hsm hDl hwl hwn=>(D,_,rfl,.inl (SqL.of hDl,λtp htp=>(wa,_,_,rfl,rfl,a_g (hsm _ _ h1) htp,by rw [qa4];exact a_K (by lia),rows++[tp],W++[ws],_,rfl,rows_more hwa sm h1 hrl hWl hrows hW hsm (hwl.trans gl) hwn htp)))
   refine (_,rfl,_,_,rfl,rfl,_,rfl,_,rfl,_,_,rfl,rfl,_,rfl,_,_,rfl,rfl,_,_,rfl,rfl,by lia,λr hr0 hr1=>(_,_,rfl,rfl,?_))
   obtain ⟨x,rfl⟩:=Int.eq_ofNat_of_zero_le hr0
   rw [show (0:Int)+(i:Int)+1+(x:Int)=((i+1+x:Nat):Int) by lia]
   exact put _ (by lia)
 .rintro σ H1 ⟨rows,W,s7,rfl,sm,h1,hrl,hWl,hrows,hW⟩
  have hWn:W.length=n:=by lia
  refine (_,rfl,_,rfl,wa,_,rfl,.inl (SqL.of h1,λtw htw=>?_))
  have s2:=Same.upd (o:=.tup (rows.map V.ref)) htw
  refine (ivT ((sm.trans s2) _ _ g1) aC (a_d (by show 3≤16777216;decide),λm hm=>?_))
  have up:Same H1 (L2.upd (L2.upd H1 tw (.tup (rows.map V.ref))) m (.tup [.str (tx L),.ref tw,.ref mk])):=s2.trans (Same.upd hm)
  exact q m W B0 _ ((s0.trans sm).trans up) (tw,mk,rows,upd_same,a_g upd_same hm,(sm.trans up) _ _ g3,by lia,hrows.same up) (hL,by lia,by lia,by have:=hMa0.bl;lia,λws hws=>((hW ws hws).1,λx hx=>by rw [hWn];exact (hW ws hws).2 x hx)) (by lia)
theorem d_d:a_e [Q4,Q3,Z5,Z2] [Q4,Q3] (a_c d_R):=fsc
theorem ok__law_lots (F:Fun K "_law_lots" "_law_lots" d_R f fd) (T:Txt K mg) (yk:Df P w K mg base "_law_marks" 2 [Q4,Z0] (d_r K)):aa P w K mg base CX0 3 f fd [Q4,Q3] (d_F K):=by
 refine F.okA d_d ?_
 rintro _ _ _ _ H _ _ _ hr ⟨a,ns,L,rfl,hS,hL,q⟩
 have hz:(tx L).length≤sizeLine:=a_d (by rw [a_k];exact le_trans hL.hi (by decide))
 have b3:(3:Nat)≤sizeLine:=a_d (by show 3≤16777216;decide)
 have hL3:=hL.hi
 refine (_,(a_a ((stS 2 d_d.nd (a_G b_d))) (a_a ((a_F PassesOwn.never rfl (a_E rfl T.range (pq1 (xqL (a_G (pq3 pe_int pe_int pe_int)) (a_j op_s (lqS T.len (pv 1)) pe_int)))) (pgN 3 d_d.nd) ((a_b (a_y (apQ (pv 2) ((a_x a_i (by rfl) T.tuple boot_tuple (pq1 (a_u [Q4,Q3,Z5,Z2] rfl (by decide) (c_c (b_u cv (a_G (pq3 pe_int pe_int pe_int)) c_i (b_x (lqS T.len (pv 1))))) (λcl C fp s' H'=>(a_q,a_j ot (pv 4) (pv 0))))))))))))) (a_b (a_f (a_W (pq3 (pv 1) (a_x a_i (by rfl) T.tuple boot_tuple (pq1 (pv 2))) (a_l yk hr (pq2 (pv 0) ((lqQ T.len (pv 2))))))))))),?_)
 obtain ⟨N,eN,n1,n2,hb⟩:=oA hL
 refine (zero_le _,λwa hwa=>?_)
 refine (b3,λl1 hl1=>(_,rfl,_,rfl,hz,_,_,rfl,rfl,iqL upd_same eN (_,rfl,by lia,by lia,?_)))
 have wl:wa≠l1:=λz=>by rw [<- z,upd_same] at hl1;cases hl1
 have hl10:H l1=none:=by rw [upd_ne (Ne.symm wl)] at hl1;exact hl1
 refine b_G (n:=(N:Int).toNat) (λi σ H'=>∃(rows:List Addr) (W:LL) (s3:Option V),σ=[some (.ref a),some (.str (tx L)),some (.ref wa),s3]/\Same H H'/\H' wa=some (.lst (rows.map V.ref))/\rows.length=i/\W.length=i/\b_L H' rows W/\∀ws∈W,ws.length=L.length/\∀x∈ws,x<N) ([],[],none,rfl,(Same.upd hwa).trans (Same.upd hl1),a_g upd_same hl1,rfl,rfl,λi r e=>by simp at e,λws e=>by simp at e) ?_ ?_
 .rintro i σ H1 hi ⟨rows,W,s3,rfl,sm,h1,hrl,hWl,hrows,hW⟩
  have hin:i<N:=by exact hi
  refine (_,rfl,.inl (rfl,_,SqL.of h1),?_)
  dsimp only [aI,b_y,tNext,av,au,b_J,a_O,tBM,tCB]
  refine j4 (b3,λl2 hl2=>(_,rfl,_,rfl,hz,_,rfl,l2,_,rfl,SqL.of upd_same,λl3 hl3=>?_))
  have ec:cutV [V.int 1,.int 2,.int 4] none (some ((tx L).length:Int))=intsV ([1,2,4].take L.length):=by
   rw [a_k,f_W (show L.length≤3 from hL3)]
   unfold intsV
   rw [List.map_take]
   rfl
  rw [ec]
  have s5:=(Same.upd (o:=.lst [.int 1,.int 2,.int 4]) hl2).trans (Same.upd (o:=.lst (intsV ([1,2,4].take L.length))) hl3)
  have e5:L2.upd (L2.upd H1 l2 (.lst [.int 1,.int 2,.int 4])) l3 (.lst (intsV ([1,2,4].take L.length))) l3=some (.lst (intsV ([1,2,4].take L.length))):=upd_same
  have bl:([1,2,4].take L.length).length=L.length:=by rw [length_take];show min L.length 3=_;lia
  generalize L2.upd (L2.upd H1 l2 (.lst [.int 1,.int 2,.int 4])) l3 (.lst (intsV ([1,2,4].take L.length)))=H5 at s5 e5
  refine f_c (λR h=>h) (.inl rfl) e5 (by rw [bl];exact hL3) (λx hx H' R1 put=>?_) λD ws H' hsm hDl hwl hwn=>(D,_,rfl,.inl (SqL.of hDl,λtp htp=>(wa,_,_,rfl,rfl,a_g ((s5.trans hsm) _ _ h1) htp,by rw [qa4];exact a_K (by lia),rows++[tp],W++[ws],_,rfl,rows_more hwa sm h1 hrl hWl hrows hW (s5.trans hsm) (hwl.trans bl) hwn htp)))
  obtain ⟨r,er,rn⟩:=hb i hin x hx
  refine (_,rfl,_,rfl,_,_,rfl,rfl,?_)
  rw [Int.zero_add,er]
  exact put _ rn
 .rintro σ H1 ⟨rows,W,s3,rfl,sm,h1,hrl,hWl,hrows,hW⟩
  have hWn:W.length=N:=by lia
  refine (_,rfl,_,rfl,wa,_,rfl,.inl (SqL.of h1,λtw htw=>?_))
  have s2:=Same.upd (o:=.tup (rows.map V.ref)) htw
  have e2:L2.upd H1 tw (.tup (rows.map V.ref)) tw=some (.tup (rows.map V.ref)):=upd_same
  generalize L2.upd H1 tw (.tup (rows.map V.ref))=H2 at s2 e2
  refine (_,rfl,_,rfl,wa,_,rfl,.inl (SqL.of (s2 _ _ h1)),a,ns,_,rfl,(sm.trans s2).seq hS,by rw [qa4];lia,λmk B H3 s3 hmk hB=>(b3,λm hm=>?_))
  rw [qa4] at hB
  have up:=s3.trans (Same.upd (o:=.tup [.str (tx L),.ref tw,.ref mk]) hm)
  exact q m W B _ ((sm.trans s2).trans up) (tw,mk,rows,upd_same,up _ _ e2,a_g hmk hm,by lia,hrows.same (s2.trans up)) (hL,by lia,by lia,by lia,λws hws=>((hW ws hws).1,λx hx=>by rw [hWn];exact (hW ws hws).2 x hx)) (by lia)
theorem a_z:a_e [Q4,Q3,"_law_size","_law_places","_law_labels",Z5,"_law_at","_law_row","_law_sign","_law_label"] [Q4,Q3] (a_c c_P):=fsc
theorem g_n (F:Fun K "_law_memory" "_law_memory" c_P f fd) (T:Txt K mg) (y8:Df P w K mg base "_law_cell_at" 1 [Q4,Z1] (d_b K)) (yk:Df P w K mg base "_law_marks" 2 [Q4,Z0] (d_r K)):aa P w K mg base CX0 3 f fd [Q4,Q3] (d_F K):=by
 refine F.okA a_z ?_
 rintro _ _ _ s H _ _ _ hr ⟨a,ns,L,rfl,hS,hL,q⟩
 have hr1:=hr.mono (j:=1) (by decide)
 have hL1:=hL.lo
 have hL3:=hL.hi
 have hz:(tx L).length≤sizeLine:=a_d (by rw [a_k];exact le_trans hL3 (by decide))
 have b1:(1:Nat)≤sizeLine:=a_d (by show 1≤16777216;decide)
 have b3:(3:Nat)≤sizeLine:=a_d (by show 3≤16777216;decide)
 refine (_,(a_a ((stS 2 a_z.nd (a_j op_a pe_int (a_j op_m (a_l y8 hr1 (pq2 (pv 0) (pe_int))) (xqL (a_G (pq3 pe_int pe_int pe_int)) (a_j op_s (lqS T.len (pv 1)) pe_int)))))) (d_S ((stS 3 a_z.nd (mv b_l pe_int))) (a_a ((stS 4 a_z.nd (a_G (pq1 b_l)))) (a_a ((stS 5 a_z.nd (a_G b_d))) (a_a ((stS 6 a_z.nd (pe_int))) (a_a ((c_T PassesOwn.never (a_B op_lt (pv 6) (lqQ T.len (pv 4)) (a_S _)) (a_a ((stS 7 a_z.nd (a_G b_d))) (a_a ((a_F PassesOwn.never rfl (d_A (pv 1)) (pgN 8 a_z.nd) ((a_a ((stS 9 a_z.nd (b_u aN (a_j a_X (xqL (pv 4) (pv 6)) (pv 8)) (b_x (aH e_K (pv 2))) c_i))) (d_S ((a_N (a_B bD (pv 9) (pv 3) (by with_unfolding_all rfl)) ((a_a (ps_asg (lqQ T.len (pv 4)) (pg_sub (pv 3) (pv 9) set_dictX)) (a_b (a_y (apQ (pv 4) (pv 9)))))) (a_m))) (a_b (a_y (apQ (pv 7) (pe_ix ix_dictX (pv 3) (pv 9) (λ_ _=>rfl)))))))))) (a_a (a_y (apQ (pv 5) ((a_x a_i (by rfl) T.tuple boot_tuple (pq1 (pv 7)))))) (a_b ((stS 6 a_z.nd (a_j op_a (pv 6) pe_int))))))))) (a_b (a_f (a_W (pq3 (pv 1) (a_x a_i (by rfl) T.tuple boot_tuple (pq1 (pv 5))) (a_l yk hr (pq2 (pv 0) ((lqQ T.len (pv 5))))))))))))))),?_)
 obtain ⟨C,eC,c1,cs⟩:=pS hL
 refine (_,rfl,a,ns,3,rfl,hS,by decide,λz0=>(b3,λl1 hl1=>(_,rfl,_,rfl,hz,_,_,rfl,rfl,iqL upd_same eC (_,_,rfl,rfl,by lia,_,_,rfl,rfl,?_))))
 have sH:=Same.upd (o:=.lst [.int 6,.int 2,.int 1]) hl1
 generalize L2.upd H l1 (.lst [.int 6,.int 2,.int 1])=H9 at sH
 obtain ⟨n,en,n1,n2⟩:=h_F z0 1 C (by lia)
 have en':(1:Int)+z0 % (C:Int)=(n:Int):=en.symm
 rw [en']
 obtain ⟨s,rfl⟩:∃s,n=s+1:=(n - 1,by lia)
 have hU:(b_i L (s+1)).length≤7:=iM hL1 hL3 (by lia)
 refine ⟨λσ' H'=>∃dd,σ'=[some (.ref a),some (.str (tx L)),some (.int ((s+1:Nat):Int)),some (.ref dd),none,none,none,none,none,none]/\Same H H'/\H dd=none/\H' dd=some (kdO (sK P w) dd (kvX [[]] 0)),?_,?_⟩
 .intro dd hdd
  refine (upd_same,_,rfl,dd,rfl,?_,b_k sH hdd,upd_same)
  rw [d_D]
  exact sH.trans (Same.upd hdd)
 rintro σ0 H0 ⟨dd,rfl,s0,hdd,hpd⟩
 refine (b1,λll hll=>(zero_le _,λwa hwa=>?_))
 have lw:ll≠wa:=λz=>by rw [<- z,upd_same] at hwa;cases hwa
 have hwa0:H0 wa=none:=by rw [upd_ne (Ne.symm lw)] at hwa;exact hwa
 have M0:MemI P w H (L2.upd (L2.upd H0 ll (.lst [.str (tx [])])) wa (.lst [])) dd ll wa L (s+1) 0 [[]] [] []:=
  { sm:=s0.trans ((Same.upd hll).trans (Same.upd hwa)),pd:=a_g (a_g hpd hll) hwa,lb:=a_g upd_same hwa,wy:=upd_same,nd:=by simp,wd:=λv hv=>by rw [qb1 hv];exact (zero_le _,by simp),rl:=rfl,wl:=rfl,ra:=λi r e=>by simp at e,rb:=λr hr=>by simp at hr,le:=zero_le _,ne:=by decide,d0:=hdd,l0:=b_k s0 hll,w0:=b_k s0 hwa0,lw:=lw }
 refine ⟨λk σ' H'=>∃(at0:Nat) (ws W:LL) (rows:List Addr) (s7 s8 s9:Option V),k=20 - at0/\σ'=[some (.ref a),some (.str (tx L)),some (.int ((s+1:Nat):Int)),some (.ref dd),some (.ref ll),some (.ref wa),some (.int (at0:Int)),s7,s8,s9]/\MemI P w H H' dd ll wa L (s+1) at0 ws rows W,(_,0,[[]],[],[],none,none,none,rfl,rfl,M0),?_⟩
 rintro k σ' H1 ⟨at0,ws,W,rows,s7,s8,s9,rfl,rfl,M⟩
 have few:=M.few hU
 refine (_,rfl,_,rfl,ll,_,rfl,.inl (SqL.of M.lb),_,_,rfl,rfl,_,rfl,aB (λhlt=>?_) (λhlt=>?_))
 .rw [wordsV,qa4] at hlt
  have hlt':at0<ws.length:=ofNat_lt.mp hlt
  obtain ⟨v,hv⟩:∃v,ws[at0]?=some v:=(ws[at0],qa2 hlt')
  refine ⟨λσ2 H2=>∃(ws W:LL) (rows:List Addr) (s7 s8 s9:Option V),σ2=[some (.ref a),some (.str (tx L)),some (.int ((s+1:Nat):Int)),some (.ref dd),some (.ref ll),some (.ref wa),some (.int ((at0+1:Nat):Int)),s7,s8,s9]/\MemI P w H H2 dd ll wa L (s+1) (at0+1) ws rows W,?_,?_⟩
  .rintro σ2 H2 ⟨ws2,W2,rows2,u7,u8,u9,rfl,M2⟩
   exact (20 - (at0+1),by lia,at0+1,ws2,W2,rows2,u7,u8,u9,rfl,rfl,M2)
  refine (zero_le _,λrw hrw=>?_)
  have hrw0:H rw=none:=b_k M.sm hrw
  have nl:ll≠rw:=λz=>by rw [<- z,M.lb] at hrw;cases hrw
  have nw:wa≠rw:=λz=>by rw [<- z,M.wy] at hrw;cases hrw
  refine (_,rfl,_,rfl,d_W (x:=tx L) (λj σ2 H2=>∃(ws:LL) (rs:LN) (s8 s9:Option V),σ2=[some (.ref a),some (.str (tx L)),some (.int ((s+1:Nat):Int)),some (.ref dd),some (.ref ll),some (.ref wa),some (.int (at0:Int)),some (.ref rw),s8,s9]/\MemI P w H H2 dd ll wa L (s+1) at0 ws rows W/\H2 rw=some (.lst (intsV rs))/\rs.length=j/\(∀x∈rs,x<ws.length)/\ws[at0]?=some v) (ws,[],_,_,rfl,M.keep (Same.upd hrw),upd_same,rfl,(λx hx=>by simp at hx),hv) ?_ ?_)
  .rintro j c σ2 H2 hc ⟨ws2,rs,u8,u9,rfl,M2,hr2,hrl,hrb,hv2⟩
   have few2:=M2.few hU
   have hcL:c∈L:=by
    have:=qb2 (show (tx L).cps.toList[j]?=some c by rw [getElem?_toList];exact hc)
    rwa [a_P] at this
   have hj:j<L.length:=by
    have:=(qa1 (show (tx L).cps.toList[j]?=some c by rw [getElem?_toList];exact hc)).1
    rwa [a_P] at this
   obtain ⟨vl,vc⟩:=M2.wd v (qb2 hv2)
   have s7:s≤5:=by lia
   have gv:atI (wordsV ws2) (at0:Int)=some (.str (tx v)):=a_R (by rw [wordsV,qa6,hv2];rfl)
   have e1:(⟨#[c]⟩:Str)=tx [c]:=rfl
   refine (_,rfl,_,rfl,iqL M2.lb gv (_,rfl,_,_,rfl,rfl,?_,_,rfl,_,rfl,_,rfl,_,rfl,?_,?_))
   .rw [e1,a_k,a_k]
    exact a_d (by simp;lia)
   .rw [e1,c_o,a_k]
    exact a_d (by simp;lia)
   rw [e1,c_o,fK,a_P]
   have hu1:((v++[c]).drop ((v++[c]).length - (s+1))).length≤s+1:=by rw [length_drop];lia
   have hu2:∀d∈(v++[c]).drop ((v++[c]).length - (s+1)),d∈L:=λd hd=>(mem_append.mp (List.mem_of_mem_drop hd)).elim (vc d) λz=>by rw [qb1 z];exact hcL
   generalize (v++[c]).drop ((v++[c]).length - (s+1))=u at hu1 hu2
   refine ⟨λσ3 H3=>∃ws3:LL,σ3=[some (.ref a),some (.str (tx L)),some (.int ((s+1:Nat):Int)),some (.ref dd),some (.ref ll),some (.ref wa),some (.int (at0:Int)),some (.ref rw),some (.str ⟨#[c]⟩),some (.str (tx u))]/\MemI P w H H3 dd ll wa L (s+1) at0 ws3 rows W/\H3 rw=some (.lst (intsV rs))/\(∀x∈rs,x<ws3.length)/\ws3[at0]?=some v/\u∈ws3,?_,?_⟩
   .refine (_,rfl,_,rfl,dd,_,_,rfl,rfl,M2.pd,_,rfl,?_)
    rw [h_w]
    by_cases hm:u∈ws2
    .rw [(aS hm).1]
     exact af (ws2,rfl,M2,hr2,hrb,hv2,hm)
    .rw [show ixO ws2 u=none from if_neg hm]
     refine aj (_,rfl,ll,_,rfl,.inl (SqL.of M2.lb),_,rfl,_,rfl,dd,_,_,rfl,rfl,M2.pd,by rw [h_w,show ixO ws2 u=none from if_neg hm];rfl,by rw [iq];exact a_K (le_trans few2 (by decide)),?_)
     have ek:kvX ws2 0++[(tx u,V.int ((wordsV ws2).length:Int),)]=kvX (ws2++[u]) 0:=by rw [eH,Nat.zero_add,wordsV,qa4]
     rw [ek]
     have dl:dd≠ll:=ne_of M2.pd M2.lb (by intro z;unfold kdO at z;cases z)
     have dr:rw≠dd:=Ne.symm (ne_of M2.pd hr2 (by intro z;unfold kdO at z;cases z))
     have lb2:L2.upd H2 dd (kdO (sK P w) dd (kvX (ws2++[u]) 0)) ll=some (.lst (wordsV ws2)):=by rw [upd_ne (Ne.symm dl)];exact M2.lb
     refine (_,rfl,.inl (rfl,_,SqL.of lb2),_,rfl,ll,_,_,rfl,rfl,lb2,by rw [wordsV,qa4];exact a_K (le_trans few2 (by decide)),?_)
     have ew:wordsV ws2++[V.str (tx u)]=wordsV (ws2++[u]):=by rw [wordsV,wordsV,map_append];rfl
     rw [ew]
     exact (ws2++[u],rfl,M2.add hm hu1 hu2,by rw [upd_ne (Ne.symm nl),upd_ne dr];exact hr2,λx hx=>by rw [qa5];exact lt_of_lt_of_le (hrb x hx) (le_add_right _ _),d_V hv2,by simp)
   rintro σ3 H3 ⟨ws3,rfl,M3,hr3,hrb3,hv3,hu3⟩
   have few3:=M3.few hU
   have il:ws3.idxOf u<ws3.length:=idxOf_lt_length_of_mem hu3
   refine (_,rfl,.inl (rfl,_,SqL.of hr3),_,rfl,_,rfl,dd,_,_,_,rfl,rfl,M3.pd,by rw [h_w,(aS hu3).1];rfl,rw,_,_,rfl,rfl,hr3,by rw [intsV_len];exact a_K (by lia),ws3,rs++[ws3.idxOf u],_,_,rfl,M3.other hrw0 hr3 nl nw,?_,by rw [qa5,hrl];rfl,λx hx=>?_,hv3)
   .rw [upd_same,<- a_J,Nat.zero_add]
   .rcases mem_append.mp hx with z|z
    .exact hrb3 x z
    .rw [qb1 z];exact il
  .rintro σ2 H2 ⟨ws2,rs,u8,u9,rfl,M2,hr2,hrl,hrb,hv2⟩
   have few2:=M2.few hU
   have hrl':rs.length=L.length:=by rw [hrl,a_k]
   have a2:at0<ws2.length:=(qa1 hv2).1
   have rl7:=M2.rl
   refine (_,rfl,.inl (rfl,_,SqL.of M2.wy),_,rfl,rw,_,rfl,.inl (SqL.of hr2,λtp htp=>?_))
   have M3:=M2.keep (Same.upd (o:=.tup (intsV rs)) htp)
   obtain ⟨u1,u2,u3⟩:=hX (ws:=rs) M2.wy M2.ra (by rw [M2.rl,M2.wl]) htp
   have wt:tp≠wa:=λz=>by rw [z,M2.wy] at htp;cases htp
   refine (wa,_,_,rfl,rfl,a_g M2.wy htp,by rw [qa4,M2.rl];exact a_K (by lia),_,rfl,_,_,rfl,rfl,ws2,W++[rs],rows++[tp],_,_,_,rfl,?_)
   exact { M3 with sm:=Same.set M3.sm M2.w0,pd:=upd_keep2 M3.pd M3.wy (by intro z;unfold kdO at z;cases z),lb:=by rw [upd_ne M2.lw];exact M3.lb,wy:=u1,rl:=by rw [qa5,M2.rl];rfl,wl:=by rw [qa5,M2.wl];rfl,ra:=u2,rb:=(λr hr=>(mem_append.mp hr).elim (M2.rb r) λz=>by rw [qb1 z];exact (hrl',hrb)),le:=a2 }
 .rw [wordsV,qa4] at hlt
  have ea:at0=ws.length:=le_antisymm M.le (le_of_not_lt λz=>hlt (ofNat_lt.mpr z))
  have n0:=M.ne
  refine (_,rfl,_,rfl,wa,_,rfl,.inl (SqL.of M.wy,λtw htw=>?_))
  have s2:=Same.upd (o:=.tup (rows.map V.ref)) htw
  have e2:L2.upd H1 tw (.tup (rows.map V.ref)) tw=some (.tup (rows.map V.ref)):=upd_same
  generalize L2.upd H1 tw (.tup (rows.map V.ref))=H2 at s2 e2
  have rl:=M.rl
  have wl:=M.wl
  refine (_,rfl,_,rfl,wa,_,rfl,.inl (SqL.of (s2 _ _ M.wy)),a,ns,_,rfl,(M.sm.trans s2).seq hS,by rw [qa4];lia,λmk B H3 s3 hmk hB=>(b3,λm hm=>?_))
  rw [qa4] at hB
  have up:=s3.trans (Same.upd (o:=.tup [.str (tx L),.ref tw,.ref mk]) hm)
  exact q m W B _ ((M.sm.trans s2).trans up) (tw,mk,rows,upd_same,up _ _ e2,a_g hmk hm,by lia,M.ra.same (s2.trans up)) (hL,by lia,by lia,by lia,λr hr=>((M.rb r hr).1,λx hx=>by have:=(M.rb r hr).2 x hx;lia)) (by lia)
theorem a_h:a_e [Q4,Q3,"_law_number","_law_left",Q9,"_law_tuples","_law_sign","_law_size","_law_low","_law_longer","_law_some",Z5,"_law_row",Z1,"_law_many"] [Q4,Q3] (a_c c_t):=fsc
theorem f_B (F:Fun K "_law_tallied" "_law_tallied" c_t f fd) (T:Txt K mg) (y8:Df P w K mg base "_law_cell_at" 1 [Q4,Z1] (d_b K)) (yk:Df P w K mg base "_law_marks" 2 [Q4,Z0] (d_r K)):aa P w K mg base CX0 3 f fd [Q4,Q3] (d_F K):=by
 refine F.okA a_h ?_
 rintro _ _ _ _ H vs _ _ hr ⟨a,ns,L,rfl,hS,hL,q⟩
 have hr1:=hr.mono (j:=1) (by decide)
 have hL1:=hL.lo
 have hL3:=hL.hi
 have hz:(tx L).length≤sizeLine:=a_d (by rw [a_k];exact le_trans hL3 (by decide))
 have b1:(1:Nat)≤sizeLine:=a_d (by show 1≤16777216;decide)
 have b2:(2:Nat)≤sizeLine:=a_d (by show 2≤16777216;decide)
 have b3:(3:Nat)≤sizeLine:=a_d (by show 3≤16777216;decide)
 refine (_,(a_a ((stS 2 a_h.nd (a_j op_m (a_l y8 hr1 (pq2 (pv 0) (pe_int))) (a_j op_pow pe_int pe_int)))) (a_a ((stS 3 a_h.nd (pe_int))) (a_a ((stS 4 a_h.nd (a_G b_d))) (a_a ((stS 5 a_h.nd (a_G (pq1 (a_W b_d))))) (a_a ((a_F PassesOwn.never rfl (d_A (pv 1)) (pgN 6 a_h.nd) ((a_a ((stS 7 a_h.nd (a_j op_a pe_int (a_j op_m (pv 2) (pv 3))))) (a_a ((stS 8 a_h.nd (a_j e_C (a_j mF (pv 2) pe_int) (pv 7)))) (a_a ((stS 2 a_h.nd (a_j mF (pv 2) pe_int))) (a_a ((stS 3 a_h.nd (a_j mF (pv 3) (pv 7)))) (a_a (a_y (apQ (pv 4) (a_W (pq2 (pv 8) (pv 7))))) (a_a ((stS 9 a_h.nd (a_G b_d))) (a_a ((a_F PassesOwn.never rfl (b_Y (pv 5)) (pgN 10 a_h.nd) ((a_b ((stS 9 a_h.nd (a_j kD (pv 9) (a_u [Q4,Q3,"_law_number","_law_left",Q9,"_law_tuples","_law_sign","_law_size","_law_low","_law_longer","_law_some",Z5,"_law_row",Z1,"?"] rfl (by decide) (a_E rfl T.range (pq1 (pv 7))) (λcl C fp s' H'=>(a_q,a_j f_y (pv 11) (a_W (pq1 (pv 0))))))))))))) (a_b ((stS 5 a_h.nd (pv 9)))))))))))))) (a_a ((stS 11 a_h.nd (a_G b_d))) (a_a ((a_F PassesOwn.never rfl (b_Y (pv 5)) (pgN 10 a_h.nd) ((a_a ((stS 12 a_h.nd (a_G b_d))) (a_a ((a_F PassesOwn.never rfl (a_E rfl T.range (pq1 (lqS T.len (pv 1)))) (pgN 13 a_h.nd) ((a_a ((stS 14 a_h.nd (a_j op_a (xqT (pv 10) (pv 13)) pe_int))) (d_S ((a_N (cqE (pv 14) (xqT (xqL (pv 4) (pv 13)) pe_int)) ((a_b ((stS 14 a_h.nd ((xqT (xqL (pv 4) (pv 13)) pe_int)))))) (a_m))) (a_b (a_y (apQ (pv 12) ((c_Z plainAttrs_list slot_list_index type_list_index (mt_indexT hr.units) (pv 5) (pq1 (a_j f_y (a_j f_y (b_u cu (pv 10) c_i (b_x (pv 13))) (a_W (pq1 (pv 14)))) (b_u cu (pv 10) (b_x (a_j op_a (pv 13) pe_int)) c_i))))))))))))) (a_b (a_y (apQ (pv 11) ((a_x a_i (by rfl) T.tuple boot_tuple (pq1 (pv 12)))))))))))) (a_b (a_f (a_W (pq3 (pv 1) (a_x a_i (by rfl) T.tuple boot_tuple (pq1 (pv 11))) (a_l yk hr (pq2 (pv 0) ((lqQ T.len (pv 11)))))))))))))))),?_)
 refine (_,rfl,a,ns,3,rfl,hS,by decide,λz0=>(_,_,rfl,rfl,(by decide,by decide,by decide),_,_,rfl,rfl,by decide,?_))
 have z00:0≤z0 % 10 ^ toNat 9:=emod_nonneg _ (by decide)
 generalize z0 % 10 ^ toNat 9=num0 at z00
 refine (zero_le _,λrl hrl=>(zero_le _,λet het=>(b1,λtl0 htl0=>?_)))
 have rt:rl≠tl0:=λz=>by rw [<- z,a_g upd_same het] at htl0;cases htl0
 have I0:jK H (L2.upd (L2.upd (L2.upd H rl (.lst [])) et (.tup [])) tl0 (.lst [.ref et])) rl tl0 [] [[]] [] [] [.ref et]:=
  { sm:=((Same.upd hrl).trans (Same.upd het)).trans (Same.upd htl0),r0:=hrl,hr:=a_g (a_g upd_same het) htl0,rn:=rfl,ll:=rfl,rr:=λi r e=>by simp at e,lo:=λi hi=>absurd hi (not_lt_zero _),ht:=upd_same,th:=(rfl,λi k v e1 e2=>by
    match i,e1,e2 with
    | 0,e1,e2=>cases e1;cases e2;exact thT (a_g upd_same htl0)),ta:=Tal.nil,ne:=by decide,tr:=Ne.symm rt }
 generalize L2.upd (L2.upd (L2.upd H rl (.lst [])) et (.tup [])) tl0 (.lst [.ref et])=H1 at I0
 refine (_,rfl,_,rfl,d_W (x:=tx L) (λj σ' H'=>∃(num:Int) (left:Nat) (tl:Addr) (rws:List Addr) (ts:LL) (S lows:LN) (vs:List V) (s6 s7 s8 s9 s10:Option V),σ'=[some (.ref a),some (.str (tx L)),some (.int num),some (.int (left:Int)),some (.ref rl),some (.ref tl),s6,s7,s8,s9,s10,none,none,none,none]/\0≤num/\1≤left/\left≤8/\ts.length * left≤8/\S.length=j/\jK H H' rl tl rws ts S lows vs) (num0,8,tl0,[],[[]],[],[],_,_,_,_,_,_,rfl,z00,by decide,by decide,by decide,rfl,I0) ?_ ?_)
 .rintro j c σ2 H2 hc ⟨num,left,tl,rws,ts,S,lows,vs,s6,s7,s8,s9,s10,rfl,hn0,hl1,hl8,hpr,hSj,M⟩
  have hj3:j<3:=by
   have:=(qa1 (show (tx L).cps.toList[j]?=some c by rw [getElem?_toList];exact hc)).1
   rw [a_P] at this
   lia
  have ts8:ts.length≤8:=le_trans (Nat.le_mul_of_pos_right _ hl1) hpr
  refine (_,rfl,_,rfl,_,_,rfl,rfl,by lia,_,_,rfl,rfl,?_)
  obtain ⟨sz,es,sz1,sz2⟩:=h_F num 1 left hl1
  have es':(1:Int)+num % (left:Int)=(sz:Int):=es.symm
  rw [es']
  have szl:sz≤left:=by lia
  refine (_,rfl,_,_,rfl,rfl,(by decide,by decide),_,rfl,_,_,rfl,rfl,by lia,λr hr0 hr1=>?_)
  obtain ⟨lw,rfl⟩:=Int.eq_ofNat_of_zero_le hr0
  have lws:lw<sz:=ofNat_lt.mp hr1
  refine (_,rfl,_,_,rfl,rfl,(by decide,by decide),?_)
  refine (_,rfl,_,rfl,_,_,rfl,rfl,(by lia,by lia),?_)
  have ed:(left:Int) / (sz:Int)=((left / sz:Nat):Int):=(Int.natCast_ediv left sz).symm
  rw [ed]
  have n64:0≤num / 64:=Int.ediv_nonneg hn0 (by decide)
  generalize num / 64=num2 at n64
  have lf1:1≤left / sz:=(Nat.le_div_iff_mul_le (by lia)).mpr (by lia)
  have lf8:left / sz≤8:=le_trans (Nat.div_le_self _ _) hl8
  have pr2:ts.length * sz * (left / sz)≤8:=by
   rw [Nat.mul_assoc]
   exact le_trans (Nat.mul_le_mul_left _ (Nat.mul_div_le left sz)) hpr
  refine (_,rfl,.inl (rfl,_,SqL.of M.hr),_,rfl,_,rfl,b2,λtp htp=>?_)
  have M2:=M.keep (Same.upd (o:=.tup [.int (lw:Int),.int (sz:Int)]) htp)
  have e2:L2.upd H2 tp (.tup [.int (lw:Int),.int (sz:Int)]) tp=some (.tup [.int (lw:Int),.int (sz:Int)]):=upd_same
  generalize L2.upd H2 tp (.tup [.int (lw:Int),.int (sz:Int)])=H3 at M2 e2
  have rn:=M2.rn
  refine (rl,_,_,rfl,rfl,M2.hr,by rw [qa4];exact a_K (by lia),?_)
  have ktup:∀b xs,H3 b=some (.tup xs)->L2.upd H3 rl (.lst (rws.map V.ref++[.ref tp])) b=some (.tup xs):=λb xs e=>upd_keep2 e M2.hr (by intro z;cases z)
  have M3:jK H (L2.upd H3 rl (.lst (rws.map V.ref++[.ref tp]))) rl tl (rws++[tp]) ts S lows vs\/True:=.inr trivial
  have s3:Same H (L2.upd H3 rl (.lst (rws.map V.ref++[.ref tp]))):=Same.set M2.sm M2.r0
  have hr3:L2.upd H3 rl (.lst (rws.map V.ref++[.ref tp])) rl=some (.lst ((rws++[tp]).map V.ref)):=by rw [upd_same,map_append];rfl
  have ht3:L2.upd H3 rl (.lst (rws.map V.ref++[.ref tp])) tl=some (.lst vs):=by rw [upd_ne M2.tr];exact M2.ht
  have th3:b_e .t (L2.upd H3 rl (.lst (rws.map V.ref++[.ref tp]))) ts vs:=M2.th.same ktup
  have rr3:∀(i:Nat) (r:Addr),(rws++[tp])[i]?=some r->L2.upd H3 rl (.lst (rws.map V.ref++[.ref tp])) r=some (.tup [.int (((lows++[lw]).getD i 0:Nat):Int),.int (((S++[sz]).getD i 0:Nat):Int)]):=λi r e=>by
   rcases b_V e with z|⟨rfl,rfl⟩
   .have hi:i<S.length:=by rw [<- rn];exact (qa1 z).1
    rw [e_l (by rw [M2.ll];exact hi),e_l hi]
    exact ktup _ _ (M2.rr i r z)
   .have x1:(lows++[lw]).getD rws.length 0=lw:=by rw [show rws.length=lows.length by rw [rn,M2.ll]];exact e_k
    have x2:(S++[sz]).getD rws.length 0=sz:=by rw [rn];exact e_k
    rw [x1,x2]
    exact ktup _ _ e2
  generalize L2.upd H3 rl (.lst (rws.map V.ref++[.ref tp]))=H4 at s3 hr3 ht3 th3 rr3
  clear M3 ktup
  refine (zero_le _,λlg0 hlg0=>?_)
  have s45:Same H4 (L2.upd H4 lg0 (.lst [])):=Same.upd hlg0
  refine (_,rfl,tl,rfl,(_,SqL.of (s45 _ _ ht3)),b_H (K:=K) (a:=tl) (xs:=vs) (λi σ' H'=>∃(lg:Addr) (vs2:List V) (s10:Option V),σ'=[some (.ref a),some (.str (tx L)),some (.int num2),some (.int ((left / sz:Nat):Int)),some (.ref rl),some (.ref tl),some (.str ⟨#[c]⟩),some (.int (sz:Int)),some (.int (lw:Int)),some (.ref lg),s10,none,none,none,none]/\Same H4 H'/\H4 lg=none/\H' lg=some (.lst vs2)/\b_e .t H' (e_f (ts.take i) sz) vs2) (lg0,[],_,rfl,s45,hlg0,upd_same,rfl,λi k v e=>by simp [e_f] at e) ?_ ?_ ?_)
  .rintro i σ' H' hi ⟨_,_,_,rfl,sm,_⟩
   exact SqL.of (sm _ _ ht3)
  .rintro i x σ' H5 hx ⟨lg,vs2,u10,rfl,sm5,hlg4,hlg,hth5⟩
   have hi:i<ts.length:=by rw [<- th3.1];exact (qa1 hx).1
   obtain ⟨t,hti⟩:∃t,ts[i]?=some t:=(ts[i],qa2 hi)
   obtain ⟨bt,rfl,hbt⟩:=iT (th3.2 i t x hti hx)
   have tlen:t.length=S.length:=((M.ta.mem t).mp (qb2 hti)).1
   have nl:(e_f (ts.take i) sz).length≤64:=by
    rw [f_J,length_take]
    exact le_trans (Nat.mul_le_mul (show min i ts.length≤8 by lia) (show sz≤8 by exact le_trans szl hl8)) (by decide)
   have vl:vs2.length=(e_f (ts.take i) sz).length:=hth5.1
   refine (_,rfl,?_)
   dsimp only [aI,b_y,tNext,av,au,b_J,a_O,tBM,tCB,tOp]
   refine h_E (n:=sz) (λR h=>(_,rfl,h)) (le_trans szl (le_trans hl8 (by decide))) (sm5 _ _ hbt) (λk H' R1 h e=>(_,rfl,_,rfl,b1,oU (by lia) e h)) λD ys H6 hsm hDl hyl hp=>?_
   refine (lg,D,_,_,rfl,rfl,hsm _ _ hlg,hDl,a_d (by lia),λp hp'=>?_)
   have s7:=Same.upd (o:=.lst (vs2++ys)) hp'
   refine (p,vs2++ys,_,rfl,(sm5.trans hsm).trans s7,b_k (sm5.trans hsm) hp',upd_same,?_)
   have et:e_f (ts.take (i+1)) sz=e_f (ts.take i) sz++(List.range sz).map λm=>t++[m]:=by
    unfold e_f
    rw [a_p hti,List.flatMap_append]
    simp
   rw [et]
   have h1:b_e .t (L2.upd H6 p (.lst (vs2++ys))) (e_f (ts.take i) sz) vs2:=hth5.same λb xs e=>s7 _ _ (hsm _ _ e)
   have h2:b_e .t (L2.upd H6 p (.lst (vs2++ys))) ((List.range sz).map λm=>t++[m]) ys:=hp.same λb xs e=>s7 _ _ e
   exact g_d h1 h2
  .rintro σ' H5 ⟨lg,vs2,u10,rfl,sm5,hlg4,hlg,hth5⟩
   rw [th3.1,take_length] at hth5
   have lo3:∀i,i<(S++[sz]).length->(lows++[lw]).getD i 0<(S++[sz]).getD i 0:=λi hi=>by
    by_cases z:i<S.length
    .rw [e_l (by rw [M2.ll];exact z),e_l z];exact M2.lo i z
    .have hi2:i=S.length:=by rw [qa5] at hi;simp at hi;lia
     rw [hi2]
     have x1:(lows++[lw]).getD S.length 0=lw:=by rw [<- M2.ll];exact e_k
     have x2:(S++[sz]).getD S.length 0=sz:=e_k
     rw [x1,x2]
     exact lws
   refine (_,rfl,num2,left / sz,lg,rws++[tp],e_f ts sz,S++[sz],lows++[lw],vs2,_,_,_,_,_,rfl,n64,lf1,lf8,by rw [f_J];exact pr2,by rw [qa5,hSj];rfl,?_)
   exact { sm:=s3.trans sm5,r0:=M2.r0,hr:=sm5 _ _ hr3,rn:=by rw [qa5,qa5,rn];rfl,ll:=by rw [qa5,qa5,M2.ll];rfl,rr:=λi r e=>sm5 _ _ (rr3 i r e),lo:=lo3,ht:=hlg,th:=hth5,ta:=M2.ta.next sz,ne:=by rw [f_J];exact Nat.mul_pos M2.ne (by lia),tr:=λz=>by rw [z,hr3] at hlg4;cases hlg4 }
 .rintro σ2 H2 ⟨num,left,tl,rws,ts,S,lows,vs,s6,s7,s8,s9,s10,rfl,hn0,hl1,hl8,hpr,hSj,M⟩
  rw [a_k] at hSj
  have ts8:ts.length≤8:=le_trans (Nat.le_mul_of_pos_right _ hl1) hpr
  refine (zero_le _,λwa hwa=>?_)
  have N:=M.keep (Same.upd (o:=.lst []) hwa)
  refine (_,rfl,tl,rfl,(_,SqL.of N.ht),b_H (K:=K) (a:=tl) (xs:=vs) (λi σ H'=>∃(rows:List Addr) (W:LL) (s10 s12 s13 s14:Option V),σ=[some (.ref a),some (.str (tx L)),some (.int num),some (.int (left:Int)),some (.ref rl),some (.ref tl),s6,s7,s8,s9,s10,some (.ref wa),s12,s13,s14]/\Same H2 H'/\H' wa=some (.lst (rows.map V.ref))/\rows.length=i/\W.length=i/\b_L H' rows W/\∀ws∈W,ws.length=L.length/\∀x∈ws,x<ts.length) ([],[],_,_,_,_,rfl,Same.upd hwa,upd_same,rfl,rfl,(λi r e=>by simp at e),λws e=>by simp at e) ?_ ?_ ?_)
  .rintro i σ' H' hi ⟨_,_,_,_,_,_,rfl,sm,_⟩
   exact SqL.of (sm _ _ M.ht)
  .rintro i x σ' H3 hx ⟨rows,W,u10,u12,u13,u14,rfl,sm,h1,hrl,hWl,hrows,hW⟩
   have hi:i<ts.length:=by rw [<- M.th.1];exact (qa1 hx).1
   obtain ⟨t,hti⟩:∃t,ts[i]?=some t:=(ts[i],qa2 hi)
   have htm:=qb2 hti
   obtain ⟨bt,rfl,hbt⟩:=iT (M.th.2 i t x hti hx)
   obtain ⟨tlen,tb⟩:=(M.ta.mem t).mp htm
   refine (zero_le _,λrw hrw=>?_)
   have rwa:wa≠rw:=ne_of_none h1 hrw
   have hrw2:H2 rw=none:=b_k sm hrw
   refine (_,rfl,_,rfl,hz,_,rfl,by rw [a_k];lia,by rw [a_k];lia,?_)
   refine b_G (n:=((tx L).length:Int).toNat) (λk σ' H'=>∃(ws:LN) (s13 s14:Option V),σ'=[some (.ref a),some (.str (tx L)),some (.int num),some (.int (left:Int)),some (.ref rl),some (.ref tl),s6,s7,s8,s9,some (.ref bt),some (.ref wa),some (.ref rw),s13,s14]/\Same H3 H'/\H' rw=some (.lst (intsV ws))/\ws.length=k/\∀x∈ws,x<ts.length) ([],_,_,rfl,Same.upd hrw,upd_same,rfl,λx hx=>by simp at hx) ?_ ?_
   .rintro k σ4 H4 hk ⟨ws,v13,v14,rfl,s34,hr4,hwl,hwb⟩
    have hkS:k<S.length:=by rw [a_k] at hk;lia
    have zk:(0:Int)+(k:Int)=(k:Int):=Int.zero_add _
    have s24:=sm.trans s34
    have hbt4:=s24 _ _ hbt
    have gk:atI (intsV t) (0+(k:Int))=some (.int ((t.getD k 0:Nat):Int)):=by rw [zk];exact a_D (by rw [tlen];exact hkS)
    have hrk:k<rws.length:=by rw [M.rn];exact hkS
    have gr:atI (rws.map V.ref) (0+(k:Int))=some (.ref rws[k]):=by rw [zk];exact a_Z V.ref (qa2 hrk)
    have hrt:=s24 _ _ (M.rr k _ (qa2 hrk))
    have hrl4:=s24 _ _ M.hr
    refine (_,rfl,_,rfl,iqT hbt4 gk (_,_,rfl,rfl,?_))
    refine ⟨λσ5 H5=>∃m:Nat,σ5=[some (.ref a),some (.str (tx L)),some (.int num),some (.int (left:Int)),some (.ref rl),some (.ref tl),s6,s7,s8,s9,some (.ref bt),some (.ref wa),some (.ref rw),some (.int (0+(k:Int))),some (.int (m:Int))]/\H5=H4/\m<S.getD k 0,?_,?_⟩
    .refine (_,rfl,_,rfl,_,rfl,iqL hrl4 gr (_,_,_,_,rfl,rfl,SqT.of hrt,a_R (j:=1) rfl,rfl,_,rfl,aB (λe=>?_) (λe=>?_)))
     .exact (_,rfl,_,rfl,iqL hrl4 gr (_,_,_,_,rfl,rfl,SqT.of hrt,a_R (j:=0) rfl,lows.getD k 0,rfl,rfl,M.lo k hkS))
     .refine (t.getD k 0+1,rfl,rfl,?_)
      have e2:t.getD k 0+1≠S.getD k 0:=λz=>e (by rw [<- z];rfl)
      have:=tb k hkS
      lia
    rintro σ5 H5 ⟨m,rfl,rfl,hm⟩
    have hin:=M.ta.put htm hkS hm
    refine (_,rfl,.inl (rfl,_,SqL.of hr4),_,rfl,.inl (rfl,_,SqL.of (s24 _ _ M.ht)),?_)
    have k1:k≤(intsV t).length:=by rw [intsV_len,tlen];exact le_of_lt hkS
    have k2:k+1≤(intsV t).length:=by rw [intsV_len,tlen];lia
    refine (_,rfl,_,rfl,_,rfl,bt,_,rfl,SqT.of hbt4,?_,λp1 hp1=>?_)
    .rw [zk]
     rintro ⟨_,y⟩
     rw [sIx_nat,intsV_len,tlen] at y
     lia
    rw [zk,f_W k1]
    have s51:=Same.upd (o:=.tup ((intsV t).take k)) hp1
    have e51:L2.upd H5 p1 (.tup ((intsV t).take k)) p1=some (.tup ((intsV t).take k)):=upd_same
    generalize L2.upd H5 p1 (.tup ((intsV t).take k))=H6 at s51 e51
    refine (_,rfl,b1,λp2 hp2=>?_)
    have s52:=Same.upd (o:=.tup [.int (m:Int)]) hp2
    have e52:L2.upd H6 p2 (.tup [.int (m:Int)]) p2=some (.tup [.int (m:Int)]):=upd_same
    generalize L2.upd H6 p2 (.tup [.int (m:Int)])=H7 at s52 e52
    refine (p1,p2,_,_,rfl,rfl,s52 _ _ e51,e52,a_d (by rw [length_take];simp;lia),λp3 H8 s53 e53=>?_)
    have s58:=(s51.trans s52).trans s53
    refine (_,rfl,_,rfl,_,_,rfl,rfl,_,rfl,bt,_,rfl,SqT.of (s58 _ _ hbt4),?_,λp4 hp4=>?_)
    .rw [show (k:Int)+1=((k+1:Nat):Int) from rfl]
     rintro ⟨y,_⟩
     rw [sIx_nat,intsV_len,tlen] at y
     lia
    rw [show (k:Int)+1=((k+1:Nat):Int) from rfl,jB k2]
    have s54:=Same.upd (o:=.tup ((intsV t).drop (k+1))) hp4
    have e54:L2.upd H8 p4 (.tup ((intsV t).drop (k+1))) p4=some (.tup ((intsV t).drop (k+1))):=upd_same
    generalize L2.upd H8 p4 (.tup ((intsV t).drop (k+1)))=H9 at s54 e54
    refine (p3,p4,_,_,rfl,rfl,s54 _ _ e53,e54,a_d (by rw [qa5,length_take,length_drop];simp;rw [intsV_len] at *;lia),λp5 H10 s55 e55=>?_)
    have s510:=(s58.trans s54).trans s55
    have ex:(intsV t).take k++[V.int (m:Int)]++(intsV t).drop (k+1)=intsV (t.take k++[m]++t.drop (k+1)):=by
     unfold intsV
     rw [map_append,map_append,List.map_take,List.map_drop]
     rfl
    rw [ex] at e55
    have s2A:=s24.trans s510
    refine (tl,p5,vs,ts,_,rfl,rfl,s2A _ _ M.ht,M.th.same (λb xs e=>s2A _ _ e),λk' hk'=>?_,e55,hin,?_)
    .rw [((M.ta.mem k').mp hk').1,((M.ta.mem _).mp hin).1]
    have hr10:=s510 _ _ hr4
    have il:ts.idxOf (t.take k++[m]++t.drop (k+1))<ts.length:=idxOf_lt_length_of_mem hin
    refine (rw,_,_,rfl,rfl,hr10,by rw [intsV_len];exact a_K (by lia),ws++[ts.idxOf (t.take k++[m]++t.drop (k+1))],_,_,rfl,Same.set (s34.trans s510) hrw,by rw [upd_same,<- a_J],by rw [qa5,hwl];rfl,λx hx=>?_)
    rcases mem_append.mp hx with z|z
    .exact hwb x z
    .rw [qb1 z];exact il
   .rintro σ4 H4 ⟨ws,v13,v14,rfl,s34,hr4,hwl,hwb⟩
    have hwl':ws.length=L.length:=by rw [hwl,a_k];lia
    have a1:=s34 _ _ h1
    refine (_,rfl,.inl (rfl,_,SqL.of a1),_,rfl,rw,_,rfl,.inl (SqL.of hr4,λtp htp=>?_))
    exact (wa,_,_,rfl,rfl,a_g a1 htp,by rw [qa4];exact a_K (by lia),rows++[tp],W++[ws],_,_,_,_,rfl,rows_more hwa sm h1 hrl hWl hrows hW s34 hwl' hwb htp)
  .rintro σ3 H3 ⟨rows,W,u10,u12,u13,u14,rfl,sm,h1,hrl,hWl,hrows,hW⟩
   rw [M.th.1] at hrl hWl
   have ne:=M.ne
   refine (_,rfl,_,rfl,wa,_,rfl,.inl (SqL.of h1,λtw htw=>?_))
   have s2:=Same.upd (o:=.tup (rows.map V.ref)) htw
   have e2:L2.upd H3 tw (.tup (rows.map V.ref)) tw=some (.tup (rows.map V.ref)):=upd_same
   generalize L2.upd H3 tw (.tup (rows.map V.ref))=H4 at s2 e2
   have sA:=(M.sm.trans sm).trans s2
   refine (_,rfl,_,rfl,wa,_,rfl,.inl (SqL.of (s2 _ _ h1)),a,ns,_,rfl,sA.seq hS,by rw [qa4];lia,λmk B H5 s5 hmk hB=>(b3,λm hm=>?_))
   rw [qa4] at hB
   have up:=s5.trans (Same.upd (o:=.tup [.str (tx L),.ref tw,.ref mk]) hm)
   exact q m W B _ (sA.trans up) (tw,mk,rows,upd_same,up _ _ e2,a_g hmk hm,by lia,hrows.same (s2.trans up)) (hL,by lia,by lia,by lia,λws hws=>((hW ws hws).1,λx hx=>by rw [hWl];exact (hW ws hws).2 x hx)) (by lia)
theorem g_V:a_e [Q4,Q3,"_law_kind"] [Q4,Q3,"_law_kind"] (a_c d_j):=fsc
theorem h_n (F:Fun K "_law_built" "_law_built" d_j f fd) (T:Txt K mg) (y8:Df P w K mg base "_law_cell_at" 1 [Q4,Z1] (d_b K)) (yt:Df P w K mg base "_law_machine" 2 [Q4,"_law_at",Z0,Q3] (e_t K)) (yG:Df P w K mg base "_law_forward" 3 [Q4,Q3,"_law_strict"] (dJ K)) (v3:Df P w K mg base "_law_memory" 3 [Q4,Q3] (d_F K)) (yM:Df P w K mg base "_law_lots" 3 [Q4,Q3] (d_F K)) (v4:Df P w K mg base "_law_tallied" 3 [Q4,Q3] (d_F K)):aa P w K mg base CX0 4 f fd [Q4,Q3,"_law_kind"] (dL K):=by
 refine F.okA g_V ?_
 rintro _ _ _ s H _ Q E hr ⟨a,ns,L,k,rfl,hS,hL,q⟩
 have hr1:=hr.mono (j:=1) (by decide)
 have hr2:=hr.mono (j:=2) (by decide)
 refine (_,(a_a ((a_N (cqE (pv 2) pe_int) ((a_b (a_f (a_l yt hr2 (c_B (pv 0) (pq3 (pe_int) (a_j op_a pe_int (a_j op_m (a_l y8 hr1 (pq2 (pv 0) (pe_int))) pe_int)) (pv 1))))))) (a_m))) (a_a ((a_N (a_B op_lt (pv 2) pe_int (a_S _)) ((a_b (a_f (a_l yG hr (pq3 (pv 0) (pv 1) (c_A g_k (pv 2) pe_int (a_S _))))))) (a_m))) (a_a ((a_N (cqE (pv 2) pe_int) ((a_b (a_f (a_l v3 hr (pq2 (pv 0) (pv 1)))))) (a_m))) (a_a ((a_N (cqE (pv 2) pe_int) ((a_b (a_f (a_l yM hr (pq2 (pv 0) (pv 1)))))) (a_m))) (a_b (a_f (a_l v4 hr (pq2 (pv 0) (pv 1))))))))),?_)
 have mk:d_F K [.ref a,.str (tx L)] H Q E:=(a,ns,L,rfl,hS,hL,q)
 refine (_,rfl,rfl,_,rfl,aB (λ_=>?_) (λ_=>(_,rfl,_,_,rfl,rfl,_,rfl,aB (λ_=>?_) (λ_=>(_,rfl,rfl,_,rfl,aB (λ_=>(_,rfl,_,rfl,mk)) (λ_=>(_,rfl,rfl,_,rfl,aB (λ_=>(_,rfl,_,rfl,mk)) (λ_=>(_,rfl,_,rfl,mk)))))))))
 .refine (_,rfl,_,rfl,a,ns,3,rfl,hS,by decide,λz0=>(_,_,rfl,rfl,by decide,_,_,rfl,rfl,_,rfl,?_))
  obtain ⟨n,en,n1,n2⟩:=h_F z0 1 8 (by decide)
  have en':(1:Int)+z0 % 8=(n:Int):=en.symm
  rw [en']
  exact (a,ns,4,n,L,rfl,hS,by decide,n1,by lia,hL,λm W B H' s hM hMa hW=>q m W B H' s hM hMa (by lia))
 .exact (_,rfl,_,rfl,_,rfl,rfl,a,ns,L,_,rfl,hS,hL,q)
theorem c_L:a_e [Q0,Z2,Q5,"_law_sign"] [Q0,Z2,Q5] (a_c d_k):=fsc
theorem h_o (F:Fun K "_law_after" "_law_after" d_k f fd) (T:Txt K mg):aa P w K mg base CX0 1 f fd [Q0,Z2,Q5] sp_after:=by
 refine F.okA c_L ?_
 rintro _ _ _ _ H _ _ _ _ ⟨m,L,W,B,r,w,rfl,hM,hMa,hr0,hw,q⟩
 obtain ⟨wy,mk,rows,h1,h2,h3,h4,h5⟩:=hM
 refine (_,(a_a ((a_F PassesOwn.never rfl (d_A (pv 2)) (pgN 3 c_L.nd) ((a_b ((stS 1 c_L.nd (xqT (xqT (xqV 0) (pv 1)) (c_Z plainAttrs_str PySem.F.slot_str_find PySem.F.type_str_find mO (xqV 0) (pq1 (pv 3)))))))))) (a_b (a_f (pv 1)))),?_)
 refine (_,rfl,_,rfl,d_W (x:=tx w) (λi σ H'=>∃s0,σ=[some (.ref m),some (.int (run L W r (w.take i):Nat)),some (.str (tx w)),s0]/\H'=H) (none,rfl,rfl) ?_ ?_)
 .rintro i c σ H1 hc ⟨s0,rfl,rfl⟩
  rw [tx_get] at hc
  have hcL:c∈L:=hw c (qb2 hc)
  have hlt:=a_M hMa (w:=w.take i) hr0 λd hd=>hw d (List.mem_of_mem_take hd)
  obtain ⟨ws,x,e1,e2,e3,e4⟩:=hMa.at hlt hcL
  obtain ⟨rr,hrr⟩:∃rr,rows[run L W r (w.take i)]?=some rr:=(rows[run L W r (w.take i)]'(by lia),by simp [h4,hlt])
  obtain ⟨ws',e5,e6⟩:=h5 _ _ hrr
  rw [e1] at e5
  cases e5
  refine (ivT h1 aq (_,rfl,iqT h2 (a_Z V.ref hrr) (ivT h1 al (rfl,_,rfl,_,_,rfl,rfl,?_))))
  rw [eS hcL]
  refine (iqT e6 (a_Z _ e2) ?_)
  refine (some (.str ⟨#[c]⟩),?_,rfl)
  show [some (V.ref m),some (V.int ((x:Nat):Int)),some (V.str (tx w)),some _]=_
  rw [take_add_one,hc]
  show _=[some (V.ref m),some (V.int ((run L W r (w.take i++[c]):Nat):Int)),some (V.str (tx w)),some (V.str ⟨#[c]⟩)]
  rw [c_Q,e3]
 .rintro σ H1 ⟨s0,rfl,rfl⟩
  rw [a_k,take_length]
  exact (_,rfl,q)
theorem f_j:a_e [Q6,Q3] [Q6,Q3] (a_c c_w):=fsc
theorem f_E (F:Fun K "_law_is_word" "_law_is_word" c_w f fd) (T:Txt K mg):aa P w K mg base CX0 1 f fd [Q6,Q3] sp_isword:=by
 refine F.okA f_j ?_
 rintro _ _ _ _ _ _ _ _ _ ⟨L,w,rfl,hw,hl,q⟩
 refine (_,(a_b (a_f (d_Z (b_q (c_X (T:="str") (b:=true)) (by rfl) T.isinst boot_isinstance (pq2 (pv 0) (h_f (v:=.ty "str") (by rfl) T.str boot_str rfl)))
  (e_O (c_A g_k (lqQ T.len (a_u [Q6,Q3] rfl (by decide) (d_A (pv 0)) (λcl C fp s' H'=>(h7 (a_B e_P (pv 0) (pv 2) (by with_unfolding_all rfl)),pv 0)))) pe_int (a_S _)))))),?_)
 refine (_,rfl,_,_,rfl,ae.str _,by with_unfolding_all rfl,_,rfl,aj ?_)
 dsimp only [tOp,tCB,a_O]
 refine eZ (x:=tx w) (λc=>!decide (c∈L)) (by rfl) (a_d (by rw [a_k];exact le_trans hl (by decide))) (λi c H' R hc hR=>?_) (λD hD=>?_)
 .refine (_,rfl,_,rfl,_,_,rfl,rfl,_,rfl,?_)
  have e:=d_o L c
  unfold Txt.contains at e
  rw [e]
  exact hR
 .refine (D,_,rfl,.inl (SqL.of upd_same),rfl,?_)
  have e:((tx w).cps.toList.filter λc=>!decide (c∈L))=[]:=by
   rw [a_P,List.filter_eq_nil_iff]
   intro c hc
   simp [hw c hc]
  have hb:decide (V.int (((((tx w).cps.toList.filter λc=>!decide (c∈L)).map λc=>V.str ⟨#[c]⟩).length:Nat):Int)=V.int 0)=true:=by
   rw [e]
   rfl
  rw [hb]
  exact q _ (Same.upd hD)
theorem dO:a_e ["value"] ["value"] (a_c e_A):=fsc
theorem ok_is_whole (F:Fun K "is_whole" "is_whole" e_A f fd) (T:Txt K mg):aa P w K mg base CX0 1 f fd ["value"] sp_is_whole:=by
 refine F.okA dO ?_
 rintro _ _ _ _ _ _ _ _ _ ⟨i,rfl,q⟩
 refine (_,(a_b (a_f (d_Z (b_q (c_X (T:="int") (b:=true)) (by rfl) T.isinst boot_isinstance (pq2 (pv 0) (h_f (v:=.ty "int") (by rfl) T.int boot_int rfl)))
  (e_O (fT (b_q (c_X (T:="bool") (b:=false)) (by rfl) T.isinst boot_isinstance (pq2 (pv 0) (h_f (v:=.ty "bool") (by rfl) T.bool boot_bool rfl)))))))),?_)
 exact (_,rfl,_,_,rfl,ae.int _,gq K,_,rfl,aj (_,rfl,_,_,rfl,ae.int _,gt K,_,rfl,q))
theorem fO:a_e ["number","many"] ["number","many"] (a_c f_q):=fsc
theorem ok_is_room (F:Fun K "is_room" "is_room" f_q f fd) (T:Txt K mg) (yB:Df P w K mg base "is_whole" 1 ["value"] sp_is_whole):aa P w K mg base CX0 2 f fd ["number","many"] sp_isroom:=by
 refine F.okA fO ?_
 rintro _ _ _ _ H _ Q _ hr ⟨i,n,rfl,h0,h1,q⟩
 refine (_,(a_b (a_f (d_Z (a_l yB hr (pq1 (pv 0))) (e_O (kx nv op_lt pe_int (pv 0) (pv 1)))))),?_)
 refine (_,rfl,i,rfl,_,rfl,aj (_,rfl,_,_,rfl,rfl,_,rfl,mS h0 (_,rfl,_,_,rfl,rfl,?_)))
 show Q (.bl (decide (i<n))) H
 rw [decide_eq_true h1]
 exact q
theorem cB:a_e [Q7,"number"] [Q7,"number"] (a_c d_K):=fsc
theorem ok_need_room (F:Fun K "need_room" "need_room" d_K f fd) (T:Txt K mg) (yR:Df P w K mg base "is_room" 2 ["number","many"] sp_isroom):aa P w K mg base CX0 3 f fd [Q7,"number"] sp_needroom:=by
 refine F.okA cB ?_
 rintro _ _ _ _ _ _ _ _ hr ⟨m,L,W,B,r,rfl,hM,hMa,hr0,q⟩
 obtain ⟨wy,mk,rows,h1,h2,h3,h4,h5⟩:=hM
 refine (_,(a_b ((a_N (c_H (b_r (a_l yR hr (pq2 (pv 1) ((lqQ T.len (xqV 0))))))) ((a_b (h_c))) (a_m)))),?_)
 exact (_,rfl,ivT h1 aq (wy,_,rfl,.inr (SqT.of h2),(r:Int),_,rfl,by lia,by rw [qa4];lia,_,rfl,af q))
theorem e_L:a_e [Q8,Z7,"sign"] [Q8,Z7] (a_c d_J):=fsc
theorem ok_need_word (F:Fun K "need_word" "need_word" d_J f fd) (T:Txt K mg):aa P w K mg base CX0 1 f fd [Q8,Z7] sp_needword:=by
 refine F.okA e_L ?_
 rintro _ _ _ _ H _ _ _ _ ⟨L,w,rfl,hw,q⟩
 refine (_,(a_b ((a_F PassesOwn.never rfl (d_A (pv 1)) (pgN 2 e_L.nd) ((a_b ((a_N (a_B e_P (pv 2) (pv 0) (by with_unfolding_all rfl)) ((a_b (h_c))) (a_m)))))))),?_)
 refine (_,rfl,_,rfl,d_W (x:=tx w) (λi σ H'=>∃s0,σ=[some (.str (tx L)),some (.str (tx w)),s0]/\H'=H) (none,rfl,rfl) ?_ ?_)
 .rintro i c σ H1 hc ⟨s0,rfl,rfl⟩
  rw [tx_get] at hc
  have hcL:c∈L:=hw c (qb2 hc)
  refine (_,rfl,_,rfl,_,_,rfl,rfl,_,rfl,?_)
  have e:=d_o L c
  unfold Txt.contains at e
  rw [e,decide_eq_true hcL]
  exact af (_,rfl,rfl)
 .rintro σ H1 ⟨s0,rfl,rfl⟩
  exact q
theorem b_o:a_e [Q7,"room",Z7,Q8,Z8,"here","sign"] [Q7,"room",Z7] (a_c d_e):=fsc
theorem h_i (F:Fun K "room_after" "room_after" d_e f fd) (T:Txt K mg) (yq:Df P w K mg base "need_room" 3 [Q7,"number"] sp_needroom) (yQ:Df P w K mg base "need_word" 1 [Q8,Z7] sp_needword):aa P w K mg base CX0 4 f fd [Q7,"room",Z7] sp_roomafter:=by
 refine F.okA b_o ?_
 rintro _ _ _ _ H _ _ _ hr ⟨m,L,W,B,r,w,rfl,hM,hMa,hr0,hw,q⟩
 have hM0:=hM
 obtain ⟨wy,mk,rows,h1,h2,h3,h4,h5⟩:=hM0
 have hr1:=hr.mono (j:=1) (by decide)
 refine (_,(a_a ((stS 3 b_o.nd (xqV 0))) (a_a ((stS 4 b_o.nd (xqV 0))) (a_a (a_y (a_l yq hr (pq2 (pv 0) (pv 1)))) (a_a (a_y (a_l yQ hr1 (pq2 (pv 3) (pv 2)))) (a_a ((stS 5 b_o.nd (pv 1))) (a_a ((a_F PassesOwn.never rfl (d_A (pv 2)) (pgN 6 b_o.nd) ((a_b ((stS 5 b_o.nd (xqT (xqT (pv 4) (pv 5)) (c_Z plainAttrs_str PySem.F.slot_str_index PySem.F.type_str_index kN (pv 3) (pq1 (pv 6)))))))))) (a_b (a_f (pv 5))))))))),?_)
 refine (ivT h1 al (ivT h1 aq ?_))
 refine (_,rfl,_,rfl,m,L,W,B,r,rfl,hM,hMa,hr0,?_)
 refine (_,rfl,_,rfl,L,w,rfl,hw,_,rfl,?_)
 refine (_,rfl,_,rfl,d_W (x:=tx w) (λi σ H'=>∃s0,σ=[some (.ref m),some (.int (r:Int)),some (.str (tx w)),some (.str (tx L)),some (.ref wy),some (.int (run L W r (w.take i):Nat)),s0]/\H'=H) (none,rfl,rfl) ?_ ?_)
 .rintro i c σ H1 hc ⟨s0,rfl,rfl⟩
  rw [tx_get] at hc
  have hcL:c∈L:=hw c (qb2 hc)
  have hlt:=a_M hMa (w:=w.take i) hr0 λd hd=>hw d (List.mem_of_mem_take hd)
  obtain ⟨ws,x,e1,e2,e3,e4⟩:=hMa.at hlt hcL
  obtain ⟨rr,hrr⟩:∃rr,rows[run L W r (w.take i)]?=some rr:=(rows[run L W r (w.take i)]'(by lia),by simp [h4,hlt])
  obtain ⟨ws',e5,e6⟩:=h5 _ _ hrr
  rw [e1] at e5
  cases e5
  refine (_,rfl,_,rfl,iqT h2 (a_Z V.ref hrr) (_,rfl,rfl,_,rfl,_,_,rfl,rfl,by rw [d_o];exact decide_eq_true hcL,?_))
  rw [eS hcL]
  refine (iqT e6 (a_Z _ e2) ?_)
  refine (some (.str ⟨#[c]⟩),?_,rfl)
  show [some (V.ref m),some (V.int (r:Int)),some (V.str (tx w)),some (V.str (tx L)),some (V.ref wy),some (V.int ((x:Nat):Int)),some _]=_
  rw [take_add_one,hc]
  show _=[some (V.ref m),some (V.int (r:Int)),some (V.str (tx w)),some (V.str (tx L)),some (V.ref wy),some (V.int ((run L W r (w.take i++[c]):Nat):Int)),some (V.str ⟨#[c]⟩)]
  rw [c_Q,e3]
 .rintro σ H1 ⟨s0,rfl,rfl⟩
  rw [a_k,take_length]
  exact (_,rfl,q)
theorem dN:a_e [Q7,Z7,"marks"] [Q7,Z7] (a_c cF):=fsc
theorem ok_takes (F:Fun K "takes" "takes" cF f fd) (T:Txt K mg) (y9:Df P w K mg base "room_after" 4 [Q7,"room",Z7] sp_roomafter):aa P w K mg base CX0 5 f fd [Q7,Z7] sp_takes:=by
 refine F.okA dN ?_
 rintro _ _ _ _ _ _ _ _ hr ⟨m,L,W,B,w,rfl,hM,hMa,hw,q⟩
 have hM':=hM
 obtain ⟨wy,mk,rows,h1,h2,h3,h4,h5⟩:=hM'
 have hn1:=hMa.n1
 refine (_,(a_a ((stS 2 dN.nd (xqV 0))) (a_b (a_f (xqT (pv 2) (a_l y9 hr (pq3 (pv 0) (pe_int) (pv 1))))))),?_)
 refine (ivT h1 aC (_,rfl,_,rfl,_,rfl,m,L,W,B,0,w,rfl,hM,hMa,by lia,hw,?_))
 have hlt:=a_M hMa (w:=w) (r:=0) (by lia) hw
 have hbl:=hMa.bl
 have hB:B[run L W 0 w]?=some (B.getD (run L W 0 w) false):=by
  rw [qa3,qa2 (by lia)]
  rfl
 exact (iqT h3 (a_Z V.bl hB) q)
theorem d_G:a_e ["values","numbers","value"] ["values"] (a_c e_z):=fsc
theorem ok_numbered (F:Fun K "numbered" "numbered" e_z f fd) (T:Txt K mg):aa P w K mg base CX0 1 f fd ["values"] sp_numbered:=by
 refine F.okA d_G ?_
 rintro _ _ _ _ H _ _ _ hr ⟨a,o,xs,ks,nest,rfl,ho,hH,hl,h1000,hk,q⟩
 refine (_,(a_a ((stS 1 d_G.nd (mD))) (a_a ((a_F PassesOwn.never rfl (c_c (pv 0)) (pgN 2 d_G.nd) ((a_b ((a_N (a_B (i8 hr.units) (pv 2) (pv 1) (by with_unfolding_all rfl)) ((a_b (ps_asg (b_q call_lenD (by rfl) T.len boot_len (pq1 (pv 1))) (pg_sub (pv 1) (pv 2) (set_dictG hr.units))))) (a_m))))))) (a_b (a_f (a_u ["values","numbers","?"] rfl (by decide) (c_c (pv 0)) (λcl C fp s' H'=>(a_q,pe_ix (jr P w hr.units) (pv 2) (pv 0) (λ_ _=>rfl)))))))),?_)
 have hz:xs.length≤sizeLine:=a_d (by rw [hl];exact le_trans h1000 (by decide))
 have keyOf:∀{i:Nat} {x:V},xs[i]?=some x->∃k,ks[i]?=some k/\fq H k x/\isN k=nest:=λ{i x} hx=>by
  have hi:i<ks.length:=by rw [<- hl];exact (qa1 hx).1
  exact (ks[i],qa2 hi,hk i _ x (qa2 hi) hx)
 refine (if nest=true then .nest else .bl,λd hd=>?_)
 refine (_,rfl,a,o,xs,rfl,ho,a_g hH hd,λJ ov=>eO ov (λi σ' H'=>∃v0 ob,σ'=[some (.ref a),some (.ref d),v0]/\H'=L2.upd H d ob/\NumAt P w H' d nest (ks.take i)) (none,_,rfl,rfl,NumAt.new P w H d nest) ?_ ?_ ?_)
 .rintro i σ' H' ⟨v0,ob,rfl,rfl,_⟩
  exact a_g hH hd
 .rintro i x σ' H' hx ⟨v0,ob,rfl,rfl,hn⟩
  obtain ⟨k,hki,hkv,hkn⟩:=keyOf hx
  have hkv':fq (L2.upd H d ob) k x:=hkv.stay λb ys z=>a_g z hd
  refine (_,rfl,_,rfl,d,_,rfl,hn.get hkv' hkn,_,rfl,?_)
  by_cases hm:k∈dis (ks.take i)
  .rw [show (!(cQ (ks.take i) k).isSome)=false by rw [cQ,if_pos hm];rfl]
   refine af (_,_,rfl,rfl,?_)
   rw [a_p hki]
   exact hn.same hm
  .rw [show (!(cQ (ks.take i) k).isSome)=true by rw [cQ,if_neg hm];rfl]
   have hdl:(dis (ks.take i)).length<sizeLine:=by
    have h1:=iD (ks.take i)
    have h2:(ks.take i).length≤1000:=by rw [length_take];exact le_trans (Nat.min_le_right _ _) h1000
    exact a_K (le_trans h1 h2)
   obtain ⟨ob2,hput,hn2⟩:=hn.put hkv' hkn hm hdl
   refine aj (_,rfl,d,_,rfl,hn.len,_,rfl,_,rfl,d,_,rfl,hput,?_)
   refine (some x,ob2,rfl,d_D,?_)
   rw [a_p hki]
   exact hn2
 .rintro σ' H' ⟨v0,ob,rfl,rfl,hn⟩
  rw [hl,take_length] at hn
  have hH1:L2.upd H d ob a=some o:=a_g hH hd
  have sm1:Same H (L2.upd H d ob):=Same.upd hd
  refine (_,rfl,a,o,xs,rfl,ho,hH1,λJ ov=>b7 ov hH1 (λD j ys H'=>ys=(intsV (ao ks)).take j) hz (λD hD=>by simp) ?_ ?_)
  .intro D j x ys H' R1 R2 hD hx hsm hDl hp k1 k2
   obtain ⟨k,hki,hkv,hkn⟩:=keyOf hx
   have hm:k∈dis ks:=mem_dis.mpr (qb2 hki)
   have hg:=(hn.mono hsm).get (hkv.stay λb ys z=>(sm1.trans hsm) _ _ z) hkn
   rw [show cQ ks k=some _ from if_pos hm] at hg
   refine tAlways_if (_,rfl,_,rfl,d,_,rfl,hg,k1 _ H' hDl (Same.set hsm hD) ?_)
   rw [hp]
   refine (a_p ?_).symm
   rw [intsV,ao,map_map,qa6,hki]
   rfl
  .intro D ys H' hD hsm hDl hp
   refine q D H' (sm1.trans hsm) ?_
   rw [hDl,hp,hl,take_of_length_le (by rw [intsV_len,e_d];exact le_refl _)]
theorem cD:a_e [Z9] [Z9] (a_c d_M):=fsc
theorem ok_many_lots (F:Fun K "many_lots" "many_lots" d_M f fd) (T:Txt K mg):aa P w K mg base CX0 1 f fd [Z9] sp_manyM:=by
 refine F.okA cD ?_
 rintro _ _ _ _ _ _ _ _ _ ⟨a,ns,rfl,hH,hn,q⟩
 refine (_,(a_b (a_f (a_j op_a (b_q (jF rfl) (by rfl) T.max PyProof.Rows.boot_max (pq1 (pv 0))) pe_int))),?_)
 refine (_,rfl,a,zs ns,rfl,by rw [hH,e_i],by rw [fu];exact hn,λM hM hmx=>(_,_,rfl,rfl,?_))
 obtain ⟨m,hm,rfl⟩:=mem_map.mp hM
 exact q m hm λx hx=>Int.ofNat_le.mp (hmx _ (mem_map.mpr (x,hx,rfl)))
theorem c_p:a_e [Z8,"marks","most","rounds",Z9,"finer"] [Z8,"marks","most"] (a_c d_I):=fsc
theorem ok_rounds_of (F:Fun K "rounds_of" "rounds_of" d_I f fd) (T:Txt K mg) (ya:Df P w K mg base "numbered" 1 ["values"] sp_numbered) (yu:Df P w K mg base "many_lots" 1 [Z9] sp_manyM):aa P w K mg base CX0 2 f fd [Z8,"marks","most"] sp_roundsQ:=by
 refine F.okA c_p ?_
 rintro _ _ _ _ H _ _ _ hr ⟨wy,mk,rows,o,om,L,W,B,rfl,ho,hwy,hom,hmk,hrl,hrows,hMa,q⟩
 refine (_,(a_a ((stS 3 c_p.nd (a_G (pq1 (a_l ya hr (pq1 (pv 1))))))) (a_a (c_T PassesOwn.never (a_B nv (a_l yu hr (pq1 (xqL (pv 3) (aH e_K pe_int)))) (pv 2) (a_S _)) (a_a ((stS 4 c_p.nd (xqL (pv 3) (aH e_K pe_int)))) (a_a ((stS 5 c_p.nd ((a_l ya hr (pq1 (ku [Z8,"marks","most","rounds",Z9,"finer"] rfl (by decide) (kq rfl T.enumerate (pq1 (pv 0))) (λcl C fp s' H'=>a_W (pq2 (pe_ix (b_b K) (pv 6) (pv 0) (λ_ _=>rfl)) (a_x (g_b K) (by rfl) T.tuple boot_tuple (pq1 (a_u ["room","row",Z8,"marks","most","rounds",Z9,"finer"] rfl (show List.Nodup (["goal","room","row",Z8,"marks","most","rounds",Z9,"finer"]:List Str) by decide) (c_c (pv 1)) (λcl C fp s' H'=>(a_q,pe_ix (b_b K) (pv 7) (pv 0) (λ_ _=>rfl)))))))))))))) (a_a ((a_N (a_B (oq hr.units0) (pv 5) (pv 4) (a_S _)) ((a_b (dX))) (a_m))) (a_b (a_y (apQ (pv 3) (pv 5)))))))) (a_b (a_f (pv 3))))),?_)
 have hn60:=hMa.n60
 have hn1:=hMa.n1
 refine (_,rfl,mk,_,B.map V.bl,B.map (λb=>(KS.inl b:KS)),false,rfl,hom,hmk,by rw [qa4,qa4],by rw [qa4,hMa.bl];exact le_trans hn60 (by decide),?_,λp0 H1 s1 hp0=>(a_d (by show 1≤16777216;decide),λp hp=>?_))
 .intro i k x hk hx
  rw [qa6] at hk hx
  cases hb:B[i]? with
  | none=>rw [hb] at hk;cases hk
  | some b=>rw [hb] at hk hx;cases hk;cases hx;exact (rfl,rfl)
 rw [kJ] at hp0
 have hpH:H p=none:=b_k s1 hp
 refine (RInv H wy mk p W B,(_,0,[p0],none,none,rfl,rfl,s1.trans (Same.upd hp),upd_same,rfl,?_,λi hi=>absurd hi (not_lt_zero _)),?_)
 .intro i r e
  match i,e with
  | 0,e=>cases e;exact a_g hp0 hp
  | n+1,e=>simp at e
 rintro m σ' H' ⟨k,lots,s4,s5,rfl,rfl,sm,hpl,hll,hlots,hne⟩
 have hk:=g_H hMa hne
 obtain ⟨la,hla⟩:∃la,lots[k]?=some la:=(lots[k]'(by rw [hll];exact lt_succ_self k),qa2 _)
 have hla1:=hlots k la hla
 have hat:=g_c hll hla
 have hlen:=c_J hMa k
 refine (_,rfl,_,rfl,iqL hpl hat (la,Rd W B k,rfl,hla1,by rw [hlen];exact hn1,λM hM _=>(_,rfl,_,_,rfl,rfl,_,rfl,?_)))
 have hM2:=fk hMa hM
 refine mS (show ((M:Int)+1)≤((W.length:Nat):Int) from Int.ofNat_le.mpr hM2) ?_
 refine (λσ2 H2=>Rd W B (k+1)≠Rd W B k/\RInv H wy mk p W B (dD W.length (Rd W B (k+1))) σ2 H2,λσ2 H2 h=>(_,dC hMa h.1,h.2),?_)
 refine (_,rfl,_,rfl,iqL hpl hat ?_)
 dsimp only [b_y]
 dsimp only [tNext,av,au,b_J,a_O,tBM,tCB]
 refine ff (c:=wy) (λR h=>(_,rfl,h)) ho (sm _ _ hwy) (λD i ys H2=>∃ps:List Addr,ys=ps.map V.ref/\ps.length=i/\∀(j:Nat) (t:Addr),ps[j]?=some t->NIn H2 (bO W (Rd W B k) j) t) (by rw [qa4,hrl];exact a_d (le_trans hn60 (by decide))) (λD hD=>([],rfl,rfl,λj t e=>by simp at e)) ?_ ?_
 .intro D i x ys H2 H3 R1 hD hx hsm hDl hp hsm3 k1
  obtain ⟨ps,rfl,hpsl,hps⟩:=hp
  rw [qa6] at hx
  obtain ⟨rr,hrr,rfl⟩:=qb3 hx
  have hi:i<W.length:=by rw [<- hrl];exact (qa1 hrr).1
  obtain ⟨ws,hws,orw,horw,hrow⟩:=hrows i rr hrr
  have s3:Same H H3:=(sm.trans hsm).trans hsm3
  have hrow3:=s3 _ _ hrow
  have hla3:H3 la=some (.lst (intsV (Rd W B k))):=hsm3 _ _ (hsm _ _ hla1)
  have ew:W.getD i []=ws:=by rw [qa3,hws];rfl
  obtain ⟨hwl,hwb⟩:=hMa.row ws (qb2 hws)
  have hL3:=hMa.lt.hi
  refine (_,rfl,_,rfl,iqL hla3 (a_D (by rw [hlen];exact hi)) ?_)
  dsimp only [tNext,av,au,b_J,a_O,tBM,tCB]
  refine c_C (a:=rr) (λR h=>(_,rfl,h)) horw hrow3 (λD2 j zs2 H4=>zs2=(intsV (ws.map λg=>(Rd W B k).getD g 0)).take j) (by rw [intsV_len,hwl];exact a_d (le_trans hL3 (by decide))) (λD2 hD2=>by simp) ?_ ?_
  .intro D2 j y zs2 H4 R3 R4 hD2 hy hsm4 hD2l hp2 k3 k4
   have hj:j<ws.length:=by have:=(qa1 hy).1;rwa [intsV_len] at this
   rw [b_m hj] at hy
   cases hy
   refine tAlways_if (_,rfl,_,rfl,iqL (hsm4 _ _ hla3) (a_D (by rw [hlen];exact hwb _ (da hj))) (k3 _ H4 hD2l (Same.set hsm4 hD2) ?_))
   rw [hp2]
   refine (a_p ?_).symm
   rw [b_m (by rw [qa4];exact hj),eF hj]
  .intro D2 zs2 H4 hD2 hsm4 hD2l hp2
   rw [intsV_len,take_of_length_le (by rw [intsV_len,qa4];exact le_refl _)] at hp2
   subst hp2
   refine (D2,_,rfl,.inl (SqL.of hD2l,λb hb=>(a_d (by show 2≤16777216;decide),λt ht=>?_)))
   have s5:=hsm4.trans ((Same.upd (o:=.tup (intsV (ws.map λg=>(Rd W B k).getD g 0))) hb).trans (Same.upd (o:=.tup [.int (((Rd W B k).getD i 0:Nat):Int),.ref b]) ht))
   have hD5:=s5 _ _ (hsm3 _ _ hDl)
   refine k1 (.ref t) _ hD5 (Same.set (hsm.trans (hsm3.trans s5)) hD) (ps++[t],by rw [map_append];rfl,by rw [qa5,hpsl];rfl,λj u e=>?_)
   by_cases hj:j<ps.length
   .rw [getElem?_append_left hj] at e
    exact nin_stay (λc cs z=>upd_keep2 ((hsm3.trans s5) _ _ z) hD5 (by intro z;cases z)) (hps j u e)
   .rw [getElem?_append_right (le_of_not_lt hj)] at e
    have hj0:j=i:=(nG hj (qa1 e).1).trans hpsl
    subst hj0
    rw [hpsl,sub_self] at e
    have et:t=u:=by simpa using e
    subst et
    have ek:(zs (bO W (Rd W B k) j).2).map V.int=intsV (ws.map λg=>(Rd W B k).getD g 0):=by
     rw [<- e_i]
     show intsV ((W.getD j []).map _)=_
     rw [ew]
    refine (b,upd_keep2 upd_same hD5 (by intro z;cases z),?_)
    rw [ek]
    exact upd_keep2 (a_g upd_same ht) hD5 (by intro z;cases z)
 intro D ys H2 hD hsm hDl hp
 obtain ⟨ps,rfl,hpsl,hps⟩:=hp
 refine (D,_,ps.map V.ref,(d_B W (Rd W B k)).map (λx=>(KS.inr x:KS)),true,rfl,.inl rfl,hDl,by rw [qa4,qa4,a_H,hpsl,qa4,hrl],by rw [qa4,a_H];exact le_trans hn60 (by decide),?_,λfa H4 s4' hfa=>?_)
 .intro i kk x hk hx
  rw [qa6] at hk hx
  obtain ⟨nk,e1,rfl⟩:=qb3 hk
  obtain ⟨t,e2,rfl⟩:=qb3 hx
  have hi:i<W.length:=by have:=(qa1 e1).1;rwa [a_H] at this
  rw [e_I hi] at e1
  cases e1
  exact ((t,rfl,hps i t e2),rfl)
 rw [kI] at hfa
 have hfa':H4 fa=some (.lst (intsV (Rd W B (k+1)))):=hfa
 have sm4:Same H H4:=sm.trans (hsm.trans s4')
 have la4:=(hsm.trans s4') _ _ hla1
 have p4:=(hsm.trans s4') _ _ hpl
 have lots4:=hlots.same (hsm.trans s4')
 refine (_,rfl,_,rfl,fa,la,zs (Rd W B (k+1)),zs (Rd W B k),rfl,rfl,by rw [hfa',e_i],by rw [la4,e_i],by rw [fu,fu,c_J hMa,c_J hMa],_,rfl,aB (λhe=>?_) (λhe=>?_))
 .exact (_,rfl,q p lots k H4 sm4 p4 hll lots4 (aL he) hk)
 have he':Rd W B (k+1)≠Rd W B k:=λz=>he (by rw [z])
 have hl0:lots≠[]:=by
  intro z
  rw [z] at hll
  simp at hll
 refine (_,rfl,.inl (rfl,_,SqL.of p4),_,rfl,p,_,_,rfl,rfl,p4,?_,he',k+1,lots++[fa],_,_,rfl,rfl,Same.set sm4 hpH,?_,?_,?_,?_)
 .rw [qa4,hll]
  exact qB hk
 .rw [upd_same,map_append]
  rfl
 .rw [qa5,hll]
  rfl
 .intro i r e
  by_cases hi:i<lots.length
  .rw [getElem?_append_left hi] at e
   have h1:=lots4 i r e
   rw [upd_ne (im h1 p4 hl0)]
   exact h1
  .rw [getElem?_append_right (le_of_not_lt hi)] at e
   have hi0:i=k+1:=(nG hi (qa1 e).1).trans hll
   subst hi0
   rw [hll,sub_self] at e
   have et:fa=r:=by simpa using e
   subst et
   rw [upd_ne (im hfa' p4 hl0)]
   exact hfa'
 .intro i hi
  by_cases h:i=k
  .subst h
   exact he'
  .exact hne i (p8 hi h)
theorem a_v:a_e [Q8,Z8,"rounds","one","two","needed","here","there",Z7,Z9,"place"] [Q8,Z8,"rounds","one","two"] (a_c c_r):=fsc
theorem f_z (F:Fun K "parting_word" "parting_word" c_r f fd) (T:Txt K mg):aa P w K mg base CX0 1 f fd [Q8,Z8,"rounds","one","two"] sp_pword:=by
 refine F.okA a_v ?_
 rintro _ _ _ s H _ _ _ _ ⟨wy,p,rows,lots,L,W,B,k,r,s,rfl,hwy,hrl,hrows,hMa,hp,hll,hlots,hst,hk36,hr0,hs0,q⟩
 refine (_,(a_a ((a_N (cqE (xqL (xqL (pv 2) (aH e_K pe_int)) (pv 3)) (xqL (xqL (pv 2) (aH e_K pe_int)) (pv 4))) ((a_b (a_f g_x))) (a_m))) (a_a ((stS 5 a_v.nd ((c_Z plainAttrs_list slot_list_index type_list_index bG (a_u [Q8,Z8,"rounds","one","two","needed","here","there",Z7,"?","place"] rfl (by decide) (c_c (pv 2)) (λcl C fp s' H'=>(a_q,c_A g_k (pe_ix (b_b K) (pv 0) (pv 4) (λ_ _=>rfl)) (pe_ix (b_b K) (pv 0) (pv 5) (λ_ _=>rfl)) (a_S _)))) (pq1 c_l))))) (a_a ((stS 6 a_v.nd (pv 3))) (a_a ((stS 7 a_v.nd (pv 4))) (a_a ((stS 8 a_v.nd (b_l))) (a_a ((a_F PassesOwn.never rfl (n6 rfl T.reversed (pq1 (b_u cv (pv 2) c_i (b_x (pv 5))))) (pgN 9 a_v.nd) ((a_a ((stS 10 a_v.nd ((c_Z plainAttrs_list slot_list_index type_list_index bG (c_I [Q8,Z8,"rounds","one","two","needed","here","there",Z7,Z9,"place"] rfl (by decide) (ms rfl T.zip (pq2 (xqT (pv 1) (pv 6)) (xqT (pv 1) (pv 7)))) (λcl C fp s' H'=>(a_q,c_A g_k (pe_ix (b_b K) (pv 11) (pv 0) (λ_ _=>rfl)) (pe_ix (b_b K) (pv 11) (pv 1) (λ_ _=>rfl)) (a_S _)))) (pq1 c_l))))) (a_a ((stS 8 a_v.nd (a_j a_X (pv 8) (pe_ix ix_str (pv 0) (pv 10) (λ_ _=>rfl))))) (a_a ((stS 6 a_v.nd (xqT (xqT (pv 1) (pv 6)) (pv 10)))) (a_b ((stS 7 a_v.nd (xqT (xqT (pv 1) (pv 7)) (pv 10))))))))))) (a_b (a_f (pv 8))))))))),?_)
 have hz:(tx L).length≤sizeLine:=a_d (by rw [a_k];exact le_trans hMa.lt.hi (by decide))
 obtain ⟨la,hla⟩:∃la,lots[k]?=some la:=(lots[k]'(by rw [hll];exact lt_succ_self k),qa2 _)
 have hla1:=hlots k la hla
 have hat:=g_c hll hla
 have hlen:=c_J hMa k
 refine (_,rfl,_,rfl,iqL hp hat (_,rfl,iqL hla1 (a_D (by rw [hlen];exact hr0)) ?_))
 refine (_,rfl,_,rfl,iqL hp hat (_,rfl,iqL hla1 (a_D (by rw [hlen];exact hs0)) (rfl,_,rfl,?_)))
 rw [dg]
 refine aB (λhe=>?_) (λhe=>?_)
 .exact q none H (Same.refl H) (.inl (rfl,λj=>io hMa hst he hr0 hs0 j))
 obtain ⟨hmem,hlt,hff,hfirst⟩:=eR (f:=λj=>decide (lot W B j r=lot W B j s)) (n:=k+1) (j:=k) (lt_succ_self k) (decide_eq_false he)
 dsimp only [tNext,av,au,b_J,a_O,tBM,tCB]
 refine c_C (a:=p) (λR h=>(_,rfl,h)) (.inl rfl) hp (λD j ys H'=>ys=(((List.range (k+1)).map λj=>decide (lot W B j r=lot W B j s)).map V.bl).take j) (by rw [qa4,hll];exact a_d (le_trans (Nat.succ_le_succ hk36) (by decide))) (λD hD=>by simp) ?_ ?_
 .intro D j x ys H' R1 R2 hD hx hsm hDl hp2 k1 k2
  rw [qa6] at hx
  obtain ⟨la',hla',rfl⟩:=qb3 hx
  have hj:j<k+1:=by rw [<- hll];exact (qa1 hla').1
  have h1:=hsm _ _ (hlots j la' hla')
  refine tAlways_if (_,rfl,_,rfl,iqL h1 (a_D (by rw [c_J hMa];exact hr0)) (_,rfl,_,rfl,iqL h1 (a_D (by rw [c_J hMa];exact hs0)) (rfl,?_)))
  rw [dg]
  refine k1 _ H' hDl (Same.set hsm hD) ?_
  rw [hp2]
  refine (a_p ?_).symm
  rw [qa6,qa6,getElem?_range hj]
  rfl
 intro D ys H1 hD hsm hDl hp2
 rw [qa4,hll,take_of_length_le (by simp)] at hp2
 subst hp2
 refine (.inl (rfl,_,SqL.of hDl),D,_,rfl,rfl,hDl,hmem,?_)
 generalize ((List.range (k+1)).map λj=>decide (lot W B j r=lot W B j s)).idxOf false=t at hlt hff hfirst ⊢
 have hne:lot W B t r≠lot W B t s:=of_decide_eq_false hff
 have heq:∀j<t,lot W B j r=lot W B j s:=λj hj=>of_decide_eq_true (hfirst j hj)
 refine (_,rfl,_,rfl,?_)
 refine (_,rfl,_,rfl,_,rfl,p,_,rfl,SqL.of (hsm _ _ hp),λpl hpl=>?_)
 rw [f_W (by rw [qa4,hll];exact le_of_lt hlt)]
 have hxl:((lots.map V.ref).take t).length=t:=by rw [length_take,qa4,hll];exact Nat.min_eq_left (le_of_lt hlt)
 refine (pl,_,rfl,upd_same,eO kz (λi σ' H'=>∃(h1 h2:Nat) (w:LN) (s9 s10:Option V),σ'=[some (.str (tx L)),some (.ref wy),some (.ref p),some (.int (r:Int)),some (.int (s:Int)),some (.int (t:Int)),some (.int (h1:Int)),some (.int (h2:Int)),some (.str (tx w)),s9,s10]/\Same (L2.upd H1 pl (.lst ((lots.map V.ref).take t))) H'/\h1<W.length/\h2<W.length/\w.length=i/\i≤t/\lot W B (t - i) h1≠lot W B (t - i) h2/\(∀j<t - i,lot W B j h1=lot W B j h2)/\w++pw L W B (t - i) h1 h2=pw L W B t r s) (r,s,[],none,none,by rw [<- h_C];rfl,Same.refl _,hr0,hs0,rfl,zero_le _,hne,heq,rfl) ?_ ?_ ?_)
 .rintro i σ' H' ⟨h1,h2,w,s9,s10,rfl,sm2,_⟩
  exact sm2 _ _ upd_same
 .rintro i x σ' H2 hx ⟨h1,h2,w,s9,s10,rfl,sm2,hh1,hh2,hwl,hit,hne2,heq2,hw⟩
  have hi:i<t:=by have:=(qa1 hx).1;rwa [length_reverse,hxl] at this
  rw [List.getElem?_reverse (by rw [hxl];exact hi),hxl,List.getElem?_take,if_pos (m8 hi),qa6] at hx
  obtain ⟨la2,hla2,rfl⟩:=qb3 hx
  obtain ⟨u,hu,hu1,hu2⟩:=oW hi
  rw [hu1] at hla2
  rw [hu] at hne2 heq2 hw
  have s0:Same H H2:=hsm.trans ((Same.upd hpl).trans sm2)
  have hlaH:=s0 _ _ (hlots u la2 hla2)
  obtain ⟨ra,hra,hraH⟩:=a_o.row hrl (hrows.same s0) hh1
  obtain ⟨rb,hrb,hrbH⟩:=a_o.row hrl (hrows.same s0) hh2
  obtain ⟨hpl1,hpl2,hpl3⟩:=dZ hMa hh1 hh2 hne2 (heq2 u (lt_succ_self u))
  have l1:=(b_z hMa hh1).1
  have l2:=(b_z hMa hh2).1
  have hL3:=hMa.lt.hi
  dsimp only [b_y]
  dsimp only [tNext,av,au,b_J,a_O,tBM,tCB]
  refine di (K:=K) (c:=ra) (d:=rb) (λR h=>(_,rfl,_,rfl,iqT (s0 _ _ hwy) (a_Z V.ref hra) (_,rfl,_,rfl,iqT (s0 _ _ hwy) (a_Z V.ref hrb) h))) hraH hrbH (by rw [intsV_len,intsV_len,l1,l2]) (λD j ys H3=>ys=((g_i W B u h1 h2).map V.bl).take j) (by rw [intsV_len,l1];exact a_d (le_trans hL3 (by decide))) (λD hD=>by simp) ?_ ?_
  .intro D j x z ys H3 H4 R1 hD hx hz' hsm3 hDl hp3 hsm4 k1
   have hj:j<L.length:=by have:=(qa1 hx).1;rwa [intsV_len,l1] at this
   rw [b_m (by rw [l1];exact hj)] at hx
   rw [b_m (by rw [l2];exact hj)] at hz'
   cases hx
   cases hz'
   have hla4:=hsm4 _ _ (hsm3 _ _ hlaH)
   refine (_,rfl,_,rfl,iqL hla4 (a_D (by rw [c_J hMa];exact b_c hMa hh1 hj)) (_,rfl,_,rfl,iqL hla4 (a_D (by rw [c_J hMa];exact b_c hMa hh2 hj)) (rfl,?_)))
   rw [dg]
   refine k1 _ H4 (hsm4 _ _ hDl) (Same.set (hsm3.trans hsm4) hD) ?_
   rw [hp3]
   refine (a_p ?_).symm
   rw [qa6,e_a hMa hh1 hh2 hj]
   rfl
  intro D ys H3 hD hsm3 hDl hp3
  rw [intsV_len,l1,take_of_length_le (by rw [qa4,f_v hMa hh1 hh2];exact le_refl _)] at hp3
  subst hp3
  have hmem2:false∈g_i W B u h1 h2:=List.idxOf_lt_length_iff.mp (by rw [f_v hMa hh1 hh2];exact hpl1)
  refine (.inl (rfl,_,SqL.of hDl),D,_,rfl,rfl,hDl,hmem2,?_)
  have s3:=s0.trans hsm3
  have hget:L[place W B u h1 h2]?=some (L.getD (place W B u h1 h2) 0):=by rw [qa3,qa2 hpl1];rfl
  have hatL:atI (tx L).cps.toList ((place W B u h1 h2:Nat):Int)=some (L.getD (place W B u h1 h2) 0):=by
   rw [a_P]
   exact a_R hget
  have e1:=a_D (ns:=W.getD h1 []) (r:=place W B u h1 h2) (by rw [l1];exact hpl1)
  have e2:=a_D (ns:=W.getD h2 []) (r:=place W B u h1 h2) (by rw [l2];exact hpl1)
  refine (_,rfl,_,rfl,_,rfl,_,_,_,rfl,rfl,hz,hatL,_,_,rfl,rfl,?_,?_)
  .rw [a_k]
   show w.length+1≤sizeLine
   exact a_d (p7 hwl hi hlt hk36)
  refine (_,rfl,_,rfl,iqT (s3 _ _ hwy) (a_Z V.ref hra) (_,rfl,iqT (hsm3 _ _ hraH) e1 ?_))
  refine (_,rfl,_,rfl,iqT (s3 _ _ hwy) (a_Z V.ref hrb) (_,rfl,iqT (hsm3 _ _ hrbH) e2 ?_))
  rw [hu2]
  refine (ag W h1 (place W B u h1 h2),ag W h2 (place W B u h1 h2),w++[L.getD (place W B u h1 h2) 0],_,_,by rw [<- c_o];rfl,sm2.trans hsm3,b_c hMa hh1 hpl1,b_c hMa hh2 hpl1,by rw [qa5,hwl];rfl,hi,hpl2,λj hj=>((b_h hMa hh1 hh2).mp (heq2 (j+1) (Nat.succ_lt_succ hj))).2 _ hpl1,?_)
  rw [append_assoc]
  exact hw
 .rintro σ' H2 ⟨h1,h2,w,s9,s10,rfl,sm2,hh1,hh2,hwl,hit,hne2,heq2,hw⟩
  rw [length_reverse,hxl,sub_self] at hw
  have hw':w=pw L W B t r s:=by rw [<- hw];simp [pw]
  exact (_,rfl,q (some w) H2 (hsm.trans ((Same.upd hpl).trans sm2)) (.inr (t,by rw [hw'],hne,heq)))
theorem e_v:a_e [Q7,"one","two",Z8,"rounds"] [Q7,"one","two"] (a_c f_p):=fsc
theorem ok_parting (F:Fun K "parting" "parting" f_p f fd) (T:Txt K mg) (yq:Df P w K mg base "need_room" 3 [Q7,"number"] sp_needroom) (yw:Df P w K mg base "rounds_of" 2 [Z8,"marks","most"] sp_roundsQ) (yU:Df P w K mg base "parting_word" 1 [Q8,Z8,"rounds","one","two"] sp_pword):aa P w K mg base CX0 4 f fd [Q7,"one","two"] sp_part56:=by
 refine F.okA e_v ?_
 rintro _ _ _ s _ _ _ _ hr ⟨m,L,W,B,r,s,rfl,hM,hMa,hr0,hs0,q⟩
 obtain ⟨wy,mk,rows,h1,h2,h3,h4,h5⟩:=id hM
 have hr1:=hr.mono (j:=1) (by decide)
 have hr2:=hr.mono (j:=2) (by decide)
 refine (_,(a_a (a_y (a_l yq hr (pq2 (pv 0) (pv 1)))) (a_a (a_y (a_l yq hr (pq2 (pv 0) (pv 2)))) (a_a ((stS 3 e_v.nd (xqV 0))) (a_a ((stS 4 e_v.nd ((a_l yw hr2 (pq3 (pv 3) (xqV 0) ((lqQ T.len (pv 3)))))))) (a_b (a_f (a_l yU hr1 (c_B (xqV 0) (c_B (pv 3) (pq3 (pv 4) (pv 1) (pv 2))))))))))),?_)
 refine (_,rfl,_,rfl,m,L,W,B,r,rfl,hM,hMa,hr0,?_)
 refine (_,rfl,_,rfl,m,L,W,B,s,rfl,hM,hMa,hs0,?_)
 refine (ivT h1 aq ?_)
 refine (_,rfl,ivT h1 aC (_,rfl,wy,_,rfl,.inr (SqT.of h2),wy,mk,rows,_,_,L,W,B,by rw [qa4,h4];rfl,.inr rfl,h2,.inr rfl,h3,h4,kf h5,hMa,λp lots k H1 s1 hp hll hlots hst hk=>?_))
 exact (ivT (s1 _ _ h1) al (_,rfl,_,rfl,_,rfl,_,rfl,wy,p,rows,lots,L,W,B,k,r,s,rfl,s1 _ _ h2,h4,h5.same s1,hMa,hp,hll,hlots,hst,hk,hr0,hs0,λo H2 s2 hpo=>q o H2 (s1.trans s2) hpo))
theorem bA:a_e [Q7,"one","two","tail"] [Q7,"one","two"] (a_c g_X):=fsc
theorem ok_parted (F:Fun K "parted" "parted" g_X f fd) (T:Txt K mg) (yf:Df P w K mg base "parting" 4 [Q7,"one","two"] sp_part56) (y9:Df P w K mg base "room_after" 4 [Q7,"room",Z7] sp_roomafter) (yz:Df P w K mg base "takes" 5 [Q7,Z7] sp_takes):aa P w K mg base CX0 6 f fd [Q7,"one","two"] sp_parted:=by
 refine F.okA bA ?_
 rintro _ _ _ _ _ _ _ _ hr ⟨m,L,W,B,W0,B0,u,v,rfl,hM,hLe,hW8,hu,hv,lu,lv,hne,q⟩
 have hr4:=hr.mono (j:=4) (by decide)
 have hMa:=hLe.mach
 have n1:0<W.length:=by have:=hMa.n1;lia
 have b3:(3:Nat)≤sizeLine:=a_d (by show 3≤16777216;decide)
 refine (_,(a_a ((stS 3 bA.nd ((a_l yf hr4 (pq3 (pv 0) ((a_l y9 hr4 (pq3 (pv 0) (pe_int) (pv 1)))) ((a_l y9 hr4 (pq3 (pv 0) (pe_int) (pv 2))))))))) (a_a ((a_N (b_r (a_l yz hr (pq2 (pv 0) (a_j a_X (pv 1) (pv 3))))) ((a_b (a_f (a_W (pq3 (pv 1) (pv 2) (pv 3)))))) (a_m))) (a_b (a_f (a_W (pq3 (pv 2) (pv 1) (pv 3))))))),?_)
 have r1:=a_M hMa n1 hu
 have r2:=a_M hMa n1 hv
 refine (_,rfl,_,rfl,_,rfl,m,L,W,B,0,u,rfl,hM,hMa,n1,hu,_,rfl,_,rfl,m,L,W,B,0,v,rfl,hM,hMa,n1,hv,m,L,W,B,_,_,rfl,hM,hMa,r1,r2,λo H1 s1 hpo=>?_)
 cases o with
 | none=>exact absurd (hLe.unlike r1 r2 ((hpo.spec hMa r1 r2).1 rfl)) hne
 | some z=>
  obtain ⟨hz,_,hy,_⟩:=(hpo.spec hMa r1 r2).2 z rfl
  have lz:=ef hpo hMa r1 r2
  rw [<- a_Q,<- a_Q] at hy
  have huz:=b_K hu hz
  have hvz:=b_K hv hz
  refine (_,rfl,_,rfl,_,rfl,_,_,rfl,rfl,by rw [a_k,a_k];exact a_d (by lia),m,L,W,B,u++z,by rw [c_o];rfl,hM.same s1,hMa,huz,_,rfl,?_)
  cases e:B.getD (run L W 0 (u++z)) false with
  | true=>
   refine aj (_,rfl,_,rfl,_,rfl,b3,λt ht=>q t u v z _ (s1.trans (Same.upd ht)) upd_same (.inl (rfl,rfl)) hz (by lia) e ?_)
   cases e2:B.getD (run L W 0 (v++z)) false with
   | false=>rfl
   | true=>exact absurd (e.trans e2.symm) hy
  | false=>
   refine af (_,rfl,_,rfl,_,rfl,b3,λt ht=>q t v u z _ (s1.trans (Same.upd ht)) upd_same (.inr (rfl,rfl)) hz (by lia) ?_ e)
   cases e2:B.getD (run L W 0 (v++z)) false with
   | true=>rfl
   | false=>exact absurd (e.trans e2.symm) hy
theorem c_K:a_e [Q8,"pairs","place","letter"] [Q8] (a_c e_y):=fsc
theorem ok_pairs_of (F:Fun K "pairs_of" "pairs_of" e_y f fd) (T:Txt K mg):aa P w K mg base CX0 1 f fd [Q8] sp_pairs:=by
 refine F.okA c_K ?_
 rintro _ _ _ _ H _ _ _ _ ⟨L,rfl,hL3,q⟩
 refine (_,(a_a ((stS 1 c_K.nd (a_G b_d))) (a_a ((a_F PassesOwn.never rfl (mt rfl T.enumerate (pq1 (pv 0))) (e_N rfl (a_T (pgN 2 c_K.nd) (a_T (pgN 3 c_K.nd) d_l))) (a_b (a_y (c_Z plainAttrs_list PySem.F.slot_list_extend PySem.F.type_list_extend bH (pv 1) (pq1 (a_u [Q8,"pairs","place","letter"] rfl (by decide) (d_A (b_u aN (pv 0) (b_x (a_j op_a (pv 2) pe_int)) c_i)) (λcl C fp s' H'=>(a_q,a_j a_X (pv 4) (pv 0)))))))))) (a_b (a_f (pv 1))))),?_)
 refine (zero_le _,λP hP=>?_)
 refine (_,rfl,_,rfl,for_enum (x:=tx L) (λj σ' H'=>∃s2 s3,σ'=[some (.str (tx L)),some (.ref P),s2,s3]/\Same H H'/\H' P=some (.lst (wordsV (prA L j)))) (_,_,rfl,Same.upd hP,upd_same) ?_ ?_)
 .rintro j c p σ' H1 hc hp ⟨s2,s3,rfl,sm,hP1⟩
  have hcj:L[j]?=some c:=by
   have:=(show (tx L).cps.toList[j]?=some c by rw [getElem?_toList];exact hc)
   rwa [a_P] at this
  have hj:j<L.length:=(qa1 hcj).1
  refine (p,_,rfl,SqT.of upd_same,rfl,_,_,rfl,_,_,rfl,rfl,?_)
  have sz:=sm.trans (Same.upd (o:=.tup [.int ((j:Nat):Int),.str ⟨#[c]⟩]) hp)
  have hP2:=a_g (u:=.tup [.int ((j:Nat):Int),.str ⟨#[c]⟩]) hP1 hp
  generalize L2.upd H1 p (.tup [.int ((j:Nat):Int),.str ⟨#[c]⟩])=H2 at sz hP2
  have et1:(⟨#[c]⟩:Str)=tx [c]:=rfl
  rw [et1]
  have esl:Txt.slice (tx L) (some (((j:Nat):Int)+1)) none=tx (L.drop (j+1)):=by
   have e:=e_u (tx L) (i:=((j:Nat):Int)+1) (by lia) (by rw [a_P];lia)
   rw [a_P,show (((j:Nat):Int)+1).toNat=j+1 by lia] at e
   exact e
  refine (_,rfl,.inl (rfl,_,SqL.of hP2),?_)
  dsimp only [a_O,tNil]
  refine bZ (z:=L.drop (j+1)) (λR h=>(_,rfl,_,rfl,_,_,rfl,rfl,_,rfl,_,rfl,a_d (by rw [a_k];exact le_trans hL3 (by decide)),by rw [esl];exact h)) (λD i ys H'=>ys=wordsV (((L.drop (j+1)).take i).map λb=>[c,b])) (a_d (by rw [length_drop];lia)) (λD hD=>rfl) ?_ ?_
  .intro D i b ys H' R1 R2 hD hb hsm hDl hys k1 k2
   refine tAlways_if (_,rfl,_,rfl,_,_,rfl,rfl,by rw [a_k,a_k];exact a_d (by show 2≤16777216;decide),?_)
   rw [c_o]
   refine k1 _ H' hDl (Same.set hsm hD) ?_
   rw [hys,a_p hb,map_append,f_f]
   rfl
  .intro D ys H' hD hsm hDl hys
   rw [take_length] at hys
   subst hys
   have ln:=ib L hL3 j
   refine (P,D,_,_,rfl,rfl,hsm _ _ hP2,hDl,?_,_,_,rfl,Same.set (sz.trans hsm) hP,?_)
   .rw [wordsV,wordsV,qa4,qa4,qa4,length_drop]
    exact a_d (by lia)
   .have ec:L.getD j 0=c:=by rw [qa3,hcj];rfl
    rw [upd_same,dY,f_f,ec]
 .rintro σ' H1 ⟨s2,s3,rfl,sm,hP1⟩
  rw [a_k] at hP1
  exact (_,rfl,q P H1 sm hP1)
theorem c_D:a_e [Q7,"room",Z7,"pair","sides"] [Q7] (a_c f_m):=fsc
theorem ok_swap_in (F:Fun K "swap_in" "swap_in" f_m f fd) (T:Txt K mg) (yi:Df P w K mg base "first_words" 7 [Q7] (gY P0 sites)) (yC:Df P w K mg base "pairs_of" 1 [Q8] sp_pairs) (y9:Df P w K mg base "room_after" 4 [Q7,"room",Z7] sp_roomafter) (vy:Df P w K mg base "parted" 6 [Q7,"one","two"] sp_parted):aa P w K mg base CX0 8 f fd [Q7] (bv P0 sites):=by
 refine F.okA c_D ?_
 rintro _ _ _ _ _ _ _ _ hr ⟨m,L,W,B,W0,B0,rfl,hM,hLe,hM0,hW8,hT0,q1,q2⟩
 have hr1:=hr.mono (j:=1) (by decide)
 have hr4:=hr.mono (j:=4) (by decide)
 have hr6:=hr.mono (j:=6) (by decide)
 refine (_,(a_a ((a_F PassesOwn.never rfl (b_Y (a_l yi hr (pq1 (pv 0)))) (e_N rfl (a_T (pgN 1 c_D.nd) (a_T (pgN 2 c_D.nd) d_l))) (a_b ((a_F PassesOwn.never rfl (b_Y (a_l yC hr1 (pq1 (xqV 0)))) (pgN 3 c_D.nd) ((a_b ((a_N (cqN (a_l y9 hr4 (pq3 (pv 0) (pv 1) (pv 3))) (a_l y9 hr4 (pq3 (pv 0) (pv 1) ((ic (pv 3) (b_x (aH e_K pe_int))))))) ((a_a ((stS 4 c_D.nd ((a_l vy hr6 (pq3 (pv 0) (a_j a_X (pv 2) (pv 3)) (a_j a_X (pv 2) (ic (pv 3) (b_x (aH e_K pe_int))))))))) (a_b (a_f (a_W (pq3 b_l (a_j a_X (xqV 4) (xqV 4)) (a_j a_X (xqV 4) (xqV 4)))))))) (a_m)))))))))) (a_b (a_f g_x))),?_)
 have hMa:=hLe.mach
 have hL3:=hMa.lt.hi
 have n1:0<W.length:=by have:=hMa.n1;lia
 have b3:(3:Nat)≤sizeLine:=a_d (by show 3≤16777216;decide)
 refine (_,rfl,m,L,W,B,rfl,hM,hMa,hT0,λl rs ws0 H1 s1 hT1 _ hfw bf0 hrs hrl'=>?_)
 have hM1:a_o H1 m L W B:=hM.tups (b_C s1 hT0)
 obtain ⟨xs,hl,hxl,hwl,hat⟩:=hfw.at
 refine (l,rfl,(_,SqL.of hl),b_H (K:=K) (a:=l) (xs:=xs) (λi σ' H'=>∃s1 s2 s3 s4,σ'=[some (.ref m),s1,s2,s3,s4]/\Same H1 H'/\∀(j:Nat) (r:Nat),j<i->rs[j]?=some r->∀p∈prA L L.length,run L W r p=run L W r p.reverse) (_,_,_,_,rfl,Same.refl _,λj r hj=>absurd hj (not_lt_zero _)) ?_ ?_ ?_)
 .rintro i σ' H' hi ⟨_,_,_,_,rfl,sm,_⟩
  exact SqL.of (sm _ _ hl)
 .rintro i x σ' H2 hx ⟨s1',s2',s3',s4',rfl,sm,hall⟩
  obtain ⟨tt,r,w,rfl,hr',hw',htt⟩:=hat i x hx
  have hrW:=hrs r (qb2 hr')
  obtain ⟨cw,ew0⟩:=bf0.lead i [r] w (by rw [qa6,hr'];rfl) hw'
  have er:run L W 0 w=r:=by
   have:=d_s (W:=W) (L:=L) 0 _ w rfl
   rw [ew0] at this
   exact (List.cons.inj this).1.symm
  have hwsh:w.length≤8:=fj bf0 (N:=8) (by rw [hwl];exact le_trans hrl' hW8) _ _ hw'
  obtain ⟨wy,mk,rows,h1,h2,h3,h4,h5⟩:=id (hM1.same sm)
  refine (tt,_,rfl,SqT.of (sm _ _ htt),rfl,_,_,rfl,_,_,rfl,rfl,?_)
  refine (ivT h1 al (L,rfl,hL3,λp2 H3 s3 hp2=>?_))
  refine (p2,rfl,(_,SqL.of hp2),b_H (K:=K) (a:=p2) (xs:=wordsV (prA L L.length)) (λj σ' H'=>∃s3 s4,σ'=[some (.ref m),some (.int (r:Int)),some (.str (tx w)),s3,s4]/\Same H3 H'/\∀(k:Nat) (p:LN),k<j->(prA L L.length)[k]?=some p->run L W r p=run L W r p.reverse) (_,_,rfl,Same.refl _,λk p hk=>absurd hk (not_lt_zero _)) ?_ ?_ ?_)
  .rintro j σ' H' hj ⟨_,_,rfl,sm3,_⟩
   exact SqL.of (sm3 _ _ hp2)
  .rintro j v σ' H4 hv ⟨u3,u4,rfl,sm4,hno⟩
   rw [wordsV,qa6] at hv
   obtain ⟨p,hp,rfl⟩:=qb3 hv
   obtain ⟨a,ha,b,hb,ep⟩:=prA_in (qb2 hp)
   have pl:p.length=2:=by rw [ep];rfl
   have cp:∀c∈p,c∈L:=λc hc=>by
    rw [ep] at hc
    rcases mem_cons.mp hc with z|z
    .rw [z];exact ha
    .rw [qb1 z];exact hb
   have cr:∀c∈p.reverse,c∈L:=λc hc=>cp c (List.mem_reverse.mp hc)
   have s14:=sm.trans (s3.trans sm4)
   have hM4:=hM1.same s14
   have p16:p.length≤16777216:=by lia
   refine (_,rfl,_,rfl,_,rfl,m,L,W,B,r,p,rfl,hM4,hMa,hrW,cp,_,rfl,_,rfl,_,rfl,_,rfl,_,rfl,p,rfl,rfl,p16,m,L,W,B,r,p.reverse,rfl,hM4,hMa,hrW,cr,rfl,_,rfl,iw (λhne=>?_) (λheq=>(_,_,rfl,sm4,λk p' hk hp'=>?_)))
   .have hne:run L W r p≠run L W r p.reverse:=λz=>hne (by rw [z])
    refine (_,rfl,_,rfl,_,rfl,_,_,rfl,rfl,by rw [a_k,a_k];exact a_d (by lia),_,rfl,_,rfl,_,rfl,_,rfl,p,rfl,rfl,p16,_,_,rfl,rfl,by rw [a_k,a_k,length_reverse];exact a_d (by lia),?_)
    rw [c_o,c_o]
    refine (m,L,W,B,W0,B0,w++p,w++p.reverse,rfl,hM4,hLe,hW8,b_K cw cp,b_K cw cr,by rw [qa5];lia,by rw [qa5,length_reverse];lia,by rw [a_Q,a_Q,er];exact hne,λt x y z H5 s5 ht hxy hz lz ex ey=>?_)
    have lxy:x.length≤10/\y.length≤10:=by
     rcases hxy with ⟨rfl,rfl⟩|⟨rfl,rfl⟩ <;> simp only [qa5,length_reverse] <;> lia
    have cxy:(∀c∈x,c∈L)/\∀c∈y,c∈L:=by
     rcases hxy with ⟨rfl,rfl⟩|⟨rfl,rfl⟩
     .exact (b_K cw cp,b_K cw cr)
     .exact (b_K cw cr,b_K cw cp)
    have nxy:∀c,x.count c=y.count c:=λc=>by
     rcases hxy with ⟨rfl,rfl⟩|⟨rfl,rfl⟩ <;> rw [count_append,count_append,List.count_reverse]
    have l1:(tx x).length+(tx z).length≤sizeLine:=by rw [a_k,a_k];exact a_d (by lia)
    have l2:(tx y).length+(tx z).length≤sizeLine:=by rw [a_k,a_k];exact a_d (by lia)
    refine (ivT ht al (ivT ht aC (_,_,rfl,rfl,l1,ivT ht aq (ivT ht aC (_,_,rfl,rfl,l2,b3,λp5 hp5=>?_)))))
    rw [c_o,c_o]
    have s15:=(s14.trans s5).trans (Same.upd (o:=.tup [.str (Str.ofString "swap"),.str (tx (x++z)),.str (tx (y++z))]) hp5)
    refine q2 p5 (x++z) (y++z) _ (λb o hb e=>s15 _ _ (s1 b o hb e)) (b_n hT1 s15) upd_same (b_K cxy.1 hz,b_K cxy.2 hz,by rw [qa5];lia,by rw [qa5];lia,λc=>by rw [count_append,count_append,nxy],?_,?_)
    .rw [<- hLe.takes hM0 (b_K cxy.1 hz)];exact ex
    .rw [<- hLe.takes hM0 (b_K cxy.2 hz)];exact ey
   .rcases lt_succ_iff_lt_or_eq.mp hk with z|z
    .exact hno k p' z hp'
    .rw [z,hp] at hp'
     cases hp'
     exact Int.ofNat.inj (V.int.inj heq)
  .rintro σ' H4 ⟨u3,u4,rfl,sm4,hno⟩
   refine (_,_,_,_,rfl,sm.trans (s3.trans sm4),λj r' hj hj'=>?_)
   rcases lt_succ_iff_lt_or_eq.mp hj with z|z
   .exact hall j r' z hj'
   .rw [z,hr'] at hj'
    cases hj'
    intro p hp
    obtain ⟨k,hk⟩:=mem_iff_getElem?.mp hp
    exact hno k p (by rw [wordsV,qa4];exact (qa1 hk).1) hk
 .rintro σ' H2 ⟨_,_,_,_,rfl,sm,hall⟩
  refine q1 H2 (λb o hb e=>sm _ _ (s1 b o hb e)) (b_n hT1 sm) (pZ hMa λr hr0 p hp=>?_)
  obtain ⟨v,fs⟩:=hLe.firsts hM0
  obtain ⟨en,ei⟩:=fs.order hMa bf0 hrs
  have hri:r<rs.length:=by rw [en];exact hr0
  have:=ei r _ (qa2 hri)
  exact hall r r (by rw [hxl];exact hri) (by rw [qa2 hri,this]) p hp
theorem iX:a_e [Q7,Z7] [Q7,Z7] (a_c h_a):=fsc
theorem ok_act_of (F:Fun K "act_of" "act_of" h_a f fd) (T:Txt K mg) (y9:Df P w K mg base "room_after" 4 [Q7,"room",Z7] sp_roomafter):aa P w K mg base CX0 5 f fd [Q7,Z7] sp_act54:=by
 refine F.okA iX ?_
 rintro _ _ _ _ _ _ _ _ hr ⟨m,L,W,B,w,rfl,hM,hMa,hw,q⟩
 refine (_,(a_b (a_f (a_x a_i (by rfl) T.tuple boot_tuple (pq1 (a_u [Q7,Z7] rfl (by decide) (a_E rfl T.range (pq1 (lqQ T.len (xqV 0)))) (λcl C fp s' H'=>(a_q,(a_l y9 hr (pq3 (pv 1) (pv 0) (pv 2)))))))))),?_)
 obtain ⟨wy,mk,rows,h1,h2,h3,h4,h5⟩:=id hM
 have hn:=hMa.n60
 dsimp only [aI,a_O,tCB,b_J]
 exact f_Z (λr=>run L W r w) (λR h=>(ivT h1 aq (wy,_,rfl,.inr (SqT.of h2),by rw [qa4,h4];exact h))) (le_trans hn (by decide)) (λj hj H' R1 hsm h=>(_,rfl,_,rfl,_,rfl,m,L,W,B,j,w,rfl,hM.same hsm,hMa,hj,hw,h)) λD H' hsm hDl _=>(D,_,rfl,.inl (SqL.of hDl,λtm htm=>q tm _ (hsm.trans (Same.upd htm)) upd_same))
theorem d_c:a_e [Q7,"letter","known","act","low"] [Q7,"letter"] (a_c g_W):=fsc
theorem ok_row_of (F:Fun K "row_of" "row_of" g_W f fd) (T:Txt K mg) (yg:Df P w K mg base "act_of" 5 [Q7,Z7] sp_act54):aa P w K mg base CX0 6 f fd [Q7,"letter"] sp_rowof:=by
 refine F.okA d_c ?_
 rintro _ _ _ _ H _ _ _ hr ⟨m,L,W,B,c,rfl,hM,hMa,cm,rc,hc,q⟩
 refine (_,(a_a ((stS 2 d_c.nd (a_G b_d))) (a_a ((stS 3 d_c.nd ((a_l yg hr (pq2 (pv 0) (b_l)))))) (a_a ((c_T PassesOwn.never (a_B (i9 hr.units) (pv 3) (pv 2) (by with_unfolding_all rfl)) (a_a (a_y (apQ (pv 2) (pv 3))) (a_b ((stS 3 d_c.nd ((a_l yg hr (pq2 (pv 0) (a_j d_t (pv 1) (lqQ T.len (pv 2)))))))))))) (a_a ((stS 4 d_c.nd ((c_Z plainAttrs_list slot_list_index type_list_index (mt_indexT hr.units) (pv 2) (pq1 (pv 3)))))) (a_b (a_f (a_W (pq2 (pv 4) (a_j op_s (lqQ T.len (pv 2)) (pv 4)))))))))),?_)
 have hn:=hMa.n60
 have b2:(2:Nat)≤sizeLine:=a_d (by show 2≤16777216;decide)
 have fl:∀k,(fC L W c k).length=W.length:=λk=>by rw [fC,qa4,length_range]
 have mem:∀{j k:Nat},fC L W c j∈fCs L W c k↔∃i,i<k/\fC L W c i=fC L W c j:=λ{j k}=>by
  unfold fCs
  rw [mem_map]
  exact (λhZ0=>by obtain ⟨i,h1,h2⟩:=hZ0;exact (i,mem_range.mp h1,h2),λhZ2=>by obtain ⟨i,h1,h2⟩:=hZ2;exact (i,mem_range.mpr h1,h2))
 have kl:∀{j k:Nat},∀k'∈fCs L W c k,k'.length=(fC L W c j).length:=λ{j k} k' hk'=>by
  obtain ⟨i,_,rfl⟩:=mem_map.mp hk'
  rw [fl,fl]
 refine (zero_le _,λkn hkn=>?_)
 have s0:=Same.upd (o:=.lst []) hkn
 have e0:L2.upd H kn (.lst []) kn=some (.lst []):=upd_same
 generalize L2.upd H kn (.lst [])=H1 at s0 e0
 refine (_,rfl,m,L,W,B,[],rfl,hM.same s0,hMa,by simp,λa0 H2 s2 ha0=>?_)
 refine ⟨λn σ' H'=>∃(k:Nat) (a:Addr) (vks:List V),n=W.length - k/\σ'=[some (.ref m),some (.str (tx [c])),some (.ref kn),some (.ref a),none]/\Same H H'/\H' kn=some (.lst vks)/\b_e .t H' (fCs L W c k) vks/\H' a=some (.tup (intsV (fC L W c k)))/\∀i j,i<j->j<k->fC L W c i≠fC L W c j,(_,0,a0,[],rfl,rfl,s0.trans s2,s2 _ _ e0,(rfl,λi k v a=>by simp [fCs] at a),ha0,λi j _ hj=>absurd hj (not_lt_zero _)),?_⟩
 rintro n σ' H3 ⟨k,a,vks,rfl,rfl,sm,hkn3,hth,ha,hap⟩
 refine (_,rfl,_,rfl,kn,a,vks,_,_,rfl,rfl,hkn3,hth,kl,ha,_,rfl,?_)
 rw [if_pos rfl]
 have vl:vks.length=k:=by rw [hth.1,fCs,qa4,length_range]
 refine iw (λhno=>?_) (λhin=>?_)
 .have hap2:∀i j,i<j->j<k+1->fC L W c i≠fC L W c j:=λi j hij hj=>by
   rcases lt_succ_iff_lt_or_eq.mp hj with z|z
   .exact hap i j hij z
   .rw [z] at hij ⊢
    exact λe=>hno (mem.mpr (i,hij,e))
  have hk:=d_q hMa cm rc hc hap2
  refine ⟨λσ2 H2=>∃(a:Addr) (vks:List V),σ2=[some (.ref m),some (.str (tx [c])),some (.ref kn),some (.ref a),none]/\Same H H2/\H2 kn=some (.lst vks)/\b_e .t H2 (fCs L W c (k+1)) vks/\H2 a=some (.tup (intsV (fC L W c (k+1)))),?_,?_⟩
  .rintro σ2 H2 ⟨a2,vks2,rfl,r1,r2,r3,r4⟩
   exact (W.length - (k+1),by lia,k+1,a2,vks2,rfl,rfl,r1,r2,r3,r4,hap2)
  have tupk:∀b xs,H3 b=some (.tup xs)->L2.upd H3 kn (.lst (vks++[.ref a])) b=some (.tup xs):=λb xs e=>upd_keep2 e hkn3 (by intro z;cases z)
  have hth4:b_e .t (L2.upd H3 kn (.lst (vks++[.ref a]))) (fCs L W c (k+1)) (vks++[.ref a]):=by
   have:fCs L W c (k+1)=fCs L W c k++[fC L W c k]:=by unfold fCs;rw [range_succ,map_append];rfl
   rw [this]
   refine (hth.same tupk).snoc ?_
   unfold ThV
   rw [if_neg (by decide)]
   exact (a,rfl,tupk _ _ ha)
  refine (_,rfl,.inl (rfl,_,SqL.of hkn3),_,rfl,kn,_,_,rfl,rfl,hkn3,by rw [vl];exact b_Z (by lia),?_)
  have sm4:Same H (L2.upd H3 kn (.lst (vks++[.ref a]))):=Same.set sm hkn
  have e4:L2.upd H3 kn (.lst (vks++[.ref a])) kn=some (.lst (vks++[.ref a])):=upd_same
  generalize L2.upd H3 kn (.lst (vks++[.ref a]))=H4 at sm4 e4 hth4
  have el:(((vks++[V.ref a]).length:Nat):Int)=((k+1:Nat):Int):=by rw [qa5,vl];rfl
  refine (_,rfl,_,rfl,_,rfl,kn,_,rfl,.inl (SqL.of e4),_,_,rfl,rfl,by rw [el];exact f_K c (by lia) (by lia),?_)
  have em:Txt.mul (tx [c]) (((vks++[V.ref a]).length:Nat):Int)=tx (replicate (k+1) c):=by
   rw [el]
   exact mul_one c (by lia)
  rw [em]
  exact (m,L,W,B,_,rfl,hM.same sm4,hMa,c_G hc,λa5 H5 s5 ha5=>(a5,_,rfl,sm4.trans s5,s5 _ _ e4,hth4.same λb xs e=>s5 _ _ e,ha5))
 .obtain ⟨i,hi,e⟩:=mem.mp hin
  have hix:(fCs L W c k).idxOf (fC L W c k)=i:=by
   have hlt:=idxOf_lt_length_of_mem hin
   have hg:=getElem_idxOf hlt
   have hl:(fCs L W c k).length=k:=by rw [fCs,qa4,length_range]
   generalize (fCs L W c k).idxOf (fC L W c k)=j at hlt hg
   have hj:j<k:=by rw [<- hl];exact hlt
   have hgj:(fCs L W c k)[j]=fC L W c j:=by simp [fCs]
   rw [hgj,<- e] at hg
   rcases lt_trichotomy j i with z|z|z
   .exact absurd hg (hap j i z hi)
   .exact z
   .exact absurd hg.symm (hap i j z hj)
  refine (_,rfl,.inl (rfl,_,SqL.of hkn3),_,rfl,kn,a,vks,_,_,rfl,rfl,hkn3,hth,kl,ha,hin,?_)
  rw [hix]
  refine (_,rfl,_,rfl,kn,_,rfl,.inl (SqL.of hkn3),_,rfl,_,_,rfl,rfl,b2,λt ht=>?_)
  rw [vl,show ((k:Nat):Int) - ((i:Nat):Int)=((k - i:Nat):Int) by lia]
  refine q t i (k - i) _ (sm.trans (Same.upd ht)) upd_same (by lia,?_,λx y hxy hy=>hap x y hxy (by lia))
  rw [show i+(k - i)=k by lia]
  exact e.symm
theorem fN:a_e [Q7] [Q7] (a_c f_o):=fsc
theorem ok_rows_of (F:Fun K "rows_of" "rows_of" f_o f fd) (T:Txt K mg) (yX:Df P w K mg base "row_of" 6 [Q7,"letter"] sp_rowof):aa P w K mg base CX0 7 f fd [Q7] sp_rowsof:=by
 refine F.okA fN ?_
 rintro _ _ _ _ _ _ _ _ hr ⟨m,L,W,B,rfl,hM,hMa,cm,rc,q⟩
 refine (_,(a_b (a_f (a_u [Q7] rfl (by decide) (d_A (xqV 0)) (λcl C fp s' H'=>(a_q,(a_l yX hr (pq2 (pv 1) (pv 0)))))))),?_)
 obtain ⟨wy,mk,rows,h1,h2,h3,h4,h5⟩:=id hM
 have hL3:=hMa.lt.hi
 dsimp only [aI]
 refine bZ (z:=L) (λR h=>(ivT h1 al h)) (λD i ys H'=>∃(ts:List Addr) (rows:List (Nat×Nat)),ys=ts.map V.ref/\aD H' ts rows/\rows.length=i/\∀(i c:Nat) (p:Nat×Nat),L[i]?=some c->rows[i]?=some p->c_m L W c p.1 p.2) (a_d (le_trans hL3 (by decide))) (λD hD=>([],[],rfl,(rfl,λi t p a=>by simp at a),rfl,λi c p _ a=>by simp at a)) ?_ ?_
 .intro D i c ys H' R1 R2 hD hc hsm hDl hys k1 k2
  obtain ⟨ts,rws,rfl,hrw,hrl,hro⟩:=hys
  refine tAlways_if (_,rfl,_,rfl,m,L,W,B,c,rfl,hM.same hsm,hMa,cm,rc,qb2 hc,λt low rest H3 s3 ht hR=>?_)
  have hD3:=s3 _ _ hDl
  have tk:=e_s (o:=.lst (ts.map V.ref++[.ref t])) hD3
  refine k1 (.ref t) H3 hD3 (Same.set (hsm.trans s3) hD) (ts++[t],rws++[(low,rest,)],by rw [map_append];rfl,((hrw.keep λb xs e=>s3 _ _ e).snoc ht).keep tk,by rw [qa5,hrl];rfl,λj d p a b=>?_)
  rcases b_V b with z|⟨rfl,rfl⟩
  .exact hro j d p a z
  .rw [hrl,hc] at a
   cases a
   exact hR
 .intro D ys H' hD hsm hDl hys
  obtain ⟨ts,rws,rfl,hrw,hrl,hro⟩:=hys
  exact q D ts rws H' hsm hDl hrw hrl hro
theorem b_N:a_e [Q7,"letter","row","piece","act","room",Z7] [Q7] (a_c f_n):=fsc
theorem ok_stay_in (F:Fun K "stay_in" "stay_in" f_n f fd) (T:Txt K mg) (yn:Df P w K mg base "rows_of" 7 [Q7] sp_rowsof) (yg:Df P w K mg base "act_of" 5 [Q7,Z7] sp_act54) (yi:Df P w K mg base "first_words" 7 [Q7] (gY P0 sites)) (yf:Df P w K mg base "parting" 4 [Q7,"one","two"] sp_part56):aa P w K mg base CX0 8 f fd [Q7] (bw P0 sites):=by
 refine F.okA b_N ?_
 rintro _ _ _ _ _ _ _ _ hr ⟨m,L,W,B,W0,B0,rfl,hM,hLe,hM0,hW8,cm,rc,hT0,q1,q2⟩
 have hr4:=hr.mono (j:=4) (by decide)
 have hr5:=hr.mono (j:=5) (by decide)
 refine (_,(a_a ((a_F PassesOwn.never rfl (f_u rfl T.zip (pq2 (xqV 0) (a_l yn hr (pq1 (pv 0))))) (e_N rfl (a_T (pgN 1 b_N.nd) (a_T (pgN 2 b_N.nd) d_l))) (a_a ((stS 3 b_N.nd (a_j d_t (pv 1) (a_j kA (xqV 2) (xqV 2))))) (a_a ((stS 4 b_N.nd ((a_l yg hr5 (pq2 (pv 0) (pv 3)))))) (a_b ((a_F PassesOwn.never rfl (b_Y (a_l yi hr (pq1 (pv 0)))) (e_N rfl (a_T (pgN 5 b_N.nd) (a_T (pgN 6 b_N.nd) d_l))) (a_b ((a_N (cqN (xqT (pv 4) (pv 5)) (pv 5)) ((a_b (a_f (a_W (c_B b_l (pq3 (pv 6) (pv 3) (a_l yf hr4 (pq3 (pv 0) (pv 5) (xqT (pv 4) (pv 5)))))))))) (a_m))))))))))) (a_b (a_f g_x))),?_)
 have hMa:=hLe.mach
 have b4:(4:Nat)≤sizeLine:=a_d (by show 4≤16777216;decide)
 obtain ⟨wy,mk,rws,h1,h2,h3,h4,h5⟩:=id hM
 refine (ivT h1 al (_,rfl,m,L,W,B,rfl,hM,hMa,cm,rc,λrl ts rows H1 s1 hrl hrw hl hro=>?_))
 have hT1:=b_n hT0 s1
 have nrl:rl≠P0:=λz=>by
  obtain ⟨ps,hP,_⟩:=hT1
  rw [z,hP] at hrl
  cases hrl
 refine (_,_,rfl,cf (.inr hrl) λd2 hd2 kt=>?_)
 refine h_B (xs:=(tx L).cps.toList.map λc=>V.str ⟨#[c]⟩) (ys:=ts.map V.ref) (by rw [qa4,a_P,qa4,hrw.1,hl]) (λj σ' H'=>∃u1 u2 u3 u4 u5 u6,σ'=[some (.ref m),u1,u2,u3,u4,u5,u6]/\c_k P0 H1 H'/\b_B H' P0 sites/\∀(i:Nat) (p:Nat×Nat),i<j->rows[i]?=some p->p.1=0) (_,_,_,_,_,_,rfl,λ_ _ _ e=>e,hT1,λi p hi=>absurd hi (not_lt_zero _)) ?_ ?_ ?_
 .rintro j σ' H' ⟨_,_,_,_,_,_,rfl,sm,_⟩
  exact (rfl,hd2 H' ((sm _ _ nrl hrl).trans hrl.symm))
 .rintro j x y p σ' H2 hx1 hy1 hp ⟨u1,u2,u3,u4,u5,u6,rfl,sm,hT2,hlow⟩
  rw [qa6,a_P] at hx1
  obtain ⟨c,hc,rfl⟩:=qb3 hx1
  rw [qa6] at hy1
  obtain ⟨t,ht,rfl⟩:=qb3 hy1
  have hjr:j<rows.length:=by rw [hl];exact (qa1 hc).1
  have ej:=qa2 hjr
  have hT:=b_C sm hT1 _ _ (hrw.2 j t _ ht ej)
  have hR:=hro j c _ hc ej
  refine (p,_,rfl,SqT.of upd_same,rfl,_,_,rfl,_,_,rfl,rfl,?_)
  have sz:=Same.upd (o:=.tup [.str ⟨#[c]⟩,.ref t]) hp
  generalize L2.upd H2 p (.tup [.str ⟨#[c]⟩,.ref t])=H3 at sz
  have hT:=sz _ _ hT
  generalize rows[j]=pr at hT hR ej
  obtain ⟨lo,re⟩:=pr
  dsimp only at hT hR
  have hcL:=qb2 hc
  have h8:lo+re≤8:=le_trans (d_q hMa cm rc hcL hR.apart) hW8
  have h32:=eG h8
  have hM3:=((hM.same s1).tups (b_C sm hT1)).same sz
  refine (_,rfl,ivT hT al (ivT hT aq (_,_,rfl,rfl,.inl (by lia,by lia),?_)))
  refine (_,((lo * re:Nat):Int),rfl,congrArg V.int (Int.natCast_mul lo re).symm,f_K c (by lia) (by lia),?_)
  rw [mul_one c (by lia),toNat_natCast]
  refine (_,rfl,_,rfl,m,L,W,B,_,rfl,hM3,hMa,c_G hcL,λac H4 s4 hac=>?_)
  have hac:H4 ac=some (.tup (intsV (fC L W c (lo * re)))):=hac
  have s24:=sz.trans s4
  have hT4:=b_n hT2 s24
  refine (_,rfl,m,L,W,B,rfl,hM3.same s4,hMa,hT4,λl rs ws0 H5 s5 hT5 _ hfw bf0 hrs hrl'=>?_)
  obtain ⟨xs,hl5,hxl,hwl,hat⟩:=hfw.at
  have hM5:=(hM3.same s4).tups (b_C s5 hT4)
  have hac5:=b_C s5 hT4 _ _ hac
  have sx5:c_k P0 H1 H5:=λb o hb e=>s5 b o hb (s24 _ _ (sm b o hb e))
  refine (l,rfl,(_,SqL.of hl5),b_H (K:=K) (a:=l) (xs:=xs) (λi σ' H'=>∃v5 v6,σ'=[some (.ref m),some (.str ⟨#[c]⟩),some (.ref t),some (.str (tx (replicate (lo * re) c))),some (.ref ac),v5,v6]/\Same H5 H'/\∀(i' r:Nat),i'<i->rs[i']?=some r->run L W r (replicate (lo * re) c)=r) (_,_,rfl,Same.refl _,λ_ _ h=>absurd h (not_lt_zero _)) ?_ ?_ ?_)
  .rintro i σ' H' hi ⟨_,_,rfl,sm6,_⟩
   exact SqL.of (sm6 _ _ hl5)
  .rintro i x σ' H6 hx ⟨v5,v6,rfl,sm6,hall⟩
   obtain ⟨tt,r,w,rfl,hr',hw',htt⟩:=hat i x hx
   have hrW:=hrs r (qb2 hr')
   obtain ⟨cw,ew0⟩:=bf0.lead i [r] w (by rw [qa6,hr'];rfl) hw'
   have er:run L W 0 w=r:=by
    have:=d_s (W:=W) (L:=L) 0 _ w rfl
    rw [ew0] at this
    exact (List.cons.inj this).1.symm
   have hwsh:w.length≤8:=fj bf0 (N:=8) (by rw [hwl];exact le_trans hrl' hW8) _ _ hw'
   have ai:atI (intsV (fC L W c (lo * re))) (r:Int)=some (.int ((run L W r (replicate (lo * re) c):Nat):Int)):=a_R (by rw [intsV,fC,qa6,qa6,getElem?_range hrW];rfl)
   have r2:=a_M hMa hrW (c_G (k:=lo * re) hcL)
   refine (tt,_,rfl,SqT.of (sm6 _ _ htt),rfl,_,_,rfl,_,_,rfl,rfl,?_)
   refine (_,rfl,_,rfl,iqT (sm6 _ _ hac5) ai (_,rfl,rfl,_,rfl,iw (λhne=>?_) (λheq=>(_,_,rfl,sm6,λi' r' hi' hr''=>?_))))
   .have hne:run L W r (replicate (lo * re) c)≠r:=λz=>hne (by rw [z])
    refine (_,rfl,_,rfl,_,rfl,_,rfl,_,rfl,_,rfl,iqT (sm6 _ _ hac5) ai (m,L,W,B,r,_,rfl,hM5.same sm6,hMa,hrW,r2,λo H7 s7 hpo=>?_))
    cases o with
    | none=>exact absurd (hLe.unlike hrW r2 ((hpo.spec hMa hrW r2).1 rfl)).symm hne
    | some z=>
     obtain ⟨hz,_,hy,_⟩:=(hpo.spec hMa hrW r2).2 z rfl
     have lz:=ef hpo hMa hrW r2
     refine (b4,λtp htp=>?_)
     have s8:=sm6.trans (s7.trans (Same.upd (o:=.tup [.str (Str.ofString "stay"),.str (tx w),.str (tx (replicate (lo * re) c)),.str (tx z)]) htp))
     exact q2 tp w _ z _ (λb o hb e=>s8 _ _ (sx5 b o hb (s1 _ _ e))) (b_n hT5 s8) upd_same (StOk.of hLe hM0 hR hcL h8 cw hwsh hz (by lia) (by rw [er];exact hrW) (by rw [er];exact hne) (by rw [er];exact hy))
   .rcases lt_succ_iff_lt_or_eq.mp hi' with z|z
    .exact hall i' r' z hr''
    .rw [z,hr'] at hr''
     cases hr''
     exact Int.ofNat.inj (V.int.inj heq)
  .rintro σ' H6 ⟨v5,v6,rfl,sm6,hall⟩
   refine (_,_,_,_,_,_,rfl,λb o hb e=>sm6 _ _ (sx5 b o hb e),b_n hT5 sm6,λi p hi hpi=>?_)
   rcases lt_succ_iff_lt_or_eq.mp hi with z|z
   .exact hlow i p z hpi
   .rw [z,ej] at hpi
    cases hpi
    refine hR.low0 λr hr0=>?_
    obtain ⟨v,fs⟩:=hLe.firsts hM0
    obtain ⟨en,ei⟩:=fs.order hMa bf0 hrs
    have hri:r<rs.length:=by rw [en];exact hr0
    have:=ei r _ (qa2 hri)
    exact hall r r (by rw [hxl];exact hri) (by rw [qa2 hri,this])
 .rintro σ' H2 ⟨_,_,_,_,_,_,rfl,sm,hT2,hlow⟩
  refine q1 H2 (λb o hb e=>sm b o hb (s1 _ _ e)) hT2 λc hc low rest hR=>?_
  obtain ⟨i,hi⟩:=mem_iff_getElem?.mp hc
  have hil:=(qa1 hi).1
  have hir:i<rows.length:=by rw [hl];exact hil
  rw [(hR.uniq (hro i c _ hi (qa2 hir))).1]
  exact hlow i _ (by rw [qa4,a_P];exact hil) (qa2 hir)
theorem c_Y:a_e [Q7,"swap"] [Q7] (a_c c_h):=fsc
theorem e_S (F:Fun K "bar_of_counts" "bar_of_counts" c_h f fd) (T:Txt K mg) (yI:Df P w K mg base "swap_in" 8 [Q7] (bv P0 sites)) (yK:Df P w K mg base "stay_in" 8 [Q7] (bw P0 sites)):aa P w K mg base CX0 9 f fd [Q7] (ck P0 sites):=by
 refine F.okA c_Y ?_
 rintro _ _ _ _ _ _ _ _ hr ⟨m,L,W,B,W0,B0,rfl,hM,hLe,hM0,hW8,rc,hT0,q1,q2,q3⟩
 refine (_,(a_a ((stS 1 c_Y.nd ((a_l yI hr (pq1 (pv 0)))))) (a_a ((a_N (a_B cO (pv 1) g_x (a_S _)) ((a_b (a_f (pv 1)))) (a_m))) (a_b (a_f (a_l yK hr (pq1 (pv 0))))))),?_)
 refine (_,rfl,m,L,W,B,W0,B0,rfl,hM,hLe,hM0,hW8,hT0,λH1 a1 a2 cm=>?_,λt x y H1 a1 a2 ht hsw=>?_)
 .exact (_,rfl,rfl,_,rfl,af (_,rfl,m,L,W,B,W0,B0,rfl,hM.tups (b_C a1 hT0),hLe,hM0,hW8,cm,rc,a2,λH2 b1 b2 lz=>q1 H2 (b_P a1 b1) b2 cm lz,λt x y z H2 b1 b2=>q3 t x y z H2 (b_P a1 b1) b2))
 .exact (_,rfl,rfl,_,rfl,aj (_,rfl,q2 t x y H1 a1 a2 ht hsw))
theorem b_O:a_e ["sizes","cells","size","longer","cell"] ["sizes"] (a_c e_B):=fsc
theorem ok_cells_of (F:Fun K "cells_of" "cells_of" e_B f fd) (T:Txt K mg):aa P w K mg base CX0 1 f fd ["sizes"] sp_cells:=by
 refine F.okA b_O ?_
 rintro _ _ _ s H _ _ _ _ ⟨s,ns,rfl,hs,hn3,hn8,q⟩
 refine (_,(a_a ((stS 1 b_O.nd (a_G (pq1 (a_W b_d))))) (a_a ((a_F PassesOwn.never rfl (b_Y (pv 0)) (pgN 2 b_O.nd) ((a_a ((stS 3 b_O.nd (a_G b_d))) (a_a ((a_F PassesOwn.never rfl (b_Y (pv 1)) (pgN 4 b_O.nd) ((a_b (a_y (c_Z plainAttrs_list PySem.F.slot_list_extend PySem.F.type_list_extend bH (pv 3) (pq1 (a_u ["sizes","cells","size","longer","cell"] rfl (by decide) (a_E rfl T.range (pq1 (pv 2))) (λcl C fp s' H'=>(a_q,a_j f_y (pv 5) (a_W (pq1 (pv 0))))))))))))) (a_b ((stS 1 b_O.nd (pv 3))))))))) (a_b (a_f (pv 1))))),?_)
 have b1:(1:Nat)≤sizeLine:=a_d (by show 1≤16777216;decide)
 have pw:∀i,(celF (ns.take i)).length≤512:=λi=>by
  have h1:=f_d (ns.take i) λn hn=>hn8 n (List.mem_of_mem_take hn)
  have h2:(ns.take i).length≤3:=le_trans (length_take_le' _ _) hn3
  exact le_trans h1 (le_trans (Nat.pow_le_pow_right (by decide) h2) (by decide))
 refine (zero_le _,λet het=>?_)
 have s1:=Same.upd (o:=.tup []) het
 have ee:L2.upd H et (.tup []) et=some (.tup (intsV [])):=upd_same
 generalize L2.upd H et (.tup [])=H1 at s1 ee
 refine (b1,λc0 hc0=>?_)
 have s2:=Same.upd (o:=.lst [.ref et]) hc0
 have e0:L2.upd H1 c0 (.lst [.ref et]) c0=some (.lst [.ref et]):=upd_same
 generalize L2.upd H1 c0 (.lst [.ref et])=H2 at s2 e0
 refine (_,rfl,s,rfl,(_,SqL.of (s2 _ _ (s1 _ _ hs))),b_H (K:=K) (a:=s) (xs:=intsV ns) (λi σ' H'=>∃(cl:Addr) (vks:List V) (u2 u3 u4:Option V),σ'=[some (.ref s),some (.ref cl),u2,u3,u4]/\Same H H'/\H' cl=some (.lst vks)/\b_e .t H' (celF (ns.take i)) vks) (c0,_,_,_,_,rfl,s1.trans s2,e0,(rfl,λi k v a b=>?_)) ?_ ?_ ?_)
 .match i,a,b with
  | 0,a,b=>
   cases a
   cases b
   unfold ThV
   rw [if_neg (by decide)]
   exact (et,rfl,s2 _ _ ee)
  | i+1,a,_=>simp [celF] at a
 .rintro i σ' H' hi ⟨_,_,_,_,_,rfl,sm,_⟩
  exact SqL.of (sm _ _ hs)
 .rintro i x σ' H3 hx ⟨cl,vks,u2,u3,u4,rfl,sm,hcl,hth⟩
  have hi:i<ns.length:=by have:=(qa1 hx).1;rwa [intsV_len] at this
  rw [b_m hi] at hx
  cases hx
  have en:ns.getD i 0=ns[i]:=by rw [qa3,qa2 hi];rfl
  have hn:=hn8 ns[i] (getElem_mem hi)
  rw [en]
  have esn:celF (ns.take (i+1))=(celF (ns.take i)).flatMap (aA ns[i]):=by rw [a_p (qa2 hi),e_q]
  generalize ns[i]=n at hn esn
  refine (zero_le _,λlg hlg=>?_)
  have hlg0:H lg=none:=b_k sm hlg
  have lne:cl≠lg:=λz=>by rw [<- z,hcl] at hlg;cases hlg
  have s4:=Same.upd (o:=.lst []) hlg
  have e4:L2.upd H3 lg (.lst []) lg=some (.lst []):=upd_same
  generalize L2.upd H3 lg (.lst [])=H4 at s4 e4
  refine (_,rfl,cl,rfl,(_,SqL.of (s4 _ _ hcl)),b_H (K:=K) (a:=cl) (xs:=vks) (λj σ' H'=>∃(vls:List V) (u4:Option V),σ'=[some (.ref s),some (.ref cl),some (.int (n:Int)),some (.ref lg),u4]/\Same H H'/\H' cl=some (.lst vks)/\b_e .t H' (celF (ns.take i)) vks/\H' lg=some (.lst vls)/\b_e .t H' (((celF (ns.take i)).take j).flatMap (aA n)) vls) ([],_,rfl,sm.trans s4,s4 _ _ hcl,hth.same λb xs e=>s4 _ _ e,e4,(rfl,λi k v a=>by simp at a)) ?_ ?_ ?_)
  .rintro j σ' H' hj ⟨_,_,rfl,_,e,_⟩
   exact SqL.of e
  .rintro j v σ' H5 hv ⟨vls,u4,rfl,s5,hcl5,hth5,hlg5,hls5⟩
   have hj:j<(celF (ns.take i)).length:=by rw [<- hth.1];exact (qa1 hv).1
   have hT:=hth5.2 j _ v (qa2 hj) hv
   unfold ThV at hT
   rw [if_neg (by decide)] at hT
   obtain ⟨ca,rfl,hca⟩:=hT
   have hca:H5 ca=some (.tup (intsV (celF (ns.take i))[j])):=hca
   have esj:((celF (ns.take i)).take (j+1)).flatMap (aA n)=((celF (ns.take i)).take j).flatMap (aA n)++aA n (celF (ns.take i))[j]:=by rw [a_p (qa2 hj),List.flatMap_append,List.flatMap_singleton]
   have hcl3:((celF (ns.take i))[j]).length≤3:=by
    rw [((d_v _ _).mp (getElem_mem hj)).1]
    exact le_trans (length_take_le' _ _) hn3
   have hvl:vls.length≤4096:=by
    rw [hls5.1]
    have h1:(((celF (ns.take i)).take j).flatMap (aA n)).length≤((celF (ns.take i)).take j).length * 8:=e_n (λa=>by rw [aA,qa4,length_range];exact hn) _
    have h2:((celF (ns.take i)).take j).length≤(celF (ns.take i)).length:=length_take_le' _ _
    have h3:=pw i
    lia
   generalize (celF (ns.take i))[j]=cc at hca esj hcl3
   refine (_,rfl,.inl (rfl,_,SqL.of hlg5),?_)
   dsimp only [a_O,tNil]
   refine h_E (n:=n) (λR h=>(_,rfl,h)) (le_trans hn (by decide)) hca (λk H' R1 h e=>(_,rfl,_,rfl,b1,oU (le_trans hcl3 (by decide)) e h)) λD ys H' hsm hDl yl hp=>?_
   have hlg6:=hsm _ _ hlg5
   have tk:=e_s (o:=.lst (vls++ys)) hlg6
   have tk5:∀b xs,H5 b=some (.tup xs)->L2.upd H' lg (.lst (vls++ys)) b=some (.tup xs):=λb xs e=>tk b xs (hsm _ _ e)
   refine (lg,D,_,_,rfl,rfl,hlg6,hDl,by rw [yl];exact a_d (by lia),vls++ys,_,rfl,Same.set (s5.trans hsm) hlg0,by rw [upd_ne lne];exact hsm _ _ hcl5,hth5.same tk5,upd_same,?_)
   rw [esj]
   exact g_d (hls5.same tk5) (hp.same tk)
  .rintro σ' H5 ⟨vls,u4,rfl,s5,hcl5,hth5,hlg5,hls5⟩
   rw [hth.1,take_length] at hls5
   refine (_,rfl,lg,vls,_,_,_,rfl,s5,hlg5,?_)
   rw [esn]
   exact hls5
 .rintro σ' H3 ⟨cl,vks,u2,u3,u4,rfl,sm,hcl,hth⟩
  rw [intsV_len,take_length] at hth
  exact (_,rfl,q cl vks H3 sm hcl hth)
theorem cA:a_e [Q8,"cell"] [Q8,"cell"] (a_c d_H):=fsc
theorem ok_word_with (F:Fun K "word_with" "word_with" d_H f fd) (T:Txt K mg):aa P w K mg base CX0 1 f fd [Q8,"cell"] sp_wwith:=by
 refine F.okA cA ?_
 rintro _ _ _ _ _ _ _ _ _ ⟨L,ks,c,rfl,hL3,hc,hkl,hk8,q⟩
 refine (_,(a_b (a_f (c_Z plainAttrs_str PySem.F.slot_str_join PySem.F.type_str_join cS (b_l) (pq1 (c_I [Q8,"cell"] rfl (by decide) (f_u rfl T.zip (pq2 (pv 0) (pv 1))) (λcl C fp s' H'=>(a_q,a_j d_t (pv 0) (pv 1)))))))),?_)
 refine (rfl,?_)
 exact bY (λR h=>(_,rfl,_,rfl,h)) hc hkl hL3 hk8 (λch k H3 R1 hk h=>(_,rfl,_,rfl,_,_,rfl,rfl,pQ hk h)) q
theorem f_i:a_e [Q7,"rows","cells"] [Q7,"rows"] (a_c e_x):=fsc
theorem ok_table_of (F:Fun K "table_of" "table_of" e_x f fd) (T:Txt K mg) (yT:Df P w K mg base "cells_of" 1 ["sizes"] sp_cells) (yz:Df P w K mg base "takes" 5 [Q7,Z7] sp_takes) (yJ:Df P w K mg base "word_with" 1 [Q8,"cell"] sp_wwith):aa P w K mg base CX0 6 f fd [Q7,"rows"] sp_tableof:=by
 refine F.okA f_i ?_
 rintro _ _ _ _ _ _ _ _ hr ⟨m,rl,L,W,B,ts,rows,rfl,hM,hMa,hrl,hrw,hl,h8,q⟩
 have hr1:=hr.mono (j:=1) (by decide)
 refine (_,(a_a ((stS 2 f_i.nd ((a_l yT hr1 (pq1 (a_u [Q7,"rows","cells"] rfl (by decide) (c_c (pv 1)) (λcl C fp s' H'=>(a_q,a_j op_a (pe_ix (ix_tupK K) (pv 0) pe_int (λ_ _=>rfl)) (pe_ix (ix_tupK K) (pv 0) pe_int (λ_ _=>rfl)))))))))) (a_b (a_f (a_u [Q7,"rows","cells"] rfl (by decide) (c_c (pv 2)) (λcl C fp s' H'=>(h7 (b_r (a_l yz hr (pq2 (pv 1) ((a_l yJ hr1 (pq2 (pe_ix (ix_tupK K) (pv 1) pe_int (λ_ _=>rfl)) (pv 0))))))),pv 0)))))),?_)
 obtain ⟨wy,mk,rws,h1,h2,h3,h4,h5⟩:=id hM
 have hL3:=hMa.lt.hi
 have htl:=hrw.1
 dsimp only [tNext,av,au,b_J,a_O,tBM,tCB]
 refine c_C (a:=rl) (λR h=>(_,rfl,h)) (.inl rfl) hrl (λD i ys H'=>ys=intsV ((rows.take i).map λp=>p.1+p.2)) (by rw [qa4,htl,hl];exact a_d (le_trans hL3 (by decide))) (λD hD=>rfl) ?_ ?_
 .intro D i x ys H' R1 R2 hD hx hsm hDl hp k1 k2
  rw [qa6] at hx
  obtain ⟨t,ht,rfl⟩:=qb3 hx
  have hi:i<rows.length:=by rw [<- htl];exact (qa1 ht).1
  have hT:=hsm _ _ (hrw.2 i t _ ht (qa2 hi))
  refine tAlways_if (ivT hT al (ivT hT aq (_,_,rfl,rfl,k1 _ H' hDl (Same.set hsm hD) ?_)))
  rw [hp,a_p (qa2 hi),map_append,map_singleton,a_J]
  rfl
 intro D ys H1 hD s1 hDl hp
 rw [qa4,htl,take_length] at hp
 subst hp
 refine (D,rows.map λp=>p.1+p.2,rfl,hDl,by rw [qa4,hl];exact hL3,λn hn=>?_,λcl vks H2 s2 hcl hth=>?_)
 .obtain ⟨p,hp,rfl⟩:=mem_map.mp hn
  exact h8 p hp
 have s12:=s1.trans s2
 have cle:(celF (rows.map λp=>p.1+p.2)).length≤512:=by
  have e:=f_d (rows.map λp=>p.1+p.2) λn hn=>by
   obtain ⟨p,hp,rfl⟩:=mem_map.mp hn
   exact h8 p hp
  have e2:(rows.map λp=>p.1+p.2).length≤3:=by rw [qa4,hl];exact hL3
  exact le_trans e (le_trans (Nat.pow_le_pow_right (by decide) e2) (by decide))
 refine c_C (a:=cl) (λR h=>(_,rfl,h)) (.inl rfl) hcl (λD i ys H'=>b_e .t H' (((celF (rows.map λp=>p.1+p.2)).take i).filter λks=>B.getD (run L W 0 (wdT L ks)) false) ys) (by rw [hth.1];exact a_d (le_trans cle (by decide))) (λD hD=>(rfl,λi k v a=>by simp at a)) ?_ ?_
 .intro D i v ys H' R1 R2 hD hv hsm hDl hp k1 k2
  have hi:i<(celF (rows.map λp=>p.1+p.2)).length:=by rw [<- hth.1];exact (qa1 hv).1
  have hT:=hth.2 i _ v (qa2 hi) hv
  unfold ThV at hT
  rw [if_neg (by decide)] at hT
  obtain ⟨ca,rfl,hca⟩:=hT
  have hca:H2 ca=some (.tup (intsV (celF (rows.map λp=>p.1+p.2))[i])):=hca
  obtain ⟨m1,m2⟩:=(d_v _ _).mp (getElem_mem hi)
  have et:((celF (rows.map λp=>p.1+p.2)).take (i+1)).filter (λks=>B.getD (run L W 0 (wdT L ks)) false)=((celF (rows.map λp=>p.1+p.2)).take i).filter (λks=>B.getD (run L W 0 (wdT L ks)) false)++if B.getD (run L W 0 (wdT L (celF (rows.map λp=>p.1+p.2))[i])) false=true then [(celF (rows.map λp=>p.1+p.2))[i]] else []:=by
   rw [a_p (qa2 hi),List.filter_append,List.filter_cons,List.filter_nil]
  generalize (celF (rows.map λp=>p.1+p.2))[i]=ks at hca m1 m2 et
  rw [qa4,hl] at m1
  have hk8:∀k∈ks,k≤8:=λk hk=>by
   obtain ⟨j,hj⟩:=mem_iff_getElem?.mp hk
   have hjr:j<rows.length:=by rw [hl,<- m1];exact (qa1 hj).1
   have:=m2 j k (rows[j].1+rows[j].2) hj (by rw [qa6,qa2 hjr];rfl)
   have:=h8 rows[j] (getElem_mem hjr)
   lia
  have s3:=s12.trans hsm
  refine (_,rfl,ivT (s3 _ _ h1) al (_,rfl,L,ks,ca,rfl,hL3,hsm _ _ hca,m1,hk8,λH4 s4=>?_))
  refine (m,L,W,B,wdT L ks,rfl,hM.same (s3.trans s4),hMa,λc hc=>wdT_in hc,_,rfl,?_)
  have s24:=hsm.trans s4
  cases eb:B.getD (run L W 0 (wdT L ks)) false with
  | true=>
   have hD4:=s4 _ _ hDl
   have tk:=e_s (o:=.lst (ys++[.ref ca])) hD4
   refine aj (_,rfl,k1 (.ref ca) H4 hD4 (Same.set s24 hD) ?_)
   rw [et,if_pos eb]
   refine ((hp.same λb xs e=>s4 _ _ e).same tk).snoc ?_
   unfold ThV
   rw [if_neg (by decide)]
   exact (ca,rfl,tk _ _ (s24 _ _ hca))
  | false=>
   refine af (k2 H4 s24 (s4 _ _ hDl) ?_)
   rw [et,if_neg (by rw [eb];exact Bool.false_ne_true),append_nil]
   exact hp.same λb xs e=>s4 _ _ e
 .intro D ys H' hD hsm hDl hp
  rw [hth.1,take_length] at hp
  exact q D ys H' (s12.trans hsm) hDl hp
theorem c_E:a_e [Q7,"rows"] [Q7] (a_c b_W):=fsc
theorem e_D (F:Fun K "paper_of_tally" "paper_of_tally" b_W f fd) (T:Txt K mg) (yn:Df P w K mg base "rows_of" 7 [Q7] sp_rowsof) (yW:Df P w K mg base "table_of" 6 [Q7,"rows"] sp_tableof):aa P w K mg base CX0 8 f fd [Q7] sp_ptally:=by
 refine F.okA c_E ?_
 rintro _ _ _ _ _ _ _ _ hr ⟨m,L,W,B,rfl,hM,hMa,hW8,cm,rc,q⟩
 have hr6:=hr.mono (j:=6) (by decide)
 refine (_,(a_a ((stS 1 c_E.nd ((a_l yn hr (pq1 (pv 0)))))) (a_b (a_f (a_W (pq2 (pv 1) (a_l yW hr6 (pq2 (pv 0) (pv 1)))))))),?_)
 refine (_,rfl,m,L,W,B,rfl,hM,hMa,cm,rc,λrl ts rows H1 s1 hrl hrw hl hro=>?_)
 refine (_,rfl,_,rfl,_,rfl,m,rl,L,W,B,ts,rows,rfl,hM.same s1,hMa,hrl,hrw,hl,λp hp=>?_,λtb vks H2 s2 htb hth=>(a_d (by show 2≤16777216;decide),λt ht=>?_))
 .obtain ⟨i,hi⟩:=mem_iff_getElem?.mp hp
  have hiL:i<L.length:=by rw [<- hl];exact (qa1 hi).1
  have hR:=hro i L[i] p (qa2 hiL) hi
  exact le_trans (d_q hMa cm rc (getElem_mem hiL) hR.apart) hW8
 .have s3:=Same.upd (o:=.tup [.ref rl,.ref tb]) ht
  have s23:=s2.trans s3
  exact q t rl tb ts rows vks _ (s1.trans s23) upd_same (s23 _ _ hrl) (hrw.keep λb xs e=>s23 _ _ e) hl hro (s3 _ _ htb) (hth.same λb xs e=>s3 _ _ e)
theorem c_q:a_e [Q7,"paper"] [Q7] (a_c b_Q):=fsc
theorem e_b (F:Fun K "paper_of_counts" "paper_of_counts" b_Q f fd) (T:Txt K mg) (yF:Df P w K mg base "paper_of_tally" 8 [Q7] sp_ptally):aa P w K mg base CX0 9 f fd [Q7] sp_pcnt:=by
 refine F.okA c_q ?_
 rintro _ _ _ _ _ _ _ _ hr ⟨m,L,W,B,rfl,hM,hMa,hW8,cm,rc,q⟩
 refine (_,(a_a ((stS 1 c_q.nd ((a_l yF hr (pq1 (pv 0)))))) (a_b (a_f (a_W (pq2 (a_u [Q7,"paper"] rfl (by decide) (c_c (xqV 1)) (λcl C fp s' H'=>(a_q,pe_ix (ix_tupK K) (pv 0) pe_int (λ_ _=>rfl)))) (xqV 1)))))),?_)
 have hL3:=hMa.lt.hi
 refine (_,rfl,m,L,W,B,rfl,hM,hMa,hW8,cm,rc,λt rl tb ts rows vks H1 s1 ht hrl hrw hl hro htb hth=>?_)
 have htl:=hrw.1
 dsimp only [b_y]
 dsimp only [tNext,av,aI,nQ,a_O]
 refine c_C (a:=rl) (λR h=>(ivT ht al h)) (.inl rfl) hrl (λD i ys H'=>ys=intsV ((rows.take i).map λp=>p.2)) (by rw [qa4,htl,hl];exact a_d (le_trans hL3 (by decide))) (λD hD=>rfl) ?_ ?_
 .intro D i x ys H' R1 R2 hD hx hsm hDl hp k1 k2
  rw [qa6] at hx
  obtain ⟨u,hu,rfl⟩:=qb3 hx
  have hi:i<rows.length:=by rw [<- htl];exact (qa1 hu).1
  have hT:=hsm _ _ (hrw.2 i u _ hu (qa2 hi))
  refine tAlways_if (ivT hT aq (k1 _ H' hDl (Same.set hsm hD) ?_))
  rw [hp,a_p (qa2 hi),map_append,map_singleton,a_J]
 .intro D ys H' hD hsm hDl hp
  rw [qa4,htl,take_length] at hp
  subst hp
  refine (ivT (hsm _ _ ht) aq (a_d (by show 2≤16777216;decide),λu hu=>?_))
  have s3:=Same.upd (o:=.tup [.ref D,.ref tb]) hu
  have s23:=hsm.trans s3
  exact q u D tb rows vks _ (s1.trans s23) upd_same (s3 _ _ hDl) hl hro (s23 _ _ htb) (hth.same λb xs e=>s23 _ _ e)
theorem g_g:a_e [Z9] [Z9] (a_c c_O):=fsc
theorem g_m (F:Fun K "first_rooms" "first_rooms" c_O f fd) (T:Txt K mg) (yu:Df P w K mg base "many_lots" 1 [Z9] sp_manyM):aa P w K mg base CX0 2 f fd [Z9] sp_firstrooms:=by
 refine F.okA g_g ?_
 rintro _ _ _ _ _ _ _ _ hr ⟨a,ns,rfl,hH,hn,h60,hx60,hdn,q⟩
 refine (_,(a_b (a_f (a_u [Z9] rfl (by decide) (a_E rfl T.range (pq1 (a_l yu hr (pq1 (pv 0))))) (λcl C fp s' H'=>(a_q,i0 K (pv 1) (pq1 (pv 0))))))),?_)
 obtain ⟨M,hM,hmx⟩:=kO hn
 have hM60:=hx60 M hM
 dsimp only [aI,b_y,tNext,av,au,b_J,a_O,tBM,tCB]
 exact f_Z (n:=M+1) (λj=>ns.idxOf j) (λR h=>(_,rfl,a,ns,rfl,hH,hn,λM2 hM2 hmx2=>by rw [show M2=M from le_antisymm (hmx M2 hM2) (hmx2 M hM)];exact h)) (by lia) (λj hj H' R1 hsm h=>(_,rfl,.inl (rfl,_,SqL.of (hsm _ _ hH)),_,rfl,a,zs ns,(j:Int),rfl,rfl,by rw [<- e_i];exact hsm _ _ hH,mem_map.mpr (j,hdn M j hM (Nat.le_of_lt_succ hj),rfl),by rw [jP];exact h)) λD H' hsm hDl hD=>q (M+1) D H' (Nat.succ_pos M,λx hx=>Nat.lt_succ_of_le (hmx x hx),λj hj=>hdn M j hM (Nat.le_of_lt_succ hj)) hsm hD hDl
theorem d_Y:a_e ["walk",Z9,"rooms",Z8,"marks"] ["walk",Z9] (a_c g_Z):=fsc
theorem ok_folded (F:Fun K "folded" "folded" g_Z f fd) (T:Txt K mg) (WK:WkK K cW) (vx:Df P w K mg base "first_rooms" 2 [Z9] sp_firstrooms):aa P w K mg base CX0 3 f fd ["walk",Z9] (bx cW):=by
 refine F.okA d_Y ?_
 rintro _ _ _ _ _ _ _ _ hr ⟨wk,t,wd,y,md,lo,rows,L,R,Bm,k,rfl,hW,hy,hwr,hmd,hMa,hlo,q⟩
 refine (_,(a_a ((stS 2 d_Y.nd ((a_l vx hr (pq1 (pv 1)))))) (a_a (b_w ["walk",Z9,"rooms",Z8,"marks"] (j:=3) rfl d_Y.nd (by decide) rfl (Or.inl rfl) (c_c (pv 2)) (λcl C fp s' H'=>(a_q,a_x (g_b K) (by rfl) T.tuple boot_tuple (pq1 (a_u ["room","walk",Z9,"rooms",Z8,"marks"] rfl (show List.Nodup (["goal","room","walk",Z9,"rooms",Z8,"marks"]:List Str) by decide) (c_c (pe_ix (b_b K) (ie (f:=Z8) K (pv 1) rfl) (pv 0) (λ_ _=>rfl))) (λcl C fp s' H'=>(a_q,pe_ix (b_b K) (pv 3) (pv 0) (λ_ _=>rfl)))))))) (a_a (b_w ["walk",Z9,"rooms",Z8,"marks"] (j:=4) rfl d_Y.nd (by decide) rfl (Or.inl rfl) (c_c (pv 2)) (λcl C fp s' H'=>(a_q,pe_ix (b_b K) (ie (f:="marks") K (pv 1) rfl) (pv 0) (λ_ _=>rfl)))) (a_b (a_f (a_W (pq3 (b_E (f:=Q8) (pv 0) rfl) (a_x a_i (by rfl) T.tuple boot_tuple (pq1 (pv 3))) (a_x a_i (by rfl) T.tuple boot_tuple (pq1 (pv 4)))))))))),?_)
 obtain ⟨dx,ew⟩:=hW.ex
 have hn60:=hMa.n60
 have hll:=c_J hMa k
 refine (_,rfl,lo,Rd R Bm k,rfl,hlo,by rw [hll];exact hMa.n1,by rw [hll];exact hn60,λx hx=>lt_of_lt_of_le (fk hMa hx) hn60,λM j hM hj=>nb hM hj,λm p H1 hm s1 hpn hp=>?_)
 have hm60:m≤60:=by
  have:=fk hMa (hm.has (m - 1) (by have:=hm.pos;lia))
  have:=hm.pos
  lia
 have hpl:(intsV ((List.range m).map λj=>(Rd R Bm k).idxOf j)).length=m:=by rw [intsV_len,qa4,length_range]
 have room:∀{j:Nat} {x:V},(intsV ((List.range m).map λj=>(Rd R Bm k).idxOf j))[j]?=some x->j<m/\x=.int (((Rd R Bm k).idxOf j:Nat):Int):=λ{j x} e=>by
  have hj:j<m:=by have:=(qa1 e).1;rwa [hpl] at this
  rw [b_m (by rw [qa4,length_range];exact hj)] at e
  cases e
  refine (hj,?_)
  rw [qa3,qa6,getElem?_range hj]
  rfl
 dsimp only [b_y]
 dsimp only [tNext,av,au,b_J,a_O,tBM,tCB]
 refine c_C (a:=p) (λR h=>(_,rfl,h)) (.inl rfl) hp (λD j ys H'=>∃ps:List Addr,ys=ps.map V.ref/\ps.length=j/\∀(i:Nat) (t:Addr),ps[i]?=some t->i<m/\H' t=some (.tup (intsV ((c_b R (Rd R Bm k) m).getD i [])))) (by rw [hpl];exact a_d (le_trans hm60 (by decide))) (λD hD=>([],rfl,rfl,λi t e=>by simp at e)) ?_ ?_
 .intro D j x ys H' R1 R2 hD hx hsm hDl hpv k1 k2
  obtain ⟨ps,rfl,hpsl,hps⟩:=hpv
  obtain ⟨hj,rfl⟩:=room hx
  obtain ⟨f1,f2⟩:=f_T hm hMa hj
  have s2:=s1.trans hsm
  obtain ⟨ra,hra⟩:∃ra,rows[(Rd R Bm k).idxOf j]?=some ra:=(rows[(Rd R Bm k).idxOf j]'(by rw [hwr.1];exact f1),qa2 _)
  have hraH:=s2 _ _ (hwr.2 _ ra _ hra (qa2 f1))
  obtain ⟨hwl,hwb⟩:=hMa.row _ (getElem_mem f1)
  refine tAlways_if ?_
  dsimp only [tNext,av,au,b_J,a_O,tBM,tCB]
  refine c_C (a:=ra) (λR h=>(_,rfl,wk,cW,dx,_,_,rfl,s2 _ _ ew,WK.cls,WK.na4,rfl,_,rfl,iqL (s2 _ _ hy) (a_Z V.ref hra) h)) (.inl rfl) hraH (λD2 i zs2 H4=>zs2=(intsV (R[(Rd R Bm k).idxOf j].map λg=>(Rd R Bm k).getD g 0)).take i) (by rw [intsV_len,hwl];exact a_d (le_trans hMa.lt.hi (by decide))) (λD2 hD2=>by simp) ?_ ?_
  .intro D2 i y2 zs2 H4 R3 R4 hD2 hy2 hsm4 hD2l hp2 k3 k4
   have hi:i<R[(Rd R Bm k).idxOf j].length:=by have:=(qa1 hy2).1;rwa [intsV_len] at this
   rw [b_m hi] at hy2
   cases hy2
   refine tAlways_if (_,rfl,_,rfl,iqL (hsm4 _ _ (s2 _ _ hlo)) (a_D (by rw [hll];exact hwb _ (da hi))) (k3 _ H4 hD2l (Same.set hsm4 hD2) ?_))
   rw [hp2]
   refine (a_p ?_).symm
   rw [b_m (by rw [qa4];exact hi),eF hi]
  .intro D2 zs2 H4 hD2 hsm4 hD2l hp2
   rw [intsV_len,take_of_length_le (by rw [intsV_len,qa4];exact le_refl _)] at hp2
   subst hp2
   refine (D2,_,rfl,.inl (SqL.of hD2l,λb hb=>?_))
   have s5:=hsm4.trans (Same.upd (o:=.tup (intsV (R[(Rd R Bm k).idxOf j].map λg=>(Rd R Bm k).getD g 0))) hb)
   refine k1 (.ref b) _ (s5 _ _ hDl) (Same.set (hsm.trans s5) hD) (ps++[b],by rw [map_append];rfl,by rw [qa5,hpsl];rfl,λi u e=>?_)
   have hD5:=s5 _ _ hDl
   rcases b_V e with z|⟨rfl,rfl⟩
   .obtain ⟨a1,a2⟩:=hps i u z
    exact (a1,upd_keep2 (s5 _ _ a2) hD5 (by intro z;cases z))
   .rw [hpsl]
    refine (hj,upd_keep2 ?_ hD5 (by intro z;cases z))
    rw [upd_same,bT hj,qa3,qa2 f1]
    rfl
 intro Dw ys H2 hDw hsm2 hDwl hpv
 obtain ⟨ps,rfl,hpsl,hps⟩:=hpv
 rw [hpl] at hpsl
 have hp2:=hsm2 _ _ hp
 have s2:=s1.trans hsm2
 dsimp only [b_y]
 dsimp only [tNext,av,au,b_J,a_O,tBM,tCB]
 refine c_C (a:=p) (λR h=>(_,rfl,h)) (.inl rfl) hp2 (λD j ys H'=>ys=((e_U Bm (Rd R Bm k) m).map V.bl).take j) (by rw [hpl];exact a_d (le_trans hm60 (by decide))) (λD hD=>by simp) ?_ ?_
 .intro D j x ys H' R1 R2 hD hx hsm hDl hpv k1 k2
  obtain ⟨hj,rfl⟩:=room hx
  obtain ⟨f1,f2⟩:=f_T hm hMa hj
  have s3:=s2.trans hsm
  refine tAlways_if (_,rfl,wk,cW,dx,_,_,rfl,s3 _ _ ew,WK.cls,WK.na5,rfl,_,rfl,iqL (s3 _ _ hmd) (f_L (by rw [hMa.bl];exact f1)) (k1 _ H' hDl (Same.set hsm hD) ?_))
  rw [hpv]
  refine (a_p ?_).symm
  rw [qa6,e_U,qa6,getElem?_range hj]
  rfl
 intro Dm ys H3 hDm hsm3 hDml hpv
 rw [hpl,take_of_length_le (by rw [qa4,e_U,qa4,length_range];exact le_refl _)] at hpv
 subst hpv
 have s3:=s2.trans hsm3
 refine (_,rfl,wk,cW,dx,_,_,rfl,s3 _ _ ew,WK.cls,WK.na1,rfl,?_)
 refine (_,rfl,Dw,_,rfl,.inl (SqL.of (hsm3 _ _ hDwl),λtw htw=>?_))
 refine (_,rfl,Dm,_,rfl,.inl (SqL.of (a_g hDml htw),λtm htm=>(a_d (by show 3≤16777216;decide),λf hf=>?_)))
 have u1:Same H3 (L2.upd H3 tw (.tup (ps.map V.ref))):=Same.upd htw
 have u2:=u1.trans (Same.upd (o:=.tup ((e_U Bm (Rd R Bm k) m).map V.bl)) htm)
 have u3:=u2.trans (Same.upd (o:=.tup [.str (tx L),.ref tw,.ref tm]) hf)
 refine q m f _ hm (s3.trans u3) (b_k (s3.trans u2) hf) (tw,tm,ps,upd_same,a_g (a_g upd_same htm) hf,a_g upd_same hf,by rw [hpsl,c_b,qa4,length_range],λi r e=>?_)
 obtain ⟨a1,a2⟩:=hps i r e
 refine ((c_b R (Rd R Bm k) m).getD i [],?_,(hsm3.trans u3) _ _ a2)
 rw [qa3,c_b,qa6,getElem?_range a1]
 rfl
theorem g_S:a_e [Q7,"walk","rounds"] [Q7] (a_c cG):=fsc
theorem ok_least (F:Fun K "least" "least" cG f fd) (T:Txt K mg) (WK:WkK K cW) (yb:Df P w K mg base "walked_machine" 6 [Q7] (e_Y cW P0 sites)) (yw:Df P w K mg base "rounds_of" 2 [Z8,"marks","most"] sp_roundsQ) (vv:Df P w K mg base "folded" 3 ["walk",Z9] (bx cW)):aa P w K mg base CX0 7 f fd [Q7] (dI P0 sites):=by
 refine F.okA g_S ?_
 rintro _ _ _ _ _ _ _ _ hr ⟨m,L,W,B,rfl,hM,hMa,hT,q⟩
 have hr2:=hr.mono (j:=2) (by decide)
 have hr3:=hr.mono (j:=3) (by decide)
 refine (_,(a_a ((stS 1 g_S.nd ((a_l yb hr (pq1 (pv 0)))))) (a_a ((stS 2 g_S.nd ((a_l yw hr2 (pq3 ((b_E (f:=Z8) (pv 1) rfl)) ((b_E (f:="marks") (pv 1) rfl)) ((lqQ T.len ((b_E (f:=Z8) (pv 1) rfl))))))))) (a_b (a_f (a_l vv hr3 (pq2 (pv 1) (xqL (pv 2) (aH e_K pe_int)))))))),?_)
 refine (_,rfl,m,L,W,B,rfl,hM,hMa,hT,λwk t wd y md ks vks ws rows R Bm H1 s1 hT1 hW ht hth hwd hy hwr hmd bf ways hR bl mks sub le=>?_)
 have hRM:=iP hMa bf ways hR bl le
 obtain ⟨dx,ew⟩:=hW.ex
 refine (_,rfl,wk,cW,dx,_,_,rfl,ew,WK.cls,WK.na4,rfl,_,rfl,wk,cW,dx,_,_,rfl,ew,WK.cls,WK.na5,rfl,_,rfl,wk,cW,dx,_,_,rfl,ew,WK.cls,WK.na4,rfl,y,_,rfl,.inl (SqL.of hy),?_)
 refine (y,md,rows,_,_,L,R,Bm,by rw [qa4,hwr.1];rfl,.inl rfl,hy,.inl rfl,hmd,hwr.1,λi r e=>?_,hRM,λp lots k H2 s2 hp hll hlots st hk=>?_)
 .have hi:i<R.length:=by rw [<- hwr.1];exact (qa1 e).1
  exact (R[i],qa2 hi,_,.inl rfl,hwr.2 i r _ e (qa2 hi))
 obtain ⟨la,hla⟩:∃la,lots[k]?=some la:=(lots[k]'(by rw [hll];exact lt_succ_self k),qa2 _)
 have hla1:=hlots k la hla
 have hat:=g_c hll hla
 refine (_,rfl,_,rfl,_,rfl,iqL hp hat ?_)
 refine (wk,t,wd,y,md,la,rows,L,R,Bm,k,rfl,(dx,s2 _ _ ew),s2 _ _ hy,(hwr.1,λi a r a1 a2=>s2 _ _ (hwr.2 i a r a1 a2)),s2 _ _ hmd,hRM,hla1,λmm f H3 hm s3 hf hMf=>?_)
 exact q f _ _ H3 (b_P s1 (dP (s2.trans s3))) (b_n (b_n hT1 s2) s3) hMf (ks,ws,R,Bm,k,mm,bf,ways,hR,bl,mks,sub,le,hRM,st,hm,rfl,rfl)
theorem cC:a_e [Z8,"kind"] [Z8,"kind"] (a_c d_L):=fsc
theorem ok_need_kind (F:Fun K "need_kind" "need_kind" d_L f fd) (T:Txt K mg):aa P w K mg base CX0 1 f fd [Z8,"kind"] (dH P w):=by
 refine F.okA cC ?_
 rintro _ _ _ _ _ _ _ _ _ ⟨d,kvs,k,v,rfl,hd,hv,q⟩
 refine (_,(a_b ((a_N (a_B bD (pv 1) (pv 0) (by with_unfolding_all rfl)) ((a_b (ps_dead))) (a_m)))),?_)
 refine (_,rfl,_,rfl,d,k,kvs,rfl,rfl,hd,_,rfl,?_)
 rw [hv]
 exact af q
theorem g_u:a_e [Q7,"bar_of","paper_of","bar"] [Q7,"bar_of","paper_of"] (a_c f_l):=fsc
theorem ok_told_by (F:Fun K "told_by" "told_by" f_l f fd) (T:Txt K mg) (yh:Df P w K mg base "bar_of_counts" 9 [Q7] (ck P0 sites)) (yd:Df P w K mg base "paper_of_counts" 9 [Q7] sp_pcnt):aa P w K mg base CX0 10 f fd [Q7,"bar_of","paper_of"] (g_r mg P0 sites):=by
 refine F.okA g_u ?_
 rintro _ _ _ _ _ _ _ _ hr ⟨m,fb,fp,L,W,B,W0,B0,rfl,e1,e2,hM,hLe,hM0,hW8,hT0,q⟩
 obtain ⟨f1,fd1,g1,k1,c1,F1⟩:=yh
 obtain ⟨f2,fd2,g2,k2,c2,F2⟩:=yd
 rw [g1] at e1
 rw [g2] at e2
 cases e1
 cases e2
 refine (_,(a_a ((stS 3 g_u.nd (d7 (i:=1) F1 hr k1 c1 (pv 1) (pq1 (pv 0))))) (a_a ((a_N (a_B cO (pv 3) g_x (a_S _)) ((a_b (a_f (a_W (pq2 c_l (pv 3)))))) (a_m))) (a_b (a_f (a_W (pq2 c_l (d7 (i:=2) F2 hr k2 c2 (pv 2) (pq1 (pv 0))))))))),?_)
 have b2:(2:Nat)≤sizeLine:=a_d (by show 2≤16777216;decide)
 have hl:=hLe.len
 have hMa:=hLe.mach
 have rch:Rch L W:=λr hr0=>by
  obtain ⟨v,fs⟩:=hLe.firsts hM0
  exact (v r,fs.over r hr0)
 refine (rfl,_,rfl,m,L,W,B,W0,B0,rfl,hM,hLe,hM0,le_trans hl hW8,rch,hT0,λH1 a1 a2 cm lz=>?_,λt x y H1 a1 a2 ht hsw=>?_,λt x y z H1 a1 a2 ht hst=>?_)
 .refine (_,rfl,rfl,_,rfl,af (rfl,_,rfl,m,L,W,B,rfl,hM.tups (b_C a1 hT0),hMa,le_trans hl hW8,cm,rch,λp rl tb rows vks H2 s2 hp hrl hrln hro htb hth=>(b2,λt ht=>?_)))
  have s3:=Same.upd (o:=.tup [.bl true,.ref p]) ht
  have s23:=s2.trans s3
  exact q t _ (λb o hb e=>s23 _ _ (a1 b o hb e)) (b_n a2 s23) (.inl (p,rl,tb,rows,vks,W,B,upd_same,s3 _ _ hp,s3 _ _ hrl,hrln,hLe,cm,rch,lz,hro,s3 _ _ htb,hth.same λb xs e=>s3 _ _ e))
 .refine (_,rfl,rfl,_,rfl,aj (_,rfl,b2,λp hp=>?_))
  have s3:=Same.upd (o:=.tup [.bl false,.ref t]) hp
  exact q p _ (λb o hb e=>s3 _ _ (a1 b o hb e)) (b_n a2 s3) (.inr (.inl (t,x,y,upd_same,s3 _ _ ht,hsw)))
 .refine (_,rfl,rfl,_,rfl,aj (_,rfl,b2,λp hp=>?_))
  have s3:=Same.upd (o:=.tup [.bl false,.ref t]) hp
  exact q p _ (λb o hb e=>s3 _ _ (a1 b o hb e)) (b_n a2 s3) (.inr (.inr (t,x,y,z,upd_same,s3 _ _ ht,hst)))
theorem g_f:a_e [Q7] [Q7] (a_c c_M):=fsc
theorem g_l (F:Fun K "tell_counts" "tell_counts" c_M f fd) (T:Txt K mg) (v7:Df P w K mg base "least" 7 [Q7] (dI P0 sites)) (yZ:Df P w K mg base "told_by" 10 [Q7,"bar_of","paper_of"] (g_r mg P0 sites)) (yh:Df P w K mg base "bar_of_counts" 9 [Q7] (ck P0 sites)) (yd:Df P w K mg base "paper_of_counts" 9 [Q7] sp_pcnt):aa P w K mg base CX0 11 f fd [Q7] (gX P0 sites):=by
 refine F.okA g_f ?_
 rintro _ _ _ _ _ _ _ _ hr ⟨m,L,W,B,rfl,hM,hMa,hW8,hT0,q⟩
 have hr7:=hr.mono (j:=7) (by decide)
 obtain ⟨f1,fd1,g1,k1,c1,F1⟩:=id yh
 obtain ⟨f2,fd2,g2,k2,c2,F2⟩:=id yd
 refine (_,(a_b (a_f (a_l yZ hr (pq3 ((a_l v7 hr7 (pq1 (pv 0)))) (c_U (v:=.ref f1) rfl g1 rfl) (c_U (v:=.ref f2) rfl g2 rfl))))),?_)
 refine (_,rfl,m,L,W,B,rfl,hM,hMa,hT0,λf W1 B1 H1 s1 hT1 hM1 hLe=>?_)
 exact (f,f1,f2,L,W1,B1,W,B,rfl,g1,g2,hM1,hLe,hMa,hW8,hT1,λt H' a1 a2 hF=>q t H' (b_P s1 a1) a2 hF)
theorem hV:a_e ["kind",Q7,Z8] ["kind",Q7] (a_c fQ):=fsc
theorem ok_tell (F:Fun K "tell" "tell" fQ f fd) (T:Txt K mg) (g1:mg "tell_first"=some (.ref u1)) (g2:mg "tell_last"=some (.ref u2)) (g3:mg "tell_within"=some (.ref u3)) (g4:mg "tell_tally"=some (.ref u4)) (g6:mg "tell_onward"=some (.ref u6)) (g7:mg "tell_plain"=some (.ref u7)) (yV:Df P w K mg base "need_kind" 1 [Z8,"kind"] (dH P w)) (yH:Df P w K mg base "tell_counts" 11 [Q7] (gX P0 sites)):aa P w K mg base CX0 12 f fd ["kind",Q7] (bu P0 sites):=by
 refine F.okA hV ?_
 rintro _ _ _ _ _ _ _ _ hr ⟨m,L,W,B,rfl,hM,hMa,hW8,hT0,q⟩
 have hr1:=hr.mono (j:=1) (by decide)
 obtain ⟨u5,fd3,g5,k3,b3,F3⟩:=yH
 refine (_,(a_a ((stS 2 hV.nd (kr (.cons b_l (c_U (v:=.ref u1) rfl g1 rfl) (.cons b_l (c_U (v:=.ref u2) rfl g2 rfl) (.cons b_l (c_U (v:=.ref u3) rfl g3 rfl) (.cons b_l (c_U (v:=.ref u4) rfl g4 rfl) (.cons b_l (c_U (v:=.ref u5) rfl g5 rfl) (.cons b_l (c_U (v:=.ref u6) rfl g6 rfl) (.cons b_l (c_U (v:=.ref u7) rfl g7 rfl) (.nil)))))))) (by show ([Str.ofString "first",Str.ofString "last",Str.ofString "within",Str.ofString "tally",Str.ofString "counts",Str.ofString "onward",Str.ofString "plain"]:List Str).Nodup;decide +kernel) (by show 0<7;decide) (by show 7≤15;decide)))) (a_a (a_y (a_l yV hr1 (pq2 (pv 2) (pv 0)))) (a_b (a_f (ky F3 hr k3 b3 (pe_ix ix_dictX (pv 2) (pv 0) (λ_ _=>rfl)) (pq1 (pv 1))))))),?_)
 intro dd H1 hdd s1 hd
 refine (_,rfl,_,rfl,dd,_,_,.ref u5,rfl,hd,rfl,?_)
 refine (_,rfl,_,rfl,dd,_,_,.ref u5,rfl,rfl,hd,rfl,rfl,_,rfl,m,L,W,B,rfl,hM.same s1,hMa,hW8,b_n hT0 s1,λt H' e1 e2 hW=>?_)
 exact q t H' (λb o hb e=>e1 b o hb (s1 _ _ e)) e2 hW
theorem g_T:a_e [Q0,Q5] [Q0,Q5] (a_c d_f):=fsc
theorem h_j (F:Fun K "_law_takes" "_law_takes" d_f f fd) (T:Txt K mg) (yy:Df P w K mg base "_law_after" 1 [Q0,Z2,Q5] sp_after):aa P w K mg base CX0 2 f fd [Q0,Q5] sp_ltakes:=by
 refine F.okA g_T ?_
 rintro _ _ _ _ _ _ _ _ hr ⟨m,L,W,B,w,rfl,hM,hMa,hw,q⟩
 refine (_,(a_b (a_f (xqT (xqV 0) (a_l yy hr (pq3 (pv 0) (pe_int) (pv 1)))))),?_)
 obtain ⟨wy,mk,rows,h1,h2,h3,h4,h5⟩:=id hM
 have hp:0<W.length:=by have:=hMa.n1;lia
 have hlt:=a_M hMa hp hw
 exact (ivT h1 aC (_,rfl,_,rfl,m,L,W,B,0,w,rfl,hM,hMa,hp,hw,iqT h3 (f_L (by rw [hMa.bl];exact hlt)) q))
theorem c_F:a_e ["_law_words",Q3,Q5] ["_law_words",Q3] (a_c b_X):=fsc
theorem e_E (F:Fun K "_law_bar_words" "_law_bar_words" b_X f fd) (T:Txt K mg) (v9:Df P w K mg base "_law_is_word" 1 [Q6,Q3] sp_isword):aa P w K mg base CX0 2 f fd ["_law_words",Q3] sp_lbw:=by
 refine F.okA c_F ?_
 rintro _ _ _ _ H _ _ _ hr ⟨p,L,ws,rfl,hp,hws,q⟩
 refine (_,(a_a ((a_F PassesOwn.never rfl (ko (pv 0)) (pgN 2 c_F.nd) ((a_b ((a_N ((g_h (c_H (b_r (a_l v9 hr (pq2 (pv 2) (pv 1))))) (f_t (a_B kB (lqS T.len (pv 2)) pe_int (a_S _)))).pt) ((a_b (a_f c_l))) (a_m))))))) (a_b (a_f c_l))),?_)
 refine (_,rfl,p,rfl,(_,SqT.of hp),iz (K:=K) (a:=p) (xs:=wordsV ws) (λi σ' H'=>∃s2,σ'=[some (.ref p),some (.str (tx L)),s2]/\Same H H') (_,rfl,Same.refl H) ?_ ?_ ?_)
 .rintro i σ' H' hi ⟨_,rfl,sm⟩
  exact SqT.of (sm _ _ hp)
 .rintro i x σ' H1 hx ⟨s2,rfl,sm⟩
  rw [wordsV,qa6] at hx
  obtain ⟨y,hy,rfl⟩:=qb3 hx
  obtain ⟨k1,k2⟩:=hws y (qb2 hy)
  refine (_,rfl,_,rfl,L,y,rfl,k1,by exact le_trans k2 (by decide),λH2 s2'=>(_,rfl,af (_,rfl,_,rfl,a_d (by rw [a_k];exact le_trans k2 (by decide)),_,_,rfl,rfl,_,rfl,?_)))
  exact k7 (λz=>by rw [a_k] at z;lia) (_,rfl,sm.trans s2')
 .rintro σ' H1 ⟨s2,rfl,sm⟩
  exact q H1 sm
theorem b_p:a_e [Q0,Q5,"_law_times","_law_act",Q6] [Q0,Q5,"_law_times"] (a_c d_h):=fsc
theorem h_l (F:Fun K "_law_power" "_law_power" d_h f fd) (T:Txt K mg) (yy:Df P w K mg base "_law_after" 1 [Q0,Z2,Q5] sp_after):aa P w K mg base CX0 2 f fd [Q0,Q5,"_law_times"] sp_lpow:=by
 refine F.okA b_p ?_
 rintro _ _ _ _ H _ _ _ hr ⟨m,L,W,B,u,n,rfl,hM,hMa,hW60,hu,q⟩
 refine (_,(a_a ((stS 3 b_p.nd (a_u [Q0,Q5,"_law_times","_law_act",Q6] rfl (by decide) (a_E rfl T.range (pq1 (lqQ T.len (xqV 0)))) (λcl C fp s' H'=>(a_q,(a_l yy hr (pq3 (pv 1) (pv 0) (pv 2)))))))) (a_a ((stS 4 b_p.nd (cL rfl rfl T.list rfl T.range (pq1 (lqQ T.len (pv 3)))))) (a_a ((c_T PassesOwn.never (a_B kB (pv 2) pe_int (a_S _)) (d_S ((a_N (cqE (a_j f_w (pv 2) pe_int) pe_int) ((a_b (b_w [Q0,Q5,"_law_times","_law_act",Q6] (j:=4) rfl b_p.nd (by decide) rfl (Or.inl rfl) (c_c (pv 4)) (λcl C fp s' H'=>(a_q,pe_ix (b_b K) (pv 4) (pv 0) (λ_ _=>rfl)))))) (a_m))) (a_a ((stS 3 b_p.nd (a_u [Q0,Q5,"_law_times","_law_act",Q6] rfl (by decide) (c_c (pv 3)) (λcl C fp s' H'=>(a_q,pe_ix (b_b K) (pv 4) (pv 0) (λ_ _=>rfl)))))) (a_b ((stS 2 b_p.nd (a_j f_x (pv 2) pe_int)))))))) (a_b (a_f (pv 4)))))),?_)
 obtain ⟨wy,mk,rows,h1,h2,h3,h4,h5⟩:=id hM
 have f0:fP L W u 0=List.range W.length:=(List.map_id' _)
 have f1:fP L W u 1=(List.range W.length).map λr=>run L W r u:=by
  unfold fP pwr
  simp
 dsimp only [b_y]
 dsimp only [tNext,av,au,b_J,a_O,tBM,tCB]
 refine f_Z (λr=>run L W r u) (λR h=>(ivT h1 aq (wy,_,rfl,.inr (SqT.of h2),by rw [qa4,h4];exact h))) (le_trans hW60 (by decide)) (λj hj H' R1 hsm h=>(_,rfl,_,rfl,_,rfl,m,L,W,B,j,u,rfl,hM.same hsm,hMa,hj,hu,h)) λA0 H1 s1 hA1 _=>?_
 rw [<- f1] at hA1
 refine (_,rfl,A0,_,rfl,.inl (SqL.of hA1),?_)
 rw [intsV_len,g_I]
 refine (_,rfl,by exact le_trans hW60 (by decide),λF0 hF0=>?_)
 have s2:=s1.trans (Same.upd (o:=.lst (intsV (List.range W.length))) hF0)
 have hF2:L2.upd H1 F0 (.lst (intsV (List.range W.length))) F0=some (.lst (intsV (fP L W u 0))):=by rw [upd_same,f0]
 have hA2:=a_g (u:=.lst (intsV (List.range W.length))) hA1 hF0
 generalize L2.upd H1 F0 (.lst (intsV (List.range W.length)))=H2 at s2 hF2 hA2
 refine ⟨λk σ' H'=>∃(a f t:Nat) (A1 F1:Addr),k=t/\σ'=[some (.ref m),some (.str (tx u)),some (.int (t:Int)),some (.ref A1),some (.ref F1)]/\Same H H'/\f+a * t=n/\H' A1=some (.lst (intsV (fP L W u a)))/\H' F1=some (.lst (intsV (fP L W u f))),(n,1,0,n,A0,F0,rfl,rfl,s2,by lia,hA2,hF2),?_⟩
 rintro t σ' H3 ⟨a,f,_,A1,F1,rfl,rfl,s3,hsum,hA3,hF3⟩
 refine (_,rfl,_,_,rfl,rfl,_,rfl,aB (λhgt=>?_) (λhng=>?_))
 .have ht:0<t:=ofNat_lt.mp hgt
  refine ⟨λσ2 H2=>∃(a f:Nat) (A1 F1:Addr),σ2=[some (.ref m),some (.str (tx u)),some (.int ((t / 2:Nat):Int)),some (.ref A1),some (.ref F1)]/\Same H H2/\f+a * (t / 2)=n/\H2 A1=some (.lst (intsV (fP L W u a)))/\H2 F1=some (.lst (intsV (fP L W u f))),?_,?_⟩
  .rintro σ2 H2 ⟨a2,f2,A2,F2,rfl,r1,r2,r3,r4⟩
   exact (t / 2,by lia,a2,f2,t / 2,A2,F2,rfl,rfl,r1,r2,r3,r4)
  refine ⟨λσ5 H5=>∃(f':Nat) (F2:Addr),σ5=[some (.ref m),some (.str (tx u)),some (.int (t:Int)),some (.ref A1),some (.ref F2)]/\Same H H5/\f'+(a+a) * (t / 2)=n/\H5 A1=some (.lst (intsV (fP L W u a)))/\H5 F2=some (.lst (intsV (fP L W u f'))),?_,?_⟩
  .refine (_,rfl,_,_,rfl,rfl,(show (0:Int)<2 by decide),rfl,_,rfl,aB (λh2=>?_) (λh2=>?_))
   .have h2':t % 2=1:=by have:=V.int.inj h2;lia
    dsimp only [b_y]
    refine c_W _ (λx=>(fP L W u a).getD x 0) (λR h=>(_,rfl,h)) (.inl rfl) hF3 (by rw [g_I];exact le_trans hW60 (by decide)) (λx hx H' R1 hsm h=>(_,rfl,_,rfl,iqL (hsm _ _ hA3) (a_D (by rw [g_I];exact nF hMa hu f x hx)) h)) λD H' hsm hDl _=>?_
    .rw [iB hMa hu] at hDl
     refine (f+a,D,rfl,s3.trans hsm,?_,hsm _ _ hA3,hDl)
     have e2:t=2 * (t / 2)+1:=by lia
     have:a * t=a * (2 * (t / 2)+1):=congrArg (a * ·) e2
     rw [Nat.mul_add,Nat.mul_one,<- Nat.mul_assoc,Nat.mul_two] at this
     lia
   .have h2':t % 2=0:=by
     have:¬ ((t:Int) % 2=1):=λz=>h2 (congrArg V.int z)
     lia
    refine (f,F1,rfl,s3,?_,hA3,hF3)
    have e2:t=2 * (t / 2):=by lia
    have:a * t=a * (2 * (t / 2)):=congrArg (a * ·) e2
    rw [<- Nat.mul_assoc,Nat.mul_two] at this
    lia
  rintro σ5 H5 ⟨f',F2,rfl,s5,hsum5,hA5,hF5⟩
  dsimp only [tNext,av,au,b_J,a_O,tBM,tCB]
  dsimp only [b_y]
  refine c_W _ (λx=>(fP L W u a).getD x 0) (λR h=>(_,rfl,h)) (.inl rfl) hA5 (by rw [g_I];exact le_trans hW60 (by decide)) (λx hx H' R1 hsm h=>(_,rfl,_,rfl,iqL (hsm _ _ hA5) (a_D (by rw [g_I];exact nF hMa hu a x hx)) h)) λD H' hsm hDl _=>?_
  .rw [iB hMa hu] at hDl
   have et:((t:Nat):Int) / 2=((t / 2:Nat):Int):=by lia
   refine (_,rfl,_,_,rfl,rfl,(by decide,by decide),?_)
   exact (a+a,f',D,F2,by rw [<- et];rfl,s5.trans hsm,hsum5,hDl,hsm _ _ hF5)
 .have ht:t=0:=by lia
  rw [ht,Nat.mul_zero,Nat.add_zero] at hsum
  exact (_,rfl,q F1 H3 s3 (by rw [<- hsum];exact hF3))
theorem b_U:a_e [Q0,"_law_bar","_law_number","_law_start","_law_mark","_law_times","_law_goal"] [Q0,"_law_bar","_law_number"] (a_c d_P):=fsc
theorem ok__law_stay (F:Fun K "_law_stay" "_law_stay" d_P f fd) (T:Txt K mg) (yr:Df P w K mg base "_law_bar_words" 2 ["_law_words",Q3] sp_lbw) (yy:Df P w K mg base "_law_after" 1 [Q0,Z2,Q5] sp_after) (yE:Df P w K mg base "_law_power" 2 [Q0,Q5,"_law_times"] sp_lpow):aa P w K mg base CX0 3 f fd [Q0,"_law_bar","_law_number"] sp_lstay:=by
 refine F.okA b_U ?_
 rintro _ _ _ _ H _ _ _ hr ⟨m,t,L,W,B,x,y,z,n,rfl,hM,hMa,hW60,hn,ht,hS,q⟩
 have hr1:=hr.mono (j:=1) (by decide)
 refine (_,(a_a ((a_N ((g_h (cqN (lqQ T.len (pv 1)) pe_int) (g_h (c_H (b_r (isQ T.isinst T.str boot_str (xqV 1)))) (f_t (cqN (xqV 1) b_l)))).pt) ((a_b (a_f c_l))) (a_m))) (a_a ((a_N ((g_h (c_H (b_r (a_l yr hr (pq2 (b_u cu (pv 1) (b_x pe_int) c_i) (xqV 0))))) (f_t (cqE (xqV 1) b_l))).pt) ((a_b (a_f c_l))) (a_m))) (a_a ((stS 3 b_U.nd ((a_l yy hr1 (pq3 (pv 0) (pe_int) (xqV 1)))))) (a_a ((stS 4 b_U.nd (xqT (xqV 0) (a_l yy hr1 (pq3 (pv 0) (pv 3) (xqV 1)))))) (a_a ((a_F PassesOwn.never rfl (b_Y (a_G (pq2 pe_int (pv 2)))) (pgN 5 b_U.nd) ((a_a ((stS 6 b_U.nd (xqL (a_l yE hr (pq3 (pv 0) (xqV 1) (pv 5))) (pv 3)))) (a_b ((a_N (cqE (xqT (xqV 0) (a_l yy hr1 (pq3 (pv 0) (pv 6) (xqV 1)))) (pv 4)) ((a_b (a_f c_l))) (a_m)))))))) (a_b (a_f c_l))))))),?_)
 obtain ⟨wy,mk,rws,h1,h2,h3,h4,h5⟩:=id hM
 have n1:0<W.length:=by have:=hMa.n1;lia
 refine (_,rfl,t,_,rfl,.inr (SqT.of ht),rfl,_,rfl,d_y rfl ?_)
 refine (ivT ht al (_,_,_,rfl,ae.str _,kit_ss K,_,rfl,af ?_))
 refine (ivT ht al (rfl,_,rfl,d_y rfl ?_))
 refine (_,rfl,_,rfl,t,_,rfl,SqT.of ht,λz=>absurd (show (1:Nat)=0 from z.1) (by decide),λp hp=>?_)
 have s1:=Same.upd (o:=.tup (wordsV [x,y,z])) hp
 have e1:L2.upd H p (.tup (wordsV [x,y,z])) p=some (.tup (wordsV [x,y,z])):=upd_same
 generalize hH1:L2.upd H p (.tup (wordsV [x,y,z]))=H1 at s1 e1
 rw [show cutV [V.str (Str.ofString "stay"),.str (tx x),.str (tx y),.str (tx z)] (some 1) none=wordsV [x,y,z] from rfl,hH1]
 clear hH1
 refine (ivT (s1 _ _ h1) al (p,L,[x,y,z],rfl,e1,λv hv=>?_,λH2 s2=>(_,rfl,af (ivT (s2 _ _ (s1 _ _ ht)) aC (rfl,_,rfl,k7 (λv=>hS.ne (tx_inj (V.str.inj v))) ?_)))))
 .rcases mem_cons.mp hv with rfl|hv
  .exact (hS.cx,hS.lx)
  rcases mem_cons.mp hv with rfl|hv
  .exact (hS.cy,hS.ly)
  rw [qb1 hv]
  exact (hS.cz,hS.lz)
 have s12:=s1.trans s2
 have r0:=a_M hMa n1 hS.cx
 have rz:=a_M hMa r0 hS.cz
 refine (_,rfl,ivT (s12 _ _ ht) aq (m,L,W,B,0,x,rfl,hM.same s12,hMa,n1,hS.cx,?_))
 refine (ivT (s12 _ _ h1) aC (_,rfl,_,rfl,ivT (s12 _ _ ht) p6 (m,L,W,B,_,z,rfl,hM.same s12,hMa,r0,hS.cz,iqT (s12 _ _ h3) (f_L (by rw [hMa.bl];exact rz)) ?_)))
 refine (_,rfl,a_d (by show 2≤16777216;decide),λl hl=>(l,rfl,(_,SqL.of upd_same),?_))
 have s3:=s12.trans (Same.upd (o:=.lst [.int 1,.int (n:Int)]) hl)
 have el:L2.upd H2 l (.lst [.int 1,.int (n:Int)]) l=some (.lst [.int 1,.int (n:Int)]):=upd_same
 generalize L2.upd H2 l (.lst [.int 1,.int (n:Int)])=H3 at s3 el
 refine b_H (K:=K) (a:=l) (xs:=[.int 1,.int (n:Int)]) (λi σ' H'=>∃v5 v6,σ'=[some (.ref m),some (.ref t),some (.int (n:Int)),some (.int ((run L W 0 x:Nat):Int)),some (.bl (B.getD (run L W (run L W 0 x) z) false)),v5,v6]/\Same H3 H') (_,_,rfl,Same.refl _) ?_ ?_ ?_
 .rintro i σ' H' hi ⟨_,_,rfl,sm⟩
  exact SqL.of (sm _ _ el)
 .rintro i v σ' H4 hx ⟨v5,v6,rfl,sm⟩
  obtain ⟨k,rfl,hk⟩:∃k:Nat,v=.int (k:Int)/\0<k:=by
   match i,hx with
   | 0,hx=>cases hx;exact (1,rfl,Nat.one_pos)
   | 1,hx=>cases hx;exact (n,rfl,hn)
  have sm4:=s3.trans sm
  refine (_,rfl,ivT (sm4 _ _ ht) aC (_,rfl,m,L,W,B,y,k,rfl,hM.same sm4,hMa,hW60,hS.cy,λp H5 s5 hp=>?_))
  have sm5:=sm4.trans s5
  have r1:run L W (run L W 0 x) (pwr y k)<W.length:=a_M hMa r0 (kj hS.cy k)
  refine (_,rfl,iqL hp (a_D (by rw [g_I];exact r0)) ?_)
  rw [lH r0]
  refine (ivT (sm5 _ _ h1) aC (_,rfl,_,rfl,ivT (sm5 _ _ ht) p6 (m,L,W,B,_,z,rfl,hM.same sm5,hMa,r1,hS.cz,iqT (sm5 _ _ h3) (f_L (by rw [hMa.bl];exact a_M hMa r1 hS.cz)) (_,rfl,rfl,_,rfl,k7 (λe=>?_) (_,_,rfl,sm.trans s5)))))
  have ex:=hS.dif k hk
  rw [a_Q,a_Q,a_Q] at ex
  exact ex (V.bl.inj e)
 .rintro σ' H4 ⟨v5,v6,rfl,sm⟩
  exact q H4 (s3.trans sm)
theorem cE:a_e [Q3,"_law_cells"] [Q3,"_law_cells"] (a_c d_N):=fsc
theorem ok__law_word (F:Fun K "_law_word" "_law_word" d_N f fd) (T:Txt K mg):aa P w K mg base CX0 1 f fd [Q3,"_law_cells"] (gU K):=by
 refine F.okA cE ?_
 rintro _ _ _ _ _ _ _ _ _ ⟨L,a,ns,rfl,hL,hS,hl,q⟩
 refine (_,(a_b (a_f (c_Z plainAttrs_str PySem.F.slot_str_join PySem.F.type_str_join cS (b_l) (pq1 (a_u [Q3,"_law_cells"] rfl (by decide) (b_Y (pv 1)) (λcl C fp s' H'=>(a_q,pe_ix ix_str (pv 1) (a_j f_w (pv 0) (lqS T.len (pv 1))) (λ_ _=>rfl)))))))),?_)
 have hz:(tx L).length≤sizeLine:=a_d (by rw [a_k];have:=hL.hi;lia)
 have hlp:(0:Int)<((tx L).length:Int):=by rw [a_k];have:=hL.lo;lia
 refine (rfl,gG (ka L) rfl hS (by rw [qa4];exact a_d (le_trans hl (by decide))) (λi x H' R hx hsame hR=>?_) (λD hD=>?_))
 .obtain ⟨z,rfl⟩:∃z,x=V.int z:=by
   rw [qa6] at hx
   cases e:ns[i]? with
   | none=>rw [e] at hx;cases hx
   | some z=>rw [e] at hx;exact (z,(Option.some.inj hx).symm)
  have hr0:=emod_nonneg z (show ((tx L).length:Int)≠0 by lia)
  have hr1:=Int.emod_lt_of_pos z hlp
  obtain ⟨v,hv,hv2⟩:=gK (xs:=(tx L).cps.toList) hr0 (by rw [a_P,<- a_k];exact hr1)
  rw [a_P] at hv2
  refine (_,rfl,_,rfl,_,rfl,_,rfl,hz,_,_,rfl,rfl,hlp,_,_,_,rfl,rfl,hz,hv,?_)
  have e:ka L (V.int z)=.str ⟨#[v]⟩:=by
   show V.str ⟨#[g_t L z]⟩=_
   rw [bz L z,<- a_k,hv2]
   rfl
  rw [<- e]
  exact hR
 .refine (_,D,(ns.map (g_t L)).map λc=>(⟨#[c]⟩:Str),rfl,rfl,SqL.of ?_,?_,?_)
  .rw [upd_same]
   simp [map_map,Function.comp_def,ka]
  .exact jq _ (by rw [qa4];exact le_trans hl (by decide))
  .rw [bV,gy]
   exact q _ _ (by simp) (λc hc=>j9 hL hc) (Same.upd hD)
theorem b_j:a_e [Q0,Z0,"_law_at","_law_goal"] [Q0] (a_c c_y):=fsc
theorem f_G (F:Fun K "_law_come_to" "_law_come_to" c_y f fd) (T:Txt K mg):aa P w K mg base CX0 1 f fd [Q0] sp_cometo:=by
 refine F.okA b_j ?_
 rintro _ _ _ _ H _ _ _ _ ⟨m,L,W,B,rfl,hM,hMa,q⟩
 refine (_,(a_a ((stS 1 b_j.nd (a_G (pq1 pe_int)))) (a_a ((stS 2 b_j.nd (pe_int))) (a_a ((c_T PassesOwn.never (a_B op_lt (pv 2) (lqQ T.len (pv 1)) (a_S _)) (a_a ((a_F PassesOwn.never rfl (ko (xqT (xqV 0) (xqL (pv 1) (pv 2)))) (pgN 3 b_j.nd) ((a_b ((a_N (a_B cP (pv 3) (pv 1) (by with_unfolding_all rfl)) ((a_b (a_y (apQ (pv 1) (pv 3))))) (a_m))))))) (a_b ((stS 2 b_j.nd (a_j op_a (pv 2) pe_int))))))) (a_b (a_f (pv 1)))))),?_)
 have hr0:0<W.length:=by have:=hMa.n1;lia
 have hW60:=hMa.n60
 refine (a_d (by show 1≤16777216;decide),λsn hsn=>?_)
 have lim:∀{xs:LN},xs.Nodup->(∀x∈xs,∃v:LN,(∀c∈v,c∈L)/\run L W 0 v=x)->xs.length≤W.length:=λ{xs} nd h=>by
  have:=cj (b:=List.range W.length) nd λc hc=>by
   obtain ⟨v,hv,rfl⟩:=h c hc
   exact mem_range.mpr (a_M hMa hr0 hv)
  rwa [length_range] at this
 refine ⟨λk σ' H'=>∃(xs:LN) (at0:Nat) (s4:Option V),k=W.length - at0/\σ'=[some (.ref m),some (.ref sn),some (.int (at0:Int)),s4]/\Same H H'/\H' sn=some (.lst (intsV xs))/\xs.Nodup/\0∈xs/\(∀x∈xs,∃v:LN,(∀c∈v,c∈L)/\run L W 0 v=x)/\∀(i x:Nat),i<at0->xs[i]?=some x->∀q,q<L.length->ag W x q∈xs,(_,[0],0,none,rfl,rfl,Same.upd hsn,upd_same,by simp,by simp,λx hx=>([],by simp,(qb1 hx).symm),λi x hi=>absurd hi (not_lt_zero _)),?_⟩
 rintro k σ' H1 ⟨xs,at0,s4,rfl,rfl,sm,hs1,nd,hrx,hre,hcl⟩
 refine (_,rfl,_,rfl,sn,_,rfl,.inl (SqL.of hs1),_,_,rfl,rfl,_,rfl,aB (λhlt=>?_) (λhlt=>?_))
 .rw [intsV_len] at hlt
  have hlt':at0<xs.length:=ofNat_lt.mp hlt
  have hxl:=lim nd hre
  obtain ⟨x,hx⟩:∃x,xs[at0]?=some x:=(xs[at0],qa2 hlt')
  obtain ⟨v,hv,ev⟩:=hre x (qb2 hx)
  have hxW:x<W.length:=by rw [<- ev];exact a_M hMa hr0 hv
  refine ⟨λσ2 H2=>∃(xs:LN) (s4:Option V),σ2=[some (.ref m),some (.ref sn),some (.int ((at0+1:Nat):Int)),s4]/\Same H H2/\H2 sn=some (.lst (intsV xs))/\xs.Nodup/\0∈xs/\(∀x∈xs,∃v:LN,(∀c∈v,c∈L)/\run L W 0 v=x)/\∀(i x:Nat),i<at0+1->xs[i]?=some x->∀q,q<L.length->ag W x q∈xs,?_,?_⟩
  .rintro σ2 H2 ⟨xs2,u4,rfl,r1,r2,r3,r4,r5,r6⟩
   exact (W.length - (at0+1),by lia,xs2,at0+1,u4,rfl,rfl,r1,r2,r3,r4,r5,r6)
  obtain ⟨wy,mk,rows,h1,h2,h3,h4,h5⟩:=id (hM.same sm)
  have gx:atI (intsV xs) (at0:Int)=some (.int (x:Int)):=a_R (by rw [intsV,qa6,hx];rfl)
  obtain ⟨ra,hra,hraH⟩:=a_o.row h4 h5 hxW
  have l1:=(b_z hMa hxW).1
  refine (ivT h1 aq (_,rfl,_,rfl,iqL hs1 gx (iqT h2 (a_Z V.ref hra) (ra,rfl,(_,SqT.of hraH),?_))))
  refine iz (K:=K) (a:=ra) (xs:=intsV (W.getD x [])) (λj σ3 H3=>∃(ys:LN) (s4:Option V),σ3=[some (.ref m),some (.ref sn),some (.int (at0:Int)),s4]/\Same H H3/\(∀b zs,H1 b=some (.tup zs)->H3 b=some (.tup zs))/\H3 sn=some (.lst (intsV ys))/\ys.Nodup/\(∀x∈ys,∃v:LN,(∀c∈v,c∈L)/\run L W 0 v=x)/\(∀(i z:Nat),xs[i]?=some z->ys[i]?=some z)/\∀q,q<j->ag W x q∈ys) (xs,_,rfl,sm,λ_ _ e=>e,hs1,nd,hre,λ_ _ e=>e,λq hq=>absurd hq (not_lt_zero _)) ?_ ?_ ?_
  .rintro j σ3 H3 hj ⟨_,_,rfl,_,tp,_⟩
   exact SqT.of (tp _ _ hraH)
  .rintro j z σ3 H3 hz ⟨ys,u4,rfl,s3,tp,hs3,nd3,hre3,hpre,hgo⟩
   have hj:j<(W.getD x []).length:=by have:=(qa1 hz).1;rwa [intsV_len] at this
   rw [b_m hj] at hz
   cases hz
   have eg:(W.getD x []).getD j 0=ag W x j:=rfl
   rw [eg]
   have hjL:j<L.length:=by rw [<- l1];exact hj
   have nxt3:∀{zs:LN},(∀y∈ys,y∈zs)->ag W x j∈zs->∀q,q<j+1->ag W x q∈zs:=λ{zs} h1 h2 q hq=>by
    rcases lt_succ_iff_lt_or_eq.mp hq with z|z
    .exact h1 _ (hgo q z)
    .rw [z];exact h2
   refine (_,rfl,_,rfl,sn,_,rfl,.inl (SqL.of hs3),rfl,g_E _,_,rfl,?_)
   rw [if_pos rfl,bQ]
   by_cases hin:ag W x j∈ys
   .rw [decide_eq_true hin]
    exact af (ys,_,rfl,s3,tp,hs3,nd3,hre3,hpre,nxt3 (λ_ h=>h) hin)
   .rw [decide_eq_false hin]
    have hyl:=lim nd3 hre3
    refine aj (_,rfl,.inl (rfl,_,SqL.of hs3),_,rfl,sn,_,_,rfl,rfl,hs3,by rw [intsV_len];exact b_Z (le_trans hyl (le_trans hW60 (by decide))),ys++[ag W x j],_,rfl,Same.set s3 hsn,λb zs e=>e_s hs3 b zs (tp b zs e),by rw [upd_same,a_J],?_,λy hy=>?_,λi z e=>d_V (hpre i z e),nxt3 (λ_ h=>mem_append_left _ h) (by simp))
    .rw [List.nodup_append]
     exact (nd3,by simp,λa ha b hb=>by rw [qb1 hb];exact λz=>hin (z▸ha))
    .rcases mem_append.mp hy with z|z
     .exact hre3 y z
     .rw [qb1 z]
      have ec:L.idxOf L[j]=j:=hMa.lt.nd.idxOf_getElem j hjL
      refine (v++[L[j]],b_K hv λc hc=>by rw [qb1 hc];exact getElem_mem hjL,?_)
      rw [c_Q,ev]
      unfold nxt ag
      rw [ec]
  .rintro σ3 H3 ⟨ys,u4,rfl,s3,tp,hs3,nd3,hre3,hpre,hgo⟩
   rw [intsV_len,l1] at hgo
   refine (_,rfl,_,_,rfl,rfl,ys,_,rfl,s3,hs3,nd3,?_,hre3,λi z hi hz=>?_)
   .obtain ⟨i,hi⟩:=mem_iff_getElem?.mp hrx
    exact qb2 (hpre i 0 hi)
   .have hil:i<xs.length:=by lia
    have e1:=hpre i _ (qa2 hil)
    rw [hz] at e1
    have e1:=Option.some.inj e1
    rcases lt_succ_iff_lt_or_eq.mp hi with z'|z'
    .have c2:=hcl i z z' (by rw [e1];exact qa2 hil)
     intro q hq
     obtain ⟨i',hi'⟩:=mem_iff_getElem?.mp (c2 q hq)
     exact qb2 (hpre i' _ hi')
    .subst z'
     rw [qa2 hil,<- e1] at hx
     cases hx
     exact hgo
 .rw [intsV_len] at hlt
  have hge:xs.length≤at0:=by lia
  have hxl:=lim nd hre
  refine (_,rfl,q sn xs H1 sm hs1 (le_trans hxl hW60) hre λv hv=>lT hrx (λx hx q hq=>?_) v hv)
  obtain ⟨i,hi⟩:=mem_iff_getElem?.mp hx
  exact hcl i x (lt_of_lt_of_le (qa1 hi).1 hge) hi q hq
theorem a_L:a_e [Q0,Z3,Z1,"_law_keys"] [Q0] (a_c b_D):=fsc
theorem d_T (F:Fun K "_law_alike_rooms" "_law_alike_rooms" b_D f fd) (T:Txt K mg):aa P w K mg base CX0 1 f fd [Q0] sp_arooms:=by
 refine F.okA a_L ?_
 rintro _ A _ _ H _ _ _ hr ⟨m,L,W,B,rfl,hM,hMa,q⟩
 refine (_,(a_a ((stS 1 a_L.nd (a_u [Q0,Z3,Z1,"_law_keys"] rfl (by decide) (c_c (xqV 0)) (λcl C fp s' H'=>(a_q,(a_x jG (by rfl) T.int boot_int (pq1 (pv 0)))))))) (a_a ((a_F PassesOwn.never rfl (a_E rfl T.range (pq1 (lqQ T.len (pv 1)))) (pgN 2 a_L.nd) ((a_a ((stS 3 a_L.nd (a_u [Q0,Z3,Z1,"_law_keys"] rfl (by decide) (a_E rfl T.range (pq1 (lqQ T.len (pv 1)))) (λcl C fp s' H'=>(a_q,a_W (pq2 (pe_ix (b_b K) (pv 2) (pv 0) (λ_ _=>rfl)) (i5 ["_law_j",Q0,Z3,Z1,"_law_keys"] rfl (by decide) (c_c (pe_ix (ix_tupK K) (pe_ix (ix_tupK K) (pv 1) pe_int (λ_ _=>rfl)) (pv 0) (λ_ _=>rfl))) (λcl C fp s' H'=>(a_q,pe_ix (b_b K) (pv 3) (pv 0) (λ_ _=>rfl)))))))))) (a_b ((stS 1 a_L.nd (a_u [Q0,Z3,Z1,"_law_keys"] rfl (by decide) (c_c (pv 3)) (λcl C fp s' H'=>(a_q,(n9 K plainAttrs_list slot_list_index type_list_index (jh hr.units) (pv 4) (pq1 (pv 0))))))))))))) (a_b (a_f (pv 1))))),?_)
 obtain ⟨wy,mk,rows,h1,h2,h3,h4,h5⟩:=id hM
 have hW60:=hMa.n60
 have hL3:=hMa.lt.hi
 have b2:(2:Nat)≤sizeLine:=a_d (by show 2≤16777216;decide)
 dsimp only [b_y]
 dsimp only [tNext,av,au,b_J,a_O,tBM,tCB]
 refine c_W V.bl (λb=>if b=true then 1 else 0) (λR h=>(ivT h1 aC h)) (.inr rfl) h3 (by rw [hMa.bl];exact le_trans hW60 (by decide)) (λb _ H' R1 _ h=>(_,rfl,.inr (b,rfl,by cases b <;> exact h))) λA0 H1 s1 hA1 _=>?_
 have e0:(B.map λb=>if b=true then 1 else 0)=lotK W B 0:=rfl
 rw [e0] at hA1
 have lk:=kS hMa
 refine (_,rfl,A0,_,rfl,.inl (SqL.of hA1),_,rfl,by rw [intsV_len,lk];lia,by rw [intsV_len,lk];lia,?_)
 rw [intsV_len,lk]
 refine b_G (λk σ' H'=>∃(A:Addr) (s2 s3:Option V),σ'=[some (.ref m),some (.ref A),s2,s3]/\Same H H'/\H' A=some (.lst (intsV (lotK W B k)))) (A0,_,_,rfl,s1,hA1) ?_ ?_
 .rintro k σ' H2 hk ⟨A,s2',s3',rfl,s2,hA2⟩
  have hA2l:=lk k
  obtain ⟨wy,mk,rows,h1,h2,h3,h4,h5⟩:=id (hM.same s2)
  have eks:lotK W B (k+1)=(kysR W (lotK W B k)).map λx=>(kysR W (lotK W B k)).idxOf x:=rfl
  have kyl:∀x∈kysR W (lotK W B k),x.2.length=L.length:=λx hx=>by
   obtain ⟨j,hj,rfl⟩:=mem_map.mp hx
   show ((W.getD j []).map _).length=_
   rw [qa4]
   exact (b_z hMa (mem_range.mp hj)).1
  generalize hls:lotK W B k=ls at hA2 hA2l eks kyl
  dsimp only [b_y]
  dsimp only [tNext,av,au,b_J,a_O,tBM,tCB]
  refine d_p (n:=W.length) (λR h=>(_,rfl,A,_,rfl,.inl (SqL.of hA2),by rw [intsV_len,hA2l];exact h)) (le_trans hW60 (by decide)) (λD j ys H'=>ng H' ((List.range j).map (kyR W ls)) ys) (λD hD=>(rfl,λi k v a=>by simp at a)) ?_ ?_
  .intro D j ys H' R1 R2 hD hj hsm hDl hp k1 k2
   have ez:(0:Int)+(j:Int)=((j:Nat):Int):=Int.zero_add _
   rw [ez]
   obtain ⟨ra,hra,hraH⟩:=a_o.row h4 h5 hj
   have l1:=(b_z hMa hj).1
   refine tAlways_if (_,rfl,_,rfl,iqL (hsm _ _ hA2) (a_D (by rw [hA2l];exact hj)) ?_)
   dsimp only [a_O,tNil]
   refine c_W _ (λg=>ls.getD g 0) (λR h=>(ivT (hsm _ _ h1) aq (_,rfl,iqT (hsm _ _ h2) (a_Z V.ref hra) h))) (.inr rfl) (hsm _ _ hraH) (by rw [l1];exact le_trans hL3 (by decide)) (λz hz H'' R3 hsm2 h=>(_,rfl,_,rfl,iqL (hsm2 _ _ (hsm _ _ hA2)) (a_D (by rw [hA2l];exact (b_z hMa hj).2 z hz)) h)) λD2 H'' hsm2 hD2l hD2=>?_
   .have:=hD2
    refine (b2,λtp htp=>?_)
    have s6:=Same.upd (o:=.tup [.int ((ls.getD j 0:Nat):Int),.ref D2]) htp
    have e6:L2.upd H'' tp (.tup [.int ((ls.getD j 0:Nat):Int),.ref D2]) tp=some (.tup [.int ((ls.getD j 0:Nat):Int),.ref D2]):=upd_same
    generalize L2.upd H'' tp (.tup [.int ((ls.getD j 0:Nat):Int),.ref D2])=H6 at s6 e6
    have s26:=hsm2.trans s6
    have hD6:=s26 _ _ hDl
    have hD26:=s6 _ _ hD2l
    have nD:D2≠D:=λz=>by rw [z,hDl] at hD2;cases hD2
    have kp:∀{b:Addr} {o:HO},b≠D->H6 b=some o->L2.upd H6 D (.lst (ys++[.ref tp])) b=some o:=λhb e=>by rw [upd_ne hb];exact e
    refine k1 (.ref tp) H6 hD6 (Same.set (hsm.trans s26) hD) ?_
    rw [range_succ,map_append,map_singleton]
    refine (by rw [qa5,qa5,hp.1];rfl,λi kk v a b=>?_)
    have hil:=(qa1 b).1
    rw [qa5] at hil
    rcases lt_succ_iff_lt_or_eq.mp hil with z|z
    .rw [getElem?_append_left z] at b
     rw [getElem?_append_left (by rw [<- hp.1];exact z)] at a
     obtain ⟨x,l,e1,e2,e3⟩:=hp.2 i kk v a b
     refine (x,l,e1,kp (λz=>?_) (s26 _ _ e2),kp (λz=>?_) (s26 _ _ e3))
     .rw [z,hDl] at e2;cases e2
     .rw [z,hDl] at e3
      have e3:=HO.lst.inj (Option.some.inj e3)
      have hin:kk∈(List.range j).map (kyR W ls):=qb2 a
      obtain ⟨q0,hq0,rfl⟩:=mem_map.mp hin
      have hq0:=mem_range.mp hq0
      have hne:0<ys.length:=by lia
      have hkl:(kyR W ls q0).2.length=L.length:=by
       show ((W.getD q0 []).map _).length=_
       rw [qa4]
       exact (b_z hMa (lt_trans hq0 hj)).1
      have hlo:=hMa.lt.lo
      have y0:ys[0]?=some (.int ((((kyR W ls q0).2)[0]'(by lia):Nat):Int)):=by
       rw [e3,intsV,qa6,qa2 (by lia)]
       rfl
      obtain ⟨x',l',f1,_⟩:=hp.2 0 _ _ (qa2 (by rw [<- hp.1];exact hne)) y0
      cases f1
    .have z:i=ys.length:=z
     rw [z,getElem?_append_right (le_refl _),sub_self] at b
     rw [z,hp.1,getElem?_append_right (le_refl _),sub_self] at a
     cases a
     cases b
     refine (tp,D2,rfl,kp (λz=>?_) e6,kp nD hD26)
     rw [z,hD6] at e6
     cases e6
  intro KD ys H3 hKD s3 hKD3 hp
  have hp:ng H3 (kysR W ls) ys:=hp
  have kl:(kysR W ls).length=W.length:=by rw [kysR,qa4,length_range]
  dsimp only [b_y]
  dsimp only [tNext,av,au,b_J,a_O,tBM,tCB]
  refine c_C (a:=KD) (λR h=>(_,rfl,h)) (.inl rfl) hKD3 (λD i zs H'=>zs=intsV (((kysR W ls).take i).map λx=>(kysR W ls).idxOf x)) (by rw [hp.1,kl];exact a_d (le_trans hW60 (by decide))) (λD hD=>rfl) ?_ ?_
  .intro D i x zs H' R1 R2 hD hx hsm hDl hzs k1 k2
   have hi:i<(kysR W ls).length:=by rw [<- hp.1];exact (qa1 hx).1
   obtain ⟨a,l,rfl,e2,e3⟩:=hp.2 i _ x (qa2 hi) hx
   have hin:=getElem_mem hi
   refine tAlways_if (_,rfl,.inl (rfl,_,SqL.of (hsm _ _ hKD3)),_,rfl,KD,a,l,ys,kysR W ls,_,rfl,rfl,hsm _ _ hKD3,(hp.1,λi k v a b=>?_),λk' hk'=>by rw [kyl _ hk',kyl _ hin],hsm _ _ e2,hsm _ _ e3,hin,k1 _ H' hDl (Same.set hsm hD) ?_)
   .obtain ⟨x,l,f1,f2,f3⟩:=hp.2 i k v a b
    exact (x,l,f1,hsm _ _ f2,hsm _ _ f3)
   .rw [hzs,a_p (qa2 hi),map_append,map_singleton,a_J]
  .intro D zs H' hD hsm hDl hzs
   rw [hp.1,take_length] at hzs
   subst hzs
   rw [<- eks] at hDl
   exact (D,_,_,rfl,s2.trans (s3.trans hsm),hDl)
 .rintro σ' H2 ⟨A,s2',s3',rfl,s2,hA2⟩
  exact (_,rfl,q A _ H2 s2 hA2 (lk _) λi j hi hj=>jk hMa hi hj)
theorem a_t:a_e [Q0,Z1,Z3,"_law_goals","_law_seen","_law_row"] [Q0,Z1] (a_c b_v):=fsc
theorem d_x (F:Fun K "_law_low_and_rest" "_law_low_and_rest" b_v f fd) (T:Txt K mg) (vk:Df P w K mg base "_law_alike_rooms" 1 [Q0] sp_arooms) (vg:Df P w K mg base "_law_come_to" 1 [Q0] sp_cometo):aa P w K mg base CX0 2 f fd [Q0,Z1] sp_lowrest:=by
 refine F.okA a_t ?_
 rintro _ _ _ _ _ _ _ _ hr ⟨m,L,W0,B0,W,B,kk,c,rfl,hM,hM0,hLe,cm,rc,hck,q⟩
 refine (_,(a_a ((stS 2 a_t.nd ((a_l vk hr (pq1 (pv 0)))))) (a_a ((stS 3 a_t.nd ((a_l vg hr (pq1 (pv 0)))))) (a_a ((stS 4 a_t.nd (a_G b_d))) (a_a ((b_w [Q0,Z1,Z3,"_law_goals","_law_seen","_law_row"] (j:=5) rfl a_t.nd (by decide) rfl (Or.inl rfl) (c_c (pv 3)) (λcl C fp s' H'=>(a_q,pe_ix (b_b K) (pv 3) (pv 0) (λ_ _=>rfl))))) (a_a ((c_T PassesOwn.never (a_B (ja hr.units) (pv 5) (pv 4) (by with_unfolding_all rfl)) (a_a (a_y (apQ (pv 4) (pv 5))) (a_a ((b_w [Q0,Z1,Z3,"_law_goals","_law_seen","_law_row"] (j:=3) rfl a_t.nd (by decide) rfl (Or.inl rfl) (c_c (pv 3)) (λcl C fp s' H'=>(a_q,pe_ix (ix_tupK K) (pe_ix (ix_tupK K) (pe_ix (ix_tupK K) (pv 1) pe_int (λ_ _=>rfl)) (pv 0) (λ_ _=>rfl)) (pv 2) (λ_ _=>rfl))))) (a_b ((b_w [Q0,Z1,Z3,"_law_goals","_law_seen","_law_row"] (j:=5) rfl a_t.nd (by decide) rfl (Or.inl rfl) (c_c (pv 3)) (λcl C fp s' H'=>(a_q,pe_ix (b_b K) (pv 3) (pv 0) (λ_ _=>rfl)))))))))) (a_b (a_f (a_W (pq2 (c_Z plainAttrs_list slot_list_index type_list_index (bF hr.units) (pv 4) (pq1 (pv 5))) (a_j op_s (lqQ T.len (pv 4)) (c_Z plainAttrs_list slot_list_index type_list_index (bF hr.units) (pv 4) (pq1 (pv 5))))))))))))),?_)
 have hn:=hM0.n60
 have hMa:=hLe.mach
 have hlW:=hLe.len
 have hc:c∈L:=qb2 hck
 have hkL:kk<L.length:=(qa1 hck).1
 have ick:L.idxOf c=kk:=by
  have e:=(qa1 hck).2
  rw [<- e]
  exact hM0.lt.nd.idxOf_getElem kk hkL
 have hr0:0<W0.length:=by have:=hM0.n1;lia
 have b2:(2:Nat)≤sizeLine:=a_d (by show 2≤16777216;decide)
 refine (_,rfl,m,L,W0,B0,rfl,hM,hM0,λlp ls H1 s1 hlp hll hls=>?_)
 refine (_,rfl,m,L,W0,B0,rfl,hM.same s1,hM0,λgp xs H2 s2 hgp hx60 hx1 hx2=>?_)
 have hlp2:=s2 _ _ hlp
 have s12:=s1.trans s2
 have hM2:=hM.same s12
 obtain ⟨wy,mk,rows,h1,h2,h3,h4,h5⟩:=id hM2
 have iff:∀{i j:Nat},rwK L W0 ls xs c i=rwK L W0 ls xs c j↔fC L W c i=fC L W c j:=mi hLe hM0 rc hc hx1 hx2 hls
 generalize hgk:(λk:Nat=>xs.map λx=>run L W0 x (replicate k c))=gsK
 have gk:∀k,gsK k=xs.map λx=>run L W0 x (replicate k c):=λk=>by rw [<- hgk]
 have gl:∀{k:Nat},(gsK k).length=xs.length:=λ{k}=>by rw [gk,qa4]
 have gsr:∀{k:Nat},((gsK k).map λg=>ls.getD g 0)=rwK L W0 ls xs c k:=λ{k}=>by rw [gk,map_map];rfl
 have xlt:∀x∈xs,x<W0.length:=λx hx=>by
  obtain ⟨v,hv,rfl⟩:=hx1 x hx
  exact a_M hM0 hr0 hv
 have glt:∀(k g:Nat),g∈gsK k->g<W0.length:=λk g hg=>by
  rw [gk] at hg
  obtain ⟨x,hx,rfl⟩:=mem_map.mp hg
  exact a_M hM0 (xlt x hx) (c_G hc)
 have g0:xs=gsK 0:=by rw [gk];exact (List.map_id xs).symm
 have gsu:∀k,gsK (k+1)=(gsK k).map λz=>ag W0 z kk:=λk=>by
  rw [gk,gk,map_map]
  refine map_congr_left λx _=>?_
  rw [List.replicate_succ',c_Q]
  show nxt L W0 _ c=_
  unfold nxt ag
  rw [ick]
  rfl
 have rl:∀k,(rwK L W0 ls xs c k).length=xs.length:=λk=>by rw [rwK,qa4]
 generalize hrs:(λk:Nat=>(List.range k).map (rwK L W0 ls xs c))=rwS
 have rs:∀k,rwS k=(List.range k).map (rwK L W0 ls xs c):=λk=>by rw [<- hrs]
 have rsl:∀k,(rwS k).length=k:=λk=>by rw [rs,qa4,length_range]
 have mem:∀{j k:Nat},rwK L W0 ls xs c j∈rwS k↔∃i,i<k/\rwK L W0 ls xs c i=rwK L W0 ls xs c j:=λ{j k}=>by
  rw [rs,mem_map]
  exact (λhZ2=>by obtain ⟨i,h1,h2⟩:=hZ2;exact (i,mem_range.mp h1,h2),λhZ1=>by obtain ⟨i,h1,h2⟩:=hZ1;exact (i,mem_range.mpr h1,h2))
 have kl:∀{j k:Nat},∀k'∈rwS k,k'.length=(rwK L W0 ls xs c j).length:=λ{j k} k' hk'=>by
  rw [rs] at hk'
  obtain ⟨i,_,rfl⟩:=mem_map.mp hk'
  rw [rl,rl]
 rw [g0] at hgp
 refine (zero_le _,λsn hsn=>?_)
 have s3:=Same.upd (o:=.lst []) hsn
 have e0:L2.upd H2 sn (.lst []) sn=some (.lst []):=upd_same
 generalize L2.upd H2 sn (.lst [])=H3 at s3 e0
 have ngs:gp≠sn:=λz=>by rw [z,hsn] at hgp;cases hgp
 dsimp only [b_y]
 dsimp only [tNext,av,au,b_J,a_O,tBM,tCB]
 refine c_W _ (λg=>ls.getD g 0) (λR h=>(_,rfl,h)) (.inl rfl) (s3 _ _ hgp) (by rw [gl];exact le_trans hx60 (by decide)) (λz hz H' R1 hsm h=>(_,rfl,_,rfl,iqL (hsm _ _ (s3 _ _ hlp2)) (a_D (by rw [hll];exact glt _ z hz)) h)) λrp HR sR hrR hrp=>?_
 .rw [gsr] at hrR
  have nrs:rp≠sn:=λz=>by rw [z,e0] at hrp;cases hrp
  refine ⟨λn σ' H'=>∃(k:Nat) (gp rp:Addr) (vks:List V),n=W.length - k/\σ'=[some (.ref m),some (.int (kk:Int)),some (.ref lp),some (.ref gp),some (.ref sn),some (.ref rp)]/\Same H2 H'/\H' gp=some (.lst (intsV (gsK k)))/\H' sn=some (.lst vks)/\bh H' (rwS k) vks/\H' rp=some (.lst (intsV (rwK L W0 ls xs c k)))/\gp≠sn/\rp≠sn/\V.ref sn∉vks/\∀i j,i<j->j<k->fC L W c i≠fC L W c j,(_,0,gp,rp,[],rfl,rfl,s3.trans sR,sR _ _ (s3 _ _ hgp),sR _ _ e0,(by rw [rsl];rfl,λi l v a b=>by simp at b),hrR,ngs,nrs,by simp,λi j _ hj=>absurd hj (not_lt_zero _)),?_⟩
  clear hrR hrp sR nrs ngs e0 s3 hgp
  rintro n σ' H4 ⟨k,gp,ra,vks,rfl,rfl,sm,hg4,hs4,hth,hra4,ngs,nrs,nin,hap⟩
  have vl:vks.length=k:=by rw [hth.1,rsl]
  refine (_,rfl,_,rfl,sn,ra,vks,_,_,rfl,rfl,hs4,hth,kl,hra4,_,rfl,?_)
  rw [if_pos rfl]
  refine iw (λhno=>?_) (λhin=>?_)
  .have hap2:∀i j,i<j->j<k+1->fC L W c i≠fC L W c j:=λi j hij hj=>by
    rcases lt_succ_iff_lt_or_eq.mp hj with z|z
    .exact hap i j hij z
    .rw [z] at hij ⊢
     exact λe=>hno (mem.mpr (i,hij,iff.mpr e))
   have hk:=d_q hMa cm rc hc hap2
   refine ⟨λσ2 H'=>∃(gp rp:Addr) (vks:List V),σ2=[some (.ref m),some (.int (kk:Int)),some (.ref lp),some (.ref gp),some (.ref sn),some (.ref rp)]/\Same H2 H'/\H' gp=some (.lst (intsV (gsK (k+1))))/\H' sn=some (.lst vks)/\bh H' (rwS (k+1)) vks/\H' rp=some (.lst (intsV (rwK L W0 ls xs c (k+1))))/\gp≠sn/\rp≠sn/\V.ref sn∉vks,?_,?_⟩
   .rintro σ2 H5 ⟨gp2,rp2,vks2,rfl,r1,r2,r3,r4,r5,r6,r7,r8⟩
    exact (W.length - (k+1),by lia,k+1,gp2,rp2,vks2,rfl,rfl,r1,r2,r3,r4,r5,r6,r7,r8,hap2)
   refine (_,rfl,.inl (rfl,_,SqL.of hs4),_,rfl,sn,_,_,rfl,rfl,hs4,by rw [vl];exact b_Z (by lia),?_)
   have sm5:Same H2 (L2.upd H4 sn (.lst (vks++[.ref ra]))):=Same.set sm hsn
   have e5:L2.upd H4 sn (.lst (vks++[.ref ra])) sn=some (.lst (vks++[.ref ra])):=upd_same
   have kp:∀{b:Addr} {o:HO},b≠sn->H4 b=some o->L2.upd H4 sn (.lst (vks++[.ref ra])) b=some o:=λhb e=>by rw [upd_ne hb];exact e
   have hg5:=kp ngs hg4
   have nin5:V.ref sn∉vks++[V.ref ra]:=λz=>by
    rcases mem_append.mp z with z|z
    .exact nin z
    .exact nrs (V.ref.inj (qb1 z)).symm
   have hth5:bh (L2.upd H4 sn (.lst (vks++[.ref ra]))) (rwS (k+1)) (vks++[.ref ra]):=by
    rw [rs,range_succ,map_append,map_singleton,<- rs]
    exact jN (cb hth λb o hb e=>kp (λz=>nin (z▸hb)) e) (kp nrs hra4)
   generalize L2.upd H4 sn (.lst (vks++[.ref ra]))=H5 at sm5 e5 hg5 hth5
   clear kp
   dsimp only [b_y]
   dsimp only [tNext,av,au,b_J,a_O,tBM,tCB]
   refine c_W _ (λz=>ag W0 z kk) (λR h=>(_,rfl,h)) (.inl rfl) hg5 (by rw [gl];exact le_trans hx60 (by decide)) (λz hz H' R1 hsm h=>?_) λg2 H6 s6 hg6 hg2=>?_
   .have hzW:=glt _ z hz
    obtain ⟨rz,hrz,hrzH⟩:=a_o.row h4 h5 hzW
    have sx:=sm5.trans hsm
    exact (ivT (sx _ _ h1) aq (_,rfl,iqT (sx _ _ h2) (a_Z V.ref hrz) (_,rfl,iqT (sx _ _ hrzH) (a_D (by rw [(b_z hM0 hzW).1];exact hkL)) h)))
   .rw [<- gsu] at hg6
    have ng2:g2≠sn:=λz=>by rw [z,e5] at hg2;cases hg2
    have sm6:=sm5.trans s6
    dsimp only [b_y]
    dsimp only [tNext,av,au,b_J,a_O,tBM,tCB]
    refine c_W _ (λg=>ls.getD g 0) (λR h=>(_,rfl,h)) (.inl rfl) hg6 (by rw [gl];exact le_trans hx60 (by decide)) (λz hz H' R1 hsm h=>(_,rfl,_,rfl,iqL (hsm _ _ (sm6 _ _ hlp2)) (a_D (by rw [hll];exact glt _ z hz)) h)) λrp HR sR hrR hrp=>?_
    .rw [gsr] at hrR
     have nr2:rp≠sn:=λz=>by rw [z,s6 _ _ e5] at hrp;cases hrp
     exact (g2,rp,_,rfl,sm6.trans sR,sR _ _ hg6,sR _ _ (s6 _ _ e5),cb hth5 λb o _ e=>sR _ _ (s6 _ _ e),hrR,ng2,nr2,nin5)
  .obtain ⟨i,hi,e⟩:=mem.mp hin
   have hix:(rwS k).idxOf (rwK L W0 ls xs c k)=i:=by
    have hlt:=idxOf_lt_length_of_mem hin
    have hg:=getElem_idxOf hlt
    generalize (rwS k).idxOf (rwK L W0 ls xs c k)=j at hlt hg
    have hj:j<k:=by rw [<- rsl k];exact hlt
    have hgj:(rwS k)[j]=rwK L W0 ls xs c j:=by
     have:(rwS k)[j]?=some (rwK L W0 ls xs c j):=by rw [rs];simp [hj]
     rw [qa2 hlt] at this
     exact Option.some.inj this
    rw [hgj,<- e] at hg
    have hg:=iff.mp hg
    rcases lt_trichotomy j i with z|z|z
    .exact absurd hg (hap j i z hi)
    .exact z
    .exact absurd hg.symm (hap i j z hj)
   refine (_,rfl,.inl (rfl,_,SqL.of hs4),_,rfl,sn,ra,vks,_,_,rfl,rfl,hs4,hth,kl,hra4,hin,?_)
   rw [hix]
   refine (_,rfl,sn,_,rfl,.inl (SqL.of hs4),_,rfl,.inl (rfl,_,SqL.of hs4),_,rfl,sn,ra,vks,_,_,rfl,rfl,hs4,hth,kl,hra4,hin,?_)
   rw [hix]
   refine (_,_,rfl,rfl,b2,λt ht=>?_)
   rw [vl,show ((k:Nat):Int) - ((i:Nat):Int)=((k - i:Nat):Int) by lia]
   refine q t i (k - i) _ (s12.trans (sm.trans (Same.upd ht))) upd_same (by lia,?_,λx y hxy hy=>hap x y hxy (by lia))
   rw [show i+(k - i)=k by lia]
   exact (iff.mp e).symm
theorem a_A:a_e [Q0,Q9,"_law_tuples","_law_low","_law_rest","_law_longer","_law_some",Q6,Q5] [Q0,Q9] (a_c d_g):=fsc
theorem h_k (F:Fun K "_law_table" "_law_table" d_g f fd) (T:Txt K mg) (yj:Df P w K mg base "_law_takes" 2 [Q0,Q5] sp_ltakes):aa P w K mg base CX0 3 f fd [Q0,Q9] sp_ltable:=by
 refine F.okA a_A ?_
 rintro _ _ _ _ H _ _ _ hr ⟨m,rl,L,W,B,ts,rows,rfl,hM,hMa,hrl,hrw,hl,h8,q⟩
 refine (_,(a_a ((stS 2 a_A.nd (a_G (pq1 (a_W b_d))))) (a_a ((a_F PassesOwn.never rfl (b_Y (pv 1)) (e_N rfl (a_T (pgN 3 a_A.nd) (a_T (pgN 4 a_A.nd) d_l))) (a_a ((stS 5 a_A.nd (a_G b_d))) (a_a ((a_F PassesOwn.never rfl (b_Y (pv 2)) (pgN 6 a_A.nd) ((a_b ((stS 5 a_A.nd (a_j kD (pv 5) (a_u [Q0,Q9,"_law_tuples","_law_low","_law_rest","_law_longer","_law_some",Q6,Q5] rfl (by decide) (a_E rfl T.range (pq1 (a_j op_a (pv 3) (pv 4)))) (λcl C fp s' H'=>(a_q,a_j f_y (pv 7) (a_W (pq1 (pv 0))))))))))))) (a_b ((stS 2 a_A.nd (pv 5)))))))) (a_a ((stS 7 a_A.nd (a_G b_d))) (a_a ((a_F PassesOwn.never rfl (b_Y (pv 2)) (pgN 6 a_A.nd) ((a_a ((stS 8 a_A.nd ((c_Z plainAttrs_str PySem.F.slot_str_join PySem.F.type_str_join cS (b_l) (pq1 (c_I [Q0,Q9,"_law_tuples","_law_low","_law_rest","_law_longer","_law_some",Q6,Q5] rfl (by decide) (f_u rfl T.zip (pq2 (xqV 0) (pv 6))) (λcl C fp s' H'=>(a_q,a_j d_t (pv 0) (pv 1))))))))) (a_b ((a_N (b_r (a_l yj hr (pq2 (pv 0) (pv 8)))) ((a_b (a_y (apQ (pv 7) (pv 6))))) (a_m)))))))) (a_b (a_f (pv 7))))))),?_)
 have hL3:=hMa.lt.hi
 have htl:=hrw.1
 have b1:(1:Nat)≤sizeLine:=a_d (by show 1≤16777216;decide)
 obtain ⟨ns,hns⟩:∃ns:LN,ns=rows.map λp=>p.1+p.2:=(_,rfl)
 have nl:ns.length=L.length:=by rw [hns,qa4,hl]
 have hn8:∀n∈ns,n≤8:=λn hn=>by
  rw [hns] at hn
  obtain ⟨p,hp,rfl⟩:=mem_map.mp hn
  exact h8 p hp
 have hn3:ns.length≤3:=by rw [nl];exact hL3
 have pw:∀i,(celF (ns.take i)).length≤512:=λi=>by
  have h1:=f_d (ns.take i) λn hn=>hn8 n (List.mem_of_mem_take hn)
  have h2:(ns.take i).length≤3:=le_trans (length_take_le' _ _) hn3
  exact le_trans h1 (le_trans (Nat.pow_le_pow_right (by decide) h2) (by decide))
 refine (zero_le _,λet het=>?_)
 have s1:=Same.upd (o:=.tup []) het
 have ee:L2.upd H et (.tup []) et=some (.tup (intsV [])):=upd_same
 generalize L2.upd H et (.tup [])=H1 at s1 ee
 refine (b1,λc0 hc0=>?_)
 have s2:=Same.upd (o:=.lst [.ref et]) hc0
 have e0:L2.upd H1 c0 (.lst [.ref et]) c0=some (.lst [.ref et]):=upd_same
 generalize L2.upd H1 c0 (.lst [.ref et])=H2 at s2 e0
 have s12:=s1.trans s2
 refine (_,rfl,rl,rfl,(_,SqL.of (s12 _ _ hrl)),b_H (K:=K) (a:=rl) (xs:=ts.map V.ref) (λi σ' H'=>∃(cl:Addr) (vks:List V) (u3 u4 u5 u6:Option V),σ'=[some (.ref m),some (.ref rl),some (.ref cl),u3,u4,u5,u6,none,none]/\Same H H'/\H' cl=some (.lst vks)/\b_e .t H' (celF (ns.take i)) vks) (c0,_,_,_,_,_,rfl,s12,e0,(rfl,λi k v a b=>?_)) ?_ ?_ ?_)
 .match i,a,b with
  | 0,a,b=>
   cases a
   cases b
   exact thT (s2 _ _ ee)
  | i+1,a,_=>simp [celF] at a
 .rintro i σ' H' hi ⟨_,_,_,_,_,_,rfl,sm,_⟩
  exact SqL.of (sm _ _ hrl)
 .rintro i x σ' H3 hx ⟨cl,vks,u3,u4,u5,u6,rfl,sm,hcl,hth⟩
  rw [qa6] at hx
  obtain ⟨t,ht,rfl⟩:=qb3 hx
  have hir:i<rows.length:=by rw [<- htl];exact (qa1 ht).1
  have hT:=sm _ _ (hrw.2 i t _ ht (qa2 hir))
  have hni:ns[i]?=some (rows[i].1+rows[i].2):=by rw [hns,qa6,qa2 hir];rfl
  have hn:=h8 rows[i] (getElem_mem hir)
  have esn:celF (ns.take (i+1))=(celF (ns.take i)).flatMap (aA (rows[i].1+rows[i].2)):=by rw [a_p hni,e_q]
  generalize rows[i]=pr at hT hn esn
  obtain ⟨lo,re⟩:=pr
  dsimp only at hT hn esn
  refine (t,_,rfl,SqT.of hT,rfl,_,_,rfl,_,_,rfl,rfl,?_)
  refine (zero_le _,λlg0 hlg0=>?_)
  have s4:=Same.upd (o:=.lst []) hlg0
  have e4:L2.upd H3 lg0 (.lst []) lg0=some (.lst []):=upd_same
  generalize L2.upd H3 lg0 (.lst [])=H4 at s4 e4
  refine (_,rfl,cl,rfl,(_,SqL.of (s4 _ _ hcl)),b_H (K:=K) (a:=cl) (xs:=vks) (λj σ' H'=>∃(lg:Addr) (vls:List V) (u6:Option V),σ'=[some (.ref m),some (.ref rl),some (.ref cl),some (.int ((lo:Nat):Int)),some (.int ((re:Nat):Int)),some (.ref lg),u6,none,none]/\Same H3 H'/\H' lg=some (.lst vls)/\b_e .t H' (((celF (ns.take i)).take j).flatMap (aA (lo+re))) vls) (lg0,[],_,rfl,s4,e4,(rfl,λi k v a=>by simp at a)) ?_ ?_ ?_)
  .rintro j σ' H' hj ⟨_,_,_,rfl,s5,_⟩
   exact SqL.of (s5 _ _ hcl)
  .rintro j v σ' H5 hv ⟨lg,vls,u6',rfl,s5,hlg5,hls5⟩
   have hj:j<(celF (ns.take i)).length:=by rw [<- hth.1];exact (qa1 hv).1
   obtain ⟨ca,rfl,hca⟩:=iT (hth.2 j _ v (qa2 hj) hv)
   have hca:=s5 _ _ hca
   have esj:((celF (ns.take i)).take (j+1)).flatMap (aA (lo+re))=((celF (ns.take i)).take j).flatMap (aA (lo+re))++aA (lo+re) (celF (ns.take i))[j]:=by rw [a_p (qa2 hj),List.flatMap_append,List.flatMap_singleton]
   have hcl3:((celF (ns.take i))[j]).length≤3:=by
    rw [((d_v _ _).mp (getElem_mem hj)).1]
    exact le_trans (length_take_le' _ _) hn3
   have hvl:vls.length≤4096:=by
    rw [hls5.1]
    have h1:(((celF (ns.take i)).take j).flatMap (aA (lo+re))).length≤((celF (ns.take i)).take j).length * 8:=e_n (λa=>by rw [aA,qa4,length_range];exact hn) _
    have h2:((celF (ns.take i)).take j).length≤(celF (ns.take i)).length:=length_take_le' _ _
    have h3:=pw i
    lia
   generalize (celF (ns.take i))[j]=cc at hca esj hcl3
   refine (_,rfl,?_)
   dsimp only [aI,b_y,tNext,av,au,b_J,a_O,tBM,tCB,tOp]
   refine h_E (n:=lo+re) (λR h=>(_,rfl,_,rfl,_,_,rfl,rfl,h)) (le_trans hn (by decide)) hca (λk H' R1 h e=>(_,rfl,_,rfl,b1,oU (le_trans hcl3 (by decide)) e h)) λD ys H' hsm hDl yl hp=>?_
   refine (lg,D,_,_,rfl,rfl,hsm _ _ hlg5,hDl,by rw [yl];exact a_d (by lia),λp hp'=>?_)
   have s7:=Same.upd (o:=.lst (vls++ys)) hp'
   have s57:=hsm.trans s7
   refine (p,vls++ys,_,rfl,s5.trans s57,upd_same,?_)
   rw [esj]
   exact g_d (hls5.same λb xs e=>s57 _ _ e) (hp.same λb xs e=>s7 _ _ e)
  .rintro σ' H5 ⟨lg,vls,u6',rfl,s5,hlg5,hls5⟩
   rw [hth.1,take_length] at hls5
   refine (_,rfl,lg,vls,_,_,_,_,rfl,sm.trans s5,hlg5,?_)
   rw [esn]
   exact hls5
 .rintro σ' H3 ⟨cl,vks,u3,u4,u5,u6,rfl,sm,hcl,hth⟩
  rw [qa4,htl,hl,<- nl,take_length] at hth
  have cle:(celF ns).length≤512:=by have:=pw ns.length;rwa [take_length] at this
  refine (zero_le _,λfd hfd=>?_)
  have s4:=Same.upd (o:=.lst []) hfd
  have e4:L2.upd H3 fd (.lst []) fd=some (.lst []):=upd_same
  generalize L2.upd H3 fd (.lst [])=H4 at s4 e4
  have hM3:=hM.same sm
  obtain ⟨wy,mk,rws,h1,h2,h3,h4,h5⟩:=id hM3
  refine (_,rfl,cl,rfl,(_,SqL.of (s4 _ _ hcl)),b_H (K:=K) (a:=cl) (xs:=vks) (λi σ' H'=>∃(vfs:List V) (u6 u8:Option V),σ'=[some (.ref m),some (.ref rl),some (.ref cl),u3,u4,u5,u6,some (.ref fd),u8]/\Same H3 H'/\H' fd=some (.lst vfs)/\b_e .t H' (((celF ns).take i).filter λks=>B.getD (run L W 0 (wdT L ks)) false) vfs) ([],_,_,rfl,s4,e4,(rfl,λi k v a=>by simp at a)) ?_ ?_ ?_)
  .rintro j σ' H' hj ⟨_,_,_,rfl,s5,_⟩
   exact SqL.of (s5 _ _ hcl)
  .rintro i v σ' H5 hv ⟨vfs,u6',u8,rfl,s5,hfd5,hp⟩
   have hi:i<(celF ns).length:=by rw [<- hth.1];exact (qa1 hv).1
   obtain ⟨ca,rfl,hca⟩:=iT (hth.2 i _ v (qa2 hi) hv)
   have hca:=s5 _ _ hca
   obtain ⟨m1,m2⟩:=(d_v _ _).mp (getElem_mem hi)
   have et:((celF ns).take (i+1)).filter (λks=>B.getD (run L W 0 (wdT L ks)) false)=((celF ns).take i).filter (λks=>B.getD (run L W 0 (wdT L ks)) false)++if B.getD (run L W 0 (wdT L (celF ns)[i])) false=true then [(celF ns)[i]] else []:=by
    rw [a_p (qa2 hi),List.filter_append,List.filter_cons,List.filter_nil]
   have vfl:vfs.length≤512:=by
    rw [hp.1]
    exact le_trans (List.length_filter_le _ _) (le_trans (length_take_le' _ _) cle)
   generalize (celF ns)[i]=ks at hca m1 m2 et
   have hkl:ks.length=L.length:=m1.trans nl
   have hk8:∀k∈ks,k≤8:=λk hk=>by
    obtain ⟨j,hj⟩:=mem_iff_getElem?.mp hk
    have hjn:j<ns.length:=by rw [<- m1];exact (qa1 hj).1
    have:=m2 j k ns[j] hj (qa2 hjn)
    have:=hn8 ns[j] (getElem_mem hjn)
    lia
   refine (rfl,?_)
   dsimp only [a_O,tNil]
   refine bY (λR h=>(ivT (s5 _ _ h1) al (_,rfl,h))) hca hkl hL3 hk8 (λch k H3 R1 hk h=>(_,rfl,_,rfl,_,_,rfl,rfl,pQ hk h)) λH6 hsm=>?_
   have s6:=s5.trans hsm
   have hfd6:=hsm _ _ hfd5
   have hp6:=hp.same λb xs e=>hsm _ _ e
   refine (_,rfl,_,rfl,m,L,W,B,wdT L ks,rfl,hM3.same s6,hMa,λc hc=>wdT_in hc,_,rfl,?_)
   cases eb:B.getD (run L W 0 (wdT L ks)) false with
   | true=>
    have tk:=e_s (o:=.lst (vfs++[.ref ca])) hfd6
    refine aj (_,rfl,.inl (rfl,_,SqL.of hfd6),_,rfl,fd,_,_,rfl,rfl,hfd6,b_Z (le_trans vfl (by decide)),_,_,_,rfl,Same.set s6 hfd,upd_same,?_)
    rw [et,if_pos eb]
    exact (hp6.same tk).snoc (thT (tk _ _ (hsm _ _ hca)))
   | false=>
    refine af (_,_,_,rfl,s6,hfd6,?_)
    rw [et,if_neg (by rw [eb];exact Bool.false_ne_true),append_nil]
    exact hp6
  .rintro σ' H5 ⟨vfs,u6',u8,rfl,s5,hfd5,hp⟩
   rw [hth.1,take_length,hns] at hp
   exact (_,rfl,q fd vfs H5 (sm.trans s5) hfd5 hp)
theorem a_U:a_e [Q9,Q3,Q5,"_law_told","_law_sign","_law_row","_law_many"] [Q9,Q3,Q5] (a_c c_s):=fsc
theorem f_A (F:Fun K "_law_told_by" "_law_told_by" c_s f fd) (T:Txt K mg):aa P w K mg base CX0 1 f fd [Q9,Q3,Q5] sp_ltold:=by
 refine F.okA a_U ?_
 rintro _ _ _ _ H _ _ _ _ ⟨rl,L,w,ts,rows,rfl,hrl,hrw,hl,hL3,hpos,q⟩
 refine (_,(a_a ((stS 3 a_U.nd (a_G b_d))) (a_a ((a_F PassesOwn.never rfl (f_u rfl T.zip (pq2 (pv 1) (pv 0))) (e_N rfl (a_T (pgN 4 a_U.nd) (a_T (pgN 5 a_U.nd) d_l))) (a_a ((stS 6 a_U.nd ((c_Z plainAttrs_str PySem.F.slot_str_count PySem.F.type_str_count h_r (pv 2) (pq1 (pv 4)))))) (a_a ((a_N (a_B pN (pv 6) (xqV 5) (a_S _)) ((a_b ((stS 6 a_U.nd (a_j op_a (xqV 5) (a_j op_m (a_j op_s (pv 6) (xqV 5)) (xqV 5))))))) (a_m))) (a_b (a_y (apQ (pv 3) (pv 6)))))))) (a_b (a_f (a_x a_i (by rfl) T.tuple boot_tuple (pq1 (pv 3))))))),?_)
 have htl:=hrw.1
 have tl:(d_a L rows w).length=L.length:=by unfold d_a dn;rw [List.length_zipWith,qa4,hl,Nat.min_self]
 refine (zero_le _,λtd htd=>?_)
 have s1:=Same.upd (o:=.lst []) htd
 have e1:L2.upd H td (.lst []) td=some (.lst []):=upd_same
 generalize L2.upd H td (.lst [])=H1 at s1 e1
 refine (_,rfl,_,rfl,_,_,rfl,cf (.inr (s1 _ _ hrl)) λd2 hd2 kt=>?_)
 refine h_B (xs:=(tx L).cps.toList.map λc=>V.str ⟨#[c]⟩) (ys:=ts.map V.ref) (by rw [qa4,a_P,qa4,htl,hl]) (λj σ' H'=>∃s4 s5 s6,σ'=[some (.ref rl),some (.str (tx L)),some (.str (tx w)),some (.ref td),s4,s5,s6]/\Same H H'/\H' td=some (.lst (intsV ((d_a L rows w).take j)))) (_,_,_,rfl,s1,e1) ?_ ?_ ?_
 .rintro j σ' H' ⟨_,_,_,rfl,sm,_⟩
  exact (rfl,hd2 H' ((sm _ _ hrl).trans (s1 _ _ hrl).symm))
 .rintro j x y p σ' H2 hx1 hy1 hp ⟨s4,s5,s6,rfl,sm,htd2⟩
  rw [qa6,a_P] at hx1
  obtain ⟨c,hc,rfl⟩:=qb3 hx1
  rw [qa6] at hy1
  obtain ⟨t,ht,rfl⟩:=qb3 hy1
  have hj:j<L.length:=(qa1 hc).1
  have hjr:j<rows.length:=by rw [hl];exact hj
  have hT:=sm _ _ (hrw.2 j t _ ht (qa2 hjr))
  have hg:=jW (w:=w) hc (qa2 hjr)
  have hps:=hpos _ (getElem_mem hjr)
  refine (p,_,rfl,SqT.of upd_same,rfl,_,_,rfl,_,_,rfl,rfl,?_)
  have sz:=Same.upd (o:=.tup [.str ⟨#[c]⟩,.ref t]) hp
  generalize L2.upd H2 p (.tup [.str ⟨#[c]⟩,.ref t])=H3 at sz
  have hT:=sz _ _ hT
  have htd3:=sz _ _ htd2
  generalize rows[j]=pr at hT hg hps
  obtain ⟨lo,re⟩:=pr
  dsimp only at hT hg hps
  have hll:(intsV ((d_a L rows w).take j)).length<sizeLine:=by
   rw [intsV_len]
   have:=length_take_le' j (d_a L rows w)
   exact b_Z (by lia)
  refine (_,rfl,rfl,_,rfl,_,_,rfl,rfl,?_)
  rw [count_one]
  refine (_,rfl,ivT hT al (_,_,rfl,rfl,_,rfl,aB (λhge=>?_) (λhlt=>?_)))
  .have hge:lo≤w.count c:=Int.ofNat_le.mp hge
   refine (ivT hT al (_,rfl,ivT hT al (_,_,rfl,rfl,ivT hT aq (_,_,rfl,rfl,by lia,_,_,rfl,rfl,?_))))
   have ev:(lo:Int)+((w.count c:Nat) - (lo:Int)) % (re:Int)=((red lo re (w.count c):Nat):Int):=by
    unfold red
    rw [if_neg (not_lt.mpr hge),Int.natCast_add,Int.natCast_emod,Int.ofNat_sub hge]
   rw [ev]
   refine (_,rfl,.inl (rfl,_,SqL.of htd3),_,rfl,td,_,_,rfl,rfl,htd3,hll,_,_,_,rfl,Same.set (sm.trans sz) htd,?_)
   rw [upd_same,a_p hg,a_J]
  .have hlt:w.count c<lo:=by lia
   refine (_,rfl,.inl (rfl,_,SqL.of htd3),_,rfl,td,_,_,rfl,rfl,htd3,hll,_,_,_,rfl,Same.set (sm.trans sz) htd,?_)
   rw [upd_same,a_p hg,a_J]
   unfold red
   rw [if_pos hlt]
 .rintro σ' H2 ⟨s4,s5,s6,rfl,sm,htd2⟩
  rw [qa4,a_P,<- tl,take_length] at htd2
  exact (_,rfl,td,_,rfl,.inl (SqL.of htd2,λtm htm=>q tm _ (sm.trans (Same.upd htm)) upd_same))
theorem b_g:a_e [Q0,Q9,Z4,Q5,Z2,"_law_size"] [Q0,Q9,Z4,Q5] (a_c b_R):=fsc
theorem e_c (F:Fun K "_law_beginnings" "_law_beginnings" b_R f fd) (T:Txt K mg) (vq:Df P w K mg base "_law_told_by" 1 [Q9,Q3,Q5] sp_ltold) (yy:Df P w K mg base "_law_after" 1 [Q0,Z2,Q5] sp_after):aa P w K mg base CX0 3 f fd [Q0,Q9,Z4,Q5] sp_lbeg:=by
 refine F.okA b_g ?_
 rintro _ _ _ _ H _ _ _ hr ⟨m,rl,tb,L,W,B,w,ts,rows,vks,ks,rfl,hM,hMa,hrl,hrw,hl,hpos,htb,hth,hkl,hwl,hw,hin,q⟩
 have hr1:=hr.mono (j:=1) (by decide)
 refine (_,(a_a ((stS 4 b_g.nd (pe_int))) (a_a ((a_F PassesOwn.never rfl (a_E rfl T.range (pq1 (a_j op_a (lqS T.len (pv 3)) pe_int))) (pgN 5 b_g.nd) ((a_a ((a_N (cqN (xqT (xqV 0) (pv 4)) (c_A (oo hr.units) (a_l vq hr1 (pq3 (pv 1) (xqV 0) (b_u aN (pv 3) c_i (b_x (pv 5))))) (pv 2) (by with_unfolding_all rfl))) ((a_b (a_f c_l))) (a_m))) (a_b ((a_N (a_B op_lt (pv 5) (lqS T.len (pv 3)) (a_S _)) ((a_b ((stS 4 b_g.nd ((a_l yy hr1 (pq3 (pv 0) (pv 4) (pe_ix ix_str (pv 3) (pv 5) (λ_ _=>rfl))))))))) (a_m)))))))) (a_b (a_f c_l)))),?_)
 have n1:0<W.length:=by have:=hMa.n1;lia
 have hL3:=hMa.lt.hi
 have hzw:(tx w).length≤sizeLine:=a_d (by rw [a_k];exact le_trans hwl (by decide))
 have el:(((tx w).length:Nat):Int)=((w.length:Nat):Int):=by rw [a_k]
 refine (_,rfl,_,rfl,hzw,_,_,rfl,rfl,?_)
 rw [el]
 refine (_,rfl,by lia,by lia,?_)
 have er:((w.length:Nat):Int)+1=((w.length+1:Nat):Int):=rfl
 rw [er]
 refine b_G (λk σ' H'=>∃s5,σ'=[some (.ref m),some (.ref rl),some (.ref tb),some (.str (tx w)),some (.int ((run L W 0 (w.take k):Nat):Int)),s5]/\Same H H') (_,rfl,Same.refl H) ?_ ?_
 .rintro k σ' H1 hk ⟨s5,rfl,sm⟩
  rw [Int.zero_add]
  have hM1:=hM.same sm
  obtain ⟨wy,mk,rws,h1,h2,h3,h4,h5⟩:=id hM1
  have ht:∀c∈w.take k,c∈L:=λc hc=>hw c (List.mem_of_mem_take hc)
  have hrt:=a_M hMa n1 ht
  refine (ivT h1 aC (_,rfl,iqT h3 (f_L (by rw [hMa.bl];exact hrt)) (_,rfl,ivT h1 al (_,rfl,_,rfl,_,rfl,_,rfl,hzw,?_))))
  rw [mf]
  refine (rl,L,w.take k,ts,rows,rfl,sm _ _ hrl,hrw.keep λb xs e=>sm _ _ e,hl,hL3,hpos,λt H2 s2 ht2=>?_)
  have sm2:=sm.trans s2
  have tl:(d_a L rows (w.take k)).length=L.length:=by unfold d_a dn;rw [List.length_zipWith,qa4,hl,Nat.min_self]
  refine (_,rfl,tb,t,vks,ks,_,rfl,rfl,sm2 _ _ htb,hth.same λb xs e=>sm2 _ _ e,λk' hk'=>by rw [hkl k' hk',tl],ht2,rfl,_,rfl,?_)
  rw [if_neg Bool.false_ne_true,hin _ ht]
  refine d_y rfl (_,rfl,_,rfl,_,rfl,hzw,_,_,rfl,rfl,_,rfl,?_)
  rw [el]
  refine aB (λhlt=>?_) (λhlt=>?_)
  .have hkw:k<w.length:=ofNat_lt.mp hlt
   have ec:atI (tx w).cps.toList ((k:Nat):Int)=some w[k]:=a_R (by rw [a_P];exact qa2 hkw)
   refine (_,rfl,_,rfl,_,rfl,_,rfl,_,_,_,rfl,rfl,hzw,ec,m,L,W,B,_,[w[k]],rfl,hM.same sm2,hMa,hrt,λc hc=>by rw [qb1 hc];exact hw _ (getElem_mem hkw),some (.int ((k:Nat):Int)),?_,sm2)
   rw [<- a_Q,<- a_p (qa2 hkw)]
   rfl
  .have hkw:w.length≤k:=by lia
   refine (some (.int ((k:Nat):Int)),?_,sm2)
   rw [take_of_length_le hkw,take_of_length_le (by lia)]
   rfl
 .rintro σ' H1 ⟨s5,rfl,sm⟩
  exact q H1 sm
theorem e_M:a_e [Q0,"_law_bar","_law_sign"] [Q0,"_law_bar"] (a_c d_O):=fsc
theorem ok__law_swap (F:Fun K "_law_swap" "_law_swap" d_O f fd) (T:Txt K mg) (yr:Df P w K mg base "_law_bar_words" 2 ["_law_words",Q3] sp_lbw) (yj:Df P w K mg base "_law_takes" 2 [Q0,Q5] sp_ltakes):aa P w K mg base CX0 4 f fd [Q0,"_law_bar"] sp_lswap:=by
 refine F.okA e_M ?_
 rintro _ _ _ _ H _ _ _ hr ⟨m,t,L,W,B,x,y,rfl,hM,hMa,ht,hS,q⟩
 have hr2:=hr.mono (j:=2) (by decide)
 refine (_,(a_a ((a_N ((g_h (cqN (lqQ T.len (pv 1)) pe_int) (g_h (c_H (b_r (isQ T.isinst T.str boot_str (xqV 1)))) (f_t (cqN (xqV 1) b_l)))).pt) ((a_b (a_f c_l))) (a_m))) (a_a ((a_N (c_H (b_r (a_l yr hr2 (pq2 (b_u cu (pv 1) (b_x pe_int) c_i) (xqV 0))))) ((a_b (a_f c_l))) (a_m))) (a_a ((a_F PassesOwn.never rfl (d_A (xqV 0)) (pgN 2 e_M.nd) ((a_b ((a_N (cqN (c_Z plainAttrs_str PySem.F.slot_str_count PySem.F.type_str_count h_r (xqV 1) (pq1 (pv 2))) (c_Z plainAttrs_str PySem.F.slot_str_count PySem.F.type_str_count h_r (xqV 1) (pq1 (pv 2)))) ((a_b (a_f c_l))) (a_m))))))) (a_b (a_f (d_Z (a_l yj hr2 (pq2 (pv 0) (xqV 1))) (e_O (fT (a_l yj hr2 (pq2 (pv 0) (xqV 1))))))))))),?_)
 obtain ⟨wy,mk,rws,h1,h2,h3,h4,h5⟩:=id hM
 refine (_,rfl,t,_,rfl,.inr (SqT.of ht),rfl,_,rfl,d_y rfl ?_)
 refine (ivT ht al (_,_,_,rfl,ae.str _,kit_ss K,_,rfl,af ?_))
 refine (ivT ht al (rfl,_,rfl,d_y rfl ?_))
 refine (_,rfl,_,rfl,t,_,rfl,SqT.of ht,λz=>absurd (show (1:Nat)=0 from z.1) (by decide),λp hp=>?_)
 have s1:=Same.upd (o:=.tup (wordsV [x,y])) hp
 have e1:L2.upd H p (.tup (wordsV [x,y])) p=some (.tup (wordsV [x,y])):=upd_same
 generalize hH1:L2.upd H p (.tup (wordsV [x,y]))=H1 at s1 e1
 rw [show cutV [V.str (Str.ofString "swap"),.str (tx x),.str (tx y)] (some 1) none=wordsV [x,y] from rfl,hH1]
 clear hH1
 refine (ivT (s1 _ _ h1) al (p,L,[x,y],rfl,e1,λz hz=>?_,λH2 s2=>(_,rfl,af ?_)))
 .rcases mem_cons.mp hz with rfl|hz
  .exact (hS.cx,hS.lx)
  rw [qb1 hz]
  exact (hS.cy,hS.ly)
 have s12:=s1.trans s2
 refine (ivT (s12 _ _ h1) al (_,rfl,d_W (x:=tx L) (λj σ' H'=>∃s2,σ'=[some (.ref m),some (.ref t),s2]/\Same H H') (_,rfl,s12) ?_ ?_))
 .rintro j c σ' H3 hc ⟨s2,rfl,sm⟩
  refine (ivT (sm _ _ ht) aq (rfl,_,rfl,_,_,rfl,rfl,ivT (sm _ _ ht) aC (rfl,_,rfl,_,_,rfl,rfl,rfl,_,rfl,d_y ?_ (_,rfl,sm))))
  rw [count_one,count_one,hS.cnt c]
 .rintro σ' H3 ⟨s2,rfl,sm⟩
  have hM3:=hM.same sm
  refine (_,rfl,ivT (sm _ _ ht) aq (m,L,W,B,x,rfl,hM3,hMa,hS.cx,_,rfl,?_))
  rw [hS.yes]
  refine aj (_,rfl,ivT (sm _ _ ht) aC (m,L,W,B,y,rfl,hM3,hMa,hS.cy,_,rfl,?_))
  rw [hS.no]
  exact q H3 sm
theorem sc__law_same:a_e [Q6,"_law_due",Z1] [Q6,"_law_due"] (a_c d_Q):=fsc
theorem ok__law_same (F:Fun K "_law_same" "_law_same" d_Q f fd) (T:Txt K mg) (hm:mg "_law_same"=some (.ref f)) (hbi:c_n K fd [Q6,"_law_due"] []):aa P w K mg base CX0 4 f fd [Q6,"_law_due"] (f_h 3):=by
 have step:∀(d:Nat) (sp':Sp),Df P w K mg base "_law_same" d [Q6,"_law_due"] sp'->(∀d' x y H Q E,d=d'+1->fo H d' x y->Q (.bl true) H->sp' [x,y] H Q E)->aa P w K mg base CX0 (d+1) f fd [Q6,"_law_due"] (f_h d):=by
  intro d sp' yc hsp
  refine F.ok sc__law_same (λvs H Q E h=>?_) (λcdv A outer s H vs Q E hr h=>?_)
  .obtain ⟨x,y,rfl,_⟩:=h
   rfl
  .obtain ⟨x,y,rfl,hlike,q⟩:=h
   refine (_,(a_a ((a_N ((g_h (b_r (isQ T.isinst T.tuple boot_tuple (pv 1))) (f_t (b_r (isQ T.isinst T.list boot_list (pv 1))))).pt) ((a_a ((a_N ((g_h (cqN (isQ T.isinst T.tuple boot_tuple (pv 0)) (isQ T.isinst T.tuple boot_tuple (pv 1))) (f_t (cqN (isQ T.isinst T.list boot_list (pv 0)) (isQ T.isinst T.list boot_list (pv 1))))).pt) ((a_b (a_f c_l))) (a_m))) (a_a ((a_N (cqN (lqQ T.len (pv 0)) (lqQ T.len (pv 1))) ((a_b (a_f c_l))) (a_m))) (a_a ((a_F PassesOwn.never rfl (a_E rfl T.range (pq1 (lqQ T.len (pv 1)))) (pgN 2 sc__law_same.nd) ((a_b ((a_N (c_H (b_r (a_l yc hr (pq2 (pe_ix kX (pv 0) (pv 2) (λ_ _=>rfl)) (pe_ix kX (pv 1) (pv 2) (λ_ _=>rfl)))))) ((a_b (a_f c_l))) (a_m))))))) (a_b (a_f c_l)))))) (a_m))) (a_a ((a_N (b_r (isQ T.isinst T.bool boot_bool (pv 1))) ((a_b (a_f (d_Z (isQ T.isinst T.bool boot_bool (pv 0)) (e_O (c_A g_k (pv 0) (pv 1) (a_S _))))))) (a_m))) (a_a ((a_N (b_r (isQ T.isinst T.int boot_int (pv 1))) ((a_b (a_f (d_Z (isQ T.isinst T.int boot_int (pv 0)) (d_Z (fT (isQ T.isinst T.bool boot_bool (pv 0))) (e_O (c_A g_k (pv 0) (pv 1) (a_S _)))))))) (a_m))) (a_a ((a_N (b_r (isQ T.isinst T.str boot_str (pv 1))) ((a_b (a_f (d_Z (isQ T.isinst T.str boot_str (pv 0)) (e_O (c_A g_k (pv 0) (pv 1) (a_S _))))))) (a_m))) (a_b (h_c)))))),?_)
   have hcase:(x=y/\bU x=true)\/∃d' p q xs ys,d=d'+1/\x=.ref p/\y=.ref q/\((H p=some (.tup xs)/\H q=some (.tup ys))\/(H p=some (.lst xs)/\H q=some (.lst ys)))/\xs.length=ys.length/\xs.length≤1000/\∀(i:Nat) (x y:V),xs[i]?=some x->ys[i]?=some y->fo H d' x y:=by
    cases d with
    | zero=>exact .inl hlike
    | succ d'=>exact hlike.elim .inl λ⟨p,q,xs,ys,h⟩=>.inr (d',p,q,xs,ys,rfl,h)
   rcases hcase with ⟨rfl,hf⟩|⟨d',p,p2,xs,ys,hd,rfl,rfl,hpq,hlen,h1000,hall⟩
   .cases x with
    | bl b=>
     refine (_,rfl,_,_,_,rfl,ae.bl _,oK K,_,rfl,af (_,rfl,_,_,_,rfl,ae.bl _,oM K,_,rfl,af ?_))
     refine (_,rfl,_,_,_,rfl,ae.bl _,kit_bb K,_,rfl,aj (_,rfl,_,_,_,rfl,ae.bl _,kit_bb K,_,rfl,aj (_,rfl,_,rfl,rfl,?_)))
     show Q (.bl (decide (V.bl b=V.bl b))) H
     rw [decide_eq_true rfl]
     exact q
    | int b=>
     refine (_,rfl,_,_,_,rfl,ae.int _,oI K,_,rfl,af (_,rfl,_,_,_,rfl,ae.int _,oJ K,_,rfl,af ?_))
     refine (_,rfl,_,_,_,rfl,ae.int _,gt K,_,rfl,af ?_)
     refine (_,rfl,_,_,_,rfl,ae.int _,gq K,_,rfl,aj (_,rfl,_,_,_,rfl,ae.int _,gq K,_,rfl,aj (_,rfl,_,_,_,rfl,ae.int _,gt K,_,rfl,_,rfl,aj (_,rfl,_,rfl,rfl,?_))))
     show Q (.bl (decide (V.int b=V.int b))) H
     rw [decide_eq_true rfl]
     exact q
    | str b=>
     refine (_,rfl,_,_,_,rfl,ae.str _,oE K,_,rfl,af (_,rfl,_,_,_,rfl,ae.str _,oF K,_,rfl,af ?_))
     refine (_,rfl,_,_,_,rfl,ae.str _,oH K,_,rfl,af ?_)
     refine (_,rfl,_,_,_,rfl,ae.str _,oG K,_,rfl,af ?_)
     refine (_,rfl,_,_,_,rfl,ae.str _,kit_ss K,_,rfl,aj (_,rfl,_,_,_,rfl,ae.str _,kit_ss K,_,rfl,aj (_,rfl,_,rfl,rfl,?_)))
     show Q (.bl (decide (V.str b=V.str b))) H
     rw [decide_eq_true rfl]
     exact q
    | _=>exact absurd (show false=true from hf) Bool.false_ne_true
   .have hseq1:SqL K H p xs\/SqT K H p xs:=hpq.elim (λz=>.inr (SqT.of z.1)) (λz=>.inl (SqL.of z.1))
    have hseq2:SqL K H p2 ys\/SqT K H p2 ys:=hpq.elim (λz=>.inr (SqT.of z.2)) (λz=>.inl (SqL.of z.2))
    rcases hpq with ⟨hp,hq⟩|⟨hp,hq⟩
    .refine (_,rfl,_,_,_,rfl,ae.tup hq,(c_a K).1,_,rfl,aj (aj ?_))
     refine (_,rfl,_,_,_,rfl,ae.tup hp,(c_a K).1,_,rfl,_,_,_,rfl,ae.tup hq,(c_a K).1,rfl,_,rfl,d_y rfl (_,rfl,_,_,_,rfl,ae.tup hp,kU K,_,rfl,_,_,_,rfl,ae.tup hq,kU K,rfl,_,rfl,d_y rfl ?_))
     refine (_,rfl,p,xs,rfl,hseq1,_,rfl,p2,ys,rfl,hseq2,rfl,_,rfl,d_y (by rw [hlen]) ?_)
     refine (_,rfl,p2,ys,rfl,hseq2,_,rfl,by lia,by lia,?_)
     refine b_G (n:=ys.length) (λi σ H'=>∃s0,σ=[some (.ref p),some (.ref p2),s0]/\H'=H) (none,rfl,rfl) ?_ ?_
     .rintro i σ H1 hi ⟨s0,rfl,rfl⟩
      have hx:=qa2 (l:=xs) (i:=i) (by lia)
      have hy:=qa2 (l:=ys) (i:=i) (by omega)
      have hat1:atI xs (0+(i:Int))=some xs[i]:=by rw [Int.zero_add];exact a_R hx
      have hat2:atI ys (0+(i:Int))=some ys[i]:=by rw [Int.zero_add];exact a_R hy
      exact (_,rfl,_,rfl,.inr (.inl (p,xs,_,_,rfl,rfl,SqT.of hp,hat1,_,rfl,_,rfl,.inr (.inl (p2,ys,_,_,rfl,rfl,SqT.of hq,hat2,hsp d' _ _ _ _ _ hd (hall i _ _ hx hy) (_,rfl,af (_,rfl,rfl)))))))
     .rintro σ H1 ⟨s0,rfl,rfl⟩
      exact q
    .refine (_,rfl,_,_,_,rfl,ae.lst hq,gn K,_,rfl,af (_,rfl,_,_,_,rfl,ae.lst hq,(c_a K).2.1,_,rfl,aj ?_))
     refine (_,rfl,_,_,_,rfl,ae.lst hp,gn K,_,rfl,_,_,_,rfl,ae.lst hq,gn K,rfl,_,rfl,d_y rfl (_,rfl,_,_,_,rfl,ae.lst hp,(c_a K).2.1,_,rfl,_,_,_,rfl,ae.lst hq,(c_a K).2.1,rfl,_,rfl,d_y rfl ?_))
     refine (_,rfl,p,xs,rfl,hseq1,_,rfl,p2,ys,rfl,hseq2,rfl,_,rfl,d_y (by rw [hlen]) ?_)
     refine (_,rfl,p2,ys,rfl,hseq2,_,rfl,by lia,by lia,?_)
     refine b_G (n:=ys.length) (λi σ H'=>∃s0,σ=[some (.ref p),some (.ref p2),s0]/\H'=H) (none,rfl,rfl) ?_ ?_
     .rintro i σ H1 hi ⟨s0,rfl,rfl⟩
      have hx:=qa2 (l:=xs) (i:=i) (by lia)
      have hy:=qa2 (l:=ys) (i:=i) (by omega)
      have hat1:atI xs (0+(i:Int))=some xs[i]:=by rw [Int.zero_add];exact a_R hx
      have hat2:atI ys (0+(i:Int))=some ys[i]:=by rw [Int.zero_add];exact a_R hy
      exact (_,rfl,_,rfl,.inl (p,xs,_,_,rfl,rfl,SqL.of hp,hat1,_,rfl,_,rfl,.inl (p2,ys,_,_,rfl,rfl,SqL.of hq,hat2,hsp d' _ _ _ _ _ hd (hall i _ _ hx hy) (_,rfl,af (_,rfl,rfl)))))
     .rintro σ H1 ⟨s0,rfl,rfl⟩
      exact q
 have all:∀d:Nat,aa P w K mg base CX0 (d+1) f fd [Q6,"_law_due"] (f_h d):=by
  intro d
  induction d with
  | zero=>exact step 0 (λ_ _ _ _=>False) (f,fd,hm,F.kp,hbi,(λ_ _ _ _ h=>h.elim,λ_ _ _ _ _ _ _ _ _ _ _ _ _ h=>h.elim)) (λd' _ _ _ _ _ h=>by cases h)
  | succ d ih=>exact step (d+1) (f_h d) (f,fd,hm,F.kp,hbi,ih) (λd' x y H Q E h hl q=>by cases h;exact (x,y,rfl,hl,q))
 exact all 3
theorem g_v:a_e [Q4,Q3,Q0,Q6,Q9,Z4] [Q4] (a_c g_Y):=fsc
theorem ok_law (F:Fun K "law" "law" g_Y f fd) (T:Txt K mg) (y8:Df P w K mg base "_law_cell_at" 1 [Q4,Z1] (d_b K)) (yY:Df P w K mg base "_law_letters" 1 ["_law_cell"] sp_letters) (yA:Df P w K mg base "_law_built" 4 [Q4,Q3,"_law_kind"] (dL K)) (yN:Df P w K mg base "tell" 12 ["kind",Q7] (bu P0 sites)) (yP:Df P w K mg base "_law_stay" 3 [Q0,"_law_bar","_law_number"] sp_lstay) (v8:Df P w K mg base "_law_swap" 4 [Q0,"_law_bar"] sp_lswap) (yD:Df P w K mg base "_law_low_and_rest" 2 [Q0,Z1] sp_lowrest) (vw:Df P w K mg base "_law_table" 3 [Q0,Q9] sp_ltable) (yc:Df P w K mg base "_law_same" 4 [Q6,"_law_due"] (f_h 3)) (yL:Df P w K mg base "_law_beginnings" 3 [Q0,Q9,Z4,Q5] sp_lbeg) (vj:Df P w K mg base "_law_word" 1 [Q3,"_law_cells"] (gU K)):aa P w K mg base CX0 13 f fd [Q4] (cn K [(cT,P0,)]):=by
 refine F.okA g_v ?_
 rintro _ _ _ _ H _ _ _ hr ⟨a,ns,rfl,hS,hlen,hT0,k⟩
 have hr1:=hr.mono (j:=1) (by decide)
 have hr2:=hr.mono (j:=2) (by decide)
 have hr3:=hr.mono (j:=3) (by decide)
 have hr4:=hr.mono (j:=4) (by decide)
 refine (_,(a_a ((stS 1 g_v.nd ((a_l yY hr1 (pq1 ((a_l y8 hr1 (pq2 (pv 0) (pe_int))))))))) (a_a ((stS 2 g_v.nd ((a_l yA hr4 (pq3 (pv 0) (pv 1) (a_j op_m (a_l y8 hr1 (pq2 (pv 0) (pe_int))) pe_int)))))) (a_a ((stS 3 g_v.nd ((a_l yN hr (pq2 (b_l) (pv 2)))))) (a_a ((a_N ((g_h (c_H (b_r (isQ T.isinst T.tuple boot_tuple (pv 3)))) (g_h (cqN (lqQ T.len (pv 3)) pe_int) (f_t (c_H (b_r (isQ T.isinst T.bool boot_bool (xqV 3))))))).pt) ((a_b (a_f c_l))) (a_m))) (a_a ((a_N ((pw_and (c_H (b_r (xqV 3))) (pw_and (b_r (isQ T.isinst T.tuple boot_tuple (xqV 3))) (pw_and1 (cqE (lqQ T.len (xqV 3)) pe_int)))).pt) ((a_b (a_f (a_l yP hr3 (pq3 (pv 2) (xqV 3) (a_j op_a pe_int (a_j op_m (a_l y8 hr1 (pq2 (pv 0) (pe_int))) (a_j op_pow pe_int pe_int)))))))) (a_m))) (a_a ((a_N (c_H (b_r (xqV 3))) ((a_b (a_f (d_Z (isQ T.isinst T.tuple boot_tuple (xqV 3)) (e_O (a_l v8 hr4 (pq2 (pv 2) (xqV 3)))))))) (a_m))) (a_a (b_w [Q4,Q3,Q0,Q6,Q9,Z4] (j:=4) rfl g_v.nd (by decide) rfl (Or.inl rfl) (a_E rfl T.range (pq1 (lqS T.len (pv 1)))) (λcl C fp s' H'=>(a_q,(a_l yD hr2 (pq2 (pv 3) (pv 0)))))) (a_a ((stS 5 g_v.nd ((a_l vw hr3 (pq2 (pv 2) (pv 4)))))) (a_a ((a_N (c_H (b_r (a_l yc hr4 (pq2 (xqV 3) (a_W (pq2 (c_I [Q4,Q3,Q0,Q6,Q9,Z4] rfl (by decide) (c_c (pv 4)) (λcl C fp s' H'=>(a_q,pv 1))) (pv 5))))))) ((a_b (a_f c_l))) (a_m))) (a_a ((a_N (a_B (on (lt_of_le_of_lt (le_add_right _ 64) hr.units)) (c_I [Q4,Q3,Q0,Q6,Q9,Z4] rfl (by decide) (c_c (pv 4)) (λcl C fp s' H'=>(a_q,pv 0))) (a_j oj (a_G (pq1 pe_int)) (lqS T.len (pv 1))) (a_S _)) ((a_b (a_f c_l))) (a_m))) (a_b (a_f (a_l yL hr3 (c_B (pv 2) (pq3 (pv 4) (pv 5) ((a_l vj hr1 (pq2 (pv 1) (b_u cv (pv 0) (b_x pe_int) (b_x pe_int)))))))))))))))))))),?_)
 have b2:(2:Nat)≤sizeLine:=a_d (by show 2≤16777216;decide)
 have hT:b_B H P0 sites:=(#[],hT0 (cT,P0,) (by simp),dE,λq _=>.inl rfl)
 refine (_,rfl,a,ns,1,rfl,hS,by decide,λz0=>(z0,rfl,λL hL=>?_))
 have hL3:=hL.hi
 have hzL:(tx L).length≤sizeLine:=a_d (by rw [a_k];exact le_trans hL3 (by decide))
 refine (_,rfl,_,rfl,_,rfl,a,ns,0,rfl,hS,by decide,λz1=>(_,_,rfl,rfl,by decide,a,ns,L,_,rfl,hS,hL,λm W B H1 s1 hM1 hMa hW8=>?_))
 have hT2:=b_n hT s1
 refine (_,rfl,m,L,W,B,rfl,hM1,hMa,hW8,hT2,λt H2 g1 g2 hW=>?_)
 have hM2:a_o H2 m L W B:=hM1.tups (b_C g1 hT2)
 have hS2:SqL K H2 a (ns.map V.int):=pD g1 hT2 (s1.seq hS)
 have hW60:W.length≤60:=le_trans hW8 (by decide)
 rcases hW with ⟨p,rl,tb,rows,vks,W',B',ht,hp,hrl,hrn,hLe,cm,rc,lz,hro,htb,hth⟩|⟨p,x,y,ht,hp,hSw⟩|⟨p,x,y,z,ht,hp,hSt⟩
 rotate_left
 .refine (_,rfl,_,_,_,rfl,ae.tup ht,(c_a K).1,_,rfl,af (_,rfl,t,_,rfl,.inr (SqT.of ht),rfl,_,rfl,d_y rfl (ivT ht al (_,_,_,rfl,ae.bl _,kit_bb K,_,rfl,af ?_))))
  refine (ivT ht al (_,rfl,aj ?_))
  refine (ivT ht aq (_,_,_,rfl,ae.tup hp,(c_a K).1,_,rfl,aj ?_))
  refine (ivT ht aq (p,_,rfl,.inr (SqT.of hp),rfl,_,rfl,k7 (λz=>absurd (V.int.inj z) (by show ¬ ((3:Nat):Int)=4;decide)) ?_))
  refine (ivT ht al (_,rfl,aj ?_))
  refine (ivT ht aq (_,_,_,rfl,ae.tup hp,(c_a K).1,_,rfl,aj ?_))
  exact (_,rfl,ivT ht aq (m,p,L,W,B,x,y,rfl,hM2,hMa,hp,hSw,λH' _=>k _))
 .refine (_,rfl,_,_,_,rfl,ae.tup ht,(c_a K).1,_,rfl,af (_,rfl,t,_,rfl,.inr (SqT.of ht),rfl,_,rfl,d_y rfl (ivT ht al (_,_,_,rfl,ae.bl _,kit_bb K,_,rfl,af ?_))))
  refine (ivT ht al (_,rfl,aj ?_))
  refine (ivT ht aq (_,_,_,rfl,ae.tup hp,(c_a K).1,_,rfl,aj ?_))
  refine (ivT ht aq (p,_,rfl,.inr (SqT.of hp),rfl,_,rfl,mS rfl ?_))
  refine (_,rfl,ivT ht aq (_,rfl,a,ns,2,rfl,hS2,by decide,λz2=>(_,_,rfl,rfl,(by decide,by decide,by decide),_,_,rfl,rfl,by decide,_,_,rfl,rfl,?_)))
  have z20:0≤z2 % 10 ^ toNat 60:=emod_nonneg _ (by decide)
  generalize z2 % 10 ^ toNat 60=num at z20
  obtain ⟨n,rfl⟩:=Int.eq_ofNat_of_zero_le z20
  rw [show (1:Int)+(n:Int)=((n+1:Nat):Int) from Int.add_comm _ _]
  exact (m,p,L,W,B,x,y,z,n+1,rfl,hM2,hMa,hW60,Nat.succ_pos _,hp,hSt,λH' _=>k _)
 .have hMl:=hLe.mach
  have hll:=hLe.len
  have r8:∀q∈rows,q.1+q.2≤8:=λq hq=>by
   obtain ⟨i,hi⟩:=mem_iff_getElem?.mp hq
   have hil:i<L.length:=by rw [<- hrn];exact (qa1 hi).1
   have:=d_q hMl cm rc (getElem_mem hil) (hro i _ q (qa2 hil) hi).apart
   lia
  have rp:∀q∈rows,0<q.2:=λq hq=>by
   obtain ⟨i,hi⟩:=mem_iff_getElem?.mp hq
   have hil:i<L.length:=by rw [<- hrn];exact (qa1 hi).1
   exact (hro i _ q (qa2 hil) hi).pos
  refine (_,rfl,_,_,_,rfl,ae.tup ht,(c_a K).1,_,rfl,af (_,rfl,t,_,rfl,.inr (SqT.of ht),rfl,_,rfl,d_y rfl (ivT ht al (_,_,_,rfl,ae.bl _,kit_bb K,_,rfl,af ?_))))
  refine (ivT ht al (_,rfl,af ?_))
  refine (ivT ht al (_,rfl,af ?_))
  dsimp only [b_y]
  dsimp only [tNext,av,au,b_J,a_O,tBM,tCB]
  refine d_p (n:=L.length) (λR h=>(_,rfl,_,rfl,hzL,by rw [a_k];exact h)) (le_trans hL3 (by decide)) (λD j ys H'=>∃us:List Addr,ys=us.map V.ref/\aD H' us (rows.take j)) (λD hD=>([],rfl,rfl,λi t p e=>by simp at e)) ?_ ?_
  .intro D j ys H' R1 R2 hD hj hsm hDl hpv k1 k2
   obtain ⟨us,rfl,hus⟩:=hpv
   have ez:(0:Int)+(j:Int)=((j:Nat):Int):=Int.zero_add _
   rw [ez]
   have hjr:j<rows.length:=by rw [hrn];exact hj
   refine tAlways_if (_,rfl,_,rfl,m,L,W,B,W',B',j,L[j],rfl,hM2.same hsm,hMa,hLe,cm,rc,qa2 hj,λu low rest H3 s3 hu hR=>?_)
   obtain ⟨e1,e2⟩:=hR.uniq (hro j L[j] rows[j] (qa2 hj) (qa2 hjr))
   rw [e1,e2] at hu
   have hD3:=s3 _ _ hDl
   have tk:=e_s (o:=.lst (us.map V.ref++[.ref u])) hD3
   refine k1 (.ref u) H3 hD3 (Same.set (hsm.trans s3) hD) (us++[u],by rw [map_append];rfl,?_)
   rw [a_p (qa2 hjr)]
   exact ((hus.keep λb xs e=>s3 _ _ e).snoc hu).keep tk
  intro rl2 ys H3 hrl2 s3 hrl3 hpv
  obtain ⟨us,rfl,hus⟩:=hpv
  rw [<- hrn,take_length] at hus
  have etab:tabT L W B rows=tabT L W' B' rows:=by
   unfold tabT
   refine List.filter_congr λks _=>?_
   exact (hLe.takes hMa λc hc=>wdT_in hc).symm
  refine (_,rfl,_,rfl,m,rl2,L,W,B,us,rows,rfl,hM2.same s3,hMa,hrl3,hus,hrn,r8,λtb2 vks2 H4 s4 htb2 hth2=>?_)
  rw [etab] at hth2
  have s34:=s3.trans s4
  have us4:=hus.keep λb xs e=>s4 _ _ e
  refine (ivT (s34 _ _ ht) aq ?_)
  dsimp only [nQ,a_O]
  refine fe (λp=>p.2) (λR h=>(_,rfl,h)) (s4 _ _ hrl3) us4 (by lia) (λp H' R1 h=>(_,rfl,h)) λD H6 s6 hD=>?_
  refine (_,rfl,b2,λq0 hq0=>?_)
  have s7:=Same.upd (o:=.tup [.ref D,.ref tb2]) hq0
  have e5:L2.upd H6 q0 (.tup [.ref D,.ref tb2]) q0=some (.tup [.ref D,.ref tb2]):=upd_same
  generalize L2.upd H6 q0 (.tup [.ref D,.ref tb2])=H5 at s7 e5
  have s5:=s6.trans s7
  have s35:=s34.trans s5
  have cl8:∀q∈tabT L W' B' rows,q.length=L.length:=λq hq=>by
   have:=((d_v _ _).mp (mem_filter.mp hq).1).1
   rw [this,qa4,hrn]
  have ctl:(tabT L W' B' rows).length≤512:=by
   have h1:(tabT L W' B' rows).length≤(celF (rows.map λp=>p.1+p.2)).length:=List.length_filter_le _ _
   have h2:=f_d (rows.map λp=>p.1+p.2) λn hn=>by
    obtain ⟨p,hp,rfl⟩:=mem_map.mp hn
    exact r8 p hp
   have h3:(rows.map λp=>p.1+p.2).length≤3:=by rw [qa4,hrn];exact hL3
   have h4:=Nat.pow_le_pow_right (n:=8) (by decide) h3
   exact le_trans h1 (le_trans h2 (le_trans h4 (by decide)))
  have lk:fo H5 3 (.ref p) (.ref q0):=by
   refine .inr (p,q0,_,_,rfl,rfl,.inl (s35 _ _ hp,e5),rfl,by show 2≤1000;decide,λi x y hx hy=>?_)
   match i,hx,hy with
   | 0,hx,hy=>
    cases hx
    cases hy
    exact .inr (rl,D,_,_,rfl,rfl,.inr (s35 _ _ hrl,s7 _ _ hD),rfl,by rw [intsV_len,qa4];lia,g_A (g_F _))
   | 1,hx,hy=>
    cases hx
    cases hy
    exact kT (s35 _ _ htb) (s5 _ _ htb2) (hth.same λb xs e=>s35 _ _ e) (hth2.same λb xs e=>s5 _ _ e) (le_trans ctl (by decide)) λq hq=>by rw [cl8 q hq];exact le_trans hL3 (by decide)
  refine (_,_,rfl,lk,_,rfl,af ?_)
  have low:(rows.map λp=>p.1)=replicate L.length 0:=List.eq_replicate_iff.mpr (by rw [qa4,hrn],λb hb=>by
   obtain ⟨q,hq,rfl⟩:=mem_map.mp hb
   obtain ⟨i,hi⟩:=mem_iff_getElem?.mp hq
   have hil:i<L.length:=by rw [<- hrn];exact (qa1 hi).1
   exact lz _ (getElem_mem hil) _ _ (hro i _ q (qa2 hil) hi))
  dsimp only [tNext,av,pq,gT,tOp]
  refine fe (λp=>p.1) (λR h=>(_,rfl,h)) (s5 _ _ (s4 _ _ hrl3)) (us4.keep λb xs e=>s5 _ _ e) (by lia) (λp H' R1 h=>(_,rfl,h)) λD2 H7 s8 hD2=>?_
  rw [low] at hD2
  refine (a_d (by show 1≤16777216;decide),λz0 hz0=>(_,rfl,_,rfl,hzL,z0,_,_,rfl,rfl,upd_same,?_,?_,?_,λp5 hp5=>?_))
  .rw [a_k];lia
  .rw [a_k];lia
  .rw [a_k,toNat_natCast];exact a_d (by show 1 * L.length≤_;lia)
  rw [a_k,toNat_natCast,List.flatten_replicate_singleton]
  have s9:=(Same.upd (o:=.lst [.int 0]) hz0).trans (Same.upd (o:=.lst (replicate L.length (.int 0))) hp5)
  have e9:=(upd_same:L2.upd (L2.upd H7 z0 (.lst [.int 0])) p5 (.lst (replicate L.length (V.int 0))) p5=_)
  generalize L2.upd (L2.upd H7 z0 (.lst [.int 0])) p5 (.lst (replicate L.length (V.int 0)))=H8 at s9 e9
  refine (D2,p5,_,rfl,rfl,SqL.of (s9 _ _ hD2),SqL.of (by rw [e9,intsV,List.map_replicate];rfl),g_E _,_,rfl,af ?_)
  have s48:=s5.trans (s8.trans s9)
  have s38:=s34.trans s48
  refine (_,rfl,_,rfl,_,rfl,_,rfl,_,rfl,_,rfl,_,rfl,a,_,rfl,s38.seq hS2,λp4 hp4=>(L,p4,lS ns (some 12) (some 62),rfl,hL,SqL.of (by rw [upd_same,jA]),le_trans (f_Y _ _ _) hlen,λwd H6 hwl0 hwL s6'=>?_))
  have hwl:wd.length≤63:=by rw [hwl0];exact le_trans (f_Y _ _ _) hlen
  have s46:=s48.trans ((Same.upd (o:=.lst (cutV (ns.map V.int) (some 12) (some 62))) hp4).trans s6')
  exact (m,rl2,tb2,L,W,B,wd,us,rows,vks2,tabT L W' B' rows,rfl,hM2.same (s34.trans s46),hMa,(s4.trans s46) _ _ hrl3,us4.keep λb xs e=>s46 _ _ e,hrn,rp,s46 _ _ htb2,hth2.same λb xs e=>s46 _ _ e,cl8,by exact le_trans hwl (by decide),hwL,λv hv=>(hLe.takes hMa hv).symm.trans (fJ hMl cm hrn hro hv),λH' _=>k _)
end
theorem all_mk {l:PySem.W.OpenLaw} {w:World} {K K0:Frag} {h:Heap} {mg:Str->Option Value} {fa cT P0:Addr} (hK:K=a_Y [P0] K0) (X:K.In h) (G:h.Ns mainGlobals mg) (hfa:mg "law"=some (.ref fa))
  {fI:Addr} {odI anI:Option Addr} {slI:Array (Option Value)} {ocI kVI dcI pmI ctI:Value} {cdI:Addr}
  {cW:Addr} (nW:nsIn K mainGlobals "Walk"=some (some (.ref cW))) (hI0:findIn K0 (.ref cW) "__init__"=some (some (.ref fI)))
  (cls:Cls K cW) (mk:Mk K cW fI) (na1:b_I K cW "letters") (na2:b_I K cW "things") (na3:b_I K cW "words") (na4:b_I K cW "ways") (na5:b_I K cW "marks")
   (lI:K.lookup fI=some (ocI,odI,.func (fnOf "__init__" "Walk.__init__" (a_C e_w) (a_s e_w) (a_c e_w) .none kVI dcI pmI anI (.ref cdI) ctI),slI)) (cI:codeIn K (.ref cdI) "Walk.__init__"=true)
  {tD:Addr} {ocD:Value} {odD:Option Addr} {slD:Array (Option Value)} {nD:Nat}
  {fV:Addr} {odV anV:Option Addr} {slV:Array (Option Value)} {ocV kVV dcV pmV ctV:Value} {cdV:Addr}
  (aV:nsIn K mainGlobals "walked"=some (some (.ref fV))) (lV:K.lookup fV=some (ocV,odV,.func (fnOf "walked" "walked" (a_C b_t) (a_s b_t) (a_c b_t) (.ref tD) kVV dcV pmV anV (.ref cdV) ctV),slV)) (cV:codeIn K (.ref cdV) "walked"=true)
  (lD:K.lookup tD=some (ocD,odD,.seq #[.none] nD,slD))
  {fM:Addr} {odM anM:Option Addr} {slM:Array (Option Value)} {ocM kVM dcM pmM ctM:Value}
  (aM:nsIn K mainGlobals "walked_machine"=some (some (.ref fM))) (lM:K.lookup fM=some (ocM,odM,.func (fnOf "walked_machine" "walked_machine" (a_C a_n) (a_s a_n) (a_c a_n) .none kVM dcM pmM anM (.ref cT) ctM),slM)) (cM:codeIn K (.ref cT) "walked_machine"=true)
  {fF:Addr} (aF:nsIn K mainGlobals "first_words"=some (some (.ref fF))) (lF:o0 K "first_words" c_N fF)
  {u1:Addr} (y1:nsIn K mainGlobals "tell_first"=some (some (.ref u1)))
  {u2:Addr} (y2:nsIn K mainGlobals "tell_last"=some (some (.ref u2)))
  {u3:Addr} (y3:nsIn K mainGlobals "tell_within"=some (some (.ref u3)))
  {u4:Addr} (y4:nsIn K mainGlobals "tell_tally"=some (some (.ref u4)))
  {u6:Addr} (y6:nsIn K mainGlobals "tell_onward"=some (some (.ref u6)))
  {u7:Addr} (y7:nsIn K mainGlobals "tell_plain"=some (some (.ref u7)))
  (l0:FnX K "_law_cell_at" c_z)
  (l1:FnX K "_law_letters" c_v)
  (l2:FnX K "_law_machine" c_u)
  (l3:FnX K "_law_marks" d_i)
  (l4:FnX K "_law_forward" c_x)
  (l5:FnX K "_law_lots" d_R)
  (l6:FnX K "_law_memory" c_P)
  (l7:FnX K "_law_tallied" c_t)
  (l8:FnX K "_law_built" d_j)
  (l9:FnX K "_law_after" d_k)
  (l10:FnX K "_law_is_word" c_w)
  (l11:FnX K "is_whole" e_A)
  (l12:FnX K "is_room" f_q)
  (l13:FnX K "need_room" d_K)
  (l14:FnX K "need_word" d_J)
  (l15:FnX K "room_after" d_e)
  (l16:FnX K "takes" cF)
  (l17:FnX K "numbered" e_z)
  (l18:FnX K "many_lots" d_M)
  (l19:FnX K "rounds_of" d_I)
  (l20:FnX K "parting_word" c_r)
  (l21:FnX K "parting" f_p)
  (l22:FnX K "parted" g_X)
  (l23:FnX K "pairs_of" e_y)
  (l24:FnX K "swap_in" f_m)
  (l25:FnX K "act_of" h_a)
  (l26:FnX K "row_of" g_W)
  (l27:FnX K "rows_of" f_o)
  (l28:FnX K "stay_in" f_n)
  (l29:FnX K "bar_of_counts" c_h)
  (l30:FnX K "cells_of" e_B)
  (l31:FnX K "word_with" d_H)
  (l32:FnX K "table_of" e_x)
  (l33:FnX K "paper_of_tally" b_W)
  (l34:FnX K "paper_of_counts" b_Q)
  (l35:FnX K "first_rooms" c_O)
  (l36:FnX K "folded" g_Z)
  (l37:FnX K "least" cG)
  (l38:FnX K "need_kind" d_L)
  (l39:FnX K "told_by" f_l)
  (l40:FnX K "tell_counts" c_M)
  (l41:FnX K "tell" fQ)
  (l42:FnX K "_law_takes" d_f)
  (l43:FnX K "_law_bar_words" b_X)
  (l44:FnX K "_law_power" d_h)
  (l45:FnX K "_law_stay" d_P)
  (l46:FnX K "_law_word" d_N)
  (l47:FnX K "_law_come_to" c_y)
  (l48:FnX K "_law_alike_rooms" b_D)
  (l49:FnX K "_law_low_and_rest" b_v)
  (l50:FnX K "_law_table" d_g)
  (l51:FnX K "_law_told_by" c_s)
  (l52:FnX K "_law_beginnings" b_R)
  (l53:FnX K "_law_swap" d_O)
  (l54:FnX K "_law_same" d_Q)
  {f55:Addr} {od55 an55:Option Addr} {sl55:Array (Option Value)} {oc55 kV55 dc55 pm55 ct55:Value} {cd55:Addr}
  (a55:nsIn K mainGlobals "law"=some (some (.ref f55))) (l55:K.lookup f55=some (oc55,od55,.func (fnOf "law" "law" (a_C g_Y) (a_s g_Y) (a_c g_Y) .none kV55 dc55 pm55 an55 (.ref cd55) ct55),sl55)) (c55:codeIn K (.ref cd55) "law"=true)
  (z_len:nsIn K mainGlobals "len"=some none)
  (z_range:nsIn K mainGlobals "range"=some none)
  (z_isinst:nsIn K mainGlobals "isinstance"=some none)
  (z_int:nsIn K mainGlobals "int"=some none)
  (z_bool:nsIn K mainGlobals "bool"=some none)
  (z_tuple:nsIn K mainGlobals "tuple"=some none)
  (z_list:nsIn K mainGlobals "list"=some none)
  (z_str:nsIn K mainGlobals "str"=some none)
  (z_zip:nsIn K mainGlobals "zip"=some none)
  (z_max:nsIn K mainGlobals "max"=some none)
  (z_enumerate:nsIn K mainGlobals "enumerate"=some none)
  (z_reversed:nsIn K mainGlobals "reversed"=some none)
  :∃fd:FuncData,(∀(s:Shared) (v:Value),BindsTo s fd ([v],[]) [("_law_script",v,)])/\∀base:Heap,K.In base->base.Ns mainGlobals mg->bd base mg->(∀q∈[(cT,P0,)],CodeHd base q.1 q.2)->aa l.prog w K mg base CX0 13 fa fd ["_law_script"] (cn K [(cT,P0,)]):=by
 have e:=hfa.symm.trans (mg_of X G a55)
 cases e
 have T:Txt K mg:=(mg_none_of X G z_len,mg_none_of X G z_range,mg_none_of X G z_isinst,mg_none_of X G z_int,mg_none_of X G z_bool,mg_none_of X G z_tuple,mg_none_of X G z_list,mg_none_of X G z_str,mg_none_of X G z_zip,mg_none_of X G z_max,mg_none_of X G z_enumerate,mg_none_of X G z_reversed)
 obtain ⟨f0,a0,_,F0⟩:=l0
 obtain ⟨f1,a1,_,F1⟩:=l1
 obtain ⟨f2,a2,_,F2⟩:=l2
 obtain ⟨f3,a3,_,F3⟩:=l3
 obtain ⟨f4,a4,_,F4⟩:=l4
 obtain ⟨f5,a5,_,F5⟩:=l5
 obtain ⟨f6,a6,_,F6⟩:=l6
 obtain ⟨f7,a7,_,F7⟩:=l7
 obtain ⟨f8,a8,_,F8⟩:=l8
 obtain ⟨f9,a9,_,F9⟩:=l9
 obtain ⟨f10,a10,_,F10⟩:=l10
 obtain ⟨f11,a11,_,F11⟩:=l11
 obtain ⟨f12,a12,_,F12⟩:=l12
 obtain ⟨f13,a13,_,F13⟩:=l13
 obtain ⟨f14,a14,_,F14⟩:=l14
 obtain ⟨f15,a15,_,F15⟩:=l15
 obtain ⟨f16,a16,_,F16⟩:=l16
 obtain ⟨f17,a17,_,F17⟩:=l17
 obtain ⟨f18,a18,_,F18⟩:=l18
 obtain ⟨f19,a19,_,F19⟩:=l19
 obtain ⟨f20,a20,_,F20⟩:=l20
 obtain ⟨f21,a21,_,F21⟩:=l21
 obtain ⟨f22,a22,_,F22⟩:=l22
 obtain ⟨f23,a23,_,F23⟩:=l23
 obtain ⟨f24,a24,_,F24⟩:=l24
 obtain ⟨f25,a25,_,F25⟩:=l25
 obtain ⟨f26,a26,_,F26⟩:=l26
 obtain ⟨f27,a27,_,F27⟩:=l27
 obtain ⟨f28,a28,_,F28⟩:=l28
 obtain ⟨f29,a29,_,F29⟩:=l29
 obtain ⟨f30,a30,_,F30⟩:=l30
 obtain ⟨f31,a31,_,F31⟩:=l31
 obtain ⟨f32,a32,_,F32⟩:=l32
 obtain ⟨f33,a33,_,F33⟩:=l33
 obtain ⟨f34,a34,_,F34⟩:=l34
 obtain ⟨f35,a35,_,F35⟩:=l35
 obtain ⟨f36,a36,_,F36⟩:=l36
 obtain ⟨f37,a37,_,F37⟩:=l37
 obtain ⟨f38,a38,_,F38⟩:=l38
 obtain ⟨f39,a39,_,F39⟩:=l39
 obtain ⟨f40,a40,_,F40⟩:=l40
 obtain ⟨f41,a41,_,F41⟩:=l41
 obtain ⟨f42,a42,_,F42⟩:=l42
 obtain ⟨f43,a43,_,F43⟩:=l43
 obtain ⟨f44,a44,_,F44⟩:=l44
 obtain ⟨f45,a45,_,F45⟩:=l45
 obtain ⟨f46,a46,_,F46⟩:=l46
 obtain ⟨f47,a47,_,F47⟩:=l47
 obtain ⟨f48,a48,_,F48⟩:=l48
 obtain ⟨f49,a49,_,F49⟩:=l49
 obtain ⟨f50,a50,_,F50⟩:=l50
 obtain ⟨f51,a51,_,F51⟩:=l51
 obtain ⟨f52,a52,_,F52⟩:=l52
 obtain ⟨f53,a53,_,F53⟩:=l53
 obtain ⟨f54,a54,_,F54⟩:=l54
 have F55:=db (st:=g_Y) l55 c55 (keepF l55)
 obtain ⟨_,FF⟩:=lF
 have WT:=WkT.mk (mg_of X G nW) cls mk na1 na2 na3 na4 na5 (db (st:=e_w) lI cI (keepF lI))
 have WK:WkK K cW:=(cls,na1,na4,na5)
 refine (fnOf "law" "law" (a_C g_Y) (a_s g_Y) (a_c g_Y) .none kV55 dc55 pm55 an55 (.ref cd55) ct55,λs v=>.of_eq rfl,λbase _ _ hB hC=>?_)
 have dm:=@dfm l.prog w K mg base h X G
 have hC1:CodeHd base cT P0:=hC (cT,P0,) (by simp)
 have yb:Df l.prog w K mg base "walked_machine" 6 ["machine"] (e_Y cW P0 sites):=(fM,_,mg_of X G aM,keepF lM,(db (st:=a_n) lM cM (keepF lM)).binds (ps:=["machine"]) (λ_ _ _ _ _ _ us hl=>by obtain ⟨_,rfl⟩:=pT hl;rfl),kE lM cM lV cV (keepF lV) (mg_of X G aV) lD WT (mg_none_of X G z_len) (mg_none_of X G z_zip) hC1 hB)
 have yi:Df l.prog w K mg base "first_words" 7 ["machine"] (gY P0 sites):=(fF,_,mg_of X G aF,FF.kp,FF.binds (ps:=["machine"]) (λ_ _ _ _ _ _ us hl=>by obtain ⟨_,rfl⟩:=pT hl;rfl),pP FF WT (mg_none_of X G z_list) (mg_none_of X G z_zip) yb)
 have y8:=dm a0 F0 (bn2 F0 (by intros;rfl)) (f_H F0 T )
 have yY:=dm a1 F1 (bn1 F1 (by intros;rfl)) (f_D F1 T )
 have yt:=dm a2 F2 (bn4 F2 (by intros;rfl)) (f_C F2 T y8)
 have yk:=dm a3 F3 (bn2 F3 (by intros;rfl)) (h_m F3 T y8)
 have yG:=dm a4 F4 (bn3 F4 (by intros;rfl)) (f_F F4 T y8 yt)
 have yM:=dm a5 F5 (bn2 F5 (by intros;rfl)) (ok__law_lots F5 T yk)
 have v3:=dm a6 F6 (bn2 F6 (by intros;rfl)) (g_n F6 T y8 yk)
 have v4:=dm a7 F7 (bn2 F7 (by intros;rfl)) (f_B F7 T y8 yk)
 have yA:=dm a8 F8 (bn3 F8 (by intros;rfl)) (h_n F8 T y8 yt yG v3 yM v4)
 have yy:=dm a9 F9 (bn3 F9 (by intros;rfl)) (h_o F9 T )
 have v9:=dm a10 F10 (bn2 F10 (by intros;rfl)) (f_E F10 T )
 have yB:=dm a11 F11 (bn1 F11 (by intros;rfl)) (ok_is_whole F11 T )
 have yR:=dm a12 F12 (bn2 F12 (by intros;rfl)) (ok_is_room F12 T yB)
 have yq:=dm a13 F13 (bn2 F13 (by intros;rfl)) (ok_need_room F13 T yR)
 have yQ:=dm a14 F14 (bn2 F14 (by intros;rfl)) (ok_need_word F14 T )
 have y9:=dm a15 F15 (bn3 F15 (by intros;rfl)) (h_i F15 T yq yQ)
 have yz:=dm a16 F16 (bn2 F16 (by intros;rfl)) (ok_takes F16 T y9)
 have ya:=dm a17 F17 (bn1 F17 (by intros;rfl)) (ok_numbered F17 T )
 have yu:=dm a18 F18 (bn1 F18 (by intros;rfl)) (ok_many_lots F18 T )
 have yw:=dm a19 F19 (bn3 F19 (by intros;rfl)) (ok_rounds_of F19 T ya yu)
 have yU:=dm a20 F20 (bn5 F20 (by intros;rfl)) (f_z F20 T )
 have yf:=dm a21 F21 (bn3 F21 (by intros;rfl)) (ok_parting F21 T yq yw yU)
 have vy:=dm a22 F22 (bn3 F22 (by intros;rfl)) (ok_parted F22 T yf y9 yz)
 have yC:=dm a23 F23 (bn1 F23 (by intros;rfl)) (ok_pairs_of F23 T )
 have yI:=dm a24 F24 (bn1 F24 (by intros;rfl)) (ok_swap_in F24 T yi yC y9 vy)
 have yg:=dm a25 F25 (bn2 F25 (by intros;rfl)) (ok_act_of F25 T y9)
 have yX:=dm a26 F26 (bn2 F26 (by intros;rfl)) (ok_row_of F26 T yg)
 have yn:=dm a27 F27 (bn1 F27 (by intros;rfl)) (ok_rows_of F27 T yX)
 have yK:=dm a28 F28 (bn1 F28 (by intros;rfl)) (ok_stay_in F28 T yn yg yi yf)
 have yh:=dm a29 F29 (bn1 F29 (by intros;rfl)) (e_S F29 T yI yK)
 have yT:=dm a30 F30 (bn1 F30 (by intros;rfl)) (ok_cells_of F30 T )
 have yJ:=dm a31 F31 (bn2 F31 (by intros;rfl)) (ok_word_with F31 T )
 have yW:=dm a32 F32 (bn2 F32 (by intros;rfl)) (ok_table_of F32 T yT yz yJ)
 have yF:=dm a33 F33 (bn1 F33 (by intros;rfl)) (e_D F33 T yn yW)
 have yd:=dm a34 F34 (bn1 F34 (by intros;rfl)) (e_b F34 T yF)
 have vx:=dm a35 F35 (bn1 F35 (by intros;rfl)) (g_m F35 T yu)
 have vv:=dm a36 F36 (bn2 F36 (by intros;rfl)) (ok_folded F36 T WK vx)
 have v7:=dm a37 F37 (bn1 F37 (by intros;rfl)) (ok_least F37 T WK yb yw vv)
 have yV:=dm a38 F38 (bn2 F38 (by intros;rfl)) (ok_need_kind F38 T )
 have yZ:=dm a39 F39 (bn3 F39 (by intros;rfl)) (ok_told_by F39 T yh yd)
 have yH:=dm a40 F40 (bn1 F40 (by intros;rfl)) (g_l F40 T v7 yZ yh yd)
 have yN:=dm a41 F41 (bn2 F41 (by intros;rfl)) (ok_tell F41 T (mg_of X G y1) (mg_of X G y2) (mg_of X G y3) (mg_of X G y4) (mg_of X G y6) (mg_of X G y7) yV yH)
 have yj:=dm a42 F42 (bn2 F42 (by intros;rfl)) (h_j F42 T yy)
 have yr:=dm a43 F43 (bn2 F43 (by intros;rfl)) (e_E F43 T v9)
 have yE:=dm a44 F44 (bn3 F44 (by intros;rfl)) (h_l F44 T yy)
 have yP:=dm a45 F45 (bn3 F45 (by intros;rfl)) (ok__law_stay F45 T yr yy yE)
 have vj:=dm a46 F46 (bn2 F46 (by intros;rfl)) (ok__law_word F46 T )
 have vg:=dm a47 F47 (bn1 F47 (by intros;rfl)) (f_G F47 T )
 have vk:=dm a48 F48 (bn1 F48 (by intros;rfl)) (d_T F48 T )
 have yD:=dm a49 F49 (bn2 F49 (by intros;rfl)) (d_x F49 T vk vg)
 have vw:=dm a50 F50 (bn2 F50 (by intros;rfl)) (h_k F50 T yj)
 have vq:=dm a51 F51 (bn3 F51 (by intros;rfl)) (f_A F51 T )
 have yL:=dm a52 F52 (bn4 F52 (by intros;rfl)) (e_c F52 T vq yy)
 have v8:=dm a53 F53 (bn2 F53 (by intros;rfl)) (ok__law_swap F53 T yr yj)
 have yc:=dm a54 F54 (bn2 F54 (by intros;rfl)) (ok__law_same F54 T  (mg_of X G a54) (bn2 F54 (by intros;rfl)))
 exact ok_law F55 T y8 yY yA yN yP v8 yD vw yc yL vj
end K55
end
structure PySem.W.Fast:Prop where
 (tw14779332671985754425 tw7593452866949180464 tw15948733525020442728 tw18321729506549464121 tw8309689374966403882 tw8152938327212930385 tw2458574796564180169 tw14774618828482729414 tw13190288337338973256 tw4264571460539344478 tw15983316993382404939 tw7958986085292162278 tw2214998459129609257 tw6204539354659650299 tw7301809258336545798 tw12292145299876290848 tw7590408824010619128 tw6968301723367396046 tw5326309758312019120 tw13129685069340280826 tw11341180914227609649 tw5722967076023942308 tw16163428975737793274 tw18407353422548506545 tw7792873289101446390 tw18364457001465746547 tw8432396218773896307 tw5372571525829121869 tw12611067274330211675 tw16308071128358045664 tw7378368320049127196 tw8577387289170084220 tw7269516064808875226 tw12098070638962071820 tw12486723142955209132 tw7106186675467577233 tw841654983570432557 tw13130442740378770770 tw14858985096070726918 tw9128937253802730594 tw4801881787869502122 tw7703972462536322561 tw3453551722494581204 tw2822920589867961425 tw7423203757724069426 tw9513254173895133029 tw15453634199307910603 tw16601825791114388769 tw17059815294914610407 tw13135054486310301248 tw175187014198513017 tw11493498968072497918 tw11684085651981304258 tw13041221147423971906 tw1403959958578466559 tw10037335922032560432 tw2346045239205332210 tw8550268706786911314 tw1222062305349168738 tw16475053387921937665 tw17992380719385174276 tw4745107134972351317 tw8502529299506650606 tw14060792412729375871 tw4719377559232150032 tw7134401940505103645 tw15921183278670000945 tw14874756444088246486 tw7676139275724600947 tw3739515328053154024 tw8103878643848120981 tw8519433118889759744 tw14348586368507742158 tw13332703521248860455 tw12534154488819962652 tw13635212421061282937 tw10127160612429325770 tw1844335430264065860 tw13547135258035402287 tw14116572993066552525 tw4977686208240989258 tw13233639821925434669 tw6366139514271858448 tw17947626774915471589 tw13615215624562568581 tw4310734893772632561 tw15102430301607035033 tw5833051533429998614 tw16817346806037182966 tw5197471963860408385 tw17915293358299981936 tw6710385142237717889 tw14457421419369544724 tw2552964248686969744 tw12334175783685158711 tw1716080914849405750 tw13286906620754437580 tw11234794432195248187 tw9143407538748800406 tw18130811605286499376 tw9401838796920370501 tw5047077200046878271 tw16160125744667858096 tw12845319743010627319 tw5862261447913318680 tw13002725332641082577 tw3186738770688919590 tw17859347296060497455 tw10509030102464840285 tw13828253985867068647 tw8311994492075948880 tw9450214733133084490 tw7667780274306590928 tw16979146955800550413 tw2254142283344800793 tw15305906422959332296 tw9847215550206316472 tw9422003214169238524 tw372604433541766857 tw13699460655081033716 tw10414241621786923492 tw14547075460549569651 tw16632358354718822115 tw2124549475817151345 tw10639659029807059833 tw5035908699802335773 tw6566376245021499008 tw16725016901042575700 tw4869392979356425548 tw9547247796676918083 tw12882045880431525546 tw7422776521687774772 tw8192661979477129062 tw8053201090989181827 tw16782945164925479094 tw10210454008943538756 tw4441906880175400466 tw14702518821777648715 tw2710764170587719401 tw5050879149691514597 tw17925710803069952828 tw15210337499043380835 tw11869984801371822142 tw7597795662322333801 tw70850439589355312 tw12051145144767597492 tw8387819549415207045 tw3387432717364432193 tw5129680472214035052 tw13469478253009220501 tw12436296694628798409 tw12875749280679458624 tw12563331329141649208 tw13402861241893410087 tw15302022312121272278 tw12837691831104356453 tw16958378708613197833 tw2998001042858923362 tw413777985615045695 tw44574522666822792 tw3304030605475348876 tw806567209726370810 tw2579429253045809692 tw5950983513204331083 tw15898075949486767155 tw11557680648147627342 tw11170905989724524871 tw3761482776679294473 tw6228917486648619611 tw3769555478553827821 tw17629234355043773014 tw11003780538911803302 tw12227548618126774936 tw4822049637871246017 tw1203515170137028131 tw18395530361162387295 tw13769208092590525115 tw9193946633184312588 tw9933409975020204423 tw17106222136623398489 tw6375023047021284351 tw5145390389696909954 tw12924142407034909586 tw3487955843001793716 tw3811727993110929796 tw10566163054425369069 tw9815936530970969509 tw2606018446881565828 tw7665700499985911573 tw11580909578665579681 tw11501393067629502390 tw9877138004964211171 tw12404049207656213295 tw10923791371766299023 tw8032388425424928427 tw141618742075495421 tw16057000417071464260 tw15746443586263259617 tw12502685396817831415 tw13271255738715073037 tw17732014836404238739 tw4710202711246688301 tw11309900820584692792 tw15983641363978182628 tw16112688890134365235 tw6815175495241396385 tw16552748437965460767 tw870388836527087675 tw449153288886692983 tw13470965986144497858 tw6564395492638446267 tw14654639357229722382 tw15549380893628669070 tw6784889450328868848 tw16458445867180998344 tw9108105188245963744 tw13094048454644880565 tw702346001610559718 tw2347572517878694794 tw4796770299186166052 tw1787654493609662210 tw1840958167948992626 tw16090519404782927967 tw14345157626139492295 tw16314447151101541713 tw616224381327243669 tw17863242603026501057 tw8862351414221780051 tw16154069496970004197 tw10844885937334798051 tw2187439491385907718 tw14940360305606363416 tw17075881948086998312 tw1685340541723579961 tw5527753684826997293 tw14517582845401719629 tw8692686231760087440 tw8852081678061445345 tw9154679876285213958 tw7191535006255816752 tw8576753521697735744 tw385046991661033416 tw10340809566971553356 tw8868876309604610805 tw1465847900100633630 tw12607647943960743633 tw8941001809163854297 tw3424466084983574485 tw10726175099401540019 tw7137713343097618612 tw15864046178854070020 tw12898675153263846472 tw1187120821927006358 tw4062293805849626154 tw1311157040883495200 tw9815594780124750561 tw16643791142651682271 tw15636325947789676042 tw6467914606389901081 tw10752758147319840555 tw12464865055885855293 tw2170049541182167115 tw10640107912727466772 tw10810608154846057369 tw16453000446089974212 tw617059197584050745 tw11712594844022617837 tw8934512299346035673 tw11156173353975615405 tw1400574719990573644 tw11885620492811076360 tw8927221470991282122 tw877374366576187789 tw7756019230290907379 tw7540374131064982059 tw2808314249592266073 tw5401016471407691052 tw17708973762380545195 tw2413793786333806113 tw9553956693711503042 tw521134394785780391 tw372364847942906877 tw12424524389263324617 tw17589719271374366328 tw3880064053419924414 tw17525342684887354569 tw3443541878710033069 tw2896691477405668341 tw11346559961951391509 tw5081210425184933376 tw1172863659208331347 tw16633634444919295037 tw8141755375113441651 tw17197975459091733879 tw10261985639704936265 tw6336281586205789669 tw15449848411360767675 tw8711856013613871476 tw8583718043383731488 tw15858941078954584817 tw14709209057063973159 tw10153251917236926568 tw2975530963453562945 tw640976055960477248 tw16036693815399158576 tw16032695177268698740 tw10502417400104622773 tw10281524966448798775 tw6013564466494665508 tw15146680435989819704 tw4543286790275114791 tw13907327532195031677 tw9565083783051173094 tw5322725781480296355 tw9475901245186731216 tw16971234066757412685 tw414093235882611468 tw15220113672811621472 tw10225770609969212350 tw8227117061154694854 tw7503122250931426817 tw6607523951855887778 tw4421708784339858535 tw11602713793861401438 tw6998382416174159048 tw7613302919804192530 tw17133401911237254497 tw3143030192285251379 tw14885642178109830665 tw13752328770136533612 tw13329518488592696331 tw10189405395642310765 tw3169024771009415979 tw13085998207325119060 tw15071681664952709877 tw367000468821792380 tw2005237912396185267 tw10884446203828179975 tw4946865554683785966 tw4104408773896286621 tw17021800053894852826 tw16425196766316403277 tw15579642303157123646 tw14764102574717735649 tw11311576259951655328 tw1115590953525384990 tw11117764660398618643 tw11022156760848950457 tw6283537601356756795 tw2211935490153441914 tw9494906302777154627 tw7765827747565258129 tw4660953054843184610 tw15912688829975211579 tw15229354745385287171 tw269163663843796114 tw17844095261882528130 tw9506740776113291561 tw2399476127536889112 tw12965958567509718371 tw7309376238219072902 tw12533298204882736923 tw10645927139608858575 tw9227890671869786433 tw5827659127107869182 tw3890187570476588783 tw13942297765192208467 tw13433427328994951046 tw10095609418812602926 tw6355667678908836736 tw5981672523592422599 tw4630793532916833238 tw17891272945927790160 tw17364746492057184429 tw15872754474409400702 tw11778136835365491525 tw10557265668615341021 tw15866517836462929888 tw11630168623560907968 tw3365107728005948401 tw2097721088368659548 tw11779875066407482822 tw11743032178098471454 tw7596492238705061318 tw2728166040788678935 tw9267884717336427813 tw1704959741061299228 tw16079607601112313694 tw14867247754860420674 tw13540240587678601624 tw1329792989128214027 tw2747990975712754645:True)
open PySem PySem.W PyProof.Rows
set_option maxRecDepth 100000 in
set_option maxHeartbeats 0 in
theorem PySem.Challenge.cw_roomalgebra_k55_by_remainders_holds : PySem.Challenge.rw_roomalgebra_k55_by_remainders.Holds := by
 w_on;o_law;z_head;(case hw=>w_witness2)
 k_fill
 intro w sa sb mg mb G ye fa ob pm cd dc dv kv e1 e2 e3 e4 e5 e6 gs vs bs La c1 c2 c3 c4 c5
 z_open ye La KX ZH ZN ZT
 clear ye La ZH ZN ZT
 refine L2.walk63t (k:=13) (x:="_law_script") (l:=PySem.Challenge.rw_roomalgebra_k55_by_remainders) (tabs:=[(217,213)]) rfl rfl ⟨rfl,by decide,by decide⟩ ?T ?F w sa sb mg mb G KX fa ob pm cd dc dv kv e1 e2 e3 e4 e5 e6 gs vs bs c1 c2 c3 c4 c5
 case T=>
  intro p q hq
  simp only [mem_cons,not_mem_nil,or_false] at hq
  subst hq
  exact ⟨by kernel_rfl,by kernel_rfl⟩
 case F=>
  intro w mg fa h KX G hmg
  refine' K55.all_mk rfl KX G hmg ?nW ?hI0 ?cls ?mk ?na1 ?na2 ?na3 ?na4 ?na5 ?lI ?cI ?aV ?lV ?cV ?lD ?aM ?lM ?cM ?aF ?lF ?y1 ?y2 ?y3 ?y4 ?y6 ?y7 ?l0 ?l1 ?l2 ?l3 ?l4 ?l5 ?l6 ?l7 ?l8 ?l9 ?l10 ?l11 ?l12 ?l13 ?l14 ?l15 ?l16 ?l17 ?l18 ?l19 ?l20 ?l21 ?l22 ?l23 ?l24 ?l25 ?l26 ?l27 ?l28 ?l29 ?l30 ?l31 ?l32 ?l33 ?l34 ?l35 ?l36 ?l37 ?l38 ?l39 ?l40 ?l41 ?l42 ?l43 ?l44 ?l45 ?l46 ?l47 ?l48 ?l49 ?l50 ?l51 ?l52 ?l53 ?l54 ?a55 ?l55 ?c55 ?z_len ?z_range ?z_isinst ?z_int ?z_bool ?z_tuple ?z_list ?z_str ?z_zip ?z_max ?z_enumerate ?z_reversed
  (case nW|aV|aM|aF|y1|y2|y3|y4|y6|y7|a55|z_len|z_range|z_isinst|z_int|z_bool|z_tuple|z_list|z_str|z_zip|z_max|z_enumerate|z_reversed=>exact L2.nsD (by k_is) (by decide))
  (case hI0=>k_is)
  (case cls|mk=>exact ⟨by kernel_rfl,by kernel_rfl,by kernel_rfl,by kernel_rfl⟩)
  (case na1|na2|na3|na4|na5=>unfold L2.b_I;kernel_rfl)
  (case lI|lV|lD|lM|l55=>exact L2.lkD (by k_is) (by decide))
  (case cI|cV|cM|c55=>exact L2.cdD (by k_is) (by decide))
  (case lF=>exact L2.fn_in (L2.lkD (by k_is) (by decide)) (L2.cdD (by k_is) (by decide)))
  (case l0|l1|l2|l3|l4|l5|l6|l7|l8|l9|l10|l11|l12|l13|l14|l15|l16|l17|l18|l19|l20|l21|l22|l23|l24|l25|l26|l27|l28|l29|l30|l31|l32|l33|l34|l35|l36|l37|l38|l39|l40|l41|l42|l43|l44|l45|l46|l47|l48|l49|l50|l51|l52|l53|l54=>exact ⟨_,L2.nsD (by k_is) (by decide),L2.fn_in (L2.lkD (by k_is) (by decide)) (L2.cdD (by k_is) (by decide))⟩)
#print axioms PySem.Challenge.cw_roomalgebra_k55_by_remainders_holds
