import PyProof.Rows.All
import Wide.All
import OpenK.AllK
import Wide.FinOn
import Lean
import PyProof.EqAt
import PyProof.EqKinds
import PyProof.TupleCall
import PyProof.Draws
import PyProof.ZipIter
import PySem.Challenge.RW_roomalgebra_k53_by_letters_within
set_option Elab.async false
set_option linter.all false
set_option maxRecDepth 100000
namespace L2
open PySem PySem.Spec PyProof.Rows
abbrev Key:=Sum Int Str
def keyIs:Key->Value->Bool
 | .inl k,v=>Value.isInt k v
 | .inr x,v=>Value.isStrOf x v
def keyH (w:World):Key->Int
 | .inl k=>hashInt k
 | .inr x=>hashStr w x
theorem keyIs_shape:∀{k:Key} {v:Value},keyIs k v=true->(∃i t,k=Sum.inl i/\v=Value.int i t)\/(∃x t,k=Sum.inr x/\v=Value.str x t)
 | .inl i,v,h=>by
  obtain ⟨t,e⟩:=Value.isInt_shape (k:=i) (v:=v) h
  exact .inl ⟨i,t,rfl,e⟩
 | .inr x,v,h=>by
  obtain ⟨t,e⟩:=Value.isStrOf_shape (x:=x) (v:=v) h
  exact .inr ⟨x,t,rfl,e⟩
theorem keyIs_int (i:Int) (t:Tok):keyIs (.inl i) (.int i t)=true:=by simp [keyIs,Value.isInt]
theorem keyIs_str (x:Str) (t:Tok):keyIs (.inr x) (.str x t)=true:=by simp [keyIs,Value.isStrOf]
theorem key_ll (a b:Int):decide ((Sum.inl a:Key)=Sum.inl b)=(a==b):=by
 by_cases e:a=b
 ·subst e;simp
 ·have h:¬ (Sum.inl a:Key)=Sum.inl b:=fun q=>e (Sum.inl.inj q)
  rw [decide_eq_false h]
  exact (beq_eq_false_iff_ne.mpr e).symm
theorem key_rr (a b:Str):decide ((Sum.inr a:Key)=Sum.inr b)=decide (a=b):=by
 by_cases e:a=b
 ·subst e;simp
 ·have h:¬ (Sum.inr a:Key)=Sum.inr b:=fun q=>e (Sum.inr.inj q)
  rw [decide_eq_false h,decide_eq_false e]
theorem key_lr (a:Int) (b:Str):decide ((Sum.inl a:Key)=Sum.inr b)=false:=decide_eq_false (fun q=>nomatch q)
theorem key_rl (a:Str) (b:Int):decide ((Sum.inr a:Key)=Sum.inl b)=false:=decide_eq_false (fun q=>nomatch q)
def d_F (prog:Program) (w:World):PySem.KeyKind prog w Key where
 is:=keyIs
 hash:=keyH w
 inj:=fun v a b ha hb=>by
  rcases keyIs_shape ha with ⟨i,t,rfl,rfl⟩ | ⟨x,t,rfl,rfl⟩
  ·rcases keyIs_shape hb with ⟨j,u,rfl,e⟩ | ⟨y,u,rfl,e⟩
   ·injection e with e1 _;rw [e1]
   ·exact nomatch e
  ·rcases keyIs_shape hb with ⟨j,u,rfl,e⟩ | ⟨y,u,rfl,e⟩
   ·exact nomatch e
   ·injection e with e1 _;rw [e1]
 byValue:=fun k v h=>by
  rcases keyIs_shape h with ⟨i,t,rfl,rfl⟩ | ⟨x,t,rfl,rfl⟩ <;> rfl
 pyHash:=fun hv h=>by
  rcases keyIs_shape hv with ⟨i,t,rfl,rfl⟩ | ⟨x,t,rfl,rfl⟩
  ·exact wpAny_pyHash_int h
  ·exact wpAny_pyHash_str h
 eqBool:=fun hu hv h=>by
  rcases keyIs_shape hu with ⟨i,t,rfl,rfl⟩ | ⟨x,t,rfl,rfl⟩
  ·rcases keyIs_shape hv with ⟨j,u,rfl,rfl⟩ | ⟨y,u,rfl,rfl⟩
   ·rw [key_ll] at h;exact wpAny_eqBool_int h
   ·rw [key_lr] at h;exact SeqAt.EqAt.int_str i t y u _ _ _ _ h
  ·rcases keyIs_shape hv with ⟨j,u,rfl,rfl⟩ | ⟨y,u,rfl,rfl⟩
   ·rw [key_rl] at h;exact SeqAt.EqAt.str_int x t j u _ _ _ _ h
   ·rw [key_rr] at h;exact wpAny_eqBool_str h
 «strs»:=fun k x t v h=>by
  rcases keyIs_shape h with ⟨i,u,rfl,e⟩ | ⟨y,u,rfl,e⟩
  ·exact nomatch e
  ·injection e with e1 _
   subst e1
   cases v <;> rfl
theorem mixKind_int (prog:Program) (w:World) (i:Int) (t:Tok):(d_F prog w).is (.inl i) (.int i t)=true:=keyIs_int i t
theorem mixKind_str (prog:Program) (w:World) (x:Str) (t:Tok):(d_F prog w).is (.inr x) (.str x t)=true:=keyIs_str x t
inductive V where
 | non | bl (b:Bool) | int (i:Int) | str (x:Str) | byt (b:Array UInt8) | flt (b:UInt64) | ref (a:Addr) | ty (n:String)
 deriving DecidableEq
def RelV:V->Value->Prop
 | .non,u=>u=Value.none
 | .bl b,u=>u=Value.bool b
 | .int i,u=>∃t,u=Value.int i t
 | .str x,u=>∃t,u=Value.str x t
 | .byt b,u=>∃t,u=Value.bytes b t
 | .flt b,u=>∃t,u=Value.float b t
 | .ref a,u=>u=Value.ref a
 | .ty n,u=>u=Value.type n
abbrev Vals:List V->List Value->Prop:=Paired RelV
theorem Vals.length (r:Vals xs us):xs.length=us.length:=Paired.length r
theorem Vals.get:∀{xs:List V} {us:List Value} {i:Nat} {x:V},Vals xs us->xs[i]?=some x->∃u,us[i]?=some u/\RelV x u
 | _,_,_,_,.nil,e=>by simp at e
 | _,_,0,_,.cons r _,e=>by simp at e;subst e;exact ⟨_,rfl,r⟩
 | _,_,i+1,x,.cons _ t,e=>by
  obtain ⟨u,h1,h2⟩:=Vals.get (i:=i) (x:=x) t (by simpa using e)
  exact ⟨u,by simpa using h1,h2⟩
theorem Vals.append:∀{xs ys:List V} {us ws:List Value},Vals xs us->Vals ys ws->Vals (xs++ys) (us++ws)
 | _,_,_,_,.nil,s=>s
 | _,_,_,_,.cons r t,s=>.cons r (Vals.append t s)
theorem Vals.take:∀{xs:List V} {us:List Value} (n:Nat),Vals xs us->Vals (xs.take n) (us.take n)
 | _,_,0,_=>.nil
 | _,_,_+1,.nil=>.nil
 | _,_,n+1,.cons r t=>.cons r (Vals.take n t)
theorem Vals.drop:∀{xs:List V} {us:List Value} (n:Nat),Vals xs us->Vals (xs.drop n) (us.drop n)
 | _,_,0,r=>r
 | _,_,_+1,.nil=>.nil
 | _,_,n+1,.cons _ t=>Vals.drop n t
def RelO:Option V->Option Value->Prop
 | some v,some u=>RelV v u
 | none,none=>True
 | _,_=>False
def KV {κ:Type}:List (κ×V)->List (κ×Value)->Prop:=Paired fun (p:κ×V) (q:κ×Value)=>p.1=q.1/\RelV p.2 q.2
def kV:Key->V
 | .inl i=>.int i
 | .inr x=>.str x
inductive HO where
  | lst (xs:List V)
  | tup (xs:List V)
  | dK (kvs:List (Key×V)) | dT (kvs:List (List Key×V))
  | set (S:Int->Bool) (n:Nat)
  | ins (C dx:Addr) (fs:List (Str×V))
  | own (x:Addr)
  | xd (fs:List (Str×V))
  | met (f x:Addr)
  | rng (lo hi:Int)
  | frz (o:Obj) (u:HO)
  | tbl (ps:Array Value)
  | ext (φ:Heap->Prop)
abbrev Hp:=Addr->Option HO
def upd (H:Hp) (a:Addr) (o:HO):Hp:=fun b=>if b=a then some o else H b
theorem upd_same:upd H a o a=some o:=by unfold upd;rw [if_pos rfl]
theorem upd_ne (h:b≠a):upd H a o b=H b:=by unfold upd;rw [if_neg h]
theorem d_x:upd (upd H a o) a u=upd H a u:=by
 funext b;unfold upd;split <;> rfl
theorem ne_of {H:Hp} (h:H a=some o) (h':H b=some u) (d:o≠u):a≠b:=by
 intro e;subst e;rw [h] at h';exact d (Option.some.inj h')
theorem ne_of_none {H:Hp} (h:H a=some o) (h':H b=none):a≠b:=by
 intro e;subst e;rw [h] at h';cases h'
section
variable (P:Program) (w:World)
def b_b (H:Hp) (h:Heap) (a:Addr):HO->Prop
 | .lst xs=>xs.length≤sizeLine/\∃(its:List Value) (n:Nat),Vals xs its/\h.get? a=some { cls:=.type "list",data:=.seq its.toArray n }
 | .tup xs=>xs.length≤sizeLine/\∃its:List Value,Vals xs its/\IsTup h a its.toArray
 | .dK kvs=>kvs.length≤sizeLine/\(a==sysModules)=false/\∃vs,KV kvs vs/\h.DictOf (d_F P w) a vs
 | .dT kvs=>kvs.length≤sizeLine/\(a==sysModules)=false/\∃xs:List (List Key×Addr×Value),
   Paired (fun (p:List Key×V) (q:List Key×Addr×Value)=>p.1=q.1/\H q.2.1=some (.tup (p.1.map kV))/\RelV p.2 q.2.2) kvs xs/\
   ∃o es ep,h.get? a=some o/\o.ExactDict/\o.data=.dict es ep/\es.toList=xs.map (entryOfKey (tupleKind (d_F P w)))/\(xs.map (·.1)).Nodup
 | .set S n=>h.SetOf (intKind P w) a S n
 | .ins C dx fs=>H dx=some (.own a)/\fs.length≤1000/\dx≠a/\h.get? a=some (PySem.W.instObj C dx)/\
   ∃mA,h.Ns1 dx mA/\(∀f,RelO (fs.lookup f) (mA f))/\PySem.Within mA (fs.map (·.1))
 | .own _=>∃o,h.get? a=some o
 | .xd fs=>∃mA,h.Ns1 a mA/\∀f,RelO (fs.lookup f) (mA f)
 | .rng lo hi=>∃t u v,h.get? a=some { cls:=.type "range",data:=.fields #[.int lo t,.int hi u,.int 1 v] }
 | .frz o u=>h.get? a=some o/\b_b H h a u
 | .tbl ps=>h.get? a=some { cls:=.none,data:=.fields ps }
 | .met f x=>h.get? a=some (PySem.W.methodObj (.ref f) (.ref x))
 | .ext φ=>φ h/\(∃o,h.get? a=some o)/\∀h1 h2:Heap,φ h1->(∀o,h1.get? a=some o->h2.get? a=some o)->φ h2
def HOk (H:Hp) (h:Heap):Prop:=∀a o,H a=some o->b_b P w H h a o
end
section
variable {P:Program} {w:World} {H H':Hp} {h h':Heap} {a:Addr} {o:HO}
theorem b_b.lt (x:b_b P w H h a o):a<h.objs.size:=by
 cases o with
 | lst xs=>obtain ⟨_,_,_,_,e⟩:=x;exact Heap.lt_size e
 | tup xs=>obtain ⟨_,_,_,p⟩:=x;exact p.lt
 | dK kvs=>obtain ⟨_,_,_,_,o,_,_,e,_⟩:=x;exact Heap.lt_size e
 | dT kvs=>obtain ⟨_,_,_,_,o,_,_,e,_⟩:=x;exact Heap.lt_size e
 | set S n=>obtain ⟨o,_,_,_,e,_⟩:=x;exact Heap.lt_size e
 | ins C dx fs=>obtain ⟨_,_,_,e,_⟩:=x;exact Heap.lt_size e
 | own y=>obtain ⟨_,e⟩:=x;exact Heap.lt_size e
 | xd fs=>obtain ⟨_,⟨_,_,_,e,_⟩,_⟩:=x;exact Heap.lt_size e
 | rng lo hi=>obtain ⟨_,_,_,e⟩:=x;exact Heap.lt_size e
 | frz ob u=>obtain ⟨e,_⟩:=x;exact Heap.lt_size e
 | tbl ps=>exact Heap.lt_size (show h.get? a=some _ from x)
 | met f y=>exact Heap.lt_size (show h.get? a=some _ from x)
 | ext φ=>obtain ⟨_,⟨_,e⟩,_⟩:=x;exact Heap.lt_size e
theorem Paired.mapP {α β:Type} {F G:α->β->Prop}:∀{l₁:List α} {l₂:List β},Paired F l₁ l₂->(∀a b,F a b->G a b)->Paired G l₁ l₂
 | _,_,.nil,_=>.nil
 | _,_,.cons r t,f=>.cons (f _ _ r) (Paired.mapP t f)
theorem b_b.stay (x:b_b P w H h a o) (k:∀b u,(b=a\/H b=some (.own a))->h.get? b=some u->h'.get? b=some u)
  (ho:∀b,H b=some (.own a)->H' b=some (.own a)) (ht:∀b xs,H b=some (.tup xs)->H' b=some (.tup xs)):b_b P w H' h' a o:=by
 induction o with
 | lst xs=>obtain ⟨z,its,n,r,e⟩:=x;exact ⟨z,its,n,r,k _ _ (.inl rfl) e⟩
 | tup xs=>obtain ⟨z,its,r,ob,e,c⟩:=x;exact ⟨z,its,r,ob,k _ _ (.inl rfl) e,c⟩
 | dK kvs=>obtain ⟨z,y,vs,r,ob,es,ep,e,c⟩:=x;exact ⟨z,y,vs,r,ob,es,ep,k _ _ (.inl rfl) e,c⟩
 | dT kvs=>
  obtain ⟨z,y,xs,r,ob,es,ep,e,c⟩:=x
  exact ⟨z,y,xs,Paired.mapP r fun p q z=>⟨z.1,ht _ _ z.2.1,z.2.2⟩,ob,es,ep,k _ _ (.inl rfl) e,c⟩
 | set S n=>obtain ⟨ob,es,ep,t,e,c⟩:=x;exact ⟨ob,es,ep,t,k _ _ (.inl rfl) e,c⟩
 | ins C dx fs=>
  obtain ⟨d,z,ne,e,mA,⟨od,es,ep,e2,c⟩,r⟩:=x
  exact ⟨ho _ d,z,ne,k _ _ (.inl rfl) e,mA,⟨od,es,ep,k _ _ (.inr d) e2,c⟩,r⟩
 | own y=>obtain ⟨ob,e⟩:=x;exact ⟨ob,k _ _ (.inl rfl) e⟩
 | xd fs=>obtain ⟨mA,⟨od,es,ep,e,c⟩,r⟩:=x;exact ⟨mA,⟨od,es,ep,k _ _ (.inl rfl) e,c⟩,r⟩
 | rng lo hi=>obtain ⟨t,u,v,e⟩:=x;exact ⟨t,u,v,k _ _ (.inl rfl) e⟩
 | frz ob u ih=>obtain ⟨e,q⟩:=x;exact ⟨k _ _ (.inl rfl) e,ih q⟩
 | tbl ps=>
  have e:h.get? a=some { cls:=.none,data:=.fields ps }:=x
  show h'.get? a=some { cls:=.none,data:=.fields ps }
  exact k a _ (.inl rfl) e
 | met f y=>
  have e:h.get? a=some (PySem.W.methodObj (.ref f) (.ref y)):=x
  show h'.get? a=some (PySem.W.methodObj (.ref f) (.ref y))
  exact k a _ (.inl rfl) e
 | ext φ=>obtain ⟨p,⟨o,e⟩,st⟩:=x;exact ⟨st _ _ p fun o q=>k _ _ (.inl rfl) q,⟨o,k _ _ (.inl rfl) e⟩,st⟩
theorem HOk.lt (x:HOk P w H h) (e:H a=some o):a<h.objs.size:=(x a o e).lt
theorem HOk.fresh (x:HOk P w H h) (e:h.objs.size≤a):H a=none:=by
 cases q:H a with
 | none=>rfl
 | some u=>exact absurd (Nat.lt_of_lt_of_le (x.lt q) e) (Nat.lt_irrefl _)
theorem HOk.kept (x:HOk P w H h) (k:∀b u,h.get? b=some u->h'.get? b=some u):HOk P w H h':=fun a o e=>
 (x a o e).stay (fun b u _ q=>k b u q) (fun _ q=>q) fun _ _ q=>q
theorem HOk.laid (x:HOk P w H h) (k:∀b u,h.get? b=some u->h'.get? b=some u) (hp:h.objs.size≤a) (new:b_b P w (upd H a o) h' a o):HOk P w (upd H a o) h':=fun b u e=>by
 have hn:=x.fresh hp
 by_cases hb:b=a
 ·subst hb;rw [upd_same] at e;cases e;exact new
 ·rw [upd_ne hb] at e
  exact (x b u e).stay (fun c v _ q=>k c v q) (fun c q=>by rw [upd_ne (ne_of_none q hn)];exact q) fun c xs q=>by rw [upd_ne (ne_of_none q hn)];exact q
end
def Rd (H:Hp) (a:Addr) (u:HO):Prop:=H a=some u\/∃o,H a=some (.frz o u)
theorem Rd.ok (r:Rd H a u) (x:HOk P w H h):b_b P w H h a u:=by
 rcases r with r | ⟨o,r⟩
 ·exact x a u r
 ·obtain ⟨_,q⟩:=x a _ r
  exact q
def Mut:Option HO->Prop
 | some (.lst _)=>True
 | some (.dK _)=>True
 | some (.dT _)=>True
 | some (.set _ _)=>True
 | some (.ins _ _ _)=>True
 | some (.ext _)=>True
 | _=>False
section
variable {P:Program} {w:World} {H:Hp} {h h':Heap} {x e:Addr} {o':HO}
theorem HOk.write (ok:HOk P w H h) (mu:Mut (H x)) (he:e=x\/H e=some (.own x)) (k:∀b u,b≠e->h.get? b=some u->h'.get? b=some u) (heo:∃u,h'.get? e=some u)
  (new:b_b P w (upd H x o') h' x o'):HOk P w (upd H x o') h':=fun b u q=>by
 have nown:∀c y,H c=some (.own y)->c≠x:=fun c y r z=>by subst z;rw [r] at mu;exact mu
 have ntup:∀c xs,H c=some (.tup xs)->c≠x:=fun c xs r z=>by subst z;rw [r] at mu;exact mu
 by_cases hb:b=x
 ·subst hb;rw [upd_same] at q;cases q;exact new
 ·rw [upd_ne hb] at q
  by_cases hbe:b=e
  ·have q':H b=some (.own x):=by
    rcases he with z | z
    ·exact absurd (hbe.trans z) hb
    ·rw [hbe];exact z
   rw [q] at q';cases q'
   obtain ⟨v,hv⟩:=heo
   exact ⟨v,by rw [hbe];exact hv⟩
  ·refine (ok b u q).stay (fun c v hc r=>k c v ?_ r) (fun c r=>by rw [upd_ne (nown c b r)];exact r) fun c xs r=>by rw [upd_ne (ntup c xs r)];exact r
   rcases hc with rfl | hc
   ·exact hbe
   ·rintro rfl
    rcases he with z | z
    ·exact nown c b hc z
    ·rw [hc] at z;cases z;exact hb rfl
end
structure Un (fs ex:List Addr) (H H':Hp) (h h':Heap):Prop where
 keep:∀b o,h.get? b=some o->H b=none->b∉fs->b∉ex->h'.get? b=some o
 slot:∀b o,h.get? b=some o->H b=none->b∈fs->b∉ex->∃sl,h'.get? b=some { o with slots:=sl }
 free:∀b o,h.get? b=some o->H b=none->b∉ex->H' b=none
 there:∀b o,h.get? b=some o->b∉ex->∃o',h'.get? b=some o'
 tups:∀b xs,H b=some (.tup xs)->H' b=some (.tup xs)
 frzs:∀b o u,H b=some (.frz o u)->H' b=some (.frz o u)
 tbls:∀b ps,H b=some (.tbl ps)->∃more,H' b=some (.tbl (ps++more))
section
variable {fs fs' ex ex':List Addr} {H H1 H2:Hp} {h h1 h2 h':Heap} {a x e:Addr} {o:HO}
theorem Un.any (u:Un fs ex H H1 h h1) (q:h.get? b=some ob) (n:H b=none) (hx:b∉ex):∃sl,h1.get? b=some { ob with slots:=sl }:=by
 by_cases hb:b∈fs
 ·exact u.slot b ob q n hb hx
 ·exact ⟨ob.slots,u.keep b ob q n hb hx⟩
theorem Un.kept (k:∀b u,h.get? b=some u->h'.get? b=some u):Un fs ex H H h h':=
 ⟨fun b ob q _ _ _=>k b ob q,fun b ob q _ _ _=>⟨ob.slots,k b ob q⟩,fun _ _ _ n _=>n,fun b ob q _=>⟨ob,k b ob q⟩,fun _ _ q=>q,fun _ _ _ q=>q,fun _ ps q=>⟨#[],by rw [q];simp⟩⟩
theorem Un.refl:Un fs ex H H h h:=Un.kept fun _ _ q=>q
theorem Un.laid (k:∀b u,h.get? b=some u->h'.get? b=some u) (hp:h.objs.size≤a) (hn:H a=none):Un fs ex H (upd H a o) h h' where
 keep:=fun b u q _ _ _=>k b u q
 slot:=fun b u q _ _ _=>⟨u.slots,k b u q⟩
 free:=fun b u q n _=>by rw [upd_ne (Nat.ne_of_lt (Nat.lt_of_lt_of_le (Heap.lt_size q) hp))];exact n
 there:=fun b u q _=>⟨u,k b u q⟩
 tups:=fun b xs q=>by rw [upd_ne (ne_of_none q hn)];exact q
 frzs:=fun b u xs q=>by rw [upd_ne (ne_of_none q hn)];exact q
 tbls:=fun b ps q=>⟨#[],by rw [upd_ne (ne_of_none q hn),q];simp⟩
theorem Un.write (mu:Mut (H x)) (he:e=x\/H e=some (.own x)) (k:∀b u,b≠e->h.get? b=some u->h'.get? b=some u) (heo:∃u,h'.get? e=some u):Un fs ex H (upd H x o) h h':=by
 have hx:∀b,H b=none->b≠x:=fun b n z=>by subst z;rw [n] at mu;exact mu
 have hb:∀b,H b=none->b≠e:=fun b n z=>by
  subst z
  rcases he with r | r
  ·exact hx b n r
  ·rw [n] at r;cases r
 have hm:∀b u,H b=some u->¬ Mut (some u)->b≠x:=fun b u q nm z=>by subst z;rw [q] at mu;exact nm mu
 refine ⟨fun b u q n _ _=>k b u (hb b n) q,fun b u q n _ _=>⟨u.slots,k b u (hb b n) q⟩,fun b u q n _=>by rw [upd_ne (hx b n)];exact n,fun b u q _=>?_,
  fun b xs q=>by rw [upd_ne (hm b _ q fun z=>z)];exact q,fun b u xs q=>by rw [upd_ne (hm b _ q fun z=>z)];exact q,fun b ps q=>⟨#[],by rw [upd_ne (hm b _ q fun z=>z),q];simp⟩⟩
 by_cases hbe:b=e
 ·subst hbe;exact heo
 ·exact ⟨u,k b u hbe q⟩
end
def trk (h:Heap) (H:Hp):List Addr:=(List.range h.objs.size).filter fun a=>(H a).isSome
def hidT (h:Heap) (H:Hp):Heap:=PySem.W.hideAll h (trk h H)
theorem hidT_size (h:Heap) (H:Hp):(hidT h H).objs.size=h.objs.size:=PySem.W.hideAll_size _ _
theorem hidT_get (e:h.get? b=some o) (n:H b=none):(hidT h H).get? b=some o:=
 PySem.W.hideAll_get _ e fun hm=>by
  have q:(H b).isSome=true:=(List.mem_filter.mp hm).2
  rw [n] at q;simp at q
theorem of_hidT (e:(hidT h H).get? b=some o):h.get? b=some o/\H b=none:=by
 have e':h.get? b=some o:=PySem.W.of_hideAll (trk h H) e
 refine ⟨e',?_⟩
 cases q:H b with
 | none=>rfl
 | some x=>
  have hm:b∈trk h H:=List.mem_filter.mpr ⟨List.mem_range.mpr (Heap.lt_size e'),by simp [q]⟩
  have z:(hidT h H).get? b=none:=PySem.W.hideAll_none (trk h H) hm
  rw [z] at e;cases e
structure Mod (K:PySem.W.Frag) (mg:Str->Option Value) (base:Heap):Prop where
 kin:K.In base
 glob:base.Ns mainGlobals mg
 blt:∃mb,base.Ns builtinsNs mb/\∀x:Str,x≠"__name__"->mb x=bootBuiltins x
 nolimit:base.NoLimit
structure Cx where
 prog:Program
 w:World
 K:PySem.W.Frag
 mg:Str->Option Value
 base:Heap
 A:Around
 N:List Str
 s₀:Shared
 H₀:Hp
 env:Env
 outer:List Env
 stack:List Env
 ex:List Addr
 fn:Str->Bool
 calm:Bool
 pn:List (Addr×Obj)
 xe:Value->Shared->Prop
def frs (l:List Env):List Addr:=l.filterMap (·.frame)
abbrev Cx.fs (X:Cx):List Addr:=frs X.outer
def Vis (sc:Scope) (x:Str):Prop:=sc.names.lookup x=some .local\/sc.names.lookup x=some .cell\/sc.names.lookup x=some .free
def Loc (sc:Scope) (x:Str):Prop:=sc.names.lookup x=some .local\/sc.names.lookup x=some .cell
def Look (env:Env) (h:Heap) (m:Str->Option Value) (x:Str) (u:Value):Prop:=
 (env.kindOf x=some .local/\m x=some u)\/((env.kindOf x=some .cell\/env.kindOf x=some .free)/\∃c,env.cells.lookup x=some c/\h.IsCell c (some u))
structure Cx.Ok (X:Cx):Prop where
 mod:Mod X.K X.mg X.base
 kind:X.env.scope.kind=.function
 glob:X.env.globals=mainGlobals
 blt:X.env.builtins=builtinsNs
 above:X.s₀.heap.objs.size≤X.env.locals
 inj:∀x y c,X.env.cells.lookup x=some c->X.env.cells.lookup y=some c->x=y
 has:∀x,(X.env.kindOf x=some .cell\/X.env.kindOf x=some .free)->∃c,X.env.cells.lookup x=some c
 cab:∀x c,X.fn x=true->X.env.cells.lookup x=some c->X.s₀.heap.objs.size≤c
 hd:X.calm=true->X.A.handled=none
 frames:X.A.frames=some X.stack
 stk:X.stack=X.outer\/(X.stack=X.env::X.outer/\X.env.frame=some X.env.locals)
 exf:∀b∈X.ex,b≠X.env.locals/\∀x c,X.env.cells.lookup x=some c->c≠b
 bs:∀b o,X.base.get? b=some o->X.s₀.heap.get? b=some o/\X.H₀ b=none
 bsz:X.base.objs.size≤X.s₀.heap.objs.size
 noex:∀b o,X.base.get? b=some o->b∉X.ex
 exfs:∀b∈X.ex,b∉X.fs
 funs:X.s₀.heap.FunFrames X.base X.outer
 frf:∀b∈X.fs,X.H₀ b=none
structure Inv (X:Cx) (pins:List (Addr×Obj)) (σ:List (Option V)) (H:Hp) (s:Shared):Prop where
 ok:X.Ok
 os:s.os=X.s₀.os
 bare:AllBare s.gens
 base:Un X.fs X.ex X.H₀ H X.s₀.heap s.heap
 loc:∃m,s.heap.Ns X.env.locals m/\∀(i:Nat) (x:Str) (v:V),X.N[i]?=some x->σ[i]?=some (some v)->Vis X.env.scope x->∃u,RelV v u/\Look X.env s.heap m x u
 cell:∀x c,X.env.cells.lookup x=some c->∃v,s.heap.IsCell c v
 free:H X.env.locals=none
 freeC:∀x c,X.env.cells.lookup x=some c->H c=none
 pin:∀p∈X.pn++pins,s.heap.get? p.1=some p.2/\H p.1=none/\p.1≠X.env.locals/\p.1∉X.fs/\∀v,p.2.data≠.cell v
 hok:HOk X.prog X.w H s.heap
 len:σ.length=X.N.length
section
variable {X:Cx} {pins:List (Addr×Obj)} {σ:List (Option V)} {H H':Hp} {s:Shared} {h':Heap}
theorem Cx.Ok.nofr (ok:X.Ok) (e:X.base.get? b=some o):b∉X.fs:=fun hb=>by
 have:=(ok.funs.mem hb).1
 rw [e] at this;cases this
theorem Inv.bs (I:Inv X pins σ H s):∀b o,X.base.get? b=some o->s.heap.get? b=some o/\H b=none:=fun b o e=>
 ⟨I.base.keep b o (I.ok.bs b o e).1 (I.ok.bs b o e).2 (I.ok.nofr e) (I.ok.noex b o e),I.base.free b o (I.ok.bs b o e).1 (I.ok.bs b o e).2 (I.ok.noex b o e)⟩
theorem Inv.bk (I:Inv X pins σ H s):∀b o,X.base.get? b=some o->s.heap.get? b=some o:=fun b o e=>(I.bs b o e).1
theorem Inv.mod (I:Inv X pins σ H s):Mod X.K X.mg X.base:=I.ok.mod
theorem Inv.kIn (I:Inv X pins σ H s):X.K.In s.heap:=I.ok.mod.kin.keeps I.bk
theorem Inv.lt (I:Inv X pins σ H s):X.env.locals<s.heap.objs.size:=let ⟨_,hn,_⟩:=I.loc;hn.lt
theorem Inv.sz (I:Inv X pins σ H s):X.s₀.heap.objs.size≤s.heap.objs.size:=Nat.le_trans I.ok.above (Nat.le_of_lt I.lt)
theorem Inv.nofs (I:Inv X pins σ H s) {a:Addr} (h:s.heap.objs.size≤a):a∉X.fs:=fun hb=>by
 obtain ⟨_,o,ho,_⟩:=I.ok.funs.mem hb
 exact absurd (Nat.lt_of_lt_of_le (Heap.lt_size ho) (Nat.le_trans I.sz h)) (Nat.lt_irrefl _)
theorem Inv.cne (I:Inv X pins σ H s):∀x c,X.env.cells.lookup x=some c->c≠X.env.locals:=fun x c e z=>by
 obtain ⟨v,o,ho,hd⟩:=I.cell x c e
 obtain ⟨m,⟨o',es,ep,ho',hd',_⟩,_⟩:=I.loc
 rw [z,ho'] at ho;cases ho;rw [hd'] at hd;cases hd
theorem Inv.funs (I:Inv X pins σ H s):s.heap.FunFrames X.base X.outer:=by
 have all:∀(l:List Env),(∀b∈frs l,b∈X.fs)->X.s₀.heap.FunFrames X.base l->s.heap.FunFrames X.base l:=by
  intro l
  induction l with
  | nil=>intro _ _;trivial
  | cons env r ih=>
   intro hs hl
   obtain ⟨hk,⟨L,o,hf,hn,ho,hd⟩,hr⟩:=hl
   have hL:L∈X.fs:=hs L (by unfold frs;rw [List.filterMap_cons,hf];exact List.mem_cons_self)
   obtain ⟨sl,e⟩:=I.base.slot L o ho (I.ok.frf L hL) hL fun z=>I.ok.exfs L z hL
   exact ⟨hk,⟨L,_,hf,hn,e,hd⟩,ih (fun b hb=>hs b (by unfold frs;rw [List.filterMap_cons,hf];exact List.mem_cons_of_mem _ hb)) hr⟩
 exact all X.outer (fun _ hb=>hb) I.ok.funs
theorem Inv.stack (I:Inv X pins σ H s):s.heap.FunFrames X.base X.stack:=by
 rcases I.ok.stk with e | ⟨e,hf⟩
 ·rw [e];exact I.funs
 ·rw [e]
  obtain ⟨m,hn,_⟩:=I.loc
  refine .cons (by rw [I.ok.kind];decide) hf hn ?_ I.funs
  exact Heap.get?_none_of_le (Nat.le_trans I.ok.bsz I.ok.above)
theorem Inv.stkSub (I:Inv X pins σ H s):∀b∈frs X.stack,b∈X.env.locals::X.fs:=fun b hb=>by
 rcases I.ok.stk with e | ⟨e,hf⟩
 ·rw [e] at hb;exact List.mem_cons_of_mem _ hb
 ·rw [e] at hb
  unfold frs at hb
  rw [List.filterMap_cons,hf] at hb
  exact hb
theorem Inv.stkFree (I:Inv X pins σ H s):∀b∈frs X.stack,H b=none:=fun b hb=>by
 rcases List.mem_cons.mp (I.stkSub b hb) with e | hb
 ·rw [e];exact I.free
 ·obtain ⟨_,o,ho,_⟩:=I.ok.funs.mem hb
  exact I.base.free b o ho (I.ok.frf b hb) fun z=>I.ok.exfs b z hb
theorem Inv.step {ch:List Addr} (I:Inv X pins σ H s)
  (hch:∀b∈ch,(b∈X.ex\/X.s₀.heap.objs.size≤b)/\b≠X.env.locals/\(∀x c,X.env.cells.lookup x=some c->c≠b)/\∀p∈X.pn++pins,p.1≠b)
  (keep:∀b o,b≠X.env.locals->b∉X.fs->b∉ch->s.heap.get? b=some o->H b=none->h'.get? b=some o)
  (slot:∀b o,b≠X.env.locals->b∈X.fs->b∉ch->s.heap.get? b=some o->H b=none->∃sl,h'.get? b=some { o with slots:=sl }) (free:∀b o,b∉ch->s.heap.get? b=some o->H b=none->H' b=none)
  (there:∀b o,b∉ch->s.heap.get? b=some o->∃o',h'.get? b=some o')
  (tups:∀b xs,H b=some (.tup xs)->H' b=some (.tup xs)) (frzs:∀b o u,H b=some (.frz o u)->H' b=some (.frz o u)) (tbls:∀b ps,H b=some (.tbl ps)->∃more,H' b=some (.tbl (ps++more)))
  (ns:∀m,s.heap.Ns X.env.locals m->h'.Ns X.env.locals m) (hok:HOk X.prog X.w H' h') (hg:AllBare g'):
  Inv X pins σ H' { s with heap:=h',gens:=g',drawn:=d',toks:=t' }:=by
 have neL:∀b o,X.s₀.heap.get? b=some o->b≠X.env.locals:=fun b o e=>Nat.ne_of_lt (Nat.lt_of_lt_of_le (Heap.lt_size e) I.ok.above)
 have neC:∀b o,X.s₀.heap.get? b=some o->b∉X.ex->b∉ch:=fun b o e hx hb=>by
  rcases (hch b hb).1 with z | z
  ·exact hx z
  ·exact absurd (Nat.lt_of_lt_of_le (Heap.lt_size e) z) (Nat.lt_irrefl _)
 have cellK:∀x c,X.env.cells.lookup x=some c->∀v,s.heap.IsCell c v->h'.IsCell c v:=fun x c e v ⟨o,ho,hd⟩=>by
  have nch:c∉ch:=fun z=>(hch c z).2.2.1 x c e rfl
  by_cases hc:c∈X.fs
  ·obtain ⟨sl,q⟩:=slot c o (I.cne x c e) hc nch ho (I.freeC x c e)
   exact ⟨_,q,hd⟩
  ·exact ⟨o,keep c o (I.cne x c e) hc nch ho (I.freeC x c e),hd⟩
 refine ⟨I.ok,I.os,hg,⟨fun b o e n hb hx=>?_,fun b o e n hb hx=>?_,fun b o e n hx=>?_,fun b o e hx=>?_,fun b xs e=>tups b xs (I.base.tups b xs e),fun b o xs e=>frzs b o xs (I.base.frzs b o xs e),fun b ps e=>?_⟩,?_,fun x c e=>?_,?_,fun x c e=>?_,fun p hp=>?_,hok,I.len⟩
 ·exact keep b o (neL b o e) hb (neC b o e hx) (I.base.keep b o e n hb hx) (I.base.free b o e n hx)
 ·obtain ⟨sl,e1⟩:=I.base.slot b o e n hb hx
  obtain ⟨sl',e2⟩:=slot b _ (neL b o e) hb (neC b o e hx) e1 (I.base.free b o e n hx)
  exact ⟨sl',e2⟩
 ·obtain ⟨o',e1⟩:=I.base.there b o e hx
  exact free b o' (neC b o e hx) e1 (I.base.free b o e n hx)
 ·obtain ⟨o',e1⟩:=I.base.there b o e hx
  exact there b o' (neC b o e hx) e1
 ·obtain ⟨m1,e1⟩:=I.base.tbls b ps e
  obtain ⟨m2,e2⟩:=tbls b _ e1
  exact ⟨m1++m2,by rw [e2,Array.append_assoc]⟩
 ·obtain ⟨m,hn,hl⟩:=I.loc
  refine ⟨m,ns m hn,fun i x v e1 e2 e3=>?_⟩
  obtain ⟨u,r,l⟩:=hl i x v e1 e2 e3
  refine ⟨u,r,?_⟩
  rcases l with l | ⟨k,c,e,z⟩
  ·exact .inl l
  ·exact .inr ⟨k,c,e,cellK x c e _ z⟩
 ·obtain ⟨v,z⟩:=I.cell x c e
  exact ⟨v,cellK x c e v z⟩
 ·obtain ⟨m,⟨o,_,_,ho,_⟩,_⟩:=I.loc
  exact free _ o (fun z=>(hch _ z).2.1 rfl) ho I.free
 ·obtain ⟨v,o,ho,hd⟩:=I.cell x c e
  exact free c o (fun z=>(hch c z).2.2.1 x c e rfl) ho (I.freeC x c e)
 ·obtain ⟨e,n,ne,nf,d⟩:=I.pin p hp
  have nch:p.1∉ch:=fun z=>(hch p.1 z).2.2.2 p hp rfl
  exact ⟨keep p.1 p.2 ne nf nch e n,free p.1 p.2 nch e n,ne,nf,d⟩
theorem Inv.un (I:Inv X pins σ H s) (u:Un X.fs [] H H' s.heap h') (hok:HOk X.prog X.w H' h'):Inv X pins σ H' { s with heap:=h',toks:=t' }:=by
 obtain ⟨m,⟨o,es,ep,ho,r⟩,_⟩:=id I.loc
 obtain ⟨sl,hL⟩:=u.any ho I.free (by simp)
 exact I.step (g':=s.gens) (d':=s.drawn) (ch:=[]) (fun _ z=>nomatch z) (fun b o _ hb _ e n=>u.keep b o e n hb (by simp)) (fun b o _ hb _ e n=>u.slot b o e n hb (by simp)) (fun b o _ e n=>u.free b o e n (by simp)) (fun b o _ e=>u.there b o e (by simp)) u.tups u.frzs u.tbls (fun m' hm=>by
  obtain ⟨o',es',ep',ho',r'⟩:=hm
  rw [ho] at ho';cases ho'
  exact ⟨_,es',ep',hL,r'⟩) hok I.bare
theorem Inv.call (I:Inv X pins σ H s) (u:Un (frs X.stack) ch H H' s.heap h') (hok:HOk X.prog X.w H' h') (hg:AllBare g')
  (hch:∀b∈ch,(b∈X.ex\/X.s₀.heap.objs.size≤b)/\b≠X.env.locals/\(∀x c,X.env.cells.lookup x=some c->c≠b)/\∀p∈X.pn++pins,p.1≠b):
  Inv X pins σ H' { s with heap:=h',gens:=g',drawn:=d',toks:=t' }:=by
 obtain ⟨m,⟨o,es,ep,ho,r⟩,_⟩:=id I.loc
 obtain ⟨sl,hL⟩:=u.any ho I.free fun z=>(hch _ z).2.1 rfl
 exact I.step (ch:=ch) hch (fun b o hL hb hc e n=>u.keep b o e n (fun z=>(List.mem_cons.mp (I.stkSub b z)).elim hL hb) hc) (fun b o _ _ hc e n=>u.any e n hc) (fun b o hc e n=>u.free b o e n hc) (fun b o hc e=>u.there b o e hc) u.tups u.frzs u.tbls (fun m' hm=>by
  obtain ⟨o',es',ep',ho',r'⟩:=hm
  rw [ho] at ho';cases ho'
  exact ⟨_,es',ep',hL,r'⟩) hok hg
theorem Inv.turned (I:Inv X pins σ H s) (k:∀b o,b≠it->s.heap.get? b=some o->h'.get? b=some o) (hn:H it=none) (hL:it≠X.env.locals)
  (h1:it∈X.ex\/X.s₀.heap.objs.size≤it) (h2:∀x c,X.env.cells.lookup x=some c->c≠it) (h3:∀p∈X.pn++pins,p.1≠it):Inv X pins σ H { s with heap:=h',toks:=t' }:=by
 have nit:∀b u,H b=some u->b≠it:=fun b u e z=>by rw [z,hn] at e;cases e
 refine I.step (g':=s.gens) (d':=s.drawn) (ch:=[it]) (fun b hb=>?_) (fun b o _ _ hc e _=>k b o (fun z=>hc (by simp [z])) e) (fun b o _ _ hc e _=>⟨o.slots,k b o (fun z=>hc (by simp [z])) e⟩) (fun _ _ _ _ n=>n)
  (fun b o hc e=>⟨o,k b o (fun z=>hc (by simp [z])) e⟩) (fun _ _ e=>e) (fun _ _ _ e=>e) (fun b ps e=>⟨#[],by rw [e];simp⟩) (fun m hm=>?_) (fun b u e=>?_) I.bare
 ·have e:b=it:=by simpa using hb
  subst e
  exact ⟨h1,hL,h2,h3⟩
 ·obtain ⟨o,es,ep,ho,r⟩:=hm
  exact ⟨o,es,ep,k _ o (Ne.symm hL) ho,r⟩
 ·refine (I.hok b u e).stay (fun c v hc q=>k c v ?_ q) (fun _ q=>q) fun _ _ q=>q
  rcases hc with z | z
  ·rw [z];exact nit b u e
  ·exact nit c _ z
theorem Inv.tok (I:Inv X pins σ H s) (t:Nat):Inv X pins σ H { s with toks:=t }:=I.un (h':=s.heap) (t':=t) Un.refl I.hok
theorem Inv.kept (I:Inv X pins σ H s) (k:∀b u,s.heap.get? b=some u->h'.get? b=some u):Inv X pins σ H { s with heap:=h',toks:=t' }:=I.un (Un.kept k) (I.hok.kept k)
theorem Inv.laid {a:Addr} (I:Inv X pins σ H s) (k:∀b u,s.heap.get? b=some u->h'.get? b=some u) (hp:s.heap.objs.size≤a) (new:b_b X.prog X.w (upd H a o) h' a o):
  Inv X pins σ (upd H a o) { s with heap:=h',toks:=t' }:=I.un (Un.laid k hp (I.hok.fresh hp)) (I.hok.laid k hp new)
theorem Inv.write (I:Inv X pins σ H s) (mu:Mut (H x)) (he:e=x\/H e=some (.own x)) (k:∀b u,b≠e->s.heap.get? b=some u->h'.get? b=some u) (heo:∃u,h'.get? e=some u)
  (new:b_b X.prog X.w (upd H x o) h' x o):Inv X pins σ (upd H x o) { s with heap:=h',toks:=t' }:=I.un (Un.write mu he k heo) (I.hok.write mu he k heo new)
theorem Inv.pins_of (I:Inv X pins σ H s) (h:∀p∈pins',s.heap.get? p.1=some p.2/\H p.1=none/\p.1≠X.env.locals/\p.1∉X.fs/\∀v,p.2.data≠.cell v):Inv X pins' σ H s:=
 ⟨I.ok,I.os,I.bare,I.base,I.loc,I.cell,I.free,I.freeC,fun p hp=>(List.mem_append.mp hp).elim (fun z=>I.pin p (List.mem_append_left _ z)) (h p),I.hok,I.len⟩
theorem nodup_ix {N:List Str} (hN:N.Nodup) {i j:Nat} (a:N[i]?=some x) (b:N[j]?=some x):i=j:=by
 obtain ⟨h1,e1⟩:=List.getElem?_eq_some_iff.mp a
 obtain ⟨h2,e2⟩:=List.getElem?_eq_some_iff.mp b
 exact (List.getElem_inj hN).mp (e1.trans e2.symm)
theorem store_ok2 (I:Inv X pins σ H s) (hN:X.N.Nodup) (hi:X.N[i]?=some x) (hx:Loc X.env.scope x) (r:RelV v u)
  (h:∀s',Inv X pins (σ.set i (some v)) H s'->(∃a,Heap.SameBut a s.heap s'.heap/\(a=X.env.locals\/X.env.cells.lookup x=some a))->Q () s') (hf:X.fn x=true\/X.env.scope.names.lookup x=some .local:=by first | exact .inl rfl | exact .inr rfl | assumption):wpAny M A (storeName X.env x u) Q E s:=by
 obtain ⟨m,hn,hl⟩:=id I.loc
 have hcls:(X.env.scope.kind==.class || (X.env.scope.kind==.module&&X.env.locals !=X.env.globals))=false:=by rw [I.ok.kind];rfl
 have hiσ:i<σ.length:=by rw [I.len];exact (List.getElem?_eq_some_iff.mp hi).1
 have cne:=I.cne
 have tracked:∀{a:Addr} {h':Heap},(∃o,s.heap.get? a=some o/\H a=none)->Heap.SameBut a s.heap h'->HOk X.prog X.w H h':=fun {a h'} ha hs b ob e=>by
  obtain ⟨_,_,hfree⟩:=ha
  refine (I.hok b ob e).stay (fun c w' hc q=>(hs.2 c ?_).trans q) (fun _ q=>q) fun _ _ q=>q
  rintro rfl
  rcases hc with rfl | hc
  ·rw [hfree] at e;cases e
  ·rw [hfree] at hc;cases hc
 rcases hx with hk | hk
 ·refine wpAny_storeName_local hk hn (fun h' hn' hs=>?_) hcls
  obtain ⟨oL,_,_,hoL,_⟩:=id hn
  refine h _ ⟨I.ok,I.os,I.bare,⟨fun b o e n hb hx=>?_,fun b o e n hb hx=>?_,I.base.free,fun b o e hx=>?_,I.base.tups,I.base.frzs,I.base.tbls⟩,⟨_,hn',fun j y v' e1 e2 e3=>?_⟩,fun y c e=>?_,I.free,I.freeC,fun p hp=>?_,tracked ⟨oL,hoL,I.free⟩ hs,by simpa using I.len⟩ ⟨_,hs,.inl rfl⟩
  ·exact (hs.2 b (Nat.ne_of_lt (Nat.lt_of_lt_of_le (Heap.lt_size e) I.ok.above))).trans (I.base.keep b o e n hb hx)
  ·obtain ⟨sl,e1⟩:=I.base.slot b o e n hb hx
   exact ⟨sl,(hs.2 b (Nat.ne_of_lt (Nat.lt_of_lt_of_le (Heap.lt_size e) I.ok.above))).trans e1⟩
  ·obtain ⟨o',e1⟩:=I.base.there b o e hx
   exact ⟨o',(hs.2 b (Nat.ne_of_lt (Nat.lt_of_lt_of_le (Heap.lt_size e) I.ok.above))).trans e1⟩
  ·by_cases hj:j=i
   ·subst hj
    rw [hi] at e1;cases e1
    rw [List.getElem?_set_self hiσ] at e2
    cases e2
    exact ⟨u,r,.inl ⟨hk,by simp⟩⟩
   ·rw [List.getElem?_set_ne (Ne.symm hj)] at e2
    obtain ⟨u',r',q⟩:=hl j y v' e1 e2 e3
    refine ⟨u',r',?_⟩
    rcases q with ⟨k,e⟩ | ⟨k,c,e,z⟩
    ·refine .inl ⟨k,?_⟩
     have:y≠x:=fun e=>hj (nodup_ix hN e1 (e▸hi))
     simp [this,e]
    ·exact .inr ⟨k,c,e,z.sameBut hs (cne y c e)⟩
  ·obtain ⟨w',z⟩:=I.cell y c e
   exact ⟨w',z.sameBut hs (cne y c e)⟩
  ·obtain ⟨e,n,ne,nf,d⟩:=I.pin p hp
   exact ⟨(hs.2 p.1 ne).trans e,n,ne,nf,d⟩
 ·have hfn:X.fn x=true:=by
   rcases hf with z | z
   ·exact z
   ·rw [z] at hk;cases hk
  obtain ⟨c,hc⟩:=I.ok.has x (.inl hk)
  obtain ⟨w',z⟩:=I.cell x c hc
  refine wpAny_storeName_cell I.ok.kind hk hc z (fun h' hc' hs=>?_)
  obtain ⟨oc,hoc,hocd⟩:=id z
  refine h { s with heap:=h' } ⟨I.ok,I.os,I.bare,⟨fun b o e n hb hx=>?_,fun b o e n hb hx=>?_,I.base.free,fun b o e hx=>?_,I.base.tups,I.base.frzs,I.base.tbls⟩,⟨m,hn.sameBut hs (Ne.symm (cne x c hc)),fun j y v' e1 e2 e3=>?_⟩,fun y c' e=>?_,I.free,I.freeC,fun p hp=>?_,tracked ⟨oc,hoc,I.freeC x c hc⟩ hs,by simpa using I.len⟩ ⟨c,hs,.inr hc⟩
  ·exact (hs.2 b (Nat.ne_of_lt (Nat.lt_of_lt_of_le (Heap.lt_size e) (I.ok.cab x c hfn hc)))).trans (I.base.keep b o e n hb hx)
  ·obtain ⟨sl,e1⟩:=I.base.slot b o e n hb hx
   exact ⟨sl,(hs.2 b (Nat.ne_of_lt (Nat.lt_of_lt_of_le (Heap.lt_size e) (I.ok.cab x c hfn hc)))).trans e1⟩
  ·obtain ⟨o',e1⟩:=I.base.there b o e hx
   exact ⟨o',(hs.2 b (Nat.ne_of_lt (Nat.lt_of_lt_of_le (Heap.lt_size e) (I.ok.cab x c hfn hc)))).trans e1⟩
  ·by_cases hj:j=i
   ·subst hj
    rw [hi] at e1;cases e1
    rw [List.getElem?_set_self hiσ] at e2
    cases e2
    exact ⟨u,r,.inr ⟨.inl hk,c,hc,hc'⟩⟩
   ·rw [List.getElem?_set_ne (Ne.symm hj)] at e2
    obtain ⟨u',r',q⟩:=hl j y v' e1 e2 e3
    refine ⟨u',r',?_⟩
    rcases q with q | ⟨k,c',e,z'⟩
    ·exact .inl q
    ·refine .inr ⟨k,c',e,z'.sameBut hs ?_⟩
     rintro rfl
     exact hj (nodup_ix hN e1 (I.ok.inj _ _ _ e hc▸hi))
  ·by_cases hcc:c'=c
   ·subst hcc;exact ⟨_,hc'⟩
   ·obtain ⟨w2,z2⟩:=I.cell y c' e
    exact ⟨w2,z2.sameBut hs hcc⟩
  ·obtain ⟨e,n,ne,nf,d⟩:=I.pin p hp
   refine ⟨(hs.2 p.1 ?_).trans e,n,ne,nf,d⟩
   intro q
   rw [q,hoc] at e
   have q':oc=p.2:=Option.some.inj e
   exact d w' (by rw [<- q'];exact hocd)
theorem store_ok (I:Inv X pins σ H s) (hN:X.N.Nodup) (hi:X.N[i]?=some x) (hx:Loc X.env.scope x) (r:RelV v u)
  (h:∀s',Inv X pins (σ.set i (some v)) H s'->Q () s') (hf:X.fn x=true\/X.env.scope.names.lookup x=some .local:=by first | exact .inl rfl | exact .inr rfl | assumption):wpAny M A (storeName X.env x u) Q E s:=
 store_ok2 I hN hi hx r (fun s' I' _=>h s' I') hf
theorem Inv.call' (I:Inv X pins σ H s) (ho:s'.os=s.os) (u:Un (frs X.stack) ch H H' s.heap s'.heap) (hok:HOk X.prog X.w H' s'.heap) (hg:AllBare s'.gens)
  (hch:∀b∈ch,(b∈X.ex\/X.s₀.heap.objs.size≤b)/\b≠X.env.locals/\(∀x c,X.env.cells.lookup x=some c->c≠b)/\∀p∈X.pn++pins,p.1≠b):Inv X pins σ H' s':=by
 obtain ⟨h',g',d',t',o'⟩:=s'
 have e:o'=s.os:=ho
 subst e
 exact I.call (g':=g') (t':=t') (d':=d') u hok hg hch
end
abbrev XK:=Value->Option Addr->Hp->Prop
abbrev St:=List (Option V)
abbrev VK:=V->Hp->Prop
abbrev TE:=St->Hp->VK->Prop
abbrev TT:=St->Hp->(Bool->Hp->Prop)->Prop
abbrev TA:=St->Hp->(List V->Hp->Prop)->Prop
structure Ends where
 nx:St->Hp->Prop
 rt:VK
 bk:St->Hp->Prop:=fun _ _=>False
 ct:St->Hp->Prop:=fun _ _=>False
abbrev TS:=Ends->St->Hp->Prop
def EP (X:Cx) (pins:List (Addr×Obj)) (σ:St) (Q:VK) (u:Value) (s':Shared):Prop:=∃v H',Inv X pins σ H' s'/\RelV v u/\Q v H'
def TP (X:Cx) (pins:List (Addr×Obj)) (σ:St) (Q:Bool->Hp->Prop) (b:Bool) (s':Shared):Prop:=∃H',Inv X pins σ H' s'/\Q b H'
def AP (X:Cx) (pins:List (Addr×Obj)) (σ:St) (Q:List V->Hp->Prop) (us:List Value) (s':Shared):Prop:=∃vs H',Inv X pins σ H' s'/\Vals vs us/\Q vs H'
def SP (X:Cx) (pins:List (Addr×Obj)) (D:Ends) (f:Flow) (s':Shared):Prop:=
 match f with
 | .next=>∃ σ' H',Inv X pins σ' H' s'/\D.nx σ' H'
 | .brk=>∃ σ' H',Inv X pins σ' H' s'/\D.bk σ' H'
 | .cont=>∃ σ' H',Inv X pins σ' H' s'/\D.ct σ' H'
 | .ret u=>∃v σ' H',Inv X pins σ' H' s'/\RelV v u/\D.rt v H'
def PE (X:Cx) (e:Expr) (t:TE):Prop:=
 ∀(pins:List (Addr×Obj)) (s:Shared) (σ:St) (H:Hp) (Q:VK),Inv X pins σ H s->t σ H Q->wpAny (model X.prog X.w) X.A (eval e X.env) (EP X pins σ Q) X.xe s
def PT (X:Cx) (e:Expr) (t:TT):Prop:=
 ∀(pins:List (Addr×Obj)) (s:Shared) (σ:St) (H:Hp) (Q:Bool->Hp->Prop),Inv X pins σ H s->t σ H Q->wpAny (model X.prog X.w) X.A (isTrue e X.env (eval e X.env)) (TP X pins σ Q) X.xe s
def PW (X:Cx) (e:Expr) (t:TT):Prop:=
 ∀(whole:Sem Value) (pins:List (Addr×Obj)) (s:Shared) (σ:St) (H:Hp) (Q:Bool->Hp->Prop),Inv X pins σ H s->t σ H Q->wpAny (model X.prog X.w) X.A (isTrue e X.env whole) (TP X pins σ Q) X.xe s
theorem PW.pt (h:PW X e t):PT X e t:=h _
def PA (X:Cx) (es:List Expr) (t:TA):Prop:=
 ∀(pos:Pos) (pins:List (Addr×Obj)) (s:Shared) (σ:St) (H:Hp) (Q:List V->Hp->Prop),Inv X pins σ H s->t σ H Q->wpAny (model X.prog X.w) X.A (spliced (backTo pos (starEach es X.env))) (AP X pins σ Q) X.xe s
def PS (X:Cx) (st:Stmt) (t:TS):Prop:=
 ∀(pins:List (Addr×Obj)) (s:Shared) (σ:St) (H:Hp) (D:Ends),Inv X pins σ H s->t D σ H->wpAny (model X.prog X.w) X.A (exec st X.env) (SP X pins D) X.xe s
def PSs (X:Cx) (st:List Stmt) (t:TS):Prop:=
 ∀(pins:List (Addr×Obj)) (s:Shared) (σ:St) (H:Hp) (D:Ends),Inv X pins σ H s->t D σ H->wpAny (model X.prog X.w) X.A (execs st X.env) (SP X pins D) X.xe s
theorem thn {t:Sem α} {Q Q':α->Shared->Prop} (h:wpAny M A t Q E s) (hQ:∀a s,Q a s->Q' a s):wpAny M A t Q' E s:=wpAny_mono h hQ fun _ _ x=>x
section
variable {X:Cx}
def tVar (i:Nat):TE:=fun σ H Q=>∃v,σ[i]?=some (some v)/\Q v H
def tC (v:V):TE:=fun _ H Q=>Q v H
theorem pe_var {pos:Pos} (hN:X.N[i]?=some x) (hv:Vis X.env.scope x) (hd:(x==("__debug__":Str))=false:=by decide) (hcd:(x==("__classdict__":Str))=false:=by decide):PE X (.Name x pos) (tVar i):=by
 intro pins s σ H Q I h
 obtain ⟨v,e,h⟩:=h
 obtain ⟨m,hn,hl⟩:=I.loc
 obtain ⟨u,r,l⟩:=hl i x v hN e hv
 have fin:EP X pins σ Q u s:=⟨v,H,I,r,h⟩
 rcases l with ⟨hk,hm⟩ | ⟨hk,c,hc,hcell⟩
 ·exact wpAny_Name (wpAny_loadName_local I.ok.kind hk hn hm fin) hd
 ·rcases hk with hk | hk
  ·exact wpAny_Name (wpAny_loadName_cell I.ok.kind hk hc hcell fin) hd
  ·exact wpAny_Name (wpAny_loadName_free I.ok.kind hk hc hcell fin hcd) hd
theorem pe_int {i j pos}:PE X (.Constant (.int i) j pos) (tC (.int i)):=fun _ _ _ H _ I h=>wpAny_Constant_int ⟨.int i,H,I.tok _,⟨_,rfl⟩,h⟩
theorem c_A {b j pos}:PE X (.Constant (.bool b) j pos) (tC (.bl b)):=fun _ _ _ H _ I h=>Constant_bool ⟨.bl b,H,I,rfl,h⟩
theorem pe_non {j pos}:PE X (.Constant .none j pos) (tC .non):=fun _ _ _ H _ I h=>Constant_none ⟨.non,H,I,rfl,h⟩
theorem b_G {x j pos}:PE X (.Constant (.str x) j pos) (tC (.str x)):=fun _ _ _ H _ I h=>Calls.Constant_str ⟨.str x,H,I.tok _,⟨_,rfl⟩,h⟩
def Gl (X:Cx) (x:Str):Prop:=X.env.kindOf x=some .globalImplicit
theorem ld_glob {σ:St} (I:Inv X pins σ H s) (hg:Gl X x) (hm:X.mg x=some u) (h:Q u s)
  (hd:(x==("__debug__":Str))=false:=by decide):wpAny (model X.prog X.w) X.A (eval (.Name x pos) X.env) Q E s:=
 Calls.Name_function_global I.ok.kind hg (Calls.loadGlobal_global (by rw [I.ok.glob];exact I.mod.glob.keeps I.bk) hm h) hd
theorem ld_blt {E:Value->Shared->Prop} {σ:St} {pos:Pos} (I:Inv X pins σ H s) (hg:Gl X x) (hm:X.mg x=none) (hv:bootBuiltins x=some u) (h:Q u s)
  (hn:x≠"__name__":=by decide) (hd:(x==("__debug__":Str))=false:=by decide):wpAny (model X.prog X.w) X.A (eval (.Name x pos) X.env) Q E s:=by
 obtain ⟨mb,h1,h2⟩:=I.mod.blt
 exact Calls.Name_function_global I.ok.kind hg (Calls.loadGlobal_builtin (by rw [I.ok.glob];exact I.mod.glob.keeps I.bk) hm (by rw [I.ok.blt];exact h1.keeps I.bk) ((h2 x hn).trans hv) h) hd
theorem c_Z (hg:Gl X x) (hm:X.mg x=some u) (r:RelV v u) (hd:(x==("__debug__":Str))=false:=by decide):PE X (.Name x pos) (tC v):=
 fun _ _ _ H _ I h=>ld_glob I hg hm ⟨v,H,I,r,h⟩ hd
theorem e_k {pos:Pos} (hg:Gl X x) (hm:X.mg x=none) (hv:bootBuiltins x=some u) (r:RelV v u) (hn:x≠"__name__":=by decide) (hd:(x==("__debug__":Str))=false:=by decide):PE X (.Name x pos) (tC v):=
 fun _ _ _ H _ I h=>ld_blt I hg hm hv ⟨v,H,I,r,h⟩ hn hd
variable {a b:Expr} {ta tb:TE} {pos:Pos}
def tB (t:TE):TT:=fun σ H Q=>t σ H fun x H1=>∃c,x=.bl c/\Q c H1
theorem c_p (h:PE X e t) (he:∀whole,isTrue e X.env whole=(do let v <- whole;standAt e.pos;holding [v] (truthy v)):=by intro _;rfl):PT X e (tB t):=by
 intro pins s σ H Q I hw
 refine isTrue_plain (thn (h pins s σ H _ I hw) fun v s1 ⟨x,H1,I1,r1,q1⟩=>?_) (he _)
 obtain ⟨d,rfl,q⟩:=q1
 cases r1
 exact wpAny_truthy_bool ⟨H1,I1,q⟩
variable {tA tB':TT} {rest:List Expr}
def tAnd (t u:TT):TT:=fun σ H Q=>t σ H fun c H1=>if c=true then u σ H1 Q else Q false H1
def tOr (t u:TT):TT:=fun σ H Q=>t σ H fun c H1=>if c=true then Q true H1 else u σ H1 Q
def tNot (t:TT):TT:=fun σ H Q=>t σ H fun c H1=>Q (!c) H1
theorem pw_and1 (ha:PT X a tA):PW X (.BoolOp .And [a] pos) tA:=by
 intro wh pins s σ H Q I h
 refine isTrue_and (thn (ha pins s σ H Q I h) fun c s1 e=>?_)
 cases c with
 | true=>exact isTrue_and_nil e
 | false=>exact e
theorem pw_or1 (ha:PT X a tA):PW X (.BoolOp .Or [a] pos) tA:=by
 intro wh pins s σ H Q I h
 refine isTrue_or (thn (ha pins s σ H Q I h) fun c s1 e=>?_)
 cases c with
 | false=>exact isTrue_or_nil e
 | true=>exact e
theorem pw_and (ha:PT X a tA) (hb:PW X (.BoolOp .And (b::rest) pos) tB'):PW X (.BoolOp .And (a::b::rest) pos) (tAnd tA tB'):=by
 intro wh pins s σ H Q I h
 refine isTrue_and (thn (ha pins s σ H _ I h) fun c s1 ⟨H1,I1,q1⟩=>?_)
 cases c with
 | true=>exact hb wh pins s1 σ H1 Q I1 q1
 | false=>exact ⟨H1,I1,q1⟩
theorem pw_or (ha:PT X a tA) (hb:PW X (.BoolOp .Or (b::rest) pos) tB'):PW X (.BoolOp .Or (a::b::rest) pos) (tOr tA tB'):=by
 intro wh pins s σ H Q I h
 refine isTrue_or (thn (ha pins s σ H _ I h) fun c s1 ⟨H1,I1,q1⟩=>?_)
 cases c with
 | true=>exact ⟨H1,I1,q1⟩
 | false=>exact hb wh pins s1 σ H1 Q I1 q1
theorem c_F (ha:PT X a tA):PT X (.UnaryOp .Not a pos) (tNot tA):=by
 intro pins s σ H Q I h
 exact isTrue_not (ha pins s σ H (fun c H1=>Q (!c) H1) I h)
def tAndV (ta tb:TE):TE:=fun σ H Q=>ta σ H fun x H1=>∃c,x=.bl c/\if c=true then tb σ H1 Q else Q (.bl false) H1
def tNotV (ta:TE):TE:=fun σ H Q=>ta σ H fun x H1=>∃c,x=.bl c/\Q (.bl (!c)) H1
theorem pe_one {op} (h:PE X a t):PE X (.BoolOp op [a] pos) t:=fun pins s σ H Q I hw=>BoolOp_one (h pins s σ H Q I hw)
theorem pe_and (ha:PE X a ta) (hb:PE X (.BoolOp .And (b::rest) pos) tb):PE X (.BoolOp .And (a::b::rest) pos) (tAndV ta tb):=by
 intro pins s σ H Q I h
 refine BoolOp_and (thn (ha pins s σ H _ I h) fun v s1 ⟨x,H1,I1,r1,q1⟩=>?_)
 obtain ⟨c,rfl,q1⟩:=q1
 cases r1
 refine wpAny_truthy_bool ?_
 cases c with
 | true=>exact hb pins s1 σ H1 Q I1 q1
 | false=>exact ⟨.bl false,H1,I1,rfl,q1⟩
theorem pe_not (ha:PE X a ta):PE X (.UnaryOp .Not a pos) (tNotV ta):=by
 intro pins s σ H Q I h
 refine UnaryOp_ (thn (ha pins s σ H _ I h) fun v s1 ⟨x,H1,I1,r1,q1⟩=>?_)
 obtain ⟨c,rfl,q1⟩:=q1
 cases r1
 exact not_of (wpAny_truthy_bool ⟨.bl (!c),H1,I1,rfl,q1⟩)
end
def SqL (K:PySem.W.Frag) (H:Hp) (a:Addr) (xs:List V):Prop:=
 Rd H a (.lst xs) \/
  ∃(o:Obj) (its:Array Value) (n:Nat),K.lookup a=some o/\o.cls=.type "list"/\o.dict=none/\o.data=.seq its n/\its.size≤sizeLine/\Vals xs its.toList
def SqT (K:PySem.W.Frag) (H:Hp) (a:Addr) (xs:List V):Prop:=
 Rd H a (.tup xs) \/
  ∃(o:Obj) (its:Array Value) (n:Nat),K.lookup a=some o/\o.cls=.type "tuple"/\o.data=.seq its n/\its.size≤sizeLine/\Vals xs its.toList
def absV:Value->Option V
 | .none=>some .non
 | .bool b=>some (.bl b)
 | .int i _=>some (.int i)
 | .str x _=>some (.str x)
 | .bytes b _=>some (.byt b)
 | .float b _=>some (.flt b)
 | .ref a=>some (.ref a)
 | .type n=>some (.ty n)
 | _=>none
theorem RelV.abs (r:RelV x u):absV u=some x:=by
 cases x with
 | non=>cases r;rfl
 | bl _=>cases r;rfl
 | int _=>obtain ⟨t,rfl⟩:=r;rfl
 | str _=>obtain ⟨t,rfl⟩:=r;rfl
 | byt _=>obtain ⟨t,rfl⟩:=r;rfl
 | flt _=>obtain ⟨t,rfl⟩:=r;rfl
 | ref _=>cases r;rfl
 | ty _=>cases r;rfl
theorem RelV.inj (r:RelV x u) (q:RelV y u):x=y:=Option.some.inj (r.abs.symm.trans q.abs)
theorem Vals.inj:∀{xs ys:List V} {us:List Value},Vals xs us->Vals ys us->xs=ys
 | _,_,_,.nil,.nil=>rfl
 | _,_,_,.cons r t,.cons r' t'=>by rw [r.inj r',Vals.inj t t']
section
variable {X:Cx} {pins:List (Addr×Obj)} {σ:St} {H:Hp} {s:Shared} {a:Addr} {xs ys:List V}
theorem SqL.of {K:PySem.W.Frag} (h:H a=some (.lst xs)):SqL K H a xs:=.inl (.inl h)
theorem SqT.of {K:PySem.W.Frag} (h:H a=some (.tup xs)):SqT K H a xs:=.inl (.inl h)
theorem Inv.list (I:Inv X pins σ H s) (h:SqL X.K H a xs):∃its:List Value,Vals xs its/\PlainL s.heap a its.toArray/\xs.length≤sizeLine:=by
 rcases h with h | ⟨o,its,n,hk,hc,hd,hs,hz,r⟩
 ·obtain ⟨z,its,n,r,e⟩:=h.ok I.hok
  exact ⟨its,r,⟨_,n,e,rfl,rfl,rfl⟩,z⟩
 ·refine ⟨its.toList,r,⟨o,n,I.kIn a o hk,hc,hd,by simpa using hs⟩,?_⟩
  have e:=r.length
  simp only [Array.length_toList] at e
  omega
theorem Inv.tuple (I:Inv X pins σ H s) (h:SqT X.K H a xs):∃its:List Value,Vals xs its/\IsTup s.heap a its.toArray/\xs.length≤sizeLine:=by
 rcases h with h | ⟨o,its,n,hk,hc,hs,hz,r⟩
 ·obtain ⟨z,its,r,p⟩:=h.ok I.hok
  exact ⟨its,r,p,z⟩
 ·refine ⟨its.toList,r,⟨o,I.kIn a o hk,hc,n,by simpa using hs⟩,?_⟩
  have e:=r.length
  simp only [Array.length_toList] at e
  omega
theorem Inv.list_inj (I:Inv X pins σ H s) (h:SqL X.K H a xs) (h':SqL X.K H a ys):xs=ys:=by
 obtain ⟨its,r,⟨o,n,e,_,_,d⟩,_⟩:=I.list h
 obtain ⟨its',r',⟨o',n',e',_,_,d'⟩,_⟩:=I.list h'
 rw [e] at e';cases e'
 rw [d] at d'
 injection d' with d1 _
 have:its=its':=by simpa using congrArg Array.toList d1
 subst this
 exact r.inj r'
theorem Inv.tuple_inj (I:Inv X pins σ H s) (h:SqT X.K H a xs) (h':SqT X.K H a ys):xs=ys:=by
 obtain ⟨its,r,⟨o,e,_,n,d⟩,_⟩:=I.tuple h
 obtain ⟨its',r',⟨o',e',_,n',d'⟩,_⟩:=I.tuple h'
 rw [e] at e';cases e'
 rw [d] at d'
 injection d' with d1 _
 have:its=its':=by simpa using congrArg Array.toList d1
 subst this
 exact r.inj r'
end
abbrev Cx.wish (X:Cx) (E:Value->Shared->Prop):Cx:={ X with xe:=E }
abbrev Cx.nox (X:Cx):Cx:=X.wish fun _ _=>False
theorem Cx.Ok.wish {X:Cx} (ok:X.Ok) (E:Value->Shared->Prop):(X.wish E).Ok:=
 ⟨ok.mod,ok.kind,ok.glob,ok.blt,ok.above,ok.inj,ok.has,ok.cab,ok.hd,ok.frames,ok.stk,ok.exf,ok.bs,ok.bsz,ok.noex,ok.exfs,ok.funs,ok.frf⟩
theorem Cx.Ok.unwish {X:Cx} (ok:(X.wish E).Ok):X.Ok:=
 ⟨ok.mod,ok.kind,ok.glob,ok.blt,ok.above,ok.inj,ok.has,ok.cab,ok.hd,ok.frames,ok.stk,ok.exf,ok.bs,ok.bsz,ok.noex,ok.exfs,ok.funs,ok.frf⟩
section
variable {X:Cx} {pins:List (Addr×Obj)} {σ:St} {H:Hp} {s:Shared} {E:Value->Shared->Prop}
theorem Inv.wish (I:Inv X pins σ H s) (E:Value->Shared->Prop):Inv (X.wish E) pins σ H s:=⟨I.ok.wish E,I.os,I.bare,I.base,I.loc,I.cell,I.free,I.freeC,I.pin,I.hok,I.len⟩
theorem Inv.unwish (I:Inv (X.wish E) pins σ H s):Inv X pins σ H s:=⟨I.ok.unwish,I.os,I.bare,I.base,I.loc,I.cell,I.free,I.freeC,I.pin,I.hok,I.len⟩
theorem SP.unwish (h:SP (X.wish E) pins D f s'):SP X pins D f s':=by
 cases f with
 | next=>obtain ⟨σ',H',I,q⟩:=h;exact ⟨σ',H',I.unwish,q⟩
 | brk=>obtain ⟨σ',H',I,q⟩:=h;exact ⟨σ',H',I.unwish,q⟩
 | cont=>obtain ⟨σ',H',I,q⟩:=h;exact ⟨σ',H',I.unwish,q⟩
 | ret u=>obtain ⟨v,σ',H',I,r,q⟩:=h;exact ⟨v,σ',H',I.unwish,r,q⟩
theorem PSs.nox {st:List Stmt} (h:PSs X.nox st t):PSs X st t:=fun pins s σ H D I hw=>
 wpAny_mono (h pins s σ H D (I.wish _) hw) (fun _ _ q=>q.unwish) fun _ _ z=>False.elim z
end
section
variable {X:Cx} {st:Stmt} {rest:List Stmt} {t u:TS} {e:Expr} {te:TE} {pos:Pos}
def tNext:TS:=fun D σ H=>D.nx σ H
def tSeq (t u:TS):TS:=fun D σ H=>t { D with nx:=u D } σ H
theorem a_E:PSs X [] tNext:=fun _ _ σ H _ I h=>wpAny_execs_nil ⟨σ,H,I,h⟩
theorem a_b (h1:PS X st t) (h2:PSs X rest u):PSs X (st::rest) (tSeq t u):=by
 intro pins s σ H D I h
 refine wpAny_execs_cons (thn (h1 pins s σ H { D with nx:=u D } I h) fun f s1 q=>?_)
 cases f with
 | next=>
  obtain ⟨σ',H',I',q⟩:=q
  exact h2 pins s1 σ' H' D I' q
 | ret v=>exact q
 | brk=>exact q
 | cont=>exact q
theorem a_e (h1:PS X st t):PSs X [st] t:=by
 intro pins s σ H D I h
 refine wpAny_execs_cons (thn (h1 pins s σ H D I h) fun f s1 q=>?_)
 cases f with
 | next=>exact wpAny_execs_nil q
 | ret v=>exact q
 | brk=>exact q
 | cont=>exact q
def tBreak:TS:=fun D σ H=>D.bk σ H
theorem ps_break:PS X (.Break pos) tBreak:=fun _ _ σ H _ I h=>wpAny_Break ⟨σ,H,I,h⟩
theorem Inv.quiet {σ:St} (I:Inv X pins σ H s):interactive X.env=false:=by simp [interactive,I.ok.kind]
def tDrop (te:TE):TS:=fun D σ H=>te σ H fun _ H1=>D.nx σ H1
theorem a_X (he:PE X e te) (hs:swapsWith e none pos.line X.env=pure false:=by rfl):PS X (.Expr e pos) (tDrop te):=by
 intro pins s σ H D I h
 exact wpAny_Expr_any (thn (he pins s σ H _ I h) fun v s1 ⟨x,H1,I1,r1,q1⟩=>⟨σ,H1,I1,q1⟩) I.quiet hs
def tRet (te:TE):TS:=fun D σ H=>te σ H D.rt
theorem a_p (he:PE X e te):PS X (.Return (some e) pos) (tRet te):=by
 intro pins s σ H D I h
 exact wpAny_Return_some (thn (he pins s σ H _ I h) fun v s1 ⟨x,H1,I1,r1,q1⟩=>⟨x,σ,H1,I1,r1,q1⟩)
def tIfS (c:TT) (t u:TS):TS:=fun D σ H=>c σ H fun b H1=>if b=true then t D σ H1 else u D σ H1
theorem b_v (hc:PT X c tc) (ha:PSs X a t) (hb:PSs X b u):PS X (.If c a b pos) (tIfS tc t u):=by
 intro pins s σ H D I h
 refine wpAny_If (thn (hc pins s σ H _ I h) fun d s1 ⟨H1,I1,q1⟩=>?_)
 cases d with
 | true=>exact ha pins s1 σ H1 D I1 q1
 | false=>exact hb pins s1 σ H1 D I1 q1
end
abbrev TG:=V->St->Hp->(St->Hp->Prop)->Prop
abbrev TGs:=List V->St->Hp->(St->Hp->Prop)->Prop
def PG (X:Cx) (target:Expr) (t:TG):Prop:=
 ∀(pins:List (Addr×Obj)) (s:Shared) (σ:St) (H:Hp) (v:V) (u:Value) (Q:St->Hp->Prop),Inv X pins σ H s->RelV v u->t v σ H Q->
  wpAny (model X.prog X.w) X.A (assign target X.env u) (fun _ s'=>∃ σ' H',Inv X pins σ' H' s'/\Q σ' H') X.xe s
def PGs (X:Cx) (ts:List Expr) (t:TGs):Prop:=
 ∀(pins:List (Addr×Obj)) (s:Shared) (σ:St) (H:Hp) (vs:List V) (us:List Value) (Q:St->Hp->Prop),Inv X pins σ H s->Vals vs us->t vs σ H Q->
  wpAny (model X.prog X.w) X.A (assignInOrder ((assignEach ts X.env).map (·.2)) us) (fun _ s'=>∃ σ' H',Inv X pins σ' H' s'/\Q σ' H') X.xe s
abbrev TSet:=V->V->V->Hp->(Hp->Prop)->Prop
def PSet (X:Cx) (t:TSet):Prop:=
 ∀(pins:List (Addr×Obj)) (s:Shared) (σ:St) (H:Hp) (o i v:V) (ov iv u:Value) (Q:Hp->Prop),Inv X pins σ H s->RelV o ov->RelV i iv->RelV v u->t o i v H Q->
  wpAny (model X.prog X.w) X.A (setItem ov iv u) (fun _ s'=>∃H',Inv X pins σ H' s'/\Q H') X.xe s
section
variable {X:Cx} {pos:Pos}
def c_x (i:Nat):TG:=fun v σ H Q=>Q (σ.set i (some v)) H
theorem a_B (hN:X.N.Nodup) (hi:X.N[i]?=some x) (hx:Loc X.env.scope x) (hf:X.fn x=true\/X.env.scope.names.lookup x=some .local:=by first | exact .inl rfl | exact .inr rfl | assumption):PG X (.Name x pos) (c_x i):=by
 intro pins s σ H v u Q I r h
 exact wpAny_assign_Name (store_ok I hN hi hx r (fun s' I'=>⟨_,H,I',h⟩) hf)
def gNil:TGs:=fun vs σ H Q=>vs=[]/\Q σ H
def gCons (t:TG) (u:TGs):TGs:=fun vs σ H Q=>∃v r,vs=v::r/\t v σ H fun σ' H'=>u r σ' H' Q
theorem e_j:PGs X [] gNil:=by
 intro pins s σ H vs us Q I r h
 obtain ⟨e,h⟩:=h
 subst e
 cases r
 exact assignInOrder_nil ⟨σ,H,I,h⟩
theorem b_Q (h1:PG X e t) (h2:PGs X es u)
  (hs:(assignEach (e::es) X.env).map (·.2)=assign e X.env::(assignEach es X.env).map (·.2):=by rfl):PGs X (e::es) (gCons t u):=by
 intro pins s σ H vs us Q I r h
 obtain ⟨v,vr,e1,h⟩:=h
 subst e1
 cases r with
 | cons r rr=>
  rw [hs]
  refine assignInOrder_cons (thn (h1 pins s σ H _ _ _ I r h) fun _ s1 ⟨σ1,H1,I1,q1⟩=>?_)
  exact h2 pins s1 σ1 H1 _ _ Q I1 rr q1
def gTup (K:PySem.W.Frag) (n:Nat) (t:TGs):TG:=fun v σ H Q=>∃a xs,v=.ref a/\SqT K H a xs/\xs.length=n/\t xs σ H Q
theorem pg_tup {k:Nat} (hc:X.calm=true) (h:PGs X es t)
  (hn:(assignEach es X.env).length=n:=by rfl) (hst:(assignEach es X.env).findIdx? (·.1)=none:=by rfl):PG X (.Tuple es k pos) (gTup X.K n t):=by
 intro pins s σ H v u Q I r hw
 obtain ⟨a,xs,e1,hq,hl,hw⟩:=hw
 subst e1
 cases r
 obtain ⟨its,rv,ht,hz⟩:=I.tuple hq
 refine assign_Tuple_tuple (I.ok.hd hc) ht (by simp [hn,<- hl,rv.length]) hst fun h' hx=>?_
 have I1:Inv X pins σ H { s with heap:=h' }:=I.kept (t':=s.toks) fun b o e=>hx b o (Nat.ne_of_lt (Heap.lt_size e)) e
 exact h pins _ σ H xs _ Q I1 (by simpa using rv) hw
def gSub (to ti:TE) (t:TSet):TG:=fun v σ H Q=>to σ H fun o H1=>ti σ H1 fun i H2=>t o i v H2 fun H3=>Q σ H3
theorem pg_sub (ho:PE X o to) (hi:PE X i ti) (hs:PSet X t)
  (ha:∀v,assign (.Subscript o i pos) X.env v=(do
   let ov <- holding [v] (eval o X.env)
   let iv <- holding [v,ov] (eval i X.env)
   standAt pos
   holding [v,ov,iv] (setItem ov iv v)
   release [v,ov,iv] []):=by intro _;rfl):PG X (.Subscript o i pos) (gSub to ti t):=by
 intro pins s σ H v u Q I r h
 rw [ha]
 refine wpAny_bind (wpAny_holding (thn (ho pins s σ H _ I h) fun ov s1 ⟨x,H1,I1,r1,q1⟩=>?_))
 refine wpAny_bind (wpAny_holding (thn (hi pins s1 σ H1 _ I1 q1) fun iv s2 ⟨y,H2,I2,r2,q2⟩=>?_))
 refine wpAny_bind (wpAny_standAt (wpAny_bind (wpAny_holding (thn (hs pins s2 σ H2 x y v ov iv u _ I2 r1 r2 r q2) fun _ s3 ⟨H3,I3,q3⟩=>?_))))
 exact wpAny_release ⟨σ,H3,I3,q3⟩
def tAsg (te:TE) (g:TG):TS:=fun D σ H=>te σ H fun x H1=>g x σ H1 D.nx
theorem ps_asg (he:PE X e te) (hg:PG X tg g) (hs:swapsWithSole [tg] e pos.line X.env=pure false:=by rfl) (hw:swappedStores [tg] e X.env=pure none:=by rfl)
  (h1:(assignEach [tg] X.env).map (·.2)=[assign tg X.env]:=by rfl):PS X (.Assign [tg] e pos) (tAsg te g):=by
 intro pins s σ H D I h
 refine wpAny_Assign_stores (thn (he pins s σ H _ I h) fun v s1 ⟨x,H1,I1,r1,q1⟩=>?_) hs hw
 rw [h1]
 exact thn (hg pins s1 σ H1 x v _ I1 r1 q1) fun _ s2 q=>q
theorem a_k (hN:X.N.Nodup) (hi:X.N[i]?=some x) (hx:Loc X.env.scope x) (he:PE X e te) (hs:swapsWith e (some (.Name x pos')) pos.line X.env=pure false:=by rfl) (hf:X.fn x=true\/X.env.scope.names.lookup x=some .local:=by first | exact .inl rfl | exact .inr rfl | assumption):
  PS X (.Assign [.Name x pos'] e pos) (tAsg te (c_x i)):=by
 intro pins s σ H D I h
 refine wpAny_Assign_Name (thn (he pins s σ H _ I h) fun v s1 ⟨y,H1,I1,r1,q1⟩=>?_) hs
 exact store_ok I1 hN hi hx r1 (fun s2 I2=>⟨_,H1,I2,q1⟩) hf
end
section
variable {X:Cx} {pos:Pos}
def tWhile (c:TT) (tb:TS):TS:=fun D σ H=>∃W:Nat->St->Hp->Prop,(∃m,W m σ H)/\∀m σ H,W m σ H->
 c σ H fun b H1=>if b=true then ∃N:St->Hp->Prop,(∀ σ' H',N σ' H'->∃m',m'<m/\W m' σ' H')/\tb { D with nx:=N,ct:=N,bk:=D.nx } σ H1 else D.nx σ H1
theorem f_G (hp:PassesOwn (model X.prog X.w) X.A X.env X.xe) (hc:PT X c tc) (hb:PSs X body tb):PS X (.While c body [] pos) (tWhile tc tb):=by
 intro pins s σ H D I h
 obtain ⟨W,⟨m0,w0⟩,turn⟩:=h
 refine wpAny_While (codeAny_whileLoop (fun n s'=>∃ σ' H',Inv X pins σ' H' s'/\W n σ' H') ?_ m0 ⟨σ,H,I,w0⟩)
 rintro n s1 ⟨σ1,H1,I1,w1⟩
 refine wpAny_passesOwn hp (thn (hc pins s1 σ1 H1 _ I1 (turn n σ1 H1 w1)) fun b s2 ⟨H2,I2,q2⟩=>?_)
 cases b with
 | true=>
  obtain ⟨N,hN,q2⟩:=q2
  rw [if_pos rfl]
  refine wpAny_passesOwn hp (thn (hb pins s2 σ1 H2 _ I2 q2) fun f s3 q3=>?_)
  cases f with
  | next=>
   obtain ⟨σ3,H3,I3,n3⟩:=q3
   obtain ⟨m',hm,w3⟩:=hN σ3 H3 n3
   exact ⟨m',hm,σ3,H3,I3,w3⟩
  | cont=>
   obtain ⟨σ3,H3,I3,n3⟩:=q3
   obtain ⟨m',hm,w3⟩:=hN σ3 H3 n3
   exact ⟨m',hm,σ3,H3,I3,w3⟩
  | brk=>exact q3
  | ret v=>exact q3
 | false=>
  rw [if_neg Bool.false_ne_true]
  exact wpAny_execs_nil ⟨σ1,H2,I2,q2⟩
end
structure It where
 go:Nat->Hp->Prop
 yld:Nat->Hp->V->Hp->Prop
 stop:Nat->Hp->Prop
def FpOk (X:Cx) (pins:List (Addr×Obj)) (H:Hp) (b:Addr):Prop:=
 H b=none/\b≠X.env.locals/\b∉X.fs/\(b∈X.ex\/X.s₀.heap.objs.size≤b)/\(∀x c,X.env.cells.lookup x=some c->c≠b)/\∀p∈X.pn++pins,p.1≠b
theorem Inv.fpOk {σ:St} {b:Addr} (I:Inv X pins σ H s) (hb:s.heap.objs.size≤b) (hn:H' b=none):FpOk X pins H' b:=by
 refine ⟨hn,Nat.ne_of_gt (Nat.lt_of_lt_of_le I.lt hb),I.nofs hb,.inr (Nat.le_trans I.sz hb),fun x c e z=>?_,fun p hp z=>?_⟩
 ·obtain ⟨v,q⟩:=I.cell x c e
  exact absurd (Nat.lt_of_lt_of_le q.lt (by rw [z];exact hb)) (Nat.lt_irrefl _)
 ·exact absurd (Nat.lt_of_lt_of_le (Heap.lt_size (I.pin p hp).1) (by rw [z];exact hb)) (Nat.lt_irrefl _)
structure Turn (P:Program) (w:World) (K:PySem.W.Frag) (tg:Expr) (J:It) (fp:List Addr) (it:Addr) (tn:Nat->Heap->Prop):Prop where
 mem:it∈fp
 obj:∀i h,tn i h->∀b∈fp,∃o,h.get? b=some o/\∀v,o.data≠.cell v
 keep:∀i h h',tn i h->(∀b∈fp,∀o,h.get? b=some o->h'.get? b=some o)->tn i h'
 item:∀(X:Cx),X.prog=P->X.w=w->X.K=K->X.calm=true->∀(i:Nat) (pins:List (Addr×Obj)) (s:Shared) (σ:St) (H:Hp) (E:Value->Shared->Prop),Inv X pins σ H s->(∀b∈fp,FpOk X pins H b)->tn i s.heap->J.go i H->
  wpAny (model P w) X.A (pyNext (.ref it)) (fun r s1=>∃u,r=some u/\
   wpAny (model P w) X.A (letOwnedTupleGo tg (.ref it) u) (fun _ s2=>∃x H',Inv X pins σ H' s2/\RelV x u/\J.yld i H x H'/\tn (i+1) s2.heap/\∀b∈fp,H' b=none) E s1) E s
 done:∀(X:Cx),X.prog=P->X.w=w->X.K=K->X.calm=true->∀(i:Nat) (pins:List (Addr×Obj)) (s:Shared) (σ:St) (H:Hp) (E:Value->Shared->Prop),Inv X pins σ H s->(∀b∈fp,FpOk X pins H b)->tn i s.heap->J.stop i H->
  wpAny (model P w) X.A (pyNext (.ref it)) (fun r s1=>r=none/\Inv X pins σ H s1) E s
 self:∀(A:Around) (i:Nat) (s:Shared) (Q:Value->Shared->Prop) (E:Value->Shared->Prop),tn i s.heap->Q (.ref it) s->wpAny (model P w) A (pyIter (.ref it)) Q E s
abbrev TI:=St->Hp->(It->Hp->Prop)->Prop
def PIE (X:Cx) (pins:List (Addr×Obj)) (σ:St) (tg:Expr) (R:It->Hp->Prop) (itv:Value) (s2:Shared):Prop:=
 ∃(it:Addr) (fp:List Addr) (tn:Nat->Heap->Prop) (J:It) (H':Hp),itv=.ref it/\Inv X pins σ H' s2/\Turn X.prog X.w X.K tg J fp it tn/\tn 0 s2.heap/\(∀b∈fp,FpOk X pins H' b)/\R J H'
def PI (X:Cx) (tg iter:Expr) (wi:TI):Prop:=
 ∀(pins:List (Addr×Obj)) (s:Shared) (σ:St) (H:Hp) (R:It->Hp->Prop),Inv X pins σ H s->wi σ H R->
  wpAny (model X.prog X.w) X.A (eval iter X.env) (fun v s1=>wpAny (model X.prog X.w) X.A (pyIter v) (PIE X pins σ tg R) X.xe s1) X.xe s
theorem go_of {M:Model} {A:Around} (ho:s.heap.get? it=some o) (hc:o.cls=.type n) (hd:o.data=.fields vs)
  (hn:["enumerate","zip","dict_itemiterator","dict_reverseitemiterator","odict_iterator","itertools.zip_longest","itertools.pairwise"].contains n=false) (hQ:Q () s):wpAny M A (letOwnedTupleGo tg (.ref it) u) Q E s:=by
 unfold letOwnedTupleGo
 cases tg <;> first
  | exact wpAny_pure hQ
  | (cases u <;> first
    | exact wpAny_pure hQ
    | (refine wpAny_bind (wpAny_load ho ?_)
       rw [hc,hd]
       show wpAny M A (if (["enumerate","zip","dict_itemiterator","dict_reverseitemiterator","odict_iterator","itertools.zip_longest","itertools.pairwise"].contains n&&vs[0]?==some (rawInt _))=true then _ else _) Q E s
       rw [if_neg (by intro h;rw [hn,Bool.false_and] at h;cases h)]
       exact wpAny_pure hQ))
def Itl (K:PySem.W.Frag) (a:Addr):It:=
 ⟨fun i H=>∃xs x,SqL K H a xs/\xs[i]?=some x,fun i H x H'=>H'=H/\∀xs,SqL K H a xs->xs[i]?=some x,fun i H=>∃xs,SqL K H a xs/\xs.length≤i⟩
def Itt (K:PySem.W.Frag) (a:Addr):It:=
 ⟨fun i H=>∃xs x,SqT K H a xs/\xs[i]?=some x,fun i H x H'=>H'=H/\∀xs,SqT K H a xs->xs[i]?=some x,fun i H=>∃xs,SqT K H a xs/\xs.length≤i⟩
def Itr (lo:Int) (n:Nat):It:=⟨fun i _=>i<n,fun i H x H'=>H'=H/\x=.int (lo+i),fun i _=>n≤i⟩
theorem turn_list {K:PySem.W.Frag} (a it:Addr):Turn P w K tg (Itl K a) [it] it (fun i h=>h.IsListIter it a i)  where
 mem:=by simp
 obj:=fun i h st b hb=>by
  have e:b=it:=by simpa using hb
  subst e
  obtain ⟨o,e,c,d⟩:=st
  exact ⟨o,e,fun v z=>by rw [d] at z;cases z⟩
 keep:=fun i h h' st k=>st.at fun o e=>k it (by simp) o e
 item:=by
  intro X hP hw hK hc i pins s σ H E I hf st hg
  subst hP hw hK
  obtain ⟨xs,x,hq,hx⟩:=hg
  obtain ⟨its,rv,p,hz⟩:=I.list hq
  obtain ⟨u,hu,ru⟩:=rv.get hx
  obtain ⟨f0,f1,f2,f3,f4,f5⟩:=hf it (by simp)
  refine wpAny_pyNext_list_item st p.isList (x:=u) (by simpa using hu) fun h' st' sb=>?_
  have I1:Inv X pins σ H { s with heap:=h' }:=I.turned (t':=s.toks) (fun b o hb e=>(sb.2 b hb).trans e) f0 f1 f3 f4 f5
  obtain ⟨o,e,c,d⟩:=id st'
  exact ⟨u,rfl,go_of (s:={ s with heap:=h' }) e c d (by decide) ⟨x,H,I1,ru,⟨rfl,fun ys hy=>by rw [I.list_inj hy hq];exact hx⟩,st',fun b hb=>(hf b hb).1⟩⟩
 done:=by
  intro X hP hw hK hc i pins s σ H E I hf st hg
  subst hP hw hK
  obtain ⟨xs,hq,hx⟩:=hg
  obtain ⟨its,rv,p,hz⟩:=I.list hq
  obtain ⟨f0,f1,f2,f3,f4,f5⟩:=hf it (by simp)
  have hl:=rv.length
  exact wpAny_pyNext_list_end (I.ok.hd hc) st p.isList (by simp;omega) fun h' eb=>⟨rfl,I.turned (t':=s.toks) (fun b o hb e=>eb b o hb e) f0 f1 f3 f4 f5⟩
 self:=fun _ _ _ _ _ st h=>wpAny_pyIter_listiter st h
theorem e_U {K:PySem.W.Frag} (a it:Addr):Turn P w K tg (Itt K a) [it] it (fun i h=>h.IsTupleIter it a i)  where
 mem:=by simp
 obj:=fun i h st b hb=>by
  have e:b=it:=by simpa using hb
  subst e
  obtain ⟨o,e,c,d⟩:=st
  exact ⟨o,e,fun v z=>by rw [d] at z;cases z⟩
 keep:=fun i h h' st k=>st.at fun o e=>k it (by simp) o e
 item:=by
  intro X hP hw hK hc i pins s σ H E I hf st hg
  subst hP hw hK
  obtain ⟨xs,x,hq,hx⟩:=hg
  obtain ⟨its,rv,p,hz⟩:=I.tuple hq
  obtain ⟨u,hu,ru⟩:=rv.get hx
  obtain ⟨f0,f1,f2,f3,f4,f5⟩:=hf it (by simp)
  refine wpAny_pyNext_tuple_item st (show s.heap.IsTuple a its.toArray from p) (x:=u) (by simpa using hu) fun h' st' sb=>?_
  have I1:Inv X pins σ H { s with heap:=h' }:=I.turned (t':=s.toks) (fun b o hb e=>(sb.2 b hb).trans e) f0 f1 f3 f4 f5
  obtain ⟨o,e,c,d⟩:=id st'
  exact ⟨u,rfl,go_of (s:={ s with heap:=h' }) e c d (by decide) ⟨x,H,I1,ru,⟨rfl,fun ys hy=>by rw [I.tuple_inj hy hq];exact hx⟩,st',fun b hb=>(hf b hb).1⟩⟩
 done:=by
  intro X hP hw hK hc i pins s σ H E I hf st hg
  subst hP hw hK
  obtain ⟨xs,hq,hx⟩:=hg
  obtain ⟨its,rv,p,hz⟩:=I.tuple hq
  obtain ⟨f0,f1,f2,f3,f4,f5⟩:=hf it (by simp)
  have hl:=rv.length
  exact wpAny_pyNext_tuple_end (I.ok.hd hc) st (show s.heap.IsTuple a its.toArray from p) (by simp;omega) fun h' eb=>⟨rfl,I.turned (t':=s.toks) (fun b o hb e=>eb b o hb e) f0 f1 f3 f4 f5⟩
 self:=fun _ _ _ _ _ st h=>wpAny_pyIter_tupleiter st h
theorem turn_range {K:PySem.W.Frag} (it:Addr) (lo:Int) (n:Nat):Turn P w K tg (Itr lo n) [it] it (fun i h=>IsRangeIter h it (lo+(i:Nat) * 1) ((n:Int) - (i:Nat)) 1)  where
 mem:=by simp
 obj:=fun i h st b hb=>by
  have e:b=it:=by simpa using hb
  subst e
  exact ⟨_,st,fun v z=>by
   have z':Data.fields _=Data.cell v:=z
   cases z'⟩
 keep:=fun i h h' st k=>k it (by simp) _ st
 item:=by
  intro X hP hw hK hc i pins s σ H E I hf st hg
  subst hP hw hK
  obtain ⟨f0,f1,f2,f3,f4,f5⟩:=hf it (by simp)
  have W:=Walks.range (prog:=X.prog) (w:=X.w) (I.ok.hd hc) it lo 1 n
  refine W.item i s _ _ hg st fun v h' tk hv st' kk=>?_
  obtain ⟨t,rfl⟩:=hv
  have I1:Inv X pins σ H { s with heap:=h',toks:=tk }:=I.turned (fun b o hb e=>kk b o (by simpa using hb) e) f0 f1 f3 f4 f5
  refine ⟨_,rfl,go_of (s:={ s with heap:=h',toks:=tk }) (n:="range_iterator") st' rfl rfl (by decide) ⟨.int (lo+i),H,I1,⟨t,?_⟩,⟨rfl,rfl⟩,st',fun b hb=>(hf b hb).1⟩⟩
  rw [Int.mul_one]
 done:=by
  intro X hP hw hK hc i pins s σ H E I hf st hg
  subst hP hw hK
  obtain ⟨f0,f1,f2,f3,f4,f5⟩:=hf it (by simp)
  exact wpAny_pyNext_range_end (I.ok.hd hc) st (by have:n≤i:=hg;omega) fun h' eb=>⟨rfl,I.turned (t':=s.toks) (fun b o hb e=>eb b o hb e) f0 f1 f3 f4 f5⟩
 self:=fun _ _ _ _ _ st h=>wpAny_pyIter_rangeiter st h
section
variable {X:Cx} {tg:Expr}
def iList (K:PySem.W.Frag) (tl:TE):TI:=fun σ H R=>tl σ H fun x H1=>∃a,x=.ref a/\(∃xs,SqL K H1 a xs)/\R (Itl K a) H1
def iTup (K:PySem.W.Frag) (tl:TE):TI:=fun σ H R=>tl σ H fun x H1=>∃a,x=.ref a/\(∃xs,SqT K H1 a xs)/\R (Itt K a) H1
theorem d_C (hl:PE X l tl):PI X tg l (iList X.K tl):=by
 intro pins s σ H R I h
 refine thn (hl pins s σ H _ I h) fun v s1 ⟨x,H1,I1,r1,q1⟩=>?_
 obtain ⟨a,e,⟨xs,hq⟩,q⟩:=q1
 subst e
 cases r1
 obtain ⟨its,rv,p,hz⟩:=I1.list hq
 refine wpAny_pyIter_list p.isList ?_
 refine ⟨s1.heap.objs.size,[s1.heap.objs.size],_,_,H1,rfl,I1.kept (t':=s1.toks) fun b o e=>Heap.get?_push_of_some _ e,turn_list a _,⟨_,Heap.get?_push_size _ rfl,rfl,rfl⟩,fun b hb=>?_,q⟩
 have e:b=s1.heap.objs.size:=by simpa using hb
 subst e
 exact I1.fpOk (Nat.le_refl _) (I1.hok.fresh (Nat.le_refl _))
theorem pi_tup (hl:PE X l tl):PI X tg l (iTup X.K tl):=by
 intro pins s σ H R I h
 refine thn (hl pins s σ H _ I h) fun v s1 ⟨x,H1,I1,r1,q1⟩=>?_
 obtain ⟨a,e,⟨xs,hq⟩,q⟩:=q1
 subst e
 cases r1
 obtain ⟨its,rv,p,hz⟩:=I1.tuple hq
 refine wpAny_pyIter_tuple (show s1.heap.IsTuple a its.toArray from p) ?_
 refine ⟨s1.heap.objs.size,[s1.heap.objs.size],_,_,H1,rfl,I1.kept (t':=s1.toks) fun b o e=>Heap.get?_push_of_some _ e,e_U a _,⟨_,Heap.get?_push_size _ rfl,rfl,rfl⟩,fun b hb=>?_,q⟩
 have e:b=s1.heap.objs.size:=by simpa using hb
 subst e
 exact I1.fpOk (Nat.le_refl _) (I1.hok.fresh (Nat.le_refl _))
theorem range_it {σ:St} {lo hi:Int} (I:Inv X pins σ H s) (h1:-(2 ^ 62)≤lo) (h2:lo<2 ^ 62) (h3:-(2 ^ 62)≤hi) (h4:hi<2 ^ 62)
  (q:R (Itr lo (hi - lo).toNat) H):wpAny (model X.prog X.w) X.A (pyIter (.ref s.heap.objs.size)) (PIE X pins σ tg R) E { s with heap:=s.heap.push { cls:=.type "range",data:=.fields #[.int lo t,.int hi u,.int 1 v] },toks:=tk }:=by
 refine wpAny_pyIter_range (IsRange.new ..) (small_one h1 h2 h3 h4) ?_
 have I1:Inv X pins σ H { s with heap:=s.heap.push { cls:=.type "range",data:=.fields #[.int lo t,.int hi u,.int 1 v] },toks:=tk }:=I.kept fun b o e=>Heap.get?_push_of_some _ e
 refine ⟨(s.heap.push { cls:=.type "range",data:=.fields #[.int lo t,.int hi u,.int 1 v] }).objs.size,[(s.heap.push { cls:=.type "range",data:=.fields #[.int lo t,.int hi u,.int 1 v] }).objs.size],_,_,H,rfl,
  I1.kept (t':=tk) fun b o e=>Heap.get?_push_of_some _ e,turn_range _ lo (hi - lo).toNat,?_,fun b hb=>?_,q⟩
 ·have e1:lo+((0:Nat):Int) * 1=lo:=by simp
  have e2:(((hi - lo).toNat:Nat):Int) - ((0:Nat):Int)=Builtin.Range.rangeSize lo hi 1:=by rw [rangeSize_one];split <;> omega
  show IsRangeIter _ _ (lo+((0:Nat):Int) * 1) ((((hi - lo).toNat:Nat):Int) - ((0:Nat):Int)) 1
  rw [e1,e2]
  exact Heap.get?_push_size _ rfl
 ·have e:b=(s.heap.push { cls:=.type "range",data:=.fields #[.int lo t,.int hi u,.int 1 v] }).objs.size:=by simpa using hb
  subst e
  exact I1.fpOk (Nat.le_refl _) (I1.hok.fresh (Nat.le_refl _))
def iRng1 (ta:TA):TI:=fun σ H R=>ta σ H fun vs H1=>∃j:Int,vs=[.int j]/\-(2 ^ 62)≤j/\j<2 ^ 62/\R (Itr 0 j.toNat) H1
def iRng2 (ta:TA):TI:=fun σ H R=>ta σ H fun vs H1=>∃i j:Int,vs=[.int i,.int j]/\(-(2 ^ 62)≤i/\i<2 ^ 62/\-(2 ^ 62)≤j/\j<2 ^ 62)/\R (Itr i (j - i).toNat) H1
theorem b_T (hg:Gl X "range") (hm:X.mg "range"=none) (ha:PA X [a] ta) (hs:starEach [a] X.env=[(false,eval a X.env)]:=by rfl):PI X tg (.Call (.Name "range" p) [a] [] pos) (iRng1 ta):=by
 intro pins s σ H R I h
 refine Call_ (ld_blt I hg hm boot_range (PyProof.Rows.callWith_type1 (thn (ha pos pins s σ H _ I h) fun us s1 ⟨vs,H1,I1,r1,q1⟩=>?_) hs rfl))
 obtain ⟨j,e,q1,q2,q⟩:=q1
 subst e
 cases r1 with
 | cons r rr=>
  cases rr
  obtain ⟨t,rfl⟩:=r
  exact call_range_1 (range_it I1 (by omega) (by omega) q1 q2 (by simpa using q))
theorem pi_range2 {p pos:Pos} (hg:Gl X "range") (hm:X.mg "range"=none) (ha:PA X [a,b] ta) (hs:starEach [a,b] X.env=[(false,eval a X.env),(false,eval b X.env)]:=by rfl) (hs2:starEach [b] X.env=[(false,eval b X.env)]:=by rfl):
  PI X tg (.Call (.Name "range" p) [a,b] [] pos) (iRng2 ta):=by
 intro pins s σ H R I h
 refine Call_ (ld_blt I hg hm boot_range (PyProof.Rows.callWith_type1 (thn (ha pos pins s σ H _ I h) fun us s1 ⟨vs,H1,I1,r1,q1⟩=>?_) (by rw [hs,hs2]) (by rw [hs2];rfl)))
 obtain ⟨i,j,e,⟨q1,q2,q3,q4⟩,q⟩:=q1
 subst e
 cases r1 with
 | cons r rr=>
  cases rr with
  | cons r' rr=>
   cases rr
   obtain ⟨t,rfl⟩:=r
   obtain ⟨t',rfl⟩:=r'
   exact call_range_2 (range_it I1 q1 q2 q3 q4 q)
def tFor (wi:TI) (g:TG) (tb:TS):TS:=fun D σ H=>wi σ H fun J H1=>∃W:Nat->Nat->St->Hp->Prop,(∃m,W 0 m σ H1)/\∀i m σ H,W i m σ H->
 (J.stop i H/\D.nx σ H)\/(J.go i H/\∃N:St->Hp->Prop,(∀ σ' H',N σ' H'->∃m',m'<m/\W (i+1) m' σ' H')/\∀x H',J.yld i H x H'->g x σ H' fun σ2 H2=>tb { D with nx:=N,ct:=N,bk:=D.nx } σ2 H2)
def e_h (fp:List Addr) (h:Heap):List (Addr×Obj):=fp.filterMap fun b=>(h.get? b).map fun o=>(b,o)
theorem a_H (hb:b∈fp) (e:h.get? b=some o):(b,o)∈e_h fp h:=List.mem_filterMap.mpr ⟨b,hb,by rw [e];rfl⟩
theorem of_pinsAt (hp:p∈e_h fp h):p.1∈fp/\h.get? p.1=some p.2:=by
 obtain ⟨b,hb,e⟩:=List.mem_filterMap.mp hp
 cases q:h.get? b with
 | none=>rw [q] at e;cases e
 | some o=>
  rw [q] at e
  have e':(b,o)=p:=Option.some.inj e
  subst e'
  exact ⟨hb,q⟩
theorem Inv.pinned {σ:St} (I:Inv X pins σ H s) (hf:∀b∈fp,FpOk X pins H b) (ho:∀b∈fp,∃o,s.heap.get? b=some o/\∀v,o.data≠.cell v):Inv X (pins++e_h fp s.heap) σ H s:=
 I.pins_of fun p hp=>(List.mem_append.mp hp).elim (fun z=>I.pin p (List.mem_append_right _ z)) fun z=>by
  obtain ⟨hb,e⟩:=of_pinsAt z
  obtain ⟨f0,f1,f2,_⟩:=hf p.1 hb
  obtain ⟨o,e',d⟩:=ho p.1 hb
  rw [e] at e';cases e'
  exact ⟨e,f0,f1,f2,d⟩
theorem Inv.unpinned {σ:St} (I:Inv X (pins++pl) σ H s):Inv X pins σ H s:=I.pins_of fun p hp=>I.pin p (List.mem_append_right _ (List.mem_append_left _ hp))
theorem b_s (hp:PassesOwn (model X.prog X.w) X.A X.env X.xe) (hc:X.calm=true) (hi:PI X tg iter wi) (hg:PG X tg g) (hb:PSs X body tb)
  (hs:∀x,foldedSetIterable iter X.env x=pure x:=by intro _;rfl):PS X (.For tg iter body [] pos) (tFor wi g tb):=by
 intro pins s σ H D I h
 refine wpAny_For (thn (hi pins s σ H _ I h) fun v s1 h1=>thn h1 fun itv s2 h2=>?_) hs
 obtain ⟨it,fp,tn,J,H2,e,I2,T,st2,f2,W,⟨m0,w0⟩,turn⟩:=h2
 subst e
 have stat:∀{H':Hp},(∀b∈fp,H' b=none)->∀b∈fp,FpOk X pins H' b:=fun hn b hb=>⟨hn b hb,(f2 b hb).2⟩
 refine codeAny_forLoop_any (fun n s'=>∃i σ' H',Inv X pins σ' H' s'/\tn i s'.heap/\(∀b∈fp,H' b=none)/\W i n σ' H') ?_ m0 ⟨0,σ,H2,I2,st2,fun b hb=>(f2 b hb).1,w0⟩
 rintro n s3 ⟨i,σ3,H3,I3,st3,fr3,w3⟩
 rcases turn i n σ3 H3 w3 with ⟨stop,qn⟩ | ⟨go,N,hN,step⟩
 ·refine wpAny_passesOwn hp (thn (T.done X rfl rfl rfl hc i pins s3 σ3 H3 X.xe I3 (stat fr3) st3 stop) fun r s4 ⟨hr,I4⟩=>?_)
  subst hr
  exact wpAny_execs_nil ⟨σ3,H3,I4,qn⟩
 ·refine wpAny_passesOwn hp (thn (T.item X rfl rfl rfl hc i pins s3 σ3 H3 X.xe I3 (stat fr3) st3 go) fun r s4 ⟨u,hr,h4⟩=>?_)
  subst hr
  refine wpAny_passesOwn hp (thn h4 fun _ s5 ⟨x,H5,I5,r5,y5,st5,fr5⟩=>?_)
  have I5':=I5.pinned (stat fr5) (T.obj _ _ st5)
  refine wpAny_passesOwn hp (thn (hg _ s5 σ3 H5 x u _ I5' r5 (step x H5 y5)) fun _ s6 ⟨σ6,H6,I6,q6⟩=>?_)
  refine wpAny_passesOwn hp (thn (hb _ s6 σ6 H6 _ I6 q6) fun f s7 q7=>?_)
  have again:∀{σ7:St} {H7:Hp},Inv X (pins++e_h fp s5.heap) σ7 H7 s7->N σ7 H7->∃m,m<n/\∃i σ' H',Inv X pins σ' H' s7/\tn i s7.heap/\(∀b∈fp,H' b=none)/\W i m σ' H':=fun {σ7 H7} I7 n7=>by
   obtain ⟨m',hm,w7⟩:=hN σ7 H7 n7
   refine ⟨m',hm,i+1,σ7,H7,I7.unpinned,T.keep _ _ _ st5 fun b hb o e=>(I7.pin (b,o) (List.mem_append_right _ (List.mem_append_right _ (a_H hb e)))).1,fun b hb=>?_,w7⟩
   obtain ⟨o,e,d⟩:=T.obj _ _ st5 b hb
   exact (I7.pin (b,o) (List.mem_append_right _ (List.mem_append_right _ (a_H hb e)))).2.1
  cases f with
  | next=>obtain ⟨σ7,H7,I7,n7⟩:=q7;exact again I7 n7
  | cont=>obtain ⟨σ7,H7,I7,n7⟩:=q7;exact again I7 n7
  | brk=>obtain ⟨σ7,H7,I7,q7⟩:=q7;exact ⟨σ7,H7,I7.unpinned,q7⟩
  | ret v=>obtain ⟨x7,σ7,H7,I7,r7,q7⟩:=q7;exact ⟨x7,σ7,H7,I7.unpinned,r7,q7⟩
end
theorem c_T {K:PySem.W.Frag} {g:TG} {tb:TS} {D:Ends} (Pv:Nat->St->Hp->Prop) (h0:Pv 0 σ H) (hl:∀i σ H,i≤xs.length->Pv i σ H->SqL K H a xs)
  (hs:∀i x σ H,xs[i]?=some x->Pv i σ H->g x σ H fun σ2 H2=>tb { D with nx:=Pv (i+1),ct:=Pv (i+1),bk:=D.nx } σ2 H2) (hd:∀ σ H,Pv xs.length σ H->D.nx σ H):
  ∃W:Nat->Nat->St->Hp->Prop,(∃m,W 0 m σ H)/\∀i m σ H,W i m σ H->
   ((Itl K a).stop i H/\D.nx σ H)\/((Itl K a).go i H/\∃N:St->Hp->Prop,(∀ σ' H',N σ' H'->∃m',m'<m/\W (i+1) m' σ' H')/\∀x H',(Itl K a).yld i H x H'->g x σ H' fun σ2 H2=>tb { D with nx:=N,ct:=N,bk:=D.nx } σ2 H2):=by
 refine ⟨fun i m σ H=>m=xs.length - i/\i≤xs.length/\Pv i σ H,⟨xs.length,by simp,Nat.zero_le _,h0⟩,?_⟩
 rintro i m σ H ⟨rfl,hi,p⟩
 have q:=hl i σ H hi p
 by_cases hlt:i<xs.length
 ·refine .inr ⟨⟨xs,xs[i],q,by simp [hlt]⟩,Pv (i+1),fun σ' H' p'=>⟨xs.length - (i+1),by omega,rfl,hlt,p'⟩,fun x H' y=>?_⟩
  obtain ⟨e,y⟩:=y
  subst e
  exact hs i x σ _ (y xs q) p
 ·have e:i=xs.length:=by omega
  subst e
  exact .inl ⟨⟨xs,q,Nat.le_refl _⟩,hd σ H p⟩
theorem for_tup {K:PySem.W.Frag} {g:TG} {tb:TS} {D:Ends} (Pv:Nat->St->Hp->Prop) (h0:Pv 0 σ H) (hl:∀i σ H,i≤xs.length->Pv i σ H->SqT K H a xs)
  (hs:∀i x σ H,xs[i]?=some x->Pv i σ H->g x σ H fun σ2 H2=>tb { D with nx:=Pv (i+1),ct:=Pv (i+1),bk:=D.nx } σ2 H2) (hd:∀ σ H,Pv xs.length σ H->D.nx σ H):
  ∃W:Nat->Nat->St->Hp->Prop,(∃m,W 0 m σ H)/\∀i m σ H,W i m σ H->
   ((Itt K a).stop i H/\D.nx σ H)\/((Itt K a).go i H/\∃N:St->Hp->Prop,(∀ σ' H',N σ' H'->∃m',m'<m/\W (i+1) m' σ' H')/\∀x H',(Itt K a).yld i H x H'->g x σ H' fun σ2 H2=>tb { D with nx:=N,ct:=N,bk:=D.nx } σ2 H2):=by
 refine ⟨fun i m σ H=>m=xs.length - i/\i≤xs.length/\Pv i σ H,⟨xs.length,by simp,Nat.zero_le _,h0⟩,?_⟩
 rintro i m σ H ⟨rfl,hi,p⟩
 have q:=hl i σ H hi p
 by_cases hlt:i<xs.length
 ·refine .inr ⟨⟨xs,xs[i],q,by simp [hlt]⟩,Pv (i+1),fun σ' H' p'=>⟨xs.length - (i+1),by omega,rfl,hlt,p'⟩,fun x H' y=>?_⟩
  obtain ⟨e,y⟩:=y
  subst e
  exact hs i x σ _ (y xs q) p
 ·have e:i=xs.length:=by omega
  subst e
  exact .inl ⟨⟨xs,q,Nat.le_refl _⟩,hd σ H p⟩
theorem c_q {lo:Int} {g:TG} {tb:TS} {D:Ends} (Pv:Nat->St->Hp->Prop) (h0:Pv 0 σ H)
  (hs:∀i σ H,i<n->Pv i σ H->g (.int (lo+i)) σ H fun σ2 H2=>tb { D with nx:=Pv (i+1),ct:=Pv (i+1),bk:=D.nx } σ2 H2) (hd:∀ σ H,Pv n σ H->D.nx σ H):
  ∃W:Nat->Nat->St->Hp->Prop,(∃m,W 0 m σ H)/\∀i m σ H,W i m σ H->
   ((Itr lo n).stop i H/\D.nx σ H)\/((Itr lo n).go i H/\∃N:St->Hp->Prop,(∀ σ' H',N σ' H'->∃m',m'<m/\W (i+1) m' σ' H')/\∀x H',(Itr lo n).yld i H x H'->g x σ H' fun σ2 H2=>tb { D with nx:=N,ct:=N,bk:=D.nx } σ2 H2):=by
 refine ⟨fun i m σ H=>m=n - i/\i≤n/\Pv i σ H,⟨n,by simp,Nat.zero_le _,h0⟩,?_⟩
 rintro i m σ H ⟨rfl,hi,p⟩
 by_cases hlt:i<n
 ·refine .inr ⟨hlt,Pv (i+1),fun σ' H' p'=>⟨n - (i+1),by omega,rfl,hlt,p'⟩,fun x H' y=>?_⟩
  obtain ⟨e,y⟩:=y
  subst e y
  exact hs i σ _ hlt p
 ·have e:i=n:=by omega
  subst e
  exact .inl ⟨Nat.le_refl _,hd σ H p⟩
abbrev R2:=V->V->Hp->VK->Prop
def OpR (X:Cx) (f:Value->Value->Sem Value) (r:R2):Prop:=
 ∀(pins:List (Addr×Obj)) (s:Shared) (σ:St) (H:Hp) (x y:V) (v u:Value) (Q:VK),Inv X pins σ H s->RelV x v->RelV y u->r x y H Q->
  wpAny (model X.prog X.w) X.A (f v u) (EP X pins σ Q) X.xe s
def UnR (X:Cx) (f:Value->Sem Value) (r:V->Hp->VK->Prop):Prop:=
 ∀(pins:List (Addr×Obj)) (s:Shared) (σ:St) (H:Hp) (x:V) (v:Value) (Q:VK),Inv X pins σ H s->RelV x v->r x H Q->
  wpAny (model X.prog X.w) X.A (f v) (EP X pins σ Q) X.xe s
def e_T (X:Cx) (f:Value) (r:List V->Hp->VK->Prop):Prop:=
 ∀(pins:List (Addr×Obj)) (s:Shared) (σ:St) (H:Hp) (xs:List V) (us:List Value) (Q:VK),Inv X pins σ H s->Vals xs us->r xs H Q->
  wpAny (model X.prog X.w) X.A (call f us) (EP X pins σ Q) X.xe s
def tOp (r:R2) (ta tb:TE):TE:=fun σ H Q=>ta σ H fun x H1=>tb σ H1 fun y H2=>r x y H2 Q
def tUn (r:V->Hp->VK->Prop) (ta:TE):TE:=fun σ H Q=>ta σ H fun x H1=>r x H1 Q
def rI (C:Int->Int->Prop) (g:Int->Int->V):R2:=fun x y H Q=>∃i j,x=.int i/\y=.int j/\C i j/\Q (g i j) H
def rI0 (g:Int->Int->V):R2:=fun x y H Q=>∃i j,x=.int i/\y=.int j/\Q (g i j) H
def rU (g:Int->V):V->Hp->VK->Prop:=fun x H Q=>∃i,x=.int i/\Q (g i) H
section
variable {X:Cx} {a b c:Expr} {ta tb tc:TE} {pos:Pos}
theorem binT (ha:PE X a ta) (hb:PE X b tb) {σ:St} {R:V->V->Hp->Prop} (I:Inv X pins σ H s)
  (h:ta σ H fun x H1=>tb σ H1 fun y H2=>R x y H2) {f:Value->Value->Sem Value}
  (hf:∀v u s2 x y H2,Inv X pins σ H2 s2->RelV x v->RelV y u->R x y H2->wpAny (model X.prog X.w) X.A (f v u) Q X.xe s2):
  wpAny (model X.prog X.w) X.A (eval a X.env) (fun v s₁=>wpAny (model X.prog X.w) X.A (eval b X.env) (fun u s₂=>wpAny (model X.prog X.w) X.A (f v u) Q X.xe s₂) X.xe s₁) X.xe s:=by
 refine thn (ha pins s σ H _ I h) fun v s1 ⟨x,H1,I1,r1,q1⟩=>?_
 refine thn (hb pins s1 σ H1 _ I1 q1) fun u s2 ⟨y,H2,I2,r2,q2⟩=>?_
 exact hf v u s2 x y H2 I2 r1 r2 q2
theorem a_y (ho:OpR X (binaryOp op) r) (ha:PE X a ta) (hb:PE X b tb):PE X (.BinOp a op b pos) (tOp r ta tb):=by
 intro pins s σ H Q I h
 exact wpAny_BinOp (binT ha hb I h fun v u s2 x y H2 I2 rx ry q=>ho pins s2 σ H2 x y v u Q I2 rx ry q)
theorem pe_un (ho:UnR X (unaryOp op) r) (ha:PE X a ta):PE X (.UnaryOp op a pos) (tUn r ta):=by
 intro pins s σ H Q I h
 exact UnaryOp_ (thn (ha pins s σ H _ I h) fun v s1 ⟨x,H1,I1,r1,q1⟩=>ho pins s1 σ H1 x v Q I1 r1 q1)
theorem opI {g:Int->Int->Int}
  (rule:∀(i j:Int) (t u:Tok) (s:Shared) (Q:Value->Shared->Prop) (E:Value->Shared->Prop),C i j->Q (.int (g i j) s.toks) { s with toks:=s.toks+1 }->wpAny (model X.prog X.w) X.A (f (.int i t) (.int j u)) Q E s):
  OpR X f (rI C fun i j=>.int (g i j)):=by
 intro pins s σ H x y v u Q I rx ry h
 obtain ⟨i,j,rfl,rfl,hc,q⟩:=h
 obtain ⟨t,rfl⟩:=rx
 obtain ⟨t',rfl⟩:=ry
 exact rule i j t t' s _ _ hc ⟨.int (g i j),H,I.tok _,⟨_,rfl⟩,q⟩
theorem opI0 {g:Int->Int->Int}
  (rule:∀(i j:Int) (t u:Tok) (s:Shared) (Q:Value->Shared->Prop) (E:Value->Shared->Prop),Q (.int (g i j) s.toks) { s with toks:=s.toks+1 }->wpAny (model X.prog X.w) X.A (f (.int i t) (.int j u)) Q E s):
  OpR X f (rI0 fun i j=>.int (g i j)):=by
 intro pins s σ H x y v u Q I rx ry h
 obtain ⟨i,j,rfl,rfl,q⟩:=h
 obtain ⟨t,rfl⟩:=rx
 obtain ⟨t',rfl⟩:=ry
 exact rule i j t t' s _ _ ⟨.int (g i j),H,I.tok _,⟨_,rfl⟩,q⟩
theorem opB0 {g:Int->Int->Bool}
  (rule:∀(i j:Int) (t u:Tok) (s:Shared) (Q:Value->Shared->Prop) (E:Value->Shared->Prop),Q (.bool (g i j)) s->wpAny (model X.prog X.w) X.A (f (.int i t) (.int j u)) Q E s):
  OpR X f (rI0 fun i j=>.bl (g i j)):=by
 intro pins s σ H x y v u Q I rx ry h
 obtain ⟨i,j,rfl,rfl,q⟩:=h
 obtain ⟨t,rfl⟩:=rx
 obtain ⟨t',rfl⟩:=ry
 exact rule i j t t' s _ _ ⟨.bl (g i j),H,I,rfl,q⟩
def CDiv (i j:Int):Prop:=0<j/\j<1073741824
def CPow (i j:Int):Prop:=0≤j/\j≤1000000/\i.natAbs<2 ^ 64
def CMul (i j:Int):Prop:=(-(2 ^ 64)<i/\i<2 ^ 64)\/(-(2 ^ 64)<j/\j<2 ^ 64)
theorem CMul.ok (h:CMul i j):IntMulOk i j:=by
 rcases h with ⟨h1,h2⟩ | ⟨h1,h2⟩
 ·exact .of_left (intBits_le_64 h1 h2)
 ·exact .of_right (intBits_le_64 h1 h2)
theorem op_add:OpR X (binaryOp .Add) (rI0 fun i j=>.int (i+j)):=opI0 fun _ _ _ _ _ _ _ q=>add_int q
theorem op_sub:OpR X (binaryOp .Sub) (rI0 fun i j=>.int (i - j)):=opI0 fun _ _ _ _ _ _ _ q=>sub_int q
theorem op_mul:OpR X (binaryOp .Mult) (rI CMul fun i j=>.int (i * j)):=opI fun _ _ _ _ _ _ _ hc q=>mul_int q hc.ok
theorem f_I:OpR X (binaryOp .FloorDiv) (rI CDiv fun i j=>.int (i / j)):=opI fun i j _ _ _ _ _ hc q=>by
 have h1:(0:Int)<j:=hc.1
 have h2:j<1073741824:=hc.2
 exact floordiv_int (by omega) (by rw [Int.fdiv_eq_ediv_of_nonneg i (by omega)];exact q) (.inl (PyProof.noPylong_small (by omega)))
theorem f_b:OpR X (binaryOp .Mod) (rI (fun _ j=>0<j) fun i j=>.int (i % j)):=opI fun i j _ _ _ _ _ hc q=>by
 have h1:(0:Int)<j:=hc
 exact mod_int' (by omega) (by rw [Int.fmod_eq_emod_of_nonneg i (by omega)];exact q)
theorem op_pow:OpR X (binaryOp .Pow) (rI CPow fun i j=>.int (i ^ j.toNat)):=opI fun _ _ _ _ _ _ _ hc q=>pow_int_small hc.1 hc.2.1 hc.2.2 q
theorem unI {g:Int->Int}
  (rule:∀(i:Int) (t:Tok) (s:Shared) (Q:Value->Shared->Prop) (E:Value->Shared->Prop),Q (.int (g i) s.toks) { s with toks:=s.toks+1 }->wpAny (model X.prog X.w) X.A (f (.int i t)) Q E s):
  UnR X f (rU fun i=>.int (g i)):=by
 intro pins s σ H x v Q I rx h
 obtain ⟨i,rfl,q⟩:=h
 obtain ⟨t,rfl⟩:=rx
 exact rule i t s _ _ ⟨.int (g i),H,I.tok _,⟨_,rfl⟩,q⟩
theorem un_neg:UnR X (unaryOp .USub) (rU fun i=>.int (-i)):=unI fun _ _ _ _ _ q=>neg_int q
end
def scal:V->V->Bool
 | .non,.non=>true | .non,.int _=>true | .int _,.non=>true | .non,.bl _=>true | .bl _,.non=>true | .non,.str _=>true | .str _,.non=>true
 | .int _,.int _=>true | .bl _,.bl _=>true | .str _,.str _=>true | .byt _,.byt _=>true
 | .int _,.str _=>true | .str _,.int _=>true | .bl _,.str _=>true | .str _,.bl _=>true
 | _,_=>false
def rEq:R2:=fun x y H Q=>scal x y=true/\Q (.bl (decide (x=y))) H
def rNe:R2:=fun x y H Q=>scal x y=true/\Q (.bl (!decide (x=y))) H
theorem dec_int:decide (V.int i=V.int j)=(i==j):=by
 rw [Bool.eq_iff_iff]
 simp
theorem dec_bl:decide (V.bl i=V.bl j)=(i==j):=by
 rw [Bool.eq_iff_iff]
 simp
theorem dec_str:decide (V.str i=V.str j)=(i==j):=by
 rw [Bool.eq_iff_iff]
 simp
theorem dec_byt:decide (V.byt i=V.byt j)=(i.toList==j.toList):=by
 rw [Bool.eq_iff_iff]
 cases i
 cases j
 simp
section
variable {X:Cx} {a b c:Expr} {ta tb tc:TE} {pos:Pos}
theorem a_K {σ:St} (I:Inv X pins σ H s) (q:Q (.bl k) H) (e:k=k'):EP X pins σ Q (.bool k') s:=by
 subst e
 exact ⟨.bl k,H,I,rfl,q⟩
theorem op_eq:OpR X (compareOp .Eq) rEq:=by
 intro pins s σ H x y v u Q I rx ry h
 obtain ⟨hs,q⟩:=h
 cases x with
 | non=>
  cases rx
  cases y with
  | non=>cases ry;exact PySem.EqNone.eq_none_none (a_K I q (by simp))
  | bl j=>cases ry;exact PySem.EqNone.eq_none_bool (a_K I q (by simp))
  | int j=>obtain ⟨t',rfl⟩:=ry;exact PySem.EqNone.eq_none_int (a_K I q (by simp))
  | str j=>obtain ⟨t',rfl⟩:=ry;exact PySem.EqNone.eq_none_str (a_K I q (by simp))
  | _=>exact absurd (show false=true from hs) Bool.false_ne_true
 | bl i=>
  cases rx
  cases y with
  | non=>cases ry;exact PySem.EqNone.eq_bool_none (a_K I q (by simp))
  | bl j=>cases ry;exact eq_bool (a_K I q dec_bl)
  | str j=>obtain ⟨t',rfl⟩:=ry;exact PySem.EqMixed.eq_bool_str (a_K I q (by simp))
  | _=>exact absurd (show false=true from hs) Bool.false_ne_true
 | int i=>
  obtain ⟨t,rfl⟩:=rx
  cases y with
  | non=>cases ry;exact PySem.EqNone.eq_int_none (a_K I q (by simp))
  | int j=>obtain ⟨t',rfl⟩:=ry;exact eq_int (a_K I q dec_int)
  | str j=>obtain ⟨t',rfl⟩:=ry;exact PySem.EqMixed.eq_int_str (a_K I q (by simp))
  | _=>exact absurd (show false=true from hs) Bool.false_ne_true
 | str i=>
  obtain ⟨t,rfl⟩:=rx
  cases y with
  | non=>cases ry;exact PySem.EqNone.eq_str_none (a_K I q (by simp))
  | bl j=>cases ry;exact PySem.EqMixed.eq_str_bool (a_K I q (by simp))
  | int j=>obtain ⟨t',rfl⟩:=ry;exact PySem.EqMixed.eq_str_int (a_K I q (by simp))
  | str j=>obtain ⟨t',rfl⟩:=ry;exact eq_str (a_K I q dec_str)
  | _=>exact absurd (show false=true from hs) Bool.false_ne_true
 | byt i=>
  obtain ⟨t,rfl⟩:=rx
  cases y with
  | byt j=>obtain ⟨t',rfl⟩:=ry;exact PySem.W.eq_bytes (a_K I q dec_byt)
  | _=>exact absurd (show false=true from hs) Bool.false_ne_true
 | _=>cases y <;> exact absurd (show false=true from hs) Bool.false_ne_true
theorem op_ne:OpR X (compareOp .NotEq) rNe:=by
 intro pins s σ H x y v u Q I rx ry h
 obtain ⟨hs,q⟩:=h
 cases x with
 | non=>
  cases rx
  cases y with
  | non=>cases ry;exact PySem.EqNone.ne_none_none (a_K I q (by simp))
  | bl j=>cases ry;exact PySem.EqNone.ne_none_bool (a_K I q (by simp))
  | int j=>obtain ⟨t',rfl⟩:=ry;exact PySem.EqNone.ne_none_int (a_K I q (by simp))
  | str j=>obtain ⟨t',rfl⟩:=ry;exact PySem.EqNone.ne_none_str (a_K I q (by simp))
  | _=>exact absurd (show false=true from hs) Bool.false_ne_true
 | bl i=>
  cases rx
  cases y with
  | non=>cases ry;exact PySem.EqNone.ne_bool_none (a_K I q (by simp))
  | bl j=>cases ry;exact ne_bool (a_K I q (congrArg not dec_bl))
  | str j=>obtain ⟨t',rfl⟩:=ry;exact PySem.EqMixed.ne_bool_str (a_K I q (by simp))
  | _=>exact absurd (show false=true from hs) Bool.false_ne_true
 | int i=>
  obtain ⟨t,rfl⟩:=rx
  cases y with
  | non=>cases ry;exact PySem.EqNone.ne_int_none (a_K I q (by simp))
  | int j=>obtain ⟨t',rfl⟩:=ry;exact ne_int (a_K I q (congrArg not dec_int))
  | str j=>obtain ⟨t',rfl⟩:=ry;exact PySem.EqMixed.ne_int_str (a_K I q (by simp))
  | _=>exact absurd (show false=true from hs) Bool.false_ne_true
 | str i=>
  obtain ⟨t,rfl⟩:=rx
  cases y with
  | non=>cases ry;exact PySem.EqNone.ne_str_none (a_K I q (by simp))
  | bl j=>cases ry;exact PySem.EqMixed.ne_str_bool (a_K I q (by simp))
  | int j=>obtain ⟨t',rfl⟩:=ry;exact PySem.EqMixed.ne_str_int (a_K I q (by simp))
  | str j=>obtain ⟨t',rfl⟩:=ry;exact ne_str (a_K I q (congrArg not dec_str))
  | _=>exact absurd (show false=true from hs) Bool.false_ne_true
 | byt i=>
  obtain ⟨t,rfl⟩:=rx
  cases y with
  | byt j=>obtain ⟨t',rfl⟩:=ry;exact PySem.W.ne_bytes (a_K I q (congrArg not dec_byt))
  | _=>exact absurd (show false=true from hs) Bool.false_ne_true
 | _=>cases y <;> exact absurd (show false=true from hs) Bool.false_ne_true
theorem op_lt:OpR X (compareOp .Lt) (rI0 fun i j=>.bl (decide (i<j))):=opB0 fun _ _ _ _ _ _ _ q=>lt_int q
theorem op_le:OpR X (compareOp .LtE) (rI0 fun i j=>.bl (decide (i≤j))):=opB0 fun _ _ _ _ _ _ _ q=>le_int q
theorem op_gt:OpR X (compareOp .Gt) (rI0 fun i j=>.bl (decide (j<i))):=opB0 fun _ _ _ _ _ _ _ q=>gt_int q
theorem op_in_str:OpR X (compareOp .In) (fun x y H Q=>∃i j,x=.str i/\y=.str j/\Q (.bl (!(Builtin.Str.occurrences j i 0 j.length 1).isEmpty)) H):=by
 intro pins s σ H x y v u Q I rx ry h
 obtain ⟨i,j,rfl,rfl,q⟩:=h
 obtain ⟨t,rfl⟩:=rx
 obtain ⟨t',rfl⟩:=ry
 exact in_str (a_K I q rfl)
theorem op_notN:OpR X (compareOp .IsNot) (fun x y H Q=>y=.non/\Q (.bl (!decide (x=.non))) H):=by
 intro pins s σ H x y v u Q I rx ry h
 obtain ⟨rfl,q⟩:=h
 cases ry
 refine isnot_none_gen (a_K I q ?_)
 cases x <;> first
  | (cases rx;rfl)
  | (obtain ⟨t,rfl⟩:=rx;rfl)
theorem op_notin_str:OpR X (compareOp .NotIn) (fun x y H Q=>∃i j,x=.str i/\y=.str j/\Q (.bl (!(!(Builtin.Str.occurrences j i 0 j.length 1).isEmpty))) H):=by
 intro pins s σ H x y v u Q I rx ry h
 obtain ⟨i,j,rfl,rfl,q⟩:=h
 obtain ⟨t,rfl⟩:=rx
 obtain ⟨t',rfl⟩:=ry
 exact notIn_str (a_K I q rfl)
theorem a_Q (b:Expr) (h:op≠.In:=by decide) (h2:op≠.NotIn:=by decide):behindInMarks op b=false:=by
 have e1:(op==CmpOp.In)=false:=by cases op <;> first | rfl | exact absurd rfl h
 have e2:(op==CmpOp.NotIn)=false:=by cases op <;> first | rfl | exact absurd rfl h2
 cases b <;> simp [behindInMarks,e1,e2]
theorem c_H (ho:OpR X (compareOp op) r) (ha:PE X a ta) (hb:PE X b tb) (hm:behindInMarks op b=false):PE X (.Compare a [op] [b] pos) (tOp r ta tb):=by
 intro pins s σ H Q I h
 exact wpAny_Compare1 (binT ha hb I h fun v u s2 x y H2 I2 rx ry q=>ho pins s2 σ H2 x y v u Q I2 rx ry q) hm
def tTest (t:TE):TT:=fun σ H Q=>t σ H fun x H'=>∃k,x=.bl k/\Q k H'
theorem a_C (ho:OpR X (compareOp op) r) (ha:PE X a ta) (hb:PE X b tb) (hm:behindInMarks op b=false):PT X (.Compare a [op] [b] pos) (tTest (tOp r ta tb)):=by
 intro pins s σ H Q I h
 refine wpAny_isTrue_Compare1 (thn (ha pins s σ H _ I h) fun v s1 ⟨x,H1,I1,r1,q1⟩=>thn (hb pins s1 σ H1 _ I1 q1) fun u s2 ⟨y,H2,I2,r2,q2⟩=>
  thn (ho pins s2 σ H2 x y v u _ I2 r1 r2 q2) fun c s3 ⟨z,H3,I3,r3,k,e,q3⟩=>?_) hm
 subst e
 cases r3
 exact wpAny_truthy_bool ⟨H3,I3,q3⟩
theorem line63:(sizeLine:Nat)<2 ^ 63:=by rw [sizeLine_eq];decide
theorem b_O:OpR X (binaryOp .Add) (fun x y H Q=>∃i j,x=.str i/\y=.str j/\i.length+j.length≤sizeLine/\Q (.str (i++j)) H):=by
 intro pins s σ H x y v u Q I rx ry h
 obtain ⟨i,j,rfl,rfl,hz,q⟩:=h
 obtain ⟨t,rfl⟩:=rx
 obtain ⟨t',rfl⟩:=ry
 exact add_str (fun t' tk=>⟨.str (i++j),H,I.tok _,⟨_,rfl⟩,q⟩) hz
theorem f_m (r:Vals [x] us):∃u,us=[u]/\RelV x u:=by
 cases r with
 | cons r1 r2=>cases r2;exact ⟨_,rfl,r1⟩
theorem vals2 (r:Vals [x,y] us):∃u w',us=[u,w']/\RelV x u/\RelV y w':=by
 cases r with
 | cons r1 r2=>
  cases r2 with
  | cons r3 r4=>cases r4;exact ⟨_,_,rfl,r1,r3⟩
end
structure ObjM (h:Heap) (x dx C:Addr) (mA:Str->Option Value):Prop where
 obj:h.get? x=some (PySem.W.instObj C dx)
 ns:h.Ns1 dx mA
 ne:dx≠x
theorem lookIn_ns {h:Heap} (n:h.Ns1 dx mA):∃od,h.get? dx=some od/\∀name,PySem.W.lookIn name od=some (mA name):=by
 obtain ⟨o,es,ep,ho,hd,hk,_,hm⟩:=n
 refine ⟨o,ho,fun name=>?_⟩
 have e:=hm name
 unfold nsFind findBy at e
 rw [<- Array.find?_toList] at e
 unfold PySem.W.lookIn
 rw [hd]
 dsimp only
 split
 ·rename_i y q
  rw [q] at e
  exact congrArg some e
 ·rename_i q
  rw [q] at e
  have a:es.toList.any (·.refKey)=false:=by
   rw [List.any_eq_false]
   intro y hy
   obtain ⟨z,t,hkey⟩:=hk y (Array.mem_toList_iff.mp hy)
   simp [DictEntry.refKey,hkey]
  have a':¬ es.toList.any (·.refKey)=true:=by rw [a];exact Bool.false_ne_true
  rw [if_neg a']
  exact congrArg some e
theorem ObjM.look (I:ObjM h x dx C mA):∃od,PySem.W.InstAt h x (PySem.W.instObj C dx) C (some od)/\∀name,PySem.W.lookIn name od=some (mA name):=
 let ⟨od,ho,hl⟩:=lookIn_ns I.ns
 ⟨od,⟨I.obj,rfl,rfl,ho⟩,hl⟩
section
variable {prog:Program} {w:World} {A:Around} {E:Value->Shared->Prop} {s:Shared} {K:PySem.W.Frag} {x dx C f:Addr} {mA:Str->Option Value} {name:Str} {v:Value}
theorem get_map (X:K.In s.heap) (I:ObjM s.heap x dx C mA) (hg:PySem.W.plainGet K C name=true) (hh:PySem.W.hasDictIn K C=true)
  (ha:PySem.W.findIn K (.ref C) name=some none) (hv:mA name=some v) (hv':PySem.W.handedIn v=true) (h:Q v { s with toks:=s.toks+1 }):
  wpAny (model prog w) A (getAttr (.ref x) name expr) Q E s:=by
 obtain ⟨od,J,hl⟩:=I.look
 exact PySem.W.get_value X J (PySem.W.plainGet_of hg).1 (PySem.W.findObj_own hh ha rfl (by rw [hl,hv])) hv' h
theorem set_map (X:K.In s.heap) (I:ObjM s.heap x dx C mA)
  (hs:PySem.W.findIn K (.ref C) "__setattr__"=some (some (.builtin "object.__setattr__"))) (hp:PySem.W.plainOver K C=true) (ht:PySem.W.takerIn K C name=some none) (hh:PySem.W.hasDictIn K C=true)
  (hw:PySem.Within mA ns) (hsz:ns.length≤sizeLine)
  (h:∀h',ObjM h' x dx C (fun y=>if y=name then some v else mA y)->Heap.SameBut dx s.heap h'->Q () { s with heap:=h',toks:=s.toks+2 }):
  wpAny (model prog w) A (setAttr (.ref x) name v) Q E s:=by
 obtain ⟨od,J,hl⟩:=I.look
 refine PySem.W.set_plain X J hs (PySem.W.osa_open (s:={ s with toks:=s.toks+1 }) (r:=none) X J hp ht fun b=>?_)
 obtain ⟨cd,hc,hd'⟩:=PySem.W.any_some hh
 have hx:s.heap.get? x=some ⟨.ref C,some dx,.plain,#[]⟩:=I.obj
 refine wpAny_bind (wpAny_pure (wpAny_bind (wpAny_bind (wpAny_loadPart hx (wpAny_bind (PySem.W.Looks.here (s:={ s with toks:=s.toks+1 }) (PySem.W.looks_clsIn X hc) ?_))))))
 rw [hd']
 refine wpAny_pure (a:=some dx) (wpAny_bind (wpAny_pure (wpAny_bind ?_)))
 refine wpAny_nsSet1 (s:={ s with toks:=s.toks+1 }) I.ns fun h' hn2 hs2=>?_
 obtain ⟨oD,esD,epD,hoD,hdD,hcD⟩:=hn2.count (PySem.Within.cons name v hw)
 refine wpAny_bind (wpAny_lookBehind hoD (by rw [hdD];exact pastItsLine_dict (Nat.le_trans hcD (by rw [List.length_cons];omega))) ?_)
 exact wpAny_pure (h _ ⟨(hs2.2 _ (Ne.symm I.ne)).trans I.obj,hn2,I.ne⟩ hs2)
theorem make_map (X:K.In s.heap) (hm:PySem.W.makesIn K C=true)
  (hi:PySem.W.findIn K (.ref C) "__init__"=some (some (.ref f))) (hf:PySem.W.typeIn K (.ref f)=some (.type "function"))
  (h:codeAny (model prog w) (A.under (.builtin "type.__call__" ⟨.ref C::vs,kw⟩)) (.call (.ref f) ⟨.ref (s.heap.objs.size+1)::vs,kw⟩) (PySem.W.InitBack (s.heap.objs.size+1) R)
   { s with heap:=(s.heap.push PySem.W.emptyDict).push (PySem.W.instObj C s.heap.objs.size) }):
  codeAny (model prog w) A (.call (.ref C) ⟨vs,kw⟩) R s:=by
 obtain ⟨hh,g,d,t,os⟩:=s
 exact PySem.W.make_core (PySem.W.makes_of X hm) (PySem.W.looks_findIn X hi) (fun self=>PySem.W.bind_fn X self hf) (.inl rfl) h
end
def putF (f:Str) (v:V):List (Str×V)->List (Str×V)
 | []=>[(f,v)]
 | (g,x)::r=>if g=f then (g,v)::r else (g,x)::putF f v r
theorem e_v (f g:Str) (v:V):∀fs:List (Str×V),(putF f v fs).lookup g=if g=f then some v else fs.lookup g
 | []=>by
  show List.lookup g [(f,v)]=_
  by_cases h:g=f
  ·have hb:(g==f)=true:=beq_iff_eq.mpr h
   simp only [List.lookup,hb,if_pos h]
  ·have hb:(g==f)=false:=beq_eq_false_iff_ne.mpr h
   simp only [List.lookup,hb,if_neg h]
 | (k,x)::r=>by
  have ih:=e_v f g v r
  rw [show putF f v ((k,x)::r)=(if k=f then (k,v)::r else (k,x)::putF f v r) from rfl]
  by_cases hk:k=f
  ·rw [if_pos hk]
   by_cases h:g=k
   ·have hb:(g==k)=true:=beq_iff_eq.mpr h
    simp only [List.lookup,hb,if_pos (h.trans hk)]
   ·have hb:(g==k)=false:=beq_eq_false_iff_ne.mpr h
    simp only [List.lookup,hb,if_neg (fun e:g=f=>h (e.trans hk.symm))]
  ·rw [if_neg hk]
   by_cases h:g=k
   ·have hb:(g==k)=true:=beq_iff_eq.mpr h
    simp only [List.lookup,hb,if_neg (fun e:g=f=>hk (h.symm.trans e))]
   ·have hb:(g==k)=false:=beq_eq_false_iff_ne.mpr h
    simp only [List.lookup,hb]
    exact ih
theorem e_x (f:Str) (v:V):∀fs:List (Str×V),f∈(putF f v fs).map (·.1)/\∀g,g∈fs.map (·.1)->g∈(putF f v fs).map (·.1)
 | []=>⟨by simp [putF],fun g h=>by simp at h⟩
 | (k,x)::r=>by
  obtain ⟨i1,i2⟩:=e_x f v r
  rw [show putF f v ((k,x)::r)=(if k=f then (k,v)::r else (k,x)::putF f v r) from rfl]
  by_cases hk:k=f
  ·rw [if_pos hk]
   subst hk
   exact ⟨by simp,fun g h=>by simpa using h⟩
  ·rw [if_neg hk]
   refine ⟨?_,fun g h=>?_⟩
   ·rw [List.map_cons]
    exact List.mem_cons_of_mem _ i1
   ·rw [List.map_cons] at h ⊢
    rcases List.mem_cons.mp h with e | e
    ·exact List.mem_cons.mpr (.inl e)
    ·exact List.mem_cons_of_mem _ (i2 g e)
theorem length_putF (f:Str) (v:V):∀fs:List (Str×V),(putF f v fs).length≤fs.length+1
 | []=>by simp [putF]
 | (k,x)::r=>by
  have ih:=length_putF f v r
  rw [show putF f v ((k,x)::r)=(if k=f then (k,v)::r else (k,x)::putF f v r) from rfl]
  by_cases hk:k=f
  ·rw [if_pos hk,List.length_cons,List.length_cons];omega
  ·rw [if_neg hk,List.length_cons,List.length_cons];omega
theorem RelO.some_of (r:RelO (some v) o):∃u,o=some u/\RelV v u:=by
 cases o with
 | none=>exact (show False from r).elim
 | some u=>exact ⟨u,rfl,r⟩
theorem RelO.none_of (r:RelO none o):o=none:=by
 cases o with
 | none=>rfl
 | some u=>exact (show False from r).elim
theorem handed_of (r:RelV v u):PySem.W.handedIn u=true:=by
 cases v with
 | non=>cases (show u=Value.none from r);rfl
 | bl b=>cases (show u=Value.bool b from r);rfl
 | int i=>obtain ⟨t,e⟩:=(show ∃t,u=Value.int i t from r);cases e;rfl
 | str x=>obtain ⟨t,e⟩:=(show ∃t,u=Value.str x t from r);cases e;rfl
 | byt b=>obtain ⟨t,e⟩:=(show ∃t,u=Value.bytes b t from r);cases e;rfl
 | flt b=>obtain ⟨t,e⟩:=(show ∃t,u=Value.float b t from r);cases e;rfl
 | ref a=>cases (show u=Value.ref a from r);rfl
 | ty n=>cases (show u=Value.type n from r);rfl
section
variable {P:Program} {w:World} {H H':Hp} {h h':Heap} {a C dx:Addr} {fs fs':List (Str×V)}
theorem ins_get (hok:HOk P w H h) (e:H a=some (.ins C dx fs)):∃mA,ObjM h a dx C mA/\(∀f,RelO (fs.lookup f) (mA f))/\PySem.Within mA (fs.map (·.1))/\fs.length≤1000/\H dx=some (.own a):=by
 obtain ⟨d,z,ne,ob,mA,n,r,q⟩:=(show b_b P w H h a (.ins C dx fs) from hok a _ e)
 exact ⟨mA,⟨ob,n,ne⟩,r,q,z,d⟩
end
structure Cls (K:PySem.W.Frag) (C:Addr):Prop where
 pg:PySem.W.plainGet K C Str.empty=true
 hd:PySem.W.hasDictIn K C=true
 po:PySem.W.plainOver K C=true
 sa:PySem.W.findIn K (.ref C) "__setattr__"=some (some (.builtin "object.__setattr__"))
theorem Cls.get {K:PySem.W.Frag} (c:Cls K C) (f:Str):PySem.W.plainGet K C f=true:=c.pg
def b_n (K:PySem.W.Frag) (C:Addr) (f:Str):Prop:=PySem.W.findIn K (.ref C) f=some none
theorem b_n.taker {K:PySem.W.Frag} (n:b_n K C f):PySem.W.takerIn K C f=some none:=by
 unfold PySem.W.takerIn
 rw [show PySem.W.findIn K (.ref C) f=some none from n]
 rfl
section
variable {X:Cx} {pins:List (Addr×Obj)} {σ:St} {H:Hp} {s:Shared} {a C dx:Addr} {fs:List (Str×V)} {f:Str} {v:V} {A:Around} {E:Value->Shared->Prop}
theorem getattr_ok (I:Inv X pins σ H s) (e:H a=some (.ins C dx fs)) (c:Cls X.K C) (n:b_n X.K C f) (l:fs.lookup f=some v)
  (h:∀u s',Inv X pins σ H s'->RelV v u->Q u s'):wpAny (model X.prog X.w) A (getAttr (.ref a) f b) Q E s:=by
 obtain ⟨mA,O,r,_,_,_⟩:=ins_get I.hok e
 obtain ⟨u,hu,ru⟩:=RelO.some_of (v:=v) (o:=mA f) (by rw [<- l];exact r f)
 exact get_map I.kIn O (c.get f) c.hd n hu (handed_of ru) (h u _ (I.tok _) ru)
theorem setattr_ok (I:Inv X pins σ H s) (e:H a=some (.ins C dx fs)) (c:Cls X.K C) (n:b_n X.K C f) (hl:fs.length<1000) (ry:RelV y u)
  (h:∀s',Inv X pins σ (upd H a (.ins C dx (putF f y fs))) s'->Q () s'):wpAny (model X.prog X.w) A (setAttr (.ref a) f u) Q E s:=by
 obtain ⟨mA,O,r,wi,_,ho⟩:=ins_get I.hok e
 have hz:(fs.map (·.1)).length≤sizeLine:=by rw [List.length_map,sizeLine_eq];omega
 refine set_map I.kIn O c.sa c.po n.taker c.hd wi hz fun h' O' sb=>h _ ?_
 have hd:∃o,h'.get? dx=some o:=let ⟨o,_,_,e',_⟩:=O'.ns;⟨o,e'⟩
 refine I.write (x:=a) (e:=dx) (by rw [e];exact True.intro) (.inr ho) (fun b q hb z=>(sb.2 b hb).trans z) hd ?_
 refine ⟨by rw [upd_ne O.ne];exact ho,?_,O.ne,O'.obj,_,O'.ns,fun g=>?_,fun g hg=>?_⟩
 ·have:=length_putF f y fs;omega
 ·show RelO ((putF f y fs).lookup g) (if g=f then some u else mA g)
  rw [e_v]
  by_cases q:g=f
  ·rw [if_pos q,if_pos q];exact ry
  ·rw [if_neg q,if_neg q];exact r g
 ·by_cases q:g=f
  ·rw [q];exact (e_x f y fs).1
  ·refine (e_x f y fs).2 g (wi g fun z=>hg ?_)
   show (if g=f then some u else mA g)=none
   rw [if_neg q];exact z
theorem Inv.made (I:Inv X pins σ H s):Inv X pins σ (upd (upd H s.heap.objs.size (.own (s.heap.objs.size+1))) (s.heap.objs.size+1) (.ins C s.heap.objs.size []))
  { s with heap:=(s.heap.push PySem.W.emptyDict).push (PySem.W.instObj C s.heap.objs.size) }:=by
 have e1:(s.heap.push PySem.W.emptyDict).get? s.heap.objs.size=some PySem.W.emptyDict:=Heap.get?_push_size s.heap rfl
 have e2:((s.heap.push PySem.W.emptyDict).push (PySem.W.instObj C s.heap.objs.size)).get? (s.heap.objs.size+1)=some (PySem.W.instObj C s.heap.objs.size):=by
  have:=Heap.get?_push_size (s.heap.push PySem.W.emptyDict) (o:=PySem.W.instObj C s.heap.objs.size) rfl
  rwa [Heap.size_push] at this
 have e3:(s.heap.push PySem.W.emptyDict).Ns s.heap.objs.size (fun _=>none):=⟨PySem.W.emptyDict,#[],_,e1,rfl,(fun e he=>absurd he (by simp)),fun _=>rfl⟩
 have I1:=I.laid (a:=s.heap.objs.size) (o:=.own (s.heap.objs.size+1)) (h':=s.heap.push PySem.W.emptyDict) (t':=s.toks) (fun b u q=>Heap.get?_push_of_some _ q) (Nat.le_refl _) ⟨_,e1⟩
 refine I1.laid (a:=s.heap.objs.size+1) (o:=.ins C s.heap.objs.size []) (t':=s.toks) (fun b u q=>Heap.get?_push_of_some _ q) (Nat.le_of_eq (Heap.size_push _ _)) ?_
 have ne:s.heap.objs.size≠s.heap.objs.size+1:=Nat.ne_of_lt (Nat.lt_succ_self _)
 refine ⟨by rw [upd_ne ne,upd_same],Nat.zero_le _,ne,e2,fun _=>none,(Heap.Ns1.of_empty e3).at fun o q=>Heap.get?_push_of_some _ q,fun _=>True.intro,fun y hy=>absurd rfl hy⟩
theorem attr_of (hb:attributeBase e f env (eval e env)=eval e env)
  (h:wpAny (model prog w) A (eval e env) (fun o s₁=>wpAny (model prog w) A (getAttr o f true) Q E s₁) E s):wpAny (model prog w) A (eval (.Attribute e f pos) env) Q E s:=
 Attribute_any_ h (by rw [arm_eval_Attribute,hb])
end
def tFld (K:PySem.W.Frag) (ta:TE) (f:Str):TE:=fun σ H Q=>ta σ H fun x H1=>∃a C dx fs v,x=.ref a/\H1 a=some (.ins C dx fs)/\Cls K C/\b_n K C f/\fs.lookup f=some v/\Q v H1
def sFld (K:PySem.W.Frag) (ta tv:TE) (f:Str):TS:=fun D σ H=>tv σ H fun y H1=>ta σ H1 fun x H2=>∃a C dx fs,x=.ref a/\H2 a=some (.ins C dx fs)/\Cls K C/\b_n K C f/\fs.length<1000/\
 D.nx σ (upd H2 a (.ins C dx (putF f y fs)))
section
variable {X:Cx} {o e value:Expr} {f:Str} {pos pos' tpos:Pos} {ta tv:TE}
theorem b_a (he:PE X e ta) (hb:attributeBase e f X.env (eval e X.env)=eval e X.env):PE X (.Attribute e f pos) (tFld X.K ta f):=by
 intro pins s σ H Q I h
 refine attr_of hb (thn (he pins s σ H _ I h) fun u s1 ⟨x,H1,I1,rx,a,C,dx,fs,v,ex,ea,c,n,l,q⟩=>?_)
 subst ex
 obtain rfl:u=Value.ref a:=rx
 exact getattr_ok I1 ea c n l fun u' s2 I2 ru=>⟨v,H1,I2,ru,q⟩
theorem ps_fld (ha:PE X o ta) (hv:PE X value tv) (hs:swapsWith value (some (.Attribute o f pos')) pos.line X.env=pure false):PS X (.Assign [.Attribute o f pos'] value pos) (sFld X.K ta tv f):=by
 intro pins s σ H D I h
 refine plainObj_wpAny_Assign_Attribute (thn (hv pins s σ H _ I h) fun u s1 ⟨y,H1,I1,ry,q⟩=>thn (ha pins s1 σ H1 _ I1 q) fun ov s2 ⟨x,H2,I2,rx,a,C,dx,fs,ex,ea,c,n,l,q2⟩=>?_) hs
 subst ex
 obtain rfl:ov=Value.ref a:=rx
 exact setattr_ok I2 ea c n l ry fun s3 I3=>⟨σ,_,I3,q2⟩
end
section
variable {X:Cx} {pins:List (Addr×Obj)} {σ:St} {H:Hp} {s:Shared} {A:Around} {E:Value->Shared->Prop} {Q:Value->Shared->Prop} {c:Value} {b:Bool}
inductive TyOf (K:PySem.W.Frag) (H:Hp):V->Value->Prop where
 | non:TyOf K H .non (.type "NoneType")
 | bl (x:Bool):TyOf K H (.bl x) (.type "bool")
 | int (i:Int):TyOf K H (.int i) (.type "int")
 | str (x:Str):TyOf K H (.str x) (.type "str")
 | flt (x:UInt64):TyOf K H (.flt x) (.type "float")
 | lst {a:Addr} {xs:List V} (e:H a=some (.lst xs)):TyOf K H (.ref a) (.type "list")
 | frz {a:Addr} {o:Obj} {xs:List V} (e:H a=some (.frz o (.lst xs))):TyOf K H (.ref a) (.type "list")
 | tup {a:Addr} {xs:List V} (e:H a=some (.tup xs)):TyOf K H (.ref a) (.type "tuple")
 | dK {a:Addr} {kvs:List (Key×V)} (e:H a=some (.dK kvs)):TyOf K H (.ref a) (.type "dict")
 | dT {a:Addr} {kvs:List (List Key×V)} (e:H a=some (.dT kvs)):TyOf K H (.ref a) (.type "dict")
 | ins {a C dx:Addr} {fs:List (Str×V)} (e:H a=some (.ins C dx fs)) (cl:Cls K C) (ha:PySem.W.findIn K (.ref C) "__class__"=some (some (.builtin "object.__class__")))
   (hn:PySem.W.specialIn K (.builtin "object.__class__") "__get__"=some (some (.builtin "getset_descriptor.__get__"))) (htk:PySem.W.takesIn K (.builtin "object.__class__")=some true)
   (hm:PySem.W.mroIn K C (.type "object")=some true):TyOf K H (.ref a) (.ref C)
theorem isinst_ok (I:Inv X pins σ H s) (rx:RelV x u) (ty:TyOf X.K H x t) (e:PySem.W.kitOne X.K t c=some b) (h:∀tk,Q (.bool b) { s with toks:=tk }):
  wpAny (model X.prog X.w) A (call (.builtin "isinstance") [u,c]) Q E s:=by
 cases ty with
 | non=>cases (show u=Value.none from rx);exact PySem.W.kia_one PySem.W.kitx_none I.kIn True.intro e (fun z=>nomatch z) h
 | bl y=>cases (show u=Value.bool y from rx);exact PySem.W.kia_one PySem.W.kitx_bool I.kIn True.intro e (fun z=>nomatch z) h
 | int i=>obtain ⟨t,q⟩:=(show ∃t,u=Value.int i t from rx);cases q;exact PySem.W.kia_one PySem.W.kitx_int I.kIn True.intro e (fun z=>nomatch z) h
 | str y=>obtain ⟨t,q⟩:=(show ∃t,u=Value.str y t from rx);cases q;exact PySem.W.kia_one PySem.W.kitx_str I.kIn True.intro e (fun z=>nomatch z) h
 | flt y=>obtain ⟨t,q⟩:=(show ∃t,u=Value.float y t from rx);cases q;exact PySem.W.kia_one PySem.W.kitx_float I.kIn True.intro e (fun z=>nomatch z) h
 | @lst a xs ea=>
  cases (show u=Value.ref a from rx)
  obtain ⟨_,_,n,_,h1⟩:=(show b_b X.prog X.w H s.heap a (.lst xs) from I.hok a _ ea)
  exact PySem.W.kia_one PySem.W.kitx_list I.kIn ⟨_,h1,rfl⟩ e (fun z=>nomatch z) h
 | @frz a ob xs ea=>
  cases (show u=Value.ref a from rx)
  obtain ⟨_,_,_,n,_,h1⟩:=(show b_b X.prog X.w H s.heap a (.frz ob (.lst xs)) from I.hok a _ ea)
  exact PySem.W.kia_one PySem.W.kitx_list I.kIn ⟨_,h1,rfl⟩ e (fun z=>nomatch z) h
 | @tup a xs ea=>
  cases (show u=Value.ref a from rx)
  obtain ⟨_,_,_,p⟩:=(show b_b X.prog X.w H s.heap a (.tup xs) from I.hok a _ ea)
  obtain ⟨o,h1,h2,_⟩:=p
  exact PySem.W.kia_one PySem.W.kitx_tuple I.kIn ⟨o,h1,h2⟩ e (fun z=>nomatch z) h
 | @dK a kvs ea=>
  cases (show u=Value.ref a from rx)
  obtain ⟨_,_,vs,_,p⟩:=(show b_b X.prog X.w H s.heap a (.dK kvs) from I.hok a _ ea)
  obtain ⟨o,es,ep,h1,h2,_⟩:=p
  exact PySem.W.kia_one PySem.W.kitx_dict I.kIn ⟨o,h1,h2.1⟩ e (fun z=>nomatch z) h
 | @dT a kvs ea=>
  cases (show u=Value.ref a from rx)
  obtain ⟨_,_,xs,_,o,es,ep,h1,h2,_⟩:=(show b_b X.prog X.w H s.heap a (.dT kvs) from I.hok a _ ea)
  exact PySem.W.kia_one PySem.W.kitx_dict I.kIn ⟨o,h1,h2.1⟩ e (fun z=>nomatch z) h
 | @ins a C dx fs ea cl ha hn htk hm=>
  cases (show u=Value.ref a from rx)
  obtain ⟨mA,O,_⟩:=ins_get I.hok ea
  obtain ⟨od,J,_⟩:=O.look
  exact PySem.W.kia_one (PySem.W.kitx_own (cl.get _) cl.hd ha hn htk hm) I.kIn J e (fun z=>nomatch z) h
end
structure Room (k:Nat) (A:Around):Prop where
 hd:A.handled=none
 dp:A.depth+3 * k+5<recursionLimit
 un:A.units+16 * k+200<cLine
theorem Room.mono (r:Room k A) (h:j≤k):Room j A:=⟨r.hd,by have:=r.dp;omega,by have:=r.un;omega⟩
theorem Room.deeper (r:Room (k+1) A) (env:Env):Room k (A.deeper env):=
 ⟨r.hd,by have:=r.dp;show A.depth+1+3 * k+5<_;omega,by have:=r.un;show A.units+3+16 * k+200<_;omega⟩
theorem make_depth {A:Around}:(A.under (.builtin "type.__call__" ⟨.ref C::us,kw⟩)).depth=A.depth+1:=by
 first | rfl | simp [Around.under,Code.weight,Code.isCreation,Code.isGuard,Code.isCaller,Code.frames,Code.isFrame,guardIds]
theorem make_units {A:Around}:(A.under (.builtin "type.__call__" ⟨.ref C::us,kw⟩)).units=A.units+1:=by
 first | rfl | simp [Around.under,Code.cUnits,Code.frames,Code.isFrame]
theorem Room.make (r:Room (k+1) A) (C:Addr) (us:List Value) (kw:List (Str×Value)):Room k (A.under (.builtin "type.__call__" ⟨.ref C::us,kw⟩)):=
 ⟨r.hd,by have:=r.dp;rw [make_depth];omega,by have:=r.un;rw [make_units];omega⟩
theorem Room.depth (r:Room k A):A.depth<recursionLimit:=by have:=r.dp;omega
theorem Room.units (r:Room k A):A.units+64<cLine:=by have:=r.un;omega
theorem Room.units0 (r:Room k A):A.units<cLine:=by have:=r.un;omega
def tNil:TA:=fun _ H Q=>Q [] H
def c_C (ta:TE) (tr:TA):TA:=fun σ H Q=>ta σ H fun x H1=>tr σ H1 fun xs H2=>Q (x::xs) H2
section
variable {X:Cx} {e:Expr} {es:List Expr} {te:TE} {t:TA} {pos:Pos}
theorem a_c:PA X [] tNil:=fun _ _ _ _ H Q I h=>Calls.spliced_nil ⟨[],H,I,.nil,h⟩
theorem a_a (ha:PE X e te) (hr:PA X es t) (hs:starEach (e::es) X.env=(false,eval e X.env)::starEach es X.env:=by rfl):PA X (e::es) (c_C te t):=by
 intro pos pins s σ H Q I h
 rw [hs]
 show wpAny _ _ (spliced ((false,eval e X.env)::backTo pos (starEach es X.env))) _ _ s
 refine Calls.spliced_cons (thn (ha pins s σ H _ I h) fun u s1 ⟨x,H1,I1,r1,q1⟩=>?_)
 exact thn (hr pos pins s1 σ H1 _ I1 q1) fun us s2 ⟨xs,H2,I2,r2,q2⟩=>⟨x::xs,H2,I2,.cons r1 r2,q2⟩
def tTup (t:TA):TE:=fun σ H Q=>t σ H fun xs H1=>xs.length≤sizeLine/\∀p,H1 p=none->Q (.ref p) (upd H1 p (.tup xs))
def tLst (t:TA):TE:=fun σ H Q=>t σ H fun xs H1=>xs.length≤sizeLine/\∀p,H1 p=none->Q (.ref p) (upd H1 p (.lst xs))
theorem b_U {x1} (h:PA X es t):PE X (.Tuple es x1 pos) (tTup t):=by
 intro pins s σ H Q I hq
 refine wpAny_Tuple_spliced (thn (h pos pins s σ H _ I hq) fun us s1 ⟨xs,H1,I1,r,z,q⟩=>⟨by rw [<- r.length];exact z,?_⟩)
 have hf:H1 s1.heap.objs.size=none:=I1.hok.fresh (Nat.le_refl _)
 refine ⟨.ref s1.heap.objs.size,upd H1 s1.heap.objs.size (.tup xs),I1.laid (t':=s1.toks) (fun b u e=>Heap.get?_push_of_some _ e) (Nat.le_refl _) ?_,rfl,q _ hf⟩
 exact ⟨z,us,r,⟨_,Heap.get?_push_size _ rfl,rfl,_,rfl⟩⟩
theorem b_l (h:PA X es t):PE X (.List es pos) (tLst t):=by
 intro pins s σ H Q I hq
 refine wpAny_List_spliced (thn (h pos pins s σ H _ I hq) fun us s1 ⟨xs,H1,I1,r,z,q⟩=>⟨by rw [<- r.length];exact z,?_⟩)
 have hf:H1 s1.heap.objs.size=none:=I1.hok.fresh (Nat.le_refl _)
 refine ⟨.ref s1.heap.objs.size,upd H1 s1.heap.objs.size (.lst xs),I1.laid (t':=s1.toks) (fun b u e=>Heap.get?_push_of_some _ e) (Nat.le_refl _) ?_,rfl,q _ hf⟩
 exact ⟨z,us,0,r,Heap.get?_push_size _ rfl⟩
end
abbrev Sp:=List V->Hp->VK->XK->Prop
abbrev CXT:=List Env->Hp->Shared->XK->Value->Shared->Prop
structure Env0 (P:Program) (w:World) (K:PySem.W.Frag) (mg:Str->Option Value) (base:Heap) (A:Around) (outer:List Env) (s:Shared) (H:Hp):Prop where
 frames:A.frames=some outer
 mod:Mod K mg base
 bs:∀b o,base.get? b=some o->s.heap.get? b=some o/\H b=none
 bsz:base.objs.size≤s.heap.objs.size
 funs:s.heap.FunFrames base outer
 frf:∀b∈frs outer,H b=none
 hok:HOk P w H s.heap
 bare:AllBare s.gens
def CE (outer:List Env) (P:Program) (w:World) (H:Hp) (s:Shared) (Q:VK) (u:Value) (s':Shared):Prop:=
 ∃v H',s'.os=s.os/\AllBare s'.gens/\Un (frs outer) [] H H' s.heap s'.heap/\HOk P w H' s'.heap/\RelV v u/\Q v H'
def CR (CX:CXT) (outer:List Env) (P:Program) (w:World) (H:Hp) (s:Shared) (Q:VK) (E:XK) (r:Result) (s':Shared):Prop:=
 match r with
 | .ok (.ret u)=>CE outer P w H s Q u s'
 | .ok _=>False
 | .error e=>CX outer H s E e s'
structure FnOk (P:Program) (w:World) (K:PySem.W.Frag) (mg:Str->Option Value) (base:Heap) (CX:CXT) (k:Nat) (f:Addr) (fd:FuncData) (ps:List Str) (sp:Sp):Prop where
 len:∀vs H Q E,sp vs H Q E->vs.length=ps.length
 run:∀(A:Around) (outer:List Env) (s:Shared) (H:Hp) (args:Args) (us:List Value) (vs:List V) (Q:VK) (E:XK),Room k A->Env0 P w K mg base A outer s H->BindsTo s fd args (ps.zip us)->Vals vs us->sp vs H Q E->
  codeAny (model P w) A (.call (.ref f) args) (CR CX outer P w H s Q E) s
theorem FnOk.mono {P:Program} {w:World} {K:PySem.W.Frag} (F:FnOk P w K mg base CX j f fd ps sp) (h:j≤k):
  FnOk P w K mg base CX k f fd ps sp:=⟨F.len,fun A outer s H args us vs Q E hr=>F.run A outer s H args us vs Q E (hr.mono h)⟩
theorem Env0.make {K:PySem.W.Frag} (e:Env0 P w K mg base A outer s H) (C:Addr) (us:List Value) (kw:List (Str×Value)):
  Env0 P w K mg base (A.under (.builtin "type.__call__" ⟨.ref C::us,kw⟩)) outer s H:=⟨by first | exact e.frames | (simpa [Around.under,Code.envs,Code.isFrame,pushEnvs] using e.frames),e.mod,e.bs,e.bsz,e.funs,e.frf,e.hok,e.bare⟩
section
variable {X:Cx} {pins:List (Addr×Obj)} {σ:St} {H:Hp} {s s':Shared}
theorem Inv.env0 (I:Inv X pins σ H s):Env0 X.prog X.w X.K X.mg X.base X.A X.stack s H:=
 ⟨I.ok.frames,I.ok.mod,I.bs,Nat.le_trans I.ok.bsz I.sz,I.stack,I.stkFree,I.hok,I.bare⟩
theorem Inv.after (I:Inv X pins σ H s) (h:CE X.stack X.prog X.w H s Q u s'):EP X pins σ Q u s':=by
 obtain ⟨v,H',os,bare,un,hok,r,q⟩:=h
 obtain ⟨hh,g,d,t,os'⟩:=s'
 obtain rfl:os'=s.os:=os
 exact ⟨v,H',I.call (h':=hh) (g':=g) (d':=d) (t':=t) (ch:=[]) un hok bare (fun b z=>absurd z (by simp)),r,q⟩
end
def c_V (sp:Sp) (dvs:List V) (E:XK) (t:TA):TE:=fun σ H Q=>t σ H fun vs H1=>sp (vs++dvs) H1 Q E
def tMake (C:Addr) (sp:Sp) (dvs:List V) (E:XK) (t:TA):TE:=fun σ H Q=>t σ H fun vs H1=>∀x dx,H1 x=none->H1 dx=none->dx≠x->
 sp (.ref x::(vs++dvs)) (upd (upd H1 dx (.own x)) x (.ins C dx [])) (fun v H2=>v=.non/\Q (.ref x) H2) E
def d_e (K:PySem.W.Frag) (fd:FuncData) (ps:List Str) (ds:List Value):Prop:=
 ∀(s:Shared) (us:List Value),K.In s.heap->(us++ds).length=ps.length->BindsTo s fd ⟨us,[]⟩ (ps.zip (us++ds))
theorem d_e.all {K:PySem.W.Frag} (h:∀us:List Value,us.length=ps.length->bindArgs fd ⟨us,[]⟩=pure (ps.zip us)):d_e K fd ps []:=fun s us _ hl=>by
 rw [List.append_nil] at hl ⊢
 exact .of_eq (h us hl)
def Passes (CX:CXT) (X:Cx) (E:XK):Prop:=∀(pins:List (Addr×Obj)) (σ:St) (H:Hp) (s:Shared) (e:Value) (s':Shared),Inv X pins σ H s->CX X.stack H s E e s'->X.xe e s'
section
variable {X:Cx} {CX:CXT} {k:Nat} {f C:Addr} {fd:FuncData} {ps:List Str} {sp:Sp} {dvs:List V} {ds:List Value} {E:XK} {x m:Str} {p pos apos:Pos} {e o:Expr} {es:List Expr} {ta:TE} {t:TA}
theorem run_fn {σ:St} (F:FnOk X.prog X.w X.K X.mg X.base CX k f fd ps sp) (hr:Room k X.A) (hb:d_e X.K fd ps ds) (hd:Vals dvs ds) (hx:Passes CX X E)
  (I:Inv X pins σ H s) (r:Vals vs us) (h:sp (vs++dvs) H Q E):wpAny (model X.prog X.w) X.A (call (.ref f) us) (EP X pins σ Q) X.xe s:=by
 have r2:Vals (vs++dvs) (us++ds):=r.append hd
 have hl:(us++ds).length=ps.length:=by rw [<- r2.length];exact F.len _ _ _ _ h
 refine wpAny_call (codeAny_mono (F.run X.A X.stack s H ⟨us,[]⟩ (us++ds) (vs++dvs) Q E hr I.env0 (hb s us I.kIn hl) r2 h) fun r s' hq=>?_)
 cases r with
 | error e=>exact hx pins σ H s e s' I hq
 | ok fl=>
  cases fl with
  | ret u=>exact I.after hq
  | next=>exact False.elim hq
  | brk=>exact False.elim hq
  | cont=>exact False.elim hq
theorem pe_call (F:FnOk X.prog X.w X.K X.mg X.base CX k f fd ps sp) (hr:Room k X.A) (hg:Gl X x) (hm:X.mg x=some (.ref f)) (hk:PySem.W.keepIn X.K (.ref f)=true) (hb:d_e X.K fd ps ds) (hd:Vals dvs ds) (hx:Passes CX X E)
  (ha:PA X (e::es) t) (hdb:(x==("__debug__":Str))=false:=by decide) (he:starEach (e::es) X.env=(false,eval e X.env)::starEach es X.env:=by rfl) (hpl:(backTo pos (starEach es X.env)).any (·.1)=false:=by rfl):
  PE X (.Call (.Name x p) (e::es) [] pos) (c_V sp dvs E t):=by
 intro pins s σ H Q I h
 refine wpAny_Call_Name_kw (ld_glob I hg hm ?_ hdb)
 refine PySem.W.callWith_K (h₀:=X.base) I.ok.mod.kin hk (thn (ha pos pins s σ H _ I h) fun us s1 ⟨vs,H1,I1,r,q⟩=>⟨I1.kIn,?_⟩) he hpl
 exact run_fn F hr hb hd hx I1 r q
structure Mk (K:PySem.W.Frag) (C f:Addr):Prop where
 makes:PySem.W.makesIn K C=true
 init:PySem.W.findIn K (.ref C) "__init__"=some (some (.ref f))
 fn:PySem.W.isFn K (.ref f)=true
 kp:PySem.W.keepIn K (.ref C)=true
theorem run_make {σ:St} (M:Mk X.K C f) (F:FnOk X.prog X.w X.K X.mg X.base CX k f fd ps sp) (hr:Room (k+1) X.A) (hb:d_e X.K fd ps ds) (hd:Vals dvs ds)
  (hx:Passes CX X E) (I:Inv X pins σ H s) (r:Vals vs us)
  (h:∀x dx,H x=none->H dx=none->dx≠x->sp (.ref x::(vs++dvs)) (upd (upd H dx (.own x)) x (.ins C dx [])) (fun v H2=>v=.non/\Q (.ref x) H2) E):
  wpAny (model X.prog X.w) X.A (call (.ref C) us) (EP X pins σ Q) X.xe s:=by
 have hq:=h (s.heap.objs.size+1) s.heap.objs.size (I.hok.fresh (Nat.le_succ _)) (I.hok.fresh (Nat.le_refl _)) (Nat.ne_of_lt (Nat.lt_succ_self _))
 have I2:=Inv.made (C:=C) I
 have r2:Vals (V.ref (s.heap.objs.size+1)::(vs++dvs)) (Value.ref (s.heap.objs.size+1)::(us++ds)):=.cons rfl (r.append hd)
 have hl:(Value.ref (s.heap.objs.size+1)::us++ds).length=ps.length:=by
  have e:=r2.length
  rw [F.len _ _ _ _ hq] at e
  exact e.symm
 refine wpAny_call (make_map (f:=f) I.kIn M.makes M.init (beq_iff_eq.mp M.fn) (codeAny_mono (F.run _ X.stack _ _ ⟨Value.ref (s.heap.objs.size+1)::us,[]⟩ (Value.ref (s.heap.objs.size+1)::(us++ds)) _ _ E (hr.make C us [])
  (I2.env0.make C us []) (hb _ (Value.ref (s.heap.objs.size+1)::us) I2.kIn hl) r2 hq) fun r s' hq'=>?_))
 cases r with
 | error e=>exact hx pins σ _ _ e s' I2 hq'
 | ok fl=>
  cases fl with
  | ret u=>
   obtain ⟨v,H',I3,rv,ev,q3⟩:=I2.after hq'
   subst ev
   exact ⟨rv,⟨V.ref (s.heap.objs.size+1),H',I3,rfl,q3⟩⟩
  | next=>exact False.elim hq'
  | brk=>exact False.elim hq'
  | cont=>exact False.elim hq'
theorem pe_make (M:Mk X.K C f) (F:FnOk X.prog X.w X.K X.mg X.base CX k f fd ps sp) (hr:Room (k+1) X.A) (hg:Gl X x) (hm:X.mg x=some (.ref C)) (hb:d_e X.K fd ps ds) (hd:Vals dvs ds) (hx:Passes CX X E)
  (ha:PA X (e::es) t) (hdb:(x==("__debug__":Str))=false:=by decide) (he:starEach (e::es) X.env=(false,eval e X.env)::starEach es X.env:=by rfl) (hpl:(backTo pos (starEach es X.env)).any (·.1)=false:=by rfl):
  PE X (.Call (.Name x p) (e::es) [] pos) (tMake C sp dvs E t):=by
 intro pins s σ H Q I h
 refine wpAny_Call_Name_kw (ld_glob I hg hm ?_ hdb)
 refine PySem.W.callWith_K (h₀:=X.base) I.ok.mod.kin M.kp (thn (ha pos pins s σ H _ I h) fun us s1 ⟨vs,H1,I1,r,q⟩=>⟨I1.kIn,?_⟩) he hpl
 exact run_make M F hr hb hd hx I1 r q
end
section
variable {X:Cx} {CX:CXT} {k:Nat} {f C:Addr} {fd:FuncData} {ps ks:List Str} {sp:Sp} {E:XK} {x m:Str} {p pos apos kpos:Pos} {e o:Expr} {es:List Expr} {kws:List Keyword} {te ta:TE} {t tk:TA} {nm:Option Str}
variable {g:List Value->List Value->List Value} {gV:List V->List V->List V}
end
structure a_r (N P:List Str) (sc:Scope):Prop where
 kind:sc.kind=.function
 co:sc.isCoroutine=false
 gen:sc.isGenerator=false
 nd:N.Nodup
 pre:N.take P.length=P
 par:∀x∈P,sc.names.lookup x=some .local\/sc.names.lookup x=some .cell
 nofree:∀y∈sc.names,y.2≠.free
theorem bindL_out {kindOf:Str->Option NameKind} {x:Str}:∀{binds:List (Str×Value)} {m:Str->Option Value},(∀v,(x,v)∉binds)->bindL kindOf binds m x=m x
 | [],_,_=>rfl
 | (n,v)::r,m,h=>by
  unfold bindL
  rw [bindL_out fun w hw=>h w (List.mem_cons_of_mem _ hw)]
  split
  ·have:x≠n:=by rintro rfl;exact h v List.mem_cons_self
   simp [this]
  ·rfl
theorem bindC_out {kindOf:Str->Option NameKind} {x:Str}:∀{binds:List (Str×Value)} {m:Str->Option Value},(∀v,(x,v)∉binds)->bindC kindOf binds m x=m x
 | [],_,_=>rfl
 | (n,v)::r,m,h=>by
  unfold bindC
  rw [bindC_out fun w hw=>h w (List.mem_cons_of_mem _ hw)]
  split
  ·rfl
  ·have:x≠n:=by rintro rfl;exact h v List.mem_cons_self
   simp [this]
theorem bindL_get {kindOf:Str->Option NameKind} {x:Str} {v:Value}:∀{P:List Str} {vs:List Value} {i:Nat} {m:Str->Option Value},P.Nodup->P[i]?=some x->vs[i]?=some v->kindOf x=some .local->
  bindL kindOf (P.zip vs) m x=some v
 | [],_,_,_,_,h,_,_=>by simp at h
 | _::_,[],_,_,_,_,h,_=>by simp at h
 | p::P,w::vs,0,m,nd,h1,h2,hk=>by
  simp at h1 h2;subst h1;subst h2
  show bindL kindOf ((p,w)::P.zip vs) m p=_
  unfold bindL
  rw [bindL_out fun v hv=>(List.nodup_cons.mp nd).1 (List.of_mem_zip hv).1,if_pos hk]
  simp
 | p::P,w::vs,i+1,m,nd,h1,h2,hk=>by
  show bindL kindOf ((p,w)::P.zip vs) m x=_
  unfold bindL
  exact bindL_get (i:=i) (List.nodup_cons.mp nd).2 (by simpa using h1) (by simpa using h2) hk
theorem bindC_get {kindOf:Str->Option NameKind} {x:Str} {v:Value}:∀{P:List Str} {vs:List Value} {i:Nat} {m:Str->Option Value},P.Nodup->P[i]?=some x->vs[i]?=some v->kindOf x≠some .local->
  bindC kindOf (P.zip vs) m x=some v
 | [],_,_,_,_,h,_,_=>by simp at h
 | _::_,[],_,_,_,_,h,_=>by simp at h
 | p::P,w::vs,0,m,nd,h1,h2,hk=>by
  simp at h1 h2;subst h1;subst h2
  show bindC kindOf ((p,w)::P.zip vs) m p=_
  unfold bindC
  rw [bindC_out fun v hv=>(List.nodup_cons.mp nd).1 (List.of_mem_zip hv).1,if_neg hk]
  simp
 | p::P,w::vs,i+1,m,nd,h1,h2,hk=>by
  show bindC kindOf ((p,w)::P.zip vs) m x=_
  unfold bindC
  exact bindC_get (i:=i) (List.nodup_cons.mp nd).2 (by simpa using h1) (by simpa using h2) hk
def start (N:List Str) (vs:List V):St:=vs.map some++List.replicate (N.length - vs.length) none
def cxOf (CX:CXT) (P:Program) (w:World) (K:PySem.W.Frag) (mg:Str->Option Value) (base:Heap) (N:List Str) (qual:Str) (scope:Scope) (f:Addr) (cd:Value) (A:Around) (outer:List Env) (s:Shared) (H:Hp) (E:XK):Cx where
 prog:=P
 w:=w
 K:=K
 mg:=mg
 base:=base
 A:=A.deeper (envOfC qual scope s.heap.objs.size f cd)
 N:=N
 s₀:=s
 H₀:=H
 env:=envOfC qual scope s.heap.objs.size f cd
 outer:=outer
 stack:=envOfC qual scope s.heap.objs.size f cd::outer
 ex:=[]
 calm:=true
 fn:=fun _=>true
 pn:=[]
 xe:=fun e s'=>wpAny (model P w) (A.deeper (envOfC qual scope s.heap.objs.size f cd)) (leaving (envOfC qual scope s.heap.objs.size f cd) e) (fun _ s''=>CX outer H s E e s'') (fun e' s''=>CX outer H s E e' s'') s'
theorem cell_has {sc:Scope} (h:sc.names.lookup x=some .cell):∃c,(cellsFrom n sc.names []).lookup x=some c:=by
 have q:=PySem.W.cellsFrom_some sc.names n [] (.inl h)
 exact Option.isSome_iff_exists.mp q
theorem inv_start {CX:CXT} {P:Program} {w:World} {K:PySem.W.Frag} {mg:Str->Option Value} {base:Heap} {N ps:List Str} {qual:Str} {scope:Scope} {f:Addr} {cd:Value} {A:Around} {outer:List Env} {s s1:Shared} {H:Hp} {E:XK} {us:List Value} {vs:List V}
  (S:a_r N ps scope) (hd:A.handled=none) (e0:Env0 P w K mg base A outer s H) (hl:vs.length=ps.length) (r:Vals vs us)
  (x:InCallC s s.heap.objs.size (bindL (envOfC qual scope s.heap.objs.size f cd).kindOf (ps.zip us) fun _=>none) (cellsFrom (s.heap.objs.size+1) scope.names []) (bindC (envOfC qual scope s.heap.objs.size f cd).kindOf (ps.zip us) fun _=>none) s1):
  Inv (cxOf CX P w K mg base N qual scope f cd A outer s H E) [] (start N vs) H s1:=by
 have hpl:ps.length≤N.length:=by have:=congrArg List.length S.pre;rw [List.length_take] at this;omega
 obtain ⟨h1,tk,rfl,hk⟩:=x.done
 have noA:∀b:Addr,b∉(cxOf CX P w K mg base N qual scope f cd A outer s H E).ex:=fun b z=>absurd (show b∈([]:List Addr) from z) (by simp)
 refine ⟨⟨e0.mod,S.kind,rfl,rfl,Nat.le_refl _,fun y z c h1 h2=>?_,fun y hy=>?_,fun y c _ h=>?_,fun _=>hd,Around.frames_deeper e0.frames,.inr ⟨rfl,rfl⟩,fun b z=>absurd z (noA b),e0.bs,e0.bsz,fun b _ _=>noA b,fun b z=>absurd z (noA b),e0.funs,e0.frf⟩,
  rfl,e0.bare,Un.kept hk,⟨_,x.toInCall.ns,fun i y v h1 h2 h3=>?_⟩,fun y c h=>⟨_,x.cell y c h⟩,e0.hok.fresh (Nat.le_refl _),fun y c h=>?_,fun p hp=>absurd (show p∈([]:List (Addr×Obj)) from hp) (by simp),e0.hok.kept hk,?_⟩
 ·exact name_of_addr x.apart (PySem.mem_of_lookup h1) (PySem.mem_of_lookup h2)
 ·have hy:scope.names.lookup y=some .cell\/scope.names.lookup y=some .free:=hy
  rcases hy with hy | hy
  ·exact cell_has hy
  ·exact absurd rfl (S.nofree _ (PySem.mem_of_lookup hy))
 ·exact Nat.le_of_lt (x.above y c (PySem.mem_of_lookup h))
 ·have hi:i<vs.length:=by
   unfold start at h2
   by_cases hi:i<vs.length
   ·exact hi
   ·rw [List.getElem?_append_right (by simpa using hi)] at h2
    rw [List.getElem?_replicate] at h2
    split at h2 <;> cases h2
  have ha:vs[i]?=some v:=by
   unfold start at h2
   rw [List.getElem?_append_left (by simpa using hi),List.getElem?_map] at h2
   cases e:vs[i]? with
   | none=>rw [e] at h2;cases h2
   | some a=>rw [e] at h2;cases h2;rfl
  obtain ⟨u,hu,rv⟩:=r.get ha
  have hp:ps[i]?=some y:=by
   rw [<- S.pre,List.getElem?_take_of_lt (by omega)];exact h1
  have ndP:ps.Nodup:=by rw [<- S.pre];exact S.nd.sublist (List.take_sublist _ _)
  refine ⟨u,rv,?_⟩
  rcases S.par y (List.mem_of_getElem? hp) with k | k
  ·exact .inl ⟨k,bindL_get ndP hp hu k⟩
  ·obtain ⟨c,e⟩:=cell_has (n:=s.heap.objs.size+1) k
   refine .inr ⟨.inl k,c,e,?_⟩
   have q:=x.cell y c e
   rw [bindC_get ndP hp hu (by show scope.names.lookup y≠_;rw [k];decide)] at q
   exact q
 ·exact e0.hok.fresh (Nat.le_of_lt (x.above y c (PySem.mem_of_lookup h)))
 ·unfold start
  show _=N.length
  rw [List.length_append,List.length_map,List.length_replicate]
  omega
theorem fn_of {CX:CXT} {P:Program} {w:World} {K:PySem.W.Frag} {mg:Str->Option Value} {base:Heap} {k:Nat} {f:Addr} {name qual:Str} {params:Arguments} {body:List Stmt} {scope:Scope} {dV kV doc pm cdv ct oc:Value} {an od:Option Addr}
  {osl:Array (Option Value)} {N ps:List Str} {sp:Sp} (lk:K.lookup f=some ⟨oc,od,.func (PySem.W.fnOf name qual params body scope dV kV doc pm an cdv ct),osl⟩) (hcd:PySem.W.codeIn K cdv qual=true) (S:a_r N ps scope)
  (len:∀vs H Q E,sp vs H Q E->vs.length=ps.length)
  (hbody:∀(A:Around) (outer:List Env) (s:Shared) (H:Hp) (vs:List V) (Q:VK) (E:XK),Room k (A.deeper (envOfC qual scope s.heap.objs.size f cdv))->sp vs H Q E->
   ∃t,PSs (cxOf CX P w K mg base N qual scope f cdv A outer s H E) body t/\t { nx:=fun _ H'=>Q .non H',rt:=Q } (start N vs) H):
  FnOk P w K mg base CX (k+1) f (PySem.W.fnOf name qual params body scope dV kV doc pm an cdv ct) ps sp:=by
 refine ⟨len,fun A outer s H args us vs Q E hr e0 hb r hsp=>?_⟩
 have hl:=len _ _ _ _ hsp
 have KX:K.In s.heap:=e0.mod.kin.keeps fun b o e=>(e0.bs b o e).1
 have lim:s.heap.NoLimit:=e0.mod.nolimit.keeps fun b o e=>(e0.bs b o e).1
 have hkind:∀y∈ps.zip us,scope.names.lookup y.1=some .local\/(scope.names.lookup y.1=some .cell/\((cellsFrom (s.heap.objs.size+1) scope.names []).lookup y.1).isSome=true):=fun ⟨n,v⟩ hy=>by
  rcases S.par n (List.of_mem_zip hy).1 with q | q
  ·exact .inl q
  ·exact .inr ⟨q,PySem.W.cellsFrom_some _ _ _ (.inl q)⟩
 refine codeAny_call_function hr.depth (KX _ _ lk) rfl S.co S.gen rfl (PySem.W.codeRec_of KX hcd) (hb _ _ _ _ ?_)
 refine wpAny_newFunctionEnv_cells S.kind hkind fun env he s1 x=>?_
 subst he
 refine ⟨lim.keeps x.toInCall.keep,codeAny_func ?_⟩
 obtain ⟨t,ht,hq⟩:=hbody A outer s H vs Q E (hr.deeper _) hsp
 have I:Inv (cxOf CX P w K mg base N qual scope f cdv A outer s H E) [] (start N vs) H s1:=inv_start S hr.hd e0 hl r x
 refine wpAny_mono (ht [] s1 (start N vs) H _ I hq) (fun fl s' hs=>?_) fun e s' hs=>hs
 have fin:∀{σ':St} {H':Hp} {v:V} {u:Value},Inv (cxOf CX P w K mg base N qual scope f cdv A outer s H E) [] σ' H' s'->RelV v u->Q v H'->CE outer P w H s Q u s':=
  fun {σ' H' v u} J rv q=>⟨v,H',J.os,J.bare,J.base,J.hok,rv,q⟩
 cases fl with
 | ret u=>
  obtain ⟨v,σ',H',J,rv,q⟩:=hs
  exact fin J rv q
 | next=>
  obtain ⟨σ',H',J,q⟩:=hs
  exact fin (v:=V.non) (u:=Value.none) J rfl q
 | brk=>
  obtain ⟨_,_,_,q⟩:=hs
  exact False.elim q
 | cont=>
  obtain ⟨_,_,_,q⟩:=hs
  exact False.elim q
section
variable {X:Cx} {x:Str} {p pos:Pos} {e:Expr} {es:List Expr} {t:TA} {id T:String} {r:List V->Hp->VK->Prop}
def tCB (r:List V->Hp->VK->Prop) (t:TA):TE:=fun σ H Q=>t σ H fun vs H1=>r vs H1 Q
theorem a_n (hc:e_T X (.builtin id) r) (hg:Gl X x) (hm:X.mg x=none) (hv:bootBuiltins x=some (.builtin id)) (ha:PA X (e::es) t) (hn:x≠"__name__":=by decide) (hdb:(x==("__debug__":Str))=false:=by decide)
  (he:starEach (e::es) X.env=(false,eval e X.env)::starEach es X.env:=by rfl) (hpl:(backTo pos (starEach es X.env)).any (·.1)=false:=by rfl):PE X (.Call (.Name x p) (e::es) [] pos) (tCB r t):=by
 intro pins s σ H Q I h
 refine wpAny_Call_Name_kw (ld_blt I hg hm hv ?_ hn hdb)
 exact PyProof.Rows.callWith_builtin1 (thn (ha pos pins s σ H _ I h) fun us s1 ⟨vs,H1,I1,r1,q1⟩=>hc pins s1 σ H1 vs us Q I1 r1 q1) he hpl
theorem a_G (hc:e_T X (.type T) r) (hg:Gl X x) (hm:X.mg x=none) (hv:bootBuiltins x=some (.type T)) (ha:PA X (e::es) t) (hn:x≠"__name__":=by decide) (hdb:(x==("__debug__":Str))=false:=by decide)
  (he:starEach (e::es) X.env=(false,eval e X.env)::starEach es X.env:=by rfl) (hpl:(backTo pos (starEach es X.env)).any (·.1)=false:=by rfl):PE X (.Call (.Name x p) (e::es) [] pos) (tCB r t):=by
 intro pins s σ H Q I h
 refine wpAny_Call_Name_kw (ld_blt I hg hm hv ?_ hn hdb)
 exact PyProof.Rows.callWith_type1 (thn (ha pos pins s σ H _ I h) fun us s1 ⟨vs,H1,I1,r1,q1⟩=>hc pins s1 σ H1 vs us Q I1 r1 q1) he hpl
end
end L2
namespace HT
open PySem PyProof.Rows
section
open PySem.SeqAt
open PySem.AutoSeq1 (wpAny_loadPart')
open PySem.MeetsSeq PySem.MeetsSeq2 PySem.MeetsSeq3
end
section
variable {prog:Program} {w:World} {A:Around} {E:Value->Shared->Prop} {s:Shared}
theorem cat_tup (ht:IsTup s.heap t vs.toArray) (hb:IsTup s.heap b ws.toArray) (hv:vs≠[])
  (h1:ws=[]->Q (.ref t) s) (h2:ws≠[]->Q (.ref s.heap.objs.size) { s with heap:=s.heap.push { cls:=.type "tuple",data:=.seq (vs++ws).toArray } })
  (hsz:vs.length+ws.length≤sizeLine):wpAny (model prog w) A (binaryOp .Add (.ref t) (.ref b)) Q E s:=by
 obtain ⟨⟨cls,dd,data,sl⟩,ho,hc,n,hd⟩:=id ht
 obtain ⟨⟨cls2,dd2,data2,sl2⟩,ho2,hc2,n2,hd2⟩:=id hb
 simp only at hc hd hc2 hd2
 subst hc hd hc2 hd2
 have e:vs.toArray++ws.toArray=(vs++ws).toArray:=by simp
 by_cases hw:ws=[]
 ·exact concat_meets ⟨_,ho,rfl⟩ ⟨_,ho2,rfl⟩ noFill_tuple_add seq_tuple_add PySem.F.slot_tuple_add PySem.F.entry_tuple_add (PySem.F.args_tuple_add_2 _ _)
   (tuple_addW1 t b vs.toArray ws.toArray n n2 dd dd2 sl sl2 (by simpa using hv) (by simp [hw])) ⟨ho,ho2,h1 hw⟩
 ·refine concat_meets ⟨_,ho,rfl⟩ ⟨_,ho2,rfl⟩ noFill_tuple_add seq_tuple_add PySem.F.slot_tuple_add PySem.F.entry_tuple_add (PySem.F.args_tuple_add_2 _ _)
   (tuple_addW2 t b vs.toArray ws.toArray n n2 dd dd2 sl sl2 (by simpa using hv) (by simpa using hw) (by rw [List.size_toArray,List.size_toArray];exact hsz)) ⟨ho,ho2,?_⟩
  rw [e]
  exact h2 hw
def sIx (n d:Nat):Option Int->Nat
 | none=>d
 | some v=>if v<0 then (v+(n:Int)).toNat else min v.toNat n
theorem sIx_none (n d:Nat):sIx n d none=d:=rfl
theorem sIx_nat (n d k:Nat):sIx n d (some (k:Int))=min k n:=by
 show (if (k:Int)<0 then ((k:Int)+(n:Int)).toNat else min (k:Int).toNat n)=min k n
 rw [if_neg (by omega),Int.toNat_natCast]
theorem sIx_le (n d:Nat) (hd:d≤n) (o:Option Int):sIx n d o≤n:=by
 cases o with
 | none=>exact hd
 | some v=>
  show (if v<0 then (v+(n:Int)).toNat else min v.toNat n)≤n
  by_cases hv:v<0
  ·rw [if_pos hv];omega
  ·rw [if_neg hv];exact Nat.min_le_right _ _
theorem clip_eq (v:Int) (n d:Nat):(if v<0 then max (v+(n:Int)) 0 else min v (n:Int))=((sIx n d (some v):Nat):Int):=by
 show (if v<0 then max (v+(n:Int)) 0 else min v (n:Int))=(((if v<0 then (v+(n:Int)).toNat else min v.toNat n):Nat):Int)
 by_cases hv:v<0
 ·simp only [if_pos hv];omega
 ·simp only [if_neg hv];omega
theorem adjust_gen (lo hi:Option Int) (n:Nat):Builtin.Slice.sliceAdjust lo hi 1 (n:Int)=(((sIx n 0 lo:Nat):Int),((sIx n n hi:Nat):Int)):=by
 have h1:¬ ((1:Int)<0):=by omega
 unfold Builtin.Slice.sliceAdjust
 simp only [h1,if_false]
 refine Prod.ext ?_ ?_
 ·cases lo with
  | none=>rfl
  | some v=>exact clip_eq v n 0
 ·cases hi with
  | none=>rfl
  | some v=>exact clip_eq v n n
theorem places_gen (i j:Nat):Builtin.Slice.slicePlaces (i:Int) (j:Int) 1=j - i:=by
 unfold Builtin.Slice.slicePlaces
 have h1:(1:Int) > 0:=by omega
 simp only [h1,if_true,Int.ediv_one]
 split <;> omega
theorem e_X (p:IsPart v o) (h:Q o s):wpAny (model prog w) A (Builtin.Slice.slicePartIndex v) Q E s:=by
 cases p with
 | none=>exact slicePart_none h
 | int i t=>exact slicePart_int h
theorem d_K {lo hi:Option Int} {n:Nat} (hs:s.heap.IsSliceOf sl vl vu .none) (pl:IsPart vl lo) (pu:IsPart vu hi)
  (h:Q (((sIx n 0 lo:Nat):Int),1,sIx n n hi - sIx n 0 lo) s):wpAny (model prog w) A (Builtin.Slice.sliceApplied (.ref sl) (pure (n:Int))) Q E s:=by
 obtain ⟨os,hos,hcs,hds⟩:=id hs
 unfold Builtin.Slice.sliceApplied Builtin.Slice.sliceFields
 refine wpAny_bind (wpAny_bind (wpAny_field hos hds (x:=vl) rfl (wpAny_bind (wpAny_field hos hds (x:=vu) rfl (wpAny_bind (wpAny_field hos hds (x:=.none) rfl (wpAny_pure ?_)))))))
 refine wpAny_bind (slicePart_none ?_)
 show wpAny _ _ (if ((1:Int)==0)=true then _ else _) _ _ s
 rw [if_neg (by decide)]
 refine wpAny_bind (e_X pl (wpAny_bind (e_X pu (wpAny_bind (wpAny_pure ?_)))))
 show wpAny _ _ (match Builtin.Slice.sliceAdjust lo hi 1 (n:Int) with | (lo,hi)=>pure (lo,(1:Int),Builtin.Slice.slicePlaces lo hi 1)) _ _ s
 rw [adjust_gen lo hi n]
 show wpAny _ _ (pure (((sIx n 0 lo:Nat):Int),(1:Int),Builtin.Slice.slicePlaces ((sIx n 0 lo:Nat):Int) ((sIx n n hi:Nat):Int) 1)) _ _ s
 rw [places_gen]
 exact wpAny_pure h
theorem pick_gen (xs:Array Value) (i k:Nat):((List.range k).filterMap fun (m:Nat)=>xs[((i:Int)+(m:Int) * 1).toNat]?).toArray=((xs.toList.drop i).take k).toArray:=by
 have e:(fun (m:Nat)=>xs[((i:Int)+(m:Int) * 1).toNat]?)=fun m=>xs[i+m]?:=by
  funext m
  have:((i:Int)+(m:Int) * 1).toNat=i+m:=by omega
  rw [this]
 rw [e]
 have:=pick_run xs i k
 rw [List.filterMap_map] at this
 have e2:((fun x=>xs[x]?) ∘ fun x=>i+x)=fun m=>xs[i+m]?:=rfl
 rw [e2] at this
 rw [this]
theorem getItem_tuple_cut {lo hi:Option Int} (ht:IsTup s.heap t items) (hs:s.heap.IsSliceOf sl vl vu .none) (pl:IsPart vl lo) (pu:IsPart vu hi)
  (hw:¬ (sIx items.size 0 lo=0/\sIx items.size items.size hi=items.size))
  (h:Q (.ref s.heap.objs.size) { s with heap:=s.heap.push { cls:=.type "tuple",data:=.seq ((items.toList.drop (sIx items.size 0 lo)).take (sIx items.size items.size hi - sIx items.size 0 lo)).toArray } })
  (hsz:items.size≤sizeLine):wpAny (model prog w) A (getItem (.ref t) (.ref sl)) Q E s:=by
 have htake:sizeOk (.seq ((items.toList.drop (sIx items.size 0 lo)).take (sIx items.size items.size hi - sIx items.size 0 lo)).toArray):=by
  show ((items.toList.drop (sIx items.size 0 lo)).take (sIx items.size items.size hi - sIx items.size 0 lo)).toArray.size≤sizeLine
  rw [List.size_toArray,List.length_take,List.length_drop,Array.length_toList]
  omega
 have hj:sIx items.size items.size hi≤items.size:=sIx_le _ _ (Nat.le_refl _) hi
 obtain ⟨os,hos,hcs,hds⟩:=id hs
 have hTs:s.TypeIs (.ref sl) "slice":=⟨os,hos,hcs⟩
 unfold getItem
 try with_reducible refine wpAny_holding ?_
 first | refine wpAny_bind (wpAny_pure ?_) | skip
 refine wpAny_bind (wpAny_sequenceKey ht.typeIs (by decide) ?_)
 refine wpAny_bind (wpAny_callSpecial?_slot (name:=Str.ofString "__getitem__") ht.typeIs PyProof.Rows.slot_tuple_getitem
  (wpAny_call_entry PyProof.Rows.slot_tuple_getitem ht.typeIs entry_tuple_getitem ?_ (args_tuple_getitem _ _)))
 show wpAny _ _ (Builtin.Tuple.tupleItemsOf (.ref t) >>= _) _ _ s
 refine wpAny_bind (tupleItemsOf_ ht ?_)
 refine wpAny_bind (wpAny_typeOf hTs ?_)
 rw [if_pos (by decide)]
 refine wpAny_bind (d_K hs pl pu ?_)
 have hno:¬ ((((sIx items.size 0 lo:Nat):Int)==0&&(1:Int)==1&&(sIx items.size items.size hi - sIx items.size 0 lo)==items.size)=true):=by
  intro q
  rw [Bool.and_eq_true,Bool.and_eq_true] at q
  have q1:((sIx items.size 0 lo:Nat):Int)=0:=eq_of_beq q.1.1
  have q2:sIx items.size items.size hi - sIx items.size 0 lo=items.size:=eq_of_beq q.2
  exact hw ⟨by omega,by omega⟩
 show wpAny _ _ (if (((sIx items.size 0 lo:Nat):Int)==0&&(1:Int)==1&&(sIx items.size items.size hi - sIx items.size 0 lo)==items.size)=true then _ else _) _ _ s
 rw [if_neg hno,pick_gen]
 first
  | exact wpAny_bind (m:=Builtin.Tuple.tupleExact _) (wpAny_newObj_type (wpAny_pure ⟨_,rfl,wpAny_pure h⟩) htake)
  | exact wpAny_bind (m:=Builtin.Tuple.tupleExact _) (wpAny_newObj_type (wpAny_bind (wpAny_pure (wpAny_pure ⟨_,rfl,wpAny_pure h⟩))) htake)
  | exact wpAny_bind (wpAny_bind (m:=Builtin.Tuple.tupleExact _) (wpAny_newObj_type (wpAny_pure (wpAny_pure ⟨_,rfl,wpAny_pure h⟩)) htake))
  | exact wpAny_bind (wpAny_bind (m:=Builtin.Tuple.tupleExact _) (wpAny_newObj_type (wpAny_pure ⟨_,rfl,wpAny_pure h⟩) htake))
end
end HT
namespace L2
open PySem PySem.Spec PyProof.Rows
abbrev TO:=St->Hp->(Option Int->Hp->Prop)->Prop
def PO (X:Cx) (e:Option Expr) (t:TO):Prop:=
 ∀(pins:List (Addr×Obj)) (s:Shared) (σ:St) (H:Hp) (Q:Option Int->Hp->Prop),Inv X pins σ H s->t σ H Q->
  wpAny (model X.prog X.w) X.A (evalPart e X.env) (fun u s'=>∃o H',Inv X pins σ H' s'/\IsPart u o/\Q o H') X.xe s
def tNoPart:TO:=fun _ H Q=>Q none H
def tPart (t:TE):TO:=fun σ H Q=>t σ H fun x H1=>∃i,x=.int i/\Q (some i) H1
section
variable {X:Cx} {e:Expr} {te:TE} {lo hi:Option Expr} {tl th:TO} {pos p2:Pos}
theorem d_B:PO X none tNoPart:=by
 intro pins s σ H Q I h
 rw [evalPart_none]
 exact wpAny_pure ⟨none,H,I,.none,h⟩
theorem c_G (h:PE X e te):PO X (some e) (tPart te):=by
 intro pins s σ H Q I hw
 rw [evalPart_some]
 refine thn (h pins s σ H _ I hw) fun u s1 ⟨x,H1,I1,r1,q1⟩=>?_
 obtain ⟨i,rfl,q⟩:=q1
 obtain ⟨t,rfl⟩:=r1
 exact ⟨some i,H1,I1,.int i t,q⟩
def SlR (X:Cx) (r:V->Option Int->Option Int->Hp->VK->Prop):Prop:=
 ∀(pins:List (Addr×Obj)) (s:Shared) (σ:St) (H:Hp) (x:V) (v vl vu:Value) (lo hi:Option Int) (sl:Addr) (Q:VK),Inv X pins σ H s->RelV x v->s.heap.IsSliceOf sl vl vu .none->IsPart vl lo->IsPart vu hi->r x lo hi H Q->
  ∃T id,typeLookup (.type T) "__getitem__"=pure (some (.builtin id))/\s.TypeIs v T/\wpAny (model X.prog X.w) X.A (getItem v (.ref sl)) (EP X pins σ Q) X.xe s
def tSl (r:V->Option Int->Option Int->Hp->VK->Prop) (te:TE) (tl th:TO):TE:=fun σ H Q=>te σ H fun x H1=>tl σ H1 fun l H2=>th σ H2 fun u H3=>r x l u H3 Q
theorem c_v (hr:SlR X r) (he:PE X e te) (hl:PO X lo tl) (hu:PO X hi th):PE X (.Subscript e (.Slice lo hi none p2) pos) (tSl r te tl th):=by
 intro pins s σ H Q I h
 refine Subscript_ (thn (he pins s σ H _ I h) fun v s1 ⟨x,H1,I1,r1,q1⟩=>?_)
 refine wpAny_Slice (thn (hl pins s1 σ H1 _ I1 q1) fun vl s2 ⟨l,H2,I2,pl,q2⟩=>thn (hu pins s2 σ H2 _ I2 q2) fun vu s3 ⟨u,H3,I3,pu,q3⟩=>?_)
 rw [evalPart_none]
 refine wpAny_pure ?_
 have I4:Inv X pins σ H3 { s3 with heap:=s3.heap.push { cls:=.type "slice",data:=.fields #[vl,vu,.none] } }:=I3.kept (t':=s3.toks) fun b ob q=>Heap.get?_push_of_some _ q
 obtain ⟨T,id,hT,ht,hg⟩:=hr pins { s3 with heap:=s3.heap.push { cls:=.type "slice",data:=.fields #[vl,vu,.none] } } σ H3 x v vl vu l u s3.heap.objs.size Q I4 r1 (Heap.IsSliceOf.new ..) pl pu q3
 show wpAny (model X.prog X.w) X.A (subscriptTail e (.Slice lo hi none p2) v (.ref s3.heap.objs.size)) (EP X pins σ Q) X.xe { s3 with heap:=s3.heap.push { cls:=.type "slice",data:=.fields #[vl,vu,.none] } }
 exact tail_any (ops:=[.ref s3.heap.objs.size,v]) ht hT hg (by with_unfolding_all rfl)
def cutV (xs:List V) (lo hi:Option Int):List V:=(xs.drop (HT.sIx xs.length 0 lo)).take (HT.sIx xs.length xs.length hi - HT.sIx xs.length 0 lo)
theorem e_D (xs:List V) (lo hi:Option Int):(cutV xs lo hi).length≤xs.length:=by
 unfold cutV
 rw [List.length_take,List.length_drop]
 omega
def rSlT (K:PySem.W.Frag):V->Option Int->Option Int->Hp->VK->Prop:=fun x lo hi H Q=>∃a xs,x=.ref a/\SqT K H a xs/\
 ¬ (HT.sIx xs.length 0 lo=0/\HT.sIx xs.length xs.length hi=xs.length)/\∀p,H p=none->Q (.ref p) (upd H p (.tup (cutV xs lo hi)))
theorem sl_tup:SlR X (rSlT X.K):=by
 intro pins s σ H x v vl vu lo hi sl Q I rx hs pl pu h
 obtain ⟨a,xs,rfl,hx,hw,q⟩:=h
 cases rx
 obtain ⟨its,r,ht,hz⟩:=I.tuple hx
 have hlen:its.toArray.size=xs.length:=by rw [List.size_toArray];exact r.length.symm
 refine ⟨"tuple",_,PyProof.Rows.slot_tuple_getitem.lookup,ht.typeIs,?_⟩
 refine HT.getItem_tuple_cut ht hs pl pu (by rw [hlen];exact hw) ?_ (by rw [hlen];exact hz)
 rw [hlen]
 refine ⟨.ref s.heap.objs.size,_,I.laid (t':=s.toks) (o:=.tup (cutV xs lo hi)) (fun b ob q=>Heap.get?_push_of_some _ q) (Nat.le_refl _) ?_,rfl,q _ (I.hok.fresh (Nat.le_refl _))⟩
 exact ⟨Nat.le_trans (e_D xs lo hi) hz,_,(r.drop (HT.sIx xs.length 0 lo)).take (HT.sIx xs.length xs.length hi - HT.sIx xs.length 0 lo),IsTup.new _ _⟩
def rCatT (K:PySem.W.Frag):R2:=fun x y H Q=>∃a b xs ys,x=.ref a/\y=.ref b/\SqT K H a xs/\SqT K H b ys/\xs≠[]/\xs.length+ys.length≤sizeLine/\
 (ys=[]->Q (.ref a) H)/\(ys≠[]->∀p,H p=none->Q (.ref p) (upd H p (.tup (xs++ys))))
theorem Vals.nil_iff (r:Vals xs us):us=[]↔xs=[]:=by
 cases r with
 | nil=>simp
 | cons _ _=>simp
theorem op_catT:OpR X (binaryOp .Add) (rCatT X.K):=by
 intro pins s σ H x y v u Q I rx ry h
 obtain ⟨a,b,xs,ys,rfl,rfl,ha,hb,hx,hz,q1,q2⟩:=h
 cases rx
 cases ry
 obtain ⟨its,r1,p1,_⟩:=I.tuple ha
 obtain ⟨its2,r2,p2,_⟩:=I.tuple hb
 refine HT.cat_tup p1 p2 (fun z=>hx (r1.nil_iff.mp z)) (fun z=>⟨.ref a,H,I,rfl,q1 (r2.nil_iff.mp z)⟩) (fun z=>?_) (by rw [<- r1.length,<- r2.length];exact hz)
 refine ⟨.ref s.heap.objs.size,_,I.laid (t':=s.toks) (o:=.tup (xs++ys)) (fun b ob q=>Heap.get?_push_of_some _ q) (Nat.le_refl _) ?_,rfl,q2 (fun w=>z (r2.nil_iff.mpr w)) _ (I.hok.fresh (Nat.le_refl _))⟩
 exact ⟨by rw [List.length_append];exact hz,_,r1.append r2,IsTup.new _ _⟩
end
def ixN (n:Nat) (i:Int):Option Nat:=if 0≤i then (if i<n then some i.toNat else none) else if -(n:Int)≤i then some (i+n).toNat else none
def atI {α:Type} (xs:List α) (i:Int):Option α:=(ixN xs.length i).bind fun j=>xs[j]?
theorem ixN_seq (h:ixN n i=some j):seqIndex? i n=some j/\j<n/\-(n:Int)≤i/\i<n:=by
 unfold ixN at h
 by_cases h0:0≤i
 ·rw [if_pos h0] at h
  by_cases h1:i<n
  ·rw [if_pos h1] at h
   have e:i.toNat=j:=Option.some.inj h
   exact ⟨by rw [seqIndex_of h0 h1,e],by omega,by omega,h1⟩
  ·rw [if_neg h1] at h;cases h
 ·rw [if_neg h0] at h
  by_cases h1:-(n:Int)≤i
  ·rw [if_pos h1] at h
   have e:(i+n).toNat=j:=Option.some.inj h
   exact ⟨by rw [seqIndex_neg (by omega) h1,e],by omega,h1,by omega⟩
  ·rw [if_neg h1] at h;cases h
theorem atI_get {xs:List α} {v:α} (h:atI xs i=some v):∃j,seqIndex? i xs.length=some j/\xs[j]?=some v/\j<xs.length/\-(xs.length:Int)≤i/\i<xs.length:=by
 unfold atI at h
 cases e:ixN xs.length i with
 | none=>rw [e] at h;cases h
 | some j=>
  rw [e] at h
  obtain ⟨h1,h2,h3,h4⟩:=ixN_seq e
  exact ⟨j,h1,h,h2,h3,h4⟩
theorem a_l {xs:List α} {j:Nat} {v:α} (h:xs[j]?=some v):atI xs (j:Int)=some v:=by
 have hj:j<xs.length:=(List.getElem?_eq_some_iff.mp h).1
 have e:ixN xs.length (j:Int)=some j:=by
  unfold ixN
  rw [if_pos (by omega),if_pos (by omega)];simp
 unfold atI;rw [e];exact h
theorem atI_last (xs:List α) (v:α):atI (xs++[v]) (-1)=some v:=by
 have hl:(xs++[v]).length=xs.length+1:=by simp
 have e:ixN (xs++[v]).length (-1)=some xs.length:=by
  unfold ixN
  rw [hl,if_neg (by decide),if_pos (by omega)]
  congr 1
  omega
 unfold atI
 rw [e]
 show (xs++[v])[xs.length]?=some v
 simp
def PlainIx (b:Expr):Prop:=∀o i,subscripted b false o i=operate [o,i] (getItem o i)
def IxR (X:Cx) (r:R2):Prop:=
 ∀(value slice:Expr) (pins:List (Addr×Obj)) (s:Shared) (σ:St) (H:Hp) (x y:V) (v u:Value) (Q:VK),Inv X pins σ H s->RelV x v->RelV y u->r x y H Q->
  subscripted slice false v u=operate [v,u] (getItem v u)->wpAny (model X.prog X.w) X.A (subscriptTail value slice v u) (EP X pins σ Q) X.xe s
def MtR (X:Cx) (id:String) (r:V->List V->Hp->VK->Prop):Prop:=
 ∀(pins:List (Addr×Obj)) (s:Shared) (σ:St) (H:Hp) (x:V) (xs:List V) (v:Value) (us:List Value) (Q:VK),Inv X pins σ H s->RelV x v->Vals xs us->r x xs H Q->
  wpAny (model X.prog X.w) X.A (call (.builtin id) (v::us)) (EP X pins σ Q) X.xe s
section
variable {X:Cx} {a b:Expr} {ta tb:TE} {pos:Pos}
theorem a_q (hr:IxR X r) (ha:PE X a ta) (hb:PE X b tb) (hs:PlainIx b):PE X (.Subscript a b pos) (tOp r ta tb):=by
 intro pins s σ H Q I h
 exact Subscript_ (binT ha hb I h fun v u s2 x y H2 I2 rx ry q=>hr a b pins s2 σ H2 x y v u Q I2 rx ry q (hs _ _))
def rIxL (K:PySem.W.Frag):R2:=fun x y H Q=>∃p xs i v,x=.ref p/\y=.int i/\SqL K H p xs/\atI xs i=some v/\Q v H
def rIxT (K:PySem.W.Frag):R2:=fun x y H Q=>∃p xs i v,x=.ref p/\y=.int i/\SqT K H p xs/\atI xs i=some v/\Q v H
def rIxS:R2:=fun x y H Q=>∃z i c,x=.str z/\y=.int i/\z.length≤sizeLine/\atI z.cps.toList i=some c/\Q (.str ⟨#[c]⟩) H
theorem a_P:IxR X (rIxL X.K):=by
 intro value slice pins s σ H x y v u Q I rx ry h hs
 obtain ⟨p,xs,i,z,rfl,rfl,hq,he,q⟩:=h
 cases rx
 obtain ⟨t,rfl⟩:=ry
 obtain ⟨its,r,pl,hz⟩:=I.list hq
 obtain ⟨j,h1,h2,h3,h4,h5⟩:=atI_get he
 obtain ⟨w,ew,rw'⟩:=r.get h2
 have hl:=r.length
 have hn:=line63
 have fin:EP X pins σ Q w s:=⟨z,H,I,rw',q⟩
 by_cases h0:0≤i
 ·have hj:i.toNat=j:=by
   rw [seqIndex_of h0 h5] at h1
   exact Option.some.inj h1
  exact item_listR pl.isList h0 (by omega) (by rw [hj];simpa using ew) fin hs
 ·have hj:(i+(its.toArray.size:Int)).toNat=j:=by
   rw [seqIndex_neg (by omega) h4] at h1
   rw [List.size_toArray,<- hl]
   exact Option.some.inj h1
  exact subscriptTail_builtinR (x:=w) pl.isList.typeIs slot_list_getitem.lookup
   (wpAny_getItem_list_neg (Q:=fun r s'=>r=w/\EP X pins σ Q r s') pl.isList (by omega) (by rw [List.size_toArray] <;> omega) (by omega) (by rw [hj];simpa using ew) ⟨rfl,fin⟩) hs
theorem a_w:IxR X (rIxT X.K):=by
 intro value slice pins s σ H x y v u Q I rx ry h hs
 obtain ⟨p,xs,i,z,rfl,rfl,hq,he,q⟩:=h
 cases rx
 obtain ⟨t,rfl⟩:=ry
 obtain ⟨its,r,pl,hz⟩:=I.tuple hq
 obtain ⟨j,h1,h2,h3,h4,h5⟩:=atI_get he
 obtain ⟨w,ew,rw'⟩:=r.get h2
 have hl:=r.length
 have hn:=line63
 have fin:EP X pins σ Q w s:=⟨z,H,I,rw',q⟩
 exact subscriptTail_builtinR (x:=w) pl.typeIs slot_tuple_getitem.lookup
  (getItem_tuple (j:=j) (Q:=fun r s'=>r=w/\EP X pins σ Q r s') pl (by omega) (by omega) (by rw [List.size_toArray,<- hl];exact h1) (by simpa using ew) ⟨rfl,fin⟩) hs
theorem ix_str:IxR X rIxS:=by
 intro value slice pins s σ H x y v u Q I rx ry h hs
 obtain ⟨z,i,c,rfl,rfl,hz,he,q⟩:=h
 obtain ⟨t,rfl⟩:=rx
 obtain ⟨t',rfl⟩:=ry
 obtain ⟨j,h1,h2,h3,h4,h5⟩:=atI_get he
 have hl:z.cps.toList.length=z.length:=by simp [Str.length]
 rw [hl] at h1 h4 h5
 have hn:=line63
 exact tail_any (typeIs_str s z t) slot_str_getitem.lookup (getItem_str (c:=c) (by
  have e1:decide (i < -(2 ^ 63:Int))=false:=decide_eq_false (by omega)
  have e2:decide (i ≥ 2 ^ 63)=false:=decide_eq_false (by omega)
  rw [e1,e2,Bool.or_false]) (by rw [h1];simpa using h2) ⟨.str ⟨#[c]⟩,H,I.tok _,⟨_,rfl⟩,q⟩) hs
theorem Inv.lst {σ:St} (I:Inv X pins σ H s) (h:H p=some (.lst xs)):
  ∃(its:List Value) (n:Nat),Vals xs its/\s.heap.get? p=some { cls:=.type "list",data:=.seq its.toArray n }/\xs.length≤sizeLine:=by
 obtain ⟨z,its,n,r,e⟩:=I.hok p _ h
 exact ⟨its,n,r,e,z⟩
theorem slice_bounds (lo hi:Option Int) (n:Nat):(sliceBounds lo hi none n).1=((HT.sIx n 0 lo:Nat):Int)/\(sliceBounds lo hi none n).2.1=((HT.sIx n n hi:Nat):Int)/\(sliceBounds lo hi none n).2.2=1:=by
 refine ⟨?_,?_,rfl⟩
 ·cases lo with
  | none=>simp [sliceBounds,HT.sIx]
  | some i=>
   simp only [sliceBounds,HT.sIx,Option.getD_none,show (1:Int) > 0 by decide,if_true]
   by_cases h:i<0
   ·simp only [h,if_true] <;> omega
   ·simp only [h,if_false] <;> omega
 ·cases hi with
  | none=>simp [sliceBounds,HT.sIx]
  | some i=>
   simp only [sliceBounds,HT.sIx,Option.getD_none,show (1:Int) > 0 by decide,if_true]
   by_cases h:i<0
   ·simp only [h,if_true] <;> omega
   ·simp only [h,if_false] <;> omega
theorem f_x (its:List Value) (lo hi:Option Int):slicePick its.toArray lo hi none=((its.drop (HT.sIx its.length 0 lo)).take (HT.sIx its.length its.length hi - HT.sIx its.length 0 lo)).toArray:=by
 obtain ⟨h1,h2,h3⟩:=slice_bounds lo hi its.toArray.size
 unfold slicePick
 rw [h1,h2,h3]
 simp only [sliceRange_one,pick_run,List.size_toArray] <;> rfl
def rSlL (K:PySem.W.Frag):V->Option Int->Option Int->Hp->VK->Prop:=fun x lo hi H Q=>∃a xs,x=.ref a/\SqL K H a xs/\∀p,H p=none->Q (.ref p) (upd H p (.lst (cutV xs lo hi)))
theorem sl_list:SlR X (rSlL X.K):=by
 intro pins s σ H x v vl vu lo hi sl Q I rx hs pl pu h
 obtain ⟨a,xs,rfl,hx,q⟩:=h
 cases rx
 obtain ⟨its,r,ht,hz⟩:=I.list hx
 have hlen:=r.length
 refine ⟨"list",_,slot_list_getitem.lookup,ht.isList.typeIs,?_⟩
 refine wpAny_getItem_list_slice ht.isList hs pl pu .none (by simp) ?_ (by rw [List.size_toArray] <;> omega)
 rw [f_x,<- hlen]
 refine ⟨.ref s.heap.objs.size,_,I.laid (t':=s.toks) (o:=.lst (cutV xs lo hi)) (fun b ob q=>Heap.get?_push_of_some _ q) (Nat.le_refl _) ?_,rfl,q _ (I.hok.fresh (Nat.le_refl _))⟩
 exact ⟨Nat.le_trans (e_D xs lo hi) hz,_,0,(r.drop (HT.sIx xs.length 0 lo)).take (HT.sIx xs.length xs.length hi - HT.sIx xs.length 0 lo),Heap.get?_push_size _ rfl⟩
def e_S:V->Bool
 | .non=>true
 | .bl _=>true
 | .int _=>true
 | .str _=>true
 | _=>false
def eqV:V->V->Bool
 | .non,.non=>true
 | .bl a,.bl b=>a==b
 | .bl a,.int b=>(if a then 1 else 0)==b
 | .int a,.bl b=>a==(if b then 1 else 0)
 | .int a,.int b=>a==b
 | .str a,.str b=>a==b
 | _,_=>false
theorem eqAt_V (ry:RelV y u) (rx:RelV x v) (fy:e_S y=true) (fx:e_S x=true):SeqAt.EqAt A s u v (eqV y x):=by
 cases y with
 | non=>
  cases ry
  cases x with
  | non=>cases rx;exact SeqAt.EqAt.same _
  | bl b=>cases rx;exact SeqAt.EqAt.none_bool b
  | int b=>obtain ⟨t,rfl⟩:=rx;exact SeqAt.EqAt.none_int b t
  | str b=>obtain ⟨t,rfl⟩:=rx;exact SeqAt.EqAt.none_str b t
  | _=>exact absurd (show false=true from fx) Bool.false_ne_true
 | bl a=>
  cases ry
  cases x with
  | non=>cases rx;exact SeqAt.EqAt.bool_none a
  | bl b=>cases rx;exact SeqAt.EqAt.bool_bool a b
  | int b=>obtain ⟨t,rfl⟩:=rx;exact SeqAt.EqAt.bool_int a b t
  | str b=>obtain ⟨t,rfl⟩:=rx;exact SeqAt.EqAt.bool_str a b t
  | _=>exact absurd (show false=true from fx) Bool.false_ne_true
 | int a=>
  obtain ⟨t',rfl⟩:=ry
  cases x with
  | non=>cases rx;exact SeqAt.EqAt.int_none a t'
  | bl b=>cases rx;exact SeqAt.EqAt.int_bool a t' b
  | int b=>obtain ⟨t,rfl⟩:=rx;exact SeqAt.EqAt.int_int a t' b t
  | str b=>obtain ⟨t,rfl⟩:=rx;exact SeqAt.EqAt.int_str a t' b t
  | _=>exact absurd (show false=true from fx) Bool.false_ne_true
 | str a=>
  obtain ⟨t',rfl⟩:=ry
  cases x with
  | non=>cases rx;exact SeqAt.EqAt.str_none a t'
  | bl b=>cases rx;exact SeqAt.EqAt.str_bool a t' b
  | int b=>obtain ⟨t,rfl⟩:=rx;exact SeqAt.EqAt.str_int a t' b t
  | str b=>obtain ⟨t,rfl⟩:=rx;exact SeqAt.EqAt.str_str a t' b t
  | _=>exact absurd (show false=true from fx) Bool.false_ne_true
 | _=>exact absurd (show false=true from fy) Bool.false_ne_true
def eqU (x:V) (u:Value):Bool:=match u with
 | .none=>eqV .non x
 | .bool b=>eqV (.bl b) x
 | .int i _=>eqV (.int i) x
 | .str z _=>eqV (.str z) x
 | _=>false
theorem eqU_of (r:RelV y u) (f:e_S y=true):eqU x u=eqV y x:=by
 cases y with
 | non=>cases r;rfl
 | bl b=>cases r;rfl
 | int i=>obtain ⟨t,rfl⟩:=r;rfl
 | str z=>obtain ⟨t,rfl⟩:=r;rfl
 | _=>exact absurd (show false=true from f) Bool.false_ne_true
theorem e_J {x:V}:∀{xs:List V} {us:List Value},Vals xs us->xs.all e_S=true->us.any (eqU x)=xs.any fun y=>eqV y x
 | _,_,.nil,_=>rfl
 | y::xs,u::us,.cons r t,f=>by
  rw [List.all_cons,Bool.and_eq_true] at f
  rw [List.any_cons,List.any_cons,eqU_of r f.1,e_J t f.2]
theorem mem_eqAt {A:Around} {s:Shared} {x:V} {v:Value} (rx:RelV x v) (fx:e_S x=true):∀{xs:List V} {us:List Value},Vals xs us->xs.all e_S=true->∀u∈us,SeqAt.EqAt A s u v (eqU x u)
 | _,_,.nil,_=>fun u hu=>by cases hu
 | y::xs,u::us,.cons r t,f=>fun u' hu=>by
  rw [List.all_cons,Bool.and_eq_true] at f
  rcases List.mem_cons.mp hu with rfl | hu
  ·rw [eqU_of r f.1];exact eqAt_V r rx f.1 fx
  ·exact mem_eqAt rx fx t f.2 u' hu
def inV (x:V) (xs:List V):Bool:=xs.any fun y=>eqV y x
def rIn (K:PySem.W.Frag) (neg:Bool):R2:=fun x y H Q=>∃p xs,y=.ref p/\(SqL K H p xs\/SqT K H p xs)/\e_S x=true/\xs.all e_S=true/\Q (.bl (if neg then !inV x xs else inV x xs)) H
theorem op_in_seq:OpR X (compareOp .In) (rIn X.K false):=by
 intro pins s σ H x y v u Q I rx ry h
 obtain ⟨p,xs,rfl,hq,fx,fs,q⟩:=h
 cases ry
 rcases hq with hq | hq
 ·obtain ⟨its,r,pl,hz⟩:=I.list hq
  refine SeqAt.in_listAt (eqU x) pl.isList (fun w hw=>mem_eqAt rx fx r fs w (by simpa using hw)) ⟨.bl _,H,I,rfl,?_⟩
  rw [show its.toArray.any (eqU x)=its.any (eqU x) by simp,e_J r fs]
  exact q
 ·obtain ⟨its,r,pl,hz⟩:=I.tuple hq
  refine SeqAt.in_tupleAt (eqU x) pl (fun w hw=>mem_eqAt rx fx r fs w (by simpa using hw)) ⟨.bl _,H,I,rfl,?_⟩
  rw [show its.toArray.any (eqU x)=its.any (eqU x) by simp,e_J r fs]
  exact q
theorem op_notIn_seq:OpR X (compareOp .NotIn) (rIn X.K true):=by
 intro pins s σ H x y v u Q I rx ry h
 obtain ⟨p,xs,rfl,hq,fx,fs,q⟩:=h
 cases ry
 rcases hq with hq | hq
 ·obtain ⟨its,r,pl,hz⟩:=I.list hq
  refine SeqAt.notIn_listAt (eqU x) pl.isList (fun w hw=>mem_eqAt rx fx r fs w (by simpa using hw)) ⟨.bl _,H,I,rfl,?_⟩
  rw [show its.toArray.any (eqU x)=its.any (eqU x) by simp,e_J r fs]
  exact q
 ·obtain ⟨its,r,pl,hz⟩:=I.tuple hq
  refine SeqAt.notIn_tupleAt (eqU x) pl (fun w hw=>mem_eqAt rx fx r fs w (by simpa using hw)) ⟨.bl _,H,I,rfl,?_⟩
  rw [show its.toArray.any (eqU x)=its.any (eqU x) by simp,e_J r fs]
  exact q
theorem a_t:e_T X (.builtin "len") (fun xs H Q=>∃p ys,xs=[.ref p]/\(SqL X.K H p ys\/SqT X.K H p ys)/\Q (.int ys.length) H):=by
 intro pins s σ H xs us Q I r h
 obtain ⟨p,ys,rfl,hq,q⟩:=h
 obtain ⟨u,rfl,rx⟩:=f_m r
 cases rx
 have hn:=line63
 rcases hq with hq | hq
 ·obtain ⟨its,r',pl,hz⟩:=I.list hq
  have hlen:=r'.length
  exact Calls.call_len_list pl.isList (by simp only [List.size_toArray] <;> omega) ⟨.int ys.length,H,I.tok _,⟨s.toks+1,by rw [List.size_toArray,hlen]⟩,q⟩
 ·obtain ⟨its,r',pl,hz⟩:=I.tuple hq
  have hlen:=r'.length
  exact len_tuple pl (by simp only [List.size_toArray] <;> omega) ⟨.int ys.length,H,I.tok _,⟨s.toks+1,by rw [List.size_toArray,hlen]⟩,q⟩
theorem a_F:e_T X (.builtin "len") (fun xs H Q=>∃z,xs=[.str z]/\z.length≤sizeLine/\Q (.int z.length) H):=by
 intro pins s σ H xs us Q I r h
 obtain ⟨z,rfl,hz,q⟩:=h
 obtain ⟨u,rfl,t,rfl⟩:=f_m r
 have hn:=line63
 exact len_str (by omega) ⟨.int z.length,H,I.tok _,⟨_,rfl⟩,q⟩
theorem a_o:e_T X (.type "tuple") (fun xs H Q=>∃p ys,xs=[.ref p]/\((SqL X.K H p ys/\∀l,H l=none->Q (.ref l) (upd H l (.tup ys)))\/(SqT X.K H p ys/\Q (.ref p) H))):=by
 intro pins s σ H xs us Q I r h
 obtain ⟨p,ys,rfl,h⟩:=h
 obtain ⟨u,rfl,rx⟩:=f_m r
 cases rx
 rcases h with ⟨hq,q⟩ | ⟨hq,q⟩
 ·obtain ⟨its,r',pl,hz⟩:=I.list hq
  have hlen:=r'.length
  refine call_tuple_list pl.isList (fun h' kp=>?_) (by simp only [List.size_toArray] <;> omega)
  have I1:Inv X pins σ H { s with heap:=h' }:=I.kept (t':=s.toks) kp
  have I2:Inv X pins σ (upd H h'.objs.size (.tup ys)) { s with heap:=h'.push { cls:=.type "tuple",data:=.seq its.toArray } }:=
   I1.laid (t':=s.toks) (fun b o e=>Heap.get?_push_of_some _ e) (Nat.le_refl _) (show b_b X.prog X.w _ _ _ (.tup ys) from ⟨hz,its,r',IsTup.new _ _⟩)
  exact ⟨.ref h'.objs.size,_,I2,rfl,q _ (I1.hok.fresh (Nat.le_refl _))⟩
 ·obtain ⟨its,r',pl,hz⟩:=I.tuple hq
  exact call_tuple_same pl ⟨.ref p,H,I,rfl,q⟩
def tyV (K:PySem.W.Frag) (T:String) (x:V) (H:Hp):Prop:=match x with
 | .str _=>T="str"
 | .int _=>T="int"
 | .ref p=>(T="list"/\∃xs,SqL K H p xs)\/(T="tuple"/\∃o,K.lookup p=some o/\o.cls=.type "tuple"/\o.dict=none) \/
   (T="dict"/\((∃kvs,H p=some (.dK kvs))\/∃kvs,H p=some (.dT kvs)))\/(T="set"/\∃S n,H p=some (.set S n))
 | _=>False
theorem tyV_is {σ:St} (I:Inv X pins σ H s) (r:RelV x v) (ty:tyV X.K T x H):
  s.TypeIs v T/\∀a,v=.ref a->∃ob,s.heap.get? a=some ob/\ob.dict=none:=by
 cases x with
 | str z=>
  obtain ⟨t,rfl⟩:=r
  cases (show T="str" from ty)
  exact ⟨typeIs_str s z t,fun _ e=>nomatch e⟩
 | int i=>
  obtain ⟨t,rfl⟩:=r
  cases (show T="int" from ty)
  exact ⟨typeIs_int s i t,fun _ e=>nomatch e⟩
 | ref p=>
  cases r
  rcases ty with ⟨rfl,xs,hq⟩ | ⟨rfl,o,hk,hc,hd⟩ | ⟨rfl,hk⟩ | ⟨rfl,S,n,hk⟩
  ·obtain ⟨its,_,pl,_⟩:=I.list hq
   refine ⟨pl.isList.typeIs,fun a e=>?_⟩
   cases e
   obtain ⟨o,n,e,c,hd,_⟩:=pl
   exact ⟨o,e,hd⟩
  ·refine ⟨⟨o,I.kIn p o hk,hc⟩,fun a e=>?_⟩
   cases e
   exact ⟨o,I.kIn _ o hk,hd⟩
  ·have z:∃o,s.heap.get? p=some o/\o.ExactDict:=by
    rcases hk with ⟨kvs,hk⟩ | ⟨kvs,hk⟩
    ·obtain ⟨_,_,_,_,o,_,_,e,ex,_⟩:=I.hok p _ hk
     exact ⟨o,e,ex⟩
    ·obtain ⟨_,_,_,_,o,_,_,e,ex,_⟩:=I.hok p _ hk
     exact ⟨o,e,ex⟩
   obtain ⟨o,e,ex⟩:=z
   refine ⟨⟨o,e,ex.1⟩,fun a e2=>?_⟩
   cases e2
   exact ⟨o,e,ex.2.1⟩
  ·obtain ⟨o,_,_,_,e,ex,_⟩:=I.hok p _ hk
   refine ⟨⟨o,e,ex.1⟩,fun a e2=>?_⟩
   cases e2
   exact ⟨o,e,ex.2.1⟩
 | _=>exact False.elim ty
def tBM (K:PySem.W.Frag) (T:String) (r:V->List V->Hp->VK->Prop) (to:TE) (t:TA):TE:=fun σ H Q=>to σ H fun x H1=>tyV K T x H1/\t σ H1 fun xs H2=>r x xs H2 Q
variable {o e:Expr} {es:List Expr} {to:TE} {t:TA} {name:Str} {apos cpos:Pos} {T id:String} {r:V->List V->Hp->VK->Prop}
theorem b_V (pa:PlainAttrs T) (slot:Slot T name id) (hty:typeOf (.builtin id)=pure (.type "method_descriptor")) (hm:MtR X id r) (ho:PE X o to) (ha:PA X (e::es) t)
  (hbase:attributeBase o name X.env (eval o X.env)=eval o X.env:=by rfl)
  (hfew:((backTo cpos (starEach (e::es) X.env)).all (fun x=>!x.1)&&(backToKw cpos (keywordEach [] X.env)).all (fun x=>x.1.isSome)
   && decide ((e::es).length+([]:List Keyword).length+(if ([]:List Keyword).isEmpty then 0 else 1)<30))=true:=by rfl)
  (hline:(apos.endLine==cpos.line)=true:=by rfl) (hs:starEach (e::es) X.env=(false,eval e X.env)::starEach es X.env:=by rfl) (hplain:(backTo cpos (starEach es X.env)).any (·.1)=false:=by rfl):
  PE X (.Call (.Attribute o name apos) (e::es) [] cpos) (tBM X.K T r to t):=by
 intro pins s σ H Q I h
 refine wpAny_Call_method_late hbase hfew hline rfl (thn (ho pins s σ H _ I h) fun v s1 ⟨x,H1,I1,r1,ty,q1⟩=>?_)
 obtain ⟨h1,h2⟩:=tyV_is I1 r1 ty
 refine ⟨T,id,pa,slot,hty,h1,h2,?_⟩
 have hA:=ha cpos pins s1 σ H1 _ I1 q1
 rw [hs] at hA ⊢
 refine Calls.callWith_builtin (by show (false || (backTo cpos (starEach es X.env)).any (·.1))=false;rw [hplain] <;> rfl) (Calls.evalArgs_plain ?_)
 exact thn hA fun us s2 ⟨vs,H2,I2,r2,q2⟩=>hm pins s2 σ H2 x vs v us Q I2 r1 r2 q2
end
def MtM (X:Cx) (id:String) (r:V->List V->Hp->VK->Prop):Prop:=
 ∀(pins:List (Addr×Obj)) (s:Shared) (σ:St) (H:Hp) (x:V) (xs:List V) (v:Value) (us:List Value) (Q:VK),Inv X pins σ H s->RelV x v->Vals xs us->r x xs H Q->
  wpAny (model X.prog X.w) X.A (call (.builtin id) (v::us)) (EP X pins σ Q) X.xe s
theorem Vals.one:∀{x:V} {us:List Value},Vals [x] us->∃u,us=[u]/\RelV x u
 | _,_,.cons r .nil=>⟨_,rfl,r⟩
theorem Vals.two:∀{x y:V} {us:List Value},Vals [x,y] us->∃u v,us=[u,v]/\RelV x u/\RelV y v
 | _,_,_,.cons r (.cons q .nil)=>⟨_,_,rfl,r,q⟩
section
variable {X:Cx} {pins:List (Addr×Obj)} {σ:St} {H:Hp} {s:Shared} {l b:Addr} {xs ys zs:List V}
theorem Inv.lset {its its':List Value} (I:Inv X pins σ H s) (hH:H l=some (.lst xs))
  (e:s.heap.get? l=some { cls:=.type "list",data:=.seq its.toArray n }) (hf:f its.toArray=its'.toArray) (hv:Vals ys its') (hz:ys.length≤sizeLine):
  Inv X pins σ (upd H l (.lst ys)) { s with heap:=s.heap.update l (Obj.mapSeq f),toks:=t' }:=by
 have q:=PySem.IsL.update e f
 rw [hf] at q
 refine I.write (x:=l) (e:=l) (by rw [hH];exact trivial) (.inl rfl) (fun b' u hb hu=>(Heap.get?_update_other s.heap (Obj.mapSeq f) (Ne.symm hb)).trans hu) ⟨_,q⟩ ?_
 exact ⟨hz,its',_,hv,q⟩
theorem Inv.lnew (I:Inv X pins σ H s) (hv:Vals ys its) (hz:ys.length≤sizeLine):
  Inv X pins σ (upd H s.heap.objs.size (.lst ys)) { s with heap:=s.heap.push { cls:=.type "list",data:=.seq its.toArray },toks:=t' }:=
 I.laid (fun _ _ q=>Heap.get?_push_of_some _ q) (Nat.le_refl _) ⟨hz,its,0,hv,Heap.get?_push_size _ rfl⟩
theorem Inv.fresh (I:Inv X pins σ H s):H s.heap.objs.size=none:=I.hok.fresh (Nat.le_refl _)
theorem Inv.lstM (I:Inv X pins σ H s) (hH:H l=some (.lst xs)):xs.length≤sizeLine/\∃(its:List Value) (n:Nat),Vals xs its/\xs.length=its.length/\s.heap.get? l=some { cls:=.type "list",data:=.seq its.toArray n }:=by
 obtain ⟨z,its,n,r,e⟩:=I.hok l _ hH
 exact ⟨z,its,n,r,r.length,e⟩
end
section
variable {X:Cx}
def rAppend:V->List V->Hp->VK->Prop:=fun x vs H Q=>∃l xs y,x=.ref l/\vs=[y]/\H l=some (.lst xs)/\xs.length<sizeLine/\Q .non (upd H l (.lst (xs++[y])))
theorem a_u:MtM X "list.append" rAppend:=by
 intro pins s σ H x vs v us Q I rx rv h
 obtain ⟨l,xs,y,rfl,rfl,hH,hz,q⟩:=h
 cases rx
 obtain ⟨u,rfl,ru⟩:=rv.one
 obtain ⟨z,its,n,r,hl,e⟩:=I.lstM hH
 refine call_meets F.slot_list_append ⟨_,e,rfl⟩ F.entry_list_append (F.args_list_append_2 _ _) (PySem.list_append l its.toArray n u (by rw [List.size_toArray];omega)) ⟨e,?_⟩
 refine ⟨.non,_,I.lset (its':=its++[u]) hH e (by simp) (r.append (.cons ru .nil)) ?_,rfl,q⟩
 rw [List.length_append,List.length_singleton]
 omega
def rCat:R2:=fun x y H Q=>∃l b xs zs,x=.ref l/\y=.ref b/\H l=some (.lst xs)/\H b=some (.lst zs)/\xs.length+zs.length≤sizeLine/\∀p,H p=none->Q (.ref p) (upd H p (.lst (xs++zs)))
theorem op_cat:OpR X (binaryOp .Add) rCat:=by
 intro pins s σ H x y v u Q I rx ry h
 obtain ⟨l,b,xs,zs,rfl,rfl,hH,hB,hz,q⟩:=h
 cases rx
 cases ry
 obtain ⟨z,its,n,r,hl,e⟩:=I.lstM hH
 obtain ⟨z2,its2,n2,r2,hl2,e2⟩:=I.lstM hB
 refine PySem.P.add_list e e2 ?_ (by rw [List.size_toArray,List.size_toArray];omega)
 have ea:its.toArray++its2.toArray=(its++its2).toArray:=by simp
 rw [ea]
 exact ⟨.ref _,_,I.lnew (t':=s.toks) (r.append r2) (by rw [List.length_append];omega),rfl,q _ I.fresh⟩
end
section
variable {prog:Program} {w:World} {A:Around} {E:Value->Shared->Prop} {s:Shared}
end
section
variable {X:Cx}
end
end L2
namespace Att
open PySem PySem.W PySem.Calls PyProof.Rows
theorem e_y:∀(ns:List Int) (vs:List Value),WellAll P h vs (ns.map WData.int)->IntsAre vs ns:=by
 intro ns
 induction ns with
 | nil=>
  intro vs w
  rw [List.map_nil] at w
  cases w
  exact .nil
 | cons n ns ih=>
  intro vs w
  rw [List.map_cons] at w
  cases w with
  | cons a b=>
   cases a
   exact .cons _ _ (ih _ b)
theorem script_of {l:OpenLaw} (hn:l.most=some n)
  (hpre:l.row.toRowW.claim.pre args=true) (hwl:WellAll P h vals args):
  ∃a vs ns,vals=[Value.ref a]/\args=[WData.list (ns.map WData.int)]/\h.get? a=some { cls:=.type "list",data:=.seq vs.toArray }/\IntsAre vs ns/\ns.length≤n:=by
 have hsh:WShape.hasAll [] args [.list .int]=true:=(pre_splitW hpre).1
 have hc:l.pre.holds [] { args:=args }=true:=(pre_splitW hpre).2
 obtain ⟨d,r,rfl,h1,h2⟩:=hasAllW_cons hsh
 obtain rfl:=hasAllW_nil h2
 obtain ⟨xs,rfl,h3⟩:=hasW_list h1
 obtain ⟨ns,rfl⟩:=items_int h3
 have hlen:ns.length≤n:=by
  unfold OpenLaw.pre at hc
  have h4:(WTm.not (.lt (.lit (.int (n:Int))) (.len (.arg 0)))).holds [] { args:=[.list (ns.map .int)] }=true:=by
   have h4:=(holds_andW hc).1
   rw [hn] at h4
   exact h4
  have h5:=condW_of h4 (w_not (w_lt w_lit (w_len_list (w_arg rfl))))
  rw [List.length_map] at h5
  refine Nat.le_of_not_lt fun q=>?_
  have q':(n:Int)<((ns.length:Nat):Int):=by omega
  first
   | (rw [decide_eq_true q'] at h5;exact absurd h5 (by decide))
   | (simp at h5;omega)
 cases hwl with
 | cons w1 w2=>
  cases w2
  cases w1 with
  | list ho hall=>exact ⟨_,_,ns,rfl,rfl,ho,e_y ns _ hall,hlen⟩
theorem post_true (l:OpenLaw) (args:List WData):l.row.toRowW.claim.post args (.bool true) args=true:=
 postW_of (r:=l.row.toRowW) (X:=(true==true))
  (show WShape.has [] (.bool true) .bool=true by first | rfl | decide | simp [WShape.has,WShape.arms,WShape.armsAll])
  (show (WTm.eq .res (.lit (.bool true))).value [] { args:=args,res:=some (.bool true),after:=args }=some (.bool (true==true)) from w_eq_bool (w_res rfl) w_lit) rfl
theorem attach_call {l:OpenLaw}
  (hn:l.most=some n) (hdf:d.params.defaults=[])
  (call:∀(w:World) (s₀ s₁:Shared) (mg mb:Str->Option Value) (fa:Addr) (o:Obj) (pm cd doc:Value) (a:Addr) (vs:List Value) (ns:List Int),
   Ground q loose [] XP w s₀ mg mb s₁.heap->YP w s₁.heap->
   s₁.heap.get? fa=some o->o.data=.func (docDef d.name d.params d.body d.scope pm cd doc)->s₁.heap.CodeRec cd d.name->mg d.name=some (.ref fa)->
   s₁.heap.get? a=some { cls:=.type "list",data:=.seq vs.toArray }->IntsAre vs ns->ns.length≤n->s₁.gens=#[]->
   codeAny (model l.prog w) callerA (.call (.ref fa) ⟨[.ref a],[]⟩) (fun r s'=>r=.ok (.ret (.bool true))/\OldK s₁.heap s'.heap/\s'.os=s₁.os/\AllBare s'.gens) s₁):
  WalkO q loose XP YP l.row.toRowW d [] (fun f vs=>PySem.call f vs):=by
 intro w s₀ s₁ mg mb G Y fa o pm cd doc dV kV ho hd hcd hD hmg hg args vals as hpre hlay hrd hwl hlo
 obtain rfl:dV=.none:=Dflts.none hD hdf
 obtain rfl:kV=.none:=Dflts.noKw hD
 obtain ⟨a,vs,ns,rfl,rfl,hobj,hints,hlen⟩:=script_of hn hpre hwl
 refine enter_call (codeAny_mono (call w s₀ s₁ mg mb fa o pm cd doc a vs ns G Y ho (fd_plain hd) hcd hmg hobj hints hlen hg) fun r s' hq=>?_)
 obtain ⟨rfl,h2,h3,h4⟩:=hq
 exact ⟨.inl ⟨.bool true,.bool true,[],rfl,fun _=>rfl,.bool true,post_true l _,fun _=>⟨List.Pairwise.nil,fun _ hm=>(nomatch hm)⟩⟩,h2,h3,h4⟩
section
variable {prog:Program} {w:World} {A:Around} {E:Value->Shared->Prop} {s:Shared} {K:Frag}
end
end Att
namespace L2
open PySem PySem.Spec PyProof.Rows
theorem d_V:∀{vs:List Value} {ns:List Int},IntsAre vs ns->Vals (ns.map V.int) vs
 | _,_,.nil=>.nil
 | _,_,.cons n t h=>.cons ⟨t,rfl⟩ (d_V h)
def Only (H:Hp):Prop:=∀b,H b=none\/∃o xs,H b=some (.frz o (.lst xs))
theorem law_call {P:Program} {w:World} {K:PySem.W.Frag} {mg mb:Str->Option Value}
  (KX:K.In s₁.heap) (hns:s₁.heap.Ns mainGlobals mg) (hb:s₁.heap.Ns builtinsNs mb) (hbb:∀x:Str,x≠"__name__"->mb x=bootBuiltins x) (hlim:s₁.heap.NoLimit) (hg:s₁.gens=#[])
  (ha:s₁.heap.get? a=some { cls:=.type "list",data:=.seq vs.toArray }) (hi:IntsAre vs ns) (hl:ns.length≤sizeLine) (hr:Room k callerA)
  (F:∀base:Heap,K.In base->base.Ns mainGlobals mg->FnOk P w K mg base CX k fa fd [x] sp) (hbind:∀(s:Shared) (u:Value),BindsTo s fd ⟨[u],[]⟩ [(x,u)])
  (hsp:∀H:Hp,Only H->SqL K H a (ns.map V.int)->sp [.ref a] H (fun v _=>v=.bl true) fun _ _ _=>False)
  (hCX:∀H e s',CX [] H s₁ (fun _ _ _=>False) e s'->False):
  codeAny (model P w) callerA (.call (.ref fa) ⟨[.ref a],[]⟩) (fun r s'=>r=.ok (.ret (.bool true))/\OldK s₁.heap s'.heap/\s'.os=s₁.os/\AllBare s'.gens) s₁:=by
 have rv:=d_V hi
 have lenV:=hi.length
 have core:∀H:Hp,Only H->SqL K H a (ns.map V.int)->HOk P w H s₁.heap->(∀b,H b≠none->b=a)->(H a≠none->K.lookup a=none)->
   codeAny (model P w) callerA (.call (.ref fa) ⟨[.ref a],[]⟩) (fun r s'=>r=.ok (.ret (.bool true))/\OldK s₁.heap s'.heap/\s'.os=s₁.os/\AllBare s'.gens) s₁:=by
  intro H hO hS hok hA hK
  have base_of:∀{b:Addr} {o:Obj},s₁.heap.get? b=some o->H b=none->(hidT s₁.heap H).get? b=some o:=fun e n=>hidT_get e n
  have noA:∀{b:Addr} {o:Obj} {es:Array DictEntry} {ep:Nat},s₁.heap.get? b=some o->o.data=.dict es ep->H b=none:=fun {b o es ep} e d=>by
   cases q:H b with
   | none=>rfl
   | some u=>
    have e':b=a:=hA b (by rw [q];simp)
    subst e'
    rw [ha] at e;cases e
    have d':Data.seq vs.toArray _=Data.dict es ep:=d
    cases d'
  have nsK:∀{b:Addr} {m:Str->Option Value},s₁.heap.Ns b m->(hidT s₁.heap H).Ns b m:=fun {b m} ⟨o,es,ep,e,d,r⟩=>⟨o,es,ep,base_of e (noA e d),d,r⟩
  have hKb:K.In (hidT s₁.heap H):=fun b o e=>base_of (KX b o e) (by
   cases q:H b with
   | none=>rfl
   | some u=>
    have e':b=a:=hA b (by rw [q];simp)
    subst e'
    rw [hK (by rw [q];simp)] at e;cases e)
  have hM:Mod K mg (hidT s₁.heap H):=⟨hKb,nsK hns,⟨mb,nsK hb,hbb⟩,let ⟨mc,h1,h2⟩:=hlim;⟨mc,nsK h1,h2⟩⟩
  have e0:Env0 P w K mg (hidT s₁.heap H) callerA [] s₁ H:=⟨rfl,hM,fun b o e=>of_hidT e,Nat.le_of_eq (hidT_size _ _),trivial,fun b hb=>absurd (show b∈([]:List Addr) from hb) (by simp),hok,.of_eq hg⟩
  refine codeAny_mono ((F _ hKb (nsK hns)).run callerA [] s₁ H ⟨[.ref a],[]⟩ [.ref a] [.ref a] _ _ hr e0 (hbind s₁ (.ref a)) (.cons rfl .nil) (hsp H hO hS)) fun r s' h=>?_
  cases r with
  | error e=>exact (hCX H e s' h).elim
  | ok fl=>
   cases fl with
   | next=>exact False.elim h
   | brk=>exact False.elim h
   | cont=>exact False.elim h
   | ret u=>
    obtain ⟨v,H',os,bare,un,hok',r',q⟩:=h
    have q':v=.bl true:=q
    subst q'
    obtain rfl:u=Value.bool true:=r'
    refine ⟨rfl,OldK.of_keep fun b o e=>?_,os,bare⟩
    cases q:H b with
    | none=>exact un.keep b o e q (by intro z;exact absurd (show b∈([]:List Addr) from z) (by simp)) (by simp)
    | some u=>
     rcases hO b with z | ⟨ob,xs,z⟩
     ·rw [q] at z;cases z
     ·have z2:=un.frzs b ob _ z
      obtain ⟨e1,_⟩:=hok b _ z
      obtain ⟨e2,_⟩:=hok' b _ z2
      rw [e] at e1;cases e1
      exact e2
 cases hk:K.lookup a with
 | some o=>
  have e:=KX a o hk
  rw [ha] at e
  cases e
  refine core (fun _=>none) (fun _=>.inl rfl) (.inr ⟨_,vs.toArray,_,hk,rfl,rfl,rfl,by rw [List.size_toArray,lenV];exact hl,by simpa using rv⟩) (fun b u z=>by have z':(none:Option HO)=some u:=z;cases z') (fun b z=>absurd rfl z) fun z=>absurd rfl z
 | none=>
  refine core (fun b=>if b=a then some (.frz { cls:=.type "list",data:=.seq vs.toArray } (.lst (ns.map V.int))) else none) (fun b=>?_) (.inl (.inr ⟨{ cls:=.type "list",data:=.seq vs.toArray },if_pos rfl⟩)) (fun b u z=>?_) (fun b z=>?_) fun _=>hk
  ·by_cases hb:b=a
   ·exact .inr ⟨_,_,if_pos hb⟩
   ·exact .inl (if_neg hb)
  ·by_cases hb:b=a
   ·have z':=(if_pos hb).symm.trans z
    cases z'
    subst hb
    exact ⟨ha,by rw [List.length_map];exact hl,vs,_,rv,ha⟩
   ·have z':=(if_neg hb).symm.trans z
    cases z'
  ·by_cases hb:b=a
   ·exact hb
   ·exact absurd (if_neg hb) z
theorem walk_of {l:PySem.W.OpenLaw} {n k:Nat} {K:Params->PySem.W.Frag} {CX:World->CXT} {sp:World->Sp}
  (hn:l.most=some n) (hn2:n≤sizeLine) (hdf:d.params.defaults=[]) (hr:Room k callerA)
  (hY:∀(w:World) (h:Heap),YP w h->(K w.params).In h)
  (F:∀(w:World) (mg:Str->Option Value) (fa:Addr) (h:Heap),(K w.params).In h->h.Ns mainGlobals mg->mg d.name=some (.ref fa)->
   ∃fd:FuncData,(∀(s:Shared) (u:Value),BindsTo s fd ⟨[u],[]⟩ [(x,u)])/\
    ∀base:Heap,(K w.params).In base->base.Ns mainGlobals mg->FnOk l.prog w (K w.params) mg base (CX w) k fa fd [x] (sp w))
  (hsp:∀(w:World) (H:Hp) (a:Addr) (ns:List Int),ns.length≤n->Only H->SqL (K w.params) H a (ns.map V.int)->sp w [.ref a] H (fun v _=>v=.bl true) fun _ _ _=>False)
  (hCX:∀(w:World) (H:Hp) (s:Shared) (e:Value) (s':Shared),CX w [] H s (fun _ _ _=>False) e s'->False):
  PySem.W.WalkO q loose XP YP l.row.toRowW d [] (fun f vs=>PySem.call f vs):=by
 refine Att.attach_call hn hdf fun w s₀ s₁ mg mb fa o pm cd doc a vs ns G Y ho hd hcd hmg hobj hints hlen hg=>?_
 have KX:=hY w _ Y
 obtain ⟨fd,hb,hF⟩:=F w mg fa _ KX G.T.g hmg
 exact law_call KX G.T.g G.T.b G.T.builtins G.T.nolimit hg hobj hints (Nat.le_trans hlen hn2) hr hF hb (fun H hO hS=>hsp w H a ns hlen hO hS) fun H e s'=>hCX w H s₁ e s'
def inClass (s:Stmt) (j:Nat):Stmt:=match s with
 | .ClassDef _ _ _ body _ _ _ _ _ _ _=>body.getD j (.Pass ⟨0,0,0,0⟩)
 | _=>.Pass ⟨0,0,0,0⟩
def a_j (s:Stmt):Arguments:=match s with
 | .FunctionDef _ a _ _ _ _ _ _ _ _=>a
 | _=>{ posonlyargs:=[],args:=[],vararg:=none,kwonlyargs:=[],kw_defaults:=[],kwarg:=none,defaults:=[] }
def a_h (s:Stmt):List Stmt:=match s with
 | .FunctionDef _ _ b _ _ _ _ _ _ _=>b
 | _=>[]
def a_d (s:Stmt):Scope:=match s with
 | .FunctionDef _ _ _ _ _ _ sc _ _ _=>sc
 | _=>{ kind:=.function,names:=[],isGenerator:=false,isCoroutine:=false }
abbrev CX0:CXT:=fun _ _ _ _ _ _=>False
abbrev E0:XK:=fun _ _ _=>False
theorem pass0:Passes CX0 X E0:=fun _ _ _ _ _ _ _ h=>h.elim
structure Fun (K:PySem.W.Frag) (x qual:Str) (st:Stmt) (f:Addr) (fd:FuncData):Prop where
 ex:∃(oc:Value) (od:Option Addr) (kV doc pm:Value) (an:Option Addr) (cdv ct:Value) (osl:Array (Option Value)),
  fd=PySem.W.fnOf x qual (a_j st) (a_h st) (a_d st) .none kV doc pm an cdv ct/\K.lookup f=some ⟨oc,od,.func fd,osl⟩/\PySem.W.codeIn K cdv qual=true
 kp:PySem.W.keepIn K (.ref f)=true
section
variable {P:Program} {w:World} {K:PySem.W.Frag} {mg:Str->Option Value} {base:Heap}
theorem Fun.ok {st:Stmt} (F:Fun K x qual st f fd) (S:a_r N ps (a_d st)) (len:∀vs H Q E,sp vs H Q E->vs.length=ps.length)
  (hbody:∀(cdv:Value) (A:Around) (outer:List Env) (s:Shared) (H:Hp) (vs:List V) (Q:VK) (E:XK),Room k (A.deeper (envOfC qual (a_d st) s.heap.objs.size f cdv))->sp vs H Q E->
   ∃t,PSs (cxOf CX0 P w K mg base N qual (a_d st) f cdv A outer s H E).nox (a_h st) t/\t { nx:=fun _ H'=>Q .non H',rt:=Q } (start N vs) H):FnOk P w K mg base CX0 (k+1) f fd ps sp:=by
 obtain ⟨oc,od,kV,doc,pm,an,cdv,ct,osl,rfl,lk,hcd⟩:=F.ex
 refine fn_of lk hcd S len fun A outer s H vs Q E hr hsp=>?_
 obtain ⟨t,h,q⟩:=hbody cdv A outer s H vs Q E hr hsp
 exact ⟨t,h.nox,q⟩
theorem Fun.binds {st:Stmt} (F:Fun K x qual st f fd)
  (h:∀(kV doc pm:Value) (an:Option Addr) (cdv ct:Value) (us:List Value),us.length=ps.length->bindArgs (PySem.W.fnOf x qual (a_j st) (a_h st) (a_d st) .none kV doc pm an cdv ct) ⟨us,[]⟩=pure (ps.zip us)):d_e K fd ps []:=by
 obtain ⟨oc,od,kV,doc,pm,an,cdv,ct,osl,rfl,lk,hcd⟩:=F.ex
 exact .all (h kV doc pm an cdv ct)
theorem a_J {st:Stmt} {kV doc pm cdv ct:Value} (l:K.lookup f=some ⟨oc,od,.func (PySem.W.fnOf x qual (a_j st) (a_h st) (a_d st) .none kV doc pm an cdv ct),osl⟩)
  (c:PySem.W.codeIn K cdv qual=true) (k:PySem.W.keepIn K (.ref f)=true):Fun K x qual st f (PySem.W.fnOf x qual (a_j st) (a_h st) (a_d st) .none kV doc pm an cdv ct):=⟨⟨oc,od,kV,doc,pm,an,cdv,ct,osl,rfl,l,c⟩,k⟩
end
theorem a_I (h:n≤1000):n<sizeLine:=Nat.lt_of_le_of_lt h (by decide)
section
variable {X:Cx}
theorem pv (i:Nat) {pos:Pos} (hN:X.N[i]?=some x:=by rfl) (hv:Vis X.env.scope x:=by first | exact Or.inl rfl | exact Or.inr (Or.inl rfl) | exact Or.inr (Or.inr rfl)) (hd:(x==("__debug__":Str))=false:=by decide)
  (hcd:(x==("__classdict__":Str))=false:=by decide):PE X (.Name x pos) (tVar i):=pe_var hN hv hd hcd
end
theorem iteF {A B:Prop} (h:B):if false=true then A else B:=by
 rw [if_neg Bool.false_ne_true]
 exact h
theorem iteT {A B:Prop} (h:A):if true=true then A else B:=by
 rw [if_pos rfl]
 exact h
theorem e_R {c A B:Prop} [Decidable c] (hc:c) (h:B):if (!decide c)=true then A else B:=by
 rw [decide_eq_true hc]
 exact iteF h
def Same (H H':Hp):Prop:=∀b o,H b=some o->H' b=some o
theorem Same.refl (H:Hp):Same H H:=fun _ _ h=>h
theorem Same.trans (a:Same H H1) (b:Same H1 H2):Same H H2:=fun c o h=>b c o (a c o h)
theorem Same.seq {K:PySem.W.Frag} (e:Same H H') (h:SqL K H a xs):SqL K H' a xs:=by
 rcases h with (h | ⟨o,h⟩) | h
 ·exact .inl (.inl (e _ _ h))
 ·exact .inl (.inr ⟨o,e _ _ h⟩)
 ·exact .inr h
end L2
set_option Elab.async false
set_option maxRecDepth 100000
set_option maxHeartbeats 4000000
namespace L2
open PySem PySem.Spec PyProof.Rows
def Its (x:Str):It:=⟨fun i _=>i<x.length,fun i H v H'=>H'=H/\∃c,x.cps[i]?=some c/\v=.str ⟨#[c]⟩,fun i _=>x.length≤i⟩
theorem turn_strA {K:PySem.W.Frag} (x:Str) (t:Tok) (it:Addr):Turn P w K tg (Its x) [it] it (fun i h=>h.IsStrIter it "str_ascii_iterator" x t i)  where
 mem:=by simp
 obj:=fun i h st b hb=>by
  have e:b=it:=by simpa using hb
  subst e
  obtain ⟨o,e,c,d⟩:=st
  exact ⟨o,e,fun v z=>by rw [d] at z;cases z⟩
 keep:=fun i h h' st k=>by
  obtain ⟨o,e,r⟩:=st
  exact ⟨o,k it (by simp) o e,r⟩
 item:=by
  intro X hP hw hK hc i pins s σ H E I hf st hg
  subst hP hw hK
  have hg:i<x.cps.size:=hg
  obtain ⟨f0,f1,f2,f3,f4,f5⟩:=hf it (by simp)
  refine wpAny_pyNext_ascii_item st (c:=x.cps[i]) (by simp [hg]) fun h' st' sb=>?_
  have I1:Inv X pins σ H { s with heap:=h',toks:=s.toks+1 }:=I.turned (t':=s.toks+1) (fun b o hb e=>(sb.2 b hb).trans e) f0 f1 f3 f4 f5
  obtain ⟨o,e,c,d⟩:=id st'
  exact ⟨_,rfl,go_of (s:={ s with heap:=h',toks:=s.toks+1 }) e c d (by decide) ⟨.str ⟨#[x.cps[i]]⟩,H,I1,⟨_,rfl⟩,⟨rfl,_,by simp [hg],rfl⟩,st',fun b hb=>(hf b hb).1⟩⟩
 done:=by
  intro X hP hw hK hc i pins s σ H E I hf st hg
  subst hP hw hK
  have hg:x.cps.size≤i:=hg
  obtain ⟨f0,f1,f2,f3,f4,f5⟩:=hf it (by simp)
  exact wpAny_pyNext_ascii_end (I.ok.hd hc) st (by simp [hg]) fun h' eb=>⟨rfl,I.turned (t':=s.toks) (fun b o hb e=>eb b o hb e) f0 f1 f3 f4 f5⟩
 self:=fun _ _ _ _ _ st h=>wpAny_pyIter_striter_ascii st h
theorem turn_strW {K:PySem.W.Frag} (x:Str) (t:Tok) (it:Addr):Turn P w K tg (Its x) [it] it (fun i h=>h.IsStrIter it "str_iterator" x t i)  where
 mem:=by simp
 obj:=fun i h st b hb=>by
  have e:b=it:=by simpa using hb
  subst e
  obtain ⟨o,e,c,d⟩:=st
  exact ⟨o,e,fun v z=>by rw [d] at z;cases z⟩
 keep:=fun i h h' st k=>by
  obtain ⟨o,e,r⟩:=st
  exact ⟨o,k it (by simp) o e,r⟩
 item:=by
  intro X hP hw hK hc i pins s σ H E I hf st hg
  subst hP hw hK
  have hg:i<x.cps.size:=hg
  obtain ⟨f0,f1,f2,f3,f4,f5⟩:=hf it (by simp)
  refine wpAny_pyNext_wide_item st (c:=x.cps[i]) (by simp [hg]) fun h' st' sb=>?_
  have I1:Inv X pins σ H { s with heap:=h',toks:=s.toks+1 }:=I.turned (t':=s.toks+1) (fun b o hb e=>(sb.2 b hb).trans e) f0 f1 f3 f4 f5
  obtain ⟨o,e,c,d⟩:=id st'
  exact ⟨_,rfl,go_of (s:={ s with heap:=h',toks:=s.toks+1 }) e c d (by decide) ⟨.str ⟨#[x.cps[i]]⟩,H,I1,⟨_,rfl⟩,⟨rfl,_,by simp [hg],rfl⟩,st',fun b hb=>(hf b hb).1⟩⟩
 done:=by
  intro X hP hw hK hc i pins s σ H E I hf st hg
  subst hP hw hK
  have hg:x.cps.size≤i:=hg
  obtain ⟨f0,f1,f2,f3,f4,f5⟩:=hf it (by simp)
  exact wpAny_pyNext_wide_end (I.ok.hd hc) st (by simp [hg]) fun h' eb=>⟨rfl,I.turned (t':=s.toks) (fun b o hb e=>eb b o hb e) f0 f1 f3 f4 f5⟩
 self:=fun _ _ _ _ _ st h=>wpAny_pyIter_striter_wide st h
def iStr (tl:TE):TI:=fun σ H R=>tl σ H fun v H1=>∃x,v=.str x/\R (Its x) H1
theorem d_J (hl:PE X l tl):PI X tg l (iStr tl):=by
 intro pins s σ H R I h
 refine thn (hl pins s σ H _ I h) fun v s1 ⟨y,H1,I1,r1,q1⟩=>?_
 obtain ⟨x,rfl,q⟩:=q1
 obtain ⟨t,rfl⟩:=r1
 cases ha:x.cps.all (· < 128)
 ·refine wpAny_pyIter_wide ha ?_
  refine ⟨s1.heap.objs.size,[s1.heap.objs.size],_,_,H1,rfl,I1.kept (t':=s1.toks) fun b o e=>Heap.get?_push_of_some _ e,turn_strW x t _,⟨_,Heap.get?_push_size _ rfl,rfl,rfl⟩,fun b hb=>?_,q⟩
  have e:b=s1.heap.objs.size:=by simpa using hb
  subst e
  exact I1.fpOk (Nat.le_refl _) (I1.hok.fresh (Nat.le_refl _))
 ·refine wpAny_pyIter_ascii ha ?_
  refine ⟨s1.heap.objs.size,[s1.heap.objs.size],_,_,H1,rfl,I1.kept (t':=s1.toks) fun b o e=>Heap.get?_push_of_some _ e,turn_strA x t _,⟨_,Heap.get?_push_size _ rfl,rfl,rfl⟩,fun b hb=>?_,q⟩
  have e:b=s1.heap.objs.size:=by simpa using hb
  subst e
  exact I1.fpOk (Nat.le_refl _) (I1.hok.fresh (Nat.le_refl _))
theorem e_B {g:TG} {tb:TS} {D:Ends} (Pv:Nat->St->Hp->Prop) (h0:Pv 0 σ H)
  (hs:∀i c σ H,x.cps[i]?=some c->Pv i σ H->g (.str ⟨#[c]⟩) σ H fun σ2 H2=>tb { D with nx:=Pv (i+1),ct:=Pv (i+1),bk:=D.nx } σ2 H2) (hd:∀ σ H,Pv x.length σ H->D.nx σ H):
  ∃W:Nat->Nat->St->Hp->Prop,(∃m,W 0 m σ H)/\∀i m σ H,W i m σ H->
   ((Its x).stop i H/\D.nx σ H)\/((Its x).go i H/\∃N:St->Hp->Prop,(∀ σ' H',N σ' H'->∃m',m'<m/\W (i+1) m' σ' H')/\∀y H',(Its x).yld i H y H'->g y σ H' fun σ2 H2=>tb { D with nx:=N,ct:=N,bk:=D.nx } σ2 H2):=by
 refine ⟨fun i m σ H=>m=x.length - i/\i≤x.length/\Pv i σ H,⟨x.length,by simp,Nat.zero_le _,h0⟩,?_⟩
 rintro i m σ H ⟨rfl,hi,p⟩
 by_cases hlt:i<x.length
 ·refine .inr ⟨hlt,Pv (i+1),fun σ' H' p'=>⟨x.length - (i+1),by omega,rfl,hlt,p'⟩,fun y H' q=>?_⟩
  obtain ⟨e,c,hc,e2⟩:=q
  subst e e2
  exact hs i c σ _ hc p
 ·have e:i=x.length:=by omega
  subst e
  exact .inl ⟨Nat.le_refl _,hd σ H p⟩
section
variable {X:Cx}
def rSlS:V->Option Int->Option Int->Hp->VK->Prop:=fun x lo hi H Q=>∃z,x=.str z/\z.length≤sizeLine/\Q (.str (Txt.slice z lo hi)) H
theorem sl_str:SlR X rSlS:=by
 intro pins s σ H x v vl vu lo hi sl Q I rx hs pl pu h
 obtain ⟨z,rfl,hz,q⟩:=h
 obtain ⟨t,rfl⟩:=rx
 refine ⟨"str",_,PySem.F.slot_str_getitem.lookup,typeIs_str _ _ _,?_⟩
 have fin:∀t' k,EP X pins σ Q (.str (Txt.slice z lo hi) t') { s with toks:=k }:=fun t' k=>⟨.str _,H,I.tok k,⟨t',rfl⟩,q⟩
 obtain ⟨o,ho,hc,hd⟩:=hs
 cases pl with
 | none=>
  cases pu with
  | none=>exact wpAny_getItem_str_slice (l:=none) (u:=none) (st:=none) ⟨o,ho,hc,hd⟩ rfl (post_val_or_str ⟨Nat.le_trans (Txt.slice_le z _ _) hz,fun t' k=>fin t' k⟩)
  | int j uj=>exact wpAny_getItem_str_slice (l:=none) (u:=some (j,uj)) (st:=none) ⟨o,ho,hc,hd⟩ rfl (post_val_or_str ⟨Nat.le_trans (Txt.slice_le z _ _) hz,fun t' k=>fin t' k⟩)
 | int i ui=>
  cases pu with
  | none=>exact wpAny_getItem_str_slice (l:=some (i,ui)) (u:=none) (st:=none) ⟨o,ho,hc,hd⟩ rfl (post_val_or_str ⟨Nat.le_trans (Txt.slice_le z _ _) hz,fun t' k=>fin t' k⟩)
  | int j uj=>exact wpAny_getItem_str_slice (l:=some (i,ui)) (u:=some (j,uj)) (st:=none) ⟨o,ho,hc,hd⟩ rfl (post_val_or_str ⟨Nat.le_trans (Txt.slice_le z _ _) hz,fun t' k=>fin t' k⟩)
theorem mt_find:MtR X "str.find" (fun x xs H Q=>∃z y,x=.str z/\xs=[.str y]/\Q (.int (Txt.find z y)) H):=by
 intro pins s σ H x xs v us Q I rx rs h
 obtain ⟨z,y,rfl,rfl,q⟩:=h
 obtain ⟨t,rfl⟩:=rx
 obtain ⟨u,rfl,t',rfl⟩:=f_m rs
 exact SC.find ⟨.int _,H,I.tok _,⟨_,rfl⟩,q⟩
theorem e_V:∀{ys:List Str} {us:List Value},Vals (ys.map V.str) us->StrsAre us ys
 | [],_,r=>by cases r;exact .nil
 | y::ys,_,r=>by
  cases r with
  | cons a b=>
   obtain ⟨t,rfl⟩:=a
   exact .cons y t (e_V b)
def rJoin (K:PySem.W.Frag):V->List V->Hp->VK->Prop:=fun x xs H Q=>∃z p ys,x=.str z/\xs=[.ref p]/\SqL K H p (ys.map V.str)/\(ys.map (·.length)).sum+ys.length * z.length≤16777216/\Q (.str (Txt.join z ys)) H
theorem mt_join:MtR X "str.join" (rJoin X.K):=by
 intro pins s σ H x xs v us Q I rx rs h
 obtain ⟨z,p,ys,rfl,rfl,hp,hz,q⟩:=h
 obtain ⟨t,rfl⟩:=rx
 obtain ⟨u,rfl,e⟩:=f_m rs
 cases e
 obtain ⟨its,rv,pl,_⟩:=I.list hp
 exact join_list pl.isList (by simpa using e_V rv) hz fun t' k=>⟨.str _,H,I.tok k,⟨t',rfl⟩,q⟩
theorem e_I:e_T X (.builtin "isinstance") (fun xs H Q=>∃x t,xs=[x,.ty T]/\TyOf X.K H x t/\PySem.W.kitOne X.K t (.type T)=some b/\Q (.bl b) H):=by
 intro pins s σ H xs us Q I r h
 obtain ⟨x,t,rfl,ty,e,q⟩:=h
 obtain ⟨u,w',rfl,rx,ry⟩:=vals2 r
 cases ry
 exact isinst_ok I rx ty e fun tk=>⟨.bl b,H,I.tok tk,rfl,q⟩
end
def cxComp (X:Cx) (x:Str) (sc:Scope) (cl:List (Str×Addr)) (C:Addr) (fp:List Addr) (s:Shared) (H:Hp):Cx where
 prog:=X.prog
 w:=X.w
 K:=X.K
 mg:=X.mg
 base:=X.base
 A:=X.A
 N:=x::X.N
 s₀:=s
 H₀:=H
 env:=compEnvC sc cl C X.env
 outer:=X.stack
 stack:=X.stack
 ex:=fp
 fn:=fun _=>false
 calm:=X.calm
 pn:=[]
 xe:=fun _ _=>False
def PTs (X:Cx) (ifs:List Expr) (t:TT):Prop:=
 ∀(pins:List (Addr×Obj)) (s:Shared) (σ:St) (H:Hp) (Q:Bool->Hp->Prop),Inv X pins σ H s->t σ H Q->
  wpAny (model X.prog X.w) X.A (forIn ifs true fun c r=>if r=true then do let ok <- isTrue c X.env (eval c X.env);pure (ForInStep.yield ok) else pure (ForInStep.yield r)) (TP X pins σ Q) X.xe s
def tAlways:TT:=fun _ H Q=>Q true H
theorem tAlways_if {A B:Hp->Prop} (h:A H):tAlways σ H (fun b H4=>if b=true then A H4 else B H4):=iteT (A:=A H) (B:=B H) h
theorem b_E:PTs X [] tAlways:=fun _ _ _ H _ I h=>wpAny_tests_nil ⟨H,I,h⟩
theorem f_F (h:PT X c t):PTs X [c] t:=fun pins s σ H Q I hw=>wpAny_tests_one (h pins s σ H Q I hw)
def tComp (wi:TI) (tt:TT) (te:TE):TE:=fun σ H Q=>wi σ H fun J H1=>∀D,H1 D=none->∃W:Nat->Nat->List V->Hp->Prop,
 (∃m,W 0 m [] (upd H1 D (.lst [])))/\∀i m ys H2,W i m ys H2->H2 D=some (.lst ys)/\((J.stop i H2/\Q (.ref D) H2)\/(J.go i H2/\ys.length<sizeLine/\∀x H3,J.yld i H2 x H3->
  tt (some x::σ) H3 fun b H4=>if b=true then te (some x::σ) H4 fun y H5=>H5 D=some (.lst ys)/\∃m',m'<m/\W (i+1) m' (ys++[y]) (upd H5 D (.lst (ys++[y])))
   else ∃m',m'<m/\W (i+1) m' ys H4))
theorem neA {a b:Nat} (h:a≠b):(show Addr from a)≠(show Addr from b):=h
theorem b_P (hf:∀y∈sc.names,y.2=.free->∃c,env.cells.lookup y.1=some c):
  ∃cl,closureFor sc env=pure cl/\(∀y c,cl.lookup y=some c->env.cells.lookup y=some c)/\∀y∈sc.names,y.2=.free->∃c,cl.lookup y.1=some c:=by
 have go:∀(l:List (Str×NameKind)) (acc:List (Str×Addr)),(∀y∈l,y.2=.free->∃c,env.cells.lookup y.1=some c)->(∀y c,acc.lookup y=some c->env.cells.lookup y=some c)->
   ∃cl,(forIn l acc fun (p:Str×NameKind) r=>if (p.2==.free)=true then do let a <- cellOf env p.1;pure (ForInStep.yield ((p.1,a)::r)) else pure (ForInStep.yield r):Sem (List (Str×Addr)))=pure cl/\
    (∀y c,cl.lookup y=some c->env.cells.lookup y=some c)/\(∀y c,acc.lookup y=some c->∃c',cl.lookup y=some c')/\∀y∈l,y.2=.free->∃c,cl.lookup y.1=some c:=by
  intro l
  induction l with
  | nil=>intro acc _ ha;exact ⟨acc,rfl,ha,fun y c e=>⟨c,e⟩,fun y hy=>by simp at hy⟩
  | cons p r ih=>
   intro acc hl ha
   obtain ⟨n,k⟩:=p
   by_cases hk:k=.free
   ·subst hk
    obtain ⟨c,hc⟩:=hl (n,.free) List.mem_cons_self rfl
    have e1:cellOf env n=pure c:=by unfold cellOf;rw [hc]
    have ha':∀y c',((n,c)::acc).lookup y=some c'->env.cells.lookup y=some c':=fun y c' e=>by
     by_cases hy:(y==n)=true
     ·rw [List.lookup_cons,hy] at e
      cases e
      rw [eq_of_beq hy]
      exact hc
     ·rw [List.lookup_cons,Bool.eq_false_iff.mpr hy] at e
      exact ha y c' e
    obtain ⟨cl,h1,h2,h3,h4⟩:=ih ((n,c)::acc) (fun y hy=>hl y (List.mem_cons_of_mem _ hy)) ha'
    have kept:∀y c',acc.lookup y=some c'->∃c'',((n,c)::acc).lookup y=some c'':=fun y c' e=>by
     by_cases hy:(y==n)=true
     ·exact ⟨c,by rw [List.lookup_cons,hy]⟩
     ·exact ⟨c',by rw [List.lookup_cons,Bool.eq_false_iff.mpr hy];exact e⟩
    refine ⟨cl,?_,h2,fun y c' e=>?_,fun y hy hyf=>?_⟩
    ·rw [List.forIn_cons]
     simp only [beq_self_eq_true,if_true,e1,pure_bind]
     exact h1
    ·obtain ⟨c'',e'⟩:=kept y c' e
     exact h3 y c'' e'
    ·rcases List.mem_cons.mp hy with rfl | hy
     ·exact h3 n c (by rw [List.lookup_cons,beq_self_eq_true])
     ·exact h4 y hy hyf
   ·have hb:(k==NameKind.free)=false:=by simpa using hk
    obtain ⟨cl,h1,h2,h3,h4⟩:=ih acc (fun y hy=>hl y (List.mem_cons_of_mem _ hy)) ha
    refine ⟨cl,?_,h2,h3,fun y hy hyf=>?_⟩
    ·rw [List.forIn_cons]
     simp only [hb,Bool.false_eq_true,if_false,pure_bind]
     exact h1
    ·rcases List.mem_cons.mp hy with rfl | hy
     ·exact absurd hyf hk
     ·exact h4 y hy hyf
 obtain ⟨cl,h1,h2,_,h4⟩:=go sc.names [] hf (fun y c e=>by simp at e)
 refine ⟨cl,?_,h2,h4⟩
 show ((forIn sc.names [] fun (p:Str×NameKind) r=>if (p.2==.free)=true then do let a <- cellOf env p.1;pure (ForInStep.yield ((p.1,a)::r)) else pure (ForInStep.yield r):Sem (List (Str×Addr))) >>= fun s=>pure s)=pure cl
 rw [bind_pure,h1]
theorem relabel_lookup (h:(relabel sc env).names.lookup y=some k):sc.names.lookup y=some k\/(k=.cell/\sc.names.lookup y=some .free/\env.kindOf y=some .cell):=by
 have go:∀(l:List (Str×NameKind)),(l.map fun (n,k)=>if (k==.free&&env.scope.kind==.function&&env.kindOf n==some .cell) then (n,NameKind.cell) else (n,k)).lookup y=some k->
   l.lookup y=some k\/(k=.cell/\l.lookup y=some .free/\env.kindOf y=some .cell):=by
  intro l
  induction l with
  | nil=>intro h;simp at h
  | cons p r ih=>
   obtain ⟨n,kk⟩:=p
   intro h
   simp only [List.map_cons] at h
   by_cases hc:(kk==NameKind.free&&env.scope.kind==.function&&env.kindOf n==some .cell)=true
   ·rw [if_pos hc] at h
    rw [List.lookup_cons] at h ⊢
    cases hy:y==n with
    | true=>
     rw [hy] at h
     have e:k=.cell:=(Option.some.inj h).symm
     have e1:kk=.free:=by
      have:=(Bool.and_eq_true_iff.mp (Bool.and_eq_true_iff.mp hc).1).1
      simpa using this
     have e2:env.kindOf n=some .cell:=by
      have:=(Bool.and_eq_true_iff.mp hc).2
      simpa using this
     rw [eq_of_beq hy]
     exact .inr ⟨e,by rw [e1],e2⟩
    | false=>
     rw [hy] at h
     exact ih h
   ·rw [if_neg hc] at h
    rw [List.lookup_cons] at h ⊢
    cases hy:y==n with
    | true=>rw [hy] at h;exact .inl h
    | false=>rw [hy] at h;exact ih h
 exact go sc.names h
section
variable {X:Cx} {elt iter:Expr} {x:Str} {px pos:Pos} {ifs:List Expr} {sc:Scope} {wi:TI} {tt:TT} {te:TE}
theorem pe_comp (hc:X.calm=true) (hN:X.N.Nodup) (hi:PI X (.Name x px) iter wi)
  (hb:∀(cl:List (Str×Addr)) (C:Addr) (fp:List Addr) (s:Shared) (H:Hp),PTs (cxComp X x sc cl C fp s H) ifs tt/\PE (cxComp X x sc cl C fp s H) elt te)
  (hx:sc.names.lookup x=some .local:=by rfl) (hkind:sc.kind=.function:=by rfl)
  (hnames:∀y∈sc.names,y.2=.local->sc.names.lookup y.1=some .local:=by decide +kernel) (hcell:∀y∈sc.names,y.2≠.cell:=by decide +kernel)
  (hfree:(sc.names.all fun y=>y.2 !=.free || X.env.scope.names.lookup y.1==some .cell)=true:=by rfl)
  (hlo:(X.N.all fun y=>sc.names.lookup y !=some .local)=true:=by rfl)
  (hs:∀x,foldedSetIterable iter X.env x=pure x:=by intro _;rfl):
  PE X (.ListComp elt [⟨.Name x px,iter,ifs,0⟩] sc pos) (tComp wi tt te):=by
 intro pins s σ H Q I h
 have hfr:∀y∈sc.names,y.2=.free->X.env.kindOf y.1=some .cell:=fun y hy e=>by
  have q:=List.all_eq_true.mp hfree y hy
  rw [e] at q
  simpa [Env.kindOf] using q
 have hlo':∀y∈X.N,sc.names.lookup y≠some .local:=fun y hy e=>by
  have q:=List.all_eq_true.mp hlo y hy
  rw [e] at q
  simp at q
 obtain ⟨cl,hclos,hsub,hhas⟩:=b_P (env:=X.env) (sc:=sc) fun y hy e=>I.ok.has y.1 (.inl (hfr y hy e))
 rw [eval_ListComp]
 refine wpAny_comprehension_free (use:=none) rfl hs hclos hkind hnames (thn (hi pins s σ H _ I h) fun v s1 h1=>thn h1 fun itv s2 h2=>?_)
 obtain ⟨it,fp,tn,J,H2,e,I2,T,st2,f2,hW⟩:=h2
 subst e
 have nobinds:∀y∈([]:List (Str×Value)),sc.names.lookup y.1=some .local:=fun y hy=>absurd hy (by simp)
 refine wpAny_newObj_type ?_
 refine wpAny_newFunctionEnv hcell nobinds (fun h₁ hns₁ hsb₁=>?_) hkind
 dsimp only at hns₁ hsb₁ ⊢
 generalize hHa:s2.heap.push { cls:=.type "list",dict:=none,data:=.seq ([]:List Value).toArray }=Ha at hns₁ hsb₁ ⊢
 have hC:Ha.objs.size=s2.heap.objs.size+1:=by rw [<- hHa,Heap.size_push]
 have hDC:s2.heap.objs.size≠Ha.objs.size:=by rw [hC];exact Nat.ne_of_lt (Nat.lt_succ_self _)
 have hCle:s2.heap.objs.size≤Ha.objs.size:=by rw [hC];exact Nat.le_succ _
 have neC:∀b o,s2.heap.get? b=some o->b≠Ha.objs.size:=fun b o e=>Nat.ne_of_lt (Nat.lt_of_lt_of_le (Heap.lt_size e) hCle)
 have old:∀b o,s2.heap.get? b=some o->h₁.get? b=some o:=fun b o e=>hsb₁.extBut b o (neC b o e) (Heap.get?_push_of_some _ (hHa▸Heap.get?_push_of_some _ e))
 have hacc:h₁.get? s2.heap.objs.size=some { cls:=.type "list",dict:=none,data:=.seq ([]:List Value).toArray }:=hsb₁.extBut _ _ hDC (Heap.get?_push_of_some _ (hHa▸Heap.get?_push_size _ rfl))
 generalize hDe:s2.heap.objs.size=D at *
 generalize hCe:Ha.objs.size=C at *
 have hHD:H2 D=none:=I2.hok.fresh (Nat.le_of_eq hDe)
 have hHC:H2 C=none:=I2.hok.fresh (by omega)
 obtain ⟨W,⟨m0,w0⟩,turn⟩:=hW D hHD
 have fplt:∀b∈fp,b<D:=fun b hb=>by
  obtain ⟨o,e,_⟩:=T.obj _ _ st2 b hb
  rw [<- hDe]
  exact Heap.lt_size e
 let X':Cx:=cxComp X x sc cl C fp s2 H2
 have nofs:∀b∈fp,b∉frs X.stack:=fun b hb z=>by
  rcases List.mem_cons.mp (I2.stkSub b z) with e | e
  ·exact (f2 b hb).2.1 e
  ·exact (f2 b hb).2.2.1 e
 have ok':X'.Ok:=by
  refine ⟨I2.ok.mod,hkind,I2.ok.glob,I2.ok.blt,?_,fun y z c e1 e2=>I2.ok.inj y z c (hsub y c e1) (hsub z c e2),fun y hy=>?_,fun y c e=>absurd (show false=true from e) Bool.false_ne_true,I2.ok.hd,I2.ok.frames,.inl rfl,fun b hb=>⟨?_,fun y c e=>?_⟩,I2.bs,
   Nat.le_trans I2.ok.bsz I2.sz,fun b o e hb=>?_,nofs,I2.stack,I2.stkFree⟩
  ·show s2.heap.objs.size≤C
   omega
  ·rcases hy with hy | hy
   ·rcases relabel_lookup (show (relabel sc X.env).names.lookup y=some .cell from hy) with e | ⟨_,e,_⟩
    ·exact absurd rfl (hcell _ (PySem.mem_of_lookup e))
    ·exact hhas _ (PySem.mem_of_lookup e) rfl
   ·rcases relabel_lookup (show (relabel sc X.env).names.lookup y=some .free from hy) with e | ⟨e,_⟩
    ·exact hhas _ (PySem.mem_of_lookup e) rfl
    ·cases e
  ·exact Nat.ne_of_lt (Nat.lt_of_lt_of_le (fplt b hb) (by omega:D≤C))
  ·exact (f2 b hb).2.2.2.2.1 y c (hsub y c e)
  ·rcases (f2 b hb).2.2.2.1 with z | z
   ·exact I2.ok.noex b o e z
   ·exact absurd (Nat.lt_of_lt_of_le (Nat.lt_of_lt_of_le (Heap.lt_size e) I2.ok.bsz) z) (Nat.lt_irrefl _)
 have I4:∀tk,Inv X' [] (none::σ) (upd H2 D (.lst [])) { s2 with heap:=h₁,toks:=tk }:=fun tk=>by
  refine ⟨ok',rfl,I2.bare,Un.laid old (Nat.le_of_eq hDe) hHD,⟨_,hns₁,fun i y v e1 e2 e3=>?_⟩,fun y c e=>?_,?_,fun y c e=>?_,fun p hp=>?_,I2.hok.laid old (Nat.le_of_eq hDe) ?_,?_⟩
  ·cases i with
   | zero=>simp at e2
   | succ i=>
    have e1:X.N[i]?=some y:=by simpa [X',cxComp] using e1
    have e2:σ[i]?=some (some v):=by simpa using e2
    have e3:Vis (relabel sc X.env) y:=e3
    have hyN:y∈X.N:=List.mem_of_getElem? e1
    have free:sc.names.lookup y=some .free/\(relabel sc X.env).names.lookup y≠some .local:=by
     rcases e3 with e | e | e
     ·rcases relabel_lookup e with q | ⟨q,_⟩
      ·exact absurd q (hlo' y hyN)
      ·cases q
     ·rcases relabel_lookup e with q | ⟨_,q,_⟩
      ·exact absurd rfl (hcell _ (PySem.mem_of_lookup q))
      ·exact ⟨q,by rw [e];decide⟩
     ·rcases relabel_lookup e with q | ⟨q,_⟩
      ·exact ⟨q,by rw [e];decide⟩
      ·cases q
    have kc:X.env.kindOf y=some .cell:=hfr _ (PySem.mem_of_lookup free.1) rfl
    obtain ⟨m,hn,hl⟩:=I2.loc
    obtain ⟨u,ru,lk⟩:=hl i y v e1 e2 (.inr (.inl kc))
    rcases lk with ⟨q,_⟩ | ⟨_,c,hcc,⟨o,ho,hd⟩⟩
    ·rw [kc] at q;cases q
    ·obtain ⟨c',hc'⟩:=hhas _ (PySem.mem_of_lookup free.1) rfl
     have e4:=hsub _ _ hc'
     rw [hcc] at e4
     cases e4
     refine ⟨u,ru,.inr ⟨?_,c,hc',⟨o,old c o ho,hd⟩⟩⟩
     rcases e3 with e | e | e
     ·exact absurd e free.2
     ·exact .inl e
     ·exact .inr e
  ·obtain ⟨v,o,ho,hd⟩:=I2.cell y c (hsub y c e)
   exact ⟨v,o,old c o ho,hd⟩
  ·show upd H2 D (.lst []) C=none
   rw [upd_ne (neA (by omega))]
   exact hHC
  ·obtain ⟨v,o,ho,hd⟩:=I2.cell y c (hsub y c e)
   have hlt:=Heap.lt_size ho
   rw [hDe] at hlt
   show upd H2 D (.lst []) c=none
   rw [upd_ne (Nat.ne_of_lt hlt)]
   exact I2.freeC y c (hsub y c e)
  ·exact absurd (show p∈([]:List (Addr×Obj)) from hp) (by simp)
  ·exact ⟨Nat.zero_le _,[],0,.nil,hacc⟩
  ·show (none::σ).length=(x::X.N).length
   rw [List.length_cons,List.length_cons,I2.len]
 have hN':X'.N.Nodup:=by
  show (x::X.N).Nodup
  exact List.nodup_cons.mpr ⟨fun z=>hlo' x z hx,hN⟩
 have hx':X'.env.scope.names.lookup x=some .local:=lookup_relabel_local hx
 obtain ⟨PT',PE'⟩:=hb cl C fp s2 H2
 have fpX:∀{pins':List (Addr×Obj)} {H':Hp},(∀b∈fp,H' b=none)->(∀p∈pins',p.1∉fp)->∀b∈fp,FpOk X' pins' H' b:=fun hn hp b hb=>by
  refine ⟨hn b hb,?_,nofs b hb,.inl hb,fun y c e=>(f2 b hb).2.2.2.2.1 y c (hsub y c e),fun p q z=>?_⟩
  ·exact Nat.ne_of_lt (Nat.lt_of_lt_of_le (fplt b hb) (by omega:D≤C))
  ·rcases List.mem_append.mp q with q | q
   ·exact absurd (show p∈([]:List (Addr×Obj)) from q) (by simp)
   ·exact hp p q (by rw [z];exact hb)
 have loop:∀tk,codeAny (model X.prog X.w) X.A (.compLoop (.ListComp elt [⟨.Name x px,iter,ifs,0⟩] sc pos) 0 (.ref it) (.ref D) (compEnvC sc cl C X.env)) (compPost (model X.prog X.w) X.A X.xe none (EP X pins σ Q) (.ref D) C) { s2 with heap:=h₁,toks:=tk }:=fun tk=>by
  refine codeAny_compLoop_tests (fun n s'=>∃i ys o H',Inv X' [] (o::σ) H' s'/\tn i s'.heap/\(∀b∈fp,H' b=none)/\W i n ys H') ?_ m0 ⟨0,[],none,_,I4 tk,T.keep _ _ _ st2 fun b hb o e=>old b o e,fun b hb=>?_,w0⟩
  ·rintro n s3 ⟨i,ys,o3,H3,I3,st3,fr3,w3⟩
   obtain ⟨hD3,alt⟩:=turn i n ys H3 w3
   rcases alt with ⟨stop,qn⟩ | ⟨go,hlen,step⟩
   ·refine wpAny_mono (T.done X' rfl rfl rfl hc i [] s3 _ H3 (fun _ _=>False) I3 (fpX fr3 (by simp)) st3 stop) (fun r s4 ⟨hr,I4'⟩=>?_) fun _ _ f=>f.elim
    subst hr
    obtain ⟨mC,hnC,_⟩:=I4'.loc
    refine ⟨mC,hnC,fun h' hs'=>?_⟩
    have nC:∀b u,H3 b=some u->b≠C:=fun b u e z=>by rw [z] at e;rw [show H3 C=none from I4'.free] at e;cases e
    have hok':HOk X.prog X.w H3 h':=fun b u e=>(I4'.hok b u e).stay (fun c v hcc q=>hs'.extBut c v (by
     rcases hcc with z | z
     ·rw [z];exact nC b u e
     ·exact nC c _ z) q) (fun _ q=>q) fun _ _ q=>q
    have un:Un (frs X.stack) fp H2 H3 s2.heap h':=
     ⟨fun b o e n1 n2 n3=>hs'.extBut b o (neC b o e) (I4'.base.keep b o e n1 n2 n3),fun b o e n1 n2 n3=>by
       obtain ⟨sl,q⟩:=I4'.base.slot b o e n1 n2 n3
       exact ⟨sl,hs'.extBut b _ (neC b o e) q⟩,I4'.base.free,fun b o e n1=>by
       obtain ⟨o',q⟩:=I4'.base.there b o e n1
       exact ⟨o',hs'.extBut b _ (neC b o e) q⟩,I4'.base.tups,I4'.base.frzs,I4'.base.tbls⟩
    exact ⟨.ref D,H3,I2.call' (s':={ s4 with heap:=h' }) I4'.os un hok' I4'.bare fun b hb=>⟨(f2 b hb).2.2.2.1,(f2 b hb).2.1,(f2 b hb).2.2.2.2.1,(f2 b hb).2.2.2.2.2⟩,rfl,qn⟩
   ·refine wpAny_mono (T.item X' rfl rfl rfl hc i [] s3 _ H3 (fun _ _=>False) I3 (fpX fr3 (by simp)) st3 go) (fun r s4 ⟨u,hr,h4⟩=>?_) fun _ _ f=>f.elim
    subst hr
    have eg:(letOwnedTupleGo (.Name x px) (.ref it) u >>= fun _=>assign (.Name x px) (compEnvC sc cl C X.env) u)=assign (.Name x px) (compEnvC sc cl C X.env) u:=pure_bind () _
    show wpAny _ _ (assign (.Name x px) (compEnvC sc cl C X.env) u) _ _ s4
    rw [<- eg]
    refine wpAny_bind (wpAny_mono h4 (fun _ s5 ⟨y,H5,I5,r5,y5,st5,fr5⟩=>?_) fun _ _ f=>f.elim)
    have I5':=I5.pinned (fpX fr5 (by simp)) (T.obj _ _ st5)
    refine wpAny_mono (a_B (X:=X') (i:=0) (pos:=px) hN' rfl (.inl hx') (.inr hx') _ s5 _ H5 y u (fun σ' H'=>σ'=some y::σ/\H'=H5) I5' r5 ⟨rfl,rfl⟩) (fun _ s6 ⟨σ6,H6,I6,e1,e2⟩=>?_) fun _ _ f=>f.elim
    subst e1 e2
    refine wpAny_mono (PT' _ s6 _ _ _ I6 (step y _ y5)) (fun ok s7 ⟨H7,I7,q7⟩=>?_) fun _ _ f=>f.elim
    have again:∀{s8:Shared} {H8:Hp} {ys':List V},Inv X' ([]++e_h fp s5.heap) (some y::σ) H8 s8->(∃m',m'<n/\W (i+1) m' ys' H8)->∃m,m<n/\∃i ys o H',Inv X' [] (o::σ) H' s8/\tn i s8.heap/\(∀b∈fp,H' b=none)/\W i m ys H':=fun {s8 H8 ys'} I8 ⟨m',hm,w8⟩=>by
     refine ⟨m',hm,i+1,ys',some y,H8,I8.unpinned,T.keep _ _ _ st5 fun b hb o e=>(I8.pin (b,o) (List.mem_append_right _ (List.mem_append_right _ (a_H hb e)))).1,fun b hb=>?_,w8⟩
     obtain ⟨o,e,d⟩:=T.obj _ _ st5 b hb
     exact (I8.pin (b,o) (List.mem_append_right _ (List.mem_append_right _ (a_H hb e)))).2.1
    cases ok with
    | false=>exact again I7 q7
    | true=>
     have q7:te (some y::σ) H7 _:=q7
     refine wpAny_mono (PE' _ s7 _ _ _ I7 q7) (fun z s8 ⟨yv,H8,I8,r8,hD8,q8⟩=>?_) fun _ _ f=>f.elim
     refine wpAny_mono (a_u (X:=X') _ s8 _ H8 (.ref D) [yv] (.ref D) [z] (fun _ H9=>H9=upd H8 D (.lst (ys++[yv]))) I8 rfl (.cons r8 .nil) ⟨D,ys,yv,rfl,rfl,hD8,hlen,rfl⟩) (fun _ s9 ⟨_,H9,I9,_,e9⟩=>?_) fun _ _ f=>f.elim
     subst e9
     exact again I9 q8
  ·show upd H2 D (.lst []) b=none
   rw [upd_ne (Nat.ne_of_lt (fplt b hb))]
   exact (f2 b hb).1
 exact codeAny_compStart_list (loop _) (T.self _ _ _ _ _ (T.keep _ _ _ st2 fun b hb o e=>old b o e) (loop _))
end
theorem comp_signs {tt:TT} {σ:St} {Q:VK} (p:Nat->Bool) (hz:x.length≤sizeLine)
  (ht:∀(i:Nat) (c:Nat) (H':Hp) (R:Bool->Hp->Prop),x.cps[i]?=some c->R (p c) H'->tt (some (.str ⟨#[c]⟩)::σ) H' R) (hq:∀D,H D=none->Q (.ref D) (upd H D (.lst ((x.cps.toList.filter p).map fun c=>V.str ⟨#[c]⟩)))):
  ∀D,H D=none->∃W:Nat->Nat->List V->Hp->Prop,
 (∃m,W 0 m [] (upd H D (.lst [])))/\∀i m ys H2,W i m ys H2->H2 D=some (.lst ys)/\(((Its x).stop i H2/\Q (.ref D) H2)\/((Its x).go i H2/\ys.length<sizeLine/\∀y H3,(Its x).yld i H2 y H3->
  tt (some y::σ) H3 fun b H4=>if b=true then tVar 0 (some y::σ) H4 fun z H5=>H5 D=some (.lst ys)/\∃m',m'<m/\W (i+1) m' (ys++[z]) (upd H5 D (.lst (ys++[z])))
   else ∃m',m'<m/\W (i+1) m' ys H4)):=by
 intro D hD
 refine ⟨fun i m ys H2=>m=x.length - i/\i≤x.length/\ys=((x.cps.toList.take i).filter p).map (fun c=>V.str ⟨#[c]⟩)/\H2=upd H D (.lst ys),⟨x.length,by simp,Nat.zero_le _,by simp,rfl⟩,?_⟩
 rintro i m ys H2 ⟨rfl,hi,rfl,rfl⟩
 refine ⟨upd_same,?_⟩
 by_cases hlt:i<x.length
 ·refine .inr ⟨hlt,?_,fun y H3 q=>?_⟩
  ·rw [List.length_map]
   have:=List.length_filter_le p (x.cps.toList.take i)
   rw [List.length_take] at this
   omega
  ·obtain ⟨e,c,hx,e2⟩:=q
   subst e e2
   have hx':x.cps.toList[i]?=some c:=by simpa using hx
   refine ht i c _ _ hx ?_
   cases hp:p c with
   | true=>
    refine iteT ⟨_,rfl,upd_same,x.length - (i+1),by omega,rfl,hlt,?_,?_⟩
    ·rw [List.take_add_one,hx',List.filter_append,List.map_append]
     simp [hp]
    ·rw [d_x]
   | false=>
    refine iteF ⟨x.length - (i+1),by omega,rfl,hlt,?_,rfl⟩
    rw [List.take_add_one,hx',List.filter_append,List.map_append]
    simp [hp]
 ·have e:i=x.length:=by omega
  subst e
  refine .inl ⟨Nat.le_refl _,?_⟩
  rw [show x.length=x.cps.toList.length by simp [Str.length],List.take_length]
  exact hq D hD
theorem d_c {σ:St} (p:Nat->Bool) (hv:σ[j]?=some (some (.str x))) (hz:x.length≤sizeLine)
  (ht:∀(i:Nat) (c:Nat) (H':Hp) (R:Bool->Hp->Prop),x.cps[i]?=some c->R (p c) H'->tt (some (.str ⟨#[c]⟩)::σ) H' R) (hq:∀D,H D=none->Q (.ref D) (upd H D (.lst ((x.cps.toList.filter p).map fun c=>V.str ⟨#[c]⟩)))):
  tComp (iStr (tVar j)) tt (tVar 0) σ H Q:=⟨_,hv,x,rfl,comp_signs p hz ht hq⟩
def Df (P:Program) (w:World) (K:PySem.W.Frag) (mg:Str->Option Value) (base:Heap) (x:Str) (k:Nat) (ps:List Str) (sp:Sp):Prop:=
 ∃(f:Addr) (fd:FuncData),mg x=some (.ref f)/\PySem.W.keepIn K (.ref f)=true/\d_e K fd ps []/\FnOk P w K mg base CX0 k f fd ps sp
theorem a_M {p pos:Pos} (D:Df X.prog X.w X.K X.mg X.base x k ps sp) (hr:Room k X.A) (ha:PA X (e::es) t)
  (hg:Gl X x:=by rfl) (hdb:(x==("__debug__":Str))=false:=by decide) (he:starEach (e::es) X.env=(false,eval e X.env)::starEach es X.env:=by rfl) (hpl:(backTo pos (starEach es X.env)).any (·.1)=false:=by rfl):
  PE X (.Call (.Name x p) (e::es) [] pos) (c_V sp [] E0 t):=by
 obtain ⟨f,fd,h1,h2,h3,F⟩:=D
 exact pe_call F hr hg h1 h2 h3 .nil pass0 ha hdb he hpl
theorem iteD {c A B:Prop} [Decidable c] (hc:c) (h:A):if decide c=true then A else B:=by
 rw [decide_eq_true hc]
 exact iteT h
theorem iteN {c A B:Prop} [Decidable c] (hc:¬ c) (h:B):if decide c=true then A else B:=by
 rw [decide_eq_false hc]
 exact iteF h
theorem ite3 {c A B:Prop} [Decidable c] (h1:c->A) (h2:¬ c->B):if decide c=true then A else B:=by
 by_cases h:c
 ·exact iteD h (h1 h)
 ·exact iteN h (h2 h)
theorem Same.upd (n:H D=none):Same H (upd H D o):=fun b u e=>by rw [upd_ne (ne_of_none e n)];exact e
theorem a_g (h:n≤16777216):n≤sizeLine:=by rw [sizeLine_eq];exact h
theorem atI_in {xs:List α} {i:Int} (h0:0≤i) (h1:i<xs.length):∃v,atI xs i=some v/\xs[i.toNat]?=some v:=by
 obtain ⟨j,rfl⟩:=Int.eq_ofNat_of_zero_le h0
 have hj:j<xs.length:=by omega
 exact ⟨xs[j],a_l (by simp [hj]),by simp [hj]⟩
def tCut (t u:TS):TS:=fun D σ H=>∃M:St->Hp->Prop,t { D with nx:=M } σ H/\∀ σ' H',M σ' H'->u D σ' H'
theorem c_Y {st:Stmt} (h1:PS X st t) (h2:PSs X rest u):PSs X (st::rest) (tCut t u):=by
 intro pins s σ H D I h
 obtain ⟨M,h,hM⟩:=h
 refine wpAny_execs_cons (thn (h1 pins s σ H { D with nx:=M } I h) fun f s1 q=>?_)
 cases f with
 | next=>
  obtain ⟨σ',H',I',q⟩:=q
  exact h2 pins s1 σ' H' D I' (hM σ' H' q)
 | ret v=>exact q
 | brk=>exact q
 | cont=>exact q
def cutI (ns:List Int) (lo hi:Option Int):List Int:=(ns.drop (HT.sIx ns.length 0 lo)).take (HT.sIx ns.length ns.length hi - HT.sIx ns.length 0 lo)
theorem cutV_ints (ns:List Int) (lo hi:Option Int):cutV (ns.map V.int) lo hi=(cutI ns lo hi).map V.int:=by
 unfold cutV cutI
 rw [List.length_map,List.map_take,List.map_drop]
theorem cutI_length (ns:List Int) (lo hi:Option Int):(cutI ns lo hi).length≤ns.length:=by
 unfold cutI
 rw [List.length_take,List.length_drop]
 omega
def spLaw (K:PySem.W.Frag):Sp:=fun vs H Q _=>∃(a:Addr) (ns:List Int),vs=[.ref a]/\SqL K H a (ns.map V.int)/\ns.length≤63/\∀H',Q (.bl true) H'
section
variable {X:Cx}
theorem op_m:OpR X (binaryOp .Mod) (fun x y H Q=>∃i j,x=.int i/\y=.int j/\0<j/\Q (.int (i % j)) H):=f_b
theorem op_f:OpR X (binaryOp .FloorDiv) (fun x y H Q=>∃i j,x=.int i/\y=.int j/\(0<j/\j<1073741824)/\Q (.int (i / j)) H):=f_I
theorem op_a:OpR X (binaryOp .Add) (fun x y H Q=>∃i j,x=.int i/\y=.int j/\Q (.int (i+j)) H):=op_add
theorem op_s:OpR X (binaryOp .Sub) (fun x y H Q=>∃i j,x=.int i/\y=.int j/\Q (.int (i - j)) H):=op_sub
theorem op_p:OpR X (binaryOp .Mult) (fun x y H Q=>∃i j,x=.int i/\y=.int j/\((-(2 ^ 64)<i/\i<2 ^ 64)\/(-(2 ^ 64)<j/\j<2 ^ 64))/\Q (.int (i * j)) H):=op_mul
end
end L2
namespace RA
open PySem PySem.StrLaws Builtin Builtin.Str
def tx (l:List Nat):Str:=⟨l.toArray⟩
theorem b_w (l:List Nat):(tx l).cps.toList=l:=by simp [tx]
theorem a_s (l:List Nat):(tx l).length=l.length:=by simp [tx,Str.length]
theorem d_g (a b:List Nat):tx a++tx b=tx (a++b):=by
 apply Str.ext'
 show a.toArray++b.toArray=(a++b).toArray
 simp
theorem tx_inj (h:tx a=tx b):a=b:=by
 have:=congrArg (fun s:Str=>s.cps.toList) h
 simpa [tx] using this
theorem tx_get (l:List Nat) (i:Nat):(tx l).cps[i]?=l[i]?:=by simp [tx]
theorem at_one (l:List Nat) (c i:Nat):At (tx l) ⟨#[c]⟩ (tx l).length i↔l[i]?=some c:=by
 have h:=subAt_one (tx l) c i
 rw [b_w] at h
 exact h
theorem c_J (l:List Nat) (c:Nat):Txt.contains (tx l) ⟨#[c]⟩=decide (c∈l):=by
 have h:=found_one (tx l) c
 rw [b_w] at h
 exact h
theorem f_W:∀{l:List Nat} {c i:Nat},l[i]?=some c->l.idxOf c≤i
 | [],_,_,h=>by simp at h
 | a::l,c,0,h=>by
  have e:a=c:=by simpa using h
  subst e
  simp
 | a::l,c,i+1,h=>by
  rw [List.idxOf_cons]
  cases e:a==c with
  | true=>simp
  | false=>
   have:=f_W (l:=l) (c:=c) (i:=i) (by simpa using h)
   simp
   omega
theorem f_Y (h:c∈l):Txt.find (tx l) ⟨#[c]⟩=(l.idxOf c:Nat):=by
 unfold Txt.find
 rcases occ_head (tx l) ⟨#[c]⟩ 1 (Nat.le_refl _) with ⟨_,hn⟩ | ⟨i,r,e,ha,hn⟩
 ·obtain ⟨i,hi⟩:=List.mem_iff_getElem?.mp h
  exact absurd ((at_one l c i).mpr hi) (hn i)
 ·rw [e]
  have hi:=(at_one l c i).mp ha
  have hlt:l.idxOf c<l.length:=List.idxOf_lt_length_of_mem h
  have e1:l[l.idxOf c]?=some c:=by
   rw [List.getElem?_eq_getElem hlt,List.getElem_idxOf hlt]
  have h1:¬ l.idxOf c<i:=fun z=>hn _ z ((at_one l c _).mpr e1)
  have h2:l.idxOf c≤i:=by
   exact f_W hi
  have:i=l.idxOf c:=by omega
  rw [this]
theorem slice_to (x:Str) (h:0≤j):Txt.slice x none (some j)=tx (x.cps.toList.take j.toNat):=by
 have go:∀j:Int,0≤j->j≤x.cps.toList.length->Txt.slice x none (some j)=tx (x.cps.toList.take j.toNat):=fun j h0 h1=>by
  have e:Txt.slice x none (some j)=sliceText x none (some j):=rfl
  rw [e,sliceText_to ⟨h0,h1⟩]
  simp [tx]
 by_cases hj:j≤x.cps.toList.length
 ·exact go j h hj
 ·have e:Txt.slice x none (some j)=Txt.slice x none (some (x.length:Int)):=by
   have hl:x.length=x.cps.toList.length:=by simp [Str.length]
   have e1:strSliceIndices none (some j) 1 x.length=strSliceIndices none (some (x.length:Int)) 1 x.length:=by
    have a:¬ (j<0):=by omega
    have b:¬ ((x.length:Int)<0):=by omega
    have m:min j (x.length:Int)=(x.length:Int):=by omega
    simp [strSliceIndices,a,b,m]
   unfold Txt.slice
   rw [e1]
  rw [e,go _ (by omega) (by simp [Str.length])]
  have hl:x.length=x.cps.toList.length:=by simp [Str.length]
  rw [List.take_of_length_le (i:=j.toNat) (by omega),List.take_of_length_le (by omega)]
theorem e_W (x:Str) {i:Int} (h:0≤i) (h1:i≤x.cps.toList.length):Txt.slice x (some i) none=tx (x.cps.toList.drop i.toNat):=by
 have e:Txt.slice x (some i) none=sliceText x (some i) none:=rfl
 rw [e,sliceText_from ⟨h,h1⟩]
 have e2:((x.cps.toList.length:Int) - i).toNat=(x.cps.toList.drop i.toNat).length:=by rw [List.length_drop];omega
 rw [e2,List.take_length]
 rfl
theorem f_g:∀cs:List Nat,Txt.join Str.empty (cs.map fun c=>(⟨#[c]⟩:Str))=tx cs:=by
 intro cs
 unfold Txt.join
 rw [glued_eq_join]
 have go:∀(cs:List Nat),Str.join Str.empty (cs.map fun c=>(⟨#[c]⟩:Str))=tx cs:=by
  intro cs
  induction cs with
  | nil=>rfl
  | cons a r ih=>
   cases r with
   | nil=>rfl
   | cons b r=>
    show (⟨#[a]⟩:Str)++Str.empty++Str.join Str.empty ((b::r).map fun c=>(⟨#[c]⟩:Str))=tx (a::b::r)
    rw [ih,Str.append_empty]
    exact d_g [a] (b::r)
 exact go cs
structure Let (L:List Nat):Prop where
 lo:1≤L.length
 hi:L.length≤3
 nd:L.Nodup
 az:∀c∈L,97≤c/\c≤122
theorem idx_get {L:List Nat} (nd:L.Nodup) (h:i<L.length):L.idxOf L[i]=i:=by
 have h1:=f_W (l:=L) (c:=L[i]) (i:=i) (by simp [h])
 have hlt:L.idxOf L[i]<L.length:=by omega
 have e:=List.getElem_idxOf hlt
 by_cases hh:L.idxOf L[i]<i
 ·exact absurd e (List.pairwise_iff_getElem.mp nd _ _ hlt h hh)
 ·omega
theorem draw_one {f l:List Nat} (hi:i<l.length) (nd:(f++l).Nodup):((f++[l[i]])++(l.take i++l.drop (i+1))).Nodup/\∀c,c∈(f++[l[i]])++(l.take i++l.drop (i+1))->c∈f++l:=by
 have e:l=l.take i++l[i]::l.drop (i+1):=by
  conv=>lhs;rw [<- List.take_append_drop i l,List.drop_eq_getElem_cons hi]
 have p:(f++l).Perm ((f++[l[i]])++(l.take i++l.drop (i+1))):=by
  conv=>lhs;rw [e]
  rw [List.append_assoc]
  refine List.Perm.append_left f ?_
  show (l.take i++l[i]::l.drop (i+1)).Perm (l[i]::(l.take i++l.drop (i+1)))
  exact List.perm_middle
 exact ⟨p.nodup_iff.mp nd,fun c hc=>p.mem_iff.mpr hc⟩
end RA
namespace RA
open PySem L2
theorem abc_eq:(Str.ofString "abcdefghijklmnopqrstuvwxyz")=tx (List.range' 97 26):=by decide +kernel
theorem empty_eq:(Str.ofString "")=tx []:=by decide +kernel
theorem e_C:(Str.ofString "")=Str.empty:=by decide +kernel
end RA
namespace RA
open PySem L2 Builtin Builtin.Str
theorem sum_ones:∀cs:List Nat,((cs.map fun c=>(⟨#[c]⟩:Str)).map (·.length)).sum=cs.length
 | []=>rfl
 | _::cs=>by
  rw [List.map_cons,List.map_cons,List.sum_cons,sum_ones cs,List.length_cons]
  show 1+_=_
  omega
theorem join_size (cs:List Nat) (h:cs.length≤16777216):((cs.map fun c=>(⟨#[c]⟩:Str)).map (·.length)).sum+(cs.map fun c=>(⟨#[c]⟩:Str)).length * (Str.ofString "").length≤16777216:=by
 rw [sum_ones,show (Str.ofString "").length=0 by rw [e_C];rfl]
 omega
end RA
namespace L2
open PySem PySem.Spec PyProof.Rows
section
variable {X:Cx}
theorem d_D:OpR X (binaryOp .Mod) (fun x y H Q=>∃i j,x=.int i/\y=.int j/\0<j/\∀r,0≤r->r<j->Q (.int r) H):=by
 intro pins s σ H x y v u Q I rx ry h
 obtain ⟨i,j,e1,e2,hj,q⟩:=h
 exact f_b pins s σ H x y v u Q I rx ry ⟨i,j,e1,e2,hj,q _ (Int.emod_nonneg _ (by omega)) (Int.emod_lt_of_pos _ hj)⟩
theorem op_fdivG:OpR X (binaryOp .FloorDiv) (fun x y H Q=>∃i j,x=.int i/\y=.int j/\CDiv i j/\0≤i/\∀r,0≤r->Q (.int r) H):=by
 intro pins s σ H x y v u Q I rx ry h
 obtain ⟨i,j,e1,e2,hj,hi,q⟩:=h
 exact f_I pins s σ H x y v u Q I rx ry ⟨i,j,e1,e2,hj,q _ (Int.ediv_nonneg hi (by have:=hj.1;omega))⟩
end
theorem a_f (h:H a=some o) (n:H b=none):upd H b u a=some o:=by
 rw [upd_ne (ne_of_none h n)]
 exact h
theorem a_S (h:H a=some o) (n:H b=some v) (d:o≠v):upd H b u a=some o:=by
 rw [upd_ne (ne_of h n d)]
 exact h
theorem kit_bb (K:PySem.W.Frag):PySem.W.kitOne K (.type "bool") (.type "bool")=some true:=by with_unfolding_all rfl
end L2
namespace RA
open PySem L2
structure Mach (L:List Nat) (W:List (List Nat)) (B:List Bool):Prop where
 lt:Let L
 n1:1≤W.length
 n60:W.length≤60
 bl:B.length=W.length
 row:∀ws∈W,ws.length=L.length/\∀x∈ws,x<W.length
def nxt (L:List Nat) (W:List (List Nat)) (r c:Nat):Nat:=(W.getD r []).getD (L.idxOf c) 0
def run (L:List Nat) (W:List (List Nat)) (r:Nat) (w:List Nat):Nat:=w.foldl (nxt L W) r
theorem Mach.at (h:Mach L W B) (hr:r<W.length) (hc:c∈L):
  ∃ws x,W[r]?=some ws/\ws[L.idxOf c]?=some x/\nxt L W r c=x/\x<W.length:=by
 have hw:W[r]?=some W[r]:=by simp [hr]
 obtain ⟨h1,h2⟩:=h.row W[r] (List.getElem_mem hr)
 have hi:L.idxOf c<W[r].length:=by rw [h1];exact List.idxOf_lt_length_of_mem hc
 have hx:W[r][L.idxOf c]?=some W[r][L.idxOf c]:=by simp [hi]
 refine ⟨W[r],W[r][L.idxOf c],hw,hx,?_,h2 _ (List.getElem_mem hi)⟩
 unfold nxt
 have e1:W.getD r []=W[r]:=by
  rw [List.getD_eq_getElem?_getD,hw]
  rfl
 rw [e1,List.getD_eq_getElem?_getD,hx]
 rfl
theorem f_E (L:List Nat) (W:List (List Nat)) (r:Nat) (w:List Nat) (c:Nat):run L W r (w++[c])=nxt L W (run L W r w) c:=by
 unfold run
 rw [List.foldl_append]
 rfl
theorem e_Z {L:List Nat} {W:List (List Nat)} {B:List Bool} (h:Mach L W B):∀{w:List Nat} {r:Nat},r<W.length->(∀c∈w,c∈L)->run L W r w<W.length
 | [],_,hr,_=>hr
 | c::w,r,hr,hw=>by
  obtain ⟨ws,x,_,_,e,hx⟩:=h.at hr (hw c (by simp))
  exact e_Z h (w:=w) (r:=nxt L W r c) (by rw [e];exact hx) fun d hd=>hw d (by simp [hd])
def intsV (ws:List Nat):List V:=ws.map fun (n:Nat)=>V.int (n:Int)
def b_H (H:Hp) (rows:List Addr) (W:List (List Nat)):Prop:=∀(i:Nat) (r:Addr),rows[i]?=some r->∃ws,W[i]?=some ws/\H r=some (.tup (intsV ws))
def a_L (H:Hp) (m:Addr) (L:List Nat) (W:List (List Nat)) (B:List Bool):Prop:=
 ∃(wy mk:Addr) (rows:List Addr),H m=some (.tup [.str (tx L),.ref wy,.ref mk])/\H wy=some (.tup (rows.map V.ref))/\H mk=some (.tup (B.map V.bl))/\rows.length=W.length/\b_H H rows W
theorem b_H.same (h:b_H H rows W) (s:Same H H'):b_H H' rows W:=fun i r e=>by
 obtain ⟨ws,h1,h2⟩:=h i r e
 exact ⟨ws,h1,s _ _ h2⟩
theorem a_L.same (h:a_L H m L W B) (s:Same H H'):a_L H' m L W B:=by
 obtain ⟨wy,mk,rows,h1,h2,h3,h4,h5⟩:=h
 exact ⟨wy,mk,rows,s _ _ h1,s _ _ h2,s _ _ h3,h4,h5.same s⟩
theorem c_g {α β:Type} {xs:List α} (f:α->β) {x:α} (h:xs[i]?=some x):atI (xs.map f) ((i:Nat):Int)=some (f x):=a_l (by rw [List.getElem?_map,h];rfl)
end RA
namespace RA
end RA
namespace L2
open PySem
namespace RV
section
variable {prog:Program} {w:World} {A:Around} {E:Value->Shared->Prop} {s:Shared}
end
end RV
end L2
namespace L2
open PySem PySem.Spec PyProof.Rows
section
variable {X:Cx}
end
end L2
namespace L2
open PySem
namespace ZP
def Keep (S:List Addr) (h h':Heap):Prop:=h'.objs.size=h.objs.size/\∀c o,c∉S->h.get? c=some o->h'.get? c=some o
theorem Keep.one (x:Heap.SameBut a h h') (m:a∈S):Keep S h h':=⟨x.1,fun c o hc e=>(x.2 c fun q=>hc (q▸m)).trans e⟩
theorem Keep.trans (x:Keep S h h1) (y:Keep S h1 h2):Keep S h h2:=⟨y.1.trans x.1,fun c o hc e=>y.2 c o hc (x.2 c o hc e)⟩
section
variable {prog:Program} {w:World} {A:Around} {E:Value->Shared->Prop} {s:Shared} {z TI TO i1 i2:Addr} {f1 f2:List Addr} {n1 n2 k:Nat} {P1 P2:Nat->Value->Prop} {S1 S2:Nat->Heap->Prop} {a b:Value}
theorem toldL {Q:Value->Shared->Prop} (D1:Draws prog w A i1 f1 n1 P1 S1) (D2:Draws prog w A i2 f2 n2 P2 S2) (m1:∀c∈f1,c=i1\/c∉[z,TO,i1,i2]) (m2:∀c∈f2,c=i2\/c∉[z,TO,i1,i2]) (ap:ZipApart z TI TO i1 i2 TI TI) (hz:IsZip s.heap z TI TO .none) (hTI:IsPair s.heap TI (.ref i1) (.ref i2)) (hTO:IsPair s.heap TO a b)
  (h1:S1 k s.heap) (h2:S2 k s.heap) (l1:k<n1) (l2:k<n2)
  (hQ:∀x y h' tk,P1 k x->P2 k y->IsZip h' z TI TO (rawInt s.heap.objs.size)->IsPair h' TI (.ref i1) (.ref i2)->IsPair h' TO x y->S1 (k+1) h'->S2 (k+1) h'->IsPair h' s.heap.objs.size x y->
   (∀c o,c∉[z,TO,i1,i2]->s.heap.get? c=some o->h'.get? c=some o)->Q (.ref s.heap.objs.size) { s with heap:=h',toks:=tk }):
  wpAny (model prog w) A (Builtin.«zip.__next__» ⟨[.ref z],[]⟩) (fun fin s'=>∃v,fin=.done (.ret v)/\Q v s') E s:=by
 unfold Builtin.«zip.__next__»
 refine wpAny_bind (wpAny_of_eq (a:=(Value.ref z,[])) rfl (wpAny_bind (wpAny_field hz rfl (x:=.bool false) rfl (wpAny_bind (wpAny_field hz rfl (x:=.ref TI) rfl (wpAny_bind (wpAny_seqItems hTI rfl ?_)))))))
 refine wpAny_ite_false (by simp) (wpAny_bind ?_)
 unfold Builtin.SmallTypes.ownedTupleIsFree
 refine wpAny_bind (wpAny_field hz rfl (x:=.none) rfl (wpAny_pure (wpAny_ite_true (by decide) (wpAny_bind (wpAny_rule (wpAny_bind (wpAny_field hz rfl (x:=.ref TO) rfl (wpAny_bind (wpAny_setField_rec hz (by simp) fun g1 z1 c1=>?_)))))))))
 have k1:Keep [z,TO,i1,i2] s.heap g1:=.one c1 (by simp)
 have S1f:∀{j:Nat} {g g':Heap},(∀c o,c∉[z,TO,i1,i2]->g.get? c=some o->g'.get? c=some o)->S1 j g->(∀o,g.get? i1=some o->g'.get? i1=some o)->S1 j g':=fun k st e=>D1.frame _ _ _ st fun c hc=>by
  rcases m1 c hc with rfl | hn
  ·exact e
  ·exact fun o q=>k c o hn q
 have S2f:∀{j:Nat} {g g':Heap},(∀c o,c∉[z,TO,i1,i2]->g.get? c=some o->g'.get? c=some o)->S2 j g->(∀o,g.get? i2=some o->g'.get? i2=some o)->S2 j g':=fun k st e=>D2.frame _ _ _ st fun c hc=>by
  rcases m2 c hc with rfl | hn
  ·exact e
  ·exact fun o q=>k c o hn q
 simp only [List.zipIdx_cons,List.zipIdx_nil,List.forIn_cons,List.forIn_nil]
 refine wpAny_bind (wpAny_bind (wpAny_bind (wpAny_onRaise (wpAny_bind (m:=Builtin.SmallTypes.nextOf (.ref i1)) (D1.item k _ _ _ l1 (S1f k1.2 h1 fun o e=>(c1.2 i1 ap.i1z).trans e) fun x g2 t2 p1 d1 c2=>wpAny_pure ?_)))))
 have o2:IsPair g2 TO a b:=(c2.2 TO ap.TOi1).trans ((c1.2 TO ap.TOz).trans hTO)
 refine wpAny_bind (wpAny_seqItems o2 rfl (wpAny_bind (wpAny_updateSeq_pair o2 fun g3 o3 c3=>wpAny_bind (wpAny_letGo (wpAny_pure (wpAny_bind (wpAny_bind (wpAny_onRaise (wpAny_bind (m:=Builtin.SmallTypes.nextOf (.ref i2)) (D2.item k _ _ _ l2 (S2f ((k1.trans (.one c2 (by simp))).trans (.one c3 (by simp))).2 h2 fun o e=>?_) fun y g4 t4 p2 d2 c4=>wpAny_pure ?_))))))))))
 ·exact (c3.2 i2 ap.TOi2.symm).trans ((c2.2 i2 ap.i12.symm).trans ((c1.2 i2 ap.i2z).trans e))
 have o4:IsPair g4 TO x b:=(c4.2 TO ap.TOi2).trans o3
 refine wpAny_bind (wpAny_seqItems o4 rfl (wpAny_bind (wpAny_updateSeq_pair o4 fun g5 o5 c5=>wpAny_bind (wpAny_letGo (wpAny_pure (wpAny_pure ?_))))))
 replace o5:IsPair g5 TO x y:=o5
 have k5:Keep [z,TO,i1,i2] s.heap g5:=(((k1.trans (.one c2 (by simp))).trans (.one c3 (by simp))).trans (.one c4 (by simp))).trans (.one c5 (by simp))
 have z5:IsZip g5 z TI TO .ellipsis:=(c5.2 z ap.TOz.symm).trans ((c4.2 z ap.i2z.symm).trans ((c3.2 z ap.TOz.symm).trans ((c2.2 z ap.i1z.symm).trans z1)))
 have st1:S1 (k+1) g5:=S1f (((Keep.one (S:=[z,TO,i1,i2]) c3 (by simp)).trans (.one c4 (by simp))).trans (.one c5 (by simp))).2 d1 fun o e=>(c5.2 i1 ap.TOi1.symm).trans ((c4.2 i1 ap.i12).trans ((c3.2 i1 ap.TOi1.symm).trans e))
 have st2:S2 (k+1) g5:=S2f (Keep.one (S:=[z,TO,i1,i2]) c5 (by simp)).2 d2 fun o e=>(c5.2 i2 ap.TOi2.symm).trans e
 refine wpAny_bind (wpAny_seqItems o5 rfl (wpAny_bind (wpAny_newTuple ?_)))
 unfold Builtin.SmallTypes.ownedTupleHandOut
 have z6:IsZip (g5.push { cls:=.type "tuple",data:=.seq #[x,y] }) z TI TO .ellipsis:=Heap.get?_push_of_some _ z5
 refine wpAny_bind (wpAny_bind (wpAny_setField_rec z6 (by simp) fun g7 z7 c7=>?_))
 replace z7:IsZip g7 z TI TO (rawInt g5.objs.size):=z7
 refine wpAny_setField_rec z7 (by simp) fun g8 z8 c8=>wpAny_pure ⟨_,rfl,?_⟩
 replace z8:IsZip g8 z TI TO (rawInt g5.objs.size):=z8
 have up:∀c o,c≠z->g5.get? c=some o->g8.get? c=some o:=fun c o hc e=>(c8.2 c hc).trans ((c7.2 c hc).trans (Heap.get?_push_of_some _ e))
 have zlt:g5.objs.size≠z:=Nat.ne_of_gt (Heap.lt_size z5)
 have new:IsPair g8 g5.objs.size x y:=(c8.2 _ zlt).trans ((c7.2 _ zlt).trans (Heap.get?_push_size _ rfl))
 have sz:g5.objs.size=s.heap.objs.size:=k5.1
 have ti5:IsPair g5 TI (.ref i1) (.ref i2):=k5.2 TI _ (by simp [ap.TIz,ap.TITO,ap.TIi1,ap.TIi2]) hTI
 show Q (.ref g5.objs.size) _
 rw [sz] at z8 new ⊢
 exact hQ x y g8 t4 p1 p2 z8 (up _ _ ap.TIz ti5) (up _ _ ap.TOz o5) (S1f (fun c o hc e=>up c o (fun q=>hc (by simp [q])) e) st1 fun o e=>up _ o ap.i1z e) (S2f (fun c o hc e=>up c o (fun q=>hc (by simp [q])) e) st2 fun o e=>up _ o ap.i2z e) new fun c o hc e=>up c o (fun q=>hc (by simp [q])) (k5.2 c o hc e)
theorem endedL (D1:Draws prog w A i1 f1 n1 P1 S1) (D2:Draws prog w A i2 f2 n2 P2 S2) (m1:∀c∈f1,c=i1\/c∉[z,TO,i1,i2]) (m2:∀c∈f2,c=i2\/c∉[z,TO,i1,i2]) (ap:ZipApart z TI TO i1 i2 TI TI) (hz:IsZip s.heap z TI TO .none) (hTI:IsPair s.heap TI (.ref i1) (.ref i2)) (hTO:IsPair s.heap TO a b)
  (h1:S1 k s.heap) (h2:S2 k s.heap) (hend:k=n1\/(k<n1/\k=n2))
  (hE:∀h' e tk,(∀c o,c∉[z,TO,i1,i2]->s.heap.get? c=some o->h'.get? c=some o)->(∃o,h'.get? e=some o/\o.cls=.type "StopIteration")->E (.ref e) { s with heap:=h',toks:=tk }):
  wpAny (model prog w) A (Builtin.«zip.__next__» ⟨[.ref z],[]⟩) Q E s:=by
 unfold Builtin.«zip.__next__»
 refine wpAny_bind (wpAny_of_eq (a:=(Value.ref z,[])) rfl (wpAny_bind (wpAny_field hz rfl (x:=.bool false) rfl (wpAny_bind (wpAny_field hz rfl (x:=.ref TI) rfl (wpAny_bind (wpAny_seqItems hTI rfl (wpAny_ite_false (by simp) (wpAny_bind ?_)))))))))
 unfold Builtin.SmallTypes.ownedTupleIsFree
 refine wpAny_bind (wpAny_field hz rfl (x:=.none) rfl (wpAny_pure (wpAny_ite_true (by decide) (wpAny_bind (wpAny_rule (wpAny_bind (wpAny_field hz rfl (x:=.ref TO) rfl (wpAny_bind (wpAny_setField_rec hz (by simp) fun g1 z1 c1=>?_)))))))))
 have k1:Keep [z,TO,i1,i2] s.heap g1:=.one c1 (by simp)
 have S1f:∀{j:Nat} {g g':Heap},(∀c o,c∉[z,TO,i1,i2]->g.get? c=some o->g'.get? c=some o)->S1 j g->(∀o,g.get? i1=some o->g'.get? i1=some o)->S1 j g':=fun k st e=>D1.frame _ _ _ st fun c hc=>by
  rcases m1 c hc with rfl | hn
  ·exact e
  ·exact fun o q=>k c o hn q
 have S2f:∀{j:Nat} {g g':Heap},(∀c o,c∉[z,TO,i1,i2]->g.get? c=some o->g'.get? c=some o)->S2 j g->(∀o,g.get? i2=some o->g'.get? i2=some o)->S2 j g':=fun k st e=>D2.frame _ _ _ st fun c hc=>by
  rcases m2 c hc with rfl | hn
  ·exact e
  ·exact fun o q=>k c o hn q
 have s1:S1 k g1:=S1f k1.2 h1 fun o e=>(c1.2 i1 ap.i1z).trans e
 have out:∀(it:Addr) (g g':Heap) (e:Addr) (tk:Nat),it=i1\/it=i2->Keep [z,TO,i1,i2] s.heap g->IsZip g z TI TO .ellipsis->Heap.ExtBut it g g'->(∃o,g'.get? e=some o/\o.cls=.type "StopIteration")->
   wpAny (model prog w) A (setField (.ref z) 0 .none) (fun _ s'=>E (.ref e) s') E { s with heap:=g',toks:=tk }:=fun it g g' e tk hit hk hg hx he=>by
  obtain ⟨oe,he,ce⟩:=he
  have zit:z≠it:=by rcases hit with q | q <;> rw [q];exact ap.i1z.symm;exact ap.i2z.symm
  have zg:IsZip g' z TI TO .ellipsis:=hx z _ zit hg
  have ez:e≠z:=fun q=>by
   rw [q] at he
   have:=congrArg (Option.map Obj.cls) (he.symm.trans zg)
   rw [Option.map_some,Option.map_some,ce] at this
   exact absurd (show Value.type "StopIteration"=Value.type "zip" from Option.some.inj this) (by decide)
  refine wpAny_setField_rec (s:={ s with heap:=g',toks:=tk }) zg (by simp) fun g2 _ c2=>hE g2 e tk (fun c o hc q=>?_) ⟨oe,(c2.2 e ez).trans he,ce⟩
  refine (c2.2 c fun r=>hc (by simp [r])).trans (hx c o (fun r=>hc ?_) (hk.2 c o hc q))
  rcases hit with q | q <;> rw [r,q] <;> simp
 simp only [List.zipIdx_cons,List.zipIdx_nil,List.forIn_cons,List.forIn_nil]
 rcases hend with rfl | ⟨hlt,rfl⟩
 ·refine wpAny_bind (wpAny_bind (wpAny_bind (wpAny_onRaise (wpAny_bind (m:=Builtin.SmallTypes.nextOf (.ref i1)) (D1.done _ _ _ s1 fun g2 e x2 he=>?_)))))
  exact out i1 g1 g2 e s.toks (.inl rfl) k1 z1 x2 he
 ·refine wpAny_bind (wpAny_bind (wpAny_bind (wpAny_onRaise (wpAny_bind (m:=Builtin.SmallTypes.nextOf (.ref i1)) (D1.item k _ _ _ hlt s1 fun x g2 t2 p1 d1 c2=>wpAny_pure ?_)))))
  have o2:IsPair g2 TO a b:=(c2.2 TO ap.TOi1).trans ((c1.2 TO ap.TOz).trans hTO)
  refine wpAny_bind (wpAny_seqItems o2 rfl (wpAny_bind (wpAny_updateSeq_pair o2 fun g3 o3 c3=>wpAny_bind (wpAny_letGo (wpAny_pure (wpAny_bind (wpAny_bind (wpAny_onRaise (wpAny_bind (m:=Builtin.SmallTypes.nextOf (.ref i2)) (D2.done _ _ _ (S2f ((k1.trans (.one c2 (by simp))).trans (.one c3 (by simp))).2 h2 fun o e=>?_) fun g4 e x4 he=>?_))))))))))
  ·exact (c3.2 i2 ap.TOi2.symm).trans ((c2.2 i2 ap.i12.symm).trans ((c1.2 i2 ap.i2z).trans e))
  ·exact out i2 g3 g4 e t2 (.inr rfl) ((k1.trans (.one c2 (by simp))).trans (.one c3 (by simp))) ((c3.2 z ap.TOz.symm).trans ((c2.2 z ap.i1z.symm).trans z1)) x4 he
end
section
variable {prog:Program} {w:World} {A:Around} {E:Value->Shared->Prop} {s:Shared} {z TI TO i1 i2:Addr} {n1 n2 k:Nat} {P1 P2:Nat->Value->Prop} {S1 S2:Nat->Heap->Prop} {a b:Value}
theorem told {Q:Value->Shared->Prop} (D1:Draws prog w A i1 [i1] n1 P1 S1) (D2:Draws prog w A i2 [i2] n2 P2 S2) (ap:ZipApart z TI TO i1 i2 TI TI) (hz:IsZip s.heap z TI TO .none) (hTI:IsPair s.heap TI (.ref i1) (.ref i2)) (hTO:IsPair s.heap TO a b)
  (h1:S1 k s.heap) (h2:S2 k s.heap) (l1:k<n1) (l2:k<n2)
  (hQ:∀x y h' tk,P1 k x->P2 k y->IsZip h' z TI TO (rawInt s.heap.objs.size)->IsPair h' TI (.ref i1) (.ref i2)->IsPair h' TO x y->S1 (k+1) h'->S2 (k+1) h'->IsPair h' s.heap.objs.size x y->
   (∀c o,c∉[z,TO,i1,i2]->s.heap.get? c=some o->h'.get? c=some o)->Q (.ref s.heap.objs.size) { s with heap:=h',toks:=tk }):
  wpAny (model prog w) A (Builtin.«zip.__next__» ⟨[.ref z],[]⟩) (fun fin s'=>∃v,fin=.done (.ret v)/\Q v s') E s:=
 toldL D1 D2 (fun c hc=>.inl (by simpa using hc)) (fun c hc=>.inl (by simpa using hc)) ap hz hTI hTO h1 h2 l1 l2 hQ
theorem ended (D1:Draws prog w A i1 [i1] n1 P1 S1) (D2:Draws prog w A i2 [i2] n2 P2 S2) (ap:ZipApart z TI TO i1 i2 TI TI) (hz:IsZip s.heap z TI TO .none) (hTI:IsPair s.heap TI (.ref i1) (.ref i2)) (hTO:IsPair s.heap TO a b)
  (h1:S1 k s.heap) (h2:S2 k s.heap) (hend:k=n1\/(k<n1/\k=n2))
  (hE:∀h' e tk,(∀c o,c∉[z,TO,i1,i2]->s.heap.get? c=some o->h'.get? c=some o)->(∃o,h'.get? e=some o/\o.cls=.type "StopIteration")->E (.ref e) { s with heap:=h',toks:=tk }):
  wpAny (model prog w) A (Builtin.«zip.__next__» ⟨[.ref z],[]⟩) Q E s:=
 endedL D1 D2 (fun c hc=>.inl (by simpa using hc)) (fun c hc=>.inl (by simpa using hc)) ap hz hTI hTO h1 h2 hend hE
def strIt (x:Str) (t:Tok):Obj:={ cls:=.type (if x.cps.all (· < 128) then "str_ascii_iterator" else "str_iterator"),data:=.fields #[.str x t,.int 0 0] }
theorem iter_text (h:Q (.ref s.heap.objs.size) { s with heap:=s.heap.push (strIt x t) }):wpAny (model prog w) A (pyIter (.str x t)) Q E s:=by
 unfold strIt at h
 cases e:x.cps.all (· < 128) <;> rw [e] at h
 ·exact wpAny_pyIter_wide e h
 ·exact wpAny_pyIter_ascii e h
def made (h:Heap) (x y:Str) (t u:Tok):Heap:=
 ((((h.push (strIt x t)).push (strIt y u)).push { cls:=.type "tuple",data:=.seq #[.ref h.objs.size,.ref (h.objs.size+1)] }).push { cls:=.type "tuple",data:=.seq #[.none,.none] }).push
  { cls:=.type "zip",data:=.fields #[.none,.bool false,.bool false,.ref (h.objs.size+2),.ref (h.objs.size+3)] }
theorem meets (x y:Str) (t u:Tok):Meets (Builtin.«zip.__new__» ⟨[.type "zip",.str x t,.str y u],[]⟩) (fun _ R s=>R (.ok (.ret (.ref (s.heap.objs.size+4)))) { s with heap:=made s.heap x y t u }):=
 .of_wp fun prog w A R s h=>by
  obtain ⟨hp,g,d,tk,os⟩:=s
  have hsub:=sub_zip
  wp_walk using iter_text
  refine ⟨_,rfl,?_⟩
  simp only [made] at h
  simpa [Heap.size_push,Builtin.SmallTypes.ownedTupleFields,Nat.add_assoc] using h
theorem call_texts
  (h:∀h',IsZip h' (s.heap.objs.size+4) (s.heap.objs.size+2) (s.heap.objs.size+3) .none->IsPair h' (s.heap.objs.size+2) (.ref s.heap.objs.size) (.ref (s.heap.objs.size+1))->IsPair h' (s.heap.objs.size+3) .none .none->
   h'.get? s.heap.objs.size=some (strIt x t)->h'.get? (s.heap.objs.size+1)=some (strIt y u)->(∀c o,s.heap.get? c=some o->h'.get? c=some o)->Q (.ref (s.heap.objs.size+4)) { s with heap:=h' }):
  wpAny (model prog w) A (call (.type "zip") [.str x t,.str y u]) Q E s:=by
 refine callType_new F.called_zip (by decide) (F.typeCall_zip_2 _ _) (F.newCall_zip_2 _ _) (fun obj=>F.args_object_init_3 obj _ _) F.entry_zip_new (meets x y t u) ?_
 have at1:∀(g:Heap) (o:Obj) (n:Nat),g.objs.size=n->o.isFreed=false->(g.push o).get? n=some o:=fun g o n e f=>by rw [<- e];exact Heap.get?_push_size g f
 have f1:∀(x:Str) (t:Tok),(strIt x t).isFreed=false:=fun _ _=>rfl
 have z5:IsZip (made s.heap x y t u) (s.heap.objs.size+4) (s.heap.objs.size+2) (s.heap.objs.size+3) .none:=at1 _ _ _ (by simp [Heap.size_push]) rfl
 exact ⟨⟨_,z5,rfl⟩,h _ z5 (Heap.get?_push_of_some _ (Heap.get?_push_of_some _ (at1 _ _ _ (by simp [Heap.size_push]) rfl))) (Heap.get?_push_of_some _ (at1 _ _ _ (by simp [Heap.size_push]) rfl))
  (Heap.get?_push_of_some _ (Heap.get?_push_of_some _ (Heap.get?_push_of_some _ (Heap.get?_push_of_some _ (at1 _ _ _ rfl (f1 _ _)))))) (Heap.get?_push_of_some _ (Heap.get?_push_of_some _ (Heap.get?_push_of_some _ (at1 _ _ _ (by simp [Heap.size_push]) (f1 _ _)))))
  fun c o e=>Heap.get?_push_of_some _ (Heap.get?_push_of_some _ (Heap.get?_push_of_some _ (Heap.get?_push_of_some _ (Heap.get?_push_of_some _ e))))⟩
def strAt (x:Str) (t:Tok) (it:Addr) (i:Nat) (h:Heap):Prop:=h.IsStrIter it (if x.cps.all (· < 128) then "str_ascii_iterator" else "str_iterator") x t i
theorem draws (hh:A.handled=none) (it:Addr) (x:Str) (t:Tok):Draws prog w A it [it] x.cps.size (fun i v=>∃c u,x.cps[i]?=some c/\v=.str ⟨#[c]⟩ u) (strAt x t it):=by
 unfold strAt
 cases x.cps.all (· < 128)
 ·exact Draws.strWide hh it x t
 ·exact Draws.strAscii hh it x t
end
end ZP
end L2
namespace L2
open PySem PySem.Spec PyProof.Rows
section
variable {X:Cx} {pins:List (Addr×Obj)} {σ:St} {H:Hp} {s:Shared} {h':Heap}
theorem tracked_off {S:List Addr} (f:∀b∈S,H b=none) (e:H b=some u):b∉S:=fun hb=>by rw [f b hb] at e;cases e
theorem Inv.turnedL {S:List Addr} (I:Inv X pins σ H s) (k:∀b o,b∉S->s.heap.get? b=some o->h'.get? b=some o) (f:∀b∈S,FpOk X pins H b):Inv X pins σ H { s with heap:=h',toks:=t' }:=by
 refine I.call (g':=s.gens) (d':=s.drawn) (ch:=S) ⟨fun b o e _ _ hc=>k b o hc e,fun b o e _ _ hc=>⟨o.slots,k b o hc e⟩,fun _ _ _ n _=>n,fun b o e hc=>⟨o,k b o hc e⟩,fun _ _ e=>e,fun _ _ _ e=>e,fun _ ps e=>⟨#[],by rw [e];simp⟩⟩
  (fun b u e=>(I.hok b u e).stay (fun c v hc q=>k c v ?_ q) (fun _ q=>q) fun _ _ q=>q) I.bare fun b hb=>⟨(f b hb).2.2.2.1,(f b hb).2.1,(f b hb).2.2.2.2.1,(f b hb).2.2.2.2.2⟩
 rcases hc with z | z
 ·rw [z];exact tracked_off (fun b hb=>(f b hb).1) e
 ·exact tracked_off (fun b hb=>(f b hb).1) z
theorem Inv.turnedNew {S:List Addr} {t':Nat} {o:HO} (I:Inv X pins σ H s) (k:∀b o,b∉S->s.heap.get? b=some o->h'.get? b=some o) (f:∀b∈S,FpOk X pins H b)
  (new:b_b X.prog X.w (upd H s.heap.objs.size o) h' s.heap.objs.size o):Inv X pins σ (upd H s.heap.objs.size o) { s with heap:=h',toks:=t' }:=by
 have fr:H s.heap.objs.size=none:=I.hok.fresh (Nat.le_refl _)
 have ne:∀b u,H b=some u->b≠s.heap.objs.size:=fun b u e=>ne_of_none e fr
 refine I.call (g':=s.gens) (d':=s.drawn) (ch:=S) ⟨fun b o e _ _ hc=>k b o hc e,fun b o e _ _ hc=>⟨o.slots,k b o hc e⟩,fun b o e n _=>?_,fun b o e hc=>⟨o,k b o hc e⟩,fun b xs e=>by rw [upd_ne (ne b _ e)];exact e,fun b o u e=>by rw [upd_ne (ne b _ e)];exact e,fun b ps e=>⟨#[],by rw [upd_ne (ne b _ e),e];simp⟩⟩
  (fun b u e=>?_) I.bare fun b hb=>⟨(f b hb).2.2.2.1,(f b hb).2.1,(f b hb).2.2.2.2.1,(f b hb).2.2.2.2.2⟩
 ·rw [upd_ne (Nat.ne_of_lt (Heap.lt_size e))]
  exact n
 ·by_cases hb:b=s.heap.objs.size
  ·subst hb
   rw [upd_same] at e
   cases e
   exact new
  ·rw [upd_ne hb] at e
   refine (I.hok b u e).stay (fun c v hc q=>k c v ?_ q) (fun c q=>by rw [upd_ne (ne c _ q)];exact q) fun c xs q=>by rw [upd_ne (ne c _ q)];exact q
   rcases hc with z | z
   ·rw [z];exact tracked_off (fun b hb=>(f b hb).1) e
   ·exact tracked_off (fun b hb=>(f b hb).1) z
end
def Itz (x y:Str):It:=⟨fun i _=>i<x.length/\i<y.length,fun i H v H'=>∃p c d,x.cps[i]?=some c/\y.cps[i]?=some d/\v=.ref p/\H p=none/\H'=upd H p (.tup [.str ⟨#[c]⟩,.str ⟨#[d]⟩]),fun i _=>x.length≤i\/y.length≤i⟩
theorem turn_zip {K:PySem.W.Frag} (x y:Str) (t u:Tok) (z TI TO i1 i2:Addr) (ap:ZipApart z TI TO i1 i2 TI TI):
  Turn P w K (.Tuple es kt pt) (Itz x y) [z,TI,TO,i1,i2] z (fun i h=>i≤x.length/\i≤y.length/\IsZip h z TI TO .none/\IsPair h TI (.ref i1) (.ref i2)/\(∃a b,IsPair h TO a b)/\ZP.strAt x t i1 i h/\ZP.strAt y u i2 i h)  where
 mem:=by simp
 obj:=fun i h ⟨_,_,hz,hTI,⟨a,b,hTO⟩,⟨o1,e1,_,d1⟩,⟨o2,e2,_,d2⟩⟩ c hc=>by
  simp only [List.mem_cons,List.not_mem_nil,or_false] at hc
  rcases hc with rfl | rfl | rfl | rfl | rfl
  ·exact ⟨_,hz,fun v q=>by cases q⟩
  ·exact ⟨_,hTI,fun v q=>by cases q⟩
  ·exact ⟨_,hTO,fun v q=>by cases q⟩
  ·exact ⟨o1,e1,fun v q=>by rw [d1] at q;cases q⟩
  ·exact ⟨o2,e2,fun v q=>by rw [d2] at q;cases q⟩
 keep:=fun i h h' ⟨b1,b2,hz,hTI,⟨a,b,hTO⟩,⟨o1,e1,r1⟩,⟨o2,e2,r2⟩⟩ k=>
  ⟨b1,b2,k z (by simp) _ hz,k TI (by simp) _ hTI,⟨a,b,k TO (by simp) _ hTO⟩,⟨o1,k i1 (by simp) _ e1,r1⟩,⟨o2,k i2 (by simp) _ e2,r2⟩⟩
 item:=by
  rintro X hP hw hK hc i pins s σ H E I hf ⟨b1,b2,hz,hTI,⟨a,b,hTO⟩,s1,s2⟩ ⟨l1,l2⟩
  subst hP hw hK
  have hT:s.TypeIs (.ref z) "zip":=⟨_,hz,rfl⟩
  unfold pyNext
  refine wpAny_bind (wpAny_attempt (wpAny_callSpecial?_slot (name:=Str.ofString "__next__") hT F.slot_zip_next (wpAny_call_entry F.slot_zip_next hT F.entry_zip_next (ZP.told (ZP.draws (A:=X.A.in1) (I.ok.hd hc) i1 x t) (ZP.draws (A:=X.A.in1) (I.ok.hd hc) i2 y u) ap hz hTI hTO s1 s2 l1 l2 fun v1 v2 g tk p1 p2 gz gTI gTO g1 g2 new gk=>wpAny_pure ⟨_,rfl,?_⟩) (F.args_zip_next_1 _))))
  obtain ⟨c,t1,hc1,rfl⟩:=p1
  obtain ⟨d,t2,hd1,rfl⟩:=p2
  refine wpAny_letOwnedTupleGo_zip (s:={ s with heap:=g,toks:=tk }) gz fun g' gz' gs=>?_
  have up:∀b o,b≠z->g.get? b=some o->g'.get? b=some o:=fun b o hb e=>(gs.2 b hb).trans e
  have nz:s.heap.objs.size≠z:=Nat.ne_of_gt (Heap.lt_size hz)
  have tup:b_b X.prog X.w (upd H s.heap.objs.size (.tup [.str ⟨#[c]⟩,.str ⟨#[d]⟩])) g' s.heap.objs.size (.tup [.str ⟨#[c]⟩,.str ⟨#[d]⟩]):=
   ⟨a_g (by show 2≤16777216;decide),[.str ⟨#[c]⟩ t1,.str ⟨#[d]⟩ t2],.cons ⟨_,rfl⟩ (.cons ⟨_,rfl⟩ .nil),⟨_,up _ _ nz new,rfl,0,rfl⟩⟩
  refine ⟨.ref s.heap.objs.size,_,I.turnedNew (S:=[z,TO,i1,i2]) (h':=g') (t':=tk) (fun b o hb e=>up b o (fun q=>hb (by simp [q])) (gk b o hb e)) (fun b hb=>hf b (by simp at hb ⊢;rcases hb with q | q | q | q <;> simp [q])) tup,rfl,
   ⟨_,c,d,hc1,hd1,rfl,I.hok.fresh (Nat.le_refl _),rfl⟩,⟨l1,l2,gz',up _ _ ap.TIz gTI,⟨_,_,up _ _ ap.TOz gTO⟩,?_,?_⟩,fun b hb=>?_⟩
  ·obtain ⟨o,e,r⟩:=g1
   exact ⟨o,up _ _ ap.i1z e,r⟩
  ·obtain ⟨o,e,r⟩:=g2
   exact ⟨o,up _ _ ap.i2z e,r⟩
  ·have lt:b<s.heap.objs.size:=by
    obtain ⟨o1,e1,_⟩:=s1
    obtain ⟨o2,e2,_⟩:=s2
    simp only [List.mem_cons,List.not_mem_nil,or_false] at hb
    rcases hb with rfl | rfl | rfl | rfl | rfl
    ·exact Heap.lt_size hz
    ·exact Heap.lt_size hTI
    ·exact Heap.lt_size hTO
    ·exact Heap.lt_size e1
    ·exact Heap.lt_size e2
   rw [upd_ne (Nat.ne_of_lt lt)]
   exact (hf b hb).1
 done:=by
  rintro X hP hw hK hc i pins s σ H E I hf ⟨b1,b2,hz,hTI,⟨a,b,hTO⟩,s1,s2⟩ hstop
  subst hP hw hK
  have hT:s.TypeIs (.ref z) "zip":=⟨_,hz,rfl⟩
  have hend:i=x.cps.size\/(i<x.cps.size/\i=y.cps.size):=by
   have e1:x.length=x.cps.size:=rfl
   have e2:y.length=y.cps.size:=rfl
   have q:x.length≤i\/y.length≤i:=hstop
   omega
  unfold pyNext
  refine wpAny_bind (wpAny_attempt (wpAny_callSpecial?_slot (name:=Str.ofString "__next__") hT F.slot_zip_next (wpAny_call_entry F.slot_zip_next hT F.entry_zip_next (ZP.ended (ZP.draws (A:=X.A.in1) (I.ok.hd hc) i1 x t) (ZP.draws (A:=X.A.in1) (I.ok.hd hc) i2 y u) ap hz hTI hTO s1 s2 hend fun g e tk gk he=>?_) (F.args_zip_next_1 _))))
  obtain ⟨o,ho,hcl⟩:=he
  refine wpAny_bind (wpAny_isInstance (s:={ s with heap:=g,toks:=tk }) (T:="StopIteration") (b:=true) ⟨o,ho,hcl⟩ isSubtype_stop (wpAny_pure ⟨rfl,?_⟩))
  exact I.turnedL (S:=[z,TO,i1,i2]) (fun b o hb e=>gk b o hb e) fun b hb=>hf b (by simp at hb ⊢;rcases hb with q | q | q | q <;> simp [q])
 self:=fun _ _ _ _ _ st h=>wpAny_pyIter_zip st.2.2.1 h
def iZip (t:TA):TI:=fun σ H R=>t σ H fun vs H1=>∃x y,vs=[.str x,.str y]/\R (Itz x y) H1
theorem pi_zip {es:List Expr} {kt:Nat} {pt:Pos} {p pos:Pos} (hg:Gl X "zip") (hm:X.mg "zip"=none) (ha:PA X [a,b] ta) (hs:starEach [a,b] X.env=(false,eval a X.env)::starEach [b] X.env:=by rfl)
  (hpl:(backTo pos (starEach [b] X.env)).any (·.1)=false:=by rfl):PI X (.Tuple es kt pt) (.Call (.Name "zip" p) [a,b] [] pos) (iZip ta):=by
 intro pins s σ H R I h
 refine wpAny_Call_Name_kw (ld_blt I hg hm PyProof.Rows.boot_zip (PyProof.Rows.callWith_type1 (thn (ha pos pins s σ H _ I h) fun us s1 ⟨vs,H1,I1,r1,x,y,ev,q⟩=>?_) hs hpl))
 subst ev
 obtain ⟨u1,u2,rfl,⟨t,rfl⟩,⟨u,rfl⟩⟩:=vals2 r1
 refine ZP.call_texts fun g gz gTI gTO g1 g2 gk=>wpAny_pyIter_zip (s:={ s1 with heap:=g }) gz ?_
 have ap:ZipApart (s1.heap.objs.size+4) (s1.heap.objs.size+2) (s1.heap.objs.size+3) s1.heap.objs.size (s1.heap.objs.size+1) (s1.heap.objs.size+2) (s1.heap.objs.size+2):=by
  constructor <;> exact neA (by omega)
 refine ⟨_,[s1.heap.objs.size+4,s1.heap.objs.size+2,s1.heap.objs.size+3,s1.heap.objs.size,s1.heap.objs.size+1],_,Itz x y,H1,rfl,I1.kept (t':=s1.toks) gk,turn_zip x y t u _ _ _ _ _ ap,
  ⟨Nat.zero_le _,Nat.zero_le _,gz,gTI,⟨_,_,gTO⟩,⟨_,g1,rfl,rfl⟩,⟨_,g2,rfl,rfl⟩⟩,fun c hc=>?_,q⟩
 have hge:s1.heap.objs.size≤c:=by
  simp only [List.mem_cons,List.not_mem_nil,or_false] at hc
  rcases hc with rfl | rfl | rfl | rfl | rfl
  ·exact Nat.le_add_right _ _
  ·exact Nat.le_add_right _ _
  ·exact Nat.le_add_right _ _
  ·exact Nat.le_refl _
  ·exact Nat.le_add_right _ _
 exact I1.fpOk hge (I1.hok.fresh hge)
theorem for_zip {g:TG} {tb:TS} {D:Ends} (hxy:x.length=y.length) (Pv:Nat->St->Hp->Prop) (h0:Pv 0 σ H)
  (hs:∀i c d p σ H,x.cps[i]?=some c->y.cps[i]?=some d->H p=none->Pv i σ H->g (.ref p) σ (upd H p (.tup [.str ⟨#[c]⟩,.str ⟨#[d]⟩])) fun σ2 H2=>tb { D with nx:=Pv (i+1),ct:=Pv (i+1),bk:=D.nx } σ2 H2)
  (hd:∀ σ H,Pv x.length σ H->D.nx σ H):
  ∃W:Nat->Nat->St->Hp->Prop,(∃m,W 0 m σ H)/\∀i m σ H,W i m σ H->
   ((Itz x y).stop i H/\D.nx σ H)\/((Itz x y).go i H/\∃N:St->Hp->Prop,(∀ σ' H',N σ' H'->∃m',m'<m/\W (i+1) m' σ' H')/\∀v H',(Itz x y).yld i H v H'->g v σ H' fun σ2 H2=>tb { D with nx:=N,ct:=N,bk:=D.nx } σ2 H2):=by
 refine ⟨fun i m σ H=>m=x.length - i/\i≤x.length/\Pv i σ H,⟨x.length,by simp,Nat.zero_le _,h0⟩,?_⟩
 rintro i m σ H ⟨rfl,hi,p⟩
 by_cases hlt:i<x.length
 ·refine .inr ⟨⟨hlt,by omega⟩,Pv (i+1),fun σ' H' p'=>⟨x.length - (i+1),by omega,rfl,hlt,p'⟩,fun v H' q=>?_⟩
  obtain ⟨a,c,d,e1,e2,rfl,e3,rfl⟩:=q
  exact hs i c d a σ H e1 e2 e3 p
 ·have e:i=x.length:=by omega
  subst e
  exact .inl ⟨.inl (Nat.le_refl _),hd σ H p⟩
def Fly (h:Heap) (e T:Addr) (cls a0:Value) (d:Option Addr):Prop:=
 ∃oe vs oT ts,h.get? e=some oe/\(oe.cls=cls/\vs[0]?=some a0)/\oe.data=.fields vs/\vs[1]?=some (.ref T)/\T≠e/\h.get? T=some oT/\oT.data=.fields ts/\ts[3]?=some .none/\∀x,d=some x->oe.dict=some x
def CXE (P:Program) (w:World):CXT:=fun outer H s E ev s'=>∃(e T:Addr) (C a0:Value) (dd:Option Addr) (H':Hp),ev=.ref e/\s'.os=s.os/\AllBare s'.gens/\Un (frs outer) [] H H' s.heap s'.heap/\HOk P w H' s'.heap/\
 s.heap.get? e=none/\s.heap.get? T=none/\H' e=none/\H' T=none/\Fly s'.heap e T C a0 dd/\E C dd H'
theorem f_i {h base:Heap} {hid:List Addr}:∀{l:List Env},h.FunFrames base l->(∀b∈frs l,b∈hid)->h.FunFrames (PySem.W.hideAll h hid) l
 | [],_,_=>trivial
 | env::r,hl,hs=>by
  obtain ⟨hk,⟨L,o,hf,hn,ho,hd⟩,hr⟩:=hl
  have e:frs (env::r)=L::frs r:=by unfold frs;rw [List.filterMap_cons,hf]
  exact ⟨hk,⟨L,o,hf,PySem.W.hideAll_none _ (hs L (by rw [e];exact List.mem_cons_self)),ho,hd⟩,f_i hr fun b hb=>hs b (by rw [e];exact List.mem_cons_of_mem _ hb)⟩
section
variable {X:Cx} {pins:List (Addr×Obj)} {σ:St} {H H':Hp} {s:Shared} {h1 h2:Heap}
end
section
variable {X:Cx} {E:XK}
end
section
variable {X:Cx}
end
def OwnX (K:PySem.W.Frag) (C:Addr):Prop:=PySem.W.excIn K C [.type "ValueError",.type "Exception",.type "BaseException",.type "object"] "ValueError.__new__"=true
section
variable {P:Program} {w:World} {K:PySem.W.Frag} {mg:Str->Option Value} {base:Heap} {N:List Str} {qual:Str} {scope:Scope} {f:Addr} {cd:Value} {A:Around} {outer:List Env} {s:Shared} {H:Hp} {E:XK}
end
def DfX (P:Program) (w:World) (K:PySem.W.Frag) (mg:Str->Option Value) (base:Heap) (x:Str) (k:Nat) (ps:List Str) (sp:Sp):Prop:=
 ∃(f:Addr) (fd:FuncData),mg x=some (.ref f)/\PySem.W.keepIn K (.ref f)=true/\d_e K fd ps []/\FnOk P w K mg base (CXE P w) k f fd ps sp
section
variable {X:Cx} {pins:List (Addr×Obj)} {σ:St} {H:Hp} {s:Shared}
end
section
variable {X:Cx} {pins:List (Addr×Obj)} {σ:St} {H:Hp} {s:Shared} {x n y fx:Str} {R:Addr} {i j k:Nat} {np hpos pos p cp yp ap:Pos} {b0:Stmt} {suite:List Stmt} {ts:TS} {D:Ends} {ps:List Str} {sp:Sp} {e:Expr} {es:List Expr} {t:TA}
end
end L2
namespace L2
open PySem PySem.Spec PySem.W PyProof.Rows Builtin Builtin.ObjectAttr Builtin.Getset_descriptor
section
variable {prog:Program} {w:World} {A:Around} {E:Value->Shared->Prop} {s:Shared} {K:Frag} {e C:Addr}
end
end L2
namespace RA
end RA
namespace RA
open PySem L2
end RA
namespace RA
def lexd (L:List Nat):List Nat->List Nat->Bool
 | c::a,d::b=>if c=d then lexd L a b else decide (L.idxOf c<L.idxOf d)
 | _,_=>false
def ear (L a b:List Nat):Bool:=if a.length≠b.length then decide (a.length<b.length) else lexd L a b
theorem lexd_at (L:List Nat) {a b:List Nat} (hc:a[i]?=some c) (hd:b[i]?=some d):lexd L (a.drop i) (b.drop i)=if c=d then lexd L (a.drop (i+1)) (b.drop (i+1)) else decide (L.idxOf c<L.idxOf d):=by
 obtain ⟨h1,e1⟩:=List.getElem?_eq_some_iff.mp hc
 obtain ⟨h2,e2⟩:=List.getElem?_eq_some_iff.mp hd
 rw [List.drop_eq_getElem_cons h1,List.drop_eq_getElem_cons h2,e1,e2]
 rfl
end RA
namespace L2
open PySem PySem.Spec PyProof.Rows
theorem Same.set (s:Same H H') (n:H a=none):Same H (L2.upd H' a o):=fun b u e=>by
 rw [upd_ne (ne_of_none e n)]
 exact s b u e
end L2
namespace RA
open PySem L2
end RA
namespace L2
end L2
namespace L2
open PySem PySem.Spec PyProof.Rows
section
variable {K:PySem.W.Frag} {tl:TE} {a:Addr} {xs:List V} {tt:TT} {te:TE} {σ:St} {H:Hp} {Q:VK}
end
theorem f_T (K:PySem.W.Frag):PySem.W.kitOne K (.type "tuple") (.type "tuple")=some true/\PySem.W.kitOne K (.type "list") (.type "list")=some true/\PySem.W.kitOne K (.type "str") (.type "str")=some true:=
 ⟨by with_unfolding_all rfl,by with_unfolding_all rfl,by with_unfolding_all rfl⟩
theorem d_T:e_T X (.builtin "isinstance") (fun xs H Q=>∃x t b,xs=[x,.ty T]/\TyOf X.K H x t/\PySem.W.kitOne X.K t (.type T)=some b/\Q (.bl b) H):=by
 intro pins s σ H xs us Q I r h
 obtain ⟨x,t,b,h1,h2,h3,q⟩:=h
 exact e_I (b:=b) pins s σ H xs us Q I r ⟨x,t,h1,h2,h3,q⟩
section
variable {X:Cx} {elt iter:Expr} {x:Str} {px pos:Pos} {ifs:List Expr} {sc:Scope} {wi:TI} {tt:TT} {te:TE}
theorem comp_used (hsw:swapsWith (.ListComp elt [⟨.Name x px,iter,ifs,0⟩] sc pos) (some (.Name y py)) spos.line env=pure true)
  (h:∀p,wpAny M A (comprehension (.ListComp elt [⟨.Name x px,iter,ifs,0⟩] sc pos) sc env p (newList []) false (eval iter env) (some (assign (.Name y py) env))) (fun _ s'=>Q .next s') E s):
  wpAny M A (exec (.Assign [.Name y py] (.ListComp elt [⟨.Name x px,iter,ifs,0⟩] sc pos) spos) env) Q E s:=by
 have used:wpAny M A (evalThenUse (.ListComp elt [⟨.Name x px,iter,ifs,0⟩] sc pos) env (assign (.Name y py) env)) (fun _ s'=>Q .next s') E s:=
  wpAny_bind (wpAny_mono (h iter.pos) (fun _ _ q=>wpAny_pure q) fun _ _ e=>e)
 have one:=exec_Assign_Name_used (env:=env) y py (.ListComp elt [⟨.Name x px,iter,ifs,0⟩] sc pos) spos hsw
 exact one▸wpAny_bind (wpAny_standAt (wpAny_bind (wpAny_mono used (fun _ _ q=>wpAny_pure q) fun _ _ e=>e)))
end
theorem e_H (K:PySem.W.Frag) (hK:X.K=K:=by rfl):e_T X (.type "tuple") (fun xs H Q=>∃p ys,xs=[.ref p]/\((SqL K H p ys/\∀l,H l=none->Q (.ref l) (upd H l (.tup ys)))\/(SqT K H p ys/\Q (.ref p) H))):=by
 subst hK
 exact a_o
section
variable {X:Cx} {elt iter:Expr} {x:Str} {px pos:Pos} {ifs:List Expr} {sc:Scope} {wi:TI} {tt:TT} {te:TE}
theorem b_r (N2:List Str) (hc:X.calm=true) (hN2:(x::N2).Nodup) (hi:PI X (.Name x px) iter wi)
  (hb:∀(cl:List (Str×Addr)) (C:Addr) (fp:List Addr) (s:Shared) (H:Hp),PTs { cxComp X x sc cl C fp s H with N:=x::N2 } ifs tt/\PE { cxComp X x sc cl C fp s H with N:=x::N2 } elt te)
  (hx:sc.names.lookup x=some .local:=by rfl) (hkind:sc.kind=.function:=by rfl)
  (hnames:∀y∈sc.names,y.2=.local->sc.names.lookup y.1=some .local:=by decide +kernel) (hcell:∀y∈sc.names,y.2≠.cell:=by decide +kernel)
  (hfree:(sc.names.all fun y=>y.2 !=.free || X.env.scope.names.lookup y.1==some .cell)=true:=by rfl)
  (hlo:(N2.all fun y=>sc.names.lookup y !=some .local)=true:=by rfl) (hl2:N2.length=X.N.length:=by rfl) (hz2:((N2.zip X.N).all fun y=>y.1==y.2 || sc.names.lookup y.1==none)=true:=by rfl)
  (hs:∀x,foldedSetIterable iter X.env x=pure x:=by intro _;rfl):
  PE X (.ListComp elt [⟨.Name x px,iter,ifs,0⟩] sc pos) (tComp wi tt te):=by
 intro pins s σ H Q I h
 have hfr:∀y∈sc.names,y.2=.free->X.env.kindOf y.1=some .cell:=fun y hy e=>by
  have q:=List.all_eq_true.mp hfree y hy
  rw [e] at q
  simpa [Env.kindOf] using q
 have hlo':∀y∈N2,sc.names.lookup y≠some .local:=fun y hy e=>by
  have q:=List.all_eq_true.mp hlo y hy
  rw [e] at q
  simp at q
 obtain ⟨cl,hclos,hsub,hhas⟩:=b_P (env:=X.env) (sc:=sc) fun y hy e=>I.ok.has y.1 (.inl (hfr y hy e))
 rw [eval_ListComp]
 refine wpAny_comprehension_free (use:=none) rfl hs hclos hkind hnames (thn (hi pins s σ H _ I h) fun v s1 h1=>thn h1 fun itv s2 h2=>?_)
 obtain ⟨it,fp,tn,J,H2,e,I2,T,st2,f2,hW⟩:=h2
 subst e
 have nobinds:∀y∈([]:List (Str×Value)),sc.names.lookup y.1=some .local:=fun y hy=>absurd hy (by simp)
 refine wpAny_newObj_type ?_
 refine wpAny_newFunctionEnv hcell nobinds (fun h₁ hns₁ hsb₁=>?_) hkind
 dsimp only at hns₁ hsb₁ ⊢
 generalize hHa:s2.heap.push { cls:=.type "list",dict:=none,data:=.seq ([]:List Value).toArray }=Ha at hns₁ hsb₁ ⊢
 have hC:Ha.objs.size=s2.heap.objs.size+1:=by rw [<- hHa,Heap.size_push]
 have hDC:s2.heap.objs.size≠Ha.objs.size:=by rw [hC];exact Nat.ne_of_lt (Nat.lt_succ_self _)
 have hCle:s2.heap.objs.size≤Ha.objs.size:=by rw [hC];exact Nat.le_succ _
 have neC:∀b o,s2.heap.get? b=some o->b≠Ha.objs.size:=fun b o e=>Nat.ne_of_lt (Nat.lt_of_lt_of_le (Heap.lt_size e) hCle)
 have old:∀b o,s2.heap.get? b=some o->h₁.get? b=some o:=fun b o e=>hsb₁.extBut b o (neC b o e) (Heap.get?_push_of_some _ (hHa▸Heap.get?_push_of_some _ e))
 have hacc:h₁.get? s2.heap.objs.size=some { cls:=.type "list",dict:=none,data:=.seq ([]:List Value).toArray }:=hsb₁.extBut _ _ hDC (Heap.get?_push_of_some _ (hHa▸Heap.get?_push_size _ rfl))
 generalize hDe:s2.heap.objs.size=D at *
 generalize hCe:Ha.objs.size=C at *
 have hHD:H2 D=none:=I2.hok.fresh (Nat.le_of_eq hDe)
 have hHC:H2 C=none:=I2.hok.fresh (by omega)
 obtain ⟨W,⟨m0,w0⟩,turn⟩:=hW D hHD
 have fplt:∀b∈fp,b<D:=fun b hb=>by
  obtain ⟨o,e,_⟩:=T.obj _ _ st2 b hb
  rw [<- hDe]
  exact Heap.lt_size e
 let X':Cx:={ cxComp X x sc cl C fp s2 H2 with N:=x::N2 }
 have nofs:∀b∈fp,b∉frs X.stack:=fun b hb z=>by
  rcases List.mem_cons.mp (I2.stkSub b z) with e | e
  ·exact (f2 b hb).2.1 e
  ·exact (f2 b hb).2.2.1 e
 have ok':X'.Ok:=by
  refine ⟨I2.ok.mod,hkind,I2.ok.glob,I2.ok.blt,?_,fun y z c e1 e2=>I2.ok.inj y z c (hsub y c e1) (hsub z c e2),fun y hy=>?_,fun y c e=>absurd (show false=true from e) Bool.false_ne_true,I2.ok.hd,I2.ok.frames,.inl rfl,fun b hb=>⟨?_,fun y c e=>?_⟩,I2.bs,
   Nat.le_trans I2.ok.bsz I2.sz,fun b o e hb=>?_,nofs,I2.stack,I2.stkFree⟩
  ·show s2.heap.objs.size≤C
   omega
  ·rcases hy with hy | hy
   ·rcases relabel_lookup (show (relabel sc X.env).names.lookup y=some .cell from hy) with e | ⟨_,e,_⟩
    ·exact absurd rfl (hcell _ (PySem.mem_of_lookup e))
    ·exact hhas _ (PySem.mem_of_lookup e) rfl
   ·rcases relabel_lookup (show (relabel sc X.env).names.lookup y=some .free from hy) with e | ⟨e,_⟩
    ·exact hhas _ (PySem.mem_of_lookup e) rfl
    ·cases e
  ·exact Nat.ne_of_lt (Nat.lt_of_lt_of_le (fplt b hb) (by omega:D≤C))
  ·exact (f2 b hb).2.2.2.2.1 y c (hsub y c e)
  ·rcases (f2 b hb).2.2.2.1 with z | z
   ·exact I2.ok.noex b o e z
   ·exact absurd (Nat.lt_of_lt_of_le (Nat.lt_of_lt_of_le (Heap.lt_size e) I2.ok.bsz) z) (Nat.lt_irrefl _)
 have I4:∀tk,Inv X' [] (none::σ) (upd H2 D (.lst [])) { s2 with heap:=h₁,toks:=tk }:=fun tk=>by
  refine ⟨ok',rfl,I2.bare,Un.laid old (Nat.le_of_eq hDe) hHD,⟨_,hns₁,fun i y v e1 e2 e3=>?_⟩,fun y c e=>?_,?_,fun y c e=>?_,fun p hp=>?_,I2.hok.laid old (Nat.le_of_eq hDe) ?_,?_⟩
  ·cases i with
   | zero=>simp at e2
   | succ i=>
    have e0:N2[i]?=some y:=by simpa [X',cxComp] using e1
    have e2:σ[i]?=some (some v):=by simpa using e2
    have e3:Vis (relabel sc X.env) y:=e3
    have hyN:y∈N2:=List.mem_of_getElem? e0
    have free:sc.names.lookup y=some .free/\(relabel sc X.env).names.lookup y≠some .local:=by
     rcases e3 with e | e | e
     ·rcases relabel_lookup e with q | ⟨q,_⟩
      ·exact absurd q (hlo' y hyN)
      ·cases q
     ·rcases relabel_lookup e with q | ⟨_,q,_⟩
      ·exact absurd rfl (hcell _ (PySem.mem_of_lookup q))
      ·exact ⟨q,by rw [e];decide⟩
     ·rcases relabel_lookup e with q | ⟨q,_⟩
      ·exact ⟨q,by rw [e];decide⟩
      ·cases q
    have e1:X.N[i]?=some y:=by
     have hi:i<N2.length:=(List.getElem?_eq_some_iff.mp e0).1
     have hi2:i<X.N.length:=by omega
     have hm:(y,X.N[i])∈N2.zip X.N:=by
      have hz:(N2.zip X.N)[i]?=some (y,X.N[i]):=by
       rw [List.getElem?_zip_eq_some]
       exact ⟨e0,List.getElem?_eq_getElem hi2⟩
      exact List.mem_of_getElem? hz
     have q:=List.all_eq_true.mp hz2 _ hm
     rcases Bool.or_eq_true_iff.mp q with q | q
     ·have:y=X.N[i]:=eq_of_beq q
      rw [List.getElem?_eq_getElem hi2,<- this]
     ·have q2:sc.names.lookup y=none:=by simpa using q
      rw [free.1] at q2
      cases q2
    have kc:X.env.kindOf y=some .cell:=hfr _ (PySem.mem_of_lookup free.1) rfl
    obtain ⟨m,hn,hl⟩:=I2.loc
    obtain ⟨u,ru,lk⟩:=hl i y v e1 e2 (.inr (.inl kc))
    rcases lk with ⟨q,_⟩ | ⟨_,c,hcc,⟨o,ho,hd⟩⟩
    ·rw [kc] at q;cases q
    ·obtain ⟨c',hc'⟩:=hhas _ (PySem.mem_of_lookup free.1) rfl
     have e4:=hsub _ _ hc'
     rw [hcc] at e4
     cases e4
     refine ⟨u,ru,.inr ⟨?_,c,hc',⟨o,old c o ho,hd⟩⟩⟩
     rcases e3 with e | e | e
     ·exact absurd e free.2
     ·exact .inl e
     ·exact .inr e
  ·obtain ⟨v,o,ho,hd⟩:=I2.cell y c (hsub y c e)
   exact ⟨v,o,old c o ho,hd⟩
  ·show upd H2 D (.lst []) C=none
   rw [upd_ne (neA (by omega))]
   exact hHC
  ·obtain ⟨v,o,ho,hd⟩:=I2.cell y c (hsub y c e)
   have hlt:=Heap.lt_size ho
   rw [hDe] at hlt
   show upd H2 D (.lst []) c=none
   rw [upd_ne (Nat.ne_of_lt hlt)]
   exact I2.freeC y c (hsub y c e)
  ·exact absurd (show p∈([]:List (Addr×Obj)) from hp) (by simp)
  ·exact ⟨Nat.zero_le _,[],0,.nil,hacc⟩
  ·show (none::σ).length=(x::N2).length
   rw [List.length_cons,List.length_cons,I2.len,hl2]
 have hN':X'.N.Nodup:=hN2
 have hx':X'.env.scope.names.lookup x=some .local:=lookup_relabel_local hx
 obtain ⟨PT',PE'⟩:=hb cl C fp s2 H2
 have fpX:∀{pins':List (Addr×Obj)} {H':Hp},(∀b∈fp,H' b=none)->(∀p∈pins',p.1∉fp)->∀b∈fp,FpOk X' pins' H' b:=fun hn hp b hb=>by
  refine ⟨hn b hb,?_,nofs b hb,.inl hb,fun y c e=>(f2 b hb).2.2.2.2.1 y c (hsub y c e),fun p q z=>?_⟩
  ·exact Nat.ne_of_lt (Nat.lt_of_lt_of_le (fplt b hb) (by omega:D≤C))
  ·rcases List.mem_append.mp q with q | q
   ·exact absurd (show p∈([]:List (Addr×Obj)) from q) (by simp)
   ·exact hp p q (by rw [z];exact hb)
 have loop:∀tk,codeAny (model X.prog X.w) X.A (.compLoop (.ListComp elt [⟨.Name x px,iter,ifs,0⟩] sc pos) 0 (.ref it) (.ref D) (compEnvC sc cl C X.env)) (compPost (model X.prog X.w) X.A X.xe none (EP X pins σ Q) (.ref D) C) { s2 with heap:=h₁,toks:=tk }:=fun tk=>by
  refine codeAny_compLoop_tests (fun n s'=>∃i ys o H',Inv X' [] (o::σ) H' s'/\tn i s'.heap/\(∀b∈fp,H' b=none)/\W i n ys H') ?_ m0 ⟨0,[],none,_,I4 tk,T.keep _ _ _ st2 fun b hb o e=>old b o e,fun b hb=>?_,w0⟩
  ·rintro n s3 ⟨i,ys,o3,H3,I3,st3,fr3,w3⟩
   obtain ⟨hD3,alt⟩:=turn i n ys H3 w3
   rcases alt with ⟨stop,qn⟩ | ⟨go,hlen,step⟩
   ·refine wpAny_mono (T.done X' rfl rfl rfl hc i [] s3 _ H3 (fun _ _=>False) I3 (fpX fr3 (by simp)) st3 stop) (fun r s4 hpq=>?_) fun _ _ f=>f.elim
    obtain ⟨hr,I4'⟩:=hpq
    subst hr
    obtain ⟨mC,hnC,_⟩:=I4'.loc
    refine ⟨mC,hnC,fun h' hs'=>?_⟩
    have nC:∀b u,H3 b=some u->b≠C:=fun b u e z=>by rw [z] at e;rw [show H3 C=none from I4'.free] at e;cases e
    have hok':HOk X.prog X.w H3 h':=fun b u e=>(I4'.hok b u e).stay (fun c v hcc q=>hs'.extBut c v (by
     rcases hcc with z | z
     ·rw [z];exact nC b u e
     ·exact nC c _ z) q) (fun _ q=>q) fun _ _ q=>q
    have un:Un (frs X.stack) fp H2 H3 s2.heap h':=
     ⟨fun b o e n1 n2 n3=>hs'.extBut b o (neC b o e) (I4'.base.keep b o e n1 n2 n3),fun b o e n1 n2 n3=>by
       obtain ⟨sl,q⟩:=I4'.base.slot b o e n1 n2 n3
       exact ⟨sl,hs'.extBut b _ (neC b o e) q⟩,I4'.base.free,fun b o e n1=>by
       obtain ⟨o',q⟩:=I4'.base.there b o e n1
       exact ⟨o',hs'.extBut b _ (neC b o e) q⟩,I4'.base.tups,I4'.base.frzs,I4'.base.tbls⟩
    exact ⟨.ref D,H3,I2.call' (s':={ s4 with heap:=h' }) I4'.os un hok' I4'.bare fun b hb=>⟨(f2 b hb).2.2.2.1,(f2 b hb).2.1,(f2 b hb).2.2.2.2.1,(f2 b hb).2.2.2.2.2⟩,rfl,qn⟩
   ·refine wpAny_mono (T.item X' rfl rfl rfl hc i [] s3 _ H3 (fun _ _=>False) I3 (fpX fr3 (by simp)) st3 go) (fun r s4 hpq=>?_) fun _ _ f=>f.elim
    obtain ⟨u,hr,h4⟩:=hpq
    subst hr
    have eg:(letOwnedTupleGo (.Name x px) (.ref it) u >>= fun _=>assign (.Name x px) (compEnvC sc cl C X.env) u)=assign (.Name x px) (compEnvC sc cl C X.env) u:=pure_bind () _
    show wpAny _ _ (assign (.Name x px) (compEnvC sc cl C X.env) u) _ _ s4
    rw [<- eg]
    refine wpAny_bind (wpAny_mono h4 (fun _ s5 hpq=>?_) fun _ _ f=>f.elim)
    obtain ⟨y,H5,I5,r5,y5,st5,fr5⟩:=hpq
    have I5':=I5.pinned (fpX fr5 (by simp)) (T.obj _ _ st5)
    refine wpAny_mono (a_B (X:=X') (i:=0) (pos:=px) hN' rfl (.inl hx') (.inr hx') _ s5 _ H5 y u (fun σ' H'=>σ'=some y::σ/\H'=H5) I5' r5 ⟨rfl,rfl⟩) (fun _ s6 hpq=>?_) fun _ _ f=>f.elim
    obtain ⟨σ6,H6,I6,e1,e2⟩:=hpq
    subst e1 e2
    refine wpAny_mono (PT' _ s6 _ _ _ I6 (step y _ y5)) (fun ok s7 hpq=>?_) fun _ _ f=>f.elim
    obtain ⟨H7,I7,q7⟩:=hpq
    have again:∀{s8:Shared} {H8:Hp} {ys':List V},Inv X' ([]++e_h fp s5.heap) (some y::σ) H8 s8->(∃m',m'<n/\W (i+1) m' ys' H8)->∃m,m<n/\∃i ys o H',Inv X' [] (o::σ) H' s8/\tn i s8.heap/\(∀b∈fp,H' b=none)/\W i m ys H':=fun {s8 H8 ys'} I8 ⟨m',hm,w8⟩=>by
     refine ⟨m',hm,i+1,ys',some y,H8,I8.unpinned,T.keep _ _ _ st5 fun b hb o e=>(I8.pin (b,o) (List.mem_append_right _ (List.mem_append_right _ (a_H hb e)))).1,fun b hb=>?_,w8⟩
     obtain ⟨o,e,d⟩:=T.obj _ _ st5 b hb
     exact (I8.pin (b,o) (List.mem_append_right _ (List.mem_append_right _ (a_H hb e)))).2.1
    cases ok with
    | false=>exact again I7 q7
    | true=>
     have q7:te (some y::σ) H7 _:=q7
     refine wpAny_mono (PE' _ s7 _ _ _ I7 q7) (fun z s8 hpq=>?_) fun _ _ f=>f.elim
     obtain ⟨yv,H8,I8,r8,hD8,q8⟩:=hpq
     refine wpAny_mono (a_u (X:=X') _ s8 _ H8 (.ref D) [yv] (.ref D) [z] (fun _ H9=>H9=upd H8 D (.lst (ys++[yv]))) I8 rfl (.cons r8 .nil) ⟨D,ys,yv,rfl,rfl,hD8,hlen,rfl⟩) (fun _ s9 hpq=>?_) fun _ _ f=>f.elim
     obtain ⟨_,H9,I9,_,e9⟩:=hpq
     subst e9
     exact again I9 q8
  ·show upd H2 D (.lst []) b=none
   rw [upd_ne (Nat.ne_of_lt (fplt b hb))]
   exact (f2 b hb).1
 exact codeAny_compStart_list (loop _) (T.self _ _ _ _ _ (T.keep _ _ _ st2 fun b hb o e=>old b o e) (loop _))
end
end L2
namespace RA
open PySem L2
end RA
namespace L2
end L2
namespace RA
open PySem L2
end RA
namespace L2
open PySem PySem.Spec PyProof.Rows
section
variable {κ:Type} [DecidableEq κ]
def valV (kvs:List (κ×V)) (k:κ):Option V:=(kvs.find? fun kv=>decide (kv.1=k)).map (·.2)
theorem d_Q {p:κ×V} {r:List (κ×V)} {k:κ} (e:p.1=k):valV (p::r) k=some p.2:=by simp [valV,List.find?_cons,e]
theorem d_f {p:κ×V} {r:List (κ×V)} {k:κ} (e:¬ p.1=k):valV (p::r) k=valV r k:=by simp [valV,List.find?_cons,e]
theorem KV.val {kvs:List (κ×V)} {vs:List (κ×Value)} (r:KV kvs vs) (k:κ):RelO (valV kvs k) (valueAt vs k):=by
 unfold KV at r
 induction r with
 | nil=>exact True.intro
 | @cons p q ps qs h t ih=>
  obtain ⟨h1,h2⟩:=h
  by_cases e:p.1=k
  ·have e':q.1=k:=h1.symm.trans e
   have b:valueAt (q::qs) k=some q.2:=by simp [valueAt,List.find?_cons,e']
   rw [d_Q e,b];exact h2
  ·have e':¬ q.1=k:=fun z=>e (h1.trans z)
   have b:valueAt (q::qs) k=valueAt qs k:=by simp [valueAt,List.find?_cons,e']
   rw [d_f e,b];exact ih
end
section
variable {X:Cx} {d:Addr} {kvs:List (Key×V)}
end
end L2
namespace RA
section
variable {κ:Type} [DecidableEq κ]
def disA (acc:List κ):List κ->List κ
 | []=>acc
 | k::ks=>disA (if k∈acc then acc else acc++[k]) ks
def dis (ks:List κ):List κ:=disA [] ks
def numF (ks:List κ):List Nat:=ks.map fun k=>(dis ks).idxOf k
theorem disA_snoc (k:κ):∀(ks acc:List κ),disA acc (ks++[k])=if k∈disA acc ks then disA acc ks else disA acc ks++[k]
 | [],_=>rfl
 | _::ks,_=>disA_snoc k ks _
theorem disA_sub:∀(ks acc:List κ) (k:κ),k∈acc\/k∈ks↔k∈disA acc ks
 | [],acc,k=>by simp [disA]
 | a::ks,acc,k=>by
  show _↔k∈disA (if a∈acc then acc else acc++[a]) ks
  rw [<- disA_sub ks]
  by_cases h:a∈acc
  ·rw [if_pos h,List.mem_cons]
   constructor
   ·rintro (x | rfl | x)
    ·exact .inl x
    ·exact .inl h
    ·exact .inr x
   ·rintro (x | x)
    ·exact .inl x
    ·exact .inr (.inr x)
  ·rw [if_neg h,List.mem_cons,List.mem_append,List.mem_singleton]
   constructor
   ·rintro (x | x | x)
    ·exact .inl (.inl x)
    ·exact .inl (.inr x)
    ·exact .inr x
   ·rintro ((x | x) | x)
    ·exact .inl x
    ·exact .inr (.inl x)
    ·exact .inr (.inr x)
theorem mem_dis {ks:List κ} {k:κ}:k∈dis ks↔k∈ks:=by
 rw [dis,<- disA_sub]
 simp
theorem dis_snoc (ks:List κ) (k:κ):dis (ks++[k])=if k∈dis ks then dis ks else dis ks++[k]:=disA_snoc k ks []
theorem disA_len:∀(ks acc:List κ),(disA acc ks).length≤acc.length+ks.length
 | [],_=>by simp [disA]
 | a::ks,acc=>by
  have h:=disA_len ks (if a∈acc then acc else acc++[a])
  have h2:(if a∈acc then acc else acc++[a]).length≤acc.length+1:=by
   split
   ·omega
   ·simp
  show (disA (if a∈acc then acc else acc++[a]) ks).length≤_
  rw [List.length_cons]
  omega
theorem dis_len (ks:List κ):(dis ks).length≤ks.length:=by
 have:=disA_len ks []
 simpa [dis] using this
theorem idx_inj {l:List κ} {a b:κ} (ha:a∈l) (h:l.idxOf a=l.idxOf b):a=b:=by
 have h1:l.idxOf a<l.length:=List.idxOf_lt_length_of_mem ha
 have h2:l.idxOf b<l.length:=by omega
 have e1:=List.getElem_idxOf h1
 have e2:=List.getElem_idxOf h2
 rw [<- e1,<- e2]
 congr 1
theorem idxOf_leG {l:List κ} {c:κ}:∀{i:Nat},l[i]?=some c->l.idxOf c≤i:=by
 induction l with
 | nil=>intro i e;simp at e
 | cons a l ih=>
  intro i e
  by_cases hac:a=c
  ·subst hac
   rw [List.idxOf_cons_self]
   exact Nat.zero_le _
  ·cases i with
   | zero=>simp at e;exact absurd e hac
   | succ i=>
    have h1:=ih (i:=i) (by simpa using e)
    have h2:(a::l).idxOf c=l.idxOf c+1:=by
     rw [List.idxOf_cons,beq_eq_false_iff_ne.mpr hac]
     rfl
    omega
theorem d_l (ks:List κ):(numF ks).length=ks.length:=by simp [numF]
theorem f_Q {ks:List κ} {i:Nat} {k:κ} (h:ks[i]?=some k):(numF ks).getD i 0=(dis ks).idxOf k:=by
 rw [List.getD_eq_getElem?_getD,numF,List.getElem?_map,h]
 rfl
theorem e_s {ks:List κ} {x:Nat} (h:x∈numF ks):x<ks.length:=by
 obtain ⟨k,hk,rfl⟩:=List.mem_map.mp h
 exact Nat.lt_of_lt_of_le (List.idxOf_lt_length_of_mem (mem_dis.mpr hk)) (dis_len ks)
theorem d_E {ks:List κ} {i j:Nat} {a b:κ} (ha:ks[i]?=some a) (hb:ks[j]?=some b):(numF ks).getD i 0=(numF ks).getD j 0↔a=b:=by
 rw [f_Q ha,f_Q hb]
 constructor
 ·exact idx_inj (mem_dis.mpr (List.mem_of_getElem? ha))
 ·rintro rfl
  rfl
theorem idx_app {l m:List κ} {a:κ} (h:a∈l):(l++m).idxOf a=l.idxOf a:=by
 rw [List.idxOf_append,if_pos h]
theorem idx_new {l:List κ} {a:κ} (h:a∉l):(l++[a]).idxOf a=l.length:=by
 rw [List.idxOf_append,if_neg h]
 simp
theorem numF_same {κ':Type} [DecidableEq κ']:∀(n:Nat) (ks:List κ) (ks':List κ'),ks.length=n->ks'.length=n->
  (∀(i j:Nat) (a b:κ) (a' b':κ'),ks[i]?=some a->ks[j]?=some b->ks'[i]?=some a'->ks'[j]?=some b'->(a=b↔a'=b'))->
  (dis ks).length=(dis ks').length/\∀(i:Nat) (a:κ) (a':κ'),ks[i]?=some a->ks'[i]?=some a'->(dis ks).idxOf a=(dis ks').idxOf a':=by
 intro n
 induction n with
 | zero=>
  intro ks ks' h1 h2 _
  rw [List.length_eq_zero_iff] at h1 h2
  subst h1 h2
  exact ⟨rfl,fun i a a' h=>by simp at h⟩
 | succ n ih=>
  intro ks ks' h1 h2 hp
  obtain ⟨k,l,rfl⟩:∃k l,ks=l++[k]:=⟨ks.getLast (by intro z;rw [z] at h1;cases h1),ks.dropLast,(List.dropLast_concat_getLast _).symm⟩
  obtain ⟨k',l',rfl⟩:∃k l,ks'=l++[k]:=⟨ks'.getLast (by intro z;rw [z] at h2;cases h2),ks'.dropLast,(List.dropLast_concat_getLast _).symm⟩
  have l1:l.length=n:=by simpa using h1
  have l2:l'.length=n:=by simpa using h2
  have up:∀{α:Type} {l:List α} {k:α} {i:Nat} {a:α},l[i]?=some a->(l++[k])[i]?=some a:=fun {α l k i a} e=>by
   rw [List.getElem?_append_left (List.getElem?_eq_some_iff.mp e).1]
   exact e
  have last:(l++[k])[n]?=some k:=by rw [List.getElem?_append_right (by omega),l1];simp
  have last':(l'++[k'])[n]?=some k':=by rw [List.getElem?_append_right (by omega),l2];simp
  obtain ⟨q1,q2⟩:=ih l l' l1 l2 fun i j a b a' b' e1 e2 e3 e4=>hp i j a b a' b' (up e1) (up e2) (up e3) (up e4)
  have mm:k∈dis l↔k'∈dis l':=by
   rw [mem_dis,mem_dis]
   constructor
   ·intro hm
    obtain ⟨i,hi⟩:=List.mem_iff_getElem?.mp hm
    have hlt:i<l'.length:=by have:=(List.getElem?_eq_some_iff.mp hi).1;omega
    have e:=(hp i n k k l'[i] k' (up hi) last (up (List.getElem?_eq_getElem hlt)) last').mp rfl
    rw [<- e]
    exact List.getElem_mem hlt
   ·intro hm
    obtain ⟨i,hi⟩:=List.mem_iff_getElem?.mp hm
    have hlt:i<l.length:=by have:=(List.getElem?_eq_some_iff.mp hi).1;omega
    have e:=(hp i n l[i] k k' k' (up (List.getElem?_eq_getElem hlt)) last (up hi) last').mpr rfl
    rw [<- e]
    exact List.getElem_mem hlt
  have split:∀{i:Nat} {a:κ} {a':κ'},(l++[k])[i]?=some a->(l'++[k'])[i]?=some a'->(l[i]?=some a/\l'[i]?=some a')\/(i=n/\a=k/\a'=k'):=fun {i a a'} e1 e2=>by
   by_cases hi:i<n
   ·rw [List.getElem?_append_left (by omega)] at e1 e2
    exact .inl ⟨e1,e2⟩
   ·have:i=n:=by
     have:=(List.getElem?_eq_some_iff.mp e1).1
     simp at this
     omega
    subst this
    rw [last] at e1
    rw [last'] at e2
    exact .inr ⟨rfl,(Option.some.inj e1).symm,(Option.some.inj e2).symm⟩
  rw [dis_snoc,dis_snoc]
  by_cases hm:k∈dis l
  ·have hm':=mm.mp hm
   rw [if_pos hm,if_pos hm']
   refine ⟨q1,fun i a a' e1 e2=>?_⟩
   rcases split e1 e2 with ⟨e1,e2⟩ | ⟨rfl,rfl,rfl⟩
   ·exact q2 i a a' e1 e2
   ·obtain ⟨j,hj⟩:=List.mem_iff_getElem?.mp (mem_dis.mp hm)
    have hlt:j<l'.length:=by have:=(List.getElem?_eq_some_iff.mp hj).1;omega
    have e:=(hp j i a a l'[j] a' (up hj) last (up (List.getElem?_eq_getElem hlt)) last').mp rfl
    exact q2 j a a' hj (by rw [<- e];exact List.getElem?_eq_getElem hlt)
  ·have hm':k'∉dis l':=fun z=>hm (mm.mpr z)
   rw [if_neg hm,if_neg hm']
   refine ⟨by simp [q1],fun i a a' e1 e2=>?_⟩
   rcases split e1 e2 with ⟨e1,e2⟩ | ⟨rfl,rfl,rfl⟩
   ·rw [idx_app (mem_dis.mpr (List.mem_of_getElem? e1)),idx_app (mem_dis.mpr (List.mem_of_getElem? e2))]
    exact q2 i a a' e1 e2
   ·rw [idx_new hm,idx_new hm',q1]
theorem c_Q {κ':Type} [DecidableEq κ'] {ks:List κ} {ks':List κ'} (hl:ks.length=ks'.length)
  (hp:∀(i j:Nat) (a b:κ) (a' b':κ'),ks[i]?=some a->ks[j]?=some b->ks'[i]?=some a'->ks'[j]?=some b'->(a=b↔a'=b')):numF ks=numF ks':=by
 obtain ⟨_,h⟩:=numF_same ks'.length ks ks' hl rfl hp
 refine List.ext_getElem? fun i=>?_
 by_cases hi:i<ks.length
 ·have e1:ks[i]?=some ks[i]:=List.getElem?_eq_getElem hi
  have e2:ks'[i]?=some (ks'[i]'(by omega)):=List.getElem?_eq_getElem (by omega)
  rw [numF,numF,List.getElem?_map,List.getElem?_map,e1,e2]
  exact congrArg some (h i _ _ e1 e2)
 ·rw [List.getElem?_eq_none (by rw [d_l];omega),List.getElem?_eq_none (by rw [d_l];omega)]
end
def keyAt (W:List (List Nat)) (lots:List Nat) (i:Nat):Nat×List Nat:=(lots.getD i 0,(W.getD i []).map fun g=>lots.getD g 0)
def d_p (W:List (List Nat)) (lots:List Nat):List (Nat×List Nat):=(List.range W.length).map (keyAt W lots)
def Rd (W:List (List Nat)) (B:List Bool):Nat->List Nat
 | 0=>numF B
 | k+1=>numF (d_p W (Rd W B k))
theorem d_H (h:i<W.length):(d_p W lots)[i]?=some (keyAt W lots i):=by
 rw [d_p,List.getElem?_map,List.getElem?_range h]
 rfl
theorem a_O (W:List (List Nat)) (lots:List Nat):(d_p W lots).length=W.length:=by simp [d_p]
theorem f_l {L:List Nat} {W:List (List Nat)} {B:List Bool} (h:Mach L W B):∀k,(Rd W B k).length=W.length
 | 0=>by rw [Rd,d_l,h.bl]
 | k+1=>by rw [Rd,d_l,a_O]
theorem Rd_lt (h:Mach L W B) (hx:x∈Rd W B k):x<W.length:=by
 cases k with
 | zero=>rw [<- h.bl];exact e_s hx
 | succ k=>rw [<- a_O W (Rd W B k)];exact e_s hx
def lot (W:List (List Nat)) (B:List Bool) (k r:Nat):Nat:=(Rd W B k).getD r 0
theorem lot_zero (h:Mach L W B) (hr:r<W.length) (hs:s<W.length):lot W B 0 r=lot W B 0 s↔B.getD r false=B.getD s false:=by
 have e1:B[r]?=some (B[r]'(by rw [h.bl];exact hr)):=List.getElem?_eq_getElem _
 have e2:B[s]?=some (B[s]'(by rw [h.bl];exact hs)):=List.getElem?_eq_getElem _
 rw [lot,lot,Rd,d_E e1 e2,List.getD_eq_getElem?_getD,List.getD_eq_getElem?_getD,e1,e2]
 rfl
theorem f_a (h:Mach L W B) (hr:r<W.length):(W.getD r []).length=L.length/\∀x∈W.getD r [],x<W.length:=by
 have e:W.getD r []=W[r]:=by rw [List.getD_eq_getElem?_getD,List.getElem?_eq_getElem hr];rfl
 rw [e]
 exact h.row _ (List.getElem_mem hr)
def goal (W:List (List Nat)) (r i:Nat):Nat:=(W.getD r []).getD i 0
theorem goal_lt (h:Mach L W B) (hr:r<W.length) (hi:i<L.length):goal W r i<W.length:=by
 obtain ⟨h1,h2⟩:=f_a h hr
 rw [goal,List.getD_eq_getElem?_getD,List.getElem?_eq_getElem (by omega)]
 exact h2 _ (List.getElem_mem _)
theorem d_S (h:Mach L W B) (hr:r<W.length) (hs:s<W.length):
  lot W B (k+1) r=lot W B (k+1) s↔lot W B k r=lot W B k s/\∀i<L.length,lot W B k (goal W r i)=lot W B k (goal W s i):=by
 rw [lot,lot,Rd,d_E (d_H hr) (d_H hs),keyAt,keyAt,Prod.mk.injEq]
 obtain ⟨a1,_⟩:=f_a h hr
 obtain ⟨b1,_⟩:=f_a h hs
 refine and_congr Iff.rfl ⟨fun e i hi=>?_,fun e=>List.ext_getElem? fun i=>?_⟩
 ·have:=congrArg (fun l=>l[i]?) e
  simp only [List.getElem?_map] at this
  rw [List.getElem?_eq_getElem (by omega),List.getElem?_eq_getElem (by omega)] at this
  rw [goal,goal,List.getD_eq_getElem?_getD (l:=W.getD r []),List.getD_eq_getElem?_getD (l:=W.getD s []),List.getElem?_eq_getElem (by omega),List.getElem?_eq_getElem (by omega)]
  exact Option.some.inj this
 ·by_cases hi:i<L.length
  ·have:=e i hi
   rw [goal,goal,List.getD_eq_getElem?_getD (l:=W.getD r []),List.getD_eq_getElem?_getD (l:=W.getD s []),List.getElem?_eq_getElem (by omega),List.getElem?_eq_getElem (by omega)] at this
   rw [List.getElem?_map,List.getElem?_map,List.getElem?_eq_getElem (by omega),List.getElem?_eq_getElem (by omega)]
   exact congrArg some this
  ·rw [List.getElem?_map,List.getElem?_map,List.getElem?_eq_none (by omega),List.getElem?_eq_none (by omega)]
theorem lot_mono (h:Mach L W B) (hr:r<W.length) (hs:s<W.length):∀{j:Nat},j≤k->lot W B k r=lot W B k s->lot W B j r=lot W B j s:=by
 induction k with
 | zero=>intro j hj e;rw [Nat.le_zero.mp hj];exact e
 | succ k ih=>
  intro j hj e
  by_cases hjk:j=k+1
  ·subst hjk;exact e
  ·exact ih (by omega) ((d_S h hr hs).mp e).1
def twins (n:Nat) (lots:List Nat):Nat:=(List.range (n * n)).countP fun x=>decide (lots.getD (x / n) 0=lots.getD (x % n) 0)
theorem e_E {α:Type} {p q:α->Bool}:∀{l:List α},(∀x∈l,p x=true->q x=true)->(∃x∈l,q x=true/\p x=false)->l.countP p<l.countP q
 | [],_,⟨x,hx,_⟩=>by simp at hx
 | a::l,hi,⟨x,hx,hq,hp⟩=>by
  have le:l.countP p≤l.countP q:=List.countP_mono_left fun y hy=>hi y (by simp [hy])
  rw [List.countP_cons,List.countP_cons]
  rcases List.mem_cons.mp hx with rfl | hx
  ·rw [hq,hp]
   simp
   omega
  ·have:=e_E (l:=l) (fun y hy=>hi y (by simp [hy])) ⟨x,hx,hq,hp⟩
   have h1:=hi a (by simp)
   cases hpa:p a with
   | false=>simp;omega
   | true=>rw [h1 hpa];simp;omega
theorem twins_lt (h:Mach L W B) (e:Rd W B (k+1)≠Rd W B k):twins W.length (Rd W B (k+1))<twins W.length (Rd W B k):=by
 have hn:=h.n1
 have cell:∀x∈List.range (W.length * W.length),x / W.length<W.length/\x % W.length<W.length:=fun x hx=>by
  have hx:=List.mem_range.mp hx
  exact ⟨Nat.div_lt_of_lt_mul hx,Nat.mod_lt _ (by omega)⟩
 refine e_E (fun x hx hp=>?_) ?_
 ·obtain ⟨c1,c2⟩:=cell x hx
  have q:lot W B (k+1) (x / W.length)=lot W B (k+1) (x % W.length):=of_decide_eq_true hp
  exact decide_eq_true ((d_S h c1 c2).mp q).1
 ·refine Classical.byContradiction fun no=>e ?_
  have pat:∀r s,r<W.length->s<W.length->(lot W B (k+1) r=lot W B (k+1) s↔lot W B k r=lot W B k s):=fun r s hr hs=>by
   refine ⟨fun q=>((d_S h hr hs).mp q).1,fun q=>Classical.byContradiction fun nq=>no ⟨r * W.length+s,?_,?_,?_⟩⟩
   ·rw [List.mem_range]
    calc r * W.length+s<r * W.length+W.length:=by omega
     _=(r+1) * W.length:=by rw [Nat.succ_mul]
     _≤W.length * W.length:=Nat.mul_le_mul_right _ hr
   ·have d1:(r * W.length+s) / W.length=r:=by rw [Nat.mul_comm,Nat.mul_add_div (by omega),Nat.div_eq_of_lt hs];omega
    have d2:(r * W.length+s) % W.length=s:=by rw [Nat.mul_comm,Nat.mul_add_mod,Nat.mod_eq_of_lt hs]
    simp only [d1,d2]
    exact decide_eq_true q
   ·have d1:(r * W.length+s) / W.length=r:=by rw [Nat.mul_comm,Nat.mul_add_div (by omega),Nat.div_eq_of_lt hs];omega
    have d2:(r * W.length+s) % W.length=s:=by rw [Nat.mul_comm,Nat.mul_add_mod,Nat.mod_eq_of_lt hs]
    simp only [d1,d2]
    exact decide_eq_false nq
  cases k with
  | zero=>
   show numF (d_p W (Rd W B 0))=numF B
   refine c_Q (by rw [a_O,h.bl]) fun i j a b a' b' e1 e2 e3 e4=>?_
   have hi:i<W.length:=by have:=(List.getElem?_eq_some_iff.mp e1).1;rwa [a_O] at this
   have hj:j<W.length:=by have:=(List.getElem?_eq_some_iff.mp e2).1;rwa [a_O] at this
   rw [<- d_E e1 e2,<- d_E e3 e4]
   exact pat i j hi hj
  | succ k=>
   show numF (d_p W (Rd W B (k+1)))=numF (d_p W (Rd W B k))
   refine c_Q (by rw [a_O,a_O]) fun i j a b a' b' e1 e2 e3 e4=>?_
   have hi:i<W.length:=by have:=(List.getElem?_eq_some_iff.mp e1).1;rwa [a_O] at this
   have hj:j<W.length:=by have:=(List.getElem?_eq_some_iff.mp e2).1;rwa [a_O] at this
   rw [<- d_E e1 e2,<- d_E e3 e4]
   exact pat i j hi hj
theorem twins_top {L:List Nat} {W:List (List Nat)} {B:List Bool} (h:Mach L W B) {k:Nat} (e:∀i<k,Rd W B (i+1)≠Rd W B i):∀j≤k,twins W.length (Rd W B j)+j≤W.length * W.length
 | 0,_=>by
  have:=List.countP_le_length (p:=fun x=>decide ((Rd W B 0).getD (x / W.length) 0=(Rd W B 0).getD (x % W.length) 0)) (l:=List.range (W.length * W.length))
  rw [List.length_range] at this
  exact this
 | j+1,hj=>by
  have h1:=twins_top h e j (by omega)
  have h2:=twins_lt h (e j (by omega))
  omega
theorem few_rounds (h:Mach L W B) (e:∀i<k,Rd W B (i+1)≠Rd W B i):k≤3600:=by
 have h1:=twins_top h e k (Nat.le_refl _)
 have h2:W.length * W.length≤60 * 60:=Nat.mul_le_mul h.n60 h.n60
 omega
end RA
namespace L2
open PySem PySem.Spec PyProof.Rows
def isBl (b:Bool):Value->Bool
 | .bool c=>c==b
 | _=>false
theorem c_c (h:isBl b v=true):v=.bool b:=by
 cases v with
 | bool c=>rw [eq_of_beq (show (c==b)=true from h)]
 | _=>exact absurd (show false=true from h) Bool.false_ne_true
def b_R (P:Program) (w:World):PySem.KeyKind P w Bool where
 is:=isBl
 hash:=fun b=>reduceHash (if b then 1 else 0)
 inj:=fun v a b ha hb=>by
  have e:=(c_c ha).symm.trans (c_c hb)
  cases e
  rfl
 byValue:=fun k v h=>by rw [c_c h];rfl
 pyHash:=fun {A E s k v Q} h q=>by
  cases c_c h
  refine PySem.W.pyHash_slot (T:="bool") rfl F.slot_bool_hash entry_int_hash (args_int_hash _) (beq_builtin_none _) (.inl rfl) ?_
  cases k
  ·exact (show wpAny _ _ (do ret (<- mkInt 0)) _ _ s from wpAny_bind (wpAny_mkInt (wpAny_pure ⟨_,_,rfl,q⟩)))
  ·exact (show wpAny _ _ (do ret (<- mkInt 1)) _ _ s from wpAny_bind (wpAny_mkInt (wpAny_pure ⟨_,_,rfl,q⟩)))
 eqBool:=fun {A E s a b u v Q} ha hb q=>by
  cases c_c ha
  cases c_c hb
  have e:(a==b)=decide (a=b):=by cases a <;> cases b <;> rfl
  exact SeqAt.EqAt.bool_bool a b _ _ _ _ (by rw [e];exact q)
 «strs»:=fun k x t v h=>absurd (show false=true from h) Bool.false_ne_true
abbrev NK:=Nat×List Nat
def zs (ks:List Nat):List Int:=ks.map fun (n:Nat)=>(n:Int)
theorem zs_inj (h:zs a=zs b):a=b:=by
 induction a generalizing b with
 | nil=>cases b with
  | nil=>rfl
  | cons y b=>cases h
 | cons x a ih=>cases b with
  | nil=>cases h
  | cons y b=>
   have h:((x:Int)::zs a)=((y:Int)::zs b):=h
   injection h with h1 h2
   rw [ih h2,Int.ofNat.inj h1]
section
variable (P:Program) (w:World)
def NestAt (h:Heap) (k:NK) (a:Addr):Prop:=∃(o:Obj) (n:Nat) (t:Tok) (b:Addr),h.get? a=some o/\o.cls=.type "tuple"/\o.data=.seq #[.int (k.1:Int) t,.ref b] n/\IsTupleKey (intKind P w) h (zs k.2) b
def f_R (k:NK):Int:=reduceHash (Builtin.Tuple.tupleHashOf [hashInt (k.1:Int),tupleKeyHash (intKind P w) (zs k.2)])
end
section
variable {P:Program} {w:World}
theorem NestAt.inj (hx:NestAt P w h x a) (hy:NestAt P w h y a):x=y:=by
 obtain ⟨o,n,t,b,h1,_,h3,h4⟩:=hx
 obtain ⟨o',n',t',b',g1,_,g3,g4⟩:=hy
 rw [h1] at g1
 cases g1
 rw [h3] at g3
 injection g3 with e1 _
 have e2:[Value.int (x.1:Int) t,.ref b]=[Value.int (y.1:Int) t',.ref b']:=congrArg Array.toList e1
 injection e2 with e3 e4
 injection e3 with e5 _
 injection e4 with e6 _
 injection e6 with e7
 subst e7
 have e8:=zs_inj (h4.inj g4)
 have e9:x.1=y.1:=Int.ofNat.inj e5
 obtain ⟨x1,x2⟩:=x
 obtain ⟨y1,y2⟩:=y
 simp only at e8 e9
 rw [e8,e9]
theorem NestAt.keeps {es ep} (x:NestAt P w h k a) (ho:h.get? d=some o) (hd:o.data=.dict es ep) (hs:Heap.SameBut d h h'):NestAt P w h' k a:=by
 obtain ⟨o',n,t,b,h1,h2,h3,h4⟩:=x
 refine ⟨o',n,t,b,(hs.2 a ?_).trans h1,h2,h3,h4.keeps ho hd hs⟩
 rintro rfl
 rw [h1] at ho
 cases ho
 rw [h3] at hd
 cases hd
theorem NestAt.tup (x:NestAt P w h k a):∃t b,h.IsTuple a #[.int (k.1:Int) t,.ref b]/\IsTupleKey (intKind P w) h (zs k.2) b:=by
 obtain ⟨o,n,t,b,h1,h2,h3,h4⟩:=x
 exact ⟨t,b,⟨o,h1,h2,n,h3⟩,h4⟩
theorem nest_hash (hu:A.units+1<cLine) (x:NestAt P w s.heap k a) (q:Q (f_R P w k) { s with toks:=s.toks+(k.2.length+3) }):
  wpAny (model P w) A (pyHash (.ref a)) Q E s:=by
 obtain ⟨o,n,t,b,h1,h2,h3,h4⟩:=x
 refine PySem.W.pyHash_slot (T:="tuple") ⟨o,h1,h2⟩ F.slot_tuple_hash F.entry_tuple_hash (F.args_tuple_hash_1 _) (beq_builtin_none _) (.inr (by omega)) ?_
 refine wpAny_bind (m:=Builtin.Tuple.tupleItemsOf (.ref a)) (wpAny_tupleItemsOf h1 h3 (wpAny_bind ?_))
 rw [<- Array.forIn_toList]
 show wpAny _ _ (forIn [Value.int (k.1:Int) t,.ref b] _ _) _ _ _
 rw [List.forIn_cons]
 refine wpAny_bind (wpAny_bind (wpAny_pyHash_int (wpAny_bind (wpAny_pure (wpAny_pure ?_)))))
 dsimp only
 rw [List.forIn_cons]
 refine wpAny_bind (wpAny_bind (wpAny_pyHash_tuple (knd:=intKind P w) (by show A.in1.units<cLine;rw [Around.in1_units];exact hu) h4 (wpAny_bind (wpAny_pure (wpAny_pure ?_)))))
 dsimp only
 rw [List.forIn_nil]
 refine wpAny_pure ?_
 refine wpAny_bind (wpAny_mkInt (wpAny_pure ⟨_,_,rfl,?_⟩))
 have e:s.toks+1+((zs k.2).length+1)+1=s.toks+(k.2.length+3):=by
  have:(zs k.2).length=k.2.length:=by simp [zs]
  omega
 simpa [e,f_R] using q
theorem tk_any (x:IsTupleKey (intKind P w) h ks b):IsTupleKey (intKind P' w') h ks b:=by
 obtain ⟨o,its,n,h1,h2,h3,h4⟩:=x
 refine ⟨o,its,n,h1,h2,h3,?_⟩
 generalize its.toList=l at h4 ⊢
 induction h4 with
 | nil=>exact .nil
 | cons a _ ih=>exact .cons a ih
theorem nest_eq (hu:A.units+1<cLine) (hx:NestAt P w s.heap x a) (hy:NestAt P w s.heap y b) (E:Value->Shared->Prop) (Q:Bool->Shared->Prop) (q:Q (decide (x=y)) s):
  wpAny (model P w) A (eqBool (.ref a) (.ref b)) Q E s:=by
 by_cases hab:a=b
 ·subst hab
  have e:=hx.inj hy
  rw [decide_eq_true e] at q
  exact SeqAt.EqAt.same (.ref a) P w E Q q
 ·obtain ⟨t,c,h1,h2⟩:=hx.tup
  obtain ⟨u,d,g1,g2⟩:=hy.tup
  have hu1:A.in1.units<cLine:=by rw [Around.in1_units];exact hu
  have inner:SeqAt.EqAt A.in1 s (.ref c) (.ref d) (decide (zs x.2=zs y.2)):=fun P' w' E' Q' q'=>wpAny_eqBool_tuple (knd:=intKind P' w') hu1 (tk_any h2) (tk_any g2) q'
  have all:=SeqAt.EqAt.of_refs (A:=A) hab (SeqAt.RcAt.tuples (s:=s) (e:=fun j=>if j=0 then ((x.1:Int)==(y.1:Int)) else decide (zs x.2=zs y.2)) h1 g1 (by omega) (fun j l1 l2=>by
   match j,l1,l2 with
   | 0,_,_=>exact SeqAt.EqAt.int_int _ t _ u
   | 1,_,_=>exact inner
   | n+2,l1,_=>exact absurd l1 (by show ¬ (n+2<2);omega)))
  refine all P w E Q ?_
  have e:((List.range (min (#[Value.int (x.1:Int) t,.ref c]:Array Value).size (#[Value.int (y.1:Int) u,.ref d]:Array Value).size)).all (fun j=>if j=0 then ((x.1:Int)==(y.1:Int)) else decide (zs x.2=zs y.2))&&(#[Value.int (x.1:Int) t,.ref c]:Array Value).size==(#[Value.int (y.1:Int) u,.ref d]:Array Value).size)=decide (x=y):=by
   show (((x.1:Int)==(y.1:Int))&&(decide (zs x.2=zs y.2)&&true)&&true)=_
   obtain ⟨x1,x2⟩:=x
   obtain ⟨y1,y2⟩:=y
   by_cases e1:x1=y1
   ·by_cases e2:x2=y2
    ·subst e1 e2
     simp
    ·have:zs x2≠zs y2:=fun z=>e2 (zs_inj z)
     simp [e1,e2,this]
   ·have:¬ ((x1:Int)=(y1:Int)):=fun z=>e1 (Int.ofNat.inj z)
    simp [e1,this]
  rw [e]
  exact q
theorem quiet_in (x:s.heap.IsTuple a items) (hi:∀v∈items.toList,∀(R:Bool->Shared->Prop),R true s->wpAny (model P w) A (eqIsQuiet n v) R E s) (q:Q true s):
  wpAny (model P w) A (eqIsQuiet (n+1) (.ref a)) Q E s:=by
 obtain ⟨o,h1,h2,m,h3⟩:=x
 have hT:s.TypeIs (.ref a) "tuple":=⟨o,h1,h2⟩
 unfold eqIsQuiet
 refine wpAny_bind (wpAny_specialOf hT F.slot_tuple_eq.lookup (wpAny_bind (m:=isInstance (.ref a) (.type "tuple")) (wpAny_isInstance hT isSubtype_tuple_tuple ?_)))
 simp only [Bool.not_true,Bool.false_eq_true,if_false]
 refine wpAny_bind (wpAny_seqItems h1 h3 (wpAny_bind ?_))
 show wpAny _ _ (forIn items _ _) _ _ _
 rw [<- Array.forIn_toList]
 refine wpAny_forIn_list _ (fun rest r s'=>r.1=none/\s'=s/\∀v∈rest,v∈items.toList) _ ?_ ?_ _ _ ⟨rfl,rfl,fun v hv=>hv⟩
 ·rintro v rest r s' ⟨hr,rfl,all⟩
  refine wpAny_bind (hi v (all v List.mem_cons_self) _ ?_)
  simp only [Bool.not_true,Bool.false_eq_true,if_false]
  exact wpAny_pure ⟨rfl,rfl,fun u hu=>all u (List.mem_cons_of_mem _ hu)⟩
 ·rintro ⟨r1,r2⟩ s' ⟨hr,rfl,_⟩
  simp only at hr
  subst hr
  exact wpAny_pure q
theorem nest_quiet (x:NestAt P w s.heap k a) (q:Q true s):wpAny (model P w) A (eqIsQuiet 8 (.ref a)) Q E s:=by
 obtain ⟨t,b,h1,h2⟩:=x.tup
 refine quiet_in (n:=7) h1 (fun v hv R r=>?_) q
 have hv:v∈[Value.int (k.1:Int) t,.ref b]:=hv
 rcases List.mem_cons.mp hv with rfl | hv
 ·rw [eqIsQuiet_byValue _ rfl]
  exact wpAny_pure r
 ·rw [List.mem_singleton.mp hv]
  obtain ⟨o,its,n,g1,g2,g3,g4⟩:=h2
  refine quiet_in (n:=6) ⟨o,g1,g2,n,g3⟩ (fun v hv R r=>?_) r
  rw [eqIsQuiet_byValue _ (g4.byValue v hv)]
  exact wpAny_pure r
end
def nestKind (P:Program) (w:World):HeapKind P w NK where
 is:=NestAt P w
 hash:=f_R P w
 draws:=fun k=>k.2.length+3
 room:=fun A=>A.units+1<cLine
 inj:=fun a b=>a.inj b
 keeps:=fun x ho hd hs=>x.keeps ho hd hs
 pyHash:=fun hu hk h=>nest_hash hu hk h
 eqBool:=fun hu hx hy h=>nest_eq hu hx hy _ _ h
 quiet:=fun hk h=>nest_quiet hk h
structure HKd (P:Program) (w:World) (κ:Type) [DecidableEq κ] where
 knd:HeapKind P w κ
 kin:Hp->κ->Addr->Prop
 ok:∀{H:Hp} {h:Heap} {k:κ} {a:Addr},kin H k a->HOk P w H h->knd.is h k a
 room:∀{A:Around},A.units+64<cLine->knd.room A.in1/\knd.room A
 stay:∀{H H':Hp} {k:κ} {a:Addr},(∀b xs,H b=some (.tup xs)->H' b=some (.tup xs))->kin H k a->kin H' k a
def TIn (H:Hp) (k:List Int) (a:Addr):Prop:=H a=some (.tup (k.map V.int))
def NIn (H:Hp) (k:NK) (a:Addr):Prop:=∃b,H a=some (.tup [.int (k.1:Int),.ref b])/\H b=some (.tup ((zs k.2).map V.int))
theorem items_int {P:Program} {w:World}:∀{ks:List Int} {us:List Value},Vals (ks.map V.int) us->ItemsAre (intKind P w) ks us
 | [],_,r=>by rw [List.map_nil] at r;cases r;exact .nil
 | k::ks,_,r=>by
  rw [List.map_cons] at r
  cases r with
  | cons h t=>
   obtain ⟨u,rfl⟩:=(show ∃t,_=Value.int k t from h)
   exact .cons (by show Value.isInt k (.int k u)=true;simp [Value.isInt]) (items_int t)
theorem tin_ok (e:TIn H k a) (ok:HOk P w H h):IsTupleKey (intKind P w) h k a:=by
 obtain ⟨_,its,r,o,h1,h2,n,h3⟩:=(show b_b P w H h a (.tup (k.map V.int)) from ok a _ e)
 exact ⟨o,its.toArray,n,h1,h2,h3,by simpa using items_int r⟩
def e_N (P:Program) (w:World):HKd P w (List Int) where
 knd:=tupleKind (intKind P w)
 kin:=TIn
 ok:=fun e ok=>tin_ok e ok
 room:=fun {A} hu=>⟨by show A.in1.units<cLine;rw [Around.in1_units];omega,by show A.units<cLine;omega⟩
 stay:=fun s e=>s _ _ e
def d_N (P:Program) (w:World):HKd P w NK where
 knd:=nestKind P w
 kin:=NIn
 ok:=fun {H h k a} e ok=>by
  obtain ⟨b,e1,e2⟩:=e
  obtain ⟨_,its,r,o,h1,h2,n,h3⟩:=(show b_b P w H h a (.tup [.int (k.1:Int),.ref b]) from ok a _ e1)
  obtain ⟨u1,u2,rfl,r1,r2⟩:=vals2 r
  obtain ⟨t,rfl⟩:=(show ∃t,u1=Value.int (k.1:Int) t from r1)
  cases (show u2=Value.ref b from r2)
  exact ⟨o,n,t,b,h1,h2,h3,tin_ok e2 ok⟩
 room:=fun {A} hu=>⟨by show A.in1.units+1<cLine;rw [Around.in1_units];omega,by show A.units+1<cLine;omega⟩
 stay:=fun s ⟨b,e1,e2⟩=>⟨b,s _ _ e1,s _ _ e2⟩
def kdO {P:Program} {w:World} {κ:Type} [DecidableEq κ] (knd:PySem.KeyKind P w κ) (d:Addr) (kvs:List (κ×V)):HO:=.ext fun h=>(d==sysModules)=false/\kvs.length≤sizeLine/\∃vs,KV kvs vs/\h.DictOf knd d vs
abbrev KHr (κ:Type):(κ×Addr×V)->(κ×Addr×Value)->Prop:=fun p q=>p.1=q.1/\p.2.1=q.2.1/\RelV p.2.2 q.2.2
def hdO {P:Program} {w:World} {κ:Type} [DecidableEq κ] (D:HKd P w κ) (d:Addr) (kvs:List (κ×Addr×V)):HO:=.ext fun h=>(d==sysModules)=false/\kvs.length≤sizeLine/\∃xs,Paired (KHr κ) kvs xs/\
 ∃o es ep,h.get? d=some o/\o.ExactDict/\o.data=.dict es ep/\es.toList=xs.map (entryOfKey D.knd)/\(xs.map (·.1)).Nodup
section
variable {P:Program} {w:World} {κ:Type} [DecidableEq κ]
theorem kd_ok {knd:PySem.KeyKind P w κ} {H:Hp} {h:Heap} {d:Addr} {kvs:List (κ×V)} {vs:List (κ×Value)} (ns:(d==sysModules)=false) (hl:kvs.length≤sizeLine) (r:KV kvs vs) (dd:h.DictOf knd d vs):b_b P w H h d (kdO knd d kvs):=by
 refine ⟨⟨ns,hl,vs,r,dd⟩,let ⟨o,_,_,e,_⟩:=dd;⟨o,e⟩,fun h1 h2 a b=>?_⟩
 obtain ⟨a1,a2,vs,r,o,es,ep,e,q⟩:=a
 exact ⟨a1,a2,vs,r,o,es,ep,b o e,q⟩
theorem hd_ok {D:HKd P w κ} {H:Hp} {h:Heap} {d:Addr} {kvs:List (κ×Addr×V)} {xs:List (κ×Addr×Value)} (ns:(d==sysModules)=false) (hl:kvs.length≤sizeLine) (r:Paired (KHr κ) kvs xs) (dd:h.DictOfH D.knd d xs):b_b P w H h d (hdO D d kvs):=by
 obtain ⟨o,es,ep,e,q1,q2,q3,_,q5⟩:=dd
 refine ⟨⟨ns,hl,xs,r,o,es,ep,e,q1,q2,q3,q5⟩,⟨o,e⟩,fun h1 h2 a b=>?_⟩
 obtain ⟨a1,a2,vs,r,o,es,ep,e,q⟩:=a
 exact ⟨a1,a2,vs,r,o,es,ep,b o e,q⟩
theorem c_B {knd:PySem.KeyKind P w κ} {H:Hp} {h:Heap} {d:Addr} {kvs:List (κ×V)} (ok:HOk P w H h) (e:H d=some (kdO knd d kvs)):(d==sysModules)=false/\kvs.length≤sizeLine/\∃vs,KV kvs vs/\h.DictOf knd d vs:=(ok d _ e).1
theorem hd_of {D:HKd P w κ} {H:Hp} {h:Heap} {d:Addr} {kvs:List (κ×Addr×V)} (ok:HOk P w H h) (e:H d=some (hdO D d kvs)) (hk:∀x∈kvs,D.kin H x.1 x.2.1):(d==sysModules)=false/\kvs.length≤sizeLine/\∃xs,Paired (KHr κ) kvs xs/\h.DictOfH D.knd d xs:=by
 obtain ⟨a1,a2,xs,r,o,es,ep,e1,q1,q2,q3,q5⟩:=(ok d _ e).1
 refine ⟨a1,a2,xs,r,o,es,ep,e1,q1,q2,q3,?_,q5⟩
 clear q3 q5 e a2
 induction r with
 | nil=>intro x hx;simp at hx
 | @cons p q ps qs h t ih=>
  intro x hx
  rcases List.mem_cons.mp hx with rfl | hx
  ·have:=D.ok (hk p (by simp)) ok
   rw [<- h.1,<- h.2.1]
   exact this
  ·exact ih (fun y hy=>hk y (by simp [hy])) x hx
def valH (kvs:List (κ×Addr×V)) (k:κ):Option V:=(kvs.find? fun x=>decide (x.1=k)).map (·.2.2)
theorem kh_val {kvs:List (κ×Addr×V)} {xs:List (κ×Addr×Value)} (r:Paired (KHr κ) kvs xs) (k:κ):RelO (valH kvs k) ((atKey xs k).map (·.2)):=by
 induction r with
 | nil=>exact True.intro
 | @cons p q ps qs h t ih=>
  by_cases e:p.1=k
  ·have e':q.1=k:=h.1.symm.trans e
   have a1:valH (p::ps) k=some p.2.2:=by simp [valH,List.find?_cons,e]
   have b:atKey (q::qs) k=some q.2:=by simp [atKey,List.find?_cons,e']
   rw [a1,b]
   exact h.2.2
  ·have e':¬ q.1=k:=fun z=>e (h.1.trans z)
   have a1:valH (p::ps) k=valH ps k:=by simp [valH,List.find?_cons,e]
   have b:atKey (q::qs) k=atKey qs k:=by simp [atKey,List.find?_cons,e']
   rw [a1,b]
   exact ih
theorem pd_snoc {α β:Type} {F:α->β->Prop} {a:α} {b:β} (h:F a b):∀{l:List α} {m:List β},Paired F l m->Paired F (l++[a]) (m++[b])
 | _,_,.nil=>.cons h .nil
 | _,_,.cons r t=>.cons r (pd_snoc h t)
theorem c_u (r:RelO o u):o.isSome=u.isSome:=by
 cases o <;> cases u <;> first | rfl | exact (show False from r).elim
end
section
variable {X:Cx} {pins:List (Addr×Obj)} {σ:St} {H:Hp} {s:Shared} {d:Addr}
theorem Inv.bigS (I:Inv X pins σ H s):sysModules<s.heap.objs.size:=by
 have h:mainGlobals<s.heap.objs.size:=(I.mod.glob.keeps I.bk).lt
 exact Nat.lt_trans (by decide) h
def DGet (P:Program) (w:World) (H:Hp) (d:Addr) (y:V) (r:Option V):Prop:=
 (∃kvs k,H d=some (kdO (b_R P w) d kvs)/\y=.bl k/\r=valV kvs k) \/
 (∃kvs k b,H d=some (hdO (d_N P w) d kvs)/\(∀x∈kvs,NIn H x.1 x.2.1)/\y=.ref b/\NIn H k b/\r=valH kvs k) \/
 ∃kvs k b,H d=some (hdO (e_N P w) d kvs)/\(∀x∈kvs,TIn H x.1 x.2.1)/\y=.ref b/\TIn H k b/\r=valH kvs k
def DPut (P:Program) (w:World) (H:Hp) (d:Addr) (y v:V) (H':Hp):Prop:=
 (∃kvs k,H d=some (kdO (b_R P w) d kvs)/\y=.bl k/\valV kvs k=none/\kvs.length<sizeLine/\H'=upd H d (kdO (b_R P w) d (kvs++[(k,v)]))) \/
 (∃kvs k b,H d=some (hdO (d_N P w) d kvs)/\(∀x∈kvs,NIn H x.1 x.2.1)/\y=.ref b/\NIn H k b/\valH kvs k=none/\kvs.length<sizeLine/\H'=upd H d (hdO (d_N P w) d (kvs++[(k,b,v)]))) \/
 ∃kvs k b,H d=some (hdO (e_N P w) d kvs)/\(∀x∈kvs,TIn H x.1 x.2.1)/\y=.ref b/\TIn H k b/\valH kvs k=none/\kvs.length<sizeLine/\H'=upd H d (hdO (e_N P w) d (kvs++[(k,b,v)]))
def DLen (P:Program) (w:World) (H:Hp) (d:Addr) (n:Nat):Prop:=
 (∃kvs,H d=some (kdO (b_R P w) d kvs)/\n=kvs.length)\/∃kvs,H d=some (hdO (d_N P w) d kvs)/\n=kvs.length
theorem h_get {κ:Type} [DecidableEq κ] {D:HKd X.prog X.w κ} {kvs:List (κ×Addr×V)} {k:κ} {b:Addr} {v:V} {A:Around} {E:Value->Shared->Prop} {Q:Value->Shared->Prop} (hu:A.units+64<cLine) (I:Inv X pins σ H s) (e:H d=some (hdO D d kvs)) (hk:∀x∈kvs,D.kin H x.1 x.2.1) (kb:D.kin H k b)
  (l:some v=valH kvs k) (h:∀w' s',Inv X pins σ H s'->RelV v w'->Q w' s'):wpAny (model X.prog X.w) A (getItem (.ref d) (.ref b)) Q E s:=by
 obtain ⟨_,_,xs,rel,dd⟩:=hd_of I.hok e hk
 obtain ⟨w',hw,rw'⟩:=RelO.some_of (v:=v) (o:=(atKey xs k).map (·.2)) (by rw [l];exact kh_val rel k)
 obtain ⟨p,hp,hp2⟩:=Option.map_eq_some_iff.mp hw
 refine wpAny_getItem_heap (D.room hu).1 (D.ok kb I.hok) dd hp ?_
 rw [hp2]
 exact h w' _ (I.tok _) rw'
theorem h_notIn {κ:Type} [DecidableEq κ] {D:HKd X.prog X.w κ} {kvs:List (κ×Addr×V)} {k:κ} {b:Addr} {A:Around} {E:Value->Shared->Prop} {Q:Value->Shared->Prop} (hu:A.units+64<cLine) (I:Inv X pins σ H s) (e:H d=some (hdO D d kvs)) (hk:∀x∈kvs,D.kin H x.1 x.2.1) (kb:D.kin H k b)
  (h:∀s',Inv X pins σ H s'->Q (.bool (!(valH kvs k).isSome)) s'):wpAny (model X.prog X.w) A (compareOp .NotIn (.ref b) (.ref d)) Q E s:=by
 obtain ⟨ns,_,xs,rel,dd⟩:=hd_of I.hok e hk
 refine wpAny_notIn_heap (D.room hu).1 (D.ok kb I.hok) ns dd ?_
 have q:=c_u (kh_val rel k)
 rw [Option.isSome_map] at q
 rw [<- q]
 exact h _ (I.tok _)
theorem b_F (I:Inv X pins σ H s) (mu:Mut (H d)) (hs:Heap.SameBut d s.heap h') (he:∃q,h'.get? d=some q) (new:b_b X.prog X.w (upd H d ob) h' d ob):Inv X pins σ (upd H d ob) { s with heap:=h',toks:=t' }:=
 I.write (x:=d) (e:=d) mu (.inl rfl) (fun b q hb z=>(hs.2 b hb).trans z) he new
theorem h_new {κ:Type} [DecidableEq κ] {D:HKd X.prog X.w κ} {kvs:List (κ×Addr×V)} {xs:List (κ×Addr×Value)} {k:κ} {b:Addr} {v:V} {r:Value} {h':Heap} {t':Nat} (I:Inv X pins σ H s) (e:H d=some (hdO D d kvs)) (ns:(d==sysModules)=false) (hl:kvs.length<sizeLine) (rel:Paired (KHr κ) kvs xs)
  (hn:valH kvs k=none) (rv:RelV v r) (dd:h'.DictOfH D.knd d (storedH xs k b r)) (hs:Heap.SameBut d s.heap h'):Inv X pins σ (upd H d (hdO D d (kvs++[(k,b,v)]))) { s with heap:=h',toks:=t' }:=by
 have q:=RelO.none_of (show RelO none ((atKey xs k).map (·.2)) by rw [<- hn];exact kh_val rel k)
 rw [storedH_new (Option.map_eq_none_iff.mp q)] at dd
 exact b_F I (by rw [e];exact True.intro) hs (let ⟨o,_,_,q,_⟩:=dd;⟨o,q⟩) (hd_ok ns (by rw [List.length_append];exact hl) (pd_snoc (F:=KHr κ) ⟨rfl,rfl,rv⟩ rel) dd)
theorem h_set {κ:Type} [DecidableEq κ] {D:HKd X.prog X.w κ} {kvs:List (κ×Addr×V)} {k:κ} {b:Addr} {v:V} {r:Value} {A:Around} {E:Value->Shared->Prop} {Q:Unit->Shared->Prop} (hu:A.units+64<cLine) (I:Inv X pins σ H s) (e:H d=some (hdO D d kvs)) (hk:∀x∈kvs,D.kin H x.1 x.2.1) (kb:D.kin H k b)
  (hn:valH kvs k=none) (hl:kvs.length<sizeLine) (rv:RelV v r) (h:∀s',Inv X pins σ (upd H d (hdO D d (kvs++[(k,b,v)]))) s'->Q () s'):wpAny (model X.prog X.w) A (setItem (.ref d) (.ref b) r) Q E s:=by
 obtain ⟨ns,hz,xs,rel,dd⟩:=hd_of I.hok e hk
 exact wpAny_setItem_heap (hsz:=by rw [<- Paired.length rel];exact hz) (D.room hu).1 (D.ok kb I.hok) dd fun h' dd' hs=>h _ (h_new I e ns hl rel hn rv dd' hs)
theorem d_a {kvs:List (κ×V)} {vs:List (κ×Value)} {k:κ} (rel:KV kvs vs) (rv:RelV v r):KV (kvs++[(k,v)]) (vs++[(k,r)]):=pd_snoc (F:=fun (p:κ×V) (q:κ×Value)=>p.1=q.1/\RelV p.2 q.2) ⟨rfl,rv⟩ rel
theorem b_I {κ:Type} [DecidableEq κ] {vs:List (κ×Value)} {k:κ} {r:Value} (h:valueAt vs k=none):stored vs k r=vs++[(k,r)]:=by
 unfold stored
 rw [if_neg]
 intro q
 rw [List.any_eq_true] at q
 obtain ⟨x,hx,e⟩:=q
 unfold valueAt at h
 rw [Option.map_eq_none_iff,List.find?_eq_none] at h
 exact h x hx e
theorem len_raw (ns:(d==sysModules)=false) (ho:s.heap.get? d=some o) (hc:o.ExactDict) (hd:o.data=.dict es ep) (hz:es.size≤sizeLine)
  (h:∀t t',Q (.int (es.size:Nat) t) { s with toks:=t' }):wpAny (model X.prog X.w) A (call (.builtin "len") [.ref d]) Q E s:=by
 have hT:s.TypeIs (.ref d) "dict":=⟨o,ho,hc.1⟩
 have hb:(es.size:Int)<2 ^ 63:=by rw [sizeLine_eq] at hz;omega
 refine Calls.call_function_entry kind_len plain_len entry_len (args_len1 _) ?_
 unfold Builtin.«len»
 refine wpAny_bind (m:=oneArg "len" _) (wpAny_pure (wpAny_bind (m:=callSpecial? (.ref d) (Str.ofString "__len__")) (wpAny_callSpecial?_slot (name:=Str.ofString "__len__") hT F.slot_dict_len (wpAny_call_entry F.slot_dict_len hT F.entry_dict_len ?_ (F.args_dict_len_1 _)))))
 refine wpAny_bind (m:=dictSize d) ?_
 unfold dictSize
 refine wpAny_bind (wpAny_dictEntries ho hd (wpAny_pure (wpAny_bind (m:=Builtin.Dict.pendingCount d) (wpAny_pendingCount_other ns (wpAny_bind (wpAny_mkInt (wpAny_pure ⟨_,rfl,wpAny_bind (wpAny_holding (wpAny_pure (wpAny_bind (wpAny_letGo ?_))))⟩)))))))
 refine wpAny_ite_false (by simp) (wpAny_ite_false (by simp;omega) (wpAny_bind (wpAny_mkInt (wpAny_pure ⟨_,rfl,?_⟩))))
 simpa using h _ _
end
section
variable {X:Cx}
def rNotInD (P:Program) (w:World):R2:=fun x y H Q=>∃d o,y=.ref d/\DGet P w H d x o/\Q (.bl (!o.isSome)) H
theorem op_notinD (hu:X.A.units+64<cLine):OpR X (compareOp .NotIn) (rNotInD X.prog X.w):=by
 intro pins s σ H x y v u Q I rx ry h
 obtain ⟨d,o,rfl,g,q⟩:=h
 cases ry
 rcases g with ⟨kvs,k,e,rfl,rfl⟩ | ⟨kvs,k,b,e,hk,rfl,kb,rfl⟩ | ⟨kvs,k,b,e,hk,rfl,kb,rfl⟩
 ·cases rx
  obtain ⟨ns,_,vs,rel,dd⟩:=c_B I.hok e
  refine wpAny_notIn_of (knd:=b_R X.prog X.w) (k:=k) (show isBl k (.bool k)=true by cases k <;> rfl) ns dd.mapOf ?_
  rw [<- c_u (rel.val k)]
  exact ⟨.bl _,H,I.tok _,rfl,q⟩
 ·cases rx
  exact h_notIn (D:=d_N X.prog X.w) hu I e hk kb fun s' I'=>⟨.bl _,H,I',rfl,q⟩
 ·cases rx
  exact h_notIn (D:=e_N X.prog X.w) hu I e hk kb fun s' I'=>⟨.bl _,H,I',rfl,q⟩
theorem dg_type {σ:St} (I:Inv X pins σ H s) (g:DGet X.prog X.w H d y o):s.TypeIs (.ref d) "dict":=by
 rcases g with ⟨kvs,k,e,_⟩ | ⟨kvs,k,b,e,hk,_⟩ | ⟨kvs,k,b,e,hk,_⟩
 ·obtain ⟨_,_,vs,_,dd⟩:=c_B I.hok e
  exact dd.typeIs
 ·obtain ⟨_,_,vs,_,dd⟩:=hd_of (D:=d_N X.prog X.w) I.hok e hk
  exact dd.typeIs
 ·obtain ⟨_,_,vs,_,dd⟩:=hd_of (D:=e_N X.prog X.w) I.hok e hk
  exact dd.typeIs
def rIxG (P:Program) (w:World):R2:=fun x y H Q=>∃d v,x=.ref d/\DGet P w H d y (some v)/\Q v H
theorem ix_dictG (hu:X.A.units+64<cLine):IxR X (rIxG X.prog X.w):=by
 intro value slice pins s σ H x y v u Q I rx ry h hs
 obtain ⟨d,z,rfl,g,q⟩:=h
 cases rx
 refine tail_any (ops:=[.ref d,u]) (dg_type I g) PySem.F.slot_dict_getitem.lookup ?_ hs
 rcases g with ⟨kvs,k,e,rfl,l⟩ | ⟨kvs,k,b,e,hk,rfl,kb,l⟩ | ⟨kvs,k,b,e,hk,rfl,kb,l⟩
 ·cases ry
  obtain ⟨ns,_,vs,rel,dd⟩:=c_B I.hok e
  obtain ⟨w',hw,rw'⟩:=RelO.some_of (v:=z) (o:=valueAt vs k) (by rw [l];exact rel.val k)
  exact wpAny_getItem_of (knd:=b_R X.prog X.w) (k:=k) (show isBl k (.bool k)=true by cases k <;> rfl) dd.mapOf hw ⟨z,H,I.tok _,rw',q⟩
 ·cases ry
  exact h_get (D:=d_N X.prog X.w) hu I e hk kb l fun w' s' I' rw'=>⟨z,H,I',rw',q⟩
 ·cases ry
  exact h_get (D:=e_N X.prog X.w) hu I e hk kb l fun w' s' I' rw'=>⟨z,H,I',rw',q⟩
def rSetD (P:Program) (w:World):TSet:=fun o i v H Q=>∃d H',o=.ref d/\DPut P w H d i v H'/\Q H'
theorem set_dictG (hu:X.A.units+64<cLine):PSet X (rSetD X.prog X.w):=by
 intro pins s σ H o i v ov iv u Q I ro ri rv h
 obtain ⟨d,H',rfl,g,q⟩:=h
 cases ro
 rcases g with ⟨kvs,k,e,rfl,hn,hl,rfl⟩ | ⟨kvs,k,b,e,hk,rfl,kb,hn,hl,rfl⟩ | ⟨kvs,k,b,e,hk,rfl,kb,hn,hl,rfl⟩
 ·cases ri
  obtain ⟨ns,hz,vs,rel,dd⟩:=c_B I.hok e
  refine wpAny_setItem_pairs (knd:=b_R X.prog X.w) (k:=k) (hsz:=by rw [<- rel.length];exact hz) (show isBl k (.bool k)=true by cases k <;> rfl) dd fun h' dd' hs=>⟨_,?_,q⟩
  have qn:=RelO.none_of (show RelO none (valueAt vs k) by rw [<- hn];exact rel.val k)
  rw [b_I qn] at dd'
  exact b_F I (by rw [e];exact True.intro) hs (let ⟨o,_,_,q,_⟩:=dd';⟨o,q⟩) (kd_ok ns (by rw [List.length_append];exact hl) (d_a rel rv) dd')
 ·cases ri
  exact h_set (D:=d_N X.prog X.w) hu I e hk kb hn hl rv fun s' I'=>⟨_,I',q⟩
 ·cases ri
  exact h_set (D:=e_N X.prog X.w) hu I e hk kb hn hl rv fun s' I'=>⟨_,I',q⟩
theorem call_lenD:e_T X (.builtin "len") (fun xs H Q=>∃d n,xs=[V.ref d]/\DLen X.prog X.w H d n/\Q (.int (n:Nat)) H):=by
 intro pins s σ H xs us Q I r h
 obtain ⟨d,n,rfl,g,q⟩:=h
 obtain ⟨u1,rfl,r1⟩:=f_m r
 cases r1
 rcases g with ⟨kvs,e,rfl⟩ | ⟨kvs,e,rfl⟩
 ·obtain ⟨ns,hz,vs,rel,o,es,ep,h1,h2,h3,_,hp,_⟩:=c_B I.hok e
  have hs:es.size=kvs.length:=by rw [rel.length,<- hp.length];simp
  refine len_raw (X:=X) ns h1 h2 h3 (by omega) fun t t'=>⟨.int (kvs.length:Nat),H,I.tok _,⟨t,by rw [hs]⟩,q⟩
 ·obtain ⟨ns,hz,xs,rel,o,es,ep,h1,h2,h3,he,_⟩:=(I.hok d _ e).1
  have hs:es.size=kvs.length:=by rw [Paired.length rel,<- Array.length_toList,he,List.length_map]
  refine len_raw (X:=X) ns h1 h2 h3 (by omega) fun t t'=>⟨.int (kvs.length:Nat),H,I.tok _,⟨t,by rw [hs]⟩,q⟩
inductive DKd where
 | bl | nest | pair
def newO (P:Program) (w:World) (d:Addr):DKd->HO
 | .bl=>kdO (b_R P w) d []
 | .nest=>hdO (d_N P w) d []
 | .pair=>hdO (e_N P w) d []
theorem new_ok (h:Heap) (hb:sysModules<h.objs.size) (k:DKd):b_b P w H (h.push { cls:=.type "dict",data:=.dict #[] }) h.objs.size (newO P w h.objs.size k):=by
 have ns:(h.objs.size==sysModules)=false:=beq_eq_false_iff_ne.mpr (Ne.symm (Nat.ne_of_lt hb))
 cases k with
 | bl=>exact kd_ok (knd:=b_R P w) ns (Nat.zero_le _) .nil (Heap.DictOf.new h)
 | nest=>exact hd_ok (D:=d_N P w) ns (Nat.zero_le _) .nil (Heap.DictOfH.new h)
 | pair=>exact hd_ok (D:=e_N P w) ns (Nat.zero_le _) .nil (Heap.DictOfH.new h)
def tDNew (P:Program) (w:World):TE:=fun _ H Q=>∃k,∀p,H p=none->Q (.ref p) (upd H p (newO P w p k))
theorem pe_dnew:PE X (.Dict [] [] pos) (tDNew X.prog X.w):=fun pins s σ H Q I ⟨k,h⟩=>
 wpAny_Dict_empty ⟨.ref s.heap.objs.size,_,I.laid (a:=s.heap.objs.size) (o:=newO X.prog X.w s.heap.objs.size k) (t':=s.toks) (fun _ _ q=>Heap.get?_push_of_some _ q) (Nat.le_refl _) (new_ok s.heap I.bigS k),rfl,h _ (I.hok.fresh (Nat.le_refl _))⟩
end
section
variable {X:Cx} {elt iter:Expr} {x y:Str} {px py pt pos:Pos} {kt:Nat} {sc:Scope} {wi:TI} {te:TE}
def tComp2 (K:PySem.W.Frag) (wi:TI) (te:TE):TE:=fun σ H Q=>wi σ H fun J H1=>∀D,H1 D=none->∃W:Nat->Nat->List V->Hp->Prop,
 (∃m,W 0 m [] (upd H1 D (.lst [])))/\∀i m ys H2,W i m ys H2->H2 D=some (.lst ys)/\((J.stop i H2/\Q (.ref D) H2)\/(J.go i H2/\ys.length<sizeLine/\∀x H3,J.yld i H2 x H3->
  ∃p a b,x=.ref p/\SqT K H3 p [a,b]/\te (some a::some b::σ) H3 fun y H5=>H5 D=some (.lst ys)/\∃m',m'<m/\W (i+1) m' (ys++[y]) (upd H5 D (.lst (ys++[y])))))
theorem pe_comp2 (N2:List Str) (hc:X.calm=true) (hN2:(x::y::N2).Nodup) (hi:PI X (.Tuple [.Name x px,.Name y py] kt pt) iter wi)
  (hb:∀(cl:List (Str×Addr)) (C:Addr) (fp:List Addr) (s:Shared) (H:Hp),PE { cxComp X x sc cl C fp s H with N:=x::y::N2 } elt te)
  (hx:sc.names.lookup x=some .local:=by rfl) (hy:sc.names.lookup y=some .local:=by rfl) (hkind:sc.kind=.function:=by rfl)
  (hnames:∀y∈sc.names,y.2=.local->sc.names.lookup y.1=some .local:=by decide +kernel) (hcell:∀y∈sc.names,y.2≠.cell:=by decide +kernel)
  (hfree:(sc.names.all fun y=>y.2 !=.free || X.env.scope.names.lookup y.1==some .cell)=true:=by rfl)
  (hlo:(N2.all fun y=>sc.names.lookup y !=some .local)=true:=by rfl) (hl2:N2.length=X.N.length:=by rfl) (hz2:((N2.zip X.N).all fun y=>y.1==y.2 || sc.names.lookup y.1==none)=true:=by rfl)
  (hs:∀x,foldedSetIterable iter X.env x=pure x:=by intro _;rfl):
  PE X (.ListComp elt [⟨.Tuple [.Name x px,.Name y py] kt pt,iter,[],0⟩] sc pos) (tComp2 X.K wi te):=by
 intro pins s σ H Q I h
 have hfr:∀y∈sc.names,y.2=.free->X.env.kindOf y.1=some .cell:=fun y hy e=>by
  have q:=List.all_eq_true.mp hfree y hy
  rw [e] at q
  simpa [Env.kindOf] using q
 have hlo':∀y∈N2,sc.names.lookup y≠some .local:=fun y hy e=>by
  have q:=List.all_eq_true.mp hlo y hy
  rw [e] at q
  simp at q
 obtain ⟨cl,hclos,hsub,hhas⟩:=b_P (env:=X.env) (sc:=sc) fun y hy e=>I.ok.has y.1 (.inl (hfr y hy e))
 rw [eval_ListComp]
 refine wpAny_comprehension_free (use:=none) rfl hs hclos hkind hnames (thn (hi pins s σ H _ I h) fun v s1 h1=>thn h1 fun itv s2 h2=>?_)
 obtain ⟨it,fp,tn,J,H2,e,I2,T,st2,f2,hW⟩:=h2
 subst e
 have nobinds:∀y∈([]:List (Str×Value)),sc.names.lookup y.1=some .local:=fun y hy=>absurd hy (by simp)
 refine wpAny_newObj_type ?_
 refine wpAny_newFunctionEnv hcell nobinds (fun h₁ hns₁ hsb₁=>?_) hkind
 dsimp only at hns₁ hsb₁ ⊢
 generalize hHa:s2.heap.push { cls:=.type "list",dict:=none,data:=.seq ([]:List Value).toArray }=Ha at hns₁ hsb₁ ⊢
 have hC:Ha.objs.size=s2.heap.objs.size+1:=by rw [<- hHa,Heap.size_push]
 have hDC:s2.heap.objs.size≠Ha.objs.size:=by rw [hC];exact Nat.ne_of_lt (Nat.lt_succ_self _)
 have hCle:s2.heap.objs.size≤Ha.objs.size:=by rw [hC];exact Nat.le_succ _
 have neC:∀b o,s2.heap.get? b=some o->b≠Ha.objs.size:=fun b o e=>Nat.ne_of_lt (Nat.lt_of_lt_of_le (Heap.lt_size e) hCle)
 have old:∀b o,s2.heap.get? b=some o->h₁.get? b=some o:=fun b o e=>hsb₁.extBut b o (neC b o e) (Heap.get?_push_of_some _ (hHa▸Heap.get?_push_of_some _ e))
 have hacc:h₁.get? s2.heap.objs.size=some { cls:=.type "list",dict:=none,data:=.seq ([]:List Value).toArray }:=hsb₁.extBut _ _ hDC (Heap.get?_push_of_some _ (hHa▸Heap.get?_push_size _ rfl))
 generalize hDe:s2.heap.objs.size=D at *
 generalize hCe:Ha.objs.size=C at *
 have hHD:H2 D=none:=I2.hok.fresh (Nat.le_of_eq hDe)
 have hHC:H2 C=none:=I2.hok.fresh (by omega)
 obtain ⟨W,⟨m0,w0⟩,turn⟩:=hW D hHD
 have fplt:∀b∈fp,b<D:=fun b hb=>by
  obtain ⟨o,e,_⟩:=T.obj _ _ st2 b hb
  rw [<- hDe]
  exact Heap.lt_size e
 let X':Cx:={ cxComp X x sc cl C fp s2 H2 with N:=x::y::N2 }
 have nofs:∀b∈fp,b∉frs X.stack:=fun b hb z=>by
  rcases List.mem_cons.mp (I2.stkSub b z) with e | e
  ·exact (f2 b hb).2.1 e
  ·exact (f2 b hb).2.2.1 e
 have ok':X'.Ok:=by
  refine ⟨I2.ok.mod,hkind,I2.ok.glob,I2.ok.blt,?_,fun y z c e1 e2=>I2.ok.inj y z c (hsub y c e1) (hsub z c e2),fun y hy=>?_,fun y c e=>absurd (show false=true from e) Bool.false_ne_true,I2.ok.hd,I2.ok.frames,.inl rfl,fun b hb=>⟨?_,fun y c e=>?_⟩,I2.bs,
   Nat.le_trans I2.ok.bsz I2.sz,fun b o e hb=>?_,nofs,I2.stack,I2.stkFree⟩
  ·show s2.heap.objs.size≤C
   omega
  ·rcases hy with hy | hy
   ·rcases relabel_lookup (show (relabel sc X.env).names.lookup y=some .cell from hy) with e | ⟨_,e,_⟩
    ·exact absurd rfl (hcell _ (PySem.mem_of_lookup e))
    ·exact hhas _ (PySem.mem_of_lookup e) rfl
   ·rcases relabel_lookup (show (relabel sc X.env).names.lookup y=some .free from hy) with e | ⟨e,_⟩
    ·exact hhas _ (PySem.mem_of_lookup e) rfl
    ·cases e
  ·exact Nat.ne_of_lt (Nat.lt_of_lt_of_le (fplt b hb) (by omega:D≤C))
  ·exact (f2 b hb).2.2.2.2.1 y c (hsub y c e)
  ·rcases (f2 b hb).2.2.2.1 with z | z
   ·exact I2.ok.noex b o e z
   ·exact absurd (Nat.lt_of_lt_of_le (Nat.lt_of_lt_of_le (Heap.lt_size e) I2.ok.bsz) z) (Nat.lt_irrefl _)
 have I4:∀tk,Inv X' [] (none::none::σ) (upd H2 D (.lst [])) { s2 with heap:=h₁,toks:=tk }:=fun tk=>by
  refine ⟨ok',rfl,I2.bare,Un.laid old (Nat.le_of_eq hDe) hHD,⟨_,hns₁,fun i y' v e1 e2 e3=>?_⟩,fun y c e=>?_,?_,fun y c e=>?_,fun p hp=>?_,I2.hok.laid old (Nat.le_of_eq hDe) ?_,?_⟩
  ·match i,e1,e2 with
   | 0,e1,e2=>simp at e2
   | 1,e1,e2=>simp at e2
   | i+2,e1,e2=>
    have e0:N2[i]?=some y':=by simpa [X',cxComp] using e1
    have e2:σ[i]?=some (some v):=by simpa using e2
    have e3:Vis (relabel sc X.env) y':=e3
    have hyN:y'∈N2:=List.mem_of_getElem? e0
    have free:sc.names.lookup y'=some .free/\(relabel sc X.env).names.lookup y'≠some .local:=by
     rcases e3 with e | e | e
     ·rcases relabel_lookup e with q | ⟨q,_⟩
      ·exact absurd q (hlo' y' hyN)
      ·cases q
     ·rcases relabel_lookup e with q | ⟨_,q,_⟩
      ·exact absurd rfl (hcell _ (PySem.mem_of_lookup q))
      ·exact ⟨q,by rw [e];decide⟩
     ·rcases relabel_lookup e with q | ⟨q,_⟩
      ·exact ⟨q,by rw [e];decide⟩
      ·cases q
    have e1:X.N[i]?=some y':=by
     have hi:i<N2.length:=(List.getElem?_eq_some_iff.mp e0).1
     have hi2:i<X.N.length:=by omega
     have hm:(y',X.N[i])∈N2.zip X.N:=by
      have hz:(N2.zip X.N)[i]?=some (y',X.N[i]):=by
       rw [List.getElem?_zip_eq_some]
       exact ⟨e0,List.getElem?_eq_getElem hi2⟩
      exact List.mem_of_getElem? hz
     have q:=List.all_eq_true.mp hz2 _ hm
     rcases Bool.or_eq_true_iff.mp q with q | q
     ·have:y'=X.N[i]:=eq_of_beq q
      rw [List.getElem?_eq_getElem hi2,<- this]
     ·have q2:sc.names.lookup y'=none:=by simpa using q
      rw [free.1] at q2
      cases q2
    have kc:X.env.kindOf y'=some .cell:=hfr _ (PySem.mem_of_lookup free.1) rfl
    obtain ⟨m,hn,hl⟩:=I2.loc
    obtain ⟨u,ru,lk⟩:=hl i y' v e1 e2 (.inr (.inl kc))
    rcases lk with ⟨q,_⟩ | ⟨_,c,hcc,⟨o,ho,hd⟩⟩
    ·rw [kc] at q;cases q
    ·obtain ⟨c',hc'⟩:=hhas _ (PySem.mem_of_lookup free.1) rfl
     have e4:=hsub _ _ hc'
     rw [hcc] at e4
     cases e4
     refine ⟨u,ru,.inr ⟨?_,c,hc',⟨o,old c o ho,hd⟩⟩⟩
     rcases e3 with e | e | e
     ·exact absurd e free.2
     ·exact .inl e
     ·exact .inr e
  ·obtain ⟨v,o,ho,hd⟩:=I2.cell y c (hsub y c e)
   exact ⟨v,o,old c o ho,hd⟩
  ·show upd H2 D (.lst []) C=none
   rw [upd_ne (neA (by omega))]
   exact hHC
  ·obtain ⟨v,o,ho,hd⟩:=I2.cell y c (hsub y c e)
   have hlt:=Heap.lt_size ho
   rw [hDe] at hlt
   show upd H2 D (.lst []) c=none
   rw [upd_ne (Nat.ne_of_lt hlt)]
   exact I2.freeC y c (hsub y c e)
  ·exact absurd (show p∈([]:List (Addr×Obj)) from hp) (by simp)
  ·exact ⟨Nat.zero_le _,[],0,.nil,hacc⟩
  ·show (none::none::σ).length=(x::y::N2).length
   rw [List.length_cons,List.length_cons,List.length_cons,List.length_cons,I2.len,hl2]
 have hN':X'.N.Nodup:=hN2
 have hx':X'.env.scope.names.lookup x=some .local:=lookup_relabel_local hx
 have hy':X'.env.scope.names.lookup y=some .local:=lookup_relabel_local hy
 have PE':=hb cl C fp s2 H2
 have PG':PG X' (.Tuple [.Name x px,.Name y py] kt pt) (gTup X.K 2 (gCons (c_x 0) (gCons (c_x 1) gNil))):=pg_tup hc (b_Q (a_B (X:=X') (i:=0) hN' rfl (.inl hx') (.inr hx')) (b_Q (a_B (X:=X') (i:=1) hN' rfl (.inl hy') (.inr hy')) e_j))
 have fpX:∀{pins':List (Addr×Obj)} {H':Hp},(∀b∈fp,H' b=none)->(∀p∈pins',p.1∉fp)->∀b∈fp,FpOk X' pins' H' b:=fun hn hp b hb=>by
  refine ⟨hn b hb,?_,nofs b hb,.inl hb,fun y c e=>(f2 b hb).2.2.2.2.1 y c (hsub y c e),fun p q z=>?_⟩
  ·exact Nat.ne_of_lt (Nat.lt_of_lt_of_le (fplt b hb) (by omega:D≤C))
  ·rcases List.mem_append.mp q with q | q
   ·exact absurd (show p∈([]:List (Addr×Obj)) from q) (by simp)
   ·exact hp p q (by rw [z];exact hb)
 have loop:∀tk,codeAny (model X.prog X.w) X.A (.compLoop (.ListComp elt [⟨.Tuple [.Name x px,.Name y py] kt pt,iter,[],0⟩] sc pos) 0 (.ref it) (.ref D) (compEnvC sc cl C X.env)) (compPost (model X.prog X.w) X.A X.xe none (EP X pins σ Q) (.ref D) C) { s2 with heap:=h₁,toks:=tk }:=fun tk=>by
  refine PyProof.Rows.LCp.codeAny_compLoop_pair (fun n s'=>∃i ys o o' H',Inv X' [] (o::o'::σ) H' s'/\tn i s'.heap/\(∀b∈fp,H' b=none)/\W i n ys H') ?_ m0 ⟨0,[],none,none,_,I4 tk,T.keep _ _ _ st2 fun b hb o e=>old b o e,fun b hb=>?_,w0⟩
  ·rintro n s3 ⟨i,ys,o3,o4,H3,I3,st3,fr3,w3⟩
   obtain ⟨hD3,alt⟩:=turn i n ys H3 w3
   rcases alt with ⟨stop,qn⟩ | ⟨go,hlen,step⟩
   ·refine wpAny_mono (T.done X' rfl rfl rfl hc i [] s3 _ H3 (fun _ _=>False) I3 (fpX fr3 (by simp)) st3 stop) (fun r s4 hpq=>?_) fun _ _ f=>f.elim
    obtain ⟨hr,I4'⟩:=hpq
    subst hr
    obtain ⟨mC,hnC,_⟩:=I4'.loc
    refine ⟨mC,hnC,fun h' hs'=>?_⟩
    have nC:∀b u,H3 b=some u->b≠C:=fun b u e z=>by rw [z] at e;rw [show H3 C=none from I4'.free] at e;cases e
    have hok':HOk X.prog X.w H3 h':=fun b u e=>(I4'.hok b u e).stay (fun c v hcc q=>hs'.extBut c v (by
     rcases hcc with z | z
     ·rw [z];exact nC b u e
     ·exact nC c _ z) q) (fun _ q=>q) fun _ _ q=>q
    have un:Un (frs X.stack) fp H2 H3 s2.heap h':=
     ⟨fun b o e n1 n2 n3=>hs'.extBut b o (neC b o e) (I4'.base.keep b o e n1 n2 n3),fun b o e n1 n2 n3=>by
       obtain ⟨sl,q⟩:=I4'.base.slot b o e n1 n2 n3
       exact ⟨sl,hs'.extBut b _ (neC b o e) q⟩,I4'.base.free,fun b o e n1=>by
       obtain ⟨o',q⟩:=I4'.base.there b o e n1
       exact ⟨o',hs'.extBut b _ (neC b o e) q⟩,I4'.base.tups,I4'.base.frzs,I4'.base.tbls⟩
    exact ⟨.ref D,H3,I2.call' (s':={ s4 with heap:=h' }) I4'.os un hok' I4'.bare fun b hb=>⟨(f2 b hb).2.2.2.1,(f2 b hb).2.1,(f2 b hb).2.2.2.2.1,(f2 b hb).2.2.2.2.2⟩,rfl,qn⟩
   ·refine wpAny_mono (T.item X' rfl rfl rfl hc i [] s3 _ H3 (fun _ _=>False) I3 (fpX fr3 (by simp)) st3 go) (fun r s4 hpq=>?_) fun _ _ f=>f.elim
    obtain ⟨u,hr,h4⟩:=hpq
    subst hr
    refine wpAny_mono h4 (fun _ s5 hpq=>?_) fun _ _ f=>f.elim
    obtain ⟨z,H5,I5,r5,y5,st5,fr5⟩:=hpq
    have I5':=I5.pinned (fpX fr5 (by simp)) (T.obj _ _ st5)
    obtain ⟨p,a1,a2,rfl,hp,hte⟩:=step z _ y5
    refine wpAny_mono (PG' _ s5 _ H5 (.ref p) u (fun σ' H'=>σ'=some a1::some a2::σ/\H'=H5) I5' r5 ⟨p,_,rfl,hp,rfl,_,_,rfl,_,_,rfl,rfl,rfl,rfl⟩) (fun _ s6 hpq=>?_) fun _ _ f=>f.elim
    obtain ⟨σ6,H6,I6,e1,e2⟩:=hpq
    subst e1 e2
    refine wpAny_mono (PE' _ s6 _ _ _ I6 hte) (fun z s8 hpq=>?_) fun _ _ f=>f.elim
    obtain ⟨yv,H8,I8,r8,hD8,q8⟩:=hpq
    refine wpAny_mono (a_u (X:=X') _ s8 _ H8 (.ref D) [yv] (.ref D) [z] (fun _ H9=>H9=upd H8 D (.lst (ys++[yv]))) I8 rfl (.cons r8 .nil) ⟨D,ys,yv,rfl,rfl,hD8,hlen,rfl⟩) (fun _ s9 hpq=>?_) fun _ _ f=>f.elim
    obtain ⟨_,H9,I9,_,e9⟩:=hpq
    subst e9
    obtain ⟨m',hm,w8⟩:=q8
    refine ⟨m',hm,i+1,_,some a1,some a2,_,I9.unpinned,T.keep _ _ _ st5 fun b hb o e=>(I9.pin (b,o) (List.mem_append_right _ (List.mem_append_right _ (a_H hb e)))).1,fun b hb=>?_,w8⟩
    obtain ⟨o,e,d⟩:=T.obj _ _ st5 b hb
    exact (I9.pin (b,o) (List.mem_append_right _ (List.mem_append_right _ (a_H hb e)))).2.1
  ·show upd H2 D (.lst []) b=none
   rw [upd_ne (Nat.ne_of_lt (fplt b hb))]
   exact (f2 b hb).1
 exact codeAny_compStart_list (loop _) (T.self _ _ _ _ _ (T.keep _ _ _ st2 fun b hb o e=>old b o e) (loop _))
end
section
variable {prog:Program} {w:World} {A:Around} {E:Value->Shared->Prop} {s:Shared} {it t:Addr} {i:Nat} {items:Array Value}
theorem nextT_item (hit:s.heap.IsTupleIter it t i) (ht:s.heap.IsTuple t items) (hx:items[i]?=some x) (hQ:∀h',h'.IsTupleIter it t (i+1)->Heap.SameBut it s.heap h'->Q x { s with heap:=h' }):
  wpAny (model prog w) A (Builtin.SmallTypes.nextOf (.ref it)) Q E s:=by
 obtain ⟨o,ho,hc,hd⟩:=id hit
 obtain ⟨ol,hol,_,nl,hdl⟩:=ht
 unfold Builtin.SmallTypes.nextOf
 refine wpAny_bind (wpAny_callSpecial?_slot (name:=Str.ofString "__next__") hit.typeIs F.slot_tuple_iterator_next (wpAny_call_entry F.slot_tuple_iterator_next hit.typeIs F.entry_tuple_iterator_next ?_ (F.args_tuple_iterator_next_1 _)))
 refine wpAny_bind (m:=field (.ref it) 0) (wpAny_field ho hd (x:=.ref t) rfl (wpAny_ite_false rfl (wpAny_bind (m:=field (.ref it) 1) (wpAny_field ho hd (x:=.int i 0) rfl (wpAny_bind (m:=seqItems? (.ref t)) (wpAny_seqItems hol hdl ?_))))))
 simp only [Int.toNat_natCast,hx]
 refine wpAny_bind (wpAny_setField ho hd (by simp) (wpAny_pure ⟨x,rfl,wpAny_pure (hQ _ ⟨_,Heap.get?_update_self _ ho (Obj.isFreed_of_fields (Obj.data_mapFields hd _)),(Obj.cls_mapFields ..).trans hc,?_⟩ (Heap.SameBut.update ..))⟩))
 rw [Obj.data_mapFields hd]
 simp [rawInt]
theorem nextT_end (hh:A.handled=none) (hit:s.heap.IsTupleIter it t i) (ht:s.heap.IsTuple t items) (hx:items[i]?=none)
  (hE:∀h' e,Heap.ExtBut it s.heap h'->(∃o,h'.get? e=some o/\o.cls=.type "StopIteration")->E (.ref e) { s with heap:=h' }):wpAny (model prog w) A (Builtin.SmallTypes.nextOf (.ref it)) Q E s:=by
 obtain ⟨o,ho,hc,hd⟩:=id hit
 obtain ⟨ol,hol,_,nl,hdl⟩:=ht
 unfold Builtin.SmallTypes.nextOf
 refine wpAny_bind (wpAny_callSpecial?_slot (name:=Str.ofString "__next__") hit.typeIs F.slot_tuple_iterator_next (wpAny_call_entry F.slot_tuple_iterator_next hit.typeIs F.entry_tuple_iterator_next ?_ (F.args_tuple_iterator_next_1 _)))
 refine wpAny_bind (m:=field (.ref it) 0) (wpAny_field ho hd (x:=.ref t) rfl (wpAny_ite_false rfl (wpAny_bind (m:=field (.ref it) 1) (wpAny_field ho hd (x:=.int i 0) rfl (wpAny_bind (m:=seqItems? (.ref t)) (wpAny_seqItems hol hdl ?_))))))
 simp only [Int.toNat_natCast,hx]
 refine wpAny_bind (wpAny_rule (wpAny_bind (wpAny_setField ho hd (by simp) (wpAny_bind (m:=newExc (.type "StopIteration") []) ?_))))
 simp only [newExc,newTuple]
 refine wpAny_bind (wpAny_newObj_type (wpAny_bind (m:=firstArgMember _ _) (wpAny_of_eq (a:=Value.none) (by first | rfl | (simp only [firstArgMember];rfl)) (wpAny_newObj_type ?_ (by size_fits)))) (by size_fits))
 simp only [raiseNew]
 refine wpAny_bind (wpAny_handled ?_)
 first | rw [show A.in1.handled=none from hh] | rw [hh]
 exact wpAny_bind (wpAny_pure (wpAny_throw (hE _ _ (((Heap.SameBut.update ..).extBut.push _).push _) ⟨_,Heap.get?_push_size _ rfl,rfl⟩)))
end
theorem IsTup.keeps {h h':Heap} (x:h.IsTuple t items) (k:∀o,h.get? t=some o->h'.get? t=some o):h'.IsTuple t items:=let ⟨o,e,r⟩:=x;⟨o,k o e,r⟩
theorem drawsT (hh:A.handled=none) (it t:Addr) (hne:t≠it) (items:Array Value):
  Draws prog w A it [it,t] items.size (fun i v=>items[i]?=some v) (fun i h=>h.IsTupleIter it t i/\h.IsTuple t items)  where
 live:=fun _ _ st=>let ⟨o,ho,_⟩:=st.1;⟨o,ho⟩
 frame:=fun _ _ _ st hk=>⟨st.1.at fun o e=>hk it (by simp) o e,IsTup.keeps st.2 fun o e=>hk t (by simp) o e⟩
 item:=fun i s Q E hi st hQ=>nextT_item st.1 st.2 (x:=items[i]) (by simp [hi]) fun h' hit' hs'=>hQ _ h' s.toks (by simp [hi]) ⟨hit',IsTup.keeps st.2 fun o e=>(hs'.2 t hne).trans e⟩ hs'
 done:=fun s Q E st hE=>nextT_end hh st.1 st.2 (by simp) hE
theorem sub_enum':isSubtype (.type "enumerate") (.type "enumerate")=pure true:=by rw [isSubtype_type];kernel_rfl
set_option maxHeartbeats 1000000 in
theorem meets_enumT (l:Addr) (items:Array Value) (n:Nat) (dct:Option Addr) (sl:Array (Option Value)):
  Meets (Builtin.«enumerate.__new__» ⟨[.type "enumerate",.ref l],[]⟩) (fun _ R s=>s.heap.get? l=some { cls:=.type "tuple",dict:=dct,data:=.seq items n,slots:=sl }/\
   R (.ok (.ret (.ref (s.heap.push { cls:=.type "tuple_iterator",data:=.fields #[.ref l,.int 0 0] }).objs.size)))
    { s with heap:=(s.heap.push { cls:=.type "tuple_iterator",data:=.fields #[.ref l,.int 0 0] }).push { cls:=.type "enumerate",data:=.fields #[.none,.bool false,.ref s.heap.objs.size,rawInt 0,.none,.none] } }):=
 .of_wp fun prog w A R s h=>by
  obtain ⟨hp,g,d,tk,os⟩:=s
  obtain ⟨hl,h⟩:=h
  have hsub:=sub_enum'
  have hT:hp.IsTuple l items:=⟨_,hl,rfl,n,rfl⟩
  wp_walk using wpAny_pyIter_tuple hT
  refine wpAny_stack_any fun st=>wpAny_pure ?_
  split
  ·rename_i c _ _ _ _ _
   cases (c==Value.type "enumerate") <;> (wp_walk using wpAny_pyIter_tuple hT;exact ⟨_,rfl,h⟩)
  ·wp_walk using wpAny_pyIter_tuple hT
   exact ⟨_,rfl,h⟩
theorem call_enumT (hL:s.heap.IsTuple l items)
  (h:∀h',IsEnum h' (s.heap.objs.size+1) s.heap.objs.size 0 .none->h'.IsTupleIter s.heap.objs.size l 0->(∀b o,s.heap.get? b=some o->h'.get? b=some o)->Q (.ref (s.heap.objs.size+1)) { s with heap:=h' }):
  wpAny (model prog w) A (call (.type "enumerate") [.ref l]) Q E s:=by
 obtain ⟨⟨c,dct,dt,sl⟩,hl,hc,n,hd⟩:=hL
 simp only at hc hd
 subst hc hd
 refine callType_new F.called_enumerate (by decide) (F.typeCall_enumerate_1 _) (F.newCall_enumerate_1 _) (fun obj=>F.args_object_init_2 obj _) F.entry_enumerate_new (meets_enumT l items n dct sl) ⟨hl,?_⟩
 generalize hG:s.heap.push { cls:=.type "tuple_iterator",data:=.fields #[.ref l,.int 0 0] }=G
 have hz:G.objs.size=s.heap.objs.size+1:=by rw [<- hG];exact Heap.size_push ..
 have he:IsEnum (G.push { cls:=.type "enumerate",data:=.fields #[.none,.bool false,.ref s.heap.objs.size,rawInt 0,.none,.none] }) (s.heap.objs.size+1) s.heap.objs.size 0 .none:=by
  have q:=Heap.get?_push_size G (o:={ cls:=.type "enumerate",data:=.fields #[.none,.bool false,.ref s.heap.objs.size,rawInt 0,.none,.none] }) rfl
  rw [hz] at q
  exact q
 show _/\_
 rw [hz]
 exact ⟨⟨_,he,rfl⟩,h _ he ⟨_,Heap.get?_push_of_some _ (by rw [<- hG];exact Heap.get?_push_size _ rfl),rfl,rfl⟩ fun b o x=>Heap.get?_push_of_some _ (by rw [<- hG];exact Heap.get?_push_of_some _ x)⟩
def IteT (a:Addr):It:=⟨fun i H=>∃xs x,H a=some (.tup xs)/\xs[i]?=some x,fun i H v H'=>∃p x xs,H a=some (.tup xs)/\xs[i]?=some x/\v=.ref p/\H p=none/\H'=upd H p (.tup [.int (i:Int),x]),fun i H=>∃xs,H a=some (.tup xs)/\i=xs.length⟩
theorem turn_enumT {K:PySem.W.Frag} (a e it:Addr) (hne:e≠it):Turn P w K (.Tuple es kt pt) (IteT a) [e,it] e (fun i h=>(∃old,IsEnum h e it i old)/\h.IsTupleIter it a i)  where
 mem:=by simp
 obj:=fun i h ⟨⟨old,he⟩,⟨o1,e1,_,d1⟩⟩ c hc=>by
  simp only [List.mem_cons,List.not_mem_nil,or_false] at hc
  rcases hc with rfl | rfl
  ·exact ⟨_,he,fun v q=>by cases q⟩
  ·exact ⟨o1,e1,fun v q=>by rw [d1] at q;cases q⟩
 keep:=fun i h h' ⟨⟨old,he⟩,⟨o1,e1,r1⟩⟩ k=>⟨⟨old,k e (by simp) _ he⟩,⟨o1,k it (by simp) _ e1,r1⟩⟩
 item:=by
  rintro X hP hw hK hc i pins s σ H E I hf ⟨⟨old,he⟩,s1⟩ hg
  subst hP hw hK
  obtain ⟨xs,x,hq,hx⟩:=hg
  obtain ⟨its,rv,p,hz⟩:=I.tuple (SqT.of hq)
  obtain ⟨u,hu,ru⟩:=rv.get hx
  have p':s.heap.IsTuple a its.toArray:=p
  have hlt:i<its.toArray.size:=by
   have:=(List.getElem?_eq_some_iff.mp hu).1
   simpa using this
  have hat:a≠it:=by
   obtain ⟨o,e1,c1,_⟩:=p'
   obtain ⟨o2,e2,c2,_⟩:=s1
   rintro rfl
   rw [e1] at e2
   cases e2
   rw [c1] at c2
   exact absurd c2 (by decide)
  have hae:e≠a:=by
   obtain ⟨o,e1,c1,_⟩:=p'
   rintro rfl
   have he':s.heap.get? e=some _:=he
   rw [e1] at he'
   cases he'
   exact absurd (show Value.type "enumerate"=Value.type "tuple" from c1) (by decide)
  refine wpAny_pyNext_enum_itemD (drawsT (A:=X.A.in1) (I.ok.hd hc) it a hat its.toArray) he ⟨s1,p'⟩ hlt hne (by simp [hne,hae]) fun v g tk pv ho st new hsz gk=>⟨_,rfl,?_⟩
  have ev:v=u:=by
   have:its.toArray[i]?=some v:=pv
   rw [List.getElem?_toArray,hu] at this
   exact (Option.some.inj this).symm
  subst ev
  refine wpAny_letOwnedTupleGo_enum (s:={ s with heap:=g,toks:=tk+1 }) ho fun g' ge gs=>?_
  have up:∀b o,b≠e->g.get? b=some o->g'.get? b=some o:=fun b o hb q=>(gs.2 b hb).trans q
  have ne:s.heap.objs.size≠e:=Nat.ne_of_gt (Heap.lt_size he)
  have tup:b_b X.prog X.w (upd H s.heap.objs.size (.tup [.int (i:Int),x])) g' s.heap.objs.size (.tup [.int (i:Int),x]):=
   ⟨a_g (by show 2≤16777216;decide),[.int i tk,v],.cons ⟨_,rfl⟩ (.cons ru .nil),⟨_,up _ _ ne new,rfl,0,rfl⟩⟩
  refine ⟨.ref s.heap.objs.size,_,I.turnedNew (S:=[e,it]) (h':=g') (t':=tk+1) (fun b o hb q=>up b o (fun z=>hb (by simp [z])) (gk b o (fun z=>hb (by simp [z])) (fun z=>hb (by simp [z])) q)) hf tup,rfl,
   ⟨_,x,xs,hq,hx,rfl,I.hok.fresh (Nat.le_refl _),rfl⟩,⟨⟨_,by rw [Int.natCast_succ];exact ge⟩,st.1.at fun o q=>up _ o (fun z=>hne z.symm) q⟩,fun b hb=>?_⟩
  have lt:b<s.heap.objs.size:=by
   obtain ⟨o1,e1,_⟩:=s1
   simp only [List.mem_cons,List.not_mem_nil,or_false] at hb
   rcases hb with rfl | rfl
   ·exact Heap.lt_size he
   ·exact Heap.lt_size e1
  rw [upd_ne (Nat.ne_of_lt lt)]
  exact (hf b hb).1
 done:=by
  rintro X hP hw hK hc i pins s σ H E I hf ⟨⟨old,he⟩,s1⟩ hstop
  subst hP hw hK
  obtain ⟨xs,hq,rfl⟩:=hstop
  obtain ⟨its,rv,p,hz⟩:=I.tuple (SqT.of hq)
  have p':s.heap.IsTuple a its.toArray:=p
  have hat:a≠it:=by
   obtain ⟨o,e1,c1,_⟩:=p'
   obtain ⟨o2,e2,c2,_⟩:=s1
   rintro rfl
   rw [e1] at e2
   cases e2
   rw [c1] at c2
   exact absurd c2 (by decide)
  have hsz:xs.length=its.toArray.size:=by rw [rv.length];simp
  refine wpAny_pyNext_enum_endD (drawsT (A:=X.A.in1) (I.ok.hd hc) it a hat its.toArray) he ⟨by rw [<- hsz];exact s1,p'⟩ fun g gs=>⟨rfl,?_⟩
  exact I.turnedL (S:=[e,it]) (fun b o hb q=>gs b o (fun z=>hb (by simp [z])) q) hf
 self:=fun _ _ _ _ _ st h=>by
  obtain ⟨⟨old,he⟩,_⟩:=st
  exact wpAny_pyIter_enum he h
namespace ZP
section
variable {prog:Program} {w:World} {A:Around} {E:Value->Shared->Prop} {s:Shared} {z TI TO i1 i2:Addr} {f1 f2:List Addr} {n1 n2 k:Nat} {P1 P2:Nat->Value->Prop} {S1 S2:Nat->Heap->Prop} {a b:Value}
def tupIt (a:Addr):Obj:={ cls:=.type "tuple_iterator",data:=.fields #[.ref a,.int 0 0] }
theorem iter_tup {a:Addr} (ht:s.heap.IsTuple a items) (h:Q (.ref s.heap.objs.size) { s with heap:=s.heap.push (tupIt a) }):wpAny (model prog w) A (pyIter (.ref a)) Q E s:=wpAny_pyIter_tuple ht h
end
end ZP
end L2
namespace L2
open PySem PySem.Spec PyProof.Rows
theorem ints_are:∀{ns:List Int} {us:List Value},Vals (ns.map V.int) us->IntsAre us ns
 | [],_,r=>by rw [List.map_nil] at r;cases r;exact .nil
 | n::ns,_,r=>by
  rw [List.map_cons] at r
  cases r with
  | cons h t=>
   obtain ⟨u,rfl⟩:=(show ∃t,_=Value.int n t from h)
   exact .cons n u (ints_are t)
section
variable {X:Cx}
def rEqI (K:PySem.W.Frag):R2:=fun x y H Q=>∃(p q:Addr) (xs ys:List Int),x=.ref p/\y=.ref q/\H p=some (.lst (xs.map V.int))/\H q=some (.lst (ys.map V.int))/\xs.length=ys.length/\Q (.bl (decide (xs=ys))) H
theorem op_eqI (hu:X.A.units<cLine):OpR X (compareOp .Eq) (rEqI X.K):=by
 intro pins s σ H x y v u Q I rx ry h
 obtain ⟨p,q,xs,ys,rfl,rfl,hp,hq,hl,k⟩:=h
 cases rx
 cases ry
 obtain ⟨its,r1,pl1,hz1⟩:=I.list (SqL.of hp)
 obtain ⟨its2,r2,pl2,hz2⟩:=I.list (SqL.of hq)
 have l1:=r1.length
 have l2:=r2.length
 rw [List.length_map] at l1 l2
 refine SeqAt.eq_listAt (e:=fun j=>decide (xs.getD j 0=ys.getD j 0)) pl1.isList pl2.isList (by simp;omega) hu (fun j h1 h2=>?_) ⟨.bl _,H,I,rfl,?_⟩
 ·have hj:j<xs.length:=by simp at h1;omega
  have hj2:j<ys.length:=by omega
  obtain ⟨a,ea,ra⟩:=r1.get (i:=j) (x:=.int xs[j]) (by rw [List.getElem?_map,List.getElem?_eq_getElem hj];rfl)
  obtain ⟨b,eb,rb⟩:=r2.get (i:=j) (x:=.int ys[j]) (by rw [List.getElem?_map,List.getElem?_eq_getElem hj2];rfl)
  obtain ⟨t,rfl⟩:=ra
  obtain ⟨t',rfl⟩:=rb
  have e1:its.toArray[j]=.int xs[j] t:=by
   obtain ⟨_,e⟩:=List.getElem?_eq_some_iff.mp ea
   simpa using e
  have e2:its2.toArray[j]=.int ys[j] t':=by
   obtain ⟨_,e⟩:=List.getElem?_eq_some_iff.mp eb
   simpa using e
  rw [e1,e2]
  have e3:decide (xs.getD j 0=ys.getD j 0)=(xs[j]==ys[j]):=by
   rw [List.getD_eq_getElem?_getD,List.getD_eq_getElem?_getD,List.getElem?_eq_getElem hj,List.getElem?_eq_getElem hj2]
   by_cases z:xs[j]=ys[j] <;> simp [z]
  show SeqAt.EqAt _ _ _ _ (decide (xs.getD j 0=ys.getD j 0))
  rw [e3]
  exact SeqAt.EqAt.int_int _ t _ t'
 ·have e:((List.range its.toArray.size).all fun j=>decide (xs.getD j 0=ys.getD j 0))=decide (xs=ys):=by
   have hs:its.toArray.size=xs.length:=by simp;omega
   rw [hs]
   by_cases z:xs=ys
   ·subst z
    simp
   ·rw [decide_eq_false z,Bool.eq_false_iff]
    intro all
    refine z (List.ext_getElem? fun i=>?_)
    rw [List.all_eq_true] at all
    by_cases hi:i<xs.length
    ·have:=of_decide_eq_true (all i (List.mem_range.mpr hi))
     rw [List.getD_eq_getElem?_getD,List.getD_eq_getElem?_getD,List.getElem?_eq_getElem hi,List.getElem?_eq_getElem (by omega)] at this
     rw [List.getElem?_eq_getElem hi,List.getElem?_eq_getElem (by omega)]
     exact congrArg some this
    ·rw [List.getElem?_eq_none (by omega),List.getElem?_eq_none (by omega)]
  rw [e]
  exact k
end
def Over (J:It) (a:Addr) (o:HO) (xs:List V):Prop:=∀H2:Hp,H2 a=some o->(∀i,i<xs.length->J.go i H2)/\(∀i x H3,i<xs.length->J.yld i H2 x H3->H3=H2/\xs[i]?=some x)/\J.stop xs.length H2
theorem over_l {K:PySem.W.Frag}:Over (Itl K a) a (.lst xs) xs:=fun H2 e=>
 ⟨fun i h=>⟨xs,xs[i],SqL.of e,List.getElem?_eq_getElem h⟩,fun i x H3 _ ⟨e1,h⟩=>⟨e1,h xs (SqL.of e)⟩,⟨xs,SqL.of e,Nat.le_refl _⟩⟩
theorem over_t {K:PySem.W.Frag}:Over (Itt K a) a (.tup xs) xs:=fun H2 e=>
 ⟨fun i h=>⟨xs,xs[i],SqT.of e,List.getElem?_eq_getElem h⟩,fun i x H3 _ ⟨e1,h⟩=>⟨e1,h xs (SqT.of e)⟩,⟨xs,SqT.of e,Nat.le_refl _⟩⟩
def iSq (tl:TE):TI:=fun σ H R=>tl σ H fun x H1=>∃a o xs,x=.ref a/\(o=.lst xs\/o=.tup xs)/\H1 a=some o/\∀J,Over J a o xs->R J H1
theorem e_i (hl:PE X l tl):PI X tg l (iSq tl):=by
 intro pins s σ H R I h
 refine thn (hl pins s σ H _ I h) fun v s1 ⟨x,H1,I1,r1,q1⟩=>?_
 obtain ⟨a,o,xs,e,ho,hq,q⟩:=q1
 subst e
 cases r1
 have tail:∀b∈[s1.heap.objs.size],FpOk X pins H1 b:=fun b hb=>by
  have e:b=s1.heap.objs.size:=by simpa using hb
  subst e
  exact I1.fpOk (Nat.le_refl _) (I1.hok.fresh (Nat.le_refl _))
 rcases ho with rfl | rfl
 ·obtain ⟨its,rv,p,hz⟩:=I1.list (SqL.of hq)
  refine wpAny_pyIter_list p.isList ?_
  exact ⟨s1.heap.objs.size,[s1.heap.objs.size],_,_,H1,rfl,I1.kept (t':=s1.toks) fun b o e=>Heap.get?_push_of_some _ e,turn_list a _,⟨_,Heap.get?_push_size _ rfl,rfl,rfl⟩,tail,q _ over_l⟩
 ·obtain ⟨its,rv,p,hz⟩:=I1.tuple (SqT.of hq)
  refine wpAny_pyIter_tuple (show s1.heap.IsTuple a its.toArray from p) ?_
  exact ⟨s1.heap.objs.size,[s1.heap.objs.size],_,_,H1,rfl,I1.kept (t':=s1.toks) fun b o e=>Heap.get?_push_of_some _ e,e_U a _,⟨_,Heap.get?_push_size _ rfl,rfl,rfl⟩,tail,q _ over_t⟩
theorem for_over {g:TG} {tb:TS} {D:Ends} (ov:Over J a o xs) (Pv:Nat->St->Hp->Prop) (h0:Pv 0 σ H) (hl:∀i σ H,Pv i σ H->H a=some o)
  (hs:∀i x σ H,xs[i]?=some x->Pv i σ H->g x σ H fun σ2 H2=>tb { D with nx:=Pv (i+1),ct:=Pv (i+1),bk:=D.nx } σ2 H2) (hd:∀ σ H,Pv xs.length σ H->D.nx σ H):
  ∃W:Nat->Nat->St->Hp->Prop,(∃m,W 0 m σ H)/\∀i m σ H,W i m σ H->
   (J.stop i H/\D.nx σ H)\/(J.go i H/\∃N:St->Hp->Prop,(∀ σ' H',N σ' H'->∃m',m'<m/\W (i+1) m' σ' H')/\∀x H',J.yld i H x H'->g x σ H' fun σ2 H2=>tb { D with nx:=N,ct:=N,bk:=D.nx } σ2 H2):=by
 refine ⟨fun i m σ H=>m=xs.length - i/\i≤xs.length/\Pv i σ H,⟨xs.length,by simp,Nat.zero_le _,h0⟩,?_⟩
 rintro i m σ H ⟨rfl,hi,p⟩
 obtain ⟨q1,q2,q3⟩:=ov H (hl i σ H p)
 by_cases hlt:i<xs.length
 ·refine .inr ⟨q1 i hlt,Pv (i+1),fun σ' H' p'=>⟨xs.length - (i+1),Nat.sub_succ_lt_self _ _ hlt,rfl,hlt,p'⟩,fun x H' y=>?_⟩
  obtain ⟨e,y2⟩:=q2 i x H' hlt y
  subst e
  exact hs i x σ _ y2 p
 ·have e:i=xs.length:=Nat.le_antisymm hi (Nat.le_of_not_lt hlt)
  subst e
  exact .inl ⟨q3,hd σ H p⟩
theorem comp_over {tt:TT} {te:TE} {σ:St} {Q:VK} (ov:Over J a o xs) (hH:H a=some o) (Pv:Addr->Nat->List V->Hp->Prop) (hz:xs.length≤sizeLine)
  (h0:∀D,H D=none->Pv D 0 [] (upd H D (.lst [])))
  (hs:∀(D:Addr) (i:Nat) (x:V) (ys:List V) (H':Hp) (R1:VK) (R2:Hp->Prop),H D=none->xs[i]?=some x->Same H H'->H' D=some (.lst ys)->Pv D i ys H'->
   (∀y H5,H5 D=some (.lst ys)->Same H (upd H5 D (.lst (ys++[y])))->Pv D (i+1) (ys++[y]) (upd H5 D (.lst (ys++[y])))->R1 y H5)->(∀H4,Same H H4->H4 D=some (.lst ys)->Pv D (i+1) ys H4->R2 H4)->
   tt (some x::σ) H' fun b H4=>if b=true then te (some x::σ) H4 R1 else R2 H4)
  (hq:∀D ys H',H D=none->Same H H'->H' D=some (.lst ys)->Pv D xs.length ys H'->Q (.ref D) H'):∀D,H D=none->∃W:Nat->Nat->List V->Hp->Prop,
 (∃m,W 0 m [] (upd H D (.lst [])))/\∀i m ys H2,W i m ys H2->H2 D=some (.lst ys)/\((J.stop i H2/\Q (.ref D) H2)\/(J.go i H2/\ys.length<sizeLine/\∀x H3,J.yld i H2 x H3->
  tt (some x::σ) H3 fun b H4=>if b=true then te (some x::σ) H4 fun y H5=>H5 D=some (.lst ys)/\∃m',m'<m/\W (i+1) m' (ys++[y]) (upd H5 D (.lst (ys++[y])))
   else ∃m',m'<m/\W (i+1) m' ys H4)):=by
 intro D hD
 refine ⟨fun i m ys H2=>m=xs.length - i/\i≤xs.length/\ys.length≤i/\Same H H2/\H2 D=some (.lst ys)/\Pv D i ys H2,⟨xs.length,by simp,Nat.zero_le _,by simp,Same.upd hD,upd_same,h0 D hD⟩,?_⟩
 rintro i m ys H2 ⟨rfl,hi,hy,hsm,hDl,hp⟩
 refine ⟨hDl,?_⟩
 obtain ⟨q1,q2,q3⟩:=ov H2 (hsm _ _ hH)
 by_cases hlt:i<xs.length
 ·refine .inr ⟨q1 i hlt,Nat.lt_of_le_of_lt hy (Nat.lt_of_lt_of_le hlt hz),fun x H3 hyl=>?_⟩
  obtain ⟨e,hx⟩:=q2 i x H3 hlt hyl
  subst e
  exact hs D i x ys H3 _ _ hD hx hsm hDl hp (fun y H5 a b c=>⟨a,xs.length - (i+1),Nat.sub_succ_lt_self _ _ hlt,rfl,hlt,by rw [List.length_append];exact Nat.succ_le_succ hy,b,upd_same,c⟩) (fun H4 a b c=>⟨xs.length - (i+1),Nat.sub_succ_lt_self _ _ hlt,rfl,hlt,Nat.le_succ_of_le hy,a,b,c⟩)
 ·have e:i=xs.length:=Nat.le_antisymm hi (Nat.le_of_not_lt hlt)
  subst e
  exact .inl ⟨q3,hq D ys H2 hD hsm hDl hp⟩
def C2Goal (K:PySem.W.Frag) (J:It) (te:TE) (σ:St) (H1:Hp) (Q:VK):Prop:=∀D,H1 D=none->∃W:Nat->Nat->List V->Hp->Prop,
 (∃m,W 0 m [] (upd H1 D (.lst [])))/\∀i m ys H2,W i m ys H2->H2 D=some (.lst ys)/\((J.stop i H2/\Q (.ref D) H2)\/(J.go i H2/\ys.length<sizeLine/\∀x H3,J.yld i H2 x H3->
  ∃p a b,x=.ref p/\SqT K H3 p [a,b]/\te (some a::some b::σ) H3 fun y H5=>H5 D=some (.lst ys)/\∃m',m'<m/\W (i+1) m' (ys++[y]) (upd H5 D (.lst (ys++[y])))))
theorem f_k {K:PySem.W.Frag} {σ:St} (Pr:Nat->V->V->Prop) (Pv:Addr->Nat->List V->Hp->Prop) (hz:n≤sizeLine)
  (j1:∀i H2,Same H H2->i<n->J.go i H2) (j2:∀i H2 x H3,Same H H2->i<n->J.yld i H2 x H3->∃p a b,x=.ref p/\Pr i a b/\H2 p=none/\H3=upd H2 p (.tup [a,b])) (j3:∀H2,Same H H2->J.stop n H2)
  (h0:∀D,H D=none->Pv D 0 [] (upd H D (.lst [])))
  (hs:∀(D:Addr) (i:Nat) (a b:V) (ys:List V) (H' H3:Hp) (R1:VK),H D=none->i<n->Pr i a b->Same H H'->H' D=some (.lst ys)->Pv D i ys H'->Same H' H3->
   (∀y H5,H5 D=some (.lst ys)->Same H (upd H5 D (.lst (ys++[y])))->Pv D (i+1) (ys++[y]) (upd H5 D (.lst (ys++[y])))->R1 y H5)->te (some a::some b::σ) H3 R1)
  (hq:∀D ys H',H D=none->Same H H'->H' D=some (.lst ys)->Pv D n ys H'->Q (.ref D) H'):C2Goal K J te σ H Q:=by
 intro D hD
 refine ⟨fun i m ys H2=>m=n - i/\i≤n/\ys.length≤i/\Same H H2/\H2 D=some (.lst ys)/\Pv D i ys H2,⟨n,by simp,Nat.zero_le _,by simp,Same.upd hD,upd_same,h0 D hD⟩,?_⟩
 rintro i m ys H2 ⟨rfl,hi,hy,hsm,hDl,hp⟩
 refine ⟨hDl,?_⟩
 by_cases hlt:i<n
 ·refine .inr ⟨j1 i H2 hsm hlt,Nat.lt_of_le_of_lt hy (Nat.lt_of_lt_of_le hlt hz),fun x H3 hyl=>?_⟩
  obtain ⟨p,a,b,rfl,hab,hpn,rfl⟩:=j2 i H2 x H3 hsm hlt hyl
  refine ⟨p,a,b,rfl,SqT.of upd_same,hs D i a b ys H2 _ _ hD hlt hab hsm hDl hp (Same.upd hpn) fun y H5 e1 e2 e3=>⟨e1,n - (i+1),Nat.sub_succ_lt_self _ _ hlt,rfl,hlt,by rw [List.length_append];exact Nat.succ_le_succ hy,e2,upd_same,e3⟩⟩
 ·have e:i=n:=Nat.le_antisymm hi (Nat.le_of_not_lt hlt)
  subst e
  exact .inl ⟨j3 H2 hsm,hq D ys H2 hD hsm hDl hp⟩
theorem comp2_enum {K:PySem.W.Frag} {σ:St} (hH:H c=some (.tup xs)) (Pv:Addr->Nat->List V->Hp->Prop) (hz:xs.length≤sizeLine)
  (h0:∀D,H D=none->Pv D 0 [] (upd H D (.lst [])))
  (hs:∀(D:Addr) (i:Nat) (x:V) (ys:List V) (H' H3:Hp) (R1:VK),H D=none->xs[i]?=some x->Same H H'->H' D=some (.lst ys)->Pv D i ys H'->Same H' H3->
   (∀y H5,H5 D=some (.lst ys)->Same H (upd H5 D (.lst (ys++[y])))->Pv D (i+1) (ys++[y]) (upd H5 D (.lst (ys++[y])))->R1 y H5)->te (some (.int (i:Int))::some x::σ) H3 R1)
  (hq:∀D ys H',H D=none->Same H H'->H' D=some (.lst ys)->Pv D xs.length ys H'->Q (.ref D) H'):C2Goal K (IteT c) te σ H Q:=by
 refine f_k (n:=xs.length) (fun i a b=>a=.int (i:Int)/\xs[i]?=some b) Pv hz (fun i H2 s h=>⟨xs,xs[i],s _ _ hH,List.getElem?_eq_getElem h⟩) ?_ (fun H2 s=>⟨xs,s _ _ hH,rfl⟩) h0 ?_ hq
 ·rintro i H2 x H3 s h ⟨p,y,zs,e1,e2,e3,e4,e5⟩
  rw [s _ _ hH] at e1
  cases e1
  exact ⟨p,_,y,e3,⟨rfl,e2⟩,e4,e5⟩
 ·rintro D i a b ys H' H3 R1 hD hi ⟨rfl,hb⟩ a1 a2 a3 a4 a5
  exact hs D i b ys H' H3 R1 hD hb a1 a2 a3 a4 a5
end L2
namespace RA
open PySem L2
inductive KS where
 | inl (b:Bool)
 | inr (k:NK)
instance:DecidableEq KS:=fun a b=>match a,b with
 | .inl a,.inl b=>if h:a=b then isTrue (by rw [h]) else isFalse fun z=>h (KS.inl.inj z)
 | .inr a,.inr b=>if h:a=b then isTrue (by rw [h]) else isFalse fun z=>h (KS.inr.inj z)
 | .inl _,.inr _=>isFalse fun z=>by cases z
 | .inr _,.inl _=>isFalse fun z=>by cases z
def isN:KS->Bool
 | .inl _=>false
 | .inr _=>true
def KeyV (H:Hp):KS->V->Prop
 | .inl b,x=>x=.bl b
 | .inr k,x=>∃p,x=.ref p/\NIn H k p
theorem nin_stay (s:∀b xs,H b=some (.tup xs)->H' b=some (.tup xs)) (h:NIn H k a):NIn H' k a:=by
 obtain ⟨b,e1,e2⟩:=h
 exact ⟨b,s _ _ e1,s _ _ e2⟩
theorem KeyV.stay (s:∀b xs,H b=some (.tup xs)->H' b=some (.tup xs)) (h:KeyV H k x):KeyV H' k x:=by
 cases k with
 | inl b=>exact h
 | inr k=>
  obtain ⟨p,e,h⟩:=h
  exact ⟨p,e,nin_stay s h⟩
theorem d_u {α κ:Type} [DecidableEq κ] (key:α->κ) (val:α->V) (k:κ):∀(kvs:List α) (n:Nat),(∀i x,kvs[i]?=some x->val x=.int ((n+i:Nat):Int))->
  (kvs.find? fun x=>decide (key x=k)).map val=if k∈kvs.map key then some (.int ((n+(kvs.map key).idxOf k:Nat):Int)) else none
 | [],n,_=>by simp
 | a::kvs,n,h=>by
  by_cases e:key a=k
  ·have h0:=h 0 a rfl
   rw [if_pos (by simp [e])]
   subst e
   simp [List.find?_cons,h0]
  ·have ih:=d_u key val k kvs (n+1) fun i x hx=>by
    have:=h (i+1) x (by simpa using hx)
    rw [this]
    congr 2
    omega
   have e1:(kvs.map key).idxOf k+1=((a::kvs).map key).idxOf k:=by
    rw [List.map_cons,List.idxOf_cons,beq_eq_false_iff_ne.mpr e]
    rfl
   rw [List.find?_cons,decide_eq_false e]
   show (kvs.find? fun x=>decide (key x=k)).map val=_
   rw [ih]
   by_cases hm:k∈kvs.map key
   ·rw [if_pos hm,if_pos (by rw [List.map_cons];exact List.mem_cons_of_mem _ hm),<- e1]
    congr 3
    omega
   ·rw [if_neg hm,if_neg (by rw [List.map_cons,List.mem_cons];rintro (z | z);exact e z.symm;exact hm z)]
def NumAt (P:Program) (w:World) (H:Hp) (d:Addr) (nest:Bool) (ks:List KS):Prop:=
 (nest=false/\∃kvs:List (Bool×V),H d=some (kdO (b_R P w) d kvs)/\(kvs.map fun x=>(KS.inl x.1:KS))=dis ks/\∀(i:Nat) (x:Bool×V),kvs[i]?=some x->x.2=V.int (i:Int)) \/
 (nest=true/\∃kvs:List (NK×Addr×V),H d=some (hdO (d_N P w) d kvs)/\(∀x∈kvs,NIn H x.1 x.2.1)/\(kvs.map fun x=>(KS.inr x.1:KS))=dis ks/\∀(i:Nat) (x:NK×Addr×V),kvs[i]?=some x->x.2.2=V.int (i:Int))
section
variable {P:Program} {w:World} {H:Hp} {d:Addr} {nest:Bool} {ks:List KS}
def numO (ks:List KS) (k:KS):Option V:=if k∈dis ks then some (.int ((dis ks).idxOf k:Nat)) else none
theorem NumAt.get (h:NumAt P w H d nest ks) (hk:KeyV H k x) (hn:isN k=nest):DGet P w H d x (numO ks k):=by
 rcases h with ⟨rfl,kvs,e,hm,hv⟩ | ⟨rfl,kvs,e,hN,hm,hv⟩
 ·cases k with
  | inr k=>cases hn
  | inl b=>
   refine .inl ⟨kvs,b,e,hk,?_⟩
   have:=d_u (fun x:Bool×V=>(KS.inl x.1:KS)) (·.2) (KS.inl b) kvs 0 (fun i x hx=>by rw [hv i x hx,Nat.zero_add])
   rw [hm] at this
   unfold numO valV
   rw [Nat.zero_add] at this
   rw [<- this]
   congr 2
   funext x
   exact decide_eq_decide.mpr ⟨fun z=>KS.inl.inj z,fun z=>by rw [z]⟩
 ·cases k with
  | inl k=>cases hn
  | inr b=>
   obtain ⟨p,e1,e2⟩:=hk
   refine .inr (.inl ⟨kvs,b,p,e,hN,e1,e2,?_⟩)
   have:=d_u (fun x:NK×Addr×V=>(KS.inr x.1:KS)) (·.2.2) (KS.inr b) kvs 0 (fun i x hx=>by rw [hv i x hx,Nat.zero_add])
   rw [hm] at this
   unfold numO valH
   rw [Nat.zero_add] at this
   rw [<- this]
   congr 2
   funext x
   exact decide_eq_decide.mpr ⟨fun z=>KS.inr.inj z,fun z=>by rw [z]⟩
theorem NumAt.len (h:NumAt P w H d nest ks):DLen P w H d (dis ks).length:=by
 rcases h with ⟨_,kvs,e,hm,_⟩ | ⟨_,kvs,e,_,hm,_⟩
 ·exact .inl ⟨kvs,e,by rw [<- hm,List.length_map]⟩
 ·exact .inr ⟨kvs,e,by rw [<- hm,List.length_map]⟩
theorem NumAt.same (h:NumAt P w H d nest ks) (hk:k∈dis ks):NumAt P w H d nest (ks++[k]):=by
 unfold NumAt at h ⊢
 rw [dis_snoc,if_pos hk]
 exact h
theorem NumAt.mono (h:NumAt P w H d nest ks) (s:Same H H'):NumAt P w H' d nest ks:=by
 rcases h with ⟨a,kvs,e,hm⟩ | ⟨a,kvs,e,hN,hm⟩
 ·exact .inl ⟨a,kvs,s _ _ e,hm⟩
 ·exact .inr ⟨a,kvs,s _ _ e,fun x hx=>nin_stay (fun b xs z=>s _ _ z) (hN x hx),hm⟩
theorem NumAt.tups (h:NumAt P w H d nest ks) (e:H'=upd H d ob):∀b xs,H b=some (.tup xs)->H' b=some (.tup xs):=fun b xs z=>by
 rw [e,upd_ne (fun q=>?_)]
 ·exact z
 ·subst q
  rcases h with ⟨_,kvs,e1,_⟩ | ⟨_,kvs,e1,_⟩
  ·rw [e1] at z;cases z
  ·rw [e1] at z;cases z
theorem num_at (h:¬ j<n) (h2:j - n<1):j=n:=by omega
theorem NumAt.put (h:NumAt P w H d nest ks) (hk:KeyV H k x) (hn:isN k=nest) (hnew:k∉dis ks) (hl:(dis ks).length<sizeLine):
  ∃ob,DPut P w H d x (.int ((dis ks).length:Nat)) (upd H d ob)/\NumAt P w (upd H d ob) d nest (ks++[k]):=by
 have hnone:numO ks k=none:=if_neg hnew
 have hget:=h.get hk hn
 rw [hnone] at hget
 have h0:=h
 rcases h with ⟨rfl,kvs,e,hm,hv⟩ | ⟨rfl,kvs,e,hN,hm,hv⟩
 ·cases k with
  | inr k=>cases hn
  | inl b=>
   have hlen:(dis ks).length=kvs.length:=by rw [<- hm,List.length_map]
   have hval:valV kvs b=none:=by
    have:=d_u (fun x:Bool×V=>(KS.inl x.1:KS)) (·.2) (KS.inl b) kvs 0 (fun i x hx=>by rw [hv i x hx,Nat.zero_add])
    rw [hm,if_neg hnew] at this
    unfold valV
    rw [<- this]
    congr 2
    funext x
    exact decide_eq_decide.mpr ⟨fun z=>by rw [z],fun z=>KS.inl.inj z⟩
   refine ⟨_,.inl ⟨kvs,b,e,hk,hval,by rw [<- hlen];exact hl,rfl⟩,.inl ⟨rfl,kvs++[(b,.int ((dis ks).length:Nat))],upd_same,?_,fun i y hy=>?_⟩⟩
   ·rw [dis_snoc,if_neg hnew,List.map_append,hm]
    rfl
   ·by_cases hi:i<kvs.length
    ·rw [List.getElem?_append_left hi] at hy
     exact hv i y hy
    ·rw [List.getElem?_append_right (Nat.le_of_not_lt hi)] at hy
     have h9:=num_at hi (List.getElem?_eq_some_iff.mp hy).1
     rw [h9,Nat.sub_self] at hy
     cases hy
     show V.int ((dis ks).length:Nat)=_
     rw [hlen,h9]
 ·cases k with
  | inl k=>cases hn
  | inr b=>
   have hlen:(dis ks).length=kvs.length:=by rw [<- hm,List.length_map]
   obtain ⟨p,e1,e2⟩:=hk
   have hval:valH kvs b=none:=by
    have:=d_u (fun x:NK×Addr×V=>(KS.inr x.1:KS)) (·.2.2) (KS.inr b) kvs 0 (fun i x hx=>by rw [hv i x hx,Nat.zero_add])
    rw [hm,if_neg hnew] at this
    unfold valH
    rw [<- this]
    congr 2
    funext x
    exact decide_eq_decide.mpr ⟨fun z=>by rw [z],fun z=>KS.inr.inj z⟩
   have keep:=h0.tups (H':=upd H d (hdO (d_N P w) d (kvs++[(b,p,.int ((dis ks).length:Nat))]))) rfl
   refine ⟨_,.inr (.inl ⟨kvs,b,p,e,hN,e1,e2,hval,by rw [<- hlen];exact hl,rfl⟩),.inr ⟨rfl,kvs++[(b,p,.int ((dis ks).length:Nat))],upd_same,fun y hy=>?_,?_,fun i y hy=>?_⟩⟩
   ·rcases List.mem_append.mp hy with hy | hy
    ·exact nin_stay keep (hN y hy)
    ·rw [List.mem_singleton.mp hy]
     exact nin_stay keep e2
   ·rw [dis_snoc,if_neg hnew,List.map_append,hm]
    rfl
   ·by_cases hi:i<kvs.length
    ·rw [List.getElem?_append_left hi] at hy
     exact hv i y hy
    ·rw [List.getElem?_append_right (Nat.le_of_not_lt hi)] at hy
     have h9:=num_at hi (List.getElem?_eq_some_iff.mp hy).1
     rw [h9,Nat.sub_self] at hy
     cases hy
     show V.int ((dis ks).length:Nat)=_
     rw [hlen,h9]
theorem NumAt.new (P:Program) (w:World) (H:Hp) (p:Addr) (nest:Bool):NumAt P w (upd H p (newO P w p (if nest=true then .nest else .bl))) p nest []:=by
 cases nest with
 | false=>exact .inl ⟨rfl,[],upd_same,rfl,fun i x h=>by simp at h⟩
 | true=>exact .inr ⟨rfl,[],upd_same,fun x h=>by simp at h,rfl,fun i x h=>by simp at h⟩
end
theorem numF_inl (bs:List Bool):numF (bs.map fun b=>(KS.inl b:KS))=numF bs:=c_Q (by rw [List.length_map]) fun i j a b a' b' h1 h2 h3 h4=>by
 rw [List.getElem?_map,h3] at h1
 rw [List.getElem?_map,h4] at h2
 cases h1
 cases h2
 exact ⟨fun z=>KS.inl.inj z,fun z=>by rw [z]⟩
theorem numF_inr (bs:List NK):numF (bs.map fun b=>(KS.inr b:KS))=numF bs:=c_Q (by rw [List.length_map]) fun i j a b a' b' h1 h2 h3 h4=>by
 rw [List.getElem?_map,h3] at h1
 rw [List.getElem?_map,h4] at h2
 cases h1
 cases h2
 exact ⟨fun z=>KS.inr.inj z,fun z=>by rw [z]⟩
end RA
namespace L2
open PySem PySem.Spec PyProof.Rows
section
variable {X:Cx} {elt iter:Expr} {x:Str} {px pos:Pos} {ifs:List Expr} {sc:Scope} {wi:TI} {tt:TT} {te:TE}
theorem e_g (N2:List Str) {py spos:Pos} (hc:X.calm=true) (hN:X.N.Nodup) (hN2:(x::N2).Nodup) (hj:X.N[j]?=some y) (hyl:Loc X.env.scope y) (hi:PI X (.Name x px) iter wi)
  (hb:∀(cl:List (Str×Addr)) (C:Addr) (fp:List Addr) (s:Shared) (H:Hp),PTs { cxComp X x sc cl C fp s H with N:=x::N2 } ifs tt/\PE { cxComp X x sc cl C fp s H with N:=x::N2 } elt te)
  (hx:sc.names.lookup x=some .local:=by rfl) (hkind:sc.kind=.function:=by rfl)
  (hnames:∀y∈sc.names,y.2=.local->sc.names.lookup y.1=some .local:=by decide +kernel) (hcell:∀y∈sc.names,y.2≠.cell:=by decide +kernel)
  (hfree:(sc.names.all fun y=>y.2 !=.free || X.env.scope.names.lookup y.1==some .cell)=true:=by rfl)
  (hlo:(N2.all fun y=>sc.names.lookup y !=some .local)=true:=by rfl) (hl2:N2.length=X.N.length:=by rfl) (hz2:((N2.zip X.N).all fun y=>y.1==y.2 || sc.names.lookup y.1==none)=true:=by rfl)
  (hs:∀x,foldedSetIterable iter X.env x=pure x:=by intro _;rfl) (hsw:swapsWith (.ListComp elt [⟨.Name x px,iter,ifs,0⟩] sc pos) (some (.Name y py)) spos.line X.env=pure true:=by rfl)
  (hfy:X.fn y=true\/X.env.scope.names.lookup y=some .local:=by first | exact .inl rfl | exact .inr rfl):
  PS X (.Assign [.Name y py] (.ListComp elt [⟨.Name x px,iter,ifs,0⟩] sc pos) spos) (tAsg (tComp wi tt te) (c_x j)):=by
 intro pins s σ H DD I h
 have hfr:∀y∈sc.names,y.2=.free->X.env.kindOf y.1=some .cell:=fun y hy e=>by
  have q:=List.all_eq_true.mp hfree y hy
  rw [e] at q
  simpa [Env.kindOf] using q
 have hlo':∀y∈N2,sc.names.lookup y≠some .local:=fun y hy e=>by
  have q:=List.all_eq_true.mp hlo y hy
  rw [e] at q
  simp at q
 obtain ⟨cl,hclos,hsub,hhas⟩:=b_P (env:=X.env) (sc:=sc) fun y hy e=>I.ok.has y.1 (.inl (hfr y hy e))
 refine comp_used hsw fun _=>wpAny_comprehension_free (Q:=fun _ s'=>SP X pins DD .next s') rfl hs hclos hkind hnames (thn (hi pins s σ H _ I h) fun v s1 h1=>thn h1 fun itv s2 h2=>?_)
 obtain ⟨it,fp,tn,J,H2,e,I2,T,st2,f2,hW⟩:=h2
 subst e
 have nobinds:∀y∈([]:List (Str×Value)),sc.names.lookup y.1=some .local:=fun y hy=>absurd hy (by simp)
 refine wpAny_newObj_type ?_
 refine wpAny_newFunctionEnv hcell nobinds (fun h₁ hns₁ hsb₁=>?_) hkind
 dsimp only at hns₁ hsb₁ ⊢
 generalize hHa:s2.heap.push { cls:=.type "list",dict:=none,data:=.seq ([]:List Value).toArray }=Ha at hns₁ hsb₁ ⊢
 have hC:Ha.objs.size=s2.heap.objs.size+1:=by rw [<- hHa,Heap.size_push]
 have hDC:s2.heap.objs.size≠Ha.objs.size:=by rw [hC];exact Nat.ne_of_lt (Nat.lt_succ_self _)
 have hCle:s2.heap.objs.size≤Ha.objs.size:=by rw [hC];exact Nat.le_succ _
 have neC:∀b o,s2.heap.get? b=some o->b≠Ha.objs.size:=fun b o e=>Nat.ne_of_lt (Nat.lt_of_lt_of_le (Heap.lt_size e) hCle)
 have old:∀b o,s2.heap.get? b=some o->h₁.get? b=some o:=fun b o e=>hsb₁.extBut b o (neC b o e) (Heap.get?_push_of_some _ (hHa▸Heap.get?_push_of_some _ e))
 have hacc:h₁.get? s2.heap.objs.size=some { cls:=.type "list",dict:=none,data:=.seq ([]:List Value).toArray }:=hsb₁.extBut _ _ hDC (Heap.get?_push_of_some _ (hHa▸Heap.get?_push_size _ rfl))
 generalize hDe:s2.heap.objs.size=D at *
 generalize hCe:Ha.objs.size=C at *
 have hHD:H2 D=none:=I2.hok.fresh (Nat.le_of_eq hDe)
 have hHC:H2 C=none:=I2.hok.fresh (by omega)
 obtain ⟨W,⟨m0,w0⟩,turn⟩:=hW D hHD
 have fplt:∀b∈fp,b<D:=fun b hb=>by
  obtain ⟨o,e,_⟩:=T.obj _ _ st2 b hb
  rw [<- hDe]
  exact Heap.lt_size e
 let X':Cx:={ cxComp X x sc cl C fp s2 H2 with N:=x::N2 }
 have nofs:∀b∈fp,b∉frs X.stack:=fun b hb z=>by
  rcases List.mem_cons.mp (I2.stkSub b z) with e | e
  ·exact (f2 b hb).2.1 e
  ·exact (f2 b hb).2.2.1 e
 have ok':X'.Ok:=by
  refine ⟨I2.ok.mod,hkind,I2.ok.glob,I2.ok.blt,?_,fun y z c e1 e2=>I2.ok.inj y z c (hsub y c e1) (hsub z c e2),fun y hy=>?_,fun y c e=>absurd (show false=true from e) Bool.false_ne_true,I2.ok.hd,I2.ok.frames,.inl rfl,fun b hb=>⟨?_,fun y c e=>?_⟩,I2.bs,
   Nat.le_trans I2.ok.bsz I2.sz,fun b o e hb=>?_,nofs,I2.stack,I2.stkFree⟩
  ·show s2.heap.objs.size≤C
   omega
  ·rcases hy with hy | hy
   ·rcases relabel_lookup (show (relabel sc X.env).names.lookup y=some .cell from hy) with e | ⟨_,e,_⟩
    ·exact absurd rfl (hcell _ (PySem.mem_of_lookup e))
    ·exact hhas _ (PySem.mem_of_lookup e) rfl
   ·rcases relabel_lookup (show (relabel sc X.env).names.lookup y=some .free from hy) with e | ⟨e,_⟩
    ·exact hhas _ (PySem.mem_of_lookup e) rfl
    ·cases e
  ·exact Nat.ne_of_lt (Nat.lt_of_lt_of_le (fplt b hb) (by omega:D≤C))
  ·exact (f2 b hb).2.2.2.2.1 y c (hsub y c e)
  ·rcases (f2 b hb).2.2.2.1 with z | z
   ·exact I2.ok.noex b o e z
   ·exact absurd (Nat.lt_of_lt_of_le (Nat.lt_of_lt_of_le (Heap.lt_size e) I2.ok.bsz) z) (Nat.lt_irrefl _)
 have I4:∀tk,Inv X' [] (none::σ) (upd H2 D (.lst [])) { s2 with heap:=h₁,toks:=tk }:=fun tk=>by
  refine ⟨ok',rfl,I2.bare,Un.laid old (Nat.le_of_eq hDe) hHD,⟨_,hns₁,fun i y v e1 e2 e3=>?_⟩,fun y c e=>?_,?_,fun y c e=>?_,fun p hp=>?_,I2.hok.laid old (Nat.le_of_eq hDe) ?_,?_⟩
  ·cases i with
   | zero=>simp at e2
   | succ i=>
    have e0:N2[i]?=some y:=by simpa [X',cxComp] using e1
    have e2:σ[i]?=some (some v):=by simpa using e2
    have e3:Vis (relabel sc X.env) y:=e3
    have hyN:y∈N2:=List.mem_of_getElem? e0
    have free:sc.names.lookup y=some .free/\(relabel sc X.env).names.lookup y≠some .local:=by
     rcases e3 with e | e | e
     ·rcases relabel_lookup e with q | ⟨q,_⟩
      ·exact absurd q (hlo' y hyN)
      ·cases q
     ·rcases relabel_lookup e with q | ⟨_,q,_⟩
      ·exact absurd rfl (hcell _ (PySem.mem_of_lookup q))
      ·exact ⟨q,by rw [e];decide⟩
     ·rcases relabel_lookup e with q | ⟨q,_⟩
      ·exact ⟨q,by rw [e];decide⟩
      ·cases q
    have e1:X.N[i]?=some y:=by
     have hi:i<N2.length:=(List.getElem?_eq_some_iff.mp e0).1
     have hi2:i<X.N.length:=by omega
     have hm:(y,X.N[i])∈N2.zip X.N:=by
      have hz:(N2.zip X.N)[i]?=some (y,X.N[i]):=by
       rw [List.getElem?_zip_eq_some]
       exact ⟨e0,List.getElem?_eq_getElem hi2⟩
      exact List.mem_of_getElem? hz
     have q:=List.all_eq_true.mp hz2 _ hm
     rcases Bool.or_eq_true_iff.mp q with q | q
     ·have:y=X.N[i]:=eq_of_beq q
      rw [List.getElem?_eq_getElem hi2,<- this]
     ·have q2:sc.names.lookup y=none:=by simpa using q
      rw [free.1] at q2
      cases q2
    have kc:X.env.kindOf y=some .cell:=hfr _ (PySem.mem_of_lookup free.1) rfl
    obtain ⟨m,hn,hl⟩:=I2.loc
    obtain ⟨u,ru,lk⟩:=hl i y v e1 e2 (.inr (.inl kc))
    rcases lk with ⟨q,_⟩ | ⟨_,c,hcc,⟨o,ho,hd⟩⟩
    ·rw [kc] at q;cases q
    ·obtain ⟨c',hc'⟩:=hhas _ (PySem.mem_of_lookup free.1) rfl
     have e4:=hsub _ _ hc'
     rw [hcc] at e4
     cases e4
     refine ⟨u,ru,.inr ⟨?_,c,hc',⟨o,old c o ho,hd⟩⟩⟩
     rcases e3 with e | e | e
     ·exact absurd e free.2
     ·exact .inl e
     ·exact .inr e
  ·obtain ⟨v,o,ho,hd⟩:=I2.cell y c (hsub y c e)
   exact ⟨v,o,old c o ho,hd⟩
  ·show upd H2 D (.lst []) C=none
   rw [upd_ne (neA (by omega))]
   exact hHC
  ·obtain ⟨v,o,ho,hd⟩:=I2.cell y c (hsub y c e)
   have hlt:=Heap.lt_size ho
   rw [hDe] at hlt
   show upd H2 D (.lst []) c=none
   rw [upd_ne (Nat.ne_of_lt hlt)]
   exact I2.freeC y c (hsub y c e)
  ·exact absurd (show p∈([]:List (Addr×Obj)) from hp) (by simp)
  ·exact ⟨Nat.zero_le _,[],0,.nil,hacc⟩
  ·show (none::σ).length=(x::N2).length
   rw [List.length_cons,List.length_cons,I2.len,hl2]
 have hN':X'.N.Nodup:=hN2
 have hx':X'.env.scope.names.lookup x=some .local:=lookup_relabel_local hx
 obtain ⟨PT',PE'⟩:=hb cl C fp s2 H2
 have fpX:∀{pins':List (Addr×Obj)} {H':Hp},(∀b∈fp,H' b=none)->(∀p∈pins',p.1∉fp)->∀b∈fp,FpOk X' pins' H' b:=fun hn hp b hb=>by
  refine ⟨hn b hb,?_,nofs b hb,.inl hb,fun y c e=>(f2 b hb).2.2.2.2.1 y c (hsub y c e),fun p q z=>?_⟩
  ·exact Nat.ne_of_lt (Nat.lt_of_lt_of_le (fplt b hb) (by omega:D≤C))
  ·rcases List.mem_append.mp q with q | q
   ·exact absurd (show p∈([]:List (Addr×Obj)) from q) (by simp)
   ·exact hp p q (by rw [z];exact hb)
 have loop:∀tk,codeAny (model X.prog X.w) X.A (.compLoop (.ListComp elt [⟨.Name x px,iter,ifs,0⟩] sc pos) 0 (.ref it) (.ref D) (compEnvC sc cl C X.env)) (compPost (model X.prog X.w) X.A X.xe (some (assign (.Name y py) X.env)) (fun _ s'=>SP X pins DD .next s') (.ref D) C) { s2 with heap:=h₁,toks:=tk }:=fun tk=>by
  refine codeAny_compLoop_tests (fun n s'=>∃i ys o H',Inv X' [] (o::σ) H' s'/\tn i s'.heap/\(∀b∈fp,H' b=none)/\W i n ys H') ?_ m0 ⟨0,[],none,_,I4 tk,T.keep _ _ _ st2 fun b hb o e=>old b o e,fun b hb=>?_,w0⟩
  ·rintro n s3 ⟨i,ys,o3,H3,I3,st3,fr3,w3⟩
   obtain ⟨hD3,alt⟩:=turn i n ys H3 w3
   rcases alt with ⟨stop,qn⟩ | ⟨go,hlen,step⟩
   ·refine wpAny_mono (T.done X' rfl rfl rfl hc i [] s3 _ H3 (fun _ _=>False) I3 (fpX fr3 (by simp)) st3 stop) (fun r s4 hpq=>?_) fun _ _ f=>f.elim
    obtain ⟨hr,I4'⟩:=hpq
    subst hr
    obtain ⟨mC,hnC,_⟩:=I4'.loc
    have nC:∀b u,H3 b=some u->b≠C:=fun b u e z=>by rw [z] at e;rw [show H3 C=none from I4'.free] at e;cases e
    have un:Un (frs X.stack) fp H2 H3 s2.heap s4.heap:=
     ⟨fun b o e n1 n2 n3=>I4'.base.keep b o e n1 n2 n3,fun b o e n1 n2 n3=>I4'.base.slot b o e n1 n2 n3,I4'.base.free,fun b o e n1=>I4'.base.there b o e n1,I4'.base.tups,I4'.base.frzs,I4'.base.tbls⟩
    have I5:Inv X pins σ H3 s4:=I2.call' (s':=s4) I4'.os un I4'.hok I4'.bare fun b hb=>⟨(f2 b hb).2.2.2.1,(f2 b hb).2.1,(f2 b hb).2.2.2.2.1,(f2 b hb).2.2.2.2.2⟩
    obtain ⟨oC,epC,esC,hoC,_⟩:=id hnC
    have liveL:∃o,s2.heap.get? X.env.locals=some o:=by obtain ⟨m,⟨o,es,ep,z,_⟩,_⟩:=I2.loc;exact ⟨o,z⟩
    have neL:X.env.locals≠C:=by obtain ⟨o,z⟩:=liveL;exact neC _ o z
    have neCell:∀y c,X.env.cells.lookup y=some c->c≠C:=fun y c e=>by obtain ⟨v,o,r,_⟩:=I2.cell y c e;exact neC c o r
    dsimp only [compPost]
    refine wpAny_assign_Name (store_ok2 I5 hN hj hyl (v:=.ref D) rfl (fun s6 I6 hpq=>?_) hfy)
    obtain ⟨a,sb,ha⟩:=hpq
    have haC:C≠a:=by
     rcases ha with z | z
     ·rw [z];exact Ne.symm neL
     ·exact Ne.symm (neCell _ _ z)
    have hoC6:s6.heap.get? C=some oC:=(sb.2 C haC).trans hoC
    refine ⟨mC,hnC.sameBut sb haC,fun h'' hs''=>?_⟩
    have hlt:C<h''.objs.size:=by rw [hs''.1];exact Heap.lt_size hoC6
    have hok'':HOk X.prog X.w H3 h'':=fun b u e=>(I6.hok b u e).stay (fun c v hcc q=>hs''.extBut c v (by
     rcases hcc with z | z
     ·rw [z];exact nC b u e
     ·exact nC c _ z) q) (fun _ q=>q) fun _ _ q=>q
    have un2:Un (frs X.stack) [C] H3 H3 s6.heap h'':=
     ⟨fun b o e n1 n2 n3=>hs''.extBut b o (fun z=>n3 (by simp [z])) e,fun b o e n1 n2 n3=>⟨o.slots,hs''.extBut b o (fun z=>n3 (by simp [z])) e⟩,fun b o e n1 _=>n1,fun b o e n1=>⟨o,hs''.extBut b o (fun z=>n1 (by simp [z])) e⟩,fun _ _ q=>q,fun _ _ _ q=>q,fun b ps q=>⟨#[],by rw [Array.append_empty];exact q⟩⟩
    refine ⟨_,H3,I6.call' (s':={ s6 with heap:=h'' }) rfl un2 hok'' I6.bare (fun b hb=>?_),qn⟩
    have eb:b=C:=by simpa using hb
    subst eb
    refine ⟨.inr (Nat.le_trans I2.sz (by omega)),Ne.symm neL,neCell,fun p hp z=>?_⟩
    obtain ⟨z1,_⟩:=I2.pin p hp
    exact neC p.1 p.2 z1 z
   ·refine wpAny_mono (T.item X' rfl rfl rfl hc i [] s3 _ H3 (fun _ _=>False) I3 (fpX fr3 (by simp)) st3 go) (fun r s4 hpq=>?_) fun _ _ f=>f.elim
    obtain ⟨u,hr,h4⟩:=hpq
    subst hr
    have eg:(letOwnedTupleGo (.Name x px) (.ref it) u >>= fun _=>assign (.Name x px) (compEnvC sc cl C X.env) u)=assign (.Name x px) (compEnvC sc cl C X.env) u:=pure_bind () _
    show wpAny _ _ (assign (.Name x px) (compEnvC sc cl C X.env) u) _ _ s4
    rw [<- eg]
    refine wpAny_bind (wpAny_mono h4 (fun _ s5 hpq=>?_) fun _ _ f=>f.elim)
    obtain ⟨y,H5,I5,r5,y5,st5,fr5⟩:=hpq
    have I5':=I5.pinned (fpX fr5 (by simp)) (T.obj _ _ st5)
    refine wpAny_mono (a_B (X:=X') (i:=0) (pos:=px) hN' rfl (.inl hx') (.inr hx') _ s5 _ H5 y u (fun σ' H'=>σ'=some y::σ/\H'=H5) I5' r5 ⟨rfl,rfl⟩) (fun _ s6 hpq=>?_) fun _ _ f=>f.elim
    obtain ⟨σ6,H6,I6,e1,e2⟩:=hpq
    subst e1 e2
    refine wpAny_mono (PT' _ s6 _ _ _ I6 (step y _ y5)) (fun ok s7 hpq=>?_) fun _ _ f=>f.elim
    obtain ⟨H7,I7,q7⟩:=hpq
    have again:∀{s8:Shared} {H8:Hp} {ys':List V},Inv X' ([]++e_h fp s5.heap) (some y::σ) H8 s8->(∃m',m'<n/\W (i+1) m' ys' H8)->∃m,m<n/\∃i ys o H',Inv X' [] (o::σ) H' s8/\tn i s8.heap/\(∀b∈fp,H' b=none)/\W i m ys H':=fun {s8 H8 ys'} I8 ⟨m',hm,w8⟩=>by
     refine ⟨m',hm,i+1,ys',some y,H8,I8.unpinned,T.keep _ _ _ st5 fun b hb o e=>(I8.pin (b,o) (List.mem_append_right _ (List.mem_append_right _ (a_H hb e)))).1,fun b hb=>?_,w8⟩
     obtain ⟨o,e,d⟩:=T.obj _ _ st5 b hb
     exact (I8.pin (b,o) (List.mem_append_right _ (List.mem_append_right _ (a_H hb e)))).2.1
    cases ok with
    | false=>exact again I7 q7
    | true=>
     have q7:te (some y::σ) H7 _:=q7
     refine wpAny_mono (PE' _ s7 _ _ _ I7 q7) (fun z s8 hpq=>?_) fun _ _ f=>f.elim
     obtain ⟨yv,H8,I8,r8,hD8,q8⟩:=hpq
     refine wpAny_mono (a_u (X:=X') _ s8 _ H8 (.ref D) [yv] (.ref D) [z] (fun _ H9=>H9=upd H8 D (.lst (ys++[yv]))) I8 rfl (.cons r8 .nil) ⟨D,ys,yv,rfl,rfl,hD8,hlen,rfl⟩) (fun _ s9 hpq=>?_) fun _ _ f=>f.elim
     obtain ⟨_,H9,I9,_,e9⟩:=hpq
     subst e9
     exact again I9 q8
  ·show upd H2 D (.lst []) b=none
   rw [upd_ne (Nat.ne_of_lt (fplt b hb))]
   exact (f2 b hb).1
 exact codeAny_compStart_list (loop _) (T.self _ _ _ _ _ (T.keep _ _ _ st2 fun b hb o e=>old b o e) (loop _))
end
theorem c_R (K:PySem.W.Frag) (hK:X.K=K:=by rfl):IxR X (rIxL K):=by
 subst hK
 exact a_P
theorem ix_tupK (K:PySem.W.Frag) (hK:X.K=K:=by rfl):IxR X (rIxT K):=by
 subst hK
 exact a_w
theorem ix_dictGK {X:Cx} (P:Program) (w:World) (hu:X.A.units+64<cLine) (hP:X.prog=P:=by rfl) (hw:X.w=w:=by rfl):IxR X (rIxG P w):=by
 subst hP hw
 exact ix_dictG hu
theorem cutV_take {xs:List V} (h:t≤xs.length):cutV xs none (some (t:Int))=xs.take t:=by
 unfold cutV
 rw [HT.sIx_none,HT.sIx_nat,List.drop_zero,Nat.sub_zero,Nat.min_eq_left h]
end L2
namespace RA
open PySem L2
theorem ar_lt (h:i<j+1) (n:¬ i=j):i<j:=Nat.lt_of_le_of_ne (Nat.le_of_lt_succ h) n
theorem ar_at (h:¬ j<n) (h2:j - n<1):j=n:=by omega
theorem ar_k (h:k≤3600):k+1<sizeLine:=by
 have:4000≤sizeLine:=a_g (by decide)
 omega
theorem g_a (z:Int) (b m:Nat) (hm:0<m):∃n:Nat,(n:Int)=(b:Int)+z % (m:Int)/\b≤n/\n<b+m:=by
 have h0:=Int.emod_nonneg z (show (m:Int)≠0 by omega)
 have h1:=Int.emod_lt_of_pos z (show (0:Int)<(m:Int) by omega)
 exact ⟨b+(z % (m:Int)).toNat,by omega,by omega,by omega⟩
theorem d_q (ws:List Nat):intsV ws=(zs ws).map V.int:=by
 unfold intsV zs
 rw [List.map_map]
 rfl
theorem zs_len (ws:List Nat):(zs ws).length=ws.length:=by simp [zs]
theorem intsV_len (ws:List Nat):(intsV ws).length=ws.length:=by simp [intsV]
theorem b_m (h:i<ws.length):(intsV ws)[i]?=some (.int ((ws.getD i 0:Nat):Int)):=by
 unfold intsV
 rw [List.getElem?_map,List.getD_eq_getElem?_getD,List.getElem?_eq_getElem h]
 rfl
theorem d_v {ns:List Nat} (h:r<ns.length):atI (intsV ns) (r:Int)=some (.int ((ns.getD r 0:Nat):Int)):=a_l (b_m h)
theorem a_T {α:Type} {l:List α} {x:α} (h:l[i]?=some x):l.take (i+1)=l.take i++[x]:=by
 rw [List.take_add_one,h]
 rfl
def LotsAt (H:Hp) (lots:List Addr) (W:List (List Nat)) (B:List Bool):Prop:=∀(i:Nat) (r:Addr),lots[i]?=some r->H r=some (.lst (intsV (Rd W B i)))
theorem LotsAt.same (h:LotsAt H lots W B) (s:Same H H'):LotsAt H' lots W B:=fun i r e=>s _ _ (h i r e)
theorem a_L.row (hl:rows.length=W.length) (h:b_H H rows W) (hr:r<W.length):∃ra,rows[r]?=some ra/\H ra=some (.tup (intsV (W.getD r []))):=by
 have e:rows[r]?=some (rows[r]'(by omega)):=List.getElem?_eq_getElem _
 obtain ⟨ws,h1,h2⟩:=h r _ e
 refine ⟨_,e,?_⟩
 rw [h2,List.getD_eq_getElem?_getD,h1]
 rfl
theorem b_t (s:Same H H') (h:H' p=none):H p=none:=by
 cases e:H p with
 | none=>rfl
 | some o=>rw [s _ _ e] at h;cases h
theorem comp_range {tt:TT} {te:TE} {σ:St} {Q:VK} (Pv:Addr->Nat->List V->Hp->Prop) (hz:n≤sizeLine)
  (h0:∀D,H D=none->Pv D 0 [] (L2.upd H D (.lst [])))
  (hs:∀(D:Addr) (i:Nat) (ys:List V) (H':Hp) (R1:VK) (R2:Hp->Prop),H D=none->i<n->Same H H'->H' D=some (.lst ys)->Pv D i ys H'->
   (∀y H5,H5 D=some (.lst ys)->Same H (L2.upd H5 D (.lst (ys++[y])))->Pv D (i+1) (ys++[y]) (L2.upd H5 D (.lst (ys++[y])))->R1 y H5)->(∀H4,Same H H4->H4 D=some (.lst ys)->Pv D (i+1) ys H4->R2 H4)->
   tt (some (.int (lo+(i:Int)))::σ) H' fun b H4=>if b=true then te (some (.int (lo+(i:Int)))::σ) H4 R1 else R2 H4)
  (hq:∀D ys H',H D=none->Same H H'->H' D=some (.lst ys)->Pv D n ys H'->Q (.ref D) H'):∀D,H D=none->∃W:Nat->Nat->List V->Hp->Prop,
 (∃m,W 0 m [] (L2.upd H D (.lst [])))/\∀i m ys H2,W i m ys H2->H2 D=some (.lst ys)/\(((Itr lo n).stop i H2/\Q (.ref D) H2)\/((Itr lo n).go i H2/\ys.length<sizeLine/\∀x H3,(Itr lo n).yld i H2 x H3->
  tt (some x::σ) H3 fun b H4=>if b=true then te (some x::σ) H4 fun y H5=>H5 D=some (.lst ys)/\∃m',m'<m/\W (i+1) m' (ys++[y]) (L2.upd H5 D (.lst (ys++[y])))
   else ∃m',m'<m/\W (i+1) m' ys H4)):=by
 intro D hD
 refine ⟨fun i m ys H2=>m=n - i/\i≤n/\ys.length≤i/\Same H H2/\H2 D=some (.lst ys)/\Pv D i ys H2,⟨n,by simp,Nat.zero_le _,by simp,Same.upd hD,upd_same,h0 D hD⟩,?_⟩
 rintro i m ys H2 ⟨rfl,hi,hy,hsm,hDl,hp⟩
 refine ⟨hDl,?_⟩
 by_cases hlt:i<n
 ·refine .inr ⟨hlt,Nat.lt_of_le_of_lt hy (Nat.lt_of_lt_of_le hlt hz),fun x H3 hyl=>?_⟩
  obtain ⟨e,hx⟩:=hyl
  subst e hx
  exact hs D i ys H3 _ _ hD hlt hsm hDl hp (fun y H5 a b c=>⟨a,n - (i+1),Nat.sub_succ_lt_self _ _ hlt,rfl,hlt,by rw [List.length_append];exact Nat.succ_le_succ hy,b,upd_same,c⟩) (fun H4 a b c=>⟨n - (i+1),Nat.sub_succ_lt_self _ _ hlt,rfl,hlt,Nat.le_succ_of_le hy,a,b,c⟩)
 ·have e:i=n:=Nat.le_antisymm hi (Nat.le_of_not_lt hlt)
  subst e
  exact .inl ⟨Nat.le_refl _,hq D ys H2 hD hsm hDl hp⟩
theorem atI_lastG {lots:List Addr} (hl:lots.length=k+1) (h:lots[k]?=some la):atI (lots.map V.ref) (-1)=some (.ref la):=by
 have e:lots=lots.take k++[la]:=by rw [<- a_T h,List.take_of_length_le (by omega)]
 rw [e,List.map_append]
 exact atI_last _ _
theorem map_getD {ws:List Nat} (h:j<ws.length):(ws.map f).getD j 0=f (ws.getD j 0):=by
 rw [List.getD_eq_getElem?_getD,List.getD_eq_getElem?_getD,List.getElem?_map,List.getElem?_eq_getElem h]
 rfl
theorem getD_in {ws:List Nat} (h:j<ws.length):ws.getD j 0∈ws:=by
 rw [List.getD_eq_getElem?_getD,List.getElem?_eq_getElem h]
 exact List.getElem_mem h
theorem lots_ne {H:Hp} (h1:H r=some (.lst (intsV ns))) (h2:H p=some (.lst (ls.map V.ref))) (h3:ls≠[]):r≠p:=by
 rintro rfl
 rw [h1] at h2
 injection h2 with h2
 injection h2 with h2
 cases ls with
 | nil=>exact h3 rfl
 | cons a l=>
  cases ns with
  | nil=>cases h2
  | cons n ns=>
   rw [List.map_cons,intsV,List.map_cons] at h2
   injection h2 with h4 _
   cases h4
def RInv (H:Hp) (wy mk p:Addr) (W:List (List Nat)) (B:List Bool) (m:Nat) (σ:St) (H':Hp):Prop:=∃(k:Nat) (lots:List Addr) (s4 s5:Option V),m=twins W.length (Rd W B k)/\σ=[some (.ref wy),some (.ref mk),some (.int ((W.length:Nat):Int)),some (.ref p),s4,s5]/\Same H H'/\H' p=some (.lst (lots.map V.ref))/\lots.length=k+1/\LotsAt H' lots W B/\∀i<k,Rd W B (i+1)≠Rd W B i
section
variable {K:PySem.W.Frag} {te:TE} {tt:TT} {σ:St} {H:Hp} {Q:VK} {a c d:Addr} {o:HO} {xs zs:List V}
theorem c_y (htl:∀R:VK,R (.ref a) H->tl σ H R) (ho:o=.lst xs\/o=.tup xs) (hH:H a=some o) (Pv:Addr->Nat->List V->Hp->Prop) (hz:xs.length≤sizeLine)
  (h0:∀D,H D=none->Pv D 0 [] (L2.upd H D (.lst [])))
  (hs:∀(D:Addr) (i:Nat) (x:V) (ys:List V) (H':Hp) (R1:VK) (R2:Hp->Prop),H D=none->xs[i]?=some x->Same H H'->H' D=some (.lst ys)->Pv D i ys H'->
   (∀y H5,H5 D=some (.lst ys)->Same H (L2.upd H5 D (.lst (ys++[y])))->Pv D (i+1) (ys++[y]) (L2.upd H5 D (.lst (ys++[y])))->R1 y H5)->(∀H4,Same H H4->H4 D=some (.lst ys)->Pv D (i+1) ys H4->R2 H4)->
   tt (some x::σ) H' fun b H4=>if b=true then te (some x::σ) H4 R1 else R2 H4)
  (hq:∀D ys H',H D=none->Same H H'->H' D=some (.lst ys)->Pv D xs.length ys H'->Q (.ref D) H'):tComp (iSq tl) tt te σ H Q:=
 htl _ ⟨a,o,xs,rfl,ho,hH,fun J ov=>comp_over ov hH Pv hz h0 hs hq⟩
theorem e_F {n:Nat} (ht:∀R:List V->Hp->Prop,R [.int (n:Int)] H->t σ H R) (hn:n≤1000) (Pv:Addr->Nat->List V->Hp->Prop)
  (h0:∀D,H D=none->Pv D 0 [] (L2.upd H D (.lst [])))
  (hs:∀(D:Addr) (i:Nat) (ys:List V) (H':Hp) (R1:VK) (R2:Hp->Prop),H D=none->i<n->Same H H'->H' D=some (.lst ys)->Pv D i ys H'->
   (∀y H5,H5 D=some (.lst ys)->Same H (L2.upd H5 D (.lst (ys++[y])))->Pv D (i+1) (ys++[y]) (L2.upd H5 D (.lst (ys++[y])))->R1 y H5)->(∀H4,Same H H4->H4 D=some (.lst ys)->Pv D (i+1) ys H4->R2 H4)->
   tt (some (.int (0+(i:Int)))::σ) H' fun b H4=>if b=true then te (some (.int (0+(i:Int)))::σ) H4 R1 else R2 H4)
  (hq:∀D ys H',H D=none->Same H H'->H' D=some (.lst ys)->Pv D n ys H'->Q (.ref D) H'):tComp (iRng1 t) tt te σ H Q:=
 ht _ ⟨(n:Int),rfl,by omega,by omega,comp_range (n:=n) Pv (a_g (by omega)) h0 hs hq⟩
end
section
variable {P:Program} {w:World} {H:Hp} {d q:Addr} {ps:List (Nat×Nat)}
end
theorem c_I {B:List Bool} (h:r<B.length):atI (B.map V.bl) ((r:Nat):Int)=some (.bl (B.getD r false)):=c_g V.bl (by rw [List.getD_eq_getElem?_getD,List.getElem?_eq_getElem h];rfl)
theorem len1 {α:Type} {l:List α} (h:l.length=1):∃a,l=[a]:=match l,h with | [a],_=>⟨a,rfl⟩
theorem len2 {α:Type} {l:List α} (h:l.length=2):∃a b,l=[a,b]:=match l,h with | [a,b],_=>⟨a,b,rfl⟩
theorem len3 {α:Type} {l:List α} (h:l.length=3):∃a b c,l=[a,b,c]:=match l,h with | [a,b,c],_=>⟨a,b,c,rfl⟩
theorem len4 {α:Type} {l:List α} (h:l.length=4):∃a b c d,l=[a,b,c,d]:=match l,h with | [a,b,c,d],_=>⟨a,b,c,d,rfl⟩
end RA
namespace RA
theorem lexd_snoc (L:List Nat) (c d:Nat):∀{a b:List Nat},lexd L a b=true->lexd L (a++[c]) (b++[d])=true
 | [],_,h=>by simp [lexd] at h
 | _::_,[],h=>by simp [lexd] at h
 | x::a,y::b,h=>by
  rw [List.cons_append,List.cons_append,lexd]
  rw [lexd] at h
  by_cases e:x=y
  ·rw [if_pos e] at h ⊢
   exact lexd_snoc L c d h
  ·rw [if_neg e] at h ⊢
   exact h
theorem e_w (L:List Nat) (c:Nat):∀{a b:List Nat},a.length=b.length->lexd L (a++[c]) (b++[c])=true->lexd L a b=true
 | [],[],_,h=>by simp [lexd] at h
 | [],_::_,e,_=>by simp at e
 | _::_,[],e,_=>by simp at e
 | x::a,y::b,e,h=>by
  rw [List.cons_append,List.cons_append,lexd] at h
  rw [lexd]
  by_cases q:x=y
  ·rw [if_pos q] at h ⊢
   exact e_w L c (by simpa using e) h
  ·rw [if_neg q] at h ⊢
   exact h
theorem lexd_same (L:List Nat) {c d:Nat} (hcd:L.idxOf c<L.idxOf d):∀a:List Nat,lexd L (a++[c]) (a++[d])=true
 | []=>by
  rw [List.nil_append,List.nil_append,lexd,if_neg (fun e=>by rw [e] at hcd;omega)]
  exact decide_eq_true hcd
 | x::a=>by
  rw [List.cons_append,List.cons_append,lexd,if_pos rfl]
  exact lexd_same L hcd a
theorem f_f (L:List Nat):∀{a b:List Nat},lexd L a b=true->lexd L b a=false
 | [],_,h=>by simp [lexd] at h
 | _::_,[],h=>by simp [lexd] at h
 | x::a,y::b,h=>by
  rw [lexd] at h ⊢
  by_cases e:x=y
  ·rw [if_pos e] at h
   rw [if_pos e.symm]
   exact f_f L h
  ·rw [if_neg e] at h
   rw [if_neg (Ne.symm e)]
   have:=of_decide_eq_true h
   exact decide_eq_false (by omega)
theorem f_d (L:List Nat):∀{a b c:List Nat},lexd L a b=true->lexd L b c=true->lexd L a c=true
 | [],_,_,h,_=>by simp [lexd] at h
 | _::_,[],_,h,_=>by simp [lexd] at h
 | _::_,_::_,[],_,h=>by simp [lexd] at h
 | x::a,y::b,z::c,h,k=>by
  rw [lexd] at h k ⊢
  by_cases e:x=y
  ·subst e
   rw [if_pos rfl] at h
   by_cases f:x=z
   ·rw [if_pos f] at k ⊢
    exact f_d L h k
   ·rw [if_neg f] at k ⊢
    exact k
  ·rw [if_neg e] at h
   have h1:=of_decide_eq_true h
   by_cases f:y=z
   ·subst f
    rw [if_neg e]
    exact h
   ·rw [if_neg f] at k
    have k1:=of_decide_eq_true k
    rw [if_neg (fun g=>by rw [g] at h1;omega)]
    exact decide_eq_true (by omega)
theorem f_e {L:List Nat}:∀{a b:List Nat},a.length=b.length->(∀c∈a,c∈L)->(∀c∈b,c∈L)->lexd L a b=true\/a=b\/lexd L b a=true
 | [],[],_,_,_=>.inr (.inl rfl)
 | [],_::_,e,_,_=>by simp at e
 | _::_,[],e,_,_=>by simp at e
 | x::a,y::b,e,ha,hb=>by
  rw [lexd,lexd]
  by_cases q:x=y
  ·subst q
   rw [if_pos rfl,if_pos rfl]
   rcases f_e (a:=a) (b:=b) (by simpa using e) (fun c hc=>ha c (by simp [hc])) (fun c hc=>hb c (by simp [hc])) with h | h | h
   ·exact .inl h
   ·exact .inr (.inl (by rw [h]))
   ·exact .inr (.inr h)
  ·rw [if_neg q,if_neg (Ne.symm q)]
   rcases Nat.lt_trichotomy (L.idxOf x) (L.idxOf y) with h | h | h
   ·exact .inl (decide_eq_true h)
   ·exact absurd (idx_inj (ha x (by simp)) h) q
   ·exact .inr (.inr (decide_eq_true h))
section
variable {L a b c:List Nat}
theorem d_b (h:a.length<b.length):ear L a b=true:=by
 unfold ear
 rw [if_pos (by omega)]
 exact decide_eq_true h
theorem c_z (h:a.length=b.length):ear L a b=lexd L a b:=by
 unfold ear
 rw [if_neg (by simpa using h)]
theorem f_j (h:ear L a b=true):a.length≤b.length:=by
 by_cases e:a.length=b.length
 ·omega
 ·unfold ear at h
  rw [if_pos e] at h
  have:=of_decide_eq_true h
  omega
theorem ear_snoc (x y:Nat) (h:ear L a b=true):ear L (a++[x]) (b++[y])=true:=by
 have hl:=f_j h
 by_cases e:a.length=b.length
 ·rw [c_z (by simp [e])]
  rw [c_z e] at h
  exact lexd_snoc L x y h
 ·exact d_b (by simp;omega)
theorem ear_same (h:L.idxOf x<L.idxOf y):ear L (a++[x]) (a++[y])=true:=by
 rw [c_z (by simp)]
 exact lexd_same L h a
theorem ear_asymm (h:ear L a b=true):ear L b a=false:=by
 have hl:=f_j h
 by_cases e:a.length=b.length
 ·rw [c_z e] at h
  rw [c_z e.symm]
  exact f_f L h
 ·unfold ear
  rw [if_pos (Ne.symm e)]
  exact decide_eq_false (by omega)
theorem ear_trans (h:ear L a b=true) (k:ear L b c=true):ear L a c=true:=by
 have h1:=f_j h
 have h2:=f_j k
 by_cases e:a.length=c.length
 ·rw [c_z (by omega)] at h k
  rw [c_z e]
  exact f_d L h k
 ·exact d_b (by omega)
theorem ear_nil:ear L a []=false:=by
 unfold ear
 by_cases e:a.length=([]:List Nat).length
 ·rw [if_neg (by simpa using e)]
  cases a <;> simp [lexd]
 ·rw [if_pos e]
  simp
theorem ear_total (ha:∀x∈a,x∈L) (hb:∀x∈b,x∈L):ear L a b=true\/a=b\/ear L b a=true:=by
 by_cases e:a.length=b.length
 ·rw [c_z e,c_z e.symm]
  exact f_e e ha hb
 ·by_cases h:a.length<b.length
  ·exact .inl (d_b h)
  ·exact .inr (.inr (d_b (by omega)))
theorem ear_le_trans (ha:∀x∈a,x∈L) (hb:∀x∈b,x∈L) (h:ear L b a=false) (k:ear L c b=false):ear L c a=false:=by
 cases q:ear L c a with
 | false=>rfl
 | true=>
  rcases ear_total ha hb with t | t | t
  ·rw [ear_trans q t] at k
   cases k
  ·rw [<- t,q] at k
   cases k
  ·rw [t] at h
   cases h
theorem ear_le_snoc (x:Nat) (h:ear L b a=false):ear L (b++[x]) (a++[x])=false:=by
 cases q:ear L (b++[x]) (a++[x]) with
 | false=>rfl
 | true=>
  have hl:=f_j q
  by_cases e:b.length=a.length
  ·rw [c_z (by simp [e])] at q
   rw [c_z e,e_w L x e q] at h
   cases h
  ·rw [d_b (by simp at hl;omega)] at h
   cases h
end
section
variable {κ:Type} [DecidableEq κ]
def runG (g:κ->Nat->κ) (L:List Nat) (s:κ) (w:List Nat):κ:=w.foldl (fun t c=>g t (L.idxOf c)) s
theorem e_f (g:κ->Nat->κ) (L:List Nat) (s:κ) (w:List Nat) (c:Nat):runG g L s (w++[c])=g (runG g L s w) (L.idxOf c):=by
 unfold runG
 rw [List.foldl_append]
 rfl
structure Bf (g:κ->Nat->κ) (L:List Nat) (s:κ) (ts:List κ) (ws:List (List Nat)) (n k:Nat):Prop where
 len:ts.length=ws.length
 nd:ts.Nodup
 t0:ts[0]?=some s
 w0:ws[0]?=some []
 srt:∀(i j:Nat) (a b:List Nat),i<j->ws[i]?=some a->ws[j]?=some b->ear L a b=true
 lead:∀(i:Nat) (t:κ) (a:List Nat),ts[i]?=some t->ws[i]?=some a->(∀c∈a,c∈L)/\runG g L s a=t
 par:∀(j:Nat) (b:List Nat),ws[j]?=some b->b=[]\/∃(p q:Nat) (a:List Nat),ws[p]?=some a/\q<L.length/\b=a++[L.getD q 0]/\(p<n\/(p=n/\q<k))
 fin:∀(r q:Nat) (t:κ) (a:List Nat),(r<n\/(r=n/\q<k))->q<L.length->ts[r]?=some t->ws[r]?=some a->∃(j:Nat) (b:List Nat),ts[j]?=some (g t q)/\ws[j]?=some b/\ear L (a++[L.getD q 0]) b=false
variable {g:κ->Nat->κ} {L:List Nat} {s:κ} {ts:List κ} {ws:List (List Nat)} {n k:Nat}
theorem Bf.start (g:κ->Nat->κ) (L:List Nat) (s:κ):Bf g L s [s] [[]] 0 0 where
 len:=rfl
 nd:=by simp
 t0:=rfl
 w0:=rfl
 srt:=fun i j a b hij ha hb=>by
  have:=(List.getElem?_eq_some_iff.mp hb).1
  simp at this
  omega
 lead:=fun i t a ht ha=>by
  match i,ht,ha with
  | 0,ht,ha=>cases ht;cases ha;exact ⟨fun c hc=>by simp at hc,rfl⟩
  | i+1,ht,_=>simp at ht
 par:=fun j b hb=>by
  match j,hb with
  | 0,hb=>cases hb;exact .inl rfl
  | j+1,hb=>simp at hb
 fin:=fun r q t a h=>by omega
theorem Bf.behind (h:Bf g L s ts ws n k) (nd:L.Nodup) {a:List Nat} (ha:ws[n]?=some a) (hk:k<L.length) {j:Nat} {b:List Nat} (hb:ws[j]?=some b):ear L b (a++[L.getD k 0])=true:=by
 rcases h.par j b hb with rfl | ⟨p,q,a',hp,hq,rfl,lt⟩
 ·exact d_b (by simp)
 ·rcases lt with lt | ⟨rfl,lt⟩
  ·exact ear_snoc _ _ (h.srt p n a' a lt hp ha)
  ·rw [ha] at hp
   cases hp
   refine ear_same ?_
   have e1:L.idxOf (L.getD q 0)=q:=by rw [List.getD_eq_getElem?_getD,List.getElem?_eq_getElem hq];exact idx_get nd hq
   have e2:L.idxOf (L.getD k 0)=k:=by rw [List.getD_eq_getElem?_getD,List.getElem?_eq_getElem hk];exact idx_get nd hk
   rw [e1,e2]
   exact lt
theorem lt_step (h:r<n\/(r=n/\q<k+1)):(r<n\/(r=n/\q<k))\/(r=n/\q=k):=by omega
theorem Bf.old (h:Bf g L s ts ws n k) (nd:L.Nodup) {t:κ} {a:List Nat} (ht:ts[n]?=some t) (ha:ws[n]?=some a) (hk:k<L.length) (hm:g t k∈ts):Bf g L s ts ws n (k+1):=
 { h with
  par:=fun j b hb=>by
   rcases h.par j b hb with e | ⟨p,q,a',h1,h2,h3,h4⟩
   ·exact .inl e
   ·exact .inr ⟨p,q,a',h1,h2,h3,by omega⟩
  fin:=fun r q t' a' hr hq ht' ha'=>by
   rcases lt_step hr with hr | ⟨rfl,rfl⟩
   ·exact h.fin r q t' a' hr hq ht' ha'
   ·rw [ht] at ht'
    rw [ha] at ha'
    cases ht'
    cases ha'
    obtain ⟨j,hj⟩:=List.mem_iff_getElem?.mp hm
    have hl:j<ws.length:=by rw [<- h.len];exact (List.getElem?_eq_some_iff.mp hj).1
    exact ⟨j,ws[j],hj,List.getElem?_eq_getElem hl,ear_asymm (h.behind nd ha hk (List.getElem?_eq_getElem hl))⟩ }
theorem Bf.new (h:Bf g L s ts ws n k) (nd:L.Nodup) {t:κ} {a:List Nat} (ht:ts[n]?=some t) (ha:ws[n]?=some a) (hk:k<L.length) (hm:g t k∉ts):Bf g L s (ts++[g t k]) (ws++[a++[L.getD k 0]]) n (k+1):=by
 have gk:L.getD k 0=L[k]:=by rw [List.getD_eq_getElem?_getD,List.getElem?_eq_getElem hk];rfl
 have up:∀{α:Type} {l:List α} {x y:α} {i:Nat},l[i]?=some y->(l++[x])[i]?=some y:=fun {α l x y i} e=>by
  rw [List.getElem?_append_left (List.getElem?_eq_some_iff.mp e).1]
  exact e
 have split:∀{α:Type} {l:List α} {x y:α} {i:Nat},(l++[x])[i]?=some y->l[i]?=some y\/(i=l.length/\y=x):=fun {α l x y i} e=>by
  by_cases hi:i<l.length
  ·rw [List.getElem?_append_left hi] at e
   exact .inl e
  ·rw [List.getElem?_append_right (by omega)] at e
   have:i - l.length=0:=by
    have:=(List.getElem?_eq_some_iff.mp e).1
    simp at this
    omega
   rw [this] at e
   exact .inr ⟨by omega,(Option.some.inj e).symm⟩
 have last:(ts++[g t k])[ts.length]?=some (g t k):=by rw [List.getElem?_append_right (Nat.le_refl _),Nat.sub_self];rfl
 have lastw:(ws++[a++[L.getD k 0]])[ws.length]?=some (a++[L.getD k 0]):=by rw [List.getElem?_append_right (Nat.le_refl _),Nat.sub_self];rfl
 obtain ⟨hin,hrun⟩:=h.lead n t a ht ha
 refine ⟨by simp [h.len],?_,up h.t0,up h.w0,fun i j x y hij hx hy=>?_,fun i t' x ht' hx=>?_,fun j b hb=>?_,fun r q t' x hr hq ht' hx=>?_⟩
 ·rw [List.nodup_append]
  exact ⟨h.nd,by simp,fun x hx y hy e=>hm (by rw [List.mem_singleton.mp hy] at e;rw [<- e];exact hx)⟩
 ·rcases split hy with hy | ⟨rfl,rfl⟩
  ·rcases split hx with hx | ⟨rfl,rfl⟩
   ·exact h.srt i j x y hij hx hy
   ·have:=(List.getElem?_eq_some_iff.mp hy).1
    omega
  ·rcases split hx with hx | ⟨rfl,rfl⟩
   ·exact h.behind nd ha hk hx
   ·omega
 ·rcases split ht' with ht' | ⟨rfl,rfl⟩
  ·rcases split hx with hx | ⟨rfl,rfl⟩
   ·exact h.lead i t' x ht' hx
   ·have:=(List.getElem?_eq_some_iff.mp ht').1
    rw [h.len] at this
    omega
  ·rcases split hx with hx | ⟨_,rfl⟩
   ·have:=(List.getElem?_eq_some_iff.mp hx).1
    rw [h.len] at this
    omega
   ·refine ⟨fun c hc=>?_,?_⟩
    ·rcases List.mem_append.mp hc with hc | hc
     ·exact hin c hc
     ·rw [List.mem_singleton.mp hc,gk]
      exact List.getElem_mem hk
    ·rw [e_f,hrun,gk,idx_get nd hk]
 ·rcases split hb with hb | ⟨rfl,rfl⟩
  ·rcases h.par j b hb with e | ⟨p,q,a',h1,h2,h3,h4⟩
   ·exact .inl e
   ·exact .inr ⟨p,q,a',up h1,h2,h3,by omega⟩
  ·exact .inr ⟨n,k,a,up ha,hk,rfl,.inr ⟨rfl,Nat.lt_succ_self k⟩⟩
 ·have hrn:r≤n:=by omega
  have hn:=(List.getElem?_eq_some_iff.mp ht).1
  have ht'':ts[r]?=some t':=by rw [List.getElem?_append_left (by omega)] at ht';exact ht'
  have hx':ws[r]?=some x:=by rw [List.getElem?_append_left (by rw [<- h.len];omega)] at hx;exact hx
  rcases lt_step hr with hr | ⟨rfl,rfl⟩
  ·obtain ⟨j,b,e1,e2,e3⟩:=h.fin r q t' x hr hq ht'' hx'
   exact ⟨j,b,up e1,up e2,e3⟩
  ·rw [ht] at ht''
   rw [ha] at hx'
   cases ht''
   cases hx'
   refine ⟨ts.length,_,last,by rw [h.len];exact lastw,?_⟩
   cases q':ear L (a++[L.getD q 0]) (a++[L.getD q 0]) with
   | false=>rfl
   | true=>exact q'.symm.trans (ear_asymm q')
theorem Bf.next (h:Bf g L s ts ws n L.length):Bf g L s ts ws (n+1) 0:=
 { h with
  par:=fun j b hb=>by
   rcases h.par j b hb with e | ⟨p,q,a',h1,h2,h3,h4⟩
   ·exact .inl e
   ·exact .inr ⟨p,q,a',h1,h2,h3,by omega⟩
  fin:=fun r q t a hr hq ht ha=>h.fin r q t a (by omega) hq ht ha }
theorem Bf.told (h:Bf g L s ts ws ts.length 0) (nd:L.Nodup):∀(w:List Nat) (m:Nat),w.length=m->(∀c∈w,c∈L)->∃(j:Nat) (b:List Nat),ts[j]?=some (runG g L s w)/\ws[j]?=some b/\ear L w b=false:=by
 intro w m
 induction m generalizing w with
 | zero=>
  intro hm _
  rw [List.length_eq_zero_iff.mp hm]
  exact ⟨0,[],h.t0,h.w0,ear_nil⟩
 | succ m ih=>
  intro hm hw
  obtain ⟨c,v,rfl⟩:∃c v,w=v++[c]:=⟨w.getLast (by intro z;rw [z] at hm;cases hm),w.dropLast,(List.dropLast_concat_getLast _).symm⟩
  have hv:∀x∈v,x∈L:=fun x hx=>hw x (by simp [hx])
  have hc:c∈L:=hw c (by simp)
  obtain ⟨r,a,e1,e2,e3⟩:=ih v (by simpa using hm) hv
  have hr:=(List.getElem?_eq_some_iff.mp e1).1
  have hi:L.idxOf c<L.length:=List.idxOf_lt_length_of_mem hc
  obtain ⟨j,b,f1,f2,f3⟩:=h.fin r (L.idxOf c) _ a (.inl hr) hi e1 e2
  have gc:L.getD (L.idxOf c) 0=c:=by rw [List.getD_eq_getElem?_getD,List.getElem?_eq_getElem hi];exact List.getElem_idxOf hi
  rw [gc] at f3
  obtain ⟨ha,_⟩:=h.lead r _ a e1 e2
  refine ⟨j,b,by rw [e_f];exact f1,f2,?_⟩
  obtain ⟨hb,_⟩:=h.lead j _ b f1 f2
  refine ear_le_trans (b:=a++[c]) hb (fun x hx=>?_) f3 (ear_le_snoc c e3)
  rcases List.mem_append.mp hx with hx | hx
  ·exact ha x hx
  ·rw [List.mem_singleton.mp hx]
   exact hc
def leftOf (U ts:List κ):Nat:=U.countP fun x=>!decide (x∈ts)
theorem leftOf_lt {U ts:List κ} {x:κ} (hU:x∈U) (hx:x∉ts):leftOf U (ts++[x])<leftOf U ts:=by
 refine e_E (fun z hz h=>?_) ⟨x,hU,?_,?_⟩
 ·simp only [Bool.not_eq_true',decide_eq_false_iff_not] at h ⊢
  exact fun q=>h (List.mem_append_left _ q)
 ·simp only [Bool.not_eq_true',decide_eq_false_iff_not]
  exact hx
 ·simp only [Bool.not_eq_false',decide_eq_true_eq]
  exact List.mem_append_right _ (List.mem_singleton.mpr rfl)
end
end RA
namespace L2
open PySem PySem.Spec PyProof.Rows
structure c_U (N ps fr:List Str) (sc:Scope):Prop where
 kind:sc.kind=.function
 co:sc.isCoroutine=false
 gen:sc.isGenerator=false
 nd:N.Nodup
 pre:N.take ps.length=ps
 suf:N.drop (N.length - fr.length)=fr
 fit:ps.length+fr.length≤N.length
 par:∀x∈ps,sc.names.lookup x=some .local
 nocell:∀y∈sc.names,y.2≠.cell
structure c_r (h:Heap) (clos:List (Str×Addr)) (sc:Scope) (fr:List Str) (fvs:List V):Prop where
 inj:∀y z c,clos.lookup y=some c->clos.lookup z=some c->y=z
 has:∀y∈sc.names,y.2=.free->∃c,clos.lookup y.1=some c
 cell:∀y c,clos.lookup y=some c->∃v,h.IsCell c v
 len:fvs.length=fr.length
 val:∀(i:Nat) (y:Str) (v:V),fr[i]?=some y->fvs[i]?=some v->(sc.names.lookup y=some .free)/\∃c u,clos.lookup y=some c/\h.IsCell c (some u)/\RelV v u
def cxOfC (CX:CXT) (P:Program) (w:World) (K:PySem.W.Frag) (mg:Str->Option Value) (base:Heap) (N:List Str) (qual:Str) (scope:Scope) (f:Addr) (cd:Value) (clos:List (Str×Addr)) (A:Around) (outer:List Env) (s:Shared) (H:Hp) (E:XK):Cx where
 prog:=P
 w:=w
 K:=K
 mg:=mg
 base:=base
 A:=A.deeper (PySem.W.envX qual scope s.heap.objs.size f cd clos)
 N:=N
 s₀:=s
 H₀:=H
 env:=PySem.W.envX qual scope s.heap.objs.size f cd clos
 outer:=outer
 stack:=PySem.W.envX qual scope s.heap.objs.size f cd clos::outer
 ex:=[]
 calm:=true
 fn:=fun _=>false
 pn:=[]
 xe:=fun e s'=>wpAny (model P w) (A.deeper (PySem.W.envX qual scope s.heap.objs.size f cd clos)) (leaving (PySem.W.envX qual scope s.heap.objs.size f cd clos) e) (fun _ s''=>CX outer H s E e s'') (fun e' s''=>CX outer H s E e' s'') s'
def c_d (N:List Str) (vs fvs:List V):St:=vs.map some++(List.replicate (N.length - vs.length - fvs.length) none++fvs.map some)
theorem rev_zip:∀{ps:List Str} {us:List Value} {i:Nat},ps.Nodup->ps[i]?=some x->us[i]?=some v->(ps.zip us).reverse.lookup x=some v:=by
 intro ps us i nd h1 h2
 have hm:(x,v)∈(ps.zip us).reverse:=by
  rw [List.mem_reverse]
  have hz:(ps.zip us)[i]?=some (x,v):=by rw [List.getElem?_zip_eq_some];exact ⟨h1,h2⟩
  exact List.mem_of_getElem? hz
 have uniq:∀v',(x,v')∈(ps.zip us).reverse->v'=v:=fun v' hm'=>by
  rw [List.mem_reverse] at hm'
  obtain ⟨j,hj⟩:=List.mem_iff_getElem?.mp hm'
  rw [List.getElem?_zip_eq_some] at hj
  have e:j=i:=nodup_ix nd hj.1 h1
  subst e
  have:=hj.2
  rw [h2] at this
  exact (Option.some.inj this).symm
 cases e:(ps.zip us).reverse.lookup x with
 | none=>
  have:=List.lookup_eq_none_iff.mp e _ hm
  simp at this
 | some v'=>rw [uniq v' (PySem.mem_of_lookup e)]
section
variable {CX:CXT} {P:Program} {w:World} {K:PySem.W.Frag} {mg:Str->Option Value} {base:Heap} {N ps fr:List Str} {qual:Str} {scope:Scope} {f:Addr} {cd:Value} {clos:List (Str×Addr)} {A:Around} {outer:List Env} {s:Shared} {H:Hp} {E:XK} {us:List Value} {vs fvs:List V}
theorem f_h (S:c_U N ps fr scope) (C:c_r base clos scope fr fvs) (hd:A.handled=none) (e0:Env0 P w K mg base A outer s H) (hl:vs.length=ps.length) (r:Vals vs us)
  (hns:h'.Ns s.heap.objs.size (fun x=>(ps.zip us).reverse.lookup x)) (hsb:Heap.SameBut s.heap.objs.size (s.heap.push { cls:=.type "frame",data:=.dict #[] }) h'):
  Inv (cxOfC CX P w K mg base N qual scope f cd clos A outer s H E) [] (c_d N vs fvs) H { s with heap:=h',toks:=tk }:=by
 have hk:∀b o,s.heap.get? b=some o->h'.get? b=some o:=fun b o e=>hsb.extBut b o (Nat.ne_of_lt (Heap.lt_size e)) (Heap.get?_push_of_some _ e)
 have noA:∀b:Addr,b∉(cxOfC CX P w K mg base N qual scope f cd clos A outer s H E).ex:=fun b z=>absurd (show b∈([]:List Addr) from z) (by simp)
 have cellK:∀c v,base.IsCell c v->h'.IsCell c v:=fun c v ⟨o,ho,hd⟩=>⟨o,hk c o (e0.bs c o ho).1,hd⟩
 have hus:us.length=ps.length:=by rw [<- r.length];exact hl
 have hfit:=S.fit
 have hfl:=C.len
 refine ⟨⟨e0.mod,S.kind,rfl,rfl,Nat.le_refl _,fun y z c h1 h2=>C.inj y z c h1 h2,fun y hy=>?_,fun y c h=>absurd (show false=true from h) Bool.false_ne_true,fun _=>hd,Around.frames_deeper e0.frames,.inr ⟨rfl,rfl⟩,fun b z=>absurd z (noA b),e0.bs,e0.bsz,fun b _ _=>noA b,fun b z=>absurd z (noA b),e0.funs,e0.frf⟩,
  rfl,e0.bare,Un.kept hk,⟨_,hns,fun i y v h1 h2 h3=>?_⟩,fun y c h=>?_,e0.hok.fresh (Nat.le_refl _),fun y c h=>?_,fun p hp=>absurd (show p∈([]:List (Addr×Obj)) from hp) (by simp),e0.hok.kept hk,?_⟩
 ·have hy:scope.names.lookup y=some .cell\/scope.names.lookup y=some .free:=hy
  rcases hy with hy | hy
  ·exact absurd rfl (S.nocell _ (PySem.mem_of_lookup hy))
  ·exact C.has _ (PySem.mem_of_lookup hy) rfl
 ·have h1:N[i]?=some y:=h1
  have hi:i<N.length:=(List.getElem?_eq_some_iff.mp h1).1
  unfold c_d at h2
  by_cases hiv:i<vs.length
  ·have ha:vs[i]?=some v:=by
    rw [List.getElem?_append_left (by simpa using hiv),List.getElem?_map] at h2
    cases e:vs[i]? with
    | none=>rw [e] at h2;cases h2
    | some a=>rw [e] at h2;cases h2;rfl
   obtain ⟨u,hu,rv⟩:=r.get ha
   have hp:ps[i]?=some y:=by
    rw [<- S.pre,List.getElem?_take_of_lt (by omega)];exact h1
   have ndP:ps.Nodup:=by rw [<- S.pre];exact S.nd.sublist (List.take_sublist _ _)
   exact ⟨u,rv,.inl ⟨S.par y (List.mem_of_getElem? hp),rev_zip ndP hp hu⟩⟩
  ·rw [List.getElem?_append_right (by simpa using hiv)] at h2
   rw [List.length_map] at h2
   by_cases hir:i - vs.length<N.length - vs.length - fvs.length
   ·rw [List.getElem?_append_left (by simpa using hir),List.getElem?_replicate,if_pos hir] at h2
    cases h2
   ·rw [List.getElem?_append_right (by simpa using hir),List.length_replicate,List.getElem?_map] at h2
    have ej:i - vs.length - (N.length - vs.length - fvs.length)=i - (N.length - fr.length):=by omega
    rw [ej] at h2
    cases e:fvs[i - (N.length - fr.length)]? with
    | none=>rw [e] at h2;cases h2
    | some a=>
     rw [e] at h2
     cases h2
     have hf:fr[i - (N.length - fr.length)]?=some y:=by
      have q:(N.drop (N.length - fr.length))[i - (N.length - fr.length)]?=some y:=by
       rw [List.getElem?_drop,show N.length - fr.length+(i - (N.length - fr.length))=i by omega]
       exact h1
      rw [S.suf] at q
      exact q
     obtain ⟨k1,c,u,k2,k3,k4⟩:=C.val _ _ _ hf e
     exact ⟨u,k4,.inr ⟨.inr k1,c,k2,cellK c _ k3⟩⟩
 ·obtain ⟨v,z⟩:=C.cell y c h
  exact ⟨v,cellK c v z⟩
 ·obtain ⟨v,o,ho,_⟩:=C.cell y c h
  exact (e0.bs c o ho).2
 ·unfold c_d
  show _=N.length
  simp only [List.length_append,List.length_map,List.length_replicate]
  omega
theorem fn_ofC (ho:base.get? f=some o) (hd:o.data=.func (PySem.W.fnX name qual params body scope clos .none .none doc pm none (.ref c') ctv))
  (hcd:base.CodeRec (.ref c') qual) (S:c_U N ps fr scope) (C:c_r base clos scope fr fvs) (len:∀vs H Q E,sp vs H Q E->vs.length=ps.length)
  (hbody:∀(A:Around) (outer:List Env) (s:Shared) (H:Hp) (vs:List V) (Q:VK) (E:XK),Room k (A.deeper (PySem.W.envX qual scope s.heap.objs.size f (.ref c') clos))->sp vs H Q E->
   ∃t,PSs (cxOfC CX0 P w K mg base N qual scope f (.ref c') clos A outer s H E).nox body t/\t { nx:=fun _ H'=>Q .non H',rt:=Q } (c_d N vs fvs) H):
  FnOk P w K mg base CX0 (k+1) f (PySem.W.fnX name qual params body scope clos .none .none doc pm none (.ref c') ctv) ps sp:=by
 refine ⟨len,fun A outer s H args us vs Q E hr e0 hb r hsp=>?_⟩
 have hl:=len _ _ _ _ hsp
 have lim:s.heap.NoLimit:=e0.mod.nolimit.keeps fun b o e=>(e0.bs b o e).1
 have hus:us.length=ps.length:=by rw [<- r.length];exact hl
 have hkind:∀y∈ps.zip us,scope.names.lookup y.1=some .local:=fun ⟨n,v⟩ hy=>S.par n (List.of_mem_zip hy).1
 have hcd':s.heap.CodeRec (.ref c') qual:=by
  obtain ⟨c,oc,ws,t,e1,e2,e3,e4⟩:=hcd
  exact ⟨c,oc,ws,t,e1,(e0.bs c oc e2).1,e3,e4⟩
 refine codeAny_call_function hr.depth (e0.bs f o ho).1 hd S.co S.gen rfl hcd' (hb _ _ _ _ ?_)
 refine wpAny_newFunctionEnv (closure:=clos) (around:=none) S.nocell hkind (fun h' hns hsb=>?_) S.kind
 have hkp:∀b o,s.heap.get? b=some o->h'.get? b=some o:=fun b o e=>hsb.extBut b o (Nat.ne_of_lt (Heap.lt_size e)) (Heap.get?_push_of_some _ e)
 refine ⟨lim.keeps hkp,codeAny_func ?_⟩
 obtain ⟨t,ht,hq⟩:=hbody A outer s H vs Q E (hr.deeper _) hsp
 have I:Inv (cxOfC CX0 P w K mg base N qual scope f (.ref c') clos A outer s H E) [] (c_d N vs fvs) H { s with heap:=h',toks:=s.toks+(ps.zip us).length }:=f_h S C hr.hd e0 hl r hns hsb
 refine wpAny_mono (ht.nox [] _ (c_d N vs fvs) H _ I hq) (fun fl s' hs=>?_) fun e s' hs=>hs
 have fin:∀{σ':St} {H':Hp} {v:V} {u:Value},Inv (cxOfC CX0 P w K mg base N qual scope f (.ref c') clos A outer s H E) [] σ' H' s'->RelV v u->Q v H'->CE outer P w H s Q u s':=
  fun {σ' H' v u} J rv q=>⟨v,H',J.os,J.bare,J.base,J.hok,rv,q⟩
 cases fl with
 | ret u=>
  obtain ⟨v,σ',H',J,rv,q⟩:=hs
  exact fin J rv q
 | next=>
  obtain ⟨σ',H',J,q⟩:=hs
  exact fin (v:=V.non) (u:=Value.none) J rfl q
 | brk=>
  obtain ⟨_,_,_,q⟩:=hs
  exact False.elim q
 | cont=>
  obtain ⟨_,_,_,q⟩:=hs
  exact False.elim q
end
def tCallL (i:Nat) (f:Addr) (sp:Sp) (t:TA):TE:=fun σ H Q=>σ[i]?=some (some (.ref f))/\t σ H fun vs H1=>sp vs H1 Q E0
theorem pe_callL {X:Cx} {k i:Nat} {f:Addr} {fd fd':FuncData} {oc:Value} {p pos:Pos} (F:FnOk X.prog X.w X.K X.mg X.base CX0 k f fd ps sp) (hr:Room k X.A) (ho:X.base.get? f=some ⟨oc,od,.func fd',sl⟩)
  (hb:d_e X.K fd ps []) (hv:PE X (.Name x p) (tVar i)) (ha:PA X (e::es) t) (he:starEach (e::es) X.env=(false,eval e X.env)::starEach es X.env:=by rfl) (hpl:(backTo pos (starEach es X.env)).any (·.1)=false:=by rfl):
  PE X (.Call (.Name x p) (e::es) [] pos) (tCallL i f sp t):=by
 intro pins s σ H Q I h
 refine wpAny_Call_Name_kw (thn (hv pins s σ H (fun v H1=>v=.ref f/\H1=H) I ⟨_,h.1,rfl,rfl⟩) fun fv s1 hq=>?_)
 obtain ⟨v,H1,I1,rv,rfl,rfl⟩:=hq
 obtain rfl:fv=.ref f:=rv
 refine PySem.W.callWith_F ⟨oc,od,fd',sl,(I1.bs f _ ho).1⟩ (thn (ha pos pins s1 σ H1 _ I1 h.2) fun us s2 ⟨vs,H2,I2,r,q⟩=>⟨⟨oc,od,fd',sl,(I2.bs f _ ho).1⟩,?_⟩) he hpl
 exact run_fn F hr hb .nil pass0 I2 r (by rw [List.append_nil];exact q)
theorem among_app (q:Pos) (r:List Value) (l:List Value) (h:TriplesOk l):codeAmong q (l++r)=(codeAmong q l).or (codeAmong q r):=by
 induction l using TriplesOk.induct with
 | case1=>simp [codeAmong]
 | case2 a t b u c rest ih=>
  have h:TriplesOk rest:=h
  simp only [List.cons_append,codeAmong]
  split
  ·rfl
  ·exact ih h
 | case3 l h1 h2=>
  exfalso
  unfold TriplesOk at h
  split at h
  ·exact h1 rfl
  ·exact h2 _ _ _ _ _ _ rfl
  ·exact h
theorem d_X (x y:Int) (t u:Tok) (c:Value) (l:List Value) (h:TriplesOk l):TriplesOk (l++[.int x t,.int y u,c]):=by
 induction l using TriplesOk.induct with
 | case1=>exact True.intro
 | case2 a t b u c rest ih=>exact ih h
 | case3 l h1 h2=>
  exfalso
  unfold TriplesOk at h
  split at h
  ·exact h1 rfl
  ·exact h2 _ _ _ _ _ _ rfl
  ·exact h
def codeHO (c:Addr) (q:Str):HO:=.ext fun h=>h.CodeRec (.ref c) q
def fnHO (f:Addr) (name qual:Str) (params:Arguments) (body:List Stmt) (scope:Scope) (clos:List (Str×Addr)) (c:Addr):HO:=.ext fun h=>∃doc pm ctv,h.get? f=some (PySem.W.fnMade name qual params body scope clos doc pm c ctv)
def b_X (H:Hp) (P0:Addr) (sites:List (Pos×Str)):Prop:=
 ∃ps,H P0=some (.tbl ps)/\TriplesOk ps.toList/\∀q∈sites,codeAmong q.1 ps.toList=none\/∃c,codeAmong q.1 ps.toList=some (.ref c)/\H c=some (codeHO c q.2)
def c_L (P0:Addr) (H H':Hp):Prop:=∀b o,b≠P0->H b=some o->H' b=some o
structure g_b (h:Heap) (mg:Str->Option Value):Prop where
 ex:∃bm o,mg "__builtins__"=some (.ref bm)/\bm≠builtinsNs/\bm≠mainGlobals/\h.get? bm=some o/\o.cls=.type "module"/\o.dict=some builtinsNs/\o.data=.plain
def tNest (X:Cx) (P0:Addr) (sites:List (Pos×Str)) (i:Nat) (name qual:Str) (params:Arguments) (body:List Stmt) (sc:Scope):TS:=fun D σ H=>b_X H P0 sites/\
 ∀(clos:List (Str×Addr)) (f c:Addr) (H1:Hp),(∀y a,clos.lookup y=some a->X.env.cells.lookup y=some a)->(∀y∈sc.names,y.2=.free->∃a,clos.lookup y.1=some a)->H f=none->f≠c->c_L P0 H H1->b_X H1 P0 sites->
  H1 c=some (codeHO c qual)->H1 f=some (fnHO f name qual params body sc clos c)->D.nx (σ.set i (some (.ref f))) H1
theorem codeHO_ok (x:h.CodeRec (.ref c) q):b_b P w H h c (codeHO c q):=by
 obtain ⟨c2,oc,vs,t,e,e1,e2,e3⟩:=id x
 cases e
 refine ⟨x,⟨oc,e1⟩,fun h1 h2 y k=>?_⟩
 obtain ⟨c2,oc,vs,t,e,e1,e2,e3⟩:=y
 cases e
 exact ⟨_,oc,vs,t,rfl,k _ e1,e2,e3⟩
theorem fnHO_ok {P:Program} {w:World}
  (x:h.get? f=some (PySem.W.fnMade name qual params body scope clos doc pm c ctv)):b_b P w H h f (fnHO f name qual params body scope clos c):=
 ⟨⟨doc,pm,ctv,x⟩,⟨_,x⟩,fun _ _ ⟨d,p,v,e⟩ k=>⟨d,p,v,k _ e⟩⟩
theorem ps_nest {X:Cx} {params:Arguments} {body:List Stmt} {sc:Scope} (hN:X.N.Nodup) (hi:X.N[i]?=some name) (hx:Loc X.env.scope name) (hcode:X.env.code=.ref c) (hC:PySem.W.CodeHd X.base c P0) (hB:g_b X.base X.mg)
  (hsite:(pos,qual)∈sites) (hsites:∀q∈sites,q.1.line=pos.line->q.1.col=pos.col->q.2=qual) (hq:qualnameIn X.env name name=qual:=by rfl) (hd0:params.defaults=[]:=by rfl) (hk0:params.kw_defaults=[]:=by rfl) (ha:annTrees params none X.env=[]:=by rfl)
  (hfree:(sc.names.all fun y=>y.2 !=.free || X.env.scope.names.lookup y.1==some .cell)=true:=by rfl) (hf:X.fn name=true\/X.env.scope.names.lookup name=some .local:=by first | exact .inl rfl | exact .inr rfl):
  PS X (.FunctionDef name params body [] none [] sc none name pos) (tNest X P0 sites i name qual params body sc):=by
 intro pins s σ H D I h
 obtain ⟨⟨ps,hP,ht,hall⟩,h⟩:=h
 have hfr:∀y∈sc.names,y.2=.free->X.env.kindOf y.1=some .cell:=fun y hy e=>by
  have q:=List.all_eq_true.mp hfree y hy
  rw [e] at q
  simpa [Env.kindOf] using q
 obtain ⟨cl,hclos,hsub,hhas⟩:=b_P (env:=X.env) (sc:=sc) fun y hy e=>I.ok.has y.1 (.inl (hfr y hy e))
 have hPh:s.heap.get? P0=some (PySem.W.tabObj ps):=I.hok P0 _ hP
 have hPlt:P0<s.heap.objs.size:=I.hok.lt hP
 have hbP:s.heap.BuiltinsAt X.mg P0:=by
  obtain ⟨bm,o,e1,e2,e3,e4,e5,e6,e7⟩:=hB.ex
  refine ⟨bm,o,e1,e2,e3,fun z=>?_,(I.bs bm o e4).1,e5,e6,e7⟩
  have n:=(I.bs bm o e4).2
  rw [z,hP] at n
  cases n
 have hgs:s.heap.Ns mainGlobals X.mg:=I.mod.glob.keeps I.bk
 have hgP:mainGlobals≠P0:=fun z=>by
  obtain ⟨o,es,ep,e,hd,_⟩:=hgs
  rw [z,hPh] at e
  cases e
  cases hd
 have hC':=hC.keeps I.bk
 refine PySem.W.nestDef_K hd0 hk0 ha ?_
 rw [hq]
 have fin:∀{f:Addr} {s1:Shared} {H1:Hp},Inv X pins σ H1 s1->D.nx (σ.set i (some (.ref f))) H1->wpAny (model X.prog X.w) X.A (storeName X.env name (.ref f)) (fun _ s''=>SP X pins D .next s'') X.xe s1:=fun {f s1 H1} I1 q=>
  store_ok I1 hN hi hx (v:=.ref f) rfl (fun s' I'=>⟨_,H1,I',q⟩) hf
 have old:∀{b:Addr} {u:HO},H b=some u->b<s.heap.objs.size:=fun e=>I.hok.lt e
 rcases hall _ hsite with hnf | ⟨c0,hhit,hc0⟩
 ·refine PySem.W.makeFunction_K (mg:=X.mg) hclos I.ok.glob hgs hcode hC' hPh ht hnf hgP hbP fun c' ctv doc h' tk hxx hge hlt hrec htb=>?_
  have hPc:P0≠c':=Nat.ne_of_lt (Nat.lt_of_lt_of_le hPlt hge)
  have hszh:s.heap.objs.size<h'.objs.size:=Nat.lt_of_le_of_lt hge hlt
  have hPf:P0≠h'.objs.size:=Nat.ne_of_lt (Nat.lt_trans hPlt hszh)
  have hcf:c'≠h'.objs.size:=Nat.ne_of_lt hlt
  generalize hfe:h'.objs.size=f at hPf hcf hszh ⊢
  have kp:∀b o,b≠P0->s.heap.get? b=some o->(h'.push (PySem.W.fnMade name qual params body sc cl doc ((X.mg "__name__").getD .none) c' ctv)).get? b=some o:=fun b o hb e=>Heap.get?_push_of_some _ (hxx b o hb e)
  have hof:(h'.push (PySem.W.fnMade name qual params body sc cl doc ((X.mg "__name__").getD .none) c' ctv)).get? f=some (PySem.W.fnMade name qual params body sc cl doc ((X.mg "__name__").getD .none) c' ctv):=by rw [<- hfe];exact Heap.get?_push_size _ rfl
  have hoc:(h'.push (PySem.W.fnMade name qual params body sc cl doc ((X.mg "__name__").getD .none) c' ctv)).CodeRec (.ref c') qual:=by
   obtain ⟨c2,oc,vs,t,e,e1,e2,e3⟩:=hrec
   exact ⟨c2,oc,vs,t,e,Heap.get?_push_of_some _ e1,e2,e3⟩
  have hoP:(h'.push (PySem.W.fnMade name qual params body sc cl doc ((X.mg "__name__").getD .none) c' ctv)).get? P0=some (PySem.W.tabObj (ps++#[rawInt pos.line,rawInt pos.col,.ref c'])):=Heap.get?_push_of_some _ htb
  generalize h'.push (PySem.W.fnMade name qual params body sc cl doc ((X.mg "__name__").getD .none) c' ctv)=hh at kp hof hoc hoP ⊢
  generalize hps:ps++#[rawInt pos.line,rawInt pos.col,.ref c']=ps' at hoP
  have nlt:∀{b:Addr},b<s.heap.objs.size->b≠c'/\b≠f:=fun hb=>⟨Nat.ne_of_lt (Nat.lt_of_lt_of_le hb hge),Nat.ne_of_lt (Nat.lt_trans hb hszh)⟩
  have get1:∀{b:Addr},b<s.heap.objs.size->b≠P0->upd (upd (upd H P0 (.tbl ps')) c' (codeHO c' qual)) f (fnHO f name qual params body sc cl c') b=H b:=fun hb hbP=>by
   rw [upd_ne (nlt hb).2,upd_ne (nlt hb).1,upd_ne hbP]
  have getO:∀{b:Addr},b≠P0->b≠c'->b≠f->upd (upd (upd H P0 (.tbl ps')) c' (codeHO c' qual)) f (fnHO f name qual params body sc cl c') b=H b:=fun h1 h2 h3=>by
   rw [upd_ne h3,upd_ne h2,upd_ne h1]
  have getP:upd (upd (upd H P0 (.tbl ps')) c' (codeHO c' qual)) f (fnHO f name qual params body sc cl c') P0=some (.tbl ps'):=by rw [upd_ne hPf,upd_ne hPc,upd_same]
  have getc:upd (upd (upd H P0 (.tbl ps')) c' (codeHO c' qual)) f (fnHO f name qual params body sc cl c') c'=some (codeHO c' qual):=by rw [upd_ne hcf,upd_same]
  have getf:upd (upd (upd H P0 (.tbl ps')) c' (codeHO c' qual)) f (fnHO f name qual params body sc cl c') f=some (fnHO f name qual params body sc cl c'):=upd_same
  generalize upd (upd (upd H P0 (.tbl ps')) c' (codeHO c' qual)) f (fnHO f name qual params body sc cl c')=H1 at get1 getO getP getc getf
  have nP:∀{b:Addr},H b=none->b≠P0:=fun n z=>by rw [z,hP] at n;cases n
  have keepH:∀{b:Addr} {u:HO},H b=some u->b≠P0->H1 b=some u:=fun e hb=>by rw [get1 (old e) hb];exact e
  have notT:∀{b:Addr} {u:HO},H b=some u->(∀ps,u≠.tbl ps)->H1 b=some u:=fun e hu=>keepH e fun z=>by
   rw [z,hP] at e
   cases e
   exact hu _ rfl
  have un:Un X.fs [] H H1 s.heap hh:=by
   refine ⟨fun b o e n _ _=>kp b o (nP n) e,fun b o e n _ _=>⟨o.slots,kp b o (nP n) e⟩,fun b o e n _=>by rw [get1 (Heap.lt_size e) (nP n)];exact n,fun b o e _=>?_,fun b xs e=>notT e (fun _ z=>nomatch z),fun b o u e=>notT e (fun _ z=>nomatch z),fun b qs e=>?_⟩
   ·by_cases hb:b=P0
    ·rw [hb];exact ⟨_,hoP⟩
    ·exact ⟨o,kp b o hb e⟩
   ·by_cases hb:b=P0
    ·rw [hb,hP] at e
     cases e
     rw [hb]
     exact ⟨_,by rw [getP,hps]⟩
    ·exact ⟨#[],by rw [keepH e hb];simp⟩
  have hok1:HOk X.prog X.w H1 hh:=fun a o e=>by
   by_cases haf:a=f
   ·rw [haf] at e ⊢
    rw [getf] at e
    cases e
    exact fnHO_ok hof
   by_cases hac:a=c'
   ·rw [hac] at e ⊢
    rw [getc] at e
    cases e
    exact codeHO_ok hoc
   by_cases haP:a=P0
   ·rw [haP] at e ⊢
    rw [getP] at e
    cases e
    exact hoP
   rw [getO haP hac haf] at e
   refine (I.hok a o e).stay (fun b u hb q=>kp b u (fun z=>?_) q) (fun b q=>notT q (fun _ z=>nomatch z)) fun b xs q=>notT q (fun _ z=>nomatch z)
   rcases hb with hb | hb
   ·exact haP (hb▸z)
   ·rw [z,hP] at hb;cases hb
  have I1:Inv X pins σ H1 { s with heap:=hh,toks:=tk }:=I.un un hok1
  refine fin I1 (h cl f c' H1 hsub hhas (I.hok.fresh (Nat.le_of_lt hszh)) (Ne.symm hcf) (fun b o hb e=>keepH e hb) ⟨ps',getP,?_,fun q hqs=>?_⟩ getc getf)
  ·rw [<- hps,Array.toList_append]
   exact d_X _ _ _ _ _ _ ht
  ·rw [<- hps,Array.toList_append,among_app _ _ _ ht]
   rcases hall q hqs with hn | ⟨c1,h1,h2⟩
   ·rw [hn,Option.none_or]
    by_cases hsame:q.1.line=pos.line/\q.1.col=pos.col
    ·refine .inr ⟨c',?_,?_⟩
     ·show codeAmong q.1 [rawInt pos.line,rawInt pos.col,.ref c']=_
      simp [codeAmong,rawInt,hsame.1,hsame.2]
     ·rw [hsites q hqs hsame.1 hsame.2]
      exact getc
    ·refine .inl ?_
     show codeAmong q.1 [rawInt pos.line,rawInt pos.col,.ref c']=_
     simp only [codeAmong,rawInt]
     rw [if_neg]
     intro z
     simp at z
     exact hsame ⟨by omega,by omega⟩
   ·rw [h1,Option.some_or]
    exact .inr ⟨c1,rfl,notT h2 (fun _ z=>nomatch z)⟩
 ·refine PySem.W.makeFunction_hit (mg:=X.mg) hclos I.ok.glob hgs hcode hC' hPh ht hhit hbP fun ctv doc h' tk hk hsz=>?_
  have I1:Inv X pins σ (upd H h'.objs.size (fnHO h'.objs.size name qual params body sc cl c0)) { s with heap:=h'.push (PySem.W.fnMade name qual params body sc cl doc ((X.mg "__name__").getD .none) c0 ctv),toks:=tk }:=
   I.laid (fun b u e=>Heap.get?_push_of_some _ (hk b u e)) hsz (fnHO_ok (Heap.get?_push_size _ rfl))
  have hfn:H h'.objs.size=none:=I.hok.fresh hsz
  have kH:∀{b:Addr} {u:HO},H b=some u->upd H h'.objs.size (fnHO h'.objs.size name qual params body sc cl c0) b=some u:=fun e=>by rw [upd_ne (ne_of_none e hfn)];exact e
  refine fin I1 (h cl _ c0 _ hsub hhas hfn (Ne.symm (ne_of_none hc0 hfn)) (fun b o _ e=>kH e) ⟨ps,kH hP,ht,fun q hqs=>?_⟩ (kH hc0) upd_same)
  rcases hall q hqs with hn | ⟨c1,h1,h2⟩
  ·exact .inl hn
  ·exact .inr ⟨c1,h1,kH h2⟩
def untr (U:List Addr) (H:Hp):Hp:=fun b=>if b∈U then none else H b
def retr (U:List Addr) (H H':Hp):Hp:=fun b=>if b∈U then H b else H' b
theorem f_n (h:b∈U):untr U H b=none:=if_pos h
theorem a_Z (h:b∉U):untr U H b=H b:=if_neg h
theorem retr_in (h:b∈U):retr U H H' b=H b:=if_pos h
theorem c_j (h:b∉U):retr U H H' b=H' b:=if_neg h
theorem Mod.keeps {K:PySem.W.Frag} (M:Mod K mg h) (k:∀b o,h.get? b=some o->h'.get? b=some o):Mod K mg h':=
 ⟨M.kin.keeps k,M.glob.keeps k,let ⟨mb,a,b⟩:=M.blt;⟨mb,a.keeps k,b⟩,M.nolimit.keeps k⟩
section
variable {P:Program} {w:World} {K:PySem.W.Frag} {mg:Str->Option Value} {base:Heap} {A:Around} {outer:List Env} {s:Shared} {H:Hp} {U:List Addr}
theorem wide_env (e0:Env0 P w K mg base A outer s H) (hU:∀u∈U,∃ φ,H u=some (.ext φ)):
  ∃base',Env0 P w K mg base' A outer s (untr U H)/\(∀b o,base.get? b=some o->base'.get? b=some o)/\∀b o,s.heap.get? b=some o->b∉frs outer->untr U H b=none->base'.get? b=some o:=by
 have hget:∀b o,s.heap.get? b=some o->b∉frs outer->untr U H b=none->(PySem.W.hideAll s.heap (trk s.heap (untr U H)++frs outer)).get? b=some o:=fun b o e hf hn=>PySem.W.hideAll_get _ e fun hm=>by
  rcases List.mem_append.mp hm with z | z
  ·have q:((untr U H) b).isSome=true:=(List.mem_filter.mp z).2
   rw [hn] at q
   cases q
  ·exact hf z
 have notU:∀b,H b=none->b∉U:=fun b n z=>by
  obtain ⟨φ,e⟩:=hU b z
  rw [n] at e
  cases e
 have sub:∀b o,base.get? b=some o->(PySem.W.hideAll s.heap (trk s.heap (untr U H)++frs outer)).get? b=some o:=fun b o e=>by
  obtain ⟨e1,n⟩:=e0.bs b o e
  refine hget b o e1 (fun z=>?_) (by rw [a_Z (notU b n)];exact n)
  have:=(e0.funs.mem z).1
  rw [e] at this
  cases this
 have keepO:∀{b:Addr} {u:HO},H b=some u->(∀ φ,u≠.ext φ)->untr U H b=some u:=fun {b u} e hu=>by
  rw [a_Z fun z=>?_]
  ·exact e
  ·obtain ⟨φ,e'⟩:=hU b z
   rw [e] at e'
   exact hu φ (Option.some.inj e')
 refine ⟨PySem.W.hideAll s.heap (trk s.heap (untr U H)++frs outer),⟨e0.frames,e0.mod.keeps sub,fun b o e=>?_,Nat.le_of_eq (PySem.W.hideAll_size _ _),f_i e0.funs fun b hb=>List.mem_append_right _ hb,fun b hb=>?_,fun a o e=>?_,e0.bare⟩,sub,hget⟩
 ·have e1:=PySem.W.of_hideAll _ e
  refine ⟨e1,?_⟩
  cases q:untr U H b with
  | none=>rfl
  | some u=>
   have hm:b∈trk s.heap (untr U H)++frs outer:=List.mem_append_left _ (List.mem_filter.mpr ⟨List.mem_range.mpr (Heap.lt_size e1),by simp [q]⟩)
   rw [PySem.W.hideAll_none _ hm] at e
   cases e
 ·rw [a_Z (notU b (e0.frf b hb))]
  exact e0.frf b hb
 ·have ha:a∉U:=fun z=>by rw [f_n z] at e;cases e
  rw [a_Z ha] at e
  exact (e0.hok a o e).stay (fun _ _ _ q=>q) (fun b q=>keepO q (fun _ z=>nomatch z)) fun b xs q=>keepO q (fun _ z=>nomatch z)
theorem wide_back (e0:Env0 P w K mg base A outer s H) (hU:∀u∈U,∃ φ,H u=some (.ext φ)) (h:CE outer P w (untr U H) s (fun v H2=>(∀u∈U,H2 u=none)->Q v (retr U H H2)) u s'):CE outer P w H s Q u s':=by
 obtain ⟨v,H',os,bare,un,hok,r,q⟩:=h
 have notU:∀b,H b=none->b∉U:=fun b n z=>by
  obtain ⟨φ,e⟩:=hU b z
  rw [n] at e
  cases e
 have notF:∀b∈U,b∉frs outer:=fun b hb z=>notU b (e0.frf b z) hb
 have stays:∀b∈U,∃o,s.heap.get? b=some o/\s'.heap.get? b=some o/\H' b=none:=fun b hb=>by
  obtain ⟨φ,e⟩:=hU b hb
  obtain ⟨_,⟨o,ho⟩,_⟩:=e0.hok b _ e
  exact ⟨o,ho,un.keep b o ho (f_n hb) (notF b hb) (by simp),un.free b o ho (f_n hb) (by simp)⟩
 have keepT:∀{b:Addr} {x:HO},H b=some x->(∀ φ,x≠.ext φ)->b∉U:=fun {b x} e hx z=>by
  obtain ⟨φ,e'⟩:=hU b z
  rw [e] at e'
  exact hx φ (Option.some.inj e')
 have keepH:∀{b:Addr} {x:HO},H' b=some x->retr U H H' b=some x:=fun {b x} e=>by
  rw [c_j fun z=>?_]
  ·exact e
  ·obtain ⟨_,_,_,n⟩:=stays b z
   rw [e] at n
   cases n
 refine ⟨v,retr U H H',os,bare,⟨fun b o e n hb hx=>?_,fun b o e n hb hx=>?_,fun b o e n hx=>?_,un.there,fun b xs e=>?_,fun b o x e=>?_,fun b ps e=>?_⟩,fun a o e=>?_,r,q fun b hb=>(stays b hb).choose_spec.2.2⟩
 ·exact un.keep b o e (by rw [a_Z (notU b n)];exact n) hb hx
 ·exact un.slot b o e (by rw [a_Z (notU b n)];exact n) hb hx
 ·rw [c_j (notU b n)]
  exact un.free b o e (by rw [a_Z (notU b n)];exact n) hx
 ·have hb:=keepT e (fun _ z=>nomatch z)
  rw [c_j hb]
  exact un.tups b xs (by rw [a_Z hb];exact e)
 ·have hb:=keepT e (fun _ z=>nomatch z)
  rw [c_j hb]
  exact un.frzs b o x (by rw [a_Z hb];exact e)
 ·have hb:=keepT e (fun _ z=>nomatch z)
  rw [c_j hb]
  exact un.tbls b ps (by rw [a_Z hb];exact e)
 ·by_cases ha:a∈U
  ·rw [retr_in ha] at e
   obtain ⟨φ,e'⟩:=hU a ha
   rw [e'] at e
   cases e
   obtain ⟨o,ho,ho',_⟩:=stays a ha
   obtain ⟨p1,_,p3⟩:=e0.hok a _ e'
   exact ⟨p3 _ _ p1 (fun o2 z=>by rw [ho] at z;cases z;exact ho'),⟨o,ho'⟩,p3⟩
  ·rw [c_j ha] at e
   exact (hok a o e).stay (fun _ _ _ z=>z) (fun b z=>keepH z) fun b xs z=>keepH z
end
structure WideAt (X:Cx) (U:List Addr) (σ:St) (H:Hp) (base':Heap):Prop where
 sub:∀b o,X.base.get? b=some o->base'.get? b=some o
 mod:Mod X.K X.mg base'
 ext:∀u φ,u∈U->H u=some (.ext φ)->φ base'
 inj:∀y z c,X.env.cells.lookup y=some c->X.env.cells.lookup z=some c->y=z
 cell:∀y c,X.env.cells.lookup y=some c->∃v,base'.IsCell c v
 val:∀(i:Nat) (y:Str) (v:V),X.N[i]?=some y->σ[i]?=some (some v)->X.env.scope.names.lookup y=some .cell->∃c u,X.env.cells.lookup y=some c/\base'.IsCell c (some u)/\RelV v u
def tWide (X:Cx) (f:Addr) (fd:FuncData) (ps:List Str) (dvs:List V) (t:TA):TE:=fun σ H Q=>t σ H fun vs H1=>∃U:List Addr,(∀u∈U,∃ φ,H1 u=some (.ext φ))/\∀base':Heap,WideAt X U σ H1 base'->
 ∃(k:Nat) (sp:Sp),Room k X.A/\FnOk X.prog X.w X.K X.mg base' CX0 k f fd ps sp/\sp (vs++dvs) (untr U H1) (fun v H2=>(∀u∈U,H2 u=none)->Q v (retr U H1 H2)) E0
theorem pe_wide {X:Cx} {f:Addr} {p pos:Pos} (hg:Gl X x) (hm:X.mg x=some (.ref f)) (hk:PySem.W.keepIn X.K (.ref f)=true) (hb:d_e X.K fd ps ds) (hd:Vals dvs ds) (ha:PA X (e::es) t)
  (hfn:∀y,X.fn y=true) (hdb:(x==("__debug__":Str))=false:=by decide) (he:starEach (e::es) X.env=(false,eval e X.env)::starEach es X.env:=by rfl) (hpl:(backTo pos (starEach es X.env)).any (·.1)=false:=by rfl):
  PE X (.Call (.Name x p) (e::es) [] pos) (tWide X f fd ps dvs t):=by
 intro pins s σ H Q I h
 refine wpAny_Call_Name_kw (ld_glob I hg hm ?_ hdb)
 refine PySem.W.callWith_K (h₀:=X.base) I.ok.mod.kin hk (thn (ha pos pins s σ H _ I h) fun us s1 ⟨vs,H1,I1,r,q⟩=>⟨I1.kIn,?_⟩) he hpl
 obtain ⟨U,hU,q⟩:=q
 obtain ⟨base',e0,hsub,hget⟩:=wide_env I1.env0 hU
 have cellB:∀y c v,X.env.cells.lookup y=some c->s1.heap.IsCell c v->base'.IsCell c v:=fun y c v hc ⟨o,ho,hdd⟩=>by
  have hn:=I1.freeC y c hc
  refine ⟨o,hget c o ho (fun z=>?_) ?_,hdd⟩
  ·rcases List.mem_cons.mp (I1.stkSub c z) with z | z
   ·exact I1.cne y c hc z
   ·obtain ⟨_,o',ho',_⟩:=I1.ok.funs.mem z
    exact absurd (Heap.lt_size ho') (Nat.not_lt.mpr (I1.ok.cab y c (hfn y) hc))
  ·unfold untr
   split
   ·rfl
   ·exact hn
 have W:WideAt X U σ H1 base':=by
  refine ⟨hsub,e0.mod,fun u φ hu e=>?_,I1.ok.inj,fun y c hc=>?_,fun i y v e1 e2 e3=>?_⟩
  ·obtain ⟨p1,⟨o,ho⟩,p3⟩:=I1.hok u _ e
   refine p3 _ _ p1 fun o2 z=>hget u o2 z (fun y=>?_) (f_n hu)
   rw [I1.stkFree u y] at e
   cases e
  ·obtain ⟨v,z⟩:=I1.cell y c hc
   exact ⟨v,cellB y c v hc z⟩
  ·obtain ⟨m,hn,hl⟩:=I1.loc
   obtain ⟨u,ru,lk⟩:=hl i y v e1 e2 (.inr (.inl e3))
   rcases lk with ⟨k1,_⟩ | ⟨_,c,hc,z⟩
   ·have:X.env.scope.names.lookup y=some .local:=k1
    rw [e3] at this
    cases this
   ·exact ⟨c,u,hc,cellB y c _ hc z,ru⟩
 obtain ⟨k,sp,hr,F,hsp⟩:=q base' W
 have r2:Vals (vs++dvs) (us++ds):=r.append hd
 have hl:(us++ds).length=ps.length:=by rw [<- r2.length];exact F.len _ _ _ _ hsp
 refine wpAny_call (codeAny_mono (F.run X.A X.stack s1 (untr U H1) ⟨us,[]⟩ (us++ds) (vs++dvs) _ E0 hr e0 (hb s1 us I1.kIn hl) r2 hsp) fun r s' hq=>?_)
 cases r with
 | error e=>exact False.elim hq
 | ok fl=>
  cases fl with
  | ret u=>exact I1.after (wide_back I1.env0 hU hq)
  | next=>exact False.elim hq
  | brk=>exact False.elim hq
  | cont=>exact False.elim hq
def a_Y (ts:List Addr) (K:PySem.W.Frag):PySem.W.Frag:=K.filter fun q=>!ts.contains q.1
theorem c_w {ts:List Addr} {a:Addr} (hn:ts.contains a=false):∀{K:PySem.W.Frag},(a_Y ts K).lookup a=K.lookup a
 | []=>rfl
 | (b,x)::r=>by
  unfold a_Y
  rw [List.filter_cons]
  by_cases hb:a=b
  ·subst hb
   rw [if_pos (by simpa using hn),List.lookup_cons,List.lookup_cons]
   simp
  ·have hb':(a==b)=false:=beq_eq_false_iff_ne.mpr hb
   split
   ·rw [List.lookup_cons,List.lookup_cons,hb']
    exact c_w (K:=r) hn
   ·rw [List.lookup_cons,hb']
    exact c_w (K:=r) hn
theorem f_P {ts:List Addr} {a:Addr} {o:Obj}:∀{K:PySem.W.Frag},(a_Y ts K).lookup a=some o->ts.contains a=false
 | [],e=>by cases e
 | (b,x)::r,e=>by
  unfold a_Y at e
  rw [List.filter_cons] at e
  split at e
  ·rename_i hc
   rw [List.lookup_cons] at e
   by_cases hb:a=b
   ·subst hb
    simpa using hc
   ·rw [beq_eq_false_iff_ne.mpr hb] at e
    exact f_P (K:=r) e
  ·exact f_P (K:=r) e
theorem lkD {K:PySem.W.Frag} (e:K.lookup a=some o) (hn:ts.contains a=false):(a_Y ts K).lookup a=some o:=(c_w hn).trans e
theorem nsD {K:PySem.W.Frag} (e:PySem.W.nsIn K a x=r) (hn:ts.contains a=false):PySem.W.nsIn (a_Y ts K) a x=r:=by
 unfold PySem.W.nsIn at e ⊢
 rw [c_w hn]
 exact e
theorem cdD {K:PySem.W.Frag} (e:PySem.W.codeIn K (.ref c) x=true) (hn:ts.contains c=false):PySem.W.codeIn (a_Y ts K) (.ref c) x=true:=by
 unfold PySem.W.codeIn at e ⊢
 dsimp only at e ⊢
 rw [c_w hn]
 exact e
def codeTab (K:PySem.W.Frag) (c P:Addr):Bool:=match K.lookup c with
 | some ⟨.type n,_,.fields vs,_⟩=>n=="code"&&c !=P&&(match (vs[11]?:Option Value),(vs[18]?:Option Value),(vs[7]?:Option Value),(vs[9]?:Option Value),(vs[10]?:Option Value) with
   | some (.ref Q),some (.str _ _),some (.int _ _),some (.bool _),some (.int _ _)=>Q==P
   | _,_,_,_,_=>false)
 | _=>false
theorem codeTab_of {K:PySem.W.Frag} (X:K.In h) (e:codeTab K c P=true):PySem.W.CodeHd h c P:=by
 unfold codeTab at e
 split at e
 ·rename_i n dd vs sl hl
  have ho:=X _ _ hl
  rw [Bool.and_eq_true,Bool.and_eq_true] at e
  obtain ⟨⟨e1,e2⟩,e3⟩:=e
  split at e3
  ·rename_i Q s t i u b j v h1 h2 h3 h4 h5
   have hQ:Q=P:=eq_of_beq e3
   subst hQ
   have gd:∀{k:Nat} {x:Value},vs[k]?=some x->vs.getD k .none=x:=fun {k x} z=>by
    rw [Array.getD_eq_getD_getElem?,z]
    rfl
   exact ⟨_,vs,s,t,i,u,b,j,v,ho,by rw [eq_of_beq e1],rfl,h1,gd h1,gd h2,gd h3,gd h4,gd h5,by simpa using e2⟩
  ·cases e3
 ·cases e
structure TabIn (K:PySem.W.Frag) (q:Addr×Addr):Prop where
 code:codeTab K q.1 q.2=true
 tab:K.lookup q.2=some (PySem.W.tabObj #[])
def spLawT (K:PySem.W.Frag) (tabs:List (Addr×Addr)):Sp:=fun vs H Q _=>∃(a:Addr) (ns:List Int),vs=[.ref a]/\SqL K H a (ns.map V.int)/\ns.length≤63/\(∀q∈tabs,H q.2=some (.tbl #[]))/\∀H',Q (.bl true) H'
theorem codeHd_same (x:PySem.W.CodeHd h c P) (k:∀o,o.cls=.type "code"->h.get? c=some o->h'.get? c=some o):PySem.W.CodeHd h' c P:=by
 obtain ⟨o,vs,file,tf,flags,tg,inF,text,tt,e,r1,r⟩:=x
 exact ⟨o,vs,file,tf,flags,tg,inF,text,tt,k o r1 e,r1,r⟩
theorem law_callT {P:Program} {w:World} {K:PySem.W.Frag}
  (KX:K.In s₁.heap) (hT:∀q∈tabs,TabIn K q) (hns:s₁.heap.Ns mainGlobals mg) (hB:g_b s₁.heap mg) (hb:s₁.heap.Ns builtinsNs mb) (hbb:∀x:Str,x≠"__name__"->mb x=bootBuiltins x) (hlim:s₁.heap.NoLimit) (hg:s₁.gens=#[])
  (ha:s₁.heap.get? a=some { cls:=.type "list",data:=.seq vs.toArray }) (hi:IntsAre vs ns) (hl:ns.length≤63) (hr:Room k callerA)
  (F:∀base:Heap,(a_Y (tabs.map (·.2)) K).In base->base.Ns mainGlobals mg->g_b base mg->(∀q∈tabs,PySem.W.CodeHd base q.1 q.2)->FnOk P w (a_Y (tabs.map (·.2)) K) mg base CX0 k fa fd [x] (spLawT (a_Y (tabs.map (·.2)) K) tabs)) (hbind:∀(s:Shared) (u:Value),BindsTo s fd ⟨[u],[]⟩ [(x,u)]):
  codeAny (model P w) callerA (.call (.ref fa) ⟨[.ref a],[]⟩) (fun r s'=>r=.ok (.ret (.bool true))/\OldK s₁.heap s'.heap/\s'.os=s₁.os/\AllBare s'.gens) s₁:=by
 have rv:=d_V hi
 have lenV:=hi.length
 have hls:ns.length≤sizeLine:=Nat.le_trans hl (by rw [sizeLine_eq];decide)
 have tabH:∀q∈tabs,s₁.heap.get? q.2=some (PySem.W.tabObj #[]):=fun q hq=>KX _ _ (hT q hq).tab
 have hd:∀q∈tabs,PySem.W.CodeHd s₁.heap q.1 q.2:=fun q hq=>codeTab_of KX (hT q hq).code
 have inT:∀{b:Addr},(tabs.map (·.2)).contains b=true->∃q∈tabs,q.2=b:=fun {b} hb=>by
  rw [List.contains_iff_mem] at hb
  obtain ⟨q,hq,e⟩:=List.mem_map.mp hb
  exact ⟨q,hq,e⟩
 have memT:∀{q:Addr×Addr},q∈tabs->(tabs.map (·.2)).contains q.2=true:=fun {q} hq=>by
  rw [List.contains_iff_mem]
  exact List.mem_map_of_mem hq
 have aT:(tabs.map (·.2)).contains a=false:=by
  cases z:(tabs.map (·.2)).contains a with
  | false=>rfl
  | true=>
   obtain ⟨q,hq,e⟩:=inT z
   have e1:=tabH q hq
   rw [e,ha] at e1
   cases e1
 have core:∀H:Hp,SqL (a_Y (tabs.map (·.2)) K) H a (ns.map V.int)->HOk P w H s₁.heap->(∀b,H b=none\/(b=a/\K.lookup a=none/\H b=some (.frz { cls:=.type "list",data:=.seq vs.toArray } (.lst (ns.map V.int))))\/((tabs.map (·.2)).contains b=true/\H b=some (.tbl #[])))->
   (∀q∈tabs,H q.2=some (.tbl #[]))->
   codeAny (model P w) callerA (.call (.ref fa) ⟨[.ref a],[]⟩) (fun r s'=>r=.ok (.ret (.bool true))/\OldK s₁.heap s'.heap/\s'.os=s₁.os/\AllBare s'.gens) s₁:=by
  intro H hS hok hO hTH
  have base_of:∀{b:Addr} {o:Obj},s₁.heap.get? b=some o->H b=none->(hidT s₁.heap H).get? b=some o:=fun e n=>hidT_get e n
  have freeOf:∀{b:Addr} {o:Obj},s₁.heap.get? b=some o->b≠a->o≠PySem.W.tabObj #[]->H b=none:=fun {b o} e hne hno=>by
   rcases hO b with z | ⟨z,_⟩ | ⟨z,_⟩
   ·exact z
   ·exact absurd z hne
   ·obtain ⟨q,hq,e2⟩:=inT z
    have e1:=tabH q hq
    rw [e2,e] at e1
    exact absurd (Option.some.inj e1) hno
  have nsK:∀{b:Addr} {m:Str->Option Value},s₁.heap.Ns b m->(hidT s₁.heap H).Ns b m:=fun {b m} ⟨o,es,ep,e,d,r⟩=>⟨o,es,ep,base_of e (freeOf e (fun z=>by rw [z,ha] at e;cases e;cases d) (fun z=>by rw [z] at d;cases d)),d,r⟩
  have hKb:(a_Y (tabs.map (·.2)) K).In (hidT s₁.heap H):=fun b o e=>by
   have hn:=f_P e
   have e1:=KX b o ((c_w hn).symm.trans e)
   refine base_of e1 ?_
   rcases hO b with z | ⟨z,z2,_⟩ | ⟨z,_⟩
   ·exact z
   ·rw [c_w hn,z,z2] at e
    cases e
   ·rw [hn] at z
    cases z
  have hBb:g_b (hidT s₁.heap H) mg:=by
   obtain ⟨bm,o,e1,e2,e3,e4,e5,e6,e7⟩:=hB.ex
   exact ⟨bm,o,e1,e2,e3,base_of e4 (freeOf e4 (fun z=>by rw [z,ha] at e4;cases e4;cases e7) (fun z=>by rw [z] at e7;cases e7)),e5,e6,e7⟩
  have hCb:∀q∈tabs,PySem.W.CodeHd (hidT s₁.heap H) q.1 q.2:=fun q hq=>codeHd_same (hd q hq) fun o hc e=>base_of e (freeOf e (fun z=>by rw [z,ha] at e;cases e;injection hc with hc;exact absurd hc (by decide)) (fun z=>by rw [z] at hc;cases hc))
  have hM:Mod (a_Y (tabs.map (·.2)) K) mg (hidT s₁.heap H):=⟨hKb,nsK hns,⟨mb,nsK hb,hbb⟩,let ⟨mc,h1,h2⟩:=hlim;⟨mc,nsK h1,h2⟩⟩
  have e0:Env0 P w (a_Y (tabs.map (·.2)) K) mg (hidT s₁.heap H) callerA [] s₁ H:=⟨rfl,hM,fun b o e=>of_hidT e,Nat.le_of_eq (hidT_size _ _),trivial,fun b hb=>absurd (show b∈([]:List Addr) from hb) (by simp),hok,.of_eq hg⟩
  refine codeAny_mono ((F _ hKb (nsK hns) hBb hCb).run callerA [] s₁ H ⟨[.ref a],[]⟩ [.ref a] [.ref a] (fun v _=>v=.bl true) (fun _ _ _=>False) hr e0 (hbind s₁ (.ref a)) (.cons rfl .nil) ⟨a,ns,rfl,hS,hl,hTH,fun _=>rfl⟩) fun r s' h=>?_
  cases r with
  | error e=>exact False.elim h
  | ok fl=>
   cases fl with
   | next=>exact False.elim h
   | brk=>exact False.elim h
   | cont=>exact False.elim h
   | ret u=>
    obtain ⟨v,H',os,bare,un,hok',r',q⟩:=h
    have q':v=.bl true:=q
    subst q'
    obtain rfl:u=Value.bool true:=r'
    refine ⟨rfl,⟨fun b o e=>?_,fun b o e=>un.there b o e (by simp)⟩,os,bare⟩
    rcases hO b with z | ⟨z1,_,z⟩ | ⟨z1,z⟩
    ·exact .inl (un.keep b o e z (by intro y;exact absurd (show b∈([]:List Addr) from y) (by simp)) (by simp))
    ·obtain ⟨e1,_⟩:=hok b _ z
     obtain ⟨e2,_⟩:=hok' b _ (un.frzs b _ _ z)
     rw [e] at e1
     cases e1
     exact .inl e2
    ·obtain ⟨q,hq,e2⟩:=inT z1
     obtain ⟨more,z3⟩:=un.tbls b _ z
     have e3:s'.heap.get? b=some { cls:=.none,data:=.fields (#[]++more) }:=hok' b _ z3
     have e4:=tabH q hq
     rw [e2,e] at e4
     cases e4
     refine .inr (.inl ⟨?_,rfl,#[],more,rfl,e3⟩)
     have:=((hd q hq).tab (tabH q hq)).isCodeTable
     rw [e2] at this
     exact this
 have aOk:∀{H:Hp} {b:Addr},(tabs.map (·.2)).contains b=true->b_b P w H s₁.heap b (.tbl #[]):=fun {H b} z=>by
  obtain ⟨q,hq,e⟩:=inT z
  have e1:=tabH q hq
  rw [e] at e1
  exact e1
 cases hk:K.lookup a with
 | some o=>
  have e:=KX a o hk
  rw [ha] at e
  cases e
  refine core (fun b=>if (tabs.map (·.2)).contains b=true then some (.tbl #[]) else none) (.inr ⟨_,vs.toArray,_,(c_w aT).trans hk,rfl,rfl,rfl,by rw [List.size_toArray,lenV];exact hls,by simpa using rv⟩) (fun b u z=>?_) (fun b=>?_) (fun q hq=>if_pos (memT hq))
  ·by_cases hb:(tabs.map (·.2)).contains b=true
   ·have z':=(if_pos hb).symm.trans z
    cases z'
    exact aOk hb
   ·have z':=(if_neg hb).symm.trans z
    cases z'
  ·by_cases hb:(tabs.map (·.2)).contains b=true
   ·exact .inr (.inr ⟨hb,if_pos hb⟩)
   ·exact .inl (if_neg hb)
 | none=>
  refine core (fun b=>if b=a then some (.frz { cls:=.type "list",data:=.seq vs.toArray } (.lst (ns.map V.int))) else if (tabs.map (·.2)).contains b=true then some (.tbl #[]) else none) (.inl (.inr ⟨{ cls:=.type "list",data:=.seq vs.toArray },if_pos rfl⟩)) (fun b u z=>?_) (fun b=>?_) (fun q hq=>?_)
  ·by_cases hb:b=a
   ·have z':=(if_pos hb).symm.trans z
    cases z'
    subst hb
    exact ⟨ha,by rw [List.length_map];exact hls,vs,_,rv,ha⟩
   ·have z':=(if_neg hb).symm.trans z
    by_cases hb2:(tabs.map (·.2)).contains b=true
    ·have z2:=(if_pos hb2).symm.trans z'
     cases z2
     exact aOk hb2
    ·have z2:=(if_neg hb2).symm.trans z'
     cases z2
  ·by_cases hb:b=a
   ·exact .inr (.inl ⟨hb,hk,if_pos hb⟩)
   ·by_cases hb2:(tabs.map (·.2)).contains b=true
    ·exact .inr (.inr ⟨hb2,(if_neg hb).trans (if_pos hb2)⟩)
    ·exact .inl ((if_neg hb).trans (if_neg hb2))
  ·have hne:q.2≠a:=fun z=>by
    have:=memT hq
    rw [z,aT] at this
    cases this
   exact (if_neg hne).trans (if_pos (memT hq))
theorem walk63t {l:PySem.W.OpenLaw} {K:Params->PySem.W.Frag} (hn:l.most=some 63) (hdf:d.params.defaults=[]) (hr:Room k callerA) (hT:∀p,∀q∈tabs,TabIn (K p) q)
  (F:∀(w:World) (mg:Str->Option Value) (fa:Addr) (h:Heap),(a_Y (tabs.map (·.2)) (K w.params)).In h->h.Ns mainGlobals mg->mg d.name=some (.ref fa)->
   ∃fd:FuncData,(∀(s:Shared) (u:Value),BindsTo s fd ⟨[u],[]⟩ [(x,u)])/\∀base:Heap,(a_Y (tabs.map (·.2)) (K w.params)).In base->base.Ns mainGlobals mg->g_b base mg->(∀q∈tabs,PySem.W.CodeHd base q.1 q.2)->
    FnOk l.prog w (a_Y (tabs.map (·.2)) (K w.params)) mg base CX0 k fa fd [x] (spLawT (a_Y (tabs.map (·.2)) (K w.params)) tabs)):
  PySem.W.WalkO q loose XP (fun w h=>(K w.params).In h) l.row.toRowW d [] (fun f vs=>PySem.call f vs):=by
 refine Att.attach_call hn hdf fun w s₀ s₁ mg mb fa o pm cd doc a vs ns G Y ho hd hcd hmg hobj hints hlen hg=>?_
 have KX:(K w.params).In s₁.heap:=Y
 have KD:(a_Y (tabs.map (·.2)) (K w.params)).In s₁.heap:=fun b o e=>KX b o ((c_w (f_P e)).symm.trans e)
 obtain ⟨fd,hb,hF⟩:=F w mg fa _ KD G.T.g hmg
 obtain ⟨bm,ob,b1,b2,b3,b4,b5,b6⟩:=G.T.bmain
 have hbG:bm≠mainGlobals:=fun z=>by
  obtain ⟨o,es,ep,e,hd,_⟩:=G.T.g
  rw [z,e] at b3;cases b3;rw [hd] at b6;cases b6
 exact law_callT KX (hT w.params) G.T.g ⟨bm,ob,b1,b2,hbG,b3,b4,b5,b6⟩ G.T.b G.T.builtins G.T.nolimit hg hobj hints hlen hr hF hb
inductive Sd where
 | tx (x:Str) (k:Tok) | tp (a:Addr) | ls (a:Addr)
namespace Sd
def vu:Sd->Value
 | .tx x t=>.str x t
 | .tp a=>.ref a
 | .ls a=>.ref a
def pl:Sd->Addr->Nat->Heap->Prop
 | .tx x t,it,i,h=>ZP.strAt x t it i h
 | .tp a,it,i,h=>h.IsTupleIter it a i
 | .ls a,it,i,h=>h.IsListIter it a i
def it0:Sd->Obj
 | .tx x t=>ZP.strIt x t
 | .tp a=>ZP.tupIt a
 | .ls a=>{ cls:=.type "list_iterator",data:=.fields #[.ref a,.int 0 0] }
def hp:Sd->Array Value->Heap->Prop
 | .tx _ _,_,_=>True
 | .tp a,its,h=>h.IsTuple a its
 | .ls a,its,h=>h.IsList a its
def has:Sd->Hp->List V->Prop
 | .tx x _,_,xs=>xs=x.cps.toList.map fun c=>V.str ⟨#[c]⟩
 | .tp a,H,xs=>H a=some (.tup xs)
 | .ls a,H,xs=>H a=some (.lst xs)
end Sd
theorem it0_at {d:Sd} (e:h.get? it=some d.it0):d.pl it 0 h:=by
 cases d with
 | tx x t=>exact ⟨_,e,rfl,rfl⟩
 | tp a=>exact ⟨_,e,rfl,rfl⟩
 | ls a=>exact ⟨_,e,rfl,rfl⟩
theorem it0_live (d:Sd):d.it0.isFreed=false:=by cases d <;> rfl
namespace ZP
def madeG (h:Heap) (o1 o2:Obj):Heap:=
 ((((h.push o1).push o2).push { cls:=.type "tuple",data:=.seq #[.ref h.objs.size,.ref (h.objs.size+1)] }).push { cls:=.type "tuple",data:=.seq #[.none,.none] }).push
  { cls:=.type "zip",data:=.fields #[.none,.bool false,.bool false,.ref (h.objs.size+2),.ref (h.objs.size+3)] }
section
variable {prog:Program} {w:World} {A:Around} {E:Value->Shared->Prop} {s:Shared}
theorem f_V (ht:s.heap.IsList a items) (h:Q (.ref s.heap.objs.size) { s with heap:=s.heap.push (Sd.ls a).it0 }):wpAny (model prog w) A (pyIter (.ref a)) Q E s:=wpAny_pyIter_list ht h
theorem iter_st (h:Q (.ref s.heap.objs.size) { s with heap:=s.heap.push (Sd.tx x t).it0 }):wpAny (model prog w) A (pyIter (.str x t)) Q E s:=iter_text h
theorem iter_tp (ht:s.heap.IsTuple a items) (h:Q (.ref s.heap.objs.size) { s with heap:=s.heap.push (Sd.tp a).it0 }):wpAny (model prog w) A (pyIter (.ref a)) Q E s:=iter_tup ht h
end
abbrev MeetG (d1 d2:Sd):Prop:=∀xs ys:Array Value,Meets (Builtin.«zip.__new__» ⟨[.type "zip",d1.vu,d2.vu],[]⟩) (fun _ R s=>d1.hp xs s.heap/\d2.hp ys s.heap/\R (.ok (.ret (.ref (s.heap.objs.size+4)))) { s with heap:=madeG s.heap d1.it0 d2.it0 })
theorem meet_st (x:Str) (t:Tok) (b:Addr):MeetG (.tx x t) (.tp b):=fun xs ys=>.of_wp fun prog w A R s h=>by
 obtain ⟨hp,g,d,tk,os⟩:=s
 obtain ⟨hx,hy,h⟩:=h
 have hsub:=sub_zip
 have hy:(hp.push (Sd.tx x t).it0).IsTuple b ys:=IsTup.keeps hy fun o e=>Heap.get?_push_of_some _ e
 show wpAny _ _ (Builtin.«zip.__new__» ⟨[.type "zip",.str x t,.ref b],[]⟩) _ _ _
 wp_walk using iter_st,iter_tp hy
 refine ⟨_,rfl,?_⟩
 simp only [madeG] at h
 simpa [Heap.size_push,Builtin.SmallTypes.ownedTupleFields,Nat.add_assoc] using h
theorem meet_sl (x:Str) (t:Tok) (b:Addr):MeetG (.tx x t) (.ls b):=fun xs ys=>.of_wp fun prog w A R s h=>by
 obtain ⟨hp,g,d,tk,os⟩:=s
 obtain ⟨hx,hy,h⟩:=h
 have hsub:=sub_zip
 have hy:(hp.push (Sd.tx x t).it0).IsList b ys:=Heap.IsList.push hy _
 show wpAny _ _ (Builtin.«zip.__new__» ⟨[.type "zip",.str x t,.ref b],[]⟩) _ _ _
 wp_walk using iter_st,f_V hy
 refine ⟨_,rfl,?_⟩
 simp only [madeG] at h
 simpa [Heap.size_push,Builtin.SmallTypes.ownedTupleFields,Nat.add_assoc] using h
theorem meet_ll (a b:Addr):MeetG (.ls a) (.ls b):=fun xs ys=>.of_wp fun prog w A R s h=>by
 obtain ⟨hp,g,d,tk,os⟩:=s
 obtain ⟨hx,hy,h⟩:=h
 have hsub:=sub_zip
 have hx:hp.IsList a xs:=hx
 have hy:(hp.push (Sd.ls a).it0).IsList b ys:=Heap.IsList.push hy _
 show wpAny _ _ (Builtin.«zip.__new__» ⟨[.type "zip",.ref a,.ref b],[]⟩) _ _ _
 wp_walk using f_V hx,f_V hy
 refine ⟨_,rfl,?_⟩
 simp only [madeG] at h
 simpa [Heap.size_push,Builtin.SmallTypes.ownedTupleFields,Nat.add_assoc] using h
section
variable {prog:Program} {w:World} {A:Around} {E:Value->Shared->Prop} {s:Shared}
theorem call_sd (M:MeetG d1 d2) (hx:d1.hp xs s.heap) (hy:d2.hp ys s.heap)
  (h:∀h',IsZip h' (s.heap.objs.size+4) (s.heap.objs.size+2) (s.heap.objs.size+3) .none->IsPair h' (s.heap.objs.size+2) (.ref s.heap.objs.size) (.ref (s.heap.objs.size+1))->IsPair h' (s.heap.objs.size+3) .none .none->
   d1.pl s.heap.objs.size 0 h'->d2.pl (s.heap.objs.size+1) 0 h'->(∀c o,s.heap.get? c=some o->h'.get? c=some o)->Q (.ref (s.heap.objs.size+4)) { s with heap:=h' }):
  wpAny (model prog w) A (call (.type "zip") [d1.vu,d2.vu]) Q E s:=by
 refine callType_new F.called_zip (by decide) (F.typeCall_zip_2 _ _) (F.newCall_zip_2 _ _) (fun obj=>F.args_object_init_3 obj _ _) F.entry_zip_new (M xs ys) ⟨hx,hy,?_⟩
 have at1:∀(g:Heap) (o:Obj) (n:Nat),g.objs.size=n->o.isFreed=false->(g.push o).get? n=some o:=fun g o n e f=>by rw [<- e];exact Heap.get?_push_size g f
 have z5:IsZip (madeG s.heap d1.it0 d2.it0) (s.heap.objs.size+4) (s.heap.objs.size+2) (s.heap.objs.size+3) .none:=at1 _ _ _ (by simp [Heap.size_push]) rfl
 exact ⟨⟨_,z5,rfl⟩,h _ z5 (Heap.get?_push_of_some _ (Heap.get?_push_of_some _ (at1 _ _ _ (by simp [Heap.size_push]) rfl))) (Heap.get?_push_of_some _ (at1 _ _ _ (by simp [Heap.size_push]) rfl))
  (it0_at (Heap.get?_push_of_some _ (Heap.get?_push_of_some _ (Heap.get?_push_of_some _ (Heap.get?_push_of_some _ (at1 _ _ _ rfl (it0_live _))))))) (it0_at (Heap.get?_push_of_some _ (Heap.get?_push_of_some _ (Heap.get?_push_of_some _ (at1 _ _ _ (by simp [Heap.size_push]) (it0_live _))))))
  fun c o e=>Heap.get?_push_of_some _ (Heap.get?_push_of_some _ (Heap.get?_push_of_some _ (Heap.get?_push_of_some _ (Heap.get?_push_of_some _ e))))⟩
end
end ZP
def Itg (d1 d2:Sd):It:=⟨fun i H=>∃xs ys a b,d1.has H xs/\d2.has H ys/\xs[i]?=some a/\ys[i]?=some b,fun i H v H'=>∃p xs ys a b,d1.has H xs/\d2.has H ys/\xs[i]?=some a/\ys[i]?=some b/\v=.ref p/\H p=none/\H'=upd H p (.tup [a,b]),
 fun i H=>∃xs ys,d1.has H xs/\d2.has H ys/\xs.length=ys.length/\i=xs.length⟩
theorem pl_obj {d:Sd} (x:d.pl it i h):∃o,h.get? it=some o/\∀v,o.data≠.cell v:=by
 cases d with
 | tx y t=>obtain ⟨o,e,_,dd⟩:=x;exact ⟨o,e,fun v q=>by rw [dd] at q;cases q⟩
 | tp a=>obtain ⟨o,e,_,dd⟩:=x;exact ⟨o,e,fun v q=>by rw [dd] at q;cases q⟩
 | ls a=>obtain ⟨o,e,_,dd⟩:=x;exact ⟨o,e,fun v q=>by rw [dd] at q;cases q⟩
theorem f_H {d:Sd} (x:d.pl it i h) (k:∀o,h.get? it=some o->h'.get? it=some o):d.pl it i h':=by
 cases d with
 | tx y t=>obtain ⟨o,e,r⟩:=x;exact ⟨o,k o e,r⟩
 | tp a=>obtain ⟨o,e,r⟩:=x;exact ⟨o,k o e,r⟩
 | ls a=>obtain ⟨o,e,r⟩:=x;exact ⟨o,k o e,r⟩
theorem sd_hp {σ:St} {d:Sd} (I:Inv X pins σ H s) (h:d.has H xs):∃its,d.hp its s.heap:=by
 cases d with
 | tx y t=>exact ⟨#[],True.intro⟩
 | tp a=>
  obtain ⟨its,_,p,_⟩:=I.tuple (SqT.of (show H a=_ from h))
  exact ⟨_,p⟩
 | ls a=>
  obtain ⟨its,_,⟨o,n,e,c,_,dd⟩,_⟩:=I.list (SqL.of (show H a=_ from h))
  exact ⟨its.toArray,o,e,c,n,dd⟩
theorem d_R {X:Cx} {σ:St} {d:Sd} (I:Inv X pins σ H s) (hh:A.handled=none) (h:d.has H xs) (hit:H it=none) (hp:d.pl it i s.heap):
  ∃f P S,Draws X.prog X.w A it f xs.length P S/\(∀c∈f,c=it\/∃u,H c=some u)/\S i s.heap/\(∀j g,S j g->d.pl it j g)/\∀j v x,P j v->xs[j]?=some x->RelV x v:=by
 cases d with
 | tx y t=>
  have h:xs=y.cps.toList.map fun c=>V.str ⟨#[c]⟩:=h
  refine ⟨[it],fun i v=>∃c u,y.cps[i]?=some c/\v=.str ⟨#[c]⟩ u,ZP.strAt y t it,?_,fun c hc=>.inl (List.mem_singleton.mp hc),hp,fun j g z=>z,fun j v x hP hx=>?_⟩
  ·have e:xs.length=y.cps.size:=by rw [h];simp
   rw [e]
   exact ZP.draws hh it y t
  ·obtain ⟨c,u,e1,rfl⟩:=hP
   rw [h,List.getElem?_map,Array.getElem?_toList,e1] at hx
   cases hx
   exact ⟨u,rfl⟩
 | tp a=>
  obtain ⟨its,r,p,_⟩:=I.tuple (SqT.of (show H a=_ from h))
  have p':s.heap.IsTuple a its.toArray:=p
  have hne:a≠it:=fun z=>by rw [<- z,show H a=_ from h] at hit;cases hit
  have e:xs.length=its.toArray.size:=by rw [r.length];simp
  refine ⟨[it,a],fun i v=>its.toArray[i]?=some v,fun i h=>h.IsTupleIter it a i/\h.IsTuple a its.toArray,by rw [e];exact drawsT hh it a hne its.toArray,fun c hc=>?_,⟨hp,p'⟩,fun j g z=>z.1,fun j v x hP hx=>?_⟩
  ·rcases List.mem_cons.mp hc with z | z
   ·exact .inl z
   ·rw [List.mem_singleton.mp z]
    exact .inr ⟨_,h⟩
  ·obtain ⟨u,hu,ru⟩:=r.get hx
   have hP:its.toArray[j]?=some v:=hP
   rw [List.getElem?_toArray,hu] at hP
   cases hP
   exact ru
 | ls a=>
  obtain ⟨its,r,⟨o,n,eo,co,_,dd⟩,_⟩:=I.list (SqL.of (show H a=_ from h))
  have p':s.heap.IsList a its.toArray:=⟨o,eo,co,n,dd⟩
  have hne:a≠it:=fun z=>by rw [<- z,show H a=_ from h] at hit;cases hit
  have e:xs.length=its.toArray.size:=by rw [r.length];simp
  refine ⟨[it,a],fun i v=>its.toArray[i]?=some v,fun i h=>h.IsListIter it a i/\h.IsList a its.toArray,by rw [e];exact Draws.list hh it a hne its.toArray,fun c hc=>?_,⟨hp,p'⟩,fun j g z=>z.1,fun j v x hP hx=>?_⟩
  ·rcases List.mem_cons.mp hc with z | z
   ·exact .inl z
   ·rw [List.mem_singleton.mp z]
    exact .inr ⟨_,h⟩
  ·obtain ⟨u,hu,ru⟩:=r.get hx
   have hP:its.toArray[j]?=some v:=hP
   rw [List.getElem?_toArray,hu] at hP
   cases hP
   exact ru
theorem turn_zipG {K:PySem.W.Frag} (d1 d2:Sd) (z TI TO i1 i2:Addr) (ap:ZipApart z TI TO i1 i2 TI TI):
  Turn P w K (.Tuple es kt pt) (Itg d1 d2) [z,TI,TO,i1,i2] z (fun i h=>IsZip h z TI TO .none/\IsPair h TI (.ref i1) (.ref i2)/\(∃a b,IsPair h TO a b)/\d1.pl i1 i h/\d2.pl i2 i h)  where
 mem:=by simp
 obj:=fun i h ⟨hz,hTI,⟨a,b,hTO⟩,s1,s2⟩ c hc=>by
  simp only [List.mem_cons,List.not_mem_nil,or_false] at hc
  rcases hc with rfl | rfl | rfl | rfl | rfl
  ·exact ⟨_,hz,fun v q=>by cases q⟩
  ·exact ⟨_,hTI,fun v q=>by cases q⟩
  ·exact ⟨_,hTO,fun v q=>by cases q⟩
  ·exact pl_obj s1
  ·exact pl_obj s2
 keep:=fun i h h' ⟨hz,hTI,⟨a,b,hTO⟩,s1,s2⟩ k=>
  ⟨k z (by simp) _ hz,k TI (by simp) _ hTI,⟨a,b,k TO (by simp) _ hTO⟩,f_H s1 (k i1 (by simp)),f_H s2 (k i2 (by simp))⟩
 item:=by
  rintro X hP hw hK hc i pins s σ H E I hf ⟨hz,hTI,⟨a,b,hTO⟩,s1,s2⟩ ⟨xs,ys,va,vb,hqx,hqy,hxa,hyb⟩
  subst hP hw hK
  have l1:i<xs.length:=(List.getElem?_eq_some_iff.mp hxa).1
  have l2:i<ys.length:=(List.getElem?_eq_some_iff.mp hyb).1
  obtain ⟨f1,P1,S1,D1,m1,st1,b1,r1⟩:=d_R (A:=X.A.in1) I (I.ok.hd hc) hqx (hf i1 (by simp)).1 s1
  obtain ⟨f2,P2,S2,D2,m2,st2,b2,r2⟩:=d_R (A:=X.A.in1) I (I.ok.hd hc) hqy (hf i2 (by simp)).1 s2
  have off:∀{c:Addr} {u:HO},H c=some u->c∉[z,TO,i1,i2]:=fun {c u} e hm=>by
   have:c∈[z,TI,TO,i1,i2]:=by simp at hm ⊢;rcases hm with q | q | q | q <;> simp [q]
   rw [(hf c this).1] at e
   cases e
  have hT:s.TypeIs (.ref z) "zip":=⟨_,hz,rfl⟩
  unfold pyNext
  refine wpAny_bind (wpAny_attempt (wpAny_callSpecial?_slot (name:=Str.ofString "__next__") hT F.slot_zip_next (wpAny_call_entry F.slot_zip_next hT F.entry_zip_next (ZP.toldL D1 D2
   (fun c hc=>(m1 c hc).imp id fun ⟨u,e⟩=>off e) (fun c hc=>(m2 c hc).imp id fun ⟨u,e⟩=>off e)
   ap hz hTI hTO st1 st2 l1 l2 fun v1 v2 g tk p1 p2 gz gTI gTO g1 g2 new gk=>wpAny_pure ⟨_,rfl,?_⟩) (F.args_zip_next_1 _))))
  have ra:=r1 i v1 va p1 hxa
  have rb:=r2 i v2 vb p2 hyb
  refine wpAny_letOwnedTupleGo_zip (s:={ s with heap:=g,toks:=tk }) gz fun g' gz' gs=>?_
  have up:∀b o,b≠z->g.get? b=some o->g'.get? b=some o:=fun b o hb e=>(gs.2 b hb).trans e
  have nz:s.heap.objs.size≠z:=Nat.ne_of_gt (Heap.lt_size hz)
  have tup:b_b X.prog X.w (upd H s.heap.objs.size (.tup [va,vb])) g' s.heap.objs.size (.tup [va,vb]):=
   ⟨a_g (by show 2≤16777216;decide),[v1,v2],.cons ra (.cons rb .nil),⟨_,up _ _ nz new,rfl,0,rfl⟩⟩
  refine ⟨.ref s.heap.objs.size,_,I.turnedNew (S:=[z,TO,i1,i2]) (h':=g') (t':=tk) (fun b o hb e=>up b o (fun q=>hb (by simp [q])) (gk b o hb e)) (fun b hb=>hf b (by simp at hb ⊢;rcases hb with q | q | q | q <;> simp [q])) tup,rfl,
   ⟨_,xs,ys,va,vb,hqx,hqy,hxa,hyb,rfl,I.hok.fresh (Nat.le_refl _),rfl⟩,⟨gz',up _ _ ap.TIz gTI,⟨_,_,up _ _ ap.TOz gTO⟩,f_H (b1 _ _ g1) fun o e=>up _ o ap.i1z e,f_H (b2 _ _ g2) fun o e=>up _ o ap.i2z e⟩,fun b hb=>?_⟩
  have lt:b<s.heap.objs.size:=by
   obtain ⟨o1,e1,_⟩:=pl_obj s1
   obtain ⟨o2,e2,_⟩:=pl_obj s2
   simp only [List.mem_cons,List.not_mem_nil,or_false] at hb
   rcases hb with rfl | rfl | rfl | rfl | rfl
   ·exact Heap.lt_size hz
   ·exact Heap.lt_size hTI
   ·exact Heap.lt_size hTO
   ·exact Heap.lt_size e1
   ·exact Heap.lt_size e2
  rw [upd_ne (Nat.ne_of_lt lt)]
  exact (hf b hb).1
 done:=by
  rintro X hP hw hK hc i pins s σ H E I hf ⟨hz,hTI,⟨a,b,hTO⟩,s1,s2⟩ ⟨xs,ys,hqx,hqy,hl,hi⟩
  subst hP hw hK
  obtain ⟨f1,P1,S1,D1,m1,st1,b1,r1⟩:=d_R (A:=X.A.in1) I (I.ok.hd hc) hqx (hf i1 (by simp)).1 s1
  obtain ⟨f2,P2,S2,D2,m2,st2,b2,r2⟩:=d_R (A:=X.A.in1) I (I.ok.hd hc) hqy (hf i2 (by simp)).1 s2
  have off:∀{c:Addr} {u:HO},H c=some u->c∉[z,TO,i1,i2]:=fun {c u} e hm=>by
   have:c∈[z,TI,TO,i1,i2]:=by simp at hm ⊢;rcases hm with q | q | q | q <;> simp [q]
   rw [(hf c this).1] at e
   cases e
  have hT:s.TypeIs (.ref z) "zip":=⟨_,hz,rfl⟩
  unfold pyNext
  refine wpAny_bind (wpAny_attempt (wpAny_callSpecial?_slot (name:=Str.ofString "__next__") hT F.slot_zip_next (wpAny_call_entry F.slot_zip_next hT F.entry_zip_next (ZP.endedL D1 D2
   (fun c hc=>(m1 c hc).imp id fun ⟨u,e⟩=>off e) (fun c hc=>(m2 c hc).imp id fun ⟨u,e⟩=>off e)
   ap hz hTI hTO st1 st2 (.inl hi) fun g e tk gk he=>?_) (F.args_zip_next_1 _))))
  obtain ⟨o,ho,hcl⟩:=he
  refine wpAny_bind (wpAny_isInstance (s:={ s with heap:=g,toks:=tk }) (T:="StopIteration") (b:=true) ⟨o,ho,hcl⟩ isSubtype_stop (wpAny_pure ⟨rfl,?_⟩))
  exact I.turnedL (S:=[z,TO,i1,i2]) (fun b o hb e=>gk b o hb e) fun b hb=>hf b (by simp at hb ⊢;rcases hb with q | q | q | q <;> simp [q])
 self:=fun _ _ _ _ _ st h=>wpAny_pyIter_zip st.1 h
def Zips (H:Hp) (v1 v2:V) (R:(Tok->Sd)->Sd->Prop):Prop:=
 (∃x b xs,v1=.str x/\v2=.ref b/\H b=some (.tup xs)/\R (.tx x) (.tp b))\/(∃x b xs,v1=.str x/\v2=.ref b/\H b=some (.lst xs)/\R (.tx x) (.ls b))\/∃a b xs ys,v1=.ref a/\v2=.ref b/\H a=some (.lst xs)/\H b=some (.lst ys)/\R (fun _=>.ls a) (.ls b)
def iZipG (t:TA):TI:=fun σ H R=>t σ H fun vs H1=>∃v1 v2,vs=[v1,v2]/\Zips H1 v1 v2 fun d1 d2=>∀k,R (Itg (d1 k) d2) H1
theorem pi_zipG {es:List Expr} {kt:Nat} {pt:Pos} {p pos:Pos} (hg:Gl X "zip") (hm:X.mg "zip"=none) (ha:PA X [a,b] ta) (hs:starEach [a,b] X.env=(false,eval a X.env)::starEach [b] X.env:=by rfl)
  (hpl:(backTo pos (starEach [b] X.env)).any (·.1)=false:=by rfl):PI X (.Tuple es kt pt) (.Call (.Name "zip" p) [a,b] [] pos) (iZipG ta):=by
 intro pins s σ H R I h
 refine wpAny_Call_Name_kw (ld_blt I hg hm PyProof.Rows.boot_zip (PyProof.Rows.callWith_type1 (thn (ha pos pins s σ H _ I h) fun us s1 ⟨vs,H1,I1,r1,v1,v2,ev,hz⟩=>?_) hs hpl))
 subst ev
 obtain ⟨u1,u2,rfl,e1,e2⟩:=vals2 r1
 have go:∀(d1 d2:Sd) (xs ys:List V),ZP.MeetG d1 d2->u1=d1.vu->u2=d2.vu->d1.has H1 xs->d2.has H1 ys->R (Itg d1 d2) H1->wpAny (model X.prog X.w) X.A (call (.type "zip") [u1,u2]) (fun v s2=>wpAny (model X.prog X.w) X.A (pyIter v) (PIE X pins σ (.Tuple es kt pt) R) X.xe s2) X.xe s1:=by
  rintro d1 d2 xs ys M rfl rfl hx hy q
  obtain ⟨itx,px⟩:=sd_hp I1 hx
  obtain ⟨ity,py⟩:=sd_hp I1 hy
  refine ZP.call_sd M px py fun g gz gTI gTO g1 g2 gk=>wpAny_pyIter_zip (s:={ s1 with heap:=g }) gz ?_
  have ap:ZipApart (s1.heap.objs.size+4) (s1.heap.objs.size+2) (s1.heap.objs.size+3) s1.heap.objs.size (s1.heap.objs.size+1) (s1.heap.objs.size+2) (s1.heap.objs.size+2):=by
   constructor <;> exact neA (by omega)
  refine ⟨_,[s1.heap.objs.size+4,s1.heap.objs.size+2,s1.heap.objs.size+3,s1.heap.objs.size,s1.heap.objs.size+1],_,Itg d1 d2,H1,rfl,I1.kept (t':=s1.toks) gk,turn_zipG d1 d2 _ _ _ _ _ ap,
   ⟨gz,gTI,⟨_,_,gTO⟩,g1,g2⟩,fun c hc=>?_,q⟩
  have hge:s1.heap.objs.size≤c:=by
   simp only [List.mem_cons,List.not_mem_nil,or_false] at hc
   rcases hc with rfl | rfl | rfl | rfl | rfl
   ·exact Nat.le_add_right _ _
   ·exact Nat.le_add_right _ _
   ·exact Nat.le_add_right _ _
   ·exact Nat.le_refl _
   ·exact Nat.le_add_right _ _
  exact I1.fpOk hge (I1.hok.fresh hge)
 rcases hz with ⟨x,b,xs,rfl,rfl,hb,q⟩ | ⟨x,b,xs,rfl,rfl,hb,q⟩ | ⟨a,b,xs,ys,rfl,rfl,ha',hb,q⟩
 ·obtain ⟨t,rfl⟩:=(show ∃t,u1=Value.str x t from e1)
  cases e2
  exact go (.tx x t) (.tp b) _ _ (ZP.meet_st x t b) rfl rfl rfl hb (q t)
 ·obtain ⟨t,rfl⟩:=(show ∃t,u1=Value.str x t from e1)
  cases e2
  exact go (.tx x t) (.ls b) _ _ (ZP.meet_sl x t b) rfl rfl rfl hb (q t)
 ·cases e1
  cases e2
  exact go (.ls a) (.ls b) _ _ (ZP.meet_ll a b) rfl rfl ha' hb (q 0)
end L2
namespace L2
open PySem PySem.Spec PyProof.Rows
theorem zs_nat (ks:List Nat):(zs ks).map Int.toNat=ks:=by
 unfold zs
 rw [List.map_map]
 exact (List.map_congr_left fun n _=>Int.toNat_natCast n).trans (List.map_id _)
def keyS:List Int->List Key
 | []=>[]
 | x::ks=>[.inl x,.inr (RA.tx (ks.map Int.toNat))]
def StAt (P:Program) (w:World) (h:Heap) (k:List Int) (a:Addr):Prop:=∃(x:Int) (ks:List Nat),k=x::zs ks/\IsTupleKey (d_F P w) h [.inl x,.inr (RA.tx ks)] a
theorem keyS_zs (x:Int) (ks:List Nat):keyS (x::zs ks)=[.inl x,.inr (RA.tx ks)]:=by
 show [_,Sum.inr (RA.tx ((zs ks).map Int.toNat))]=_
 rw [zs_nat]
theorem keyS_eq:(x::zs ks=y::zs ls)↔([Sum.inl x,Sum.inr (RA.tx ks)]:List Key)=[.inl y,.inr (RA.tx ls)]:=by
 constructor
 ·intro e
  injection e with e1 e2
  rw [e1,zs_inj e2]
 ·intro e
  injection e with e1 e2
  injection e2 with e3 _
  rw [Sum.inl.inj e1,RA.tx_inj (Sum.inr.inj e3)]
def stKind (P:Program) (w:World):HeapKind P w (List Int) where
 is:=StAt P w
 hash:=fun k=>tupleKeyHash (d_F P w) (keyS k)
 draws:=fun _=>3
 room:=fun A=>A.units<cLine
 inj:=fun ⟨x,ks,e1,h1⟩ ⟨y,ls,e2,h2⟩=>by rw [e1,e2];exact keyS_eq.mpr (h1.inj h2)
 keeps:=fun ⟨x,ks,e,h1⟩ ho hd hs=>⟨x,ks,e,h1.keeps ho hd hs⟩
 pyHash:=fun hu ⟨x,ks,e,h1⟩ h=>by
  subst e
  rw [keyS_zs] at h
  exact wpAny_pyHash_tuple hu h1 h
 eqBool:=fun {A E s x y a b Q} hu hx hy h=>by
  obtain ⟨x1,ks,rfl,h1⟩:=hx
  obtain ⟨y1,ls,rfl,h2⟩:=hy
  refine wpAny_eqBool_tuple hu h1 h2 ?_
  rw [show decide (([Sum.inl x1,Sum.inr (RA.tx ks)]:List Key)=[.inl y1,.inr (RA.tx ls)])=decide (x1::zs ks=y1::zs ls) by rw [Bool.eq_iff_iff,decide_eq_true_eq,decide_eq_true_eq];exact keyS_eq.symm]
  exact h
 quiet:=fun ⟨x,ks,e,h1⟩ h=>wpAny_eqIsQuiet_tuple h1 h
def StIn (H:Hp) (k:List Int) (a:Addr):Prop:=∃(x:Int) (ks:List Nat),k=x::zs ks/\H a=some (.tup [.int x,.str (RA.tx ks)])
def stD (P:Program) (w:World):HKd P w (List Int) where
 knd:=stKind P w
 kin:=StIn
 ok:=fun {H h k a} e ok=>by
  obtain ⟨x,ks,rfl,e1⟩:=e
  obtain ⟨_,its,r,o,h1,h2,n,h3⟩:=(show b_b P w H h a (.tup [.int x,.str (RA.tx ks)]) from ok a _ e1)
  obtain ⟨u1,u2,rfl,r1,r2⟩:=vals2 r
  obtain ⟨t1,rfl⟩:=(show ∃t,u1=Value.int x t from r1)
  obtain ⟨t2,rfl⟩:=(show ∃t,u2=Value.str (RA.tx ks) t from r2)
  exact ⟨x,ks,rfl,o,_,n,h1,h2,h3,.cons (mixKind_int P w x t1) (.cons (mixKind_str P w _ t2) .nil)⟩
 room:=fun {A} hu=>⟨by show A.in1.units<cLine;rw [Around.in1_units];omega,by show A.units<cLine;omega⟩
 stay:=fun s ⟨x,ks,e,h⟩=>⟨x,ks,e,s _ _ h⟩
inductive TK where
 | i | t | s
 deriving DecidableEq
def dK (P:Program) (w:World):TK->HKd P w (List Int)
 | .s=>stD P w
 | _=>e_N P w
theorem c_S (k:Int) (t:Tok):Value.isInt k (.int k t)=true:=by simp [Value.isInt]
def DGetW (P:Program) (w:World) (H:Hp) (d:Addr) (y:V) (r:Option V):Prop:=
 (∃kvs k,H d=some (kdO (intKind P w) d kvs)/\y=.int k/\r=valV kvs k) \/
 ∃ti kvs k b,H d=some (hdO (dK P w ti) d kvs)/\(∀x∈kvs,(dK P w ti).kin H x.1 x.2.1)/\y=.ref b/\(dK P w ti).kin H k b/\r=valH kvs k
def DPutW (P:Program) (w:World) (H:Hp) (d:Addr) (y v:V) (H':Hp):Prop:=
 (∃kvs k,H d=some (kdO (intKind P w) d kvs)/\y=.int k/\valV kvs k=none/\kvs.length<sizeLine/\H'=upd H d (kdO (intKind P w) d (kvs++[(k,v)]))) \/
 ∃ti kvs k b,H d=some (hdO (dK P w ti) d kvs)/\(∀x∈kvs,(dK P w ti).kin H x.1 x.2.1)/\y=.ref b/\(dK P w ti).kin H k b/\valH kvs k=none/\kvs.length<sizeLine/\H'=upd H d (hdO (dK P w ti) d (kvs++[(k,b,v)]))
section
variable {X:Cx}
def rNotInW (P:Program) (w:World):R2:=fun x y H Q=>∃d o,y=.ref d/\DGetW P w H d x o/\Q (.bl (!o.isSome)) H
theorem op_notinW (hu:X.A.units+64<cLine):OpR X (compareOp .NotIn) (rNotInW X.prog X.w):=by
 intro pins s σ H x y v u Q I rx ry h
 obtain ⟨d,o,rfl,g,q⟩:=h
 cases ry
 rcases g with ⟨kvs,k,e,rfl,rfl⟩ | ⟨ti,kvs,k,b,e,hk,rfl,kb,rfl⟩
 ·obtain ⟨t,rfl⟩:=(show ∃t,v=Value.int k t from rx)
  obtain ⟨ns,_,vs,rel,dd⟩:=c_B I.hok e
  refine wpAny_notIn_of (knd:=intKind X.prog X.w) (k:=k) (c_S k t) ns dd.mapOf ?_
  rw [<- c_u (rel.val k)]
  exact ⟨.bl _,H,I.tok _,rfl,q⟩
 ·cases rx
  exact h_notIn (D:=dK X.prog X.w ti) hu I e hk kb fun s' I'=>⟨.bl _,H,I',rfl,q⟩
theorem dg_typeW {σ:St} (I:Inv X pins σ H s) (g:DGetW X.prog X.w H d y o):s.TypeIs (.ref d) "dict":=by
 rcases g with ⟨kvs,k,e,_⟩ | ⟨ti,kvs,k,b,e,hk,_⟩
 ·obtain ⟨_,_,vs,_,dd⟩:=c_B I.hok e
  exact dd.typeIs
 ·obtain ⟨_,_,vs,_,dd⟩:=hd_of (D:=dK X.prog X.w ti) I.hok e hk
  exact dd.typeIs
def rIxW (P:Program) (w:World):R2:=fun x y H Q=>∃d v,x=.ref d/\DGetW P w H d y (some v)/\Q v H
theorem ix_dictW (hu:X.A.units+64<cLine):IxR X (rIxW X.prog X.w):=by
 intro value slice pins s σ H x y v u Q I rx ry h hs
 obtain ⟨d,z,rfl,g,q⟩:=h
 cases rx
 refine tail_any (ops:=[.ref d,u]) (dg_typeW I g) PySem.F.slot_dict_getitem.lookup ?_ hs
 rcases g with ⟨kvs,k,e,rfl,l⟩ | ⟨ti,kvs,k,b,e,hk,rfl,kb,l⟩
 ·obtain ⟨t,rfl⟩:=(show ∃t,u=Value.int k t from ry)
  obtain ⟨ns,_,vs,rel,dd⟩:=c_B I.hok e
  obtain ⟨w',hw,rw'⟩:=RelO.some_of (v:=z) (o:=valueAt vs k) (by rw [l];exact rel.val k)
  exact wpAny_getItem_of (knd:=intKind X.prog X.w) (k:=k) (c_S k t) dd.mapOf hw ⟨z,H,I.tok _,rw',q⟩
 ·cases ry
  exact h_get (D:=dK X.prog X.w ti) hu I e hk kb l fun w' s' I' rw'=>⟨z,H,I',rw',q⟩
def rSetW (P:Program) (w:World):TSet:=fun o i v H Q=>∃d H',o=.ref d/\DPutW P w H d i v H'/\Q H'
theorem set_dictW (hu:X.A.units+64<cLine):PSet X (rSetW X.prog X.w):=by
 intro pins s σ H o i v ov iv u Q I ro ri rv h
 obtain ⟨d,H',rfl,g,q⟩:=h
 cases ro
 rcases g with ⟨kvs,k,e,rfl,hn,hl,rfl⟩ | ⟨ti,kvs,k,b,e,hk,rfl,kb,hn,hl,rfl⟩
 ·obtain ⟨t,rfl⟩:=(show ∃t,iv=Value.int k t from ri)
  obtain ⟨ns,hz,vs,rel,dd⟩:=c_B I.hok e
  refine wpAny_setItem_pairs (knd:=intKind X.prog X.w) (k:=k) (hsz:=by rw [<- rel.length];exact hz) (c_S k t) dd fun h' dd' hs=>⟨_,?_,q⟩
  have qn:=RelO.none_of (show RelO none (valueAt vs k) by rw [<- hn];exact rel.val k)
  rw [b_I qn] at dd'
  exact b_F I (by rw [e];exact True.intro) hs (let ⟨o,_,_,q,_⟩:=dd';⟨o,q⟩) (kd_ok ns (by rw [List.length_append];exact hl) (d_a rel rv) dd')
 ·cases ri
  exact h_set (D:=dK X.prog X.w ti) hu I e hk kb hn hl rv fun s' I'=>⟨_,I',q⟩
def newW (P:Program) (w:World) (d:Addr):TK->HO
 | .i=>kdO (intKind P w) d []
 | k=>hdO (dK P w k) d []
theorem newW_ok (h:Heap) (hb:sysModules<h.objs.size) (k:TK):b_b P w H (h.push { cls:=.type "dict",data:=.dict #[] }) h.objs.size (newW P w h.objs.size k):=by
 have ns:(h.objs.size==sysModules)=false:=beq_eq_false_iff_ne.mpr (Ne.symm (Nat.ne_of_lt hb))
 cases k with
 | i=>exact kd_ok (knd:=intKind P w) ns (Nat.zero_le _) .nil (Heap.DictOf.new h)
 | t=>exact hd_ok (D:=dK P w .t) ns (Nat.zero_le _) .nil (Heap.DictOfH.new h)
 | s=>exact hd_ok (D:=dK P w .s) ns (Nat.zero_le _) .nil (Heap.DictOfH.new h)
theorem newW_ne (h:k≠.i):newW P w d k=hdO (dK P w k) d []:=by
 cases k with
 | i=>exact absurd rfl h
 | _=>rfl
def tWOne (P:Program) (w:World) (tk tv:TE):TE:=fun σ H Q=>∃ti:TK,∀p,H p=none->tk σ (upd H p (newW P w p ti)) fun x H1=>tv σ H1 fun y H2=>H2 p=some (newW P w p ti)/\
 ((ti=.i/\∃k,x=.int k/\Q (.ref p) (upd H2 p (kdO (intKind P w) p [(k,y)])))\/(ti≠.i/\∃b k,x=.ref b/\(dK P w ti).kin H2 k b/\Q (.ref p) (upd H2 p (hdO (dK P w ti) p [(k,b,y)]))))
theorem pe_wone (hu:X.A.units+64<cLine) (hk:PE X k tk) (hv:PE X v tv):PE X (.Dict [some k] [v] pos) (tWOne X.prog X.w tk tv):=by
 intro pins s σ H Q I h
 obtain ⟨ti,h⟩:=h
 have hn:=I.hok.fresh (Nat.le_refl s.heap.objs.size)
 have I1:=I.laid (a:=s.heap.objs.size) (o:=newW X.prog X.w s.heap.objs.size ti) (t':=s.toks) (fun _ _ q=>Heap.get?_push_of_some { cls:=.type "dict",data:=.dict #[] } q) (Nat.le_refl _) (newW_ok s.heap I.bigS ti)
 have hsh:=zip_pairTrees [some k] [v] X.env pos rfl rfl
 rw [arm_eval_Dict,hsh,dictDisplay_pairs (pairTrees [some k] [v] X.env pos) (by intro z;cases z) (by show 1<17;decide)]
 refine wpAny_bind (wpAny_standAt (wpAny_bind ?_))
 unfold subDict
 refine wpAny_bind (wpAny_alloc (wpAny_bind (wpAny_holding ?_)))
 rw [if_pos (show (pairTrees [some k] [v] X.env pos).length≤15 by show 1≤15;decide)]
 refine wpAny_bind (pairTrees_cons_walk (thn (hk pins _ σ _ _ I1 (h _ hn)) fun u s1 ⟨x,H1,I2,rx,q1⟩=>thn (hv pins s1 σ H1 _ I2 q1) fun r s2 ⟨y,H2,I3,ry,hp,q2⟩=>pairTrees_nil_walk (wpAny_holding (wpAny_bind ?_))))
 rw [List.forIn_cons]
 rcases q2 with ⟨rfl,k,rfl,q2⟩ | ⟨ht,b,k,rfl,kb,q2⟩
 ·obtain ⟨t,rfl⟩:=(show ∃t,u=Value.int k t from rx)
  obtain ⟨ns,hz,vs,rel,dd⟩:=c_B (knd:=intKind X.prog X.w) (kvs:=[]) I3.hok hp
  refine wpAny_bind (wpAny_bind (wpAny_dictSet_pairs (knd:=intKind X.prog X.w) (k:=k) (hsz:=by rw [<- rel.length];exact hz) (c_S k t) dd fun h' dd' hs=>wpAny_pure ?_))
  dsimp only
  rw [List.forIn_nil]
  refine wpAny_pure (wpAny_pure (wpAny_pure (wpAny_pure ⟨.ref s.heap.objs.size,_,?_,rfl,q2⟩)))
  have qn:=RelO.none_of (show RelO none (valueAt vs k) from rel.val k)
  rw [b_I qn] at dd'
  exact b_F I3 (by rw [hp];exact True.intro) hs (let ⟨o,_,_,q,_⟩:=dd';⟨o,q⟩) (kd_ok ns (a_g (by show 1≤16777216;decide)) (d_a (kvs:=[]) rel ry) dd')
 ·cases rx
  rw [newW_ne ht] at hp
  obtain ⟨ns,hz,xs,rel,dd⟩:=hd_of (D:=dK X.prog X.w ti) (kvs:=[]) I3.hok hp (fun x hx=>by simp at hx)
  refine wpAny_bind (wpAny_bind (wpAny_dictSet_heap (knd:=(dK X.prog X.w ti).knd) (hsz:=by rw [<- Paired.length rel];exact hz) ((dK X.prog X.w ti).room hu).2 ((dK X.prog X.w ti).ok kb I3.hok) dd fun h' dd' hs=>wpAny_pure ?_))
  dsimp only
  rw [List.forIn_nil]
  refine wpAny_pure (wpAny_pure (wpAny_pure (wpAny_pure ⟨.ref s.heap.objs.size,_,?_,rfl,q2⟩)))
  exact h_new (D:=dK X.prog X.w ti) (kvs:=[]) I3 hp ns (a_g (by show 1≤16777216;decide)) rel rfl ry dd' hs
end
end L2
namespace RA
open PySem L2
def TkIn:TK->Hp->List Nat->Addr->Prop
 | .s,H,k,b=>∃(x:Nat) (ks:List Nat),k=x::ks/\H b=some (.tup [.int (x:Int),.str (tx ks)])
 | _,H,k,b=>H b=some (.tup (intsV k))
def ThV (ti:TK) (H:Hp) (k:List Nat) (v:V):Prop:=if ti=.i then ∃n:Nat,k=[n]/\v=.int (n:Int) else ∃b,v=.ref b/\TkIn ti H k b
theorem TkIn.same (h:TkIn ti H k b) (s:∀b xs,H b=some (.tup xs)->H' b=some (.tup xs)):TkIn ti H' k b:=by
 cases ti with
 | s=>
  obtain ⟨x,ks,e,e1⟩:=h
  exact ⟨x,ks,e,s _ _ e1⟩
 | _=>exact s _ _ h
theorem zs_intsV (k:List Nat):(zs k).map V.int=intsV k:=by rw [zs,intsV,List.map_map];rfl
theorem TkIn.kin (h:TkIn ti H k b):(dK P w ti).kin H (zs k) b:=by
 have tin:∀{ks:List Nat} {c:Addr},H c=some (.tup (intsV ks))->TIn H (zs ks) c:=fun e=>by unfold TIn;rw [zs_intsV];exact e
 cases ti with
 | s=>
  obtain ⟨x,ks,rfl,e1⟩:=h
  exact ⟨(x:Int),ks,rfl,e1⟩
 | _=>exact tin h
theorem ThV.same (h:ThV ti H k v) (s:∀b xs,H b=some (.tup xs)->H' b=some (.tup xs)):ThV ti H' k v:=by
 unfold ThV at h ⊢
 split
 ·rename_i c
  rw [if_pos c] at h
  exact h
 ·rename_i c
  rw [if_neg c] at h
  obtain ⟨b,e1,e2⟩:=h
  exact ⟨b,e1,e2.same s⟩
def kvI:List (List Nat)->Nat->List (Int×V)
 | [],_=>[]
 | k::r,n=>(((k.headD 0:Nat):Int),.int (n:Int))::kvI r (n+1)
theorem kvI_len:∀(ts:List (List Nat)) (n:Nat),(kvI ts n).length=ts.length
 | [],_=>rfl
 | k::r,n=>by rw [kvI,List.length_cons,List.length_cons,kvI_len r]
theorem kvI_snoc (k:List Nat):∀(ts:List (List Nat)) (n:Nat),kvI (ts++[k]) n=kvI ts n++[(((k.headD 0:Nat):Int),.int ((n+ts.length:Nat):Int))]
 | [],n=>rfl
 | t::r,n=>by
  rw [List.cons_append,kvI,kvI_snoc k r (n+1),kvI,List.cons_append,List.length_cons,show n+1+r.length=n+(r.length+1) by omega]
def ixO (ts:List (List Nat)) (k:List Nat):Option Nat:=if k∈ts then some (ts.idxOf k) else none
theorem f_U (h:t≠k):ixO (t::r) k=(ixO r k).map (·+1):=by
 unfold ixO
 by_cases hk:k∈r
 ·rw [if_pos (List.mem_cons_of_mem _ hk),if_pos hk,List.idxOf_cons,show (t==k)=false from beq_eq_false_iff_ne.mpr h]
  rfl
 ·rw [if_neg (fun z=>(List.mem_cons.mp z).elim (fun y=>h y.symm) hk),if_neg hk]
  rfl
theorem kvI_val {m:Nat}:∀{ts:List (List Nat)} {n:Nat},(∀t∈ts,∃a,t=[a])->valV (kvI ts n) (m:Int)=(ixO ts [m]).map fun (i:Nat)=>V.int ((n+i:Nat):Int)
 | [],_,_=>rfl
 | t::r,n,h=>by
  obtain ⟨a,rfl⟩:=h t (by simp)
  by_cases e:a=m
  ·subst e
   rw [kvI,d_Q (k:=(a:Int)) (show ((([a]:List Nat).headD 0:Nat):Int)=(a:Int) from rfl),ixO,if_pos (by simp),List.idxOf_cons_self]
   rfl
  ·rw [kvI,d_f (fun z=>e (Int.ofNat.inj z)),kvI_val (n:=n+1) (fun t ht=>h t (by simp [ht])),f_U (fun z=>e (by injection z))]
   cases ixO r [m] with
   | none=>rfl
   | some i=>
    show some (V.int ((n+1+i:Nat):Int))=some (V.int ((n+(i+1):Nat):Int))
    rw [show n+1+i=n+(i+1) by omega]
def RmAt (P:Program) (w:World) (H:Hp) (d:Addr) (ti:TK) (ts:List (List Nat)):Prop:=
 if ti=.i then H d=some (kdO (intKind P w) d (kvI ts 0))/\∀t∈ts,∃a,t=[a]
 else ∃kvs:List (List Int×Addr×V),H d=some (hdO (dK P w ti) d kvs)/\(∀x∈kvs,(dK P w ti).kin H x.1 x.2.1)/\kvs.length=ts.length/\∀(i:Nat) (k:List Nat) (x:List Int×Addr×V),ts[i]?=some k->kvs[i]?=some x->x.1=zs k/\x.2.2=.int (i:Int)
theorem valH_of:∀{n:Nat},kvs.length=ts.length->(∀(i:Nat) (k:List Nat) (x:List Int×Addr×V),ts[i]?=some k->kvs[i]?=some x->x.1=zs k/\x.2.2=.int ((n+i:Nat):Int))->valH kvs (zs k)=(ixO ts k).map fun (i:Nat)=>V.int ((n+i:Nat):Int):=by
 induction kvs generalizing ts with
 | nil=>
  intro n hl h
  cases ts with
  | nil=>rfl
  | cons t r=>cases hl
 | cons x xs ih=>
  intro n hl h
  cases ts with
  | nil=>cases hl
  | cons t r=>
   obtain ⟨e1,e2⟩:=h 0 t x rfl rfl
   by_cases e:t=k
   ·subst e
    rw [ixO,if_pos (by simp),List.idxOf_cons_self]
    simp [valH,List.find?_cons,e1,e2]
   ·have e':¬ x.1=zs k:=fun z=>e (zs_inj (e1.symm.trans z))
    have a1:valH (x::xs) (zs k)=valH xs (zs k):=by simp [valH,List.find?_cons,e']
    rw [a1,ih (n:=n+1) (by simpa using hl) (fun i k' x' h1 h2=>by
     obtain ⟨g1,g2⟩:=h (i+1) k' x' h1 h2
     exact ⟨g1,by rw [g2,show n+(i+1)=n+1+i by omega]⟩),f_U e]
    cases ixO r k with
    | none=>rfl
    | some i=>
     show some (V.int ((n+1+i:Nat):Int))=some (V.int ((n+(i+1):Nat):Int))
     rw [show n+1+i=n+(i+1) by omega]
section
variable {P:Program} {w:World} {H:Hp} {d:Addr} {ti:TK} {ts:List (List Nat)} {k:List Nat} {v:V}
theorem RmAt.get (h:RmAt P w H d ti ts) (hv:ThV ti H k v):DGetW P w H d v ((ixO ts k).map fun (i:Nat)=>V.int (i:Int)):=by
 unfold RmAt at h
 unfold ThV at hv
 by_cases c:ti=.i
 ·subst c
  rw [if_pos rfl] at h hv
  obtain ⟨n,rfl,rfl⟩:=hv
  refine .inl ⟨_,_,h.1,rfl,?_⟩
  rw [kvI_val h.2]
  simp
 ·rw [if_neg c] at h hv
  obtain ⟨kvs,h1,h2,h3,h4⟩:=h
  obtain ⟨b,rfl,hb⟩:=hv
  refine .inr ⟨ti,kvs,zs k,b,h1,h2,rfl,hb.kin,?_⟩
  rw [valH_of (n:=0) h3 (fun i k x a b=>by rw [Nat.zero_add];exact h4 i k x a b)]
  simp
theorem RmAt.put (h:RmAt P w H d ti ts) (hv:ThV ti H k v) (hn:k∉ts) (hl:ts.length<sizeLine):∃ob,DPutW P w H d v (.int (ts.length:Int)) (L2.upd H d ob)/\RmAt P w (L2.upd H d ob) d ti (ts++[k]):=by
 have hno:ixO ts k=none:=if_neg hn
 have hd:∀b xs,H b=some (.tup xs)->∀ φ,H d=some (.ext φ)->∀ob,L2.upd H d ob b=some (.tup xs):=fun b xs e φ e2 ob=>by
  rw [upd_ne (ne_of e e2 (by intro z;cases z))]
  exact e
 unfold RmAt at h
 unfold ThV at hv
 by_cases c:ti=.i
 ·subst c
  rw [if_pos rfl] at h hv
  obtain ⟨n,rfl,rfl⟩:=hv
  refine ⟨kdO (intKind P w) d (kvI (ts++[[n]]) 0),.inl ⟨_,_,h.1,rfl,?_,by rw [kvI_len];exact hl,?_⟩,?_⟩
  ·rw [kvI_val h.2,hno]
   rfl
  ·rw [kvI_snoc,Nat.zero_add]
   rfl
  ·unfold RmAt
   rw [if_pos rfl]
   refine ⟨upd_same,fun t ht=>?_⟩
   rcases List.mem_append.mp ht with z | z
   ·exact h.2 t z
   ·exact ⟨n,List.mem_singleton.mp z⟩
 ·rw [if_neg c] at h hv
  obtain ⟨kvs,h1,h2,h3,h4⟩:=h
  obtain ⟨b,rfl,hb⟩:=hv
  have hb':(dK P w ti).kin H (zs k) b:=hb.kin
  have hst:∀ob b xs,H b=some (.tup xs)->L2.upd H d ob b=some (.tup xs):=fun ob b xs e=>hd b xs e _ h1 ob
  refine ⟨hdO (dK P w ti) d (kvs++[(zs k,b,.int (ts.length:Int))]),.inr ⟨ti,kvs,zs k,b,h1,h2,rfl,hb',?_,by rw [h3];exact hl,rfl⟩,?_⟩
  ·rw [valH_of (n:=0) h3 (fun i k x a b=>by rw [Nat.zero_add];exact h4 i k x a b),hno]
   rfl
  ·unfold RmAt
   rw [if_neg c]
   refine ⟨_,upd_same,fun x hx=>?_,by rw [List.length_append,List.length_append,h3];rfl,fun i k' x hk hx=>?_⟩
   ·rcases List.mem_append.mp hx with z | z
    ·exact (dK P w ti).stay (hst _) (h2 x z)
    ·rw [List.mem_singleton.mp z]
     exact (dK P w ti).stay (hst _) hb'
   ·by_cases hi:i<ts.length
    ·rw [List.getElem?_append_left hi] at hk
     rw [List.getElem?_append_left (by rw [h3];exact hi)] at hx
     exact h4 i k' x hk hx
    ·rw [List.getElem?_append_right (Nat.le_of_not_lt hi)] at hk
     rw [List.getElem?_append_right (by rw [h3];exact Nat.le_of_not_lt hi),h3] at hx
     have hz:i - ts.length=0:=by
      have:=(List.getElem?_eq_some_iff.mp hk).1
      simp at this
      omega
     rw [hz] at hk hx
     cases hk
     cases hx
     exact ⟨rfl,by rw [show i=ts.length by omega]⟩
theorem RmAt.same (h:RmAt P w H d ti ts) (s:∀b o,H b=some o->(b=d\/∃xs,o=.tup xs)->H' b=some o):RmAt P w H' d ti ts:=by
 unfold RmAt at h ⊢
 by_cases c:ti=.i
 ·subst c
  rw [if_pos rfl] at h ⊢
  exact ⟨s _ _ h.1 (.inl rfl),h.2⟩
 ·rw [if_neg c] at h ⊢
  obtain ⟨kvs,h1,h2,h3,h4⟩:=h
  exact ⟨kvs,s _ _ h1 (.inl rfl),fun x hx=>(dK P w ti).stay (fun b xs e=>s _ _ e (.inr ⟨_,rfl⟩)) (h2 x hx),h3,h4⟩
end
end RA
namespace L2
open PySem PySem.Spec PyProof.Rows
namespace ZP
section
variable {prog:Program} {w:World} {A:Around} {E:Value->Shared->Prop} {s:Shared} {z TI TO i1 i2 T:Addr} {f1 f2:List Addr} {n1 n2 k:Nat} {P1 P2:Nat->Value->Prop} {S1 S2:Nat->Heap->Prop} {b1:Bool} {oT:Obj}
end
section
variable {prog:Program} {w:World} {A:Around} {R:Result->Shared->Prop} {z TI TO i1 i2 S:Addr} {f1 f2:List Addr} {n:Nat} {P1 P2:Nat->Value->Prop} {S1 S2:Nat->Heap->Prop}
end
section
variable {prog:Program} {w:World} {A:Around} {E:Value->Shared->Prop} {z TI TO i1 i2:Addr} {f1 f2:List Addr} {n:Nat} {P1 P2:Nat->Value->Prop} {S1 S2:Nat->Heap->Prop}
end
end ZP
end L2
namespace L2
open PySem PySem.Spec PyProof.Rows
section
variable {X:Cx} {pins:List (Addr×Obj)} {σ:St} {H H':Hp} {s:Shared} {h':Heap}
end
theorem has_uniq {d:Sd} (a:d.has H xs) (b:d.has H ys):xs=ys:=by
 cases d with
 | tx x k=>exact (show xs=_ from a).trans (show ys=_ from b).symm
 | tp c=>
  have a:H c=_:=a
  have b:H c=_:=b
  rw [a] at b
  cases b
  rfl
 | ls c=>
  have a:H c=_:=a
  have b:H c=_:=b
  rw [a] at b
  cases b
  rfl
theorem for_zipG {g:TG} {tb:TS} {D:Ends} (hl:xs.length=ys.length) (Pv:Nat->St->Hp->Prop) (h0:Pv 0 σ H) (hh:∀i σ H,Pv i σ H->d1.has H xs/\d2.has H ys)
  (hs:∀i x y p σ H,xs[i]?=some x->ys[i]?=some y->H p=none->Pv i σ H->g (.ref p) σ (upd H p (.tup [x,y])) fun σ2 H2=>tb { D with nx:=Pv (i+1),ct:=Pv (i+1),bk:=D.nx } σ2 H2)
  (hd:∀ σ H,Pv xs.length σ H->D.nx σ H):
  ∃W:Nat->Nat->St->Hp->Prop,(∃m,W 0 m σ H)/\∀i m σ H,W i m σ H->
   ((Itg d1 d2).stop i H/\D.nx σ H)\/((Itg d1 d2).go i H/\∃N:St->Hp->Prop,(∀ σ' H',N σ' H'->∃m',m'<m/\W (i+1) m' σ' H')/\∀v H',(Itg d1 d2).yld i H v H'->g v σ H' fun σ2 H2=>tb { D with nx:=N,ct:=N,bk:=D.nx } σ2 H2):=by
 refine ⟨fun i m σ H=>m=xs.length - i/\i≤xs.length/\Pv i σ H,⟨xs.length,by simp,Nat.zero_le _,h0⟩,?_⟩
 rintro i m σ H ⟨rfl,hi,p⟩
 obtain ⟨h1,h2⟩:=hh i σ H p
 by_cases hlt:i<xs.length
 ·refine .inr ⟨⟨xs,ys,xs[i],ys[i]'(by omega),h1,h2,List.getElem?_eq_getElem _,List.getElem?_eq_getElem _⟩,Pv (i+1),fun σ' H' p'=>⟨xs.length - (i+1),by omega,rfl,hlt,p'⟩,fun v H' q=>?_⟩
  obtain ⟨a,xs',ys',x,y,e1,e2,e3,e4,rfl,e5,rfl⟩:=q
  have:=has_uniq e1 h1
  have:=has_uniq e2 h2
  subst xs' ys'
  exact hs i x y a σ H e3 e4 e5 p
 ·have e:i=xs.length:=by omega
  subst e
  exact .inl ⟨⟨xs,ys,h1,h2,hl,rfl⟩,hd σ H p⟩
theorem zips_of (h:H gs=some (.tup xs)\/H gs=some (.lst xs)) (hR:∀d2:Sd,(∀H':Hp,H' gs=H gs->d2.has H' xs)->R (.tx x) d2):Zips H (.str x) (.ref gs) R:=by
 rcases h with h | h
 ·exact .inl ⟨x,gs,xs,rfl,rfl,h,hR (.tp gs) fun H' e=>show H' gs=_ from e.trans h⟩
 ·exact .inr (.inl ⟨x,gs,xs,rfl,rfl,h,hR (.ls gs) fun H' e=>show H' gs=_ from e.trans h⟩)
structure FunD (K:PySem.W.Frag) (x qual:Str) (st:Stmt) (f:Addr) (fd:FuncData):Prop where
 ex:∃(oc:Value) (od:Option Addr) (dV kV doc pm:Value) (an:Option Addr) (cdv ct:Value) (osl:Array (Option Value)),
  fd=PySem.W.fnOf x qual (a_j st) (a_h st) (a_d st) dV kV doc pm an cdv ct/\K.lookup f=some ⟨oc,od,.func fd,osl⟩/\PySem.W.codeIn K cdv qual=true
 kp:PySem.W.keepIn K (.ref f)=true
theorem FunD.ok {P:Program} {w:World} {K:PySem.W.Frag} {st:Stmt} (F:FunD K x qual st f fd) (S:a_r N ps (a_d st)) (len:∀vs H Q E,sp vs H Q E->vs.length=ps.length)
  (hbody:∀(cdv:Value) (A:Around) (outer:List Env) (s:Shared) (H:Hp) (vs:List V) (Q:VK) (E:XK),Room k (A.deeper (envOfC qual (a_d st) s.heap.objs.size f cdv))->sp vs H Q E->
   ∃t,PSs (cxOf CX0 P w K mg base N qual (a_d st) f cdv A outer s H E).nox (a_h st) t/\t { nx:=fun _ H'=>Q .non H',rt:=Q } (start N vs) H):FnOk P w K mg base CX0 (k+1) f fd ps sp:=by
 obtain ⟨oc,od,dV,kV,doc,pm,an,cdv,ct,osl,rfl,lk,hcd⟩:=F.ex
 refine fn_of lk hcd S len fun A outer s H vs Q E hr hsp=>?_
 obtain ⟨t,h,q⟩:=hbody cdv A outer s H vs Q E hr hsp
 exact ⟨t,h.nox,q⟩
theorem fn_code {P:Program} {w:World} {K:PySem.W.Frag} {mg:Str->Option Value} {base:Heap} {st:Stmt} {oc dV kV doc pm ct:Value}
  (lk:K.lookup f=some ⟨oc,od,.func (PySem.W.fnOf x qual (a_j st) (a_h st) (a_d st) dV kV doc pm an (.ref c) ct),osl⟩) (hcd:PySem.W.codeIn K (.ref c) qual=true) (S:a_r N ps (a_d st)) (len:∀vs H Q E,sp vs H Q E->vs.length=ps.length)
  (hbody:∀(A:Around) (outer:List Env) (s:Shared) (H:Hp) (vs:List V) (Q:VK) (E:XK),Room k (A.deeper (envOfC qual (a_d st) s.heap.objs.size f (.ref c)))->sp vs H Q E->
   ∃t,PSs (cxOf CX0 P w K mg base N qual (a_d st) f (.ref c) A outer s H E) (a_h st) t/\t { nx:=fun _ H'=>Q .non H',rt:=Q } (start N vs) H):
  FnOk P w K mg base CX0 (k+1) f (PySem.W.fnOf x qual (a_j st) (a_h st) (a_d st) dV kV doc pm an (.ref c) ct) ps sp:=fn_of lk hcd S len hbody
end L2
namespace RA
open PySem L2
structure e_L (H:Hp) (cW wk:Addr) (L:List Nat) (t wd y m:Addr):Prop where
 ex:∃dx,H wk=some (.ins cW dx [("letters",.str (tx L)),("things",.ref t),("words",.ref wd),("ways",.ref y),("marks",.ref m)])
def wordsV (ws:List (List Nat)):List V:=ws.map fun w=>V.str (tx w)
def c_K (ti:TK) (H:Hp) (ks:List (List Nat)) (vs:List V):Prop:=vs.length=ks.length/\∀(i:Nat) (k:List Nat) (v:V),ks[i]?=some k->vs[i]?=some v->ThV ti H k v
theorem c_K.same (h:c_K ti H ks vs) (s:∀b xs,H b=some (.tup xs)->H' b=some (.tup xs)):c_K ti H' ks vs:=⟨h.1,fun i k v a b=>(h.2 i k v a b).same s⟩
theorem c_K.snoc (h:c_K ti H ks vs) (hv:ThV ti H k v):c_K ti H (ks++[k]) (vs++[v]):=by
 refine ⟨by rw [List.length_append,List.length_append,h.1];rfl,fun i k' v' a b=>?_⟩
 by_cases hi:i<ks.length
 ·rw [List.getElem?_append_left hi] at a
  rw [List.getElem?_append_left (by rw [h.1];exact hi)] at b
  exact h.2 i k' v' a b
 ·rw [List.getElem?_append_right (Nat.le_of_not_lt hi)] at a
  rw [List.getElem?_append_right (by rw [h.1];exact Nat.le_of_not_lt hi),h.1] at b
  have hz:i - ks.length=0:=by
   have:=(List.getElem?_eq_some_iff.mp a).1
   simp at this
   omega
  rw [hz] at a b
  cases a
  cases b
  exact hv
def WRows (H:Hp) (rows:List Addr) (R:List (List Nat)):Prop:=rows.length=R.length/\∀(i:Nat) (a:Addr) (r:List Nat),rows[i]?=some a->R[i]?=some r->H a=some (.lst (intsV r))
structure e_K (g:List Nat->Nat->List Nat) (nL:Nat) (ks:List (List Nat)) (R:List (List Nat)):Prop where
 row:∀(r:Nat) (row:List Nat) (k:List Nat),R[r]?=some row->ks[r]?=some k->row.length=nL/\∀(q x:Nat),row[q]?=some x->ks[x]?=some (g k q)
def spGoals (ti:TK) (L:List Nat) (g:List Nat->Nat->List Nat) (U:List (List Nat)) (Rest:Hp->Prop):Sp:=fun vs H Q _=>∃k v,vs=[v]/\ThV ti H k v/\k∈U/\Rest H/\
 ∀gs xs H',Same H H'->(H' gs=some (.tup xs)\/(H gs=none/\H' gs=some (.lst xs)))->xs.length=L.length->(∀(q:Nat) (x:V),xs[q]?=some x->ThV ti H' (g k q) x)->Q (.ref gs) H'
def spMark (ti:TK) (mk:List Nat->Bool) (U:List (List Nat)) (Rest:Hp->Prop):Sp:=fun vs H Q _=>∃k v,vs=[v]/\ThV ti H k v/\k∈U/\Rest H/\Q (.bl (mk k)) H
def mostV:Option Nat->V
 | none=>.non
 | some n=>.int (n:Int)
def sp_winit (cW:Addr):Sp:=fun vs H Q _=>∃x dx L v,vs=[.ref x,.str (tx L),v]/\H x=some (.ins cW dx [])/\
 ∀t wd y m H',t≠wd->t≠y->t≠m->wd≠y->wd≠m->y≠m->H t=none->H wd=none->H y=none->H m=none->(∀b o,b≠x->H b=some o->H' b=some o)->e_L H' cW x L t wd y m->H' t=some (.lst [v])->H' wd=some (.lst [.str (tx [])])->H' y=some (.lst [])->H' m=some (.lst [])->Q .non H'
def d_Z (cW:Addr) (ti:TK) (L:List Nat) (g:List Nat->Nat->List Nat) (mk:List Nat->Bool) (U:List (List Nat)) (Rest:Hp->Prop) (fg fm:Addr):Sp:=fun vs H Q _=>∃(s:List Nat) (sv:V) (most:Option Nat),vs=[.str (tx L),sv,.ref fg,.ref fm,mostV most]/\Let L/\ThV ti H s sv/\s∈U/\(∀k∈U,∀q,q<L.length->g k q∈U)/\U.length≤100000/\Rest H/\
 ∀(wk t wd y m:Addr) (ks:List (List Nat)) (vks:List V) (ws:List (List Nat)) (rows:List Addr) (R:List (List Nat)) (B:List Bool) (H':Hp),Same H H'->e_L H' cW wk L t wd y m->H' t=some (.lst vks)->c_K ti H' ks vks->H' wd=some (.lst (wordsV ws))->H' y=some (.lst (rows.map V.ref))->WRows H' rows R->H' m=some (.lst (B.map V.bl))->
  Bf g L s ks ws R.length 0->e_K g L.length ks R->B.length=R.length->(∀(r:Nat) (k:List Nat) (b:Bool),ks[r]?=some k->B[r]?=some b->b=mk k)->(∀k∈ks,k∈U)->ks.length≤U.length->(R.length=ks.length\/∃n,most=some n/\n<ks.length)->Q (.ref wk) H'
theorem d_G (h:n≤100000):n<sizeLine:=by rw [sizeLine_eq];omega
theorem iteNI {A B:Prop} (h:A):if (!decide (V.int n=V.non))=true then A else B:=by
 rw [decide_eq_false (fun z=>by cases z)]
 exact iteT h
structure WI (P:Program) (w:World) (H0 H:Hp) (cW:Addr) (ti:TK) (L:List Nat) (wk t wd y m d:Addr) (ks:List (List Nat)) (vks:List V) (ws:List (List Nat)) (rows:List Addr) (R:List (List Nat)) (B:List Bool):Prop where
 sm:Same H0 H
 obj:e_L H cW wk L t wd y m
 ht:H t=some (.lst vks)
 th:c_K ti H ks vks
 hw:H wd=some (.lst (wordsV ws))
 hy:H y=some (.lst (rows.map V.ref))
 wr:WRows H rows R
 hm:H m=some (.lst (B.map V.bl))
 rm:RmAt P w H d ti ks
 n1:H0 t=none
 n2:H0 wd=none
 n3:H0 y=none
 n4:H0 m=none
 n5:H0 d=none
 d1:t≠wd
 d2:t≠y
 d3:t≠m
 d4:wd≠y
 d5:wd≠m
 d6:y≠m
 e1:d≠t
 e2:d≠wd
 e3:d≠y
 e4:d≠m
 e5:d≠wk
 nr:∀a∈rows,a≠t/\a≠wd/\a≠y/\a≠m/\a≠d
section
variable {P:Program} {w:World} {H0 H:Hp} {cW:Addr} {ti:TK} {L:List Nat} {wk t wd y m d:Addr} {ks:List (List Nat)} {vks:List V} {ws:List (List Nat)} {rows:List Addr} {R:List (List Nat)} {B:List Bool}
theorem WI.any (h:WI P w H0 H cW ti L wk t wd y m d ks vks ws rows R B) (s:Same H H'):WI P w H0 H' cW ti L wk t wd y m d ks vks ws rows R B:=
 { h with
  sm:=h.sm.trans s
  obj:=let ⟨dx,e⟩:=h.obj.ex;⟨dx,s _ _ e⟩
  ht:=s _ _ h.ht
  th:=h.th.same fun b xs e=>s _ _ e
  hw:=s _ _ h.hw
  hy:=s _ _ h.hy
  wr:=⟨h.wr.1,fun i a r h1 h2=>s _ _ (h.wr.2 i a r h1 h2)⟩
  hm:=s _ _ h.hm
  rm:=h.rm.same fun b o e _=>s _ _ e }
theorem WI.beside (h:WI P w H0 H cW ti L wk t wd y m d ks vks ws rows R B) (ha:H a=some (.lst xs)) (h0:H0 a=none) (a1:a≠t) (a2:a≠wd) (a3:a≠y) (a4:a≠m) (a5:a≠d) (a6:a∉rows):WI P w H0 (upd H a o) cW ti L wk t wd y m d ks vks ws rows R B:=by
 have kp:∀{b:Addr} {u:HO},H b=some u->b≠a->upd H a o b=some u:=fun e hb=>by rw [upd_ne hb];exact e
 have ktup:∀b zs,H b=some (.tup zs)->upd H a o b=some (.tup zs):=fun b zs e=>kp e (ne_of e ha (by intro z;cases z))
 exact { h with
  sm:=Same.set h.sm h0
  obj:=let ⟨dx,e⟩:=h.obj.ex;⟨dx,kp e (ne_of e ha (by intro z;cases z))⟩
  ht:=kp h.ht (Ne.symm a1)
  th:=h.th.same ktup
  hw:=kp h.hw (Ne.symm a2)
  hy:=kp h.hy (Ne.symm a3)
  wr:=⟨h.wr.1,fun i b r h1 h2=>kp (h.wr.2 i b r h1 h2) fun z=>a6 (by rw [<- z];exact List.mem_of_getElem? h1)⟩
  hm:=kp h.hm (Ne.symm a4)
  rm:=h.rm.same fun b u e hb=>by
   rcases hb with rfl | ⟨zs,rfl⟩
   ·exact kp e (Ne.symm a5)
   ·exact ktup b zs e }
theorem WI.new (h:WI P w H0 H cW ti L wk t wd y m d ks vks ws rows R B) (hv:ThV ti H k v) (hr:RmAt P w (upd H d ob) d ti (ks++[k])):
  WI P w H0 (upd (upd (upd H d ob) t (.lst (vks++[v]))) wd (.lst (wordsV ws++[.str (tx a)]))) cW ti L wk t wd y m d (ks++[k]) (vks++[v]) (ws++[a]) rows R B:=by
 have hd:∃ φ,H d=some (.ext φ):=by
  have hr0:=h.rm
  unfold RmAt at hr0
  by_cases c:ti=.i
  ·rw [if_pos c] at hr0;exact ⟨_,hr0.1⟩
  ·rw [if_neg c] at hr0;obtain ⟨kvs,e,_⟩:=hr0;exact ⟨_,e⟩
 obtain ⟨φ,hd⟩:=hd
 have kp:∀{b:Addr} {u:HO},H b=some u->b≠d->b≠t->b≠wd->upd (upd (upd H d ob) t (.lst (vks++[v]))) wd (.lst (wordsV ws++[.str (tx a)])) b=some u:=fun e h1 h2 h3=>by rw [upd_ne h3,upd_ne h2,upd_ne h1];exact e
 have ktup:∀b zs,H b=some (.tup zs)->upd (upd (upd H d ob) t (.lst (vks++[v]))) wd (.lst (wordsV ws++[.str (tx a)])) b=some (.tup zs):=fun b zs e=>kp e (ne_of e hd (by intro z;cases z)) (ne_of e h.ht (by intro z;cases z)) (ne_of e h.hw (by intro z;cases z))
 have e0:=h.obj.ex
 obtain ⟨dx,ew⟩:=e0
 exact { h with
  sm:=Same.set (Same.set (Same.set h.sm h.n5) h.n1) h.n2
  obj:=⟨dx,kp ew (Ne.symm h.e5) (ne_of ew h.ht (by intro z;cases z)) (ne_of ew h.hw (by intro z;cases z))⟩
  ht:=by rw [upd_ne h.d1,upd_same]
  th:=(h.th.same ktup).snoc (hv.same ktup)
  hw:=by rw [upd_same,wordsV,wordsV,List.map_append];rfl
  hy:=kp h.hy (Ne.symm h.e3) (Ne.symm h.d2) (Ne.symm h.d4)
  wr:=⟨h.wr.1,fun i b r h1 h2=>kp (h.wr.2 i b r h1 h2) (h.nr b (List.mem_of_getElem? h1)).2.2.2.2 (h.nr b (List.mem_of_getElem? h1)).1 (h.nr b (List.mem_of_getElem? h1)).2.1⟩
  hm:=kp h.hm (Ne.symm h.e4) (Ne.symm h.d3) (Ne.symm h.d5)
  rm:=hr.same fun b u e hb=>by
   rcases hb with rfl | ⟨zs,rfl⟩
   ·rw [upd_ne h.e2,upd_ne h.e1]
    exact e
   ·have hbd:b≠d:=fun z=>by
     rw [z,upd_same] at e
     have hr1:=hr
     unfold RmAt at hr1
     by_cases c:ti=.i
     ·rw [if_pos c,upd_same] at hr1;rw [e] at hr1;cases hr1.1
     ·rw [if_neg c] at hr1;obtain ⟨kvs,e2,_⟩:=hr1;rw [upd_same,e] at e2;cases e2
    rw [upd_ne hbd] at e
    exact ktup b zs e }
theorem WI.row (h:WI P w H0 H cW ti L wk t wd y m d ks vks ws rows R B) (ha:H a=some (.lst (intsV r))) (a1:a≠t) (a2:a≠wd) (a3:a≠y) (a4:a≠m) (a5:a≠d):
  WI P w H0 (upd H y (.lst (rows.map V.ref++[.ref a]))) cW ti L wk t wd y m d ks vks ws (rows++[a]) (R++[r]) B:=by
 have kp:∀{b:Addr} {u:HO},H b=some u->b≠y->upd H y (.lst (rows.map V.ref++[.ref a])) b=some u:=fun e hb=>by rw [upd_ne hb];exact e
 have ktup:∀b zs,H b=some (.tup zs)->upd H y (.lst (rows.map V.ref++[.ref a])) b=some (.tup zs):=fun b zs e=>kp e (ne_of e h.hy (by intro z;cases z))
 have e0:=h.obj.ex
 obtain ⟨dx,ew⟩:=e0
 exact { h with
  sm:=Same.set h.sm h.n3
  obj:=⟨dx,kp ew (ne_of ew h.hy (by intro z;cases z))⟩
  ht:=kp h.ht h.d2
  th:=h.th.same ktup
  hw:=kp h.hw h.d4
  hy:=by rw [upd_same,List.map_append];rfl
  wr:=by
   refine ⟨by rw [List.length_append,List.length_append,h.wr.1];rfl,fun i b r' h1 h2=>?_⟩
   by_cases hi:i<rows.length
   ·rw [List.getElem?_append_left hi] at h1
    rw [List.getElem?_append_left (by rw [<- h.wr.1];exact hi)] at h2
    exact kp (h.wr.2 i b r' h1 h2) (h.nr b (List.mem_of_getElem? h1)).2.2.1
   ·rw [List.getElem?_append_right (Nat.le_of_not_lt hi)] at h1
    rw [List.getElem?_append_right (by rw [<- h.wr.1];exact Nat.le_of_not_lt hi),<- h.wr.1] at h2
    have hz:i - rows.length=0:=by
     have:=(List.getElem?_eq_some_iff.mp h1).1
     simp at this
     omega
    rw [hz] at h1 h2
    cases h1
    cases h2
    exact kp ha a3
  hm:=kp h.hm (Ne.symm h.d6)
  rm:=h.rm.same fun b u e hb=>by
   rcases hb with rfl | ⟨zs,rfl⟩
   ·exact kp e h.e3
   ·exact ktup b zs e
  nr:=fun b hb=>by
   rcases List.mem_append.mp hb with z | z
   ·exact h.nr b z
   ·rw [List.mem_singleton.mp z]
    exact ⟨a1,a2,a3,a4,a5⟩ }
theorem WI.mark (h:WI P w H0 H cW ti L wk t wd y m d ks vks ws rows R B):WI P w H0 (upd H m (.lst (B.map V.bl++[.bl b]))) cW ti L wk t wd y m d ks vks ws rows R (B++[b]):=by
 have kp:∀{c:Addr} {u:HO},H c=some u->c≠m->upd H m (.lst (B.map V.bl++[.bl b])) c=some u:=fun e hb=>by rw [upd_ne hb];exact e
 have ktup:∀c zs,H c=some (.tup zs)->upd H m (.lst (B.map V.bl++[.bl b])) c=some (.tup zs):=fun c zs e=>kp e (ne_of e h.hm (by intro z;cases z))
 have e0:=h.obj.ex
 obtain ⟨dx,ew⟩:=e0
 exact { h with
  sm:=Same.set h.sm h.n4
  obj:=⟨dx,kp ew (ne_of ew h.hm (by intro z;cases z))⟩
  ht:=kp h.ht h.d3
  th:=h.th.same ktup
  hw:=kp h.hw h.d5
  hy:=kp h.hy h.d6
  wr:=⟨h.wr.1,fun i c r h1 h2=>kp (h.wr.2 i c r h1 h2) (h.nr c (List.mem_of_getElem? h1)).2.2.2.1⟩
  hm:=by rw [upd_same,List.map_append];rfl
  rm:=h.rm.same fun c u e hb=>by
   rcases hb with rfl | ⟨zs,rfl⟩
   ·exact kp e h.e4
   ·exact ktup c zs e }
end
theorem b_D (l:List Nat) (x:Nat):intsV (l++[x])=intsV l++[V.int (x:Int)]:=by simp [intsV]
theorem d_I {α:Type} {l:List α} {x y:α} {i:Nat} (h:l[i]?=some y):(l++[x])[i]?=some y:=by
 rw [List.getElem?_append_left (List.getElem?_eq_some_iff.mp h).1]
 exact h
theorem e_A {α:Type} {l:List α} {x y:α} (hi:i<l.length) (h:(l++[x])[i]?=some y):l[i]?=some y:=by
 rw [List.getElem?_append_left hi] at h
 exact h
theorem c_f {α:Type} {l:List α} {x y:α} (e:(l++[x])[i]?=some y):l[i]?=some y\/(i=l.length/\y=x):=by
 by_cases hi:i<l.length
 ·rw [List.getElem?_append_left hi] at e
  exact .inl e
 ·rw [List.getElem?_append_right (by omega)] at e
  have:i - l.length=0:=by
   have:=(List.getElem?_eq_some_iff.mp e).1
   simp at this
   omega
  rw [this] at e
  exact .inr ⟨by omega,(Option.some.inj e).symm⟩
theorem ix_get (h:k∈ts):ixO ts k=some (ts.idxOf k)/\ts[ts.idxOf k]?=some k:=⟨if_pos h,by rw [List.getElem?_eq_getElem (List.idxOf_lt_length_of_mem h),List.getElem_idxOf]⟩
structure WPu (g:List Nat->Nat->List Nat) (L s0:List Nat) (mk:List Nat->Bool) (U ks ws R:List (List Nat)) (B:List Bool) (q:Nat):Prop where
 bf:Bf g L s0 ks ws R.length q
 le:R.length≤ks.length
 ways:e_K g L.length ks R
 bl:B.length=R.length
 mks:∀(r:Nat) (k:List Nat) (b:Bool),ks[r]?=some k->B[r]?=some b->b=mk k
 sub:∀k∈ks,k∈U
 left:leftOf U ks+ks.length≤U.length
 wl:∀a∈ws,a.length≤ks.length
def d_P (g:List Nat->Nat->List Nat) (ks:List (List Nat)) (n:Nat) (r:List Nat) (q:Nat):Prop:=r.length=q/\∀(q' x:Nat) (k:List Nat),ks[n]?=some k->r[q']?=some x->ks[x]?=some (g k q')
section
variable {g:List Nat->Nat->List Nat} {L s0:List Nat} {mk:List Nat->Bool} {U ks ws R:List (List Nat)} {B:List Bool} {q n:Nat} {r a k0:List Nat}
theorem WPu.start (hs:s0∈U):WPu g L s0 mk U [s0] [[]] [] [] 0 where
 bf:=Bf.start g L s0
 le:=Nat.zero_le _
 ways:=⟨fun r row k h=>by simp at h⟩
 bl:=rfl
 mks:=fun r k b _ h=>by simp at h
 sub:=fun k hk=>by rw [List.mem_singleton.mp hk];exact hs
 left:=by
  have h1:=leftOf_lt (U:=U) (ts:=[]) hs (by simp)
  have h2:leftOf U ([]:List (List Nat))≤U.length:=List.countP_le_length
  simp at h1 ⊢
  omega
 wl:=fun a ha=>by rw [List.mem_singleton.mp ha];exact Nat.zero_le _
theorem WPu.old (h:WPu g L s0 mk U ks ws R B q) (nd:L.Nodup) (hk:ks[R.length]?=some k0) (ha:ws[R.length]?=some a) (hq:q<L.length) (hm:g k0 q∈ks):WPu g L s0 mk U ks ws R B (q+1):=
 { h with bf:=h.bf.old nd hk ha hq hm }
theorem WPu.new (h:WPu g L s0 mk U ks ws R B q) (nd:L.Nodup) (hk:ks[R.length]?=some k0) (ha:ws[R.length]?=some a) (hq:q<L.length) (hm:g k0 q∉ks) (hU:g k0 q∈U):WPu g L s0 mk U (ks++[g k0 q]) (ws++[a++[L.getD q 0]]) R B (q+1) where
 bf:=h.bf.new nd hk ha hq hm
 le:=by rw [List.length_append];exact Nat.le_trans h.le (Nat.le_add_right _ _)
 ways:=⟨fun r row k h1 h2=>by
  have hr:r<ks.length:=Nat.lt_of_lt_of_le (List.getElem?_eq_some_iff.mp h1).1 h.le
  obtain ⟨e1,e2⟩:=h.ways.row r row k h1 (e_A hr h2)
  exact ⟨e1,fun q x hx=>d_I (e2 q x hx)⟩⟩
 bl:=h.bl
 mks:=fun r k b h1 h2=>h.mks r k b (e_A (Nat.lt_of_lt_of_le (by rw [<- h.bl];exact (List.getElem?_eq_some_iff.mp h2).1) h.le) h1) h2
 sub:=fun k hk=>by
  rcases List.mem_append.mp hk with z | z
  ·exact h.sub k z
  ·rw [List.mem_singleton.mp z];exact hU
 left:=by
  have h1:=leftOf_lt (U:=U) (ts:=ks) hU hm
  have h2:=h.left
  rw [List.length_append]
  show leftOf U (ks++[g k0 q])+(ks.length+1)≤U.length
  omega
 wl:=fun b hb=>by
  rw [List.length_append]
  rcases List.mem_append.mp hb with z | z
  ·exact Nat.le_trans (h.wl b z) (Nat.le_add_right _ _)
  ·rw [List.mem_singleton.mp z,List.length_append]
   exact Nat.add_le_add_right (h.wl a (List.mem_of_getElem? ha)) 1
theorem WPu.next (h:WPu g L s0 mk U ks ws R B L.length) (hk:ks[R.length]?=some k0) (hr:d_P g ks R.length r L.length):WPu g L s0 mk U ks ws (R++[r]) (B++[mk k0]) 0 where
 bf:=by rw [List.length_append];exact h.bf.next
 le:=by rw [List.length_append];exact (List.getElem?_eq_some_iff.mp hk).1
 ways:=⟨fun i row k h1 h2=>by
  rcases c_f h1 with z | ⟨rfl,rfl⟩
  ·exact h.ways.row i row k z h2
  ·exact ⟨hr.1,fun q x hx=>hr.2 q x k h2 hx⟩⟩
 bl:=by rw [List.length_append,List.length_append,h.bl];rfl
 mks:=fun i k b h1 h2=>by
  rcases c_f h2 with z | ⟨rfl,rfl⟩
  ·exact h.mks i k b h1 z
  ·rw [h.bl,hk] at h1
   cases h1
   rfl
 sub:=h.sub
 left:=h.left
 wl:=h.wl
theorem d_P.nil:d_P g ks n [] 0:=⟨rfl,fun q x k _ h=>by simp at h⟩
theorem d_P.grow (h:d_P g ks n r q) (hn:n<ks.length):d_P g (ks++[x]) n r q:=⟨h.1,fun q' y k h1 h2=>d_I (h.2 q' y k (e_A hn h1) h2)⟩
theorem d_P.snoc (h:d_P g ks n r q) (hk:ks[n]?=some k0) (hm:g k0 q∈ks):d_P g ks n (r++[ks.idxOf (g k0 q)]) (q+1):=by
 refine ⟨by rw [List.length_append,h.1];rfl,fun q' x k h1 h2=>?_⟩
 rcases c_f h2 with z | ⟨rfl,rfl⟩
 ·exact h.2 q' x k h1 z
 ·rw [hk] at h1
  cases h1
  rw [h.1]
  exact (ix_get hm).2
end
def gW (W:List (List Nat)) (k:List Nat) (q:Nat):List Nat:=[(W.getD (k.headD 0) []).getD q 0]
def uW (W:List (List Nat)):List (List Nat):=(List.range W.length).map fun n=>[n]
def mkW (B:List Bool) (k:List Nat):Bool:=B.getD (k.headD 0) false
theorem uW_mem:[n]∈uW W↔n<W.length:=by
 unfold uW
 rw [List.mem_map]
 constructor
 ·rintro ⟨m,hm,e⟩
  injection e with e
  rw [<- e]
  exact List.mem_range.mp hm
 ·exact fun h=>⟨n,List.mem_range.mpr h,rfl⟩
theorem uW_len (W:List (List Nat)):(uW W).length=W.length:=by rw [uW,List.length_map,List.length_range]
theorem uW_one (h:k∈uW W):∃n,k=[n]/\n<W.length:=by
 unfold uW at h
 obtain ⟨n,hn,e⟩:=List.mem_map.mp h
 exact ⟨n,e.symm,List.mem_range.mp hn⟩
theorem uW_go (hM:Mach L W B):∀k∈uW W,∀q,q<L.length->gW W k q∈uW W:=fun k hk q hq=>by
 obtain ⟨n,rfl,hn⟩:=uW_one hk
 refine uW_mem.mpr ?_
 show (W.getD n []).getD q 0<W.length
 have e:W.getD n []=W[n]:=by rw [List.getD_eq_getElem?_getD,List.getElem?_eq_getElem hn];rfl
 rw [e]
 obtain ⟨h1,h2⟩:=hM.row W[n] (List.getElem_mem hn)
 have e2:W[n].getD q 0=W[n][q]'(by rw [h1];exact hq):=by rw [List.getD_eq_getElem?_getD,List.getElem?_eq_getElem (by rw [h1];exact hq)];rfl
 rw [e2]
 exact h2 _ (List.getElem_mem _)
theorem a_L.tups (h:a_L H m L W B) (s:∀b xs,H b=some (.tup xs)->H' b=some (.tup xs)):a_L H' m L W B:=by
 obtain ⟨wy,mk,rows,h1,h2,h3,h4,h5⟩:=h
 exact ⟨wy,mk,rows,s _ _ h1,s _ _ h2,s _ _ h3,h4,fun i r e=>let ⟨ws,a,b⟩:=h5 i r e;⟨ws,a,s _ _ b⟩⟩
theorem c_o (s:c_L P0 H H') (hT:b_X H P0 sites):∀b xs,H b=some (.tup xs)->H' b=some (.tup xs):=fun b xs e=>s b _ (fun z=>by
 obtain ⟨ps,hP,_⟩:=hT
 rw [z,hP] at e
 cases e) e
theorem e_e (a:c_L P0 H H1) (b:c_L P0 H1 H2):c_L P0 H H2:=fun c o hc e=>b c o hc (a c o hc e)
theorem sameX_of (s:Same H H'):c_L P0 H H':=fun b o _ e=>s b o e
def f_p (cW P0:Addr) (sites:List (Pos×Str)):Sp:=fun vs H Q _=>∃(m:Addr) (L:List Nat) (W:List (List Nat)) (B:List Bool),vs=[.ref m]/\a_L H m L W B/\Mach L W B/\b_X H P0 sites/\
 ∀(wk t wd y md:Addr) (ks:List (List Nat)) (vks:List V) (ws:List (List Nat)) (rows:List Addr) (R:List (List Nat)) (Bm:List Bool) (H':Hp),c_L P0 H H'->b_X H' P0 sites->e_L H' cW wk L t wd y md->H' t=some (.lst vks)->c_K .i H' ks vks->H' wd=some (.lst (wordsV ws))->H' y=some (.lst (rows.map V.ref))->WRows H' rows R->H' md=some (.lst (Bm.map V.bl))->
  Bf (gW W) L [0] ks ws ks.length 0->e_K (gW W) L.length ks R->R.length=ks.length->Bm.length=R.length->(∀(r:Nat) (k:List Nat) (b:Bool),ks[r]?=some k->Bm[r]?=some b->b=mkW B k)->(∀k∈ks,k∈uW W)->ks.length≤W.length->Q (.ref wk) H'
end RA
namespace L2
open PySem PySem.Spec PyProof.Rows
section
variable {X:Cx}
end
end L2
namespace RA
open PySem L2
theorem d_W:TriplesOk (#[]:Array Value).toList:=trivial
theorem c_h (h:b_X H P0 sites) (s:Same H H'):b_X H' P0 sites:=by
 obtain ⟨ps,hP,h2,h3⟩:=h
 exact ⟨ps,s _ _ hP,h2,fun x hx=>(h3 x hx).imp id fun ⟨c',e1,e2⟩=>⟨c',e1,s _ _ e2⟩⟩
theorem seq_X (s:c_L P0 H H') (hT:b_X H P0 sites) (h:SqL K H a xs):SqL K H' a xs:=by
 obtain ⟨ps,hP,_⟩:=hT
 rcases h with (h | ⟨o,h⟩) | h
 ·exact .inl (.inl (s _ _ (fun z=>by rw [z,hP] at h;cases h) h))
 ·exact .inl (.inr ⟨o,s _ _ (fun z=>by rw [z,hP] at h;cases h) h⟩)
 ·exact .inr h
theorem bf_place {κ:Type} [DecidableEq κ] {g:κ->Nat->κ} {L:List Nat} {s:κ} {ts:List κ} {ws:List (List Nat)} {n k:Nat} (bf:Bf g L s ts ws n k):∀(m j:Nat) (b:List Nat),j<m->ws[j]?=some b->b.length≤j:=by
 intro m
 induction m with
 | zero=>exact fun j b h=>absurd h (Nat.not_lt_zero j)
 | succ m ih=>
  intro j b hj e
  rcases bf.par j b e with rfl | ⟨p,q,a,h1,h2,h3,_⟩
  ·exact Nat.zero_le _
  have hl:a.length<b.length:=by rw [h3,List.length_append];exact Nat.lt_succ_self _
  have hp:p<j:=by
   rcases Nat.lt_trichotomy p j with z | z | z
   ·exact z
   ·rw [z,e] at h1
    cases h1
    omega
   ·have e1:=bf.srt j p b a z e h1
    have:=f_j e1
    omega
  have:=ih p a (by omega) h1
  rw [h3,List.length_append]
  show a.length+1≤j
  omega
theorem bf_short {κ:Type} [DecidableEq κ] {g:κ->Nat->κ} {L:List Nat} {s:κ} {ts:List κ} {ws:List (List Nat)} {n k N:Nat} (bf:Bf g L s ts ws n k) (hN:ws.length≤N) (i:Nat) (w:List Nat) (e:ws[i]?=some w):w.length≤N:=by
 have h1:=bf_place bf (i+1) i w (Nat.lt_succ_self i) e
 have h2:=(List.getElem?_eq_some_iff.mp e).1
 omega
end RA
namespace L2
open PySem PySem.Spec PyProof.Rows
def IteL (a:Addr):It:=⟨fun i H=>∃xs x,H a=some (.lst xs)/\xs[i]?=some x,fun i H v H'=>∃p x xs,H a=some (.lst xs)/\xs[i]?=some x/\v=.ref p/\H p=none/\H'=upd H p (.tup [.int (i:Int),x]),fun i H=>∃xs,H a=some (.lst xs)/\i=xs.length⟩
theorem turn_enumL {K:PySem.W.Frag} (a e it:Addr) (hne:e≠it):Turn P w K (.Tuple es kt pt) (IteL a) [e,it] e (fun i h=>(∃old,IsEnum h e it i old)/\h.IsListIter it a i)  where
 mem:=by simp
 obj:=fun i h ⟨⟨old,he⟩,⟨o1,e1,_,d1⟩⟩ c hc=>by
  simp only [List.mem_cons,List.not_mem_nil,or_false] at hc
  rcases hc with rfl | rfl
  ·exact ⟨_,he,fun v q=>by cases q⟩
  ·exact ⟨o1,e1,fun v q=>by rw [d1] at q;cases q⟩
 keep:=fun i h h' ⟨⟨old,he⟩,⟨o1,e1,r1⟩⟩ k=>⟨⟨old,k e (by simp) _ he⟩,⟨o1,k it (by simp) _ e1,r1⟩⟩
 item:=by
  rintro X hP hw hK hc i pins s σ H E I hf ⟨⟨old,he⟩,s1⟩ hg
  subst hP hw hK
  obtain ⟨xs,x,hq,hx⟩:=hg
  obtain ⟨its,rv,p,hz⟩:=I.list (SqL.of hq)
  obtain ⟨u,hu,ru⟩:=rv.get hx
  have p':s.heap.IsList a its.toArray:=p.isList
  have hlt:i<its.toArray.size:=by
   have:=(List.getElem?_eq_some_iff.mp hu).1
   simpa using this
  have hat:a≠it:=by
   obtain ⟨o,e1,c1,_⟩:=p'
   obtain ⟨o2,e2,c2,_⟩:=s1
   rintro rfl
   rw [e1] at e2
   cases e2
   rw [c1] at c2
   exact absurd c2 (by decide)
  have hae:e≠a:=by
   obtain ⟨o,e1,c1,_⟩:=p'
   rintro rfl
   have he':s.heap.get? e=some _:=he
   rw [e1] at he'
   cases he'
   exact absurd (show Value.type "enumerate"=Value.type "list" from c1) (by decide)
  refine wpAny_pyNext_enum_itemD (Draws.list (prog:=X.prog) (w:=X.w) (A:=X.A.in1) (I.ok.hd hc) it a hat its.toArray) he ⟨s1,p'⟩ hlt hne (by simp [hne,hae]) fun v g tk pv ho st new hsz gk=>⟨_,rfl,?_⟩
  have ev:v=u:=by
   have:its.toArray[i]?=some v:=pv
   rw [List.getElem?_toArray,hu] at this
   exact (Option.some.inj this).symm
  subst ev
  refine wpAny_letOwnedTupleGo_enum (s:={ s with heap:=g,toks:=tk+1 }) ho fun g' ge gs=>?_
  have up:∀b o,b≠e->g.get? b=some o->g'.get? b=some o:=fun b o hb q=>(gs.2 b hb).trans q
  have ne:s.heap.objs.size≠e:=Nat.ne_of_gt (Heap.lt_size he)
  have tup:b_b X.prog X.w (upd H s.heap.objs.size (.tup [.int (i:Int),x])) g' s.heap.objs.size (.tup [.int (i:Int),x]):=
   ⟨a_g (by show 2≤16777216;decide),[.int i tk,v],.cons ⟨_,rfl⟩ (.cons ru .nil),⟨_,up _ _ ne new,rfl,0,rfl⟩⟩
  refine ⟨.ref s.heap.objs.size,_,I.turnedNew (S:=[e,it]) (h':=g') (t':=tk+1) (fun b o hb q=>up b o (fun z=>hb (by simp [z])) (gk b o (fun z=>hb (by simp [z])) (fun z=>hb (by simp [z])) q)) hf tup,rfl,
   ⟨_,x,xs,hq,hx,rfl,I.hok.fresh (Nat.le_refl _),rfl⟩,⟨⟨_,by rw [Int.natCast_succ];exact ge⟩,st.1.at fun o q=>up _ o (fun z=>hne z.symm) q⟩,fun b hb=>?_⟩
  have lt:b<s.heap.objs.size:=by
   obtain ⟨o1,e1,_⟩:=s1
   simp only [List.mem_cons,List.not_mem_nil,or_false] at hb
   rcases hb with rfl | rfl
   ·exact Heap.lt_size he
   ·exact Heap.lt_size e1
  rw [upd_ne (Nat.ne_of_lt lt)]
  exact (hf b hb).1
 done:=by
  rintro X hP hw hK hc i pins s σ H E I hf ⟨⟨old,he⟩,s1⟩ hstop
  subst hP hw hK
  obtain ⟨xs,hq,rfl⟩:=hstop
  obtain ⟨its,rv,p,hz⟩:=I.list (SqL.of hq)
  have p':s.heap.IsList a its.toArray:=p.isList
  have hat:a≠it:=by
   obtain ⟨o,e1,c1,_⟩:=p'
   obtain ⟨o2,e2,c2,_⟩:=s1
   rintro rfl
   rw [e1] at e2
   cases e2
   rw [c1] at c2
   exact absurd c2 (by decide)
  have hsz:xs.length=its.toArray.size:=by rw [rv.length];simp
  refine wpAny_pyNext_enum_endD (Draws.list (prog:=X.prog) (w:=X.w) (A:=X.A.in1) (I.ok.hd hc) it a hat its.toArray) he ⟨by rw [<- hsz];exact s1,p'⟩ fun g gs=>⟨rfl,?_⟩
  exact I.turnedL (S:=[e,it]) (fun b o hb q=>gs b o (fun z=>hb (by simp [z])) q) hf
 self:=fun _ _ _ _ _ st h=>by
  obtain ⟨⟨old,he⟩,_⟩:=st
  exact wpAny_pyIter_enum he h
def iEnumQ (t:TA):TI:=fun σ H R=>t σ H fun vs H1=>∃a xs,vs=[.ref a]/\((H1 a=some (.tup xs)/\R (IteT a) H1)\/(H1 a=some (.lst xs)/\R (IteL a) H1))
theorem pi_enumQ {es:List Expr} {kt:Nat} {pt:Pos} {p pos:Pos} (hg:Gl X "enumerate") (hm:X.mg "enumerate"=none) (ha:PA X [a] ta) (hs:starEach [a] X.env=(false,eval a X.env)::starEach [] X.env:=by rfl)
  (hpl:(backTo pos (starEach [] X.env)).any (·.1)=false:=by rfl):PI X (.Tuple es kt pt) (.Call (.Name "enumerate" p) [a] [] pos) (iEnumQ ta):=by
 intro pins s σ H R I h
 refine wpAny_Call_Name_kw (ld_blt I hg hm PyProof.Rows.boot_enumerate (PyProof.Rows.callWith_type1 (thn (ha pos pins s σ H _ I h) fun us s1 z=>?_) hs hpl))
 obtain ⟨vs,H1,I1,r1,b,xs,rfl,z⟩:=z
 obtain ⟨u1,rfl,r2⟩:=f_m r1
 cases r2
 have fp:∀c∈[s1.heap.objs.size+1,s1.heap.objs.size],FpOk X pins H1 c:=fun c hc=>by
  have hge:s1.heap.objs.size≤c:=by
   simp only [List.mem_cons,List.not_mem_nil,or_false] at hc
   rcases hc with rfl | rfl
   ·exact Nat.le_add_right _ _
   ·exact Nat.le_refl _
  exact I1.fpOk hge (I1.hok.fresh hge)
 rcases z with ⟨hq,q⟩ | ⟨hq,q⟩
 ·obtain ⟨its,rv,pp,hz⟩:=I1.tuple (SqT.of hq)
  refine call_enumT (show s1.heap.IsTuple b its.toArray from pp) fun g ge gi gk=>wpAny_pyIter_enum (s:={ s1 with heap:=g }) ge ?_
  exact ⟨_,[s1.heap.objs.size+1,s1.heap.objs.size],_,IteT b,H1,rfl,I1.kept (t':=s1.toks) gk,turn_enumT b _ _ (neA (by omega)),⟨⟨_,ge⟩,gi⟩,fp,q⟩
 ·obtain ⟨its,rv,pp,hz⟩:=I1.list (SqL.of hq)
  refine call_enumerate_list pp.isList fun g ge gi gz gk=>wpAny_pyIter_enum (s:={ s1 with heap:=g }) ge ?_
  exact ⟨_,[s1.heap.objs.size+1,s1.heap.objs.size],_,IteL b,H1,rfl,I1.kept (t':=s1.toks) gk,turn_enumL b _ _ (neA (by omega)),⟨⟨_,ge⟩,gi⟩,fp,q⟩
theorem comp2_enumL {K:PySem.W.Frag} {σ:St} (hH:H c=some (.lst xs)) (Pv:Addr->Nat->List V->Hp->Prop) (hz:xs.length≤sizeLine)
  (h0:∀D,H D=none->Pv D 0 [] (upd H D (.lst [])))
  (hs:∀(D:Addr) (i:Nat) (x:V) (ys:List V) (H' H3:Hp) (R1:VK),H D=none->xs[i]?=some x->Same H H'->H' D=some (.lst ys)->Pv D i ys H'->Same H' H3->
   (∀y H5,H5 D=some (.lst ys)->Same H (upd H5 D (.lst (ys++[y])))->Pv D (i+1) (ys++[y]) (upd H5 D (.lst (ys++[y])))->R1 y H5)->te (some (.int (i:Int))::some x::σ) H3 R1)
  (hq:∀D ys H',H D=none->Same H H'->H' D=some (.lst ys)->Pv D xs.length ys H'->Q (.ref D) H'):C2Goal K (IteL c) te σ H Q:=by
 refine f_k (n:=xs.length) (fun i a b=>a=.int (i:Int)/\xs[i]?=some b) Pv hz (fun i H2 s h=>⟨xs,xs[i],s _ _ hH,List.getElem?_eq_getElem h⟩) ?_ (fun H2 s=>⟨xs,s _ _ hH,rfl⟩) h0 ?_ hq
 ·rintro i H2 x H3 s h ⟨p,y,zs,e1,e2,e3,e4,e5⟩
  rw [s _ _ hH] at e1
  cases e1
  exact ⟨p,_,y,e3,⟨rfl,e2⟩,e4,e5⟩
 ·rintro D i a b ys H' H3 R1 hD hi ⟨rfl,hb⟩ a1 a2 a3 a4 a5
  exact hs D i b ys H' H3 R1 hD hb a1 a2 a3 a4 a5
end L2
namespace RA
open PySem L2
theorem comp2_enumQ {σ:St} (ht:∀R:List V->Hp->Prop,R [.ref c] H->t σ H R) (ho:o=.lst xs\/o=.tup xs) (hH:H c=some o) (Pv:Addr->Nat->List V->Hp->Prop) (hz:xs.length≤sizeLine)
  (h0:∀D,H D=none->Pv D 0 [] (L2.upd H D (.lst [])))
  (hs:∀(D:Addr) (i:Nat) (x:V) (ys:List V) (H' H3:Hp) (R1:VK),H D=none->xs[i]?=some x->Same H H'->H' D=some (.lst ys)->Pv D i ys H'->Same H' H3->
   (∀y H5,H5 D=some (.lst ys)->Same H (L2.upd H5 D (.lst (ys++[y])))->Pv D (i+1) (ys++[y]) (L2.upd H5 D (.lst (ys++[y])))->R1 y H5)->te (some (.int (i:Int))::some x::σ) H3 R1)
  (hq:∀D ys H',H D=none->Same H H'->H' D=some (.lst ys)->Pv D xs.length ys H'->Q (.ref D) H'):tComp2 K (iEnumQ t) te σ H Q:=by
 refine ht _ ⟨c,xs,rfl,?_⟩
 rcases ho with rfl | rfl
 ·exact .inr ⟨hH,comp2_enumL (K:=K) hH Pv hz h0 hs hq⟩
 ·exact .inl ⟨hH,comp2_enum (K:=K) hH Pv hz h0 hs hq⟩
end RA
namespace L2
open PySem PySem.Spec PyProof.Rows
section
variable {X:Cx}
theorem call_maxM (hc:X.calm=true):e_T X (.builtin "max") (fun xs H Q=>∃(a:Addr) (ns:List Int),xs=[V.ref a]/\H a=some (.lst (ns.map V.int))/\0<ns.length/\∀M∈ns,(∀x∈ns,x≤M)->Q (.int M) H):=by
 intro pins s σ H xs us Q I r h
 obtain ⟨a,ns,rfl,ha,hn,q⟩:=h
 obtain ⟨u1,rfl,r1⟩:=f_m r
 cases r1
 obtain ⟨its,rv,p,hz⟩:=I.list (SqL.of ha)
 have hi:=ints_are rv
 have hl:s.heap.IsList a its.toArray:=p.isList
 obtain ⟨xs,e⟩:=hi.allInts.items
 have hns:ns=xs.toList.map (·.1):=by rw [<- hi.numsOf,<- nums_intItems,<- e]
 have hsz:0<xs.size:=by
  rw [hns,List.length_map,Array.length_toList] at hn
  exact hn
 rw [e] at hl
 refine max_intList (I.ok.hd hc) hl hsz fun v h' tk hv hk=>?_
 obtain ⟨t,rfl⟩:=intItems_at hv
 obtain ⟨h1,h2⟩:=argBest_gt (numAt xs) (xs.size - 1)
 refine ⟨.int _,H,I.kept hk,⟨t,rfl⟩,q _ ?_ fun x hx=>?_⟩
 ·rw [hns,numAt_eq]
  exact PySem.getD_mem (by rw [List.length_map,Array.length_toList];omega)
 ·rw [hns] at hx
  obtain ⟨j,hj⟩:=List.mem_iff_getElem?.mp hx
  have hjl:=(List.getElem?_eq_some_iff.mp hj).1
  rw [List.length_map,Array.length_toList] at hjl
  have:=h2 j (by omega)
  have e2:numAt xs j=x:=by
   rw [numAt_eq,List.getD_eq_getElem?_getD,hj]
   rfl
  rw [<- e2]
  exact this
def rIndexI:V->List V->Hp->VK->Prop:=fun x vs H Q=>∃(l:Addr) (ns:List Int) (n:Int),x=.ref l/\vs=[.int n]/\H l=some (.lst (ns.map V.int))/\n∈ns/\Q (.int (ns.idxOf n:Nat)) H
theorem mt_indexI:MtM X "list.index" rIndexI:=by
 intro pins s σ H x vs v us Q I rx rv h
 obtain ⟨l,bs,n0,rfl,rfl,hH,hm,q⟩:=h
 cases rx
 obtain ⟨u,rfl,ru⟩:=rv.one
 obtain ⟨t0,rfl⟩:=(show ∃t,u=Value.int n0 t from ru)
 obtain ⟨z,its,n,r,hl,e⟩:=I.lstM hH
 have hlen:its.length=bs.length:=by rw [<- r.length,List.length_map]
 have hlt:bs.idxOf n0<bs.length:=List.idxOf_lt_length_of_mem hm
 have at_:∀(j:Nat) (hj:j<its.toArray.size),∃(hb:j<bs.length) (t:Tok),its.toArray[j]=.int bs[j] t:=fun j hj=>by
  have hb:j<bs.length:=by simpa [hlen] using hj
  refine ⟨hb,?_⟩
  obtain ⟨a,ea,ra⟩:=r.get (i:=j) (x:=.int bs[j]) (by rw [List.getElem?_map,List.getElem?_eq_getElem hb];rfl)
  obtain ⟨t,rfl⟩:=(show ∃t,a=Value.int bs[j] t from ra)
  obtain ⟨_,q⟩:=List.getElem?_eq_some_iff.mp ea
  exact ⟨t,by simpa using q⟩
 have hsm:((bs.idxOf n0:Nat):Int)<2 ^ 63 - 1:=by
  have h9:(bs.map V.int).length≤sizeLine:=(I.lst hH).choose_spec.choose_spec.2.2
  rw [List.length_map,sizeLine_eq] at h9
  omega
 refine call_meets F.slot_list_index ⟨_,e,rfl⟩ F.entry_list_index (F.args_list_index_2 _ _) (SeqAt.list_indexAt l its.toArray n none #[] (.int n0 t0) (fun y=>match y with | .int b _=>b==n0 | _=>false) (bs.idxOf n0) (by simpa [hlen] using hlt) hsm ?_ ?_) ⟨e,?_,⟨.int _,H,I.tok _,⟨_,rfl⟩,q⟩⟩
 ·obtain ⟨hb,t,e1⟩:=at_ (bs.idxOf n0) (by simpa [hlen] using hlt)
  rw [e1]
  show (bs[bs.idxOf n0]==n0)=true
  rw [List.getElem_idxOf hb]
  exact beq_self_eq_true n0
 ·intro m hm2 hlt2
  obtain ⟨hb,t,e1⟩:=at_ m hm2
  rw [e1]
  show (bs[m]==n0)=false
  by_cases hbm:bs[m]=n0
  ·have:=RA.idxOf_leG (l:=bs) (c:=n0) (i:=m) (by rw [List.getElem?_eq_getElem hb,hbm])
   omega
  ·exact beq_eq_false_iff_ne.mpr hbm
 ·intro y hy
  obtain ⟨j,hj,rfl⟩:=Array.mem_iff_getElem.mp hy
  obtain ⟨hb,t,e1⟩:=at_ j hj
  rw [e1]
  exact SeqAt.EqAt.int_int _ _ _ _
theorem pe_fldK (K:PySem.W.Frag) (he:PE X e ta) (hb:attributeBase e f X.env (eval e X.env)=eval e X.env) (hK:X.K=K:=by rfl):PE X (.Attribute e f pos) (tFld K ta f):=by
 subst hK
 exact b_a he hb
theorem pe_indexI {apos cpos:Pos} (K:PySem.W.Frag) (ho:PE X o to) (ha:PA X [e] t) (hK:X.K=K:=by rfl)
  (hbase:attributeBase o "index" X.env (eval o X.env)=eval o X.env:=by rfl)
  (hfew:((backTo cpos (starEach [e] X.env)).all (fun x=>!x.1)&&(backToKw cpos (keywordEach [] X.env)).all (fun x=>x.1.isSome)
   && decide ([e].length+([]:List Keyword).length+(if ([]:List Keyword).isEmpty then 0 else 1)<30))=true:=by rfl) (hline:(apos.endLine==cpos.line)=true:=by rfl) (hs:starEach [e] X.env=(false,eval e X.env)::starEach [] X.env:=by rfl) (hplain:(backTo cpos (starEach [] X.env)).any (·.1)=false:=by rfl):PE X (.Call (.Attribute o "index" apos) [e] [] cpos) (tBM K "list" rIndexI to t):=by
 subst hK
 exact b_V PySem.F.plainAttrs_list PySem.F.slot_list_index PySem.F.type_list_index mt_indexI ho ha hbase hfew hline hs hplain
end
end L2
namespace RA
open PySem L2
def RowsQ (H:Hp) (rows:List Addr) (W:List (List Nat)):Prop:=∀(i:Nat) (r:Addr),rows[i]?=some r->∃ws,W[i]?=some ws/\∃o,(o=.lst (intsV ws)\/o=.tup (intsV ws))/\H r=some o
theorem max_of:∀{ns:List Nat},0<ns.length->∃M∈ns,∀x∈ns,x≤M
 | [],h=>by simp at h
 | [a],_=>⟨a,by simp,fun x hx=>by rw [List.mem_singleton.mp hx];exact Nat.le_refl _⟩
 | a::b::r,_=>by
  obtain ⟨M,h1,h2⟩:=max_of (ns:=b::r) (by simp)
  by_cases h:a≤M
  ·exact ⟨M,List.mem_cons_of_mem _ h1,fun x hx=>by
    rcases List.mem_cons.mp hx with rfl | z
    ·exact h
    ·exact h2 x z⟩
  ·exact ⟨a,by simp,fun x hx=>by
    rcases List.mem_cons.mp hx with rfl | z
    ·exact Nat.le_refl _
    ·have:=h2 x z
     omega⟩
theorem zs_idx (n:Nat):∀(l:List Nat),(zs l).idxOf (n:Int)=l.idxOf n
 | []=>rfl
 | x::l=>by
  show ((x:Int)::zs l).idxOf (n:Int)=_
  rw [List.idxOf_cons,List.idxOf_cons,zs_idx n l]
  by_cases h:x=n
  ·rw [h];simp
  ·rw [beq_eq_false_iff_ne.mpr h,beq_eq_false_iff_ne.mpr (fun e=>h (Int.ofNat_inj.mp e))]
end RA
namespace RA
section
variable {κ:Type} [DecidableEq κ]
theorem f_Z:∀(ks acc:List κ),∃r,disA acc ks=acc++r
 | [],acc=>⟨[],(List.append_nil acc).symm⟩
 | a::ks,acc=>by
  show ∃r,disA (if a∈acc then acc else acc++[a]) ks=acc++r
  by_cases h:a∈acc
  ·rw [if_pos h]
   exact f_Z ks acc
  ·rw [if_neg h]
   obtain ⟨r,e⟩:=f_Z ks (acc++[a])
   exact ⟨[a]++r,by rw [e,List.append_assoc]⟩
theorem disA_nd:∀(ks acc:List κ),acc.Nodup->(disA acc ks).Nodup
 | [],_,h=>h
 | a::ks,acc,h=>by
  show (disA (if a∈acc then acc else acc++[a]) ks).Nodup
  by_cases hm:a∈acc
  ·rw [if_pos hm]
   exact disA_nd ks acc h
  ·rw [if_neg hm]
   refine disA_nd ks _ ?_
   rw [List.nodup_append]
   refine ⟨h,by simp,fun x hx y hy e=>?_⟩
   rw [List.mem_singleton.mp hy] at e
   rw [e] at hx
   exact hm hx
theorem dis_nd (ks:List κ):(dis ks).Nodup:=disA_nd ks [] List.nodup_nil
theorem numF_0 {ks:List κ} (h:0<ks.length):(numF ks).getD 0 0=0:=by
 cases ks with
 | nil=>simp at h
 | cons k ks=>
  rw [f_Q (k:=k) rfl]
  obtain ⟨r,e⟩:=f_Z ks [k]
  have:dis (k::ks)=[k]++r:=by
   show disA (if k∈[] then [] else []++[k]) ks=_
   rw [if_neg (by simp)]
   exact e
  rw [this]
  simp
theorem numF_down {ks:List κ} {M j:Nat} (h:M∈numF ks) (hj:j≤M):j∈numF ks:=by
 obtain ⟨k,hk,rfl⟩:=List.mem_map.mp h
 have hl:j<(dis ks).length:=Nat.lt_of_le_of_lt hj (List.idxOf_lt_length_of_mem (mem_dis.mpr hk))
 have hm:(dis ks)[j]∈ks:=mem_dis.mp (List.getElem_mem hl)
 refine List.mem_map.mpr ⟨(dis ks)[j],hm,?_⟩
 have nd:=dis_nd ks
 have h2:(dis ks).idxOf (dis ks)[j]<(dis ks).length:=List.idxOf_lt_length_of_mem (List.getElem_mem hl)
 exact (List.getElem_inj nd).mp (List.getElem_idxOf h2)
end
section
variable {L:List Nat} {W:List (List Nat)} {B:List Bool} {k:Nat}
theorem Rd_0 (h:Mach L W B):(Rd W B k).getD 0 0=0:=by
 cases k with
 | zero=>exact numF_0 (by rw [h.bl];exact h.n1)
 | succ k=>exact numF_0 (by rw [a_O];exact h.n1)
theorem Rd_down (h:M∈Rd W B k) (hj:j≤M):j∈Rd W B k:=by
 cases k with
 | zero=>exact numF_down h hj
 | succ k=>exact numF_down h hj
end
def c_m (R:List (List Nat)) (lots:List Nat) (m:Nat):List (List Nat):=(List.range m).map fun j=>(R.getD (lots.idxOf j) []).map fun g=>lots.getD g 0
def d_O (Bm:List Bool) (lots:List Nat) (m:Nat):List Bool:=(List.range m).map fun j=>Bm.getD (lots.idxOf j) false
theorem foldW_get (h:j<m):(c_m R lots m).getD j []=(R.getD (lots.idxOf j) []).map fun g=>lots.getD g 0:=by
 rw [c_m,List.getD_eq_getElem?_getD,List.getElem?_map,List.getElem?_range h]
 rfl
theorem foldB_get (h:j<m):(d_O Bm lots m).getD j false=Bm.getD (lots.idxOf j) false:=by
 rw [d_O,List.getD_eq_getElem?_getD,List.getElem?_map,List.getElem?_range h]
 rfl
structure Many (lots:List Nat) (m:Nat):Prop where
 pos:0<m
 lt:∀x∈lots,x<m
 has:∀j<m,j∈lots
section
variable {L:List Nat} {R:List (List Nat)} {Bm:List Bool} {k m:Nat}
theorem getD_mem' {l:List Nat} (h:i<l.length):l.getD i 0∈l:=by
 rw [List.getD_eq_getElem?_getD,List.getElem?_eq_getElem h]
 exact List.getElem_mem h
theorem fr_at (hm:Many (Rd R Bm k) m) (hMa:Mach L R Bm) (hj:j<m):(Rd R Bm k).idxOf j<R.length/\lot R Bm k ((Rd R Bm k).idxOf j)=j:=by
 have h1:=List.idxOf_lt_length_of_mem (hm.has j hj)
 refine ⟨by rw [f_l hMa] at h1;exact h1,?_⟩
 rw [lot,List.getD_eq_getElem?_getD,List.getElem?_eq_getElem h1]
 exact List.getElem_idxOf h1
theorem lot_lt (hm:Many (Rd R Bm k) m) (hMa:Mach L R Bm) (hr:r<R.length):lot R Bm k r<m:=hm.lt _ (getD_mem' (by rw [f_l hMa];exact hr))
theorem fold_mach (hm:Many (Rd R Bm k) m) (hMa:Mach L R Bm):Mach L (c_m R (Rd R Bm k) m) (d_O Bm (Rd R Bm k) m) where
 lt:=hMa.lt
 n1:=by rw [c_m,List.length_map,List.length_range];exact hm.pos
 n60:=by
  rw [c_m,List.length_map,List.length_range]
  have h1:=Rd_lt hMa (hm.has (m - 1) (by have:=hm.pos;omega))
  have:=hMa.n60
  omega
 bl:=by rw [d_O,c_m,List.length_map,List.length_map]
 row:=fun ws h=>by
  rw [c_m] at h
  obtain ⟨j,hj,rfl⟩:=List.mem_map.mp h
  have hj:=List.mem_range.mp hj
  obtain ⟨h1,h2⟩:=f_a hMa (fr_at hm hMa hj).1
  refine ⟨by rw [List.length_map];exact h1,fun x hx=>?_⟩
  obtain ⟨g,hg,rfl⟩:=List.mem_map.mp hx
  rw [c_m,List.length_map,List.length_range]
  exact lot_lt hm hMa (h2 g hg)
theorem fold_len (hm:Many (Rd R Bm k) m) (hMa:Mach L R Bm):(c_m R (Rd R Bm k) m).length≤R.length:=by
 rw [c_m,List.length_map,List.length_range]
 have h1:=Rd_lt hMa (hm.has (m - 1) (by have:=hm.pos;omega))
 omega
theorem fold_nxt (hm:Many (Rd R Bm k) m) (hMa:Mach L R Bm) (st:Rd R Bm (k+1)=Rd R Bm k) (hr:r<R.length) (hc:c∈L):nxt L (c_m R (Rd R Bm k) m) (lot R Bm k r) c=lot R Bm k (nxt L R r c):=by
 have hi:L.idxOf c<L.length:=List.idxOf_lt_length_of_mem hc
 have hj:=lot_lt hm hMa hr
 obtain ⟨f1,f2⟩:=fr_at hm hMa hj
 have e1:lot R Bm (k+1) ((Rd R Bm k).idxOf (lot R Bm k r))=lot R Bm (k+1) r:=by
  show (Rd R Bm (k+1)).getD _ 0=(Rd R Bm (k+1)).getD _ 0
  rw [st]
  exact f2
 have e2:=((d_S hMa f1 hr).mp e1).2 _ hi
 unfold nxt
 rw [foldW_get hj]
 have hl:L.idxOf c<(R.getD ((Rd R Bm k).idxOf (lot R Bm k r)) []).length:=by rw [(f_a hMa f1).1];exact hi
 rw [List.getD_eq_getElem?_getD,List.getElem?_map,List.getElem?_eq_getElem hl]
 show (Rd R Bm k).getD _ 0=_
 have e3:goal R ((Rd R Bm k).idxOf (lot R Bm k r)) (L.idxOf c)=(R.getD ((Rd R Bm k).idxOf (lot R Bm k r)) [])[L.idxOf c]:=by
  rw [goal,List.getD_eq_getElem?_getD (l:=R.getD _ []),List.getElem?_eq_getElem hl]
  rfl
 rw [<- e3]
 exact e2
theorem fold_run (hm:Many (Rd R Bm k) m) (hMa:Mach L R Bm) (st:Rd R Bm (k+1)=Rd R Bm k):∀{w:List Nat} {r:Nat},r<R.length->(∀c∈w,c∈L)->run L (c_m R (Rd R Bm k) m) (lot R Bm k r) w=lot R Bm k (run L R r w)
 | [],_,_,_=>rfl
 | c::w,r,hr,hw=>by
  have hc:c∈L:=hw c (by simp)
  show run L (c_m R (Rd R Bm k) m) (nxt L (c_m R (Rd R Bm k) m) (lot R Bm k r) c) w=lot R Bm k (run L R (nxt L R r c) w)
  rw [fold_nxt hm hMa st hr hc]
  exact fold_run hm hMa st (goal_lt hMa hr (List.idxOf_lt_length_of_mem hc)) fun d hd=>hw d (by simp [hd])
theorem fold_mark (hm:Many (Rd R Bm k) m) (hMa:Mach L R Bm) (hr:r<R.length):(d_O Bm (Rd R Bm k) m).getD (lot R Bm k r) false=Bm.getD r false:=by
 have hj:=lot_lt hm hMa hr
 obtain ⟨f1,f2⟩:=fr_at hm hMa hj
 rw [foldB_get hj]
 exact (lot_zero hMa f1 hr).mp (lot_mono hMa f1 hr (Nat.zero_le k) f2)
theorem fold_takes (hm:Many (Rd R Bm k) m) (hMa:Mach L R Bm) (st:Rd R Bm (k+1)=Rd R Bm k) (hw:∀c∈w,c∈L):(d_O Bm (Rd R Bm k) m).getD (run L (c_m R (Rd R Bm k) m) 0 w) false=Bm.getD (run L R 0 w) false:=by
 have e:lot R Bm k 0=0:=Rd_0 hMa
 have:=fold_run hm hMa st hMa.n1 hw
 rw [e] at this
 rw [this]
 exact fold_mark hm hMa (e_Z hMa hMa.n1 hw)
end
section
variable {L:List Nat} {W:List (List Nat)} {B:List Bool} {ks ws R:List (List Nat)} {Bm:List Bool}
theorem walk_mach (hMa:Mach L W B) (bf:Bf (gW W) L [0] ks ws ks.length 0) (ways:e_K (gW W) L.length ks R) (hR:R.length=ks.length) (bl:Bm.length=R.length) (le:ks.length≤W.length):Mach L R Bm where
 lt:=hMa.lt
 n1:=by rw [hR];exact (List.getElem?_eq_some_iff.mp bf.t0).1
 n60:=by rw [hR];exact Nat.le_trans le hMa.n60
 bl:=bl
 row:=fun r hr=>by
  obtain ⟨i,hi⟩:=List.mem_iff_getElem?.mp hr
  have hil:i<ks.length:=by rw [<- hR];exact (List.getElem?_eq_some_iff.mp hi).1
  obtain ⟨h1,h2⟩:=ways.row i r _ hi (List.getElem?_eq_getElem hil)
  refine ⟨h1,fun x hx=>?_⟩
  obtain ⟨q,hq⟩:=List.mem_iff_getElem?.mp hx
  rw [hR]
  exact (List.getElem?_eq_some_iff.mp (h2 q x hq)).1
theorem walk_run (hMa:Mach L W B) (bf:Bf (gW W) L [0] ks ws ks.length 0) (ways:e_K (gW W) L.length ks R) (hR:R.length=ks.length):∀(n:Nat) (w:List Nat),w.length=n->(∀c∈w,c∈L)->ks[run L R 0 w]?=some [run L W 0 w]:=by
 intro n
 induction n with
 | zero=>
  intro w hw _
  rw [List.length_eq_zero_iff.mp hw]
  exact bf.t0
 | succ n ih=>
  intro w hw hL
  obtain ⟨c,v,rfl⟩:∃c v,w=v++[c]:=⟨w.getLast (by intro z;rw [z] at hw;cases hw),w.dropLast,(List.dropLast_concat_getLast _).symm⟩
  have h1:=ih v (by simpa using hw) fun x hx=>hL x (by simp [hx])
  have hc:L.idxOf c<L.length:=List.idxOf_lt_length_of_mem (hL c (by simp))
  have hr:run L R 0 v<R.length:=by rw [hR];exact (List.getElem?_eq_some_iff.mp h1).1
  obtain ⟨e1,e2⟩:=ways.row _ _ _ (List.getElem?_eq_getElem hr) h1
  have e3:=e2 (L.idxOf c) _ (List.getElem?_eq_getElem (by rw [e1];exact hc))
  rw [f_E,f_E]
  have e4:nxt L R (run L R 0 v) c=R[run L R 0 v][L.idxOf c]'(by rw [e1];exact hc):=by
   unfold nxt
   rw [List.getD_eq_getElem?_getD (l:=R),List.getElem?_eq_getElem hr]
   show (R[run L R 0 v]).getD _ 0=_
   rw [List.getD_eq_getElem?_getD,List.getElem?_eq_getElem (by rw [e1];exact hc)]
   rfl
  rw [e4]
  exact e3
theorem walk_takes (hMa:Mach L W B) (bf:Bf (gW W) L [0] ks ws ks.length 0) (ways:e_K (gW W) L.length ks R) (hR:R.length=ks.length) (bl:Bm.length=R.length) (mks:∀(r:Nat) (k:List Nat) (b:Bool),ks[r]?=some k->Bm[r]?=some b->b=mkW B k) (hw:∀c∈w,c∈L):Bm.getD (run L R 0 w) false=B.getD (run L W 0 w) false:=by
 have h1:=walk_run hMa bf ways hR _ w rfl hw
 have hr:run L R 0 w<Bm.length:=by rw [bl,hR];exact (List.getElem?_eq_some_iff.mp h1).1
 rw [List.getD_eq_getElem?_getD,List.getElem?_eq_getElem hr]
 exact mks _ _ _ h1 (List.getElem?_eq_getElem hr)
end
def d_d (L:List Nat) (W:List (List Nat)) (B:List Bool) (W':List (List Nat)) (B':List Bool):Prop:=
 ∃(ks ws R:List (List Nat)) (Bm:List Bool) (k m:Nat),Bf (gW W) L [0] ks ws ks.length 0/\e_K (gW W) L.length ks R/\R.length=ks.length/\Bm.length=R.length/\(∀(r:Nat) (k:List Nat) (b:Bool),ks[r]?=some k->Bm[r]?=some b->b=mkW B k)/\(∀k∈ks,k∈uW W)/\ks.length≤W.length/\
  Mach L R Bm/\Rd R Bm (k+1)=Rd R Bm k/\Many (Rd R Bm k) m/\W'=c_m R (Rd R Bm k) m/\B'=d_O Bm (Rd R Bm k) m
theorem d_d.mach (h:d_d L W B W' B'):Mach L W' B':=by
 obtain ⟨ks,ws,R,Bm,k,m,_,_,_,_,_,_,_,hMa,_,hm,rfl,rfl⟩:=h
 exact fold_mach hm hMa
theorem d_d.len (h:d_d L W B W' B'):W'.length≤W.length:=by
 obtain ⟨ks,ws,R,Bm,k,m,_,_,hR,_,_,_,le,hMa,_,hm,rfl,rfl⟩:=h
 have:=fold_len hm hMa
 omega
theorem d_d.takes (h:d_d L W B W' B') (hMa0:Mach L W B) (hw:∀c∈w,c∈L):B'.getD (run L W' 0 w) false=B.getD (run L W 0 w) false:=by
 obtain ⟨ks,ws,R,Bm,k,m,bf,ways,hR,bl,mks,_,le,hMa,st,hm,rfl,rfl⟩:=h
 rw [fold_takes hm hMa st hw]
 exact walk_takes hMa0 bf ways hR bl mks hw
end RA
namespace L2
open PySem PySem.Spec PyProof.Rows
end L2
namespace RA
open PySem L2
end RA
namespace RA
section
variable {κ:Type} [DecidableEq κ]
end
section
variable {L:List Nat} {R:List (List Nat)} {Bm:List Bool} {k m:Nat}
end
section
variable {L:List Nat} {W:List (List Nat)} {B:List Bool} {ks ws R:List (List Nat)}
end
end RA
namespace RA
open PySem L2
end RA
namespace RA
theorem run_app (L:List Nat) (W:List (List Nat)) (r:Nat) (a b:List Nat):run L W r (a++b)=run L W (run L W r a) b:=by
 unfold run
 rw [List.foldl_append]
section
variable {L:List Nat} {W1 W2:List (List Nat)} {B1 B2:List Bool} {v1 v2:Nat->List Nat}
end
end RA
namespace L2
open PySem PySem.Spec PyProof.Rows
section
variable {X:Cx} {pins:List (Addr×Obj)} {σ:St} {H:Hp} {s:Shared}
end
end L2
namespace RA
open PySem L2
section
variable {X:Cx} {pins:List (Addr×Obj)} {σ:St} {H:Hp} {s:Shared}
end
end RA
namespace L2
open PySem PySem.Spec PyProof.Rows
theorem cutV_drop {xs:List V} (h:t≤xs.length):cutV xs (some (t:Int)) none=xs.drop t:=by
 unfold cutV
 rw [HT.sIx_none,HT.sIx_nat,Nat.min_eq_left h,List.take_of_length_le (by rw [List.length_drop];exact Nat.le_refl _)]
end L2
namespace RA
open PySem L2
end RA
namespace RA
section
variable {L:List Nat} {W:List (List Nat)} {B:List Bool} {ls:List Nat} {W2:List (List Nat)} {B2:List Bool}
end
end RA
namespace RA
open PySem L2
end RA
namespace L2
open PySem PySem.Spec PyProof.Rows
theorem op_bor:OpR X (binaryOp .BitOr) (fun x y H Q=>∃i j,x=.int i/\y=.int j/\Q (.int (Builtin.bitOr i j)) H):=by
 intro pins s σ H x y v u Q I rx ry h
 obtain ⟨i,j,rfl,rfl,q⟩:=h
 obtain ⟨t,rfl⟩:=(show ∃t,v=Value.int i t from rx)
 obtain ⟨t2,rfl⟩:=(show ∃t,u=Value.int j t from ry)
 exact or_int ⟨.int _,H,I.tok _,⟨_,rfl⟩,q⟩
theorem tComp_sq (h:tl σ H fun v H1=>tComp (iSq fun _ _ R=>R v H1) tt te σ H1 Q):tComp (iSq tl) tt te σ H Q:=h
end L2
namespace RA
open PySem L2
theorem get_last {α:Type} (l:List α) (x:α):(l++[x])[l.length]?=some x:=by simp
theorem d_A (h1:H1 wa=some (.lst (rows.map V.ref))) (hr:b_H H1 rows W) (hl:rows.length=W.length) (ht:H1 tp=none):
  L2.upd (L2.upd H1 tp (.tup (intsV ws))) wa (.lst (rows.map V.ref++[.ref tp])) wa=some (.lst ((rows++[tp]).map V.ref))/\b_H (L2.upd (L2.upd H1 tp (.tup (intsV ws))) wa (.lst (rows.map V.ref++[.ref tp]))) (rows++[tp]) (W++[ws])/\∀b o,H1 b=some o->b≠wa->L2.upd (L2.upd H1 tp (.tup (intsV ws))) wa (.lst (rows.map V.ref++[.ref tp])) b=some o:=by
 have twa:tp≠wa:=(ne_of_none h1 ht).symm
 have k:∀b o,H1 b=some o->b≠wa->L2.upd (L2.upd H1 tp (.tup (intsV ws))) wa (.lst (rows.map V.ref++[.ref tp])) b=some o:=fun b o e n=>by
  rw [upd_ne n,upd_ne (ne_of_none e ht)]
  exact e
 refine ⟨by rw [upd_same,List.map_append];rfl,fun i r e=>?_,k⟩
 rcases c_f e with z | ⟨rfl,rfl⟩
 ·obtain ⟨v,e1,e2⟩:=hr i r z
  exact ⟨v,d_I e1,k r _ e2 (ne_of e2 h1 (by intro y;cases y))⟩
 ·refine ⟨ws,by rw [hl];exact get_last W ws,?_⟩
  rw [upd_ne twa,upd_same]
theorem lots_n (h:Let L):∃N:Nat,atI [V.int 2,.int 4,.int 8] (((tx L).length:Nat) - 1:Int)=some (.int (N:Int))/\1≤N/\N≤8/\∀i,i<N->∀b∈([1,2,4]:List Nat).take L.length,∃r:Nat,PySem.Builtin.bitOr (i:Int) (b:Int)=(r:Int)/\r<N:=by
 have h1:=h.lo
 have h2:=h.hi
 have key:∀k∈([1,2,3]:List Nat),∃N∈([2,4,8]:List Nat),([2,4,8]:List Nat)[k - 1]?=some N/\∀i∈List.range N,∀b∈([1,2,4]:List Nat).take k,∃r∈List.range N,PySem.Builtin.bitOr ((i:Nat):Int) ((b:Nat):Int)=((r:Nat):Int):=by decide +kernel
 obtain ⟨N,hN,e,hb⟩:=key L.length (by simp;omega)
 refine ⟨N,?_,?_,?_,fun i hi b hbb=>?_⟩
 ·rw [a_s]
  have c:((L.length:Nat):Int) - 1=((L.length - 1:Nat):Int):=by omega
  rw [c]
  have ee:atI (intsV [2,4,8]) ((L.length - 1:Nat):Int)=some (.int (([2,4,8].getD (L.length - 1) 0:Nat):Int)):=d_v (by simp;omega)
  rw [List.getD_eq_getElem?_getD,e] at ee
  exact ee
 ·simp at hN;omega
 ·simp at hN;omega
 ·obtain ⟨r,hr,er⟩:=hb i (List.mem_range.mpr hi) b hbb
  exact ⟨r,er,List.mem_range.mp hr⟩
end RA
namespace L2
open PySem PySem.Spec PyProof.Rows
section
variable {X:Cx}
abbrev sK (P:Program) (w:World):PySem.KeyKind P w Str:=PySem.strKind P w
def rNotInX (P:Program) (w:World):R2:=fun x y H Q=>∃d k kvs,y=.ref d/\x=.str k/\H d=some (kdO (sK P w) d kvs)/\Q (.bl (!(valV kvs k).isSome)) H
theorem op_notinX:OpR X (compareOp .NotIn) (rNotInX X.prog X.w):=by
 intro pins s σ H x y v u Q I rx ry h
 obtain ⟨d,k,kvs,rfl,rfl,e,q⟩:=h
 cases ry
 obtain ⟨t,rfl⟩:=(show ∃t,v=Value.str k t from rx)
 obtain ⟨ns,_,vs,rel,dd⟩:=c_B I.hok e
 refine wpAny_notIn_of (knd:=sK X.prog X.w) (k:=k) (strKind_is _ _ k t) ns dd.mapOf ?_
 rw [<- c_u (rel.val k)]
 exact ⟨.bl _,H,I.tok _,rfl,q⟩
def rIxX (P:Program) (w:World):R2:=fun x y H Q=>∃d k kvs v,x=.ref d/\y=.str k/\H d=some (kdO (sK P w) d kvs)/\valV kvs k=some v/\Q v H
theorem ix_dictX:IxR X (rIxX X.prog X.w):=by
 intro value slice pins s σ H x y v u Q I rx ry h hs
 obtain ⟨d,k,kvs,z,rfl,rfl,e,l,q⟩:=h
 cases rx
 obtain ⟨t,rfl⟩:=(show ∃t,u=Value.str k t from ry)
 obtain ⟨ns,_,vs,rel,dd⟩:=c_B I.hok e
 refine tail_any (ops:=[.ref d,_]) dd.typeIs PySem.F.slot_dict_getitem.lookup ?_ hs
 obtain ⟨w',hw,rw'⟩:=RelO.some_of (v:=z) (o:=valueAt vs k) (by rw [<- l];exact rel.val k)
 exact wpAny_getItem_of (knd:=sK X.prog X.w) (k:=k) (strKind_is _ _ k t) dd.mapOf hw ⟨z,H,I.tok _,rw',q⟩
def rSetX (P:Program) (w:World):TSet:=fun o i v H Q=>∃d k kvs,o=.ref d/\i=.str k/\H d=some (kdO (sK P w) d kvs)/\valV kvs k=none/\kvs.length<sizeLine/\Q (upd H d (kdO (sK P w) d (kvs++[(k,v)])))
theorem set_dictX:PSet X (rSetX X.prog X.w):=by
 intro pins s σ H o i v ov iv u Q I ro ri rv h
 obtain ⟨d,k,kvs,rfl,rfl,e,hn,hl,q⟩:=h
 cases ro
 obtain ⟨t,rfl⟩:=(show ∃t,iv=Value.str k t from ri)
 obtain ⟨ns,hz,vs,rel,dd⟩:=c_B I.hok e
 refine wpAny_setItem_pairs (knd:=sK X.prog X.w) (k:=k) (hsz:=by rw [<- rel.length];exact hz) (strKind_is _ _ k t) dd fun h' dd' hs=>⟨_,?_,q⟩
 have qn:=RelO.none_of (show RelO none (valueAt vs k) by rw [<- hn];exact rel.val k)
 rw [b_I qn] at dd'
 exact b_F I (by rw [e];exact True.intro) hs (let ⟨o,_,_,q,_⟩:=dd';⟨o,q⟩) (kd_ok ns (by rw [List.length_append];exact hl) (d_a rel rv) dd')
theorem newX_ok (h:Heap) (hb:sysModules<h.objs.size):b_b P w H (h.push { cls:=.type "dict",data:=.dict #[] }) h.objs.size (kdO (sK P w) h.objs.size []):=
 kd_ok (knd:=sK P w) (beq_eq_false_iff_ne.mpr (Ne.symm (Nat.ne_of_lt hb))) (Nat.zero_le _) .nil (Heap.DictOf.new h)
def tXNew (P:Program) (w:World):TE:=fun _ H Q=>∀p,H p=none->Q (.ref p) (upd H p (kdO (sK P w) p []))
theorem pe_xnew:PE X (.Dict [] [] pos) (tXNew X.prog X.w):=fun pins s σ H Q I h=>
 wpAny_Dict_empty ⟨.ref s.heap.objs.size,_,I.laid (a:=s.heap.objs.size) (o:=kdO (sK X.prog X.w) s.heap.objs.size []) (t':=s.toks) (fun _ _ q=>Heap.get?_push_of_some _ q) (Nat.le_refl _) (newX_ok s.heap I.bigS),rfl,h _ (I.hok.fresh (Nat.le_refl _))⟩
def tXOne (P:Program) (w:World) (tk tv:TE):TE:=fun σ H Q=>∀p,H p=none->tk σ (upd H p (kdO (sK P w) p [])) fun x H1=>tv σ H1 fun y H2=>H2 p=some (kdO (sK P w) p [])/\∃k,x=.str k/\Q (.ref p) (upd H2 p (kdO (sK P w) p [(k,y)]))
theorem pe_xone (hk:PE X k tk) (hv:PE X v tv):PE X (.Dict [some k] [v] pos) (tXOne X.prog X.w tk tv):=by
 intro pins s σ H Q I h
 have hn:=I.hok.fresh (Nat.le_refl s.heap.objs.size)
 have I1:=I.laid (a:=s.heap.objs.size) (o:=kdO (sK X.prog X.w) s.heap.objs.size []) (t':=s.toks) (fun _ _ q=>Heap.get?_push_of_some { cls:=.type "dict",data:=.dict #[] } q) (Nat.le_refl _) (newX_ok s.heap I.bigS)
 have hsh:=zip_pairTrees [some k] [v] X.env pos rfl rfl
 rw [arm_eval_Dict,hsh,dictDisplay_pairs (pairTrees [some k] [v] X.env pos) (by intro z;cases z) (by show 1<17;decide)]
 refine wpAny_bind (wpAny_standAt (wpAny_bind ?_))
 unfold subDict
 refine wpAny_bind (wpAny_alloc (wpAny_bind (wpAny_holding ?_)))
 rw [if_pos (show (pairTrees [some k] [v] X.env pos).length≤15 by show 1≤15;decide)]
 refine wpAny_bind (pairTrees_cons_walk (thn (hk pins _ σ _ _ I1 (h _ hn)) fun u s1 ⟨x,H1,I2,rx,q1⟩=>thn (hv pins s1 σ H1 _ I2 q1) fun r s2 ⟨y,H2,I3,ry,hp,k,ex,q2⟩=>pairTrees_nil_walk (wpAny_holding (wpAny_bind ?_))))
 rw [List.forIn_cons]
 subst ex
 obtain ⟨t,rfl⟩:=(show ∃t,u=Value.str k t from rx)
 obtain ⟨ns,hz,vs,rel,dd⟩:=c_B (knd:=sK X.prog X.w) (kvs:=[]) I3.hok hp
 refine wpAny_bind (wpAny_bind (wpAny_dictSet_pairs (knd:=sK X.prog X.w) (k:=k) (hsz:=by rw [<- rel.length];exact hz) (strKind_is _ _ k t) dd fun h' dd' hs=>wpAny_pure ?_))
 dsimp only
 rw [List.forIn_nil]
 refine wpAny_pure (wpAny_pure (wpAny_pure (wpAny_pure ⟨.ref s.heap.objs.size,_,?_,rfl,q2⟩)))
 have qn:=RelO.none_of (show RelO none (valueAt vs k) from rel.val k)
 rw [b_I qn] at dd'
 exact b_F I3 (by rw [hp];exact True.intro) hs (let ⟨o,_,_,q,_⟩:=dd';⟨o,q⟩) (kd_ok ns (a_g (by show 1≤16777216;decide)) (d_a (kvs:=[]) rel ry) dd')
end
end L2
namespace RA
open PySem L2
def kvX:List (List Nat)->Nat->List (Str×V)
 | [],_=>[]
 | k::r,n=>(tx k,.int (n:Int))::kvX r (n+1)
theorem kvX_len:∀(ts:List (List Nat)) (n:Nat),(kvX ts n).length=ts.length
 | [],_=>rfl
 | k::r,n=>by rw [kvX,List.length_cons,List.length_cons,kvX_len r]
theorem kvX_snoc (k:List Nat):∀(ts:List (List Nat)) (n:Nat),kvX (ts++[k]) n=kvX ts n++[(tx k,.int ((n+ts.length:Nat):Int))]
 | [],n=>rfl
 | t::r,n=>by
  rw [List.cons_append,kvX,kvX_snoc k r (n+1),kvX,List.cons_append,List.length_cons,show n+1+r.length=n+(r.length+1) by omega]
theorem f_S {m:List Nat}:∀{ts:List (List Nat)} {n:Nat},valV (kvX ts n) (tx m)=(ixO ts m).map fun (i:Nat)=>V.int ((n+i:Nat):Int)
 | [],_=>rfl
 | t::r,n=>by
  by_cases e:t=m
  ·subst e
   rw [kvX,d_Q (k:=tx t) rfl,ixO,if_pos (by simp),List.idxOf_cons_self]
   rfl
  ·rw [kvX,d_f (fun z=>e (tx_inj z)),f_S (n:=n+1),f_U e]
   cases ixO r m with
   | none=>rfl
   | some i=>
    show some (V.int ((n+1+i:Nat):Int))=some (V.int ((n+(i+1):Nat):Int))
    rw [show n+1+i=n+(i+1) by omega]
end RA
namespace RA
open PySem PySem.StrLaws Builtin Builtin.Str L2
theorem slice_last (x:Str):Txt.slice x (some (-((s+1:Nat):Int))) none=tx (x.cps.toList.drop (x.cps.toList.length - (s+1))):=by
 have hl:x.length=x.cps.toList.length:=by simp [Str.length]
 have go:Txt.slice x (some (-((s+1:Nat):Int))) none=Txt.slice x (some ((x.cps.toList.length - (s+1):Nat):Int)) none:=by
  have e1:strSliceIndices (some (-((s+1:Nat):Int))) none 1 x.length=strSliceIndices (some ((x.cps.toList.length - (s+1):Nat):Int)) none 1 x.length:=by
   have a:(-((s+1:Nat):Int))<0:=by omega
   have b:¬ (((x.cps.toList.length - (s+1):Nat):Int)<0):=by omega
   rw [hl]
   have m:max 0 (min (-((s+1:Nat):Int)+((x.cps.toList.length:Nat):Int)) ((x.cps.toList.length:Nat):Int))=max 0 (min ((x.cps.toList.length - (s+1):Nat):Int) ((x.cps.toList.length:Nat):Int)):=by omega
   unfold strSliceIndices
   simp only [a,b,if_true,if_false]
   rw [if_pos (show (1:Int) > 0 by decide),m]
   rfl
  unfold Txt.slice
  rw [e1]
 rw [go,e_W x (by omega) (by omega),Int.toNat_natCast]
theorem d_m {α:Type} [DecidableEq α]:∀{a b:List α},a.Nodup->(∀c∈a,c∈b)->a.length≤b.length
 | [],_,_,_=>Nat.zero_le _
 | x::a,b,h,k=>by
  rw [List.nodup_cons] at h
  have hx:x∈b:=k x List.mem_cons_self
  have:=d_m (a:=a) (b:=b.erase x) h.2 fun c hc=>(List.mem_erase_of_ne (fun z:c=x=>h.1 (by rw [<- z];exact hc))).mpr (k c (List.mem_cons_of_mem _ hc))
  rw [List.length_erase_of_mem hx] at this
  have:=List.length_pos_of_mem hx
  rw [List.length_cons]
  omega
theorem ints_flatV (l:List Nat):(intsV l).all e_S=true:=by
 rw [intsV,List.all_map,List.all_eq_true]
 exact fun _ _=>rfl
def b_k (L:List Nat):Nat->List (List Nat)
 | 0=>[[]]
 | s+1=>[]::L.flatMap fun c=>(b_k L s).map (c::·)
theorem f_c {L:List Nat}:∀{s:Nat} {w:List Nat},w.length≤s->(∀c∈w,c∈L)->w∈b_k L s
 | 0,[],_,_=>by simp [b_k]
 | s+1,[],_,_=>by simp [b_k]
 | s+1,c::w,h,hw=>by
  refine List.mem_cons_of_mem _ (List.mem_flatMap.mpr ⟨c,hw c (by simp),List.mem_map.mpr ⟨w,f_c (by simpa using h) (fun d hd=>hw d (by simp [hd])),rfl⟩⟩)
theorem b_Z (L:List Nat) (s:Nat):(b_k L (s+1)).length=1+L.length * (b_k L s).length:=by
 have h:∀(l:List (List Nat)) (L:List Nat),(L.flatMap fun c=>l.map (c::·)).length=L.length * l.length:=fun l L=>by
  induction L with
  | nil=>simp
  | cons c r ih=>rw [List.flatMap_cons,List.length_append,ih,List.length_map,List.length_cons,Nat.succ_mul,Nat.add_comm]
 rw [b_k,List.length_cons,h,Nat.add_comm]
theorem wordsU_le (h1:1≤L.length) (h3:L.length≤3) (hs:(L.length=1/\s≤6)\/(L.length=2/\s≤2)\/(L.length=3/\s≤1)):(b_k L s).length≤7:=by
 have z:(b_k L 0).length=1:=rfl
 have e1:(b_k L 1).length=1+L.length * (b_k L 0).length:=b_Z L 0
 have e2:(b_k L 2).length=1+L.length * (b_k L 1).length:=b_Z L 1
 have e3:(b_k L 3).length=1+L.length * (b_k L 2).length:=b_Z L 2
 have e4:(b_k L 4).length=1+L.length * (b_k L 3).length:=b_Z L 3
 have e5:(b_k L 5).length=1+L.length * (b_k L 4).length:=b_Z L 4
 have e6:(b_k L 6).length=1+L.length * (b_k L 5).length:=b_Z L 5
 rcases hs with ⟨e,h⟩ | ⟨e,h⟩ | ⟨e,h⟩
 ·rw [e] at e1 e2 e3 e4 e5 e6
  have:s=0\/s=1\/s=2\/s=3\/s=4\/s=5\/s=6:=by omega
  rcases this with rfl | rfl | rfl | rfl | rfl | rfl | rfl <;> omega
 ·rw [e] at e1 e2
  have:s=0\/s=1\/s=2:=by omega
  rcases this with rfl | rfl | rfl <;> omega
 ·rw [e] at e1
  have:s=0\/s=1:=by omega
  rcases this with rfl | rfl <;> omega
end RA
namespace L2
open PySem PySem.Spec PyProof.Rows
theorem ints_eqB (h:xs.length=ys.length):((List.range xs.length).all fun j=>eqV ((RA.intsV xs).getD j .non) ((RA.intsV ys).getD j .non))=decide (xs=ys):=by
 rw [Bool.eq_iff_iff,List.all_eq_true,decide_eq_true_eq]
 have at_:∀{l:List Nat} {j:Nat} (hj:j<l.length),(RA.intsV l).getD j .non=.int ((l[j]:Nat):Int):=fun {l j} hj=>by
  rw [List.getD_eq_getElem?_getD,RA.intsV,List.getElem?_map,List.getElem?_eq_getElem hj]
  rfl
 constructor
 ·intro z
  refine List.ext_getElem h fun j h1 h2=>?_
  have e:=z j (List.mem_range.mpr h1)
  rw [at_ h1,at_ h2] at e
  exact Int.ofNat.inj (eq_of_beq e)
 ·rintro rfl j hj
  rw [at_ (List.mem_range.mp hj)]
  exact beq_self_eq_true _
theorem rc_ints {σ:St} (I:Inv X pins σ H s) (hp:SqT X.K H p (RA.intsV xs)) (hq:SqT X.K H q (RA.intsV ys)) (hl:xs.length=ys.length) (hu:A.units<cLine):SeqAt.RcAt A s (.ref p) (.ref q) (decide (xs=ys)):=by
 obtain ⟨its,r1,pl1,hz1⟩:=I.tuple hp
 obtain ⟨its2,r2,pl2,hz2⟩:=I.tuple hq
 have l1:(RA.intsV xs).length=its.length:=r1.length
 have l2:(RA.intsV ys).length=its2.length:=r2.length
 rw [RA.intsV_len] at l1 l2
 have z:=SeqAt.RcAt.tuples (A:=A) (e:=fun j=>eqV ((RA.intsV xs).getD j .non) ((RA.intsV ys).getD j .non)) pl1 pl2 hu fun j h1 h2=>by
  have hj1:j<(RA.intsV xs).length:=by rw [RA.intsV_len,l1];simpa using h1
  have hj2:j<(RA.intsV ys).length:=by rw [RA.intsV_len,l2];simpa using h2
  obtain ⟨a,ea,ra⟩:=r1.get (i:=j) (List.getElem?_eq_getElem hj1)
  obtain ⟨b,eb,rb⟩:=r2.get (i:=j) (List.getElem?_eq_getElem hj2)
  have e:=eqAt_V (A:=A.in1) (s:=s) ra rb (List.all_eq_true.mp (RA.ints_flatV xs) _ (List.getElem_mem hj1)) (List.all_eq_true.mp (RA.ints_flatV ys) _ (List.getElem_mem hj2))
  obtain ⟨_,e1⟩:=List.getElem?_eq_some_iff.mp ea
  obtain ⟨_,e2⟩:=List.getElem?_eq_some_iff.mp eb
  simp only [List.getElem_toArray,e1,e2,List.getD_eq_getElem?_getD,List.getElem?_eq_getElem hj1,List.getElem?_eq_getElem hj2,Option.getD_some]
  exact e
 have e1:min its.toArray.size its2.toArray.size=xs.length:=by simp;omega
 have e2:(its.toArray.size==its2.toArray.size)=true:=by simp;omega
 rw [e1,e2,ints_eqB hl,Bool.and_true] at z
 exact z
theorem e_z (h:RA.intsV a=RA.intsV b):a=b:=List.map_inj_right (fun _ _ z=>Int.ofNat.inj (V.int.inj z)) |>.mp h
def rIndexT (K:PySem.W.Frag):V->List V->Hp->VK->Prop:=fun x vs H Q=>∃(l b:Addr) (xs:List V) (ks:List (List Nat)) (k:List Nat),x=.ref l/\vs=[.ref b]/\H l=some (.lst xs)/\RA.c_K .t H ks xs/\(∀k'∈ks,k'.length=k.length)/\H b=some (.tup (RA.intsV k))/\k∈ks/\Q (.int (ks.idxOf k:Nat)) H
theorem mt_indexT (hu:X.A.units+64<cLine):MtR X "list.index" (rIndexT X.K):=by
 intro pins s σ H x vs v us Q I rx rv h
 obtain ⟨l,b,xs,ks,k,rfl,rfl,hH,hth,hkl,hb,hm,q⟩:=h
 cases rx
 obtain ⟨u,rfl,ru⟩:=rv.one
 cases ru
 obtain ⟨z,its,n,r,hl,e⟩:=I.lstM hH
 have hxl:xs.length=ks.length:=hth.1
 have hlen:its.length=ks.length:=by rw [<- r.length,hxl]
 have hlt:ks.idxOf k<ks.length:=List.idxOf_lt_length_of_mem hm
 have at_:∀(j:Nat) (hj:j<its.toArray.size),∃(hk:j<ks.length) (a:Addr),its.toArray[j]=.ref a/\H a=some (.tup (RA.intsV ks[j])):=fun j hj=>by
  have hk:j<ks.length:=by simpa [hlen] using hj
  have hx:j<xs.length:=by rw [hxl];exact hk
  have ht:=hth.2 j _ _ (List.getElem?_eq_getElem hk) (List.getElem?_eq_getElem hx)
  unfold RA.ThV at ht
  rw [if_neg (by decide)] at ht
  obtain ⟨a,e1,e2⟩:=ht
  have e2:H a=some (.tup (RA.intsV ks[j])):=e2
  obtain ⟨w,ew,rw'⟩:=r.get (i:=j) (List.getElem?_eq_getElem hx)
  rw [e1] at rw'
  cases rw'
  obtain ⟨_,q⟩:=List.getElem?_eq_some_iff.mp ew
  exact ⟨hk,a,by simpa using q,e2⟩
 have hsm:((ks.idxOf k:Nat):Int)<2 ^ 63 - 1:=by
  have h9:xs.length≤sizeLine:=(I.lst hH).choose_spec.choose_spec.2.2
  rw [hxl,sizeLine_eq] at h9
  omega
 refine call_meets PySem.F.slot_list_index ⟨_,e,rfl⟩ PySem.F.entry_list_index (PySem.F.args_list_index_2 _ _) (SeqAt.list_indexAt l its.toArray n none #[] (.ref b) (fun y=>match y with | .ref a=>(match H a with | some (.tup zs)=>decide (zs=RA.intsV k) | _=>false) | _=>false) (ks.idxOf k) (by simpa [hlen] using hlt) hsm ?_ ?_) ⟨e,?_,⟨.int _,H,I.tok _,⟨_,rfl⟩,q⟩⟩
 ·obtain ⟨hk,a,e1,e2⟩:=at_ (ks.idxOf k) (by simpa [hlen] using hlt)
  rw [e1]
  dsimp only
  rw [e2]
  dsimp only
  rw [List.getElem_idxOf hk]
  exact decide_eq_true rfl
 ·intro m hm2 hlt2
  obtain ⟨hk,a,e1,e2⟩:=at_ m hm2
  rw [e1]
  dsimp only
  rw [e2]
  dsimp only
  refine decide_eq_false fun z=>?_
  have y:=List.not_of_lt_findIdx (xs:=ks) (p:=(·==k)) hlt2
  rw [e_z z] at y
  simp at y
 ·intro y hy
  obtain ⟨j,hj,rfl⟩:=Array.mem_iff_getElem.mp hy
  obtain ⟨hk,a,e1,e2⟩:=at_ j hj
  rw [e1]
  dsimp only
  rw [e2]
  dsimp only
  have ed:decide (RA.intsV ks[j]=RA.intsV k)=decide (ks[j]=k):=decide_eq_decide.mpr ⟨e_z,fun z=>by rw [z]⟩
  rw [ed]
  by_cases hab:a=b
  ·subst hab
   rw [hb] at e2
   rw [decide_eq_true (e_z (HO.tup.inj (Option.some.inj e2)).symm)]
   exact SeqAt.EqAt.same _
  ·exact SeqAt.EqAt.of_refs hab (rc_ints I (SqT.of e2) (SqT.of hb) (hkl _ (List.getElem_mem hk)) (by show X.A.units+1<cLine;omega))
def rCatV:R2:=fun x y H Q=>∃a b xs ys,x=.ref a/\y=.ref b/\H a=some (.tup xs)/\H b=some (.tup ys)/\xs.length+ys.length≤sizeLine/\∀p H',Same H H'->H' p=some (.tup (xs++ys))->Q (.ref p) H'
theorem op_catV:OpR X (binaryOp .Add) rCatV:=by
 intro pins s σ H x y v u Q I rx ry h
 obtain ⟨a,b,xs,ys,rfl,rfl,ha,hb,hz,q⟩:=h
 by_cases hx:xs=[]
 ·subst hx
  cases rx
  cases ry
  obtain ⟨its,r1,p1,_⟩:=I.tuple (SqT.of ha)
  obtain ⟨its2,r2,p2,_⟩:=I.tuple (SqT.of hb)
  obtain ⟨⟨cls,dd,data,sl⟩,ho,hc,n,hd⟩:=id p1
  obtain ⟨⟨cls2,dd2,data2,sl2⟩,ho2,hc2,n2,hd2⟩:=id p2
  simp only at hc hd hc2 hd2
  subst hc hd hc2 hd2
  exact concat_meets ⟨_,ho,rfl⟩ ⟨_,ho2,rfl⟩ noFill_tuple_add seq_tuple_add PySem.F.slot_tuple_add PySem.F.entry_tuple_add (PySem.F.args_tuple_add_2 _ _)
   (tuple_addW0 a b its.toArray its2.toArray n n2 dd dd2 sl sl2 (by simpa using r1.nil_iff.mpr rfl)) ⟨ho,ho2,⟨.ref b,H,I,rfl,q b H (fun _ _ e=>e) hb⟩⟩
 ·refine op_catT pins s σ H _ _ v u Q I rx ry ⟨a,b,xs,ys,rfl,rfl,SqT.of ha,SqT.of hb,hx,hz,fun z=>?_,fun z p hp=>?_⟩
  ·subst z
   exact q a H (fun _ _ e=>e) (by rw [List.append_nil];exact ha)
  ·exact q p _ (Same.upd hp) upd_same
end L2
namespace RA
theorem sIx_nat (n d k:Nat):HT.sIx n d (some (k:Int))=min k n:=by
 unfold HT.sIx
 dsimp only
 rw [if_neg (by omega),Int.toNat_natCast]
open PySem L2
def d_n (ts:List (List Nat)) (s:Nat):List (List Nat):=ts.flatMap fun t=>(List.range s).map fun m=>t++[m]
structure Tal (ts:List (List Nat)) (S:List Nat):Prop where
 mem:∀t,t∈ts↔t.length=S.length/\∀k,k<S.length->t.getD k 0<S.getD k 0
theorem Tal.nil:Tal [[]] []:=⟨fun t=>by
 rw [List.mem_singleton]
 exact ⟨fun e=>by rw [e];exact ⟨rfl,fun k hk=>absurd hk (Nat.not_lt_zero _)⟩,fun h=>List.length_eq_zero_iff.mp h.1⟩⟩
theorem mem_nextT:t∈d_n ts s↔∃t0∈ts,∃m,m<s/\t=t0++[m]:=by
 unfold d_n
 rw [List.mem_flatMap]
 constructor
 ·rintro ⟨t0,h0,h⟩
  obtain ⟨m,hm,rfl⟩:=List.mem_map.mp h
  exact ⟨t0,h0,m,List.mem_range.mp hm,rfl⟩
 ·rintro ⟨t0,h0,m,hm,rfl⟩
  exact ⟨t0,h0,List.mem_map.mpr ⟨m,List.mem_range.mpr hm,rfl⟩⟩
theorem d_t {a b:List Nat} (h:k<a.length):(a++b).getD k 0=a.getD k 0:=by
 rw [List.getD_eq_getElem?_getD,List.getD_eq_getElem?_getD,List.getElem?_append_left h]
theorem d_s:(a++m::b).getD a.length 0=m:=by
 rw [List.getD_eq_getElem?_getD,List.getElem?_append_right (Nat.le_refl _),Nat.sub_self]
 rfl
theorem Tal.next (h:Tal ts S) (s:Nat):Tal (d_n ts s) (S++[s]):=⟨fun t=>by
 rw [mem_nextT,List.length_append]
 constructor
 ·rintro ⟨t0,h0,m,hm,rfl⟩
  obtain ⟨e,hb⟩:=(h.mem t0).mp h0
  refine ⟨by rw [List.length_append,e];rfl,fun k hk=>?_⟩
  by_cases z:k<S.length
  ·rw [d_t (by rw [e];exact z),d_t z]
   exact hb k z
  ·have:k=S.length:=by simp at hk;omega
   subst this
   rw [d_s,show S.length=t0.length from e.symm,d_s]
   exact hm
 ·rintro ⟨e,hb⟩
  have hne:t≠[]:=fun z=>by rw [z] at e;simp at e
  have ed:t=t.dropLast++[t.getLast hne]:=(List.dropLast_concat_getLast hne).symm
  have dl:t.dropLast.length=S.length:=by rw [List.length_dropLast,e];simp
  refine ⟨t.dropLast,(h.mem _).mpr ⟨dl,fun k hk=>?_⟩,t.getLast hne,?_,ed⟩
  ·have:=hb k (by simp;omega)
   rw [ed,d_t (by rw [dl];exact hk),d_t hk] at this
   exact this
  ·have:=hb S.length (by simp)
   rw [ed,d_s,<- dl,d_s] at this
   exact this⟩
theorem e_t (ts:List (List Nat)) (s:Nat):(d_n ts s).length=ts.length * s:=by
 unfold d_n
 induction ts with
 | nil=>simp
 | cons t r ih=>rw [List.flatMap_cons,List.length_append,ih,List.length_map,List.length_range,List.length_cons,Nat.succ_mul,Nat.add_comm]
theorem Tal.put (h:Tal ts S) (ht:t∈ts) (hk:k<S.length) (hm:m<S.getD k 0):t.take k++[m]++t.drop (k+1)∈ts:=by
 obtain ⟨e,hb⟩:=(h.mem t).mp ht
 have kl:(t.take k).length=k:=by rw [List.length_take];omega
 refine (h.mem _).mpr ⟨?_,fun j hj=>?_⟩
 ·rw [List.length_append,List.length_append,kl,List.length_drop,e]
  simp
  omega
 ·by_cases e1:j<k
  ·rw [List.append_assoc,d_t (by rw [kl];exact e1)]
   have:(t.take k).getD j 0=t.getD j 0:=by rw [List.getD_eq_getElem?_getD,List.getD_eq_getElem?_getD,List.getElem?_take_of_lt e1]
   rw [this]
   exact hb j hj
  ·by_cases e2:j=k
   ·subst e2
    have:=d_s (a:=t.take j) (b:=t.drop (j+1)) (m:=m)
    rw [kl] at this
    rw [List.append_assoc]
    show (t.take j++m::t.drop (j+1)).getD j 0<_
    rw [this]
    exact hm
   ·have l1:(t.take k++[m]).length=k+1:=by rw [List.length_append,kl];rfl
    have:(t.take k++[m]++t.drop (k+1)).getD j 0=t.getD j 0:=by
     rw [List.getD_eq_getElem?_getD,List.getD_eq_getElem?_getD,List.getElem?_append_right (by rw [l1];omega),l1,List.getElem?_drop,show k+1+(j - (k+1))=j by omega]
    rw [this]
    exact hb j hj
end RA
namespace RA
open PySem L2
def lotS (L w:List Nat):List Nat:=L.filter fun c=>decide (c∈w)
def stepS (ls:List (List Nat)) (c:Nat):List (List Nat):=ls++ls.map fun v=>v++[c]
def subsL (L:List Nat):List (List Nat):=L.foldl stepS [[]]
theorem c_M (L:List Nat) (c:Nat):subsL (L++[c])=subsL L++(subsL L).map fun v=>v++[c]:=by
 unfold subsL
 rw [List.foldl_append]
 rfl
theorem f_w {P:List Nat->Prop} (h0:P []) (hs:∀l c,P l->P (l++[c])):∀l,P l:=fun l=>by
 have:∀n (l:List Nat),l.length=n->P l:=fun n=>by
  induction n with
  | zero=>intro l e;rw [List.length_eq_zero_iff.mp e];exact h0
  | succ n ih=>
   intro l e
   have hne:l≠[]:=fun z=>by rw [z] at e;cases e
   rw [<- List.dropLast_concat_getLast hne]
   exact hs _ _ (ih _ (by rw [List.length_dropLast,e];rfl))
 exact this _ l rfl
theorem d_Y:∀L:List Nat,(subsL L).length=2 ^ L.length:=f_w rfl fun l c ih=>by
 rw [c_M,List.length_append,List.length_map,ih,List.length_append]
 show 2 ^ l.length+2 ^ l.length=2 ^ (l.length+1)
 rw [Nat.pow_succ]
 omega
theorem f_o:v∈subsL L->v.length≤L.length:=by
 refine f_w (P:=fun L=>∀v,v∈subsL L->v.length≤L.length) (fun v hv=>?_) (fun l c ih v hv=>?_) L v
 ·rw [List.mem_singleton.mp hv];exact Nat.le_refl _
 ·rw [c_M] at hv
  rw [List.length_append]
  rcases List.mem_append.mp hv with z | z
  ·exact Nat.le_trans (ih v z) (Nat.le_add_right _ _)
  ·obtain ⟨u,hu,rfl⟩:=List.mem_map.mp z
   rw [List.length_append]
   exact Nat.add_le_add_right (ih u hu) _
theorem d_o (nd:L.Nodup) (v:List Nat):v∈subsL L↔lotS L v=v:=by
 refine f_w (P:=fun L=>L.Nodup->∀v,v∈subsL L↔lotS L v=v) (fun _ v=>?_) (fun l c ih nd v=>?_) L nd v
 ·show v∈[[]]↔_
  rw [List.mem_singleton]
  exact ⟨fun e=>by rw [e];rfl,fun e=>e.symm⟩
 ·obtain ⟨n1,_,n2⟩:=List.nodup_append.mp nd
  have hc:c∉l:=fun z=>n2 c z c (List.mem_singleton.mpr rfl) rfl
  rw [c_M,List.mem_append,ih n1,List.mem_map]
  have sp:lotS (l++[c]) v=lotS l v++if c∈v then [c] else []:=by
   unfold lotS
   rw [List.filter_append]
   by_cases z:c∈v
   ·rw [if_pos z,List.filter_cons_of_pos (by simp [z]),List.filter_nil]
   ·rw [if_neg z,List.filter_cons_of_neg (by simp [z]),List.filter_nil]
  have sub:∀{u:List Nat},lotS l u=u->c∉u:=fun {u} e z=>by
   rw [<- e] at z
   exact hc (List.mem_filter.mp z).1
  rw [sp]
  constructor
  ·rintro (e | ⟨u,hu,rfl⟩)
   ·rw [if_neg (sub e),List.append_nil]
    exact e
   ·have hu:=(ih n1 u).mp hu
    rw [if_pos (by simp)]
    refine congrArg (·++[c]) ?_
    unfold lotS at hu ⊢
    refine Eq.trans (List.filter_congr fun d hd=>?_) hu
    have:d≠c:=fun z=>hc (z▸hd)
    simp [this]
  ·intro e
   by_cases z:c∈v
   ·rw [if_pos z] at e
    refine .inr ⟨lotS l v,(ih n1 _).mpr ?_,e⟩
    unfold lotS
    refine List.filter_congr fun d hd=>?_
    simp [hd]
   ·rw [if_neg z,List.append_nil] at e
    exact .inl e
theorem lotS_in:∀c∈lotS L w,c∈L:=fun c hc=>(List.mem_filter.mp hc).1
theorem e_u:lotS L (lotS L w)=lotS L w:=by
 unfold lotS
 refine List.filter_congr fun d hd=>?_
 simp [hd]
theorem d_r (u:List Nat):∀vs:List (List Nat),inV (.str (tx u)) (wordsV vs)=decide (u∈vs)
 | []=>rfl
 | v::r=>by
  show ((tx v==tx u) || inV (.str (tx u)) (wordsV r))=_
  rw [d_r u r,Bool.eq_iff_iff,Bool.or_eq_true,beq_iff_eq,decide_eq_true_eq,decide_eq_true_eq,List.mem_cons]
  exact or_congr ⟨fun z=>(tx_inj z).symm,fun z=>by rw [z]⟩ Iff.rfl
theorem d_w (vs:List (List Nat)):(wordsV vs).all e_S=true:=by
 rw [wordsV,List.all_map,List.all_eq_true]
 exact fun _ _=>rfl
structure PaperOk (L:List Nat) (W:List (List Nat)) (B:List Bool) (vs:List (List Nat)):Prop where
 sub:∀v∈vs,v∈subsL L
 ord:∀(i:Nat) (a b:List Nat),vs[i]?=some a->vs[i+1]?=some b->ear L a b=true
 len:vs.length≤8
 tk:∀w:List Nat,(∀c∈w,c∈L)->B.getD (run L W 0 w) false=decide (lotS L w∈vs)
structure BarOk (L:List Nat) (W:List (List Nat)) (B:List Bool) (u v:List Nat):Prop where
 cu:∀c∈u,c∈L
 cv:∀c∈v,c∈L
 lu:u.length≤60
 lv:v.length≤60
 eq:lotS L u=lotS L v
 yes:B.getD (run L W 0 u) false=true
 no:B.getD (run L W 0 v) false=false
def Within (H:Hp) (t:Addr) (L:List Nat) (W:List (List Nat)) (B:List Bool):Prop:=
 (∃(l:Addr) (vs:List (List Nat)),H t=some (.tup [.bl true,.ref l])/\H l=some (.lst (wordsV vs))/\PaperOk L W B vs) \/
 ∃(b:Addr) (u v:List Nat),H t=some (.tup [.bl false,.ref b])/\H b=some (.tup [.str (tx u),.str (tx v)])/\BarOk L W B u v
theorem idx_pre {P R:List Nat} (nd:(P++c::R).Nodup) (hd:d∈R):(P++c::R).idxOf c<(P++c::R).idxOf d:=by
 obtain ⟨n1,n2,n3⟩:=List.nodup_append.mp nd
 have hcP:c∉P:=fun z=>n3 c z c (by simp) rfl
 have hdP:d∉P:=fun z=>n3 d z d (by simp [hd]) rfl
 have hdc:c≠d:=fun z=>by
  rw [<- z] at hd
  exact (List.nodup_cons.mp n2).1 hd
 rw [List.idxOf_append,List.idxOf_append,if_neg hcP,if_neg hdP,List.idxOf_cons_self,List.idxOf_cons,show (c==d)=false from beq_eq_false_iff_ne.mpr hdc]
 show 0+P.length<(List.idxOf d R+1)+P.length
 omega
theorem least_go:∀(R P u:List Nat),(P++R).Nodup->(∀x∈u,x∈R)->u.length=(lotS R u).length->lexd (P++R) (lotS R u) u=false->u=lotS R u
 | [],P,u,_,hu,hl,_=>List.length_eq_zero_iff.mp hl
 | c::R,P,u,nd,hu,hl,hx=>by
  have nd':((P++[c])++R).Nodup:=by rw [List.append_assoc];exact nd
  have ndR:(c::R).Nodup:=(List.nodup_append.mp nd).2.1
  have hcR:c∉R:=(List.nodup_cons.mp ndR).1
  by_cases hc:c∈u
  ·have ev:lotS (c::R) u=c::lotS R u:=List.filter_cons_of_pos (by simp [hc])
   rw [ev] at hl hx ⊢
   cases u with
   | nil=>cases hc
   | cons d u'=>
    by_cases e:c=d
    ·subst e
     have same:lotS R (c::u')=lotS R u':=by
      unfold lotS
      refine List.filter_congr fun x hxR=>?_
      have:x≠c:=fun z=>hcR (z▸hxR)
      simp [this]
     rw [same] at hl hx ⊢
     have hl':u'.length=(lotS R u').length:=by simpa using hl
     have ndv:(lotS R u').Nodup:=(List.nodup_cons.mp ndR).2.sublist List.filter_sublist
     have hcu:c∉u':=fun z=>by
      have:=d_m (a:=c::lotS R u') (b:=u') (List.nodup_cons.mpr ⟨fun y=>hcR (List.mem_filter.mp y).1,ndv⟩) fun x hx=>by
       rcases List.mem_cons.mp hx with y | y
       ·rw [y];exact z
       ·exact of_decide_eq_true (List.mem_filter.mp y).2
      rw [List.length_cons,<- hl'] at this
      omega
     have hu':∀x∈u',x∈R:=fun x hx=>by
      rcases List.mem_cons.mp (hu x (by simp [hx])) with y | y
      ·exact absurd (y▸hx) hcu
      ·exact y
     have hx':lexd ((P++[c])++R) (lotS R u') u'=false:=by
      rw [List.append_assoc]
      have z:lexd (P++c::R) (c::lotS R u') (c::u')=lexd (P++c::R) (lotS R u') u':=if_pos rfl
      rw [z] at hx
      exact hx
     exact congrArg (c::·) (least_go R (P++[c]) u' nd' hu' hl' hx')
    ·have hd:d∈R:=by
      rcases List.mem_cons.mp (hu d (by simp)) with y | y
      ·exact absurd y.symm e
      ·exact y
     have z:lexd (P++c::R) (c::lotS R (d::u')) (d::u')=decide ((P++c::R).idxOf c<(P++c::R).idxOf d):=if_neg e
     rw [z,decide_eq_true (idx_pre nd hd)] at hx
     cases hx
  ·have ev:lotS (c::R) u=lotS R u:=List.filter_cons_of_neg (by simp [hc])
   rw [ev] at hl hx ⊢
   have hu':∀x∈u,x∈R:=fun x hx=>by
    rcases List.mem_cons.mp (hu x hx) with y | y
    ·exact absurd (y▸hx) hc
    ·exact y
   exact least_go R (P++[c]) u nd' hu' hl (by rw [List.append_assoc];exact hx)
theorem lot_first (nd:L.Nodup) (hu:∀x∈u,x∈L) (h:ear L (lotS L u) u=false):u=lotS L u:=by
 have le:(lotS L u).length≤u.length:=d_m (nd.sublist List.filter_sublist) fun x hx=>of_decide_eq_true (List.mem_filter.mp hx).2
 have el:u.length=(lotS L u).length:=by
  refine Nat.le_antisymm (Nat.le_of_not_lt fun z=>?_) le
  rw [d_b z] at h
  cases h
 rw [c_z el.symm] at h
 exact least_go L [] u nd hu el h
def gS (L:List Nat) (W:List (List Nat)) (k:List Nat) (q:Nat):List Nat:=(W.getD (k.headD 0) []).getD q 0::lotS L (k.tail++[L.getD q 0])
theorem lotS_snoc:lotS L (lotS L w++[c])=lotS L (w++[c]):=by
 unfold lotS
 refine List.filter_congr fun d hd=>?_
 simp [hd]
theorem runS (hMa:Mach L W B):∀w:List Nat,(∀c∈w,c∈L)->runG (gS L W) L [0] w=run L W 0 w::lotS L w:=by
 refine f_w (fun _=>?_) (fun w c ih h=>?_)
 ·show [0]=0::lotS L []
  unfold lotS
  simp
 ·have hw:∀d∈w,d∈L:=fun d hd=>h d (by simp [hd])
  have hc:c∈L:=h c (by simp)
  rw [e_f,ih hw]
  have e1:L.getD (L.idxOf c) 0=c:=by
   rw [List.getD_eq_getElem?_getD,List.getElem?_eq_getElem (List.idxOf_lt_length_of_mem hc),List.getElem_idxOf]
   rfl
  show (W.getD (run L W 0 w) []).getD (L.idxOf c) 0::lotS L (lotS L w++[L.getD (L.idxOf c) 0])=_
  rw [e1,lotS_snoc,run_app]
  rfl
section
variable {L:List Nat} {W:List (List Nat)} {B:List Bool} {ks ws:List (List Nat)}
theorem sl_at (hMa:Mach L W B) (bf:Bf (gS L W) L [0] ks ws ks.length 0) {i:Nat} (hk:ks[i]?=some k) (hu:ws[i]?=some u):(∀c∈u,c∈L)/\k=run L W 0 u::lotS L u:=by
 obtain ⟨h1,h2⟩:=bf.lead i k u hk hu
 exact ⟨h1,by rw [<- h2,runS hMa u h1]⟩
theorem sl_word (hMa:Mach L W B) (bf:Bf (gS L W) L [0] ks ws ks.length 0) (hk:ks[f]?=some k) (hu:ws[f]?=some u) (first:∀(j:Nat) (k':List Nat),j<f->ks[j]?=some k'->k'.tail≠k.tail):u=k.tail:=by
 obtain ⟨hc,rfl⟩:=sl_at hMa bf hk hu
 have nd:=hMa.lt.nd
 show u=lotS L u
 refine lot_first nd hc ?_
 obtain ⟨j,b,h1,h2,h3⟩:=bf.told nd (lotS L u) _ rfl lotS_in
 obtain ⟨hb,e⟩:=sl_at hMa bf h1 h2
 have el:lotS L b=lotS L u:=by
  rw [runS hMa _ lotS_in,e_u] at e
  exact (List.cons.inj e).2.symm
 rcases Nat.lt_trichotomy j f with z | z | z
 ·refine absurd ?_ (first j _ z h1)
  rw [runS hMa _ lotS_in,e_u]
  rfl
 ·subst z
  rw [hu] at h2
  cases h2
  exact h3
 ·have ef:=bf.srt f j u b z hu h2
  cases y:ear L (lotS L u) u with
  | false=>rfl
  | true=>
   rw [ear_trans y ef] at h3
   cases h3
def fstI (ls:List (List Nat)) (v:List Nat):Nat:=ls.findIdx fun x=>decide (x=v)
theorem fst_at (h:v∈ls):fstI ls v<ls.length/\ls[fstI ls v]?=some v:=by
 have lt:fstI ls v<ls.length:=List.findIdx_lt_length.mpr ⟨v,h,by simp⟩
 refine ⟨lt,?_⟩
 rw [List.getElem?_eq_getElem lt]
 exact congrArg some (of_decide_eq_true (List.findIdx_getElem (w:=lt)))
theorem fst_min (hj:j<fstI ls v) (hx:ls[j]?=some x):x≠v:=fun z=>by
 have:=List.not_of_lt_findIdx hj
 obtain ⟨lt,e⟩:=List.getElem?_eq_some_iff.mp hx
 rw [e,z] at this
 simp at this
theorem f_X (h:v∈ls):fstI (ls++[k]) v=fstI ls v:=by
 unfold fstI
 rw [List.findIdx_append,if_pos (List.findIdx_lt_length.mpr ⟨v,h,by simp⟩)]
theorem fst_new (h:k∉ls):fstI (ls++[k]) k=ls.length:=by
 unfold fstI
 rw [List.findIdx_append,if_neg]
 ·simp [List.findIdx_cons]
 ·intro z
  obtain ⟨x,hx,e⟩:=List.findIdx_lt_length.mp z
  exact h (of_decide_eq_true e▸hx)
theorem snocRecG {α:Type} {P:List α->Prop} (h0:P []) (hs:∀l c,P l->P (l++[c])):∀l,P l:=fun l=>by
 have:∀n (l:List α),l.length=n->P l:=fun n=>by
  induction n with
  | zero=>intro l e;rw [List.length_eq_zero_iff.mp e];exact h0
  | succ n ih=>
   intro l e
   have hne:l≠[]:=fun z=>by rw [z] at e;cases e
   rw [<- List.dropLast_concat_getLast hne]
   exact hs _ _ (ih _ (by rw [List.length_dropLast,e];rfl))
 exact this _ l rfl
theorem dis_order:∀ls:List (List Nat),(dis ls).Pairwise fun a b=>fstI ls a<fstI ls b:=by
 refine snocRecG List.Pairwise.nil (fun l k ih=>?_)
 have up:(dis l).Pairwise fun a b=>fstI (l++[k]) a<fstI (l++[k]) b:=List.Pairwise.imp_of_mem (fun ha hb h=>by rw [f_X (mem_dis.mp ha),f_X (mem_dis.mp hb)];exact h) ih
 rw [dis_snoc]
 by_cases h:k∈dis l
 ·rw [if_pos h]
  exact up
 ·rw [if_neg h,List.pairwise_append]
  refine ⟨up,List.pairwise_singleton _ _,fun a ha b hb=>?_⟩
  rw [List.mem_singleton.mp hb,f_X (mem_dis.mp ha),fst_new (fun z=>h (mem_dis.mpr z))]
  exact (fst_at (mem_dis.mp ha)).1
def paperL (ks:List (List Nat)) (Bm:List Bool):List (List Nat):=(dis (ks.map List.tail)).filter fun v=>Bm.getD (fstI (ks.map List.tail) v) false
theorem paper_ok (hMa:Mach L W B) (bf:Bf (gS L W) L [0] ks ws ks.length 0) (hB:∀(i:Nat) (k:List Nat),ks[i]?=some k->Bm.getD i false=B.getD (k.headD 0) false) (hall:∀(i:Nat) (k:List Nat),ks[i]?=some k->Bm.getD i false=Bm.getD (fstI (ks.map List.tail) k.tail) false):PaperOk L W B (paperL ks Bm):=by
 have nd:=hMa.lt.nd
 have word:∀{i:Nat} {k:List Nat},ks[i]?=some k->∃u,ws[i]?=some u:=fun {i k} h=>⟨ws[i]'(by rw [<- bf.len];exact (List.getElem?_eq_some_iff.mp h).1),List.getElem?_eq_getElem _⟩
 have inL:∀{v:List Nat},v∈ks.map List.tail->∃i k u,ks[i]?=some k/\ws[i]?=some u/\v=lotS L u/\(∀c∈u,c∈L):=fun {v} hv=>by
  obtain ⟨k,hk,rfl⟩:=List.mem_map.mp hv
  obtain ⟨i,hi⟩:=List.mem_iff_getElem?.mp hk
  obtain ⟨u,hu⟩:=word hi
  obtain ⟨hc,e⟩:=sl_at hMa bf hi hu
  exact ⟨i,k,u,hi,hu,by rw [e];rfl,hc⟩
 have sub:∀v∈dis (ks.map List.tail),v∈subsL L:=fun v hv=>by
  obtain ⟨i,k,u,_,_,rfl,_⟩:=inL (mem_dis.mp hv)
  exact (d_o nd _).mpr e_u
 have ndd:(dis (ks.map List.tail)).Nodup:=List.Pairwise.imp (fun h z=>by rw [z] at h;exact Nat.lt_irrefl _ h) (dis_order _)
 have earD:(dis (ks.map List.tail)).Pairwise fun a b=>ear L a b=true:=by
  have fw:∀{a:List Nat},a∈dis (ks.map List.tail)->ws[fstI (ks.map List.tail) a]?=some a:=fun {a} ha=>by
   obtain ⟨lt,e⟩:=fst_at (mem_dis.mp ha)
   rw [List.getElem?_map] at e
   obtain ⟨k,hk,ek⟩:=Option.map_eq_some_iff.mp e
   obtain ⟨u,hu⟩:=word hk
   have:=sl_word hMa bf hk hu fun j k' hj hk'=>by
    rw [ek]
    exact fst_min hj (by rw [List.getElem?_map,hk'];rfl)
   rw [hu,this,ek]
  exact List.Pairwise.imp_of_mem (fun ha hb h=>bf.srt _ _ _ _ h (fw ha) (fw hb)) (dis_order _)
 refine ⟨fun v hv=>sub v (List.mem_filter.mp hv).1,fun i a b ha hb=>?_,?_,fun w hw=>?_⟩
 ·have pw:(paperL ks Bm).Pairwise fun a b=>ear L a b=true:=earD.filter _
  obtain ⟨h1,e1⟩:=List.getElem?_eq_some_iff.mp ha
  obtain ⟨h2,e2⟩:=List.getElem?_eq_some_iff.mp hb
  have:=List.pairwise_iff_getElem.mp pw i (i+1) h1 h2 (Nat.lt_succ_self i)
  rw [e1,e2] at this
  exact this
 ·have:=d_m (a:=paperL ks Bm) (b:=subsL L) (ndd.filter _) fun v hv=>sub v (List.mem_filter.mp hv).1
  rw [d_Y] at this
  exact Nat.le_trans this (Nat.le_trans (Nat.pow_le_pow_right (by decide) hMa.lt.hi) (by decide))
 ·obtain ⟨j,b,h1,_,_⟩:=bf.told nd w _ rfl hw
  rw [runS hMa w hw] at h1
  have e1:=hB j _ h1
  have e2:=hall j _ h1
  have hm:lotS L w∈dis (ks.map List.tail):=mem_dis.mpr (List.mem_map.mpr ⟨_,List.mem_of_getElem? h1,rfl⟩)
  have e1':Bm.getD j false=B.getD (run L W 0 w) false:=e1
  have e2':Bm.getD j false=Bm.getD (fstI (ks.map List.tail) (lotS L w)) false:=e2
  rw [<- e1',e2',Bool.eq_iff_iff,decide_eq_true_eq]
  unfold paperL
  rw [List.mem_filter]
  exact ⟨fun z=>⟨hm,z⟩,fun z=>z.2⟩
def kvF (ks:List (List Nat)) (i:Nat):List (Str×V):=(dis ((ks.take i).map List.tail)).map fun v=>(tx v,.int ((fstI (ks.map List.tail) v:Nat):Int))
theorem valV_map {f:List Nat->V} (u:List Nat):∀l:List (List Nat),valV (l.map fun v=>(tx v,f v)) (tx u)=if u∈l then some (f u) else none
 | []=>rfl
 | v::r=>by
  by_cases e:v=u
  ·subst e
   rw [List.map_cons,d_Q (k:=tx v) rfl,if_pos (by simp)]
  ·rw [List.map_cons,d_f (fun z=>e (tx_inj z)),valV_map u r]
   by_cases h:u∈r
   ·rw [if_pos h,if_pos (by simp [h])]
   ·rw [if_neg h,if_neg (by simp [h];exact fun z=>e z.symm)]
theorem kvF_old (hk:ks[i]?=some k) (h:k.tail∈dis ((ks.take i).map List.tail)):kvF ks (i+1)=kvF ks i:=by
 unfold kvF
 rw [a_T hk,List.map_append]
 show (dis (_++[k.tail])).map _=_
 rw [dis_snoc,if_pos h]
theorem kvF_new (hk:ks[i]?=some k) (h:k.tail∉dis ((ks.take i).map List.tail)):fstI (ks.map List.tail) k.tail=i/\kvF ks (i+1)=kvF ks i++[(tx k.tail,.int ((i:Nat):Int))]:=by
 have hm:k.tail∈ks.map List.tail:=List.mem_map.mpr ⟨k,List.mem_of_getElem? hk,rfl⟩
 have e1:(ks.map List.tail)[i]?=some k.tail:=by rw [List.getElem?_map,hk];rfl
 have ef:fstI (ks.map List.tail) k.tail=i:=by
  obtain ⟨lt,e⟩:=fst_at hm
  rcases Nat.lt_trichotomy (fstI (ks.map List.tail) k.tail) i with z | z | z
  ·refine absurd (mem_dis.mpr ?_) h
   rw [List.getElem?_map] at e
   obtain ⟨k',hk',ek⟩:=Option.map_eq_some_iff.mp e
   exact List.mem_map.mpr ⟨k',List.mem_of_getElem? (show (ks.take i)[fstI (ks.map List.tail) k.tail]?=some k' by rw [List.getElem?_take_of_lt z];exact hk'),ek⟩
  ·exact z
  ·exact absurd rfl (fst_min z e1)
 refine ⟨ef,?_⟩
 unfold kvF
 rw [a_T hk,List.map_append]
 show (dis (_++[k.tail])).map _=_
 rw [dis_snoc,if_neg h,List.map_append]
 show _++[(tx k.tail,V.int ((fstI (ks.map List.tail) k.tail:Nat):Int))]=_
 rw [ef]
theorem kvF_len (ks:List (List Nat)) (i:Nat):(kvF ks i).length≤ks.length:=by
 unfold kvF
 rw [List.length_map]
 refine Nat.le_trans (dis_len _) ?_
 rw [List.length_map,List.length_take]
 exact Nat.min_le_right _ _
end
end RA
namespace L2
open PySem PySem.Spec PyProof.Rows
section
variable {X:Cx} {elt iter:Expr} {x y:Str} {px py pt pos:Pos} {kt:Nat} {sc:Scope} {wi:TI} {te:TE} {tt:TT} {ifs:List Expr}
def tComp2T (K:PySem.W.Frag) (wi:TI) (tt:TT) (te:TE):TE:=fun σ H Q=>wi σ H fun J H1=>∀D,H1 D=none->∃W:Nat->Nat->List V->Hp->Prop,
 (∃m,W 0 m [] (upd H1 D (.lst [])))/\∀i m ys H2,W i m ys H2->H2 D=some (.lst ys)/\((J.stop i H2/\Q (.ref D) H2)\/(J.go i H2/\ys.length<sizeLine/\∀x H3,J.yld i H2 x H3->
  ∃p a b,x=.ref p/\SqT K H3 p [a,b]/\tt (some a::some b::σ) H3 fun bo H4=>if bo=true then te (some a::some b::σ) H4 fun y H5=>H5 D=some (.lst ys)/\∃m',m'<m/\W (i+1) m' (ys++[y]) (upd H5 D (.lst (ys++[y]))) else ∃m',m'<m/\W (i+1) m' ys H4))
theorem loop_pairT {st:Shared} (Z:Nat->Shared->Prop)
  (go:∀k t,Z k t->wpAny (model pg wd) B (pyNext gi) (fun r t1=>match r with
   | none=>Rf (.ok .next) t1
   | some u=>wpAny (model pg wd) B (letOwnedTupleGo tg gi u) (fun _ t2=>wpAny (model pg wd) B (assign tg en u) (fun _ t3=>
     wpAny (model pg wd) B (forIn ifs true fun c r=>if r=true then do let ok <- isTrue c en (eval c en);pure (ForInStep.yield ok) else pure (ForInStep.yield r)) (fun yes t4=>
      if yes=true then wpAny (model pg wd) B (eval elt en) (fun z t5=>wpAny (model pg wd) B (call (.builtin "list.append") [ga,z]) (fun _ t6=>∃j,j<k/\Z j t6) (notedBy (model pg wd) B en fun e s'=>Rf (.error e) s') t5) (notedBy (model pg wd) B en fun e s'=>Rf (.error e) s') t4
      else ∃j,j<k/\Z j t4) (notedBy (model pg wd) B en fun e s'=>Rf (.error e) s') t3) (notedBy (model pg wd) B en fun e s'=>Rf (.error e) s') t2) (notedBy (model pg wd) B en fun e s'=>Rf (.error e) s') t1) (notedBy (model pg wd) B en fun e s'=>Rf (.error e) s') t)
  (k:Nat) (hz:Z k st):codeAny (model pg wd) B (.compLoop (.ListComp elt [⟨tg,iter,ifs,0⟩] sc pos) 0 gi ga en) Rf st:=by
 have keep:∀{α:Type} {x:Sem α} {Q1 Q2:α->Shared->Prop} {N:Value->Shared->Prop} {t:Shared},wpAny (model pg wd) B x Q1 N t->(∀a t',Q1 a t'->Q2 a t')->wpAny (model pg wd) B x Q2 N t:=fun h f=>wpAny_mono h f fun _ _ z=>z
 refine codeAny_loop rfl Z (fun k t hk=>?_) k hz
 show wpAny _ B ((compTurn (.ListComp elt [⟨tg,iter,ifs,0⟩] sc pos) 0 gi ga en).onRaise fun x=>do noteFrame x en;theTreesLotGoes x) _ _ t
 refine wpAny_noted ?_
 rw [compTurn_list]
 refine wpAny_bind (wpAny_standAt (wpAny_bind (keep (go k t hk) fun r t1 h1=>?_)))
 match r,h1 with
 | none,h1=>exact wpAny_pure h1
 | some u,h1=>
  refine wpAny_bind (keep h1 fun _ t2 h2=>wpAny_bind (keep h2 fun _ t3 h3=>wpAny_bind (keep h3 fun yes t4 h4=>?_)))
  match yes,h4 with
  | false,h4=>exact wpAny_pure ⟨rfl,h4⟩
  | true,h4=>exact wpAny_bind (wpAny_bind (keep h4 fun z t5 h5=>wpAny_bind (keep h5 fun _ t6 h6=>wpAny_pure (wpAny_pure ⟨rfl,h6⟩))))
theorem pe_comp2T (N2:List Str) (hc:X.calm=true) (hN2:(x::y::N2).Nodup) (hi:PI X (.Tuple [.Name x px,.Name y py] kt pt) iter wi)
  (hb:∀(cl:List (Str×Addr)) (C:Addr) (fp:List Addr) (s:Shared) (H:Hp),PTs { cxComp X x sc cl C fp s H with N:=x::y::N2 } ifs tt/\PE { cxComp X x sc cl C fp s H with N:=x::y::N2 } elt te)
  (hx:sc.names.lookup x=some .local:=by rfl) (hy:sc.names.lookup y=some .local:=by rfl) (hkind:sc.kind=.function:=by rfl)
  (hnames:∀y∈sc.names,y.2=.local->sc.names.lookup y.1=some .local:=by decide +kernel) (hcell:∀y∈sc.names,y.2≠.cell:=by decide +kernel)
  (hfree:(sc.names.all fun y=>y.2 !=.free || X.env.scope.names.lookup y.1==some .cell || X.env.scope.names.lookup y.1==some .free)=true:=by rfl)
  (hlo:(N2.all fun y=>sc.names.lookup y !=some .local)=true:=by rfl) (hl2:N2.length=X.N.length:=by rfl) (hz2:((N2.zip X.N).all fun y=>y.1==y.2 || sc.names.lookup y.1==none)=true:=by rfl)
  (hs:∀x,foldedSetIterable iter X.env x=pure x:=by intro _;rfl):
  PE X (.ListComp elt [⟨.Tuple [.Name x px,.Name y py] kt pt,iter,ifs,0⟩] sc pos) (tComp2T X.K wi tt te):=by
 intro pins s σ H Q I h
 have hfr:∀y∈sc.names,y.2=.free->(X.env.kindOf y.1=some .cell\/X.env.kindOf y.1=some .free):=fun y hy e=>by
  have q:=List.all_eq_true.mp hfree y hy
  rw [e] at q
  simpa [Env.kindOf] using q
 have hlo':∀y∈N2,sc.names.lookup y≠some .local:=fun y hy e=>by
  have q:=List.all_eq_true.mp hlo y hy
  rw [e] at q
  simp at q
 obtain ⟨cl,hclos,hsub,hhas⟩:=b_P (env:=X.env) (sc:=sc) fun y hy e=>I.ok.has y.1 (hfr y hy e)
 rw [eval_ListComp]
 refine wpAny_comprehension_free (use:=none) rfl hs hclos hkind hnames (thn (hi pins s σ H _ I h) fun v s1 h1=>thn h1 fun itv s2 h2=>?_)
 obtain ⟨it,fp,tn,J,H2,e,I2,T,st2,f2,hW⟩:=h2
 subst e
 have nobinds:∀y∈([]:List (Str×Value)),sc.names.lookup y.1=some .local:=fun y hy=>absurd hy (by simp)
 refine wpAny_newObj_type ?_
 refine wpAny_newFunctionEnv hcell nobinds (fun h₁ hns₁ hsb₁=>?_) hkind
 dsimp only at hns₁ hsb₁ ⊢
 generalize hHa:s2.heap.push { cls:=.type "list",dict:=none,data:=.seq ([]:List Value).toArray }=Ha at hns₁ hsb₁ ⊢
 have hC:Ha.objs.size=s2.heap.objs.size+1:=by rw [<- hHa,Heap.size_push]
 have hDC:s2.heap.objs.size≠Ha.objs.size:=by rw [hC];exact Nat.ne_of_lt (Nat.lt_succ_self _)
 have hCle:s2.heap.objs.size≤Ha.objs.size:=by rw [hC];exact Nat.le_succ _
 have neC:∀b o,s2.heap.get? b=some o->b≠Ha.objs.size:=fun b o e=>Nat.ne_of_lt (Nat.lt_of_lt_of_le (Heap.lt_size e) hCle)
 have old:∀b o,s2.heap.get? b=some o->h₁.get? b=some o:=fun b o e=>hsb₁.extBut b o (neC b o e) (Heap.get?_push_of_some _ (hHa▸Heap.get?_push_of_some _ e))
 have hacc:h₁.get? s2.heap.objs.size=some { cls:=.type "list",dict:=none,data:=.seq ([]:List Value).toArray }:=hsb₁.extBut _ _ hDC (Heap.get?_push_of_some _ (hHa▸Heap.get?_push_size _ rfl))
 generalize hDe:s2.heap.objs.size=D at *
 generalize hCe:Ha.objs.size=C at *
 have hHD:H2 D=none:=I2.hok.fresh (Nat.le_of_eq hDe)
 have hHC:H2 C=none:=I2.hok.fresh (by omega)
 obtain ⟨W,⟨m0,w0⟩,turn⟩:=hW D hHD
 have fplt:∀b∈fp,b<D:=fun b hb=>by
  obtain ⟨o,e,_⟩:=T.obj _ _ st2 b hb
  rw [<- hDe]
  exact Heap.lt_size e
 let X':Cx:={ cxComp X x sc cl C fp s2 H2 with N:=x::y::N2 }
 have nofs:∀b∈fp,b∉frs X.stack:=fun b hb z=>by
  rcases List.mem_cons.mp (I2.stkSub b z) with e | e
  ·exact (f2 b hb).2.1 e
  ·exact (f2 b hb).2.2.1 e
 have ok':X'.Ok:=by
  refine ⟨I2.ok.mod,hkind,I2.ok.glob,I2.ok.blt,?_,fun y z c e1 e2=>I2.ok.inj y z c (hsub y c e1) (hsub z c e2),fun y hy=>?_,fun y c e=>absurd (show false=true from e) Bool.false_ne_true,I2.ok.hd,I2.ok.frames,.inl rfl,fun b hb=>⟨?_,fun y c e=>?_⟩,I2.bs,
   Nat.le_trans I2.ok.bsz I2.sz,fun b o e hb=>?_,nofs,I2.stack,I2.stkFree⟩
  ·show s2.heap.objs.size≤C
   omega
  ·rcases hy with hy | hy
   ·rcases relabel_lookup (show (relabel sc X.env).names.lookup y=some .cell from hy) with e | ⟨_,e,_⟩
    ·exact absurd rfl (hcell _ (PySem.mem_of_lookup e))
    ·exact hhas _ (PySem.mem_of_lookup e) rfl
   ·rcases relabel_lookup (show (relabel sc X.env).names.lookup y=some .free from hy) with e | ⟨e,_⟩
    ·exact hhas _ (PySem.mem_of_lookup e) rfl
    ·cases e
  ·exact Nat.ne_of_lt (Nat.lt_of_lt_of_le (fplt b hb) (by omega:D≤C))
  ·exact (f2 b hb).2.2.2.2.1 y c (hsub y c e)
  ·rcases (f2 b hb).2.2.2.1 with z | z
   ·exact I2.ok.noex b o e z
   ·exact absurd (Nat.lt_of_lt_of_le (Nat.lt_of_lt_of_le (Heap.lt_size e) I2.ok.bsz) z) (Nat.lt_irrefl _)
 have I4:∀tk,Inv X' [] (none::none::σ) (upd H2 D (.lst [])) { s2 with heap:=h₁,toks:=tk }:=fun tk=>by
  refine ⟨ok',rfl,I2.bare,Un.laid old (Nat.le_of_eq hDe) hHD,⟨_,hns₁,fun i y' v e1 e2 e3=>?_⟩,fun y c e=>?_,?_,fun y c e=>?_,fun p hp=>?_,I2.hok.laid old (Nat.le_of_eq hDe) ?_,?_⟩
  ·match i,e1,e2 with
   | 0,e1,e2=>simp at e2
   | 1,e1,e2=>simp at e2
   | i+2,e1,e2=>
    have e0:N2[i]?=some y':=by simpa [X',cxComp] using e1
    have e2:σ[i]?=some (some v):=by simpa using e2
    have e3:Vis (relabel sc X.env) y':=e3
    have hyN:y'∈N2:=List.mem_of_getElem? e0
    have free:sc.names.lookup y'=some .free/\(relabel sc X.env).names.lookup y'≠some .local:=by
     rcases e3 with e | e | e
     ·rcases relabel_lookup e with q | ⟨q,_⟩
      ·exact absurd q (hlo' y' hyN)
      ·cases q
     ·rcases relabel_lookup e with q | ⟨_,q,_⟩
      ·exact absurd rfl (hcell _ (PySem.mem_of_lookup q))
      ·exact ⟨q,by rw [e];decide⟩
     ·rcases relabel_lookup e with q | ⟨q,_⟩
      ·exact ⟨q,by rw [e];decide⟩
      ·cases q
    have e1:X.N[i]?=some y':=by
     have hi:i<N2.length:=(List.getElem?_eq_some_iff.mp e0).1
     have hi2:i<X.N.length:=by omega
     have hm:(y',X.N[i])∈N2.zip X.N:=by
      have hz:(N2.zip X.N)[i]?=some (y',X.N[i]):=by
       rw [List.getElem?_zip_eq_some]
       exact ⟨e0,List.getElem?_eq_getElem hi2⟩
      exact List.mem_of_getElem? hz
     have q:=List.all_eq_true.mp hz2 _ hm
     rcases Bool.or_eq_true_iff.mp q with q | q
     ·have:y'=X.N[i]:=eq_of_beq q
      rw [List.getElem?_eq_getElem hi2,<- this]
     ·have q2:sc.names.lookup y'=none:=by simpa using q
      rw [free.1] at q2
      cases q2
    have kc:X.env.kindOf y'=some .cell\/X.env.kindOf y'=some .free:=hfr _ (PySem.mem_of_lookup free.1) rfl
    obtain ⟨m,hn,hl⟩:=I2.loc
    obtain ⟨u,ru,lk⟩:=hl i y' v e1 e2 (.inr kc)
    rcases lk with ⟨q,_⟩ | ⟨_,c,hcc,⟨o,ho,hd⟩⟩
    ·rcases kc with z | z <;> (rw [z] at q;cases q)
    ·obtain ⟨c',hc'⟩:=hhas _ (PySem.mem_of_lookup free.1) rfl
     have e4:=hsub _ _ hc'
     rw [hcc] at e4
     cases e4
     refine ⟨u,ru,.inr ⟨?_,c,hc',⟨o,old c o ho,hd⟩⟩⟩
     rcases e3 with e | e | e
     ·exact absurd e free.2
     ·exact .inl e
     ·exact .inr e
  ·obtain ⟨v,o,ho,hd⟩:=I2.cell y c (hsub y c e)
   exact ⟨v,o,old c o ho,hd⟩
  ·show upd H2 D (.lst []) C=none
   rw [upd_ne (neA (by omega))]
   exact hHC
  ·obtain ⟨v,o,ho,hd⟩:=I2.cell y c (hsub y c e)
   have hlt:=Heap.lt_size ho
   rw [hDe] at hlt
   show upd H2 D (.lst []) c=none
   rw [upd_ne (Nat.ne_of_lt hlt)]
   exact I2.freeC y c (hsub y c e)
  ·exact absurd (show p∈([]:List (Addr×Obj)) from hp) (by simp)
  ·exact ⟨Nat.zero_le _,[],0,.nil,hacc⟩
  ·show (none::none::σ).length=(x::y::N2).length
   rw [List.length_cons,List.length_cons,List.length_cons,List.length_cons,I2.len,hl2]
 have hN':X'.N.Nodup:=hN2
 have hx':X'.env.scope.names.lookup x=some .local:=lookup_relabel_local hx
 have hy':X'.env.scope.names.lookup y=some .local:=lookup_relabel_local hy
 obtain ⟨PT',PE'⟩:=hb cl C fp s2 H2
 have PG':PG X' (.Tuple [.Name x px,.Name y py] kt pt) (gTup X.K 2 (gCons (c_x 0) (gCons (c_x 1) gNil))):=pg_tup hc (b_Q (a_B (X:=X') (i:=0) hN' rfl (.inl hx') (.inr hx')) (b_Q (a_B (X:=X') (i:=1) hN' rfl (.inl hy') (.inr hy')) e_j))
 have fpX:∀{pins':List (Addr×Obj)} {H':Hp},(∀b∈fp,H' b=none)->(∀p∈pins',p.1∉fp)->∀b∈fp,FpOk X' pins' H' b:=fun hn hp b hb=>by
  refine ⟨hn b hb,?_,nofs b hb,.inl hb,fun y c e=>(f2 b hb).2.2.2.2.1 y c (hsub y c e),fun p q z=>?_⟩
  ·exact Nat.ne_of_lt (Nat.lt_of_lt_of_le (fplt b hb) (by omega:D≤C))
  ·rcases List.mem_append.mp q with q | q
   ·exact absurd (show p∈([]:List (Addr×Obj)) from q) (by simp)
   ·exact hp p q (by rw [z];exact hb)
 have loop:∀tk,codeAny (model X.prog X.w) X.A (.compLoop (.ListComp elt [⟨.Tuple [.Name x px,.Name y py] kt pt,iter,ifs,0⟩] sc pos) 0 (.ref it) (.ref D) (compEnvC sc cl C X.env)) (compPost (model X.prog X.w) X.A X.xe none (EP X pins σ Q) (.ref D) C) { s2 with heap:=h₁,toks:=tk }:=fun tk=>by
  refine loop_pairT (fun n s'=>∃i ys o o' H',Inv X' [] (o::o'::σ) H' s'/\tn i s'.heap/\(∀b∈fp,H' b=none)/\W i n ys H') ?_ m0 ⟨0,[],none,none,_,I4 tk,T.keep _ _ _ st2 fun b hb o e=>old b o e,fun b hb=>?_,w0⟩
  ·rintro n s3 ⟨i,ys,o3,o4,H3,I3,st3,fr3,w3⟩
   obtain ⟨hD3,alt⟩:=turn i n ys H3 w3
   rcases alt with ⟨stop,qn⟩ | ⟨go,hlen,step⟩
   ·refine wpAny_mono (T.done X' rfl rfl rfl hc i [] s3 _ H3 (fun _ _=>False) I3 (fpX fr3 (by simp)) st3 stop) (fun r s4 hpq=>?_) fun _ _ f=>f.elim
    obtain ⟨hr,I4'⟩:=hpq
    subst hr
    obtain ⟨mC,hnC,_⟩:=I4'.loc
    refine ⟨mC,hnC,fun h' hs'=>?_⟩
    have nC:∀b u,H3 b=some u->b≠C:=fun b u e z=>by rw [z] at e;rw [show H3 C=none from I4'.free] at e;cases e
    have hok':HOk X.prog X.w H3 h':=fun b u e=>(I4'.hok b u e).stay (fun c v hcc q=>hs'.extBut c v (by
     rcases hcc with z | z
     ·rw [z];exact nC b u e
     ·exact nC c _ z) q) (fun _ q=>q) fun _ _ q=>q
    have un:Un (frs X.stack) fp H2 H3 s2.heap h':=
     ⟨fun b o e n1 n2 n3=>hs'.extBut b o (neC b o e) (I4'.base.keep b o e n1 n2 n3),fun b o e n1 n2 n3=>by
       obtain ⟨sl,q⟩:=I4'.base.slot b o e n1 n2 n3
       exact ⟨sl,hs'.extBut b _ (neC b o e) q⟩,I4'.base.free,fun b o e n1=>by
       obtain ⟨o',q⟩:=I4'.base.there b o e n1
       exact ⟨o',hs'.extBut b _ (neC b o e) q⟩,I4'.base.tups,I4'.base.frzs,I4'.base.tbls⟩
    exact ⟨.ref D,H3,I2.call' (s':={ s4 with heap:=h' }) I4'.os un hok' I4'.bare fun b hb=>⟨(f2 b hb).2.2.2.1,(f2 b hb).2.1,(f2 b hb).2.2.2.2.1,(f2 b hb).2.2.2.2.2⟩,rfl,qn⟩
   ·refine wpAny_mono (T.item X' rfl rfl rfl hc i [] s3 _ H3 (fun _ _=>False) I3 (fpX fr3 (by simp)) st3 go) (fun r s4 hpq=>?_) fun _ _ f=>f.elim
    obtain ⟨u,hr,h4⟩:=hpq
    subst hr
    refine wpAny_mono h4 (fun _ s5 hpq=>?_) fun _ _ f=>f.elim
    obtain ⟨z,H5,I5,r5,y5,st5,fr5⟩:=hpq
    have I5':=I5.pinned (fpX fr5 (by simp)) (T.obj _ _ st5)
    obtain ⟨p,a1,a2,rfl,hp,hte⟩:=step z _ y5
    refine wpAny_mono (PG' _ s5 _ H5 (.ref p) u (fun σ' H'=>σ'=some a1::some a2::σ/\H'=H5) I5' r5 ⟨p,_,rfl,hp,rfl,_,_,rfl,_,_,rfl,rfl,rfl,rfl⟩) (fun _ s6 hpq=>?_) fun _ _ f=>f.elim
    obtain ⟨σ6,H6,I6,e1,e2⟩:=hpq
    subst e1 e2
    refine wpAny_mono (PT' _ s6 _ _ _ I6 hte) (fun yes s7 hpq=>?_) fun _ _ f=>f.elim
    obtain ⟨H7,I7,q7⟩:=hpq
    cases yes with
    | false=>
     obtain ⟨m',hm,w8⟩:=q7
     refine ⟨m',hm,i+1,ys,some a1,some a2,_,I7.unpinned,T.keep _ _ _ st5 fun b hb o e=>(I7.pin (b,o) (List.mem_append_right _ (List.mem_append_right _ (a_H hb e)))).1,fun b hb=>?_,w8⟩
     obtain ⟨o,e,d⟩:=T.obj _ _ st5 b hb
     exact (I7.pin (b,o) (List.mem_append_right _ (List.mem_append_right _ (a_H hb e)))).2.1
    | true=>
    refine wpAny_mono (PE' _ s7 _ _ _ I7 q7) (fun z s8 hpq=>?_) fun _ _ f=>f.elim
    obtain ⟨yv,H8,I8,r8,hD8,q8⟩:=hpq
    refine wpAny_mono (a_u (X:=X') _ s8 _ H8 (.ref D) [yv] (.ref D) [z] (fun _ H9=>H9=upd H8 D (.lst (ys++[yv]))) I8 rfl (.cons r8 .nil) ⟨D,ys,yv,rfl,rfl,hD8,hlen,rfl⟩) (fun _ s9 hpq=>?_) fun _ _ f=>f.elim
    obtain ⟨_,H9,I9,_,e9⟩:=hpq
    subst e9
    obtain ⟨m',hm,w8⟩:=q8
    refine ⟨m',hm,i+1,_,some a1,some a2,_,I9.unpinned,T.keep _ _ _ st5 fun b hb o e=>(I9.pin (b,o) (List.mem_append_right _ (List.mem_append_right _ (a_H hb e)))).1,fun b hb=>?_,w8⟩
    obtain ⟨o,e,d⟩:=T.obj _ _ st5 b hb
    exact (I9.pin (b,o) (List.mem_append_right _ (List.mem_append_right _ (a_H hb e)))).2.1
  ·show upd H2 D (.lst []) b=none
   rw [upd_ne (Nat.ne_of_lt (fplt b hb))]
   exact (f2 b hb).1
 exact codeAny_compStart_list (loop _) (T.self _ _ _ _ _ (T.keep _ _ _ st2 fun b hb o e=>old b o e) (loop _))
end
theorem e_G {K:PySem.W.Frag} {J:It} {tt:TT} {te:TE} {σ:St} {Q:VK} (Pr:Nat->V->V->Prop) (Pv:Addr->Nat->List V->Hp->Prop) (hz:n≤sizeLine)
  (j1:∀i H2,Same H H2->i<n->J.go i H2) (j2:∀i H2 x H3,Same H H2->i<n->J.yld i H2 x H3->∃p a b,x=.ref p/\Pr i a b/\H2 p=none/\H3=upd H2 p (.tup [a,b])) (j3:∀H2,Same H H2->J.stop n H2)
  (h0:∀D,H D=none->Pv D 0 [] (upd H D (.lst [])))
  (hs:∀(D:Addr) (i:Nat) (a b:V) (ys:List V) (H' H3:Hp) (R1:VK) (R2:Hp->Prop),H D=none->i<n->Pr i a b->Same H H'->H' D=some (.lst ys)->Pv D i ys H'->Same H' H3->
   (∀y H5,H5 D=some (.lst ys)->Same H (upd H5 D (.lst (ys++[y])))->Pv D (i+1) (ys++[y]) (upd H5 D (.lst (ys++[y])))->R1 y H5)->(∀H4,Same H H4->H4 D=some (.lst ys)->Pv D (i+1) ys H4->R2 H4)->
   tt (some a::some b::σ) H3 fun c H4=>if c=true then te (some a::some b::σ) H4 R1 else R2 H4)
  (hq:∀D ys H',H D=none->Same H H'->H' D=some (.lst ys)->Pv D n ys H'->Q (.ref D) H'):∀D,H D=none->∃W:Nat->Nat->List V->Hp->Prop,
   (∃m,W 0 m [] (upd H D (.lst [])))/\∀i m ys H2,W i m ys H2->H2 D=some (.lst ys)/\((J.stop i H2/\Q (.ref D) H2)\/(J.go i H2/\ys.length<sizeLine/\∀x H3,J.yld i H2 x H3->
    ∃p a b,x=.ref p/\SqT K H3 p [a,b]/\tt (some a::some b::σ) H3 fun bo H4=>if bo=true then te (some a::some b::σ) H4 fun y H5=>H5 D=some (.lst ys)/\∃m',m'<m/\W (i+1) m' (ys++[y]) (upd H5 D (.lst (ys++[y]))) else ∃m',m'<m/\W (i+1) m' ys H4)):=by
 intro D hD
 refine ⟨fun i m ys H2=>m=n - i/\i≤n/\ys.length≤i/\Same H H2/\H2 D=some (.lst ys)/\Pv D i ys H2,⟨n,by simp,Nat.zero_le _,by simp,Same.upd hD,upd_same,h0 D hD⟩,?_⟩
 rintro i m ys H2 ⟨rfl,hi,hy,hsm,hDl,hp⟩
 refine ⟨hDl,?_⟩
 by_cases hlt:i<n
 ·refine .inr ⟨j1 i H2 hsm hlt,Nat.lt_of_le_of_lt hy (Nat.lt_of_lt_of_le hlt hz),fun x H3 hyl=>?_⟩
  obtain ⟨p,a,b,rfl,hab,hpn,rfl⟩:=j2 i H2 x H3 hsm hlt hyl
  exact ⟨p,a,b,rfl,SqT.of upd_same,hs D i a b ys H2 _ _ _ hD hlt hab hsm hDl hp (Same.upd hpn) (fun y H5 e1 e2 e3=>⟨e1,n - (i+1),Nat.sub_succ_lt_self _ _ hlt,rfl,hlt,by rw [List.length_append];exact Nat.succ_le_succ hy,e2,upd_same,e3⟩) (fun H4 e1 e2 e3=>⟨n - (i+1),Nat.sub_succ_lt_self _ _ hlt,rfl,hlt,Nat.le_succ_of_le hy,e1,e2,e3⟩)⟩
 ·have e:i=n:=Nat.le_antisymm hi (Nat.le_of_not_lt hlt)
  subst e
  exact .inl ⟨j3 H2 hsm,hq D ys H2 hD hsm hDl hp⟩
end L2
namespace RA
open PySem L2
end RA
namespace L2
open PySem PySem.Spec PyProof.Rows
theorem for_enumL {g:TG} {tb:TS} {D:Ends} (Pv:Nat->St->Hp->Prop) (h0:Pv 0 σ H) (hh:∀i σ H,Pv i σ H->H a=some (.lst xs))
  (hs:∀i x p σ H,xs[i]?=some x->H p=none->Pv i σ H->g (.ref p) σ (upd H p (.tup [.int (i:Int),x])) fun σ2 H2=>tb { D with nx:=Pv (i+1),ct:=Pv (i+1),bk:=D.nx } σ2 H2)
  (hd:∀ σ H,Pv xs.length σ H->D.nx σ H):
  ∃W:Nat->Nat->St->Hp->Prop,(∃m,W 0 m σ H)/\∀i m σ H,W i m σ H->
   ((IteL a).stop i H/\D.nx σ H)\/((IteL a).go i H/\∃N:St->Hp->Prop,(∀ σ' H',N σ' H'->∃m',m'<m/\W (i+1) m' σ' H')/\∀v H',(IteL a).yld i H v H'->g v σ H' fun σ2 H2=>tb { D with nx:=N,ct:=N,bk:=D.nx } σ2 H2):=by
 refine ⟨fun i m σ H=>m=xs.length - i/\i≤xs.length/\Pv i σ H,⟨xs.length,by simp,Nat.zero_le _,h0⟩,?_⟩
 rintro i m σ H ⟨rfl,hi,p⟩
 have h1:=hh i σ H p
 by_cases hlt:i<xs.length
 ·refine .inr ⟨⟨xs,xs[i],h1,List.getElem?_eq_getElem _⟩,Pv (i+1),fun σ' H' p'=>⟨xs.length - (i+1),by omega,rfl,hlt,p'⟩,fun v H' q=>?_⟩
  obtain ⟨b,x,xs',e1,e2,rfl,e3,rfl⟩:=q
  rw [h1] at e1
  cases e1
  exact hs i x b σ H e2 e3 p
 ·have e:i=xs.length:=by omega
  subst e
  exact .inl ⟨⟨xs,h1,rfl⟩,hd σ H p⟩
section
variable {X:Cx} {o e:Expr} {es:List Expr} {to:TE} {t:TA} {name:Str} {apos cpos:Pos} {id:String} {r:V->List V->Hp->VK->Prop}
def tBMX (P:Program) (w:World) (r:V->List V->Hp->VK->Prop) (to:TE) (t:TA):TE:=fun σ H Q=>to σ H fun x H1=>(∃d kvs,x=.ref d/\H1 d=some (kdO (sK P w) d kvs))/\t σ H1 fun xs H2=>r x xs H2 Q
theorem pe_bmX (slot:Slot "dict" name id) (hty:typeOf (.builtin id)=pure (.type "method_descriptor")) (hm:MtM X id r) (ho:PE X o to) (ha:PA X (e::es) t)
  (hbase:attributeBase o name X.env (eval o X.env)=eval o X.env:=by rfl)
  (hfew:((backTo cpos (starEach (e::es) X.env)).all (fun x=>!x.1)&&(backToKw cpos (keywordEach [] X.env)).all (fun x=>x.1.isSome)
   && decide ((e::es).length+([]:List Keyword).length+(if ([]:List Keyword).isEmpty then 0 else 1)<30))=true:=by rfl)
  (hline:(apos.endLine==cpos.line)=true:=by rfl) (hs:starEach (e::es) X.env=(false,eval e X.env)::starEach es X.env:=by rfl) (hplain:(backTo cpos (starEach es X.env)).any (·.1)=false:=by rfl):
  PE X (.Call (.Attribute o name apos) (e::es) [] cpos) (tBMX X.prog X.w r to t):=by
 intro pins s σ H Q I h
 refine wpAny_Call_method_late hbase hfew hline rfl (thn (ho pins s σ H _ I h) fun v s1 ⟨x,H1,I1,r1,⟨d,kvs,ex,hd⟩,q1⟩=>?_)
 subst ex
 cases r1
 obtain ⟨_,_,vs,_,dd⟩:=c_B I1.hok hd
 have dd2:=dd
 obtain ⟨ob,es0,ep,h1,h2,h3⟩:=dd2
 refine ⟨"dict",_,PySem.F.plainAttrs_dict,slot,hty,dd.typeIs,fun b e=>?_,?_⟩
 ·cases e
  exact ⟨ob,h1,h2.2.1⟩
 have hA:=ha cpos pins s1 σ H1 _ I1 q1
 rw [hs] at hA ⊢
 refine Calls.callWith_builtin (by show (false || (backTo cpos (starEach es X.env)).any (·.1))=false;rw [hplain] <;> rfl) (Calls.evalArgs_plain ?_)
 exact thn hA fun us s2 ⟨vs,H2,I2,r2,q2⟩=>hm pins s2 σ H2 (.ref d) vs _ us Q I2 rfl r2 q2
def rSetDefX (P:Program) (w:World):V->List V->Hp->VK->Prop:=fun x vs H Q=>∃d k z kvs,x=.ref d/\vs=[.str k,z]/\H d=some (kdO (sK P w) d kvs)/\kvs.length<sizeLine/\(∀v,valV kvs k=some v->Q v H)/\(valV kvs k=none->Q z (upd H d (kdO (sK P w) d (kvs++[(k,z)]))))
theorem mt_setdefX:MtM X "dict.setdefault" (rSetDefX X.prog X.w):=by
 intro pins s σ H x xs v us Q I rx rv h
 obtain ⟨d,k,z,kvs,rfl,rfl,e,hl,q1,q2⟩:=h
 cases rx
 obtain ⟨u1,u2,rfl,r1,r2⟩:=rv.two
 obtain ⟨t,rfl⟩:=(show ∃t,u1=Value.str k t from r1)
 obtain ⟨ns,hz,vs,rel,dd⟩:=c_B I.hok e
 refine call_meetsIn PySem.F.slot_dict_setdefault dd.typeIs PySem.F.entry_dict_setdefault (PySem.F.args_dict_setdefault_3 _ _ _) (kt_meets_setdefault (sK X.prog X.w) (k:=k) (key:=Value.str k t) d (strKind_is _ _ k t) ns u2) ⟨vs,dd,by rw [<- rel.length];exact hz,fun w' hw=>?_,fun hn h' dd' hs=>?_⟩
 ·have r:=rel.val k
  cases hv:valV kvs k with
  | none=>rw [hv,hw] at r;exact (show False from r).elim
  | some v=>
   rw [hv,hw] at r
   exact ⟨v,H,I.tok _,r,q1 v hv⟩
 ·have r:=rel.val k
  cases hv:valV kvs k with
  | some v=>rw [hv,hn] at r;exact (show False from r).elim
  | none=>
   rw [b_I hn] at dd'
   exact ⟨z,_,b_F I (by rw [e];exact True.intro) hs (let ⟨o,_,_,q,_⟩:=dd';⟨o,q⟩) (kd_ok ns (by rw [List.length_append];exact hl) (d_a rel r2) dd'),r2,q2 hv⟩
end
def exO (d:Addr) (o:Obj):HO:=.ext fun h=>h.get? d=some o
def Itm (d:Addr) (o:Obj) (kvs:List (Str×V)):It:=⟨fun i H=>H d=some (exO d o)/\i<kvs.length,fun i H v H'=>∃p k x,H d=some (exO d o)/\kvs[i]?=some (k,x)/\v=.ref p/\H p=none/\H'=upd H p (.tup [.str k,x]),fun i H=>H d=some (exO d o)/\i=kvs.length⟩
theorem pd_get {F:α->β->Prop} {l:List α} {m:List β} (h:Paired F l m):∀{i:Nat} {a:α},l[i]?=some a->∃b,m[i]?=some b/\F a b:=by
 induction h with
 | nil=>intro i a e;simp at e
 | @cons p q ps qs h t ih=>
  intro i a e
  cases i with
  | zero=>cases e;exact ⟨q,rfl,h⟩
  | succ i=>exact ih e
def DictO (P:Program) (w:World) (o:Obj) (vs:List (Str×Value)) (ep:Nat):Prop:=∃es,o.ExactDict/\o.data=.dict es ep/\KeysOf (sK P w) es/\Pairs (sK P w) es.toList vs/\(vs.map (·.1)).Nodup
theorem turn_items {P:Program} {w:World} {K:PySem.W.Frag} (rel:KV kvs vs) (hO:DictO P w o vs ep):Turn P w K (.Tuple es kt pt) (Itm d o kvs) [it] it (fun i h=>∃ok ov,IsItemIter h it d i vs.length ep ok ov)  where
 mem:=by simp
 obj:=fun i h ⟨ok,ov,he⟩ c hc=>by
  rw [List.mem_singleton.mp hc]
  exact ⟨_,he,fun v q=>by cases q⟩
 keep:=fun i h h' ⟨ok,ov,he⟩ k=>⟨ok,ov,k it (by simp) _ he⟩
 item:=by
  rintro X hP hw hK hc i pins s σ H E I hf ⟨ok,ov,hit⟩ ⟨hd,hi⟩
  subst hP hw hK
  have ho:s.heap.get? d=some o:=(I.hok d _ hd).1
  obtain ⟨es',x1,x2,x3,x4,x5⟩:=hO
  obtain ⟨⟨k,x⟩,hx⟩:∃y,kvs[i]?=some y:=⟨kvs[i],List.getElem?_eq_getElem hi⟩
  obtain ⟨⟨k',v⟩,hv,ek,rv⟩:=pd_get rel hx
  have ek:k=k':=ek
  subst ek
  refine wpAny_pyNext_items_item (knd:=sK X.prog X.w) hit ⟨o,es',ho,x1,x2,x3,x4,x5⟩ hv fun key h' hkey out new hsz gk=>⟨_,rfl,?_⟩
  obtain ⟨t,rfl⟩:=Value.isStrOf_shape hkey
  refine wpAny_letOwnedTupleGo_items (s:={ s with heap:=h' }) out fun g' ge gs=>?_
  have up:∀b o,b≠it->h'.get? b=some o->g'.get? b=some o:=fun b o hb q=>(gs.2 b hb).trans q
  have ne:s.heap.objs.size≠it:=Nat.ne_of_gt (Heap.lt_size hit)
  have tup:b_b X.prog X.w (upd H s.heap.objs.size (.tup [.str k,x])) g' s.heap.objs.size (.tup [.str k,x]):=
   ⟨a_g (by show 2≤16777216;decide),[.str k t,v],.cons ⟨_,rfl⟩ (.cons rv .nil),⟨_,up _ _ ne new,rfl,0,rfl⟩⟩
  refine ⟨.ref s.heap.objs.size,_,I.turnedNew (S:=[it]) (h':=g') (t':=s.toks) (fun b o hb q=>up b o (fun z=>hb (by simp [z])) (gk b o (fun z=>hb (by simp [z])) q)) hf tup,rfl,⟨_,k,x,hd,hx,rfl,I.hok.fresh (Nat.le_refl _),rfl⟩,⟨_,_,ge⟩,fun b hb=>?_⟩
  rw [upd_ne (fun z=>by rw [List.mem_singleton.mp hb] at z;exact ne z.symm)]
  exact (hf b hb).1
 done:=by
  rintro X hP hw hK hc i pins s σ H E I hf ⟨ok,ov,hit⟩ ⟨hd,rfl⟩
  subst hP hw hK
  have ho:s.heap.get? d=some o:=(I.hok d _ hd).1
  obtain ⟨es',x1,x2,x3,x4,x5⟩:=hO
  have hl:kvs.length=vs.length:=Paired.length rel
  refine wpAny_pyNext_items_end (knd:=sK X.prog X.w) (I.ok.hd hc) hit ⟨o,es',ho,x1,x2,x3,x4,x5⟩ (List.getElem?_eq_none (by omega)) fun h' gs=>⟨rfl,?_⟩
  exact I.turnedL (S:=[it]) (t':=s.toks) (fun b o hb q=>gs b o (fun z=>hb (by simp [z])) q) hf
 self:=fun _ _ _ _ _ st h=>by
  obtain ⟨ok,ov,he⟩:=st
  exact PySem.W.kcp_self he h
def iItems (P:Program) (w:World) (to:TE):TI:=fun σ H R=>to σ H fun x H1=>∃d kvs,x=.ref d/\H1 d=some (kdO (sK P w) d kvs)/\∀o,R (Itm d o kvs) (upd H1 d (exO d o))
theorem pi_items {es:List Expr} {kt:Nat} {pt:Pos} {apos pos:Pos} (ho:PE X o to) (hbase:attributeBase o "items" X.env (eval o X.env)=eval o X.env:=by rfl) (hline:(apos.endLine==pos.line)=true:=by rfl):
  PI X (.Tuple es kt pt) (.Call (.Attribute o "items" apos) [] [] pos) (iItems X.prog X.w to):=by
 intro pins s σ H R I h
 refine wpAny_Call_method0_late hbase hline (thn (ho pins s σ H _ I h) fun v s1 ⟨x,H1,I1,r1,d,kvs,ex,hd,q⟩=>?_)
 subst ex
 cases r1
 obtain ⟨ns,_,vs,rel,dd⟩:=c_B I1.hok hd
 have dd2:=dd
 obtain ⟨ob,es',ep,h1,h2,h3,h4,h5,h6⟩:=dd2
 refine ⟨"dict",_,PySem.F.plainAttrs_dict,PySem.F.slot_dict_items,PySem.F.type_dict_items,dd.typeIs,fun b e=>?_,Calls.callWith_builtin rfl (PySem.evalArgs_none ?_)⟩
 ·cases e
  exact ⟨ob,h1,h2.2.1⟩
 refine call_meetsIn PySem.F.slot_dict_items dd.typeIs PySem.F.entry_dict_items (PySem.F.args_dict_items_1 _) (meets_dict_items (sK X.prog X.w) d ns) ⟨⟨vs,dd⟩,?_⟩
 have gv:(s1.heap.push { cls:=.type "dict_items",data:=.fields #[.ref d] }).IsItemsView s1.heap.objs.size d:=⟨_,Heap.get?_push_size _ rfl,rfl,rfl⟩
 have gd:(s1.heap.push { cls:=.type "dict_items",data:=.fields #[.ref d] }).get? d=some ob:=Heap.get?_push_of_some _ h1
 refine wpAny_pyIter_items (s:={ s1 with heap:=s1.heap.push { cls:=.type "dict_items",data:=.fields #[.ref d] } }) (knd:=sK X.prog X.w) (ep:=ep) gv ⟨ob,es',gd,h2,h3,h4,h5,h6⟩ ?_
 have k2:∀b u,s1.heap.get? b=some u->((s1.heap.push { cls:=.type "dict_items",data:=.fields #[.ref d] }).push { cls:=.type "dict_itemiterator",data:=.fields #[.none,.bool false,.ref d,.int 0 0,.int vs.length 0,.int ep 0,.none,.none] }).get? b=some u:=fun b u e=>Heap.get?_push_of_some _ (Heap.get?_push_of_some _ e)
 have I2:=I1.kept (t':=s1.toks) k2
 have I3:=b_F (d:=d) (h':=(s1.heap.push { cls:=.type "dict_items",data:=.fields #[.ref d] }).push { cls:=.type "dict_itemiterator",data:=.fields #[.none,.bool false,.ref d,.int 0 0,.int vs.length 0,.int ep 0,.none,.none] }) (t':=s1.toks) (ob:=exO d ob) I2 (by rw [hd];exact True.intro) (Heap.SameBut.refl _ _) ⟨_,k2 _ _ h1⟩ ⟨k2 _ _ h1,⟨_,k2 _ _ h1⟩,fun g1 g2 a b=>b _ a⟩
 have sz:(s1.heap.push { cls:=.type "dict_items",data:=.fields #[.ref d] }).objs.size=s1.heap.objs.size+1:=Heap.size_push _ _
 refine ⟨_,[(s1.heap.push { cls:=.type "dict_items",data:=.fields #[.ref d] }).objs.size],_,Itm d ob kvs,_,rfl,I3,turn_items rel ⟨es',h2,h3,h4,h5,h6⟩,⟨_,_,Heap.get?_push_size _ rfl⟩,fun c hc=>?_,q ob⟩
 rw [List.mem_singleton.mp hc]
 have hge:s1.heap.objs.size≤(s1.heap.push { cls:=.type "dict_items",data:=.fields #[.ref d] }).objs.size:=by rw [sz];exact Nat.le_succ _
 refine I1.fpOk hge ?_
 have hn:=I1.hok.fresh hge
 rw [upd_ne (ne_of_none hd hn).symm]
 exact hn
end L2
namespace RA
open PySem L2
theorem comp2T_items {K:PySem.W.Frag} {P:Program} {σ:St} (ht:∀R:VK,R (.ref c) H->to σ H R) (hH:H c=some (kdO (sK P w) c kvs)) (Pv:Addr->Nat->List V->Hp->Prop) (hz:kvs.length≤sizeLine)
  (h0:∀o D,L2.upd H c o D=none->Pv D 0 [] (L2.upd (L2.upd H c o) D (.lst [])))
  (hs:∀(o:HO) (D:Addr) (i:Nat) (k:Str) (x:V) (ys:List V) (H' H3:Hp) (R1:VK) (R2:Hp->Prop),L2.upd H c o D=none->kvs[i]?=some (k,x)->Same (L2.upd H c o) H'->H' D=some (.lst ys)->Pv D i ys H'->Same H' H3->
   (∀y H5,H5 D=some (.lst ys)->Same (L2.upd H c o) (L2.upd H5 D (.lst (ys++[y])))->Pv D (i+1) (ys++[y]) (L2.upd H5 D (.lst (ys++[y])))->R1 y H5)->(∀H4,Same (L2.upd H c o) H4->H4 D=some (.lst ys)->Pv D (i+1) ys H4->R2 H4)->
   tt (some (.str k)::some x::σ) H3 fun b H4=>if b=true then te (some (.str k)::some x::σ) H4 R1 else R2 H4)
  (hq:∀o D ys H',L2.upd H c o D=none->Same (L2.upd H c o) H'->H' D=some (.lst ys)->Pv D kvs.length ys H'->Q (.ref D) H'):tComp2T K (iItems P w to) tt te σ H Q:=by
 refine ht _ ⟨c,kvs,rfl,hH,fun ob=>?_⟩
 have e0:L2.upd H c (exO c ob) c=some (exO c ob):=upd_same
 refine e_G (K:=K) (n:=kvs.length) (fun i a b=>∃k,a=.str k/\kvs[i]?=some (k,b)) Pv hz (fun i H2 s h=>⟨s _ _ e0,h⟩) ?_ (fun H2 s=>⟨s _ _ e0,rfl⟩) (h0 _) ?_ (hq _)
 ·rintro i H2 x H3 s h ⟨p,k,y,_,e2,e3,e4,e5⟩
  exact ⟨p,_,y,e3,⟨k,rfl,e2⟩,e4,e5⟩
 ·rintro D i a b ys H' H3 R1 R2 hD _ ⟨k,rfl,hb⟩ a1 a2 a3 a4 a5 a6
  exact hs _ D i k b ys H' H3 R1 R2 hD hb a1 a2 a3 a4 a5 a6
end RA
namespace L2
open PySem PySem.Spec PyProof.Rows
def lamHO (f:Addr) (qual:Str) (params:Arguments) (body:Expr) (scope:Scope) (clos:List (Str×Addr)) (c:Addr):HO:=.ext fun h=>∃pm ctv,h.get? f=some (PySem.W.kla_obj "<lambda>" qual params body scope clos pm c ctv)
theorem lamHO_ok {P:Program} {w:World}
  (x:h.get? f=some (PySem.W.kla_obj "<lambda>" qual params body scope clos pm c ctv)):b_b P w H h f (lamHO f qual params body scope clos c):=
 ⟨⟨pm,ctv,x⟩,⟨_,x⟩,fun _ _ ⟨p,v,e⟩ k=>⟨p,v,k _ e⟩⟩
def tLam (X:Cx) (P0:Addr) (sites:List (Pos×Str)) (qual:Str) (params:Arguments) (body:Expr) (sc:Scope):TE:=fun _ H Q=>b_X H P0 sites/\
 ∀(clos:List (Str×Addr)) (f c:Addr) (H1:Hp),(∀y a,clos.lookup y=some a->X.env.cells.lookup y=some a)->(∀y∈sc.names,y.2=.free->∃a,clos.lookup y.1=some a)->H f=none->f≠c->c_L P0 H H1->b_X H1 P0 sites->
  H1 c=some (codeHO c qual)->H1 f=some (lamHO f qual params body sc clos c)->Q (.ref f) H1
theorem pe_lam {X:Cx} {params:Arguments} {body:Expr} {sc:Scope} (hcode:X.env.code=.ref c) (hC:PySem.W.CodeHd X.base c P0) (hB:g_b X.base X.mg)
  (hsite:(pos,qual)∈sites) (hsites:∀q∈sites,q.1.line=pos.line->q.1.col=pos.col->q.2=qual) (hq:X.env.qual++"<lambda>"=qual:=by rfl) (hdef:defaultsOf params X.env=([],[]):=by rfl)
  (hfree:(sc.names.all fun y=>y.2 !=.free || X.env.scope.names.lookup y.1==some .cell)=true:=by rfl):
  PE X (.Lambda params body sc pos) (tLam X P0 sites qual params body sc):=by
 intro pins s σ H Q I h
 obtain ⟨⟨ps,hP,ht,hall⟩,h⟩:=h
 have hfr:∀y∈sc.names,y.2=.free->X.env.kindOf y.1=some .cell:=fun y hy e=>by
  have q:=List.all_eq_true.mp hfree y hy
  rw [e] at q
  simpa [Env.kindOf] using q
 obtain ⟨cl,hclos,hsub,hhas⟩:=b_P (env:=X.env) (sc:=sc) fun y hy e=>I.ok.has y.1 (.inl (hfr y hy e))
 have hPh:s.heap.get? P0=some (PySem.W.tabObj ps):=I.hok P0 _ hP
 have hPlt:P0<s.heap.objs.size:=I.hok.lt hP
 have hbP:s.heap.BuiltinsAt X.mg P0:=by
  obtain ⟨bm,o,e1,e2,e3,e4,e5,e6,e7⟩:=hB.ex
  refine ⟨bm,o,e1,e2,e3,fun z=>?_,(I.bs bm o e4).1,e5,e6,e7⟩
  have n:=(I.bs bm o e4).2
  rw [z,hP] at n
  cases n
 have hgs:s.heap.Ns mainGlobals X.mg:=I.mod.glob.keeps I.bk
 have hgP:mainGlobals≠P0:=fun z=>by
  obtain ⟨o,es,ep,e,hd,_⟩:=hgs
  rw [z,hPh] at e
  cases e
  cases hd
 have hC':=hC.keeps I.bk
 refine PySem.W.kla_eval hdef ?_
 rw [hq]
 have fin:∀{f:Addr} {s1:Shared} {H1:Hp},Inv X pins σ H1 s1->Q (.ref f) H1->EP X pins σ Q (.ref f) s1:=fun {f s1 H1} I1 q=>⟨.ref f,H1,I1,rfl,q⟩
 have old:∀{b:Addr} {u:HO},H b=some u->b<s.heap.objs.size:=fun e=>I.hok.lt e
 rcases hall _ hsite with hnf | ⟨c0,hhit,hc0⟩
 ·refine PySem.W.kla_makeFunction (mg:=X.mg) hclos I.ok.glob hgs hcode hC' hPh ht hnf hgP hbP fun c' ctv h' tk hxx hge hlt hrec htb=>?_
  have hPc:P0≠c':=Nat.ne_of_lt (Nat.lt_of_lt_of_le hPlt hge)
  have hszh:s.heap.objs.size<h'.objs.size:=Nat.lt_of_le_of_lt hge hlt
  have hPf:P0≠h'.objs.size:=Nat.ne_of_lt (Nat.lt_trans hPlt hszh)
  have hcf:c'≠h'.objs.size:=Nat.ne_of_lt hlt
  generalize hfe:h'.objs.size=f at hPf hcf hszh ⊢
  have kp:∀b o,b≠P0->s.heap.get? b=some o->(h'.push (PySem.W.kla_obj "<lambda>" qual params body sc cl ((X.mg "__name__").getD .none) c' ctv)).get? b=some o:=fun b o hb e=>Heap.get?_push_of_some _ (hxx b o hb e)
  have hof:(h'.push (PySem.W.kla_obj "<lambda>" qual params body sc cl ((X.mg "__name__").getD .none) c' ctv)).get? f=some (PySem.W.kla_obj "<lambda>" qual params body sc cl ((X.mg "__name__").getD .none) c' ctv):=by rw [<- hfe];exact Heap.get?_push_size _ rfl
  have hoc:(h'.push (PySem.W.kla_obj "<lambda>" qual params body sc cl ((X.mg "__name__").getD .none) c' ctv)).CodeRec (.ref c') qual:=by
   obtain ⟨c2,oc,vs,t,e,e1,e2,e3⟩:=hrec
   exact ⟨c2,oc,vs,t,e,Heap.get?_push_of_some _ e1,e2,e3⟩
  have hoP:(h'.push (PySem.W.kla_obj "<lambda>" qual params body sc cl ((X.mg "__name__").getD .none) c' ctv)).get? P0=some (PySem.W.tabObj (ps++#[rawInt pos.line,rawInt pos.col,.ref c'])):=Heap.get?_push_of_some _ htb
  generalize h'.push (PySem.W.kla_obj "<lambda>" qual params body sc cl ((X.mg "__name__").getD .none) c' ctv)=hh at kp hof hoc hoP ⊢
  generalize hps:ps++#[rawInt pos.line,rawInt pos.col,.ref c']=ps' at hoP
  have nlt:∀{b:Addr},b<s.heap.objs.size->b≠c'/\b≠f:=fun hb=>⟨Nat.ne_of_lt (Nat.lt_of_lt_of_le hb hge),Nat.ne_of_lt (Nat.lt_trans hb hszh)⟩
  have get1:∀{b:Addr},b<s.heap.objs.size->b≠P0->upd (upd (upd H P0 (.tbl ps')) c' (codeHO c' qual)) f (lamHO f qual params body sc cl c') b=H b:=fun hb hbP=>by
   rw [upd_ne (nlt hb).2,upd_ne (nlt hb).1,upd_ne hbP]
  have getO:∀{b:Addr},b≠P0->b≠c'->b≠f->upd (upd (upd H P0 (.tbl ps')) c' (codeHO c' qual)) f (lamHO f qual params body sc cl c') b=H b:=fun h1 h2 h3=>by
   rw [upd_ne h3,upd_ne h2,upd_ne h1]
  have getP:upd (upd (upd H P0 (.tbl ps')) c' (codeHO c' qual)) f (lamHO f qual params body sc cl c') P0=some (.tbl ps'):=by rw [upd_ne hPf,upd_ne hPc,upd_same]
  have getc:upd (upd (upd H P0 (.tbl ps')) c' (codeHO c' qual)) f (lamHO f qual params body sc cl c') c'=some (codeHO c' qual):=by rw [upd_ne hcf,upd_same]
  have getf:upd (upd (upd H P0 (.tbl ps')) c' (codeHO c' qual)) f (lamHO f qual params body sc cl c') f=some (lamHO f qual params body sc cl c'):=upd_same
  generalize upd (upd (upd H P0 (.tbl ps')) c' (codeHO c' qual)) f (lamHO f qual params body sc cl c')=H1 at get1 getO getP getc getf
  have nP:∀{b:Addr},H b=none->b≠P0:=fun n z=>by rw [z,hP] at n;cases n
  have keepH:∀{b:Addr} {u:HO},H b=some u->b≠P0->H1 b=some u:=fun e hb=>by rw [get1 (old e) hb];exact e
  have notT:∀{b:Addr} {u:HO},H b=some u->(∀ps,u≠.tbl ps)->H1 b=some u:=fun e hu=>keepH e fun z=>by
   rw [z,hP] at e
   cases e
   exact hu _ rfl
  have un:Un X.fs [] H H1 s.heap hh:=by
   refine ⟨fun b o e n _ _=>kp b o (nP n) e,fun b o e n _ _=>⟨o.slots,kp b o (nP n) e⟩,fun b o e n _=>by rw [get1 (Heap.lt_size e) (nP n)];exact n,fun b o e _=>?_,fun b xs e=>notT e (fun _ z=>nomatch z),fun b o u e=>notT e (fun _ z=>nomatch z),fun b qs e=>?_⟩
   ·by_cases hb:b=P0
    ·rw [hb];exact ⟨_,hoP⟩
    ·exact ⟨o,kp b o hb e⟩
   ·by_cases hb:b=P0
    ·rw [hb,hP] at e
     cases e
     rw [hb]
     exact ⟨_,by rw [getP,hps]⟩
    ·exact ⟨#[],by rw [keepH e hb];simp⟩
  have hok1:HOk X.prog X.w H1 hh:=fun a o e=>by
   by_cases haf:a=f
   ·rw [haf] at e ⊢
    rw [getf] at e
    cases e
    exact lamHO_ok hof
   by_cases hac:a=c'
   ·rw [hac] at e ⊢
    rw [getc] at e
    cases e
    exact codeHO_ok hoc
   by_cases haP:a=P0
   ·rw [haP] at e ⊢
    rw [getP] at e
    cases e
    exact hoP
   rw [getO haP hac haf] at e
   refine (I.hok a o e).stay (fun b u hb q=>kp b u (fun z=>?_) q) (fun b q=>notT q (fun _ z=>nomatch z)) fun b xs q=>notT q (fun _ z=>nomatch z)
   rcases hb with hb | hb
   ·exact haP (hb▸z)
   ·rw [z,hP] at hb;cases hb
  have I1:Inv X pins σ H1 { s with heap:=hh,toks:=tk }:=I.un un hok1
  refine fin I1 (h cl f c' H1 hsub hhas (I.hok.fresh (Nat.le_of_lt hszh)) (Ne.symm hcf) (fun b o hb e=>keepH e hb) ⟨ps',getP,?_,fun q hqs=>?_⟩ getc getf)
  ·rw [<- hps,Array.toList_append]
   exact d_X _ _ _ _ _ _ ht
  ·rw [<- hps,Array.toList_append,among_app _ _ _ ht]
   rcases hall q hqs with hn | ⟨c1,h1,h2⟩
   ·rw [hn,Option.none_or]
    by_cases hsame:q.1.line=pos.line/\q.1.col=pos.col
    ·refine .inr ⟨c',?_,?_⟩
     ·show codeAmong q.1 [rawInt pos.line,rawInt pos.col,.ref c']=_
      simp [codeAmong,rawInt,hsame.1,hsame.2]
     ·rw [hsites q hqs hsame.1 hsame.2]
      exact getc
    ·refine .inl ?_
     show codeAmong q.1 [rawInt pos.line,rawInt pos.col,.ref c']=_
     simp only [codeAmong,rawInt]
     rw [if_neg]
     intro z
     simp at z
     exact hsame ⟨by omega,by omega⟩
   ·rw [h1,Option.some_or]
    exact .inr ⟨c1,rfl,notT h2 (fun _ z=>nomatch z)⟩
 ·refine PySem.W.kla_makeFunctionHit (mg:=X.mg) hclos I.ok.glob hgs hcode hC' hPh ht hhit hbP fun ctv h' tk hk hsz=>?_
  have I1:Inv X pins σ (upd H h'.objs.size (lamHO h'.objs.size qual params body sc cl c0)) { s with heap:=h'.push (PySem.W.kla_obj "<lambda>" qual params body sc cl ((X.mg "__name__").getD .none) c0 ctv),toks:=tk }:=
   I.laid (fun b u e=>Heap.get?_push_of_some _ (hk b u e)) hsz (lamHO_ok (Heap.get?_push_size _ rfl))
  have hfn:H h'.objs.size=none:=I.hok.fresh hsz
  have kH:∀{b:Addr} {u:HO},H b=some u->upd H h'.objs.size (lamHO h'.objs.size qual params body sc cl c0) b=some u:=fun e=>by rw [upd_ne (ne_of_none e hfn)];exact e
  refine fin I1 (h cl _ c0 _ hsub hhas hfn (Ne.symm (ne_of_none hc0 hfn)) (fun b o _ e=>kH e) ⟨ps,kH hP,ht,fun q hqs=>?_⟩ (kH hc0) upd_same)
  rcases hall q hqs with hn | ⟨c1,h1,h2⟩
  ·exact .inl hn
  ·exact .inr ⟨c1,h1,kH h2⟩
theorem fn_ofL {P:Program} {w:World} {K:PySem.W.Frag} {mg:Str->Option Value} {base:Heap} {N ps fr:List Str} {qual:Str} {scope:Scope} {f:Addr} {clos:List (Str×Addr)} {fvs:List V} {k:Nat} {params:Arguments} {body:Expr} {pm ctv:Value} {c':Addr} {sp:Sp} {o:Obj}
  (ho:base.get? f=some o) (hd:o.data=.func (PySem.W.kla_fn "<lambda>" qual params body scope clos pm (.ref c') ctv)) (hcd:base.CodeRec (.ref c') qual) (S:c_U N ps fr scope) (C:c_r base clos scope fr fvs) (len:∀vs H Q E,sp vs H Q E->vs.length=ps.length)
  (hbody:∀(A:Around) (outer:List Env) (s:Shared) (H:Hp) (vs:List V) (Q:VK) (E:XK),Room k (A.deeper (PySem.W.envX qual scope s.heap.objs.size f (.ref c') clos))->sp vs H Q E->
   ∃t,PE (cxOfC CX0 P w K mg base N qual scope f (.ref c') clos A outer s H E).nox body t/\t (c_d N vs fvs) H Q):
  FnOk P w K mg base CX0 (k+1) f (PySem.W.kla_fn "<lambda>" qual params body scope clos pm (.ref c') ctv) ps sp:=by
 refine ⟨len,fun A outer s H args us vs Q E hr e0 hb r hsp=>?_⟩
 have hl:=len _ _ _ _ hsp
 have lim:s.heap.NoLimit:=e0.mod.nolimit.keeps fun b o e=>(e0.bs b o e).1
 have hkind:∀y∈ps.zip us,scope.names.lookup y.1=some .local:=fun ⟨n,v⟩ hy=>S.par n (List.of_mem_zip hy).1
 have hcd':s.heap.CodeRec (.ref c') qual:=by
  obtain ⟨c,oc,ws,t,e1,e2,e3,e4⟩:=hcd
  exact ⟨c,oc,ws,t,e1,(e0.bs c oc e2).1,e3,e4⟩
 refine PySem.W.kla_callFunE hr.depth (e0.bs f o ho).1 hd S.co S.gen rfl hcd' (hb _ _ _ _ ?_)
 refine wpAny_newFunctionEnv (closure:=clos) (around:=none) S.nocell hkind (fun h' hns hsb=>?_) S.kind
 have hkp:∀b o,s.heap.get? b=some o->h'.get? b=some o:=fun b o e=>hsb.extBut b o (Nat.ne_of_lt (Heap.lt_size e)) (Heap.get?_push_of_some _ e)
 refine ⟨lim.keeps hkp,PySem.W.kla_codeExpr ?_⟩
 obtain ⟨t,ht,hq⟩:=hbody A outer s H vs Q E (hr.deeper _) hsp
 have I:Inv (cxOfC CX0 P w K mg base N qual scope f (.ref c') clos A outer s H E) [] (c_d N vs fvs) H { s with heap:=h',toks:=s.toks+(ps.zip us).length }:=f_h S C hr.hd e0 hl r hns hsb
 refine wpAny_mono (ht [] _ (c_d N vs fvs) H _ (I.wish _) hq) (fun u s' hs=>?_) fun e s' hs=>hs.elim
 obtain ⟨v,H',J,rv,q⟩:=hs
 have J2:=J.unwish
 exact ⟨v,H',J2.os,J2.bare,J2.base,J2.hok,rv,q⟩
structure d_U (N:List Str) (x:Str) (fr:List Str) (sc:Scope):Prop where
 kind:sc.kind=.function
 co:sc.isCoroutine=false
 gen:sc.isGenerator=false
 nd:N.Nodup
 pre:N.take 1=[x]
 suf:N.drop (N.length - fr.length)=fr
 fit:1+fr.length≤N.length
 par:sc.names.lookup x=some .cell
 only:∀y∈sc.names,y.2=.cell->y.1=x
 lay:∀n acc,cellsFrom n sc.names acc=(x,n)::acc
 push:∀h,pushCells h sc.names=h.push { cls:=.type "cell",data:=.cell none }
theorem env_one {M:Model} {A:Around} {E:Value->Shared->Prop} {s:Shared} {scope:Scope} {globals:Addr} {code:Value} (S:d_U N x fr scope)
  (hQ:∀h' tk,h'.Ns s.heap.objs.size (fun _=>none)->h'.IsCell (s.heap.objs.size+1) (some u)->(∀b o,s.heap.get? b=some o->h'.get? b=some o)->Q (newEnv scope s.heap.objs.size globals ((x,s.heap.objs.size+1)::clos) qual func code none builtins) { s with heap:=h',toks:=tk }):
  wpAny M A (newFunctionEnv scope globals clos [(x,u)] qual func code none builtins) Q E s:=by
 simp only [Option.isSome_none,newFunctionEnv,if_false,Bool.false_eq_true]
 refine wpAny_bind (wpAny_alloc (wpAny_bind (wpAny_layCells _ (fun nm kd cs=>by cases z:kd==NameKind.cell <;> simp [z]) _ _ _ _ ?_)))
 rw [S.lay,S.push]
 have e1:(s.heap.push { cls:=.type "frame",data:=.dict #[] }).objs.size=s.heap.objs.size+1:=Heap.size_push ..
 have k1:∀b o,s.heap.get? b=some o->((s.heap.push { cls:=.type "frame",data:=.dict #[] }).push { cls:=.type "cell",data:=.cell none }).get? b=some o:=fun b o e=>Heap.get?_push_of_some _ (Heap.get?_push_of_some _ e)
 have hc0:((s.heap.push { cls:=.type "frame",data:=.dict #[] }).push { cls:=.type "cell",data:=.cell none }).IsCell (s.heap.objs.size+1) none:=⟨_,by rw [<- e1];exact Heap.get?_push_size _ rfl,rfl⟩
 have hn0:((s.heap.push { cls:=.type "frame",data:=.dict #[] }).push { cls:=.type "cell",data:=.cell none }).Ns s.heap.objs.size (fun _=>none):=(Heap.Ns.new s.heap (.type "frame")).keeps fun b o e=>Heap.get?_push_of_some _ e
 dsimp only
 rw [e1]
 generalize (s.heap.push { cls:=.type "frame",data:=.dict #[] }).push { cls:=.type "cell",data:=.cell none }=hh at k1 hc0 hn0 ⊢
 refine wpAny_bind ?_
 rw [List.forIn_cons]
 have lk:((x,s.heap.objs.size+1)::clos).lookup x=some (s.heap.objs.size+1):=by rw [List.lookup_cons];simp
 refine wpAny_bind (wpAny_bind (wpAny_storeName_cell (c:=s.heap.objs.size+1) (v₀:=none) S.kind S.par lk hc0 fun h' hv hs=>wpAny_pure ?_))
 dsimp only
 rw [List.forIn_nil]
 refine wpAny_pure (wpAny_pure ?_)
 have nb:∀{b:Addr} {o:Obj},s.heap.get? b=some o->b≠s.heap.objs.size+1:=fun e=>Nat.ne_of_lt (Nat.lt_succ_of_lt (Heap.lt_size e))
 exact hQ h' _ (hn0.sameBut hs (Nat.ne_of_lt (Nat.lt_succ_self _))) hv fun b o e=>hs.extBut b o (nb e) (k1 b o e)
def cxOfD (CX:CXT) (P:Program) (w:World) (K:PySem.W.Frag) (mg:Str->Option Value) (base:Heap) (N:List Str) (x:Str) (qual:Str) (scope:Scope) (f:Addr) (cd:Value) (clos:List (Str×Addr)) (A:Around) (outer:List Env) (s:Shared) (H:Hp) (E:XK):Cx:=cxOfC CX P w K mg base N qual scope f cd ((x,s.heap.objs.size+1)::clos) A outer s H E
section
variable {CX:CXT} {P:Program} {w:World} {K:PySem.W.Frag} {mg:Str->Option Value} {base:Heap} {N fr:List Str} {x:Str} {qual:Str} {scope:Scope} {f:Addr} {cd:Value} {clos:List (Str×Addr)} {A:Around} {outer:List Env} {s:Shared} {H:Hp} {E:XK} {u:Value} {v:V} {fvs:List V}
theorem inv_startD (S:d_U N x fr scope) (C:c_r base clos scope fr fvs) (hd:A.handled=none) (e0:Env0 P w K mg base A outer s H) (r:RelV v u)
  (hns:h'.Ns s.heap.objs.size (fun _=>none)) (hcell:h'.IsCell (s.heap.objs.size+1) (some u)) (hk:∀b o,s.heap.get? b=some o->h'.get? b=some o):
  Inv (cxOfD CX P w K mg base N x qual scope f cd clos A outer s H E) [] (c_d N [v] fvs) H { s with heap:=h',toks:=tk }:=by
 have noA:∀b:Addr,b∉(cxOfD CX P w K mg base N x qual scope f cd clos A outer s H E).ex:=fun b z=>absurd (show b∈([]:List Addr) from z) (by simp)
 have cellK:∀c v,base.IsCell c v->h'.IsCell c v:=fun c v ⟨o,ho,hd⟩=>⟨o,hk c o (e0.bs c o ho).1,hd⟩
 have cellLt:∀y c,clos.lookup y=some c->c<s.heap.objs.size:=fun y c h=>by
  obtain ⟨v,o,ho,_⟩:=C.cell y c h
  exact Heap.lt_size (e0.bs c o ho).1
 have hfit:=S.fit
 have hfl:=C.len
 have lkx:((x,s.heap.objs.size+1)::clos).lookup x=some (s.heap.objs.size+1):=by rw [List.lookup_cons];simp
 have lk:∀{y c},((x,s.heap.objs.size+1)::clos).lookup y=some c->(y=x/\c=s.heap.objs.size+1)\/clos.lookup y=some c:=fun {y c} h=>by
  rw [List.lookup_cons] at h
  by_cases z:y=x
  ·subst z
   simp at h
   exact .inl ⟨rfl,h.symm⟩
  ·rw [show (y==x)=false by simpa using z] at h
   exact .inr h
 have lkc:∀{y c},clos.lookup y=some c->∃c',((x,s.heap.objs.size+1)::clos).lookup y=some c':=fun {y c} h=>by
  rw [List.lookup_cons]
  cases (y==x) with
  | true=>exact ⟨_,rfl⟩
  | false=>exact ⟨c,h⟩
 refine ⟨⟨e0.mod,S.kind,rfl,rfl,Nat.le_refl _,fun y z c h1 h2=>?_,fun y hy=>?_,fun y c h=>absurd (show false=true from h) Bool.false_ne_true,fun _=>hd,Around.frames_deeper e0.frames,.inr ⟨rfl,rfl⟩,fun b z=>absurd z (noA b),e0.bs,e0.bsz,fun b _ _=>noA b,fun b z=>absurd z (noA b),e0.funs,e0.frf⟩,
  rfl,e0.bare,Un.kept hk,⟨_,hns,fun i y v' h1 h2 h3=>?_⟩,fun y c h=>?_,e0.hok.fresh (Nat.le_refl _),fun y c h=>?_,fun p hp=>absurd (show p∈([]:List (Addr×Obj)) from hp) (by simp),e0.hok.kept hk,?_⟩
 ·rcases lk h1 with ⟨a1,a2⟩ | a <;> rcases lk h2 with ⟨b1,b2⟩ | b
  ·rw [a1,b1]
  ·have q:=cellLt _ _ b
   rw [a2] at q
   exact absurd q (Nat.not_lt_of_le (Nat.le_succ _))
  ·have q:=cellLt _ _ a
   rw [b2] at q
   exact absurd q (Nat.not_lt_of_le (Nat.le_succ _))
  ·exact C.inj y z c a b
 ·have hy:scope.names.lookup y=some .cell\/scope.names.lookup y=some .free:=hy
  rcases hy with hy | hy
  ·obtain rfl:y=x:=S.only _ (PySem.mem_of_lookup hy) rfl
   exact ⟨_,lkx⟩
  ·obtain ⟨c,hc⟩:=C.has _ (PySem.mem_of_lookup hy) rfl
   exact lkc hc
 ·have h1:N[i]?=some y:=h1
  have hi:i<N.length:=(List.getElem?_eq_some_iff.mp h1).1
  unfold c_d at h2
  by_cases hiv:i<1
  ·obtain rfl:i=0:=by omega
   have e:v=v':=by simpa using h2
   subst e
   have hx:N[0]?=some x:=by
    have q:(N.take 1)[0]?=some x:=by rw [S.pre];rfl
    rw [List.getElem?_take_of_lt (by decide)] at q
    exact q
   rw [hx] at h1
   cases h1
   exact ⟨u,r,.inr ⟨.inl S.par,_,lkx,hcell⟩⟩
  ·rw [List.getElem?_append_right (by simp;omega)] at h2
   rw [List.length_map,List.length_singleton] at h2
   by_cases hir:i - 1<N.length - 1 - fvs.length
   ·rw [List.getElem?_append_left (by simpa using hir),List.getElem?_replicate,if_pos hir] at h2
    cases h2
   ·rw [List.getElem?_append_right (by simpa using hir),List.length_replicate,List.getElem?_map] at h2
    have ej:i - 1 - (N.length - 1 - fvs.length)=i - (N.length - fr.length):=by omega
    rw [ej] at h2
    cases e:fvs[i - (N.length - fr.length)]? with
    | none=>rw [e] at h2;cases h2
    | some a=>
     rw [e] at h2
     cases h2
     have hf:fr[i - (N.length - fr.length)]?=some y:=by
      have q:(N.drop (N.length - fr.length))[i - (N.length - fr.length)]?=some y:=by
       rw [List.getElem?_drop,show N.length - fr.length+(i - (N.length - fr.length))=i by omega]
       exact h1
      rw [S.suf] at q
      exact q
     obtain ⟨k1,c,u',k2,k3,k4⟩:=C.val _ _ _ hf e
     have hyx:y≠x:=fun z=>by rw [z,S.par] at k1;cases k1
     have k2':((x,s.heap.objs.size+1)::clos).lookup y=some c:=by rw [List.lookup_cons,show (y==x)=false by simpa using hyx];exact k2
     exact ⟨u',k4,.inr ⟨.inr k1,c,k2',cellK c _ k3⟩⟩
 ·rcases lk h with ⟨_,z⟩ | z
  ·rw [z];exact ⟨_,hcell⟩
  ·obtain ⟨v,q⟩:=C.cell y c z
   exact ⟨v,cellK c v q⟩
 ·rcases lk h with ⟨_,z⟩ | z
  ·rw [z];exact e0.hok.fresh (Nat.le_succ _)
  ·obtain ⟨v,o,ho,_⟩:=C.cell y c z
   exact (e0.bs c o ho).2
 ·unfold c_d
  show _=N.length
  simp only [List.length_append,List.length_map,List.length_replicate,List.length_singleton]
  omega
theorem fn_ofD (ho:base.get? f=some o) (hd:o.data=.func (PySem.W.fnX name qual params body scope clos .none .none doc pm none (.ref c') ctv))
  (hcd:base.CodeRec (.ref c') qual) (S:d_U N x fr scope) (C:c_r base clos scope fr fvs) (len:∀vs H Q E,sp vs H Q E->vs.length=[x].length)
  (hbody:∀(A:Around) (outer:List Env) (s:Shared) (H:Hp) (v:V) (Q:VK) (E:XK),Room k (A.deeper (PySem.W.envX qual scope s.heap.objs.size f (.ref c') ((x,s.heap.objs.size+1)::clos)))->sp [v] H Q E->
   ∃t,PSs (cxOfD CX0 P w K mg base N x qual scope f (.ref c') clos A outer s H E).nox body t/\t { nx:=fun _ H'=>Q .non H',rt:=Q } (c_d N [v] fvs) H):
  FnOk P w K mg base CX0 (k+1) f (PySem.W.fnX name qual params body scope clos .none .none doc pm none (.ref c') ctv) [x] sp:=by
 refine ⟨len,fun A outer s H args us vs Q E hr e0 hb r hsp=>?_⟩
 have hl:=len _ _ _ _ hsp
 obtain ⟨v,rfl⟩:∃v,vs=[v]:=by
  match vs,hl with
  | [v],_=>exact ⟨v,rfl⟩
 obtain ⟨u,rfl,ru⟩:=f_m r
 have lim:s.heap.NoLimit:=e0.mod.nolimit.keeps fun b o e=>(e0.bs b o e).1
 have hcd':s.heap.CodeRec (.ref c') qual:=by
  obtain ⟨c,oc,ws,t,e1,e2,e3,e4⟩:=hcd
  exact ⟨c,oc,ws,t,e1,(e0.bs c oc e2).1,e3,e4⟩
 refine codeAny_call_function hr.depth (e0.bs f o ho).1 hd S.co S.gen rfl hcd' (hb _ _ _ _ ?_)
 refine env_one S fun h' tk hns hcell hkp=>?_
 refine ⟨lim.keeps hkp,codeAny_func ?_⟩
 obtain ⟨t,ht,hq⟩:=hbody A outer s H v Q E (hr.deeper _) hsp
 have I:Inv (cxOfD CX0 P w K mg base N x qual scope f (.ref c') clos A outer s H E) [] (c_d N [v] fvs) H { s with heap:=h',toks:=tk }:=inv_startD S C hr.hd e0 ru hns hcell hkp
 refine wpAny_mono (ht.nox [] _ (c_d N [v] fvs) H _ I hq) (fun fl s' hs=>?_) fun e s' hs=>hs
 have fin:∀{σ':St} {H':Hp} {v:V} {u:Value},Inv (cxOfD CX0 P w K mg base N x qual scope f (.ref c') clos A outer s H E) [] σ' H' s'->RelV v u->Q v H'->CE outer P w H s Q u s':=
  fun {σ' H' v u} J rv q=>⟨v,H',J.os,J.bare,J.base,J.hok,rv,q⟩
 cases fl with
 | ret u=>
  obtain ⟨v,σ',H',J,rv,q⟩:=hs
  exact fin J rv q
 | next=>
  obtain ⟨σ',H',J,q⟩:=hs
  exact fin (v:=V.non) (u:=Value.none) J rfl q
 | brk=>
  obtain ⟨_,_,_,q⟩:=hs
  exact False.elim q
 | cont=>
  obtain ⟨_,_,_,q⟩:=hs
  exact False.elim q
end
theorem clos_atN (Wd:WideAt X U σ H base') (sub:∀y a,clos.lookup y=some a->X.env.cells.lookup y=some a) (has:∀y∈sc.names,y.2=.free->∃a,clos.lookup y.1=some a) (hl:fvs.length=fr.length)
  (hN:∀(i:Nat) (y:Str) (v:V),fr[i]?=some y->fvs[i]?=some v->(∃j:Nat,X.N[j]?=some y/\σ[j]?=some (some v))/\X.env.scope.names.lookup y=some .cell/\sc.names.lookup y=some .free):c_r base' clos sc fr fvs:=by
 refine ⟨fun y z c h1 h2=>Wd.inj y z c (sub y c h1) (sub z c h2),has,fun y c h=>Wd.cell y c (sub y c h),hl,fun i y v h1 h2=>?_⟩
 obtain ⟨⟨j,a1,a2⟩,a3,a4⟩:=hN i y v h1 h2
 obtain ⟨a,ha⟩:=has (y,.free) (PySem.mem_of_lookup a4) rfl
 obtain ⟨c,u,e1,e2,e3⟩:=Wd.val j y v a1 a2 a3
 have e4:=sub _ _ ha
 rw [e1] at e4
 cases e4
 exact ⟨a4,_,u,ha,e2,e3⟩
end L2
namespace RA
open PySem L2
theorem comp2T_zipST {zs:List V} {σ:St} (ht:∀R:List V->Hp->Prop,R [.str (tx cs),.ref d] H->t σ H R) (hK:H d=some (.tup zs)) (hl:cs.length=zs.length) (Pv:Addr->Nat->List V->Hp->Prop) (hz:cs.length≤sizeLine)
  (h0:∀D,H D=none->Pv D 0 [] (L2.upd H D (.lst [])))
  (hs:∀(D:Addr) (i:Nat) (c:Nat) (z:V) (ys:List V) (H' H3:Hp) (R1:VK),H D=none->cs[i]?=some c->zs[i]?=some z->Same H H'->H' D=some (.lst ys)->Pv D i ys H'->Same H' H3->
   (∀y H5,H5 D=some (.lst ys)->Same H (L2.upd H5 D (.lst (ys++[y])))->Pv D (i+1) (ys++[y]) (L2.upd H5 D (.lst (ys++[y])))->R1 y H5)->te (some (.str (tx [c]))::some z::σ) H3 R1)
  (hq:∀D ys H',H D=none->Same H H'->H' D=some (.lst ys)->Pv D cs.length ys H'->Q (.ref D) H'):tComp2T K (iZipG t) tAlways te σ H Q:=by
 refine ht _ ⟨_,_,rfl,.inl ⟨tx cs,d,zs,rfl,rfl,hK,fun k=>?_⟩⟩
 have hx:((tx cs).cps.toList.map fun c=>V.str ⟨#[c]⟩)=cs.map fun c=>V.str (tx [c]):=by rw [b_w];rfl
 have hlen:((tx cs).cps.toList.map fun c=>V.str ⟨#[c]⟩).length=cs.length:=by rw [hx,List.length_map]
 refine e_G (K:=K) (J:=Itg (.tx (tx cs) k) (.tp d)) (n:=cs.length) (fun i a b=>∃c,a=.str (tx [c])/\cs[i]?=some c/\zs[i]?=some b) Pv hz (fun i H2 s h=>⟨_,zs,_,zs[i]'(by omega),rfl,s _ _ hK,List.getElem?_eq_getElem (by rw [hlen];exact h),List.getElem?_eq_getElem _⟩) ?_ (fun H2 s=>⟨_,zs,rfl,s _ _ hK,by rw [hlen];exact hl,hlen.symm⟩) h0 ?_ hq
 ·rintro i H2 x H3 s h ⟨p,as,bs,a,b,e1,e2,e3,e4,e5,e6,e7⟩
  have e1:as=(tx cs).cps.toList.map fun c=>V.str ⟨#[c]⟩:=e1
  have e2:H2 d=some (.tup bs):=e2
  rw [s _ _ hK] at e2
  cases e2
  rw [e1,hx,List.getElem?_map] at e3
  obtain ⟨c,hc,rfl⟩:=Option.map_eq_some_iff.mp e3
  exact ⟨p,_,b,e5,⟨c,rfl,hc,e4⟩,e6,e7⟩
 ·rintro D i a b ys H' H3 R1 R2 hD hi ⟨c,rfl,hc,hb⟩ a1 a2 a3 a4 a5 a6
  exact tAlways_if (hs D i c b ys H' H3 R1 hD hc hb a1 a2 a3 a4 a5)
def uS (L:List Nat) (n:Nat):List (List Nat):=[0]::(List.range n).flatMap fun r=>((subsL L).filter fun l=>!l.isEmpty).map fun l=>r::l
theorem flatM_len {α β:Type} {f:α->List β} {N:Nat} (h:∀a,(f a).length≤N):∀l:List α,(l.flatMap f).length≤l.length * N
 | []=>by simp
 | a::l=>by
  have:=flatM_len h l
  have:=h a
  rw [List.flatMap_cons,List.length_append,List.length_cons,Nat.add_mul,Nat.one_mul]
  omega
theorem uS_len (hL:L.length≤3) (hn:n≤8):(uS L n).length≤57:=by
 have h7:((subsL L).filter fun l=>!l.isEmpty).length≤7:=by
  have e8:(subsL L).length≤8:=by rw [d_Y];exact Nat.pow_le_pow_right (by decide) hL
  have h0:[]∈subsL L:=by
   unfold subsL
   have:∀(l:List Nat) (a:List (List Nat)),[]∈a->[]∈l.foldl stepS a:=by
    intro l
    induction l with
    | nil=>exact fun a h=>h
    | cons c l ih=>exact fun a h=>ih _ (List.mem_append_left _ h)
   exact this L _ (by simp)
  have:=(List.length_filter_lt_length_iff_exists (p:=fun l:List Nat=>!l.isEmpty)).mpr ⟨([]:List Nat),h0,(by simp:¬ ((!([]:List Nat).isEmpty)=true))⟩
  omega
 have:=flatM_len (f:=fun r=>((subsL L).filter fun l=>!l.isEmpty).map fun l=>r::l) (N:=7) (fun a=>by rw [List.length_map];exact h7) (List.range n)
 unfold uS
 rw [List.length_cons]
 rw [List.length_range] at this
 omega
theorem uS_of (hn:0<n) (h:k∈uS L n):∃r l,k=r::l/\r<n/\l.length≤L.length:=by
 rcases List.mem_cons.mp h with rfl | z
 ·exact ⟨0,[],rfl,hn,Nat.zero_le _⟩
 ·obtain ⟨r,hr,z⟩:=List.mem_flatMap.mp z
  obtain ⟨l,hl,rfl⟩:=List.mem_map.mp z
  exact ⟨r,l,rfl,List.mem_range.mp hr,f_o (List.mem_filter.mp hl).1⟩
theorem uS_go (hMa:Mach L W B) (h:k∈uS L W.length) (hq:q<L.length):gS L W k q∈uS L W.length:=by
 obtain ⟨r,l,rfl,hr,_⟩:=uS_of hMa.n1 h
 refine List.mem_cons_of_mem _ (List.mem_flatMap.mpr ⟨_,List.mem_range.mpr (goal_lt hMa hr hq),List.mem_map.mpr ⟨_,List.mem_filter.mpr ⟨(d_o hMa.lt.nd _).mpr ?_,?_⟩,rfl⟩⟩)
 ·unfold lotS
  refine List.filter_congr fun d hd=>?_
  simp [hd]
 ·have hm:L.getD q 0∈L:=by rw [List.getD_eq_getElem?_getD,List.getElem?_eq_getElem hq];exact List.getElem_mem hq
  have:L.getD q 0∈lotS L ((r::l).tail++[L.getD q 0]):=List.mem_filter.mpr ⟨hm,by simp⟩
  cases e:lotS L ((r::l).tail++[L.getD q 0]) with
  | nil=>rw [e] at this;cases this
  | cons _ _=>rfl
end RA
namespace L2
open PySem PySem.Spec PyProof.Rows
section
variable {X:Cx}
inductive PKV (X:Cx):List (Option Expr)->List Expr->List (Str×V)->Prop where
 | nil:PKV X [] [] []
 | cons {k v:Expr} {ks:List (Option Expr)} {vs:List Expr} {a:Str} {y:V} {kvs:List (Str×V)}:PE X k (tC (.str a))->PE X v (tC y)->PKV X ks vs kvs->PKV X (some k::ks) (v::vs) ((a,y)::kvs)
def KvR (p:Str×V) (q:Value×Value):Prop:=(∃t,q.1=.str p.1 t)/\RelV p.2 q.2
def KvL (kvs:List (Str×V)) (r:List (Value×Value)):Prop:=r.length=kvs.length/\∀(i:Nat) (p:Str×V) (q:Value×Value),kvs[i]?=some p->r[i]?=some q->KvR p q
theorem KvL.cons (h:KvR p q) (hr:KvL kvs r):KvL (p::kvs) (q::r):=⟨by rw [List.length_cons,List.length_cons,hr.1],fun i a b e1 e2=>by
 cases i with
 | zero=>cases e1;cases e2;exact h
 | succ i=>exact hr.2 i a b e1 e2⟩
theorem pkv_walk {σ:St} (h:PKV X ks vs kvs):∀{s:Shared} {Q:List (Value×Value)->Shared->Prop},Inv X pins σ H s->(∀r s',Inv X pins σ H s'->KvL kvs r->Q r s')->wpAny (model X.prog X.w) X.A (evalPairs (pairTrees ks vs X.env pos)) Q X.xe s:=by
 induction h with
 | nil=>exact fun I q=>pairTrees_nil_walk (q [] _ I ⟨rfl,fun i p q e _=>by cases e⟩)
 | @cons k v ks vs a y kvs hk hv _ ih=>
  intro s Q I q
  refine pairTrees_cons_walk (thn (hk pins s σ H (fun x H'=>x=.str a/\H'=H) I ⟨rfl,rfl⟩) fun u s1 ⟨x,H1,I1,rx,e1,e2⟩=>?_)
  subst e1 e2
  refine thn (hv pins s1 σ H1 (fun x H'=>x=y/\H'=H1) I1 ⟨rfl,rfl⟩) fun u2 s2 ⟨x2,H2,I2,rx2,e3,e4⟩=>?_
  subst e3 e4
  exact ih I2 fun r s3 I3 hr=>q _ _ I3 (KvL.cons ⟨rx,rx2⟩ hr)
theorem valV_no {kvs:List (Str×V)} (h:k∉kvs.map Prod.fst):valV kvs k=none:=by
 induction kvs with
 | nil=>rfl
 | cons p r ih=>
  rw [List.map_cons,List.mem_cons,not_or] at h
  rw [d_f fun z=>h.1 z.symm]
  exact ih h.2
def tXMany (P:Program) (w:World) (kvs:List (Str×V)):TE:=fun _ H Q=>∀p H',H p=none->Same H H'->H' p=some (kdO (sK P w) p kvs)->Q (.ref p) H'
theorem pe_xmany (hkv:PKV X ks vs kvs) (hn:(kvs.map Prod.fst).Nodup) (h1:0<kvs.length) (h15:kvs.length≤15) (hl:(pairTrees ks vs X.env pos).length=kvs.length:=by rfl) (hz:ks.length=vs.length:=by rfl) (ha:ks.all (·.isSome)=true:=by rfl):PE X (.Dict ks vs pos) (tXMany X.prog X.w kvs):=by
 intro pins s σ H Q I h
 have hfr:=I.hok.fresh (Nat.le_refl s.heap.objs.size)
 have I1:=I.laid (a:=s.heap.objs.size) (o:=kdO (sK X.prog X.w) s.heap.objs.size []) (t':=s.toks) (fun _ _ q=>Heap.get?_push_of_some { cls:=.type "dict",data:=.dict #[] } q) (Nat.le_refl _) (newX_ok s.heap I.bigS)
 have hsh:=zip_pairTrees ks vs X.env pos ha hz
 rw [arm_eval_Dict,hsh,dictDisplay_pairs (pairTrees ks vs X.env pos) (by intro z;rw [z] at hl;rw [<- hl] at h1;exact absurd h1 (Nat.lt_irrefl _)) (by rw [hl];omega)]
 refine wpAny_bind (wpAny_standAt (wpAny_bind ?_))
 unfold subDict
 refine wpAny_bind (wpAny_alloc (wpAny_bind (wpAny_holding ?_)))
 rw [if_pos (by rw [hl];exact h15)]
 refine wpAny_bind (pkv_walk hkv I1 fun r s1 I2 hr=>wpAny_holding (wpAny_bind ?_))
 have hrl:=hr.1.symm
 refine wpAny_forIn_list _ (fun rest _ s'=>∃(i:Nat) (H':Hp),i+rest.length=kvs.length/\rest=r.drop i/\Inv X pins σ H' s'/\H' s.heap.objs.size=some (kdO (sK X.prog X.w) s.heap.objs.size (kvs.take i))/\Same H H') _ ?_ ?_ r _ ⟨0,_,by rw [Nat.zero_add];exact hrl.symm,rfl,I2,upd_same,Same.upd hfr⟩
 ·rintro ⟨u,v⟩ rest _ s2 ⟨i,H',hi,hd,I3,hp,sm⟩
  have hri:r[i]?=some (u,v):=by
   have:=congrArg (fun l=>l[0]?) hd
   simpa using this.symm
  have hik:i<kvs.length:=by rw [List.length_cons] at hi;omega
  obtain ⟨⟨a,y⟩,hka⟩:∃p,kvs[i]?=some p:=⟨_,List.getElem?_eq_getElem hik⟩
  have hR:KvR (a,y) (u,v):=hr.2 i _ _ hka hri
  obtain ⟨⟨t,eu⟩,rv⟩:=hR
  have eu:u=.str a t:=eu
  subst eu
  obtain ⟨ns,hz',ws,rel,dd⟩:=c_B (knd:=sK X.prog X.w) I3.hok hp
  refine wpAny_bind (wpAny_dictSet_pairs (knd:=sK X.prog X.w) (k:=a) (hsz:=by rw [<- rel.length];exact hz') (strKind_is _ _ a t) dd fun h' dd' hs=>wpAny_pure ?_)
  have hna:valV (kvs.take i) a=none:=valV_no fun z=>by
   rw [List.map_take] at z
   obtain ⟨j,hj,e⟩:=List.mem_take_iff_getElem.mp z
   have hj':j<i:=Nat.lt_of_lt_of_le hj (Nat.min_le_left _ _)
   have e2:(kvs.map Prod.fst)[i]'(by rw [List.length_map];exact hik)=a:=by
    rw [List.getElem_map]
    have:=(List.getElem?_eq_some_iff.mp hka).2
    rw [this]
   exact absurd ((List.getElem_inj hn).mp (e.trans e2.symm)) (Nat.ne_of_lt hj')
  have qn:=RelO.none_of (show RelO none (valueAt ws a) by rw [<- hna];exact rel.val a)
  rw [b_I qn] at dd'
  have et:kvs.take (i+1)=kvs.take i++[(a,y)]:=by rw [List.take_add_one,hka];rfl
  refine ⟨i+1,upd H' s.heap.objs.size (kdO (sK X.prog X.w) s.heap.objs.size (kvs.take (i+1))),by rw [List.length_cons] at hi;omega,?_,?_,upd_same,fun b o e=>?_⟩
  ·have:=congrArg List.tail hd
   rw [List.tail_cons,List.tail_drop] at this
   exact this
  ·rw [et]
   exact b_F I3 (by rw [hp];exact True.intro) hs (let ⟨o,_,_,q,_⟩:=dd';⟨o,q⟩) (kd_ok ns (a_g (by rw [List.length_append,List.length_take];show _≤16777216;simp;omega)) (d_a rel rv) dd')
  ·rw [upd_ne fun z=>by rw [z,hfr] at e;cases e]
   exact sm _ _ e
 ·rintro _ s2 ⟨i,H',hi,_,I3,hp,sm⟩
  have:i=kvs.length:=by rw [List.length_nil] at hi;omega
  rw [this,List.take_length] at hp
  exact wpAny_pure (wpAny_pure (wpAny_pure ⟨.ref s.heap.objs.size,H',I3,rfl,h _ _ hfr sm hp⟩))
def tCallS (f:Addr) (sp:Sp) (te:TE) (t:TA):TE:=fun σ H Q=>te σ H fun v H1=>v=.ref f/\t σ H1 fun vs H2=>sp (vs++[]) H2 Q E0
theorem pe_callS {k:Nat} {p pos:Pos} (F:FnOk X.prog X.w X.K X.mg X.base CX0 k f fd ps sp) (hr:Room k X.A) (hk:PySem.W.keepIn X.K (.ref f)=true) (hb:d_e X.K fd ps []) (hv:PE X (.Subscript a b p) te) (ha:PA X (e::es) t)
  (he:starEach (e::es) X.env=(false,eval e X.env)::starEach es X.env:=by rfl) (hpl:(backTo pos (starEach es X.env)).any (·.1)=false:=by rfl):PE X (.Call (.Subscript a b p) (e::es) [] pos) (tCallS f sp te t):=by
 intro pins s σ H Q I h
 show wpAny _ _ (do callWith pos (<- eval (.Subscript a b p) X.env) [] (backTo pos (starEach (e::es) X.env)) (backToKw pos (keywordEach [] X.env))) _ _ _
 refine wpAny_bind (thn (hv pins s σ H _ I h) fun fv s1 ⟨v,H1,I1,rv,ev,q⟩=>?_)
 subst ev
 obtain rfl:fv=.ref f:=rv
 refine PySem.W.callWith_K (h₀:=X.base) I1.ok.mod.kin hk (thn (ha pos pins s1 σ H1 _ I1 q) fun us s2 ⟨vs,H2,I2,r,q2⟩=>⟨I2.kIn,?_⟩) he hpl
 exact run_fn F hr hb .nil pass0 I2 r q2
theorem ps_dead {st:Stmt}:PS X st fun _ _ _=>False:=fun _ _ _ _ _ _ h=>h.elim
end
end L2
section
seal L2.PE L2.PT L2.PW L2.PA L2.PS L2.PSs L2.PG L2.PGs L2.PI L2.PTs
namespace K53
open PySem L2 RA
def top (i:Nat):Stmt:=PySem.Challenge.pw_roomalgebra_k53_by_letters_within.main.body.getD i (.Pass ⟨0,0,0,0⟩)
abbrev a_R:Stmt:=top 26
abbrev a_m:Stmt:=top 27
abbrev s_first_words:Stmt:=top 29
abbrev s_Walk:Stmt:=top 25
abbrev d_y:Stmt:=inClass s_Walk 0
structure WkT (K:PySem.W.Frag) (mg:Str->Option Value) (cW fI:Addr) (fdI:FuncData):Prop where
 kW:mg "Walk"=some (.ref cW)
 cls:Cls K cW
 mkW:Mk K cW fI
 na1:b_n K cW "letters"
 na2:b_n K cW "things"
 na3:b_n K cW "words"
 na4:b_n K cW "ways"
 na5:b_n K cW "marks"
 ini:Fun K "__init__" "Walk.__init__" d_y fI fdI
theorem sc_winit:a_r ["self","letters","start"] ["self","letters","start"] (a_d d_y):=⟨rfl,rfl,rfl,by decide +kernel,rfl,by decide +kernel,by decide +kernel⟩
theorem ok_winit (WT:WkT K mg cW fI fdI):FnOk P w K mg base CX0 1 fI fdI ["self","letters","start"] (sp_winit cW):=by
 refine WT.ini.ok sc_winit (fun vs H Q E h=>?_) (fun cdv A outer s H vs Q E hr h=>?_)
 ·obtain ⟨x,dx,L,v,rfl,_⟩:=h
  rfl
 ·obtain ⟨x,dx,L,v,rfl,hx,q⟩:=h
  refine ⟨_,(a_b ((ps_fld (f:="letters") (pv 0) (pv 1) rfl)) (a_b ((ps_fld (f:="things") (pv 0) (b_l (a_a (pv 2) a_c)) rfl)) (a_b ((ps_fld (f:="words") (pv 0) (b_l (a_a b_G a_c)) rfl)) (a_b ((ps_fld (f:="ways") (pv 0) (b_l a_c) rfl)) (a_e ((ps_fld (f:="marks") (pv 0) (b_l a_c) rfl))))))),?_⟩
  refine ⟨_,rfl,_,rfl,x,cW,dx,_,rfl,hx,WT.cls,WT.na1,by decide,?_⟩
  refine ⟨_,rfl,a_g (by show 1≤16777216;decide),fun t ht=>⟨_,rfl,x,cW,dx,_,rfl,a_f upd_same ht,WT.cls,WT.na2,Nat.lt_of_le_of_lt (Nat.le_of_eq (show _=1 from rfl)) (by decide),?_⟩⟩
  have tx':t≠x:=fun z=>by rw [z,upd_same] at ht;cases ht
  refine ⟨a_g (by show 1≤16777216;decide),fun wd hwd=>⟨_,rfl,x,cW,dx,_,rfl,a_f upd_same hwd,WT.cls,WT.na3,Nat.lt_of_le_of_lt (Nat.le_of_eq (show _=2 from rfl)) (by decide),?_⟩⟩
  have wx:wd≠x:=fun z=>by rw [z,upd_same] at hwd;cases hwd
  refine ⟨Nat.zero_le _,fun y hy=>⟨_,rfl,x,cW,dx,_,rfl,a_f upd_same hy,WT.cls,WT.na4,Nat.lt_of_le_of_lt (Nat.le_of_eq (show _=3 from rfl)) (by decide),?_⟩⟩
  have yx:y≠x:=fun z=>by rw [z,upd_same] at hy;cases hy
  refine ⟨Nat.zero_le _,fun m hm=>⟨_,rfl,x,cW,dx,_,rfl,a_f upd_same hm,WT.cls,WT.na5,Nat.lt_of_le_of_lt (Nat.le_of_eq (show _=4 from rfl)) (by decide),?_⟩⟩
  have mx:m≠x:=fun z=>by rw [z,upd_same] at hm;cases hm
  have twd:t≠wd:=fun z=>by rw [<- z,upd_ne tx',upd_same] at hwd;cases hwd
  have ty:t≠y:=fun z=>by rw [<- z,upd_ne tx',upd_ne twd,upd_ne tx',upd_same] at hy;cases hy
  have tm:t≠m:=fun z=>by rw [<- z,upd_ne tx',upd_ne ty,upd_ne tx',upd_ne twd,upd_ne tx',upd_same] at hm;cases hm
  have wy:wd≠y:=fun z=>by rw [<- z,upd_ne wx,upd_same] at hy;cases hy
  have wm:wd≠m:=fun z=>by rw [<- z,upd_ne wx,upd_ne wy,upd_ne wx,upd_same] at hm;cases hm
  have ym:y≠m:=fun z=>by rw [<- z,upd_ne yx,upd_same] at hm;cases hm
  have fin:∀b,b≠x->b≠m->b≠y->b≠wd->b≠t->H b=upd (upd (upd (upd (upd (upd (upd (upd (upd H x (.ins cW dx (putF "letters" (.str (tx L)) []))) t (.lst [v])) x (.ins cW dx (putF "things" (.ref t) (putF "letters" (.str (tx L)) [])))) wd (.lst [.str (tx [])])) x (.ins cW dx (putF "words" (.ref wd) (putF "things" (.ref t) (putF "letters" (.str (tx L)) []))))) y (.lst [])) x (.ins cW dx (putF "ways" (.ref y) (putF "words" (.ref wd) (putF "things" (.ref t) (putF "letters" (.str (tx L)) [])))))) m (.lst [])) x (.ins cW dx (putF "marks" (.ref m) (putF "ways" (.ref y) (putF "words" (.ref wd) (putF "things" (.ref t) (putF "letters" (.str (tx L)) []))))))  b:=fun b h1 h2 h3 h4 h5=>by
   rw [upd_ne h1,upd_ne h2,upd_ne h1,upd_ne h3,upd_ne h1,upd_ne h4,upd_ne h1,upd_ne h5,upd_ne h1]
  have free:∀{b:Addr} {o:HO},H b=some o->∀{a:Addr},H a=none->b≠a:=fun {b o} e {a} n=>ne_of_none e n
  have ft:H t=none:=by rw [upd_ne tx'] at ht;exact ht
  have fw:H wd=none:=by rw [upd_ne wx,upd_ne (Ne.symm twd),upd_ne wx] at hwd;exact hwd
  have fy:H y=none:=by rw [upd_ne yx,upd_ne (Ne.symm wy),upd_ne yx,upd_ne (Ne.symm ty),upd_ne yx] at hy;exact hy
  have fm:H m=none:=by rw [upd_ne mx,upd_ne (Ne.symm ym),upd_ne mx,upd_ne (Ne.symm wm),upd_ne mx,upd_ne (Ne.symm tm),upd_ne mx] at hm;exact hm
  refine q t wd y m _ twd ty tm wy wm ym ft fw fy fm (fun b o hb e=>?_) ⟨⟨dx,upd_same⟩⟩ ?_ ?_ ?_ ?_
  ·rw [<- e]
   exact (fin b hb (free e fm) (free e fy) (free e fw) (free e ft)).symm
  ·rw [upd_ne tx',upd_ne tm,upd_ne tx',upd_ne ty,upd_ne tx',upd_ne twd,upd_ne tx',upd_same]
  ·rw [upd_ne wx,upd_ne wm,upd_ne wx,upd_ne wy,upd_ne wx,upd_same,<- empty_eq]
  ·rw [upd_ne yx,upd_ne ym,upd_ne yx,upd_same]
  ·rw [upd_ne mx,upd_same]
theorem b_S:a_r ["letters","start","goals_of","is_marked","most","walk","rooms","room","goals","row","letter","goal"] ["letters","start","goals_of","is_marked","most"] (a_d a_R):=⟨rfl,rfl,rfl,by decide +kernel,rfl,by decide +kernel,by decide +kernel⟩
theorem ok_walked {P:Program} {w:World} {K:PySem.W.Frag} {mg:Str->Option Value} {base:Heap} {cW fI f fg fm:Addr} (F:FunD K "walked" "walked" a_R f fd) (WT:WkT K mg cW fI fdI) (tlen:mg "len"=none) (tzip:mg "zip"=none)
  (Fg:FnOk P w K mg base CX0 4 fg fdg [gx] (spGoals ti L g U Rest)) (Fm:FnOk P w K mg base CX0 4 fm fdm [mx] (spMark ti mk U Rest)) (og1:base.get? fg=some og) (og2:∃fd',og.data=.func fd') (om1:base.get? fm=some om) (om2:∃fd',om.data=.func fd') (bg:d_e K fdg [gx] []) (bm:d_e K fdm [mx] []) (hRest:∀H H':Hp,Same H H'->Rest H->Rest H'):
  FnOk P w K mg base CX0 5 f fd ["letters","start","goals_of","is_marked","most"] (d_Z cW ti L g mk U Rest fg fm):=by
 obtain ⟨oc,od,dat,sl⟩:=og
 obtain ⟨fd',rfl⟩:=og2
 obtain ⟨oc2,od2,dat2,sl2⟩:=om
 obtain ⟨fd2',rfl⟩:=om2
 refine F.ok b_S (fun vs H Q E h=>?_) (fun cdv A outer s H vs Q E hr h=>?_)
 ·obtain ⟨s,sv,most,rfl,_⟩:=h
  rfl
 ·obtain ⟨s0,sv,most,rfl,hL,hsv,hsU,hcl,hU,hR0,q⟩:=h
  have hr2:=hr.mono (j:=2) (by decide)
  refine ⟨_,(a_b ((a_k (i:=5) b_S.nd rfl (Or.inl rfl) (pe_make WT.mkW (ok_winit WT) hr2 rfl WT.kW (WT.ini.binds (ps:=["self","letters","start"]) (fun _ _ _ _ _ _ us hl=>match us,hl with | [_,_,_],_=>rfl)) .nil pass0 (a_a (pv 0) (a_a (pv 1) a_c))))) (c_Y ((a_k (i:=6) b_S.nd rfl (Or.inl rfl) (pe_wone hr.units (pv 1) pe_int))) (a_b ((f_G PassesOwn.never (a_C op_lt (a_n a_t (by rfl) tlen PySem.boot_len (a_a (b_a (f:="ways") (pv 5) rfl) a_c)) (a_n a_t (by rfl) tlen PySem.boot_len (a_a (b_a (f:="things") (pv 5) rfl) a_c)) (a_Q _)) (c_Y ((b_v ((pw_and (a_C op_notN (pv 4) pe_non (a_Q _)) (pw_and1 (a_C op_gt (a_n a_t (by rfl) tlen PySem.boot_len (a_a (b_a (f:="things") (pv 5) rfl) a_c)) (pv 4) (a_Q _)))).pt) ((a_e (ps_break))) (a_E))) (a_b ((a_k (i:=7) b_S.nd rfl (Or.inl rfl) ((a_n a_t (by rfl) tlen PySem.boot_len (a_a (b_a (f:="ways") (pv 5) rfl) a_c))))) (a_b ((a_k (i:=8) b_S.nd rfl (Or.inl rfl) (pe_callL Fg hr og1 bg (pv 2) (a_a (a_q a_P ((b_a (f:="things") (pv 5) rfl)) (pv 7) (fun _ _=>rfl)) a_c)))) (a_b ((a_k (i:=9) b_S.nd rfl (Or.inl rfl) (b_l a_c))) (a_b ((b_s PassesOwn.never rfl (pi_zipG rfl tzip (a_a (pv 0) (a_a (pv 8) a_c))) (pg_tup rfl (b_Q (a_B (i:=10) b_S.nd rfl (Or.inl rfl)) (b_Q (a_B (i:=11) b_S.nd rfl (Or.inl rfl)) e_j))) (c_Y ((b_v (a_C (op_notinW hr.units) (pv 11) (pv 6) (by with_unfolding_all rfl)) ((a_b (ps_asg (a_n a_t (by rfl) tlen PySem.boot_len (a_a (b_a (f:="things") (pv 5) rfl) a_c)) (pg_sub (pv 6) (pv 11) (set_dictW hr.units))) (a_b (a_X (b_V PySem.F.plainAttrs_list PySem.F.slot_list_append PySem.F.type_list_append a_u ((b_a (f:="things") (pv 5) rfl)) (a_a (pv 11) a_c))) (a_e (a_X (b_V PySem.F.plainAttrs_list PySem.F.slot_list_append PySem.F.type_list_append a_u ((b_a (f:="words") (pv 5) rfl)) (a_a (a_y b_O (a_q a_P ((b_a (f:="words") (pv 5) rfl)) (pv 7) (fun _ _=>rfl)) (pv 10)) a_c))))))) (a_E))) (a_e (a_X (b_V PySem.F.plainAttrs_list PySem.F.slot_list_append PySem.F.type_list_append a_u (pv 9) (a_a (a_q (ix_dictW hr.units) (pv 6) (pv 11) (fun _ _=>rfl)) a_c))))))) (a_b (a_X (b_V PySem.F.plainAttrs_list PySem.F.slot_list_append PySem.F.type_list_append a_u ((b_a (f:="ways") (pv 5) rfl)) (a_a (pv 9) a_c))) (a_e (a_X (b_V PySem.F.plainAttrs_list PySem.F.slot_list_append PySem.F.type_list_append a_u ((b_a (f:="marks") (pv 5) rfl)) (a_a (pe_callL Fm hr om1 bm (pv 3) (a_a (a_q a_P ((b_a (f:="things") (pv 5) rfl)) (pv 7) (fun _ _=>rfl)) a_c)) a_c)))))))))))) (a_e (a_p (pv 5)))))),?_⟩
  have tn:∀{b:Addr} {o:HO},H b=some o->∀{c:Addr},H c=none->b≠c:=fun {b o} e {c} n=>ne_of_none e n
  refine ⟨_,rfl,_,rfl,fun wk dx hwk hdx hne=>⟨wk,dx,L,sv,rfl,upd_same,fun t wd y md H1 a1 a2 a3 a4 a5 a6 ft fw fy fmd kp hW ht hwd hy hmd=>⟨rfl,?_⟩⟩⟩
  have fr:∀{b:Addr},upd (upd H dx (.own wk)) wk (.ins cW dx []) b=none->H b=none:=fun {b} e=>by
   by_cases h1:b=wk
   ·rw [h1];exact hwk
   ·rw [upd_ne h1] at e
    by_cases h2:b=dx
    ·rw [h2];exact hdx
    ·rw [upd_ne h2] at e
     exact e
  have s1:Same H H1:=fun b o e=>kp b o (tn e hwk) (by rw [upd_ne (tn e hwk),upd_ne (tn e hdx)];exact e)
  have hsv1:ThV ti H1 s0 sv:=hsv.same fun b xs e=>s1 _ _ e
  have hdict:∀(d:Addr) (H2:Hp),H1 d=none->RmAt P w H2 d ti [s0]->(∀b o,H1 b=some o->H2 b=some o)->WI P w H H2 cW ti L wk t wd y md d [s0] [sv] [[]] [] [] []:=fun d H2 hd hrm s2=>by
   have ne:∀{b:Addr} {o:HO},H1 b=some o->d≠b:=fun {b o} e z=>by rw [<- z,hd] at e;cases e
   obtain ⟨dx',ew⟩:=hW.ex
   exact ⟨s1.trans s2,⟨dx',s2 _ _ ew⟩,s2 _ _ ht,⟨rfl,fun i k v h1 h2=>by
    match i,h1,h2 with
    | 0,h1,h2=>cases h1;cases h2;exact hsv1.same fun b xs e=>s2 _ _ e
    | i+1,h1,_=>simp at h1⟩,s2 _ _ hwd,s2 _ _ hy,⟨rfl,fun i a r h1=>by simp at h1⟩,s2 _ _ hmd,hrm,fr ft,fr fw,fr fy,fr fmd,b_t s1 hd,a1,a2,a3,a4,a5,a6,ne ht,ne hwd,ne hy,ne hmd,ne ew,fun a ha=>by simp at ha⟩
  refine ⟨fun σ' H'=>∃d,σ'=[some (.str (tx L)),some sv,some (.ref fg),some (.ref fm),some (mostV most),some (.ref wk),some (.ref d),none,none,none,none,none]/\WI P w H H' cW ti L wk t wd y md d [s0] [sv] [[]] [] [] [],?_,?_⟩
  ·refine ⟨ti,fun d hd=>⟨_,rfl,upd_same,?_⟩⟩
   have up:∀{ob ob2:HO} (b:Addr) (o:HO),H1 b=some o->upd (upd H1 d ob) d ob2 b=some o:=fun {ob ob2} b o e=>by
    rw [d_x]
    exact a_f e hd
   by_cases hti:ti=.i
   ·rw [hti] at hsv1 hdict ⊢
    unfold ThV at hsv1
    rw [if_pos rfl] at hsv1
    obtain ⟨n,rfl,rfl⟩:=hsv1
    refine .inl ⟨rfl,_,rfl,d,rfl,hdict d _ hd ?_ up⟩
    unfold RmAt
    rw [if_pos rfl]
    exact ⟨upd_same,fun t ht=>⟨n,List.mem_singleton.mp ht⟩⟩
   ·have hsv2:=hsv1
    unfold ThV at hsv2
    rw [if_neg hti] at hsv2
    obtain ⟨b,rfl,hb⟩:=hsv2
    have hT:∀{ob:HO},(dK P w ti).kin (upd H1 d ob) (zs s0) b:=fun {ob}=>(hb.same fun b xs e=>a_f e hd).kin
    refine .inr ⟨hti,b,zs s0,rfl,hT,d,rfl,hdict d _ hd ?_ up⟩
    unfold RmAt
    rw [if_neg hti]
    refine ⟨_,upd_same,fun x hx=>?_,rfl,fun i k x h1 h2=>?_⟩
    ·rw [List.mem_singleton.mp hx,d_x]
     exact hT
    ·match i,h1,h2 with
     | 0,h1,h2=>cases h1;cases h2;exact ⟨rfl,rfl⟩
     | i+1,h1,_=>simp at h1
  rintro σ1 H2 ⟨d,rfl,hWI⟩
  have fin:∀{H':Hp} {ks:List (List Nat)} {vks:List V} {ws:List (List Nat)} {rows:List Addr} {R:List (List Nat)} {B:List Bool},WI P w H H' cW ti L wk t wd y md d ks vks ws rows R B->WPu g L s0 mk U ks ws R B 0->(R.length=ks.length\/∃n,most=some n/\n<ks.length)->Q (.ref wk) H':=fun hI hP he=>
   q wk t wd y md _ _ _ _ _ _ _ hI.sm hI.obj hI.ht hI.th hI.hw hI.hy hI.wr hI.hm hP.bf hP.ways hP.bl hP.mks hP.sub (Nat.le_trans (Nat.le_add_left _ _) hP.left) he
  refine ⟨fun n σ' H'=>∃ks vks ws rows R B s7 s8 s9 s10 s11,n=U.length - List.length R/\σ'=[some (.str (tx L)),some sv,some (.ref fg),some (.ref fm),some (mostV most),some (.ref wk),some (.ref d),s7,s8,s9,s10,s11]/\WI P w H H' cW ti L wk t wd y md d ks vks ws rows R B/\WPu g L s0 mk U ks ws R B 0,⟨_,[s0],[sv],[[]],[],[],[],none,none,none,none,none,rfl,rfl,hWI,WPu.start hsU⟩,?_⟩
  rintro n σ' H3 ⟨ks,vks,ws,rows,R,B,s7,s8,s9,s10,s11,rfl,rfl,hI,hP⟩
  obtain ⟨dx',ew⟩:=hI.obj.ex
  have hrl:(rows.map V.ref).length=R.length:=by rw [List.length_map,hI.wr.1]
  have hvl:vks.length=ks.length:=hI.th.1
  have hksU:ks.length≤U.length:=Nat.le_trans (Nat.le_add_left _ _) hP.left
  refine ⟨_,rfl,wk,cW,dx',_,_,rfl,ew,WT.cls,WT.na4,rfl,y,_,rfl,.inl (SqL.of hI.hy),_,rfl,wk,cW,dx',_,_,rfl,ew,WT.cls,WT.na2,rfl,t,_,rfl,.inl (SqL.of hI.ht),_,_,rfl,rfl,_,rfl,ite3 (fun hlt=>?_) (fun hlt=>?_)⟩
  case _=>
   rw [hrl,hvl] at hlt
   have hlt:R.length<ks.length:=Int.ofNat_lt.mp hlt
   refine ⟨fun σ2 H4=>∃ks vks ws rows R' B s7 s8 s9 s10 s11,R'.length=R.length+1/\σ2=[some (.str (tx L)),some sv,some (.ref fg),some (.ref fm),some (mostV most),some (.ref wk),some (.ref d),s7,s8,s9,s10,s11]/\WI P w H H4 cW ti L wk t wd y md d ks vks ws rows R' B/\WPu g L s0 mk U ks ws R' B 0,?_,?_⟩
   ·rintro σ2 H4 ⟨ks',vks',ws',rows',R',B',u7,u8,u9,u10,u11,hR',hσ,hI',hP'⟩
    exact ⟨U.length - R'.length,by rw [hR'];omega,ks',vks',ws',rows',R',B',u7,u8,u9,u10,u11,rfl,hσ,hI',hP'⟩
   obtain ⟨k0,hk0⟩:∃k0,ks[R.length]?=some k0:=⟨ks[R.length],List.getElem?_eq_getElem hlt⟩
   obtain ⟨v0,hv0⟩:∃v0,vks[R.length]?=some v0:=⟨vks[R.length]'(by rw [hvl];exact hlt),List.getElem?_eq_getElem _⟩
   obtain ⟨a0,ha0⟩:∃a0,ws[R.length]?=some a0:=⟨ws[R.length]'(by rw [<- hP.bf.len];exact hlt),List.getElem?_eq_getElem _⟩
   have hk0U:k0∈U:=hP.sub k0 (List.mem_of_getElem? hk0)
   refine ⟨fun σ2 H4=>σ2=[some (.str (tx L)),some sv,some (.ref fg),some (.ref fm),some (mostV most),some (.ref wk),some (.ref d),s7,s8,s9,s10,s11]/\H4=H3,?_,?_⟩
   ·cases most with
    | none=>exact ⟨_,rfl,rfl,_,rfl,e_R rfl (iteF ⟨rfl,rfl⟩)⟩
    | some M=>
     refine ⟨_,rfl,rfl,_,rfl,iteNI ⟨_,rfl,wk,cW,dx',_,_,rfl,ew,WT.cls,WT.na2,rfl,t,_,rfl,.inl (SqL.of hI.ht),_,rfl,_,_,rfl,rfl,_,rfl,?_⟩⟩
     rw [hvl]
     exact ite3 (fun hgt=>⟨_,rfl,fin hI hP (.inr ⟨M,rfl,Int.ofNat_lt.mp hgt⟩)⟩) (fun _=>⟨rfl,rfl⟩)
   rintro σ2 H4 ⟨rfl,rfl⟩
   refine ⟨_,rfl,wk,cW,dx',_,_,rfl,ew,WT.cls,WT.na4,rfl,y,_,rfl,.inl (SqL.of hI.hy),?_⟩
   rw [hrl]
   have hat:atI vks ((R.length:Nat):Int)=some v0:=a_l hv0
   refine ⟨rfl,_,rfl,wk,cW,dx',_,_,rfl,ew,WT.cls,WT.na2,rfl,_,rfl,t,_,_,_,rfl,rfl,SqL.of hI.ht,hat,k0,v0,rfl,hI.th.2 _ _ _ hk0 hv0,hk0U,hRest _ _ hI.sm hR0,fun gs xs H5 s5 hgs hxl hxs=>?_⟩
   have hI5:=hI.any s5
   have hgs':H5 gs=some (.tup xs)\/H5 gs=some (.lst xs):=hgs.imp id fun z=>z.2
   have gne:∀{b:Addr} {o:HO},H4 b=some o->(∀zs,o≠.tup zs)->gs≠b:=fun {b o} e ho z=>by
    rcases hgs with h1 | ⟨h1,_⟩
    ·rw [z,s5 _ _ e] at h1
     cases h1
     exact ho _ rfl
    ·rw [z,e] at h1
     cases h1
   obtain ⟨φd,hφ⟩:∃ φ,H4 d=some (.ext φ):=by
    have hr0:=hI.rm
    unfold RmAt at hr0
    by_cases c:ti=.i
    ·rw [if_pos c] at hr0;exact ⟨_,hr0.1⟩
    ·rw [if_neg c] at hr0;obtain ⟨kvs,e,_⟩:=hr0;exact ⟨_,e⟩
   have g1:gs≠t:=gne hI.ht (by intro zs z;cases z)
   have g2:gs≠wd:=gne hI.hw (by intro zs z;cases z)
   have g3:gs≠y:=gne hI.hy (by intro zs z;cases z)
   have g4:gs≠md:=gne hI.hm (by intro zs z;cases z)
   have g5:gs≠d:=gne hφ (by intro zs z;cases z)
   refine ⟨Nat.zero_le _,fun rw hrw=>?_⟩
   have r1:rw≠t:=Ne.symm (ne_of_none hI5.ht hrw)
   have r2:rw≠wd:=Ne.symm (ne_of_none hI5.hw hrw)
   have r3:rw≠y:=Ne.symm (ne_of_none hI5.hy hrw)
   have r4:rw≠md:=Ne.symm (ne_of_none hI5.hm hrw)
   have r5:rw≠d:=Ne.symm (ne_of_none (s5 _ _ hφ) hrw)
   have r6:rw∉rows:=fun hm=>by
    obtain ⟨i,hi⟩:=List.mem_iff_getElem?.mp hm
    have hil:i<R.length:=by rw [<- hI5.wr.1];exact (List.getElem?_eq_some_iff.mp hi).1
    rw [hI5.wr.2 i rw _ hi (List.getElem?_eq_getElem hil)] at hrw
    cases hrw
   have rg:gs≠rw:=fun z=>by
    rw [<- z] at hrw
    rcases hgs' with h1 | h1 <;> rw [hrw] at h1 <;> cases h1
   have r0:H rw=none:=b_t hI5.sm hrw
   have hI6:=hI5.any (Same.upd (o:=.lst []) hrw)
   have hgs6:upd H5 rw (.lst []) gs=some (.tup xs)\/upd H5 rw (.lst []) gs=some (.lst xs):=by rw [upd_ne rg];exact hgs'
   refine ⟨_,rfl,_,rfl,_,_,rfl,zips_of hgs6 fun d2 hd2 tk=>?_⟩
   have hxlen:((tx L).cps.toList.map fun c=>V.str ⟨#[c]⟩).length=xs.length:=by rw [List.length_map,b_w,hxl]
   refine for_zipG (xs:=(tx L).cps.toList.map fun c=>V.str ⟨#[c]⟩) (ys:=xs) hxlen (fun q σ3 H6=>∃ks' vks' ws' r v10 v11,σ3=[some (.str (tx L)),some sv,some (.ref fg),some (.ref fm),some (mostV most),some (.ref wk),some (.ref d),some (.int ((R.length:Nat):Int)),some (.ref gs),some (.ref rw),v10,v11]/\
    WI P w H H6 cW ti L wk t wd y md d ks' vks' ws' rows R B/\WPu g L s0 mk U ks' ws' R B q/\d_P g ks' R.length r q/\H6 rw=some (.lst (intsV r))/\H6 gs=H5 gs/\(∀(j:Nat) (x:V),xs[j]?=some x->ThV ti H6 (g k0 j) x)/\ks'[R.length]?=some k0/\ws'[R.length]?=some a0) ?_ ?_ ?_ ?_
   ·exact ⟨ks,vks,ws,[],s10,s11,rfl,hI6,hP,d_P.nil,upd_same,upd_ne rg,fun j x hx=>(hxs j x hx).same fun b zs e=>a_f e hrw,hk0,ha0⟩
   ·rintro q σ3 H6 ⟨ks',vks',ws',r,v10,v11,rfl,hI',hP',hro,hrw',hgk,hth,hk',ha'⟩
    exact ⟨rfl,hd2 H6 (by rw [hgk,upd_ne rg])⟩
   ·rintro q cx gx' p σ3 H6 hc hg hp ⟨ks',vks',ws',r,v10,v11,rfl,hI',hP',hro,hrw',hgk,hth,hk',ha'⟩
    rw [b_w,List.getElem?_map] at hc
    cases hcq:L[q]? with
    | none=>rw [hcq] at hc;cases hc
    | some c=>
    rw [hcq] at hc
    cases hc
    have hqL:q<L.length:=(List.getElem?_eq_some_iff.mp hcq).1
    have hcd:L.getD q 0=c:=by rw [List.getD_eq_getElem?_getD,hcq];rfl
    have hgU:g k0 q∈U:=hcl k0 hk0U q hqL
    have hI7:=hI'.any (Same.upd (o:=.tup [.str ⟨#[c]⟩,gx']) hp)
    have hthq:ThV ti H6 (g k0 q) gx':=hth q gx' hg
    have hth7:ThV ti (upd H6 p (.tup [.str ⟨#[c]⟩,gx'])) (g k0 q) gx':=hthq.same fun b zs e=>a_f e hp
    have hrp:upd H6 p (.tup [.str ⟨#[c]⟩,gx']) rw=some (.lst (intsV r)):=a_f hrw' hp
    have hgsp:upd H6 p (.tup [.str ⟨#[c]⟩,gx']) gs=H5 gs:=by
     have:gs≠p:=fun z=>by
      rw [<- z,hgk] at hp
      rcases hgs' with h1 | h1 <;> rw [hp] at h1 <;> cases h1
     rw [upd_ne this]
     exact hgk
    have hthp:∀(j:Nat) (x:V),xs[j]?=some x->ThV ti (upd H6 p (.tup [.str ⟨#[c]⟩,gx'])) (g k0 j) x:=fun j x hx=>(hth j x hx).same fun b zs e=>a_f e hp
    have hp7:upd H6 p (.tup [.str ⟨#[c]⟩,gx']) p=some (.tup [.str ⟨#[c]⟩,gx']):=upd_same
    generalize upd H6 p (.tup [.str ⟨#[c]⟩,gx'])=H7 at hI7 hth7 hrp hgsp hthp hp7
    have hkU:ks'.length≤U.length:=Nat.le_trans (Nat.le_add_left _ _) hP'.left
    have hk100:ks'.length≤100000:=Nat.le_trans hkU hU
    have hvl':vks'.length=ks'.length:=hI7.th.1
    refine ⟨p,_,rfl,SqT.of hp7,rfl,_,_,rfl,_,_,rfl,rfl,?_⟩
    refine ⟨fun σ4 H8=>∃ks2 vks2 ws2,σ4=[some (.str (tx L)),some sv,some (.ref fg),some (.ref fm),some (mostV most),some (.ref wk),some (.ref d),some (.int ((R.length:Nat):Int)),some (.ref gs),some (.ref rw),some (.str ⟨#[c]⟩),some gx']/\WI P w H H8 cW ti L wk t wd y md d ks2 vks2 ws2 rows R B/\WPu g L s0 mk U ks2 ws2 R B (q+1)/\d_P g ks2 R.length r q/\
     H8 rw=some (.lst (intsV r))/\H8 gs=H5 gs/\(∀(j:Nat) (x:V),xs[j]?=some x->ThV ti H8 (g k0 j) x)/\ks2[R.length]?=some k0/\ws2[R.length]?=some a0/\g k0 q∈ks2,?_,?_⟩
    ·refine ⟨_,rfl,_,rfl,d,_,rfl,hI7.rm.get hth7,_,rfl,?_⟩
     by_cases hm:g k0 q∈ks'
     ·rw [(ix_get hm).1]
      exact iteF ⟨ks',vks',ws',rfl,hI7,hP'.old hL.nd hk' ha' hqL hm,hro,hrp,hgsp,hthp,hk',ha',hm⟩
     ·rw [show ixO ks' (g k0 q)=none from if_neg hm]
      obtain ⟨ob,hput,hrm2⟩:=hI7.rm.put hth7 hm (d_G hk100)
      obtain ⟨dx',ew7⟩:=hI7.obj.ex
      have ew8:upd H7 d ob wk=_:=(upd_ne (Ne.symm hI7.e5)).trans ew7
      have ht8:upd H7 d ob t=_:=(upd_ne (Ne.symm hI7.e1)).trans hI7.ht
      have hw8:upd H7 d ob wd=_:=(upd_ne (Ne.symm hI7.e2)).trans hI7.hw
      have wkt:wk≠t:=ne_of ew7 hI7.ht (by intro z;cases z)
      have ew9:upd (upd H7 d ob) t (.lst (vks'++[gx'])) wk=_:=(upd_ne wkt).trans ew8
      have hw9:upd (upd H7 d ob) t (.lst (vks'++[gx'])) wd=_:=(upd_ne (Ne.symm hI7.d1)).trans hw8
      have hatw:atI (wordsV ws') ((R.length:Nat):Int)=some (.str (tx a0)):=a_l (by rw [wordsV,List.getElem?_map,ha'];rfl)
      have hwl:a0.length≤100000:=Nat.le_trans (hP'.wl a0 (List.mem_of_getElem? ha')) hk100
      rw [<- hvl'] at hput
      refine iteT ⟨_,rfl,wk,cW,dx',_,_,rfl,ew7,WT.cls,WT.na2,rfl,t,_,rfl,.inl (SqL.of hI7.ht),_,rfl,_,rfl,d,_,rfl,hput,?_⟩
      refine ⟨_,rfl,wk,cW,dx',_,_,rfl,ew8,WT.cls,WT.na2,rfl,.inl ⟨rfl,_,SqL.of ht8⟩,_,rfl,t,_,_,rfl,rfl,ht8,d_G (by rw [hvl'];exact hk100),?_⟩
      refine ⟨_,rfl,wk,cW,dx',_,_,rfl,ew9,WT.cls,WT.na3,rfl,.inl ⟨rfl,_,SqL.of hw9⟩,_,rfl,wk,cW,dx',_,_,rfl,ew9,WT.cls,WT.na3,rfl,_,rfl,wd,_,_,_,rfl,rfl,SqL.of hw9,hatw,_,rfl,_,_,rfl,rfl,?_,wd,_,_,rfl,rfl,hw9,d_G (by rw [wordsV,List.length_map,<- hP'.bf.len];exact hk100),?_⟩
      ·show (tx a0).length+1≤sizeLine
       rw [a_s]
       exact a_g (by omega)
      have hch:tx a0++(⟨#[c]⟩:Str)=tx (a0++[c]):=by rw [<- d_g];rfl
      have hI10:=hI7.new (a:=a0++[c]) hth7 hrm2
      have hP10:=hP'.new hL.nd hk' ha' hqL hm hgU
      rw [hcd] at hP10
      have kt:∀b zs,H7 b=some (.tup zs)->upd (upd (upd H7 d ob) t (.lst (vks'++[gx']))) wd (.lst (wordsV ws'++[.str (tx (a0++[c]))])) b=some (.tup zs):=fun b zs e=>by
       obtain ⟨φ,hφ7⟩:∃ φ,H7 d=some (.ext φ):=by
        have hr0:=hI7.rm
        unfold RmAt at hr0
        by_cases c:ti=.i
        ·rw [if_pos c] at hr0;exact ⟨_,hr0.1⟩
        ·rw [if_neg c] at hr0;obtain ⟨kvs,e,_⟩:=hr0;exact ⟨_,e⟩
       rw [upd_ne (ne_of e hI7.hw (by intro z;cases z)),upd_ne (ne_of e hI7.ht (by intro z;cases z)),upd_ne (ne_of e hφ7 (by intro z;cases z))]
       exact e
      refine ⟨ks'++[g k0 q],vks'++[gx'],ws'++[a0++[c]],rfl,?_,hP10,hro.grow (List.getElem?_eq_some_iff.mp hk').1,?_,?_,fun j x hx=>?_,d_I hk',d_I ha',by simp⟩
      ·rw [<- hch] at hI10
       exact hI10
      ·rw [upd_ne r2,upd_ne r1,upd_ne r5]
       exact hrp
      ·rw [upd_ne g2,upd_ne g1,upd_ne g5]
       exact hgsp
      ·refine (hthp j x hx).same fun b zs e=>?_
       have:=kt b zs e
       rw [<- hch] at this
       exact this
    rintro σ4 H8 ⟨ks2,vks2,ws2,rfl,hI8,hP8,hro8,hrw8,hg8,hth8,hk8,ha8,hm8⟩
    have hget:=hI8.rm.get (hth8 q gx' hg)
    rw [(ix_get hm8).1] at hget
    have hq3:r.length≤100:=by rw [hro8.1];exact Nat.le_trans (Nat.le_of_lt hqL) (Nat.le_trans hL.hi (by decide))
    refine ⟨_,rfl,.inl ⟨rfl,_,SqL.of hrw8⟩,_,rfl,_,rfl,d,_,rfl,hget,rw,_,_,rfl,rfl,hrw8,d_G (by rw [intsV_len];exact Nat.le_trans hq3 (by decide)),?_⟩
    refine ⟨ks2,vks2,ws2,r++[ks2.idxOf (g k0 q)],_,_,rfl,hI8.beside hrw8 r0 r1 r2 r3 r4 r5 r6,hP8,hro8.snoc hk8 hm8,?_,?_,fun j x hx=>?_,hk8,ha8⟩
    ·rw [upd_same,b_D]
    ·rw [upd_ne rg]
     exact hg8
    ·exact (hth8 j x hx).same fun b zs e=>by rw [upd_ne (ne_of e hrw8 (by intro z;cases z))];exact e
   ·rintro σ3 H6 ⟨ks',vks',ws',r,v10,v11,rfl,hI',hP',hro,hrw',hgk,hth,hk',ha'⟩
    rw [hxlen,hxl] at hP' hro
    obtain ⟨dx',ew6⟩:=hI'.obj.ex
    have hkU:ks'.length≤100000:=Nat.le_trans (Nat.le_trans (Nat.le_add_left _ _) hP'.left) hU
    have hR100:R.length≤100000:=Nat.le_trans hP'.le hkU
    have hI8:=hI'.row hrw' r1 r2 r3 r4 r5
    obtain ⟨dx2,ew8⟩:=hI8.obj.ex
    obtain ⟨v1,hv1⟩:∃v1,vks'[R.length]?=some v1:=⟨vks'[R.length]'(by rw [hI'.th.1];exact (List.getElem?_eq_some_iff.mp hk').1),List.getElem?_eq_getElem _⟩
    refine ⟨_,rfl,wk,cW,dx',_,_,rfl,ew6,WT.cls,WT.na4,rfl,.inl ⟨rfl,_,SqL.of hI'.hy⟩,_,rfl,y,_,_,rfl,rfl,hI'.hy,d_G (by rw [List.length_map,hI'.wr.1];exact hR100),?_⟩
    refine ⟨_,rfl,wk,cW,dx2,_,_,rfl,ew8,WT.cls,WT.na5,rfl,.inl ⟨rfl,_,SqL.of hI8.hm⟩,rfl,_,rfl,wk,cW,dx2,_,_,rfl,ew8,WT.cls,WT.na2,rfl,_,rfl,t,_,_,_,rfl,rfl,SqL.of hI8.ht,a_l hv1,k0,v1,rfl,hI8.th.2 _ _ _ hk' hv1,hk0U,hRest _ _ hI8.sm hR0,md,_,_,rfl,rfl,hI8.hm,d_G (by rw [List.length_map,hP'.bl];exact hR100),?_⟩
    exact ⟨ks',vks',ws',rows++[rw],R++[r],B++[mk k0],_,_,_,_,_,by rw [List.length_append];rfl,rfl,hI8.mark,hP'.next hk' hro⟩
  case _=>
   rw [hrl,hvl] at hlt
   exact ⟨_,rfl,fin hI hP (.inl (Nat.le_antisymm hP.le (Nat.le_of_not_lt fun z=>hlt (Int.ofNat_lt.mpr z))))⟩
abbrev s_g:Stmt:=(a_h a_m).getD 0 (.Pass ⟨0,0,0,0⟩)
abbrev s_m:Stmt:=(a_h a_m).getD 1 (.Pass ⟨0,0,0,0⟩)
abbrev q_g:Str:="walked_machine.<locals>.goals_of"
abbrev q_m:Str:="walked_machine.<locals>.is_marked"
def posOf (s:Stmt):Pos:=match s with
 | .FunctionDef _ _ _ _ _ _ _ _ _ p=>p
 | _=>⟨0,0,0,0⟩
def sites:List (Pos×Str):=[(posOf s_g,q_g),(posOf s_m,q_m)]
theorem sc_g:c_U ["room","machine"] ["room"] ["machine"] (a_d s_g):=⟨rfl,rfl,rfl,by decide +kernel,rfl,rfl,by decide,by decide +kernel,by decide +kernel⟩
theorem sc_m:c_U ["room","machine"] ["room"] ["machine"] (a_d s_m):=⟨rfl,rfl,rfl,by decide +kernel,rfl,rfl,by decide,by decide +kernel,by decide +kernel⟩
section
variable {P:Program} {w:World} {K:PySem.W.Frag} {mg:Str->Option Value} {base:Heap} {f c m:Addr} {clos:List (Str×Addr)} {doc pm ctv:Value} {L:List Nat} {W:List (List Nat)} {B:List Bool}
theorem ok_g (ho:base.get? f=some (PySem.W.fnMade "goals_of" q_g (a_j s_g) (a_h s_g) (a_d s_g) clos doc pm c ctv)) (hcd:base.CodeRec (.ref c) q_g) (C:c_r base clos (a_d s_g) ["machine"] [.ref m]) (hMa:Mach L W B):
  FnOk P w K mg base CX0 1 f (PySem.W.fnX "goals_of" q_g (a_j s_g) (a_h s_g) (a_d s_g) clos .none .none doc pm none (.ref c) ctv) ["room"] (spGoals .i L (gW W) (uW W) fun H=>a_L H m L W B):=by
 refine fn_ofC (fvs:=[.ref m]) ho rfl hcd sc_g C (fun vs H Q E h=>?_) (fun A outer s H vs Q E hr h=>?_)
 ·obtain ⟨k,v,rfl,_⟩:=h
  rfl
 ·obtain ⟨k,v,rfl,hv,hU,hM,q⟩:=h
  refine ⟨_,(a_e (a_p (a_q a_w (a_q a_w (pv 1) pe_int (fun _ _=>rfl)) (pv 0) (fun _ _=>rfl)))),?_⟩
  obtain ⟨n,rfl,hn⟩:=uW_one hU
  unfold ThV at hv
  rw [if_pos rfl] at hv
  obtain ⟨n',e,rfl⟩:=hv
  injection e with e
  subst e
  obtain ⟨wy,mk,rows,h1,h2,h3,h4,h5⟩:=hM
  obtain ⟨rr,hrr⟩:∃rr,rows[n]?=some rr:=⟨rows[n]'(by rw [h4];exact hn),List.getElem?_eq_getElem _⟩
  obtain ⟨ws,e5,e6⟩:=h5 _ _ hrr
  have hws:=hMa.row ws (List.mem_of_getElem? e5)
  refine ⟨_,rfl,m,_,_,_,rfl,rfl,SqT.of h1,a_l (j:=1) rfl,_,rfl,wy,_,_,_,rfl,rfl,SqT.of h2,c_g V.ref hrr,?_⟩
  refine q rr (intsV ws) H (Same.refl H) (.inl e6) (by rw [intsV_len];exact hws.1) fun j x hx=>?_
  unfold ThV
  rw [if_pos rfl]
  rw [intsV,List.getElem?_map] at hx
  cases hj:ws[j]? with
  | none=>rw [hj] at hx;cases hx
  | some z=>
   rw [hj] at hx
   cases hx
   refine ⟨z,?_,rfl⟩
   show [(W.getD n []).getD j 0]=[z]
   have e7:W.getD n []=ws:=by
    rw [List.getD_eq_getElem?_getD,e5]
    rfl
   rw [e7,List.getD_eq_getElem?_getD,hj]
   rfl
theorem ok_m (ho:base.get? f=some (PySem.W.fnMade "is_marked" q_m (a_j s_m) (a_h s_m) (a_d s_m) clos doc pm c ctv)) (hcd:base.CodeRec (.ref c) q_m) (C:c_r base clos (a_d s_m) ["machine"] [.ref m]) (hMa:Mach L W B):
  FnOk P w K mg base CX0 1 f (PySem.W.fnX "is_marked" q_m (a_j s_m) (a_h s_m) (a_d s_m) clos .none .none doc pm none (.ref c) ctv) ["room"] (spMark .i (mkW B) (uW W) fun H=>a_L H m L W B):=by
 refine fn_ofC (fvs:=[.ref m]) ho rfl hcd sc_m C (fun vs H Q E h=>?_) (fun A outer s H vs Q E hr h=>?_)
 ·obtain ⟨k,v,rfl,_⟩:=h
  rfl
 ·obtain ⟨k,v,rfl,hv,hU,hM,q⟩:=h
  refine ⟨_,(a_e (a_p (a_q a_w (a_q a_w (pv 1) pe_int (fun _ _=>rfl)) (pv 0) (fun _ _=>rfl)))),?_⟩
  obtain ⟨n,rfl,hn⟩:=uW_one hU
  unfold ThV at hv
  rw [if_pos rfl] at hv
  obtain ⟨n',e,rfl⟩:=hv
  injection e with e
  subst e
  obtain ⟨wy,mk,rows,h1,h2,h3,h4,h5⟩:=hM
  have hB:B[n]?=some (B.getD n false):=by
   rw [List.getD_eq_getElem?_getD,List.getElem?_eq_getElem (by rw [hMa.bl];exact hn)]
   rfl
  exact ⟨_,rfl,m,_,_,_,rfl,rfl,SqT.of h1,a_l (j:=2) rfl,_,rfl,mk,_,_,_,rfl,rfl,SqT.of h3,c_g V.bl hB,q⟩
end
theorem b_J:a_r ["machine","goals_of","is_marked"] ["machine"] (a_d a_m):=⟨rfl,rfl,rfl,by decide +kernel,rfl,by decide +kernel,by decide +kernel⟩
theorem bd_walked {kV doc pm cdv ct ocD:Value} (lD:K.lookup tD=some ⟨ocD,odD,.seq #[.none] nD,slD⟩):d_e K (PySem.W.fnOf "walked" "walked" (a_j a_R) (a_h a_R) (a_d a_R) (.ref tD) kV doc pm an cdv ct) ["letters","start","goals_of","is_marked","most"] [.none]:=fun s us hK hl=>by
 have hl4:us.length=4:=by simpa using hl
 obtain ⟨a,b,c,d,rfl⟩:∃a b c d,us=[a,b,c,d]:=match us,hl4 with | [a,b,c,d],_=>⟨a,b,c,d,rfl⟩
 exact BindsTo.of_defaults rfl (hK _ _ lD) rfl rfl rfl
theorem clos_at (Wd:WideAt X U σ H base') (sub:∀y a,clos.lookup y=some a->X.env.cells.lookup y=some a) (has:∀y∈sc.names,y.2=.free->∃a,clos.lookup y.1=some a) (hN:X.N[0]?=some (Str.ofString "machine")) (hσ:σ[0]?=some (some (.ref m))) (hc:X.env.scope.names.lookup (Str.ofString "machine")=some .cell) (hf:sc.names.lookup (Str.ofString "machine")=some .free) (hm:(("machine":Str),NameKind.free)∈sc.names):
  c_r base' clos sc ["machine"] [.ref m]:=by
 refine ⟨fun y z c h1 h2=>Wd.inj y z c (sub y c h1) (sub z c h2),has,fun y c h=>Wd.cell y c (sub y c h),rfl,fun i y v h1 h2=>?_⟩
 match i,h1,h2 with
 | 0,h1,h2=>
  cases h1
  cases h2
  obtain ⟨a,ha⟩:=has _ hm rfl
  obtain ⟨c,u,e1,e2,e3⟩:=Wd.val 0 "machine" (.ref m) hN hσ hc
  have e4:=sub _ _ ha
  rw [e1] at e4
  cases e4
  exact ⟨hf,_,u,ha,e2,e3⟩
 | i+1,h1,_=>simp at h1
set_option maxHeartbeats 8000000 in
theorem ok_wmach {P:Program} {w:World} {oc kV doc pm ct oc2 kV2 doc2 pm2 cdv2 ct2 ocD:Value} (lk:K.lookup f=some ⟨oc,od,.func (PySem.W.fnOf "walked_machine" "walked_machine" (a_j a_m) (a_h a_m) (a_d a_m) .none kV doc pm an (.ref c) ct),osl⟩) (hcd:PySem.W.codeIn K (.ref c) "walked_machine"=true)
  (lw:K.lookup fw=some ⟨oc2,od2,.func (PySem.W.fnOf "walked" "walked" (a_j a_R) (a_h a_R) (a_d a_R) (.ref tD) kV2 doc2 pm2 an2 cdv2 ct2),osl2⟩) (cw:PySem.W.codeIn K cdv2 "walked"=true) (kw:PySem.W.keepIn K (.ref fw)=true) (mw:mg "walked"=some (.ref fw)) (lD:K.lookup tD=some ⟨ocD,odD,.seq #[.none] nD,slD⟩)
  (WT:WkT K mg cW fI fdI) (tlen:mg "len"=none) (tzip:mg "zip"=none) (hC:PySem.W.CodeHd base c P0) (hB:g_b base mg):
  FnOk P w K mg base CX0 6 f (PySem.W.fnOf "walked_machine" "walked_machine" (a_j a_m) (a_h a_m) (a_d a_m) .none kV doc pm an (.ref c) ct) ["machine"] (f_p cW P0 sites):=by
 refine fn_code lk hcd b_J (fun vs H Q E h=>?_) (fun A outer s H vs Q E hr h=>?_)
 ·obtain ⟨m,L,W,B,rfl,_⟩:=h
  rfl
 ·obtain ⟨m,L,W,B,rfl,hM,hMa,hT,q⟩:=h
  refine ⟨_,(a_b ((ps_nest (i:=1) (qual:=q_g) (c:=c) (P0:=P0) (sites:=sites) b_J.nd rfl (Or.inl rfl) rfl hC hB (by decide +kernel) (by decide +kernel))) (a_b ((ps_nest (i:=2) (qual:=q_m) (c:=c) (P0:=P0) (sites:=sites) b_J.nd rfl (Or.inl rfl) rfl hC hB (by decide +kernel) (by decide +kernel))) (a_e (a_p (pe_wide (dvs:=[.non]) rfl mw kw (bd_walked (kV:=kV2) (doc:=doc2) (pm:=pm2) (an:=an2) (cdv:=cdv2) (ct:=ct2) lD) (.cons rfl .nil) (a_a (a_q a_w (pv 0) pe_int (fun _ _=>rfl)) (a_a pe_int (a_a (pv 1) (a_a (pv 2) a_c)))) (fun _=>rfl)))))),?_⟩
  refine ⟨hT,fun clos1 f1 c1 H1 sub1 has1 fr1 ne1 s1 hT1 hc1 hf1=>⟨hT1,fun clos2 f2 c2 H2 sub2 has2 fr2 ne2 s2 hT2 hc2 hf2=>?_⟩⟩
  have s12:c_L P0 H H2:=e_e s1 s2
  have hM2:a_L H2 m L W B:=hM.tups (c_o s12 hT)
  obtain ⟨ps1,hP1,_⟩:=id hT1
  obtain ⟨ps2,hP2,ht2,hall2⟩:=id hT2
  have nP:∀{b:Addr} {φ:Heap->Prop},H1 b=some (.ext φ)->b≠P0:=fun {b φ} e z=>by rw [z,hP1] at e;cases e
  have hf1':H2 f1=some (fnHO f1 "goals_of" q_g (a_j s_g) (a_h s_g) (a_d s_g) clos1 c1):=s2 f1 _ (nP hf1) hf1
  have hc1':H2 c1=some (codeHO c1 q_g):=s2 c1 _ (nP hc1) hc1
  have hf2':H2 f2=some (fnHO f2 "is_marked" q_m (a_j s_m) (a_h s_m) (a_d s_m) clos2 c2):=hf2
  have hM3:=hM2
  obtain ⟨wy,mk,rows,h1,h2,h3,h4,h5⟩:=hM2
  have hUx:∀u∈[f1,f2,c1,c2],∃ φ,H2 u=some (.ext φ):=fun u hu=>by
   simp only [List.mem_cons,List.not_mem_nil,or_false] at hu
   rcases hu with rfl | rfl | rfl | rfl
   ·exact ⟨_,hf1'⟩
   ·exact ⟨_,hf2'⟩
   ·exact ⟨_,hc1'⟩
   ·exact ⟨_,hc2⟩
  refine ⟨_,rfl,m,_,_,_,rfl,rfl,SqT.of h1,a_l (j:=0) rfl,_,rfl,_,rfl,[f1,f2,c1,c2],hUx,fun base' Wd=>?_⟩
  obtain ⟨doc1,pm1,ctv1,eb1⟩:=Wd.ext f1 _ (by simp) hf1'
  obtain ⟨doc3,pm3,ctv3,eb2⟩:=Wd.ext f2 _ (by simp) hf2'
  have cd1:base'.CodeRec (.ref c1) q_g:=Wd.ext c1 _ (by simp) hc1'
  have cd2:base'.CodeRec (.ref c2) q_m:=Wd.ext c2 _ (by simp) hc2
  have C1:=clos_at (sc:=a_d s_g) (m:=m) Wd sub1 has1 rfl rfl rfl rfl (by decide +kernel)
  have C2:=clos_at (sc:=a_d s_m) (m:=m) Wd sub2 has2 rfl rfl rfl rfl (by decide +kernel)
  have Fw:FunD K "walked" "walked" a_R fw _:=⟨⟨oc2,od2,.ref tD,kV2,doc2,pm2,an2,cdv2,ct2,osl2,rfl,lw,cw⟩,kw⟩
  refine ⟨5,d_Z cW .i L (gW W) (mkW B) (uW W) (fun H=>a_L H m L W B) f1 f2,hr,ok_walked Fw WT tlen tzip ((ok_g eb1 cd1 C1 hMa).mono (by decide)) ((ok_m eb2 cd2 C2 hMa).mono (by decide)) eb1 ⟨_,rfl⟩ eb2 ⟨_,rfl⟩ (.all fun us hl=>match us,hl with | [_],_=>rfl) (.all fun us hl=>match us,hl with | [_],_=>rfl) (fun _ _ s h=>h.same s),?_⟩
  have keepT:∀{b:Addr} {o:HO},H2 b=some o->(∀ φ,o≠.ext φ)->b∉[f1,f2,c1,c2]:=fun {b o} e ho hb=>by
   obtain ⟨φ,e2⟩:=hUx b hb
   rw [e] at e2
   exact ho φ (Option.some.inj e2)
  have n60:=hMa.n60
  refine ⟨[0],.int 0,none,rfl,hMa.lt,?_,uW_mem.mpr hMa.n1,uW_go hMa,by rw [uW_len];omega,hM3.tups fun b xs e=>by rw [a_Z (keepT e (fun _ z=>nomatch z))];exact e,fun wk t wd y md ks vks ws rows' R Bm H3 sm3 hW ht hth hwd hy hwr hmd bf ways bl mks sub le he hU3=>?_⟩
  ·unfold ThV
   rw [if_pos rfl]
   exact ⟨0,rfl,rfl⟩
  have hR:R.length=ks.length:=by
   rcases he with z | ⟨n,z,_⟩
   ·exact z
   ·cases z
  have out:∀{b:Addr} {o:HO},H3 b=some o->retr [f1,f2,c1,c2] H2 H3 b=some o:=fun {b o} e=>by
   rw [c_j fun hb=>?_]
   ·exact e
   ·rw [hU3 b hb] at e
    cases e
  have fwd:∀{b:Addr} {o:HO},H2 b=some o->retr [f1,f2,c1,c2] H2 H3 b=some o:=fun {b o} e=>by
   by_cases hb:b∈[f1,f2,c1,c2]
   ·rw [retr_in hb]
    exact e
   ·exact out (sm3 b o (by rw [a_Z hb];exact e))
  rw [hR] at bf
  obtain ⟨dx,ew⟩:=hW.ex
  exact q wk t wd y md ks vks ws rows' R Bm _ (fun b o hb e=>fwd (s12 b o hb e)) ⟨ps2,fwd hP2,ht2,fun x hx=>(hall2 x hx).imp id fun ⟨c',e1,e2⟩=>⟨c',e1,fwd e2⟩⟩ ⟨dx,out ew⟩ (out ht) (hth.same fun b xs e=>out e) (out hwd) (out hy) ⟨hwr.1,fun i a r e1 e2=>out (hwr.2 i a r e1 e2)⟩ (out hmd) bf ways hR bl mks sub (by rw [uW_len] at le;exact le)
def sp_lotin:Sp:=fun vs H Q _=>∃(L w:List Nat),vs=[.str (tx L),.str (tx w)]/\L.length≤1000/\∀H',Same H H'->Q (.str (tx (lotS L w))) H'
def f_q (cW P1:Addr) (sitesL:List (Pos×Str)):Sp:=fun vs H Q _=>∃(m:Addr) (L:List Nat) (W:List (List Nat)) (B:List Bool),vs=[.ref m]/\a_L H m L W B/\Mach L W B/\W.length≤8/\b_X H P1 sitesL/\
 ∀(wk t wd y md:Addr) (ks:List (List Nat)) (vks:List V) (ws:List (List Nat)) (Bm:List Bool) (H':Hp),c_L P1 H H'->b_X H' P1 sitesL->e_L H' cW wk L t wd y md->H' t=some (.lst vks)->c_K .s H' ks vks->H' wd=some (.lst (wordsV ws))->H' md=some (.lst (Bm.map V.bl))->
  Bf (gS L W) L [0] ks ws ks.length 0->Bm.length=ks.length->(∀(r:Nat) (k:List Nat),ks[r]?=some k->Bm.getD r false=B.getD (k.headD 0) false)->ks.length≤57->Q (.ref wk) H'
theorem thS (h:ThV .s H k v):∃b x l,v=.ref b/\k=x::l/\H b=some (.tup [.int ((x:Nat):Int),.str (tx l)]):=by
 unfold ThV at h
 rw [if_neg (by decide)] at h
 obtain ⟨b,rfl,x,l,e1,e2⟩:=h
 exact ⟨b,x,l,rfl,e1,e2⟩
abbrev a_x:Stmt:=top 53
abbrev s_lg:Stmt:=(a_h a_x).getD 1 (.Pass ⟨0,0,0,0⟩)
abbrev q_lg:Str:="walked_lots.<locals>.goals_of"
abbrev q_ll:Str:="walked_lots.<locals>.<lambda>"
abbrev e_ll:Expr:=match (a_h a_x).getD 2 (.Pass ⟨0,0,0,0⟩) with
 | .Return (some (.Call _ [_,_,_,l] _ _)) _=>l
 | _=>.Name "" ⟨0,0,0,0⟩
abbrev ll_args:Arguments:=match e_ll with | .Lambda a _ _ _=>a | _=>⟨[],[],none,[],[],none,[]⟩
abbrev ll_body:Expr:=match e_ll with | .Lambda _ b _ _=>b | _=>.Name "" ⟨0,0,0,0⟩
abbrev ll_scope:Scope:=match e_ll with | .Lambda _ _ s _=>s | _=>a_d s_lg
abbrev ll_pos:Pos:=match e_ll with | .Lambda _ _ _ p=>p | _=>⟨0,0,0,0⟩
def sitesL:List (Pos×Str):=[(posOf s_lg,q_lg),(ll_pos,q_ll)]
theorem sc_lg:d_U ["state","row","letters","machine"] "state" ["letters","machine"] (a_d s_lg):=⟨rfl,rfl,rfl,by decide +kernel,rfl,rfl,by decide,rfl,by decide +kernel,fun _ _=>rfl,fun _=>rfl⟩
theorem sc_ll:c_U ["state","machine"] ["state"] ["machine"] ll_scope:=⟨rfl,rfl,rfl,by decide +kernel,rfl,rfl,by decide,by decide +kernel,by decide +kernel⟩
section
variable {P:Program} {w:World} {K:PySem.W.Frag} {mg:Str->Option Value} {base:Heap} {f c m:Addr} {clos:List (Str×Addr)} {doc pm ctv:Value} {L:List Nat} {W:List (List Nat)} {B:List Bool}
theorem ok_lg (ho:base.get? f=some (PySem.W.fnMade "goals_of" q_lg (a_j s_lg) (a_h s_lg) (a_d s_lg) clos doc pm c ctv)) (hcd:base.CodeRec (.ref c) q_lg) (C:c_r base clos (a_d s_lg) ["letters","machine"] [.str (tx L),.ref m]) (hMa:Mach L W B) (tzip:mg "zip"=none) (d_lot_in:Df P w K mg base "lot_in" 1 ["letters","word"] sp_lotin):
  FnOk P w K mg base CX0 2 f (PySem.W.fnX "goals_of" q_lg (a_j s_lg) (a_h s_lg) (a_d s_lg) clos .none .none doc pm none (.ref c) ctv) ["state"] (spGoals .s L (gS L W) (uS L W.length) fun H=>a_L H m L W B):=by
 refine fn_ofD (fvs:=[.str (tx L),.ref m]) ho rfl hcd sc_lg C (fun vs H Q E h=>?_) (fun A outer s H v0 Q E hr h=>?_)
 ·obtain ⟨k,v,rfl,_⟩:=h
  rfl
 ·obtain ⟨k,v,ev,hv,hU,hM,q⟩:=h
  obtain rfl:v0=v:=by simpa using ev
  refine ⟨_,(a_b ((a_k (i:=1) sc_lg.nd rfl (Or.inl rfl) (a_q a_w (a_q a_w (pv 3) pe_int (fun _ _=>rfl)) (a_q a_w (pv 0) pe_int (fun _ _=>rfl)) (fun _ _=>rfl)))) (a_e (a_p (pe_comp2T ["state","row","letters","machine"] rfl (by decide) (pi_zipG rfl tzip (a_a (pv 2) (a_a (pv 1) a_c))) (fun cl C fp s' H'=>⟨b_E,b_U (a_a (pv 1) (a_a (a_M d_lot_in hr (a_a (pv 4) (a_a (a_y b_O (a_q (ix_tupK K) (pv 2) pe_int (fun _ _=>rfl)) (pv 0)) a_c))) a_c))⟩))))),?_⟩
  obtain ⟨r0,l,rfl,hr0,hl⟩:=uS_of hMa.n1 hU
  unfold ThV at hv
  rw [if_neg (by decide)] at hv
  obtain ⟨b,rfl,x,l',e0,hb⟩:=hv
  cases e0
  have hL3:=hMa.lt.hi
  have b2:(2:Nat)≤sizeLine:=a_g (by show 2≤16777216;decide)
  obtain ⟨wy,mk,rows,h1,h2,h3,h4,h5⟩:=id hM
  obtain ⟨rr,hrr⟩:∃rr,rows[r0]?=some rr:=⟨rows[r0]'(by rw [h4];exact hr0),List.getElem?_eq_getElem _⟩
  obtain ⟨ws,e5,e6⟩:=h5 _ _ hrr
  have hws:=hMa.row ws (List.mem_of_getElem? e5)
  have ew:W.getD r0 []=ws:=by rw [List.getD_eq_getElem?_getD,e5];rfl
  refine ⟨_,rfl,m,_,_,_,rfl,rfl,SqT.of h1,a_l (j:=1) rfl,_,rfl,b,_,_,_,rfl,rfl,SqT.of hb,a_l (j:=0) rfl,wy,_,_,_,rfl,rfl,SqT.of h2,c_g V.ref hrr,?_⟩
  dsimp only [tRet]
  refine comp2T_zipST (cs:=L) (d:=rr) (fun R h=>⟨_,rfl,_,rfl,h⟩) e6 (by rw [intsV_len];exact hws.1.symm)
   (fun D j ys H'=>∃ts:List Addr,ys=ts.map V.ref/\ts.length=j/\∀(i:Nat) (a:Addr),ts[i]?=some a->TkIn .s H' (gS L W (r0::l) i) a) (a_g (Nat.le_trans hL3 (by decide))) (fun D hD=>⟨[],rfl,rfl,fun i a e=>by simp at e⟩) ?_ ?_
  ·intro D j ch z ys H' H3 R1 hD hx hz hsm hDl hp hsm3 k1
   obtain ⟨ts,rfl,htl,hts⟩:=hp
   have hj:j<L.length:=(List.getElem?_eq_some_iff.mp hx).1
   have hjw:j<ws.length:=by rw [hws.1];exact hj
   rw [b_m hjw] at hz
   cases hz
   have ec:L.getD j 0=ch:=by rw [List.getD_eq_getElem?_getD,hx];rfl
   have s13:=hsm.trans hsm3
   refine ⟨_,rfl,_,rfl,_,rfl,b,_,_,_,rfl,rfl,SqT.of (s13 _ _ hb),a_l (j:=1) rfl,_,rfl,_,_,rfl,rfl,by rw [a_s,a_s];exact a_g (by simp;omega),?_⟩
   rw [d_g]
   refine ⟨L,l++[ch],rfl,by omega,fun H4 s4=>⟨b2,fun t ht=>?_⟩⟩
   have hD5:=a_f (u:=.tup [.int ((ws.getD j 0:Nat):Int),.str (tx (lotS L (l++[ch])))]) (s4 _ _ (hsm3 _ _ hDl)) ht
   have s5:=s4.trans (Same.upd (o:=.tup [.int ((ws.getD j 0:Nat):Int),.str (tx (lotS L (l++[ch])))]) ht)
   have e5t:L2.upd H4 t (.tup [.int ((ws.getD j 0:Nat):Int),.str (tx (lotS L (l++[ch])))]) t=some (.tup [.int ((ws.getD j 0:Nat):Int),.str (tx (lotS L (l++[ch])))]):=upd_same
   generalize L2.upd H4 t (.tup [.int ((ws.getD j 0:Nat):Int),.str (tx (lotS L (l++[ch])))])=H5 at hD5 s5 e5t
   have up:∀{o:HO} b xs,H5 b=some (.tup xs)->L2.upd H5 D o b=some (.tup xs):=fun b xs e=>a_S e hD5 (by intro z;cases z)
   refine k1 (.ref t) _ hD5 (Same.set (s13.trans s5) hD) ⟨ts++[t],by rw [List.map_append];rfl,by rw [List.length_append,htl];rfl,fun i u e=>?_⟩
   rcases c_f e with z | ⟨rfl,rfl⟩
   ·exact ((hts i u z).same fun b xs e=>s5 _ _ (hsm3 _ _ e)).same up
   ·rw [htl]
    refine ⟨ws.getD j 0,lotS L (l++[ch]),?_,up _ _ e5t⟩
    show (W.getD r0 []).getD j 0::lotS L (l++[L.getD j 0])=_
    rw [ew,ec]
  ·intro D ys H' hD hsm hDl hp
   obtain ⟨ts,rfl,htl,hts⟩:=hp
   refine q D (ts.map V.ref) H' hsm (.inr ⟨hD,hDl⟩) (by rw [List.length_map,htl]) fun j x hx=>?_
   rw [List.getElem?_map] at hx
   obtain ⟨a,ha,rfl⟩:=Option.map_eq_some_iff.mp hx
   unfold ThV
   rw [if_neg (by decide)]
   exact ⟨a,rfl,hts j a ha⟩
theorem ok_ll (ho:base.get? f=some (PySem.W.kla_obj "<lambda>" q_ll ll_args ll_body ll_scope clos pm c ctv)) (hcd:base.CodeRec (.ref c) q_ll) (C:c_r base clos ll_scope ["machine"] [.ref m]) (hMa:Mach L W B):
  FnOk P w K mg base CX0 1 f (PySem.W.kla_fn "<lambda>" q_ll ll_args ll_body ll_scope clos pm (.ref c) ctv) ["state"] (spMark .s (fun k=>B.getD (k.headD 0) false) (uS L W.length) fun H=>a_L H m L W B):=by
 refine fn_ofL (fvs:=[.ref m]) ho rfl hcd sc_ll C (fun vs H Q E h=>?_) (fun A outer s H vs Q E hr h=>?_)
 ·obtain ⟨k,v,rfl,_⟩:=h
  rfl
 ·obtain ⟨k,v,rfl,hv,hU,hM,q⟩:=h
  refine ⟨_,a_q a_w (a_q a_w (pv 1) pe_int (fun _ _=>rfl)) (a_q a_w (pv 0) pe_int (fun _ _=>rfl)) (fun _ _=>rfl),?_⟩
  obtain ⟨r0,l,rfl,hr0,hl⟩:=uS_of hMa.n1 hU
  unfold ThV at hv
  rw [if_neg (by decide)] at hv
  obtain ⟨b,rfl,x,l',e0,hb⟩:=hv
  cases e0
  obtain ⟨wy,mk,rows,h1,h2,h3,h4,h5⟩:=id hM
  exact ⟨_,rfl,m,_,_,_,rfl,rfl,SqT.of h1,a_l (j:=2) rfl,_,rfl,b,_,_,_,rfl,rfl,SqT.of hb,a_l (j:=0) rfl,mk,_,_,_,rfl,rfl,SqT.of h3,c_I (by rw [hMa.bl];exact hr0),q⟩
end
theorem c_l:a_r ["machine","letters","goals_of"] ["machine"] (a_d a_x):=⟨rfl,rfl,rfl,by decide +kernel,rfl,by decide +kernel,by decide +kernel⟩
set_option maxHeartbeats 8000000 in
theorem ok_wlots {P:Program} {w:World} {oc kV doc pm ct oc2 kV2 doc2 pm2 cdv2 ct2 ocD:Value} (lk:K.lookup f=some ⟨oc,od,.func (PySem.W.fnOf "walked_lots" "walked_lots" (a_j a_x) (a_h a_x) (a_d a_x) .none kV doc pm an (.ref c) ct),osl⟩) (hcd:PySem.W.codeIn K (.ref c) "walked_lots"=true)
  (lw:K.lookup fw=some ⟨oc2,od2,.func (PySem.W.fnOf "walked" "walked" (a_j a_R) (a_h a_R) (a_d a_R) (.ref tD) kV2 doc2 pm2 an2 cdv2 ct2),osl2⟩) (cw:PySem.W.codeIn K cdv2 "walked"=true) (kw:PySem.W.keepIn K (.ref fw)=true) (mw:mg "walked"=some (.ref fw)) (lD:K.lookup tD=some ⟨ocD,odD,.seq #[.none] nD,slD⟩)
  (WT:WkT K mg cW fI fdI) (tlen:mg "len"=none) (tzip:mg "zip"=none) (hC:PySem.W.CodeHd base c P1) (hB:g_b base mg) (DR:∀base:Heap,Df P w K mg base "lot_in" 1 ["letters","word"] sp_lotin):
  FnOk P w K mg base CX0 6 f (PySem.W.fnOf "walked_lots" "walked_lots" (a_j a_x) (a_h a_x) (a_d a_x) .none kV doc pm an (.ref c) ct) ["machine"] (f_q cW P1 sitesL):=by
 refine fn_code lk hcd c_l (fun vs H Q E h=>?_) (fun A outer s H vs Q E hr h=>?_)
 ·obtain ⟨m,L,W,B,rfl,_⟩:=h
  rfl
 ·obtain ⟨m,L,W,B,rfl,hM,hMa,hW8,hT,q⟩:=h
  refine ⟨_,(a_b ((a_k (i:=1) c_l.nd rfl (Or.inr rfl) (a_q a_w (pv 0) pe_int (fun _ _=>rfl)))) (a_b ((ps_nest (i:=2) (qual:=q_lg) (c:=c) (P0:=P1) (sites:=sitesL) c_l.nd rfl (Or.inl rfl) rfl hC hB (by decide +kernel) (by decide +kernel))) (a_e (a_p (pe_wide (dvs:=[.non]) rfl mw kw (bd_walked (kV:=kV2) (doc:=doc2) (pm:=pm2) (an:=an2) (cdv:=cdv2) (ct:=ct2) lD) (.cons rfl .nil) (a_a (pv 1) (a_a (b_U (a_a pe_int (a_a b_G a_c))) (a_a (pv 2) (a_a (pe_lam (qual:=q_ll) (c:=c) (P0:=P1) (sites:=sitesL) rfl hC hB (by decide +kernel) (by decide +kernel)) a_c)))) (fun _=>rfl)))))),?_⟩
  obtain ⟨wy0,mk0,rows0,h10,_⟩:=id hM
  have b2:(2:Nat)≤sizeLine:=a_g (by show 2≤16777216;decide)
  refine ⟨_,rfl,m,_,_,_,rfl,rfl,SqT.of h10,a_l (j:=0) rfl,?_⟩
  refine ⟨hT,fun clos1 f1 c1 H1 sub1 has1 fr1 ne1 s1 hT1 hc1 hf1=>?_⟩
  have hM1:a_L H1 m L W B:=hM.tups (c_o s1 hT)
  dsimp only [c_x]
  refine ⟨_,rfl,b2,fun st hst=>⟨_,rfl,?_⟩⟩
  have s2:Same H1 (L2.upd H1 st (.tup [.int 0,.str (Str.ofString "")])):=Same.upd hst
  have hst3:L2.upd H1 st (.tup [.int 0,.str (Str.ofString "")]) st=some (.tup [.int 0,.str (Str.ofString "")]):=upd_same
  generalize L2.upd H1 st (.tup [.int 0,.str (Str.ofString "")])=H3 at s2 hst3
  have hT3:=c_h hT1 s2
  refine ⟨hT3,fun clos2 f2 c2 H4 sub2 has2 fr2 ne2 s4 hT4 hc2 hf2=>?_⟩
  obtain ⟨ps1,hP1,_⟩:=id hT1
  obtain ⟨ps3,hP3,_⟩:=id hT3
  obtain ⟨ps4,hP4,ht4,hall4⟩:=id hT4
  have nP:∀{b:Addr} {φ:Heap->Prop},H1 b=some (.ext φ)->b≠P1:=fun {b φ} e z=>by rw [z,hP1] at e;cases e
  have hf1':H4 f1=some (fnHO f1 "goals_of" q_lg (a_j s_lg) (a_h s_lg) (a_d s_lg) clos1 c1):=s4 f1 _ (nP hf1) (s2 _ _ hf1)
  have hc1':H4 c1=some (codeHO c1 q_lg):=s4 c1 _ (nP hc1) (s2 _ _ hc1)
  have hM4:a_L H4 m L W B:=(hM1.same s2).tups (c_o s4 hT3)
  have hst4:H4 st=some (.tup [.int 0,.str (Str.ofString "")]):=c_o s4 hT3 _ _ hst3
  have hUx:∀u∈[f1,f2,c1,c2],∃ φ,H4 u=some (.ext φ):=fun u hu=>by
   simp only [List.mem_cons,List.not_mem_nil,or_false] at hu
   rcases hu with rfl | rfl | rfl | rfl
   ·exact ⟨_,hf1'⟩
   ·exact ⟨_,hf2⟩
   ·exact ⟨_,hc1'⟩
   ·exact ⟨_,hc2⟩
  refine ⟨[f1,f2,c1,c2],hUx,fun base' Wd=>?_⟩
  obtain ⟨doc1,pm1,ctv1,eb1⟩:=Wd.ext f1 _ (by simp) hf1'
  obtain ⟨pm3,ctv3,eb2⟩:=Wd.ext f2 _ (by simp) hf2
  have cd1:base'.CodeRec (.ref c1) q_lg:=Wd.ext c1 _ (by simp) hc1'
  have cd2:base'.CodeRec (.ref c2) q_ll:=Wd.ext c2 _ (by simp) hc2
  have C1:c_r base' clos1 (a_d s_lg) ["letters","machine"] [.str (tx L),.ref m]:=clos_atN Wd sub1 has1 rfl fun i y v e1 e2=>by
   match i,e1,e2 with
   | 0,e1,e2=>cases e1;cases e2;exact ⟨⟨1,rfl,rfl⟩,rfl,rfl⟩
   | 1,e1,e2=>cases e1;cases e2;exact ⟨⟨0,rfl,rfl⟩,rfl,rfl⟩
   | i+2,e1,_=>simp at e1
  have C2:c_r base' clos2 ll_scope ["machine"] [.ref m]:=clos_atN Wd sub2 has2 rfl fun i y v e1 e2=>by
   match i,e1,e2 with
   | 0,e1,e2=>cases e1;cases e2;exact ⟨⟨0,rfl,rfl⟩,rfl,rfl⟩
   | i+1,e1,_=>simp at e1
  have Fw:FunD K "walked" "walked" a_R fw _:=⟨⟨oc2,od2,.ref tD,kV2,doc2,pm2,an2,cdv2,ct2,osl2,rfl,lw,cw⟩,kw⟩
  refine ⟨5,d_Z cW .s L (gS L W) (fun k=>B.getD (k.headD 0) false) (uS L W.length) (fun H=>a_L H m L W B) f1 f2,hr,ok_walked Fw WT tlen tzip ((ok_lg eb1 cd1 C1 hMa tzip (DR base')).mono (by decide)) ((ok_ll eb2 cd2 C2 hMa).mono (by decide)) eb1 ⟨_,rfl⟩ eb2 ⟨_,rfl⟩ (.all fun us hl=>match us,hl with | [_],_=>rfl) (.all fun us hl=>match us,hl with | [_],_=>rfl) (fun _ _ s h=>h.same s),?_⟩
  have keepT:∀{b:Addr} {o:HO},H4 b=some o->(∀ φ,o≠.ext φ)->b∉[f1,f2,c1,c2]:=fun {b o} e ho hb=>by
   obtain ⟨φ,e2⟩:=hUx b hb
   rw [e] at e2
   exact ho φ (Option.some.inj e2)
  have u57:=uS_len hMa.lt.hi hW8
  refine ⟨[0],.ref st,none,rfl,hMa.lt,?_,List.mem_cons_self,fun k hk q hq=>uS_go hMa hk hq,Nat.le_trans u57 (by decide),hM4.tups fun b xs e=>by rw [a_Z (keepT e (fun _ z=>nomatch z))];exact e,fun wk t wd y md ks vks ws rows' R Bm H5 sm5 hW ht hth hwd hy hwr hmd bf ways bl mks sub le he hU5=>?_⟩
  ·unfold ThV
   rw [if_neg (by decide)]
   exact ⟨st,rfl,0,[],rfl,by rw [a_Z (keepT hst4 (fun _ z=>nomatch z))];exact hst4⟩
  have hR:R.length=ks.length:=by
   rcases he with z | ⟨n,z,_⟩
   ·exact z
   ·cases z
  have out:∀{b:Addr} {o:HO},H5 b=some o->retr [f1,f2,c1,c2] H4 H5 b=some o:=fun {b o} e=>by
   rw [c_j fun hb=>?_]
   ·exact e
   ·rw [hU5 b hb] at e
    cases e
  have fwd:∀{b:Addr} {o:HO},H4 b=some o->retr [f1,f2,c1,c2] H4 H5 b=some o:=fun {b o} e=>by
   by_cases hb:b∈[f1,f2,c1,c2]
   ·rw [retr_in hb]
    exact e
   ·exact out (sm5 b o (by rw [a_Z hb];exact e))
  rw [hR] at bf bl
  obtain ⟨dx,ew⟩:=hW.ex
  refine q wk t wd y md ks vks ws Bm _ (fun b o hb e=>fwd (s4 b o hb (s2 _ _ (s1 b o hb e)))) ⟨ps4,fwd hP4,ht4,fun x hx=>(hall4 x hx).imp id fun ⟨c',e1,e2⟩=>⟨c',e1,fwd e2⟩⟩ ⟨dx,out ew⟩ (out ht) ⟨hth.1,fun i k v e1 e2=>?_⟩ (out hwd) (out hmd) bf bl (fun r k hk=>?_) (Nat.le_trans le u57)
  ·obtain ⟨b,x,l,rfl,rfl,hb⟩:=thS (hth.2 i k v e1 e2)
   unfold ThV
   rw [if_neg (by decide)]
   exact ⟨b,rfl,x,l,rfl,out hb⟩
  ·have hr':r<Bm.length:=by rw [bl];exact (List.getElem?_eq_some_iff.mp hk).1
   have e:=mks r k _ hk (List.getElem?_eq_getElem hr')
   rw [List.getD_eq_getElem?_getD,List.getElem?_eq_getElem hr']
   exact e
abbrev b_j:Stmt:=top 103
abbrev b_f:Stmt:=top 104
abbrev b_e:Stmt:=top 106
abbrev b_A:Stmt:=top 107
abbrev b_h:Stmt:=top 108
abbrev b_N:Stmt:=top 110
abbrev b_q:Stmt:=top 109
abbrev b_d:Stmt:=top 111
abbrev b_B:Stmt:=top 112
abbrev b_C:Stmt:=top 113
abbrev b_g:Stmt:=top 114
abbrev b_y:Stmt:=top 115
abbrev b_i:Stmt:=top 117
abbrev a_N:Stmt:=top 119
abbrev c_O:Stmt:=top 54
abbrev a_W:Stmt:=top 120
abbrev a_V:Stmt:=top 118
abbrev b_z:Stmt:=top 121
abbrev c_b:Stmt:=top 122
abbrev c_a:Stmt:=top 14
abbrev b_M:Stmt:=top 15
abbrev b_K:Stmt:=top 13
abbrev b_p:Stmt:=top 16
abbrev c_P:Stmt:=top 18
abbrev d_z:Stmt:=top 31
abbrev b_x:Stmt:=top 55
abbrev b_o:Stmt:=top 45
abbrev b_L:Stmt:=top 101
abbrev e_Y:Stmt:=top 100
abbrev f_D:Stmt:=top 123
structure Txt (K:PySem.W.Frag) (mg:Str->Option Value):Prop where
 len:mg "len"=none
 range:mg "range"=none
 isinst:mg "isinstance"=none
 int:mg "int"=none
 bool:mg "bool"=none
 tuple:mg "tuple"=none
 list:mg "list"=none
 str:mg "str"=none
 zip:mg "zip"=none
 max:mg "max"=none
 enumerate:mg "enumerate"=none
 all:mg "all"=none
def c_s (K:PySem.W.Frag):Sp:=fun vs H Q _=>∃(a:Addr) (ns:List Int) (k:Int),vs=[.ref a,.int k]/\SqL K H a (ns.map V.int)/\0≤k/\∀z,Q (.int z) H
def sp_letters:Sp:=fun vs H Q _=>∃(c:Int),vs=[.int c]/\∀L,Let L->Q (.str (tx L)) H
def c_N (K:PySem.W.Frag):Sp:=fun vs H Q _=>∃(a:Addr) (ns:List Int) (p:Int) (n:Nat) (L:List Nat),vs=[.ref a,.int p,.int (n:Int),.str (tx L)]/\SqL K H a (ns.map V.int)/\0≤p/\1≤n/\n≤60/\Let L/\
 ∀(m:Addr) (W:List (List Nat)) (B:List Bool) (H':Hp),Same H H'->a_L H' m L W B->Mach L W B->W.length=n->Q (.ref m) H'
def c_n (K:PySem.W.Frag):Sp:=fun vs H Q _=>∃(a:Addr) (ns:List Int) (n:Nat),vs=[.ref a,.int (n:Int)]/\SqL K H a (ns.map V.int)/\n≤60/\∀(t:Addr) (B:List Bool) (H':Hp),Same H H'->H' t=some (.tup (B.map V.bl))->B.length=n->Q (.ref t) H'
def f_u (K:PySem.W.Frag):Sp:=fun vs H Q _=>∃(a:Addr) (ns:List Int) (L:List Nat) (st:Bool),vs=[.ref a,.str (tx L),.bl st]/\SqL K H a (ns.map V.int)/\Let L/\
 ∀(m:Addr) (W:List (List Nat)) (B:List Bool) (H':Hp),Same H H'->a_L H' m L W B->Mach L W B->W.length≤8->Q (.ref m) H'
def c_k (K:PySem.W.Frag):Sp:=fun vs H Q _=>∃(a:Addr) (ns:List Int) (L:List Nat),vs=[.ref a,.str (tx L)]/\SqL K H a (ns.map V.int)/\Let L/\
 ∀(m:Addr) (W:List (List Nat)) (B:List Bool) (H':Hp),Same H H'->a_L H' m L W B->Mach L W B->W.length≤8->Q (.ref m) H'
theorem mem_n (h:Let L):∃C:Nat,atI [V.int 6,.int 2,.int 1] (((tx L).length:Nat) - 1:Int)=some (.int (C:Int))/\1≤C/\((L.length=1/\C≤6)\/(L.length=2/\C≤2)\/(L.length=3/\C≤1)):=by
 have h1:=h.lo
 have h2:=h.hi
 rw [a_s]
 have:L.length=1\/L.length=2\/L.length=3:=by omega
 rcases this with e | e | e
 ·exact ⟨6,by rw [e];rfl,by decide,.inl ⟨e,Nat.le_refl _⟩⟩
 ·exact ⟨2,by rw [e];rfl,by decide,.inr (.inl ⟨e,Nat.le_refl _⟩)⟩
 ·exact ⟨1,by rw [e];rfl,by decide,.inr (.inr ⟨e,Nat.le_refl _⟩)⟩
structure MemI (P:Program) (w:World) (H H':Hp) (dd ll wa:Addr) (L:List Nat) (s at0:Nat) (ws:List (List Nat)) (rows:List Addr) (W:List (List Nat)):Prop where
 sm:Same H H'
 pd:H' dd=some (kdO (sK P w) dd (kvX ws 0))
 lb:H' ll=some (.lst (wordsV ws))
 wy:H' wa=some (.lst (rows.map V.ref))
 nd:ws.Nodup
 wd:∀v∈ws,v.length≤s/\∀c∈v,c∈L
 rl:rows.length=at0
 wl:W.length=at0
 ra:b_H H' rows W
 rb:∀r∈W,r.length=L.length/\∀x∈r,x<ws.length
 le:at0≤ws.length
 ne:0<ws.length
 d0:H dd=none
 l0:H ll=none
 w0:H wa=none
 lw:ll≠wa
theorem rows_tups (h:b_H H rows W) (s:∀b xs,H b=some (.tup xs)->H' b=some (.tup xs)):b_H H' rows W:=fun i r e=>let ⟨v,e1,e2⟩:=h i r e;⟨v,e1,s _ _ e2⟩
section
variable {P:Program} {w:World} {H H' H2:Hp} {dd ll wa rw:Addr} {L:List Nat} {s at0:Nat} {ws W:List (List Nat)} {rows:List Addr}
theorem MemI.keep (h:MemI P w H H' dd ll wa L s at0 ws rows W) (k:Same H' H2):MemI P w H H2 dd ll wa L s at0 ws rows W:={ h with sm:=h.sm.trans k,pd:=k _ _ h.pd,lb:=k _ _ h.lb,wy:=k _ _ h.wy,ra:=h.ra.same k }
theorem MemI.other (h:MemI P w H H' dd ll wa L s at0 ws rows W) (h0:H rw=none) (hr:H' rw=some (.lst xs)) (nl:ll≠rw) (nw:wa≠rw):MemI P w H (L2.upd H' rw o) dd ll wa L s at0 ws rows W:=
 { h with sm:=Same.set h.sm h0,pd:=a_S h.pd hr (by intro z;unfold kdO at z;cases z),lb:=by rw [upd_ne nl];exact h.lb,wy:=by rw [upd_ne nw];exact h.wy,ra:=rows_tups h.ra fun b ys e=>a_S e hr (by intro z;cases z) }
theorem MemI.add (h:MemI P w H H' dd ll wa L s at0 ws rows W) (hu:u∉ws) (hl:u.length≤s) (hc:∀c∈u,c∈L):MemI P w H (L2.upd (L2.upd H' dd (kdO (sK P w) dd (kvX (ws++[u]) 0))) ll (.lst (wordsV (ws++[u])))) dd ll wa L s at0 (ws++[u]) rows W:=by
 have dl:dd≠ll:=ne_of h.pd h.lb (by intro z;unfold kdO at z;cases z)
 have dw:dd≠wa:=ne_of h.pd h.wy (by intro z;unfold kdO at z;cases z)
 have lb2:L2.upd H' dd (kdO (sK P w) dd (kvX (ws++[u]) 0)) ll=some (.lst (wordsV ws)):=by rw [upd_ne (Ne.symm dl)];exact h.lb
 refine { h with sm:=Same.set (Same.set h.sm h.d0) h.l0,pd:=by rw [upd_ne dl];exact upd_same,lb:=upd_same,wy:=by rw [upd_ne (Ne.symm h.lw),upd_ne (Ne.symm dw)];exact h.wy,nd:=?_,wd:=fun v hv=>?_,ra:=rows_tups h.ra fun b ys e=>a_S (a_S e h.pd (by intro z;unfold kdO at z;cases z)) lb2 (by intro z;cases z),rb:=fun r hr=>⟨(h.rb r hr).1,fun x hx=>?_⟩,le:=?_,ne:=by rw [List.length_append];exact Nat.lt_of_lt_of_le h.ne (Nat.le_add_right _ _) }
 ·rw [List.nodup_append]
  exact ⟨h.nd,by simp,fun a ha b hb z=>by rw [List.mem_singleton.mp hb] at z;exact hu (z▸ha)⟩
 ·rcases List.mem_append.mp hv with z | z
  ·exact h.wd v z
  ·rw [List.mem_singleton.mp z];exact ⟨hl,hc⟩
 ·rw [List.length_append];exact Nat.lt_of_lt_of_le ((h.rb r hr).2 x hx) (Nat.le_add_right _ _)
 ·rw [List.length_append];exact Nat.le_trans h.le (Nat.le_add_right _ _)
theorem MemI.few (h:MemI P w H H' dd ll wa L s at0 ws rows W) (hs:(b_k L s).length≤7):ws.length≤7:=Nat.le_trans (d_m h.nd fun v hv=>f_c (h.wd v hv).1 (h.wd v hv).2) hs
end
structure TalI (H0 H':Hp) (rl tl:Addr) (rws:List Addr) (ts:List (List Nat)) (S lows:List Nat) (vs:List V):Prop where
 sm:Same H0 H'
 r0:H0 rl=none
 hr:H' rl=some (.lst (rws.map V.ref))
 rn:rws.length=S.length
 ll:lows.length=S.length
 rr:∀(i:Nat) (r:Addr),rws[i]?=some r->H' r=some (.tup [.int ((lows.getD i 0:Nat):Int),.int ((S.getD i 0:Nat):Int)])
 lo:∀i,i<S.length->lows.getD i 0<S.getD i 0
 ht:H' tl=some (.lst vs)
 th:c_K .t H' ts vs
 ta:Tal ts S
 ne:1≤ts.length
 tr:tl≠rl
theorem TalI.keep (h:TalI H0 H' rl tl rws ts S lows vs) (k:Same H' H2):TalI H0 H2 rl tl rws ts S lows vs:=
 { h with sm:=h.sm.trans k,hr:=k _ _ h.hr,rr:=fun i r e=>k _ _ (h.rr i r e),ht:=k _ _ h.ht,th:=h.th.same fun b xs e=>k _ _ e }
theorem thT (e:H b=some (.tup (intsV k))):ThV .t H k (.ref b):=by
 unfold ThV
 rw [if_neg (by decide)]
 exact ⟨b,rfl,e⟩
theorem thT' (h:ThV .t H k v):∃b,v=.ref b/\H b=some (.tup (intsV k)):=by
 unfold ThV at h
 rw [if_neg (by decide)] at h
 exact h
def f_v (K:PySem.W.Frag):Sp:=fun vs H Q _=>∃(a:Addr) (ns:List Int) (L:List Nat) (k:Int),vs=[.ref a,.str (tx L),.int k]/\SqL K H a (ns.map V.int)/\Let L/\
 ∀(m:Addr) (W:List (List Nat)) (B:List Bool) (H':Hp),Same H H'->a_L H' m L W B->Mach L W B->W.length≤8->Q (.ref m) H'
def sp_after:Sp:=fun vs H Q _=>∃(m:Addr) (L:List Nat) (W:List (List Nat)) (B:List Bool) (r:Nat) (w:List Nat),vs=[.ref m,.int (r:Int),.str (tx w)]/\a_L H m L W B/\Mach L W B/\r<W.length/\(∀c∈w,c∈L)/\Q (.int (run L W r w:Nat)) H
def sp_isword:Sp:=fun vs H Q _=>∃(L w:List Nat),vs=[.str (tx w),.str (tx L)]/\(∀c∈w,c∈L)/\w.length≤10000/\∀H',Same H H'->Q (.bl true) H'
def sp_ltakes:Sp:=fun vs H Q _=>∃(m:Addr) (L:List Nat) (W:List (List Nat)) (B:List Bool) (w:List Nat),vs=[.ref m,.str (tx w)]/\a_L H m L W B/\Mach L W B/\(∀c∈w,c∈L)/\Q (.bl (B.getD (run L W 0 w) false)) H
def sp__law_earlier:Sp:=fun vs H Q _=>∃(L a b:List Nat),vs=[.str (tx L),.str (tx a),.str (tx b)]/\Let L/\(∀c∈a,c∈L)/\(∀c∈b,c∈L)/\a.length≤5000/\b.length≤5000/\∀H',Same H H'->Q (.bl (ear L a b)) H'
def sp_alllots:Sp:=fun vs H Q _=>∃(L:List Nat),vs=[.str (tx L)]/\L.length≤3/\∀p H',Same H H'->H' p=some (.lst (wordsV (subsL L)))->Q (.ref p) H'
def sp_inord53:Sp:=fun vs H Q _=>∃(l:Addr) (L:List Nat) (vs0:List (List Nat)),vs=[.ref l,.str (tx L)]/\H l=some (.lst (wordsV vs0))/\Let L/\vs0.length≤1000/\(∀v∈vs0,v.length≤100/\∀c∈v,c∈L)/\(∀(i:Nat) (a b:List Nat),vs0[i]?=some a->vs0[i+1]?=some b->ear L a b=true)/\∀H',Same H H'->Q (.bl true) H'
def sp_paper53:Sp:=fun vs H Q _=>∃(m l:Addr) (L:List Nat) (W:List (List Nat)) (B:List Bool) (vs0:List (List Nat)),vs=[.ref m,.ref l]/\a_L H m L W B/\Mach L W B/\H l=some (.lst (wordsV vs0))/\PaperOk L W B vs0/\∀H',Same H H'->Q (.bl true) H'
def sp_bar53:Sp:=fun vs H Q _=>∃(m t:Addr) (L:List Nat) (W:List (List Nat)) (B:List Bool) (u v:List Nat),vs=[.ref m,.ref t]/\a_L H m L W B/\Mach L W B/\H t=some (.tup [.str (tx u),.str (tx v)])/\BarOk L W B u v/\∀H',Same H H'->Q (.bl true) H'
def sp_numbered:Sp:=fun vs H Q _=>∃(a:Addr) (o:HO) (xs:List V) (ks:List KS) (nest:Bool),vs=[.ref a]/\(o=.lst xs\/o=.tup xs)/\H a=some o/\xs.length=ks.length/\ks.length≤1000/\(∀(i:Nat) (k:KS) (x:V),ks[i]?=some k->xs[i]?=some x->KeyV H k x/\isN k=nest)/\∀p H',Same H H'->H' p=some (.lst (intsV (numF ks)))->Q (.ref p) H'
def sp_manyM:Sp:=fun vs H Q _=>∃(a:Addr) (ns:List Nat),vs=[.ref a]/\H a=some (.lst (intsV ns))/\0<ns.length/\∀M∈ns,(∀x∈ns,x≤M)->Q (.int ((M:Int)+1)) H
def sp_roundsQ:Sp:=fun vs H Q _=>∃(wy mk:Addr) (rows:List Addr) (o om:HO) (L:List Nat) (W:List (List Nat)) (B:List Bool),vs=[.ref wy,.ref mk,.int ((W.length:Nat):Int)]/\(o=.lst (rows.map V.ref)\/o=.tup (rows.map V.ref))/\H wy=some o/\(om=.lst (B.map V.bl)\/om=.tup (B.map V.bl))/\H mk=some om/\rows.length=W.length/\RowsQ H rows W/\Mach L W B/\
 ∀(p:Addr) (lots:List Addr) (k:Nat) (H':Hp),Same H H'->H' p=some (.lst (lots.map V.ref))->lots.length=k+1->LotsAt H' lots W B->Rd W B (k+1)=Rd W B k->k≤3600->Q (.ref p) H'
def sp_firstrooms:Sp:=fun vs H Q _=>∃(a:Addr) (ns:List Nat),vs=[.ref a]/\H a=some (.lst (intsV ns))/\0<ns.length/\ns.length≤60/\(∀x∈ns,x<60)/\(∀(M j:Nat),M∈ns->j≤M->j∈ns)/\
 ∀(m:Nat) (p:Addr) (H':Hp),Many ns m->Same H H'->H p=none->H' p=some (.lst (intsV ((List.range m).map fun j=>ns.idxOf j)))->Q (.ref p) H'
structure WkK (K:PySem.W.Frag) (cW:Addr):Prop where
 cls:Cls K cW
 na1:b_n K cW "letters"
 na4:b_n K cW "ways"
 na5:b_n K cW "marks"
def e_b (cW:Addr):Sp:=fun vs H Q _=>∃(wk t wd y md lo:Addr) (rows:List Addr) (L:List Nat) (R:List (List Nat)) (Bm:List Bool) (k:Nat),vs=[.ref wk,.ref lo]/\e_L H cW wk L t wd y md/\H y=some (.lst (rows.map V.ref))/\WRows H rows R/\H md=some (.lst (Bm.map V.bl))/\Mach L R Bm/\H lo=some (.lst (intsV (Rd R Bm k)))/\
 ∀(m:Nat) (f:Addr) (H':Hp),Many (Rd R Bm k) m->Same H H'->H f=none->a_L H' f L (c_m R (Rd R Bm k) m) (d_O Bm (Rd R Bm k) m)->Q (.ref f) H'
def f_s (P0:Addr) (sites:List (Pos×Str)):Sp:=fun vs H Q _=>∃(m:Addr) (L:List Nat) (W:List (List Nat)) (B:List Bool),vs=[.ref m]/\a_L H m L W B/\Mach L W B/\b_X H P0 sites/\
 ∀(f:Addr) (W':List (List Nat)) (B':List Bool) (H':Hp),c_L P0 H H'->b_X H' P0 sites->a_L H' f L W' B'->d_d L W B W' B'->Q (.ref f) H'
def f_t (cW:Addr):Sp:=fun vs H Q _=>∃(wk t wd y md:Addr) (L:List Nat) (ws:List (List Nat)) (Bm:List Bool) (i j:Nat) (u v:List Nat),vs=[.ref wk,.int (i:Int),.int (j:Int)]/\e_L H cW wk L t wd y md/\H wd=some (.lst (wordsV ws))/\H md=some (.lst (Bm.map V.bl))/\i<Bm.length/\ws[i]?=some u/\ws[j]?=some v/\
 ∀p H',Same H H'->H' p=some (.tup (if Bm.getD i false=true then [.str (tx u),.str (tx v)] else [.str (tx v),.str (tx u)]))->Q (.ref p) H'
theorem tab_X {sites sites':List (Pos×Str)} (s:c_L P0 H H') (hT:b_X H P0 sites) (hn:P1≠P0) (h:b_X H P1 sites'):b_X H' P1 sites':=by
 obtain ⟨ps0,hP0,_⟩:=hT
 obtain ⟨ps,hP,ht,hall⟩:=h
 refine ⟨ps,s _ _ hn hP,ht,fun x hx=>(hall x hx).imp id fun ⟨c',e1,e2⟩=>⟨c',e1,s _ _ (fun z=>?_) e2⟩⟩
 rw [z,hP0] at e2
 cases e2
def c_W (P0 P1:Addr) (sites sitesL:List (Pos×Str)):Sp:=fun vs H Q _=>∃(m:Addr) (L:List Nat) (W:List (List Nat)) (B:List Bool),vs=[.ref m]/\a_L H m L W B/\Mach L W B/\W.length≤8/\b_X H P0 sites/\b_X H P1 sitesL/\P1≠P0/\
 ∀(t:Addr) (Hm H':Hp),c_L P0 H Hm->b_X Hm P1 sitesL->c_L P1 Hm H'->Within H' t L W B->Q (.ref t) H'
def f_r (P:Program) (w:World):Sp:=fun vs H Q _=>∃(d:Addr) (kvs:List (Str×V)) (k:Str) (v:V),vs=[.ref d,.str k]/\H d=some (kdO (sK P w) d kvs)/\valV kvs k=some v/\Q .non H
def e_a (P0 P1:Addr) (sites sitesL:List (Pos×Str)):Sp:=fun vs H Q _=>∃(m:Addr) (L:List Nat) (W:List (List Nat)) (B:List Bool),vs=[.str (Str.ofString "within"),.ref m]/\a_L H m L W B/\Mach L W B/\W.length≤8/\b_X H P0 sites/\b_X H P1 sitesL/\P1≠P0/\
 ∀(t:Addr) (Hm H':Hp),c_L P0 H Hm->b_X Hm P1 sitesL->c_L P1 Hm H'->Within H' t L W B->Q (.ref t) H'
section
variable {P:Program} {w:World} {K:PySem.W.Frag} {mg:Str->Option Value} {base:Heap} {P0 cT cW P1 cT1:Addr}
theorem e_c:a_r ["_law_script","_law_k"] ["_law_script","_law_k"] (a_d b_j):=⟨rfl,rfl,rfl,by decide +kernel,rfl,by decide +kernel,by decide +kernel⟩
theorem e_r (F:Fun K "_law_cell_at" "_law_cell_at" b_j f fd) (T:Txt K mg):FnOk P w K mg base CX0 1 f fd ["_law_script","_law_k"] (c_s K):=by
 refine F.ok e_c (fun vs H Q E h=>?_) (fun cdv A outer s H vs Q E hr h=>?_)
 ·obtain ⟨a,ns,k,rfl,_⟩:=h
  rfl
 ·obtain ⟨a,ns,k,rfl,hS,h0,q⟩:=h
  refine ⟨_,(a_b ((b_v (a_C op_lt (pv 1) (a_n a_t (by rfl) T.len PySem.boot_len (a_a (pv 0) a_c)) (a_Q _)) ((a_e (a_p (a_q a_P (pv 0) (pv 1) (fun _ _=>rfl))))) (a_E))) (a_e (a_p pe_int))),?_⟩
  refine ⟨_,rfl,_,rfl,a,_,rfl,.inl hS,_,_,rfl,rfl,_,rfl,?_⟩
  refine ite3 (fun hlt=>?_) (fun _=>q 0)
  obtain ⟨v,hv,hv2⟩:=atI_in (xs:=ns.map V.int) h0 hlt
  obtain ⟨z,rfl⟩:∃z,v=V.int z:=by
   rw [List.getElem?_map] at hv2
   cases e:ns[k.toNat]? with
   | none=>rw [e] at hv2;cases hv2
   | some z=>rw [e] at hv2;exact ⟨z,(Option.some.inj hv2).symm⟩
  exact ⟨_,rfl,_,rfl,a,_,_,_,rfl,rfl,hS,hv,q z⟩
theorem a_v:a_r ["_law_cell","_law_left","_law_number","_law_many","_law_found","_law_k","_law_at"] ["_law_cell"] (a_d b_f):=⟨rfl,rfl,rfl,by decide +kernel,rfl,by decide +kernel,by decide +kernel⟩
theorem e_n (F:Fun K "_law_letters" "_law_letters" b_f f fd) (T:Txt K mg):FnOk P w K mg base CX0 1 f fd ["_law_cell"] sp_letters:=by
 refine F.ok a_v (fun vs H Q E h=>?_) (fun cdv A outer s H vs Q E hr h=>?_)
 ·obtain ⟨c,rfl,_⟩:=h
  rfl
 ·obtain ⟨c,rfl,q⟩:=h
  refine ⟨_,(a_b ((a_k (i:=1) a_v.nd rfl (Or.inl rfl) (b_G))) (a_b ((a_k (i:=2) a_v.nd rfl (Or.inl rfl) (a_y f_b (pv 0) pe_int))) (a_b ((a_k (i:=3) a_v.nd rfl (Or.inl rfl) (a_y op_add pe_int (a_y f_b (pv 2) pe_int)))) (a_b ((a_k (i:=2) a_v.nd rfl (Or.inl rfl) (a_y f_I (pv 2) pe_int))) (a_b ((a_k (i:=4) a_v.nd rfl (Or.inl rfl) (b_G))) (a_b ((b_s PassesOwn.never rfl (b_T rfl T.range (a_a (pv 3) a_c)) (a_B (i:=5) a_v.nd rfl (Or.inl rfl)) ((a_b ((a_k (i:=6) a_v.nd rfl (Or.inl rfl) (a_y f_b (pv 2) (a_n a_F (by rfl) T.len PySem.boot_len (a_a (pv 1) a_c))))) (a_b ((a_k (i:=2) a_v.nd rfl (Or.inl rfl) (a_y f_I (pv 2) (a_n a_F (by rfl) T.len PySem.boot_len (a_a (pv 1) a_c))))) (a_b ((a_k (i:=4) a_v.nd rfl (Or.inl rfl) (a_y b_O (pv 4) (a_q ix_str (pv 1) (pv 6) (fun _ _=>rfl))))) (a_e ((a_k (i:=1) a_v.nd rfl (Or.inl rfl) (a_y b_O (c_v sl_str (pv 1) d_B (c_G (pv 6))) (c_v sl_str (pv 1) (c_G (a_y op_add (pv 6) pe_int)) d_B))))))))))) (a_e (a_p (pv 4))))))))),?_⟩
  refine ⟨_,rfl,_,_,rfl,rfl,(by show (0:Int)<46800;decide),_,rfl,_,_,rfl,rfl,(by show (0:Int)<3;decide),_,_,rfl,rfl,_,rfl,_,_,rfl,rfl,⟨by decide,by decide⟩,_,rfl,_,rfl,by omega,by omega,?_⟩
  have hm:(1:Int)+c % 46800 % 3≤3/\1≤(1:Int)+c % 46800 % 3:=by omega
  generalize hM:(1:Int)+c % 46800 % 3=M at hm ⊢
  refine c_q (n:=M.toNat) (fun i σ H'=>∃f l n k0 a0,σ=[some (.int c),some (.str (tx l)),some (.int n),some (.int M),some (.str (tx f)),k0,a0]/\H'=H/\0≤n/\f.length=i/\l.length+i=26/\(f++l).Nodup/\∀c∈f++l,97≤c/\c≤122) ?_ ?_ ?_
  ·refine ⟨[],List.range' 97 26,c % 46800 / 3,none,none,?_,rfl,by omega,rfl,rfl,by decide,by decide⟩
   show [some (V.int c),some (V.str _),some (V.int _),some (V.int _),some (V.str _),none,none]=_
   rw [abc_eq,empty_eq,hM]
  ·rintro i σ H1 hi ⟨f,l,n,k0,a0,rfl,rfl,hn,hf,hl,nd,az⟩
   have hz:(tx l).length≤sizeLine:=a_g (by rw [a_s];omega)
   have hlen:((tx l).length:Int)=26 - (i:Int):=by rw [a_s];omega
   have hlp:(0:Int)<((tx l).length:Int):=by omega
   have hr0:=Int.emod_nonneg n (show ((tx l).length:Int)≠0 by omega)
   have hr1:=Int.emod_lt_of_pos n hlp
   have hd0:0≤n / ((tx l).length:Int):=Int.ediv_nonneg hn (by omega)
   have hRl:(n % ((tx l).length:Int)).toNat<l.length:=by omega
   obtain ⟨v,hv,hv2⟩:=atI_in (xs:=(tx l).cps.toList) hr0 (by rw [b_w];omega)
   rw [b_w] at hv2
   have ev:v=l[(n % ((tx l).length:Int)).toNat]:=by
    rw [List.getElem?_eq_getElem hRl] at hv2
    exact (Option.some.inj hv2).symm
   subst ev
   refine ⟨_,rfl,_,rfl,_,rfl,hz,_,_,rfl,rfl,hlp,_,rfl,_,rfl,_,rfl,hz,_,_,rfl,rfl,⟨hlp,by omega⟩,_,rfl,_,rfl,_,rfl,_,_,_,rfl,rfl,hz,hv,_,_,rfl,rfl,?_,_,rfl,_,rfl,_,rfl,_,rfl,hz,_,rfl,_,rfl,_,_,rfl,rfl,_,rfl,_,rfl,hz,_,_,rfl,rfl,?_,?_⟩
   ·refine a_g ?_
    rw [a_s]
    show f.length+1≤_
    omega
   ·refine a_g ?_
    have h1:=Txt.slice_le (tx l) none (some (n % ((tx l).length:Int)))
    have h2:=Txt.slice_le (tx l) (some ((n % ((tx l).length:Int))+1)) none
    have hll:=a_s l
    omega
   ·obtain ⟨d1,d2⟩:=draw_one hRl nd
    refine ⟨f++[l[(n % ((tx l).length:Int)).toNat]],l.take (n % ((tx l).length:Int)).toNat++l.drop ((n % ((tx l).length:Int)).toNat+1),n / ((tx l).length:Int),some (.int (0+(i:Int))),some (.int (n % ((tx l).length:Int))),?_,rfl,hd0,by rw [List.length_append,hf];rfl,?_,d1,fun c hc=>az c (d2 c hc)⟩
    ·have e1:=slice_to (tx l) hr0
     have e2:=e_W (tx l) (i:=(n % ((tx l).length:Int))+1) (by omega) (by rw [b_w];omega)
     rw [b_w] at e1 e2
     rw [show ((n % ((tx l).length:Int))+1).toNat=(n % ((tx l).length:Int)).toNat+1 by omega] at e2
     show [some (V.int c),some (V.str (Txt.slice (tx l) none (some (n % ((tx l).length:Int)))++Txt.slice (tx l) (some ((n % ((tx l).length:Int))+1)) none)),some (V.int _),some (V.int M),some (V.str (tx f++⟨#[l[(n % ((tx l).length:Int)).toNat]]⟩)),some _,some _]=_
     rw [e1,e2,d_g,show (⟨#[l[(n % ((tx l).length:Int)).toNat]]⟩:Str)=tx [l[(n % ((tx l).length:Int)).toNat]] from rfl,d_g]
    ·rw [List.length_append,List.length_take,List.length_drop]
     omega
  ·rintro σ H1 ⟨f,l,n,k0,a0,rfl,rfl,hn,hf,hl,nd,az⟩
   refine ⟨_,rfl,q f ⟨by omega,by omega,(List.nodup_append.mp nd).1,fun c hc=>az c (List.mem_append_left _ hc)⟩⟩
theorem a_A:a_r ["_law_script","_law_at","_law_rooms","_law_letters_here","_law_ways","_law_marks_here","_law_number","_law_k","_law_rest","_law_row","_law_sign"] ["_law_script","_law_at","_law_rooms","_law_letters_here"] (a_d b_e):=⟨rfl,rfl,rfl,by decide +kernel,rfl,by decide +kernel,by decide +kernel⟩
theorem e_m (F:Fun K "_law_machine" "_law_machine" b_e f fd) (T:Txt K mg) (d__law_cell_at:Df P w K mg base "_law_cell_at" 1 ["_law_script","_law_k"] (c_s K)):FnOk P w K mg base CX0 2 f fd ["_law_script","_law_at","_law_rooms","_law_letters_here"] (c_N K):=by
 refine F.ok a_A (fun vs H Q E h=>?_) (fun cdv A outer s H vs Q E hr h=>?_)
 ·obtain ⟨a,ns,p,n,L,rfl,_⟩:=h
  rfl
 ·obtain ⟨a,ns,p,n,L,rfl,hS,hp0,hn1,hn60,hL,q⟩:=h
  refine ⟨_,(a_b ((a_k (i:=4) a_A.nd rfl (Or.inl rfl) (b_l a_c))) (a_b ((a_k (i:=5) a_A.nd rfl (Or.inl rfl) (b_l a_c))) (a_b ((a_k (i:=6) a_A.nd rfl (Or.inl rfl) (pe_int))) (a_b ((b_s PassesOwn.never rfl (b_T rfl T.range (a_a (pv 2) a_c)) (a_B (i:=7) a_A.nd rfl (Or.inl rfl)) ((a_b ((a_k (i:=6) a_A.nd rfl (Or.inl rfl) (a_y d_D (a_y op_a (a_y op_a (a_y op_p (pv 6) (pv 6)) (a_y op_p pe_int (a_y op_m (a_M d__law_cell_at hr (a_a (pv 0) (a_a (a_y op_a (pv 1) (pv 7)) a_c))) (a_y op_pow pe_int pe_int)))) (pv 7)) pe_int))) (a_b ((a_k (i:=8) a_A.nd rfl (Or.inl rfl) (pv 6))) (a_b ((a_k (i:=9) a_A.nd rfl (Or.inl rfl) (b_l a_c))) (a_b ((b_s PassesOwn.never rfl (d_J (pv 3)) (a_B (i:=10) a_A.nd rfl (Or.inl rfl)) ((a_b (a_X (b_V PySem.F.plainAttrs_list PySem.F.slot_list_append PySem.F.type_list_append a_u (pv 9) (a_a (a_y d_D (pv 8) (pv 2)) a_c))) (a_e ((a_k (i:=8) a_A.nd rfl (Or.inl rfl) (a_y op_fdivG (pv 8) (pv 2))))))))) (a_b (a_X (b_V PySem.F.plainAttrs_list PySem.F.slot_list_append PySem.F.type_list_append a_u (pv 4) (a_a ((a_G a_o (by rfl) T.tuple PyProof.Rows.boot_tuple (a_a (pv 9) a_c))) a_c))) (a_e (a_X (b_V PySem.F.plainAttrs_list PySem.F.slot_list_append PySem.F.type_list_append a_u (pv 5) (a_a (c_H op_eq (a_y d_D (pv 8) pe_int) pe_int (a_Q _)) a_c)))))))))))) (a_e (a_p (b_U (a_a (pv 3) (a_a (a_G a_o (by rfl) T.tuple PyProof.Rows.boot_tuple (a_a (pv 4) a_c)) (a_a (a_G a_o (by rfl) T.tuple PyProof.Rows.boot_tuple (a_a (pv 5) a_c)) a_c)))))))))),?_⟩
  refine ⟨Nat.zero_le _,fun wa hwa=>⟨Nat.zero_le _,fun mk hmk=>?_⟩⟩
  have hwm:wa≠mk:=ne_of_none upd_same hmk
  have hmk0:H mk=none:=by rw [upd_ne hwm.symm] at hmk;exact hmk
  refine ⟨_,rfl,_,rfl,by omega,by omega,?_⟩
  refine c_q (n:=(n:Int).toNat) (fun i σ H'=>∃(rows:List Addr) (W:List (List Nat)) (B:List Bool) (num:Int) (k0 rest row sg:Option V),σ=[some (.ref a),some (.int p),some (.int (n:Int)),some (.str (tx L)),some (.ref wa),some (.ref mk),some (.int num),k0,rest,row,sg]/\
   Same H H'/\H' wa=some (.lst (rows.map V.ref))/\H' mk=some (.lst (B.map V.bl))/\rows.length=i/\W.length=i/\B.length=i/\0≤num/\num<2147483647/\b_H H' rows W/\∀ws∈W,ws.length=L.length/\∀x∈ws,x<n) ?_ ?_ ?_
  ·exact ⟨[],[],[],0,none,none,none,none,rfl,fun b o e=>a_f (a_f e hwa) hmk,a_f upd_same hmk,upd_same,rfl,rfl,rfl,by decide,by decide,fun i r e=>by simp at e,fun ws e=>by simp at e⟩
  ·rintro i σ H1 hi ⟨rows,W,B,num,k0,rest0,row0,sg0,rfl,hsame,h1wa,h1mk,hrl,hWl,hBl,hn0,hn1',hrows,hW⟩
   refine ⟨_,rfl,_,rfl,_,_,rfl,rfl,.inl ⟨by omega,by omega⟩,_,rfl,_,rfl,_,rfl,_,_,rfl,rfl,a,ns,_,rfl,hsame.seq hS,by omega,fun z=>?_⟩
   refine ⟨_,_,rfl,rfl,⟨by decide,by decide,by decide⟩,_,_,rfl,rfl,by decide,_,_,rfl,rfl,.inl ⟨by decide,by decide⟩,_,_,rfl,rfl,_,rfl,_,_,rfl,rfl,_,_,rfl,rfl,by decide,fun num2 hm0 hm1=>?_⟩
   refine ⟨_,rfl,Nat.zero_le _,fun rw hrw=>?_⟩
   have rwa:wa≠rw:=ne_of_none h1wa hrw
   have rmk:mk≠rw:=ne_of_none h1mk hrw
   refine ⟨_,rfl,_,rfl,e_B (x:=tx L) (fun j σ' H2=>∃(ws:List Nat) (rest:Int) (sg:Option V),σ'=[some (.ref a),some (.int p),some (.int (n:Int)),some (.str (tx L)),some (.ref wa),some (.ref mk),some (.int num2),some (.int (0+(i:Int))),some (.int rest),some (.ref rw),sg]/\
    H2=upd H1 rw (.lst (intsV ws))/\ws.length=j/\(∀x∈ws,x<n)/\0≤rest) ⟨[],num2,sg0,rfl,rfl,rfl,fun x e=>by simp at e,hm0⟩ ?_ ?_⟩
   ·rintro j c σ2 H2 hc ⟨ws,rest,sg,rfl,rfl,hwl,hwn,hr0⟩
    have hjl:j<4:=by
     have:=(Array.getElem?_eq_some_iff.mp hc).1
     have e:(tx L).cps.size=L.length:=a_s L
     have:=hL.hi
     omega
    refine ⟨_,rfl,.inl ⟨rfl,_,SqL.of upd_same⟩,_,rfl,_,rfl,_,_,rfl,rfl,by omega,fun r hr0' hr1=>⟨rw,_,_,rfl,rfl,upd_same,?_,_,rfl,_,rfl,_,_,rfl,rfl,⟨by omega,by omega⟩,hr0,fun q2 hq2=>?_⟩⟩
    ·unfold intsV
     rw [List.length_map]
     exact a_I (by omega)
    ·refine ⟨ws++[r.toNat],q2,some (.str ⟨#[c]⟩),rfl,?_,by rw [List.length_append,hwl];rfl,fun x hx=>?_,hq2⟩
     ·have e:((r.toNat:Nat):Int)=r:=by omega
      rw [d_x]
      unfold intsV
      rw [List.map_append]
      show _=upd H1 rw (.lst (_++[V.int ((r.toNat:Nat):Int)]))
      rw [e]
     ·rcases List.mem_append.mp hx with hx | hx
      ·exact hwn x hx
      ·rw [List.mem_singleton.mp hx]
       omega
   ·rintro σ2 H2 ⟨ws,rest,sg,rfl,rfl,hwl,hwn,hr0⟩
    rw [a_s] at hwl
    have a1:upd H1 rw (.lst (intsV ws)) wa=some (.lst (rows.map V.ref)):=by rw [upd_ne rwa];exact h1wa
    have a2:upd H1 rw (.lst (intsV ws)) mk=some (.lst (B.map V.bl)):=by rw [upd_ne rmk];exact h1mk
    refine ⟨_,rfl,.inl ⟨rfl,_,SqL.of a1⟩,_,rfl,rw,_,rfl,.inl ⟨SqL.of upd_same,fun tp htp=>?_⟩⟩
    have twa:wa≠tp:=ne_of_none a1 htp
    have tmk:mk≠tp:=ne_of_none a2 htp
    refine ⟨wa,_,_,rfl,rfl,(by rw [upd_ne twa];exact a1),(by rw [List.length_map];exact a_I (by omega)),?_⟩
    refine ⟨_,rfl,.inl ⟨rfl,_,SqL.of (by rw [upd_ne hwm.symm,upd_ne tmk];exact a2)⟩,_,rfl,_,_,rfl,rfl,by decide,fun r3 _ _=>⟨rfl,mk,_,_,rfl,rfl,(by rw [upd_ne hwm.symm,upd_ne tmk];exact a2),(by rw [List.length_map];exact a_I (by omega)),?_⟩⟩
    have hk:∀b o,H1 b=some o->b≠wa->b≠mk->upd (upd (upd (upd H1 rw (.lst (intsV ws))) tp (.tup (intsV ws))) wa (.lst (rows.map V.ref++[.ref tp]))) mk (.lst (B.map V.bl++[.bl (decide (V.int r3=V.int 1))])) b=some o:=fun b o e e1 e2=>by
     rw [upd_ne e2,upd_ne e1,upd_ne (ne_of_none (a_f e hrw) htp),upd_ne (ne_of_none e hrw)]
     exact e
    refine ⟨rows++[tp],W++[ws],B++[decide (V.int r3=V.int 1)],num2,some (.int (0+(i:Int))),some (.int rest),some (.ref rw),sg,rfl,fun b o e=>?_,?_,?_,?_,?_,?_,hm0,hm1,fun j r e=>?_,fun v hv=>?_⟩
    ·exact hk b o (hsame b o e) (ne_of_none e hwa) (ne_of_none e hmk0)
    ·rw [upd_ne hwm,upd_same,List.map_append]
     rfl
    ·rw [upd_same,List.map_append]
     rfl
    ·rw [List.length_append,hrl];rfl
    ·rw [List.length_append,hWl];rfl
    ·rw [List.length_append,hBl];rfl
    ·by_cases hj:j<rows.length
     ·rw [List.getElem?_append_left hj] at e
      obtain ⟨v,e1,e2⟩:=hrows j r e
      refine ⟨v,by rw [List.getElem?_append_left (by omega)];exact e1,hk r _ e2 (ne_of e2 h1wa (by intro z;cases z)) (ne_of e2 h1mk (by intro z;cases z))⟩
     ·rw [List.getElem?_append_right (by omega)] at e
      have hj0:j - rows.length=0:=by
       have:=(List.getElem?_eq_some_iff.mp e).1
       simp at this
       omega
      rw [hj0] at e
      have et:tp=r:=by simpa using e
      subst et
      refine ⟨ws,by rw [List.getElem?_append_right (by omega),show j - W.length=0 by omega];rfl,?_⟩
      rw [upd_ne tmk.symm,upd_ne twa.symm,upd_same]
    ·rcases List.mem_append.mp hv with hv | hv
     ·exact hW v hv
     ·rw [List.mem_singleton.mp hv]
      exact ⟨hwl,hwn⟩
  ·rintro σ H1 ⟨rows,W,B,num,k0,rest0,row0,sg0,rfl,hsame,h1wa,h1mk,hrl,hWl,hBl,hn0,hn1',hrows,hW⟩
   refine ⟨_,rfl,_,rfl,wa,_,rfl,.inl ⟨SqL.of h1wa,fun tw htw=>⟨_,rfl,mk,_,rfl,.inl ⟨SqL.of (a_f h1mk htw),fun tm htm=>⟨a_g (by show 3≤16777216;decide),fun m hm=>?_⟩⟩⟩⟩⟩
   have up:∀b o,H1 b=some o->upd (upd (upd H1 tw (.tup (rows.map V.ref))) tm (.tup (B.map V.bl))) m (.tup [.str (tx L),.ref tw,.ref tm]) b=some o:=fun b o e=>a_f (a_f (a_f e htw) htm) hm
   have hWn:W.length=n:=by omega
   exact q m W B _ (fun b o e=>up b o (hsame b o e)) ⟨tw,tm,rows,upd_same,a_f (a_f upd_same htm) hm,a_f upd_same hm,by omega,hrows.same up⟩ ⟨hL,by omega,by omega,by omega,fun ws hws=>⟨(hW ws hws).1,fun x hx=>by rw [hWn];exact (hW ws hws).2 x hx⟩⟩ hWn
theorem f_B:a_r ["_law_script","_law_rooms"] ["_law_script","_law_rooms"] (a_d b_A):=⟨rfl,rfl,rfl,by decide +kernel,rfl,by decide +kernel,by decide +kernel⟩
theorem f_M (F:Fun K "_law_marks" "_law_marks" b_A f fd) (T:Txt K mg) (d__law_cell_at:Df P w K mg base "_law_cell_at" 1 ["_law_script","_law_k"] (c_s K)):FnOk P w K mg base CX0 2 f fd ["_law_script","_law_rooms"] (c_n K):=by
 refine F.ok f_B (fun vs H Q E h=>?_) (fun cdv A outer s H vs Q E hr h=>?_)
 ·obtain ⟨a,ns,n,rfl,_⟩:=h
  rfl
 ·obtain ⟨a,ns,n,rfl,hS,hn,q⟩:=h
  refine ⟨_,(a_e (a_p (a_G a_o (by rfl) T.tuple PyProof.Rows.boot_tuple (a_a (b_r ["_law_script","_law_rooms"] rfl (by decide) (b_T rfl T.range (a_a (pv 1) a_c)) (fun cl C fp s' H'=>⟨b_E,c_H op_eq (a_y op_m (a_M d__law_cell_at hr (a_a (pv 1) (a_a (a_y op_a pe_int (pv 0)) a_c))) pe_int) pe_int (a_Q _)⟩)) a_c)))),?_⟩
  dsimp only [tRet,c_C,tCB,c_V]
  refine e_F (n:=n) (fun R h=>⟨_,rfl,h⟩) (by omega) (fun D j ys H'=>∃B:List Bool,ys=B.map V.bl/\B.length=j) (fun D hD=>⟨[],rfl,rfl⟩) ?_ ?_
  ·intro D j ys H' R1 R2 hD hj hsm hDl hp k1 k2
   obtain ⟨B,rfl,hB⟩:=hp
   exact tAlways_if ⟨_,rfl,_,rfl,_,_,rfl,rfl,a,ns,_,rfl,hsm.seq hS,by omega,fun z=>⟨_,_,rfl,rfl,by decide,rfl,k1 _ H' hDl (Same.set hsm hD) ⟨B++[_],by rw [List.map_append];rfl,by rw [List.length_append,hB];rfl⟩⟩⟩
  ·intro D ys H' hD hsm hDl hp
   obtain ⟨B,rfl,hB⟩:=hp
   exact ⟨D,_,rfl,.inl ⟨SqL.of hDl,fun tm htm=>q tm B _ (hsm.trans (Same.upd htm)) upd_same hB⟩⟩
theorem a_U:a_r ["_law_script","_law_letters_here","_law_strict","_law_rooms","_law_drawn","_law_ends","_law_ways","_law_room"] ["_law_script","_law_letters_here","_law_strict"] (a_d b_h):=⟨rfl,rfl,rfl,by decide +kernel,rfl,by decide +kernel,by decide +kernel⟩
theorem e_p (F:Fun K "_law_forward" "_law_forward" b_h f fd) (T:Txt K mg) (d__law_cell_at:Df P w K mg base "_law_cell_at" 1 ["_law_script","_law_k"] (c_s K)) (d__law_machine:Df P w K mg base "_law_machine" 2 ["_law_script","_law_at","_law_rooms","_law_letters_here"] (c_N K)):FnOk P w K mg base CX0 3 f fd ["_law_script","_law_letters_here","_law_strict"] (f_u K):=by
 refine F.ok a_U (fun vs H Q E h=>?_) (fun cdv A outer s H vs Q E hr h=>?_)
 ·obtain ⟨a,ns,L,st,rfl,_⟩:=h
  rfl
 ·obtain ⟨a,ns,L,st,rfl,hS,hL,q⟩:=h
  have hr1:=hr.mono (j:=1) (by decide)
  refine ⟨_,(a_b ((a_k (i:=3) a_U.nd rfl (Or.inr rfl) (a_y op_a pe_int (a_y op_m (a_M d__law_cell_at hr1 (a_a (pv 0) (a_a (pe_int) a_c))) pe_int)))) (a_b ((a_k (i:=4) a_U.nd rfl (Or.inl rfl) ((a_M d__law_machine hr (a_a (pv 0) (a_a (pe_int) (a_a (pv 3) (a_a (pv 1) a_c)))))))) (a_b ((a_k (i:=5) a_U.nd rfl (Or.inl rfl) (a_y op_s (a_y op_s (pv 3) pe_int) (a_y op_m (a_y op_f (a_M d__law_cell_at hr1 (a_a (pv 0) (a_a (pe_int) a_c))) pe_int) pe_int)))) (a_b ((a_k (i:=6) a_U.nd rfl (Or.inl rfl) (b_l a_c))) (a_b ((b_s PassesOwn.never rfl (b_T rfl T.range (a_a (pv 3) a_c)) (a_B (i:=7) a_U.nd rfl (Or.inr rfl)) ((a_e ((b_v (c_F (c_p (pv 2))) ((a_e (a_X (b_V PySem.F.plainAttrs_list PySem.F.slot_list_append PySem.F.type_list_append a_u (pv 6) (a_a ((a_G a_o (by rfl) T.tuple PyProof.Rows.boot_tuple (a_a (b_r ["_law_script","_law_letters_here","_law_strict","_law_rooms","_law_drawn","_law_ends","_law_ways","_law_room"] rfl (by decide) (e_i (a_q a_w (a_q a_w (pv 4) pe_int (fun _ _=>rfl)) (pv 7) (fun _ _=>rfl))) (fun cl C fp s' H'=>⟨b_E,a_y op_a (pv 8) (a_y d_D (pv 0) (a_y op_s (pv 4) (pv 8)))⟩)) a_c))) a_c))))) ((a_e ((b_v (a_C op_lt (pv 7) (pv 5) (a_Q _)) ((a_e (a_X (b_V PySem.F.plainAttrs_list PySem.F.slot_list_append PySem.F.type_list_append a_u (pv 6) (a_a ((a_G a_o (by rfl) T.tuple PyProof.Rows.boot_tuple (a_a (b_r ["_law_script","_law_letters_here","_law_strict","_law_rooms","_law_drawn","_law_ends","_law_ways","_law_room"] rfl (by decide) (e_i (a_q a_w (a_q a_w (pv 4) pe_int (fun _ _=>rfl)) (pv 7) (fun _ _=>rfl))) (fun cl C fp s' H'=>⟨b_E,a_y op_a (a_y op_a (pv 8) pe_int) (a_y d_D (pv 0) (a_y op_s (a_y op_s (pv 4) pe_int) (pv 8)))⟩)) a_c))) a_c))))) ((a_e (a_X (b_V PySem.F.plainAttrs_list PySem.F.slot_list_append PySem.F.type_list_append a_u (pv 6) (a_a ((a_G a_o (by rfl) T.tuple PyProof.Rows.boot_tuple (a_a (b_r ["_law_script","_law_letters_here","_law_strict","_law_rooms","_law_drawn","_law_ends","_law_ways","_law_room"] rfl (by decide) (e_i (a_q a_w (a_q a_w (pv 4) pe_int (fun _ _=>rfl)) (pv 7) (fun _ _=>rfl))) (fun cl C fp s' H'=>⟨b_E,pv 8⟩)) a_c))) a_c))))))))))))))) (a_e (a_p (b_U (a_a (pv 1) (a_a (a_G a_o (by rfl) T.tuple PyProof.Rows.boot_tuple (a_a (pv 6) a_c)) (a_a (a_q a_w (pv 4) pe_int (fun _ _=>rfl)) a_c))))))))))),?_⟩
  refine ⟨_,rfl,a,ns,3,rfl,hS,by decide,fun z0=>⟨_,_,rfl,rfl,by decide,_,_,rfl,rfl,?_⟩⟩
  obtain ⟨n,en,n1,n2⟩:=g_a z0 1 6 (by decide)
  have en':(1:Int)+z0 % 6=(n:Int):=en.symm
  rw [en']
  refine ⟨_,rfl,_,rfl,_,rfl,a,ns,4,n,L,rfl,hS,by decide,n1,by omega,hL,fun dm W0 B0 H0 s0 hM0 hMa0 hW0=>?_⟩
  obtain ⟨wy,mk,rows0,g1,g2,g3,g4,g5⟩:=hM0
  refine ⟨_,rfl,_,_,rfl,rfl,_,rfl,a,ns,3,rfl,s0.seq hS,by decide,fun z1=>⟨_,_,rfl,rfl,⟨by decide,by decide⟩,_,_,rfl,rfl,by decide,_,_,rfl,rfl,?_⟩⟩
  have e0:0≤z1 / 6 % 2:=Int.emod_nonneg _ (by decide)
  generalize z1 / 6 % 2=ee at e0
  refine ⟨Nat.zero_le _,fun wa hwa=>?_⟩
  refine ⟨_,rfl,_,rfl,by omega,by omega,?_⟩
  refine c_q (n:=(n:Int).toNat) (fun i σ H'=>∃(rows:List Addr) (W:List (List Nat)) (s7:Option V),σ=[some (.ref a),some (.str (tx L)),some (.bl st),some (.int (n:Int)),some (.ref dm),some (.int ((n:Int) - 1 - ee)),some (.ref wa),s7]/\Same H0 H'/\H' wa=some (.lst (rows.map V.ref))/\rows.length=i/\W.length=i/\b_H H' rows W/\∀ws∈W,ws.length=L.length/\∀x∈ws,x<n) ⟨[],[],none,rfl,Same.upd hwa,upd_same,rfl,rfl,fun i r e=>by simp at e,fun ws e=>by simp at e⟩ ?_ ?_
  ·rintro i σ H1 hi ⟨rows,W,s7,rfl,sm,h1,hrl,hWl,hrows,hW⟩
   have hin:i<n:=by omega
   have hi0:i<W0.length:=by omega
   obtain ⟨ra,hra,hraH⟩:=a_L.row g4 (g5.same sm) hi0
   obtain ⟨gl,gb⟩:=f_a hMa0 hi0
   have zi:(i:Int)=0+(i:Int):=(Int.zero_add _).symm
   cases st with
   | false=>
    refine ⟨_,rfl,_,rfl,iteT ⟨_,rfl,.inl ⟨rfl,_,SqL.of h1⟩,?_⟩⟩
    dsimp only [tRet,c_x,tNext,tSeq,tAsg,c_V,c_C,tBM,tCB]
    refine c_y (a:=ra) (fun R h=>⟨_,rfl,dm,_,_,_,rfl,rfl,SqT.of (sm _ _ g1),a_l (j:=1) rfl,_,rfl,wy,_,_,_,rfl,rfl,SqT.of (sm _ _ g2),zi▸c_g V.ref hra,h⟩) (.inr rfl) hraH (fun D j ys H'=>∃ws:List Nat,ys=intsV ws/\ws.length=j/\∀x∈ws,x<n) (by rw [intsV_len,gl];exact a_g (Nat.le_trans hL.hi (by decide))) (fun D hD=>⟨[],rfl,rfl,fun x e=>by simp at e⟩) ?_ ?_
    ·intro D j x ys H' R1 R2 hD hx hsm hDl hp k1 k2
     obtain ⟨ws,rfl,hwl,hwn⟩:=hp
     have hj:j<(W0.getD i []).length:=by have:=(List.getElem?_eq_some_iff.mp hx).1;rwa [intsV_len] at this
     rw [b_m hj] at hx
     cases hx
     have put:∀y:Nat,y<n->R1 (.int (y:Int)) H':=fun y hy=>k1 _ H' hDl (Same.set hsm hD) ⟨ws++[y],(b_D _ _).symm,by rw [List.length_append,hwl];rfl,fun z hz=>by
      rcases List.mem_append.mp hz with u | u
      ·exact hwn z u
      ·rw [List.mem_singleton.mp u];exact hy⟩
     refine tAlways_if ⟨_,rfl,_,rfl,_,rfl,_,rfl,_,_,rfl,rfl,_,_,rfl,rfl,by omega,fun r hr0 hr1=>⟨_,_,rfl,rfl,?_⟩⟩
     obtain ⟨x,rfl⟩:=Int.eq_ofNat_of_zero_le hr0
     rw [show (0:Int)+(i:Int)+(x:Int)=((i+x:Nat):Int) by omega]
     exact put _ (by omega)
    ·intro D ys H' hD hsm hDl hp
     obtain ⟨ws,rfl,hwl,hwn⟩:=hp
     rw [intsV_len,gl] at hwl
     have a1:=hsm _ _ h1
     have hr2:b_H H' rows W:=hrows.same hsm
     refine ⟨D,_,rfl,.inl ⟨SqL.of hDl,fun tp htp=>?_⟩⟩
     obtain ⟨u1,u2,u3⟩:=d_A (ws:=ws) a1 hr2 (by rw [hrl,hWl]) htp
     refine ⟨wa,_,_,rfl,rfl,a_f a1 htp,by rw [List.length_map];exact a_I (by omega),rows++[tp],W++[ws],_,rfl,fun b o e=>u3 b o (hsm _ _ (sm b o e)) (ne_of_none e hwa),u1,by rw [List.length_append,hrl];rfl,by rw [List.length_append,hWl];rfl,u2,fun v hv=>?_⟩
     rcases List.mem_append.mp hv with z | z
     ·exact hW v z
     ·rw [List.mem_singleton.mp z];exact ⟨hwl,hwn⟩
   | true=>
    refine ⟨_,rfl,_,rfl,iteF ⟨_,rfl,_,rfl,_,_,rfl,rfl,_,rfl,ite3 (fun hlt=>⟨_,rfl,.inl ⟨rfl,_,SqL.of h1⟩,?_⟩) (fun _=>⟨_,rfl,.inl ⟨rfl,_,SqL.of h1⟩,?_⟩)⟩⟩
    rotate_left
    ·dsimp only [tRet,c_x,tNext,tSeq,tAsg,c_V,c_C,tBM,tCB]
     refine c_y (a:=ra) (fun R h=>⟨_,rfl,dm,_,_,_,rfl,rfl,SqT.of (sm _ _ g1),a_l (j:=1) rfl,_,rfl,wy,_,_,_,rfl,rfl,SqT.of (sm _ _ g2),zi▸c_g V.ref hra,h⟩) (.inr rfl) hraH (fun D j ys H'=>∃ws:List Nat,ys=intsV ws/\ws.length=j/\∀x∈ws,x<n) (by rw [intsV_len,gl];exact a_g (Nat.le_trans hL.hi (by decide))) (fun D hD=>⟨[],rfl,rfl,fun x e=>by simp at e⟩) ?_ ?_
     ·intro D j x ys H' R1 R2 hD hx hsm hDl hp k1 k2
      obtain ⟨ws,rfl,hwl,hwn⟩:=hp
      have hj:j<(W0.getD i []).length:=by have:=(List.getElem?_eq_some_iff.mp hx).1;rwa [intsV_len] at this
      rw [b_m hj] at hx
      cases hx
      have put:∀y:Nat,y<n->R1 (.int (y:Int)) H':=fun y hy=>k1 _ H' hDl (Same.set hsm hD) ⟨ws++[y],(b_D _ _).symm,by rw [List.length_append,hwl];rfl,fun z hz=>by
       rcases List.mem_append.mp hz with u | u
       ·exact hwn z u
       ·rw [List.mem_singleton.mp u];exact hy⟩
      refine tAlways_if ⟨_,rfl,?_⟩
      rw [Int.zero_add]
      exact put _ hin
     ·intro D ys H' hD hsm hDl hp
      obtain ⟨ws,rfl,hwl,hwn⟩:=hp
      rw [intsV_len,gl] at hwl
      have a1:=hsm _ _ h1
      have hr2:b_H H' rows W:=hrows.same hsm
      refine ⟨D,_,rfl,.inl ⟨SqL.of hDl,fun tp htp=>?_⟩⟩
      obtain ⟨u1,u2,u3⟩:=d_A (ws:=ws) a1 hr2 (by rw [hrl,hWl]) htp
      refine ⟨wa,_,_,rfl,rfl,a_f a1 htp,by rw [List.length_map];exact a_I (by omega),rows++[tp],W++[ws],_,rfl,fun b o e=>u3 b o (hsm _ _ (sm b o e)) (ne_of_none e hwa),u1,by rw [List.length_append,hrl];rfl,by rw [List.length_append,hWl];rfl,u2,fun v hv=>?_⟩
      rcases List.mem_append.mp hv with z | z
      ·exact hW v z
      ·rw [List.mem_singleton.mp z];exact ⟨hwl,hwn⟩
    dsimp only [tRet,c_x,tNext,tSeq,tAsg,c_V,c_C,tBM,tCB]
    refine c_y (a:=ra) (fun R h=>⟨_,rfl,dm,_,_,_,rfl,rfl,SqT.of (sm _ _ g1),a_l (j:=1) rfl,_,rfl,wy,_,_,_,rfl,rfl,SqT.of (sm _ _ g2),zi▸c_g V.ref hra,h⟩) (.inr rfl) hraH (fun D j ys H'=>∃ws:List Nat,ys=intsV ws/\ws.length=j/\∀x∈ws,x<n) (by rw [intsV_len,gl];exact a_g (Nat.le_trans hL.hi (by decide))) (fun D hD=>⟨[],rfl,rfl,fun x e=>by simp at e⟩) ?_ ?_
    ·intro D j x ys H' R1 R2 hD hx hsm hDl hp k1 k2
     obtain ⟨ws,rfl,hwl,hwn⟩:=hp
     have hj:j<(W0.getD i []).length:=by have:=(List.getElem?_eq_some_iff.mp hx).1;rwa [intsV_len] at this
     rw [b_m hj] at hx
     cases hx
     have put:∀y:Nat,y<n->R1 (.int (y:Int)) H':=fun y hy=>k1 _ H' hDl (Same.set hsm hD) ⟨ws++[y],(b_D _ _).symm,by rw [List.length_append,hwl];rfl,fun z hz=>by
      rcases List.mem_append.mp hz with u | u
      ·exact hwn z u
      ·rw [List.mem_singleton.mp u];exact hy⟩
     refine tAlways_if ⟨_,rfl,_,_,rfl,rfl,_,rfl,_,rfl,_,_,rfl,rfl,_,rfl,_,_,rfl,rfl,_,_,rfl,rfl,by omega,fun r hr0 hr1=>⟨_,_,rfl,rfl,?_⟩⟩
     obtain ⟨x,rfl⟩:=Int.eq_ofNat_of_zero_le hr0
     rw [show (0:Int)+(i:Int)+1+(x:Int)=((i+1+x:Nat):Int) by omega]
     exact put _ (by omega)
    ·intro D ys H' hD hsm hDl hp
     obtain ⟨ws,rfl,hwl,hwn⟩:=hp
     rw [intsV_len,gl] at hwl
     have a1:=hsm _ _ h1
     have hr2:b_H H' rows W:=hrows.same hsm
     refine ⟨D,_,rfl,.inl ⟨SqL.of hDl,fun tp htp=>?_⟩⟩
     obtain ⟨u1,u2,u3⟩:=d_A (ws:=ws) a1 hr2 (by rw [hrl,hWl]) htp
     refine ⟨wa,_,_,rfl,rfl,a_f a1 htp,by rw [List.length_map];exact a_I (by omega),rows++[tp],W++[ws],_,rfl,fun b o e=>u3 b o (hsm _ _ (sm b o e)) (ne_of_none e hwa),u1,by rw [List.length_append,hrl];rfl,by rw [List.length_append,hWl];rfl,u2,fun v hv=>?_⟩
     rcases List.mem_append.mp hv with z | z
     ·exact hW v z
     ·rw [List.mem_singleton.mp z];exact ⟨hwl,hwn⟩
  ·rintro σ H1 ⟨rows,W,s7,rfl,sm,h1,hrl,hWl,hrows,hW⟩
   have hWn:W.length=n:=by omega
   refine ⟨_,rfl,_,rfl,wa,_,rfl,.inl ⟨SqL.of h1,fun tw htw=>?_⟩⟩
   have s2:=Same.upd (o:=.tup (rows.map V.ref)) htw
   refine ⟨_,rfl,dm,_,_,_,rfl,rfl,SqT.of ((sm.trans s2) _ _ g1),a_l (j:=2) rfl,a_g (by show 3≤16777216;decide),fun m hm=>?_⟩
   have up:Same H1 (L2.upd (L2.upd H1 tw (.tup (rows.map V.ref))) m (.tup [.str (tx L),.ref tw,.ref mk])):=s2.trans (Same.upd hm)
   exact q m W B0 _ ((s0.trans sm).trans up) ⟨tw,mk,rows,upd_same,a_f upd_same hm,(sm.trans up) _ _ g3,by omega,hrows.same up⟩ ⟨hL,by omega,by omega,by have:=hMa0.bl;omega,fun ws hws=>⟨(hW ws hws).1,fun x hx=>by rw [hWn];exact (hW ws hws).2 x hx⟩⟩ (by omega)
theorem c_D:a_r ["_law_script","_law_letters_here","_law_ways","_law_room"] ["_law_script","_law_letters_here"] (a_d b_N):=⟨rfl,rfl,rfl,by decide +kernel,rfl,by decide +kernel,by decide +kernel⟩
theorem ok__law_lots (F:Fun K "_law_lots" "_law_lots" b_N f fd) (T:Txt K mg) (d__law_marks:Df P w K mg base "_law_marks" 2 ["_law_script","_law_rooms"] (c_n K)):FnOk P w K mg base CX0 3 f fd ["_law_script","_law_letters_here"] (c_k K):=by
 refine F.ok c_D (fun vs H Q E h=>?_) (fun cdv A outer s H vs Q E hr h=>?_)
 ·obtain ⟨a,ns,L,rfl,_⟩:=h
  rfl
 ·obtain ⟨a,ns,L,rfl,hS,hL,q⟩:=h
  have hz:(tx L).length≤sizeLine:=a_g (by rw [a_s];exact Nat.le_trans hL.hi (by decide))
  have b3:(3:Nat)≤sizeLine:=a_g (by show 3≤16777216;decide)
  have hL3:=hL.hi
  refine ⟨_,(a_b ((a_k (i:=2) c_D.nd rfl (Or.inl rfl) (b_l a_c))) (a_b ((b_s PassesOwn.never rfl (b_T rfl T.range (a_a (a_q a_P (b_l (a_a pe_int (a_a pe_int (a_a pe_int a_c)))) (a_y op_s (a_n a_F (by rfl) T.len PySem.boot_len (a_a (pv 1) a_c)) pe_int) (fun _ _=>rfl)) a_c)) (a_B (i:=3) c_D.nd rfl (Or.inr rfl)) ((a_e (a_X (b_V PySem.F.plainAttrs_list PySem.F.slot_list_append PySem.F.type_list_append a_u (pv 2) (a_a ((a_G a_o (by rfl) T.tuple PyProof.Rows.boot_tuple (a_a (b_r ["_law_script","_law_letters_here","_law_ways","_law_room"] rfl (by decide) (e_i (c_v sl_list (b_l (a_a pe_int (a_a pe_int (a_a pe_int a_c)))) d_B (c_G (a_n a_F (by rfl) T.len PySem.boot_len (a_a (pv 1) a_c))))) (fun cl C fp s' H'=>⟨b_E,a_y op_bor (pv 4) (pv 0)⟩)) a_c))) a_c))))))) (a_e (a_p (b_U (a_a (pv 1) (a_a (a_G a_o (by rfl) T.tuple PyProof.Rows.boot_tuple (a_a (pv 2) a_c)) (a_a (a_M d__law_marks hr (a_a (pv 0) (a_a ((a_n a_t (by rfl) T.len PySem.boot_len (a_a (pv 2) a_c))) a_c))) a_c)))))))),?_⟩
  obtain ⟨N,eN,n1,n2,hb⟩:=lots_n hL
  refine ⟨Nat.zero_le _,fun wa hwa=>?_⟩
  refine ⟨b3,fun l1 hl1=>⟨_,rfl,_,rfl,hz,_,_,rfl,rfl,l1,_,_,_,rfl,rfl,SqL.of upd_same,eN,_,rfl,by omega,by omega,?_⟩⟩
  have wl:wa≠l1:=fun z=>by rw [<- z,upd_same] at hl1;cases hl1
  have hl10:H l1=none:=by rw [upd_ne (Ne.symm wl)] at hl1;exact hl1
  refine c_q (n:=(N:Int).toNat) (fun i σ H'=>∃(rows:List Addr) (W:List (List Nat)) (s3:Option V),σ=[some (.ref a),some (.str (tx L)),some (.ref wa),s3]/\Same H H'/\H' wa=some (.lst (rows.map V.ref))/\rows.length=i/\W.length=i/\b_H H' rows W/\∀ws∈W,ws.length=L.length/\∀x∈ws,x<N) ⟨[],[],none,rfl,(Same.upd hwa).trans (Same.upd hl1),a_f upd_same hl1,rfl,rfl,fun i r e=>by simp at e,fun ws e=>by simp at e⟩ ?_ ?_
  ·rintro i σ H1 hi ⟨rows,W,s3,rfl,sm,h1,hrl,hWl,hrows,hW⟩
   have hin:i<N:=by omega
   refine ⟨_,rfl,.inl ⟨rfl,_,SqL.of h1⟩,?_⟩
   dsimp only [tRet,c_x,tNext,tSeq,tAsg,c_V,c_C,tBM,tCB]
   refine tComp_sq ⟨b3,fun l2 hl2=>⟨_,rfl,_,rfl,hz,_,rfl,l2,_,rfl,SqL.of upd_same,fun l3 hl3=>?_⟩⟩
   have ec:cutV [V.int 1,.int 2,.int 4] none (some ((tx L).length:Int))=intsV ([1,2,4].take L.length):=by
    rw [a_s,cutV_take (show L.length≤3 from hL3)]
    unfold intsV
    rw [List.map_take]
    rfl
   rw [ec]
   have s5:=(Same.upd (o:=.lst [.int 1,.int 2,.int 4]) hl2).trans (Same.upd (o:=.lst (intsV ([1,2,4].take L.length))) hl3)
   have e5:L2.upd (L2.upd H1 l2 (.lst [.int 1,.int 2,.int 4])) l3 (.lst (intsV ([1,2,4].take L.length))) l3=some (.lst (intsV ([1,2,4].take L.length))):=upd_same
   have bl:([1,2,4].take L.length).length=L.length:=by rw [List.length_take];show min L.length 3=_;omega
   generalize L2.upd (L2.upd H1 l2 (.lst [.int 1,.int 2,.int 4])) l3 (.lst (intsV ([1,2,4].take L.length)))=H5 at s5 e5
   refine c_y (a:=l3) (fun R h=>h) (.inl rfl) e5 (fun D j ys H'=>∃ws:List Nat,ys=intsV ws/\ws.length=j/\∀x∈ws,x<N) (by rw [intsV_len,bl];exact a_g (Nat.le_trans hL3 (by decide))) (fun D hD=>⟨[],rfl,rfl,fun x e=>by simp at e⟩) ?_ ?_
   ·intro D j x ys H' R1 R2 hD hx hsm hDl hp k1 k2
    obtain ⟨ws,rfl,hwl,hwn⟩:=hp
    have hj:j<([1,2,4].take L.length).length:=by have:=(List.getElem?_eq_some_iff.mp hx).1;rwa [intsV_len] at this
    rw [b_m hj] at hx
    cases hx
    obtain ⟨r,er,rn⟩:=hb i hin _ (getD_in (ws:=[1,2,4].take L.length) hj)
    refine tAlways_if ⟨_,rfl,_,rfl,_,_,rfl,rfl,?_⟩
    rw [Int.zero_add,er]
    exact k1 _ H' hDl (Same.set hsm hD) ⟨ws++[r],(b_D _ _).symm,by rw [List.length_append,hwl];rfl,fun z hz=>by
     rcases List.mem_append.mp hz with u | u
     ·exact hwn z u
     ·rw [List.mem_singleton.mp u];exact rn⟩
   ·intro D ys H' hD hsm hDl hp
    obtain ⟨ws,rfl,hwl,hwn⟩:=hp
    rw [intsV_len,bl] at hwl
    have a1:=(s5.trans hsm) _ _ h1
    have hr2:b_H H' rows W:=hrows.same (s5.trans hsm)
    refine ⟨D,_,rfl,.inl ⟨SqL.of hDl,fun tp htp=>?_⟩⟩
    obtain ⟨u1,u2,u3⟩:=d_A (ws:=ws) a1 hr2 (by rw [hrl,hWl]) htp
    refine ⟨wa,_,_,rfl,rfl,a_f a1 htp,by rw [List.length_map];exact a_I (by omega),rows++[tp],W++[ws],_,rfl,fun b o e=>u3 b o ((s5.trans hsm) _ _ (sm b o e)) (ne_of_none e hwa),u1,by rw [List.length_append,hrl];rfl,by rw [List.length_append,hWl];rfl,u2,fun v hv=>?_⟩
    rcases List.mem_append.mp hv with z | z
    ·exact hW v z
    ·rw [List.mem_singleton.mp z];exact ⟨hwl,hwn⟩
  ·rintro σ H1 ⟨rows,W,s3,rfl,sm,h1,hrl,hWl,hrows,hW⟩
   have hWn:W.length=N:=by omega
   refine ⟨_,rfl,_,rfl,wa,_,rfl,.inl ⟨SqL.of h1,fun tw htw=>?_⟩⟩
   have s2:=Same.upd (o:=.tup (rows.map V.ref)) htw
   have e2:L2.upd H1 tw (.tup (rows.map V.ref)) tw=some (.tup (rows.map V.ref)):=upd_same
   generalize L2.upd H1 tw (.tup (rows.map V.ref))=H2 at s2 e2
   refine ⟨_,rfl,_,rfl,wa,_,rfl,.inl (SqL.of (s2 _ _ h1)),a,ns,_,rfl,(sm.trans s2).seq hS,by rw [List.length_map];omega,fun mk B H3 s3 hmk hB=>⟨b3,fun m hm=>?_⟩⟩
   rw [List.length_map] at hB
   have up:=s3.trans (Same.upd (o:=.tup [.str (tx L),.ref tw,.ref mk]) hm)
   exact q m W B _ ((sm.trans s2).trans up) ⟨tw,mk,rows,upd_same,up _ _ e2,a_f hmk hm,by omega,hrows.same (s2.trans up)⟩ ⟨hL,by omega,by omega,by omega,fun ws hws=>⟨(hW ws hws).1,fun x hx=>by rw [hWn];exact (hW ws hws).2 x hx⟩⟩ (by omega)
theorem a_D:a_r ["_law_script","_law_letters_here","_law_size","_law_places","_law_labels","_law_ways","_law_at","_law_row","_law_sign","_law_label"] ["_law_script","_law_letters_here"] (a_d b_q):=⟨rfl,rfl,rfl,by decide +kernel,rfl,by decide +kernel,by decide +kernel⟩
theorem e_Q (F:Fun K "_law_memory" "_law_memory" b_q f fd) (T:Txt K mg) (d__law_cell_at:Df P w K mg base "_law_cell_at" 1 ["_law_script","_law_k"] (c_s K)) (d__law_marks:Df P w K mg base "_law_marks" 2 ["_law_script","_law_rooms"] (c_n K)):FnOk P w K mg base CX0 3 f fd ["_law_script","_law_letters_here"] (c_k K):=by
 refine F.ok a_D (fun vs H Q E h=>?_) (fun cdv A outer s H vs Q E hr h=>?_)
 ·obtain ⟨a,ns,L,rfl,_⟩:=h
  rfl
 ·obtain ⟨a,ns,L,rfl,hS,hL,q⟩:=h
  have hr1:=hr.mono (j:=1) (by decide)
  have hL1:=hL.lo
  have hL3:=hL.hi
  have hz:(tx L).length≤sizeLine:=a_g (by rw [a_s];exact Nat.le_trans hL3 (by decide))
  have b1:(1:Nat)≤sizeLine:=a_g (by show 1≤16777216;decide)
  have b3:(3:Nat)≤sizeLine:=a_g (by show 3≤16777216;decide)
  refine ⟨_,(a_b ((a_k (i:=2) a_D.nd rfl (Or.inl rfl) (a_y op_a pe_int (a_y op_m (a_M d__law_cell_at hr1 (a_a (pv 0) (a_a (pe_int) a_c))) (a_q a_P (b_l (a_a pe_int (a_a pe_int (a_a pe_int a_c)))) (a_y op_s (a_n a_F (by rfl) T.len PySem.boot_len (a_a (pv 1) a_c)) pe_int) (fun _ _=>rfl)))))) (c_Y ((a_k (i:=3) a_D.nd rfl (Or.inl rfl) (pe_xone b_G pe_int))) (a_b ((a_k (i:=4) a_D.nd rfl (Or.inl rfl) (b_l (a_a b_G a_c)))) (a_b ((a_k (i:=5) a_D.nd rfl (Or.inl rfl) (b_l a_c))) (a_b ((a_k (i:=6) a_D.nd rfl (Or.inl rfl) (pe_int))) (a_b ((f_G PassesOwn.never (a_C op_lt (pv 6) (a_n a_t (by rfl) T.len PySem.boot_len (a_a (pv 4) a_c)) (a_Q _)) (a_b ((a_k (i:=7) a_D.nd rfl (Or.inl rfl) (b_l a_c))) (a_b ((b_s PassesOwn.never rfl (d_J (pv 1)) (a_B (i:=8) a_D.nd rfl (Or.inl rfl)) ((a_b ((a_k (i:=9) a_D.nd rfl (Or.inl rfl) (c_v sl_str (a_y b_O (a_q a_P (pv 4) (pv 6) (fun _ _=>rfl)) (pv 8)) (c_G (pe_un un_neg (pv 2))) d_B))) (c_Y ((b_v (a_C op_notinX (pv 9) (pv 3) (by with_unfolding_all rfl)) ((a_b (ps_asg (a_n a_t (by rfl) T.len PySem.boot_len (a_a (pv 4) a_c)) (pg_sub (pv 3) (pv 9) set_dictX)) (a_e (a_X (b_V PySem.F.plainAttrs_list PySem.F.slot_list_append PySem.F.type_list_append a_u (pv 4) (a_a (pv 9) a_c)))))) (a_E))) (a_e (a_X (b_V PySem.F.plainAttrs_list PySem.F.slot_list_append PySem.F.type_list_append a_u (pv 7) (a_a (a_q ix_dictX (pv 3) (pv 9) (fun _ _=>rfl)) a_c))))))))) (a_b (a_X (b_V PySem.F.plainAttrs_list PySem.F.slot_list_append PySem.F.type_list_append a_u (pv 5) (a_a ((a_G a_o (by rfl) T.tuple PyProof.Rows.boot_tuple (a_a (pv 7) a_c))) a_c))) (a_e ((a_k (i:=6) a_D.nd rfl (Or.inl rfl) (a_y op_a (pv 6) pe_int))))))))) (a_e (a_p (b_U (a_a (pv 1) (a_a (a_G a_o (by rfl) T.tuple PyProof.Rows.boot_tuple (a_a (pv 5) a_c)) (a_a (a_M d__law_marks hr (a_a (pv 0) (a_a ((a_n a_t (by rfl) T.len PySem.boot_len (a_a (pv 5) a_c))) a_c))) a_c)))))))))))),?_⟩
  obtain ⟨C,eC,c1,cs⟩:=mem_n hL
  refine ⟨_,rfl,a,ns,3,rfl,hS,by decide,fun z0=>⟨b3,fun l1 hl1=>⟨_,rfl,_,rfl,hz,_,_,rfl,rfl,l1,_,_,_,rfl,rfl,SqL.of upd_same,eC,_,_,rfl,rfl,by omega,_,_,rfl,rfl,?_⟩⟩⟩
  have sH:=Same.upd (o:=.lst [.int 6,.int 2,.int 1]) hl1
  generalize L2.upd H l1 (.lst [.int 6,.int 2,.int 1])=H9 at sH
  obtain ⟨n,en,n1,n2⟩:=g_a z0 1 C (by omega)
  have en':(1:Int)+z0 % (C:Int)=(n:Int):=en.symm
  rw [en']
  obtain ⟨s,rfl⟩:∃s,n=s+1:=⟨n - 1,by omega⟩
  have hU:(b_k L (s+1)).length≤7:=wordsU_le hL1 hL3 (by omega)
  refine ⟨fun σ' H'=>∃dd,σ'=[some (.ref a),some (.str (tx L)),some (.int ((s+1:Nat):Int)),some (.ref dd),none,none,none,none,none,none]/\Same H H'/\H dd=none/\H' dd=some (kdO (sK P w) dd (kvX [[]] 0)),?_,?_⟩
  ·intro dd hdd
   refine ⟨upd_same,_,rfl,dd,rfl,?_,b_t sH hdd,upd_same⟩
   rw [d_x]
   exact sH.trans (Same.upd hdd)
  rintro σ0 H0 ⟨dd,rfl,s0,hdd,hpd⟩
  refine ⟨b1,fun ll hll=>⟨Nat.zero_le _,fun wa hwa=>?_⟩⟩
  have lw:ll≠wa:=fun z=>by rw [<- z,upd_same] at hwa;cases hwa
  have hwa0:H0 wa=none:=by rw [upd_ne (Ne.symm lw)] at hwa;exact hwa
  have M0:MemI P w H (L2.upd (L2.upd H0 ll (.lst [.str (tx [])])) wa (.lst [])) dd ll wa L (s+1) 0 [[]] [] []:=
   { sm:=s0.trans ((Same.upd hll).trans (Same.upd hwa)),pd:=a_f (a_f hpd hll) hwa,lb:=a_f upd_same hwa,wy:=upd_same,nd:=by simp,wd:=fun v hv=>by rw [List.mem_singleton.mp hv];exact ⟨Nat.zero_le _,by simp⟩,rl:=rfl,wl:=rfl,ra:=fun i r e=>by simp at e,rb:=fun r hr=>by simp at hr,le:=Nat.zero_le _,ne:=by decide,d0:=hdd,l0:=b_t s0 hll,w0:=b_t s0 hwa0,lw:=lw }
  refine ⟨fun k σ' H'=>∃(at0:Nat) (ws W:List (List Nat)) (rows:List Addr) (s7 s8 s9:Option V),k=20 - at0/\σ'=[some (.ref a),some (.str (tx L)),some (.int ((s+1:Nat):Int)),some (.ref dd),some (.ref ll),some (.ref wa),some (.int (at0:Int)),s7,s8,s9]/\MemI P w H H' dd ll wa L (s+1) at0 ws rows W,⟨_,0,[[]],[],[],none,none,none,rfl,rfl,M0⟩,?_⟩
  rintro k σ' H1 ⟨at0,ws,W,rows,s7,s8,s9,rfl,rfl,M⟩
  have few:=M.few hU
  refine ⟨_,rfl,_,rfl,ll,_,rfl,.inl (SqL.of M.lb),_,_,rfl,rfl,_,rfl,ite3 (fun hlt=>?_) (fun hlt=>?_)⟩
  ·rw [wordsV,List.length_map] at hlt
   have hlt':at0<ws.length:=Int.ofNat_lt.mp hlt
   obtain ⟨v,hv⟩:∃v,ws[at0]?=some v:=⟨ws[at0],List.getElem?_eq_getElem hlt'⟩
   refine ⟨fun σ2 H2=>∃(ws W:List (List Nat)) (rows:List Addr) (s7 s8 s9:Option V),σ2=[some (.ref a),some (.str (tx L)),some (.int ((s+1:Nat):Int)),some (.ref dd),some (.ref ll),some (.ref wa),some (.int ((at0+1:Nat):Int)),s7,s8,s9]/\MemI P w H H2 dd ll wa L (s+1) (at0+1) ws rows W,?_,?_⟩
   ·rintro σ2 H2 ⟨ws2,W2,rows2,u7,u8,u9,rfl,M2⟩
    exact ⟨20 - (at0+1),by omega,at0+1,ws2,W2,rows2,u7,u8,u9,rfl,rfl,M2⟩
   refine ⟨Nat.zero_le _,fun rw hrw=>?_⟩
   have hrw0:H rw=none:=b_t M.sm hrw
   have nl:ll≠rw:=fun z=>by rw [<- z,M.lb] at hrw;cases hrw
   have nw:wa≠rw:=fun z=>by rw [<- z,M.wy] at hrw;cases hrw
   refine ⟨_,rfl,_,rfl,e_B (x:=tx L) (fun j σ2 H2=>∃(ws:List (List Nat)) (rs:List Nat) (s8 s9:Option V),σ2=[some (.ref a),some (.str (tx L)),some (.int ((s+1:Nat):Int)),some (.ref dd),some (.ref ll),some (.ref wa),some (.int (at0:Int)),some (.ref rw),s8,s9]/\MemI P w H H2 dd ll wa L (s+1) at0 ws rows W/\H2 rw=some (.lst (intsV rs))/\rs.length=j/\(∀x∈rs,x<ws.length)/\ws[at0]?=some v) ⟨ws,[],_,_,rfl,M.keep (Same.upd hrw),upd_same,rfl,(fun x hx=>by simp at hx),hv⟩ ?_ ?_⟩
   ·rintro j c σ2 H2 hc ⟨ws2,rs,u8,u9,rfl,M2,hr2,hrl,hrb,hv2⟩
    have few2:=M2.few hU
    have hcL:c∈L:=by
     have:=List.mem_of_getElem? (show (tx L).cps.toList[j]?=some c by rw [Array.getElem?_toList];exact hc)
     rwa [b_w] at this
    have hj:j<L.length:=by
     have:=(List.getElem?_eq_some_iff.mp (show (tx L).cps.toList[j]?=some c by rw [Array.getElem?_toList];exact hc)).1
     rwa [b_w] at this
    obtain ⟨vl,vc⟩:=M2.wd v (List.mem_of_getElem? hv2)
    have s7:s≤5:=by omega
    have gv:atI (wordsV ws2) (at0:Int)=some (.str (tx v)):=a_l (by rw [wordsV,List.getElem?_map,hv2];rfl)
    have e1:(⟨#[c]⟩:Str)=tx [c]:=rfl
    refine ⟨_,rfl,_,rfl,ll,_,_,_,rfl,rfl,SqL.of M2.lb,gv,_,rfl,_,_,rfl,rfl,?_,_,rfl,_,rfl,_,rfl,_,rfl,?_,?_⟩
    ·rw [e1,a_s,a_s]
     exact a_g (by simp;omega)
    ·rw [e1,d_g,a_s]
     exact a_g (by simp;omega)
    rw [e1,d_g,slice_last,b_w]
    have hu1:((v++[c]).drop ((v++[c]).length - (s+1))).length≤s+1:=by rw [List.length_drop];omega
    have hu2:∀d∈(v++[c]).drop ((v++[c]).length - (s+1)),d∈L:=fun d hd=>(List.mem_append.mp (List.mem_of_mem_drop hd)).elim (vc d) fun z=>by rw [List.mem_singleton.mp z];exact hcL
    generalize (v++[c]).drop ((v++[c]).length - (s+1))=u at hu1 hu2
    refine ⟨fun σ3 H3=>∃ws3:List (List Nat),σ3=[some (.ref a),some (.str (tx L)),some (.int ((s+1:Nat):Int)),some (.ref dd),some (.ref ll),some (.ref wa),some (.int (at0:Int)),some (.ref rw),some (.str ⟨#[c]⟩),some (.str (tx u))]/\MemI P w H H3 dd ll wa L (s+1) at0 ws3 rows W/\H3 rw=some (.lst (intsV rs))/\(∀x∈rs,x<ws3.length)/\ws3[at0]?=some v/\u∈ws3,?_,?_⟩
    ·refine ⟨_,rfl,_,rfl,dd,_,_,rfl,rfl,M2.pd,_,rfl,?_⟩
     rw [f_S]
     by_cases hm:u∈ws2
     ·rw [(ix_get hm).1]
      exact iteF ⟨ws2,rfl,M2,hr2,hrb,hv2,hm⟩
     ·rw [show ixO ws2 u=none from if_neg hm]
      refine iteT ⟨_,rfl,ll,_,rfl,.inl (SqL.of M2.lb),_,rfl,_,rfl,dd,_,_,rfl,rfl,M2.pd,by rw [f_S,show ixO ws2 u=none from if_neg hm];rfl,by rw [kvX_len];exact a_I (by omega),?_⟩
      have ek:kvX ws2 0++[(tx u,V.int ((wordsV ws2).length:Int))]=kvX (ws2++[u]) 0:=by rw [kvX_snoc,Nat.zero_add,wordsV,List.length_map]
      rw [ek]
      have dl:dd≠ll:=ne_of M2.pd M2.lb (by intro z;unfold kdO at z;cases z)
      have dr:rw≠dd:=Ne.symm (ne_of M2.pd hr2 (by intro z;unfold kdO at z;cases z))
      have lb2:L2.upd H2 dd (kdO (sK P w) dd (kvX (ws2++[u]) 0)) ll=some (.lst (wordsV ws2)):=by rw [upd_ne (Ne.symm dl)];exact M2.lb
      refine ⟨_,rfl,.inl ⟨rfl,_,SqL.of lb2⟩,_,rfl,ll,_,_,rfl,rfl,lb2,by rw [wordsV,List.length_map];exact a_I (by omega),?_⟩
      have ew:wordsV ws2++[V.str (tx u)]=wordsV (ws2++[u]):=by rw [wordsV,wordsV,List.map_append];rfl
      rw [ew]
      exact ⟨ws2++[u],rfl,M2.add hm hu1 hu2,by rw [upd_ne (Ne.symm nl),upd_ne dr];exact hr2,fun x hx=>by rw [List.length_append];exact Nat.lt_of_lt_of_le (hrb x hx) (Nat.le_add_right _ _),d_I hv2,by simp⟩
    rintro σ3 H3 ⟨ws3,rfl,M3,hr3,hrb3,hv3,hu3⟩
    have few3:=M3.few hU
    have il:ws3.idxOf u<ws3.length:=List.idxOf_lt_length_of_mem hu3
    refine ⟨_,rfl,.inl ⟨rfl,_,SqL.of hr3⟩,_,rfl,_,rfl,dd,_,_,_,rfl,rfl,M3.pd,by rw [f_S,(ix_get hu3).1];rfl,rw,_,_,rfl,rfl,hr3,by rw [intsV_len];exact a_I (by omega),ws3,rs++[ws3.idxOf u],_,_,rfl,M3.other hrw0 hr3 nl nw,?_,by rw [List.length_append,hrl];rfl,fun x hx=>?_,hv3⟩
    ·rw [upd_same,<- b_D,Nat.zero_add]
    ·rcases List.mem_append.mp hx with z | z
     ·exact hrb3 x z
     ·rw [List.mem_singleton.mp z];exact il
   ·rintro σ2 H2 ⟨ws2,rs,u8,u9,rfl,M2,hr2,hrl,hrb,hv2⟩
    have few2:=M2.few hU
    have hrl':rs.length=L.length:=by rw [hrl,a_s]
    have a2:at0<ws2.length:=(List.getElem?_eq_some_iff.mp hv2).1
    have rl7:=M2.rl
    refine ⟨_,rfl,.inl ⟨rfl,_,SqL.of M2.wy⟩,_,rfl,rw,_,rfl,.inl ⟨SqL.of hr2,fun tp htp=>?_⟩⟩
    have M3:=M2.keep (Same.upd (o:=.tup (intsV rs)) htp)
    obtain ⟨u1,u2,u3⟩:=d_A (ws:=rs) M2.wy M2.ra (by rw [M2.rl,M2.wl]) htp
    have wt:tp≠wa:=fun z=>by rw [z,M2.wy] at htp;cases htp
    refine ⟨wa,_,_,rfl,rfl,a_f M2.wy htp,by rw [List.length_map,M2.rl];exact a_I (by omega),_,rfl,_,_,rfl,rfl,ws2,W++[rs],rows++[tp],_,_,_,rfl,?_⟩
    exact { M3 with sm:=Same.set M3.sm M2.w0,pd:=a_S M3.pd M3.wy (by intro z;unfold kdO at z;cases z),lb:=by rw [upd_ne M2.lw];exact M3.lb,wy:=u1,rl:=by rw [List.length_append,M2.rl];rfl,wl:=by rw [List.length_append,M2.wl];rfl,ra:=u2,rb:=(fun r hr=>(List.mem_append.mp hr).elim (M2.rb r) fun z=>by rw [List.mem_singleton.mp z];exact ⟨hrl',hrb⟩),le:=a2 }
  ·rw [wordsV,List.length_map] at hlt
   have ea:at0=ws.length:=Nat.le_antisymm M.le (Nat.le_of_not_lt fun z=>hlt (Int.ofNat_lt.mpr z))
   have n0:=M.ne
   refine ⟨_,rfl,_,rfl,wa,_,rfl,.inl ⟨SqL.of M.wy,fun tw htw=>?_⟩⟩
   have s2:=Same.upd (o:=.tup (rows.map V.ref)) htw
   have e2:L2.upd H1 tw (.tup (rows.map V.ref)) tw=some (.tup (rows.map V.ref)):=upd_same
   generalize L2.upd H1 tw (.tup (rows.map V.ref))=H2 at s2 e2
   have rl:=M.rl
   have wl:=M.wl
   refine ⟨_,rfl,_,rfl,wa,_,rfl,.inl (SqL.of (s2 _ _ M.wy)),a,ns,_,rfl,(M.sm.trans s2).seq hS,by rw [List.length_map];omega,fun mk B H3 s3 hmk hB=>⟨b3,fun m hm=>?_⟩⟩
   rw [List.length_map] at hB
   have up:=s3.trans (Same.upd (o:=.tup [.str (tx L),.ref tw,.ref mk]) hm)
   exact q m W B _ ((M.sm.trans s2).trans up) ⟨tw,mk,rows,upd_same,up _ _ e2,a_f hmk hm,by omega,M.ra.same (s2.trans up)⟩ ⟨hL,by omega,by omega,by omega,fun r hr=>⟨(M.rb r hr).1,fun x hx=>by have:=(M.rb r hr).2 x hx;omega⟩⟩ (by omega)
theorem a_i:a_r ["_law_script","_law_letters_here","_law_number","_law_left","_law_rows","_law_tuples","_law_sign","_law_size","_law_low","_law_longer","_law_some","_law_ways","_law_row","_law_k","_law_many"] ["_law_script","_law_letters_here"] (a_d b_d):=⟨rfl,rfl,rfl,by decide +kernel,rfl,by decide +kernel,by decide +kernel⟩
theorem e_l (F:Fun K "_law_tallied" "_law_tallied" b_d f fd) (T:Txt K mg) (d__law_cell_at:Df P w K mg base "_law_cell_at" 1 ["_law_script","_law_k"] (c_s K)) (d__law_marks:Df P w K mg base "_law_marks" 2 ["_law_script","_law_rooms"] (c_n K)):FnOk P w K mg base CX0 3 f fd ["_law_script","_law_letters_here"] (c_k K):=by
 refine F.ok a_i (fun vs H Q E h=>?_) (fun cdv A outer s H vs Q E hr h=>?_)
 ·obtain ⟨a,ns,L,rfl,_⟩:=h
  rfl
 ·obtain ⟨a,ns,L,rfl,hS,hL,q⟩:=h
  have hr1:=hr.mono (j:=1) (by decide)
  have hL1:=hL.lo
  have hL3:=hL.hi
  have hz:(tx L).length≤sizeLine:=a_g (by rw [a_s];exact Nat.le_trans hL3 (by decide))
  have b1:(1:Nat)≤sizeLine:=a_g (by show 1≤16777216;decide)
  have b2:(2:Nat)≤sizeLine:=a_g (by show 2≤16777216;decide)
  have b3:(3:Nat)≤sizeLine:=a_g (by show 3≤16777216;decide)
  refine ⟨_,(a_b ((a_k (i:=2) a_i.nd rfl (Or.inl rfl) (a_y op_m (a_M d__law_cell_at hr1 (a_a (pv 0) (a_a (pe_int) a_c))) (a_y op_pow pe_int pe_int)))) (a_b ((a_k (i:=3) a_i.nd rfl (Or.inl rfl) (pe_int))) (a_b ((a_k (i:=4) a_i.nd rfl (Or.inl rfl) (b_l a_c))) (a_b ((a_k (i:=5) a_i.nd rfl (Or.inl rfl) (b_l (a_a (b_U a_c) a_c)))) (a_b ((b_s PassesOwn.never rfl (d_J (pv 1)) (a_B (i:=6) a_i.nd rfl (Or.inl rfl)) ((a_b ((a_k (i:=7) a_i.nd rfl (Or.inl rfl) (a_y op_a pe_int (a_y op_m (pv 2) (pv 3))))) (a_b ((a_k (i:=8) a_i.nd rfl (Or.inl rfl) (a_y d_D (a_y op_f (pv 2) pe_int) (pv 7)))) (a_b ((a_k (i:=2) a_i.nd rfl (Or.inl rfl) (a_y op_f (pv 2) pe_int))) (a_b ((a_k (i:=3) a_i.nd rfl (Or.inl rfl) (a_y op_f (pv 3) (pv 7)))) (a_b (a_X (b_V PySem.F.plainAttrs_list PySem.F.slot_list_append PySem.F.type_list_append a_u (pv 4) (a_a (b_U (a_a (pv 8) (a_a (pv 7) a_c))) a_c))) (a_b ((a_k (i:=9) a_i.nd rfl (Or.inl rfl) (b_l a_c))) (a_b ((b_s PassesOwn.never rfl (d_C (pv 5)) (a_B (i:=10) a_i.nd rfl (Or.inr rfl)) ((a_e ((a_k (i:=9) a_i.nd rfl (Or.inl rfl) (a_y op_cat (pv 9) (b_r ["_law_script","_law_letters_here","_law_number","_law_left","_law_rows","_law_tuples","_law_sign","_law_size","_law_low","_law_longer","_law_some","_law_ways","_law_row","_law_k","?"] rfl (by decide) (b_T rfl T.range (a_a (pv 7) a_c)) (fun cl C fp s' H'=>⟨b_E,a_y op_catV (pv 11) (b_U (a_a (pv 0) a_c))⟩))))))))) (a_e ((a_k (i:=5) a_i.nd rfl (Or.inl rfl) (pv 9)))))))))))))) (a_b ((a_k (i:=11) a_i.nd rfl (Or.inl rfl) (b_l a_c))) (a_b ((b_s PassesOwn.never rfl (d_C (pv 5)) (a_B (i:=10) a_i.nd rfl (Or.inr rfl)) ((a_b ((a_k (i:=12) a_i.nd rfl (Or.inl rfl) (b_l a_c))) (a_b ((b_s PassesOwn.never rfl (b_T rfl T.range (a_a (a_n a_F (by rfl) T.len PySem.boot_len (a_a (pv 1) a_c)) a_c)) (a_B (i:=13) a_i.nd rfl (Or.inl rfl)) ((a_b ((a_k (i:=14) a_i.nd rfl (Or.inl rfl) (a_y op_a (a_q a_w (pv 10) (pv 13) (fun _ _=>rfl)) pe_int))) (c_Y ((b_v (a_C op_eq (pv 14) (a_q a_w (a_q a_P (pv 4) (pv 13) (fun _ _=>rfl)) pe_int (fun _ _=>rfl)) (a_Q _)) ((a_e ((a_k (i:=14) a_i.nd rfl (Or.inl rfl) ((a_q a_w (a_q a_P (pv 4) (pv 13) (fun _ _=>rfl)) pe_int (fun _ _=>rfl))))))) (a_E))) (a_e (a_X (b_V PySem.F.plainAttrs_list PySem.F.slot_list_append PySem.F.type_list_append a_u (pv 12) (a_a ((b_V PySem.F.plainAttrs_list PySem.F.slot_list_index PySem.F.type_list_index (mt_indexT hr.units) (pv 5) (a_a (a_y op_catV (a_y op_catV (c_v sl_tup (pv 10) d_B (c_G (pv 13))) (b_U (a_a (pv 14) a_c))) (c_v sl_tup (pv 10) (c_G (a_y op_a (pv 13) pe_int)) d_B)) a_c))) a_c))))))))) (a_e (a_X (b_V PySem.F.plainAttrs_list PySem.F.slot_list_append PySem.F.type_list_append a_u (pv 11) (a_a ((a_G a_o (by rfl) T.tuple PyProof.Rows.boot_tuple (a_a (pv 12) a_c))) a_c))))))))) (a_e (a_p (b_U (a_a (pv 1) (a_a (a_G a_o (by rfl) T.tuple PyProof.Rows.boot_tuple (a_a (pv 11) a_c)) (a_a (a_M d__law_marks hr (a_a (pv 0) (a_a ((a_n a_t (by rfl) T.len PySem.boot_len (a_a (pv 11) a_c))) a_c))) a_c))))))))))))),?_⟩
  refine ⟨_,rfl,a,ns,3,rfl,hS,by decide,fun z0=>⟨_,_,rfl,rfl,⟨by decide,by decide,by decide⟩,_,_,rfl,rfl,by decide,?_⟩⟩
  have z00:0≤z0 % 10 ^ Int.toNat 9:=Int.emod_nonneg _ (by decide)
  generalize z0 % 10 ^ Int.toNat 9=num0 at z00
  refine ⟨Nat.zero_le _,fun rl hrl=>⟨Nat.zero_le _,fun et het=>⟨b1,fun tl0 htl0=>?_⟩⟩⟩
  have rt:rl≠tl0:=fun z=>by rw [<- z,a_f upd_same het] at htl0;cases htl0
  have I0:TalI H (L2.upd (L2.upd (L2.upd H rl (.lst [])) et (.tup [])) tl0 (.lst [.ref et])) rl tl0 [] [[]] [] [] [.ref et]:=
   { sm:=((Same.upd hrl).trans (Same.upd het)).trans (Same.upd htl0),r0:=hrl,hr:=a_f (a_f upd_same het) htl0,rn:=rfl,ll:=rfl,rr:=fun i r e=>by simp at e,lo:=fun i hi=>absurd hi (Nat.not_lt_zero _),ht:=upd_same,th:=⟨rfl,fun i k v e1 e2=>by
     match i,e1,e2 with
     | 0,e1,e2=>cases e1;cases e2;exact thT (a_f upd_same htl0)⟩,ta:=Tal.nil,ne:=by decide,tr:=Ne.symm rt }
  generalize L2.upd (L2.upd (L2.upd H rl (.lst [])) et (.tup [])) tl0 (.lst [.ref et])=H1 at I0
  refine ⟨_,rfl,_,rfl,e_B (x:=tx L) (fun j σ' H'=>∃(num:Int) (left:Nat) (tl:Addr) (rws:List Addr) (ts:List (List Nat)) (S lows:List Nat) (vs:List V) (s6 s7 s8 s9 s10:Option V),σ'=[some (.ref a),some (.str (tx L)),some (.int num),some (.int (left:Int)),some (.ref rl),some (.ref tl),s6,s7,s8,s9,s10,none,none,none,none]/\0≤num/\1≤left/\left≤8/\ts.length * left≤8/\S.length=j/\TalI H H' rl tl rws ts S lows vs) ⟨num0,8,tl0,[],[[]],[],[],_,_,_,_,_,_,rfl,z00,by decide,by decide,by decide,rfl,I0⟩ ?_ ?_⟩
  ·rintro j c σ2 H2 hc ⟨num,left,tl,rws,ts,S,lows,vs,s6,s7,s8,s9,s10,rfl,hn0,hl1,hl8,hpr,hSj,M⟩
   have hj3:j<3:=by
    have:=(List.getElem?_eq_some_iff.mp (show (tx L).cps.toList[j]?=some c by rw [Array.getElem?_toList];exact hc)).1
    rw [b_w] at this
    omega
   have ts8:ts.length≤8:=Nat.le_trans (Nat.le_mul_of_pos_right _ hl1) hpr
   refine ⟨_,rfl,_,rfl,_,_,rfl,rfl,by omega,_,_,rfl,rfl,?_⟩
   obtain ⟨sz,es,sz1,sz2⟩:=g_a num 1 left hl1
   have es':(1:Int)+num % (left:Int)=(sz:Int):=es.symm
   rw [es']
   have szl:sz≤left:=by omega
   refine ⟨_,rfl,_,_,rfl,rfl,⟨by decide,by decide⟩,_,rfl,_,_,rfl,rfl,by omega,fun r hr0 hr1=>?_⟩
   obtain ⟨lw,rfl⟩:=Int.eq_ofNat_of_zero_le hr0
   have lws:lw<sz:=Int.ofNat_lt.mp hr1
   refine ⟨_,rfl,_,_,rfl,rfl,⟨by decide,by decide⟩,?_⟩
   refine ⟨_,rfl,_,rfl,_,_,rfl,rfl,⟨by omega,by omega⟩,?_⟩
   have ed:(left:Int) / (sz:Int)=((left / sz:Nat):Int):=(Int.natCast_ediv left sz).symm
   rw [ed]
   have n64:0≤num / 64:=Int.ediv_nonneg hn0 (by decide)
   generalize num / 64=num2 at n64
   have lf1:1≤left / sz:=(Nat.le_div_iff_mul_le (by omega)).mpr (by omega)
   have lf8:left / sz≤8:=Nat.le_trans (Nat.div_le_self _ _) hl8
   have pr2:ts.length * sz * (left / sz)≤8:=by
    rw [Nat.mul_assoc]
    exact Nat.le_trans (Nat.mul_le_mul_left _ (Nat.mul_div_le left sz)) hpr
   refine ⟨_,rfl,.inl ⟨rfl,_,SqL.of M.hr⟩,_,rfl,_,rfl,b2,fun tp htp=>?_⟩
   have M2:=M.keep (Same.upd (o:=.tup [.int (lw:Int),.int (sz:Int)]) htp)
   have e2:L2.upd H2 tp (.tup [.int (lw:Int),.int (sz:Int)]) tp=some (.tup [.int (lw:Int),.int (sz:Int)]):=upd_same
   generalize L2.upd H2 tp (.tup [.int (lw:Int),.int (sz:Int)])=H3 at M2 e2
   have rn:=M2.rn
   refine ⟨rl,_,_,rfl,rfl,M2.hr,by rw [List.length_map];exact a_I (by omega),?_⟩
   have ktup:∀b xs,H3 b=some (.tup xs)->L2.upd H3 rl (.lst (rws.map V.ref++[.ref tp])) b=some (.tup xs):=fun b xs e=>a_S e M2.hr (by intro z;cases z)
   have M3:TalI H (L2.upd H3 rl (.lst (rws.map V.ref++[.ref tp]))) rl tl (rws++[tp]) ts S lows vs\/True:=.inr trivial
   have s3:Same H (L2.upd H3 rl (.lst (rws.map V.ref++[.ref tp]))):=Same.set M2.sm M2.r0
   have hr3:L2.upd H3 rl (.lst (rws.map V.ref++[.ref tp])) rl=some (.lst ((rws++[tp]).map V.ref)):=by rw [upd_same,List.map_append];rfl
   have ht3:L2.upd H3 rl (.lst (rws.map V.ref++[.ref tp])) tl=some (.lst vs):=by rw [upd_ne M2.tr];exact M2.ht
   have th3:c_K .t (L2.upd H3 rl (.lst (rws.map V.ref++[.ref tp]))) ts vs:=M2.th.same ktup
   have rr3:∀(i:Nat) (r:Addr),(rws++[tp])[i]?=some r->L2.upd H3 rl (.lst (rws.map V.ref++[.ref tp])) r=some (.tup [.int (((lows++[lw]).getD i 0:Nat):Int),.int (((S++[sz]).getD i 0:Nat):Int)]):=fun i r e=>by
    rcases c_f e with z | ⟨rfl,rfl⟩
    ·have hi:i<S.length:=by rw [<- rn];exact (List.getElem?_eq_some_iff.mp z).1
     rw [d_t (by rw [M2.ll];exact hi),d_t hi]
     exact ktup _ _ (M2.rr i r z)
    ·have x1:(lows++[lw]).getD rws.length 0=lw:=by rw [show rws.length=lows.length by rw [rn,M2.ll]];exact d_s
     have x2:(S++[sz]).getD rws.length 0=sz:=by rw [rn];exact d_s
     rw [x1,x2]
     exact ktup _ _ e2
   generalize L2.upd H3 rl (.lst (rws.map V.ref++[.ref tp]))=H4 at s3 hr3 ht3 th3 rr3
   clear M3 ktup
   refine ⟨Nat.zero_le _,fun lg0 hlg0=>?_⟩
   have s45:Same H4 (L2.upd H4 lg0 (.lst [])):=Same.upd hlg0
   refine ⟨_,rfl,tl,rfl,⟨_,SqL.of (s45 _ _ ht3)⟩,c_T (K:=K) (a:=tl) (xs:=vs) (fun i σ' H'=>∃(lg:Addr) (vs2:List V) (s10:Option V),σ'=[some (.ref a),some (.str (tx L)),some (.int num2),some (.int ((left / sz:Nat):Int)),some (.ref rl),some (.ref tl),some (.str ⟨#[c]⟩),some (.int (sz:Int)),some (.int (lw:Int)),some (.ref lg),s10,none,none,none,none]/\Same H4 H'/\H4 lg=none/\H' lg=some (.lst vs2)/\c_K .t H' (d_n (ts.take i) sz) vs2) ⟨lg0,[],_,rfl,s45,hlg0,upd_same,rfl,fun i k v e=>by simp [d_n] at e⟩ ?_ ?_ ?_⟩
   ·rintro i σ' H' hi ⟨_,_,_,rfl,sm,_⟩
    exact SqL.of (sm _ _ ht3)
   ·rintro i x σ' H5 hx ⟨lg,vs2,u10,rfl,sm5,hlg4,hlg,hth5⟩
    have hi:i<ts.length:=by rw [<- th3.1];exact (List.getElem?_eq_some_iff.mp hx).1
    obtain ⟨t,hti⟩:∃t,ts[i]?=some t:=⟨ts[i],List.getElem?_eq_getElem hi⟩
    obtain ⟨bt,rfl,hbt⟩:=thT' (th3.2 i t x hti hx)
    have tlen:t.length=S.length:=((M.ta.mem t).mp (List.mem_of_getElem? hti)).1
    have nl:(d_n (ts.take i) sz).length≤64:=by
     rw [e_t,List.length_take]
     exact Nat.le_trans (Nat.mul_le_mul (show min i ts.length≤8 by omega) (show sz≤8 by omega)) (by decide)
    have vl:vs2.length=(d_n (ts.take i) sz).length:=hth5.1
    refine ⟨_,rfl,?_⟩
    dsimp only [tRet,c_x,tNext,tSeq,tAsg,c_V,c_C,tBM,tCB,tOp]
    refine e_F (n:=sz) (fun R h=>⟨_,rfl,h⟩) (by omega) (fun D m ys H'=>c_K .t H' ((List.range m).map fun m=>t++[m]) ys) (fun D hD=>⟨rfl,fun i k v e=>by simp at e⟩) ?_ ?_
    ·intro D m ys H6 R1 R2 hD hm hsm hDl hp k1 k2
     refine tAlways_if ⟨_,rfl,_,rfl,b1,fun tb htb=>?_⟩
     have s67:=Same.upd (o:=.tup [.int (0+(m:Int))]) htb
     have e7:L2.upd H6 tb (.tup [.int (0+(m:Int))]) tb=some (.tup (intsV [m])):=by rw [upd_same,Int.zero_add];rfl
     refine ⟨bt,tb,_,_,rfl,rfl,(sm5.trans (hsm.trans s67)) _ _ hbt,e7,a_g (by rw [intsV_len,intsV_len];simp;omega),fun p H8 s8 hp8=>?_⟩
     have s68:=s67.trans s8
     have hD8:=s68 _ _ hDl
     have e8:intsV t++intsV [m]=intsV (t++[m]):=by unfold intsV;rw [List.map_append]
     rw [e8] at hp8
     refine k1 (.ref p) H8 hD8 (Same.set (hsm.trans s68) hD) ?_
     have kt:∀b xs,H8 b=some (.tup xs)->L2.upd H8 D (.lst (ys++[.ref p])) b=some (.tup xs):=fun b xs e=>a_S e hD8 (by intro z;cases z)
     rw [List.range_succ,List.map_append]
     exact c_K.snoc (hp.same fun b xs e=>kt b xs (s68 b _ e)) (thT (kt _ _ hp8))
    ·intro D ys H6 hD hsm hDl hp
     have hyl:ys.length=sz:=by rw [hp.1,List.length_map,List.length_range]
     refine ⟨lg,D,_,_,rfl,rfl,hsm _ _ hlg,hDl,a_g (by omega),fun p hp'=>?_⟩
     have s7:=Same.upd (o:=.lst (vs2++ys)) hp'
     refine ⟨p,vs2++ys,_,rfl,(sm5.trans hsm).trans s7,b_t (sm5.trans hsm) hp',upd_same,?_⟩
     have et:d_n (ts.take (i+1)) sz=d_n (ts.take i) sz++(List.range sz).map fun m=>t++[m]:=by
      unfold d_n
      rw [a_T hti,List.flatMap_append]
      simp
     rw [et]
     have h1:c_K .t (L2.upd H6 p (.lst (vs2++ys))) (d_n (ts.take i) sz) vs2:=hth5.same fun b xs e=>s7 _ _ (hsm _ _ e)
     have h2:c_K .t (L2.upd H6 p (.lst (vs2++ys))) ((List.range sz).map fun m=>t++[m]) ys:=hp.same fun b xs e=>s7 _ _ e
     refine ⟨by rw [List.length_append,List.length_append,h1.1,h2.1],fun k0 kk v e3 e4=>?_⟩
     by_cases z:k0<vs2.length
     ·rw [List.getElem?_append_left (by rw [<- h1.1];exact z)] at e3
      rw [List.getElem?_append_left z] at e4
      exact h1.2 k0 kk v e3 e4
     ·rw [List.getElem?_append_right (by rw [<- h1.1];omega),<- h1.1] at e3
      rw [List.getElem?_append_right (by omega)] at e4
      exact h2.2 _ kk v e3 e4
   ·rintro σ' H5 ⟨lg,vs2,u10,rfl,sm5,hlg4,hlg,hth5⟩
    rw [th3.1,List.take_length] at hth5
    have lo3:∀i,i<(S++[sz]).length->(lows++[lw]).getD i 0<(S++[sz]).getD i 0:=fun i hi=>by
     by_cases z:i<S.length
     ·rw [d_t (by rw [M2.ll];exact z),d_t z];exact M2.lo i z
     ·have hi2:i=S.length:=by rw [List.length_append] at hi;simp at hi;omega
      rw [hi2]
      have x1:(lows++[lw]).getD S.length 0=lw:=by rw [<- M2.ll];exact d_s
      have x2:(S++[sz]).getD S.length 0=sz:=d_s
      rw [x1,x2]
      exact lws
    refine ⟨_,rfl,num2,left / sz,lg,rws++[tp],d_n ts sz,S++[sz],lows++[lw],vs2,_,_,_,_,_,rfl,n64,lf1,lf8,by rw [e_t];exact pr2,by rw [List.length_append,hSj];rfl,?_⟩
    exact { sm:=s3.trans sm5,r0:=M2.r0,hr:=sm5 _ _ hr3,rn:=by rw [List.length_append,List.length_append,rn];rfl,ll:=by rw [List.length_append,List.length_append,M2.ll];rfl,rr:=fun i r e=>sm5 _ _ (rr3 i r e),lo:=lo3,ht:=hlg,th:=hth5,ta:=M2.ta.next sz,ne:=by rw [e_t];exact Nat.mul_pos M2.ne (by omega),tr:=fun z=>by rw [z,hr3] at hlg4;cases hlg4 }
  ·rintro σ2 H2 ⟨num,left,tl,rws,ts,S,lows,vs,s6,s7,s8,s9,s10,rfl,hn0,hl1,hl8,hpr,hSj,M⟩
   rw [a_s] at hSj
   have ts8:ts.length≤8:=Nat.le_trans (Nat.le_mul_of_pos_right _ hl1) hpr
   refine ⟨Nat.zero_le _,fun wa hwa=>?_⟩
   have N:=M.keep (Same.upd (o:=.lst []) hwa)
   refine ⟨_,rfl,tl,rfl,⟨_,SqL.of N.ht⟩,c_T (K:=K) (a:=tl) (xs:=vs) (fun i σ H'=>∃(rows:List Addr) (W:List (List Nat)) (s10 s12 s13 s14:Option V),σ=[some (.ref a),some (.str (tx L)),some (.int num),some (.int (left:Int)),some (.ref rl),some (.ref tl),s6,s7,s8,s9,s10,some (.ref wa),s12,s13,s14]/\Same H2 H'/\H' wa=some (.lst (rows.map V.ref))/\rows.length=i/\W.length=i/\b_H H' rows W/\∀ws∈W,ws.length=L.length/\∀x∈ws,x<ts.length) ⟨[],[],_,_,_,_,rfl,Same.upd hwa,upd_same,rfl,rfl,(fun i r e=>by simp at e),fun ws e=>by simp at e⟩ ?_ ?_ ?_⟩
   ·rintro i σ' H' hi ⟨_,_,_,_,_,_,rfl,sm,_⟩
    exact SqL.of (sm _ _ M.ht)
   ·rintro i x σ' H3 hx ⟨rows,W,u10,u12,u13,u14,rfl,sm,h1,hrl,hWl,hrows,hW⟩
    have hi:i<ts.length:=by rw [<- M.th.1];exact (List.getElem?_eq_some_iff.mp hx).1
    obtain ⟨t,hti⟩:∃t,ts[i]?=some t:=⟨ts[i],List.getElem?_eq_getElem hi⟩
    have htm:=List.mem_of_getElem? hti
    obtain ⟨bt,rfl,hbt⟩:=thT' (M.th.2 i t x hti hx)
    obtain ⟨tlen,tb⟩:=(M.ta.mem t).mp htm
    refine ⟨Nat.zero_le _,fun rw hrw=>?_⟩
    have rwa:wa≠rw:=ne_of_none h1 hrw
    have hrw2:H2 rw=none:=b_t sm hrw
    refine ⟨_,rfl,_,rfl,hz,_,rfl,by rw [a_s];omega,by rw [a_s];omega,?_⟩
    refine c_q (n:=((tx L).length:Int).toNat) (fun k σ' H'=>∃(ws:List Nat) (s13 s14:Option V),σ'=[some (.ref a),some (.str (tx L)),some (.int num),some (.int (left:Int)),some (.ref rl),some (.ref tl),s6,s7,s8,s9,some (.ref bt),some (.ref wa),some (.ref rw),s13,s14]/\Same H3 H'/\H' rw=some (.lst (intsV ws))/\ws.length=k/\∀x∈ws,x<ts.length) ⟨[],_,_,rfl,Same.upd hrw,upd_same,rfl,fun x hx=>by simp at hx⟩ ?_ ?_
    ·rintro k σ4 H4 hk ⟨ws,v13,v14,rfl,s34,hr4,hwl,hwb⟩
     have hkS:k<S.length:=by rw [a_s] at hk;omega
     have zk:(0:Int)+(k:Int)=(k:Int):=Int.zero_add _
     have s24:=sm.trans s34
     have hbt4:=s24 _ _ hbt
     have gk:atI (intsV t) (0+(k:Int))=some (.int ((t.getD k 0:Nat):Int)):=by rw [zk];exact d_v (by rw [tlen];exact hkS)
     have hrk:k<rws.length:=by rw [M.rn];exact hkS
     have gr:atI (rws.map V.ref) (0+(k:Int))=some (.ref rws[k]):=by rw [zk];exact c_g V.ref (List.getElem?_eq_getElem hrk)
     have hrt:=s24 _ _ (M.rr k _ (List.getElem?_eq_getElem hrk))
     have hrl4:=s24 _ _ M.hr
     refine ⟨_,rfl,_,rfl,bt,_,_,_,rfl,rfl,SqT.of hbt4,gk,_,_,rfl,rfl,?_⟩
     refine ⟨fun σ5 H5=>∃m:Nat,σ5=[some (.ref a),some (.str (tx L)),some (.int num),some (.int (left:Int)),some (.ref rl),some (.ref tl),s6,s7,s8,s9,some (.ref bt),some (.ref wa),some (.ref rw),some (.int (0+(k:Int))),some (.int (m:Int))]/\H5=H4/\m<S.getD k 0,?_,?_⟩
     ·refine ⟨_,rfl,_,rfl,_,rfl,rl,_,_,_,rfl,rfl,SqL.of hrl4,gr,_,_,_,_,rfl,rfl,SqT.of hrt,a_l (j:=1) rfl,rfl,_,rfl,ite3 (fun e=>?_) (fun e=>?_)⟩
      ·exact ⟨_,rfl,_,rfl,rl,_,_,_,rfl,rfl,SqL.of hrl4,gr,_,_,_,_,rfl,rfl,SqT.of hrt,a_l (j:=0) rfl,lows.getD k 0,rfl,rfl,M.lo k hkS⟩
      ·refine ⟨t.getD k 0+1,rfl,rfl,?_⟩
       have e2:t.getD k 0+1≠S.getD k 0:=fun z=>e (by rw [<- z];rfl)
       have:=tb k hkS
       omega
     rintro σ5 H5 ⟨m,rfl,rfl,hm⟩
     have hin:=M.ta.put htm hkS hm
     refine ⟨_,rfl,.inl ⟨rfl,_,SqL.of hr4⟩,_,rfl,.inl ⟨rfl,_,SqL.of (s24 _ _ M.ht)⟩,?_⟩
     have k1:k≤(intsV t).length:=by rw [intsV_len,tlen];omega
     have k2:k+1≤(intsV t).length:=by rw [intsV_len,tlen];omega
     refine ⟨_,rfl,_,rfl,_,rfl,bt,_,rfl,SqT.of hbt4,?_,fun p1 hp1=>?_⟩
     ·rw [zk]
      rintro ⟨_,y⟩
      rw [sIx_nat,intsV_len,tlen] at y
      omega
     rw [zk,cutV_take k1]
     have s51:=Same.upd (o:=.tup ((intsV t).take k)) hp1
     have e51:L2.upd H5 p1 (.tup ((intsV t).take k)) p1=some (.tup ((intsV t).take k)):=upd_same
     generalize L2.upd H5 p1 (.tup ((intsV t).take k))=H6 at s51 e51
     refine ⟨_,rfl,b1,fun p2 hp2=>?_⟩
     have s52:=Same.upd (o:=.tup [.int (m:Int)]) hp2
     have e52:L2.upd H6 p2 (.tup [.int (m:Int)]) p2=some (.tup [.int (m:Int)]):=upd_same
     generalize L2.upd H6 p2 (.tup [.int (m:Int)])=H7 at s52 e52
     refine ⟨p1,p2,_,_,rfl,rfl,s52 _ _ e51,e52,a_g (by rw [List.length_take];simp;omega),fun p3 H8 s53 e53=>?_⟩
     have s58:=(s51.trans s52).trans s53
     refine ⟨_,rfl,_,rfl,_,_,rfl,rfl,_,rfl,bt,_,rfl,SqT.of (s58 _ _ hbt4),?_,fun p4 hp4=>?_⟩
     ·rw [show (k:Int)+1=((k+1:Nat):Int) from rfl]
      rintro ⟨y,_⟩
      rw [sIx_nat,intsV_len,tlen] at y
      omega
     rw [show (k:Int)+1=((k+1:Nat):Int) from rfl,cutV_drop k2]
     have s54:=Same.upd (o:=.tup ((intsV t).drop (k+1))) hp4
     have e54:L2.upd H8 p4 (.tup ((intsV t).drop (k+1))) p4=some (.tup ((intsV t).drop (k+1))):=upd_same
     generalize L2.upd H8 p4 (.tup ((intsV t).drop (k+1)))=H9 at s54 e54
     refine ⟨p3,p4,_,_,rfl,rfl,s54 _ _ e53,e54,a_g (by rw [List.length_append,List.length_take,List.length_drop];simp;rw [intsV_len] at *;omega),fun p5 H10 s55 e55=>?_⟩
     have s510:=(s58.trans s54).trans s55
     have ex:(intsV t).take k++[V.int (m:Int)]++(intsV t).drop (k+1)=intsV (t.take k++[m]++t.drop (k+1)):=by
      unfold intsV
      rw [List.map_append,List.map_append,List.map_take,List.map_drop]
      rfl
     rw [ex] at e55
     have s2A:=s24.trans s510
     refine ⟨tl,p5,vs,ts,_,rfl,rfl,s2A _ _ M.ht,M.th.same (fun b xs e=>s2A _ _ e),fun k' hk'=>?_,e55,hin,?_⟩
     ·rw [((M.ta.mem k').mp hk').1,((M.ta.mem _).mp hin).1]
     have hr10:=s510 _ _ hr4
     have il:ts.idxOf (t.take k++[m]++t.drop (k+1))<ts.length:=List.idxOf_lt_length_of_mem hin
     refine ⟨rw,_,_,rfl,rfl,hr10,by rw [intsV_len];exact a_I (by omega),ws++[ts.idxOf (t.take k++[m]++t.drop (k+1))],_,_,rfl,Same.set (s34.trans s510) hrw,by rw [upd_same,<- b_D],by rw [List.length_append,hwl];rfl,fun x hx=>?_⟩
     rcases List.mem_append.mp hx with z | z
     ·exact hwb x z
     ·rw [List.mem_singleton.mp z];exact il
    ·rintro σ4 H4 ⟨ws,v13,v14,rfl,s34,hr4,hwl,hwb⟩
     have hwl':ws.length=L.length:=by rw [hwl,a_s];omega
     have a1:=s34 _ _ h1
     refine ⟨_,rfl,.inl ⟨rfl,_,SqL.of a1⟩,_,rfl,rw,_,rfl,.inl ⟨SqL.of hr4,fun tp htp=>?_⟩⟩
     obtain ⟨u1,u2,u3⟩:=d_A (ws:=ws) a1 (hrows.same s34) (by rw [hrl,hWl]) htp
     refine ⟨wa,_,_,rfl,rfl,a_f a1 htp,by rw [List.length_map];exact a_I (by omega),rows++[tp],W++[ws],_,_,_,_,rfl,fun b o e=>u3 b o (s34 _ _ (sm b o e)) (ne_of_none e hwa),u1,by rw [List.length_append,hrl];rfl,by rw [List.length_append,hWl];rfl,u2,fun v hv=>?_⟩
     rcases List.mem_append.mp hv with z | z
     ·exact hW v z
     ·rw [List.mem_singleton.mp z];exact ⟨hwl',hwb⟩
   ·rintro σ3 H3 ⟨rows,W,u10,u12,u13,u14,rfl,sm,h1,hrl,hWl,hrows,hW⟩
    rw [M.th.1] at hrl hWl
    have ne:=M.ne
    refine ⟨_,rfl,_,rfl,wa,_,rfl,.inl ⟨SqL.of h1,fun tw htw=>?_⟩⟩
    have s2:=Same.upd (o:=.tup (rows.map V.ref)) htw
    have e2:L2.upd H3 tw (.tup (rows.map V.ref)) tw=some (.tup (rows.map V.ref)):=upd_same
    generalize L2.upd H3 tw (.tup (rows.map V.ref))=H4 at s2 e2
    have sA:=(M.sm.trans sm).trans s2
    refine ⟨_,rfl,_,rfl,wa,_,rfl,.inl (SqL.of (s2 _ _ h1)),a,ns,_,rfl,sA.seq hS,by rw [List.length_map];omega,fun mk B H5 s5 hmk hB=>⟨b3,fun m hm=>?_⟩⟩
    rw [List.length_map] at hB
    have up:=s5.trans (Same.upd (o:=.tup [.str (tx L),.ref tw,.ref mk]) hm)
    exact q m W B _ (sA.trans up) ⟨tw,mk,rows,upd_same,up _ _ e2,a_f hmk hm,by omega,hrows.same (s2.trans up)⟩ ⟨hL,by omega,by omega,by omega,fun ws hws=>⟨(hW ws hws).1,fun x hx=>by rw [hWl];exact (hW ws hws).2 x hx⟩⟩ (by omega)
theorem f_C:a_r ["_law_script","_law_letters_here","_law_kind"] ["_law_script","_law_letters_here","_law_kind"] (a_d b_B):=⟨rfl,rfl,rfl,by decide +kernel,rfl,by decide +kernel,by decide +kernel⟩
theorem f_N (F:Fun K "_law_built" "_law_built" b_B f fd) (T:Txt K mg) (d__law_cell_at:Df P w K mg base "_law_cell_at" 1 ["_law_script","_law_k"] (c_s K)) (d__law_machine:Df P w K mg base "_law_machine" 2 ["_law_script","_law_at","_law_rooms","_law_letters_here"] (c_N K)) (d__law_forward:Df P w K mg base "_law_forward" 3 ["_law_script","_law_letters_here","_law_strict"] (f_u K)) (d__law_memory:Df P w K mg base "_law_memory" 3 ["_law_script","_law_letters_here"] (c_k K)) (d__law_lots:Df P w K mg base "_law_lots" 3 ["_law_script","_law_letters_here"] (c_k K)) (d__law_tallied:Df P w K mg base "_law_tallied" 3 ["_law_script","_law_letters_here"] (c_k K)):FnOk P w K mg base CX0 4 f fd ["_law_script","_law_letters_here","_law_kind"] (f_v K):=by
 refine F.ok f_C (fun vs H Q E h=>?_) (fun cdv A outer s H vs Q E hr h=>?_)
 ·obtain ⟨a,ns,L,k,rfl,_⟩:=h
  rfl
 ·obtain ⟨a,ns,L,k,rfl,hS,hL,q⟩:=h
  have hr1:=hr.mono (j:=1) (by decide)
  have hr2:=hr.mono (j:=2) (by decide)
  refine ⟨_,(a_b ((b_v (a_C op_eq (pv 2) pe_int (a_Q _)) ((a_e (a_p (a_M d__law_machine hr2 (a_a (pv 0) (a_a (pe_int) (a_a (a_y op_a pe_int (a_y op_m (a_M d__law_cell_at hr1 (a_a (pv 0) (a_a (pe_int) a_c))) pe_int)) (a_a (pv 1) a_c)))))))) (a_E))) (a_b ((b_v (a_C op_lt (pv 2) pe_int (a_Q _)) ((a_e (a_p (a_M d__law_forward hr (a_a (pv 0) (a_a (pv 1) (a_a (c_H op_eq (pv 2) pe_int (a_Q _)) a_c))))))) (a_E))) (a_b ((b_v (a_C op_eq (pv 2) pe_int (a_Q _)) ((a_e (a_p (a_M d__law_memory hr (a_a (pv 0) (a_a (pv 1) a_c)))))) (a_E))) (a_b ((b_v (a_C op_eq (pv 2) pe_int (a_Q _)) ((a_e (a_p (a_M d__law_lots hr (a_a (pv 0) (a_a (pv 1) a_c)))))) (a_E))) (a_e (a_p (a_M d__law_tallied hr (a_a (pv 0) (a_a (pv 1) a_c))))))))),?_⟩
  have mk:c_k K [.ref a,.str (tx L)] H Q E:=⟨a,ns,L,rfl,hS,hL,q⟩
  refine ⟨_,rfl,rfl,_,rfl,ite3 (fun _=>?_) (fun _=>⟨_,rfl,_,_,rfl,rfl,_,rfl,ite3 (fun _=>?_) (fun _=>⟨_,rfl,rfl,_,rfl,ite3 (fun _=>⟨_,rfl,_,rfl,mk⟩) (fun _=>⟨_,rfl,rfl,_,rfl,ite3 (fun _=>⟨_,rfl,_,rfl,mk⟩) (fun _=>⟨_,rfl,_,rfl,mk⟩)⟩)⟩)⟩)⟩
  ·refine ⟨_,rfl,_,rfl,a,ns,3,rfl,hS,by decide,fun z0=>⟨_,_,rfl,rfl,by decide,_,_,rfl,rfl,_,rfl,?_⟩⟩
   obtain ⟨n,en,n1,n2⟩:=g_a z0 1 8 (by decide)
   have en':(1:Int)+z0 % 8=(n:Int):=en.symm
   rw [en']
   exact ⟨a,ns,4,n,L,rfl,hS,by decide,n1,by omega,hL,fun m W B H' s hM hMa hW=>q m W B H' s hM hMa (by omega)⟩
  ·exact ⟨_,rfl,_,rfl,_,rfl,rfl,a,ns,L,_,rfl,hS,hL,q⟩
theorem c_t:a_r ["_law_machine_here","_law_room","_law_word_here","_law_sign"] ["_law_machine_here","_law_room","_law_word_here"] (a_d b_C):=⟨rfl,rfl,rfl,by decide +kernel,rfl,by decide +kernel,by decide +kernel⟩
theorem f_O (F:Fun K "_law_after" "_law_after" b_C f fd) (T:Txt K mg):FnOk P w K mg base CX0 1 f fd ["_law_machine_here","_law_room","_law_word_here"] sp_after:=by
 refine F.ok c_t (fun vs H Q E h=>?_) (fun cdv A outer s H vs Q E hr h=>?_)
 ·obtain ⟨m,L,W,B,r,w,rfl,_⟩:=h
  rfl
 ·obtain ⟨m,L,W,B,r,w,rfl,hM,hMa,hr0,hw,q⟩:=h
  obtain ⟨wy,mk,rows,h1,h2,h3,h4,h5⟩:=hM
  refine ⟨_,(a_b ((b_s PassesOwn.never rfl (d_J (pv 2)) (a_B (i:=3) c_t.nd rfl (Or.inl rfl)) ((a_e ((a_k (i:=1) c_t.nd rfl (Or.inl rfl) (a_q a_w (a_q a_w (a_q a_w (pv 0) pe_int (fun _ _=>rfl)) (pv 1) (fun _ _=>rfl)) (b_V PySem.F.plainAttrs_str PySem.F.slot_str_find PySem.F.type_str_find mt_find (a_q a_w (pv 0) pe_int (fun _ _=>rfl)) (a_a (pv 3) a_c)) (fun _ _=>rfl)))))))) (a_e (a_p (pv 1)))),?_⟩
  refine ⟨_,rfl,_,rfl,e_B (x:=tx w) (fun i σ H'=>∃s0,σ=[some (.ref m),some (.int (run L W r (w.take i):Nat)),some (.str (tx w)),s0]/\H'=H) ⟨none,rfl,rfl⟩ ?_ ?_⟩
  ·rintro i c σ H1 hc ⟨s0,rfl,rfl⟩
   rw [tx_get] at hc
   have hcL:c∈L:=hw c (List.mem_of_getElem? hc)
   have hlt:=e_Z hMa (w:=w.take i) hr0 fun d hd=>hw d (List.mem_of_mem_take hd)
   obtain ⟨ws,x,e1,e2,e3,e4⟩:=hMa.at hlt hcL
   obtain ⟨rr,hrr⟩:∃rr,rows[run L W r (w.take i)]?=some rr:=⟨rows[run L W r (w.take i)]'(by omega),by simp [h4,hlt]⟩
   obtain ⟨ws',e5,e6⟩:=h5 _ _ hrr
   rw [e1] at e5
   cases e5
   refine ⟨_,rfl,m,_,_,_,rfl,rfl,SqT.of h1,a_l (j:=1) rfl,_,rfl,wy,_,_,_,rfl,rfl,SqT.of h2,c_g V.ref hrr,_,rfl,m,_,_,_,rfl,rfl,SqT.of h1,a_l (j:=0) rfl,rfl,_,rfl,_,_,rfl,rfl,?_⟩
   rw [f_Y hcL]
   refine ⟨rr,_,_,_,rfl,rfl,SqT.of e6,c_g _ e2,?_⟩
   refine ⟨some (.str ⟨#[c]⟩),?_,rfl⟩
   show [some (V.ref m),some (V.int ((x:Nat):Int)),some (V.str (tx w)),some _]=_
   rw [List.take_add_one,hc]
   show _=[some (V.ref m),some (V.int ((run L W r (w.take i++[c]):Nat):Int)),some (V.str (tx w)),some (V.str ⟨#[c]⟩)]
   rw [f_E,e3]
  ·rintro σ H1 ⟨s0,rfl,rfl⟩
   rw [a_s,List.take_length]
   exact ⟨_,rfl,q⟩
theorem c_E:a_r ["_law_found","_law_letters_here"] ["_law_found","_law_letters_here"] (a_d b_g):=⟨rfl,rfl,rfl,by decide +kernel,rfl,by decide +kernel,by decide +kernel⟩
theorem e_o (F:Fun K "_law_is_word" "_law_is_word" b_g f fd) (T:Txt K mg):FnOk P w K mg base CX0 1 f fd ["_law_found","_law_letters_here"] sp_isword:=by
 refine F.ok c_E (fun vs H Q E h=>?_) (fun cdv A outer s H vs Q E hr h=>?_)
 ·obtain ⟨L,w,rfl,_⟩:=h
  rfl
 ·obtain ⟨L,w,rfl,hw,hl,q⟩:=h
  refine ⟨_,(a_e (a_p (pe_and (a_n (e_I (T:="str") (b:=true)) (by rfl) T.isinst PyProof.Rows.boot_isinstance (a_a (pv 0) (a_a (e_k (v:=.ty "str") (by rfl) T.str PyProof.Rows.boot_str rfl) a_c)))
   (pe_one (c_H op_eq (a_n a_t (by rfl) T.len PySem.boot_len (a_a (pe_comp rfl c_E.nd (d_J (pv 0)) (fun cl C fp s' H'=>⟨f_F (a_C op_notin_str (pv 0) (pv 2) (by with_unfolding_all rfl)),pv 0⟩)) a_c)) pe_int (a_Q _)))))),?_⟩
  refine ⟨_,rfl,_,_,rfl,TyOf.str _,by with_unfolding_all rfl,_,rfl,iteT ?_⟩
  dsimp only [tOp,tCB,c_C]
  refine d_c (x:=tx w) (fun c=>!decide (c∈L)) (by rfl) (a_g (by rw [a_s];omega)) (fun i c H' R hc hR=>?_) (fun D hD=>?_)
  ·refine ⟨_,rfl,_,rfl,_,_,rfl,rfl,_,rfl,?_⟩
   have e:=c_J L c
   unfold Txt.contains at e
   rw [e]
   exact hR
  ·refine ⟨D,_,rfl,.inl (SqL.of upd_same),rfl,?_⟩
   have e:((tx w).cps.toList.filter fun c=>!decide (c∈L))=[]:=by
    rw [b_w,List.filter_eq_nil_iff]
    intro c hc
    simp [hw c hc]
   have hb:decide (V.int (((((tx w).cps.toList.filter fun c=>!decide (c∈L)).map fun c=>V.str ⟨#[c]⟩).length:Nat):Int)=V.int 0)=true:=by
    rw [e]
    rfl
   rw [hb]
   exact q _ (Same.upd hD)
theorem f_A:a_r ["_law_machine_here","_law_word_here"] ["_law_machine_here","_law_word_here"] (a_d b_y):=⟨rfl,rfl,rfl,by decide +kernel,rfl,by decide +kernel,by decide +kernel⟩
theorem f_K (F:Fun K "_law_takes" "_law_takes" b_y f fd) (T:Txt K mg) (d__law_after:Df P w K mg base "_law_after" 1 ["_law_machine_here","_law_room","_law_word_here"] sp_after):FnOk P w K mg base CX0 2 f fd ["_law_machine_here","_law_word_here"] sp_ltakes:=by
 refine F.ok f_A (fun vs H Q E h=>?_) (fun cdv A outer s H vs Q E hr h=>?_)
 ·obtain ⟨m,L,W,B,w,rfl,_⟩:=h
  rfl
 ·obtain ⟨m,L,W,B,w,rfl,hM,hMa,hw,q⟩:=h
  refine ⟨_,(a_e (a_p (a_q a_w (a_q a_w (pv 0) pe_int (fun _ _=>rfl)) (a_M d__law_after hr (a_a (pv 0) (a_a (pe_int) (a_a (pv 1) a_c)))) (fun _ _=>rfl)))),?_⟩
  obtain ⟨wy,mk,rows,h1,h2,h3,h4,h5⟩:=id hM
  have hp:0<W.length:=by have:=hMa.n1;omega
  have hlt:=e_Z hMa hp hw
  exact ⟨_,rfl,m,_,_,_,rfl,rfl,SqT.of h1,a_l (j:=2) rfl,_,rfl,_,rfl,m,L,W,B,0,w,rfl,hM,hMa,hp,hw,mk,_,_,_,rfl,rfl,SqT.of h3,c_I (by rw [hMa.bl];exact hlt),q⟩
theorem c_e:a_r ["_law_letters_here","_law_one","_law_two","_law_left","_law_right"] ["_law_letters_here","_law_one","_law_two"] (a_d b_i):=⟨rfl,rfl,rfl,by decide +kernel,rfl,by decide +kernel,by decide +kernel⟩
theorem e_q (F:Fun K "_law_earlier" "_law_earlier" b_i f fd) (T:Txt K mg):FnOk P w K mg base CX0 1 f fd ["_law_letters_here","_law_one","_law_two"] sp__law_earlier:=by
 refine F.ok c_e (fun vs H Q E h=>?_) (fun cdv A outer s H vs Q E hr h=>?_)
 ·obtain ⟨L,a,b,rfl,_⟩:=h
  rfl
 ·obtain ⟨L,a,b,rfl,hL,ha,hb,hla,hlb,q⟩:=h
  refine ⟨_,(a_b ((b_v (a_C op_ne (a_n a_F (by rfl) T.len PySem.boot_len (a_a (pv 1) a_c)) (a_n a_F (by rfl) T.len PySem.boot_len (a_a (pv 2) a_c)) (a_Q _)) ((a_e (a_p (c_H op_lt (a_n a_F (by rfl) T.len PySem.boot_len (a_a (pv 1) a_c)) (a_n a_F (by rfl) T.len PySem.boot_len (a_a (pv 2) a_c)) (a_Q _))))) (a_E))) (a_b ((b_s PassesOwn.never rfl (pi_zip rfl T.zip (a_a (pv 1) (a_a (pv 2) a_c))) (pg_tup rfl (b_Q (a_B (i:=3) c_e.nd rfl (Or.inl rfl)) (b_Q (a_B (i:=4) c_e.nd rfl (Or.inl rfl)) e_j))) (a_e ((b_v (a_C op_ne (pv 3) (pv 4) (a_Q _)) ((a_e (a_p (c_H op_lt (b_V PySem.F.plainAttrs_str PySem.F.slot_str_find PySem.F.type_str_find mt_find (pv 0) (a_a (pv 3) a_c)) (b_V PySem.F.plainAttrs_str PySem.F.slot_str_find PySem.F.type_str_find mt_find (pv 0) (a_a (pv 4) a_c)) (a_Q _))))) (a_E)))))) (a_e (a_p c_A)))),?_⟩
  have hza:(tx a).length≤sizeLine:=a_g (by rw [a_s];omega)
  have hzb:(tx b).length≤sizeLine:=a_g (by rw [a_s];omega)
  refine ⟨_,rfl,_,rfl,hza,_,rfl,_,rfl,hzb,rfl,_,rfl,?_⟩
  by_cases hab:a.length=b.length
  ·refine e_R (by rw [a_s,a_s,hab]) ?_
   refine ⟨_,rfl,_,rfl,_,_,rfl,for_zip (x:=tx a) (y:=tx b) (by rw [a_s,a_s];exact hab) (fun i σ H'=>∃s1 s2,σ=[some (.str (tx L)),some (.str (tx a)),some (.str (tx b)),s1,s2]/\Same H H'/\lexd L a b=lexd L (a.drop i) (b.drop i)) ⟨none,none,rfl,Same.refl H,rfl⟩ ?_ ?_⟩
   ·rintro i c e p σ H1 hc he hp ⟨s1,s2,rfl,hsame,hlex⟩
    rw [tx_get] at hc he
    have hcL:c∈L:=ha c (List.mem_of_getElem? hc)
    have heL:e∈L:=hb e (List.mem_of_getElem? he)
    have hs2:Same H (upd H1 p (.tup [.str ⟨#[c]⟩,.str ⟨#[e]⟩])):=hsame.trans (Same.upd hp)
    rw [lexd_at L hc he] at hlex
    refine ⟨p,_,rfl,SqT.of upd_same,rfl,_,_,rfl,_,_,rfl,rfl,?_⟩
    refine ⟨_,rfl,_,rfl,rfl,_,rfl,?_⟩
    by_cases hce:c=e
    ·subst hce
     rw [if_pos rfl] at hlex
     exact e_R rfl ⟨_,_,rfl,hs2,hlex⟩
    ·rw [if_neg hce] at hlex
     rw [decide_eq_false (fun z=>hce (by have:=congrArg (fun v:V=>match v with | .str x=>x.cps.toList | _=>[]) z;simpa using this))]
     refine iteT ?_
     refine ⟨_,rfl,rfl,_,rfl,_,_,rfl,rfl,?_⟩
     rw [f_Y hcL]
     refine ⟨_,rfl,rfl,_,rfl,_,_,rfl,rfl,?_⟩
     rw [f_Y heL]
     refine ⟨_,_,rfl,rfl,?_⟩
     have ev:ear L a b=decide (((L.idxOf c:Nat):Int)<((L.idxOf e:Nat):Int)):=by
      unfold ear
      rw [if_neg (by simpa using hab),hlex]
      simp
     have q2:=q _ hs2
     rw [ev] at q2
     exact q2
   ·rintro σ H1 ⟨s1,s2,rfl,hsame,hlex⟩
    have ev:ear L a b=false:=by
     unfold ear
     rw [if_neg (by simpa using hab),hlex,a_s,List.drop_length]
     rfl
    have:=q _ hsame
    rw [ev] at this
    exact this
  ·have hne:¬ V.int (((tx a).length:Nat):Int)=V.int (((tx b).length:Nat):Int):=fun z=>hab (by
    have:=congrArg (fun v:V=>match v with | .int x=>x | _=>0) z
    rw [a_s,a_s] at this
    have h2:((a.length:Nat):Int)=((b.length:Nat):Int):=this
    omega)
   rw [decide_eq_false hne]
   refine iteT ⟨_,rfl,_,rfl,hza,_,rfl,_,rfl,hzb,_,_,rfl,rfl,?_⟩
   have ev:ear L a b=decide ((((tx a).length:Nat):Int)<(((tx b).length:Nat):Int)):=by
    unfold ear
    rw [if_pos hab,a_s,a_s]
    simp
   have q2:=q _ (Same.refl H)
   rw [ev] at q2
   exact q2
theorem d_j:a_r ["_law_letters_here","_law_word_here"] ["_law_letters_here","_law_word_here"] (a_d a_N):=⟨rfl,rfl,rfl,by decide +kernel,rfl,by decide +kernel,by decide +kernel⟩
theorem d_k (F:Fun K "_law_letters_in" "_law_letters_in" a_N f fd) (T:Txt K mg):FnOk P w K mg base CX0 1 f fd ["_law_letters_here","_law_word_here"] sp_lotin:=by
 refine F.ok d_j (fun vs H Q E h=>?_) (fun cdv A outer s H vs Q E hr h=>?_)
 ·obtain ⟨L,w,rfl,_⟩:=h
  rfl
 ·obtain ⟨L,w,rfl,hl,q⟩:=h
  refine ⟨_,(a_e (a_p (b_V PySem.F.plainAttrs_str PySem.F.slot_str_join PySem.F.type_str_join mt_join (b_G) (a_a (b_r ["_law_letters_here","_law_word_here"] rfl (by decide) (d_J (pv 0)) (fun cl C fp s' H'=>⟨f_F (a_C op_in_str (pv 0) (pv 2) (by with_unfolding_all rfl)),pv 0⟩)) a_c)))),?_⟩
  refine ⟨rfl,d_c (x:=tx L) (fun c=>decide (c∈w)) rfl (a_g (by rw [a_s];omega)) (fun i c H' R hc hR=>?_) (fun D hD=>?_)⟩
  ·refine ⟨_,rfl,_,rfl,_,_,rfl,rfl,_,rfl,?_⟩
   have e:=c_J w c
   unfold Txt.contains at e
   rw [e]
   exact hR
  ·rw [b_w]
   refine ⟨_,D,(lotS L w).map fun c=>(⟨#[c]⟩:Str),rfl,rfl,SqL.of ?_,join_size _ (Nat.le_trans (List.length_filter_le _ _) (by omega)),?_⟩
   ·rw [upd_same,List.map_map]
    rfl
   ·rw [e_C,f_g]
    exact q _ (Same.upd hD)
theorem sc_lot_in:a_r ["letters","word"] ["letters","word"] (a_d c_O):=⟨rfl,rfl,rfl,by decide +kernel,rfl,by decide +kernel,by decide +kernel⟩
theorem ok_lot_in (F:Fun K "lot_in" "lot_in" c_O f fd) (T:Txt K mg):FnOk P w K mg base CX0 1 f fd ["letters","word"] sp_lotin:=by
 refine F.ok sc_lot_in (fun vs H Q E h=>?_) (fun cdv A outer s H vs Q E hr h=>?_)
 ·obtain ⟨L,w,rfl,_⟩:=h
  rfl
 ·obtain ⟨L,w,rfl,hl,q⟩:=h
  refine ⟨_,(a_e (a_p (b_V PySem.F.plainAttrs_str PySem.F.slot_str_join PySem.F.type_str_join mt_join (b_G) (a_a (b_r ["letters","word"] rfl (by decide) (d_J (pv 0)) (fun cl C fp s' H'=>⟨f_F (a_C op_in_str (pv 0) (pv 2) (by with_unfolding_all rfl)),pv 0⟩)) a_c)))),?_⟩
  refine ⟨rfl,d_c (x:=tx L) (fun c=>decide (c∈w)) rfl (a_g (by rw [a_s];omega)) (fun i c H' R hc hR=>?_) (fun D hD=>?_)⟩
  ·refine ⟨_,rfl,_,rfl,_,_,rfl,rfl,_,rfl,?_⟩
   have e:=c_J w c
   unfold Txt.contains at e
   rw [e]
   exact hR
  ·rw [b_w]
   refine ⟨_,D,(lotS L w).map fun c=>(⟨#[c]⟩:Str),rfl,rfl,SqL.of ?_,join_size _ (Nat.le_trans (List.length_filter_le _ _) (by omega)),?_⟩
   ·rw [upd_same,List.map_map]
    rfl
   ·rw [e_C,f_g]
    exact q _ (Same.upd hD)
theorem b_u:a_r ["_law_letters_here","_law_lots_here","_law_sign"] ["_law_letters_here"] (a_d a_W):=⟨rfl,rfl,rfl,by decide +kernel,rfl,by decide +kernel,by decide +kernel⟩
theorem d_M (F:Fun K "_law_all_lots" "_law_all_lots" a_W f fd) (T:Txt K mg):FnOk P w K mg base CX0 1 f fd ["_law_letters_here"] sp_alllots:=by
 refine F.ok b_u (fun vs H Q E h=>?_) (fun cdv A outer s H vs Q E hr h=>?_)
 ·obtain ⟨L,rfl,_⟩:=h
  rfl
 ·obtain ⟨L,rfl,hL3,q⟩:=h
  refine ⟨_,(a_b ((a_k (i:=1) b_u.nd rfl (Or.inl rfl) (b_l (a_a b_G a_c)))) (a_b ((b_s PassesOwn.never rfl (d_J (pv 0)) (a_B (i:=2) b_u.nd rfl (Or.inr rfl)) ((a_e ((a_k (i:=1) b_u.nd rfl (Or.inl rfl) (a_y op_cat (pv 1) (b_r ["_law_letters_here","_law_lots_here","_law_sign"] rfl (by decide) (e_i (pv 1)) (fun cl C fp s' H'=>⟨b_E,a_y b_O (pv 0) (pv 3)⟩))))))))) (a_e (a_p (pv 1))))),?_⟩
  refine ⟨a_g (by show 1≤16777216;decide),fun l0 hl0=>?_⟩
  refine ⟨_,rfl,_,rfl,e_B (x:=tx L) (fun j σ' H'=>∃(l:Addr) (s2:Option V),σ'=[some (.str (tx L)),some (.ref l),s2]/\Same H H'/\H' l=some (.lst (wordsV (subsL (L.take j))))) ⟨l0,_,rfl,Same.upd hl0,upd_same⟩ ?_ ?_⟩
  ·rintro j c σ2 H2 hc ⟨l,s2,rfl,sm,hl⟩
   have hcj:L[j]?=some c:=by
    have:=(show (tx L).cps.toList[j]?=some c by rw [Array.getElem?_toList];exact hc)
    rwa [b_w] at this
   have hj:j<L.length:=(List.getElem?_eq_some_iff.mp hcj).1
   have sl:=d_Y (L.take j)
   have tl:(L.take j).length≤2:=by rw [List.length_take];omega
   have sl8:(subsL (L.take j)).length≤4:=by rw [sl];exact Nat.le_trans (Nat.pow_le_pow_right (by decide) tl) (by decide)
   have sll:∀v∈subsL (L.take j),v.length≤2:=fun v hv=>Nat.le_trans (f_o hv) tl
   refine ⟨_,rfl,?_⟩
   dsimp only [tRet,c_x,tNext,tSeq,tAsg,c_V,c_C,tBM,tCB,tOp]
   refine c_y (a:=l) (fun R h=>⟨_,rfl,h⟩) (.inl rfl) hl (fun D i ys H'=>ys=(wordsV ((subsL (L.take j)).map fun v=>v++[c])).take i) (by rw [wordsV,List.length_map];exact a_g (by omega)) (fun D hD=>by simp) ?_ ?_
   ·intro D i x ys H' R1 R2 hD hx hsm hDl hp k1 k2
    rw [wordsV,List.getElem?_map] at hx
    obtain ⟨v,hv,rfl⟩:=Option.map_eq_some_iff.mp hx
    have vl:=sll v (List.mem_of_getElem? hv)
    have e1:(⟨#[c]⟩:Str)=tx [c]:=rfl
    refine tAlways_if ⟨_,rfl,_,rfl,_,_,rfl,rfl,by rw [e1,a_s,a_s];exact a_g (by simp;omega),?_⟩
    rw [e1,d_g]
    refine k1 _ H' hDl (Same.set hsm hD) ?_
    rw [hp]
    refine (a_T ?_).symm
    rw [wordsV,List.map_map,List.getElem?_map,hv]
    rfl
   ·intro D ys H' hD hsm hDl hp
    have el:(wordsV (subsL (L.take j))).length=(wordsV ((subsL (L.take j)).map fun v=>v++[c])).length:=by rw [wordsV,wordsV,List.length_map,List.length_map,List.length_map]
    rw [el,List.take_length] at hp
    subst hp
    refine ⟨l,D,_,_,rfl,rfl,hsm _ _ hl,hDl,a_g (by rw [<- el,wordsV,List.length_map];omega),fun p hp'=>⟨p,_,rfl,(sm.trans hsm).trans (Same.upd hp'),?_⟩⟩
    rw [upd_same,a_T hcj,c_M]
    unfold wordsV
    rw [List.map_append]
  ·rintro σ2 H2 ⟨l,s2,rfl,sm,hl⟩
   rw [a_s,List.take_length] at hl
   exact ⟨_,rfl,q l H2 sm hl⟩
theorem b_W:a_r ["_law_found","_law_letters_here","_law_word_here","_law_k"] ["_law_found","_law_letters_here"] (a_d a_V):=⟨rfl,rfl,rfl,by decide +kernel,rfl,by decide +kernel,by decide +kernel⟩
theorem d_L (F:Fun K "_law_in_order" "_law_in_order" a_V f fd) (T:Txt K mg) (d__law_is_word:Df P w K mg base "_law_is_word" 1 ["_law_found","_law_letters_here"] sp_isword) (d__law_earlier:Df P w K mg base "_law_earlier" 1 ["_law_letters_here","_law_one","_law_two"] sp__law_earlier):FnOk P w K mg base CX0 2 f fd ["_law_found","_law_letters_here"] sp_inord53:=by
 refine F.ok b_W (fun vs H Q E h=>?_) (fun cdv A outer s H vs Q E hr h=>?_)
 ·obtain ⟨l,L,vs0,rfl,_⟩:=h
  rfl
 ·obtain ⟨l,L,vs0,rfl,hl,hL,hlen,hv,hear,q⟩:=h
  refine ⟨_,(a_b ((b_v (c_F (c_p (a_n (d_T (T:="list")) (by rfl) T.isinst PyProof.Rows.boot_isinstance (a_a (pv 0) (a_a (e_k (v:=.ty "list") (by rfl) T.list PyProof.Rows.boot_list rfl) a_c))))) ((a_e (a_p c_A))) (a_E))) (a_b ((b_s PassesOwn.never rfl (d_C (pv 0)) (a_B (i:=2) b_W.nd rfl (Or.inl rfl)) ((a_e ((b_v (c_F (c_p (a_M d__law_is_word hr (a_a (pv 2) (a_a (pv 1) a_c))))) ((a_e (a_p c_A))) (a_E))))))) (a_b ((b_s PassesOwn.never rfl (pi_range2 rfl T.range (a_a pe_int (a_a (a_n a_t (by rfl) T.len PySem.boot_len (a_a (pv 0) a_c)) a_c))) (a_B (i:=3) b_W.nd rfl (Or.inl rfl)) ((a_e ((b_v (c_F (c_p (a_M d__law_earlier hr (a_a (pv 1) (a_a (a_q a_P (pv 0) (a_y op_s (pv 3) pe_int) (fun _ _=>rfl)) (a_a (a_q a_P (pv 0) (pv 3) (fun _ _=>rfl)) a_c)))))) ((a_e (a_p c_A))) (a_E))))))) (a_e (a_p c_A))))),?_⟩
  refine ⟨_,rfl,_,_,_,rfl,TyOf.lst hl,(f_T K).2.1,_,rfl,iteF ?_⟩
  refine ⟨_,rfl,l,rfl,⟨_,SqL.of hl⟩,c_T (K:=K) (a:=l) (xs:=wordsV vs0) (fun i σ' H'=>∃s2,σ'=[some (.ref l),some (.str (tx L)),s2,none]/\Same H H') ⟨_,rfl,Same.refl H⟩ ?_ ?_ ?_⟩
  ·rintro i σ' H' hi ⟨_,rfl,sm⟩
   exact SqL.of (sm _ _ hl)
  ·rintro i x σ' H1 hx ⟨s2,rfl,sm⟩
   rw [wordsV,List.getElem?_map] at hx
   obtain ⟨v,hvi,rfl⟩:=Option.map_eq_some_iff.mp hx
   obtain ⟨k1,k2⟩:=hv v (List.mem_of_getElem? hvi)
   exact ⟨_,rfl,_,rfl,L,v,rfl,k2,by omega,fun H2 s2'=>⟨_,rfl,iteF ⟨_,rfl,sm.trans s2'⟩⟩⟩
  ·rintro σ' H1 ⟨s2,rfl,sm⟩
   have hl1:=sm _ _ hl
   have wl:(wordsV vs0).length=vs0.length:=by rw [wordsV,List.length_map]
   refine ⟨_,rfl,l,_,rfl,.inl (SqL.of hl1),_,_,rfl,⟨by decide,by decide,by omega,by omega⟩,?_⟩
   refine c_q (fun i σ' H'=>∃s3,σ'=[some (.ref l),some (.str (tx L)),s2,s3]/\Same H H') ⟨none,rfl,sm⟩ ?_ ?_
   ·rintro i σ2 H2 hi ⟨s3,rfl,sm2⟩
    have hi1:i+1<vs0.length:=by omega
    obtain ⟨a,ha⟩:∃a,vs0[i]?=some a:=⟨vs0[i]'(by omega),List.getElem?_eq_getElem _⟩
    obtain ⟨b,hb⟩:∃b,vs0[i+1]?=some b:=⟨vs0[i+1],List.getElem?_eq_getElem hi1⟩
    obtain ⟨a1,a2⟩:=hv a (List.mem_of_getElem? ha)
    obtain ⟨b1,b2⟩:=hv b (List.mem_of_getElem? hb)
    have g1:atI (wordsV vs0) (1+(i:Int) - 1)=some (.str (tx a)):=by
     rw [show 1+(i:Int) - 1=((i:Nat):Int) by omega]
     exact a_l (by rw [wordsV,List.getElem?_map,ha];rfl)
    have g2:atI (wordsV vs0) (1+(i:Int))=some (.str (tx b)):=by
     rw [show 1+(i:Int)=((i+1:Nat):Int) by omega]
     exact a_l (by rw [wordsV,List.getElem?_map,hb];rfl)
    refine ⟨_,rfl,_,rfl,_,rfl,_,_,rfl,rfl,l,_,_,_,rfl,rfl,SqL.of (sm2 _ _ hl),g1,_,rfl,_,rfl,l,_,_,_,rfl,rfl,SqL.of (sm2 _ _ hl),g2,L,a,b,rfl,hL,a2,b2,by omega,by omega,fun H3 s3'=>⟨_,rfl,?_⟩⟩
    rw [hear i a b ha hb]
    exact iteF ⟨_,rfl,sm2.trans s3'⟩
   ·rintro σ2 H2 ⟨s3,rfl,sm2⟩
    exact q H2 sm2
theorem b_Y:a_r ["_law_machine_here","_law_paper_here","_law_lots_here","_law_word_here","_law_lot"] ["_law_machine_here","_law_paper_here"] (a_d b_z):=⟨rfl,rfl,rfl,by decide +kernel,rfl,by decide +kernel,by decide +kernel⟩
theorem f_L (F:Fun K "_law_paper" "_law_paper" b_z f fd) (T:Txt K mg) (d__law_in_order:Df P w K mg base "_law_in_order" 2 ["_law_found","_law_letters_here"] sp_inord53) (d__law_all_lots:Df P w K mg base "_law_all_lots" 1 ["_law_letters_here"] sp_alllots) (d__law_takes:Df P w K mg base "_law_takes" 2 ["_law_machine_here","_law_word_here"] sp_ltakes):FnOk P w K mg base CX0 3 f fd ["_law_machine_here","_law_paper_here"] sp_paper53:=by
 refine F.ok b_Y (fun vs H Q E h=>?_) (fun cdv A outer s H vs Q E hr h=>?_)
 ·obtain ⟨m,l,L,W,B,vs0,rfl,_⟩:=h
  rfl
 ·obtain ⟨m,l,L,W,B,vs0,rfl,hM,hMa,hl,hP,q⟩:=h
  have hr1:=hr.mono (j:=1) (by decide)
  have hL:=hMa.lt
  have hL3:=hL.hi
  refine ⟨_,(a_b ((b_v (c_F (c_p (a_M d__law_in_order hr (a_a (pv 1) (a_a (a_q a_w (pv 0) pe_int (fun _ _=>rfl)) a_c))))) ((a_e (a_p c_A))) (a_E))) (a_b ((a_k (i:=2) b_Y.nd rfl (Or.inl rfl) ((a_M d__law_all_lots hr1 (a_a (a_q a_w (pv 0) pe_int (fun _ _=>rfl)) a_c))))) (a_b ((b_s PassesOwn.never rfl (d_C (pv 1)) (a_B (i:=3) b_Y.nd rfl (Or.inl rfl)) ((a_e ((b_v (a_C op_notIn_seq (pv 3) (pv 2) (by with_unfolding_all rfl)) ((a_e (a_p c_A))) (a_E))))))) (a_b ((b_s PassesOwn.never rfl (d_C (pv 2)) (a_B (i:=4) b_Y.nd rfl (Or.inl rfl)) ((a_e ((b_v (a_C op_ne (c_H op_in_seq (pv 4) (pv 1) (by with_unfolding_all rfl)) (a_M d__law_takes hr (a_a (pv 0) (a_a (pv 4) a_c))) (a_Q _)) ((a_e (a_p c_A))) (a_E))))))) (a_e (a_p c_A)))))),?_⟩
  obtain ⟨wy,mk,rows,h1,h2,h3,h4,h5⟩:=id hM
  have sub3:∀v∈subsL L,v.length≤3/\∀c∈v,c∈L:=fun v hv=>⟨Nat.le_trans (f_o hv) hL3,fun c hc=>by
   rw [<- (d_o hL.nd v).mp hv] at hc
   exact lotS_in c hc⟩
  refine ⟨_,rfl,_,rfl,m,_,_,_,rfl,rfl,SqT.of h1,a_l (j:=0) rfl,l,L,vs0,rfl,hl,hL,by have:=hP.len;omega,fun v hv=>⟨by have:=(sub3 v (hP.sub v hv)).1;omega,(sub3 v (hP.sub v hv)).2⟩,hP.ord,fun H1 s1=>⟨_,rfl,iteF ?_⟩⟩
  refine ⟨_,rfl,m,_,_,_,rfl,rfl,SqT.of (s1 _ _ h1),a_l (j:=0) rfl,L,rfl,hL3,fun p H2 s2 hp=>?_⟩
  have s12:=s1.trans s2
  refine ⟨_,rfl,l,rfl,⟨_,SqL.of (s12 _ _ hl)⟩,c_T (K:=K) (a:=l) (xs:=wordsV vs0) (fun i σ' H'=>∃s3,σ'=[some (.ref m),some (.ref l),some (.ref p),s3,none]/\H'=H2) ⟨_,rfl,rfl⟩ ?_ ?_ ?_⟩
  ·rintro i σ' H' hi ⟨_,rfl,rfl⟩
   exact SqL.of (s12 _ _ hl)
  ·rintro i x σ' H3 hx ⟨s3,rfl,rfl⟩
   rw [wordsV,List.getElem?_map] at hx
   obtain ⟨v,hv,rfl⟩:=Option.map_eq_some_iff.mp hx
   refine ⟨_,rfl,_,rfl,p,_,rfl,.inl (SqL.of hp),rfl,d_w _,_,rfl,?_⟩
   rw [if_pos rfl,d_r,decide_eq_true (hP.sub v (List.mem_of_getElem? hv))]
   exact iteF ⟨_,rfl,rfl⟩
  ·rintro σ' H3 ⟨s3,rfl,rfl⟩
   refine ⟨_,rfl,p,rfl,⟨_,SqL.of hp⟩,c_T (K:=K) (a:=p) (xs:=wordsV (subsL L)) (fun i σ' H'=>∃s4,σ'=[some (.ref m),some (.ref l),some (.ref p),s3,s4]/\H'=H3) ⟨_,rfl,rfl⟩ ?_ ?_ ?_⟩
   ·rintro i σ' H' hi ⟨_,rfl,rfl⟩
    exact SqL.of hp
   ·rintro i x σ' H4 hx ⟨s4,rfl,rfl⟩
    rw [wordsV,List.getElem?_map] at hx
    obtain ⟨v,hv,rfl⟩:=Option.map_eq_some_iff.mp hx
    have hvm:=List.mem_of_getElem? hv
    refine ⟨_,rfl,_,rfl,l,_,rfl,.inl (SqL.of (s12 _ _ hl)),rfl,d_w _,_,rfl,_,rfl,m,L,W,B,v,rfl,hM.same s12,hMa,(sub3 v hvm).2,rfl,_,rfl,?_⟩
    rw [if_neg Bool.false_ne_true,d_r,hP.tk v (sub3 v hvm).2,(d_o hL.nd v).mp hvm]
    exact e_R rfl ⟨_,rfl,rfl⟩
   ·rintro σ' H4 ⟨s4,rfl,rfl⟩
    exact q H4 s12
theorem e_d:a_r ["_law_machine_here","_law_bar_here","_law_word_here"] ["_law_machine_here","_law_bar_here"] (a_d c_b):=⟨rfl,rfl,rfl,by decide +kernel,rfl,by decide +kernel,by decide +kernel⟩
theorem ok__law_bar (F:Fun K "_law_bar" "_law_bar" c_b f fd) (T:Txt K mg) (d__law_is_word:Df P w K mg base "_law_is_word" 1 ["_law_found","_law_letters_here"] sp_isword) (d__law_letters_in:Df P w K mg base "_law_letters_in" 1 ["_law_letters_here","_law_word_here"] sp_lotin) (d__law_takes:Df P w K mg base "_law_takes" 2 ["_law_machine_here","_law_word_here"] sp_ltakes):FnOk P w K mg base CX0 3 f fd ["_law_machine_here","_law_bar_here"] sp_bar53:=by
 refine F.ok e_d (fun vs H Q E h=>?_) (fun cdv A outer s H vs Q E hr h=>?_)
 ·obtain ⟨m,t,L,W,B,u,v,rfl,_⟩:=h
  rfl
 ·obtain ⟨m,t,L,W,B,u,v,rfl,hM,hMa,ht,hB,q⟩:=h
  have hr1:=hr.mono (j:=1) (by decide)
  have hL3:=hMa.lt.hi
  refine ⟨_,(a_b ((b_v ((pw_or (c_F (c_p (a_n (d_T (T:="tuple")) (by rfl) T.isinst PyProof.Rows.boot_isinstance (a_a (pv 1) (a_a (e_k (v:=.ty "tuple") (by rfl) T.tuple PyProof.Rows.boot_tuple rfl) a_c))))) (pw_or1 (a_C op_ne (a_n a_t (by rfl) T.len PySem.boot_len (a_a (pv 1) a_c)) pe_int (a_Q _)))).pt) ((a_e (a_p c_A))) (a_E))) (a_b ((b_s PassesOwn.never rfl (pi_tup (pv 1)) (a_B (i:=2) e_d.nd rfl (Or.inl rfl)) ((a_e ((b_v ((pw_or (c_F (c_p (a_M d__law_is_word hr1 (a_a (pv 2) (a_a (a_q a_w (pv 0) pe_int (fun _ _=>rfl)) a_c))))) (pw_or1 (a_C op_gt (a_n a_F (by rfl) T.len PySem.boot_len (a_a (pv 2) a_c)) pe_int (a_Q _)))).pt) ((a_e (a_p c_A))) (a_E))))))) (a_b ((b_v (a_C op_ne (a_M d__law_letters_in hr1 (a_a (a_q a_w (pv 0) pe_int (fun _ _=>rfl)) (a_a (a_q a_w (pv 1) pe_int (fun _ _=>rfl)) a_c))) (a_M d__law_letters_in hr1 (a_a (a_q a_w (pv 0) pe_int (fun _ _=>rfl)) (a_a (a_q a_w (pv 1) pe_int (fun _ _=>rfl)) a_c))) (a_Q _)) ((a_e (a_p c_A))) (a_E))) (a_e (a_p (pe_and (a_M d__law_takes hr (a_a (pv 0) (a_a (a_q a_w (pv 1) pe_int (fun _ _=>rfl)) a_c))) (pe_one (pe_not (a_M d__law_takes hr (a_a (pv 0) (a_a (a_q a_w (pv 1) pe_int (fun _ _=>rfl)) a_c))))))))))),?_⟩
  obtain ⟨wy,mk,rows,h1,h2,h3,h4,h5⟩:=id hM
  refine ⟨_,rfl,_,_,_,rfl,TyOf.tup ht,(f_T K).1,_,rfl,iteF ⟨_,rfl,t,_,rfl,.inr (SqT.of ht),rfl,_,rfl,e_R rfl ?_⟩⟩
  have w60:∀(i:Nat) (x:V),[V.str (tx u),.str (tx v)][i]?=some x->∃y,x=.str (tx y)/\(∀c∈y,c∈L)/\y.length≤60:=fun i x hx=>by
   match i,hx with
   | 0,hx=>cases hx;exact ⟨u,rfl,hB.cu,hB.lu⟩
   | 1,hx=>cases hx;exact ⟨v,rfl,hB.cv,hB.lv⟩
  refine ⟨_,rfl,t,rfl,⟨_,SqT.of ht⟩,for_tup (K:=K) (a:=t) (xs:=[.str (tx u),.str (tx v)]) (fun i σ' H'=>∃s2,σ'=[some (.ref m),some (.ref t),s2]/\Same H H') ⟨_,rfl,Same.refl H⟩ ?_ ?_ ?_⟩
  ·rintro i σ' H' hi ⟨_,rfl,sm⟩
   exact SqT.of (sm _ _ ht)
  ·rintro i x σ' H1 hx ⟨s2,rfl,sm⟩
   obtain ⟨y,rfl,hy,yl⟩:=w60 i x hx
   refine ⟨_,rfl,_,rfl,m,_,_,_,rfl,rfl,SqT.of (sm _ _ h1),a_l (j:=0) rfl,L,y,rfl,hy,by omega,fun H2 s2'=>⟨_,rfl,iteF ⟨_,rfl,_,rfl,a_g (by rw [a_s];omega),_,_,rfl,rfl,_,rfl,?_⟩⟩⟩
   exact iteN (fun z=>by rw [a_s] at z;omega) ⟨_,rfl,sm.trans s2'⟩
  ·rintro σ' H1 ⟨s2,rfl,sm⟩
   refine ⟨_,rfl,m,_,_,_,rfl,rfl,SqT.of (sm _ _ h1),a_l (j:=0) rfl,_,rfl,t,_,_,_,rfl,rfl,SqT.of (sm _ _ ht),a_l (j:=0) rfl,L,u,rfl,by omega,fun H2 s12=>?_⟩
   have sm2:=sm.trans s12
   refine ⟨_,rfl,m,_,_,_,rfl,rfl,SqT.of (sm2 _ _ h1),a_l (j:=0) rfl,_,rfl,t,_,_,_,rfl,rfl,SqT.of (sm2 _ _ ht),a_l (j:=1) rfl,L,v,rfl,by omega,fun H3 s23=>⟨rfl,_,rfl,e_R (by rw [hB.eq]) ?_⟩⟩
   have sm3:=sm2.trans s23
   refine ⟨_,rfl,_,rfl,t,_,_,_,rfl,rfl,SqT.of (sm3 _ _ ht),a_l (j:=0) rfl,m,L,W,B,u,rfl,hM.same sm3,hMa,hB.cu,_,rfl,?_⟩
   rw [hB.yes]
   refine iteT ⟨_,rfl,_,rfl,t,_,_,_,rfl,rfl,SqT.of (sm3 _ _ ht),a_l (j:=1) rfl,m,L,W,B,v,rfl,hM.same sm3,hMa,hB.cv,_,rfl,?_⟩
   rw [hB.no]
   exact q H3 sm3
theorem c_X:a_r ["values","numbers","value"] ["values"] (a_d c_a):=⟨rfl,rfl,rfl,by decide +kernel,rfl,by decide +kernel,by decide +kernel⟩
theorem ok_numbered (F:Fun K "numbered" "numbered" c_a f fd) (T:Txt K mg):FnOk P w K mg base CX0 1 f fd ["values"] sp_numbered:=by
 refine F.ok c_X (fun vs H Q E h=>?_) (fun cdv A outer s H vs Q E hr h=>?_)
 ·obtain ⟨a,o,xs,ks,nest,rfl,_⟩:=h
  rfl
 ·obtain ⟨a,o,xs,ks,nest,rfl,ho,hH,hl,h1000,hk,q⟩:=h
  refine ⟨_,(a_b ((a_k (i:=1) c_X.nd rfl (Or.inr rfl) (pe_dnew))) (a_b ((b_s PassesOwn.never rfl (e_i (pv 0)) (a_B (i:=2) c_X.nd rfl (Or.inl rfl)) ((a_e ((b_v (a_C (op_notinD hr.units) (pv 2) (pv 1) (by with_unfolding_all rfl)) ((a_e (ps_asg (a_n call_lenD (by rfl) T.len PySem.boot_len (a_a (pv 1) a_c)) (pg_sub (pv 1) (pv 2) (set_dictG hr.units))))) (a_E))))))) (a_e (a_p (b_r ["values","numbers","?"] rfl (by decide) (e_i (pv 0)) (fun cl C fp s' H'=>⟨b_E,a_q (ix_dictGK P w hr.units) (pv 2) (pv 0) (fun _ _=>rfl)⟩)))))),?_⟩
  have hz:xs.length≤sizeLine:=a_g (by rw [hl];exact Nat.le_trans h1000 (by decide))
  have keyOf:∀{i:Nat} {x:V},xs[i]?=some x->∃k,ks[i]?=some k/\KeyV H k x/\isN k=nest:=fun {i x} hx=>by
   have hi:i<ks.length:=by rw [<- hl];exact (List.getElem?_eq_some_iff.mp hx).1
   exact ⟨ks[i],List.getElem?_eq_getElem hi,hk i _ x (List.getElem?_eq_getElem hi) hx⟩
  refine ⟨if nest=true then .nest else .bl,fun d hd=>?_⟩
  refine ⟨_,rfl,a,o,xs,rfl,ho,a_f hH hd,fun J ov=>for_over ov (fun i σ' H'=>∃v0 ob,σ'=[some (.ref a),some (.ref d),v0]/\H'=L2.upd H d ob/\NumAt P w H' d nest (ks.take i)) ⟨none,_,rfl,rfl,NumAt.new P w H d nest⟩ ?_ ?_ ?_⟩
  ·rintro i σ' H' ⟨v0,ob,rfl,rfl,_⟩
   exact a_f hH hd
  ·rintro i x σ' H' hx ⟨v0,ob,rfl,rfl,hn⟩
   obtain ⟨k,hki,hkv,hkn⟩:=keyOf hx
   have hkv':KeyV (L2.upd H d ob) k x:=hkv.stay fun b ys z=>a_f z hd
   refine ⟨_,rfl,_,rfl,d,_,rfl,hn.get hkv' hkn,_,rfl,?_⟩
   by_cases hm:k∈dis (ks.take i)
   ·rw [show (!(numO (ks.take i) k).isSome)=false by rw [numO,if_pos hm];rfl]
    refine iteF ⟨_,_,rfl,rfl,?_⟩
    rw [a_T hki]
    exact hn.same hm
   ·rw [show (!(numO (ks.take i) k).isSome)=true by rw [numO,if_neg hm];rfl]
    have hdl:(dis (ks.take i)).length<sizeLine:=by
     have h1:=dis_len (ks.take i)
     have h2:(ks.take i).length≤1000:=by rw [List.length_take];exact Nat.le_trans (Nat.min_le_right _ _) h1000
     exact a_I (Nat.le_trans h1 h2)
    obtain ⟨ob2,hput,hn2⟩:=hn.put hkv' hkn hm hdl
    refine iteT ⟨_,rfl,d,_,rfl,hn.len,_,rfl,_,rfl,d,_,rfl,hput,?_⟩
    refine ⟨some x,ob2,rfl,d_x,?_⟩
    rw [a_T hki]
    exact hn2
  ·rintro σ' H' ⟨v0,ob,rfl,rfl,hn⟩
   rw [hl,List.take_length] at hn
   have hH1:L2.upd H d ob a=some o:=a_f hH hd
   have sm1:Same H (L2.upd H d ob):=Same.upd hd
   refine ⟨_,rfl,a,o,xs,rfl,ho,hH1,fun J ov=>comp_over ov hH1 (fun D j ys H'=>ys=(intsV (numF ks)).take j) hz (fun D hD=>by simp) ?_ ?_⟩
   ·intro D j x ys H' R1 R2 hD hx hsm hDl hp k1 k2
    obtain ⟨k,hki,hkv,hkn⟩:=keyOf hx
    have hm:k∈dis ks:=mem_dis.mpr (List.mem_of_getElem? hki)
    have hg:=(hn.mono hsm).get (hkv.stay fun b ys z=>(sm1.trans hsm) _ _ z) hkn
    rw [show numO ks k=some _ from if_pos hm] at hg
    refine tAlways_if ⟨_,rfl,_,rfl,d,_,rfl,hg,k1 _ H' hDl (Same.set hsm hD) ?_⟩
    rw [hp]
    refine (a_T ?_).symm
    rw [intsV,numF,List.map_map,List.getElem?_map,hki]
    rfl
   ·intro D ys H' hD hsm hDl hp
    refine q D H' (sm1.trans hsm) ?_
    rw [hDl,hp,hl,List.take_of_length_le (by rw [intsV_len,d_l];exact Nat.le_refl _)]
theorem sc_many_lots:a_r ["lots"] ["lots"] (a_d b_M):=⟨rfl,rfl,rfl,by decide +kernel,rfl,by decide +kernel,by decide +kernel⟩
theorem ok_many_lots (F:Fun K "many_lots" "many_lots" b_M f fd) (T:Txt K mg):FnOk P w K mg base CX0 1 f fd ["lots"] sp_manyM:=by
 refine F.ok sc_many_lots (fun vs H Q E h=>?_) (fun cdv A outer s H vs Q E hr h=>?_)
 ·obtain ⟨a,ns,rfl,_⟩:=h
  rfl
 ·obtain ⟨a,ns,rfl,hH,hn,q⟩:=h
  refine ⟨_,(a_e (a_p (a_y op_a (a_n (call_maxM rfl) (by rfl) T.max PyProof.Rows.boot_max (a_a (pv 0) a_c)) pe_int))),?_⟩
  refine ⟨_,rfl,a,zs ns,rfl,by rw [hH,d_q],by rw [zs_len];exact hn,fun M hM hmx=>⟨_,_,rfl,rfl,?_⟩⟩
  obtain ⟨m,hm,rfl⟩:=List.mem_map.mp hM
  exact q m hm fun x hx=>Int.ofNat_le.mp (hmx _ (List.mem_map.mpr ⟨x,hx,rfl⟩))
theorem c_i:a_r ["ways","marks","most","rounds","lots","finer"] ["ways","marks","most"] (a_d b_K):=⟨rfl,rfl,rfl,by decide +kernel,rfl,by decide +kernel,by decide +kernel⟩
theorem ok_rounds_of (F:Fun K "rounds_of" "rounds_of" b_K f fd) (T:Txt K mg) (d_numbered:Df P w K mg base "numbered" 1 ["values"] sp_numbered) (d_many_lots:Df P w K mg base "many_lots" 1 ["lots"] sp_manyM):FnOk P w K mg base CX0 2 f fd ["ways","marks","most"] sp_roundsQ:=by
 refine F.ok c_i (fun vs H Q E h=>?_) (fun cdv A outer s H vs Q E hr h=>?_)
 ·obtain ⟨wy,mk,rows,o,om,L,W,B,rfl,_⟩:=h
  rfl
 ·obtain ⟨wy,mk,rows,o,om,L,W,B,rfl,ho,hwy,hom,hmk,hrl,hrows,hMa,q⟩:=h
  refine ⟨_,(a_b ((a_k (i:=3) c_i.nd rfl (Or.inl rfl) (b_l (a_a (a_M d_numbered hr (a_a (pv 1) a_c)) a_c)))) (a_b (f_G PassesOwn.never (a_C op_le (a_M d_many_lots hr (a_a (a_q a_P (pv 3) (pe_un un_neg pe_int) (fun _ _=>rfl)) a_c)) (pv 2) (a_Q _)) (a_b ((a_k (i:=4) c_i.nd rfl (Or.inr rfl) (a_q a_P (pv 3) (pe_un un_neg pe_int) (fun _ _=>rfl)))) (a_b ((a_k (i:=5) c_i.nd rfl (Or.inl rfl) ((a_M d_numbered hr (a_a (pe_comp2 ["ways","marks","most","rounds","lots","finer"] rfl (by decide) (pi_enumQ rfl T.enumerate (a_a (pv 0) a_c)) (fun cl C fp s' H'=>b_U (a_a (a_q (c_R K) (pv 6) (pv 0) (fun _ _=>rfl)) (a_a (a_G (e_H K) (by rfl) T.tuple PyProof.Rows.boot_tuple (a_a (b_r ["room","row","ways","marks","most","rounds","lots","finer"] rfl (show List.Nodup (["goal","room","row","ways","marks","most","rounds","lots","finer"]:List Str) by decide) (e_i (pv 1)) (fun cl C fp s' H'=>⟨b_E,a_q (c_R K) (pv 7) (pv 0) (fun _ _=>rfl)⟩)) a_c)) a_c)))) a_c))))) (a_b ((b_v (a_C (op_eqI hr.units0) (pv 5) (pv 4) (a_Q _)) ((a_e (ps_break))) (a_E))) (a_e (a_X (b_V PySem.F.plainAttrs_list PySem.F.slot_list_append PySem.F.type_list_append a_u (pv 3) (a_a (pv 5) a_c)))))))) (a_e (a_p (pv 3))))),?_⟩
  have hn60:=hMa.n60
  have hn1:=hMa.n1
  refine ⟨_,rfl,mk,_,B.map V.bl,B.map (fun b=>(KS.inl b:KS)),false,rfl,hom,hmk,by rw [List.length_map,List.length_map],by rw [List.length_map,hMa.bl];exact Nat.le_trans hn60 (by decide),?_,fun p0 H1 s1 hp0=>⟨a_g (by show 1≤16777216;decide),fun p hp=>?_⟩⟩
  ·intro i k x hk hx
   rw [List.getElem?_map] at hk hx
   cases hb:B[i]? with
   | none=>rw [hb] at hk;cases hk
   | some b=>rw [hb] at hk hx;cases hk;cases hx;exact ⟨rfl,rfl⟩
  rw [numF_inl] at hp0
  have hpH:H p=none:=b_t s1 hp
  refine ⟨RInv H wy mk p W B,⟨_,0,[p0],none,none,rfl,rfl,s1.trans (Same.upd hp),upd_same,rfl,?_,fun i hi=>absurd hi (Nat.not_lt_zero _)⟩,?_⟩
  ·intro i r e
   match i,e with
   | 0,e=>cases e;exact a_f hp0 hp
   | n+1,e=>simp at e
  rintro m σ' H' ⟨k,lots,s4,s5,rfl,rfl,sm,hpl,hll,hlots,hne⟩
  have hk:=few_rounds hMa hne
  obtain ⟨la,hla⟩:∃la,lots[k]?=some la:=⟨lots[k]'(by rw [hll];exact Nat.lt_succ_self k),List.getElem?_eq_getElem _⟩
  have hla1:=hlots k la hla
  have hat:=atI_lastG hll hla
  have hlen:=f_l hMa k
  refine ⟨_,rfl,_,rfl,p,_,_,_,rfl,rfl,SqL.of hpl,hat,la,Rd W B k,rfl,hla1,by rw [hlen];exact hn1,fun M hM _=>⟨_,rfl,_,_,rfl,rfl,_,rfl,?_⟩⟩
  have hM2:=Rd_lt hMa hM
  refine iteD (show ((M:Int)+1)≤((W.length:Nat):Int) from Int.ofNat_le.mpr hM2) ?_
  refine ⟨fun σ2 H2=>Rd W B (k+1)≠Rd W B k/\RInv H wy mk p W B (twins W.length (Rd W B (k+1))) σ2 H2,fun σ2 H2 h=>⟨_,twins_lt hMa h.1,h.2⟩,?_⟩
  refine ⟨_,rfl,_,rfl,p,_,_,_,rfl,rfl,SqL.of hpl,hat,?_⟩
  dsimp only [c_x]
  dsimp only [tNext,tSeq,tAsg,c_V,c_C,tBM,tCB]
  refine comp2_enumQ (c:=wy) (fun R h=>⟨_,rfl,h⟩) ho (sm _ _ hwy) (fun D i ys H2=>∃ps:List Addr,ys=ps.map V.ref/\ps.length=i/\∀(j:Nat) (t:Addr),ps[j]?=some t->NIn H2 (keyAt W (Rd W B k) j) t) (by rw [List.length_map,hrl];exact a_g (Nat.le_trans hn60 (by decide))) (fun D hD=>⟨[],rfl,rfl,fun j t e=>by simp at e⟩) ?_ ?_
  ·intro D i x ys H2 H3 R1 hD hx hsm hDl hp hsm3 k1
   obtain ⟨ps,rfl,hpsl,hps⟩:=hp
   rw [List.getElem?_map] at hx
   obtain ⟨rr,hrr,rfl⟩:=Option.map_eq_some_iff.mp hx
   have hi:i<W.length:=by rw [<- hrl];exact (List.getElem?_eq_some_iff.mp hrr).1
   obtain ⟨ws,hws,orw,horw,hrow⟩:=hrows i rr hrr
   have s3:Same H H3:=(sm.trans hsm).trans hsm3
   have hrow3:=s3 _ _ hrow
   have hla3:H3 la=some (.lst (intsV (Rd W B k))):=hsm3 _ _ (hsm _ _ hla1)
   have ew:W.getD i []=ws:=by rw [List.getD_eq_getElem?_getD,hws];rfl
   obtain ⟨hwl,hwb⟩:=hMa.row ws (List.mem_of_getElem? hws)
   have hL3:=hMa.lt.hi
   refine ⟨_,rfl,_,rfl,la,_,_,_,rfl,rfl,SqL.of hla3,d_v (by rw [hlen];exact hi),?_⟩
   dsimp only [tNext,tSeq,tAsg,c_V,c_C,tBM,tCB]
   refine c_y (a:=rr) (fun R h=>⟨_,rfl,h⟩) horw hrow3 (fun D2 j zs2 H4=>zs2=(intsV (ws.map fun g=>(Rd W B k).getD g 0)).take j) (by rw [intsV_len,hwl];exact a_g (Nat.le_trans hL3 (by decide))) (fun D2 hD2=>by simp) ?_ ?_
   ·intro D2 j y zs2 H4 R3 R4 hD2 hy hsm4 hD2l hp2 k3 k4
    have hj:j<ws.length:=by have:=(List.getElem?_eq_some_iff.mp hy).1;rwa [intsV_len] at this
    rw [b_m hj] at hy
    cases hy
    refine tAlways_if ⟨_,rfl,_,rfl,la,_,_,_,rfl,rfl,SqL.of (hsm4 _ _ hla3),d_v (by rw [hlen];exact hwb _ (getD_in hj)),k3 _ H4 hD2l (Same.set hsm4 hD2) ?_⟩
    rw [hp2]
    refine (a_T ?_).symm
    rw [b_m (by rw [List.length_map];exact hj),map_getD hj]
   ·intro D2 zs2 H4 hD2 hsm4 hD2l hp2
    rw [intsV_len,List.take_of_length_le (by rw [intsV_len,List.length_map];exact Nat.le_refl _)] at hp2
    subst hp2
    refine ⟨D2,_,rfl,.inl ⟨SqL.of hD2l,fun b hb=>⟨a_g (by show 2≤16777216;decide),fun t ht=>?_⟩⟩⟩
    have s5:=hsm4.trans ((Same.upd (o:=.tup (intsV (ws.map fun g=>(Rd W B k).getD g 0))) hb).trans (Same.upd (o:=.tup [.int (((Rd W B k).getD i 0:Nat):Int),.ref b]) ht))
    have hD5:=s5 _ _ (hsm3 _ _ hDl)
    refine k1 (.ref t) _ hD5 (Same.set (hsm.trans (hsm3.trans s5)) hD) ⟨ps++[t],by rw [List.map_append];rfl,by rw [List.length_append,hpsl];rfl,fun j u e=>?_⟩
    by_cases hj:j<ps.length
    ·rw [List.getElem?_append_left hj] at e
     exact nin_stay (fun c cs z=>a_S ((hsm3.trans s5) _ _ z) hD5 (by intro z;cases z)) (hps j u e)
    ·rw [List.getElem?_append_right (Nat.le_of_not_lt hj)] at e
     have hj0:j=i:=(ar_at hj (List.getElem?_eq_some_iff.mp e).1).trans hpsl
     subst hj0
     rw [hpsl,Nat.sub_self] at e
     have et:t=u:=by simpa using e
     subst et
     have ek:(zs (keyAt W (Rd W B k) j).2).map V.int=intsV (ws.map fun g=>(Rd W B k).getD g 0):=by
      rw [<- d_q]
      show intsV ((W.getD j []).map _)=_
      rw [ew]
     refine ⟨b,a_S upd_same hD5 (by intro z;cases z),?_⟩
     rw [ek]
     exact a_S (a_f upd_same ht) hD5 (by intro z;cases z)
  intro D ys H2 hD hsm hDl hp
  obtain ⟨ps,rfl,hpsl,hps⟩:=hp
  refine ⟨D,_,ps.map V.ref,(d_p W (Rd W B k)).map (fun x=>(KS.inr x:KS)),true,rfl,.inl rfl,hDl,by rw [List.length_map,List.length_map,a_O,hpsl,List.length_map,hrl],by rw [List.length_map,a_O];exact Nat.le_trans hn60 (by decide),?_,fun fa H4 s4' hfa=>?_⟩
  ·intro i kk x hk hx
   rw [List.getElem?_map] at hk hx
   obtain ⟨nk,e1,rfl⟩:=Option.map_eq_some_iff.mp hk
   obtain ⟨t,e2,rfl⟩:=Option.map_eq_some_iff.mp hx
   have hi:i<W.length:=by have:=(List.getElem?_eq_some_iff.mp e1).1;rwa [a_O] at this
   rw [d_H hi] at e1
   cases e1
   exact ⟨⟨t,rfl,hps i t e2⟩,rfl⟩
  rw [numF_inr] at hfa
  have hfa':H4 fa=some (.lst (intsV (Rd W B (k+1)))):=hfa
  have sm4:Same H H4:=sm.trans (hsm.trans s4')
  have la4:=(hsm.trans s4') _ _ hla1
  have p4:=(hsm.trans s4') _ _ hpl
  have lots4:=hlots.same (hsm.trans s4')
  refine ⟨_,rfl,_,rfl,fa,la,zs (Rd W B (k+1)),zs (Rd W B k),rfl,rfl,by rw [hfa',d_q],by rw [la4,d_q],by rw [zs_len,zs_len,f_l hMa,f_l hMa],_,rfl,ite3 (fun he=>?_) (fun he=>?_)⟩
  ·exact ⟨_,rfl,q p lots k H4 sm4 p4 hll lots4 (zs_inj he) hk⟩
  have he':Rd W B (k+1)≠Rd W B k:=fun z=>he (by rw [z])
  have hl0:lots≠[]:=by
   intro z
   rw [z] at hll
   simp at hll
  refine ⟨_,rfl,.inl ⟨rfl,_,SqL.of p4⟩,_,rfl,p,_,_,rfl,rfl,p4,?_,he',k+1,lots++[fa],_,_,rfl,rfl,Same.set sm4 hpH,?_,?_,?_,?_⟩
  ·rw [List.length_map,hll]
   exact ar_k hk
  ·rw [upd_same,List.map_append]
   rfl
  ·rw [List.length_append,hll]
   rfl
  ·intro i r e
   by_cases hi:i<lots.length
   ·rw [List.getElem?_append_left hi] at e
    have h1:=lots4 i r e
    rw [upd_ne (lots_ne h1 p4 hl0)]
    exact h1
   ·rw [List.getElem?_append_right (Nat.le_of_not_lt hi)] at e
    have hi0:i=k+1:=(ar_at hi (List.getElem?_eq_some_iff.mp e).1).trans hll
    subst hi0
    rw [hll,Nat.sub_self] at e
    have et:fa=r:=by simpa using e
    subst et
    rw [upd_ne (lots_ne hfa' p4 hl0)]
    exact hfa'
  ·intro i hi
   by_cases h:i=k
   ·subst h
    exact he'
   ·exact hne i (ar_lt hi h)
theorem e_M:a_r ["lots"] ["lots"] (a_d b_p):=⟨rfl,rfl,rfl,by decide +kernel,rfl,by decide +kernel,by decide +kernel⟩
theorem e_P (F:Fun K "first_rooms" "first_rooms" b_p f fd) (T:Txt K mg) (d_many_lots:Df P w K mg base "many_lots" 1 ["lots"] sp_manyM):FnOk P w K mg base CX0 2 f fd ["lots"] sp_firstrooms:=by
 refine F.ok e_M (fun vs H Q E h=>?_) (fun cdv A outer s H vs Q E hr h=>?_)
 ·obtain ⟨a,ns,rfl,_⟩:=h
  rfl
 ·obtain ⟨a,ns,rfl,hH,hn,h60,hx60,hdn,q⟩:=h
  refine ⟨_,(a_e (a_p (b_r ["lots"] rfl (by decide) (b_T rfl T.range (a_a (a_M d_many_lots hr (a_a (pv 0) a_c)) a_c)) (fun cl C fp s' H'=>⟨b_E,pe_indexI K (pv 1) (a_a (pv 0) a_c)⟩)))),?_⟩
  obtain ⟨M,hM,hmx⟩:=max_of hn
  have hM60:=hx60 M hM
  dsimp only [tRet,c_x,tNext,tSeq,tAsg,c_V,c_C,tBM,tCB]
  refine e_F (n:=M+1) (fun R h=>⟨_,rfl,a,ns,rfl,hH,hn,fun M2 hM2 hmx2=>?_⟩) (by omega) (fun D j ys H'=>ys=intsV ((List.range j).map fun j=>ns.idxOf j)) (fun D hD=>rfl) ?_ ?_
  ·have e:M2=M:=Nat.le_antisymm (hmx M2 hM2) (hmx2 M hM)
   rw [e]
   exact h
  ·intro D j ys H' R1 R2 hD hj hsm hDl hp k1 k2
   refine tAlways_if ⟨_,rfl,.inl ⟨rfl,_,SqL.of (hsm _ _ hH)⟩,_,rfl,a,zs ns,(0+(j:Int)),rfl,rfl,by rw [<- d_q];exact hsm _ _ hH,?_,?_⟩
   ·rw [Int.zero_add]
    exact List.mem_map.mpr ⟨j,hdn M j hM (Nat.le_of_lt_succ hj),rfl⟩
   ·rw [Int.zero_add,zs_idx]
    refine k1 _ H' hDl (Same.set hsm hD) ?_
    rw [hp,List.range_succ,List.map_append]
    exact (b_D _ _).symm
  ·intro D ys H' hD hsm hDl hp
   subst hp
   exact q (M+1) D H' ⟨Nat.succ_pos M,fun x hx=>Nat.lt_succ_of_le (hmx x hx),fun j hj=>hdn M j hM (Nat.le_of_lt_succ hj)⟩ hsm hD hDl
theorem d_i:a_r ["walk","lots","rooms","ways","marks"] ["walk","lots"] (a_d c_P):=⟨rfl,rfl,rfl,by decide +kernel,rfl,by decide +kernel,by decide +kernel⟩
theorem ok_folded (F:Fun K "folded" "folded" c_P f fd) (T:Txt K mg) (WK:WkK K cW) (d_first_rooms:Df P w K mg base "first_rooms" 2 ["lots"] sp_firstrooms):FnOk P w K mg base CX0 3 f fd ["walk","lots"] (e_b cW):=by
 refine F.ok d_i (fun vs H Q E h=>?_) (fun cdv A outer s H vs Q E hr h=>?_)
 ·obtain ⟨wk,t,wd,y,md,lo,rows,L,R,Bm,k,rfl,_⟩:=h
  rfl
 ·obtain ⟨wk,t,wd,y,md,lo,rows,L,R,Bm,k,rfl,hW,hy,hwr,hmd,hMa,hlo,q⟩:=h
  refine ⟨_,(a_b ((a_k (i:=2) d_i.nd rfl (Or.inl rfl) ((a_M d_first_rooms hr (a_a (pv 1) a_c))))) (a_b (e_g ["walk","lots","rooms","ways","marks"] (j:=3) rfl d_i.nd (by decide) rfl (Or.inl rfl) (e_i (pv 2)) (fun cl C fp s' H'=>⟨b_E,a_G (e_H K) (by rfl) T.tuple PyProof.Rows.boot_tuple (a_a (b_r ["room","walk","lots","rooms","ways","marks"] rfl (show List.Nodup (["goal","room","walk","lots","rooms","ways","marks"]:List Str) by decide) (e_i (a_q (c_R K) (pe_fldK (f:="ways") K (pv 1) rfl) (pv 0) (fun _ _=>rfl))) (fun cl C fp s' H'=>⟨b_E,a_q (c_R K) (pv 3) (pv 0) (fun _ _=>rfl)⟩)) a_c)⟩)) (a_b (e_g ["walk","lots","rooms","ways","marks"] (j:=4) rfl d_i.nd (by decide) rfl (Or.inl rfl) (e_i (pv 2)) (fun cl C fp s' H'=>⟨b_E,a_q (c_R K) (pe_fldK (f:="marks") K (pv 1) rfl) (pv 0) (fun _ _=>rfl)⟩)) (a_e (a_p (b_U (a_a (b_a (f:="letters") (pv 0) rfl) (a_a (a_G a_o (by rfl) T.tuple PyProof.Rows.boot_tuple (a_a (pv 3) a_c)) (a_a (a_G a_o (by rfl) T.tuple PyProof.Rows.boot_tuple (a_a (pv 4) a_c)) a_c))))))))),?_⟩
  obtain ⟨dx,ew⟩:=hW.ex
  have hn60:=hMa.n60
  have hll:=f_l hMa k
  refine ⟨_,rfl,lo,Rd R Bm k,rfl,hlo,by rw [hll];exact hMa.n1,by rw [hll];exact hn60,fun x hx=>Nat.lt_of_lt_of_le (Rd_lt hMa hx) hn60,fun M j hM hj=>Rd_down hM hj,fun m p H1 hm s1 hpn hp=>?_⟩
  have hm60:m≤60:=by
   have:=Rd_lt hMa (hm.has (m - 1) (by have:=hm.pos;omega))
   have:=hm.pos
   omega
  have hpl:(intsV ((List.range m).map fun j=>(Rd R Bm k).idxOf j)).length=m:=by rw [intsV_len,List.length_map,List.length_range]
  have room:∀{j:Nat} {x:V},(intsV ((List.range m).map fun j=>(Rd R Bm k).idxOf j))[j]?=some x->j<m/\x=.int (((Rd R Bm k).idxOf j:Nat):Int):=fun {j x} e=>by
   have hj:j<m:=by have:=(List.getElem?_eq_some_iff.mp e).1;rwa [hpl] at this
   rw [b_m (by rw [List.length_map,List.length_range];exact hj)] at e
   cases e
   refine ⟨hj,?_⟩
   rw [List.getD_eq_getElem?_getD,List.getElem?_map,List.getElem?_range hj]
   rfl
  dsimp only [c_x]
  dsimp only [tNext,tSeq,tAsg,c_V,c_C,tBM,tCB]
  refine c_y (a:=p) (fun R h=>⟨_,rfl,h⟩) (.inl rfl) hp (fun D j ys H'=>∃ps:List Addr,ys=ps.map V.ref/\ps.length=j/\∀(i:Nat) (t:Addr),ps[i]?=some t->i<m/\H' t=some (.tup (intsV ((c_m R (Rd R Bm k) m).getD i [])))) (by rw [hpl];exact a_g (Nat.le_trans hm60 (by decide))) (fun D hD=>⟨[],rfl,rfl,fun i t e=>by simp at e⟩) ?_ ?_
  ·intro D j x ys H' R1 R2 hD hx hsm hDl hpv k1 k2
   obtain ⟨ps,rfl,hpsl,hps⟩:=hpv
   obtain ⟨hj,rfl⟩:=room hx
   obtain ⟨f1,f2⟩:=fr_at hm hMa hj
   have s2:=s1.trans hsm
   obtain ⟨ra,hra⟩:∃ra,rows[(Rd R Bm k).idxOf j]?=some ra:=⟨rows[(Rd R Bm k).idxOf j]'(by rw [hwr.1];exact f1),List.getElem?_eq_getElem _⟩
   have hraH:=s2 _ _ (hwr.2 _ ra _ hra (List.getElem?_eq_getElem f1))
   obtain ⟨hwl,hwb⟩:=hMa.row _ (List.getElem_mem f1)
   refine tAlways_if ?_
   dsimp only [tNext,tSeq,tAsg,c_V,c_C,tBM,tCB]
   refine c_y (a:=ra) (fun R h=>⟨_,rfl,wk,cW,dx,_,_,rfl,s2 _ _ ew,WK.cls,WK.na4,rfl,_,rfl,y,_,_,_,rfl,rfl,SqL.of (s2 _ _ hy),c_g V.ref hra,h⟩) (.inl rfl) hraH (fun D2 i zs2 H4=>zs2=(intsV (R[(Rd R Bm k).idxOf j].map fun g=>(Rd R Bm k).getD g 0)).take i) (by rw [intsV_len,hwl];exact a_g (Nat.le_trans hMa.lt.hi (by decide))) (fun D2 hD2=>by simp) ?_ ?_
   ·intro D2 i y2 zs2 H4 R3 R4 hD2 hy2 hsm4 hD2l hp2 k3 k4
    have hi:i<R[(Rd R Bm k).idxOf j].length:=by have:=(List.getElem?_eq_some_iff.mp hy2).1;rwa [intsV_len] at this
    rw [b_m hi] at hy2
    cases hy2
    refine tAlways_if ⟨_,rfl,_,rfl,lo,_,_,_,rfl,rfl,SqL.of (hsm4 _ _ (s2 _ _ hlo)),d_v (by rw [hll];exact hwb _ (getD_in hi)),k3 _ H4 hD2l (Same.set hsm4 hD2) ?_⟩
    rw [hp2]
    refine (a_T ?_).symm
    rw [b_m (by rw [List.length_map];exact hi),map_getD hi]
   ·intro D2 zs2 H4 hD2 hsm4 hD2l hp2
    rw [intsV_len,List.take_of_length_le (by rw [intsV_len,List.length_map];exact Nat.le_refl _)] at hp2
    subst hp2
    refine ⟨D2,_,rfl,.inl ⟨SqL.of hD2l,fun b hb=>?_⟩⟩
    have s5:=hsm4.trans (Same.upd (o:=.tup (intsV (R[(Rd R Bm k).idxOf j].map fun g=>(Rd R Bm k).getD g 0))) hb)
    refine k1 (.ref b) _ (s5 _ _ hDl) (Same.set (hsm.trans s5) hD) ⟨ps++[b],by rw [List.map_append];rfl,by rw [List.length_append,hpsl];rfl,fun i u e=>?_⟩
    have hD5:=s5 _ _ hDl
    rcases c_f e with z | ⟨rfl,rfl⟩
    ·obtain ⟨a1,a2⟩:=hps i u z
     exact ⟨a1,a_S (s5 _ _ a2) hD5 (by intro z;cases z)⟩
    ·rw [hpsl]
     refine ⟨hj,a_S ?_ hD5 (by intro z;cases z)⟩
     rw [upd_same,foldW_get hj,List.getD_eq_getElem?_getD,List.getElem?_eq_getElem f1]
     rfl
  intro Dw ys H2 hDw hsm2 hDwl hpv
  obtain ⟨ps,rfl,hpsl,hps⟩:=hpv
  rw [hpl] at hpsl
  have hp2:=hsm2 _ _ hp
  have s2:=s1.trans hsm2
  dsimp only [c_x]
  dsimp only [tNext,tSeq,tAsg,c_V,c_C,tBM,tCB]
  refine c_y (a:=p) (fun R h=>⟨_,rfl,h⟩) (.inl rfl) hp2 (fun D j ys H'=>ys=((d_O Bm (Rd R Bm k) m).map V.bl).take j) (by rw [hpl];exact a_g (Nat.le_trans hm60 (by decide))) (fun D hD=>by simp) ?_ ?_
  ·intro D j x ys H' R1 R2 hD hx hsm hDl hpv k1 k2
   obtain ⟨hj,rfl⟩:=room hx
   obtain ⟨f1,f2⟩:=fr_at hm hMa hj
   have s3:=s2.trans hsm
   refine tAlways_if ⟨_,rfl,wk,cW,dx,_,_,rfl,s3 _ _ ew,WK.cls,WK.na5,rfl,_,rfl,md,_,_,_,rfl,rfl,SqL.of (s3 _ _ hmd),c_I (by rw [hMa.bl];exact f1),k1 _ H' hDl (Same.set hsm hD) ?_⟩
   rw [hpv]
   refine (a_T ?_).symm
   rw [List.getElem?_map,d_O,List.getElem?_map,List.getElem?_range hj]
   rfl
  intro Dm ys H3 hDm hsm3 hDml hpv
  rw [hpl,List.take_of_length_le (by rw [List.length_map,d_O,List.length_map,List.length_range];exact Nat.le_refl _)] at hpv
  subst hpv
  have s3:=s2.trans hsm3
  refine ⟨_,rfl,wk,cW,dx,_,_,rfl,s3 _ _ ew,WK.cls,WK.na1,rfl,?_⟩
  refine ⟨_,rfl,Dw,_,rfl,.inl ⟨SqL.of (hsm3 _ _ hDwl),fun tw htw=>?_⟩⟩
  refine ⟨_,rfl,Dm,_,rfl,.inl ⟨SqL.of (a_f hDml htw),fun tm htm=>⟨a_g (by show 3≤16777216;decide),fun f hf=>?_⟩⟩⟩
  have u1:Same H3 (L2.upd H3 tw (.tup (ps.map V.ref))):=Same.upd htw
  have u2:=u1.trans (Same.upd (o:=.tup ((d_O Bm (Rd R Bm k) m).map V.bl)) htm)
  have u3:=u2.trans (Same.upd (o:=.tup [.str (tx L),.ref tw,.ref tm]) hf)
  refine q m f _ hm (s3.trans u3) (b_t (s3.trans u2) hf) ⟨tw,tm,ps,upd_same,a_f (a_f upd_same htm) hf,a_f upd_same hf,by rw [hpsl,c_m,List.length_map,List.length_range],fun i r e=>?_⟩
  obtain ⟨a1,a2⟩:=hps i r e
  refine ⟨(c_m R (Rd R Bm k) m).getD i [],?_,(hsm3.trans u3) _ _ a2⟩
  rw [List.getD_eq_getElem?_getD,c_m,List.getElem?_map,List.getElem?_range a1]
  rfl
theorem f_y:a_r ["machine","walk","rounds"] ["machine"] (a_d d_z):=⟨rfl,rfl,rfl,by decide +kernel,rfl,by decide +kernel,by decide +kernel⟩
theorem ok_least (F:Fun K "least" "least" d_z f fd) (T:Txt K mg) (WK:WkK K cW) (d_walked_machine:Df P w K mg base "walked_machine" 6 ["machine"] (f_p cW P0 sites)) (d_rounds_of:Df P w K mg base "rounds_of" 2 ["ways","marks","most"] sp_roundsQ) (d_folded:Df P w K mg base "folded" 3 ["walk","lots"] (e_b cW)):FnOk P w K mg base CX0 7 f fd ["machine"] (f_s P0 sites):=by
 refine F.ok f_y (fun vs H Q E h=>?_) (fun cdv A outer s H vs Q E hr h=>?_)
 ·obtain ⟨m,L,W,B,rfl,_⟩:=h
  rfl
 ·obtain ⟨m,L,W,B,rfl,hM,hMa,hT,q⟩:=h
  have hr2:=hr.mono (j:=2) (by decide)
  have hr3:=hr.mono (j:=3) (by decide)
  refine ⟨_,(a_b ((a_k (i:=1) f_y.nd rfl (Or.inl rfl) ((a_M d_walked_machine hr (a_a (pv 0) a_c))))) (a_b ((a_k (i:=2) f_y.nd rfl (Or.inl rfl) ((a_M d_rounds_of hr2 (a_a ((b_a (f:="ways") (pv 1) rfl)) (a_a ((b_a (f:="marks") (pv 1) rfl)) (a_a ((a_n a_t (by rfl) T.len PySem.boot_len (a_a ((b_a (f:="ways") (pv 1) rfl)) a_c))) a_c))))))) (a_e (a_p (a_M d_folded hr3 (a_a (pv 1) (a_a (a_q a_P (pv 2) (pe_un un_neg pe_int) (fun _ _=>rfl)) a_c))))))),?_⟩
  refine ⟨_,rfl,m,L,W,B,rfl,hM,hMa,hT,fun wk t wd y md ks vks ws rows R Bm H1 s1 hT1 hW ht hth hwd hy hwr hmd bf ways hR bl mks sub le=>?_⟩
  have hRM:=walk_mach hMa bf ways hR bl le
  obtain ⟨dx,ew⟩:=hW.ex
  refine ⟨_,rfl,wk,cW,dx,_,_,rfl,ew,WK.cls,WK.na4,rfl,_,rfl,wk,cW,dx,_,_,rfl,ew,WK.cls,WK.na5,rfl,_,rfl,wk,cW,dx,_,_,rfl,ew,WK.cls,WK.na4,rfl,y,_,rfl,.inl (SqL.of hy),?_⟩
  refine ⟨y,md,rows,_,_,L,R,Bm,by rw [List.length_map,hwr.1];rfl,.inl rfl,hy,.inl rfl,hmd,hwr.1,fun i r e=>?_,hRM,fun p lots k H2 s2 hp hll hlots st hk=>?_⟩
  ·have hi:i<R.length:=by rw [<- hwr.1];exact (List.getElem?_eq_some_iff.mp e).1
   exact ⟨R[i],List.getElem?_eq_getElem hi,_,.inl rfl,hwr.2 i r _ e (List.getElem?_eq_getElem hi)⟩
  obtain ⟨la,hla⟩:∃la,lots[k]?=some la:=⟨lots[k]'(by rw [hll];exact Nat.lt_succ_self k),List.getElem?_eq_getElem _⟩
  have hla1:=hlots k la hla
  have hat:=atI_lastG hll hla
  refine ⟨_,rfl,_,rfl,_,rfl,p,_,_,_,rfl,rfl,SqL.of hp,hat,?_⟩
  refine ⟨wk,t,wd,y,md,la,rows,L,R,Bm,k,rfl,⟨dx,s2 _ _ ew⟩,s2 _ _ hy,⟨hwr.1,fun i a r a1 a2=>s2 _ _ (hwr.2 i a r a1 a2)⟩,s2 _ _ hmd,hRM,hla1,fun mm f H3 hm s3 hf hMf=>?_⟩
  exact q f _ _ H3 (e_e s1 (sameX_of (s2.trans s3))) (c_h (c_h hT1 s2) s3) hMf ⟨ks,ws,R,Bm,k,mm,bf,ways,hR,bl,mks,sub,le,hRM,st,hm,rfl,rfl⟩
theorem f_z:a_r ["walk","one","two"] ["walk","one","two"] (a_d b_x):=⟨rfl,rfl,rfl,by decide +kernel,rfl,by decide +kernel,by decide +kernel⟩
theorem f_J (F:Fun K "in_and_out" "in_and_out" b_x f fd) (T:Txt K mg) (WK:WkK K cW) (WN:b_n K cW "words") (WTH:b_n K cW "things"):FnOk P w K mg base CX0 1 f fd ["walk","one","two"] (f_t cW):=by
 refine F.ok f_z (fun vs H Q E h=>?_) (fun cdv A outer s H vs Q E hr h=>?_)
 ·obtain ⟨wk,t,wd,y,md,L,ws,Bm,i,j,u,v,rfl,_⟩:=h
  rfl
 ·obtain ⟨wk,t,wd,y,md,L,ws,Bm,i,j,u,v,rfl,hW,hwd,hmd,hi,hu,hv,q⟩:=h
  refine ⟨_,(a_b ((b_v (c_p (a_q a_P (b_a (f:="marks") (pv 0) rfl) (pv 1) (fun _ _=>rfl))) ((a_e (a_p (b_U (a_a (a_q a_P (b_a (f:="words") (pv 0) rfl) (pv 1) (fun _ _=>rfl)) (a_a (a_q a_P (b_a (f:="words") (pv 0) rfl) (pv 2) (fun _ _=>rfl)) a_c)))))) (a_E))) (a_e (a_p (b_U (a_a (a_q a_P (b_a (f:="words") (pv 0) rfl) (pv 2) (fun _ _=>rfl)) (a_a (a_q a_P (b_a (f:="words") (pv 0) rfl) (pv 1) (fun _ _=>rfl)) a_c)))))),?_⟩
  obtain ⟨dx,ew⟩:=hW.ex
  have b2:(2:Nat)≤sizeLine:=a_g (by show 2≤16777216;decide)
  have gu:atI (wordsV ws) (i:Int)=some (.str (tx u)):=a_l (by rw [wordsV,List.getElem?_map,hu];rfl)
  have gv:atI (wordsV ws) (j:Int)=some (.str (tx v)):=a_l (by rw [wordsV,List.getElem?_map,hv];rfl)
  refine ⟨_,rfl,wk,cW,dx,_,_,rfl,ew,WK.cls,WK.na5,rfl,_,rfl,md,_,_,_,rfl,rfl,SqL.of hmd,c_I hi,_,rfl,?_⟩
  cases e:Bm.getD i false with
  | true=>
   refine iteT ⟨_,rfl,wk,cW,dx,_,_,rfl,ew,WK.cls,WN,rfl,_,rfl,wd,_,_,_,rfl,rfl,SqL.of hwd,gu,_,rfl,wk,cW,dx,_,_,rfl,ew,WK.cls,WN,rfl,_,rfl,wd,_,_,_,rfl,rfl,SqL.of hwd,gv,b2,fun p hp=>q p _ (Same.upd hp) ?_⟩
   rw [e,if_pos rfl]
   exact upd_same
  | false=>
   refine iteF ⟨_,rfl,wk,cW,dx,_,_,rfl,ew,WK.cls,WN,rfl,_,rfl,wd,_,_,_,rfl,rfl,SqL.of hwd,gv,_,rfl,wk,cW,dx,_,_,rfl,ew,WK.cls,WN,rfl,_,rfl,wd,_,_,_,rfl,rfl,SqL.of hwd,gu,b2,fun p hp=>q p _ (Same.upd hp) ?_⟩
   rw [e,if_neg Bool.false_ne_true]
   exact upd_same
theorem b_c:a_r ["machine","walk","places","place","state","known"] ["machine"] (a_d b_o):=⟨rfl,rfl,rfl,by decide +kernel,rfl,by decide +kernel,by decide +kernel⟩
theorem e_O (F:Fun K "tell_within" "tell_within" b_o f fd) (T:Txt K mg) (WK:WkK K cW) (WN:b_n K cW "words") (WTH:b_n K cW "things") (d_walked_lots:Df P w K mg base "walked_lots" 6 ["machine"] (f_q cW P1 sitesL)) (d_least:Df P w K mg base "least" 7 ["machine"] (f_s P0 sites)) (d_in_and_out:Df P w K mg base "in_and_out" 1 ["walk","one","two"] (f_t cW)):FnOk P w K mg base CX0 8 f fd ["machine"] (c_W P0 P1 sites sitesL):=by
 refine F.ok b_c (fun vs H Q E h=>?_) (fun cdv A outer s H vs Q E hr h=>?_)
 ·obtain ⟨m,L,W,B,rfl,_⟩:=h
  rfl
 ·obtain ⟨m,L,W,B,rfl,hM,hMa,hW8,hT0,hT1,hPP,q⟩:=h
  have hr1:=hr.mono (j:=1) (by decide)
  have hr6:=hr.mono (j:=6) (by decide)
  refine ⟨_,(a_b ((a_k (i:=1) b_c.nd rfl (Or.inr rfl) ((a_M d_walked_lots hr6 (a_a ((a_M d_least hr (a_a (pv 0) a_c))) a_c))))) (a_b ((a_k (i:=2) b_c.nd rfl (Or.inl rfl) (pe_xnew))) (a_b ((b_s PassesOwn.never rfl (pi_enumQ rfl T.enumerate (a_a (b_a (f:="things") (pv 1) rfl) a_c)) (pg_tup rfl (b_Q (a_B (i:=3) b_c.nd rfl (Or.inl rfl)) (b_Q (a_B (i:=4) b_c.nd rfl (Or.inl rfl)) e_j))) (c_Y ((a_k (i:=5) b_c.nd rfl (Or.inl rfl) ((pe_bmX PySem.F.slot_dict_setdefault PySem.F.type_dict_setdefault mt_setdefX (pv 2) (a_a (a_q a_w (pv 4) pe_int (fun _ _=>rfl)) (a_a (pv 3) a_c)))))) (a_e ((b_v (a_C op_ne (a_q a_P (b_a (f:="marks") (pv 1) rfl) (pv 5) (fun _ _=>rfl)) (a_q a_P (b_a (f:="marks") (pv 1) rfl) (pv 3) (fun _ _=>rfl)) (a_Q _)) ((a_e (a_p (b_U (a_a c_A (a_a (a_M d_in_and_out hr1 (a_a (pv 1) (a_a (pv 5) (a_a (pv 3) a_c)))) a_c)))))) (a_E))))))) (a_e (a_p (b_U (a_a c_A (a_a (pe_comp2T ["machine","walk","places","?","state","known"] rfl (by decide) (pi_items (pv 2)) (fun cl C fp s' H'=>⟨f_F (c_p (a_q (c_R K) (pe_fldK (f:="marks") K (pv 3) rfl) (pv 1) (fun _ _=>rfl))),pv 0⟩)) a_c)))))))),?_⟩
  have b2:(2:Nat)≤sizeLine:=a_g (by show 2≤16777216;decide)
  refine ⟨_,rfl,m,L,W,B,rfl,hM,hMa,hT0,fun f W1 B1 H1 s1 hT0' hM1 hLe=>?_⟩
  have hT1':=tab_X s1 hT0 hPP hT1
  refine ⟨f,L,W1,B1,rfl,hM1,hLe.mach,Nat.le_trans hLe.len hW8,hT1',fun wk t wd y md ks vks ws Bm H2 s2 hT2 hW ht hth hwd hmd bf bl mks le=>?_⟩
  have hMa1:=hLe.mach
  have hvl:vks.length=ks.length:=hth.1
  obtain ⟨dx,ew⟩:=hW.ex
  intro dd hdd
  have s3:Same H2 (L2.upd H2 dd (kdO (sK P w) dd [])):=Same.upd hdd
  have fin:∀{H':Hp} {p:Addr},Same H2 H'->Within H' p L W B->Q (.ref p) H':=fun {H' p} s wi=>q p H1 H' s1 hT1' (fun b o hb e=>s _ _ (s2 b o hb e)) wi
  have takes:∀{u:List Nat},(∀c∈u,c∈L)->B.getD (run L W 0 u) false=B1.getD (run L W1 0 u) false:=fun hu=>(hLe.takes hMa hu).symm
  have word:∀{i:Nat},i<ks.length->∃u,ws[i]?=some u:=fun {i} h=>⟨ws[i]'(by rw [<- bf.len];exact h),List.getElem?_eq_getElem _⟩
  refine ⟨_,rfl,wk,cW,dx,_,_,rfl,s3 _ _ ew,WK.cls,WTH,rfl,t,vks,rfl,.inr ⟨s3 _ _ ht,for_enumL (a:=t) (xs:=vks) (fun i σ' H'=>∃s3 s4 s5,σ'=[some (.ref m),some (.ref wk),some (.ref dd),s3,s4,s5]/\Same H2 H'/\H' dd=some (kdO (sK P w) dd (kvF ks i))/\∀(j:Nat) (k:List Nat),j<i->ks[j]?=some k->Bm.getD j false=Bm.getD (fstI (ks.map List.tail) k.tail) false) ⟨_,_,_,rfl,s3,upd_same,fun j k hj=>absurd hj (Nat.not_lt_zero _)⟩ ?_ ?_ ?_⟩⟩
  ·rintro i σ' H' ⟨_,_,_,rfl,sm,_⟩
   exact sm _ _ ht
  ·rintro i x p σ' H3 hx hp ⟨u3,u4,u5,rfl,sm,hd3,hall⟩
   have hi:i<ks.length:=by rw [<- hvl];exact (List.getElem?_eq_some_iff.mp hx).1
   obtain ⟨k,hk⟩:∃k,ks[i]?=some k:=⟨ks[i],List.getElem?_eq_getElem hi⟩
   obtain ⟨b,r,l,rfl,rfl,hb⟩:=thS (hth.2 i k x hk hx)
   have s34:=Same.upd (o:=.tup [.int ((i:Nat):Int),.ref b]) hp
   refine ⟨p,_,rfl,SqT.of upd_same,rfl,_,_,rfl,_,_,rfl,rfl,?_⟩
   generalize L2.upd H3 p (.tup [.int ((i:Nat):Int),.ref b])=H4 at s34
   have sm4:=sm.trans s34
   have hd4:=s34 _ _ hd3
   have hlm:l∈ks.map List.tail:=List.mem_map.mpr ⟨_,List.mem_of_getElem? hk,rfl⟩
   obtain ⟨flt,fat⟩:=fst_at hlm
   rw [List.length_map] at flt
   refine ⟨fun σ5 H5=>σ5=[some (.ref m),some (.ref wk),some (.ref dd),some (.int ((i:Nat):Int)),some (.ref b),some (.int ((fstI (ks.map List.tail) l:Nat):Int))]/\Same H2 H5/\H5 dd=some (kdO (sK P w) dd (kvF ks (i+1))),?_,?_⟩
   ·refine ⟨_,rfl,⟨dd,_,rfl,hd4⟩,_,rfl,b,_,_,_,rfl,rfl,SqT.of (sm4 _ _ hb),a_l (j:=1) rfl,_,rfl,?_⟩
    dsimp only [tNil]
    have vv:valV (kvF ks i) (tx l)=if l∈dis ((ks.take i).map List.tail) then some (.int ((fstI (ks.map List.tail) l:Nat):Int)) else none:=valV_map l _
    refine ⟨dd,_,_,_,rfl,rfl,hd4,a_I (Nat.le_trans (kvF_len ks i) (by omega)),fun v hv=>?_,fun hn=>?_⟩
    ·by_cases hm:l∈dis ((ks.take i).map List.tail)
     ·rw [vv,if_pos hm] at hv
      cases hv
      exact ⟨rfl,sm4,by rw [kvF_old hk hm];exact hd4⟩
     ·rw [vv,if_neg hm] at hv
      cases hv
    ·have hm:l∉dis ((ks.take i).map List.tail):=fun z=>by
      rw [vv,if_pos z] at hn
      cases hn
     obtain ⟨e1,e2⟩:=kvF_new hk hm
     have e1:fstI (ks.map List.tail) l=i:=e1
     rw [e1]
     refine ⟨rfl,fun b' o' e=>?_,by rw [upd_same,e2];rfl⟩
     rw [upd_ne (ne_of_none e hdd)]
     exact sm4 _ _ e
   rintro σ5 H5 ⟨rfl,sm5,hd5⟩
   have e5:=sm5 _ _ ew
   have bmd:=SqL.of (K:=K) (sm5 _ _ hmd)
   refine ⟨_,rfl,wk,cW,dx,_,_,rfl,e5,WK.cls,WK.na5,rfl,_,rfl,md,_,_,_,rfl,rfl,bmd,c_I (by rw [bl];exact flt),_,rfl,wk,cW,dx,_,_,rfl,e5,WK.cls,WK.na5,rfl,_,rfl,md,_,_,_,rfl,rfl,bmd,c_I (by rw [bl];exact hi),rfl,_,rfl,?_⟩
   by_cases e:Bm.getD (fstI (ks.map List.tail) l) false=Bm.getD i false
   ·refine e_R (by rw [e]) ⟨_,_,_,rfl,sm5,hd5,fun j k' hj hk'=>?_⟩
    rcases Nat.lt_succ_iff_lt_or_eq.mp hj with z | z
    ·exact hall j k' z hk'
    ·rw [z] at hk' ⊢
     rw [hk] at hk'
     cases hk'
     exact e.symm
   ·have hne:(!decide (V.bl (Bm.getD (fstI (ks.map List.tail) l) false)=V.bl (Bm.getD i false)))=true:=by rw [decide_eq_false (fun z=>e (V.bl.inj z))];rfl
    rw [hne]
    obtain ⟨u,hu⟩:=word flt
    obtain ⟨v,hv⟩:=word hi
    rw [List.getElem?_map] at fat
    obtain ⟨k1,hk1,ek1⟩:=Option.map_eq_some_iff.mp fat
    obtain ⟨cu,eu⟩:=sl_at hMa1 bf hk1 hu
    obtain ⟨cv,ev⟩:=sl_at hMa1 bf hk hv
    have lu:lotS L u=l:=by rw [eu] at ek1;exact ek1
    have lv:lotS L v=l:=(List.cons.inj ev).2.symm
    have mu:Bm.getD (fstI (ks.map List.tail) l) false=B.getD (run L W 0 u) false:=by rw [mks _ _ hk1,eu,takes cu];rfl
    have mv:Bm.getD i false=B.getD (run L W 0 v) false:=by rw [mks _ _ hk,ev,takes cv];rfl
    have shu:=bf_short bf (N:=60) (by rw [<- bf.len];omega) _ u hu
    have shv:=bf_short bf (N:=60) (by rw [<- bf.len];omega) _ v hv
    refine iteT ⟨_,rfl,_,rfl,_,rfl,wk,t,wd,y,md,L,ws,Bm,_,_,u,v,rfl,⟨dx,e5⟩,sm5 _ _ hwd,sm5 _ _ hmd,by rw [bl];exact flt,hu,hv,fun p6 H6 s6 hp6=>⟨b2,fun p7 hp7=>fin ((sm5.trans s6).trans (Same.upd hp7)) (.inr ?_)⟩⟩
    cases eb:Bm.getD (fstI (ks.map List.tail) l) false with
    | true=>
     rw [eb,if_pos rfl] at hp6
     refine ⟨p6,u,v,upd_same,a_f hp6 hp7,⟨cu,cv,shu,shv,by rw [lu,lv],by rw [<- mu];exact eb,?_⟩⟩
     rw [<- mv]
     cases z:Bm.getD i false with
     | false=>rfl
     | true=>rw [eb,z] at e;exact absurd rfl e
    | false=>
     rw [eb,if_neg Bool.false_ne_true] at hp6
     refine ⟨p6,v,u,upd_same,a_f hp6 hp7,⟨cv,cu,shv,shu,by rw [lu,lv],?_,by rw [<- mu];exact eb⟩⟩
     rw [<- mv]
     cases z:Bm.getD i false with
     | true=>rfl
     | false=>rw [eb,z] at e;exact absurd rfl e
  ·rintro σ' H3 ⟨u3,u4,u5,rfl,sm,hd3,hall⟩
   rw [hvl] at hd3 hall
   have hP:=paper_ok hMa1 bf mks fun i k hk=>hall i k (List.getElem?_eq_some_iff.mp hk).1 hk
   have ekv:kvF ks ks.length=(dis (ks.map List.tail)).map fun v=>(tx v,.int ((fstI (ks.map List.tail) v:Nat):Int)):=by unfold kvF;rw [List.take_length]
   have kl:(kvF ks ks.length).length=(dis (ks.map List.tail)).length:=by rw [ekv,List.length_map]
   have up:∀{o:HO} {b:Addr} {u:HO},H2 b=some u->L2.upd H3 dd o b=some u:=fun {o b u} e=>by
    rw [upd_ne (ne_of_none e hdd)]
    exact sm _ _ e
   dsimp only [tRet,c_x,tNext,tSeq,tAsg,c_V,c_C,tBM,tCB]
   dsimp only [tTup,c_C,tC,tNil]
   refine comp2T_items (fun R h=>⟨_,rfl,h⟩) hd3 (fun D j ys H'=>ys=wordsV (((dis (ks.map List.tail)).take j).filter fun v=>Bm.getD (fstI (ks.map List.tail) v) false)) (a_g (by have:=kvF_len ks ks.length;omega)) (fun o D hD=>rfl) ?_ ?_
   ·intro o D j kk x ys H' H5 R1 R2 hD hx hsm hDl hp hsm5 k1 k2
    rw [ekv,List.getElem?_map] at hx
    obtain ⟨v,hv,ex⟩:=Option.map_eq_some_iff.mp hx
    cases ex
    have hvm:=List.mem_of_getElem? hv
    obtain ⟨flt,_⟩:=fst_at (mem_dis.mp hvm)
    rw [List.length_map] at flt
    have s5:=hsm.trans hsm5
    refine ⟨_,rfl,wk,cW,dx,_,_,rfl,s5 _ _ (up ew),WK.cls,WK.na5,rfl,_,rfl,md,_,_,_,rfl,rfl,SqL.of (s5 _ _ (up hmd)),c_I (by rw [bl];exact flt),_,rfl,?_⟩
    have et:(dis (ks.map List.tail)).take (j+1)=(dis (ks.map List.tail)).take j++[v]:=a_T hv
    cases eb:Bm.getD (fstI (ks.map List.tail) v) false with
    | true=>
     refine iteT ⟨_,rfl,k1 _ H5 (hsm5 _ _ hDl) (Same.set s5 hD) ?_⟩
     rw [hp,et,List.filter_append,show List.filter (fun v=>Bm.getD (fstI (ks.map List.tail) v) false) [v]=[v] from List.filter_cons_of_pos (p:=fun v=>Bm.getD (fstI (ks.map List.tail) v) false) (l:=[]) eb,wordsV,wordsV,List.map_append]
     rfl
    | false=>
     refine iteF (k2 H5 s5 (hsm5 _ _ hDl) ?_)
     rw [hp,et,List.filter_append,show List.filter (fun v=>Bm.getD (fstI (ks.map List.tail) v) false) [v]=[] from List.filter_cons_of_neg (p:=fun v=>Bm.getD (fstI (ks.map List.tail) v) false) (l:=[]) (by show ¬ Bm.getD (fstI (ks.map List.tail) v) false=true;rw [eb];exact Bool.false_ne_true),List.append_nil]
   ·intro o D ys H' hD hsm hDl hp
    rw [kl,List.take_length] at hp
    subst hp
    refine ⟨b2,fun p7 hp7=>fin (fun b u e=>a_f (hsm _ _ (up e)) hp7) (.inl ⟨D,paperL ks Bm,upd_same,a_f hDl hp7,⟨hP.sub,hP.ord,hP.len,fun w hw=>?_⟩⟩)⟩
    rw [takes hw]
    exact hP.tk w hw
theorem sc_need_kind:a_r ["ways","kind"] ["ways","kind"] (a_d b_L):=⟨rfl,rfl,rfl,by decide +kernel,rfl,by decide +kernel,by decide +kernel⟩
theorem ok_need_kind (F:Fun K "need_kind" "need_kind" b_L f fd) (T:Txt K mg):FnOk P w K mg base CX0 1 f fd ["ways","kind"] (f_r P w):=by
 refine F.ok sc_need_kind (fun vs H Q E h=>?_) (fun cdv A outer s H vs Q E hr h=>?_)
 ·obtain ⟨d,kvs,k,v,rfl,_⟩:=h
  rfl
 ·obtain ⟨d,kvs,k,v,rfl,hd,hv,q⟩:=h
  refine ⟨_,(a_e ((b_v (a_C op_notinX (pv 1) (pv 0) (by with_unfolding_all rfl)) ((a_e (ps_dead))) (a_E)))),?_⟩
  refine ⟨_,rfl,_,rfl,d,k,kvs,rfl,rfl,hd,_,rfl,?_⟩
  rw [hv]
  exact iteF q
theorem sc_tell:a_r ["kind","machine","ways"] ["kind","machine"] (a_d e_Y):=⟨rfl,rfl,rfl,by decide +kernel,rfl,by decide +kernel,by decide +kernel⟩
theorem ok_tell (F:Fun K "tell" "tell" e_Y f fd) (T:Txt K mg) (g1:mg "tell_first"=some (.ref u1)) (g2:mg "tell_last"=some (.ref u2)) (g4:mg "tell_tally"=some (.ref u4)) (g5:mg "tell_counts"=some (.ref u5)) (g6:mg "tell_onward"=some (.ref u6)) (g7:mg "tell_plain"=some (.ref u7)) (d_need_kind:Df P w K mg base "need_kind" 1 ["ways","kind"] (f_r P w)) (d_tell_within:Df P w K mg base "tell_within" 8 ["machine"] (c_W P0 P1 sites sitesL)):FnOk P w K mg base CX0 9 f fd ["kind","machine"] (e_a P0 P1 sites sitesL):=by
 refine F.ok sc_tell (fun vs H Q E h=>?_) (fun cdv A outer s H vs Q E hr h=>?_)
 ·obtain ⟨m,L,W,B,rfl,_⟩:=h
  rfl
 ·obtain ⟨m,L,W,B,rfl,hM,hMa,hW8,hT0,hT1,hPP,q⟩:=h
  have hr1:=hr.mono (j:=1) (by decide)
  obtain ⟨u3,fd3,g3,k3,b3,F3⟩:=d_tell_within
  refine ⟨_,(a_b ((a_k (i:=2) sc_tell.nd rfl (Or.inl rfl) (pe_xmany (.cons b_G (c_Z (v:=.ref u1) rfl g1 rfl) (.cons b_G (c_Z (v:=.ref u2) rfl g2 rfl) (.cons b_G (c_Z (v:=.ref u3) rfl g3 rfl) (.cons b_G (c_Z (v:=.ref u4) rfl g4 rfl) (.cons b_G (c_Z (v:=.ref u5) rfl g5 rfl) (.cons b_G (c_Z (v:=.ref u6) rfl g6 rfl) (.cons b_G (c_Z (v:=.ref u7) rfl g7 rfl) (.nil)))))))) (by show ([Str.ofString "first",Str.ofString "last",Str.ofString "within",Str.ofString "tally",Str.ofString "counts",Str.ofString "onward",Str.ofString "plain"]:List Str).Nodup;decide +kernel) (by show 0<7;decide) (by show 7≤15;decide)))) (a_b (a_X (a_M d_need_kind hr1 (a_a (pv 2) (a_a (pv 0) a_c)))) (a_e (a_p (pe_callS F3 hr k3 b3 (a_q ix_dictX (pv 2) (pv 0) (fun _ _=>rfl)) (a_a (pv 1) a_c)))))),?_⟩
  intro dd H1 hdd s1 hd
  refine ⟨_,rfl,_,rfl,dd,_,_,.ref u3,rfl,hd,rfl,?_⟩
  refine ⟨_,rfl,_,rfl,dd,_,_,.ref u3,rfl,rfl,hd,rfl,rfl,_,rfl,m,L,W,B,rfl,hM.same s1,hMa,hW8,c_h hT0 s1,c_h hT1 s1,hPP,fun t Hm H' e1 e2 e3 hW=>?_⟩
  exact q t Hm H' (fun b o hb e=>e1 b o hb (s1 _ _ e)) e2 e3 hW
theorem d_h:a_r ["_law_script","_law_letters_here","_law_machine_here","_law_found","_law_word_here","_law_room","_law_cell"] ["_law_script"] (a_d f_D):=⟨rfl,rfl,rfl,by decide +kernel,rfl,by decide +kernel,by decide +kernel⟩
theorem ok_law (F:Fun K "law" "law" f_D f fd) (T:Txt K mg) (hPP:P1≠P0) (d__law_cell_at:Df P w K mg base "_law_cell_at" 1 ["_law_script","_law_k"] (c_s K)) (d__law_letters:Df P w K mg base "_law_letters" 1 ["_law_cell"] sp_letters) (d__law_built:Df P w K mg base "_law_built" 4 ["_law_script","_law_letters_here","_law_kind"] (f_v K)) (d_tell:Df P w K mg base "tell" 9 ["kind","machine"] (e_a P0 P1 sites sitesL)) (d__law_bar:Df P w K mg base "_law_bar" 3 ["_law_machine_here","_law_bar_here"] sp_bar53) (d__law_paper:Df P w K mg base "_law_paper" 3 ["_law_machine_here","_law_paper_here"] sp_paper53) (d__law_after:Df P w K mg base "_law_after" 1 ["_law_machine_here","_law_room","_law_word_here"] sp_after) (d__law_letters_in:Df P w K mg base "_law_letters_in" 1 ["_law_letters_here","_law_word_here"] sp_lotin):FnOk P w K mg base CX0 10 f fd ["_law_script"] (spLawT K [(cT,P0),(cT1,P1)]):=by
 refine F.ok d_h (fun vs H Q E h=>?_) (fun cdv A outer s H vs Q E hr h=>?_)
 ·obtain ⟨a,ns,rfl,_⟩:=h
  rfl
 ·obtain ⟨a,ns,rfl,hS,hlen,hT0,k⟩:=h
  have hr1:=hr.mono (j:=1) (by decide)
  have hr3:=hr.mono (j:=3) (by decide)
  have hr4:=hr.mono (j:=4) (by decide)
  refine ⟨_,(a_b ((a_k (i:=1) d_h.nd rfl (Or.inl rfl) ((a_M d__law_letters hr1 (a_a ((a_M d__law_cell_at hr1 (a_a (pv 0) (a_a (pe_int) a_c)))) a_c))))) (a_b ((a_k (i:=2) d_h.nd rfl (Or.inl rfl) ((a_M d__law_built hr4 (a_a (pv 0) (a_a (pv 1) (a_a (a_y op_m (a_M d__law_cell_at hr1 (a_a (pv 0) (a_a (pe_int) a_c))) pe_int) a_c))))))) (a_b ((a_k (i:=3) d_h.nd rfl (Or.inl rfl) ((a_M d_tell hr (a_a (b_G) (a_a (pv 2) a_c)))))) (a_b ((b_v ((pw_or (c_F (c_p (a_n (d_T (T:="tuple")) (by rfl) T.isinst PyProof.Rows.boot_isinstance (a_a (pv 3) (a_a (e_k (v:=.ty "tuple") (by rfl) T.tuple PyProof.Rows.boot_tuple rfl) a_c))))) (pw_or (a_C op_ne (a_n a_t (by rfl) T.len PySem.boot_len (a_a (pv 3) a_c)) pe_int (a_Q _)) (pw_or1 (c_F (c_p (a_n (d_T (T:="bool")) (by rfl) T.isinst PyProof.Rows.boot_isinstance (a_a (a_q a_w (pv 3) pe_int (fun _ _=>rfl)) (a_a (e_k (v:=.ty "bool") (by rfl) T.bool PyProof.Rows.boot_bool rfl) a_c)))))))).pt) ((a_e (a_p c_A))) (a_E))) (a_b ((b_v (c_F (c_p (a_q a_w (pv 3) pe_int (fun _ _=>rfl)))) ((a_e (a_p (a_M d__law_bar hr3 (a_a (pv 2) (a_a (a_q a_w (pv 3) pe_int (fun _ _=>rfl)) a_c)))))) (a_E))) (a_b ((b_v (c_F (c_p (a_M d__law_paper hr3 (a_a (pv 2) (a_a (a_q a_w (pv 3) pe_int (fun _ _=>rfl)) a_c))))) ((a_e (a_p c_A))) (a_E))) (a_b ((a_k (i:=4) d_h.nd rfl (Or.inl rfl) (b_G))) (a_b ((a_k (i:=5) d_h.nd rfl (Or.inl rfl) (pe_int))) (a_b ((b_s PassesOwn.never rfl (d_C (c_v sl_list (pv 0) (c_G pe_int) (c_G pe_int))) (a_B (i:=6) d_h.nd rfl (Or.inl rfl)) ((a_b ((a_k (i:=4) d_h.nd rfl (Or.inl rfl) (a_y b_O (pv 4) (a_q ix_str (pv 1) (a_y f_b (pv 6) (a_n a_F (by rfl) T.len PySem.boot_len (a_a (pv 1) a_c))) (fun _ _=>rfl))))) (a_b ((a_k (i:=5) d_h.nd rfl (Or.inl rfl) ((a_M d__law_after hr1 (a_a (pv 2) (a_a (pv 5) (a_a (a_q ix_str (pv 4) (pe_un un_neg pe_int) (fun _ _=>rfl)) a_c))))))) (a_e ((b_v (a_C op_ne (a_q a_w (a_q a_w (pv 2) pe_int (fun _ _=>rfl)) (pv 5) (fun _ _=>rfl)) (c_H op_in_seq (a_M d__law_letters_in hr1 (a_a (pv 1) (a_a (pv 4) a_c))) (a_q a_w (pv 3) pe_int (fun _ _=>rfl)) (by with_unfolding_all rfl)) (a_Q _)) ((a_e (a_p c_A))) (a_E))))))))) (a_e (a_p c_A))))))))))),?_⟩
  have hT:b_X H P0 sites:=⟨#[],hT0 (cT,P0) (by simp),d_W,fun q _=>.inl rfl⟩
  have hT1:b_X H P1 sitesL:=⟨#[],hT0 (cT1,P1) (by simp),d_W,fun q _=>.inl rfl⟩
  refine ⟨_,rfl,a,ns,1,rfl,hS,by decide,fun z0=>⟨z0,rfl,fun L hL=>?_⟩⟩
  have hL1:=hL.lo
  have hL3:=hL.hi
  have hzL:(tx L).length≤sizeLine:=a_g (by rw [a_s];omega)
  refine ⟨_,rfl,_,rfl,_,rfl,a,ns,0,rfl,hS,by decide,fun z1=>⟨_,_,rfl,rfl,by decide,a,ns,L,_,rfl,hS,hL,fun m W B H1 s1 hM1 hMa hW8=>?_⟩⟩
  refine ⟨_,rfl,m,L,W,B,rfl,hM1,hMa,hW8,c_h hT s1,c_h hT1 s1,hPP,fun t Hm H2 g1 g2 g3 hW=>?_⟩
  have hT2:=c_h hT s1
  have hM2:a_L H2 m L W B:=(hM1.tups (c_o g1 hT2)).tups (c_o g3 g2)
  have hS2:SqL K H2 a (ns.map V.int):=seq_X g3 g2 (seq_X g1 hT2 (s1.seq hS))
  obtain ⟨wy,mk,rows,h1,h2,h3,h4,h5⟩:=id hM2
  rcases hW with ⟨l,vs,ht,hl,hP⟩ | ⟨b,u,v,ht,hb,hB⟩
  rotate_left
  ·refine ⟨_,rfl,_,_,_,rfl,TyOf.tup ht,(f_T K).1,_,rfl,iteF ⟨_,rfl,t,_,rfl,.inr (SqT.of ht),rfl,_,rfl,e_R rfl ⟨_,rfl,t,_,_,_,rfl,rfl,SqT.of ht,a_l (j:=0) rfl,_,_,_,rfl,TyOf.bl _,kit_bb K,_,rfl,iteF ?_⟩⟩⟩
   refine ⟨_,rfl,t,_,_,_,rfl,rfl,SqT.of ht,a_l (j:=0) rfl,_,rfl,iteT ?_⟩
   exact ⟨_,rfl,_,rfl,t,_,_,_,rfl,rfl,SqT.of ht,a_l (j:=1) rfl,m,b,L,W,B,u,v,rfl,hM2,hMa,hb,hB,fun H' _=>k _⟩
  ·refine ⟨_,rfl,_,_,_,rfl,TyOf.tup ht,(f_T K).1,_,rfl,iteF ⟨_,rfl,t,_,rfl,.inr (SqT.of ht),rfl,_,rfl,e_R rfl ⟨_,rfl,t,_,_,_,rfl,rfl,SqT.of ht,a_l (j:=0) rfl,_,_,_,rfl,TyOf.bl _,kit_bb K,_,rfl,iteF ?_⟩⟩⟩
   refine ⟨_,rfl,t,_,_,_,rfl,rfl,SqT.of ht,a_l (j:=0) rfl,_,rfl,iteF ?_⟩
   refine ⟨_,rfl,_,rfl,t,_,_,_,rfl,rfl,SqT.of ht,a_l (j:=1) rfl,m,l,L,W,B,vs,rfl,hM2,hMa,hl,hP,fun H3 s3=>⟨_,rfl,iteF ?_⟩⟩
   refine ⟨_,rfl,_,rfl,_,rfl,a,_,rfl,s3.seq hS2,fun p4 hp4=>⟨p4,rfl,⟨_,SqL.of upd_same⟩,?_⟩⟩
   rw [cutV_ints]
   have hcl:(cutI ns (some 12) (some 62)).length≤63:=Nat.le_trans (cutI_length _ _ _) hlen
   generalize cutI ns (some 12) (some 62)=zs at hcl
   have s4:=s3.trans (Same.upd (o:=.lst (zs.map V.int)) hp4)
   have e4:L2.upd H3 p4 (.lst (zs.map V.int)) p4=some (.lst (zs.map V.int)):=upd_same
   generalize L2.upd H3 p4 (.lst (zs.map V.int))=H4 at s4 e4
   refine c_T (K:=K) (a:=p4) (xs:=zs.map V.int) (fun i σ' H'=>∃(w:List Nat) (s6:Option V),σ'=[some (.ref a),some (.str (tx L)),some (.ref m),some (.ref t),some (.str (tx w)),some (.int ((run L W 0 w:Nat):Int)),s6]/\Same H4 H'/\w.length=i/\∀c∈w,c∈L) ⟨[],_,rfl,Same.refl _,rfl,by simp⟩ ?_ ?_ ?_
   ·rintro i σ' H' hi ⟨_,_,rfl,sm,_⟩
    exact SqL.of (sm _ _ e4)
   ·rintro i x σ' H5 hx ⟨w,s6,rfl,sm,hwl,hwL⟩
    have hi:i<zs.length:=by have:=(List.getElem?_eq_some_iff.mp hx).1;rwa [List.length_map] at this
    rw [List.getElem?_map] at hx
    obtain ⟨z,_,rfl⟩:=Option.map_eq_some_iff.mp hx
    have s5:=s4.trans sm
    have hlp:(0:Int)<((tx L).length:Int):=by rw [a_s];omega
    have hr0:=Int.emod_nonneg z (show ((tx L).length:Int)≠0 by omega)
    have hr1':=Int.emod_lt_of_pos z hlp
    obtain ⟨c,hc,hc2⟩:=atI_in (xs:=(tx L).cps.toList) hr0 (by rw [b_w,<- a_s];exact hr1')
    have hcL:c∈L:=by
     have:=List.mem_of_getElem? hc2
     rwa [b_w] at this
    have e1:(⟨#[c]⟩:Str)=tx [c]:=rfl
    refine ⟨_,rfl,_,rfl,_,rfl,_,rfl,_,rfl,hzL,_,_,rfl,rfl,hlp,_,_,_,rfl,rfl,hzL,hc,_,_,rfl,rfl,by rw [e1,a_s,a_s];exact a_g (by simp;omega),?_⟩
    rw [e1,d_g]
    have hwcL:∀d∈w++[c],d∈L:=fun d hd=>(List.mem_append.mp hd).elim (hwL d) fun y=>by rw [List.mem_singleton.mp y];exact hcL
    have rl:=e_Z hMa (show 0<W.length by have:=hMa.n1;omega) hwL
    have rl2:=e_Z hMa (show 0<W.length by have:=hMa.n1;omega) hwcL
    have ea:atI (tx (w++[c])).cps.toList (-1)=some c:=by rw [b_w];exact atI_last w c
    refine ⟨_,rfl,_,rfl,_,rfl,_,rfl,_,_,_,rfl,rfl,a_g (by rw [a_s];simp;omega),ea,m,L,W,B,_,[c],by rw [e1];rfl,hM2.same s5,hMa,rl,by simpa using hcL,?_⟩
    have er:run L W (run L W 0 w) [c]=run L W 0 (w++[c]):=(run_app L W 0 w [c]).symm
    rw [er]
    refine ⟨_,rfl,m,_,_,_,rfl,rfl,SqT.of (s5 _ _ h1),a_l (j:=2) rfl,_,rfl,mk,_,_,_,rfl,rfl,SqT.of (s5 _ _ h3),c_I (by rw [hMa.bl];exact rl2),?_⟩
    refine ⟨_,rfl,_,rfl,L,w++[c],rfl,by omega,fun H6 s6'=>?_⟩
    have s56:=s5.trans s6'
    refine ⟨_,rfl,t,_,_,_,rfl,rfl,SqT.of (s56 _ _ ht),a_l (j:=1) rfl,l,_,rfl,.inl (SqL.of (s56 _ _ hl)),rfl,d_w _,rfl,_,rfl,?_⟩
    rw [if_neg Bool.false_ne_true,d_r,hP.tk _ hwcL]
    exact e_R rfl ⟨w++[c],_,rfl,sm.trans s6',by rw [List.length_append,hwl];rfl,hwcL⟩
   ·rintro σ' H5 ⟨w,s6,rfl,sm,_⟩
    exact k _
end
theorem a_z (e:K.lookup f=some ⟨oc,od,.func fd,sl⟩):PySem.W.keepIn K (.ref f)=true:=by
 unfold PySem.W.keepIn
 dsimp only
 rw [show List.lookup f K=_ from e]
theorem all_mk {l:PySem.W.OpenLaw} {w:World} {K K0:PySem.W.Frag} {h:Heap} {mg:Str->Option Value} {fa cT cT1 P0 P1:Addr} (hK:K=a_Y [P0,P1] K0) (hPP:P1≠P0) (X:K.In h) (G:h.Ns mainGlobals mg) (hfa:mg "law"=some (.ref fa))
  {fI:Addr} {odI anI:Option Addr} {slI:Array (Option Value)} {ocI kVI dcI pmI ctI:Value} {cdI:Addr}
  {cW:Addr} (nW:PySem.W.nsIn K mainGlobals "Walk"=some (some (.ref cW))) (hI0:PySem.W.findIn K0 (.ref cW) "__init__"=some (some (.ref fI)))
  (cls:Cls K cW) (mk:Mk K cW fI) (na1:b_n K cW "letters") (na2:b_n K cW "things") (na3:b_n K cW "words") (na4:b_n K cW "ways") (na5:b_n K cW "marks")
   (lI:K.lookup fI=some ⟨ocI,odI,.func (PySem.W.fnOf "__init__" "Walk.__init__" (a_j d_y) (a_h d_y) (a_d d_y) .none kVI dcI pmI anI (.ref cdI) ctI),slI⟩) (cI:PySem.W.codeIn K (.ref cdI) "Walk.__init__"=true)
  {tD:Addr} {ocD:Value} {odD:Option Addr} {slD:Array (Option Value)} {nD:Nat}
  {fV:Addr} {odV anV:Option Addr} {slV:Array (Option Value)} {ocV kVV dcV pmV ctV:Value} {cdV:Addr}
  (aV:PySem.W.nsIn K mainGlobals "walked"=some (some (.ref fV))) (lV:K.lookup fV=some ⟨ocV,odV,.func (PySem.W.fnOf "walked" "walked" (a_j a_R) (a_h a_R) (a_d a_R) (.ref tD) kVV dcV pmV anV (.ref cdV) ctV),slV⟩) (cV:PySem.W.codeIn K (.ref cdV) "walked"=true)
  (lD:K.lookup tD=some ⟨ocD,odD,.seq #[.none] nD,slD⟩)
  {fM:Addr} {odM anM:Option Addr} {slM:Array (Option Value)} {ocM kVM dcM pmM ctM:Value}
  (aM:PySem.W.nsIn K mainGlobals "walked_machine"=some (some (.ref fM))) (lM:K.lookup fM=some ⟨ocM,odM,.func (PySem.W.fnOf "walked_machine" "walked_machine" (a_j a_m) (a_h a_m) (a_d a_m) .none kVM dcM pmM anM (.ref cT) ctM),slM⟩) (cM:PySem.W.codeIn K (.ref cT) "walked_machine"=true)
  {fT:Addr} {odT anT:Option Addr} {slT:Array (Option Value)} {ocT kVT dcT pmT ctT:Value}
  (aT:PySem.W.nsIn K mainGlobals "walked_lots"=some (some (.ref fT))) (lT:K.lookup fT=some ⟨ocT,odT,.func (PySem.W.fnOf "walked_lots" "walked_lots" (a_j a_x) (a_h a_x) (a_d a_x) .none kVT dcT pmT anT (.ref cT1) ctT),slT⟩) (cT_:PySem.W.codeIn K (.ref cT1) "walked_lots"=true)
  {u1:Addr} (y1:PySem.W.nsIn K mainGlobals "tell_first"=some (some (.ref u1)))
  {u2:Addr} (y2:PySem.W.nsIn K mainGlobals "tell_last"=some (some (.ref u2)))
  {u4:Addr} (y4:PySem.W.nsIn K mainGlobals "tell_tally"=some (some (.ref u4)))
  {u5:Addr} (y5:PySem.W.nsIn K mainGlobals "tell_counts"=some (some (.ref u5)))
  {u6:Addr} (y6:PySem.W.nsIn K mainGlobals "tell_onward"=some (some (.ref u6)))
  {u7:Addr} (y7:PySem.W.nsIn K mainGlobals "tell_plain"=some (some (.ref u7)))
  {f0:Addr} {od0 an0:Option Addr} {sl0:Array (Option Value)} {oc0 kV0 dc0 pm0 ct0:Value} {cd0:Addr}
  (a0:PySem.W.nsIn K mainGlobals "_law_cell_at"=some (some (.ref f0))) (l0:K.lookup f0=some ⟨oc0,od0,.func (PySem.W.fnOf "_law_cell_at" "_law_cell_at" (a_j b_j) (a_h b_j) (a_d b_j) .none kV0 dc0 pm0 an0 (.ref cd0) ct0),sl0⟩) (c0:PySem.W.codeIn K (.ref cd0) "_law_cell_at"=true)
  {f1:Addr} {od1 an1:Option Addr} {sl1:Array (Option Value)} {oc1 kV1 dc1 pm1 ct1:Value} {cd1:Addr}
  (a1:PySem.W.nsIn K mainGlobals "_law_letters"=some (some (.ref f1))) (l1:K.lookup f1=some ⟨oc1,od1,.func (PySem.W.fnOf "_law_letters" "_law_letters" (a_j b_f) (a_h b_f) (a_d b_f) .none kV1 dc1 pm1 an1 (.ref cd1) ct1),sl1⟩) (c1:PySem.W.codeIn K (.ref cd1) "_law_letters"=true)
  {f2:Addr} {od2 an2:Option Addr} {sl2:Array (Option Value)} {oc2 kV2 dc2 pm2 ct2:Value} {cd2:Addr}
  (a2:PySem.W.nsIn K mainGlobals "_law_machine"=some (some (.ref f2))) (l2:K.lookup f2=some ⟨oc2,od2,.func (PySem.W.fnOf "_law_machine" "_law_machine" (a_j b_e) (a_h b_e) (a_d b_e) .none kV2 dc2 pm2 an2 (.ref cd2) ct2),sl2⟩) (c2:PySem.W.codeIn K (.ref cd2) "_law_machine"=true)
  {f3:Addr} {od3 an3:Option Addr} {sl3:Array (Option Value)} {oc3 kV3 dc3 pm3 ct3:Value} {cd3:Addr}
  (a3:PySem.W.nsIn K mainGlobals "_law_marks"=some (some (.ref f3))) (l3:K.lookup f3=some ⟨oc3,od3,.func (PySem.W.fnOf "_law_marks" "_law_marks" (a_j b_A) (a_h b_A) (a_d b_A) .none kV3 dc3 pm3 an3 (.ref cd3) ct3),sl3⟩) (c3:PySem.W.codeIn K (.ref cd3) "_law_marks"=true)
  {f4:Addr} {od4 an4:Option Addr} {sl4:Array (Option Value)} {oc4 kV4 dc4 pm4 ct4:Value} {cd4:Addr}
  (a4:PySem.W.nsIn K mainGlobals "_law_forward"=some (some (.ref f4))) (l4:K.lookup f4=some ⟨oc4,od4,.func (PySem.W.fnOf "_law_forward" "_law_forward" (a_j b_h) (a_h b_h) (a_d b_h) .none kV4 dc4 pm4 an4 (.ref cd4) ct4),sl4⟩) (c4:PySem.W.codeIn K (.ref cd4) "_law_forward"=true)
  {f5:Addr} {od5 an5:Option Addr} {sl5:Array (Option Value)} {oc5 kV5 dc5 pm5 ct5:Value} {cd5:Addr}
  (a5:PySem.W.nsIn K mainGlobals "_law_lots"=some (some (.ref f5))) (l5:K.lookup f5=some ⟨oc5,od5,.func (PySem.W.fnOf "_law_lots" "_law_lots" (a_j b_N) (a_h b_N) (a_d b_N) .none kV5 dc5 pm5 an5 (.ref cd5) ct5),sl5⟩) (c5:PySem.W.codeIn K (.ref cd5) "_law_lots"=true)
  {f6:Addr} {od6 an6:Option Addr} {sl6:Array (Option Value)} {oc6 kV6 dc6 pm6 ct6:Value} {cd6:Addr}
  (a6:PySem.W.nsIn K mainGlobals "_law_memory"=some (some (.ref f6))) (l6:K.lookup f6=some ⟨oc6,od6,.func (PySem.W.fnOf "_law_memory" "_law_memory" (a_j b_q) (a_h b_q) (a_d b_q) .none kV6 dc6 pm6 an6 (.ref cd6) ct6),sl6⟩) (c6:PySem.W.codeIn K (.ref cd6) "_law_memory"=true)
  {f7:Addr} {od7 an7:Option Addr} {sl7:Array (Option Value)} {oc7 kV7 dc7 pm7 ct7:Value} {cd7:Addr}
  (a7:PySem.W.nsIn K mainGlobals "_law_tallied"=some (some (.ref f7))) (l7:K.lookup f7=some ⟨oc7,od7,.func (PySem.W.fnOf "_law_tallied" "_law_tallied" (a_j b_d) (a_h b_d) (a_d b_d) .none kV7 dc7 pm7 an7 (.ref cd7) ct7),sl7⟩) (c7:PySem.W.codeIn K (.ref cd7) "_law_tallied"=true)
  {f8:Addr} {od8 an8:Option Addr} {sl8:Array (Option Value)} {oc8 kV8 dc8 pm8 ct8:Value} {cd8:Addr}
  (a8:PySem.W.nsIn K mainGlobals "_law_built"=some (some (.ref f8))) (l8:K.lookup f8=some ⟨oc8,od8,.func (PySem.W.fnOf "_law_built" "_law_built" (a_j b_B) (a_h b_B) (a_d b_B) .none kV8 dc8 pm8 an8 (.ref cd8) ct8),sl8⟩) (c8:PySem.W.codeIn K (.ref cd8) "_law_built"=true)
  {f9:Addr} {od9 an9:Option Addr} {sl9:Array (Option Value)} {oc9 kV9 dc9 pm9 ct9:Value} {cd9:Addr}
  (a9:PySem.W.nsIn K mainGlobals "_law_after"=some (some (.ref f9))) (l9:K.lookup f9=some ⟨oc9,od9,.func (PySem.W.fnOf "_law_after" "_law_after" (a_j b_C) (a_h b_C) (a_d b_C) .none kV9 dc9 pm9 an9 (.ref cd9) ct9),sl9⟩) (c9:PySem.W.codeIn K (.ref cd9) "_law_after"=true)
  {f10:Addr} {od10 an10:Option Addr} {sl10:Array (Option Value)} {oc10 kV10 dc10 pm10 ct10:Value} {cd10:Addr}
  (a10:PySem.W.nsIn K mainGlobals "_law_is_word"=some (some (.ref f10))) (l10:K.lookup f10=some ⟨oc10,od10,.func (PySem.W.fnOf "_law_is_word" "_law_is_word" (a_j b_g) (a_h b_g) (a_d b_g) .none kV10 dc10 pm10 an10 (.ref cd10) ct10),sl10⟩) (c10:PySem.W.codeIn K (.ref cd10) "_law_is_word"=true)
  {f11:Addr} {od11 an11:Option Addr} {sl11:Array (Option Value)} {oc11 kV11 dc11 pm11 ct11:Value} {cd11:Addr}
  (a11:PySem.W.nsIn K mainGlobals "_law_takes"=some (some (.ref f11))) (l11:K.lookup f11=some ⟨oc11,od11,.func (PySem.W.fnOf "_law_takes" "_law_takes" (a_j b_y) (a_h b_y) (a_d b_y) .none kV11 dc11 pm11 an11 (.ref cd11) ct11),sl11⟩) (c11:PySem.W.codeIn K (.ref cd11) "_law_takes"=true)
  {f12:Addr} {od12 an12:Option Addr} {sl12:Array (Option Value)} {oc12 kV12 dc12 pm12 ct12:Value} {cd12:Addr}
  (a12:PySem.W.nsIn K mainGlobals "_law_earlier"=some (some (.ref f12))) (l12:K.lookup f12=some ⟨oc12,od12,.func (PySem.W.fnOf "_law_earlier" "_law_earlier" (a_j b_i) (a_h b_i) (a_d b_i) .none kV12 dc12 pm12 an12 (.ref cd12) ct12),sl12⟩) (c12:PySem.W.codeIn K (.ref cd12) "_law_earlier"=true)
  {f13:Addr} {od13 an13:Option Addr} {sl13:Array (Option Value)} {oc13 kV13 dc13 pm13 ct13:Value} {cd13:Addr}
  (a13:PySem.W.nsIn K mainGlobals "_law_letters_in"=some (some (.ref f13))) (l13:K.lookup f13=some ⟨oc13,od13,.func (PySem.W.fnOf "_law_letters_in" "_law_letters_in" (a_j a_N) (a_h a_N) (a_d a_N) .none kV13 dc13 pm13 an13 (.ref cd13) ct13),sl13⟩) (c13:PySem.W.codeIn K (.ref cd13) "_law_letters_in"=true)
  {f14:Addr} {od14 an14:Option Addr} {sl14:Array (Option Value)} {oc14 kV14 dc14 pm14 ct14:Value} {cd14:Addr}
  (a14:PySem.W.nsIn K mainGlobals "lot_in"=some (some (.ref f14))) (l14:K.lookup f14=some ⟨oc14,od14,.func (PySem.W.fnOf "lot_in" "lot_in" (a_j c_O) (a_h c_O) (a_d c_O) .none kV14 dc14 pm14 an14 (.ref cd14) ct14),sl14⟩) (c14:PySem.W.codeIn K (.ref cd14) "lot_in"=true)
  {f15:Addr} {od15 an15:Option Addr} {sl15:Array (Option Value)} {oc15 kV15 dc15 pm15 ct15:Value} {cd15:Addr}
  (a15:PySem.W.nsIn K mainGlobals "_law_all_lots"=some (some (.ref f15))) (l15:K.lookup f15=some ⟨oc15,od15,.func (PySem.W.fnOf "_law_all_lots" "_law_all_lots" (a_j a_W) (a_h a_W) (a_d a_W) .none kV15 dc15 pm15 an15 (.ref cd15) ct15),sl15⟩) (c15:PySem.W.codeIn K (.ref cd15) "_law_all_lots"=true)
  {f16:Addr} {od16 an16:Option Addr} {sl16:Array (Option Value)} {oc16 kV16 dc16 pm16 ct16:Value} {cd16:Addr}
  (a16:PySem.W.nsIn K mainGlobals "_law_in_order"=some (some (.ref f16))) (l16:K.lookup f16=some ⟨oc16,od16,.func (PySem.W.fnOf "_law_in_order" "_law_in_order" (a_j a_V) (a_h a_V) (a_d a_V) .none kV16 dc16 pm16 an16 (.ref cd16) ct16),sl16⟩) (c16:PySem.W.codeIn K (.ref cd16) "_law_in_order"=true)
  {f17:Addr} {od17 an17:Option Addr} {sl17:Array (Option Value)} {oc17 kV17 dc17 pm17 ct17:Value} {cd17:Addr}
  (a17:PySem.W.nsIn K mainGlobals "_law_paper"=some (some (.ref f17))) (l17:K.lookup f17=some ⟨oc17,od17,.func (PySem.W.fnOf "_law_paper" "_law_paper" (a_j b_z) (a_h b_z) (a_d b_z) .none kV17 dc17 pm17 an17 (.ref cd17) ct17),sl17⟩) (c17:PySem.W.codeIn K (.ref cd17) "_law_paper"=true)
  {f18:Addr} {od18 an18:Option Addr} {sl18:Array (Option Value)} {oc18 kV18 dc18 pm18 ct18:Value} {cd18:Addr}
  (a18:PySem.W.nsIn K mainGlobals "_law_bar"=some (some (.ref f18))) (l18:K.lookup f18=some ⟨oc18,od18,.func (PySem.W.fnOf "_law_bar" "_law_bar" (a_j c_b) (a_h c_b) (a_d c_b) .none kV18 dc18 pm18 an18 (.ref cd18) ct18),sl18⟩) (c18:PySem.W.codeIn K (.ref cd18) "_law_bar"=true)
  {f19:Addr} {od19 an19:Option Addr} {sl19:Array (Option Value)} {oc19 kV19 dc19 pm19 ct19:Value} {cd19:Addr}
  (a19:PySem.W.nsIn K mainGlobals "numbered"=some (some (.ref f19))) (l19:K.lookup f19=some ⟨oc19,od19,.func (PySem.W.fnOf "numbered" "numbered" (a_j c_a) (a_h c_a) (a_d c_a) .none kV19 dc19 pm19 an19 (.ref cd19) ct19),sl19⟩) (c19:PySem.W.codeIn K (.ref cd19) "numbered"=true)
  {f20:Addr} {od20 an20:Option Addr} {sl20:Array (Option Value)} {oc20 kV20 dc20 pm20 ct20:Value} {cd20:Addr}
  (a20:PySem.W.nsIn K mainGlobals "many_lots"=some (some (.ref f20))) (l20:K.lookup f20=some ⟨oc20,od20,.func (PySem.W.fnOf "many_lots" "many_lots" (a_j b_M) (a_h b_M) (a_d b_M) .none kV20 dc20 pm20 an20 (.ref cd20) ct20),sl20⟩) (c20:PySem.W.codeIn K (.ref cd20) "many_lots"=true)
  {f21:Addr} {od21 an21:Option Addr} {sl21:Array (Option Value)} {oc21 kV21 dc21 pm21 ct21:Value} {cd21:Addr}
  (a21:PySem.W.nsIn K mainGlobals "rounds_of"=some (some (.ref f21))) (l21:K.lookup f21=some ⟨oc21,od21,.func (PySem.W.fnOf "rounds_of" "rounds_of" (a_j b_K) (a_h b_K) (a_d b_K) .none kV21 dc21 pm21 an21 (.ref cd21) ct21),sl21⟩) (c21:PySem.W.codeIn K (.ref cd21) "rounds_of"=true)
  {f22:Addr} {od22 an22:Option Addr} {sl22:Array (Option Value)} {oc22 kV22 dc22 pm22 ct22:Value} {cd22:Addr}
  (a22:PySem.W.nsIn K mainGlobals "first_rooms"=some (some (.ref f22))) (l22:K.lookup f22=some ⟨oc22,od22,.func (PySem.W.fnOf "first_rooms" "first_rooms" (a_j b_p) (a_h b_p) (a_d b_p) .none kV22 dc22 pm22 an22 (.ref cd22) ct22),sl22⟩) (c22:PySem.W.codeIn K (.ref cd22) "first_rooms"=true)
  {f23:Addr} {od23 an23:Option Addr} {sl23:Array (Option Value)} {oc23 kV23 dc23 pm23 ct23:Value} {cd23:Addr}
  (a23:PySem.W.nsIn K mainGlobals "folded"=some (some (.ref f23))) (l23:K.lookup f23=some ⟨oc23,od23,.func (PySem.W.fnOf "folded" "folded" (a_j c_P) (a_h c_P) (a_d c_P) .none kV23 dc23 pm23 an23 (.ref cd23) ct23),sl23⟩) (c23:PySem.W.codeIn K (.ref cd23) "folded"=true)
  {f24:Addr} {od24 an24:Option Addr} {sl24:Array (Option Value)} {oc24 kV24 dc24 pm24 ct24:Value} {cd24:Addr}
  (a24:PySem.W.nsIn K mainGlobals "least"=some (some (.ref f24))) (l24:K.lookup f24=some ⟨oc24,od24,.func (PySem.W.fnOf "least" "least" (a_j d_z) (a_h d_z) (a_d d_z) .none kV24 dc24 pm24 an24 (.ref cd24) ct24),sl24⟩) (c24:PySem.W.codeIn K (.ref cd24) "least"=true)
  {f25:Addr} {od25 an25:Option Addr} {sl25:Array (Option Value)} {oc25 kV25 dc25 pm25 ct25:Value} {cd25:Addr}
  (a25:PySem.W.nsIn K mainGlobals "in_and_out"=some (some (.ref f25))) (l25:K.lookup f25=some ⟨oc25,od25,.func (PySem.W.fnOf "in_and_out" "in_and_out" (a_j b_x) (a_h b_x) (a_d b_x) .none kV25 dc25 pm25 an25 (.ref cd25) ct25),sl25⟩) (c25:PySem.W.codeIn K (.ref cd25) "in_and_out"=true)
  {f26:Addr} {od26 an26:Option Addr} {sl26:Array (Option Value)} {oc26 kV26 dc26 pm26 ct26:Value} {cd26:Addr}
  (a26:PySem.W.nsIn K mainGlobals "tell_within"=some (some (.ref f26))) (l26:K.lookup f26=some ⟨oc26,od26,.func (PySem.W.fnOf "tell_within" "tell_within" (a_j b_o) (a_h b_o) (a_d b_o) .none kV26 dc26 pm26 an26 (.ref cd26) ct26),sl26⟩) (c26:PySem.W.codeIn K (.ref cd26) "tell_within"=true)
  {f27:Addr} {od27 an27:Option Addr} {sl27:Array (Option Value)} {oc27 kV27 dc27 pm27 ct27:Value} {cd27:Addr}
  (a27:PySem.W.nsIn K mainGlobals "need_kind"=some (some (.ref f27))) (l27:K.lookup f27=some ⟨oc27,od27,.func (PySem.W.fnOf "need_kind" "need_kind" (a_j b_L) (a_h b_L) (a_d b_L) .none kV27 dc27 pm27 an27 (.ref cd27) ct27),sl27⟩) (c27:PySem.W.codeIn K (.ref cd27) "need_kind"=true)
  {f28:Addr} {od28 an28:Option Addr} {sl28:Array (Option Value)} {oc28 kV28 dc28 pm28 ct28:Value} {cd28:Addr}
  (a28:PySem.W.nsIn K mainGlobals "tell"=some (some (.ref f28))) (l28:K.lookup f28=some ⟨oc28,od28,.func (PySem.W.fnOf "tell" "tell" (a_j e_Y) (a_h e_Y) (a_d e_Y) .none kV28 dc28 pm28 an28 (.ref cd28) ct28),sl28⟩) (c28:PySem.W.codeIn K (.ref cd28) "tell"=true)
  {f29:Addr} {od29 an29:Option Addr} {sl29:Array (Option Value)} {oc29 kV29 dc29 pm29 ct29:Value} {cd29:Addr}
  (a29:PySem.W.nsIn K mainGlobals "law"=some (some (.ref f29))) (l29:K.lookup f29=some ⟨oc29,od29,.func (PySem.W.fnOf "law" "law" (a_j f_D) (a_h f_D) (a_d f_D) .none kV29 dc29 pm29 an29 (.ref cd29) ct29),sl29⟩) (c29:PySem.W.codeIn K (.ref cd29) "law"=true)
  (z_len:PySem.W.nsIn K mainGlobals "len"=some none)
  (z_range:PySem.W.nsIn K mainGlobals "range"=some none)
  (z_isinst:PySem.W.nsIn K mainGlobals "isinstance"=some none)
  (z_int:PySem.W.nsIn K mainGlobals "int"=some none)
  (z_bool:PySem.W.nsIn K mainGlobals "bool"=some none)
  (z_tuple:PySem.W.nsIn K mainGlobals "tuple"=some none)
  (z_list:PySem.W.nsIn K mainGlobals "list"=some none)
  (z_str:PySem.W.nsIn K mainGlobals "str"=some none)
  (z_zip:PySem.W.nsIn K mainGlobals "zip"=some none)
  (z_max:PySem.W.nsIn K mainGlobals "max"=some none)
  (z_enumerate:PySem.W.nsIn K mainGlobals "enumerate"=some none)
  (z_all:PySem.W.nsIn K mainGlobals "all"=some none)
  :∃fd:FuncData,(∀(s:Shared) (v:Value),BindsTo s fd ⟨[v],[]⟩ [("_law_script",v)])/\∀base:Heap,K.In base->base.Ns mainGlobals mg->g_b base mg->(∀q∈[(cT,P0),(cT1,P1)],PySem.W.CodeHd base q.1 q.2)->FnOk l.prog w K mg base CX0 10 fa fd ["_law_script"] (spLawT K [(cT,P0),(cT1,P1)]):=by
 have e:=hfa.symm.trans (PySem.W.mg_of X G a29)
 cases e
 have T:Txt K mg:=⟨PySem.W.mg_none_of X G z_len,PySem.W.mg_none_of X G z_range,PySem.W.mg_none_of X G z_isinst,PySem.W.mg_none_of X G z_int,PySem.W.mg_none_of X G z_bool,PySem.W.mg_none_of X G z_tuple,PySem.W.mg_none_of X G z_list,PySem.W.mg_none_of X G z_str,PySem.W.mg_none_of X G z_zip,PySem.W.mg_none_of X G z_max,PySem.W.mg_none_of X G z_enumerate,PySem.W.mg_none_of X G z_all⟩
 have F0:=a_J (st:=b_j) l0 c0 (a_z l0)
 have F1:=a_J (st:=b_f) l1 c1 (a_z l1)
 have F2:=a_J (st:=b_e) l2 c2 (a_z l2)
 have F3:=a_J (st:=b_A) l3 c3 (a_z l3)
 have F4:=a_J (st:=b_h) l4 c4 (a_z l4)
 have F5:=a_J (st:=b_N) l5 c5 (a_z l5)
 have F6:=a_J (st:=b_q) l6 c6 (a_z l6)
 have F7:=a_J (st:=b_d) l7 c7 (a_z l7)
 have F8:=a_J (st:=b_B) l8 c8 (a_z l8)
 have F9:=a_J (st:=b_C) l9 c9 (a_z l9)
 have F10:=a_J (st:=b_g) l10 c10 (a_z l10)
 have F11:=a_J (st:=b_y) l11 c11 (a_z l11)
 have F12:=a_J (st:=b_i) l12 c12 (a_z l12)
 have F13:=a_J (st:=a_N) l13 c13 (a_z l13)
 have F14:=a_J (st:=c_O) l14 c14 (a_z l14)
 have F15:=a_J (st:=a_W) l15 c15 (a_z l15)
 have F16:=a_J (st:=a_V) l16 c16 (a_z l16)
 have F17:=a_J (st:=b_z) l17 c17 (a_z l17)
 have F18:=a_J (st:=c_b) l18 c18 (a_z l18)
 have F19:=a_J (st:=c_a) l19 c19 (a_z l19)
 have F20:=a_J (st:=b_M) l20 c20 (a_z l20)
 have F21:=a_J (st:=b_K) l21 c21 (a_z l21)
 have F22:=a_J (st:=b_p) l22 c22 (a_z l22)
 have F23:=a_J (st:=c_P) l23 c23 (a_z l23)
 have F24:=a_J (st:=d_z) l24 c24 (a_z l24)
 have F25:=a_J (st:=b_x) l25 c25 (a_z l25)
 have F26:=a_J (st:=b_o) l26 c26 (a_z l26)
 have F27:=a_J (st:=b_L) l27 c27 (a_z l27)
 have F28:=a_J (st:=e_Y) l28 c28 (a_z l28)
 have F29:=a_J (st:=f_D) l29 c29 (a_z l29)
 have WT:=WkT.mk (PySem.W.mg_of X G nW) cls mk na1 na2 na3 na4 na5 (a_J (st:=d_y) lI cI (a_z lI))
 have WK:WkK K cW:=⟨cls,na1,na4,na5⟩
 have DR:∀base:Heap,Df l.prog w K mg base "lot_in" 1 ["letters","word"] sp_lotin:=fun base=>⟨f14,_,PySem.W.mg_of X G a14,a_z l14,F14.binds (ps:=["letters","word"]) (fun _ _ _ _ _ _ us hl=>by obtain ⟨_,_,rfl⟩:=len2 hl;rfl),ok_lot_in F14 T⟩
 refine ⟨PySem.W.fnOf "law" "law" (a_j f_D) (a_h f_D) (a_d f_D) .none kV29 dc29 pm29 an29 (.ref cd29) ct29,fun s v=>.of_eq rfl,fun base _ _ hB hC=>?_⟩
 have hC1:PySem.W.CodeHd base cT P0:=hC (cT,P0) (by simp)
 have hC2:PySem.W.CodeHd base cT1 P1:=hC (cT1,P1) (by simp)
 have d_walked_machine:Df l.prog w K mg base "walked_machine" 6 ["machine"] (f_p cW P0 sites):=⟨fM,_,PySem.W.mg_of X G aM,a_z lM,(a_J (st:=a_m) lM cM (a_z lM)).binds (ps:=["machine"]) (fun _ _ _ _ _ _ us hl=>by obtain ⟨_,rfl⟩:=len1 hl;rfl),ok_wmach lM cM lV cV (a_z lV) (PySem.W.mg_of X G aV) lD WT (PySem.W.mg_none_of X G z_len) (PySem.W.mg_none_of X G z_zip) hC1 hB⟩
 have d_walked_lots:Df l.prog w K mg base "walked_lots" 6 ["machine"] (f_q cW P1 sitesL):=⟨fT,_,PySem.W.mg_of X G aT,a_z lT,(a_J (st:=a_x) lT cT_ (a_z lT)).binds (ps:=["machine"]) (fun _ _ _ _ _ _ us hl=>by obtain ⟨_,rfl⟩:=len1 hl;rfl),ok_wlots lT cT_ lV cV (a_z lV) (PySem.W.mg_of X G aV) lD WT (PySem.W.mg_none_of X G z_len) (PySem.W.mg_none_of X G z_zip) hC2 hB DR⟩
 have d__law_cell_at:Df l.prog w K mg base "_law_cell_at" 1 ["_law_script","_law_k"] (c_s K):=⟨f0,_,PySem.W.mg_of X G a0,a_z l0,F0.binds (ps:=["_law_script","_law_k"]) (fun _ _ _ _ _ _ us hl=>by obtain ⟨_,_,rfl⟩:=len2 hl;rfl),e_r F0 T ⟩
 have d__law_letters:Df l.prog w K mg base "_law_letters" 1 ["_law_cell"] sp_letters:=⟨f1,_,PySem.W.mg_of X G a1,a_z l1,F1.binds (ps:=["_law_cell"]) (fun _ _ _ _ _ _ us hl=>by obtain ⟨_,rfl⟩:=len1 hl;rfl),e_n F1 T ⟩
 have d__law_machine:Df l.prog w K mg base "_law_machine" 2 ["_law_script","_law_at","_law_rooms","_law_letters_here"] (c_N K):=⟨f2,_,PySem.W.mg_of X G a2,a_z l2,F2.binds (ps:=["_law_script","_law_at","_law_rooms","_law_letters_here"]) (fun _ _ _ _ _ _ us hl=>by obtain ⟨_,_,_,_,rfl⟩:=len4 hl;rfl),e_m F2 T d__law_cell_at⟩
 have d__law_marks:Df l.prog w K mg base "_law_marks" 2 ["_law_script","_law_rooms"] (c_n K):=⟨f3,_,PySem.W.mg_of X G a3,a_z l3,F3.binds (ps:=["_law_script","_law_rooms"]) (fun _ _ _ _ _ _ us hl=>by obtain ⟨_,_,rfl⟩:=len2 hl;rfl),f_M F3 T d__law_cell_at⟩
 have d__law_forward:Df l.prog w K mg base "_law_forward" 3 ["_law_script","_law_letters_here","_law_strict"] (f_u K):=⟨f4,_,PySem.W.mg_of X G a4,a_z l4,F4.binds (ps:=["_law_script","_law_letters_here","_law_strict"]) (fun _ _ _ _ _ _ us hl=>by obtain ⟨_,_,_,rfl⟩:=len3 hl;rfl),e_p F4 T d__law_cell_at d__law_machine⟩
 have d__law_lots:Df l.prog w K mg base "_law_lots" 3 ["_law_script","_law_letters_here"] (c_k K):=⟨f5,_,PySem.W.mg_of X G a5,a_z l5,F5.binds (ps:=["_law_script","_law_letters_here"]) (fun _ _ _ _ _ _ us hl=>by obtain ⟨_,_,rfl⟩:=len2 hl;rfl),ok__law_lots F5 T d__law_marks⟩
 have d__law_memory:Df l.prog w K mg base "_law_memory" 3 ["_law_script","_law_letters_here"] (c_k K):=⟨f6,_,PySem.W.mg_of X G a6,a_z l6,F6.binds (ps:=["_law_script","_law_letters_here"]) (fun _ _ _ _ _ _ us hl=>by obtain ⟨_,_,rfl⟩:=len2 hl;rfl),e_Q F6 T d__law_cell_at d__law_marks⟩
 have d__law_tallied:Df l.prog w K mg base "_law_tallied" 3 ["_law_script","_law_letters_here"] (c_k K):=⟨f7,_,PySem.W.mg_of X G a7,a_z l7,F7.binds (ps:=["_law_script","_law_letters_here"]) (fun _ _ _ _ _ _ us hl=>by obtain ⟨_,_,rfl⟩:=len2 hl;rfl),e_l F7 T d__law_cell_at d__law_marks⟩
 have d__law_built:Df l.prog w K mg base "_law_built" 4 ["_law_script","_law_letters_here","_law_kind"] (f_v K):=⟨f8,_,PySem.W.mg_of X G a8,a_z l8,F8.binds (ps:=["_law_script","_law_letters_here","_law_kind"]) (fun _ _ _ _ _ _ us hl=>by obtain ⟨_,_,_,rfl⟩:=len3 hl;rfl),f_N F8 T d__law_cell_at d__law_machine d__law_forward d__law_memory d__law_lots d__law_tallied⟩
 have d__law_after:Df l.prog w K mg base "_law_after" 1 ["_law_machine_here","_law_room","_law_word_here"] sp_after:=⟨f9,_,PySem.W.mg_of X G a9,a_z l9,F9.binds (ps:=["_law_machine_here","_law_room","_law_word_here"]) (fun _ _ _ _ _ _ us hl=>by obtain ⟨_,_,_,rfl⟩:=len3 hl;rfl),f_O F9 T ⟩
 have d__law_is_word:Df l.prog w K mg base "_law_is_word" 1 ["_law_found","_law_letters_here"] sp_isword:=⟨f10,_,PySem.W.mg_of X G a10,a_z l10,F10.binds (ps:=["_law_found","_law_letters_here"]) (fun _ _ _ _ _ _ us hl=>by obtain ⟨_,_,rfl⟩:=len2 hl;rfl),e_o F10 T ⟩
 have d__law_takes:Df l.prog w K mg base "_law_takes" 2 ["_law_machine_here","_law_word_here"] sp_ltakes:=⟨f11,_,PySem.W.mg_of X G a11,a_z l11,F11.binds (ps:=["_law_machine_here","_law_word_here"]) (fun _ _ _ _ _ _ us hl=>by obtain ⟨_,_,rfl⟩:=len2 hl;rfl),f_K F11 T d__law_after⟩
 have d__law_earlier:Df l.prog w K mg base "_law_earlier" 1 ["_law_letters_here","_law_one","_law_two"] sp__law_earlier:=⟨f12,_,PySem.W.mg_of X G a12,a_z l12,F12.binds (ps:=["_law_letters_here","_law_one","_law_two"]) (fun _ _ _ _ _ _ us hl=>by obtain ⟨_,_,_,rfl⟩:=len3 hl;rfl),e_q F12 T ⟩
 have d__law_letters_in:Df l.prog w K mg base "_law_letters_in" 1 ["_law_letters_here","_law_word_here"] sp_lotin:=⟨f13,_,PySem.W.mg_of X G a13,a_z l13,F13.binds (ps:=["_law_letters_here","_law_word_here"]) (fun _ _ _ _ _ _ us hl=>by obtain ⟨_,_,rfl⟩:=len2 hl;rfl),d_k F13 T ⟩
 have d_lot_in:Df l.prog w K mg base "lot_in" 1 ["letters","word"] sp_lotin:=⟨f14,_,PySem.W.mg_of X G a14,a_z l14,F14.binds (ps:=["letters","word"]) (fun _ _ _ _ _ _ us hl=>by obtain ⟨_,_,rfl⟩:=len2 hl;rfl),ok_lot_in F14 T ⟩
 have d__law_all_lots:Df l.prog w K mg base "_law_all_lots" 1 ["_law_letters_here"] sp_alllots:=⟨f15,_,PySem.W.mg_of X G a15,a_z l15,F15.binds (ps:=["_law_letters_here"]) (fun _ _ _ _ _ _ us hl=>by obtain ⟨_,rfl⟩:=len1 hl;rfl),d_M F15 T ⟩
 have d__law_in_order:Df l.prog w K mg base "_law_in_order" 2 ["_law_found","_law_letters_here"] sp_inord53:=⟨f16,_,PySem.W.mg_of X G a16,a_z l16,F16.binds (ps:=["_law_found","_law_letters_here"]) (fun _ _ _ _ _ _ us hl=>by obtain ⟨_,_,rfl⟩:=len2 hl;rfl),d_L F16 T d__law_is_word d__law_earlier⟩
 have d__law_paper:Df l.prog w K mg base "_law_paper" 3 ["_law_machine_here","_law_paper_here"] sp_paper53:=⟨f17,_,PySem.W.mg_of X G a17,a_z l17,F17.binds (ps:=["_law_machine_here","_law_paper_here"]) (fun _ _ _ _ _ _ us hl=>by obtain ⟨_,_,rfl⟩:=len2 hl;rfl),f_L F17 T d__law_in_order d__law_all_lots d__law_takes⟩
 have d__law_bar:Df l.prog w K mg base "_law_bar" 3 ["_law_machine_here","_law_bar_here"] sp_bar53:=⟨f18,_,PySem.W.mg_of X G a18,a_z l18,F18.binds (ps:=["_law_machine_here","_law_bar_here"]) (fun _ _ _ _ _ _ us hl=>by obtain ⟨_,_,rfl⟩:=len2 hl;rfl),ok__law_bar F18 T d__law_is_word d__law_letters_in d__law_takes⟩
 have d_numbered:Df l.prog w K mg base "numbered" 1 ["values"] sp_numbered:=⟨f19,_,PySem.W.mg_of X G a19,a_z l19,F19.binds (ps:=["values"]) (fun _ _ _ _ _ _ us hl=>by obtain ⟨_,rfl⟩:=len1 hl;rfl),ok_numbered F19 T ⟩
 have d_many_lots:Df l.prog w K mg base "many_lots" 1 ["lots"] sp_manyM:=⟨f20,_,PySem.W.mg_of X G a20,a_z l20,F20.binds (ps:=["lots"]) (fun _ _ _ _ _ _ us hl=>by obtain ⟨_,rfl⟩:=len1 hl;rfl),ok_many_lots F20 T ⟩
 have d_rounds_of:Df l.prog w K mg base "rounds_of" 2 ["ways","marks","most"] sp_roundsQ:=⟨f21,_,PySem.W.mg_of X G a21,a_z l21,F21.binds (ps:=["ways","marks","most"]) (fun _ _ _ _ _ _ us hl=>by obtain ⟨_,_,_,rfl⟩:=len3 hl;rfl),ok_rounds_of F21 T d_numbered d_many_lots⟩
 have d_first_rooms:Df l.prog w K mg base "first_rooms" 2 ["lots"] sp_firstrooms:=⟨f22,_,PySem.W.mg_of X G a22,a_z l22,F22.binds (ps:=["lots"]) (fun _ _ _ _ _ _ us hl=>by obtain ⟨_,rfl⟩:=len1 hl;rfl),e_P F22 T d_many_lots⟩
 have d_folded:Df l.prog w K mg base "folded" 3 ["walk","lots"] (e_b cW):=⟨f23,_,PySem.W.mg_of X G a23,a_z l23,F23.binds (ps:=["walk","lots"]) (fun _ _ _ _ _ _ us hl=>by obtain ⟨_,_,rfl⟩:=len2 hl;rfl),ok_folded F23 T WK d_first_rooms⟩
 have d_least:Df l.prog w K mg base "least" 7 ["machine"] (f_s P0 sites):=⟨f24,_,PySem.W.mg_of X G a24,a_z l24,F24.binds (ps:=["machine"]) (fun _ _ _ _ _ _ us hl=>by obtain ⟨_,rfl⟩:=len1 hl;rfl),ok_least F24 T WK d_walked_machine d_rounds_of d_folded⟩
 have d_in_and_out:Df l.prog w K mg base "in_and_out" 1 ["walk","one","two"] (f_t cW):=⟨f25,_,PySem.W.mg_of X G a25,a_z l25,F25.binds (ps:=["walk","one","two"]) (fun _ _ _ _ _ _ us hl=>by obtain ⟨_,_,_,rfl⟩:=len3 hl;rfl),f_J F25 T WK na3 na2 ⟩
 have d_tell_within:Df l.prog w K mg base "tell_within" 8 ["machine"] (c_W P0 P1 sites sitesL):=⟨f26,_,PySem.W.mg_of X G a26,a_z l26,F26.binds (ps:=["machine"]) (fun _ _ _ _ _ _ us hl=>by obtain ⟨_,rfl⟩:=len1 hl;rfl),e_O F26 T WK na3 na2 d_walked_lots d_least d_in_and_out⟩
 have d_need_kind:Df l.prog w K mg base "need_kind" 1 ["ways","kind"] (f_r l.prog w):=⟨f27,_,PySem.W.mg_of X G a27,a_z l27,F27.binds (ps:=["ways","kind"]) (fun _ _ _ _ _ _ us hl=>by obtain ⟨_,_,rfl⟩:=len2 hl;rfl),ok_need_kind F27 T ⟩
 have d_tell:Df l.prog w K mg base "tell" 9 ["kind","machine"] (e_a P0 P1 sites sitesL):=⟨f28,_,PySem.W.mg_of X G a28,a_z l28,F28.binds (ps:=["kind","machine"]) (fun _ _ _ _ _ _ us hl=>by obtain ⟨_,_,rfl⟩:=len2 hl;rfl),ok_tell F28 T (PySem.W.mg_of X G y1) (PySem.W.mg_of X G y2) (PySem.W.mg_of X G y4) (PySem.W.mg_of X G y5) (PySem.W.mg_of X G y6) (PySem.W.mg_of X G y7) d_need_kind d_tell_within⟩
 exact ok_law F29 T hPP d__law_cell_at d__law_letters d__law_built d_tell d__law_bar d__law_paper d__law_after d__law_letters_in
end K53
end
namespace PySem.W.Fast
def tw5617868552268706848:=()
def tw4596892593869288608:=()
def tw12632459301809415392:=()
def tw6053948179461944672:=()
def tw15734578737835664736:=()
def tw2465654477360418240:=()
def tw2044494308548030976:=()
def tw14498177512588120768:=()
def tw5838233325811201728:=()
def tw8239006013780474656:=()
def tw2770918193554413376:=()
def tw9926440014451635040:=()
def tw1639481464034830240:=()
def tw14726961021873687553:=()
def tw12975547765816713281:=()
def tw2174390267437385921:=()
def tw7568758227872422209:=()
def tw11231411489545122113:=()
def tw14996639297663997281:=()
def tw1508498128493424001:=()
def tw15261118674523609473:=()
def tw10712612685475235265:=()
def tw14275067580057179585:=()
def tw1172151376809456065:=()
def tw3181951411376710145:=()
def tw17172462469286005281:=()
def tw4683434212288436801:=()
def tw13929460239872503361:=()
def tw10239241610053311073:=()
def tw18061834163187109505:=()
def tw7819010649779174081:=()
def tw2115740086863578849:=()
def tw793106671993508833:=()
def tw16395171357425852546:=()
def tw15160523382071386274:=()
def tw9385687615719651618:=()
def tw411057061482296706:=()
def tw17427840319481776546:=()
def tw13658206543102427586:=()
def tw4332862077213251106:=()
def tw11719397145396589346:=()
def tw2260231142911169314:=()
def tw139695609114102626:=()
def tw3167684071581098882:=()
def tw2648283369229136834:=()
def tw17353423852578264067:=()
def tw9526687028815194115:=()
def tw516679038475875363:=()
def tw13614070101481599043:=()
def tw17745881890130779203:=()
def tw1436143645369995363:=()
def tw10003312132872609923:=()
def tw18216670336831203491:=()
def tw9069823515056775363:=()
def tw18438452027053097187:=()
def tw10232936069522595107:=()
def tw16676256994158066115:=()
def tw15569561744789829155:=()
def tw17869687293200578179:=()
def tw1444488555557356195:=()
def tw11333006475225934531:=()
def tw3348923937855081187:=()
def tw7177989014305532707:=()
def tw4922528186067766147:=()
def tw3860513352649272291:=()
def tw15160471980001466500:=()
def tw10665629598830631108:=()
def tw2768161290215445700:=()
def tw7395990350559353092:=()
def tw3157702708957724036:=()
def tw6064255636197351876:=()
def tw12090219971667811780:=()
def tw5983505607497709028:=()
def tw16723920938197506564:=()
def tw14816789550022430244:=()
def tw13274657889466732100:=()
def tw12505298101828877892:=()
def tw6814325367456649860:=()
def tw3880260621362820:=()
def tw15078576484426663588:=()
def tw7694366776380497604:=()
def tw11588089643816608516:=()
def tw341268785301686084:=()
def tw6030248026219891524:=()
def tw14002346139681064836:=()
def tw1790527723280125828:=()
def tw2270774476560098180:=()
def tw8110193922480258149:=()
def tw17943453252265248997:=()
def tw18101472008038656261:=()
def tw13563073272053179717:=()
def tw821888315825978885:=()
def tw4044565477488363141:=()
def tw3847296368830697093:=()
def tw6934823608402637445:=()
def tw11505640177474711269:=()
def tw13836607041952077541:=()
def tw1685746686564632389:=()
def tw1273941735300696997:=()
def tw12969322431654631333:=()
def tw17646618550673664933:=()
def tw5672672308234008517:=()
def tw1661265696587346950:=()
def tw2674508110721909798:=()
def tw14218054924928097446:=()
def tw15501940943268410566:=()
def tw8469369873829219622:=()
def tw15244116774519005638:=()
def tw4118163510414779942:=()
def tw9440370962257460774:=()
def tw16831522198658764358:=()
def tw8996030020006944358:=()
def tw17633510483255447142:=()
def tw15157041699137516134:=()
def tw11581404079224313478:=()
def tw13080048847170831110:=()
def tw14014293831200630534:=()
def tw8779463700152364870:=()
def tw17127545084896462662:=()
def tw4535358177703400326:=()
def tw10459466062556202886:=()
def tw11708618455990667206:=()
def tw15842359849037452327:=()
def tw12952300929798824999:=()
def tw16856570826354274439:=()
def tw9804195818942718151:=()
def tw1300872560423169223:=()
def tw10063338583505336615:=()
def tw16693505432549323079:=()
def tw14793643446335972935:=()
def tw11514377655101681223:=()
def tw7311257024747641447:=()
def tw1996696274087779975:=()
def tw158419182184277639:=()
def tw17117607426168992391:=()
def tw2744808834530166471:=()
def tw5429000808807539431:=()
def tw18096834985003721447:=()
def tw7351846017182010183:=()
def tw8275707889737732935:=()
def tw5575611483494658887:=()
def tw466534370696630151:=()
def tw577252582300601287:=()
def tw13700339628577748967:=()
def tw13947354518090361864:=()
def tw16996633211797169160:=()
def tw3967620813761026152:=()
def tw8532883675482148968:=()
def tw18232527311085031592:=()
def tw14233471172388757736:=()
def tw8169853408515000616:=()
def tw17347874810916640040:=()
def tw9336636946219763016:=()
def tw14798847891770385800:=()
def tw4994545265243553192:=()
def tw5863637306736554472:=()
def tw13085243749060274824:=()
def tw1088386481938201288:=()
def tw5496659340581998280:=()
def tw12139503688620710792:=()
def tw16145335161278127080:=()
def tw2594189420059961385:=()
def tw18024365447293188137:=()
def tw3983026061798787113:=()
def tw16152540933020187689:=()
def tw12026007440031659081:=()
def tw6128768713482522697:=()
def tw12343064203313358985:=()
def tw6830673313357291657:=()
def tw14952369036214965545:=()
def tw9498542913182635433:=()
def tw1922394439053732265:=()
def tw16356125209968446985:=()
def tw758981030746036777:=()
def tw5238816829727512137:=()
def tw12340374748406142537:=()
def tw9569724677767393865:=()
def tw17053295709077326441:=()
def tw2132316205151776361:=()
def tw1780446718754890377:=()
def tw7502412424242114217:=()
def tw7783026869026244297:=()
def tw2189229406351123177:=()
def tw5731586553472597801:=()
def tw10099897715868288873:=()
def tw10894498867629276041:=()
def tw4177999700718016393:=()
def tw11094975257051102121:=()
def tw5660263822454264777:=()
def tw7829612666491230185:=()
def tw12935171595708814346:=()
def tw10729185377970848906:=()
def tw15772354403133997194:=()
def tw2576615758861648042:=()
def tw1533046549425538250:=()
def tw3185782095407417578:=()
def tw4681947836364874986:=()
def tw3998853743954559306:=()
def tw10648879174954703210:=()
def tw13547897361086682570:=()
def tw8033940084200601098:=()
def tw17283441706080367114:=()
def tw17614038922448353866:=()
def tw6791645884704009834:=()
def tw8083300664622322314:=()
def tw8014448713347037898:=()
def tw6920048896215362282:=()
def tw1461123746721808106:=()
def tw6372841749223386890:=()
def tw14875186514238577450:=()
def tw17239690940210521898:=()
def tw16717269954772814634:=()
def tw10699090543941378954:=()
def tw18120107194255532938:=()
def tw11928116387268692938:=()
def tw16968179923723794443:=()
def tw382711827650301963:=()
def tw904914644396996619:=()
def tw5360195513404917899:=()
def tw6482128410139341995:=()
def tw4005328597712217291:=()
def tw13725042155456562475:=()
def tw13792176409076621643:=()
def tw7076752152187609451:=()
def tw2515443856118104523:=()
def tw13646137566276810187:=()
def tw9901848208208119275:=()
def tw493318760988975691:=()
def tw9607157606941729355:=()
def tw6072293734455721547:=()
def tw1195067981693497963:=()
def tw2926126899387618955:=()
def tw11987831874265884427:=()
def tw13235914160022662955:=()
def tw17337645237614526251:=()
def tw13398768311338798923:=()
def tw2026766478704455595:=()
def tw8641394602518547435:=()
def tw8847860291400473579:=()
def tw17971246649019498475:=()
def tw2069914938255442988:=()
def tw10281999486928289964:=()
def tw1486762726488876236:=()
def tw16700952590914253036:=()
def tw2962796091467514188:=()
def tw13818883260618396044:=()
def tw14987512675223322028:=()
def tw12989221559566460364:=()
def tw12280158799338671788:=()
def tw9652337774551660204:=()
def tw14386431525283814124:=()
def tw13337402165023677228:=()
def tw10204398746629150540:=()
def tw2298089305810103180:=()
def tw12343708031608280972:=()
def tw11166329254057525164:=()
def tw1175028925879886828:=()
def tw18287733757288200237:=()
def tw11590159584093977741:=()
def tw7416552739191008429:=()
def tw17421397652646151405:=()
def tw17632387570410825997:=()
def tw15929094851315088685:=()
def tw18148971981515905357:=()
def tw15950668919445486957:=()
def tw955188210301999533:=()
def tw17249890702673954413:=()
def tw14688879517439505197:=()
def tw4617731586244881229:=()
def tw17140213275856620429:=()
def tw18056730945723602893:=()
def tw10728032585233667053:=()
def tw15801406660824393742:=()
def tw5136991824536282158:=()
def tw10447740150768619598:=()
def tw2868979724187304046:=()
def tw4012727288188125294:=()
def tw3177420375694358670:=()
def tw12850896177998219470:=()
def tw14748617086664558862:=()
def tw2541655805050247566:=()
def tw6066615933031010862:=()
def tw3500849198099584590:=()
def tw2830444918593057390:=()
def tw7810198177571128974:=()
def tw3073380438861776622:=()
def tw15640016104154243854:=()
def tw12776908858176064270:=()
def tw9454930698052666254:=()
def tw12389063087123764174:=()
def tw4735108019578256399:=()
def tw16175177739557011503:=()
def tw11625892957925258383:=()
def tw8103675556845147279:=()
def tw13830445893322718383:=()
def tw10379910165052203247:=()
def tw3552363715115522351:=()
def tw15010744948929707311:=()
def tw16701006495572387119:=()
def tw2176950939617398095:=()
def tw2904498669554317679:=()
def tw4108618173986746927:=()
def tw5249978708181634607:=()
def tw1286430174605797999:=()
def tw4124501254270425743:=()
def tw5692614705889709743:=()
def tw14576018219942695663:=()
def tw16057688806825976591:=()
def tw3600445573640065839:=()
def tw6600576111543745327:=()
def tw17900884739156694863:=()
def tw2504115546258206575:=()
def tw211190613263142799:=()
def tw3121539836750364591:=()
def tw8691339491770996784:=()
def tw9260950837389351024:=()
def tw3779757448683740304:=()
def tw1963779452364082352:=()
def tw9618858784599237840:=()
def tw2902473705906462000:=()
def tw13878606504156870064:=()
def tw17871344791401099888:=()
def tw4604603539594304176:=()
def tw15751763414186931056:=()
def tw3137006869656591248:=()
def tw13588606360418005968:=()
def tw15607952293681113072:=()
def tw17661258564053608497:=()
def tw9707315384040369233:=()
def tw2353728154661376113:=()
def tw2271373797120081009:=()
def tw4917677507334514833:=()
def tw7129402155890516145:=()
def tw11592460669563644081:=()
def tw1301334902469772465:=()
def tw16524514193416132849:=()
def tw17348593942550275313:=()
def tw17348475126143166769:=()
def tw15695257223064098129:=()
def tw9779861005633757521:=()
def tw10274490032880548273:=()
def tw1718669490427350481:=()
def tw9793200304965122641:=()
def tw6689245206439126673:=()
def tw17223975645317730001:=()
def tw1808924146001964785:=()
def tw8210399820322669329:=()
def tw13683002546565452593:=()
def tw15626784673569490737:=()
def tw16150626899320136497:=()
def tw13999554604938717105:=()
def tw12072178772678171698:=()
def tw18034789672668501106:=()
def tw7337743995623288978:=()
def tw4404592737945148594:=()
def tw9117653829776889074:=()
def tw10247174578573155602:=()
def tw17708736563442912562:=()
def tw9989279212786986290:=()
def tw18362125059814341938:=()
def tw2303751457113358674:=()
def tw2729831294075879890:=()
def tw9284618484686474706:=()
def tw6648619379323088370:=()
def tw18376659564985627346:=()
def tw11393829433533284050:=()
def tw2743115984049625810:=()
def tw9681444523409111762:=()
def tw15538478042927799122:=()
def tw3504432365947096978:=()
def tw15231846955923028914:=()
def tw5325194217752894418:=()
def tw10823432744586154003:=()
def tw14432241228618981395:=()
def tw5449596750494772307:=()
def tw4593823838536066195:=()
def tw3686381085174613203:=()
def tw460182778165860659:=()
def tw4318446261215683955:=()
def tw14962064061879158227:=()
def tw11434057847542393459:=()
def tw16175924369222087315:=()
def tw16515066312676085459:=()
def tw7192141493692094163:=()
def tw11364867074839609043:=()
def tw480849099457827635:=()
def tw3399635660912322387:=()
def tw11686574007716640595:=()
def tw8995578172160587699:=()
def tw11656318878837621715:=()
def tw5136681825008195571:=()
def tw4427477502810999828:=()
def tw13070399535891901460:=()
def tw16908544451430365204:=()
def tw14255001944601355476:=()
def tw15910810406742833460:=()
def tw14153401358781446516:=()
def tw16294598379772471700:=()
def tw10398548423138969012:=()
def tw16272712870186099124:=()
def tw4652187529526086292:=()
def tw3736824300397665940:=()
def tw10014437929313459860:=()
def tw12612340684523428564:=()
def tw7063454776952488692:=()
def tw11402066727689329396:=()
def tw3796966537757672244:=()
def tw17880043845534479284:=()
def tw8340939613405867988:=()
def tw14867775041834568692:=()
def tw15024235625245137908:=()
def tw13825677266147811445:=()
def tw17463954814500563093:=()
def tw2452813079382951093:=()
def tw1993009704610752693:=()
def tw13530130698570062037:=()
def tw6989474970164098293:=()
def tw5510336935305718037:=()
def tw8963198432416863541:=()
def tw1885558870501656917:=()
def tw664644479608207733:=()
def tw1354735126045089141:=()
def tw8574827532397194645:=()
def tw15225039006152536469:=()
def tw4350010795789242773:=()
def tw9295903520031597045:=()
def tw9978259151744760437:=()
def tw15122609060119536277:=()
def tw14131498743761467157:=()
def tw1745293368116191029:=()
def tw7769489249842899861:=()
def tw8103925530036342806:=()
def tw15754467923219729494:=()
def tw451431488310730838:=()
def tw14145659045476501622:=()
def tw11808165586071393398:=()
def tw6749493234029091990:=()
def tw16950186360551650550:=()
def tw6879477490129720566:=()
def tw17202825569450372374:=()
def tw15847309838868039958:=()
def tw509708161186459062:=()
def tw3928141555209215446:=()
def tw8849809366618425942:=()
def tw14928675162745855606:=()
def tw3778097936849650326:=()
def tw12010001955050716822:=()
def tw16232044691572412150:=()
def tw17137757312781456150:=()
def tw3198422490441294678:=()
def tw9076922032816436118:=()
def tw9850427569626107798:=()
def tw10853773445313170358:=()
def tw6713240946673224630:=()
def tw12758060259381282774:=()
def tw17630376829903672375:=()
def tw2473289505025257623:=()
def tw11320111062093515959:=()
def tw12861200175711754487:=()
def tw11046088998256213239:=()
def tw12465687097813778711:=()
def tw10855495389993097495:=()
def tw15582033994980661559:=()
def tw4463260905948100919:=()
def tw2921005032843750807:=()
def tw11299209238199178679:=()
def tw14963207364591854007:=()
def tw11728125621689567671:=()
def tw16323974846621128151:=()
def tw83767589179912759:=()
def tw2382061731372449431:=()
def tw431153448243720855:=()
def tw18274657248435008183:=()
def tw1391924598600560343:=()
def tw11093339455991406391:=()
def tw10861878468016018263:=()
def tw16428967798927060855:=()
def tw11506840213813783447:=()
def tw6601182404624976887:=()
def tw10995755071362716728:=()
def tw2263278694322682008:=()
def tw13065922162681036024:=()
def tw8200050773409240376:=()
def tw5992830196603890008:=()
def tw4143268150358475128:=()
def tw10648770373105887736:=()
def tw12034468127986019832:=()
def tw18426976722338086456:=()
def tw8782235225643369048:=()
def tw11448325483973106296:=()
def tw8545016911929821848:=()
def tw15847803278054356632:=()
def tw5665031869231863480:=()
def tw10434136120541107928:=()
def tw1152149720992957176:=()
def tw16028777757760492376:=()
def tw5359136287236469624:=()
def tw10471184154973456248:=()
def tw4874725541121560504:=()
def tw16708876910862657464:=()
def tw153825096187081720:=()
def tw9327064395936243769:=()
def tw12948089636601341017:=()
def tw984268622827932857:=()
def tw4907979490077389017:=()
def tw471399824223503609:=()
def tw3990309661126402297:=()
def tw1634996235102787897:=()
def tw5096508827161157017:=()
def tw6863079973341782425:=()
def tw11559061047336565145:=()
def tw5699267161367592441:=()
def tw10314664659793233401:=()
def tw2744219909326677529:=()
def tw14295930754254931577:=()
def tw4576715496256114361:=()
def tw10819475181447353049:=()
def tw563218052732110585:=()
def tw16323802692547671833:=()
def tw12675377425626109753:=()
def tw5741548744888293177:=()
def tw9188092427313876825:=()
def tw6894334427288879961:=()
def tw10868463467342913401:=()
def tw1738806589005761401:=()
def tw473351074457070585:=()
def tw2744980586900967417:=()
def tw12549194537403623866:=()
def tw10900453709233163738:=()
def tw8770434934548966970:=()
def tw843237731303750202:=()
def tw7920115510612564602:=()
def tw15644683476810078874:=()
def tw3240846178114828954:=()
def tw16897687936439158490:=()
def tw15477364766116128506:=()
def tw2419108684951721786:=()
def tw367602729699377978:=()
def tw9306820643066616666:=()
def tw13774320683160897434:=()
def tw16992063417684172762:=()
def tw14994397422780597210:=()
def tw9334518275371062395:=()
def tw401044238152050843:=()
def tw14171003078199907579:=()
def tw15821389695137336571:=()
def tw15521389942198558971:=()
def tw3656201809984614651:=()
def tw14512366938710823291:=()
def tw914464764062052795:=()
def tw16870176307253434843:=()
def tw14072765199388313083:=()
def tw10302109898261932539:=()
def tw1383061732094734875:=()
def tw17323347268472816187:=()
def tw17078190143137482331:=()
def tw3166164674311719579:=()
def tw6857082858261574299:=()
def tw9224541625312549659:=()
def tw15046686129332377371:=()
def tw11233290831659720571:=()
def tw3250707493378709403:=()
def tw7297464666063762331:=()
def tw4239815624874232795:=()
def tw14826145011395021819:=()
def tw7700795405585306652:=()
def tw1458566587861988380:=()
def tw16115415200309981244:=()
def tw1577940602563713180:=()
def tw4582127024522480860:=()
def tw6503333082749221180:=()
def tw7946851818098009468:=()
def tw18338982709324758460:=()
def tw1660154203725352380:=()
def tw3962852706020255164:=()
def tw10466512486234495452:=()
def tw3773963925500710396:=()
def tw13751082804274081308:=()
def tw14187230457171682876:=()
def tw2758410211244170876:=()
def tw17780510750837863036:=()
def tw11192902112362944124:=()
def tw7789805221360503484:=()
def tw11338548352059622076:=()
def tw9410503244970467036:=()
def tw12997870337036266300:=()
def tw17313917519232920412:=()
def tw2258389244087242620:=()
def tw16051632454760670301:=()
def tw3428678708743751805:=()
def tw335699009803919517:=()
def tw6689818140943175869:=()
def tw12660007832216540349:=()
def tw7508098288751586525:=()
def tw3568256692747427069:=()
def tw5612310567466318077:=()
def tw8461528140227141917:=()
def tw18054374513270369597:=()
def tw1631440424105610717:=()
def tw14757500051038658013:=()
def tw8627183925405786621:=()
def tw17881188729904039453:=()
def tw15482047519046507037:=()
def tw29465903669911069:=()
def tw4041992087826526813:=()
def tw11096293835074632285:=()
def tw15984186889028973213:=()
def tw4408566464702322429:=()
def tw11257567037259348733:=()
def tw13852638423909151581:=()
def tw10446687395011251101:=()
def tw12868820600733690781:=()
def tw4586187275089285085:=()
def tw8387477130834839614:=()
def tw12979708588350204030:=()
def tw11916629644518381854:=()
def tw17402496993132082462:=()
def tw14797683226722461086:=()
def tw17077296786522992030:=()
def tw18239781105779939870:=()
def tw12163941199608690206:=()
def tw7492147304991309438:=()
def tw11689822952097054334:=()
def tw17938361539795642014:=()
def tw1627167429485433534:=()
def tw4560292242330752702:=()
def tw2543984763900218046:=()
def tw6936985962357094078:=()
def tw2993784027605464830:=()
def tw1243711225640935198:=()
def tw251558165618879326:=()
def tw10415230344112704414:=()
def tw13432455281613432766:=()
def tw11647010341836616735:=()
def tw1621132331716350015:=()
def tw9613118544606945407:=()
def tw11482157530984944799:=()
def tw1514450807896138911:=()
def tw13686885874553091263:=()
def tw13719941685666391295:=()
def tw8979959149144974591:=()
def tw17737602500337428863:=()
def tw7814849238987410943:=()
def tw5646652032476661247:=()
def tw12174345786413792863:=()
def tw9077969264545250911:=()
def tw16172657254513735615:=()
def tw10721168299476057023:=()
def tw13482563153076924383:=()
def tw1715391087452525186:=()
def tw16529791865936041667:=()
def tw18256821859680299463:=()
def tw6821471816402185740:=()
def tw4725862150614752206:=()
def tw7498480305882199311:=()
def tw2095516282436253296:=()
def tw13060429520550525776:=()
def tw11160063767434616433:=()
def tw8280183803822940659:=()
def tw14449180898403483800:=()
def tw4366016511046237337:=()
def tw604214062863108829:=()
def tw3339072117510161302:=()
end PySem.W.Fast
open PySem PySem.W PyProof.Rows
set_option maxRecDepth 100000 in
set_option maxHeartbeats 0 in
theorem PySem.Challenge.cw_roomalgebra_k53_by_letters_within_holds : PySem.Challenge.rw_roomalgebra_k53_by_letters_within.Holds := by
 w_on;o_law;z_head;(case hw=>w_witness2)
 k_fill
 intro w sa sb mg mb G ye fa ob pm cd dc dv kv e1 e2 e3 e4 e5 e6 gs vs bs La c1 c2 c3 c4 c5
 z_open ye La KX ZH ZN ZT
 clear ye La ZH ZN ZT
 refine L2.walk63t (k:=10) (x:="_law_script") (l:=PySem.Challenge.rw_roomalgebra_k53_by_letters_within) (tabs:=[(217,213),(356,352)]) rfl rfl ⟨rfl,by decide,by decide⟩ ?T ?F w sa sb mg mb G KX fa ob pm cd dc dv kv e1 e2 e3 e4 e5 e6 gs vs bs c1 c2 c3 c4 c5
 case T=>
  intro p q hq
  simp only [List.mem_cons,List.not_mem_nil,or_false] at hq
  rcases hq with rfl | rfl
  ·exact ⟨by kernel_rfl,by kernel_rfl⟩
  ·exact ⟨by kernel_rfl,by kernel_rfl⟩
 case F=>
  intro w mg fa h KX G hmg
  refine' K53.all_mk rfl ?hPP KX G hmg ?nW ?hI0 ?cls ?mk ?na1 ?na2 ?na3 ?na4 ?na5 ?lI ?cI ?aV ?lV ?cV ?lD ?aM ?lM ?cM ?aT ?lT ?cT_ ?y1 ?y2 ?y4 ?y5 ?y6 ?y7 ?a0 ?l0 ?c0 ?a1 ?l1 ?c1 ?a2 ?l2 ?c2 ?a3 ?l3 ?c3 ?a4 ?l4 ?c4 ?a5 ?l5 ?c5 ?a6 ?l6 ?c6 ?a7 ?l7 ?c7 ?a8 ?l8 ?c8 ?a9 ?l9 ?c9 ?a10 ?l10 ?c10 ?a11 ?l11 ?c11 ?a12 ?l12 ?c12 ?a13 ?l13 ?c13 ?a14 ?l14 ?c14 ?a15 ?l15 ?c15 ?a16 ?l16 ?c16 ?a17 ?l17 ?c17 ?a18 ?l18 ?c18 ?a19 ?l19 ?c19 ?a20 ?l20 ?c20 ?a21 ?l21 ?c21 ?a22 ?l22 ?c22 ?a23 ?l23 ?c23 ?a24 ?l24 ?c24 ?a25 ?l25 ?c25 ?a26 ?l26 ?c26 ?a27 ?l27 ?c27 ?a28 ?l28 ?c28 ?a29 ?l29 ?c29 ?z_len ?z_range ?z_isinst ?z_int ?z_bool ?z_tuple ?z_list ?z_str ?z_zip ?z_max ?z_enumerate ?z_all
  (case hPP=>decide)
  (case nW=>exact L2.nsD (by k_is) (by decide))
  (case hI0=>k_is)
  (case cls=>exact ⟨by kernel_rfl,by kernel_rfl,by kernel_rfl,by kernel_rfl⟩)
  (case mk=>exact ⟨by kernel_rfl,by kernel_rfl,by kernel_rfl,by kernel_rfl⟩)
  (case na1=>unfold L2.b_n;kernel_rfl)
  (case na2=>unfold L2.b_n;kernel_rfl)
  (case na3=>unfold L2.b_n;kernel_rfl)
  (case na4=>unfold L2.b_n;kernel_rfl)
  (case na5=>unfold L2.b_n;kernel_rfl)
  (case lI=>exact L2.lkD (by k_is) (by decide))
  (case cI=>exact L2.cdD (by k_is) (by decide))
  (case aV=>exact L2.nsD (by k_is) (by decide))
  (case lV=>exact L2.lkD (by k_is) (by decide))
  (case cV=>exact L2.cdD (by k_is) (by decide))
  (case lD=>exact L2.lkD (by k_is) (by decide))
  (case aM=>exact L2.nsD (by k_is) (by decide))
  (case lM=>exact L2.lkD (by k_is) (by decide))
  (case cM=>exact L2.cdD (by k_is) (by decide))
  (case aT=>exact L2.nsD (by k_is) (by decide))
  (case lT=>exact L2.lkD (by k_is) (by decide))
  (case cT_=>exact L2.cdD (by k_is) (by decide))
  (case y1=>exact L2.nsD (by k_is) (by decide))
  (case y2=>exact L2.nsD (by k_is) (by decide))
  (case y4=>exact L2.nsD (by k_is) (by decide))
  (case y5=>exact L2.nsD (by k_is) (by decide))
  (case y6=>exact L2.nsD (by k_is) (by decide))
  (case y7=>exact L2.nsD (by k_is) (by decide))
  (case a0=>exact L2.nsD (by k_is) (by decide))
  (case l0=>exact L2.lkD (by k_is) (by decide))
  (case c0=>exact L2.cdD (by k_is) (by decide))
  (case a1=>exact L2.nsD (by k_is) (by decide))
  (case l1=>exact L2.lkD (by k_is) (by decide))
  (case c1=>exact L2.cdD (by k_is) (by decide))
  (case a2=>exact L2.nsD (by k_is) (by decide))
  (case l2=>exact L2.lkD (by k_is) (by decide))
  (case c2=>exact L2.cdD (by k_is) (by decide))
  (case a3=>exact L2.nsD (by k_is) (by decide))
  (case l3=>exact L2.lkD (by k_is) (by decide))
  (case c3=>exact L2.cdD (by k_is) (by decide))
  (case a4=>exact L2.nsD (by k_is) (by decide))
  (case l4=>exact L2.lkD (by k_is) (by decide))
  (case c4=>exact L2.cdD (by k_is) (by decide))
  (case a5=>exact L2.nsD (by k_is) (by decide))
  (case l5=>exact L2.lkD (by k_is) (by decide))
  (case c5=>exact L2.cdD (by k_is) (by decide))
  (case a6=>exact L2.nsD (by k_is) (by decide))
  (case l6=>exact L2.lkD (by k_is) (by decide))
  (case c6=>exact L2.cdD (by k_is) (by decide))
  (case a7=>exact L2.nsD (by k_is) (by decide))
  (case l7=>exact L2.lkD (by k_is) (by decide))
  (case c7=>exact L2.cdD (by k_is) (by decide))
  (case a8=>exact L2.nsD (by k_is) (by decide))
  (case l8=>exact L2.lkD (by k_is) (by decide))
  (case c8=>exact L2.cdD (by k_is) (by decide))
  (case a9=>exact L2.nsD (by k_is) (by decide))
  (case l9=>exact L2.lkD (by k_is) (by decide))
  (case c9=>exact L2.cdD (by k_is) (by decide))
  (case a10=>exact L2.nsD (by k_is) (by decide))
  (case l10=>exact L2.lkD (by k_is) (by decide))
  (case c10=>exact L2.cdD (by k_is) (by decide))
  (case a11=>exact L2.nsD (by k_is) (by decide))
  (case l11=>exact L2.lkD (by k_is) (by decide))
  (case c11=>exact L2.cdD (by k_is) (by decide))
  (case a12=>exact L2.nsD (by k_is) (by decide))
  (case l12=>exact L2.lkD (by k_is) (by decide))
  (case c12=>exact L2.cdD (by k_is) (by decide))
  (case a13=>exact L2.nsD (by k_is) (by decide))
  (case l13=>exact L2.lkD (by k_is) (by decide))
  (case c13=>exact L2.cdD (by k_is) (by decide))
  (case a14=>exact L2.nsD (by k_is) (by decide))
  (case l14=>exact L2.lkD (by k_is) (by decide))
  (case c14=>exact L2.cdD (by k_is) (by decide))
  (case a15=>exact L2.nsD (by k_is) (by decide))
  (case l15=>exact L2.lkD (by k_is) (by decide))
  (case c15=>exact L2.cdD (by k_is) (by decide))
  (case a16=>exact L2.nsD (by k_is) (by decide))
  (case l16=>exact L2.lkD (by k_is) (by decide))
  (case c16=>exact L2.cdD (by k_is) (by decide))
  (case a17=>exact L2.nsD (by k_is) (by decide))
  (case l17=>exact L2.lkD (by k_is) (by decide))
  (case c17=>exact L2.cdD (by k_is) (by decide))
  (case a18=>exact L2.nsD (by k_is) (by decide))
  (case l18=>exact L2.lkD (by k_is) (by decide))
  (case c18=>exact L2.cdD (by k_is) (by decide))
  (case a19=>exact L2.nsD (by k_is) (by decide))
  (case l19=>exact L2.lkD (by k_is) (by decide))
  (case c19=>exact L2.cdD (by k_is) (by decide))
  (case a20=>exact L2.nsD (by k_is) (by decide))
  (case l20=>exact L2.lkD (by k_is) (by decide))
  (case c20=>exact L2.cdD (by k_is) (by decide))
  (case a21=>exact L2.nsD (by k_is) (by decide))
  (case l21=>exact L2.lkD (by k_is) (by decide))
  (case c21=>exact L2.cdD (by k_is) (by decide))
  (case a22=>exact L2.nsD (by k_is) (by decide))
  (case l22=>exact L2.lkD (by k_is) (by decide))
  (case c22=>exact L2.cdD (by k_is) (by decide))
  (case a23=>exact L2.nsD (by k_is) (by decide))
  (case l23=>exact L2.lkD (by k_is) (by decide))
  (case c23=>exact L2.cdD (by k_is) (by decide))
  (case a24=>exact L2.nsD (by k_is) (by decide))
  (case l24=>exact L2.lkD (by k_is) (by decide))
  (case c24=>exact L2.cdD (by k_is) (by decide))
  (case a25=>exact L2.nsD (by k_is) (by decide))
  (case l25=>exact L2.lkD (by k_is) (by decide))
  (case c25=>exact L2.cdD (by k_is) (by decide))
  (case a26=>exact L2.nsD (by k_is) (by decide))
  (case l26=>exact L2.lkD (by k_is) (by decide))
  (case c26=>exact L2.cdD (by k_is) (by decide))
  (case a27=>exact L2.nsD (by k_is) (by decide))
  (case l27=>exact L2.lkD (by k_is) (by decide))
  (case c27=>exact L2.cdD (by k_is) (by decide))
  (case a28=>exact L2.nsD (by k_is) (by decide))
  (case l28=>exact L2.lkD (by k_is) (by decide))
  (case c28=>exact L2.cdD (by k_is) (by decide))
  (case a29=>exact L2.nsD (by k_is) (by decide))
  (case l29=>exact L2.lkD (by k_is) (by decide))
  (case c29=>exact L2.cdD (by k_is) (by decide))
  (case z_len=>exact L2.nsD (by k_is) (by decide))
  (case z_range=>exact L2.nsD (by k_is) (by decide))
  (case z_isinst=>exact L2.nsD (by k_is) (by decide))
  (case z_int=>exact L2.nsD (by k_is) (by decide))
  (case z_bool=>exact L2.nsD (by k_is) (by decide))
  (case z_tuple=>exact L2.nsD (by k_is) (by decide))
  (case z_list=>exact L2.nsD (by k_is) (by decide))
  (case z_str=>exact L2.nsD (by k_is) (by decide))
  (case z_zip=>exact L2.nsD (by k_is) (by decide))
  (case z_max=>exact L2.nsD (by k_is) (by decide))
  (case z_enumerate=>exact L2.nsD (by k_is) (by decide))
  (case z_all=>exact L2.nsD (by k_is) (by decide))
#print axioms PySem.Challenge.cw_roomalgebra_k53_by_letters_within_holds
